import PyProof.Rows.All
import Wide.All
import OpenK.AllK
import Wide.FinOn
import Lean
import PyProof.EqAt
import PyProof.EqKinds
import PyProof.TupleCall
import PyProof.DictWalks
import KE.KDictSum
import KE.KSortTup
import PyProof.EnumMake
import PyProof.EnumFor
import PyProof.TupleIter
import PyProof.Rows.Range3
import PyProof.ZipIter
import PyProof.Rows.IntMath
import KE.LcSums
import PyProof.Rows.MinMaxN
import PyProof.TupleOps
import PyProof.WalksMore
import PySem.Challenge.RW_classtab_k30_shares
abbrev X0:=List (List (List Nat))
abbrev T8:=List (List (List Int))
abbrev T7:=List (List Nat)
abbrev TZ:=List (List Int)
abbrev TY:=List Nat
abbrev TX:=List Int
abbrev TW:=PySem.Value->PySem.Shared->Prop
abbrev TV:=PySem.Str->Option PySem.Value
abbrev TU:=List PySem.Addr
open PySem.W renaming Frag->aa,mg_none_of->av,nsIn->bo,fnOf->cK,keepIn->dY,codeIn->fw,kas_rev->fH,OpenLaw->gM,cellsFrom_some->gX,methodObj->i3,kas_sort->jC,KasT->kf,WalkO->mE,kas_tail3->nk,mg_of->nU
open List renaming getElem?_eq_some_iff->ab,range->ac,mem_range->af,getElem?_eq_none->ag,mem_of_getElem?->ah,replicate->am,getElem?_range->ao,getElem?_append_left->aq,getElem?_append_right->aw,all_eq_true->ax,map_cons->aB,mem_map->aC,mem_cons_self->aD,mem_cons_of_mem->aF,mem_cons->aH,contains_iff_mem->aI,mem_singleton->aJ,map_map->aL,map_append->aO,mem_append_right->aU,replicate_succ->aV,length_set->aY,any_eq_true->aZ,ext_getElem?->a6,getElem_mem->be,getElem?_zip_eq_some->bh,map_congr_left->bn,mem_append->bv,length_take->bE,getElem?_of_mem->bG,length_zip->bO,flatten_cons->bP,nodup_cons->bY,drop_eq_getElem_cons->b8,take_add_one->ce,Perm->ci,take_length->cp,mem_append_left->cq,length_drop->cr,sum_cons->cw,filterMap_cons->cD,length_replicate->cJ,getElem?_replicate->cP,nodup_range->cT,drop_length->cU,perm_ext_iff_of_nodup->cW,zipWith->de,length->df,tail_cons->dw,lookup_cons->dz,range'->dE,any_map->dG,range_succ->dS,append_assoc->eh,range_eq_range'->eL,nodup_nil->eO,length_eraseIdx->eP,length_dropLast->eQ,range'_succ->eX,not_mem_nil->eY,length_zipWith->fc,find?_cons->fq,append_nil->ft,take_zero->fI,take_of_length_le->fJ,map_nil->fK,getElem?_set_self->fM,drop_eq_nil_of_le->fN,getElem?_zipWith->fS,filter_cons->fU,getElem?_set_ne->f6,mem_filter->gf,zip_cons_cons->gA,mem_of_find?_eq_some->gG,getElem?_eq_none_iff->gH,any_cons->gQ,pairwise_singleton->ie,length_eq_zero_iff->ig,pairwise_lt_range->iu,drop_of_length_le->iw,of_mem_zip->iB,length_nil->iC,length_filter_le->iG,pairwise_append->iM,findIdx_getElem->iN,drop_zero->iO,mem_filterMap->ja,lookup_append->jb,getElem?_take->jc,find?_eq_none->jd,filter_append->je,take_sublist->jt,pairwise_map->ju,map->jv,getElem?_set->jw,getElem?_inj->jx,foldl_append->jy,findIdx_lt_length_of_exists->jA,eraseIdxIfInBounds_toArray->jG,length_map->j6,forIn_cons->j7,foldl_cons->j8,find?_some->j9,forIn_nil->kA,pairwise_iff_getElem->kK,mem_or_eq_of_mem_set->kL,find?_range_eq_some->lf,eraseIdx_cons_succ->lB,range_succ_eq_map->lE,map_set->lF,getElem?_eraseIdx->lG,getElem?_dropLast->lH,findIdx_lt_length->lI,getElem?_toArray->l7,filterMap_append->l8,mem_erase_of_ne->mo,getD_cons_succ->mK,filter_sublist->mL,set_cons_zero->mV,set_cons_succ->mW,pairwise_cons->mX,map_inj_right->mY,foldl->mZ,nodup_append->nO,zipIdx_cons->n6,getElem_map->n8,ext_getElem->n9,countP_cons->og
open Bool renaming and_eq_true->ae,false_ne_true->aK,or_eq_true->bg,false_eq_true->dH,eq_iff_iff->fu,and_true->fY,not_eq_true'->gL,false_or->gU,or_false->i8,eq_false_iff->nP
open Classical renaming byContradiction->ak
open PySem.PassesOwn renaming never->au
open Nat renaming ne_of_lt->ay,lt_of_lt_of_le->aE,le_trans->aN,zero_le->aX,mod_eq_of_lt->bf,dvd_of_mod_eq_zero->bt,ne_of_gt->bB,mod_lt->bX,lt_irrefl->ck,mul_le_mul_right->cv,succ_mul->cz,lt_succ_of_lt->cB,lt_of_succ_lt_succ->cC,sub_self->cS,mul_le_mul->cZ,lt_succ_self->dA,mul_one->dF,sub_zero->dJ,mul_comm->dM,le_of_lt->dN,add_sub_cancel->dO,le_of_succ_le->eB,le_add_right->e7,add_zero->e9,mul_le_mul_left->ff,mod_add_mod->fv,lt_of_le_of_ne->fC,not_lt_zero->gh,zero_mul->gt,zero_add->gu,lt_or_ge->gv,le_succ->gP,le_of_dvd->hU,succ_lt_succ->im,lt_trans->jE,add_comm->jF,succ_ne_zero->jU,le_of_not_lt->jV,mul_add->j3,min_le_left->ki,min_eq_left->km,lt_of_mul_lt_mul_left->kZ,mul_assoc->lz,add_lt_add_iff_right->lA,succ_pos->lZ,mod_self->l5,min_self->l6,log2_lt->mJ,mod_eq_sub_mod->nJ,lt_of_le_of_lt->nK,lt_trichotomy->nZ,add_mod_right->n4
open Option.some renaming inj->aA
open PySem renaming Spec->aG,wpAny_callSpecial?_slot->a8,wpAny_call_entry->ba,wpAny_newObj_type->bm,wpAny_field->bI,mem_of_lookup->bK,wpAny_setField_rec->bT,wpAny_holding->cn,codeAny_builtin->cu,wpAny_seqItems->cG,wpAny_mono->cH,Builtin->cM,Scope->db,wpAny_setField->dI,wpAny_rule->dW,call_meets->dX,PyData->dZ,IsPair->ed,wpAny_passesOwn->eE,wpAny_attempt->eG,wpAny_pyIter_enum->eS,NameKind->fe,wpAny_typeOf->fk,plainId_quiet->fG,wpAny_pyIter_tuple->fO,wpAny_pyIter_list->fV,codeAny_mono->fW,IsEnum->gZ,wpAny_truthy_bool->ip,ItemsOf->iq,IsRangeIter->ir,wpAny_newList->iy,wpAny_isInstance->iH,wpAny_pyNext_range_end->iP,wpAny_pyIter_rangeiter->iQ,wpAny_load->iR,wpAny_execs_nil->iW,IsZip->iY,wpAny_updateSeq_pair->jf,wpAny_runValue->jg,wpAny_fieldsOf->jh,sizeLine_eq->ji,IsPart->jp,BindsTo->jr,wpAny_onRaise->jK,wpAny_pyIter_range->jP,wpAny_Call_Name_kw->jQ,typeIs_int->jR,tupleKind_room_in1->jS,wpAny_askSetting->kG,noFill_tuple_add->kH,wpAny_of_eq->kO,wpAny_letGo->kP,wpAny_ite_split->lh,codeAny_of_tree->lq,wpAny_newTuple->lJ,wpAny_letOwnedTupleGo_enum->lK,isSubtype_type->lL,isSubtype_stop->lM,Paired->lQ,Operator->lR,Drawn->lU,wpAny_binaryOp_repeat_ref->md,wpAny_standAt->mw,wpAny_comprehension_free->mz,seq_tuple_add->mB,call->mC,Meets->mS,wpAny_Call_method_late->m9,seqSlot_of->nh,concat_meets->ni,wpAny_isTrue_Compare1->nQ,builtinLookup_eq_fast->nR
open PySem.F renaming plainAttrs_list->aM,slot_list_append->aS,type_list_append->aT,called_set->cI,slot_tuple_iterator_next->eZ,plain_list_iadd->fj,slot_tuple_mul->fo,slot_enumerate_next->fZ,slot_list_pop->gw,args_tuple_add_2->gC,entry_tuple_add->gJ,slot_tuple_add->g9,called_tuple->iA,slot_zip_next->iK,slot_int_rmul->iL,args_tuple_mul_2->jD,plain_proto_collect->jM,entry_tuple_mul->jT,plain_extend_loop->jY,slot_tuple_rmul->ku,args_tuple_iterator_next_1->kI,type_list_pop->kT,plain_set_new->kU,entry_tuple_iterator_next->kW,args_object_init_2->lu,slot_tuple_index->lS,slot_list_extend->lT,args_enumerate_next_1->mj,entry_enumerate_next->mF
open Array renaming getElem?_eq_getElem->aP,getElem?_toList->cf,getElem?_eq_none->cQ,getD_eq_getD_getElem?->cR,perm_iff_toList_perm->ko,toArray_toList->ma,size_extract->mO,getD->mP,toList_push->m8
open PySem.Value renaming ref->aQ,none->b9,type->cV,int->iI,bool->i4,isInt_shape->jj,notImplemented->lO,str->no
open Int renaming mul_assoc->aR,natCast_mul->aW,eq_ofNat_of_zero_le->a7,mul_zero->bc,mul_comm->bd,natCast_emod->bA,zero_mul->bC,mul_emod->bS,add_zero->bU,zero_add->cO,emod_lt_of_pos->c6,emod_nonneg->dh,mul_le_mul_of_nonneg_right->dB,mul_one->eR,emod_eq_of_lt->fQ,mul_sub->f9,emod_emod_of_dvd->gb,natCast_nonneg->gF,neg_mul->gR,sub_self->iD,sub_emod->iE,sub_mul->iT,natAbs_mul->iU,dvd_refl->jI,natCast_ediv->jW,one_mul->ka,add_mul->kc,fdiv_eq_ediv_of_nonneg->kN,add_assoc->lC,sub_zero->l9,emod_add_mul_ediv->mq,mul_add->mM
open PySem.PyData renaming int->a5,depthAll->cx,canLayAll0->c9,leavesShortAll->dP,depth->eK,showableAll->fh,tuple->fF,shown->gc,canLay0->gm,hasDictAll->gB,bulkAll->iF,eqv->iX,showable->jL,leavesShort->mf,hasDict->nX
open PySem.Builtin.SmallTypes renaming nextOf->a9,ownedTupleIsFree->bH,ownedTupleHandOut->cF
open PySem.Heap renaming SameBut->bq,size_push->bF,get?_update_self->bM,get?_update_other->bZ,get?_push_ne->gI,size_update->ic,ExtBut->iJ,get?_none_of_le->mi
open PySem.Builtin.Range renaming rangeSize->bu,small->cL,rangeFitsLong->iZ
open PyProof.Rows renaming callWith_type1->bD,slot_tuple_getitem->bN,IntsAre->bW,AllBare->iS,get?_update_seq->i0,IsTup->jN,entry_list_sort->ly,slot_list_sort->lW,boot_range->lX,args_list_sort->lY,listUpdate_at->mG,firstMet_succ->mH,subscriptTail_builtinR->nC,plain_sorted->nE,listItems_at->nF,entry_sorted->nG,args_sorted1->nH
open PySem.Obj renaming data_mapFields->bJ,mapSeq->bR,isFreed_of_fields->c7,cls_mapFields->gN,mapFields->gY,putSet->jo
open PySem.Heap.SameBut renaming update->bQ
open Ne renaming symm->bV
open PySem.Builtin.List renaming listExtendWith->cg,listTooLong->eA,listLengthHint->fR,listSameRef->jq
open PySem.Around renaming under_plainId->cm
open PySem.Builtin.Tuple renaming tupleExact->cy,tupleItemsOf->dD,tupleTooMany->i6
open PySem.Str renaming ofString->cN
open ForInStep renaming yield->cY
open Nat.succ renaming inj->c8
open List.Perm renaming refl->di,swap->jH,append_left->kB
open List.Pairwise renaming sublist->dk,nil->f7,imp_of_mem->f8,map->kF
open PySem.NameKind renaming cell->dC,free->fP
open PySem.Builtin.Slice renaming slicePlaces->dQ,sliceAdjust->fX,sliceApplied->i7
open PyProof.Rows.F renaming plain_set_update_loop->dR,entry_set_update_loop->gO
open PySem.SetTable renaming grown->dU,below->mQ,slot->nq,fits->nv
open False renaming elim->eF
open PySem.AutoSeq1 renaming sub_tuple_tuple->eV,idx_int->i9
open PySem.Data renaming cell->gq,fields->gK
open PySem.Challenge renaming rw_classtab_k30_shares->gD,pw_classtab_k30_shares->gE
open PyProof.Rows.IsTup renaming new->hG
open PySem.Calls renaming call_function_entry->ii,callWith_builtin->ik,Name_function_global->kg,evalArgs_plain->lV
open True renaming intro->io
open Sum renaming inl->ix,inr->jB
open Std.Legacy renaming Range->iV
open PySem.SeqAt renaming shaped->jm,EqAt->lP,any_by_data->mR,items_eqAt->ny
open Option renaming map_some->jO,isSome_iff_exists->kx,isSome_map->mI,getD_none->mU
open PySem.SeqAt.EqAt renaming int_int->jX,str_int->kQ,int_str->kS
open PySem.Builtin.Int renaming intTooBig->jZ,intBits->kw
open PySem.pickOrder renaming go->ke
open PyProof renaming noPylong_of_log2->kh,noPylong_small->kJ
open PySem.Paired renaming length->kq
open PySem.IsRange renaming new->lr
open PySem.Shared renaming heap->lD
open PySem.Walks renaming range->lN,list->mD
open Prod renaming fst->mm
open PySem.Code renaming quiet_builtin->mT
open PySem.Heap.IsTuple renaming typeIs->nY
set_option Elab.async false
set_option linter.all false
set_option maxRecDepth 100000
variable {P prog:PySem.Program}{w:PySem.World}{K:aa}{mg:TV}{base:PySem.Heap}{A:PySem.Around}{E:TW}{s:PySem.Shared}{t:T7}{o:TY}{R:TZ}{ps least:TX}{n top p m z:Nat}{e ω φ:Nat->Nat->Nat}{f:PySem.Addr}{fd:PySem.FuncData}
theorem Za {α j:Type _}{l:List α}{f:α->j}:(l.map f).length=l.length:=j6 ..
theorem Zb {α:Type _}{l:List α}{i:Nat}{a:α}:l.getD i a=l[i]?.getD a:=List.getD_eq_getElem?_getD ..
theorem Zc {α j:Type _}{f:α->j}{l:List α}{i:Nat}:(l.map f)[i]?=l[i]?.map f:=List.getElem?_map ..
theorem Zd {α:Type _}{a b:List α}:(a++b).length=a.length+b.length:=List.length_append ..
theorem Ze {α:Type _}{n:Nat}{a:α}:(am n a).length=n:=cJ ..
theorem Zf {α:Type _}{l:List α}{i:Nat}(h:i<l.length):l[i]?=some l[i]:=List.getElem?_eq_getElem h
theorem Zg {n:Nat}:(ac n).length=n:=List.length_range ..
theorem Zh {α:Type _}{l:List α}:l.toArray.size=l.length:=List.size_toArray ..
theorem Zi {α:Type _}{a:α}{l:List α}:(a::l).length=l.length+1:=List.length_cons ..
theorem Zj (n:Nat):(n:Int).toNat=n:=Int.toNat_natCast n
theorem Zk {α:Type _}{a:α}:[a].length=1:=List.length_singleton ..
noncomputable abbrev Zl:=@PySem.wpAny_bind
noncomputable abbrev Zm:=@PySem.wpAny_pure
noncomputable abbrev Zn:=@PySem.Heap.get?_push_of_some
noncomputable abbrev Zo:=@PySem.Heap.get?_push_size
noncomputable abbrev Zp:=@PySem.Heap.lt_size
noncomputable abbrev Zq:=@Nat.le_refl
noncomputable abbrev Zr.{u}:=@Array.length_toList.{u}
namespace L2
open PySem PySem.Spec PyProof.Rows
noncomputable abbrev YQ:=Sum Int Str
def Za8:YQ->Value->Bool
 | .inl k,v=>Value.isInt k v
 | .inr x,v=>Value.isStrOf x v
def ZrR (w:World):YQ->Int
 | .inl k=>hashInt k
 | .inr x=>hashStr w x
theorem Yt:∀{k:YQ}{v:Value},Za8 k v=true->(∃i t,k=ix i/\v=iI i t)\/(∃x t,k=jB x/\v=no x t)
 | .inl i,v,h=>by
  obtain⟨t,e⟩:=jj (k:=i) (v:=v) h;exact .inl ⟨i,t,rfl,e⟩
 | .inr x,v,h=>by
  obtain⟨t,e⟩:=Value.isStrOf_shape (x:=x) (v:=v) h;exact .inr ⟨x,t,rfl,e⟩
theorem Zg7 (i:Int)(t:Tok):Za8 (.inl i) (.int i t)=true:=by simp[Za8,Value.isInt]
theorem Zg6 (x:Str)(t:Tok):Za8 (.inr x) (.str x t)=true:=by simp[Za8,Value.isStrOf]
theorem Zod (a b:Int):decide ((ix a:YQ)=ix b)=(a == b):=by
 by_cases e:a=b
 ·subst e;simp
 ·have h:¬(ix a:YQ)=ix b:=λq=>e (Sum.inl.inj q)
  rw[decide_eq_false h];exact (beq_eq_false_iff_ne.mpr e).symm
theorem Zoa (a b:Str):decide ((jB a:YQ)=jB b)=decide (a=b):=by
 by_cases e:a=b
 ·subst e;simp
 ·have h:¬(jB a:YQ)=jB b:=λq=>e (Sum.inr.inj q)
  rw[decide_eq_false h,decide_eq_false e]
theorem Zoc (a:Int)(b:Str):decide ((ix a:YQ)=jB b)=false:=decide_eq_false (λq=>nomatch q)
theorem Zob (a:Str)(b:Int):decide ((jB a:YQ)=ix b)=false:=decide_eq_false (λq=>nomatch q)
noncomputable def YK (prog:Program)(w:World):PySem.KeyKind prog w YQ where
 is:=Za8
 hash:=ZrR w
 inj:=λv a b O hb=>by
  rcases Yt O with ⟨i,t,rfl,rfl⟩|⟨x,t,rfl,rfl⟩
  ·rcases Yt hb with ⟨j,u,rfl,e⟩|⟨y,u,rfl,e⟩
   ·injection e with J _;rw[J]
   ·exact nomatch e
  ·rcases Yt hb with ⟨j,u,rfl,e⟩|⟨y,u,rfl,e⟩
   ·exact nomatch e
   ·injection e with J _;rw[J]
 byValue:=λk v h=>by
  rcases Yt h with ⟨i,t,rfl,rfl⟩|⟨x,t,rfl,rfl⟩ <;> rfl
 pyHash:=λM h=>by
  rcases Yt M with ⟨i,t,rfl,rfl⟩|⟨x,t,rfl,rfl⟩
  ·exact wpAny_pyHash_int h
  ·exact wpAny_pyHash_str h
 eqBool:=λU M h=>by
  rcases Yt U with ⟨i,t,rfl,rfl⟩|⟨x,t,rfl,rfl⟩
  ·rcases Yt M with ⟨j,u,rfl,rfl⟩|⟨y,u,rfl,rfl⟩
   ·rw[Zod] at h;exact wpAny_eqBool_int h
   ·rw[Zoc] at h;exact kS i t y u _ _ _ _ h
  ·rcases Yt M with ⟨j,u,rfl,rfl⟩|⟨y,u,rfl,rfl⟩
   ·rw[Zob] at h;exact kQ x t j u _ _ _ _ h
   ·rw[Zoa] at h;exact wpAny_eqBool_str h
 «strs»:=λk x t v h=>by
  rcases Yt h with ⟨i,u,rfl,e⟩|⟨y,u,rfl,e⟩
  ·exact nomatch e
  ·injection e with J _
   subst J;cases v <;> rfl
theorem Zdt (prog:Program)(w:World)(i:Int)(t:Tok):(YK prog w).is (.inl i) (.int i t)=true:=Zg7 i t
theorem Zds (prog:Program)(w:World)(x:Str)(t:Tok):(YK prog w).is (.inr x) (.str x t)=true:=Zg6 x t
inductive V where
 |non|bl (b:Bool)|int (i:Int)|str (x:Str)|byt (b:Array UInt8)|flt (b:UInt64)|ref (a:Addr)|ty (n:String)
 deriving DecidableEq
abbrev TR:=List V
abbrev TQ:=Option V
def RelV:V->Value->Prop
 | .non,u=>u=b9
 | .bl b,u=>u=i4 b
 | .int i,u=>∃t,u=iI i t
 | .str x,u=>∃t,u=no x t
 | .byt b,u=>∃t,u=Value.bytes b t
 | .flt b,u=>∃t,u=Value.float b t
 | .ref a,u=>u=aQ a
 | .ty n,u=>u=cV n
noncomputable abbrev ZN:TR->List Value->Prop:=lQ RelV
theorem ZN.length {xs:TR}{us:List Value}(r:ZN xs us):xs.length=us.length:=kq r
theorem ZN.get:∀{xs:TR}{us:List Value}{i:Nat}{x:V},ZN xs us->xs[i]?=some x->∃u,us[i]?=some u/\RelV x u
 |_,_,_,_,.nil,e=>by simp at e
 |_,_,0,_,.cons r _,e=>by simp at e;subst e;exact⟨_,rfl,r⟩
 |_,_,i+1,x,.cons _ t,e=>by
  obtain⟨u,j,J⟩:=ZN.get (i:=i) (x:=x) t (by simpa using e);exact⟨u,by simpa using j,J⟩
theorem ZN.set {x:V}{u:Value}(r:RelV x u):∀{xs:TR}{us:List Value} (i:Nat),ZN xs us->ZN (xs.set i x) (us.set i u)
 |_,_,_,.nil=>.nil
 |_,_,0,.cons _ t=>.cons r t
 |_,_,i+1,.cons q t=>.cons q (ZN.set r i t)
theorem ZN.append:∀{xs ys:TR}{us j:List Value},ZN xs us->ZN ys j->ZN (xs++ys) (us++j)
 |_,_,_,_,.nil,s=>s
 |_,_,_,_,.cons r t,s=>.cons r (ZN.append t s)
theorem ZN.take:∀{xs:TR}{us:List Value} (n:Nat),ZN xs us->ZN (xs.take n) (us.take n)
 |_,_,0,_=>.nil
 |_,_,_+1,.nil=>.nil
 |_,_,n+1,.cons r t=>.cons r (ZN.take n t)
theorem ZN.drop:∀{xs:TR}{us:List Value} (n:Nat),ZN xs us->ZN (xs.drop n) (us.drop n)
 |_,_,0,r=>r
 |_,_,_+1,.nil=>.nil
 |_,_,n+1,.cons _ t=>ZN.drop n t
def ZaN:TQ->Option Value->Prop
 |some v,some u=>RelV v u
 |none,none=>True
 |_,_=>False
def KV {j:Type}:List (j×V)->List (j×Value)->Prop:=lQ λ(p:j×V) (q:j×Value)=>p.1=q.1/\RelV p.2 q.2
def kV:YQ->V
 | .inl i=>.int i
 | .inr x=>.str x
inductive HO where
 |lst (xs:TR)
 |tup (xs:TR)
 |dK (kvs:List (YQ×V))|dT (kvs:List (List YQ×V))
 |set (S:Int->Bool) (n:Nat)
 |ins (C dx:Addr) (fs:List (Str×V))
 |own (x:Addr)
 |xd (fs:List (Str×V))
 |met (f x:Addr)
 |rng (lo hi:Int)
 |frz (o:Obj) (u:HO)
 |tbl (ps:Array Value)
 |ext (φ:Heap->Prop)
noncomputable abbrev Hp:=Addr->Option HO
def upd (H:Hp)(a:Addr)(o:HO):Hp:=λb=>if b=a then some o else H b
theorem Zt {H:Hp}{a:Addr}{o:HO}:upd H a o a=some o:=by unfold upd;rw[if_pos rfl]
theorem Zy {H:Hp}{a b:Addr}{o:HO}(h:b≠a):upd H a o b=H b:=by unfold upd;rw[if_neg h]
theorem Zkx {H:Hp}{a:Addr}{o u:HO}:upd (upd H a o) a u=upd H a u:=by
 funext b;unfold upd;split <;> rfl
theorem Zjd {H:Hp}{a b:Addr}{o u:HO}(h:H a=some o)(h':H b=some u)(d:o≠u):a≠b:=by
 intro e;subst e;rw[h] at h';exact d (aA h')
theorem Z7 {H:Hp}{a b:Addr}{o:HO}(h:H a=some o)(h':H b=none):a≠b:=by
 intro e;subst e;rw[h] at h';cases h'
section
variable (P:Program)(w:World)
def YH (H:Hp)(h:Heap)(a:Addr):HO->Prop
 | .lst M=>M.length<=sizeLine/\∃(j:List Value) (n:Nat),ZN M j/\h.get? a=some {cls:=.type "list",data:=.seq j.toArray n}
 | .tup M=>M.length<=sizeLine/\∃j:List Value,ZN M j/\jN h a j.toArray
 | .dK J=>J.length<=sizeLine/\(a == sysModules)=false/\∃vs,KV J vs/\h.DictOf (YK P w) a vs
 | .dT J=>J.length<=sizeLine/\(a == sysModules)=false/\∃M:List (List YQ×Addr×Value),
   lQ (λ(p:List YQ×V) (q:List YQ×Addr×Value)=>p.1=q.1/\H q.2.1=some (.tup (p.1.map kV))/\RelV p.2 q.2.2) J M/\
   ∃o es ep,h.get? a=some o/\o.ExactDict/\o.data=.dict es ep/\es.toList=M.map (entryOfKey (tupleKind (YK P w)))/\(M.map (·.1)).Nodup
 | .set S n=>h.SetOf (intKind P w) a S n
 | .ins C U fs=>H U=some (.own a)/\fs.length<=1000/\U≠a/\h.get? a=some (PySem.W.instObj C U)/\
   ∃O,h.Ns1 U O/\(∀f,ZaN (fs.lookup f) (O f))/\PySem.Within O (fs.map (·.1))
 | .own _=>∃o,h.get? a=some o
 | .xd fs=>∃O,h.Ns1 a O/\∀f,ZaN (fs.lookup f) (O f)
 | .rng lo hi=>∃t u v,h.get? a=some {cls:=.type "range",data:=.fields #[.int lo t,.int hi u,.int 1 v]}
 | .frz o u=>h.get? a=some o/\YH H h a u
 | .tbl ps=>h.get? a=some {cls:=.none,data:=.fields ps}
 | .met f x=>h.get? a=some (i3 (.ref f) (.ref x))
 | .ext Y=>Y h/\(∃o,h.get? a=some o)/\∀h1 h2:Heap,Y h1->(∀o,h1.get? a=some o->h2.get? a=some o)->Y h2
def Vz (H:Hp)(h:Heap):Prop:=∀a o,H a=some o->YH P w H h a o
end
section
variable {H H':Hp}{h h':Heap}{a:Addr}{o:HO}
theorem YH.lt (x:YH P w H h a o):a<h.objs.size:=by
 cases o with
 |lst J=>obtain⟨_,_,_,_,e⟩:=x;exact Zp e
 |tup J=>obtain⟨_,_,_,p⟩:=x;exact p.lt
 |dK j=>obtain⟨_,_,_,_,o,_,_,e,_⟩:=x;exact Zp e
 |dT j=>obtain⟨_,_,_,_,o,_,_,e,_⟩:=x;exact Zp e
 |set S n=>obtain⟨o,_,_,_,e,_⟩:=x;exact Zp e
 |ins C M fs=>obtain⟨_,_,_,e,_⟩:=x;exact Zp e
 |own y=>obtain⟨_,e⟩:=x;exact Zp e
 |xd fs=>obtain⟨_,⟨_,_,_,e,_⟩,_⟩:=x;exact Zp e
 |rng lo O=>obtain⟨_,_,_,e⟩:=x;exact Zp e
 |frz ob u=>obtain⟨e,_⟩:=x;exact Zp e
 |tbl U=>exact Zp (show h.get? a=some _ from x)
 |met f y=>exact Zp (show h.get? a=some _ from x)
 |ext Y=>obtain⟨_,⟨_,e⟩,_⟩:=x;exact Zp e
theorem lQ.mapP {α M:Type}{F G:α->M->Prop}:∀{j:List α}{J:List M},lQ F j J->(∀a b,F a b->G a b)->lQ G j J
 |_,_,.nil,_=>.nil
 |_,_,.cons r t,f=>.cons (f _ _ r) (lQ.mapP t f)
theorem YH.stay (x:YH P w H h a o)(k:∀b u,(b=a\/H b=some (.own a))->h.get? b=some u->h'.get? b=some u)
  (ho:∀b,H b=some (.own a)->H' b=some (.own a)) (ht:∀b xs,H b=some (.tup xs)->H' b=some (.tup xs)):YH P w H' h' a o:=by
 induction o with
 |lst xs=>obtain⟨z,M,n,r,e⟩:=x;exact⟨z,M,n,r,k _ _ (.inl rfl) e⟩
 |tup xs=>obtain⟨z,M,r,ob,e,c⟩:=x;exact⟨z,M,r,ob,k _ _ (.inl rfl) e,c⟩
 |dK O=>obtain⟨z,y,vs,r,ob,j,J,e,c⟩:=x;exact⟨z,y,vs,r,ob,j,J,k _ _ (.inl rfl) e,c⟩
 |dT O=>
  obtain⟨z,y,xs,r,ob,j,J,e,c⟩:=x;exact⟨z,y,xs,lQ.mapP r λp q z=>⟨z.1,ht _ _ z.2.1,z.2.2⟩,ob,j,J,k _ _ (.inl rfl) e,c⟩
 |set S n=>obtain⟨ob,j,J,t,e,c⟩:=x;exact⟨ob,j,J,t,k _ _ (.inl rfl) e,c⟩
 |ins C dx fs=>
  obtain⟨d,z,ne,e,U,⟨Y,j,J,e2,c⟩,r⟩:=x;exact⟨ho _ d,z,ne,k _ _ (.inl rfl) e,U,⟨Y,j,J,k _ _ (.inr d) e2,c⟩,r⟩
 |own y=>obtain⟨ob,e⟩:=x;exact⟨ob,k _ _ (.inl rfl) e⟩
 |xd fs=>obtain⟨U,⟨Y,j,J,e,c⟩,r⟩:=x;exact⟨U,⟨Y,j,J,k _ _ (.inl rfl) e,c⟩,r⟩
 |rng lo hi=>obtain⟨t,u,v,e⟩:=x;exact⟨t,u,v,k _ _ (.inl rfl) e⟩
 |frz ob u ih=>obtain⟨e,q⟩:=x;exact⟨k _ _ (.inl rfl) e,ih q⟩
 |tbl ps=>
  have e:h.get? a=some {cls:=.none,data:=.fields ps}:=x;show h'.get? a=some {cls:=.none,data:=.fields ps};exact k a _ (.inl rfl) e
 |met f y=>
  have e:h.get? a=some (i3 (.ref f) (.ref y)):=x;show h'.get? a=some (i3 (.ref f) (.ref y));exact k a _ (.inl rfl) e
 |ext φ=>obtain⟨p,⟨o,e⟩,st⟩:=x;exact⟨st _ _ p λo q=>k _ _ (.inl rfl) q,⟨o,k _ _ (.inl rfl) e⟩,st⟩
theorem Vz.lt (x:Vz P w H h)(e:H a=some o):a<h.objs.size:=(x a o e).lt
theorem Vz.fresh (x:Vz P w H h)(e:h.objs.size<=a):H a=none:=by
 cases q:H a with
 |none=>rfl
 |some u=>exact absurd (aE (x.lt q) e) (ck _)
theorem Vz.kept (x:Vz P w H h)(k:∀b u,h.get? b=some u->h'.get? b=some u):Vz P w H h':=λa o e=>
 (x a o e).stay (λb u _ q=>k b u q) (λ_ q=>q) λ_ _ q=>q
theorem Vz.laid (x:Vz P w H h)(k:∀b u,h.get? b=some u->h'.get? b=some u)(M:h.objs.size<=a)(j:YH P w (upd H a o) h' a o):Vz P w (upd H a o) h':=λb u e=>by
 have J:=x.fresh M;by_cases hb:b=a
 ·subst hb;rw[Zt] at e;cases e;exact j
 ·rw[Zy hb] at e
  exact (x b u e).stay (λc v _ q=>k c v q) (λc q=>by rw[Zy (Z7 q J)];exact q) λc O q=>by rw[Zy (Z7 q J)];exact q
end
def Rd (H:Hp)(a:Addr)(u:HO):Prop:=H a=some u\/∃o,H a=some (.frz o u)
theorem Rd.ok {P:Program}{w:World}{H:Hp}{h:Heap}{a:Addr}{u:HO}(r:Rd H a u)(x:Vz P w H h):YH P w H h a u:=by
 rcases r with r|⟨o,r⟩
 ·exact x a u r
 ·obtain⟨_,q⟩:=x a _ r
  exact q
def Mut:Option HO->Prop
 |some (.lst _)=>True
 |some (.dK _)=>True
 |some (.dT _)=>True
 |some (.set _ _)=>True
 |some (.ins _ _ _)=>True
 |some (.ext _)=>True
 |_=>False
section
variable {H:Hp}{h h':Heap}{x e:Addr}{o':HO}
theorem Vz.write (ok:Vz P w H h)(O:Mut (H x))(he:e=x\/H e=some (.own x))(k:∀b u,b≠e->h.get? b=some u->h'.get? b=some u)(o0:∃u,h'.get? e=some u)
  (o5:YH P w (upd H x o') h' x o'):Vz P w (upd H x o') h':=λb u q=>by
 have J:∀c y,H c=some (.own y)->c≠x:=λc y r z=>by subst z;rw[r] at O;exact O
 have M:∀c U,H c=some (.tup U)->c≠x:=λc U r z=>by subst z;rw[r] at O;exact O
 by_cases hb:b=x
 ·subst hb;rw[Zt] at q;cases q;exact o5
 ·rw[Zy hb] at q
  by_cases j:b=e
  ·have q':H b=some (.own x):=by
    rcases he with z|z
    ·exact absurd (j.trans z) hb
    ·rw[j];exact z
   rw[q] at q';cases q';obtain⟨v,hv⟩:=o0;exact⟨v,by rw[j];exact hv⟩
  ·refine (ok b u q).stay (λc v Y r=>k c v ?_ r) (λc r=>by rw[Zy (J c b r)];exact r) λc U r=>by rw[Zy (M c U r)];exact r
   rcases Y with rfl|Y
   ·exact j
   ·rintro rfl
    rcases he with z|z
    ·exact J c b Y z
    ·rw[Y] at z;cases z;exact hb rfl
end
structure Un (fs ex:TU)(H H':Hp)(h h':Heap):Prop where
 keep:∀b o,h.get? b=some o->H b=none->b∉fs->b∉ex->h'.get? b=some o
 slot:∀b o,h.get? b=some o->H b=none->b∈fs->b∉ex->∃sl,h'.get? b=some {o with slots:=sl}
 free:∀b o,h.get? b=some o->H b=none->b∉ex->H' b=none
 there:∀b o,h.get? b=some o->b∉ex->∃o',h'.get? b=some o'
 tups:∀b xs,H b=some (.tup xs)->H' b=some (.tup xs)
 frzs:∀b o u,H b=some (.frz o u)->H' b=some (.frz o u)
 tbls:∀b ps,H b=some (.tbl ps)->∃more,H' b=some (.tbl (ps++more))
section
variable {fs fs' ex ex':TU}{H H1 H2:Hp}{h h1 h2 h':Heap}{a x e:Addr}{o:HO}
theorem Un.any (u:Un fs ex H H1 h h1){b:Addr}{ob:Obj}(q:h.get? b=some ob)(n:H b=none)(j:b∉ex):∃J,h1.get? b=some {ob with slots:=J}:=by
 by_cases hb:b∈fs
 ·exact u.slot b ob q n hb j
 ·exact⟨ob.slots,u.keep b ob q n hb j⟩
theorem Un.kept (k:∀b u,h.get? b=some u->h'.get? b=some u):Un fs ex H H h h':=
 ⟨λb ob q _ _ _=>k b ob q,λb ob q _ _ _=>⟨ob.slots,k b ob q⟩,λ_ _ _ n _=>n,λb ob q _=>⟨ob,k b ob q⟩,λ_ _ q=>q,λ_ _ _ q=>q,λ_ j q=>⟨#[],by rw[q];simp⟩⟩
theorem Un.refl:Un fs ex H H h h:=Un.kept λ_ _ q=>q
theorem Un.laid (k:∀b u,h.get? b=some u->h'.get? b=some u)(J:h.objs.size<=a)(j:H a=none):Un fs ex H (upd H a o) h h' where
 keep:=λb u q _ _ _=>k b u q
 slot:=λb u q _ _ _=>⟨u.slots,k b u q⟩
 free:=λb u q n _=>by rw[Zy (ay (aE (Zp q) J))];exact n
 there:=λb u q _=>⟨u,k b u q⟩
 tups:=λb M q=>by rw[Zy (Z7 q j)];exact q
 frzs:=λb u M q=>by rw[Zy (Z7 q j)];exact q
 tbls:=λb O q=>⟨#[],by rw[Zy (Z7 q j),q];simp⟩
theorem Un.write (J:Mut (H x))(Y:e=x\/H e=some (.own x))(k:∀b u,b≠e->h.get? b=some u->h'.get? b=some u)(M:∃u,h'.get? e=some u):Un fs ex H (upd H x o) h h':=by
 have U:∀b,H b=none->b≠x:=λb n z=>by subst z;rw[n] at J;exact J
 have hb:∀b,H b=none->b≠e:=λb n z=>by
  subst z;rcases Y with r|r
  ·exact U b n r
  ·rw[n] at r;cases r
 have O:∀b u,H b=some u->¬Mut (some u)->b≠x:=λb u q nm z=>by subst z;rw[q] at J;exact nm J
 refine⟨λb u q n _ _=>k b u (hb b n) q,λb u q n _ _=>⟨u.slots,k b u (hb b n) q⟩,λb u q n _=>by rw[Zy (U b n)];exact n,λb u q _=>?_,
  λb xs q=>by rw[Zy (O b _ q λz=>z)];exact q,λb u xs q=>by rw[Zy (O b _ q λz=>z)];exact q,λb ps q=>⟨#[],by rw[Zy (O b _ q λz=>z),q];simp⟩⟩
 by_cases j:b=e
 ·subst j;exact M
 ·exact⟨u,k b u j q⟩
end
def trk (h:Heap)(H:Hp):TU:=(ac h.objs.size).filter λa=>(H a).isSome
def Zcl (h:Heap)(H:Hp):Heap:=PySem.W.hideAll h (trk h H)
theorem Zha (h:Heap)(H:Hp):(Zcl h H).objs.size=h.objs.size:=PySem.W.hideAll_size _ _
theorem ZjC {h:Heap}{H:Hp}{b:Addr}{o:Obj}(e:h.get? b=some o)(n:H b=none):(Zcl h H).get? b=some o:=
 PySem.W.hideAll_get _ e λj=>by
  have q:(H b).isSome=true:=(gf.mp j).2;rw[n] at q;simp at q
theorem ZlB {h:Heap}{H:Hp}{b:Addr}{o:Obj}(e:(Zcl h H).get? b=some o):h.get? b=some o/\H b=none:=by
 have j:h.get? b=some o:=PySem.W.of_hideAll (trk h H) e;refine⟨j,?_⟩;cases q:H b with
 |none=>rfl
 |some x=>
  have J:b∈trk h H:=gf.mpr ⟨af.mpr (Zp j),by simp[q]⟩;have z:(Zcl h H).get? b=none:=PySem.W.hideAll_none (trk h H) J;rw[z] at e;cases e
structure Mod (K:aa)(mg:TV)(base:Heap):Prop where
 kin:K.In base
 glob:base.Ns mainGlobals mg
 blt:∃mb,base.Ns builtinsNs mb/\∀x:Str,x ≠ "__name__"->mb x=bootBuiltins x
 nolimit:base.NoLimit
structure Cx where
 prog:Program
 w:World
 K:aa
 mg:Str->Option Value
 base:Heap
 A:Around
 N:List Str
 s₀:Shared
 H₀:Hp
 env:Env
 outer:List Env
 stack:List Env
 ex:TU
 fn:Str->Bool
 calm:Bool
 pn:List (Addr×Obj)
 xe:Value->Shared->Prop
def frs (l:List Env):TU:=l.filterMap (·.frame)
noncomputable abbrev Cx.fs (X:Cx):TU:=frs X.outer
def Vis (j:db)(x:Str):Prop:=j.names.lookup x=some .local\/j.names.lookup x=some .cell\/j.names.lookup x=some .free
def Loc (j:db)(x:Str):Prop:=j.names.lookup x=some .local\/j.names.lookup x=some .cell
def Look (env:Env)(h:Heap)(m:TV)(x:Str)(u:Value):Prop:=
 (env.kindOf x=some .local/\m x=some u)\/((env.kindOf x=some .cell\/env.kindOf x=some .free)/\∃c,env.cells.lookup x=some c/\h.IsCell c (some u))
structure Cx.Ok (X:Cx):Prop where
 mod:Mod X.K X.mg X.base
 kind:X.env.scope.kind=.function
 glob:X.env.globals=mainGlobals
 blt:X.env.builtins=builtinsNs
 above:X.s₀.heap.objs.size<=X.env.locals
 inj:∀x y c,X.env.cells.lookup x=some c->X.env.cells.lookup y=some c->x=y
 has:∀x,(X.env.kindOf x=some .cell\/X.env.kindOf x=some .free)->∃c,X.env.cells.lookup x=some c
 cab:∀x c,X.fn x=true->X.env.cells.lookup x=some c->X.s₀.heap.objs.size<=c
 hd:X.calm=true->X.A.handled=none
 frames:X.A.frames=some X.stack
 stk:X.stack=X.outer\/(X.stack=X.env::X.outer/\X.env.frame=some X.env.locals)
 exf:∀b∈X.ex,b≠X.env.locals/\∀x c,X.env.cells.lookup x=some c->c≠b
 bs:∀b o,X.base.get? b=some o->X.s₀.heap.get? b=some o/\X.H₀ b=none
 bsz:X.base.objs.size<=X.s₀.heap.objs.size
 noex:∀b o,X.base.get? b=some o->b∉X.ex
 exfs:∀b∈X.ex,b∉X.fs
 funs:X.s₀.heap.FunFrames X.base X.outer
 frf:∀b∈X.fs,X.H₀ b=none
structure Inv (X:Cx)(pins:List (Addr×Obj))(σ:List TQ)(H:Hp)(s:Shared):Prop where
 ok:X.Ok
 os:s.os=X.s₀.os
 bare:iS s.gens
 base:Un X.fs X.ex X.H₀ H X.s₀.heap s.heap
 loc:∃m,s.heap.Ns X.env.locals m/\∀(i:Nat) (x:Str) (v:V),X.N[i]?=some x->σ[i]?=some (some v)->Vis X.env.scope x->∃u,RelV v u/\Look X.env s.heap m x u
 cell:∀x c,X.env.cells.lookup x=some c->∃v,s.heap.IsCell c v
 free:H X.env.locals=none
 freeC:∀x c,X.env.cells.lookup x=some c->H c=none
 pin:∀p∈X.pn++pins,s.heap.get? p.1=some p.2/\H p.1=none/\p.1≠X.env.locals/\p.1∉X.fs/\∀v,p.2.data≠.cell v
 hok:Vz X.prog X.w H s.heap
 len:σ.length=X.N.length
section
variable {X:Cx}{pins:List (Addr×Obj)}{σ:List TQ}{H H':Hp}{h':Heap}
theorem Cx.Ok.nofr (ok:X.Ok){b:Addr}{o:Obj}(e:X.base.get? b=some o):b∉X.fs:=λhb=>by
 have:=(ok.funs.mem hb).1;rw[e] at this;cases this
theorem Inv.bs (I:Inv X pins σ H s):∀b o,X.base.get? b=some o->s.heap.get? b=some o/\H b=none:=λb o e=>
 ⟨I.base.keep b o (I.ok.bs b o e).1 (I.ok.bs b o e).2 (I.ok.nofr e) (I.ok.noex b o e),I.base.free b o (I.ok.bs b o e).1 (I.ok.bs b o e).2 (I.ok.noex b o e)⟩
theorem Inv.bk (I:Inv X pins σ H s):∀b o,X.base.get? b=some o->s.heap.get? b=some o:=λb o e=>(I.bs b o e).1
theorem Inv.mod (I:Inv X pins σ H s):Mod X.K X.mg X.base:=I.ok.mod
theorem Inv.kIn (I:Inv X pins σ H s):X.K.In s.heap:=I.ok.mod.kin.keeps I.bk
theorem Inv.lt (I:Inv X pins σ H s):X.env.locals<s.heap.objs.size:=let ⟨_,j,_⟩:=I.loc;j.lt
theorem Inv.sz (I:Inv X pins σ H s):X.s₀.heap.objs.size<=s.heap.objs.size:=aN I.ok.above (dN I.lt)
theorem Inv.nofs (I:Inv X pins σ H s){a:Addr}(h:s.heap.objs.size<=a):a∉X.fs:=λhb=>by
 obtain⟨_,o,j,_⟩:=I.ok.funs.mem hb;exact absurd (aE (Zp j) (aN I.sz h)) (ck _)
theorem Inv.cne (I:Inv X pins σ H s):∀x c,X.env.cells.lookup x=some c->c≠X.env.locals:=λx c e z=>by
 obtain⟨v,o,M,hd⟩:=I.cell x c e;obtain⟨m,⟨O,U,Y,j,J,_⟩,_⟩:=I.loc;rw[z,j] at M;cases M;rw[J] at hd;cases hd
theorem Inv.funs (I:Inv X pins σ H s):s.heap.FunFrames X.base X.outer:=by
 have all:∀(l:List Env),(∀b∈frs l,b∈X.fs)->X.s₀.heap.FunFrames X.base l->s.heap.FunFrames X.base l:=by
  intro l;induction l with
  |nil=>intro _ _;trivial
  |cons env r M=>
   intro J O;obtain⟨U,⟨L,o,hf,Y,ho,hd⟩,hr⟩:=O;have j:L∈X.fs:=J L (by unfold frs;rw[cD,hf];exact aD);obtain⟨sl,e⟩:=I.base.slot L o ho (I.ok.frf L j) j λz=>I.ok.exfs L z j;exact⟨U,⟨L,_,hf,Y,e,hd⟩,M (λb hb=>J b (by unfold frs;rw[cD,hf];exact aF _ hb)) hr⟩
 exact all X.outer (λ_ hb=>hb) I.ok.funs
theorem Inv.stack (I:Inv X pins σ H s):s.heap.FunFrames X.base X.stack:=by
 rcases I.ok.stk with e|⟨e,hf⟩
 ·rw[e];exact I.funs
 ·rw[e]
  obtain⟨m,j,_⟩:=I.loc;refine .cons (by rw[I.ok.kind];decide) hf j ?_ I.funs;exact mi (aN I.ok.bsz I.ok.above)
theorem Inv.stkSub (I:Inv X pins σ H s):∀b∈frs X.stack,b∈X.env.locals::X.fs:=λb hb=>by
 rcases I.ok.stk with e|⟨e,hf⟩
 ·rw[e] at hb;exact aF _ hb
 ·rw[e] at hb
  unfold frs at hb;rw[cD,hf] at hb;exact hb
theorem Inv.stkFree (I:Inv X pins σ H s):∀b∈frs X.stack,H b=none:=λb hb=>by
 rcases aH.mp (I.stkSub b hb) with e|hb
 ·rw[e];exact I.free
 ·obtain⟨_,o,j,_⟩:=I.ok.funs.mem hb
  exact I.base.free b o j (I.ok.frf b hb) λz=>I.ok.exfs b z hb
theorem Inv.step {g':Array GenState}{t':Nat}{d':lU}{ch:TU}(I:Inv X pins σ H s)
  (J:∀b∈ch,(b∈X.ex\/X.s₀.heap.objs.size<=b)/\b≠X.env.locals/\(∀x c,X.env.cells.lookup x=some c->c≠b)/\∀p∈X.pn++pins,p.1≠b)
  (keep:∀b o,b≠X.env.locals->b∉X.fs->b∉ch->s.heap.get? b=some o->H b=none->h'.get? b=some o)
  (slot:∀b o,b≠X.env.locals->b∈X.fs->b∉ch->s.heap.get? b=some o->H b=none->∃sl,h'.get? b=some {o with slots:=sl}) (free:∀b o,b∉ch->s.heap.get? b=some o->H b=none->H' b=none)
  (there:∀b o,b∉ch->s.heap.get? b=some o->∃o',h'.get? b=some o')
  (o0:∀b xs,H b=some (.tup xs)->H' b=some (.tup xs)) (o5:∀b o u,H b=some (.frz o u)->H' b=some (.frz o u)) (o6:∀b ps,H b=some (.tbl ps)->∃o7,H' b=some (.tbl (ps++o7)))
  (ns:∀m,s.heap.Ns X.env.locals m->h'.Ns X.env.locals m) (hok:Vz X.prog X.w H' h') (hg:iS g') :
  Inv X pins σ H' {s with heap:=h',gens:=g',drawn:=d',toks:=t'}:=by
 have o8:∀b o,X.s₀.heap.get? b=some o->b≠X.env.locals:=λb o e=>ay (aE (Zp e) I.ok.above);have neC:∀b o,X.s₀.heap.get? b=some o->b∉X.ex->b∉ch:=λb o e j hb=>by
  rcases (J b hb).1 with z|z
  ·exact j z
  ·exact absurd (aE (Zp e) z) (ck _)
 have M:∀x c,X.env.cells.lookup x=some c->∀v,s.heap.IsCell c v->h'.IsCell c v:=λx c e v ⟨o,Y,hd⟩=>by
  have O:c∉ch:=λz=>(J c z).2.2.1 x c e rfl;by_cases hc:c∈X.fs
  ·obtain⟨sl,q⟩:=slot c o (I.cne x c e) hc O Y (I.freeC x c e)
   exact⟨_,q,hd⟩
  ·exact⟨o,keep c o (I.cne x c e) hc O Y (I.freeC x c e),hd⟩
 refine⟨I.ok,I.os,hg,⟨λb o e n hb j=>?_,λb o e n hb j=>?_,λb o e n j=>?_,λb o e j=>?_,λb xs e=>o0 b xs (I.base.tups b xs e),λb o xs e=>o5 b o xs (I.base.frzs b o xs e),λb ps e=>?_⟩,?_,λx c e=>?_,?_,λx c e=>?_,λp hp=>?_,hok,I.len⟩
 ·exact keep b o (o8 b o e) hb (neC b o e j) (I.base.keep b o e n hb j) (I.base.free b o e n j)
 ·obtain⟨sl,U⟩:=I.base.slot b o e n hb j
  obtain⟨o9,e2⟩:=slot b _ (o8 b o e) hb (neC b o e j) U (I.base.free b o e n j);exact⟨o9,e2⟩
 ·obtain⟨o',U⟩:=I.base.there b o e j
  exact free b o' (neC b o e j) U (I.base.free b o e n j)
 ·obtain⟨o',U⟩:=I.base.there b o e j
  exact there b o' (neC b o e j) U
 ·obtain⟨m1,U⟩:=I.base.tbls b ps e
  obtain⟨m2,e2⟩:=o6 b _ U;exact⟨m1++m2,by rw[e2,Array.append_assoc]⟩
 ·obtain⟨m,hn,hl⟩:=I.loc
  refine⟨m,ns m hn,λi x v U e2 e3=>?_⟩;obtain⟨u,r,l⟩:=hl i x v U e2 e3;refine⟨u,r,?_⟩;rcases l with l|⟨k,c,e,z⟩
  ·exact .inl l
  ·exact .inr ⟨k,c,e,M x c e _ z⟩
 ·obtain⟨v,z⟩:=I.cell x c e
  exact⟨v,M x c e v z⟩
 ·obtain⟨m,⟨o,_,_,Y,_⟩,_⟩:=I.loc
  exact free _ o (λz=>(J _ z).2.1 rfl) Y I.free
 ·obtain⟨v,o,Y,hd⟩:=I.cell x c e
  exact free c o (λz=>(J c z).2.2.1 x c e rfl) Y (I.freeC x c e)
 ·obtain⟨e,n,ne,nf,d⟩:=I.pin p hp
  have O:p.1∉ch:=λz=>(J p.1 z).2.2.2 p hp rfl;exact⟨keep p.1 p.2 ne nf O e n,free p.1 p.2 O e n,ne,nf,d⟩
theorem Inv.un {t':Nat}(I:Inv X pins σ H s)(u:Un X.fs [] H H' s.heap h')(J:Vz X.prog X.w H' h'):Inv X pins σ H' {s with heap:=h',toks:=t'}:=by
 obtain⟨m,⟨o,es,ep,U,r⟩,_⟩:=id I.loc;obtain⟨sl,Y⟩:=u.any U I.free (by simp);exact I.step (g':=s.gens) (d':=s.drawn) (ch:=[]) (λ_ z=>nomatch z) (λb o _ hb _ e n=>u.keep b o e n hb (by simp)) (λb o _ hb _ e n=>u.slot b o e n hb (by simp)) (λb o _ e n=>u.free b o e n (by simp)) (λb o _ e=>u.there b o e (by simp)) u.tups u.frzs u.tbls (λm' hm=>by
  obtain⟨o',M,O,j,r'⟩:=hm;rw[U] at j;cases j;exact⟨_,M,O,Y,r'⟩) J I.bare
theorem Inv.call {g':Array GenState}{t':Nat}{d':lU}{ch:TU}(I:Inv X pins σ H s)(u:Un (frs X.stack) ch H H' s.heap h')(O:Vz X.prog X.w H' h')(hg:iS g')
  (J:∀b∈ch,(b∈X.ex\/X.s₀.heap.objs.size<=b)/\b≠X.env.locals/\(∀x c,X.env.cells.lookup x=some c->c≠b)/\∀p∈X.pn++pins,p.1≠b) :
  Inv X pins σ H' {s with heap:=h',gens:=g',drawn:=d',toks:=t'}:=by
 obtain⟨m,⟨o,es,ep,ho,r⟩,_⟩:=id I.loc;obtain⟨sl,U⟩:=u.any ho I.free λz=>(J _ z).2.1 rfl;exact I.step (ch:=ch) J (λb o U hb j e n=>u.keep b o e n (λz=>(aH.mp (I.stkSub b z)).elim U hb) j) (λb o _ _ j e n=>u.any e n j) (λb o j e n=>u.free b o e n j) (λb o j e=>u.there b o e j) u.tups u.frzs u.tbls (λm' hm=>by
  obtain⟨o',Y,o0,M,r'⟩:=hm;rw[ho] at M;cases M;exact⟨_,Y,o0,U,r'⟩) O hg
theorem Inv.turned {t':Nat}{it:Addr}(I:Inv X pins σ H s)(k:∀b o,b≠it->s.heap.get? b=some o->h'.get? b=some o)(O:H it=none)(M:it≠X.env.locals)
  (U:it∈X.ex\/X.s₀.heap.objs.size<=it) (Y:∀x c,X.env.cells.lookup x=some c->c≠it) (h3:∀p∈X.pn++pins,p.1≠it):Inv X pins σ H {s with heap:=h',toks:=t'}:=by
 have J:∀b u,H b=some u->b≠it:=λb u e z=>by rw[z,O] at e;cases e
 refine I.step (g':=s.gens) (d':=s.drawn) (ch:=[it]) (λb hb=>?_) (λb o _ _ j e _=>k b o (λz=>j (by simp[z])) e) (λb o _ _ j e _=>⟨o.slots,k b o (λz=>j (by simp[z])) e⟩) (λ_ _ _ _ n=>n)
  (λb o j e=>⟨o,k b o (λz=>j (by simp[z])) e⟩) (λ_ _ e=>e) (λ_ _ _ e=>e) (λb ps e=>⟨#[],by rw[e];simp⟩) (λm hm=>?_) (λb u e=>?_) I.bare
 ·have e:b=it:=by simpa using hb
  subst e;exact⟨U,M,Y,h3⟩
 ·obtain⟨o,es,ep,ho,r⟩:=hm
  exact⟨o,es,ep,k _ o (bV M) ho,r⟩
 ·refine (I.hok b u e).stay (λc v j q=>k c v ?_ q) (λ_ q=>q) λ_ _ q=>q
  rcases j with z|z
  ·rw[z];exact J b u e
  ·exact J c _ z
theorem Inv.tok (I:Inv X pins σ H s)(t:Nat):Inv X pins σ H {s with toks:=t}:=I.un (h':=s.heap) (t':=t) Un.refl I.hok
theorem Inv.kept {t':Nat}(I:Inv X pins σ H s)(k:∀b u,s.heap.get? b=some u->h'.get? b=some u):Inv X pins σ H {s with heap:=h',toks:=t'}:=I.un (Un.kept k) (I.hok.kept k)
theorem Inv.laid {a:Addr}{o:HO}{t':Nat}(I:Inv X pins σ H s)(k:∀b u,s.heap.get? b=some u->h'.get? b=some u)(j:s.heap.objs.size<=a)(J:YH X.prog X.w (upd H a o) h' a o) :
  Inv X pins σ (upd H a o) {s with heap:=h',toks:=t'}:=I.un (Un.laid k j (I.hok.fresh j)) (I.hok.laid k j J)
theorem Inv.write {x e:Addr}{o:HO}{t':Nat}(I:Inv X pins σ H s)(M:Mut (H x))(O:e=x\/H e=some (.own x))(k:∀b u,b≠e->s.heap.get? b=some u->h'.get? b=some u)(j:∃u,h'.get? e=some u)
  (J:YH X.prog X.w (upd H x o) h' x o):Inv X pins σ (upd H x o) {s with heap:=h',toks:=t'}:=I.un (Un.write M O k j) (I.hok.write M O k j J)
theorem Inv.pins_of {j:List (Addr×Obj)}(I:Inv X pins σ H s)(h:∀p∈j,s.heap.get? p.1=some p.2/\H p.1=none/\p.1≠X.env.locals/\p.1∉X.fs/\∀v,p.2.data≠.cell v):Inv X j σ H s:=
 ⟨I.ok,I.os,I.bare,I.base,I.loc,I.cell,I.free,I.freeC,λp J=>(bv.mp J).elim (λz=>I.pin p (cq _ z)) (h p),I.hok,I.len⟩
theorem Zdn {N:List Str}(J:N.Nodup){i j:Nat}{x:Str}(a:N[i]?=some x)(b:N[j]?=some x):i=j:=by
 obtain⟨U,M⟩:=ab.mp a;obtain⟨Y,O⟩:=ab.mp b;exact (List.getElem_inj J).mp (M.trans O.symm)
theorem ZaT {M:Model}{A:Around}{E:TW}{i:Nat}{x:Str}{v:V}{u:Value}{Q:Unit->Shared->Prop}(I:Inv X pins σ H s)(hN:X.N.Nodup)(hi:X.N[i]?=some x)(hx:Loc X.env.scope x)(r:RelV v u)
  (h:∀s',Inv X pins (σ.set i (some v)) H s'->(∃a,bq a s.heap s'.heap/\(a=X.env.locals\/X.env.cells.lookup x=some a))->Q () s') (hf:X.fn x=true\/X.env.scope.names.lookup x=some .local:=by first|exact .inl rfl|exact .inr rfl|assumption):wpAny M A (storeName X.env x u) Q E s:=by
 obtain⟨m,hn,hl⟩:=id I.loc;have o7:(X.env.scope.kind == .class || (X.env.scope.kind == .module && X.env.locals != X.env.globals))=false:=by rw[I.ok.kind];rfl
 have o5:i < σ.length:=by rw[I.len];exact (ab.mp hi).1
 have cne:=I.cne;have O:∀{a:Addr}{h':Heap},(∃o,s.heap.get? a=some o/\H a=none)->bq a s.heap h'->Vz X.prog X.w H h':=λ{a h'} ha J b ob e=>by
  obtain⟨_,_,o0⟩:=ha;refine (I.hok b ob e).stay (λc w' Y q=>(J.2 c ?_).trans q) (λ_ q=>q) λ_ _ q=>q;rintro rfl;rcases Y with rfl|Y
  ·rw[o0] at e;cases e
  ·rw[o0] at Y;cases Y
 rcases hx with hk|hk
 ·refine wpAny_storeName_local hk hn (λh' p8 J=>?_) o7
  obtain⟨oL,_,_,q0,_⟩:=id hn;refine h _ ⟨I.ok,I.os,I.bare,⟨λb o e n hb hx=>?_,λb o e n hb hx=>?_,I.base.free,λb o e hx=>?_,I.base.tups,I.base.frzs,I.base.tbls⟩,⟨_,p8,λj y v' U e2 e3=>?_⟩,λy c e=>?_,I.free,I.freeC,λp hp=>?_,O ⟨oL,q0,I.free⟩ J,by simpa using I.len⟩ ⟨_,J,.inl rfl⟩
  ·exact (J.2 b (ay (aE (Zp e) I.ok.above))).trans (I.base.keep b o e n hb hx)
  ·obtain⟨sl,U⟩:=I.base.slot b o e n hb hx
   exact⟨sl,(J.2 b (ay (aE (Zp e) I.ok.above))).trans U⟩
  ·obtain⟨o',U⟩:=I.base.there b o e hx
   exact⟨o',(J.2 b (ay (aE (Zp e) I.ok.above))).trans U⟩
  ·by_cases hj:j=i
   ·subst hj
    rw[hi] at U;cases U;rw[fM o5] at e2;cases e2;exact⟨u,r,.inl ⟨hk,by simp⟩⟩
   ·rw[f6 (bV hj)] at e2
    obtain⟨u',r',q⟩:=hl j y v' U e2 e3;refine⟨u',r',?_⟩;rcases q with ⟨k,e⟩|⟨k,c,e,z⟩
    ·refine .inl ⟨k,?_⟩
     have:y≠x:=λe=>hj (Zdn hN U (e▸hi));simp[this,e]
    ·exact .inr ⟨k,c,e,z.sameBut J (cne y c e)⟩
  ·obtain⟨w',z⟩:=I.cell y c e
   exact⟨w',z.sameBut J (cne y c e)⟩
  ·obtain⟨e,n,ne,nf,d⟩:=I.pin p hp
   exact⟨(J.2 p.1 ne).trans e,n,ne,nf,d⟩
 ·have o6:X.fn x=true:=by
   rcases hf with z|z
   ·exact z
   ·rw[z] at hk;cases hk
  obtain⟨c,Y⟩:=I.ok.has x (.inl hk);obtain⟨w',z⟩:=I.cell x c Y;refine wpAny_storeName_cell I.ok.kind hk Y z (λh' o8 J=>?_);obtain⟨oc,o9,p6⟩:=id z;refine h {s with heap:=h'} ⟨I.ok,I.os,I.bare,⟨λb o e n hb hx=>?_,λb o e n hb hx=>?_,I.base.free,λb o e hx=>?_,I.base.tups,I.base.frzs,I.base.tbls⟩,⟨m,hn.sameBut J (bV (cne x c Y)),λj y v' U e2 e3=>?_⟩,λy c' e=>?_,I.free,I.freeC,λp hp=>?_,O ⟨oc,o9,I.freeC x c Y⟩ J,by simpa using I.len⟩ ⟨c,J,.inr Y⟩
  ·exact (J.2 b (ay (aE (Zp e) (I.ok.cab x c o6 Y)))).trans (I.base.keep b o e n hb hx)
  ·obtain⟨sl,U⟩:=I.base.slot b o e n hb hx
   exact⟨sl,(J.2 b (ay (aE (Zp e) (I.ok.cab x c o6 Y)))).trans U⟩
  ·obtain⟨o',U⟩:=I.base.there b o e hx
   exact⟨o',(J.2 b (ay (aE (Zp e) (I.ok.cab x c o6 Y)))).trans U⟩
  ·by_cases hj:j=i
   ·subst hj
    rw[hi] at U;cases U;rw[fM o5] at e2;cases e2;exact⟨u,r,.inr ⟨.inl hk,c,Y,o8⟩⟩
   ·rw[f6 (bV hj)] at e2
    obtain⟨u',r',q⟩:=hl j y v' U e2 e3;refine⟨u',r',?_⟩;rcases q with q|⟨k,c',e,z'⟩
    ·exact .inl q
    ·refine .inr ⟨k,c',e,z'.sameBut J ?_⟩
     rintro rfl;exact hj (Zdn hN U (I.ok.inj _ _ _ e Y▸hi))
  ·by_cases p7:c'=c
   ·subst p7;exact⟨_,o8⟩
   ·obtain⟨w2,z2⟩:=I.cell y c' e
    exact⟨w2,z2.sameBut J p7⟩
  ·obtain⟨e,n,ne,nf,d⟩:=I.pin p hp
   refine⟨(J.2 p.1 ?_).trans e,n,ne,nf,d⟩;intro q;rw[q,o9] at e;have q':oc=p.2:=aA e;exact d w' (by rw[<-q'];exact p6)
theorem Jp {M:Model}{A:Around}{E:TW}{i:Nat}{x:Str}{v:V}{u:Value}{Q:Unit->Shared->Prop}(I:Inv X pins σ H s)(j:X.N.Nodup)(J:X.N[i]?=some x)(O:Loc X.env.scope x)(r:RelV v u)
  (h:∀s',Inv X pins (σ.set i (some v)) H s'->Q () s') (U:X.fn x=true\/X.env.scope.names.lookup x=some .local:=by first|exact .inl rfl|exact .inr rfl|assumption):wpAny M A (storeName X.env x u) Q E s:=
 ZaT I j J O r (λs' Y _=>h s' Y) U
theorem Inv.call' {s':Shared}{ch:TU}(I:Inv X pins σ H s)(Y:s'.os=s.os)(u:Un (frs X.stack) ch H H' s.heap s'.heap)(j:Vz X.prog X.w H' s'.heap)(hg:iS s'.gens)
  (J:∀b∈ch,(b∈X.ex\/X.s₀.heap.objs.size<=b)/\b≠X.env.locals/\(∀x c,X.env.cells.lookup x=some c->c≠b)/\∀p∈X.pn++pins,p.1≠b):Inv X pins σ H' s':=by
 obtain⟨h',M,O,U,o'⟩:=s';have e:o'=s.os:=Y;subst e;exact I.call (g':=M) (t':=U) (d':=O) u j hg J
end
noncomputable abbrev XK:=Value->Option Addr->Hp->Prop
noncomputable abbrev St:=List TQ
noncomputable abbrev VK:=V->Hp->Prop
noncomputable abbrev TE:=St->Hp->VK->Prop
noncomputable abbrev TT:=St->Hp->(Bool->Hp->Prop)->Prop
noncomputable abbrev TA:=St->Hp->(TR->Hp->Prop)->Prop
structure WY where
 nx:St->Hp->Prop
 rt:VK
 bk:St->Hp->Prop:=λ_ _=>False
 ct:St->Hp->Prop:=λ_ _=>False
noncomputable abbrev TS:=WY->St->Hp->Prop
def EP (X:Cx)(j:List (Addr×Obj))(M:St)(Q:VK)(u:Value)(s':Shared):Prop:=∃v J,Inv X j M J s'/\RelV v u/\Q v J
def TP (X:Cx)(j:List (Addr×Obj))(M:St)(Q:Bool->Hp->Prop)(b:Bool)(s':Shared):Prop:=∃J,Inv X j M J s'/\Q b J
def AP (X:Cx)(j:List (Addr×Obj))(O:St)(Q:TR->Hp->Prop)(U:List Value)(s':Shared):Prop:=∃J M,Inv X j O M s'/\ZN J U/\Q J M
def SP (X:Cx)(J:List (Addr×Obj))(D:WY)(f:Flow)(s':Shared):Prop:=
 match f with
 | .next=>∃ j M,Inv X J j M s'/\D.nx j M
 | .brk=>∃ j M,Inv X J j M s'/\D.bk j M
 | .cont=>∃ j M,Inv X J j M s'/\D.ct j M
 | .ret u=>∃v j M,Inv X J j M s'/\RelV v u/\D.rt v M
def PE (X:Cx)(e:Expr)(t:TE):Prop:=
 ∀(j:List (Addr×Obj)) (s:Shared) (J:St) (H:Hp) (Q:VK),Inv X j J H s->t J H Q->wpAny (model X.prog X.w) X.A (eval e X.env) (EP X j J Q) X.xe s
def PT (X:Cx)(e:Expr)(t:TT):Prop:=
 ∀(j:List (Addr×Obj)) (s:Shared) (J:St) (H:Hp) (Q:Bool->Hp->Prop),Inv X j J H s->t J H Q->wpAny (model X.prog X.w) X.A (isTrue e X.env (eval e X.env)) (TP X j J Q) X.xe s
def PW (X:Cx)(e:Expr)(t:TT):Prop:=
 ∀(J:Sem Value) (j:List (Addr×Obj)) (s:Shared) (M:St) (H:Hp) (Q:Bool->Hp->Prop),Inv X j M H s->t M H Q->wpAny (model X.prog X.w) X.A (isTrue e X.env J) (TP X j M Q) X.xe s
theorem PW.pt {X:Cx}{e:Expr}{t:TT}(h:PW X e t):PT X e t:=h _
def PA (X:Cx)(M:List Expr)(t:TA):Prop:=
 ∀(pos:Pos) (j:List (Addr×Obj)) (s:Shared) (J:St) (H:Hp) (Q:TR->Hp->Prop),Inv X j J H s->t J H Q->wpAny (model X.prog X.w) X.A (spliced (backTo pos (starEach M X.env))) (AP X j J Q) X.xe s
def PS (X:Cx)(st:Stmt)(t:TS):Prop:=
 ∀(j:List (Addr×Obj)) (s:Shared) (J:St) (H:Hp) (D:WY),Inv X j J H s->t D J H->wpAny (model X.prog X.w) X.A (exec st X.env) (SP X j D) X.xe s
def PSs (X:Cx)(st:List Stmt)(t:TS):Prop:=
 ∀(j:List (Addr×Obj)) (s:Shared) (J:St) (H:Hp) (D:WY),Inv X j J H s->t D J H->wpAny (model X.prog X.w) X.A (execs st X.env) (SP X j D) X.xe s
theorem Yo {α:Type}{t:Sem α}{Q j:α->Shared->Prop}{M:Model}{A:Around}{E:TW}{s:Shared}(h:wpAny M A t Q E s)(J:∀a s,Q a s->j a s):wpAny M A t j E s:=cH h J λ_ _ x=>x
section
variable {X:Cx}
inductive ZkA (i:Nat) (σ:L2.St) (H:Hp) (Q:VK):Prop
 |mk (v:_):(σ[i]?=some (some v))->(Q v H)->ZkA i σ H Q
def tC (v:V):TE:=λ_ H Q=>Q v H
theorem ZnC {i:Nat}{x:Str}{pos:Pos}(hN:X.N[i]?=some x)(hv:Vis X.env.scope x)(U:(x == ("__debug__":Str))=false:=by decide)(Y:(x == ("__classdict__":Str))=false:=by decide):PE X (.Name x pos) (ZkA i):=by
 intro O s σ H Q I h;obtain⟨v,e,h⟩:=h;obtain⟨m,hn,hl⟩:=I.loc;obtain⟨u,r,l⟩:=hl i x v hN e hv;have J:EP X O σ Q u s:=⟨v,H,I,r,h⟩;rcases l with ⟨M,hm⟩|⟨M,c,hc,j⟩
 ·exact wpAny_Name (wpAny_loadName_local I.ok.kind M hn hm J) U
 ·rcases M with M|M
  ·exact wpAny_Name (wpAny_loadName_cell I.ok.kind M hc j J) U
  ·exact wpAny_Name (wpAny_loadName_free I.ok.kind M hc j J Y) U
theorem Zw {i j pos}:PE X (.Constant (.int i) j pos) (tC (.int i)):=λ_ _ _ H _ I h=>wpAny_Constant_int ⟨.int i,H,I.tok _,⟨_,rfl⟩,h⟩
theorem U3 {b j pos}:PE X (.Constant (.bool b) j pos) (tC (.bl b)):=λ_ _ _ H _ I h=>Constant_bool ⟨.bl b,H,I,rfl,h⟩
theorem Jf {j pos}:PE X (.Constant .none j pos) (tC .non):=λ_ _ _ H _ I h=>Constant_none ⟨.non,H,I,rfl,h⟩
theorem Je {x j pos}:PE X (.Constant (.str x) j pos) (tC (.str x)):=λ_ _ _ H _ I h=>Calls.Constant_str ⟨.str x,H,I.tok _,⟨_,rfl⟩,h⟩
def Gl (X:Cx)(x:Str):Prop:=X.env.kindOf x=some .globalImplicit
theorem ZlM {E:TW}{j:List (Addr×Obj)}{s:Shared}{σ:St}{H:Hp}{x:Str}{u:Value}{pos:Pos}{Q:TW}(I:Inv X j σ H s)(J:Gl X x)(M:X.mg x=some u)(h:Q u s)
  (O:(x == ("__debug__":Str))=false:=by decide):wpAny (model X.prog X.w) X.A (eval (.Name x pos) X.env) Q E s:=
 kg I.ok.kind J (Calls.loadGlobal_global (by rw[I.ok.glob];exact I.mod.glob.keeps I.bk) M h) O
theorem JD {E:TW}{j:List (Addr×Obj)}{s:Shared}{σ:St}{H:Hp}{x:Str}{u:Value}{pos:Pos}{Q:TW}(I:Inv X j σ H s)(J:Gl X x)(M:X.mg x=none)(O:bootBuiltins x=some u)(h:Q u s)
  (U:x ≠ "__name__":=by decide) (Y:(x == ("__debug__":Str))=false:=by decide):wpAny (model X.prog X.w) X.A (eval (.Name x pos) X.env) Q E s:=by
 obtain⟨mb,h1,h2⟩:=I.mod.blt;exact kg I.ok.kind J (Calls.loadGlobal_builtin (by rw[I.ok.glob];exact I.mod.glob.keeps I.bk) M (by rw[I.ok.blt];exact h1.keeps I.bk) ((h2 x U).trans O) h) Y
variable {a b:Expr}{ta tb:TE}{pos:Pos}
def PC (X:Cx)(op:CmpOp)(a b:Expr)(t:TE):Prop:=
 ∀(j:List (Addr×Obj)) (s:Shared) (O:St) (H:Hp) (Q:VK),Inv X j O H s->t O H Q->
  wpAny (model X.prog X.w) X.A (eval a X.env) (λv J=>wpAny (model X.prog X.w) X.A (eval b X.env) (λu M=>wpAny (model X.prog X.w) X.A (compareOp op v u) (EP X j O Q) X.xe M) X.xe J) X.xe s
inductive iBl (Q:Bool->Hp->Prop) (x:V) (H:Hp):Prop
 |mk (c:Bool):x=.bl c->Q c H->iBl Q x H
def tB (t:TE):TT:=λj H Q=>t j H (iBl Q)
theorem Znx {op:CmpOp}{t:TE}(h:PC X op a b t)(M:behindInMarks op b=false:=by first|exact j _ (by decide) (by decide)|rfl):PT X (.Compare a [op] [b] pos) (tB t):=by
 intro J s O H Q I U;refine nQ (Yo (h J s O H _ I U) λv s1 M=>Yo M λu s2 Y=>Yo Y λc s3 ⟨x,H1,I1,r1,q1⟩=>?_) M;obtain⟨d,rfl,q⟩:=q1;cases r1;exact ip ⟨H1,I1,q⟩
theorem XL {e:Expr}{t:TE}(h:PE X e t)(M:∀j,isTrue e X.env j=(do let v <-j;standAt e.pos;holding [v] (truthy v)):=by intro _;rfl):PT X e (tB t):=by
 intro J s O H Q I U;refine isTrue_plain (Yo (h J s O H _ I U) λv s1 ⟨x,Y,I1,r1,q1⟩=>?_) (M _);obtain⟨d,rfl,q⟩:=q1;cases r1;exact ip ⟨Y,I1,q⟩
variable {tA tB':TT}{rest:List Expr}
def ZrD (t u:TT):TT:=λj H Q=>t j H λc J=>if c=true then u j J Q else Q false J
def tOr (t u:TT):TT:=λj H Q=>t j H λc J=>if c=true then Q true J else u j J Q
theorem ZkZ (J:PT X a tA):PW X (.BoolOp .And [a] pos) tA:=by
 intro O j s M H Q I h;refine isTrue_and (Yo (J j s M H Q I h) λc U e=>?_);cases c with
 |true=>exact isTrue_and_nil e
 |false=>exact e
theorem Zb4 (J:PT X a tA):PW X (.BoolOp .Or [a] pos) tA:=by
 intro O j s M H Q I h;refine isTrue_or (Yo (J j s M H Q I h) λc U e=>?_);cases c with
 |false=>exact isTrue_or_nil e
 |true=>exact e
theorem Znv (Y:PT X a tA)(hb:PW X (.BoolOp .And (b::rest) pos) tB'):PW X (.BoolOp .And (a::b::rest) pos) (ZrD tA tB'):=by
 intro wh j s J H Q I h;refine isTrue_and (Yo (Y j s J H _ I h) λc s1 ⟨M,O,U⟩=>?_);cases c with
 |true=>exact hb wh j s1 J M Q O U
 |false=>exact⟨M,O,U⟩
theorem ZfK (Y:PT X a tA)(hb:PW X (.BoolOp .Or (b::rest) pos) tB'):PW X (.BoolOp .Or (a::b::rest) pos) (tOr tA tB'):=by
 intro wh j s J H Q I h;refine isTrue_or (Yo (Y j s J H _ I h) λc s1 ⟨M,O,U⟩=>?_);cases c with
 |true=>exact⟨M,O,U⟩
 |false=>exact hb wh j s1 J M Q O U
end
def WZ (K:aa)(H:Hp)(a:Addr)(xs:TR):Prop:=
 Rd H a (.lst xs)\/
  ∃(o:Obj) (j:Array Value) (n:Nat),K.lookup a=some o/\o.cls=.type "list"/\o.dict=none/\o.data=.seq j n/\j.size<=sizeLine/\ZN xs j.toList
def WO (K:aa)(H:Hp)(a:Addr)(xs:TR):Prop:=
 Rd H a (.tup xs)\/
  ∃(o:Obj) (j:Array Value) (n:Nat),K.lookup a=some o/\o.cls=.type "tuple"/\o.data=.seq j n/\j.size<=sizeLine/\ZN xs j.toList
def Zr6:Value->TQ
 | .none=>some .non
 | .bool b=>some (.bl b)
 | .int i _=>some (.int i)
 | .str x _=>some (.str x)
 | .bytes b _=>some (.byt b)
 | .float b _=>some (.flt b)
 | .ref a=>some (.ref a)
 | .type n=>some (.ty n)
 |_=>none
theorem RelV.abs {x:V}{u:Value}(r:RelV x u):Zr6 u=some x:=by
 cases x with
 |non=>cases r;rfl
 |bl _=>cases r;rfl
 |int _=>obtain⟨t,rfl⟩:=r;rfl
 |str _=>obtain⟨t,rfl⟩:=r;rfl
 |byt _=>obtain⟨t,rfl⟩:=r;rfl
 |flt _=>obtain⟨t,rfl⟩:=r;rfl
 |ref _=>cases r;rfl
 |ty _=>cases r;rfl
theorem RelV.inj {x y:V}{u:Value}(r:RelV x u)(q:RelV y u):x=y:=aA (r.abs.symm.trans q.abs)
theorem ZN.inj:∀{xs ys:TR}{us:List Value},ZN xs us->ZN ys us->xs=ys
 |_,_,_,.nil,.nil=>rfl
 |_,_,_,.cons r t,.cons j J=>by rw[r.inj j,ZN.inj t J]
section
variable {X:Cx}{pins:List (Addr×Obj)}{σ:St}{H:Hp}{a:Addr}{xs ys:TR}
theorem WZ.of {K:aa}(h:H a=some (.lst xs)):WZ K H a xs:=.inl (.inl h)
theorem WO.of {K:aa}(h:H a=some (.tup xs)):WO K H a xs:=.inl (.inl h)
theorem Inv.list (I:Inv X pins σ H s)(h:WZ X.K H a xs):∃j:List Value,ZN xs j/\PlainL s.heap a j.toArray/\xs.length<=sizeLine:=by
 rcases h with h|⟨o,j,n,J,M,hd,O,U,r⟩
 ·obtain⟨z,j,n,r,e⟩:=h.ok I.hok
  exact⟨j,r,⟨_,n,e,rfl,rfl,rfl⟩,z⟩
 ·refine⟨j.toList,r,⟨o,n,I.kIn a o J,M,hd,by simpa using O⟩,?_⟩
  have e:=r.length;simp only[Zr] at e;omega
theorem Inv.tuple (I:Inv X pins σ H s)(h:WO X.K H a xs):∃j:List Value,ZN xs j/\jN s.heap a j.toArray/\xs.length<=sizeLine:=by
 rcases h with h|⟨o,j,n,J,M,O,U,r⟩
 ·obtain⟨z,j,r,p⟩:=h.ok I.hok
  exact⟨j,r,p,z⟩
 ·refine⟨j.toList,r,⟨o,I.kIn a o J,M,n,by simpa using O⟩,?_⟩
  have e:=r.length;simp only[Zr] at e;omega
theorem Inv.list_inj (I:Inv X pins σ H s)(h:WZ X.K H a xs)(h':WZ X.K H a ys):xs=ys:=by
 obtain⟨J,r,⟨o,n,e,_,_,d⟩,_⟩:=I.list h;obtain⟨j,U,⟨Y,n',M,_,_,O⟩,_⟩:=I.list h';rw[e] at M;cases M;rw[d] at O;injection O with d1 _;have:J=j:=by simpa using congrArg Array.toList d1
 subst this;exact r.inj U
theorem Inv.tuple_inj (I:Inv X pins σ H s)(h:WO X.K H a xs)(h':WO X.K H a ys):xs=ys:=by
 obtain⟨J,r,⟨o,e,_,n,d⟩,_⟩:=I.tuple h;obtain⟨j,U,⟨Y,M,_,n',O⟩,_⟩:=I.tuple h';rw[e] at M;cases M;rw[d] at O;injection O with d1 _;have:J=j:=by simpa using congrArg Array.toList d1
 subst this;exact r.inj U
end
noncomputable abbrev Cx.wish (X:Cx)(E:TW):Cx:={X with xe:=E}
noncomputable abbrev Cx.nox (X:Cx):Cx:=X.wish λ_ _=>False
theorem Cx.Ok.wish {X:Cx}(ok:X.Ok)(E:TW):(X.wish E).Ok:=
 ⟨ok.mod,ok.kind,ok.glob,ok.blt,ok.above,ok.inj,ok.has,ok.cab,ok.hd,ok.frames,ok.stk,ok.exf,ok.bs,ok.bsz,ok.noex,ok.exfs,ok.funs,ok.frf⟩
theorem Cx.Ok.unwish {X:Cx}{E:TW}(ok:(X.wish E).Ok):X.Ok:=
 ⟨ok.mod,ok.kind,ok.glob,ok.blt,ok.above,ok.inj,ok.has,ok.cab,ok.hd,ok.frames,ok.stk,ok.exf,ok.bs,ok.bsz,ok.noex,ok.exfs,ok.funs,ok.frf⟩
section
variable {X:Cx}{pins:List (Addr×Obj)}{σ:St}{H:Hp}
theorem Inv.wish (I:Inv X pins σ H s)(E:TW):Inv (X.wish E) pins σ H s:=⟨I.ok.wish E,I.os,I.bare,I.base,I.loc,I.cell,I.free,I.freeC,I.pin,I.hok,I.len⟩
theorem Inv.unwish (I:Inv (X.wish E) pins σ H s):Inv X pins σ H s:=⟨I.ok.unwish,I.os,I.bare,I.base,I.loc,I.cell,I.free,I.freeC,I.pin,I.hok,I.len⟩
theorem SP.unwish {D:WY}{f:Flow}{s':Shared}(h:SP (X.wish E) pins D f s'):SP X pins D f s':=by
 cases f with
 |next=>obtain⟨j,J,I,q⟩:=h;exact⟨j,J,I.unwish,q⟩
 |brk=>obtain⟨j,J,I,q⟩:=h;exact⟨j,J,I.unwish,q⟩
 |cont=>obtain⟨j,J,I,q⟩:=h;exact⟨j,J,I.unwish,q⟩
 |ret u=>obtain⟨v,j,J,I,r,q⟩:=h;exact⟨v,j,J,I.unwish,r,q⟩
theorem PSs.nox {st:List Stmt}{t:TS}(h:PSs X.nox st t):PSs X st t:=λpins s σ H D I j=>
 cH (h pins s σ H D (I.wish _) j) (λ_ _ q=>q.unwish) λ_ _ z=>eF z
end
section
variable {X:Cx}{st:Stmt}{rest:List Stmt}{t u:TS}{e:Expr}{te:TE}{pos:Pos}
def Zpp:TS:=λD j H=>D.nx j H
noncomputable def WY.sq (D:WY)(n:St->Hp->Prop):WY:={D with nx:=n}
def WY.lp (D:WY)(n:St->Hp->Prop):WY:={D with nx:=n,ct:=n,bk:=D.nx}
def Znd (t u:TS):TS:=λD j H=>t (D.sq (u D)) j H
theorem Z2:PSs X [] Zpp:=λ_ _ j H _ I h=>iW ⟨j,H,I,h⟩
theorem Zu (M:PS X st t)(O:PSs X rest u):PSs X (st::rest) (Znd t u):=by
 intro j s U H D I h;refine wpAny_execs_cons (Yo (M j s U H (D.sq (u D)) I h) λf Y q=>?_);cases f with
 |next=>
  obtain⟨J,H',I',q⟩:=q;exact O j Y J H' D I' q
 |ret v=>exact q
 |brk=>exact q
 |cont=>exact q
theorem Zv (J:PS X st t):PSs X [st] t:=by
 intro j s M H D I h;refine wpAny_execs_cons (Yo (J j s M H D I h) λf O q=>?_);cases f with
 |next=>exact iW q
 |ret v=>exact q
 |brk=>exact q
 |cont=>exact q
theorem Inv.quiet {j:List (Addr×Obj)}{σ:St}{H:Hp}{s:Shared}(I:Inv X j σ H s):interactive X.env=false:=by simp[interactive,I.ok.kind]
def ZhU (te:TE):TS:=λD j H=>te j H λ_ J=>D.nx j J
theorem Yx (M:PE X e te)(O:swapsWith e none pos.line X.env=pure false:=by rfl):PS X (.Expr e pos) (ZhU te):=by
 intro j s J H D I h;exact wpAny_Expr_any (Yo (M j s J H _ I h) λv s1 ⟨x,U,Y,r1,q1⟩=>⟨J,U,Y,q1⟩) I.quiet O
def Zry (te:TE):TS:=λD j H=>te j H D.rt
theorem ZE (J:PE X e te):PS X (.Return (some e) pos) (Zry te):=by
 intro j s σ H D I h;exact wpAny_Return_some (Yo (J j s σ H _ I h) λv Y ⟨x,M,O,r1,U⟩=>⟨x,σ,M,O,r1,U⟩)
def Zpq (c:TT)(t u:TS):TS:=λD j H=>c j H λb J=>if b=true then t D j J else u D j J
theorem YU {c:Expr}{a b:List Stmt}{M:TT}(hc:PT X c M)(ha:PSs X a t)(hb:PSs X b u):PS X (.If c a b pos) (Zpq M t u):=by
 intro j s J H D I h;refine wpAny_If (Yo (hc j s J H _ I h) λd O ⟨U,Y,q1⟩=>?_);cases d with
 |true=>exact ha j O J U D Y q1
 |false=>exact hb j O J U D Y q1
end
noncomputable abbrev TG:=V->St->Hp->(St->Hp->Prop)->Prop
noncomputable abbrev TGs:=TR->St->Hp->(St->Hp->Prop)->Prop
def PG (X:Cx)(j:Expr)(t:TG):Prop:=
 ∀(J:List (Addr×Obj)) (s:Shared) (O:St) (H:Hp) (v:V) (u:Value) (Q:St->Hp->Prop),Inv X J O H s->RelV v u->t v O H Q->
  wpAny (model X.prog X.w) X.A (assign j X.env u) (λ_ Y=>∃ M U,Inv X J M U Y/\Q M U) X.xe s
def PGs (X:Cx)(ts:List Expr)(t:TGs):Prop:=
 ∀(j:List (Addr×Obj)) (s:Shared) (M:St) (H:Hp) (O:TR) (U:List Value) (Q:St->Hp->Prop),Inv X j M H s->ZN O U->t O M H Q->
  wpAny (model X.prog X.w) X.A (assignInOrder ((assignEach ts X.env).map (·.2)) U) (λ_ s'=>∃ J Y,Inv X j J Y s'/\Q J Y) X.xe s
noncomputable abbrev Zkk:=V->V->V->Hp->(Hp->Prop)->Prop
def ZoU (X:Cx)(t:Zkk):Prop:=
 ∀(j:List (Addr×Obj)) (s:Shared) (J:St) (H:Hp) (o i v:V) (M O u:Value) (Q:Hp->Prop),Inv X j J H s->RelV o M->RelV i O->RelV v u->t o i v H Q->
  wpAny (model X.prog X.w) X.A (setItem M O u) (λ_ Y=>∃U,Inv X j J U Y/\Q U) X.xe s
noncomputable abbrev TIp:=V->V->Hp->VK->Prop
def PIp (X:Cx)(op:lR)(t:TIp):Prop:=
 ∀(j:List (Addr×Obj)) (s:Shared) (J:St) (H:Hp) (x y:V) (v u:Value) (Q:VK),Inv X j J H s->RelV x v->RelV y u->t x y H Q->
  wpAny (model X.prog X.w) X.A (inplaceOp op v u) (EP X j J Q) X.xe s
section
variable {X:Cx}{pos:Pos}
def Ym (i:Nat):TG:=λv j H Q=>Q (j.set i (some v)) H
theorem ZfN {i:Nat}{x:Str}(J:X.N.Nodup)(M:X.N[i]?=some x)(O:Loc X.env.scope x)(U:X.fn x=true\/X.env.scope.names.lookup x=some .local:=by first|exact .inl rfl|exact .inr rfl|assumption):PG X (.Name x pos) (Ym i):=by
 intro j s σ H v u Q I r h;exact wpAny_assign_Name (Jp I J M O r (λs' Y=>⟨_,H,Y,h⟩) U)
inductive ZeT (vs:TR) (σ:L2.St) (H:Hp) (Q:(L2.St->Hp->Prop)):Prop
 |mk:(vs=[])->(Q σ H)->ZeT vs σ H Q
inductive JO (t:TG) (u:TGs) (vs:TR) (σ:L2.St) (H:Hp) (Q:(L2.St->Hp->Prop)):Prop
 |mk (v:_) (r:_):(vs=v::r)->(t v σ H λσ' H'=>u r σ' H' Q)->JO t u vs σ H Q
theorem Zk5:PGs X [] ZeT:=by
 intro j s J H M O Q I r h;obtain⟨e,h⟩:=h;subst e;cases r;exact assignInOrder_nil ⟨J,H,I,h⟩
theorem Zdf {e:Expr}{J:List Expr}{t:TG}{u:TGs}(O:PG X e t)(U:PGs X J u)
  (Y:(assignEach (e::J) X.env).map (·.2)=assign e X.env::(assignEach J X.env).map (·.2):=by rfl):PGs X (e::J) (JO t u):=by
 intro j s σ H vs us Q I r h;obtain⟨v,vr,e1,h⟩:=h;subst e1;cases r with
 |cons r rr=>
  rw[Y];refine assignInOrder_cons (Yo (O j s σ H _ _ _ I r h) λ_ s1 ⟨M,H1,I1,q1⟩=>?_);exact U j s1 M H1 _ _ Q I1 rr q1
inductive ZeS (K:aa) (n:Nat) (t:TGs) (v:V) (σ:L2.St) (H:Hp) (Q:(L2.St->Hp->Prop)):Prop
 |mk (a:_) (xs:_):(v=.ref a)->(WO K H a xs)->(xs.length=n)->(t xs σ H Q)->ZeS K n t v σ H Q
theorem ZnA {J:List Expr}{k:Nat}{t:TGs}{n:Nat}(hc:X.calm=true)(h:PGs X J t)
  (hn:(assignEach J X.env).length=n:=by rfl) (M:(assignEach J X.env).findIdx? (·.1)=none:=by rfl):PG X (.Tuple J k pos) (ZeS X.K n t):=by
 intro j s U H v u Q I r O;obtain⟨a,xs,e1,hq,hl,O⟩:=O;subst e1;cases r;obtain⟨o0,Y,ht,hz⟩:=I.tuple hq;refine assign_Tuple_tuple (I.ok.hd hc) ht (by simp[hn,<-hl,Y.length]) M λh' hx=>?_;have I1:Inv X j U H {s with heap:=h'}:=I.kept (t':=s.toks) λb o e=>hx b o (ay (Zp e)) e;exact h j _ U H xs _ Q I1 (by simpa using Y) O
def ZrU (J ti:TE)(t:Zkk):TG:=λv j H Q=>J j H λo M=>ti j M λi O=>t o i v O λU=>Q j U
theorem U2 {o i:Expr}{to ti:TE}{t:Zkk}(O:PE X o to)(U:PE X i ti)(Y:ZoU X t)
  (ha:∀v,assign (.Subscript o i pos) X.env v=(do
   let J <-holding [v] (eval o X.env)
   let iv <-holding [v,J] (eval i X.env)
   standAt pos
   holding [v,J,iv] (setItem J iv v)
   release [v,J,iv] []):=by intro _;rfl):PG X (.Subscript o i pos) (ZrU to ti t):=by
 intro j s M H v u Q I r h;rw[ha];refine Zl (cn (Yo (O j s M H _ I h) λJ s1 ⟨x,H1,I1,r1,q1⟩=>?_));refine Zl (cn (Yo (U j s1 M H1 _ I1 q1) λiv s2 ⟨y,H2,I2,r2,q2⟩=>?_));refine Zl (mw (Zl (cn (Yo (Y j s2 M H2 x y v J iv u _ I2 r1 r2 r q2) λ_ s3 ⟨H3,I3,q3⟩=>?_))));exact wpAny_release ⟨M,H3,I3,q3⟩
def Zd9 (J:TE)(g:TG):TS:=λD j H=>J j H λx M=>g x j M D.nx
theorem UY {J e:Expr}{M:TE}{g:TG}(U:PE X e M)(Y:PG X J g)(hs:swapsWithSole [J] e pos.line X.env=pure false:=by rfl)(hw:swappedStores [J] e X.env=pure none:=by rfl)
  (h1:(assignEach [J] X.env).map (·.2)=[assign J X.env]:=by rfl):PS X (.Assign [J] e pos) (Zd9 M g):=by
 intro j s O H D I h;refine wpAny_Assign_stores (Yo (U j s O H _ I h) λv s1 ⟨x,H1,I1,r1,q1⟩=>?_) hs hw;rw[h1];exact Yo (Y j s1 O H1 x v _ I1 r1 q1) λ_ s2 q=>q
theorem Zny {i:Nat}{x:Str}{e:Expr}{M:TE}{j:Pos}(O:X.N.Nodup)(U:X.N[i]?=some x)(Y:Loc X.env.scope x)(he:PE X e M)(hs:swapsWith e (some (.Name x j)) pos.line X.env=pure false:=by rfl)(hf:X.fn x=true\/X.env.scope.names.lookup x=some .local:=by first|exact .inl rfl|exact .inr rfl|assumption) :
  PS X (.Assign [.Name x j] e pos) (Zd9 M (Ym i)):=by
 intro J s σ H D I h;refine wpAny_Assign_Name (Yo (he J s σ H _ I h) λv s1 ⟨y,H1,I1,r1,q1⟩=>?_) hs;exact Jp I1 O U Y r1 (λs2 I2=>⟨_,H1,I2,q1⟩) hf
inductive Zpu (i:Nat) (te:TE) (ti:TIp) (D:WY) (σ:L2.St) (H:Hp):Prop
 |mk (x:_):(σ[i]?=some (some x))->(te σ H λy H1=>ti x y H1 λz H2=>D.nx (σ.set i (some z)) H2)->Zpu i te ti D σ H
theorem JV {i:Nat}{x:Str}{e:Expr}{te:TE}{op:lR}{ti:TIp}{O:Pos}(hN:X.N.Nodup)(hi:X.N[i]?=some x)(hx:Loc X.env.scope x)(he:PE X e te)(ho:PIp X op ti)(hf:X.fn x=true\/X.env.scope.names.lookup x=some .local:=by first|exact .inl rfl|exact .inr rfl|assumption) :
  PS X (.AugAssign (.Name x O) op e pos) (Zpu i te ti):=by
 intro j s σ H D I h;obtain⟨v,e1,h⟩:=h;obtain⟨m,hn,hl⟩:=I.loc;have o0:Vis X.env.scope x:=by rcases hx with k|k;exact .inl k;exact .inr (.inl k)
 obtain⟨u,r,l⟩:=hl i x v hi e1 o0;refine wpAny_AugAssign_Name ?_;have go:wpAny (model X.prog X.w) X.A (eval e X.env) (λw U=>wpAny (model X.prog X.w) X.A (inplaceOp op u w) (λr Y=>wpAny (model X.prog X.w) X.A (storeName X.env x r) (λ_=>SP X j D .next) X.xe Y) X.xe U) X.xe s:=by
  refine Yo (he j s σ H _ I h) λw s1 ⟨y,H1,I1,r1,q1⟩=>?_;refine Yo (ho j s1 σ H1 v y u w _ I1 r r1 q1) λz s2 ⟨zv,H2,I2,r2,q2⟩=>?_;exact Jp I2 hN hi hx r2 (λs3 I3=>⟨_,H2,I3,q2⟩) hf
 rcases l with ⟨J,hm⟩|⟨J,c,hc,M⟩
 ·exact wpAny_loadName_local I.ok.kind J hn hm go
 ·rcases J with J|J
  ·exact wpAny_loadName_cell I.ok.kind J hc M go
  ·rcases hx with k|k
   ·have:X.env.scope.names.lookup x=some .free:=J
    rw[k] at this;cases this
   ·have:X.env.scope.names.lookup x=some .free:=J
    rw[k] at this;cases this
def Zpt (U ti Y:TE)(j:V->V->Hp->VK->Prop)(O:TIp)(J:Zkk):TS:=λD M H=>U M H λo H1=>ti M H1 λi H2=>j o i H2 λx H3=>Y M H3 λy H4=>O x y H4 λz H5=>J o i z H5 λH6=>D.nx M H6
def ZoV (X:Cx)(t:V->V->Hp->VK->Prop):Prop:=
 ∀(j:List (Addr×Obj)) (s:Shared) (J:St) (H:Hp) (o i:V) (M O:Value) (Q:VK),Inv X j J H s->RelV o M->RelV i O->t o i H Q->
  wpAny (model X.prog X.w) X.A (getItem M O) (EP X j J Q) X.xe s
theorem Xj {o i e:Expr}{to ti te:TE}{M:V->V->Hp->VK->Prop}{o0:TIp}{O:Zkk}{op:lR}{o5:Pos}(ho:PE X o to)(hi:PE X i ti)(hg:ZoV X M)(he:PE X e te)(hp:PIp X op o0)(hs:ZoU X O)
  (ha:∀U iv J,augStore i U iv J=(do holding [J,U,iv] (setItem U iv J);release [J,U,iv] [];pure .next):=by intros;rfl):PS X (.AugAssign (.Subscript o i o5) op e pos) (Zpt to ti te M o0 O):=by
 intro j s Y H D I h;refine wpAny_AugAssign_SubscriptAny (Yo (ho j s Y H _ I h) λU s1 ⟨x1,H1,I1,r1,q1⟩=>?_) ha;refine Yo (hi j s1 Y H1 _ I1 q1) λiv s2 ⟨x2,H2,I2,r2,q2⟩=>?_;refine Yo (hg j s2 Y H2 x1 x2 U iv _ I2 r1 r2 q2) λo6 s3 ⟨x3,H3,I3,r3,q3⟩=>?_;refine Yo (he j s3 Y H3 _ I3 q3) λv s4 ⟨x4,H4,I4,r4,q4⟩=>?_;refine Yo (hp j s4 Y H4 x3 x4 o6 v _ I4 r3 r4 q4) λJ s5 ⟨x5,H5,I5,r5,q5⟩=>?_;exact Yo (hs j s5 Y H5 x1 x2 x5 U iv J _ I5 r1 r2 r5 q5) λ_ s6 ⟨H6,I6,q6⟩=>⟨Y,H6,I6,q6⟩
inductive ipI (f:Int->Int->Int) (x:V) (y:V) (H:Hp) (Q:VK):Prop
 |mk (i:_) (j:_):(x=.int i)->(y=.int j)->(Q (.int (f i j)) H)->ipI f x y H Q
theorem WB:PIp X .Add (ipI λi j=>i+j):=by
 intro J s σ H x y v u Q I M O h;obtain⟨i,j,U,Y,q⟩:=h;subst U;subst Y;obtain⟨t,rfl⟩:=M;obtain⟨t',rfl⟩:=O;exact iadd_int ⟨.int _,H,I.tok _,⟨_,rfl⟩,q⟩
theorem Zjv:PIp X .Sub (ipI λi j=>i-j):=by
 intro J s σ H x y v u Q I M O h;obtain⟨i,j,U,Y,q⟩:=h;subst U;subst Y;obtain⟨t,rfl⟩:=M;obtain⟨t',rfl⟩:=O;exact isub_int ⟨.int _,H,I.tok _,⟨_,rfl⟩,q⟩
end
section
variable {X:Cx}{pos:Pos}
def ZhS (c:TT)(tb:TS):TS:=λD j H=>∃W:Nat->St->Hp->Prop,(∃m,W m j H)/\∀m j H,W m j H->
 c j H λb M=>if b=true then ∃N:St->Hp->Prop,(∀ J O,N J O->∃U,U<m/\W U J O)/\tb (D.lp N) j M else D.nx j M
theorem Yr {c:Expr}{body:List Stmt}{tc:TT}{tb:TS}(hp:PassesOwn (model X.prog X.w) X.A X.env X.xe)(hc:PT X c tc)(hb:PSs X body tb):PS X (.While c body [] pos) (ZhS tc tb):=by
 intro j s σ H D I h;obtain⟨W,⟨m0,w0⟩,turn⟩:=h;refine wpAny_While (codeAny_whileLoop (λn s'=>∃ O H',Inv X j O H' s'/\W n O H') ?_ m0 ⟨σ,H,I,w0⟩);rintro n s1 ⟨M,H1,I1,w1⟩;refine eE hp (Yo (hc j s1 M H1 _ I1 (turn n M H1 w1)) λb s2 ⟨H2,I2,Y⟩=>?_);cases b with
 |true=>
  obtain⟨N,hN,Y⟩:=Y;rw[if_pos rfl];refine eE hp (Yo (hb j s2 M H2 _ I2 Y) λf s3 q3=>?_);cases f with
  |next=>
   obtain⟨J,U,I3,n3⟩:=q3;obtain⟨m',hm,w3⟩:=hN J U n3;exact⟨m',hm,J,U,I3,w3⟩
  |cont=>
   obtain⟨J,U,I3,n3⟩:=q3;obtain⟨m',hm,w3⟩:=hN J U n3;exact⟨m',hm,J,U,I3,w3⟩
  |brk=>exact q3
  |ret v=>exact q3
 |false=>
  rw[if_neg aK];exact iW ⟨M,H2,I2,Y⟩
end
structure It where
 go:Nat->Hp->Prop
 yld:Nat->Hp->V->Hp->Prop
 stop:Nat->Hp->Prop
def ZaP (X:Cx)(j:List (Addr×Obj))(H:Hp)(b:Addr):Prop:=
 H b=none/\b≠X.env.locals/\b∉X.fs/\(b∈X.ex\/X.s₀.heap.objs.size<=b)/\(∀x c,X.env.cells.lookup x=some c->c≠b)/\∀p∈X.pn++j,p.1≠b
theorem Inv.fpOk {X:Cx}{j:List (Addr×Obj)}{σ:St}{H J:Hp}{s:Shared}{b:Addr}(I:Inv X j σ H s)(hb:s.heap.objs.size<=b)(M:J b=none):ZaP X j J b:=by
 refine⟨M,bB (aE I.lt hb),I.nofs hb,.inr (aN I.sz hb),λx c e z=>?_,λp O z=>?_⟩
 ·obtain⟨v,q⟩:=I.cell x c e
  exact absurd (aE q.lt (by rw[z];exact hb)) (ck _)
 ·exact absurd (aE (Zp (I.pin p O).1) (by rw[z];exact hb)) (ck _)
structure ZaM (P:Program)(w:World)(K:aa)(tg:Expr)(J:It)(fp:TU)(it:Addr)(tn:Nat->Heap->Prop):Prop where
 mem:it∈fp
 obj:∀i h,tn i h->∀b∈fp,∃o,h.get? b=some o/\∀v,o.data≠.cell v
 keep:∀i h h',tn i h->(∀b∈fp,∀o,h.get? b=some o->h'.get? b=some o)->tn i h'
 item:∀(X:Cx),X.prog=P->X.w=w->X.K=K->X.calm=true->∀(i:Nat) (pins:List (Addr×Obj)) (s:Shared) (σ:St) (H:Hp) (E:TW),Inv X pins σ H s->(∀b∈fp,ZaP X pins H b)->tn i s.heap->J.go i H->
  wpAny (model P w) X.A (pyNext (.ref it)) (λr s1=>∃u,r=some u/\
   wpAny (model P w) X.A (letOwnedTupleGo tg (.ref it) u) (λ_ s2=>∃x H',Inv X pins σ H' s2/\RelV x u/\J.yld i H x H'/\tn (i+1) s2.heap/\∀b∈fp,H' b=none) E s1) E s
 done:∀(X:Cx),X.prog=P->X.w=w->X.K=K->X.calm=true->∀(i:Nat) (pins:List (Addr×Obj)) (s:Shared) (σ:St) (H:Hp) (E:TW),Inv X pins σ H s->(∀b∈fp,ZaP X pins H b)->tn i s.heap->J.stop i H->
  wpAny (model P w) X.A (pyNext (.ref it)) (λr s1=>r=none/\Inv X pins σ H s1) E s
 self:∀(A:Around) (i:Nat) (s:Shared) (Q:TW) (E:TW),tn i s.heap->Q (.ref it) s->wpAny (model P w) A (pyIter (.ref it)) Q E s
noncomputable abbrev TI:=St->Hp->(It->Hp->Prop)->Prop
def PIE (X:Cx)(j:List (Addr×Obj))(σ:St)(tg:Expr)(R:It->Hp->Prop)(M:Value)(U:Shared):Prop:=
 ∃(it:Addr) (Y:TU) (tn:Nat->Heap->Prop) (J:It) (O:Hp),M=.ref it/\Inv X j σ O U/\ZaM X.prog X.w X.K tg J Y it tn/\tn 0 U.heap/\(∀b∈Y,ZaP X j O b)/\R J O
def PI (X:Cx)(O J:Expr)(U:TI):Prop:=
 ∀(j:List (Addr×Obj)) (s:Shared) (M:St) (H:Hp) (R:It->Hp->Prop),Inv X j M H s->U M H R->
  wpAny (model X.prog X.w) X.A (eval J X.env) (λv Y=>wpAny (model X.prog X.w) X.A (pyIter v) (PIE X j M O R) X.xe Y) X.xe s
theorem ZdH {M:Model}{A:Around}{E:TW}{s:Shared}{J:Expr}{it:Addr}{u:Value}{o:Obj}{n:String}{vs:Array Value}{Q:Unit->Shared->Prop}(O:s.heap.get? it=some o)(U:o.cls=.type n)(hd:o.data=.fields vs)
    (Y:["enumerate", "zip", "dict_itemiterator", "dict_reverseitemiterator", "odict_iterator", "itertools.zip_longest", "itertools.pairwise"].contains n=false) (j:Q () s):wpAny M A (letOwnedTupleGo J (.ref it) u) Q E s:=by
  unfold letOwnedTupleGo;cases J <;> first
    |exact Zm j
    |(cases u <;> first
        |exact Zm j
        | (refine Zl (iR O ?_)
           rw[U,hd];show wpAny M A (if (["enumerate", "zip", "dict_itemiterator", "dict_reverseitemiterator", "odict_iterator", "itertools.zip_longest", "itertools.pairwise"].contains n && vs[0]? == some (rawInt _))=true then _ else _) Q E s
           rw[if_neg (by intro h;rw[Y,Bool.false_and] at h;cases h)];exact Zm j))
def Itl (K:aa)(a:Addr):It:=
 ⟨λi H=>∃j x,WZ K H a j/\j[i]?=some x,λi H x J=>J=H/\∀j,WZ K H a j->j[i]?=some x,λi H=>∃j,WZ K H a j/\j.length<=i⟩
def Itt (K:aa)(a:Addr):It:=
 ⟨λi H=>∃j x,WO K H a j/\j[i]?=some x,λi H x J=>J=H/\∀j,WO K H a j->j[i]?=some x,λi H=>∃j,WO K H a j/\j.length<=i⟩
def Itr (lo:Int)(n:Nat):It:=⟨λi _=>i<n,λi H x j=>j=H/\x=.int (lo+i),λi _=>n<=i⟩
theorem ZgA {P:Program}{w:World}{K:aa}{tg:Expr}(a it:Addr):ZaM P w K tg (Itl K a) [it] it (λi h=>h.IsListIter it a i) where
 mem:=by simp
 obj:=λi h st b hb=>by
  have e:b=it:=by simpa using hb
  subst e;obtain⟨o,e,c,d⟩:=st;exact⟨o,e,λv z=>by rw[d] at z;cases z⟩
 keep:=λi h M st k=>st.at λo e=>k it (by simp) o e
 item:=by
  intro X Y hw hK hc i j s σ H E I O st hg;subst Y hw hK;obtain⟨xs,x,U,hx⟩:=hg;obtain⟨o0,rv,p,hz⟩:=I.list U;obtain⟨u,hu,ru⟩:=rv.get hx;obtain⟨f0,f1,f2,f3,f4,f5⟩:=O it (by simp);refine wpAny_pyNext_list_item st p.isList (x:=u) (by simpa using hu) λM J sb=>?_;have I1:Inv X j σ H {s with heap:=M}:=I.turned (t':=s.toks) (λb o hb e=>(sb.2 b hb).trans e) f0 f1 f3 f4 f5;obtain⟨o,e,c,d⟩:=id J;exact⟨u,rfl,ZdH (s:={s with heap:=M}) e c d (by decide) ⟨x,H,I1,ru,⟨rfl,λys hy=>by rw[I.list_inj hy U];exact hx⟩,J,λb hb=>(O b hb).1⟩⟩
 done:=by
  intro X Y hw hK hc i j s σ H E I O st hg;subst Y hw hK;obtain⟨xs,U,hx⟩:=hg;obtain⟨o0,rv,p,hz⟩:=I.list U;obtain⟨f0,f1,f2,f3,f4,f5⟩:=O it (by simp);have hl:=rv.length;exact wpAny_pyNext_list_end (I.ok.hd hc) st p.isList (by simp;omega) λM eb=>⟨rfl,I.turned (t':=s.toks) (λb o hb e=>eb b o hb e) f0 f1 f3 f4 f5⟩
 self:=λ_ _ _ _ _ st h=>wpAny_pyIter_listiter st h
theorem Zd5 {P:Program}{w:World}{K:aa}{tg:Expr}(a it:Addr):ZaM P w K tg (Itt K a) [it] it (λi h=>h.IsTupleIter it a i) where
 mem:=by simp
 obj:=λi h st b hb=>by
  have e:b=it:=by simpa using hb
  subst e;obtain⟨o,e,c,d⟩:=st;exact⟨o,e,λv z=>by rw[d] at z;cases z⟩
 keep:=λi h O st k=>st.at λo e=>k it (by simp) o e
 item:=by
  intro X hP hw hK hc i j s σ H E I U st hg;subst hP hw hK;obtain⟨xs,x,Y,hx⟩:=hg;obtain⟨J,rv,p,hz⟩:=I.tuple Y;obtain⟨u,hu,ru⟩:=rv.get hx;obtain⟨f0,f1,f2,f3,f4,f5⟩:=U it (by simp);refine wpAny_pyNext_tuple_item st (show s.heap.IsTuple a J.toArray from p) (x:=u) (by simpa using hu) λO M sb=>?_;have I1:Inv X j σ H {s with heap:=O}:=I.turned (t':=s.toks) (λb o hb e=>(sb.2 b hb).trans e) f0 f1 f3 f4 f5;obtain⟨o,e,c,d⟩:=id M;exact⟨u,rfl,ZdH (s:={s with heap:=O}) e c d (by decide) ⟨x,H,I1,ru,⟨rfl,λys hy=>by rw[I.tuple_inj hy Y];exact hx⟩,M,λb hb=>(U b hb).1⟩⟩
 done:=by
  intro X hP hw hK hc i j s σ H E I U st hg;subst hP hw hK;obtain⟨xs,Y,hx⟩:=hg;obtain⟨J,rv,p,hz⟩:=I.tuple Y;obtain⟨f0,f1,f2,f3,f4,f5⟩:=U it (by simp);have hl:=rv.length;exact wpAny_pyNext_tuple_end (I.ok.hd hc) st (show s.heap.IsTuple a J.toArray from p) (by simp;omega) λO eb=>⟨rfl,I.turned (t':=s.toks) (λb o hb e=>eb b o hb e) f0 f1 f3 f4 f5⟩
 self:=λ_ _ _ _ _ st h=>wpAny_pyIter_tupleiter st h
theorem Zd6 {P:Program}{w:World}{K:aa}{tg:Expr}(it:Addr)(lo:Int)(n:Nat):ZaM P w K tg (Itr lo n) [it] it (λi h=>ir h it (lo+(i:Nat)*1) ((n:Int)-(i:Nat)) 1) where
 mem:=by simp
 obj:=λi h st b hb=>by
  have e:b=it:=by simpa using hb
  subst e;exact⟨_,st,λv z=>by
   have z':gK _=gq v:=z;cases z'⟩
 keep:=λi h M st k=>k it (by simp) _ st
 item:=by
  intro X U Y hK hc i j s σ H E I O st hg;subst U Y hK;obtain⟨f0,f1,f2,f3,f4,f5⟩:=O it (by simp);have W:=lN (prog:=X.prog) (w:=X.w) (I.ok.hd hc) it lo 1 n;refine W.item i s _ _ hg st λv M tk hv J kk=>?_;obtain⟨t,rfl⟩:=hv;have I1:Inv X j σ H {s with heap:=M,toks:=tk}:=I.turned (λb o hb e=>kk b o (by simpa using hb) e) f0 f1 f3 f4 f5;refine⟨_,rfl,ZdH (s:={s with heap:=M,toks:=tk}) (n:="range_iterator") J rfl rfl (by decide) ⟨.int (lo+i),H,I1,⟨t,?_⟩,⟨rfl,rfl⟩,J,λb hb=>(O b hb).1⟩⟩;rw[eR]
 done:=by
  intro X U Y hK hc i j s σ H E I O st hg;subst U Y hK;obtain⟨f0,f1,f2,f3,f4,f5⟩:=O it (by simp);exact iP (I.ok.hd hc) st (by have:n<=i:=hg;omega) λM eb=>⟨rfl,I.turned (t':=s.toks) (λb o hb e=>eb b o hb e) f0 f1 f3 f4 f5⟩
 self:=λ_ _ _ _ _ st h=>iQ st h
section
variable {X:Cx}{tg:Expr}
inductive iLi (K:aa) (R:It->Hp->Prop) (x:V) (H:Hp):Prop
 |mk (a:Addr):x=.ref a->(∃xs,WZ K H a xs)->R (Itl K a) H->iLi K R x H
def ZmU (K:aa)(j:TE):TI:=λJ H R=>j J H (iLi K R)
inductive iTi (K:aa) (R:It->Hp->Prop) (x:V) (H:Hp):Prop
 |mk (a:Addr):x=.ref a->(∃xs,WO K H a xs)->R (Itt K a) H->iTi K R x H
def Zqd (K:aa)(j:TE):TI:=λJ H R=>j J H (iTi K R)
theorem Zk4 {l:Expr}{O:TE}(U:PE X l O):PI X tg l (ZmU X.K O):=by
 intro j s Y H R I h;refine Yo (U j s Y H _ I h) λv J ⟨x,H1,M,r1,q1⟩=>?_;obtain⟨a,e,⟨xs,hq⟩,q⟩:=q1;subst e;cases r1;obtain⟨o0,rv,p,hz⟩:=M.list hq;refine fV p.isList ?_;refine⟨J.heap.objs.size,[J.heap.objs.size],_,_,H1,rfl,M.kept (t':=J.toks) λb o e=>Zn _ e,ZgA a _,⟨_,Zo _ rfl,rfl,rfl⟩,λb hb=>?_,q⟩;have e:b=J.heap.objs.size:=by simpa using hb
 subst e;exact M.fpOk (Zq _) (M.hok.fresh (Zq _))
theorem Znz {l:Expr}{U:TE}(Y:PE X l U):PI X tg l (Zqd X.K U):=by
 intro j s σ H R I h;refine Yo (Y j s σ H _ I h) λv J ⟨x,H1,M,r1,q1⟩=>?_;obtain⟨a,e,⟨xs,hq⟩,q⟩:=q1;subst e;cases r1;obtain⟨O,rv,p,hz⟩:=M.tuple hq;refine fO (show J.heap.IsTuple a O.toArray from p) ?_;refine⟨J.heap.objs.size,[J.heap.objs.size],_,_,H1,rfl,M.kept (t':=J.toks) λb o e=>Zn _ e,Zd5 a _,⟨_,Zo _ rfl,rfl,rfl⟩,λb hb=>?_,q⟩;have e:b=J.heap.objs.size:=by simpa using hb
 subst e;exact M.fpOk (Zq _) (M.hok.fresh (Zq _))
theorem Zdb {J:List (Addr×Obj)}{σ:St}{H:Hp}{s:Shared}{R:It->Hp->Prop}{E:TW}{lo j:Int}{t u v:Tok}{tk:Nat}(I:Inv X J σ H s)(O:-(2 ^ 62)<=lo)(U:lo<2 ^ 62)(Y:-(2 ^ 62)<=j)(h4:j<2 ^ 62)
  (q:R (Itr lo (j-lo).toNat) H):wpAny (model X.prog X.w) X.A (pyIter (.ref s.heap.objs.size)) (PIE X J σ tg R) E {s with heap:=s.heap.push {cls:=.type "range",data:=.fields #[.int lo t,.int j u,.int 1 v]},toks:=tk}:=by
 refine jP (lr ..) (small_one O U Y h4) ?_;have M:Inv X J σ H {s with heap:=s.heap.push {cls:=.type "range",data:=.fields #[.int lo t,.int j u,.int 1 v]},toks:=tk}:=I.kept λb o e=>Zn _ e;refine⟨(s.heap.push {cls:=.type "range",data:=.fields #[.int lo t,.int j u,.int 1 v]}).objs.size,[(s.heap.push {cls:=.type "range",data:=.fields #[.int lo t,.int j u,.int 1 v]}).objs.size],_,_,H,rfl,
  M.kept (t':=tk) λb o e=>Zn _ e,Zd6 _ lo (j-lo).toNat,?_,λb hb=>?_,q⟩
 ·have e1:lo+((0:Nat):Int)*1=lo:=by simp
  have e2:(((j-lo).toNat:Nat):Int)-((0:Nat):Int)=bu lo j 1:=by rw[rangeSize_one];split <;> omega
  show ir _ _ (lo+((0:Nat):Int)*1) ((((j-lo).toNat:Nat):Int)-((0:Nat):Int)) 1;rw[e1,e2];exact Zo _ rfl
 ·have e:b=(s.heap.push {cls:=.type "range",data:=.fields #[.int lo t,.int j u,.int 1 v]}).objs.size:=by simpa using hb
  subst e;exact M.fpOk (Zq _) (M.hok.fresh (Zq _))
inductive iR1 (R:It->Hp->Prop) (vs:TR) (H1:Hp):Prop
 |mk (j:Int):vs=[.int j]->-(2 ^ 62)<=j->j<2 ^ 62->R (Itr 0 j.toNat) H1->iR1 R vs H1
def ZmT (j:TA):TI:=λJ H R=>j J H (iR1 R)
inductive iR2 (R:It->Hp->Prop) (vs:TR) (H1:Hp):Prop
 |mk (i j:Int):vs=[.int i,.int j]->(-(2 ^ 62)<=i/\i<2 ^ 62/\-(2 ^ 62)<=j/\j<2 ^ 62)->R (Itr i (j-i).toNat) H1->iR2 R vs H1
def ZmS (j:TA):TI:=λJ H R=>j J H (iR2 R)
theorem ZgO {a:Expr}{O:TA}{p pos:Pos}(U:Gl X "range")(Y:X.mg "range"=none)(ha:PA X [a] O)(hs:starEach [a] X.env=[(false,eval a X.env)]:=by rfl):PI X tg (.Call (.Name "range" p) [a] [] pos) (ZmT O):=by
 intro J s σ H R I h;refine Call_ (JD I U Y lX (bD (Yo (ha pos J s σ H _ I h) λus s1 ⟨vs,H1,I1,r1,M⟩=>?_) hs rfl));obtain⟨j,e,M,q2,q⟩:=M;subst e;cases r1 with
 |cons r rr=>
  cases rr;obtain⟨t,rfl⟩:=r;exact call_range_1 (Zdb I1 (by omega) (by omega) M q2 (by simpa using q))
theorem ZgN {a b:Expr}{Y:TA}{p pos:Pos}(hg:Gl X "range")(hm:X.mg "range"=none)(ha:PA X [a,b] Y)(hs:starEach [a,b] X.env=[(false,eval a X.env),(false,eval b X.env)]:=by rfl)(J:starEach [b] X.env=[(false,eval b X.env)]:=by rfl) :
  PI X tg (.Call (.Name "range" p) [a,b] [] pos) (ZmS Y):=by
 intro M s σ H R I h;refine Call_ (JD I hg hm lX (bD (Yo (ha pos M s σ H _ I h) λus s1 ⟨vs,H1,I1,r1,O⟩=>?_) (by rw[hs,J]) (by rw[J];rfl)));obtain⟨i,j,e,⟨O,q2,q3,q4⟩,q⟩:=O;subst e;cases r1 with
 |cons r U=>
  cases U with
  |cons r' U=>
   cases U;obtain⟨t,rfl⟩:=r;obtain⟨t',rfl⟩:=r';exact call_range_2 (Zdb I1 O q2 q3 q4 q)
def Zrz (wi:TI)(g:TG)(tb:TS):TS:=λD j H=>wi j H λJ H1=>∃W:Nat->Nat->St->Hp->Prop,(∃m,W 0 m j H1)/\∀i m j H,W i m j H->
 (J.stop i H/\D.nx j H)\/(J.go i H/\∃N:St->Hp->Prop,(∀ M O,N M O->∃Y,Y<m/\W (i+1) Y M O)/\∀x O,J.yld i H x O->g x j O λU H2=>tb (D.lp N) U H2)
def U1 (j:TU)(h:Heap):List (Addr×Obj):=j.filterMap λb=>(h.get? b).map λo=>(b,o)
theorem JB {j:TU}{h:Heap}{b:Addr}{o:Obj}(hb:b∈j)(e:h.get? b=some o):(b,o)∈U1 j h:=ja.mpr ⟨b,hb,by rw[e];rfl⟩
theorem Zg0 {j:TU}{h:Heap}{p:Addr×Obj}(J:p∈U1 j h):p.1∈j/\h.get? p.1=some p.2:=by
 obtain⟨b,hb,e⟩:=ja.mp J;cases q:h.get? b with
 |none=>rw[q] at e;cases e
 |some o=>
  rw[q] at e;have M:(b,o)=p:=aA e;subst M;exact⟨hb,q⟩
theorem Inv.pinned {j:List (Addr×Obj)}{σ:St}{H:Hp}{s:Shared}{J:TU}(I:Inv X j σ H s)(O:∀b∈J,ZaP X j H b)(U:∀b∈J,∃o,s.heap.get? b=some o/\∀v,o.data≠.cell v):Inv X (j++U1 J s.heap) σ H s:=
 I.pins_of λp Y=>(bv.mp Y).elim (λz=>I.pin p (aU _ z)) λz=>by
  obtain⟨hb,e⟩:=Zg0 z;obtain⟨f0,f1,f2,_⟩:=O p.1 hb;obtain⟨o,M,d⟩:=U p.1 hb;rw[e] at M;cases M;exact⟨e,f0,f1,f2,d⟩
theorem Inv.unpinned {j pl:List (Addr×Obj)}{σ:St}{H:Hp}{s:Shared}(I:Inv X (j++pl) σ H s):Inv X j σ H s:=I.pins_of λp J=>I.pin p (aU _ (cq _ J))
theorem ZV {iter:Expr}{body:List Stmt}{wi:TI}{g:TG}{tb:TS}{pos:Pos}(hp:PassesOwn (model X.prog X.w) X.A X.env X.xe)(hc:X.calm=true)(hi:PI X tg iter wi)(hg:PG X tg g)(hb:PSs X body tb)
  (hs:∀x,foldedSetIterable iter X.env x=pure x:=by intro _;rfl):PS X (.For tg iter body [] pos) (Zrz wi g tb):=by
 intro j s σ H D I h;refine wpAny_For (Yo (hi j s σ H _ I h) λv s1 h1=>Yo h1 λp7 s2 h2=>?_) hs;obtain⟨it,fp,tn,J,H2,e,I2,T,o7,f2,W,⟨m0,w0⟩,turn⟩:=h2;subst e;have O:∀{H':Hp},(∀b∈fp,H' b=none)->∀b∈fp,ZaP X j H' b:=λhn b hb=>⟨hn b hb,(f2 b hb).2⟩;refine codeAny_forLoop_any (λn s'=>∃i U H',Inv X j U H' s'/\tn i s'.heap/\(∀b∈fp,H' b=none)/\W i n U H') ?_ m0 ⟨0,σ,H2,I2,o7,λb hb=>(f2 b hb).1,w0⟩;rintro n s3 ⟨i,Y,H3,I3,o5,o6,w3⟩;rcases turn i n Y H3 w3 with ⟨stop,qn⟩|⟨go,N,hN,step⟩
 ·refine eE hp (Yo (T.done X rfl rfl rfl hc i j s3 Y H3 X.xe I3 (O o6) o5 stop) λr s4 ⟨hr,I4⟩=>?_)
  subst hr;exact iW ⟨Y,H3,I4,qn⟩
 ·refine eE hp (Yo (T.item X rfl rfl rfl hc i j s3 Y H3 X.xe I3 (O o6) o5 go) λr s4 ⟨u,hr,h4⟩=>?_)
  subst hr;refine eE hp (Yo h4 λ_ s5 ⟨x,H5,I5,r5,y5,o0,o8⟩=>?_);have o9:=I5.pinned (O o8) (T.obj _ _ o0);refine eE hp (Yo (hg _ s5 Y H5 x u _ o9 r5 (step x H5 y5)) λ_ s6 ⟨p6,H6,I6,q6⟩=>?_);refine eE hp (Yo (hb _ s6 p6 H6 _ I6 q6) λf s7 q7=>?_);have again:∀{M:St}{H7:Hp},Inv X (j++U1 fp s5.heap) M H7 s7->N M H7->∃m,m<n/\∃i U H',Inv X j U H' s7/\tn i s7.heap/\(∀b∈fp,H' b=none)/\W i m U H':=λ{M H7} I7 n7=>by
   obtain⟨m',hm,w7⟩:=hN M H7 n7;refine⟨m',hm,i+1,M,H7,I7.unpinned,T.keep _ _ _ o0 λb hb o e=>(I7.pin (b,o) (aU _ (aU _ (JB hb e)))).1,λb hb=>?_,w7⟩;obtain⟨o,e,d⟩:=T.obj _ _ o0 b hb;exact (I7.pin (b,o) (aU _ (aU _ (JB hb e)))).2.1
  cases f with
  |next=>obtain⟨M,H7,I7,n7⟩:=q7;exact again I7 n7
  |cont=>obtain⟨M,H7,I7,n7⟩:=q7;exact again I7 n7
  |brk=>obtain⟨M,H7,I7,q7⟩:=q7;exact⟨M,H7,I7.unpinned,q7⟩
  |ret v=>obtain⟨x7,M,H7,I7,r7,q7⟩:=q7;exact⟨x7,M,H7,I7.unpinned,r7,q7⟩
end
theorem Zf5 {K:aa}{a:Addr}{xs:TR}{g:TG}{tb:TS}{D:WY}{σ:St}{H:Hp}(Pv:Nat->St->Hp->Prop)(h0:Pv 0 σ H)(hl:∀i σ H,i<=xs.length->Pv i σ H->WO K H a xs)
  (hs:∀i x σ H,xs[i]?=some x->Pv i σ H->g x σ H λj U=>tb (D.lp (Pv (i+1))) j U) (hd:∀ σ H,Pv xs.length σ H->D.nx σ H) :
  ∃W:Nat->Nat->St->Hp->Prop,(∃m,W 0 m σ H)/\∀i m σ H,W i m σ H->
   ((Itt K a).stop i H/\D.nx σ H)\/((Itt K a).go i H/\∃N:St->Hp->Prop,(∀ J M,N J M->∃Y,Y<m/\W (i+1) Y J M)/\∀x M,(Itt K a).yld i H x M->g x σ M λj U=>tb (D.lp N) j U):=by
 refine⟨λi m σ H=>m=xs.length-i/\i<=xs.length/\Pv i σ H,⟨xs.length,by simp,aX _,h0⟩,?_⟩;rintro i m σ H ⟨rfl,hi,p⟩;have q:=hl i σ H hi p;by_cases O:i<xs.length
 ·refine .inr ⟨⟨xs,xs[i],q,by simp[O]⟩,Pv (i+1),λJ M p'=>⟨xs.length-(i+1),by omega,rfl,O,p'⟩,λx M y=>?_⟩
  obtain⟨e,y⟩:=y;subst e;exact hs i x σ _ (y xs q) p
 ·have e:i=xs.length:=by omega
  subst e;exact .inl ⟨⟨xs,q,Zq _⟩,hd σ H p⟩
theorem WN {lo:Int}{n:Nat}{g:TG}{tb:TS}{D:WY}{σ:St}{H:Hp}(Pv:Nat->St->Hp->Prop)(h0:Pv 0 σ H)
  (hs:∀i σ H,i<n->Pv i σ H->g (.int (lo+i)) σ H λj U=>tb (D.lp (Pv (i+1))) j U) (hd:∀ σ H,Pv n σ H->D.nx σ H) :
  ∃W:Nat->Nat->St->Hp->Prop,(∃m,W 0 m σ H)/\∀i m σ H,W i m σ H->
   ((Itr lo n).stop i H/\D.nx σ H)\/((Itr lo n).go i H/\∃N:St->Hp->Prop,(∀ J M,N J M->∃Y,Y<m/\W (i+1) Y J M)/\∀x M,(Itr lo n).yld i H x M->g x σ M λj U=>tb (D.lp N) j U):=by
 refine⟨λi m σ H=>m=n-i/\i<=n/\Pv i σ H,⟨n,by simp,aX _,h0⟩,?_⟩;rintro i m σ H ⟨rfl,hi,p⟩;by_cases O:i<n
 ·refine .inr ⟨O,Pv (i+1),λJ M p'=>⟨n-(i+1),by omega,rfl,O,p'⟩,λx M y=>?_⟩
  obtain⟨e,y⟩:=y;subst e y;exact hs i σ _ O p
 ·have e:i=n:=by omega
  subst e;exact .inl ⟨Zq _,hd σ H p⟩
noncomputable abbrev R2:=V->V->Hp->VK->Prop
def XX (X:Cx)(f:Value->Value->Sem Value)(r:R2):Prop:=
 ∀(j:List (Addr×Obj)) (s:Shared) (J:St) (H:Hp) (x y:V) (v u:Value) (Q:VK),Inv X j J H s->RelV x v->RelV y u->r x y H Q->
  wpAny (model X.prog X.w) X.A (f v u) (EP X j J Q) X.xe s
def UnR (X:Cx)(f:Value->Sem Value)(r:V->Hp->VK->Prop):Prop:=
 ∀(j:List (Addr×Obj)) (s:Shared) (J:St) (H:Hp) (x:V) (v:Value) (Q:VK),Inv X j J H s->RelV x v->r x H Q->
  wpAny (model X.prog X.w) X.A (f v) (EP X j J Q) X.xe s
def YI (X:Cx)(f:Value)(r:TR->Hp->VK->Prop):Prop:=
 ∀(j:List (Addr×Obj)) (s:Shared) (J:St) (H:Hp) (M:TR) (O:List Value) (Q:VK),Inv X j J H s->ZN M O->r M H Q->
  wpAny (model X.prog X.w) X.A (call f O) (EP X j J Q) X.xe s
def tOp (r:R2)(J tb:TE):TE:=λj H Q=>J j H λx M=>tb j M λy O=>r x y O Q
def tUn (r:V->Hp->VK->Prop)(j:TE):TE:=λJ H Q=>j J H λx M=>r x M Q
inductive rI (C:Int->Int->Prop) (g:Int->Int->V) (x:V) (y:V) (H:Hp) (Q:VK):Prop
 |mk (i:_) (j:_):(x=.int i)->(y=.int j)->(C i j)->(Q (g i j) H)->rI C g x y H Q
inductive rI0 (g:Int->Int->V) (x:V) (y:V) (H:Hp) (Q:VK):Prop
 |mk (i:_) (j:_):(x=.int i)->(y=.int j)->(Q (g i j) H)->rI0 g x y H Q
inductive rU (g:Int->V) (x:V) (H:Hp) (Q:VK):Prop
 |mk (i:_):(x=.int i)->(Q (g i) H)->rU g x H Q
section
variable {X:Cx}{a b c:Expr}{ta tb tc:TE}{pos:Pos}
theorem ZoI (ha:PE X a ta)(hb:PE X b tb){j:List (Addr×Obj)}{s:Shared}{σ:St}{H:Hp}{R:V->V->Hp->Prop}(I:Inv X j σ H s)
  (h:ta σ H λx Y=>tb σ Y λy J=>R x y J) {Q:TW}{f:Value->Value->Sem Value}
  (hf:∀v u U x y J,Inv X j σ J U->RelV x v->RelV y u->R x y J->wpAny (model X.prog X.w) X.A (f v u) Q X.xe U) :
  wpAny (model X.prog X.w) X.A (eval a X.env) (λv M=>wpAny (model X.prog X.w) X.A (eval b X.env) (λu O=>wpAny (model X.prog X.w) X.A (f v u) Q X.xe O) X.xe M) X.xe s:=by
 refine Yo (ha j s σ H _ I h) λv s1 ⟨x,Y,I1,r1,q1⟩=>?_;refine Yo (hb j s1 σ Y _ I1 q1) λu U ⟨y,J,I2,r2,q2⟩=>?_;exact hf v u U x y J I2 r1 r2 q2
theorem Zz {op:lR}{r:R2}(J:XX X (binaryOp op) r)(M:PE X a ta)(hb:PE X b tb):PE X (.BinOp a op b pos) (tOp r ta tb):=by
 intro j s O H Q I h;exact wpAny_BinOp (ZoI M hb I h λv u U x y Y I2 rx ry q=>J j U O Y x y v u Q I2 rx ry q)
theorem JN {op:UnaryOp}{r:V->Hp->VK->Prop}(M:UnR X (unaryOp op) r)(O:PE X a ta):PE X (.UnaryOp op a pos) (tUn r ta):=by
 intro j s J H Q I h;exact UnaryOp_ (Yo (O j s J H _ I h) λv U ⟨x,Y,I1,r1,q1⟩=>M j U J Y x v Q I1 r1 q1)
theorem opI {f:Value->Value->Sem Value}{C:Int->Int->Prop}{g:Int->Int->Int}
  (rule:∀(i j:Int) (t u:Tok) (s:Shared) (Q:TW) (E:TW),C i j->Q (.int (g i j) s.toks) {s with toks:=s.toks+1}->wpAny (model X.prog X.w) X.A (f (.int i t) (.int j u)) Q E s) :
  XX X f (rI C λi j=>.int (g i j)):=by
 intro J s σ H x y v u Q I M O h;obtain⟨i,j,rfl,rfl,U,q⟩:=h;obtain⟨t,rfl⟩:=M;obtain⟨Y,rfl⟩:=O;exact rule i j t Y s _ _ U ⟨.int (g i j),H,I.tok _,⟨_,rfl⟩,q⟩
theorem Zp2 {f:Value->Value->Sem Value}{g:Int->Int->Int}
  (rule:∀(i j:Int) (t u:Tok) (s:Shared) (Q:TW) (E:TW),Q (.int (g i j) s.toks) {s with toks:=s.toks+1}->wpAny (model X.prog X.w) X.A (f (.int i t) (.int j u)) Q E s) :
  XX X f (rI0 λi j=>.int (g i j)):=by
 intro J s Y H x y v u Q I M O h;obtain⟨i,j,rfl,rfl,q⟩:=h;obtain⟨t,rfl⟩:=M;obtain⟨U,rfl⟩:=O;exact rule i j t U s _ _ ⟨.int (g i j),H,I.tok _,⟨_,rfl⟩,q⟩
theorem ZnL {f:Value->Value->Sem Value}{g:Int->Int->Bool}
  (rule:∀(i j:Int) (t u:Tok) (s:Shared) (Q:TW) (E:TW),Q (.bool (g i j)) s->wpAny (model X.prog X.w) X.A (f (.int i t) (.int j u)) Q E s) :
  XX X f (rI0 λi j=>.bl (g i j)):=by
 intro J s Y H x y v u Q I M O h;obtain⟨i,j,rfl,rfl,q⟩:=h;obtain⟨t,rfl⟩:=M;obtain⟨U,rfl⟩:=O;exact rule i j t U s _ _ ⟨.bl (g i j),H,I,rfl,q⟩
def Zsf (i j:Int):Prop:=0<j/\j<1073741824
def Zse (i j:Int):Prop:=0<=j/\j<=1000000/\i.natAbs<2 ^ 64
def Zmj (i j:Int):Prop:=(-(2 ^ 64)<i/\i<2 ^ 64)\/(-(2 ^ 64)<j/\j<2 ^ 64)
theorem Zmj.ok {i j:Int}(h:Zmj i j):IntMulOk i j:=by
 rcases h with ⟨J,M⟩|⟨J,M⟩
 ·exact .of_left (intBits_le_64 J M)
 ·exact .of_right (intBits_le_64 J M)
theorem YD:XX X (binaryOp .Add) (rI0 λi j=>.int (i+j)):=Zp2 λ_ _ _ _ _ _ _ q=>add_int q
theorem Y3:XX X (binaryOp .Sub) (rI0 λi j=>.int (i-j)):=Zp2 λ_ _ _ _ _ _ _ q=>sub_int q
theorem Z0:XX X (binaryOp .Mult) (rI Zmj λi j=>.int (i*j)):=opI λ_ _ _ _ _ _ _ J q=>mul_int q J.ok
theorem JA:XX X (binaryOp .FloorDiv) (rI Zsf λi j=>.int (i / j)):=opI λi j _ _ _ _ _ J q=>by
 have M:(0:Int)<j:=J.1;have O:j<1073741824:=J.2;exact floordiv_int (by omega) (by rw[kN i (by omega)];exact q) (.inl (kJ (by omega)))
theorem Yb:XX X (binaryOp .Mod) (rI (λ_ j=>0<j) λi j=>.int (i % j)):=opI λi j _ _ _ _ _ J q=>by
 have M:(0:Int)<j:=J;exact mod_int' (by omega) (by rw[Int.fmod_eq_emod_of_nonneg i (by omega)];exact q)
theorem ZnJ:XX X (binaryOp .Pow) (rI Zse λi j=>.int (i ^ j.toNat)):=opI λ_ _ _ _ _ _ _ J q=>pow_int_small J.1 J.2.1 J.2.2 q
theorem unI {f:Value->Sem Value}{g:Int->Int}
  (rule:∀(i:Int) (t:Tok) (s:Shared) (Q:TW) (E:TW),Q (.int (g i) s.toks) {s with toks:=s.toks+1}->wpAny (model X.prog X.w) X.A (f (.int i t)) Q E s) :
  UnR X f (rU λi=>.int (g i)):=by
 intro j s M H x v Q I J h;obtain⟨i,rfl,q⟩:=h;obtain⟨t,rfl⟩:=J;exact rule i t s _ _ ⟨.int (g i),H,I.tok _,⟨_,rfl⟩,q⟩
theorem Wz:UnR X (unaryOp .USub) (rU λi=>.int (-i)):=unI λ_ _ _ _ _ q=>neg_int q
end
def Zpw:V->V->Bool
 | .non,.non=>true | .non,.int _=>true | .int _,.non=>true | .non,.bl _=>true | .bl _,.non=>true | .non,.str _=>true | .str _,.non=>true
 | .int _,.int _=>true | .bl _,.bl _=>true | .str _,.str _=>true | .byt _,.byt _=>true
 | .int _,.str _=>true | .str _,.int _=>true | .bl _,.str _=>true | .str _,.bl _=>true
 |_,_=>false
inductive rEq (x:V) (y:V) (H:Hp) (Q:VK):Prop
 |mk:(Zpw x y=true)->(Q (.bl (decide (x=y))) H)->rEq x y H Q
inductive rNe (x:V) (y:V) (H:Hp) (Q:VK):Prop
 |mk:(Zpw x y=true)->(Q (.bl (!decide (x=y))) H)->rNe x y H Q
theorem Ye {i j:Int}:decide (V.int i=V.int j)=(i == j):=by
 rw[fu];simp
theorem ZjV {i j:Bool}:decide (V.bl i=V.bl j)=(i == j):=by
 rw[fu];simp
theorem Zgg {i j:Str}:decide (V.str i=V.str j)=(i == j):=by
 rw[fu];simp
theorem Zgh {i j:Array UInt8}:decide (V.byt i=V.byt j)=(i.toList == j.toList):=by
 rw[fu];cases i;cases j;simp
section
variable {X:Cx}{a b c:Expr}{ta tb tc:TE}{pos:Pos}
theorem ZX {j:List (Addr×Obj)}{σ:St}{H:Hp}{s:Shared}{Q:VK}{k J:Bool}(I:Inv X j σ H s)(q:Q (.bl k) H)(e:k=J):EP X j σ Q (.bool J) s:=by
 subst e;exact⟨.bl k,H,I,rfl,q⟩
theorem Zdj:XX X (compareOp .Eq) rEq:=by
 intro Y s σ H x y v u Q I U J h;obtain⟨O,q⟩:=h;cases x with
 |non=>
  cases U;cases y with
  |non=>cases J;exact PySem.EqNone.eq_none_none (ZX I q (by simp))
  |bl j=>cases J;exact PySem.EqNone.eq_none_bool (ZX I q (by simp))
  |int j=>obtain⟨M,rfl⟩:=J;exact PySem.EqNone.eq_none_int (ZX I q (by simp))
  |str j=>obtain⟨M,rfl⟩:=J;exact PySem.EqNone.eq_none_str (ZX I q (by simp))
  |_=>exact absurd (show false=true from O) aK
 |bl i=>
  cases U;cases y with
  |non=>cases J;exact PySem.EqNone.eq_bool_none (ZX I q (by simp))
  |bl j=>cases J;exact eq_bool (ZX I q ZjV)
  |str j=>obtain⟨M,rfl⟩:=J;exact PySem.EqMixed.eq_bool_str (ZX I q (by simp))
  |_=>exact absurd (show false=true from O) aK
 |int i=>
  obtain⟨t,rfl⟩:=U;cases y with
  |non=>cases J;exact PySem.EqNone.eq_int_none (ZX I q (by simp))
  |int j=>obtain⟨M,rfl⟩:=J;exact eq_int (ZX I q Ye)
  |str j=>obtain⟨M,rfl⟩:=J;exact PySem.EqMixed.eq_int_str (ZX I q (by simp))
  |_=>exact absurd (show false=true from O) aK
 |str i=>
  obtain⟨t,rfl⟩:=U;cases y with
  |non=>cases J;exact PySem.EqNone.eq_str_none (ZX I q (by simp))
  |bl j=>cases J;exact PySem.EqMixed.eq_str_bool (ZX I q (by simp))
  |int j=>obtain⟨M,rfl⟩:=J;exact PySem.EqMixed.eq_str_int (ZX I q (by simp))
  |str j=>obtain⟨M,rfl⟩:=J;exact eq_str (ZX I q Zgg)
  |_=>exact absurd (show false=true from O) aK
 |byt i=>
  obtain⟨t,rfl⟩:=U;cases y with
  |byt j=>obtain⟨M,rfl⟩:=J;exact PySem.W.eq_bytes (ZX I q Zgh)
  |_=>exact absurd (show false=true from O) aK
 |_=>cases y <;> exact absurd (show false=true from O) aK
theorem Ww:XX X (compareOp .NotEq) rNe:=by
 intro Y s σ H x y v u Q I U J h;obtain⟨O,q⟩:=h;cases x with
 |non=>
  cases U;cases y with
  |non=>cases J;exact PySem.EqNone.ne_none_none (ZX I q (by simp))
  |bl j=>cases J;exact PySem.EqNone.ne_none_bool (ZX I q (by simp))
  |int j=>obtain⟨M,rfl⟩:=J;exact PySem.EqNone.ne_none_int (ZX I q (by simp))
  |str j=>obtain⟨M,rfl⟩:=J;exact PySem.EqNone.ne_none_str (ZX I q (by simp))
  |_=>exact absurd (show false=true from O) aK
 |bl i=>
  cases U;cases y with
  |non=>cases J;exact PySem.EqNone.ne_bool_none (ZX I q (by simp))
  |bl j=>cases J;exact ne_bool (ZX I q (congrArg not ZjV))
  |str j=>obtain⟨M,rfl⟩:=J;exact PySem.EqMixed.ne_bool_str (ZX I q (by simp))
  |_=>exact absurd (show false=true from O) aK
 |int i=>
  obtain⟨t,rfl⟩:=U;cases y with
  |non=>cases J;exact PySem.EqNone.ne_int_none (ZX I q (by simp))
  |int j=>obtain⟨M,rfl⟩:=J;exact ne_int (ZX I q (congrArg not Ye))
  |str j=>obtain⟨M,rfl⟩:=J;exact PySem.EqMixed.ne_int_str (ZX I q (by simp))
  |_=>exact absurd (show false=true from O) aK
 |str i=>
  obtain⟨t,rfl⟩:=U;cases y with
  |non=>cases J;exact PySem.EqNone.ne_str_none (ZX I q (by simp))
  |bl j=>cases J;exact PySem.EqMixed.ne_str_bool (ZX I q (by simp))
  |int j=>obtain⟨M,rfl⟩:=J;exact PySem.EqMixed.ne_str_int (ZX I q (by simp))
  |str j=>obtain⟨M,rfl⟩:=J;exact ne_str (ZX I q (congrArg not Zgg))
  |_=>exact absurd (show false=true from O) aK
 |byt i=>
  obtain⟨t,rfl⟩:=U;cases y with
  |byt j=>obtain⟨M,rfl⟩:=J;exact PySem.W.ne_bytes (ZX I q (congrArg not Zgh))
  |_=>exact absurd (show false=true from O) aK
 |_=>cases y <;> exact absurd (show false=true from O) aK
theorem Za0:XX X (compareOp .Lt) (rI0 λi j=>.bl (decide (i<j))):=ZnL λ_ _ _ _ _ _ _ q=>lt_int q
theorem Zp1:XX X (compareOp .LtE) (rI0 λi j=>.bl (decide (i<=j))):=ZnL λ_ _ _ _ _ _ _ q=>le_int q
theorem Zdi:XX X (compareOp .Gt) (rI0 λi j=>.bl (decide (j<i))):=ZnL λ_ _ _ _ _ _ _ q=>gt_int q
theorem Zb5:XX X (compareOp .Is) (λx y H Q=>y=.non/\Q (.bl (decide (x=.non))) H):=by
 intro j s O H x y v u Q I J M h;obtain⟨rfl,q⟩:=h;cases M;refine is_none_gen (ZX I q ?_);cases x <;> first
  |(cases J;rfl)
  |(obtain⟨t,rfl⟩:=J;rfl)
theorem Zli:XX X (compareOp .IsNot) (λx y H Q=>y=.non/\Q (.bl (!decide (x=.non))) H):=by
 intro j s O H x y v u Q I J M h;obtain⟨rfl,q⟩:=h;cases M;refine isnot_none_gen (ZX I q ?_);cases x <;> first
  |(cases J;rfl)
  |(obtain⟨t,rfl⟩:=J;rfl)
theorem ZO (b:Expr){op:CmpOp}(h:op≠.In:=by decide)(j:op≠.NotIn:=by decide):behindInMarks op b=false:=by
 have J:(op == CmpOp.In)=false:=by cases op <;> first|rfl|exact absurd rfl h
 have M:(op == CmpOp.NotIn)=false:=by cases op <;> first|rfl|exact absurd rfl j
 cases b <;> simp[behindInMarks,J,M]
theorem Xm {op:CmpOp}{r:R2}(J:XX X (compareOp op) r)(M:PE X a ta)(hb:PE X b tb)(O:behindInMarks op b=false):PE X (.Compare a [op] [b] pos) (tOp r ta tb):=by
 intro j s U H Q I h;exact wpAny_Compare1 (ZoI M hb I h λv u Y x y H2 I2 rx ry q=>J j Y U H2 x y v u Q I2 rx ry q) O
inductive iTs (Q:Bool->Hp->Prop) (x:V) (H:Hp):Prop
 |mk (c:Bool):x=.bl c->Q c H->iTs Q x H
def Zpm (t:TE):TT:=λj H Q=>t j H (iTs Q)
theorem ZM {op:CmpOp}{r:R2}(M:XX X (compareOp op) r)(O:PE X a ta)(hb:PE X b tb)(U:behindInMarks op b=false):PT X (.Compare a [op] [b] pos) (Zpm (tOp r ta tb)):=by
 intro j s J H Q I h;refine nQ (Yo (O j s J H _ I h) λv Y ⟨x,H1,I1,r1,q1⟩=>Yo (hb j Y J H1 _ I1 q1) λu s2 ⟨y,H2,I2,r2,q2⟩=>
  Yo (M j s2 J H2 x y v u _ I2 r1 r2 q2) λc s3 ⟨z,H3,I3,r3,k,e,q3⟩=>?_) U
 subst e;cases r3;exact ip ⟨H3,I3,q3⟩
theorem VN:(sizeLine:Nat)<2 ^ 63:=by rw[ji];decide
theorem vals1 {x:V}{us:List Value}(r:ZN [x] us):∃u,us=[u]/\RelV x u:=by
 cases r with
 |cons r1 j=>cases j;exact⟨_,rfl,r1⟩
theorem vals2 {x y:V}{us:List Value}(r:ZN [x,y] us):∃u j,us=[u,j]/\RelV x u/\RelV y j:=by
 cases r with
 |cons r1 J=>
  cases J with
  |cons M O=>cases O;exact⟨_,_,rfl,r1,M⟩
inductive I_call_max2 (xs:TR) (H:Hp) (Q:VK):Prop
 |mk (i:_) (j:_):(xs=[.int i,.int j])->(Q (.int (if j > i then j else i)) H)->I_call_max2 xs H Q
theorem Zhw (O:X.calm=true):YI X (.builtin "max") _root_.L2.I_call_max2:=by
 intro M s U H Y us Q I r h;obtain⟨i,j,rfl,q⟩:=h;obtain⟨u,w',rfl,⟨t,rfl⟩,⟨t',rfl⟩⟩:=vals2 r;refine max_two_ints (I.ok.hd O) λh' tk k=>⟨_,H,I.kept k,?_,q⟩;by_cases J:j > i
 ·rw[if_pos J,if_pos J];exact⟨_,rfl⟩
 ·rw[if_neg J,if_neg J];exact⟨_,rfl⟩
theorem Zhx:YI X (.type "int") (λxs H Q=>(∃i,xs=[.int i]/\Q (.int i) H)\/∃k,xs=[.bl k]/\Q (.int (if k then 1 else 0)) H):=by
 intro j s J H xs M Q I r h;rcases h with ⟨i,rfl,q⟩|⟨k,rfl,q⟩
 ·obtain⟨u,rfl,t,rfl⟩:=vals1 r
  exact call_int_int ⟨.int i,H,I,⟨_,rfl⟩,q⟩
 ·obtain⟨u,rfl,r1⟩:=vals1 r
  cases r1;exact call_int_bool ⟨.int (if k then 1 else 0),H,I.tok _,⟨_,rfl⟩,q⟩
end
section
variable {x dx C f:Addr}{mA:TV}{name:Str}{v:Value}
end
theorem ZaN.some_of {v:V}{o:Option Value}(r:ZaN (some v) o):∃u,o=some u/\RelV v u:=by
 cases o with
 |none=>exact (show False from r).elim
 |some u=>exact⟨u,rfl,r⟩
section
variable {H H':Hp}{h h':Heap}{a C dx:Addr}{fs fs':List (Str×V)}
end
section
variable {X:Cx}{pins:List (Addr×Obj)}{σ:St}{H:Hp}{a C dx:Addr}{fs:List (Str×V)}{f:Str}{v:V}
end
section
variable {X:Cx}{o e value:Expr}{f:Str}{pos pos' tpos:Pos}{ta tv:TE}
end
section
variable {X:Cx}{pins:List (Addr×Obj)}{σ:St}{H:Hp}{Q:TW}{c:Value}{b:Bool}
end
structure Jt (k:Nat)(A:Around):Prop where
 hd:A.handled=none
 dp:A.depth+3*k+5<recursionLimit
 un:A.units+16*k+200<cLine
 gd:A.guards=some []
theorem Jt.mono {j k:Nat}{A:Around}(r:Jt k A)(h:j<=k):Jt j A:=⟨r.hd,by have:=r.dp;omega,by have:=r.un;omega,r.gd⟩
theorem Jt.deeper {k:Nat}{A:Around}(r:Jt (k+1) A)(env:Env):Jt k (A.deeper env):=
 ⟨r.hd,by have:=r.dp;show A.depth+1+3*k+5<_;omega,by have:=r.un;show A.units+3+16*k+200<_;omega,r.gd⟩
theorem Jt.depth {k:Nat}{A:Around}(r:Jt k A):A.depth<recursionLimit:=by have:=r.dp;omega
theorem Jt.units {k:Nat}{A:Around}(r:Jt k A):A.units+64<cLine:=by have:=r.un;omega
def ZkC:TA:=λ_ H Q=>Q [] H
def ZcR (J:TE)(M:TA):TA:=λj H Q=>J j H λx O=>M j O λU Y=>Q (x::U) Y
section
variable {X:Cx}{e:Expr}{es:List Expr}{te:TE}{t:TA}{pos:Pos}
theorem Zs:PA X [] ZkC:=λ_ _ _ _ H Q I h=>Calls.spliced_nil ⟨[],H,I,.nil,h⟩
theorem Zle (M:PE X e te)(O:PA X es t)(U:starEach (e::es) X.env=(false,eval e X.env)::starEach es X.env:=by rfl):PA X (e::es) (ZcR te t):=by
 intro pos j s J H Q I h;rw[U];show wpAny _ _ (spliced ((false,eval e X.env)::backTo pos (starEach es X.env))) _ _ s;refine Calls.spliced_cons (Yo (M j s J H _ I h) λu Y ⟨x,H1,I1,r1,q1⟩=>?_);exact Yo (O pos j Y J H1 _ I1 q1) λus s2 ⟨xs,H2,I2,r2,q2⟩=>⟨x::xs,H2,I2,.cons r1 r2,q2⟩
inductive iTu (Q:VK) (xs:TR) (H:Hp):Prop
 |mk:xs.length<=sizeLine->(∀p,H p=none->Q (.ref p) (upd H p (.tup xs)))->iTu Q xs H
def Zrx (t:TA):TE:=λj H Q=>t j H (iTu Q)
inductive iLs (Q:VK) (xs:TR) (H:Hp):Prop
 |mk:xs.length<=sizeLine->(∀p,H p=none->Q (.ref p) (upd H p (.lst xs)))->iLs Q xs H
def Zne (t:TA):TE:=λj H Q=>t j H (iLs Q)
theorem VG {U}(h:PA X es t):PE X (.Tuple es U pos) (Zrx t):=by
 intro j s Y H Q I hq;refine wpAny_Tuple_spliced (Yo (h pos j s Y H _ I hq) λus J ⟨xs,M,O,r,z,q⟩=>⟨by rw[<-r.length];exact z,?_⟩);have hf:M J.heap.objs.size=none:=O.hok.fresh (Zq _);refine⟨.ref J.heap.objs.size,upd M J.heap.objs.size (.tup xs),O.laid (t':=J.toks) (λb u e=>Zn _ e) (Zq _) ?_,rfl,q _ hf⟩;exact⟨z,us,r,⟨_,Zo _ rfl,rfl,_,rfl⟩⟩
theorem ZS (h:PA X es t):PE X (.List es pos) (Zne t):=by
 intro j s U H Q I Y;refine wpAny_List_spliced (Yo (h pos j s U H _ I Y) λus J ⟨xs,M,O,r,z,q⟩=>⟨by rw[<-r.length];exact z,?_⟩);have hf:M J.heap.objs.size=none:=O.hok.fresh (Zq _);refine⟨.ref J.heap.objs.size,upd M J.heap.objs.size (.lst xs),O.laid (t':=J.toks) (λb u e=>Zn _ e) (Zq _) ?_,rfl,q _ hf⟩;exact⟨z,us,0,r,Zo _ rfl⟩
end
noncomputable abbrev Sp:=TR->Hp->VK->XK->Prop
noncomputable abbrev CXT:=List Env->Hp->Shared->XK->Value->Shared->Prop
structure Zmi (P:Program)(w:World)(K:aa)(mg:TV)(base:Heap)(A:Around)(outer:List Env)(s:Shared)(H:Hp):Prop where
 frames:A.frames=some outer
 mod:Mod K mg base
 bs:∀b o,base.get? b=some o->s.heap.get? b=some o/\H b=none
 bsz:base.objs.size<=s.heap.objs.size
 funs:s.heap.FunFrames base outer
 frf:∀b∈frs outer,H b=none
 hok:Vz P w H s.heap
 bare:iS s.gens
def CE (outer:List Env)(P:Program)(w:World)(H:Hp)(s:Shared)(Q:VK)(u:Value)(s':Shared):Prop:=
 ∃v j,s'.os=s.os/\iS s'.gens/\Un (frs outer) [] H j s.heap s'.heap/\Vz P w j s'.heap/\RelV v u/\Q v j
def CR (CX:CXT)(outer:List Env)(P:Program)(w:World)(H:Hp)(s:Shared)(Q:VK)(E:XK)(r:Result)(s':Shared):Prop:=
 match r with
 | .ok (.ret u)=>CE outer P w H s Q u s'
 | .ok _=>False
 | .error e=>CX outer H s E e s'
structure ZW (P:Program)(w:World)(K:aa)(mg:TV)(base:Heap)(CX:CXT)(k:Nat)(f:Addr)(fd:FuncData)(ps:List Str)(sp:Sp):Prop where
 len:∀vs H Q E,sp vs H Q E->vs.length=ps.length
 run:∀(A:Around) (outer:List Env) (s:Shared) (H:Hp) (args:Args) (us:List Value) (vs:TR) (Q:VK) (E:XK),Jt k A->Zmi P w K mg base A outer s H->jr s fd args (ps.zip us)->ZN vs us->sp vs H Q E->
  codeAny (model P w) A (.call (.ref f) args) (CR CX outer P w H s Q E) s
section
variable {X:Cx}{pins:List (Addr×Obj)}{σ:St}{H:Hp}{s s':Shared}
theorem Inv.env0 (I:Inv X pins σ H s):Zmi X.prog X.w X.K X.mg X.base X.A X.stack s H:=
 ⟨I.ok.frames,I.ok.mod,I.bs,aN I.ok.bsz I.sz,I.stack,I.stkFree,I.hok,I.bare⟩
theorem Inv.after {Q:VK}{u:Value}(I:Inv X pins σ H s)(h:CE X.stack X.prog X.w H s Q u s'):EP X pins σ Q u s':=by
 obtain⟨v,J,os,bare,un,hok,r,q⟩:=h;obtain⟨M,g,d,t,j⟩:=s';obtain rfl:j=s.os:=os;exact⟨v,J,I.call (h':=M) (g':=g) (d':=d) (t':=t) (ch:=[]) un hok bare (λb z=>absurd z (by simp)),r,q⟩
end
def Zmo (sp:Sp)(j:TR)(E:XK)(t:TA):TE:=λJ H Q=>t J H λM O=>sp (M++j) O Q E
def Binds (K:aa)(M:FuncData)(J:List Str)(ds:List Value):Prop:=
 ∀(s:Shared) (j:List Value),K.In s.heap->(j++ds).length=J.length->jr s M ⟨j,[]⟩ (J.zip (j++ds))
theorem Binds.all {K:aa}{fd:FuncData}{j:List Str}(h:∀us:List Value,us.length=j.length->bindArgs fd ⟨us,[]⟩=pure (j.zip us)):Binds K fd j []:=λs us _ J=>by
 rw[ft] at J ⊢;exact .of_eq (h us J)
def ZcF (CX:CXT)(X:Cx)(E:XK):Prop:=∀(j:List (Addr×Obj)) (M:St) (H:Hp) (s:Shared) (e:Value) (J:Shared),Inv X j M H s->CX X.stack H s E e J->X.xe e J
section
variable {X:Cx}{CX:CXT}{k:Nat}{f C:Addr}{fd:FuncData}{ps:List Str}{sp:Sp}{dvs:TR}{ds:List Value}{E:XK}{x m:Str}{p pos apos:Pos}{e o:Expr}{es:List Expr}{ta:TE}{t:TA}
theorem Znm {j:List (Addr×Obj)}{σ:St}{H:Hp}{s:Shared}{Q:VK}{us:List Value}{vs:TR}(F:ZW X.prog X.w X.K X.mg X.base CX k f fd ps sp)(O:Jt k X.A)(hb:Binds X.K fd ps ds)(U:ZN dvs ds)(Y:ZcF CX X E)
  (I:Inv X j σ H s) (r:ZN vs us) (h:sp (vs++dvs) H Q E):wpAny (model X.prog X.w) X.A (call (.ref f) us) (EP X j σ Q) X.xe s:=by
 have M:ZN (vs++dvs) (us++ds):=r.append U;have hl:(us++ds).length=ps.length:=by rw[<-M.length];exact F.len _ _ _ _ h
 refine wpAny_call (fW (F.run X.A X.stack s H ⟨us,[]⟩ (us++ds) (vs++dvs) Q E O I.env0 (hb s us I.kIn hl) M h) λr s' J=>?_);cases r with
 |error e=>exact Y j σ H s e s' I J
 |ok fl=>
  cases fl with
  |ret u=>exact I.after J
  |next=>exact eF J
  |brk=>exact eF J
  |cont=>exact eF J
theorem Zla (F:ZW X.prog X.w X.K X.mg X.base CX k f fd ps sp)(Y:Jt k X.A)(hg:Gl X x)(hm:X.mg x=some (.ref f))(hk:dY X.K (.ref f)=true)(hb:Binds X.K fd ps ds)(hd:ZN dvs ds)(hx:ZcF CX X E)
  (ha:PA X (e::es) t) (J:(x == ("__debug__":Str))=false:=by decide) (he:starEach (e::es) X.env=(false,eval e X.env)::starEach es X.env:=by rfl) (M:(backTo pos (starEach es X.env)).any (·.1)=false:=by rfl) :
  PE X (.Call (.Name x p) (e::es) [] pos) (Zmo sp dvs E t):=by
 intro j s σ H Q I h;refine jQ (ZlM I hg hm ?_ J);refine PySem.W.callWith_K (h₀:=X.base) I.ok.mod.kin hk (Yo (ha pos j s σ H _ I h) λus s1 ⟨vs,H1,U,r,q⟩=>⟨U.kIn,?_⟩) he M;exact Znm F Y hb hd hx U r q
end
section
variable {X:Cx}{CX:CXT}{k:Nat}{f C:Addr}{fd:FuncData}{ps ks:List Str}{sp:Sp}{E:XK}{x m:Str}{p pos apos kpos:Pos}{e o:Expr}{es:List Expr}{kws:List Keyword}{te ta:TE}{t tk:TA}{nm:Option Str}
variable {g:List Value->List Value->List Value}{gV:TR->TR->TR}
end
structure Uz (N P:List Str)(sc:db):Prop where
 kind:sc.kind=.function
 co:sc.isCoroutine=false
 gen:sc.isGenerator=false
 nd:N.Nodup
 pre:N.take P.length=P
 par:∀x∈P,sc.names.lookup x=some .local\/sc.names.lookup x=some .cell
 nofree:∀y∈sc.names,y.2≠.free
theorem FS {N P:List Str}{j:db}(a:j.kind=.function:=by rfl)(b:j.isCoroutine=false:=by rfl)(c:j.isGenerator=false:=by rfl)(d:N.Nodup:=by decide +kernel)(e:N.take P.length=P:=by rfl)(f:∀x∈P,j.names.lookup x=some .local\/j.names.lookup x=some .cell:=by decide +kernel)(g:∀y∈j.names,y.2≠.free:=by decide +kernel):Uz N P j:=⟨a,b,c,d,e,f,g⟩
theorem bd1 {α:Type}{f g:List Value->α}(h:∀a,f [a]=g [a])(j:List Value)(l:j.length=1):f j=g j:=by
  cases j with
  |nil=>cases l
  |cons a r=>cases r with
    |nil=>exact h a
    |cons b r=>simp at l
theorem VT {α:Type}{f g:List Value->α}(h:∀a b,f [a,b]=g [a,b])(j:List Value)(l:j.length=2):f j=g j:=by
  cases j with
  |nil=>cases l
  |cons a r=>exact bd1 (f:=λr=>f (a::r)) (g:=λr=>g (a::r)) (h a) r (c8 l)
theorem bd3 {α:Type}{f g:List Value->α}(h:∀a b c,f [a,b,c]=g [a,b,c])(j:List Value)(l:j.length=3):f j=g j:=by
  cases j with
  |nil=>cases l
  |cons a r=>exact VT (f:=λr=>f (a::r)) (g:=λr=>g (a::r)) (h a) r (c8 l)
theorem bd4 {α:Type}{f g:List Value->α}(h:∀a b c d,f [a,b,c,d]=g [a,b,c,d])(j:List Value)(l:j.length=4):f j=g j:=by
  cases j with
  |nil=>cases l
  |cons a r=>exact bd3 (f:=λr=>f (a::r)) (g:=λr=>g (a::r)) (h a) r (c8 l)
theorem bd5 {α:Type}{f g:List Value->α}(h:∀a b c d e,f [a,b,c,d,e]=g [a,b,c,d,e])(j:List Value)(l:j.length=5):f j=g j:=by
  cases j with
  |nil=>cases l
  |cons a r=>exact bd4 (f:=λr=>f (a::r)) (g:=λr=>g (a::r)) (h a) r (c8 l)
theorem Zbm {kindOf:Str->Option fe}{x:Str}:∀{binds:List (Str×Value)}{m:TV},(∀v,(x,v)∉binds)->bindL kindOf binds m x=m x
 | [],_,_=>rfl
 |(n,v)::r,m,h=>by
  unfold bindL;rw[Zbm λw j=>h w (aF _ j)];split
  ·have:x≠n:=by rintro rfl;exact h v aD
   simp[this]
  ·rfl
theorem Zbo {kindOf:Str->Option fe}{x:Str}:∀{binds:List (Str×Value)}{m:TV},(∀v,(x,v)∉binds)->bindC kindOf binds m x=m x
 | [],_,_=>rfl
 |(n,v)::r,m,h=>by
  unfold bindC;rw[Zbo λw j=>h w (aF _ j)];split
  ·rfl
  ·have:x≠n:=by rintro rfl;exact h v aD
   simp[this]
theorem Zbn {kindOf:Str->Option fe}{x:Str}{v:Value}:∀{P:List Str}{vs:List Value}{i:Nat}{m:TV},P.Nodup->P[i]?=some x->vs[i]?=some v->kindOf x=some .local->
  bindL kindOf (P.zip vs) m x=some v
 | [],_,_,_,_,h,_,_=>by simp at h
 |_::_,[],_,_,_,_,h,_=>by simp at h
 |p::P,w::vs,0,m,nd,j,J,M=>by
  simp at j J;subst j;subst J;show bindL kindOf ((p,w)::P.zip vs) m p=_;unfold bindL;rw[Zbm λv O=>(bY.mp nd).1 (iB O).1,if_pos M];simp
 |p::P,w::vs,i+1,m,nd,j,J,M=>by
  show bindL kindOf ((p,w)::P.zip vs) m x=_;unfold bindL;exact Zbn (i:=i) (bY.mp nd).2 (by simpa using j) (by simpa using J) M
theorem Zbp {kindOf:Str->Option fe}{x:Str}{v:Value}:∀{P:List Str}{vs:List Value}{i:Nat}{m:TV},P.Nodup->P[i]?=some x->vs[i]?=some v->kindOf x≠some .local->
  bindC kindOf (P.zip vs) m x=some v
 | [],_,_,_,_,h,_,_=>by simp at h
 |_::_,[],_,_,_,_,h,_=>by simp at h
 |p::P,w::vs,0,m,nd,j,J,M=>by
  simp at j J;subst j;subst J;show bindC kindOf ((p,w)::P.zip vs) m p=_;unfold bindC;rw[Zbo λv O=>(bY.mp nd).1 (iB O).1,if_neg M];simp
 |p::P,w::vs,i+1,m,nd,j,J,M=>by
  show bindC kindOf ((p,w)::P.zip vs) m x=_;unfold bindC;exact Zbp (i:=i) (bY.mp nd).2 (by simpa using j) (by simpa using J) M
def start (N:List Str)(vs:TR):St:=vs.map some++am (N.length-vs.length) none
def Zhi (CX:CXT)(P:Program)(w:World)(K:aa)(mg:TV)(base:Heap)(N:List Str)(j:Str)(scope:db)(f:Addr)(M:Value)(A:Around)(outer:List Env)(s:Shared)(H:Hp)(E:XK):Cx where
 prog:=P
 w:=w
 K:=K
 mg:=mg
 base:=base
 A:=A.deeper (envOfC j scope s.heap.objs.size f M)
 N:=N
 s₀:=s
 H₀:=H
 env:=envOfC j scope s.heap.objs.size f M
 outer:=outer
 stack:=envOfC j scope s.heap.objs.size f M::outer
 ex:=[]
 calm:=true
 fn:=λ_=>true
 pn:=[]
 xe:=λe O=>wpAny (model P w) (A.deeper (envOfC j scope s.heap.objs.size f M)) (leaving (envOfC j scope s.heap.objs.size f M) e) (λ_ J=>CX outer H s E e J) (λU J=>CX outer H s E U J) O
theorem ZdQ {j:db}{n:Nat}{x:Str}(h:j.names.lookup x=some .cell):∃c,(cellsFrom n j.names []).lookup x=some c:=by
 have q:=gX j.names n [] (.inl h);exact kx.mp q
theorem Zg9 {CX:CXT}{P:Program}{w:World}{K:aa}{mg:TV}{base:Heap}{N M:List Str}{qual:Str}{scope:db}{f:Addr}{cd:Value}{A:Around}{outer:List Env}{s s1:Shared}{H:Hp}{E:XK}{us:List Value}{vs:TR}
  (S:Uz N M scope) (hd:A.handled=none) (J:Zmi P w K mg base A outer s H) (hl:vs.length=M.length) (r:ZN vs us)
  (x:InCallC s s.heap.objs.size (bindL (envOfC qual scope s.heap.objs.size f cd).kindOf (M.zip us) λ_=>none) (cellsFrom (s.heap.objs.size+1) scope.names []) (bindC (envOfC qual scope s.heap.objs.size f cd).kindOf (M.zip us) λ_=>none) s1) :
  Inv (Zhi CX P w K mg base N qual scope f cd A outer s H E) [] (start N vs) H s1:=by
 have o5:M.length<=N.length:=by have:=congrArg df S.pre;rw[bE] at this;omega
 obtain⟨h1,tk,rfl,hk⟩:=x.done;have O:∀b:Addr,b∉(Zhi CX P w K mg base N qual scope f cd A outer s H E).ex:=λb z=>absurd (show b∈([]:TU) from z) (by simp);refine⟨⟨J.mod,S.kind,rfl,rfl,Zq _,λy z c h1 j=>?_,λy U=>?_,λy c _ h=>?_,λ_=>hd,Around.frames_deeper J.frames,.inr ⟨rfl,rfl⟩,λb z=>absurd z (O b),J.bs,J.bsz,λb _ _=>O b,λb z=>absurd z (O b),J.funs,J.frf⟩,
  rfl,J.bare,Un.kept hk,⟨_,x.toInCall.ns,λi y v h1 j h3=>?_⟩,λy c h=>⟨_,x.cell y c h⟩,J.hok.fresh (Zq _),λy c h=>?_,λp Y=>absurd (show p∈([]:List (Addr×Obj)) from Y) (by simp),J.hok.kept hk,?_⟩
 ·exact name_of_addr x.apart (bK h1) (bK j)
 ·have U:scope.names.lookup y=some .cell\/scope.names.lookup y=some .free:=U
  rcases U with U|U
  ·exact ZdQ U
  ·exact absurd rfl (S.nofree _ (bK U))
 ·exact dN (x.above y c (bK h))
 ·have hi:i<vs.length:=by
   unfold start at j;by_cases hi:i<vs.length
   ·exact hi
   ·rw[aw (by simpa using hi)] at j
    rw[cP] at j;split at j <;> cases j
  have ha:vs[i]?=some v:=by
   unfold start at j;rw[aq (by simpa using hi),Zc] at j;cases e:vs[i]? with
   |none=>rw[e] at j;cases j
   |some a=>rw[e] at j;cases j;rfl
  obtain⟨u,hu,rv⟩:=r.get ha;have Y:M[i]?=some y:=by
   rw[<-S.pre,List.getElem?_take_of_lt (by omega)];exact h1
  have o0:M.Nodup:=by rw[<-S.pre];exact S.nd.sublist (jt _ _)
  refine⟨u,rv,?_⟩;rcases S.par y (ah Y) with k|k
  ·exact .inl ⟨k,Zbn o0 Y hu k⟩
  ·obtain⟨c,e⟩:=ZdQ (n:=s.heap.objs.size+1) k
   refine .inr ⟨.inl k,c,e,?_⟩;have q:=x.cell y c e;rw[Zbp o0 Y hu (by show scope.names.lookup y≠_;rw[k];decide)] at q;exact q
 ·exact J.hok.fresh (dN (x.above y c (bK h)))
 ·unfold start
  show _=N.length;rw[Zd,Za,Ze];omega
theorem Zqj {CX:CXT}{P:Program}{w:World}{K:aa}{mg:TV}{base:Heap}{k:Nat}{f:Addr}{name j:Str}{params:Arguments}{body:List Stmt}{scope:db}{dV kV o5 pm M ct oc:Value}{an od:Option Addr}
  {o8:Array (Option Value)}{N ps:List Str}{sp:Sp} (lk:K.lookup f=some ⟨oc,od,.func (cK name j params body scope dV kV o5 pm an M ct),o8⟩) (o9:fw K M j=true) (S:Uz N ps scope)
  (len:∀vs H Q E,sp vs H Q E->vs.length=ps.length)
  (Y:∀(A:Around) (outer:List Env) (s:Shared) (H:Hp) (vs:TR) (Q:VK) (E:XK),Jt k (A.deeper (envOfC j scope s.heap.objs.size f M))->sp vs H Q E->
   ∃t,PSs (Zhi CX P w K mg base N j scope f M A outer s H E) body t/\t {nx:=λ_ U=>Q .non U,rt:=Q} (start N vs) H) :
  ZW P w K mg base CX (k+1) f (cK name j params body scope dV kV o5 pm an M ct) ps sp:=by
 refine⟨len,λA outer s H args us vs Q E hr e0 hb r o6=>?_⟩;have hl:=len _ _ _ _ o6;have KX:K.In s.heap:=e0.mod.kin.keeps λb o e=>(e0.bs b o e).1;have p6:s.heap.NoLimit:=e0.mod.nolimit.keeps λb o e=>(e0.bs b o e).1;have o0:∀y∈ps.zip us,scope.names.lookup y.1=some .local\/(scope.names.lookup y.1=some .cell/\((cellsFrom (s.heap.objs.size+1) scope.names []).lookup y.1).isSome=true):=λ⟨n,v⟩ hy=>by
  rcases S.par n (iB hy).1 with q|q
  ·exact .inl q
  ·exact .inr ⟨q,gX _ _ _ (.inl q)⟩
 refine codeAny_call_function hr.depth (KX _ _ lk) rfl S.co S.gen rfl (PySem.W.codeRec_of KX o9) (hb _ _ _ _ ?_);refine wpAny_newFunctionEnv_cells S.kind o0 λenv he s1 x=>?_;subst he;refine⟨p6.keeps x.toInCall.keep,codeAny_func ?_⟩;obtain⟨t,ht,hq⟩:=Y A outer s H vs Q E (hr.deeper _) o6;have I:Inv (Zhi CX P w K mg base N j scope f M A outer s H E) [] (start N vs) H s1:=Zg9 S hr.hd e0 hl r x;refine cH (ht [] s1 (start N vs) H _ I hq) (λfl s' hs=>?_) λe s' hs=>hs;have o7:∀{O:St}{U:Hp}{v:V}{u:Value},Inv (Zhi CX P w K mg base N j scope f M A outer s H E) [] O U s'->RelV v u->Q v U->CE outer P w H s Q u s':=
  λ{O U v u} J rv q=>⟨v,U,J.os,J.bare,J.base,J.hok,rv,q⟩
 cases fl with
 |ret u=>
  obtain⟨v,O,U,J,rv,q⟩:=hs;exact o7 J rv q
 |next=>
  obtain⟨O,U,J,q⟩:=hs;exact o7 (v:=V.non) (u:=b9) J rfl q
 |brk=>
  obtain⟨_,_,_,q⟩:=hs;exact eF q
 |cont=>
  obtain⟨_,_,_,q⟩:=hs;exact eF q
section
variable {X:Cx}{x:Str}{p pos:Pos}{e:Expr}{es:List Expr}{t:TA}{id T:String}{r:TR->Hp->VK->Prop}
def tCB (r:TR->Hp->VK->Prop)(t:TA):TE:=λj H Q=>t j H λJ M=>r J M Q
theorem ZiO (U:YI X (.builtin id) r)(Y:Gl X x)(hm:X.mg x=none)(hv:bootBuiltins x=some (.builtin id))(ha:PA X (e::es) t)(hn:x ≠ "__name__":=by decide)(J:(x == ("__debug__":Str))=false:=by decide)
  (he:starEach (e::es) X.env=(false,eval e X.env)::starEach es X.env:=by rfl) (M:(backTo pos (starEach es X.env)).any (·.1)=false:=by rfl):PE X (.Call (.Name x p) (e::es) [] pos) (tCB r t):=by
 intro j s O H Q I h;refine jQ (JD I Y hm hv ?_ hn J);exact PyProof.Rows.callWith_builtin1 (Yo (ha pos j s O H _ I h) λus s1 ⟨vs,H1,I1,r1,q1⟩=>U j s1 O H1 vs us Q I1 r1 q1) he M
theorem ZgP (U:YI X (.type T) r)(Y:Gl X x)(hm:X.mg x=none)(hv:bootBuiltins x=some (.type T))(ha:PA X (e::es) t)(hn:x ≠ "__name__":=by decide)(J:(x == ("__debug__":Str))=false:=by decide)
  (he:starEach (e::es) X.env=(false,eval e X.env)::starEach es X.env:=by rfl) (M:(backTo pos (starEach es X.env)).any (·.1)=false:=by rfl):PE X (.Call (.Name x p) (e::es) [] pos) (tCB r t):=by
 intro j s O H Q I h;refine jQ (JD I Y hm hv ?_ hn J);exact bD (Yo (ha pos j s O H _ I h) λus s1 ⟨vs,H1,I1,r1,q1⟩=>U j s1 O H1 vs us Q I1 r1 q1) he M
end
end L2
variable {X:L2.Cx}{pins:List (PySem.Addr×PySem.Obj)}{σ:L2.St}{H:L2.Hp}
namespace HT
open PySem PyProof.Rows
section
open PySem.SeqAt
open PySem.AutoSeq1 (wpAny_loadPart')
open PySem.MeetsSeq PySem.MeetsSeq2 PySem.MeetsSeq3
end
theorem Zl8 {t b:Addr}{vs j:List Value}{Q:TW}(ht:jN s.heap t vs.toArray)(hb:jN s.heap b j.toArray)(hv:vs≠[])
  (h1:j=[]->Q (.ref t) s) (h2:j≠[]->Q (.ref s.heap.objs.size) {s with heap:=s.heap.push {cls:=.type "tuple",data:=.seq (vs++j).toArray}})
  (hsz:vs.length+j.length<=sizeLine):wpAny (model prog w) A (binaryOp .Add (.ref t) (.ref b)) Q E s:=by
 obtain⟨⟨cls,dd,data,sl⟩,ho,hc,n,hd⟩:=id ht;obtain⟨⟨o0,M,data2,O⟩,J,U,n2,Y⟩:=id hb;simp only at hc hd U Y;subst hc hd U Y;have e:vs.toArray++j.toArray=(vs++j).toArray:=by simp
 by_cases hw:j=[]
 ·exact ni ⟨_,ho,rfl⟩ ⟨_,J,rfl⟩ kH mB g9 gJ (gC _ _)
   (tuple_addW1 t b vs.toArray j.toArray n n2 dd M sl O (by simpa using hv) (by simp[hw])) ⟨ho,J,h1 hw⟩
 ·refine ni ⟨_,ho,rfl⟩ ⟨_,J,rfl⟩ kH mB g9 gJ (gC _ _)
   (tuple_addW2 t b vs.toArray j.toArray n n2 dd M sl O (by simpa using hv) (by simpa using hw) (by rw[Zh,Zh];exact hsz)) ⟨ho,J,?_⟩
  rw[e];exact h2 hw
def Y1 (n d:Nat):Option Int->Nat
 |none=>d
 |some v=>if v<0 then (v+(n:Int)).toNat else min v.toNat n
theorem Vb (n d:Nat):Y1 n d none=d:=rfl
theorem Vd (n d k:Nat):Y1 n d (some (k:Int))=min k n:=by
 show (if (k:Int)<0 then ((k:Int)+(n:Int)).toNat else min (k:Int).toNat n)=min k n
 rw[if_neg (by omega),Zj]
theorem Znk (n d:Nat)(J:d<=n)(o:Option Int):Y1 n d o<=n:=by
 cases o with
 |none=>exact J
 |some v=>
  show (if v<0 then (v+(n:Int)).toNat else min v.toNat n)<=n
  by_cases j:v<0
  ·rw[if_pos j];omega
  ·rw[if_neg j];exact Nat.min_le_right _ _
theorem Zgk (v:Int)(n d:Nat):(if v<0 then max (v+(n:Int)) 0 else min v (n:Int))=((Y1 n d (some v):Nat):Int):=by
 show (if v<0 then max (v+(n:Int)) 0 else min v (n:Int))=(((if v<0 then (v+(n:Int)).toNat else min v.toNat n):Nat):Int)
 by_cases j:v<0
 ·simp only[if_pos j];omega
 ·simp only[if_neg j];omega
theorem Ze7 (lo j:Option Int)(n:Nat):fX lo j 1 (n:Int)=(((Y1 n 0 lo:Nat):Int),((Y1 n n j:Nat):Int)):=by
 have J:¬((1:Int)<0):=by omega
 unfold fX;simp only[J,if_false];refine Prod.ext ?_ ?_
 ·cases lo with
  |none=>rfl
  |some v=>exact Zgk v n 0
 ·cases j with
  |none=>rfl
  |some v=>exact Zgk v n n
theorem ZeA (i j:Nat):dQ (i:Int) (j:Int) 1=j-i:=by
 unfold dQ;have J:(1:Int) > 0:=by omega
 simp only[J,if_true,Int.ediv_one];split <;> omega
theorem UO {v:Value}{o:Option Int}{Q:Option Int->Shared->Prop}(p:jp v o)(h:Q o s):wpAny (model prog w) A (Builtin.Slice.slicePartIndex v) Q E s:=by
 cases p with
 |none=>exact slicePart_none h
 |int i t=>exact slicePart_int h
theorem Jr {U:Addr}{M O:Value}{lo hi:Option Int}{n:Nat}{Q:Int×Int×Nat->Shared->Prop}(Y:s.heap.IsSliceOf U M O .none)(pl:jp M lo)(pu:jp O hi)
  (h:Q (((Y1 n 0 lo:Nat):Int),1,Y1 n n hi-Y1 n 0 lo) s):wpAny (model prog w) A (i7 (.ref U) (pure (n:Int))) Q E s:=by
 obtain⟨os,j,o0,J⟩:=id Y;unfold i7 Builtin.Slice.sliceFields;refine Zl (Zl (bI j J (x:=M) rfl (Zl (bI j J (x:=O) rfl (Zl (bI j J (x:=.none) rfl (Zm ?_)))))));refine Zl (slicePart_none ?_);show wpAny _ _ (if ((1:Int) == 0)=true then _ else _) _ _ s
 rw[if_neg (by decide)];refine Zl (UO pl (Zl (UO pu (Zl (Zm ?_)))));show wpAny _ _ (match fX lo hi 1 (n:Int) with|(lo,hi)=>pure (lo,(1:Int),dQ lo hi 1)) _ _ s
 rw[Ze7 lo hi n];show wpAny _ _ (pure (((Y1 n 0 lo:Nat):Int),(1:Int),dQ ((Y1 n 0 lo:Nat):Int) ((Y1 n n hi:Nat):Int) 1)) _ _ s;rw[ZeA];exact Zm h
theorem ZiK (xs:Array Value)(i k:Nat):((ac k).filterMap λ(m:Nat)=>xs[((i:Int)+(m:Int)*1).toNat]?).toArray=((xs.toList.drop i).take k).toArray:=by
 have e:(λ(m:Nat)=>xs[((i:Int)+(m:Int)*1).toNat]?)=λm=>xs[i+m]?:=by
  funext m;have:((i:Int)+(m:Int)*1).toNat=i+m:=by omega
  rw[this]
 rw[e];have:=pick_run xs i k;rw[List.filterMap_map] at this;have j:((λx=>xs[x]?) ∘ λx=>i+x)=λm=>xs[i+m]?:=rfl;rw[j] at this;rw[this]
theorem Vp {t O:Addr}{items:Array Value}{vl vu:Value}{lo J:Option Int}{Q:TW}(M:jN s.heap t items)(hs:s.heap.IsSliceOf O vl vu .none)(pl:jp vl lo)(pu:jp vu J)
  (hw:¬(Y1 items.size 0 lo=0/\Y1 items.size items.size J=items.size))
  (h:Q (.ref s.heap.objs.size) {s with heap:=s.heap.push {cls:=.type "tuple",data:=.seq ((items.toList.drop (Y1 items.size 0 lo)).take (Y1 items.size items.size J-Y1 items.size 0 lo)).toArray}})
  (hsz:items.size<=sizeLine):wpAny (model prog w) A (getItem (.ref t) (.ref O)) Q E s:=by
 have j:sizeOk (.seq ((items.toList.drop (Y1 items.size 0 lo)).take (Y1 items.size items.size J-Y1 items.size 0 lo)).toArray):=by
  show ((items.toList.drop (Y1 items.size 0 lo)).take (Y1 items.size items.size J-Y1 items.size 0 lo)).toArray.size<=sizeLine;rw[Zh,bE,cr,Zr];omega
 have hj:Y1 items.size items.size J<=items.size:=Znk _ _ (Zq _) J;obtain⟨os,U,Y,o7⟩:=id hs;have o0:s.TypeIs (.ref O) "slice":=⟨os,U,Y⟩;unfold getItem
 try with_reducible refine cn ?_
 first|refine Zl (Zm ?_)|skip
 refine Zl (wpAny_sequenceKey M.typeIs (by decide) ?_);refine Zl (a8 (name:=cN "__getitem__") M.typeIs bN
  (ba bN M.typeIs entry_tuple_getitem ?_ (args_tuple_getitem _ _)))
 show wpAny _ _ (dD (.ref t) >>= _) _ _ s;refine Zl (tupleItemsOf_ M ?_);refine Zl (fk o0 ?_);rw[if_pos (by decide)];refine Zl (Jr hs pl pu ?_);have o5:¬((((Y1 items.size 0 lo:Nat):Int) == 0 && (1:Int) == 1 && (Y1 items.size items.size J-Y1 items.size 0 lo) == items.size)=true):=by
  intro q;rw[ae,ae] at q;have q1:((Y1 items.size 0 lo:Nat):Int)=0:=eq_of_beq q.1.1;have q2:Y1 items.size items.size J-Y1 items.size 0 lo=items.size:=eq_of_beq q.2;exact hw ⟨by omega,by omega⟩
 show wpAny _ _ (if (((Y1 items.size 0 lo:Nat):Int) == 0 && (1:Int) == 1 && (Y1 items.size items.size J-Y1 items.size 0 lo) == items.size)=true then _ else _) _ _ s
 rw[if_neg o5,ZiK]
 first
  |exact Zl (m:=cy _) (bm (Zm ⟨_,rfl,Zm h⟩) j)
  |exact Zl (m:=cy _) (bm (Zl (Zm (Zm ⟨_,rfl,Zm h⟩))) j)
  |exact Zl (Zl (m:=cy _) (bm (Zm (Zm ⟨_,rfl,Zm h⟩)) j))
  |exact Zl (Zl (m:=cy _) (bm (Zm ⟨_,rfl,Zm h⟩) j))
end HT
namespace L2
open PySem PySem.Spec PyProof.Rows
noncomputable abbrev TO:=St->Hp->(Option Int->Hp->Prop)->Prop
def PO (X:Cx)(e:Option Expr)(t:TO):Prop:=
 ∀(j:List (Addr×Obj)) (s:Shared) (J:St) (H:Hp) (Q:Option Int->Hp->Prop),Inv X j J H s->t J H Q->
  wpAny (model X.prog X.w) X.A (evalPart e X.env) (λu O=>∃o M,Inv X j J M O/\jp u o/\Q o M) X.xe s
def ZkB:TO:=λ_ H Q=>Q none H
inductive iPt (Q:Option Int->Hp->Prop) (x:V) (H:Hp):Prop
 |mk (i:Int):x=.int i->Q (some i) H->iPt Q x H
def Zpn (t:TE):TO:=λj H Q=>t j H (iPt Q)
theorem intsAre_of {ns:TX}:∀{us:List Value},ZN (ns.map V.int) us->bW us ns:=by
 induction ns with
 |nil=>intro us r;rw[fK] at r;cases r;exact .nil
 |cons n ns j=>
  intro us r;rw[aB] at r;cases r with
  |cons J M=>
   obtain⟨t,e⟩:=J;subst e;exact .cons n t (j M)
section
variable {e:Expr}{te:TE}{lo hi:Option Expr}{tl th:TO}{pos p2:Pos}
theorem Jz:PO X none ZkB:=by
 intro j s J H Q I h;rw[evalPart_none];exact Zm ⟨none,H,I,.none,h⟩
theorem Jy (h:PE X e te):PO X (some e) (Zpn te):=by
 intro j s J H Q I M;rw[evalPart_some];refine Yo (h j s J H _ I M) λu s1 ⟨x,O,U,r1,Y⟩=>?_;obtain⟨i,rfl,q⟩:=Y;obtain⟨t,rfl⟩:=r1;exact⟨some i,O,U,.int i t,q⟩
def SlR (X:Cx)(r:V->Option Int->Option Int->Hp->VK->Prop):Prop:=
 ∀(j:List (Addr×Obj)) (s:Shared) (J:St) (H:Hp) (x:V) (v M O:Value) (lo hi:Option Int) (U:Addr) (Q:VK),Inv X j J H s->RelV x v->s.heap.IsSliceOf U M O .none->jp M lo->jp O hi->r x lo hi H Q->
  ∃T id,typeLookup (.type T) "__getitem__"=pure (some (.builtin id))/\s.TypeIs v T/\wpAny (model X.prog X.w) X.A (getItem v (.ref U)) (EP X j J Q) X.xe s
def tSl (r:V->Option Int->Option Int->Hp->VK->Prop)(te:TE)(tl th:TO):TE:=λj H Q=>te j H λx J=>tl j J λl M=>th j M λu O=>r x l u O Q
theorem WT {r:V->Option Int->Option Int->Hp->VK->Prop}(hr:SlR X r)(he:PE X e te)(hl:PO X lo tl)(hu:PO X hi th):PE X (.Subscript e (.Slice lo hi none p2) pos) (tSl r te tl th):=by
 intro j s M H Q I h;refine Subscript_ (Yo (he j s M H _ I h) λv s1 ⟨x,H1,I1,r1,q1⟩=>?_);refine wpAny_Slice (Yo (hl j s1 M H1 _ I1 q1) λO s2 ⟨l,H2,I2,pl,q2⟩=>Yo (hu j s2 M H2 _ I2 q2) λU J ⟨u,Y,I3,pu,q3⟩=>?_);rw[evalPart_none];refine Zm ?_;have I4:Inv X j M Y {J with heap:=J.heap.push {cls:=.type "slice",data:=.fields #[O,U,.none]}}:=I3.kept (t':=J.toks) λb ob q=>Zn _ q;obtain⟨T,id,hT,ht,hg⟩:=hr j {J with heap:=J.heap.push {cls:=.type "slice",data:=.fields #[O,U,.none]}} M Y x v O U l u J.heap.objs.size Q I4 r1 (Heap.IsSliceOf.new ..) pl pu q3;show wpAny (model X.prog X.w) X.A (subscriptTail e (.Slice lo hi none p2) v (.ref J.heap.objs.size)) (EP X j M Q) X.xe {J with heap:=J.heap.push {cls:=.type "slice",data:=.fields #[O,U,.none]}};exact tail_any (ops:=[.ref J.heap.objs.size,v]) ht hT hg (by with_unfolding_all rfl)
def Jj (xs:TR)(lo hi:Option Int):TR:=(xs.drop (HT.Y1 xs.length 0 lo)).take (HT.Y1 xs.length xs.length hi-HT.Y1 xs.length 0 lo)
theorem J6 (xs:TR)(lo hi:Option Int):(Jj xs lo hi).length<=xs.length:=by
 unfold Jj;rw[bE,cr];omega
inductive ZpP (K:aa) (x:V) (lo:Option Int) (hi:Option Int) (H:Hp) (Q:VK):Prop
 |mk (a:_) (xs:_):(x=.ref a)->(WO K H a xs)->(¬(HT.Y1 xs.length 0 lo=0/\HT.Y1 xs.length xs.length hi=xs.length)/\∀p,H p=none->Q (.ref p) (upd H p (.tup (Jj xs lo hi))))->ZpP K x lo hi H Q
theorem Zh8:SlR X (ZpP X.K):=by
 intro M s σ H x v vl vu lo hi sl Q I Y hs pl pu h;obtain⟨a,xs,rfl,hx,hw,q⟩:=h;cases Y;obtain⟨J,r,O,U⟩:=I.tuple hx;have j:J.toArray.size=xs.length:=by rw[Zh];exact r.length.symm
 refine⟨"tuple",_,bN.lookup,O.typeIs,?_⟩;refine HT.Vp O hs pl pu (by rw[j];exact hw) ?_ (by rw[j];exact U);rw[j];refine⟨.ref s.heap.objs.size,_,I.laid (t':=s.toks) (o:=.tup (Jj xs lo hi)) (λb ob q=>Zn _ q) (Zq _) ?_,rfl,q _ (I.hok.fresh (Zq _))⟩;exact⟨aN (J6 xs lo hi) U,_,(r.drop (HT.Y1 xs.length 0 lo)).take (HT.Y1 xs.length xs.length hi-HT.Y1 xs.length 0 lo),hG _ _⟩
inductive ZmK (K:aa) (x:V) (y:V) (H:Hp) (Q:VK):Prop
 |mk (a:_) (b:_) (xs:_) (ys:_):(x=.ref a)->(y=.ref b)->(WO K H a xs)->(WO K H b ys)->(xs≠[])->(xs.length+ys.length<=sizeLine)->((ys=[]->Q (.ref a) H))->((ys≠[]->∀p,H p=none->Q (.ref p) (upd H p (.tup (xs++ys)))))->ZmK K x y H Q
theorem ZN.nil_iff {xs:TR}{us:List Value}(r:ZN xs us):us=[]↔xs=[]:=by
 cases r with
 |nil=>simp
 |cons _ _=>simp
theorem Zlk:XX X (binaryOp .Add) (ZmK X.K):=by
 intro J s σ H x y v u Q I U Y h;obtain⟨a,b,xs,ys,rfl,rfl,ha,hb,hx,M,q1,q2⟩:=h;cases U;cases Y;obtain⟨o0,r1,p1,_⟩:=I.tuple ha;obtain⟨O,j,p2,_⟩:=I.tuple hb;refine HT.Zl8 p1 p2 (λz=>hx (r1.nil_iff.mp z)) (λz=>⟨.ref a,H,I,rfl,q1 (j.nil_iff.mp z)⟩) (λz=>?_) (by rw[<-r1.length,<-j.length];exact M);refine⟨.ref s.heap.objs.size,_,I.laid (t':=s.toks) (o:=.tup (xs++ys)) (λb ob q=>Zn _ q) (Zq _) ?_,rfl,q2 (λw=>z (j.nil_iff.mpr w)) _ (I.hok.fresh (Zq _))⟩;exact⟨by rw[Zd];exact M,_,r1.append j,hG _ _⟩
end
def ixN (n:Nat)(i:Int):Option Nat:=if 0<=i then (if i<n then some i.toNat else none) else if -(n:Int)<=i then some (i+n).toNat else none
def Xy {α:Type}(xs:List α)(i:Int):Option α:=(ixN xs.length i).bind λj=>xs[j]?
theorem Zck {n:Nat}{i:Int}{j:Nat}(h:ixN n i=some j):seqIndex? i n=some j/\j<n/\-(n:Int)<=i/\i<n:=by
 unfold ixN at h;by_cases M:0<=i
 ·rw[if_pos M] at h
  by_cases J:i<n
  ·rw[if_pos J] at h
   have e:i.toNat=j:=aA h;exact⟨by rw[seqIndex_of M J,e],by omega,by omega,J⟩
  ·rw[if_neg J] at h;cases h
 ·rw[if_neg M] at h
  by_cases J:-(n:Int)<=i
  ·rw[if_pos J] at h
   have e:(i+n).toNat=j:=aA h;exact⟨by rw[seqIndex_neg (by omega) J,e],by omega,J,by omega⟩
  ·rw[if_neg J] at h;cases h
theorem Zgq {α:Type}{xs:List α}{i:Int}{v:α}(h:Xy xs i=some v):∃j,seqIndex? i xs.length=some j/\xs[j]?=some v/\j<xs.length/\-(xs.length:Int)<=i/\i<xs.length:=by
 unfold Xy at h;cases e:ixN xs.length i with
 |none=>rw[e] at h;cases h
 |some j=>
  rw[e] at h;obtain⟨J,M,O,U⟩:=Zck e;exact⟨j,J,h,M,O,U⟩
theorem ZR {α:Type}{xs:List α}{j:Nat}{v:α}(h:xs[j]?=some v):Xy xs (j:Int)=some v:=by
 have J:j<xs.length:=(ab.mp h).1;have e:ixN xs.length (j:Int)=some j:=by
  unfold ixN;rw[if_pos (by omega),if_pos (by omega)];simp
 unfold Xy;rw[e];exact h
theorem ZdU {α:Type}(xs:List α)(v:α):Xy (xs++[v]) (-1)=some v:=by
 have j:(xs++[v]).length=xs.length+1:=by simp
 have e:ixN (xs++[v]).length (-1)=some xs.length:=by
  unfold ixN;rw[j,if_neg (by decide),if_pos (by omega)];congr 1;omega
 unfold Xy;rw[e];show (xs++[v])[xs.length]?=some v;simp
def Zme (b:Expr):Prop:=∀o i,subscripted b false o i=operate [o,i] (getItem o i)
def IxR (X:Cx)(r:R2):Prop:=
 ∀(M j:Expr) (J:List (Addr×Obj)) (s:Shared) (O:St) (H:Hp) (x y:V) (v u:Value) (Q:VK),Inv X J O H s->RelV x v->RelV y u->r x y H Q->
  subscripted j false v u=operate [v,u] (getItem v u)->wpAny (model X.prog X.w) X.A (subscriptTail M j v u) (EP X J O Q) X.xe s
def MtR (X:Cx)(id:String)(r:V->TR->Hp->VK->Prop):Prop:=
 ∀(j:List (Addr×Obj)) (s:Shared) (J:St) (H:Hp) (x:V) (M:TR) (v:Value) (O:List Value) (Q:VK),Inv X j J H s->RelV x v->ZN M O->r x M H Q->
  wpAny (model X.prog X.w) X.A (call (.builtin id) (v::O)) (EP X j J Q) X.xe s
section
variable {X:Cx}{a b:Expr}{ta tb:TE}{pos:Pos}
theorem ZU {r:R2}(J:IxR X r)(M:PE X a ta)(hb:PE X b tb)(O:Zme b):PE X (.Subscript a b pos) (tOp r ta tb):=by
 intro j s U H Q I h;exact Subscript_ (ZoI M hb I h λv u Y x y H2 I2 rx ry q=>J a b j Y U H2 x y v u Q I2 rx ry q (O _ _))
inductive Znt (K:aa) (x:V) (y:V) (H:Hp) (Q:VK):Prop
 |mk (p:_) (xs:_) (i:_) (v:_):(x=.ref p)->(y=.int i)->(WZ K H p xs)->(Xy xs i=some v)->(Q v H)->Znt K x y H Q
inductive Zns (K:aa) (x:V) (y:V) (H:Hp) (Q:VK):Prop
 |mk (p:_) (xs:_) (i:_) (v:_):(x=.ref p)->(y=.int i)->(WO K H p xs)->(Xy xs i=some v)->(Q v H)->Zns K x y H Q
theorem ZlP:IxR X (Znt X.K):=by
 intro O U J s σ H x y v u Q I rx ry h hs;obtain⟨p,xs,i,z,rfl,rfl,hq,he,q⟩:=h;cases rx;obtain⟨t,rfl⟩:=ry;obtain⟨Y,r,pl,hz⟩:=I.list hq;obtain⟨j,M,h2,h3,h4,h5⟩:=Zgq he;obtain⟨w,ew,o0⟩:=r.get h2;have hl:=r.length;have hn:=VN;have fin:EP X J σ Q w s:=⟨z,H,I,o0,q⟩;by_cases h0:0<=i
 ·have hj:i.toNat=j:=by
   rw[seqIndex_of h0 h5] at M;exact aA M
  exact item_listR pl.isList h0 (by omega) (by rw[hj];simpa using ew) fin hs
 ·have hj:(i+(Y.toArray.size:Int)).toNat=j:=by
   rw[seqIndex_neg (by omega) h4] at M;rw[Zh,<-hl];exact aA M
  exact nC (x:=w) pl.isList.typeIs slot_list_getitem.lookup
   (wpAny_getItem_list_neg (Q:=λr s'=>r=w/\EP X J σ Q r s') pl.isList (by omega) (by rw[Zh] <;> omega) (by omega) (by rw[hj];simpa using ew) ⟨rfl,fin⟩) hs
theorem Zoe:IxR X (Zns X.K):=by
 intro M O J s Y H x y v u Q I rx ry h hs;obtain⟨p,xs,i,z,rfl,rfl,hq,he,q⟩:=h;cases rx;obtain⟨t,rfl⟩:=ry;obtain⟨o0,r,pl,hz⟩:=I.tuple hq;obtain⟨j,h1,h2,h3,h4,h5⟩:=Zgq he;obtain⟨w,ew,U⟩:=r.get h2;have hl:=r.length;have hn:=VN;have fin:EP X J Y Q w s:=⟨z,H,I,U,q⟩;exact nC (x:=w) pl.typeIs bN.lookup
  (getItem_tuple (j:=j) (Q:=λr s'=>r=w/\EP X J Y Q r s') pl (by omega) (by omega) (by rw[Zh,<-hl];exact h1) (by simpa using ew) ⟨rfl,fin⟩) hs
theorem ZeL (J:List Value)(n j:Nat)(u:Value):bR (·.setIfInBounds j u) {cls:=.type "list",data:=.seq J.toArray n}={cls:=.type "list",data:=.seq (J.set j u).toArray n}:=by
 simp[bR]
theorem Inv.lst {J:List (Addr×Obj)}{σ:St}{H:Hp}{s:Shared}{p:Addr}{xs:TR}(I:Inv X J σ H s)(h:H p=some (.lst xs)) :
  ∃(j:List Value) (n:Nat),ZN xs j/\s.heap.get? p=some {cls:=.type "list",data:=.seq j.toArray n}/\xs.length<=sizeLine:=by
 obtain⟨z,j,n,r,e⟩:=I.hok p _ h;exact⟨j,n,r,e,z⟩
theorem Inv.lstUpd {j:List (Addr×Obj)}{σ:St}{H:Hp}{s:Shared}{p:Addr}{xs ys:TR}{J its':List Value}{n M:Nat}{f:Obj->Obj}(I:Inv X j σ H s)(h:H p=some (.lst xs))
  (O:s.heap.get? p=some {cls:=.type "list",data:=.seq J.toArray n}) (hf:f {cls:=.type "list",data:=.seq J.toArray n}={cls:=.type "list",data:=.seq its'.toArray M}) (r:ZN ys its') (hz:ys.length<=sizeLine) (t:Nat) :
  Inv X j σ (upd H p (.lst ys)) {s with heap:=s.heap.update p f,toks:=t}:=by
 have e:(s.heap.update p f).get? p=some {cls:=.type "list",data:=.seq its'.toArray M}:=by
  rw[bM f O (by rw[hf] <;> rfl),hf]
 refine I.write (x:=p) (e:=p) (by rw[h];trivial) (.inl rfl) (λb u hb q=>(bZ _ _ (bV hb)).trans q) ⟨_,e⟩ ?_;exact⟨hz,its',M,r,e⟩
inductive ZmG (o:V) (i:V) (v:V) (H:Hp) (Q:(Hp->Prop)):Prop
 |mk (p:_) (xs:_) (k:_) (j:_):(o=.ref p)->(i=.int k)->(H p=some (.lst xs))->(ixN xs.length k=some j)->(Q (upd H p (.lst (xs.set j v))))->ZmG o i v H Q
theorem YT:ZoU X ZmG:=by
 intro J s σ H o i v ov iv u Q I ro ri rv h;obtain⟨p,xs,k,j,rfl,rfl,hp,hj,q⟩:=h;cases ro;obtain⟨t,rfl⟩:=ri;obtain⟨M,n,r,U,hz⟩:=I.lst hp;obtain⟨O,h2,h3,h4⟩:=Zck hj;have Y:=r.length;have hn:=VN;have I':Inv X J σ (upd H p (.lst (xs.set j v))) {s with heap:=s.heap.update p (bR (·.setIfInBounds j u))}:=
  I.lstUpd hp U (ZeL M n j u) (r.set rv j) (by rw[aY];exact hz) s.toks
 by_cases h0:0<=k
 ·have hk:k.toNat=j:=by
   rw[seqIndex_of h0 h4] at O;exact aA O
  exact PySem.W.ki_setAt U h0 (by omega) (by rw[Zh,<-Y];exact h4) (by rw[hk];exact⟨_,I',q⟩)
 ·have hk:(k+(M.toArray.size:Int)).toNat=j:=by
   rw[seqIndex_neg (by omega) h3] at O;rw[Zh,<-Y];exact aA O
  exact PySem.W.ki_setBack U (by omega) (by rw[Zh,<-Y];exact h3) (by omega) (by rw[hk];exact⟨_,I',q⟩)
theorem ZbR (lo j:Option Int)(n:Nat):(sliceBounds lo j none n).1=((HT.Y1 n 0 lo:Nat):Int)/\(sliceBounds lo j none n).2.1=((HT.Y1 n n j:Nat):Int)/\(sliceBounds lo j none n).2.2=1:=by
 refine⟨?_,?_,rfl⟩
 ·cases lo with
  |none=>simp[sliceBounds,HT.Y1]
  |some i=>
   simp only[sliceBounds,HT.Y1,mU,show (1:Int) > 0 by decide,if_true];by_cases h:i<0
   ·simp only[h,if_true] <;> omega
   ·simp only[h,if_false] <;> omega
 ·cases j with
  |none=>simp[sliceBounds,HT.Y1]
  |some i=>
   simp only[sliceBounds,HT.Y1,mU,show (1:Int) > 0 by decide,if_true];by_cases h:i<0
   ·simp only[h,if_true] <;> omega
   ·simp only[h,if_false] <;> omega
theorem ZaH (j:List Value)(lo J:Option Int):slicePick j.toArray lo J none=((j.drop (HT.Y1 j.length 0 lo)).take (HT.Y1 j.length j.length J-HT.Y1 j.length 0 lo)).toArray:=by
 obtain⟨M,O,U⟩:=ZbR lo J j.toArray.size;unfold slicePick;rw[M,O,U];simp only[sliceRange_one,pick_run,Zh] <;> rfl
inductive ZpQ (K:aa) (x:V) (lo:Option Int) (hi:Option Int) (H:Hp) (Q:VK):Prop
 |mk (a:_) (xs:_):(x=.ref a)->(WZ K H a xs)->(∀p,H p=none->Q (.ref p) (upd H p (.lst (Jj xs lo hi))))->ZpQ K x lo hi H Q
theorem Uk:SlR X (ZpQ X.K):=by
 intro M s σ H x v vl vu lo J sl Q I U Y pl pu h;obtain⟨a,xs,rfl,hx,q⟩:=h;cases U;obtain⟨o0,r,O,hz⟩:=I.list hx;have j:=r.length;refine⟨"list",_,slot_list_getitem.lookup,O.isList.typeIs,?_⟩;refine wpAny_getItem_list_slice O.isList Y pl pu .none (by simp) ?_ (by rw[Zh] <;> omega)
 rw[ZaH,<-j];refine⟨.ref s.heap.objs.size,_,I.laid (t':=s.toks) (o:=.lst (Jj xs lo J)) (λb ob q=>Zn _ q) (Zq _) ?_,rfl,q _ (I.hok.fresh (Zq _))⟩;exact⟨aN (J6 xs lo J) hz,_,0,(r.drop (HT.Y1 xs.length 0 lo)).take (HT.Y1 xs.length xs.length J-HT.Y1 xs.length 0 lo),Zo _ rfl⟩
def V2:V->Bool
 | .non=>true
 | .bl _=>true
 | .int _=>true
 | .str _=>true
 |_=>false
def eqV:V->V->Bool
 | .non,.non=>true
 | .bl a,.bl b=>a == b
 | .bl a,.int b=>(if a then 1 else 0) == b
 | .int a,.bl b=>a == (if b then 1 else 0)
 | .int a,.int b=>a == b
 | .str a,.str b=>a == b
 |_,_=>false
theorem Zor {A:Around}{s:Shared}{y x:V}{u v:Value}(M:RelV y u)(j:RelV x v)(U:V2 y=true)(O:V2 x=true):lP A s u v (eqV y x):=by
 cases y with
 |non=>
  cases M;cases x with
  |non=>cases j;exact SeqAt.EqAt.same _
  |bl b=>cases j;exact SeqAt.EqAt.none_bool b
  |int b=>obtain⟨t,rfl⟩:=j;exact SeqAt.EqAt.none_int b t
  |str b=>obtain⟨t,rfl⟩:=j;exact SeqAt.EqAt.none_str b t
  |_=>exact absurd (show false=true from O) aK
 |bl a=>
  cases M;cases x with
  |non=>cases j;exact SeqAt.EqAt.bool_none a
  |bl b=>cases j;exact SeqAt.EqAt.bool_bool a b
  |int b=>obtain⟨t,rfl⟩:=j;exact SeqAt.EqAt.bool_int a b t
  |str b=>obtain⟨t,rfl⟩:=j;exact SeqAt.EqAt.bool_str a b t
  |_=>exact absurd (show false=true from O) aK
 |int a=>
  obtain⟨J,rfl⟩:=M;cases x with
  |non=>cases j;exact SeqAt.EqAt.int_none a J
  |bl b=>cases j;exact SeqAt.EqAt.int_bool a J b
  |int b=>obtain⟨t,rfl⟩:=j;exact jX a J b t
  |str b=>obtain⟨t,rfl⟩:=j;exact kS a J b t
  |_=>exact absurd (show false=true from O) aK
 |str a=>
  obtain⟨J,rfl⟩:=M;cases x with
  |non=>cases j;exact SeqAt.EqAt.str_none a J
  |bl b=>cases j;exact SeqAt.EqAt.str_bool a J b
  |int b=>obtain⟨t,rfl⟩:=j;exact kQ a J b t
  |str b=>obtain⟨t,rfl⟩:=j;exact SeqAt.EqAt.str_str a J b t
  |_=>exact absurd (show false=true from O) aK
 |_=>exact absurd (show false=true from U) aK
def eqU (x:V)(u:Value):Bool:=match u with
 | .none=>eqV .non x
 | .bool b=>eqV (.bl b) x
 | .int i _=>eqV (.int i) x
 | .str z _=>eqV (.str z) x
 |_=>false
theorem ZjS {x y:V}{u:Value}(r:RelV y u)(f:V2 y=true):eqU x u=eqV y x:=by
 cases y with
 |non=>cases r;rfl
 |bl b=>cases r;rfl
 |int i=>obtain⟨t,rfl⟩:=r;rfl
 |str z=>obtain⟨t,rfl⟩:=r;rfl
 |_=>exact absurd (show false=true from f) aK
theorem Zdu {A:Around}{s:Shared}{x:V}{v:Value}(J:RelV x v)(M:V2 x=true):∀{xs:TR}{us:List Value},ZN xs us->xs.all V2=true->∀u∈us,lP A s u v (eqU x u)
 |_,_,.nil,_=>λu j=>by cases j
 |y::xs,u::us,.cons r t,f=>λO j=>by
  rw[List.all_cons,ae] at f;rcases aH.mp j with rfl|j
  ·rw[ZjS r f.1];exact Zor r J f.1 M
  ·exact Zdu J M t f.2 O j
inductive I_call_len_seq (K:aa) (xs:TR) (H:Hp) (Q:VK):Prop
 |mk (p:_) (ys:_):(xs=[.ref p])->((WZ K H p ys\/WO K H p ys))->(Q (.int ys.length) H)->I_call_len_seq K xs H Q
theorem ZcA:YI X (.builtin "len") (_root_.L2.I_call_len_seq X.K):=by
 intro O s σ H xs us Q I r h;obtain⟨p,U,rfl,j,q⟩:=h;obtain⟨u,rfl,Y⟩:=vals1 r;cases Y;have hn:=VN;rcases j with j|j
 ·obtain⟨J,M,pl,hz⟩:=I.list j
  have hlen:=M.length;exact Calls.call_len_list pl.isList (by simp only[Zh] <;> omega) ⟨.int U.length,H,I.tok _,⟨s.toks+1,by rw[Zh,hlen]⟩,q⟩
 ·obtain⟨J,M,pl,hz⟩:=I.tuple j
  have hlen:=M.length;exact len_tuple pl (by simp only[Zh] <;> omega) ⟨.int U.length,H,I.tok _,⟨s.toks+1,by rw[Zh,hlen]⟩,q⟩
inductive I_call_list_of (K:aa) (xs:TR) (H:Hp) (Q:VK):Prop
 |mk (p:_) (ys:_):(xs=[.ref p])->((WZ K H p ys\/WO K H p ys))->(∀l,H l=none->Q (.ref l) (upd H l (.lst ys)))->I_call_list_of K xs H Q
theorem JK:YI X (.type "list") (_root_.L2.I_call_list_of X.K):=by
 intro U s σ H xs us Q I r h;obtain⟨p,ys,rfl,Y,q⟩:=h;obtain⟨u,rfl,rx⟩:=vals1 r;cases rx;have o0:∀(j:List Value),ZN ys j->ys.length<=sizeLine->∀(J:Heap) (M:Nat),(∀b o',s.heap.get? b=some o'->J.get? b=some o')->
   J.get? s.heap.objs.size=some {cls:=.type "list",dict:=none,data:=.seq j.toArray M,slots:=#[]}->EP X U σ Q (.ref s.heap.objs.size) {s with heap:=J}:=λj O hz J M kp e=>
  ⟨.ref s.heap.objs.size,_,I.laid (t':=s.toks) kp (Zq _) (show YH X.prog X.w _ J _ (.lst ys) from ⟨hz,j,M,O,e⟩),rfl,q _ (I.hok.fresh (Zq _))⟩
 rcases Y with Y|Y
 ·obtain⟨j,O,pl,hz⟩:=I.list Y
  have o5:=O.length;obtain⟨o,ho,hc,n,hd⟩:=pl.isList;exact call_list_seq p (.inl rfl) ho hc hd (λJ M kp e=>o0 j O hz J M kp e) (by simp only[Zh] <;> omega)
 ·obtain⟨j,O,pl,hz⟩:=I.tuple Y
  have o5:=O.length;obtain⟨o,ho,hc,n,hd⟩:=pl;exact call_list_seq p (.inr rfl) ho hc hd (λJ M kp e=>o0 j O hz J M kp e) (by simp only[Zh] <;> omega)
inductive I_call_tuple_of (K:aa) (xs:TR) (H:Hp) (Q:VK):Prop
 |mk (p:_) (ys:_):(xs=[.ref p])->(((WZ K H p ys/\∀l,H l=none->Q (.ref l) (upd H l (.tup ys)))\/(WO K H p ys/\Q (.ref p) H)))->I_call_tuple_of K xs H Q
theorem ZD:YI X (.type "tuple") (_root_.L2.I_call_tuple_of X.K):=by
 intro j s Y H xs us Q I r h;obtain⟨p,ys,rfl,h⟩:=h;obtain⟨u,rfl,rx⟩:=vals1 r;cases rx;rcases h with ⟨O,q⟩|⟨O,q⟩
 ·obtain⟨J,U,pl,hz⟩:=I.list O
  have o0:=U.length;refine call_tuple_list pl.isList (λM kp=>?_) (by simp only[Zh] <;> omega)
  have I1:Inv X j Y H {s with heap:=M}:=I.kept (t':=s.toks) kp;have I2:Inv X j Y (upd H M.objs.size (.tup ys)) {s with heap:=M.push {cls:=.type "tuple",data:=.seq J.toArray}}:=
   I1.laid (t':=s.toks) (λb o e=>Zn _ e) (Zq _) (show YH X.prog X.w _ _ _ (.tup ys) from ⟨hz,J,U,hG _ _⟩)
  exact⟨.ref M.objs.size,_,I2,rfl,q _ (I1.hok.fresh (Zq _))⟩
 ·obtain⟨J,U,pl,hz⟩:=I.tuple O
  exact call_tuple_same pl ⟨.ref p,H,I,rfl,q⟩
def tyV (K:aa)(T:String)(x:V)(H:Hp):Prop:=match x with
 | .str _=>T = "str"
 | .int _=>T = "int"
 | .ref p=>(T = "list"/\∃J,WZ K H p J)\/(T = "tuple"/\∃o,K.lookup p=some o/\o.cls=.type "tuple"/\o.dict=none)\/
   (T = "dict"/\((∃j,H p=some (.dK j))\/∃j,H p=some (.dT j)))\/(T = "set"/\∃S n,H p=some (.set S n))
 |_=>False
theorem ZhL {J:List (Addr×Obj)}{σ:St}{H:Hp}{s:Shared}{T:String}{x:V}{v:Value}(I:Inv X J σ H s)(r:RelV x v)(M:tyV X.K T x H) :
  s.TypeIs v T/\∀a,v=.ref a->∃ob,s.heap.get? a=some ob/\ob.dict=none:=by
 cases x with
 |str z=>
  obtain⟨t,rfl⟩:=r;cases (show T = "str" from M);exact⟨typeIs_str s z t,λ_ e=>nomatch e⟩
 |int i=>
  obtain⟨t,rfl⟩:=r;cases (show T = "int" from M);exact⟨jR s i t,λ_ e=>nomatch e⟩
 |ref p=>
  cases r;rcases M with ⟨rfl,xs,Y⟩|⟨rfl,o,j,hc,hd⟩|⟨rfl,j⟩|⟨rfl,S,n,j⟩
  ·obtain⟨o0,_,pl,_⟩:=I.list Y
   refine⟨pl.isList.typeIs,λa e=>?_⟩;cases e;obtain⟨o,n,e,c,hd,_⟩:=pl;exact⟨o,e,hd⟩
  ·refine⟨⟨o,I.kIn p o j,hc⟩,λa e=>?_⟩
   cases e;exact⟨o,I.kIn _ o j,hd⟩
  ·have z:∃o,s.heap.get? p=some o/\o.ExactDict:=by
    rcases j with ⟨O,j⟩|⟨O,j⟩
    ·obtain⟨_,_,_,_,o,_,_,e,ex,_⟩:=I.hok p _ j
     exact⟨o,e,ex⟩
    ·obtain⟨_,_,_,_,o,_,_,e,ex,_⟩:=I.hok p _ j
     exact⟨o,e,ex⟩
   obtain⟨o,e,ex⟩:=z;refine⟨⟨o,e,ex.1⟩,λa U=>?_⟩;cases U;exact⟨o,e,ex.2.1⟩
  ·obtain⟨o,_,_,_,e,ex,_⟩:=I.hok p _ j
   refine⟨⟨o,e,ex.1⟩,λa U=>?_⟩;cases U;exact⟨o,e,ex.2.1⟩
 |_=>exact eF M
inductive Zqh (K:aa) (T:String) (r:V->TR->Hp->VK->Prop) (Q:VK) (x:V) (H:Hp):Prop
 |mk:tyV K T x H->r x [] H Q->Zqh K T r Q x H
def ZrB (K:aa)(T:String)(r:V->TR->Hp->VK->Prop)(j:TE):TE:=λJ H Q=>j J H (Zqh K T r Q)
inductive iBM (K:aa) (T:String) (r:V->TR->Hp->VK->Prop) (t:TA) (σ:St) (Q:VK) (x:V) (H:Hp):Prop
 |mk:tyV K T x H->(t σ H λxs H2=>r x xs H2 Q)->iBM K T r t σ Q x H
def tBM (K:aa)(T:String)(r:V->TR->Hp->VK->Prop)(J:TE)(t:TA):TE:=λj H Q=>J j H (iBM K T r t j Q)
variable {o e:Expr}{es:List Expr}{to:TE}{t:TA}{name:Str}{apos cpos:Pos}{T id:String}{r:V->TR->Hp->VK->Prop}
theorem ZnE (pa:PlainAttrs T)(slot:Slot T name id)(O:typeOf (.builtin id)=pure (.type "method_descriptor"))(hm:MtR X id r)(ho:PE X o to)
  (J:attributeBase o name X.env (eval o X.env)=eval o X.env:=by rfl) (M:(apos.endLine == cpos.line)=true:=by rfl):PE X (.Call (.Attribute o name apos) [] [] cpos) (ZrB X.K T r to):=by
 intro j s U H Q I h;refine wpAny_Call_method0_late J M (Yo (ho j s U H _ I h) λv s1 ⟨x,H1,Y,r1,ty,q1⟩=>?_);obtain⟨h1,h2⟩:=ZhL Y r1 ty;exact⟨T,id,pa,slot,O,h1,h2,ik rfl (PySem.evalArgs_none (hm j s1 U H1 x [] v [] Q Y r1 .nil q1))⟩
theorem Wv (pa:PlainAttrs T)(slot:Slot T name id)(Y:typeOf (.builtin id)=pure (.type "method_descriptor"))(hm:MtR X id r)(ho:PE X o to)(ha:PA X (e::es) t)
  (M:attributeBase o name X.env (eval o X.env)=eval o X.env:=by rfl)
  (U:((backTo cpos (starEach (e::es) X.env)).all (λx=>!x.1) && (backToKw cpos (keywordEach [] X.env)).all (λx=>x.1.isSome)
   && decide ((e::es).length+([]:List Keyword).length+(if ([]:List Keyword).isEmpty then 0 else 1)<30))=true:=by rfl)
  (O:(apos.endLine == cpos.line)=true:=by rfl) (hs:starEach (e::es) X.env=(false,eval e X.env)::starEach es X.env:=by rfl) (J:(backTo cpos (starEach es X.env)).any (·.1)=false:=by rfl) :
  PE X (.Call (.Attribute o name apos) (e::es) [] cpos) (tBM X.K T r to t):=by
 intro j s σ H Q I h;refine m9 M U O rfl (Yo (ho j s σ H _ I h) λv s1 ⟨x,H1,I1,r1,ty,q1⟩=>?_);obtain⟨h1,h2⟩:=ZhL I1 r1 ty;refine⟨T,id,pa,slot,Y,h1,h2,?_⟩;have hA:=ha cpos j s1 σ H1 _ I1 q1;rw[hs] at hA ⊢;refine ik (by show (false || (backTo cpos (starEach es X.env)).any (·.1))=false;rw[J] <;> rfl) (lV ?_)
 exact Yo hA λus s2 ⟨vs,H2,I2,r2,q2⟩=>hm j s2 σ H2 x vs v us Q I2 r1 r2 q2
end
def MtM (X:Cx)(id:String)(r:V->TR->Hp->VK->Prop):Prop:=
 ∀(j:List (Addr×Obj)) (s:Shared) (J:St) (H:Hp) (x:V) (M:TR) (v:Value) (O:List Value) (Q:VK),Inv X j J H s->RelV x v->ZN M O->r x M H Q->
  wpAny (model X.prog X.w) X.A (call (.builtin id) (v::O)) (EP X j J Q) X.xe s
theorem ZN.one {x:V}{us:List Value}(h:ZN [x] us):∃u,us=[u]/\RelV x u:=by
 cases h with
 |cons r t=>cases t;exact⟨_,rfl,r⟩
theorem ZN.zero:∀{us:List Value},ZN [] us->us=[]
 |_,.nil=>rfl
theorem ZN.dropLast {xs:TR}{us:List Value}(h:ZN xs us):ZN xs.dropLast us.dropLast:=by
 induction h with
 |nil=>exact .nil
 |cons r t j=>
  cases t with
  |nil=>exact .nil
  |cons q J=>exact .cons r j
theorem ZN.eraseIdx:∀{xs:TR}{us:List Value} (i:Nat),ZN xs us->ZN (xs.eraseIdx i) (us.eraseIdx i)
 |_,_,_,.nil=>.nil
 |_,_,0,.cons _ t=>t
 |_,_,i+1,.cons r t=>.cons r (ZN.eraseIdx i t)
theorem ZN.rep {xs:TR}{us:List Value}(h:ZN xs us):∀k:Nat,ZN (am k xs).flatten (am k us).flatten
 |0=>.nil
 |k+1=>by
  rw[aV,aV,bP,bP];exact ZN.append h (ZN.rep h k)
theorem ZeX {α:Type}(l:List α):l.eraseIdx (l.length-1)=l.dropLast:=by
 induction l with
 |nil=>rfl
 |cons a r j=>
  cases r with
  |nil=>rfl
  |cons b r=>
   have e:(a::b::r).length-1=((b::r).length-1)+1:=by
    have J:(a::b::r).length=r.length+2:=rfl;have M:(b::r).length=r.length+1:=rfl;omega
   rw[e,lB,j];all_goals rfl
theorem Za7 {α:Type}:∀(l:List α) (i:Nat),(l.eraseIdx i).length<=l.length
 | [],_=>Zq _
 |_::_,0=>gP _
 |_::r,i+1=>Nat.succ_le_succ (Za7 r i)
theorem foldl_rep (j:List Value):∀(k:Nat) (ZI:List Value),
  mZ (λJ M=>J++M) ZI.toArray (am k j.toArray)=(ZI++(am k j).flatten).toArray
 |0,ZI=>by simp
 |k+1,ZI=>by
  have e:ZI.toArray++j.toArray=(ZI++j).toArray:=by simp
  have O:(ZI++j)++(am k j).flatten=ZI++(am (k+1) j).flatten:=by
   rw[aV,bP,eh]
  rw[<-O,<-foldl_rep j k (ZI++j),<-e,aV,j8]
section
variable {l b:Addr}{xs ys zs:TR}
theorem Inv.lset {j its':List Value}{n:Nat}{f:Array Value->Array Value}{t':Nat}(I:Inv X pins σ H s)(J:H l=some (.lst xs))
  (e:s.heap.get? l=some {cls:=.type "list",data:=.seq j.toArray n}) (M:f j.toArray=its'.toArray) (O:ZN ys its') (hz:ys.length<=sizeLine) :
  Inv X pins σ (upd H l (.lst ys)) {s with heap:=s.heap.update l (bR f),toks:=t'}:=by
 have q:=PySem.IsL.update e f;rw[M] at q;refine I.write (x:=l) (e:=l) (by rw[J];exact trivial) (.inl rfl) (λY u hb U=>(bZ s.heap (bR f) (bV hb)).trans U) ⟨_,q⟩ ?_;exact⟨hz,its',_,O,q⟩
theorem Inv.lnew {j:List Value}{t':Nat}(I:Inv X pins σ H s)(J:ZN ys j)(hz:ys.length<=sizeLine) :
  Inv X pins σ (upd H s.heap.objs.size (.lst ys)) {s with heap:=s.heap.push {cls:=.type "list",data:=.seq j.toArray},toks:=t'}:=
 I.laid (λ_ _ q=>Zn _ q) (Zq _) ⟨hz,j,0,J,Zo _ rfl⟩
theorem Inv.fresh (I:Inv X pins σ H s):H s.heap.objs.size=none:=I.hok.fresh (Zq _)
theorem Inv.lstM (I:Inv X pins σ H s)(J:H l=some (.lst xs)):xs.length<=sizeLine/\∃(j:List Value) (n:Nat),ZN xs j/\xs.length=j.length/\s.heap.get? l=some {cls:=.type "list",data:=.seq j.toArray n}:=by
 obtain⟨z,j,n,r,e⟩:=I.hok l _ J;exact⟨z,j,n,r,r.length,e⟩
theorem Zdm {n:Nat}(h:n<=sizeLine):eA n=false:=by
 unfold eA;exact decide_eq_false (by omega)
end
inductive Uq (x:V) (vs:TR) (H:Hp) (Q:VK):Prop
 |mk (l:_) (xs:_) (y:_):(x=.ref l)->(vs=[y])->(H l=some (.lst xs))->(xs.length<sizeLine)->(Q .non (upd H l (.lst (xs++[y]))))->Uq x vs H Q
theorem Z3:MtM X "list.append" Uq:=by
 intro J s σ H x vs v us Q I U Y h;obtain⟨l,xs,y,rfl,rfl,M,hz,q⟩:=h;cases U;obtain⟨u,rfl,ru⟩:=Y.one;obtain⟨z,j,n,r,hl,e⟩:=I.lstM M;refine dX aS ⟨_,e,rfl⟩ F.entry_list_append (F.args_list_append_2 _ _) (PySem.list_append l j.toArray n u (by rw[Zh];omega)) ⟨e,?_⟩;refine⟨.non,_,I.lset (its':=j++[u]) M e (by simp) (r.append (.cons ru .nil)) ?_,rfl,q⟩;rw[Zd,Zk];omega
inductive ZfG (x:V) (vs:TR) (H:Hp) (Q:VK):Prop
 |mk (l:_) (b:_) (xs:_) (zs:_):(x=.ref l)->(vs=[.ref b])->(H l=some (.lst xs))->(H b=some (.lst zs))->(xs.length+zs.length<=sizeLine)->(Q .non (upd H l (.lst (xs++zs))))->ZfG x vs H Q
theorem Zg2:MtM X "list.extend" ZfG:=by
 intro U s σ H x vs v us Q I rx rv h;obtain⟨l,b,xs,zs,rfl,rfl,Y,hB,hz,q⟩:=h;cases rx;obtain⟨u,rfl,ru⟩:=rv.one;cases ru;obtain⟨z,J,n,r,hl,e⟩:=I.lstM Y;obtain⟨z2,j,n2,r2,o5,e2⟩:=I.lstM hB;have O:J.toArray.size+j.toArray.size<=sizeLine:=by rw[Zh,Zh];omega
 have M:¬(!J.toArray.isEmpty && eA (J.toArray.size+j.toArray.size))=true:=by
  rw[Zdm O,Bool.and_false];exact aK
 refine dX lT ⟨_,e,rfl⟩ F.entry_list_extend (F.args_list_extend_2 _ _)
  (AutoSeq1.list_extend_list_list_0 l J.toArray n b j.toArray n2 M (by rw[Zh];omega) (by omega)) ⟨e,e2,?_⟩
 refine⟨.non,_,I.lset (its':=J++j) Y e (by simp) (r.append r2) ?_,rfl,q⟩;rw[Zd];omega
inductive ZpS (x:V) (vs:TR) (H:Hp) (Q:VK):Prop
 |mk (l:_) (xs:_) (y:_):(x=.ref l)->(vs=[])->(H l=some (.lst xs))->(xs[xs.length-1]?=some y)->(Q y (upd H l (.lst xs.dropLast)))->ZpS x vs H Q
theorem Zn1:MtM X "list.pop" ZpS:=by
 intro O s σ H x vs v us Q I rx rv h;obtain⟨l,xs,y,rfl,rfl,U,hy,q⟩:=h;cases rx;have J:=rv.zero;subst J;obtain⟨z,j,n,r,hl,e⟩:=I.lstM U;obtain⟨u,hu,ru⟩:=r.get hy;have M:j.toArray[j.toArray.size-1]?=some u:=by
  show j.toArray[j.length-1]?=some u;rw[<-cf,<-hl];exact hu
 refine dX gw ⟨_,e,rfl⟩ F.entry_list_pop (F.args_list_pop_1 _) (MeetsSeq.list_pop_last l j.toArray n u M (by rw[Zh];omega)) ⟨e,?_⟩;refine⟨y,_,I.lset (its':=j.dropLast) U e ?_ r.dropLast ?_,ru,q⟩
 ·show j.toArray.eraseIdxIfInBounds (j.toArray.size-1)=j.dropLast.toArray
  rw[Zh,jG,ZeX]
 ·rw[eQ]
  omega
inductive ZiG (x:V) (vs:TR) (H:Hp) (Q:VK):Prop
 |mk (l:_) (xs:_) (i:_) (k:_) (y:_):(x=.ref l)->(vs=[.int i])->(H l=some (.lst xs))->(-(2 ^ 63)<=i)->(i<2 ^ 63)->(seqIndex? i xs.length=some k)->(xs[k]?=some y)->(Q y (upd H l (.lst (xs.eraseIdx k))))->ZiG x vs H Q
theorem Zjh:MtM X "list.pop" ZiG:=by
 intro M s σ H x vs v us Q I Y rv h;obtain⟨l,xs,i,k,y,rfl,rfl,O,h1,h2,hk,hy,q⟩:=h;cases Y;obtain⟨u,rfl,ru⟩:=rv.one;obtain⟨t,rfl⟩:=ru;obtain⟨z,j,n,r,hl,e⟩:=I.lstM O;obtain⟨w,hw,J⟩:=r.get hy;refine dX gw ⟨_,e,rfl⟩ F.entry_list_pop (F.args_list_pop_2 _ _)
  (MeetsSeq.list_pop_at l j.toArray n i t k w (fitsIndex_both h1 h2) (by rw[Zh,<-hl];exact hk) (by rw[<-cf];exact hw) (by rw[Zh];omega)) ⟨e,?_⟩
 refine⟨y,_,I.lset (its':=j.eraseIdx k) O e ?_ (r.eraseIdx k) ?_,J,q⟩
 ·show j.toArray.eraseIdxIfInBounds k=(j.eraseIdx k).toArray
  rw[jG]
 ·have:=Za7 xs k
  omega
inductive ZpT (x:V) (y:V) (H:Hp) (Q:VK):Prop
 |mk (l:_) (b:_) (xs:_) (zs:_):(x=.ref l)->(y=.ref b)->(H l=some (.lst xs))->(H b=some (.lst zs))->(xs.length+zs.length<=sizeLine)->(∀p,H p=none->Q (.ref p) (upd H p (.lst (xs++zs))))->ZpT x y H Q
theorem ZeC:XX X (binaryOp .Add) ZpT:=by
 intro M s σ H x y v u Q I O U h;obtain⟨l,b,xs,zs,rfl,rfl,Y,hB,hz,q⟩:=h;cases O;cases U;obtain⟨z,J,n,r,hl,e⟩:=I.lstM Y;obtain⟨z2,j,n2,r2,o0,e2⟩:=I.lstM hB;refine PySem.P.add_list e e2 ?_ (by rw[Zh,Zh];omega);have ea:J.toArray++j.toArray=(J++j).toArray:=by simp
 rw[ea];exact⟨.ref _,_,I.lnew (t':=s.toks) (r.append r2) (by rw[Zd];omega),rfl,q _ I.fresh⟩
inductive ZpR (x:V) (y:V) (H:Hp) (Q:VK):Prop
 |mk (l:_) (k:_) (xs:_):(x=.ref l)->(y=.int k)->(H l=some (.lst xs))->(-(2 ^ 63)<=k)->(k<2 ^ 63)->(xs.length*k.toNat<=sizeLine)->(∀p,H p=none->Q (.ref p) (upd H p (.lst (am k.toNat xs).flatten)))->ZpR x y H Q
theorem Zci {α:Type}(xs:List α)(k:Nat):(am k xs).flatten.length=k*xs.length:=by
 induction k with
 |zero=>simp
 |succ k j=>rw[aV,bP,Zd,j,cz,jF]
theorem WU:XX X (binaryOp .Mult) ZpR:=by
 intro o5 s σ H x y v u Q I rx ry h;obtain⟨l,k,xs,rfl,rfl,hH,h1,h2,hz,q⟩:=h;cases rx;obtain⟨t,rfl⟩:=ry;obtain⟨z,j,n,r,hl,e⟩:=I.lstM hH;have M:j.toArray.size*k.toNat<=sizeLine:=by rw[Zh,<-hl];exact hz
 have O:¬j.toArray.size*k.toNat > (2 ^ 63-1) / 8:=by
  have:(sizeLine:Nat)<=(2 ^ 63-1) / 8:=by decide
  omega
 have Y:¬(!Builtin.List.listFitsIndex k)=true:=by
  rw[fitsIndex_both h1 h2];exact aK
 have J:¬eA (j.toArray.size*k.toNat)=true:=by
  rw[Zdm M];exact aK
 have o0:mZ (λx1 x2=>x1++x2) #[] (am (if j.toArray.isEmpty=true then 0 else k.toNat) j.toArray)=(am k.toNat j).flatten.toArray:=by
  have f0:∀m:Nat,mZ (λx1 x2=>x1++x2) #[] (am m j.toArray)=(am m j).flatten.toArray:=λm=>by
   have:=foldl_rep j m [];rw[List.nil_append] at this;exact this
  rw[f0];cases j with
  |nil=>simp
  |cons a r'=>rw[if_neg (by simp)]
 refine md (T:="list") (U:="int") (by decide) ⟨_,e,rfl⟩ (λs'=>jR s' k t) noFill_list_mul F.fills_int_mul iL repeat_list F.slot_int_index.lookup
  (dX iL (jR s k t) F.entry_int_rmul (F.args_int_rmul_2 _ _) (int___rmul___int_list k t l j.toArray n)
   ⟨e,rfl,⟨_,e,rfl⟩,dX F.slot_list_mul ⟨_,e,rfl⟩ F.entry_list_mul (F.args_list_mul_2 _ _) (AutoListH.list___mul___list_int_3 l j.toArray n k t Y O J) ⟨e,?_⟩⟩)
 rw[o0];exact⟨.ref _,_,I.lnew (t':=s.toks) (r.rep k.toNat) (by rw[Zci,dM];exact hz),rfl,q _ I.fresh⟩
end L2
namespace Att
open PySem PySem.W PySem.Calls PyProof.Rows
theorem Ub {P:Params}{h:Heap}:∀(ns:TX) (vs:List Value),WellAll P h vs (ns.map WData.int)->bW vs ns:=by
 intro ns;induction ns with
 |nil=>
  intro vs w;rw[fK] at w;cases w;exact .nil
 |cons n ns j=>
  intro vs w;rw[aB] at w;cases w with
  |cons a b=>
   cases a;exact .cons _ _ (j _ b)
theorem ZgH {l:gM}{n:Nat}(hn:l.most=some n){P:Params}{h:Heap}{args:List WData}{XY:List Value}
  (j:l.row.toRowW.claim.pre args=true) (U:WellAll P h XY args) :
  ∃a vs ns,XY=[aQ a]/\args=[WData.list (ns.map WData.int)]/\h.get? a=some {cls:=.type "list",data:=.seq vs.toArray}/\bW vs ns/\ns.length<=n:=by
 have Y:WShape.hasAll [] args [.list .int]=true:=(pre_splitW j).1;have hc:l.pre.holds [] {args:=args}=true:=(pre_splitW j).2;obtain⟨d,r,rfl,h1,h2⟩:=hasAllW_cons Y;obtain rfl:=hasAllW_nil h2;obtain⟨xs,rfl,h3⟩:=hasW_list h1;obtain⟨ns,rfl⟩:=items_int h3;have hlen:ns.length<=n:=by
  unfold OpenLaw.pre at hc;have M:(WTm.not (.lt (.lit (.int (n:Int))) (.len (.arg 0)))).holds [] {args:=[.list (ns.map .int)]}=true:=by
   have M:=(holds_andW hc).1;rw[hn] at M;exact M
  have O:=condW_of M (w_not (w_lt w_lit (w_len_list (w_arg rfl))));rw[Za] at O;refine jV λq=>?_;have q':(n:Int)<((ns.length:Nat):Int):=by omega
  first
   |(rw[decide_eq_true q'] at O;exact absurd O (by decide))
   |(simp at O;omega)
 cases U with
 |cons w1 w2=>
  cases w2;cases w1 with
  |list ho J=>exact⟨_,_,ns,rfl,rfl,ho,Ub ns _ J,hlen⟩
theorem ZgM (l:gM)(args:List WData):l.row.toRowW.claim.post args (.bool true) args=true:=
 postW_of (r:=l.row.toRowW) (X:=(true == true))
  (show WShape.has [] (.bool true) .bool=true by first|rfl|decide|simp[WShape.has,WShape.arms,WShape.armsAll])
  (show (WTm.eq .res (.lit (.bool true))).value [] {args:=args,res:=some (.bool true),after:=args}=some (.bool (true == true)) from w_eq_bool (w_res rfl) w_lit) rfl
theorem ZdT {l:gM}{n:Nat}{q:Program}{loose:List Str}{XP:TV->Heap->Prop}{YP:World->Heap->Prop}{d:DefRec}
  (hn:l.most=some n) (o0:d.params.defaults=[])
  (call:∀(w:World) (s₀ j:Shared) (mg mb:TV) (M:Addr) (o:Obj) (pm cd J:Value) (a:Addr) (vs:List Value) (ns:TX),
   Ground q loose [] XP w s₀ mg mb j.heap->YP w j.heap->
   j.heap.get? M=some o->o.data=.func (docDef d.name d.params d.body d.scope pm cd J)->j.heap.CodeRec cd d.name->mg d.name=some (.ref M)->
   j.heap.get? a=some {cls:=.type "list",data:=.seq vs.toArray}->bW vs ns->ns.length<=n->j.gens=#[]->
   codeAny (model l.prog w) callerA (.call (.ref M) ⟨[.ref a],[]⟩) (λr s'=>r=.ok (.ret (.bool true))/\OldK j.heap s'.heap/\s'.os=j.os/\iS s'.gens) j) :
  mE q loose XP YP l.row.toRowW d [] (λf vs=>mC f vs):=by
 intro w s₀ j mg mb G Y M o pm cd J dV kV ho hd o5 hD o6 hg args XY as O o8 o9 o7 p6;obtain rfl:dV=.none:=Dflts.none hD o0;obtain rfl:kV=.none:=Dflts.noKw hD;obtain⟨a,vs,ns,rfl,rfl,U,hints,hlen⟩:=ZgH hn O o7;refine enter_call (fW (call w s₀ j mg mb M o pm cd J a vs ns G Y ho (fd_plain hd) o5 o6 U hints hlen hg) λr s' hq=>?_);obtain⟨rfl,h2,h3,h4⟩:=hq;exact⟨.inl ⟨.bool true,.bool true,[],rfl,λ_=>rfl,.bool true,ZgM l _,λ_=>⟨f7,λ_ hm=>(nomatch hm)⟩⟩,h2,h3,h4⟩
section
variable {K:Frag}
end
end Att
namespace L2
open PySem PySem.Spec PyProof.Rows
theorem ZaQ:∀{vs:List Value}{ns:TX},bW vs ns->ZN (ns.map V.int) vs
 |_,_,.nil=>.nil
 |_,_,.cons n t h=>.cons ⟨t,rfl⟩ (ZaQ h)
def ZoW (H:Hp):Prop:=∀b,H b=none\/∃o j,H b=some (.frz o (.lst j))
theorem Zjm {P:Program}{w:World}{K:aa}{mg mb:TV}{CX:CXT}{k:Nat}{fa a:Addr}{fd:FuncData}{x:Str}{sp:Sp}{j:Shared}{vs:List Value}{ns:TX}
  (KX:K.In j.heap) (Y:j.heap.Ns mainGlobals mg) (hb:j.heap.Ns builtinsNs mb) (o7:∀x:Str,x ≠ "__name__"->mb x=bootBuiltins x) (o0:j.heap.NoLimit) (hg:j.gens=#[])
  (ha:j.heap.get? a=some {cls:=.type "list",data:=.seq vs.toArray}) (hi:bW vs ns) (hl:ns.length<=sizeLine) (hr:Jt k callerA)
  (F:∀base:Heap,K.In base->base.Ns mainGlobals mg->ZW P w K mg base CX k fa fd [x] sp) (U:∀(s:Shared) (u:Value),jr s fd ⟨[u],[]⟩ [(x,u)])
  (o8:∀H:Hp,ZoW H->WZ K H a (ns.map V.int)->sp [.ref a] H (λv _=>v=.bl true) λ_ _ _=>False)
  (o9:∀H e s',CX [] H j (λ_ _ _=>False) e s'->False) :
  codeAny (model P w) callerA (.call (.ref fa) ⟨[.ref a],[]⟩) (λr s'=>r=.ok (.ret (.bool true))/\OldK j.heap s'.heap/\s'.os=j.os/\iS s'.gens) j:=by
 have rv:=ZaQ hi;have ZdB:=hi.length;have O:∀H:Hp,ZoW H->WZ K H a (ns.map V.int)->Vz P w H j.heap->(∀b,H b≠none->b=a)->(H a≠none->K.lookup a=none)->
   codeAny (model P w) callerA (.call (.ref fa) ⟨[.ref a],[]⟩) (λr s'=>r=.ok (.ret (.bool true))/\OldK j.heap s'.heap/\s'.os=j.os/\iS s'.gens) j:=by
  intro H hO hS hok hA hK;have J:∀{b:Addr}{o:Obj},j.heap.get? b=some o->H b=none->(Zcl j.heap H).get? b=some o:=λe n=>ZjC e n;have p6:∀{b:Addr}{o:Obj}{es:Array DictEntry}{ep:Nat},j.heap.get? b=some o->o.data=.dict es ep->H b=none:=λ{b o es ep} e d=>by
   cases q:H b with
   |none=>rfl
   |some u=>
    have e':b=a:=hA b (by rw[q];simp);subst e';rw[ha] at e;cases e;have d':Data.seq vs.toArray _=Data.dict es ep:=d;cases d'
  have M:∀{b:Addr}{m:TV},j.heap.Ns b m->(Zcl j.heap H).Ns b m:=λ{b m} ⟨o,es,ep,e,d,r⟩=>⟨o,es,ep,J e (p6 e d),d,r⟩;have o5:K.In (Zcl j.heap H):=λb o e=>J (KX b o e) (by
   cases q:H b with
   |none=>rfl
   |some u=>
    have e':b=a:=hA b (by rw[q];simp);subst e';rw[hK (by rw[q];simp)] at e;cases e)
  have hM:Mod K mg (Zcl j.heap H):=⟨o5,M Y,⟨mb,M hb,o7⟩,let ⟨mc,h1,h2⟩:=o0;⟨mc,M h1,h2⟩⟩;have e0:Zmi P w K mg (Zcl j.heap H) callerA [] j H:=⟨rfl,hM,λb o e=>ZlB e,Nat.le_of_eq (Zha _ _),trivial,λb hb=>absurd (show b∈([]:TU) from hb) (by simp),hok,.of_eq hg⟩;refine fW ((F _ o5 (M Y)).run callerA [] j H ⟨[.ref a],[]⟩ [.ref a] [.ref a] _ _ hr e0 (U j (.ref a)) (.cons rfl .nil) (o8 H hO hS)) λr s' h=>?_;cases r with
  |error e=>exact (o9 H e s' h).elim
  |ok fl=>
   cases fl with
   |next=>exact eF h
   |brk=>exact eF h
   |cont=>exact eF h
   |ret u=>
    obtain⟨v,H',os,bare,un,o6,r',q⟩:=h;have q':v=.bl true:=q;subst q';obtain rfl:u=i4 true:=r';refine⟨rfl,OldK.of_keep λb o e=>?_,os,bare⟩;cases q:H b with
    |none=>exact un.keep b o e q (by intro z;exact absurd (show b∈([]:TU) from z) (by simp)) (by simp)
    |some u=>
     rcases hO b with z|⟨ob,xs,z⟩
     ·rw[q] at z;cases z
     ·have z2:=un.frzs b ob _ z
      obtain⟨e1,_⟩:=hok b _ z;obtain⟨e2,_⟩:=o6 b _ z2;rw[e] at e1;cases e1;exact e2
 cases hk:K.lookup a with
 |some o=>
  have e:=KX a o hk;rw[ha] at e;cases e;refine O (λ_=>none) (λ_=>.inl rfl) (.inr ⟨_,vs.toArray,_,hk,rfl,rfl,rfl,by rw[Zh,ZdB];exact hl,by simpa using rv⟩) (λb u z=>by have z':(none:Option HO)=some u:=z;cases z') (λb z=>absurd rfl z) λz=>absurd rfl z
 |none=>
  refine O (λb=>if b=a then some (.frz {cls:=.type "list",data:=.seq vs.toArray} (.lst (ns.map V.int))) else none) (λb=>?_) (.inl (.inr ⟨{cls:=.type "list",data:=.seq vs.toArray},if_pos rfl⟩)) (λb u z=>?_) (λb z=>?_) λ_=>hk
  ·by_cases hb:b=a
   ·exact .inr ⟨_,_,if_pos hb⟩
   ·exact .inl (if_neg hb)
  ·by_cases hb:b=a
   ·have z':=(if_pos hb).symm.trans z
    cases z';subst hb;exact⟨ha,by rw[Za];exact hl,vs,_,rv,ha⟩
   ·have z':=(if_neg hb).symm.trans z
    cases z'
  ·by_cases hb:b=a
   ·exact hb
   ·exact absurd (if_neg hb) z
theorem Zbs {l:gM}{n k:Nat}{q:Program}{loose:List Str}{XP:TV->Heap->Prop}{YP:World->Heap->Prop}{d:DefRec}{K:Params->aa}{CX:World->CXT}{sp:World->Sp}{x:Str}
  (hn:l.most=some n) (o0:n<=sizeLine) (o5:d.params.defaults=[]) (hr:Jt k callerA)
  (hY:∀(w:World) (h:Heap),YP w h->(K w.params).In h)
  (F:∀(w:World) (M:TV) (fa:Addr) (h:Heap),(K w.params).In h->h.Ns mainGlobals M->M d.name=some (.ref fa)->
   ∃fd:FuncData,(∀(s:Shared) (u:Value),jr s fd ⟨[u],[]⟩ [(x,u)])/\
    ∀base:Heap,(K w.params).In base->base.Ns mainGlobals M->ZW l.prog w (K w.params) M base (CX w) k fa fd [x] (sp w))
  (o6:∀(w:World) (H:Hp) (a:Addr) (ns:TX),ns.length<=n->ZoW H->WZ (K w.params) H a (ns.map V.int)->sp w [.ref a] H (λv _=>v=.bl true) λ_ _ _=>False)
  (o7:∀(w:World) (H:Hp) (s:Shared) (e:Value) (s':Shared),CX w [] H s (λ_ _ _=>False) e s'->False) :
  mE q loose XP YP l.row.toRowW d [] (λf vs=>mC f vs):=by
 refine Att.ZdT hn o5 λw o9 O M mb fa o pm cd p6 a vs ns G Y ho hd p7 o8 U J j hg=>?_;have KX:=hY w _ Y;obtain⟨fd,hb,hF⟩:=F w M fa _ KX G.T.g o8;exact Zjm KX G.T.g G.T.b G.T.builtins G.T.nolimit hg U J (aN j o0) hr hF hb (λH hO hS=>o6 w H a ns j hO hS) λH e s'=>o7 w H O e s'
def Wt (s:Stmt):Arguments:=match s with
 | .FunctionDef _ a _ _ _ _ _ _ _ _=>a
 |_=>{posonlyargs:=[],args:=[],vararg:=none,kwonlyargs:=[],kw_defaults:=[],kwarg:=none,defaults:=[]}
def Wj (s:Stmt):List Stmt:=match s with
 | .FunctionDef _ _ b _ _ _ _ _ _ _=>b
 |_=>[]
def Yc (s:Stmt):db:=match s with
 | .FunctionDef _ _ _ _ _ _ j _ _ _=>j
 |_=>{kind:=.function,names:=[],isGenerator:=false,isCoroutine:=false}
noncomputable abbrev ZY:CXT:=λ_ _ _ _ _ _=>False
noncomputable abbrev E0:XK:=λ_ _ _=>False
theorem ZF {X:Cx}:ZcF ZY X E0:=λ_ _ _ _ _ _ _ h=>h.elim
structure Wf (K:aa)(x qual:Str)(st:Stmt)(f:Addr)(fd:FuncData):Prop where
 ex:∃(oc:Value) (od:Option Addr) (kV doc pm:Value) (an:Option Addr) (cdv ct:Value) (osl:Array (Option Value)),
  fd=cK x qual (Wt st) (Wj st) (Yc st) .none kV doc pm an cdv ct/\K.lookup f=some ⟨oc,od,.func fd,osl⟩/\fw K cdv qual=true
 kp:dY K (.ref f)=true
theorem Wf.ok {x j:Str}{st:Stmt}{f:Addr}{fd:FuncData}{N O:List Str}{k:Nat}{sp:Sp}(F:Wf K x j st f fd)(S:Uz N O (Yc st))(len:∀vs H Q E,sp vs H Q E->vs.length=O.length)
  (M:∀(J:Value) (A:Around) (outer:List Env) (s:Shared) (H:Hp) (vs:TR) (Q:VK) (E:XK),Jt k (A.deeper (envOfC j (Yc st) s.heap.objs.size f J))->sp vs H Q E->
   ∃t,PSs (Zhi ZY P w K mg base N j (Yc st) f J A outer s H E).nox (Wj st) t/\t {nx:=λ_ H'=>Q .non H',rt:=Q} (start N vs) H):ZW P w K mg base ZY (k+1) f fd O sp:=by
 obtain⟨oc,od,kV,doc,pm,an,J,ct,o0,rfl,lk,U⟩:=F.ex;refine Zqj lk U S len λA outer s H vs Q E hr Y=>?_;obtain⟨t,h,q⟩:=M J A outer s H vs Q E hr Y;exact⟨t,h.nox,q⟩
theorem Wf.binds {x j:Str}{st:Stmt}{f:Addr}{fd:FuncData}{M:List Str}(F:Wf K x j st f fd)
  (h:∀(kV doc pm:Value) (an:Option Addr) (J ct:Value) (us:List Value),us.length=M.length->bindArgs (cK x j (Wt st) (Wj st) (Yc st) .none kV doc pm an J ct) ⟨us,[]⟩=pure (M.zip us)):Binds K fd M []:=by
 obtain⟨Y,od,kV,doc,pm,an,J,ct,O,rfl,lk,U⟩:=F.ex;exact .all (h kV doc pm an J ct)
theorem ZeU {x j:Str}{st:Stmt}{f:Addr}{O:Value}{U an:Option Addr}{M:Array (Option Value)}{kV doc pm J ct:Value}(l:K.lookup f=some ⟨O,U,.func (cK x j (Wt st) (Wj st) (Yc st) .none kV doc pm an J ct),M⟩)
  (c:fw K J j=true) (k:dY K (.ref f)=true):Wf K x j st f (cK x j (Wt st) (Wj st) (Yc st) .none kV doc pm an J ct):=⟨⟨O,U,kV,doc,pm,an,J,ct,M,rfl,l,c⟩,k⟩
theorem Y6 {c A B:Prop} [Decidable c](j:c->A)(J:¬c->B):if c then A else B:=by
 by_cases h:c
 ·rw[if_pos h]
  exact j h
 ·rw[if_neg h]
  exact J h
def Same (H j:Hp):Prop:=∀b o,H b=some o->j b=some o
theorem Same.refl (H:Hp):Same H H:=λ_ _ h=>h
theorem Same.trans {H j J:Hp}(a:Same H j)(b:Same j J):Same H J:=λc o h=>b c o (a c o h)
theorem Same.free {H j:Hp}(e:Same H j){l:Addr}(h:j l=Option.none):H l=Option.none:=by
 cases q:H l with
 |none=>rfl
 |some o=>
  rw[e l o q] at h;cases h
theorem Same.seq {K:aa}{H j:Hp}{a:Addr}{xs:TR}(e:Same H j)(h:WZ K H a xs):WZ K j a xs:=by
 rcases h with (h|⟨o,h⟩)|h
 ·exact .inl (.inl (e _ _ h))
 ·exact .inl (.inr ⟨o,e _ _ h⟩)
 ·exact .inr h
end L2
set_option maxHeartbeats 4000000
namespace L2
open PySem PySem.Spec PyProof.Rows
structure Ju (N:List Str)(esc:db)(own:List Str)(caps:TY)(N':List Str)(sc:db):Prop where
 kind:sc.kind=.function
 ndn:(sc.names.map (·.1)).Nodup
 uniq:∀y∈sc.names,y.2=.local->sc.names.lookup y.1=some .local
 nd:N'.Nodup
 eqN:N'=own++caps.map λj=>N.getD j ""
 cap:∀j∈caps,j<N.length/\sc.names.lookup (N.getD j "")=some .free
 fr:∀y∈sc.names,y.2=.free->esc.names.lookup y.1=some .cell\/esc.names.lookup y.1=some .free
def JJ (M:List Str)(J:TY)(O:St):St:=am M.length none++J.map λj=>(O[j]?).join
theorem XS {env:Env}:∀(names:List (Str×fe)) (ZI:List (Str×Addr)),(∀y∈names,y.2=.free->∃c,env.cells.lookup y.1=some c)->(∀y c,ZI.lookup y=some c->env.cells.lookup y=some c)->
  ∃cl,(forIn names ZI (λx r=>if (x.2 == fP)=true then (do let c <-cellOf env x.1;pure (cY ((x.1,c)::r))) else pure (cY r)):Sem (List (Str×Addr)))=pure cl/\
   (∀y c,cl.lookup y=some c->env.cells.lookup y=some c)/\(∀y,(∃c,ZI.lookup y=some c)->∃c,cl.lookup y=some c)/\∀y∈names,y.2=.free->∃c,cl.lookup y.1=some c
 | [],ZI,_,M=>⟨ZI,rfl,M,λ_ h=>h,λ_ h=>absurd h (by simp)⟩
 | (n,k)::r,ZI,Y,M=>by
  rw[j7];by_cases hk:k=.free
  ·subst hk
   obtain⟨c,hc⟩:=Y (n,.free) aD rfl;have o0:∀y d,((n,c)::ZI).lookup y=some d->env.cells.lookup y=some d:=λy d e=>by
    rw[dz] at e;cases q:y == n with
    |true=>rw[q] at e;cases e;rw[beq_iff_eq.mp q];exact hc
    |false=>rw[q] at e;exact M y d e
   obtain⟨cl,e,h1,O,h3⟩:=XS r ((n,c)::ZI) (λy j=>Y y (aF _ j)) o0;have hh:∀y,(∃d,ZI.lookup y=some d)->∃d,((n,c)::ZI).lookup y=some d:=λy ⟨d,hd⟩=>by
    rw[dz];cases q:y == n with
    |true=>exact⟨c,rfl⟩
    |false=>exact⟨d,hd⟩
   have hs:∃d,((n,c)::ZI).lookup n=some d:=⟨c,by rw[dz,beq_self_eq_true]⟩;refine⟨cl,?_,h1,λy j=>O y (hh y j),λy j U=>?_⟩
   ·have J:cellOf env n=pure c:=by simp only[cellOf,hc]
    simp only[beq_self_eq_true,if_true,J];simp only[pure_bind];exact e
   ·rcases aH.mp j with rfl|j
    ·exact O _ hs
    ·exact h3 y j U
  ·obtain⟨cl,e,h1,O,h3⟩:=XS r ZI (λy j=>Y y (aF _ j)) M
   refine⟨cl,?_,h1,O,λy j U=>?_⟩
   ·have hb:(k == fP)=false:=by simpa using hk
    simp only[hb,dH,if_false,pure_bind];exact e
   ·rcases aH.mp j with rfl|j
    ·exact absurd U hk
    ·exact h3 y j U
theorem Zas {scope:db}{env:Env}(h:∀y∈scope.names,y.2=.free->∃c,env.cells.lookup y.1=some c) :
  ∃cl,closureFor scope env=pure cl/\(∀y c,cl.lookup y=some c->env.cells.lookup y=some c)/\∀y∈scope.names,y.2=.free->∃c,cl.lookup y.1=some c:=by
 obtain⟨cl,e,j,_,J⟩:=XS (env:=env) scope.names [] h (λy c e=>by simp at e);refine⟨cl,?_,j,J⟩;have q:closureFor scope env=((forIn scope.names ([]:List (Str×Addr)) (λx r=>if (x.2 == fP)=true then (do let c <-cellOf env x.1;pure (cY ((x.1,c)::r))) else pure (cY r)):Sem (List (Str×Addr))) >>= λM=>pure M):=rfl
 rw[q,e];rfl
theorem WW {names:List (Str×fe)}{x:Str}{k:fe}(h:names.lookup x=some k):(x,k)∈names:=bK h
theorem Wi {env:Env}{x:Str}:∀{names:List (Str×fe)}{k:fe},
  (names.map λ(n,k)=>if (k == fP && env.scope.kind == .function && env.kindOf n == some .cell) then (n,dC) else (n,k)).lookup x=some k->
  names.lookup x=some k\/(k=.cell/\names.lookup x=some .free)
 | [],_,h=>by simp at h
 | (n,j)::r,k,h=>by
  have O:=@Wi env x r k;have h:List.lookup x ((if (j == fP && env.scope.kind == .function && env.kindOf n == some .cell)=true then (n,dC) else (n,j))::_)=some k:=h
  rw[dz];by_cases J:(j == fP && env.scope.kind == .function && env.kindOf n == some .cell)=true
  ·rw[if_pos J,dz] at h
   have M:j=.free:=by
    simp only[ae,beq_iff_eq] at J;exact J.1.1
   cases q:x == n with
   |true=>rw[q] at h;cases h;right;exact⟨rfl,by rw[M]⟩
   |false=>rw[q] at h;exact O h
  ·rw[if_neg J,dz] at h
   cases q:x == n with
   |true=>rw[q] at h;cases h;left;rfl
   |false=>rw[q] at h;exact O h
def Zka (scope:db)(x:Str):Bool:=scope.names.any λy=>y.1 == x && (match y.2 with | .cell=>true|_=>false)
theorem Zhq {scope:db}{x:Str}(h:Zka scope x=true):(x,dC)∈scope.names:=by
 unfold Zka at h;obtain⟨⟨n,k⟩,hm,j⟩:=aZ.mp h;rw[ae] at j;obtain⟨J,M⟩:=j;have e:n=x:=by simpa using J
 subst e;cases k <;> first|exact hm|cases M
theorem VL {x:Str}{k:fe}:∀{names:List (Str×fe)},(names.map (·.1)).Nodup->(x,k)∈names->names.lookup x=some k
 | [],_,h=>by cases h
 | (n,j)::r,nd,h=>by
  rw[aB,bY] at nd;rw[dz];rcases aH.mp h with e|h
  ·cases e
   simp
  ·have:(x == n)=false:=by
    refine nP.mpr λz=>nd.1 ?_;rw[<-beq_iff_eq.mp z];exact aC.mpr ⟨_,h,rfl⟩
   rw[this];exact VL nd.2 h
theorem Xq:∀(names:List (Str×fe)) (n:Nat) (ZI:List (Str×Addr)),cellsFrom n names ZI=cellsFrom n names []++ZI
 | [],n,ZI=>rfl
 |(x,k)::r,n,ZI=>by
  unfold cellsFrom;by_cases j:(k == dC)=true
  ·rw[if_pos j,if_pos j,Xq r (n+1) ((x,n)::ZI),Xq r (n+1) [(x,n)],eh]
   rfl
  ·rw[if_neg j,if_neg j,Xq r n ZI]
theorem VQ {x:Str}{c:Addr}:∀(names:List (Str×fe)) (n:Nat) (ZI:List (Str×Addr)),(x,c)∈cellsFrom n names ZI->(x,dC)∈names\/(x,c)∈ZI
 | [],n,ZI,h=>.inr h
 | (y,k)::r,n,ZI,h=>by
  unfold cellsFrom at h;by_cases j:(k == dC)=true
  ·rw[if_pos j] at h
   rcases VQ r (n+1) _ h with z|z
   ·exact .inl (aF _ z)
   ·rcases aH.mp z with e|z
    ·cases e
     have:k=.cell:=by cases k <;> first|rfl|cases j
     rw[this];exact .inl aD
    ·exact .inr z
  ·rw[if_neg j] at h
   rcases VQ r n _ h with z|z
   ·exact .inl (aF _ z)
   ·exact .inr z
theorem ZlD {M:Model}{A:Around}{E:TW}{s:Shared}{scope:db}{globals:Addr}{cl:List (Str×Addr)}{qual:Str}{j:Env}{Q:Env->Shared->Prop}
  (Y:Q (newEnv scope s.heap.objs.size globals (cellsFrom (s.heap.objs.size+1) scope.names cl) qual none .none (some j) builtinsNs) {s with heap:=pushCells (s.heap.push {cls:=.type "dict",data:=.dict #[]}) scope.names}) :
  wpAny M A (newFunctionEnv scope globals cl [] qual none .none (some j)) Q E s:=by
 unfold newFunctionEnv;refine Zl (wpAny_alloc ?_);refine Zl (wpAny_layCells _ (λU kind J=>by cases O:kind == dC <;> simp[O]) _ _ _ _ ?_)
 rw[show ({s with heap:=s.heap.push {cls:=.type (if (some j).isSome=true then "dict" else "frame"),data:=.dict #[]}}:Shared).heap.objs.size=s.heap.objs.size+1 from bF ..]
 exact Zl (by rw[kA];exact Zm (Zm Y))
def Y7 (X:Cx)(scope:db)(j:List (Str×Addr))(J:List Str)(C:Addr)(s:Shared)(H:Hp)(ex:TU):Cx:=
 {X with N:=J,s₀:=s,H₀:=H,env:=compEnvC scope j C X.env,outer:=X.stack,ex:=ex,fn:=Zka scope,pn:=[],xe:=λ_ _=>False}
def WH (o0:List Str)(M:TY)(g:TG)(tc:TT)(te:TE)(σ:St)(Q:VK)(J:It)(H1:Hp):Prop:=∀D,H1 D=none->
 ∃W:Nat->Nat->St->Hp->Prop,(∃m,W 0 m (JJ o0 M σ) (upd H1 D (.lst [])))/\∀i m O U,W i m O U->
  (J.stop i U/\Q (.ref D) U)\/(J.go i U/\∃N:St->Hp->Prop,(∀ Y H2,N Y H2->∃m',m'<m/\W (i+1) m' Y H2)/\∀x H2,J.yld i U x H2->g x O H2 λj H3=>tc j H3 λb H4=>
   if b=true then te j H4 λv H5=>∃xs,H5 D=some (.lst xs)/\xs.length<sizeLine/\N j (upd H5 D (.lst (xs++[v]))) else N j H4)
def Zff (M:List Str)(j:TY)(U:TI)(g:TG)(Y:TT)(te:TE):TE:=λO H Q=>U O H λJ H1=>WH M j g Y te O Q J H1
def Wu:TT:=λ_ H Q=>Q true H
def PIf (X:Cx)(J:List Expr)(t:TT):Prop:=
 ∀(j:List (Addr×Obj)) (s:Shared) (M:St) (H:Hp) (Q:Bool->Hp->Prop),Inv X j M H s->t M H Q->
  wpAny (model X.prog X.w) X.A (forIn J true λc r=>if r=true then do let ok <-isTrue c X.env (eval c X.env);pure (cY ok) else pure (cY r)) (TP X j M Q) X.xe s
theorem ZQ:PIf X [] Wu:=λ_ _ _ H _ I h=>wpAny_tests_nil ⟨H,I,h⟩
theorem ZfM {c:Expr}{t:TT}(h:PT X c t):PIf X [c] t:=λj s J H Q I q=>wpAny_tests_one (h j s J H Q I q)
theorem J8 {prog:Program}{w:World}{A:Around}{R:Result->Shared->Prop}{s:Shared}{elt j iter:Expr}{ifs:List Expr}{scope:db}{pos:Pos}{it ZI:Value}{env:Env}(I:Nat->Shared->Prop)
  (turn:∀n s,I n s->wpAny (model prog w) A (pyNext it) (λr J=>match r with
   |none=>R (.ok .next) J
   |some v=>wpAny (model prog w) A (letOwnedTupleGo j it v) (λ_ M=>wpAny (model prog w) A (assign j env v) (λ_ Y=>
     wpAny (model prog w) A (forIn ifs true λc r=>if r=true then do let ok <-isTrue c env (eval c env);pure (cY ok) else pure (cY r)) (λok O=>
      if ok=true then wpAny (model prog w) A (eval elt env) (λx o0=>
       wpAny (model prog w) A (call (.builtin "list.append") [ZI,x]) (λ_ o5=>∃m,m<n/\I m o5) (λ_ _=>False) o0) (λ_ _=>False) O
      else ∃m,m<n/\I m O) (λ_ _=>False) Y) (λ_ _=>False) M) (λ_ _=>False) J) (λ_ _=>False) s)
  (n:Nat) (h:I n s) :
  codeAny (model prog w) A (.compLoop (.ListComp elt [⟨j,iter,ifs,0⟩] scope pos) 0 it ZI env) R s:=by
 refine codeAny_loop rfl I (λn s hI=>?_) n h;show wpAny _ A ((compTurn (.ListComp elt [⟨j,iter,ifs,0⟩] scope pos) 0 it ZI env).onRaise (λx=>do noteFrame x env;theTreesLotGoes x)) _ _ s
 refine wpAny_noted ?_;rw[compTurn_list];refine Zl (mw (Zl (cH (turn n s hI) (λr J o6=>?_) λ_ _ U=>U.elim)));cases r with
 |none=>exact Zm o6
 |some v=>
  refine Zl (cH o6 (λ_ M o8=>?_) λ_ _ U=>U.elim);refine Zl (cH o8 (λ_ Y o9=>Zl (cH o9 (λok O o7=>?_) λ_ _ U=>U.elim)) λ_ _ U=>U.elim);cases ok with
  |false=>exact Zm ⟨rfl,o7⟩
  |true=>
   exact Zl (Zl (cH o7 (λx o0 p6=>Zl (cH p6 (λ_ o5 p7=>Zm (Zm ⟨rfl,p7⟩)) λ_ _ U=>U.elim)) λ_ _ U=>U.elim))
theorem Zam {own:List Str}{p8:TY}{N':List Str}{esc scope:db}{elt iter tg:Expr}{ifs:List Expr}{pos:Pos}{g:TG}{tc:TT}{te:TE}{cl:List (Str×Addr)}
  (hesc:X.env.scope=esc) (S:Ju X.N esc own p8 N' scope) (hc:X.calm=true)
  (o0:∀y c,cl.lookup y=some c->X.env.cells.lookup y=some c) (w6:∀y∈scope.names,y.2=.free->∃c,cl.lookup y.1=some c)
  (hg:∀cl C s H ex,PG (Y7 X scope cl N' C s H ex) tg g) (ht:∀cl C s H ex,PIf (Y7 X scope cl N' C s H ex) ifs tc) (he:∀cl C s H ex,PE (Y7 X scope cl N' C s H ex) elt te)
  {o6:List (Addr×Obj)}{σ:St}{H2:Hp}{s2:Shared}{it:Addr}{fp:TU}{tn:Nat->Heap->Prop}{J:It}{Q:VK}{RR:Value->Addr->Result->Shared->Prop}{E:TW}
  (I2:Inv X o6 σ H2 s2) (T:ZaM X.prog X.w X.K tg J fp it tn) (x8:tn 0 s2.heap) (f2:∀b∈fp,ZaP X o6 H2 b)
  (h:WH own p8 g tc te σ Q J H2)
  (hRR:∀D C s' m H',s'.heap.Ns C m->C≠X.env.locals->(∀x c,X.env.cells.lookup x=some c->c≠C)->X.s₀.heap.objs.size<=C->(∀p∈X.pn++o6,p.1≠C)->H' C=none->Q (.ref D) H'->(∀h',bq C s'.heap h'->Inv X o6 σ H' {s' with heap:=h'})->RR (.ref D) C (.ok .next) s') :
  wpAny (model X.prog X.w) X.A (newList []) (λZI s₃=>wpAny (model X.prog X.w) X.A (newFunctionEnv scope X.env.globals cl [] X.env.qual none .none (some X.env)) (λw8 s₄=>
   codeAny (model X.prog X.w) X.A (.compStart (.ListComp elt [⟨tg,iter,ifs,0⟩] scope pos) 0 (.ref it) ZI {w8 with scope:=relabel scope X.env}) (RR ZI w8.locals) s₄) E s₃) E s2:=by
 refine bm (ZlD ?_)
 try dsimp only
 have hD:H2 s2.heap.objs.size=none:=I2.hok.fresh (Zq _);obtain⟨W,⟨m0,w0⟩,turn⟩:=h _ hD;generalize x9:s2.heap.push {cls:=.type "list",dict:=none,data:=.seq ([]:List Value).toArray}=O;have hC:O.objs.size=s2.heap.objs.size+1:=by rw[<-x9,bF]
 have w9:∀b o,s2.heap.get? b=some o->O.get? b=some o:=λb o e=>x9▸Zn _ e;have I3:Inv X o6 σ (upd H2 s2.heap.objs.size (.lst [])) {s2 with heap:=O,toks:=s2.toks}:=
  I2.laid (t':=s2.toks) w9 (Zq _) ⟨aX _,[],0,.nil,x9▸Zo _ rfl⟩
 generalize y4:pushCells (O.push {cls:=.type "dict",data:=.dict #[]}) scope.names=o7;have k1:∀b o,O.get? b=some o->o7.get? b=some o:=λb o e=>y4▸pushCells_keeps _ _ b o (Zn _ e);have t0:o7.Ns O.objs.size (λ_=>none):=y4▸(Heap.Ns.new O (.type "dict")).keeps (pushCells_keeps _ _);have t5:CellsOk o7 (O.objs.size+1) (cellsFrom (O.objs.size+1) scope.names []):=by
  have q:=cellsFrom_ok scope.names (O.push {cls:=.type "dict",data:=.dict #[]}) (O.objs.size+1) [] ⟨λ_ _ hm=>(nomatch hm),f7⟩ (by rw[bF];exact Zq _);rw[bF,y4] at q;exact q
 have q0:cellsFrom (O.objs.size+1) scope.names cl=cellsFrom (O.objs.size+1) scope.names []++cl:=Xq _ _ _;have o9:∀y,scope.names.lookup y=some .cell->∃c,(cellsFrom (O.objs.size+1) scope.names []).lookup y=some c:=λy hy=>kx.mp (gX scope.names (O.objs.size+1) [] (.inl hy));generalize hcA:cellsFrom (O.objs.size+1) scope.names []=cA at t5 q0 o9;have memA:∀y c,cA.lookup y=some c->(y,dC)∈scope.names:=λy c e=>by
  have:=bK e;rw[<-hcA] at this;rcases VQ _ _ _ this with z|z
  ·exact z
  ·cases z
 generalize hcE:cellsFrom (O.objs.size+1) scope.names cl=cE at q0;have r6:∀y c,cE.lookup y=some c->cA.lookup y=some c\/(cA.lookup y=none/\cl.lookup y=some c):=λy c e=>by
  rw[q0,jb] at e;cases q:cA.lookup y with
  |none=>rw[q] at e;exact .inr ⟨rfl,by simpa using e⟩
  |some c'=>rw[q] at e;exact .inl (by simpa using e)
 have lkF:∀y c,scope.names.lookup y=some .free->cl.lookup y=some c->cE.lookup y=some c:=λy c hy e=>by
  rw[q0,jb];cases q:cA.lookup y with
  |none=>simpa using e
  |some c'=>
   have:=VL S.ndn (memA y c' q);rw[hy] at this;cases this
 have fpn:∀b∈fp,upd H2 s2.heap.objs.size (.lst []) b=none:=λb hb=>by
  obtain⟨o,ho,_⟩:=T.obj _ _ x8 b hb;rw[Zy (ay (Zp ho))];exact (f2 b hb).1
 have r8:∀b∈fp,b<O.objs.size:=λb hb=>by
  obtain⟨o,ho,_⟩:=T.obj _ _ x8 b hb;rw[hC];exact cB (Zp ho)
 generalize M:Y7 X scope cE N' O.objs.size {s2 with heap:=O,toks:=s2.toks} (upd H2 s2.heap.objs.size (.lst [])) fp=X';have hfs:X'.fs=frs X.stack:=by rw[<-M];rfl
 have y6:∀y,X'.env.kindOf y=some .cell\/X'.env.kindOf y=some .free->∃c,cE.lookup y=some c:=λy hy=>by
  have hy':(relabel scope X.env).names.lookup y=some .cell\/(relabel scope X.env).names.lookup y=some .free:=by rw[<-M] at hy;exact hy
  have hf:scope.names.lookup y=some .free->∃c,cE.lookup y=some c:=λhf=>by
   obtain⟨c,p6⟩:=w6 _ (WW hf) rfl;exact⟨c,lkF y c hf p6⟩
  have t6:scope.names.lookup y=some .cell->∃c,cE.lookup y=some c:=λhf=>by
   obtain⟨c,p6⟩:=o9 y hf;exact⟨c,by rw[q0,jb,p6];rfl⟩
  rcases hy' with q|q
  ·rcases Wi q with z|z
   ·exact t6 z
   ·exact hf z.2
  ·rcases Wi q with z|z
   ·exact hf z
   ·exact absurd z.1 (by decide)
 have o5:X'.env.cells=cE:=by rw[<-M];rfl
 have o8:X'.env.locals=O.objs.size:=by rw[<-M];rfl
 have cne:∀x c,cl.lookup x=some c->c≠O.objs.size/\c<O.objs.size:=λx c e=>by
  obtain⟨v,q⟩:=I3.cell x c (o0 x c e);exact⟨ay q.lt,q.lt⟩
 have U:∀x c,cA.lookup x=some c->O.objs.size+1<=c:=λx c e=>(t5.empty x c (bK e)).2;have injE:∀x y c,cE.lookup x=some c->cE.lookup y=some c->x=y:=λx y c a b=>by
  rcases r6 x c a with a|⟨_,a⟩ <;> rcases r6 y c b with b|⟨_,b⟩
  ·exact name_of_addr t5.apart (bK a) (bK b)
  ·have h1:O.objs.size+1<=c:=U x c a
   exact absurd (aE (cne y c b).2 (eB h1)) (ck _)
  ·have h1:O.objs.size+1<=c:=U y c b
   exact absurd (aE (cne x c a).2 (eB h1)) (ck _)
  ·exact I3.ok.inj x y c (o0 x c a) (o0 y c b)
 have ok':X'.Ok:=by
  refine M▸⟨I3.ok.mod,S.kind,I3.ok.glob,I3.ok.blt,Zq _,injE,?_,?cab,I3.ok.hd,I3.ok.frames,.inl rfl,?_,?_,?_,?_,?_,I3.stack,I3.stkFree⟩
  ·intro y hy
   exact y6 y (by rw[<-M];exact hy)
  ·intro x c z e
   have hm:=VL S.ndn (Zhq z);rcases r6 x c e with e|⟨n,_⟩
   ·exact eB (U x c e)
   ·obtain⟨c',p6⟩:=o9 x hm
    rw[n] at p6;cases p6
  ·intro b hb
   refine⟨ay (r8 b hb),λx c e=>?_⟩;rcases r6 x c e with e|⟨_,e⟩
   ·have h1:O.objs.size+1<=c:=U x c e
    exact λz=>absurd (aE (r8 b hb) (eB h1)) (by rw[z];exact ck _)
   ·exact (f2 b hb).2.2.2.2.1 x c (o0 x c e)
  ·exact I3.bs
  ·exact aN I3.ok.bsz I3.sz
  ·intro b o e hb
   rcases (f2 b hb).2.2.2.1 with z|z
   ·exact I3.ok.noex b o e z
   ·exact absurd (aE (Zp e) (aN I3.ok.bsz z)) (ck _)
  ·intro b hb z
   rcases aH.mp (I3.stkSub b z) with e|e
   ·exact (f2 b hb).2.1 e
   ·exact (f2 b hb).2.2.1 e
 have I4:Inv X' [] (JJ own p8 σ) (upd H2 s2.heap.objs.size (.lst [])) {s2 with heap:=o7,toks:=s2.toks}:=by
  refine⟨ok',M▸rfl,I3.bare,?_,⟨_,by rw[o8];exact t0,?_⟩,?_,?_,?_,?_,?_,?_⟩
  ·rw[<-M];exact Un.kept k1
  ·intro i x v hN p7 hV
   have y8:N'[i]?=some x:=by rw[<-M] at hN;exact hN
   unfold JJ at p7;by_cases hi:i<own.length
   ·rw[aq (by simpa using hi),cP] at p7
    rw[if_pos hi] at p7;cases p7
   ·rw[aw (by simpa using hi),Ze,Zc] at p7
    rw[S.eqN,aw (by omega),Zc] at y8;cases hj:p8[i-own.length]? with
    |none=>rw[hj] at p7;cases p7
    |some j=>
     rw[hj] at p7 y8;have hx:X.N.getD j ""=x:=aA y8;obtain⟨hjl,r9⟩:=S.cap j (ah hj);rw[hx] at r9;have hjN:X.N[j]?=some x:=by
      rw[Zf hjl,<-hx,Zb,Zf hjl];rfl
     have hv:σ[j]?=some (some v):=by
      have q:(σ[j]?).join=some v:=aA p7;cases q':σ[j]? with
      |none=>rw[q'] at q;cases q
      |some o=>rw[q'] at q;rw[show o=some v from q]
     have y9:=S.fr (x,.free) (WW r9) rfl;rw[<-hesc] at y9;obtain⟨m,hn,hl⟩:=I3.loc;have visX:Vis X.env.scope x:=y9.elim (λz=>.inr (.inl z)) λz=>.inr (.inr z);obtain⟨u,ru,look⟩:=hl j x v hjN hv visX;refine⟨u,ru,?_⟩;obtain⟨c,t6⟩:=w6 (x,.free) (WW r9) rfl;rcases look with ⟨a,_⟩|⟨_,c',p6,hcell⟩
     ·rcases y9 with z|z
      ·rw[show X.env.kindOf x=X.env.scope.names.lookup x from rfl,z] at a;cases a
      ·rw[show X.env.kindOf x=X.env.scope.names.lookup x from rfl,z] at a;cases a
     ·have:c'=c:=by rw[o0 _ _ t6] at p6;cases p6;rfl
      subst this;refine .inr ⟨?_,c',by rw[o5];exact lkF _ _ r9 t6,hcell.keeps k1⟩;rcases hV with q|q|q
      ·have q':(relabel scope X.env).names.lookup x=some .local:=by rw[<-M] at q;exact q
       rcases Wi q' with z|z
       ·rw[r9] at z;cases z
       ·exact absurd z.1 (by decide)
      ·exact .inl q
      ·exact .inr q
  ·intro x c e
   rw[o5] at e;rcases r6 x c e with e|⟨_,e⟩
   ·exact⟨_,(t5.empty x c (bK e)).1⟩
   ·obtain⟨v,q⟩:=I3.cell x c (o0 x c e)
    exact⟨v,q.keeps k1⟩
  ·rw[o8];exact I3.hok.fresh (Zq _)
  ·intro x c e
   rw[o5] at e;rcases r6 x c e with e|⟨_,e⟩
   ·exact I3.hok.fresh (eB (U x c e))
   ·exact I3.freeC x c (o0 x c e)
  ·intro p hp
   have:p∈([]:List (Addr×Obj)):=by rw[<-M] at hp;exact hp
   cases this
  ·rw[<-M];exact I3.hok.kept k1
  ·rw[<-M]
   show (JJ own p8 σ).length=N'.length;unfold JJ;rw[S.eqN,Zd,Zd,Ze,Za,Za]
 have pX:X'.prog=X.prog:=by rw[<-M];rfl
 have wX:X'.w=X.w:=by rw[<-M];rfl
 have KX:X'.K=X.K:=by rw[<-M];rfl
 have AX:X'.A=X.A:=by rw[<-M];rfl
 have cX:X'.calm=true:=by rw[<-M];exact hc
 have xX:X'.xe=λ_ _=>False:=by rw[<-M];rfl
 have envX:X'.env=compEnvC scope cE O.objs.size X.env:=by rw[<-M];rfl
 have exX:X'.ex=fp:=by rw[<-M];rfl
 have hg':PG X' tg g:=M▸hg _ _ _ _ _;have ht':PIf X' ifs tc:=M▸ht _ _ _ _ _;have he':PE X' elt te:=M▸he _ _ _ _ _;have fpk:∀{H':Hp},(∀b∈fp,H' b=none)->∀b∈fp,ZaP X' [] H' b:=λ{H'} hn b hb=>by
  refine⟨hn b hb,?_,?_,?_,?_,?_⟩
  ·rw[o8];exact ay (r8 b hb)
  ·rw[hfs];intro z
   rcases aH.mp (I3.stkSub b z) with e|e
   ·exact (f2 b hb).2.1 e
   ·exact (f2 b hb).2.2.1 e
  ·rw[exX];exact .inl hb
  ·intro x c e
   rw[o5] at e;rcases r6 x c e with e|⟨_,e⟩
   ·have h1:O.objs.size+1<=c:=U x c e
    exact λz=>absurd (aE (r8 b hb) (eB h1)) (by rw[z];exact ck _)
   ·exact (f2 b hb).2.2.2.2.1 x c (o0 x c e)
  ·intro p hp
   have:p∈([]:List (Addr×Obj)):=by rw[<-M] at hp;exact hp
   cases this
 have st1:tn 0 o7:=T.keep _ _ _ x8 λb hb o e=>k1 b o (w9 b o e);have back:∀{Y:St}{H':Hp}{s':Shared}{pp:List (Addr×Obj)}{h':Heap},Inv X' pp Y H' s'->bq O.objs.size s'.heap h'->Inv X o6 σ H' {s' with heap:=h'}:=λ{Y H' s' pp h'} I' sb=>by
  have u:=I'.base;rw[hfs,exX] at u;have hs0:X'.s₀.heap=O:=by rw[<-M];rfl
  have hH0:X'.H₀=upd H2 s2.heap.objs.size (.lst []):=by rw[<-M];rfl
  rw[hs0,hH0] at u;have ne:∀b o,O.get? b=some o->b≠O.objs.size:=λb o e=>ay (Zp e);have hCn:H' O.objs.size=none:=by have:=I'.free;rw[o8] at this;exact this
  refine I3.call' (s':={s' with heap:=h'}) (ch:=fp) ?_ ⟨?_,?_,?_,?_,?_,?_,?_⟩ ?_ I'.bare ?_
  ·have:=I'.os;rw[<-M] at this;exact this
  ·intro b o e n hb hx;exact sb.extBut b o (ne b o e) (u.keep b o e n hb hx)
  ·intro b o e n hb hx
   obtain⟨sl,q⟩:=u.slot b o e n hb hx;exact⟨sl,sb.extBut b _ (ne b o e) q⟩
  ·exact u.free
  ·intro b o e hx
   obtain⟨o',q⟩:=u.there b o e hx;exact⟨o',sb.extBut b _ (ne b o e) q⟩
  ·exact u.tups
  ·exact u.frzs
  ·exact u.tbls
  ·have hok:=I'.hok
   rw[pX,wX] at hok;intro a o e;refine (hok a o e).stay (λb v hb r=>sb.extBut b v ?_ r) (λb r=>r) λb xs r=>r;rcases hb with rfl|hb
   ·intro z;rw[z,hCn] at e;cases e
   ·intro z;rw[z,hCn] at hb;cases hb
  ·intro b hb
   refine⟨(f2 b hb).2.2.2.1,(f2 b hb).2.1,(f2 b hb).2.2.2.2.1,(f2 b hb).2.2.2.2.2⟩
 have x6:∀s3:Shared,s3={s2 with heap:=o7,toks:=s2.toks}->
   codeAny (model X.prog X.w) X.A (.compLoop (.ListComp elt [⟨tg,iter,ifs,0⟩] scope pos) 0 (.ref it) (.ref s2.heap.objs.size) (compEnvC scope cE O.objs.size X.env)) (RR (.ref s2.heap.objs.size) O.objs.size) s3:=by
  rintro s3 rfl;refine J8 (λn s'=>∃i Y H',Inv X' [] Y H' s'/\tn i s'.heap/\(∀b∈fp,H' b=none)/\W i n Y H') ?_ m0 ⟨0,_,_,I4,st1,fpn,w0⟩;rintro n s5 ⟨i,t7,H5,I5,st5,fr5,w5⟩;rcases turn i n t7 H5 w5 with ⟨stop,qn⟩|⟨go,N,hN,step⟩
  ·have q:=T.done X' pX wX KX cX i [] s5 t7 H5 (λ_ _=>False) I5 (fpk fr5) st5 stop
   rw[AX] at q;refine Yo q λr s6 ⟨hr,I6⟩=>?_;subst hr;obtain⟨m,hn,_⟩:=I6.loc;rw[o8] at hn;refine hRR _ _ s6 m H5 hn ?_ ?_ I3.sz ?_ ?_ qn λh' sb=>back I6 sb
   ·exact bB I3.lt
   ·intro x c e
    obtain⟨v,q⟩:=I3.cell x c e;exact ay q.lt
   ·intro pp hpp
    exact ay (Zp (I3.pin pp hpp).1)
   ·have:=I6.free;rw[o8] at this;exact this
  ·have q:=T.item X' pX wX KX cX i [] s5 t7 H5 (λ_ _=>False) I5 (fpk fr5) st5 go
   rw[AX] at q;refine Yo q λr s6 ⟨u,hr,h6⟩=>?_;subst hr;refine Yo h6 λ_ s7 ⟨x,H7,I7,r7,y7,st7,fr7⟩=>?_;have I7':=I7.pinned (fpk fr7) (T.obj _ _ st7);have q8:=hg' _ s7 t7 H7 x u _ I7' r7 (step x H7 y7);rw[pX,wX,AX,envX,xX] at q8;refine Yo q8 λ_ s8 ⟨t9,H8,I8,q8⟩=>?_;have q9:=ht' _ s8 t9 H8 _ I8 q8;rw[pX,wX,AX,envX,xX] at q9;have again:∀{Y:St}{H':Hp}{s':Shared},Inv X' ([]++U1 fp s7.heap) Y H' s'->N Y H'->∃m,m<n/\∃i Y H',Inv X' [] Y H' s'/\tn i s'.heap/\(∀b∈fp,H' b=none)/\W i m Y H':=λ{Y H' s'} I' n'=>by
    obtain⟨m',hm,w'⟩:=hN Y H' n';refine⟨m',hm,i+1,Y,H',I'.unpinned,T.keep _ _ _ st7 λb hb o e=>(I'.pin (b,o) (aU _ (aU _ (JB hb e)))).1,λb hb=>?_,w'⟩;obtain⟨o,e,d⟩:=T.obj _ _ st7 b hb;exact (I'.pin (b,o) (aU _ (aU _ (JB hb e)))).2.1
   refine Yo q9 λok s9 ⟨H9,I9,q9⟩=>?_;cases ok with
   |false=>
    simp only[dH,if_false] at q9 ⊢;exact again I9 q9
   |true=>
    simp only[if_true] at q9 ⊢;have u5:=he' _ s9 t9 H9 _ I9 q9;rw[pX,wX,AX,envX,xX] at u5;refine Yo u5 λy s10 ⟨v,H10,I10,rv,xs,hxs,hz,u5⟩=>?_;have u9:=Z3 (X:=X') _ s10 t9 H10 (.ref s2.heap.objs.size) [v] (.ref s2.heap.objs.size) [y] (λ_ H'=>N t9 H') I10 rfl (.cons rv .nil) ⟨_,xs,v,rfl,rfl,hxs,hz,u5⟩;rw[pX,wX,AX,xX] at u9;exact Yo u9 λ_ s11 ⟨_,H11,I11,_,u9⟩=>again I11 u9
 exact codeAny_compStart_list (x6 _ rfl) (T.self _ 0 _ _ _ st1 (x6 _ rfl))
theorem Zk9 {own:List Str}{j:TY}{N':List Str}{Y scope:db}{elt iter tg:Expr}{ifs:List Expr}{pos:Pos}{wi:TI}{g:TG}{tc:TT}{te:TE}
  (M:X.env.scope=Y) (S:Ju X.N Y own j N' scope) (hc:X.calm=true) (hi:PI X tg iter wi)
  (hg:∀U C s H ex,PG (Y7 X scope U N' C s H ex) tg g) (ht:∀U C s H ex,PIf (Y7 X scope U N' C s H ex) ifs tc) (he:∀U C s H ex,PE (Y7 X scope U N' C s H ex) elt te)
  (hs:∀x,foldedSetIterable iter X.env x=pure x:=by intro _;rfl) :
  PE X (.ListComp elt [⟨tg,iter,ifs,0⟩] scope pos) (Zff own j wi g tc te):=by
 intro O s σ H Q I h;obtain⟨U,o6,o0,o5⟩:=Zas (scope:=scope) (env:=X.env) λy hy hf=>by
  have:=S.fr y hy hf;rw[<-M] at this;exact I.ok.has y.1 this
 rw[eval_ListComp];refine mz (use:=none) rfl hs o6 S.kind S.uniq (Yo (hi O s σ H _ I h) λv s1 h1=>Yo h1 λo8 s2 h2=>?_);obtain⟨it,fp,tn,J,H2,e,I2,T,o7,f2,q⟩:=h2;subst e;refine Zam (RR:=λZI C=>compPost (model X.prog X.w) X.A X.xe none (EP X O σ Q) ZI C) M S hc o0 o5 hg ht he I2 T o7 f2 q ?_;intro D C s' m H' hn _ _ _ _ _ q' hb;exact⟨m,hn,λh' sb=>⟨.ref D,H',hb h' sb,rfl,q'⟩⟩
theorem Zey {own:List Str}{M:TY}{N':List Str}{o0 scope:db}{elt iter tg:Expr}{ifs:List Expr}{pos O py:Pos}{y:Str}{i:Nat}{wi:TI}{g:TG}{tc:TT}{te:TE}
  (U:X.env.scope=o0) (S:Ju X.N o0 own M N' scope) (hc:X.calm=true) (hi:PI X tg iter wi)
  (hg:∀cl C s H ex,PG (Y7 X scope cl N' C s H ex) tg g) (ht:∀cl C s H ex,PIf (Y7 X scope cl N' C s H ex) ifs tc) (he:∀cl C s H ex,PE (Y7 X scope cl N' C s H ex) elt te)
  (hN:X.N.Nodup) (hy:X.N[i]?=some y) (hx:Loc X.env.scope y) (hf:X.fn y=true\/X.env.scope.names.lookup y=some .local)
  (o9:swapsWith (.ListComp elt [⟨tg,iter,ifs,0⟩] scope pos) (some (.Name y py)) O.line X.env=pure true)
  (hs:∀x,foldedSetIterable iter X.env x=pure x:=by intro _;rfl) :
  PS X (.Assign [.Name y py] (.ListComp elt [⟨tg,iter,ifs,0⟩] scope pos) O) (Zd9 (Zff own M wi g tc te) (Ym i)):=by
 intro j s σ H D0 I h;obtain⟨cl,p6,o5,o6⟩:=Zas (scope:=scope) (env:=X.env) λy hy hf=>by
  have:=S.fr y hy hf;rw[<-U] at this;exact I.ok.has y.1 this
 rw[exec_Assign_Name_used _ _ _ _ o9];refine Zl (mw (Zl ?_));show wpAny _ X.A (do let _ <-comprehension (.ListComp elt [⟨tg,iter,ifs,0⟩] scope pos) scope X.env _ (newList []) false (eval iter X.env) (some (assign (.Name y py) X.env))) _ _ s
 refine Zl (cH (mz (use:=some (assign (.Name y py) X.env)) (Q:=λ_ Y=>SP X j D0 .next Y) rfl hs p6 S.kind S.uniq
  (Yo (hi j s σ H _ I h) λv s1 h1=>Yo h1 λt6 s2 h2=>?_)) (λ_ Y hq=>Zm (Zm hq)) λ_ _ e=>e)
 obtain⟨it,fp,tn,J,H2,e,I2,T,p7,f2,q⟩:=h2;subst e;refine Zam (RR:=λZI C=>compPost (model X.prog X.w) X.A X.xe (some (assign (.Name y py) X.env)) (λ_ Y=>SP X j D0 .next Y) ZI C) U S hc o5 o6 hg ht he I2 T p7 f2 q ?_;intro D C Y m H' hn o7 o8 p8 q0 r6 q' hb;have I':Inv X j σ H' Y:=hb Y.heap (.refl ..);show wpAny _ X.A (assign (.Name y py) X.env (.ref D)) _ _ Y;refine wpAny_assign_Name (ZaT I' hN hy hx (v:=.ref D) rfl (λr8 r9 ⟨a,sb,ha⟩=>?_) hf);have t0:C≠a:=by
  rcases ha with rfl|ha
  ·exact o7
  ·exact λz=>o8 y a ha z.symm
 refine⟨m,hn.sameBut sb t0,λh' t5=>⟨_,H',?_,q'⟩⟩;exact r9.turned (t':=r8.toks) (λb o hb e=>t5.extBut b o hb e) r6 o7 (.inr p8) o8 q0
section
variable {κ:Type} [DecidableEq κ]
def Jw (j:List (κ×V))(k:κ):TQ:=(j.find? λJ=>decide (J.1=k)).map (·.2)
def W0 (j:List (κ×V))(k:κ)(v:V):List (κ×V):=
 if (j.any λJ=>decide (J.1=k))=true then j.map (λJ=>if J.1=k then (J.1,v) else J) else j++[(k,v)]
theorem UB {p:κ×V}{r:List (κ×V)}{k:κ}(e:p.1=k):Jw (p::r) k=some p.2:=by simp[Jw,fq,e]
theorem UC {p:κ×V}{r:List (κ×V)}{k:κ}(e:¬p.1=k):Jw (p::r) k=Jw r k:=by simp[Jw,fq,e]
theorem JQ (k:κ):∀j:List (κ×V),(j.any λJ=>decide (J.1=k))=(Jw j k).isSome
 | []=>rfl
 |p::r=>by
  rw[gQ];by_cases e:p.1=k
  ·simp only[UB e,decide_eq_true e,Bool.true_or,Option.isSome_some]
  ·rw[UC e,decide_eq_false e,gU];exact JQ k r
theorem J1 (j:List (κ×V))(k:κ)(v:V):(W0 j k v).length<=j.length+1:=by
 unfold W0;split
 ·rw[Za];omega
 ·rw[Zd,Zi,iC];omega
theorem ZiI {j:List (κ×V)}{k:κ}(v:V)(h:Jw j k=none):W0 j k v=j++[(k,v)]:=by
 unfold W0;rw[JQ,h];exact if_neg (by decide)
theorem ZaN.isSome_eq {o:TQ}{u:Option Value}(r:ZaN o u):o.isSome=u.isSome:=by
 cases o with
 |none=>cases u with
  |none=>rfl
  |some _=>exact (show False from r).elim
 |some _=>cases u with
  |none=>exact (show False from r).elim
  |some _=>rfl
theorem KV.val {j:List (κ×V)}{vs:List (κ×Value)}(r:KV j vs)(k:κ):ZaN (Jw j k) (valueAt vs k):=by
 unfold KV at r;induction r with
 |nil=>exact io
 | @cons p q ps J h t U=>
  obtain⟨O,Y⟩:=h;by_cases e:p.1=k
  ·have M:q.1=k:=O.symm.trans e
   have b:valueAt (q::J) k=some q.2:=by simp[valueAt,fq,M]
   rw[UB e,b];exact Y
  ·have M:¬q.1=k:=λz=>e (O.trans z)
   have b:valueAt (q::J) k=valueAt J k:=by simp[valueAt,fq,M]
   rw[UC e,b];exact U
theorem KV.any {j:List (κ×V)}{vs:List (κ×Value)}(r:KV j vs)(k:κ):(j.any λJ=>decide (J.1=k))=vs.any λJ=>decide (J.1=k):=by
 unfold KV at r;induction r with
 |nil=>rfl
 |cons h t M=>rw[gQ,gQ,M,h.1]
theorem KV.repl {J:List (κ×V)}{vs:List (κ×Value)}(r:KV J vs)(k:κ){y:V}{u:Value}(O:RelV y u) :
  KV (J.map λj=>if j.1=k then (j.1,y) else j) (vs.map λj=>if j.1=k then (j.1,u) else j):=by
 unfold KV at r ⊢;induction r with
 |nil=>exact .nil
 | @cons p q ps qs h t U=>
  rw[aB,aB];refine .cons ?_ U;obtain⟨M,Y⟩:=h;by_cases e:p.1=k
  ·rw[if_pos e,if_pos (M.symm.trans e)];exact⟨M,O⟩
  ·rw[if_neg e,if_neg (λz=>e (M.trans z))];exact⟨M,Y⟩
theorem KV.put {j:List (κ×V)}{vs:List (κ×Value)}(r:KV j vs)(k:κ){y:V}{u:Value}(J:RelV y u):KV (W0 j k y) (stored vs k u):=by
 unfold W0 stored;rw[r.any k];by_cases e:(vs.any λM=>decide (M.1=k))=true
 ·rw[if_pos e,if_pos e];exact r.repl k J
 ·rw[if_neg e,if_neg e];exact Paired.snoc r ⟨rfl,J⟩
theorem KV.length {j:List (κ×V)}{vs:List (κ×Value)}(r:KV j vs):j.length=vs.length:=kq r
end
theorem ZdF {P:Program}{w:World}{k:YQ}{u:Value}(r:RelV (kV k) u):(YK P w).is k u=true:=by
 cases k with
 |inl i=>obtain⟨t,e⟩:=(show ∃t,u=iI i t from r);subst e;exact Zdt P w i t
 |inr x=>obtain⟨t,e⟩:=(show ∃t,u=no x t from r);subst e;exact Zds P w x t
theorem Zba {P:Program}{w:World}:∀{ks:List YQ}{us:List Value},ZN (ks.map kV) us->ItemsAre (YK P w) ks us
 | [],_,r=>by rw[fK] at r;cases r;exact .nil
 |k::ks,_,r=>by
  rw[aB] at r;cases r with
  |cons h t=>exact .cons (ZdF h) (Zba t)
noncomputable abbrev KT (H:Hp):List (List YQ×V)->List (List YQ×Addr×Value)->Prop:=lQ λp q=>p.1=q.1/\H q.2.1=some (.tup (p.1.map kV))/\RelV p.2 q.2.2
theorem KT.val {H:Hp}{j:List (List YQ×V)}{xs:List (List YQ×Addr×Value)}(r:KT H j xs)(k:List YQ):ZaN (Jw j k) ((atKey xs k).map (·.2)):=by
 induction r with
 |nil=>exact io
 | @cons p q ps J h t U=>
  obtain⟨O,_,Y⟩:=h;by_cases e:p.1=k
  ·have M:q.1=k:=O.symm.trans e
   have b:atKey (q::J) k=some q.2:=by simp[atKey,fq,M]
   rw[UB e,b];exact Y
  ·have M:¬q.1=k:=λz=>e (O.trans z)
   have b:atKey (q::J) k=atKey J k:=by simp[atKey,fq,M]
   rw[UC e,b];exact U
theorem KT.repl {H:Hp}{j:List (List YQ×V)}{xs:List (List YQ×Addr×Value)}(r:KT H j xs)(k:List YQ){y:V}{u:Value}(U:RelV y u) :
  KT H (j.map λM=>if M.1=k then (M.1,y) else M) (xs.map (putAt k u)):=by
 induction r with
 |nil=>exact .nil
 | @cons p q ps qs h t Y=>
  rw[aB,aB];refine .cons ?_ Y;obtain⟨J,O,h3⟩:=h;unfold putAt;by_cases e:p.1=k
  ·rw[if_pos e,if_pos (J.symm.trans e)];exact⟨J,O,U⟩
  ·rw[if_neg e,if_neg (λz=>e (J.trans z))];exact⟨J,O,h3⟩
theorem KT.put {H:Hp}{j:List (List YQ×V)}{xs:List (List YQ×Addr×Value)}(r:KT H j xs)(k:List YQ){b:Addr}{y:V}{u:Value}(hb:H b=some (.tup (k.map kV)))(J:RelV y u) :
  KT H (W0 j k y) (storedH xs k b u):=by
 have e:(j.any λM=>decide (M.1=k))=(atKey xs k).isSome:=by
  rw[JQ,(r.val k).isSome_eq,mI]
 unfold W0 storedH;rw[e];by_cases q:(atKey xs k).isSome=true
 ·rw[if_pos q,if_pos q];exact r.repl k J
 ·rw[if_neg q,if_neg q];exact Paired.snoc r ⟨rfl,hb,J⟩
theorem KT.keeps {H J:Hp}{j:List (List YQ×V)}{xs:List (List YQ×Addr×Value)}(r:KT H j xs)(M:∀b ys,H b=some (.tup ys)->J b=some (.tup ys)):KT J j xs:=
 lQ.mapP r λ_ _ z=>⟨z.1,M _ _ z.2.1,z.2.2⟩
section
variable {h:Heap}{a:Addr}
theorem ZmF {u:HO}(ok:Vz P w H h)(e:Rd H a u):YH P w H h a u:=e.ok ok
theorem Zge {j:List (YQ×V)}(ok:Vz P w H h)(e:Rd H a (.dK j)):j.length<=sizeLine/\(a == sysModules)=false/\∃vs,KV j vs/\h.DictOf (YK P w) a vs:=
 show YH P w H h a (.dK j) from ZmF ok e
theorem ZmZ {j:List (YQ×V)}(ok:Vz P w H h)(e:H a=some (.dK j)):j.length<=sizeLine/\(a == sysModules)=false/\∃vs,KV j vs/\h.DictOf (YK P w) a vs:=Zge ok (.inl e)
theorem Zcj {ks:List YQ}(ok:Vz P w H h)(e:H a=some (.tup (ks.map kV))):(tupleKind (YK P w)).is h ks a:=by
 obtain⟨_,j,r,o,J,M,n,O⟩:=(show YH P w H h a (.tup (ks.map kV)) from ok a _ e);exact⟨o,j.toArray,n,J,M,O,by simpa using Zba r⟩
theorem Zgd {j:List (List YQ×V)}(ok:Vz P w H h)(e:Rd H a (.dT j)):j.length<=sizeLine/\(a == sysModules)=false/\
  ∃xs,KT H j xs/\h.DictOfH (tupleKind (YK P w)) a xs:=by
 obtain⟨z,y,xs,r,o,O,U,Y,h2,h3,h4,h5⟩:=(show YH P w H h a (.dT j) from ZmF ok e);refine⟨z,y,xs,r,o,O,U,Y,h2,h3,h4,λx J=>?_,h5⟩;have all:∀{l:List (List YQ×V)}{m:List (List YQ×Addr×Value)},KT H l m->∀x∈m,(tupleKind (YK P w)).is h x.1 x.2.1:=by
  intro l m q;induction q with
  |nil=>intro x J;exact nomatch J
  | @cons p q ps qs M t ih=>
   intro x J;rcases aH.mp J with e|J
   ·subst e
    exact Zcj ok (by rw[<-M.1];exact M.2.1)
   ·exact ih x J
 exact all r x J
theorem Zqs {j:List (List YQ×V)}(ok:Vz P w H h)(e:H a=some (.dT j)):j.length<=sizeLine/\(a == sysModules)=false/\
  ∃xs,KT H j xs/\h.DictOfH (tupleKind (YK P w)) a xs:=Zgd ok (.inl e)
end
def Xe (H:Hp)(a:Addr)(y:V)(r:TQ):Prop:=
 (∃j k,Rd H a (.dK j)/\y=kV k/\r=Jw j k)\/∃j k b,Rd H a (.dT j)/\y=.ref b/\H b=some (.tup (k.map kV))/\r=Jw j k
def Uf (H:Hp)(a:Addr)(y v:V)(J:Hp):Prop:=
 (∃j k,H a=some (.dK j)/\y=kV k/\j.length<sizeLine/\J=upd H a (.dK (W0 j k v)))\/
 ∃j k b,H a=some (.dT j)/\y=.ref b/\H b=some (.tup (k.map kV))/\j.length<sizeLine/\J=upd H a (.dT (W0 j k v))
theorem Xe.k {H:Hp}{a:Addr}{j:List (YQ×V)}{k:YQ}(e:H a=some (.dK j)):Xe H a (kV k) (Jw j k):=.inl ⟨j,k,.inl e,rfl,rfl⟩
theorem Xe.T {H:Hp}{a b:Addr}{j:List (List YQ×V)}{k:List YQ}(e:H a=some (.dT j))(J:H b=some (.tup (k.map kV))):Xe H a (.ref b) (Jw j k):=.inr ⟨j,k,b,.inl e,rfl,J,rfl⟩
theorem Uf.k {H:Hp}{a:Addr}{j:List (YQ×V)}{k:YQ}{v:V}(e:H a=some (.dK j))(J:j.length<sizeLine):Uf H a (kV k) v (upd H a (.dK (W0 j k v))):=.inl ⟨j,k,e,rfl,J,rfl⟩
theorem Uf.T {H:Hp}{a b:Addr}{j:List (List YQ×V)}{k:List YQ}{v:V}(e:H a=some (.dT j))(J:H b=some (.tup (k.map kV)))(M:j.length<sizeLine) :
  Uf H a (.ref b) v (upd H a (.dT (W0 j k v))):=.inr ⟨j,k,b,e,rfl,J,M,rfl⟩
section
variable {a:Addr}{y v:V}{u r:Value}{o:TQ}
theorem Inv.big (I:Inv X pins σ H s):sysModules<s.heap.objs.size:=by
 have h:mainGlobals<s.heap.objs.size:=(I.mod.glob.keeps I.bk).lt;exact jE (by decide) h
theorem Zhh {Q:TW}(hu:A.units+1<cLine)(I:Inv X pins σ H s)(g:Xe H a y (some v))(ry:RelV y u)(h:∀J s',Inv X pins σ H s'->RelV v J->Q J s') :
  wpAny (model X.prog X.w) A (getItem (.ref a) u) Q E s:=by
 rcases g with ⟨M,k,e,O,l⟩|⟨M,k,b,e,O,eb,l⟩
 ·subst O
  obtain⟨z,hd,vs,rel,U⟩:=Zge I.hok e;obtain⟨J,Y,j⟩:=ZaN.some_of (v:=v) (o:=valueAt vs k) (by rw[l];exact rel.val k);exact wpAny_getItem_of (ZdF ry) U.mapOf Y (h J _ (I.tok _) j)
 ·subst O
  cases (show u=aQ b from ry);obtain⟨z,hd,xs,rel,U⟩:=Zgd I.hok e;obtain⟨J,Y,j⟩:=ZaN.some_of (v:=v) (o:=(atKey xs k).map (·.2)) (by rw[l];exact rel.val k);obtain⟨p,hp,o0⟩:=Option.map_eq_some_iff.mp Y;refine wpAny_getItem_heap (jS hu) (Zcj I.hok eb) U hp ?_;rw[o0];exact h J _ (I.tok _) j
theorem Zl1 {Q:TW}(U:A.units+1<cLine)(I:Inv X pins σ H s)(g:Xe H a y o)(O:RelV y u)(h:∀s',Inv X pins σ H s'->Q (.bool (!o.isSome)) s') :
  wpAny (model X.prog X.w) A (compareOp .NotIn u (.ref a)) Q E s:=by
 rcases g with ⟨j,k,e,J,l⟩|⟨j,k,b,e,J,Y,l⟩
 ·subst J
  obtain⟨z,hd,vs,rel,M⟩:=Zge I.hok e;refine wpAny_notIn_of (ZdF O) hd M.mapOf ?_;rw[<-(rel.val k).isSome_eq,<-l];exact h _ (I.tok _)
 ·subst J
  cases (show u=aQ b from O);obtain⟨z,hd,xs,rel,M⟩:=Zgd I.hok e;refine wpAny_notIn_heap (jS U) (Zcj I.hok Y) hd M ?_;have q:=(rel.val k).isSome_eq;rw[mI] at q;rw[<-q,<-l];exact h _ (I.tok _)
theorem Zct {h':Heap}{t':Nat}{ob:HO}(I:Inv X pins σ H s)(J:Mut (H a))(M:bq a s.heap h')(O:∃q,h'.get? a=some q)(j:YH X.prog X.w (upd H a ob) h' a ob) :
  Inv X pins σ (upd H a ob) {s with heap:=h',toks:=t'}:=
 I.write (x:=a) (e:=a) J (.inl rfl) (λb q hb z=>(M.2 b hb).trans z) O j
theorem ZjU {P:Program}{w:World}{J:Hp}{h':Heap}{j:List (YQ×V)}{vs:List (YQ×Value)}(z:j.length<=sizeLine)(hd:(a == sysModules)=false)(rel:KV j vs)(M:h'.DictOf (YK P w) a vs) :
  YH P w J h' a (.dK j):=⟨z,hd,vs,rel,M⟩
theorem Zhg {H':Hp}{Q:Unit->Shared->Prop}(hu:A.units+1<cLine)(I:Inv X pins σ H s)(g:Uf H a y v H')(ry:RelV y u)(rv:RelV v r)(h:∀s',Inv X pins σ H' s'->Q () s') :
  wpAny (model X.prog X.w) A (setItem (.ref a) u r) Q E s:=by
 rcases g with ⟨j,k,e,O,l,U⟩|⟨j,k,b,e,O,eb,l,U⟩
 ·subst O U
  obtain⟨z,hd,vs,rel,Y⟩:=ZmZ I.hok e;have hz:vs.length<=sizeLine:=by rw[<-rel.length];exact z
  have hl:(W0 j k v).length<=sizeLine:=by have:=J1 j k v;omega
  refine wpAny_setItem_pairs (hsz:=hz) (ZdF ry) Y λh' J hs=>h _ ?_;have he:∃q,h'.get? a=some q:=by obtain⟨q,_,_,M,_⟩:=J;exact⟨q,M⟩
  exact Zct I (by rw[e];exact io) hs he (ZjU hl hd (rel.put k rv) J)
 ·subst O U
  cases (show u=aQ b from ry);obtain⟨z,hd,xs,rel,Y⟩:=Zqs I.hok e;have hz:xs.length<=sizeLine:=by rw[<-kq rel];exact z
  have hl:(W0 j k v).length<=sizeLine:=by have:=J1 j k v;omega
  refine wpAny_setItem_heap (hsz:=hz) (jS hu) (Zcj I.hok eb) Y λh' J hs=>h _ ?_;obtain⟨q,es,ep,M,h2,h3,h4,_,h5⟩:=J;refine Zct I (by rw[e];exact io) hs ⟨q,M⟩ ⟨hl,hd,_,(rel.put k eb rv).keeps λc ys ec=>?_,q,es,ep,M,h2,h3,h4,h5⟩;rw[Zy (Zjd ec e (λz=>nomatch z))];exact ec
end
section
variable {a:Addr}{kvs:List (YQ×V)}{k:YQ}{u:Value}
end
def ZqS (i:Expr):Prop:=∀j iv,subscripted i false j iv=operate [j,iv] (getItem j iv)
theorem ZkF {prog:Program}{w:World}{A:Around}{E:TW}{s:Shared}{env:Env}{value j:Expr}{pos:Pos}{T id:String}{Q:TW}
  (hl:typeLookup (.type T) "__getitem__"=pure (some (.builtin id))) (hs:ZqS j)
  (h:wpAny (model prog w) A (eval value env) (λo O=>wpAny (model prog w) A (eval j env) (λi J=>J.TypeIs o T/\wpAny (model prog w) A (getItem o i) Q E J) E O) E s) :
  wpAny (model prog w) A (eval (.Subscript value j pos) env) Q E s:=by
 refine Subscript_ (cH h (λo O o0=>cH o0 (λi J M=>?_) λ_ _ x=>x) λ_ _ x=>x);obtain⟨hT,M⟩:=M;unfold subscriptTail;refine Zl ?_;rw[getitemInPython_of_ne hT.not_modules];refine Zl (wpAny_specialOf hT hl ?_);have Y:wpAny (model prog w) A (subscripted j false o i) (λr U=>wpAny (model prog w) A (letTemporaryGo value o r >>= λ_=>pure r) Q E U) E J:=by
  rw[hs o i];exact wpAny_operating (cH M (λr U o5=>Zl (wpAny_letTemporaryGo (Zm o5))) λ_ _ x=>x)
 first
  |exact Zm (Zl Y)
  |exact Zl (Zm (Zl Y))
  |exact Zl Y
theorem ZdO {X:Cx}{j:List (Addr×Obj)}{σ:St}{H:Hp}{s:Shared}{a:Addr}{y:V}{o:TQ}(I:Inv X j σ H s)(g:Xe H a y o):s.TypeIs (.ref a) "dict":=by
 rcases g with ⟨J,k,e,_,_⟩|⟨J,k,b,e,_,_,_⟩
 ·obtain⟨_,_,O,_,M⟩:=Zge I.hok e
  exact M.typeIs
 ·obtain⟨_,_,xs,_,M⟩:=Zgd I.hok e
  exact M.typeIs
inductive iDG (Q:VK) (x y:V) (H:Hp):Prop
 |mk (a:Addr) (v:V):x=.ref a->Xe H a y (some v)->Q v H->iDG Q x y H
def Zps (J M:TE):TE:=λj H Q=>J j H λx O=>M j O (iDG Q x)
def ZkD (M O:TE):TE:=λj H Q=>M j H λy U=>O j U λx J=>∃a o,x=.ref a/\Xe J a y o/\Q (.bl (!o.isSome)) J
inductive iDP (D:WY) (σ:St) (x v y:V) (H3:Hp):Prop
 |mk (a:Addr) (H4:Hp):x=.ref a->Uf H3 a y v H4->D.nx σ H4->iDP D σ x v y H3
def ZpG (J M O:TE):TS:=λD j H=>O j H λv U=>J j U λx Y=>M j Y (iDP D j x v)
section
variable {o i e value:Expr}{pos pos' tpos:Pos}{td ty tv:TE}
theorem Xl (U:X.A.units+1<cLine)(Y:PE X o td)(hi:PE X i ty)(hs:ZqS i):PE X (.Subscript o i pos) (Zps td ty):=by
 intro j s M H Q I h;refine ZkF PySem.F.slot_dict_getitem.lookup hs (Yo (Y j s M H _ I h) λu s1 ⟨x,H1,I1,rx,q1⟩=>Yo (hi j s1 M H1 _ I1 q1) λiv s2 ⟨y,H2,O,ry,a,v,ex,g,q2⟩=>?_);subst ex;obtain rfl:u=aQ a:=rx;exact⟨ZdO O g,Zhh U O g ry λw' s3 I3 J=>⟨v,H2,I3,J,q2⟩⟩
theorem ZgQ (M:X.A.units+1<cLine)(O:PE X i ty)(U:PE X o td):PC X .NotIn i o (ZkD ty td):=by
 intro j s J H Q I h;refine Yo (O j s J H _ I h) λiv Y ⟨y,H1,I1,ry,q1⟩=>Yo (U j Y J H1 _ I1 q1) λu s2 ⟨x,H2,I2,rx,a,ov,ex,g,q2⟩=>?_;subst ex;obtain rfl:u=aQ a:=rx;exact Zl1 M I2 g ry λs3 I3=>⟨.bl (!ov.isSome),H2,I3,rfl,q2⟩
theorem Us (M:X.A.units+1<cLine)(O:PE X o td)(U:PE X i ty)(Y:PE X value tv)(hs:swapsWith value (some (.Subscript o i pos')) pos.line X.env=pure false) :
  PS X (.Assign [.Subscript o i pos'] value pos) (ZpG td ty tv):=by
 intro j s J H D I h;refine wpAny_Assign_Subscript (Yo (Y j s J H _ I h) λr s1 ⟨v,H1,I1,rv,q1⟩=>Yo (O j s1 J H1 _ I1 q1) λu s2 ⟨x,H2,I2,rx,q2⟩=>Yo (U j s2 J H2 _ I2 q2) λiv s3 ⟨y,H3,I3,ry,a,H4,ex,g,q3⟩=>?_) hs;subst ex;obtain rfl:u=aQ a:=rx;exact Zhg M I3 g ry rv λs4 I4=>⟨J,H4,I4,q3⟩
end
theorem ZdN {P:Program}{w:World}{H:Hp}(h:Heap)(hb:sysModules<h.objs.size):YH P w H (h.push {cls:=.type "dict",data:=.dict #[]}) h.objs.size (.dK []):=
 ⟨aX _,beq_eq_false_iff_ne.mpr (bV (ay hb)),[],.nil,Heap.DictOf.new h⟩
theorem ZjT {P:Program}{w:World}{H:Hp}(h:Heap)(hb:sysModules<h.objs.size):YH P w H (h.push {cls:=.type "dict",data:=.dict #[]}) h.objs.size (.dT []):=
 ⟨aX _,beq_eq_false_iff_ne.mpr (bV (ay hb)),[],.nil,_,#[],0,Zo _ rfl,⟨rfl,rfl,rfl⟩,rfl,rfl,eO⟩
def Zng:TE:=λ_ H Q=>∀p,H p=none->Q (.ref p) (upd H p (.dK []))
def Znf:TE:=λ_ H Q=>∀p,H p=none->Q (.ref p) (upd H p (.dT []))
section
variable {pos:Pos}
theorem ZiN:PE X (.Dict [] [] pos) Zng:=λj s J H Q I h=>
 wpAny_Dict_empty ⟨.ref s.heap.objs.size,_,I.laid (a:=s.heap.objs.size) (o:=.dK []) (t':=s.toks) (λ_ _ q=>Zn _ q) (Zq _) (ZdN s.heap I.big),rfl,h _ (I.hok.fresh (Zq _))⟩
theorem ZiM:PE X (.Dict [] [] pos) Znf:=λj s J H Q I h=>
 wpAny_Dict_empty ⟨.ref s.heap.objs.size,_,I.laid (a:=s.heap.objs.size) (o:=.dT []) (t':=s.toks) (λ_ _ q=>Zn _ q) (Zq _) (ZjT s.heap I.big),rfl,h _ (I.hok.fresh (Zq _))⟩
end
def Zd8:List (TE×TE)->St->Hp->(List (V×V)->Hp->Prop)->Prop
 | [],_,H,Q=>Q [] H
 |(tk,j)::r,σ,H,Q=>tk σ H λx J=>j σ J λy M=>Zd8 r σ M λO U=>Q ((x,y)::O) U
noncomputable abbrev VV:List (V×V)->List (Value×Value)->Prop:=lQ λp q=>RelV p.1 q.1/\RelV p.2 q.2
def PPs (X:Cx)(pos:Pos)(M:List (Option Expr))(j:List Expr)(O:List (TE×TE)):Prop:=
 ∀(J:List (Addr×Obj)) (s:Shared) (U:St) (H:Hp) (Q:List (V×V)->Hp->Prop),Inv X J U H s->Zd8 O U H Q->
  wpAny (model X.prog X.w) X.A (evalPairs (pairTrees M j X.env pos)) (λvs s'=>∃Y H',Inv X J U H' s'/\VV Y vs/\Q Y H') X.xe s
theorem Zk3 {X:Cx}{pos:Pos}:PPs X pos [] [] []:=λj s J H Q I h=>pairTrees_nil_walk ⟨[],H,I,.nil,h⟩
theorem UZ {X:Cx}{pos:Pos}{k v:Expr}{ks:List (Option Expr)}{vs:List Expr}{tk O:TE}{J:List (TE×TE)}(U:PE X k tk)(Y:PE X v O)(hr:PPs X pos ks vs J) :
  PPs X pos (some k::ks) (v::vs) ((tk,O)::J):=λj s M H Q I h=>
 pairTrees_cons_walk (Yo (U j s M H _ I h) λu s1 ⟨x,H1,I1,rx,q1⟩=>Yo (Y j s1 M H1 _ I1 q1) λw2 s2 ⟨y,H2,I2,ry,q2⟩=>
  Yo (hr j s2 M H2 _ I2 q2) λws s3 ⟨ps,H3,I3,rel,q3⟩=>⟨(x,y)::ps,H3,I3,.cons ⟨rx,ry⟩ rel,q3⟩)
def U6 (J j:List (YQ×V)):List (YQ×V):=j.foldl (λZI M=>W0 ZI M.1 M.2) J
theorem KV.merge:∀{more:List (YQ×V)}{rs:List (YQ×Value)}{j:List (YQ×V)}{vs:List (YQ×Value)},KV more rs->KV j vs->KV (U6 j more) (merged vs rs):=by
 intro more rs j vs r;unfold KV at r;induction r generalizing j vs with
 |nil=>intro q;exact q
 | @cons p q O U h t J=>
  intro M;have e:KV (W0 j p.1 p.2) (stored vs q.1 q.2):=by
   have:=M.put p.1 h.2;rw[<-h.1];exact this
  exact J e
theorem XE:∀(J j:List (YQ×V)),(U6 j J).length<=j.length+J.length
 | [],j=>by show j.length<=j.length+0;omega
 |p::r,j=>by
  have M:=XE r (W0 j p.1 p.2);have O:=J1 j p.1 p.2;show (U6 (W0 j p.1 p.2) r).length<=_;rw[Zi];omega
theorem Zau {P:Program}{w:World}:∀{j:List (YQ×V)}{J:List (Value×Value)},VV (j.map λM=>(kV M.1,M.2)) J->∃rs,Carries (YK P w) J rs/\KV j rs
 | [],_,r=>by rw[fK] at r;cases r;exact⟨[],io,.nil⟩
 |p::j,_,r=>by
  rw[aB] at r;cases r with
  | @cons a b U bs h t=>
   obtain⟨rs,c,q⟩:=Zau (P:=P) (w:=w) t;obtain⟨Y,O⟩:=b;exact⟨(p.1,O)::rs,⟨ZdF h.1,rfl,c⟩,.cons ⟨rfl,h.2⟩ q⟩
def Zpr (J:List (TE×TE)):TE:=λU H Q=>∀p,H p=none->Zd8 J U (upd H p (.dK [])) λY M=>M p=some (.dK [])/\∃j:List (YQ×V),Y=j.map (λO=>(kV O.1,O.2))/\j.length<=15/\Q (.ref p) (upd M p (.dK (U6 [] j)))
theorem Zk8 {X:Cx}{pos:Pos}{keys:List (Option Expr)}{values:List Expr}{j:List (TE×TE)}(h:PPs X pos keys values j)(J:keys.all (·.isSome)=true)(hl:keys.length=values.length)(h0:keys≠[])
  (Y:keys.length<=15):PE X (.Dict keys values pos) (Zpr j):=by
 intro M s σ H Q I q;have hn:=I.hok.fresh (Zq s.heap.objs.size);have I1:=I.laid (a:=s.heap.objs.size) (o:=.dK []) (h':=s.heap.push {cls:=.type "dict",data:=.dict #[]}) (t':=s.toks) (λ_ _ q=>Zn _ q) (Zq _) (ZdN s.heap I.big);refine wpAny_Dict_walk (knd:=YK X.prog X.w) J hl h0 Y (Yo (h M _ σ _ _ I1 (q _ hn)) λws s2 ⟨ps,H2,I2,rel,e,O,ep,lk,q2⟩=>?_);subst ep;obtain⟨rs,c,rk⟩:=Zau (P:=X.prog) (w:=X.w) rel;obtain⟨z,hd,o5,r0,dd⟩:=ZmZ I2.hok e;cases r0;refine⟨rs,c,dd,λh' U hs=>⟨.ref s.heap.objs.size,_,?_,rfl,q2⟩⟩;have hz:(U6 [] O).length<=sizeLine:=by
  have h1:=XE O [];rw[iC] at h1;rw[ji];omega
 have he:∃q,h'.get? s.heap.objs.size=some q:=by obtain⟨q,_,_,hq,_⟩:=U;exact⟨q,hq⟩
 exact Zct I2 (by rw[e];exact io) hs he (ZjU hz hd (rk.merge .nil) U)
section
variable {a:Addr}{y d:V}{u r:Value}{o:TQ}
end
section
variable {o e f:Expr}{apos cpos:Pos}{td ty tx:TE}
end
section
variable {a:Addr}{kvs:List (YQ×V)}
end
section
variable {a:Addr}{y:V}{u:Value}
end
mutual
inductive RdD (K:aa) (H:Hp):V->dZ->Prop where
 |non:RdD K H .non .none
 |bl (b:Bool):RdD K H (.bl b) (.bool b)
 |int (i:Int):RdD K H (.int i) (.int i)
 |str (x:Str):RdD K H (.str x) (.str x)
 |lst {a:Addr}{xs:TR}{ds:List dZ} (h:WZ K H a xs) (r:WC K H xs ds):RdD K H (.ref a) (.list ds)
 |tup {a:Addr}{xs:TR}{ds:List dZ} (h:WO K H a xs) (r:WC K H xs ds):RdD K H (.ref a) (.tuple ds)
inductive WC (K:aa) (H:Hp):TR->List dZ->Prop where
 |nil:WC K H [] []
 |cons {x:V}{xs:TR}{d:dZ}{ds:List dZ} (h:RdD K H x d) (r:WC K H xs ds):WC K H (x::xs) (d::ds)
end
section
variable {H H':Hp}
theorem Same.tup {a:Addr}{xs:TR}(e:Same H H')(h:WO K H a xs):WO K H' a xs:=by
 rcases h with (h|⟨o,h⟩)|h
 ·exact .inl (.inl (e _ _ h))
 ·exact .inl (.inr ⟨o,e _ _ h⟩)
 ·exact .inr h
theorem Same.upd {p:Addr}{o:HO}(h:H p=none):Same H (upd H p o):=λb u e=>by rw[Zy (Z7 e h)];exact e
theorem Same.updr {p:Addr}{o:HO}(s:Same H H')(h:H p=none):Same H (L2.upd H' p o):=λb u e=>by rw[Zy (Z7 e h)];exact s b u e
mutual
theorem RdD.mono (s:Same H H'):∀{v:V}{d:dZ},RdD K H v d->RdD K H' v d
 |_,_,.non=>.non
 |_,_,.bl b=>.bl b
 |_,_,.int i=>.int i
 |_,_,.str x=>.str x
 |_,_,.lst h r=>.lst (s.seq h) (WC.mono s r)
 |_,_,.tup h r=>.tup (s.tup h) (WC.mono s r)
theorem WC.mono (s:Same H H'):∀{v:TR}{d:List dZ},WC K H v d->WC K H' v d
 |_,_,.nil=>.nil
 |_,_,.cons h r=>.cons (RdD.mono s h) (WC.mono s r)
end
theorem WC.ints:∀ns:TX,WC K H (ns.map V.int) (ns.map a5)
 | []=>.nil
 |n::r=>.cons (.int n) (WC.ints r)
end
mutual
theorem Inv.reads (I:Inv X pins σ H s):∀{v:V}{d:dZ}{u:Value},RdD X.K H v d->RelV v u->∃as,Reads s.heap u d as
 |_,_,_,.non,r=>by cases (show _=b9 from r);exact⟨_,.none⟩
 |_,_,_,.bl b,r=>by cases (show _=i4 b from r);exact⟨_,.bool b⟩
 |_,_,_,.int i,r=>by obtain⟨t,rfl⟩:=r;exact⟨_,.int i t⟩
 |_,_,_,.str x,r=>by obtain⟨t,rfl⟩:=r;exact⟨_,.str x t⟩
 |_,_,_,.lst (a:=a) h q,r=>by
  cases (show _=aQ a from r);obtain⟨j,J,⟨o,n,e,c,_,d⟩,_⟩:=I.list h;obtain⟨as,M⟩:=Inv.readsAll I q J;exact⟨_,.list e c d (by simpa using M)⟩
 |_,_,_,.tup (a:=a) h q,r=>by
  cases (show _=aQ a from r);obtain⟨j,J,⟨o,e,c,n,d⟩,_⟩:=I.tuple h;obtain⟨as,M⟩:=Inv.readsAll I q J;exact⟨_,.tuple e c d (by simpa using M)⟩
theorem Inv.readsAll (I:Inv X pins σ H s):∀{v:TR}{d:List dZ}{u:List Value},WC X.K H v d->ZN v u->∃as,ReadsAll s.heap u d as
 |_,_,_,.nil,r=>by cases r;exact⟨_,.nil⟩
 |_,_,_,.cons h q,r=>by
  cases r with
  |cons r j=>
   obtain⟨O,J⟩:=Inv.reads I h r;obtain⟨U,M⟩:=Inv.readsAll I q j;exact⟨_,.cons J M⟩
end
structure ZdX (d:dZ):Prop where
 sh:d.showable=true
 nd:d.hasDict=false
 dp:d.depth<=60
 sz:d.shown.length<=sizeLine
inductive I_op_neD (K:aa) (x:V) (y:V) (H:Hp) (Q:VK):Prop
 |mk (dx:_) (dy:_):(RdD K H x dx)->(RdD K H y dy)->(jm dx=true)->(jm dy=true)->(Q (.bl (!iX dx dy)) H)->I_op_neD K x y H Q
theorem ZnK (J:X.A.units+64<cLine):XX X (compareOp .NotEq) (_root_.L2.I_op_neD X.K):=by
 intro j s σ H x y v u Q I M O ⟨dx,dy,U,Y,s1,s2,q⟩;obtain⟨as,r1⟩:=I.reads U M;obtain⟨bs,r2⟩:=I.reads Y O;exact SeqAt.compareNe_shaped r1 r2 s1 s2 J ⟨.bl _,H,I,rfl,q⟩
inductive I_call_repr (K:aa) (xs:TR) (H:Hp) (Q:VK):Prop
 |mk (x:_) (d:_):(xs=[x])->(RdD K H x d)->(ZdX d)->(Q (.str d.shown) H)->I_call_repr K xs H Q
theorem Zhu {k:Nat}(hr:Jt k X.A):YI X (.builtin "repr") (_root_.L2.I_call_repr X.K):=by
 intro M s σ H xs us Q I r h;obtain⟨x,d,rfl,hd,F,q⟩:=h;obtain⟨u,rfl,ru⟩:=vals1 r;obtain⟨as,rd⟩:=I.reads hd ru;have o0:X.A.units+61<cLine:=by have:=hr.units;omega
 have j:∀(J:Heap) (u:Tok) (tk:Nat),(∀b o,s.heap.get? b=some o->J.get? b=some o)->EP X M σ Q (.str d.shown u) {s with heap:=J,toks:=tk}:=λJ u tk k=>⟨.str d.shown,H,I.kept k,⟨u,rfl⟩,q⟩;cases rd with
 |none=>exact P.repr_of_none (j s.heap _ _ λ_ _ e=>e)
 |bool b=>exact P.repr_of_bool (by have:=j s.heap s.toks (s.toks+1) λ_ _ e=>e;simpa only[gc] using this)
 |int i t=>exact P.repr_of_int (by simpa only[jL,decide_eq_true_eq] using F.sh) (by have:=j s.heap s.toks (s.toks+1) λ_ _ e=>e;simpa only[gc] using this)
 |str y t=>exact P.repr_of_str (by have:=j s.heap s.toks (s.toks+1) λ_ _ e=>e;simpa only[gc] using this) (by simpa only[gc] using F.sz)
 |list O U Y h4=>exact repr_of_reads' (.list O U Y h4) F.sh (λz=>by rw[F.nd] at z;cases z) hr.gd (by have:=F.dp;omega) (λ_ _ e=>e) (λJ u tk k=>j J u tk k) F.sz
 |tuple O U Y h4=>exact repr_of_reads' (.tuple O U Y h4) F.sh (λz=>by rw[F.nd] at z;cases z) hr.gd (by have:=F.dp;omega) (λ_ _ e=>e) (λJ u tk k=>j J u tk k) F.sz
 |dict O U Y h4 h5=>cases hd
theorem ZiQ:XX X (binaryOp .FloorDiv) (rI (λ_ j=>0<j/\j.natAbs.log2<9000) λi j=>.int (i / j)):=opI λi j _ _ _ _ _ J q=>by
 have M:(0:Int)<j:=J.1;exact floordiv_int (by omega) (by rw[kN i (by omega)];exact q) (.inl (kh J.2))
theorem Zm7 {prog:Program}{w:World}{A:Around}{j:List Value}{bs:List Bool}(r:ZN (bs.map V.bl) j):TruthOf prog w A (λi v=>j.toArray[i]?=some v) (λi=>bs.getD i false):=by
 intro i v s Q E J O;rw[l7] at J;have hi:i<j.length:=(ab.mp J).1;have U:=r.length;rw[Za] at U;have hb:(bs.map V.bl)[i]?=some (.bl (bs.getD i false)):=by
  rw[Zc,Zb,Zf (by omega)];rfl
 obtain⟨u,M,Y⟩:=r.get hb;rw[J] at M;cases M;cases (show v=i4 _ from Y);exact ip O
theorem ZgJ {bs:List Bool}:((ac bs.length).any λi=>bs.getD i false)=bs.any id:=by
 have:(ac bs.length).map (λi=>bs.getD i false)=bs:=by
  apply n9
  ·simp
  ·intro i j J;simp at j;simp[j]
 conv=>rhs;rw[<-this,dG]
 rfl
inductive I_call_any (K:aa) (xs:TR) (H:Hp) (Q:VK):Prop
 |mk (a:Addr) (bs:List Bool):(xs=[.ref a])->(WZ K H a (bs.map V.bl))->(Q (.bl (bs.any id)) H)->I_call_any K xs H Q
theorem Vx (Y:X.calm=true):YI X (.builtin "any") (_root_.L2.I_call_any X.K):=by
 intro M s σ H xs us Q I r h;obtain⟨a,bs,rfl,hq,q⟩:=h;obtain⟨u,rfl,ru⟩:=vals1 r;cases ru;obtain⟨j,O,p,hz⟩:=I.list hq;have U:=O.length;rw[Za] at U;refine call_any_walk (fV p.isList ?_);have J:a≠s.heap.objs.size:=by obtain⟨o,n,e,_⟩:=p;exact ay (Zp e)
 refine⟨s.heap.objs.size,_,_,_,_,_,(λi=>bs.getD i false),rfl,mD (A:=X.A.in1) (I.ok.hd Y) _ a J j.toArray,⟨⟨_,Zo _ rfl,rfl,rfl⟩,p.isList.push _⟩,Zm7 O,λh' tk k=>?_⟩;rw[Zh,<-U,ZgJ];refine⟨.bl _,H,I.kept (t':=tk) λb o e=>k b o ?_ (Zn _ e),rfl,q⟩;simpa using ay (Zp e)
theorem Jv:(16777216:Nat)=sizeLine:=by decide
theorem JL {k:Nat}(h:k<=16777216:=by first|decide|simp):k<=sizeLine:=Jv▸h
theorem Vg {H:Hp}{l:Addr}{o:HO}(h:H l=none):∃j,upd H l o=j/\Same H j/\j l=some o:=⟨_,rfl,Same.upd h,Zt⟩
theorem Zev {bs:TU}{i:Nat}{y:V}(h:(bs.map V.ref)[i]?=some y):∃b,bs[i]?=some b/\y=.ref b:=by
 rw[Zc] at h;cases e:bs[i]? with
 |none=>rw[e] at h;cases h
 |some r=>rw[e] at h;exact⟨r,rfl,(aA h).symm⟩
noncomputable abbrev U5 (ns:TX)(n:Nat):TX:=firstMet (λi=>ns.getD i 0) n
theorem Zf2:∀{ns:TX}{us:List Value},ZN (ns.map V.int) us->bW us ns
 | [],_,.nil=>.nil
 |n::r,_,.cons h t=>by
  obtain⟨k,rfl⟩:=(show ∃t,_=iI n t from h);exact .cons n k (Zf2 t)
inductive I_call_range1 (xs:TR) (H:Hp) (Q:VK):Prop
 |mk (j:Int):(xs=[.int j])->(∀p,H p=none->Q (.ref p) (upd H p (.rng 0 j)))->I_call_range1 xs H Q
theorem ZdS:YI X (.type "range") _root_.L2.I_call_range1:=by
 intro J s O H U Y Q I r h;obtain⟨j,rfl,q⟩:=h;obtain⟨u,rfl,M⟩:=vals1 r;obtain⟨t,rfl⟩:=M;exact call_range_1 ⟨.ref s.heap.objs.size,_,I.laid (a:=s.heap.objs.size) (o:=.rng 0 j) (λb o e=>Zn _ e) (Zq _) ⟨_,_,_,Zo _ rfl⟩,rfl,q _ (I.hok.fresh (Zq _))⟩
def Wo (lo:Int)(n:Nat):TX:=(ac n).map λi:Nat=>lo+(i:Int)
theorem Zc5 {lo:Int}{n i:Nat}(h:i<n):(Wo lo n)[i]?=some (lo+i):=by unfold Wo;rw[Zc,ao h];rfl
theorem Y9 {lo:Int}{n:Nat}:(Wo lo n).length=n:=by unfold Wo;rw[Za,Zg]
theorem Zgy {lo:Int}{n:Nat}{ZI:Array Value}(h:iq (λi v=>∃t,v=.int (lo+i*1) t) ZI n):ZN ((Wo lo n).map V.int) ZI.toList:=by
 have go:∀(l:List Value) (k:Nat),(∀(j:Nat) v,l[j]?=some v->∃t,v=.int (lo+((k+j:Nat):Int)) t)->ZN (((dE k l.length).map λi:Nat=>lo+(i:Int)).map V.int) l:=by
  intro l;induction l with
  |nil=>intro k _;exact .nil
  |cons x r O=>
   intro k M;rw[Zi,eX];refine .cons ?_ (O (k+1) λj v J=>?_)
   ·obtain⟨t,e⟩:=M 0 x rfl
    exact⟨t,e⟩
   ·obtain⟨t,e⟩:=M (j+1) v J
    exact⟨t,by rw[e];congr 2;omega⟩
 have e:=go ZI.toList 0 λj v J=>by
  rw[cf] at J;obtain⟨t,e⟩:=h.2 j v J;exact⟨t,by rw[e];congr 1 <;> omega⟩
 rw[Zr,h.1] at e;unfold Wo;rw[eL];exact e
def Jh:List Str->Bool
 | []=>true
 |x::r=>!(r.contains x) && Jh r
theorem Z6:∀{l:List Str},Jh l=true->l.Nodup
 | [],_=>eO
 |x::r,h=>by
  unfold Jh at h;simp only[ae,gL] at h;refine bY.mpr ⟨λz=>?_,Z6 h.2⟩;have:=aI.mpr z;rw[h.1] at this;cases this
def Zbb (j:db)(x:Str):Bool:=match j.names.lookup x with
 |some .local=>true
 |some .cell=>true
 |_=>false
theorem YV {j:db}{x:Str}(h:Zbb j x=true):Loc j x:=by
 unfold Zbb at h;split at h
 ·rename_i e;exact .inl e
 ·rename_i e;exact .inr e
 ·cases h
def JF (j:db)(x:Str):Bool:=match j.names.lookup x with
 |some .local=>true
 |_=>false
theorem Ji {j:db}{x:Str}(h:JF j x=true):j.names.lookup x=some .local:=by
 unfold JF at h;split at h
 ·rename_i e;exact e
 ·cases h
def Zju (j:db)(x:Str):Bool:=match j.names.lookup x with
 |some .local=>true
 |some .cell=>true
 |some .free=>true
 |_=>false
theorem Zjt {j:db}{x:Str}(h:Zju j x=true):Vis j x:=by
 unfold Zju at h;split at h
 ·rename_i e;exact .inl e
 ·rename_i e;exact .inr (.inl e)
 ·rename_i e;exact .inr (.inr e)
 ·cases h
def We (j:db)(x:Str):Bool:=match j.names.lookup x with
 |some .globalImplicit=>true
 |_=>false
def WA:Expr->Bool
 | .Starred _ _=>false
 |_=>true
theorem Jq {e:Expr}{j:List Expr}{env:Env}(h:WA e=true):starEach (e::j) env=(false,eval e env)::starEach j env:=by cases e <;> first|rfl|cases h
def Xo:List Expr->Bool
 | []=>true
 |e::r=>WA e && Xo r
theorem W5 {env:Env}{pos:Pos}:∀{j:List Expr},Xo j=true->(backTo pos (starEach j env)).any (·.1)=false
 | [],_=>rfl
 |e::r,h=>by
  unfold Xo at h;rw[ae] at h;rw[Jq h.1];exact W5 h.2
theorem pc {e:Expr}{j:List Expr}{J:TE}{t:TA}(M:PE X e J)(O:PA X j t)(U:WA e=true:=by rfl):PA X (e::j) (ZcR J t):=Zle M O (Jq U)
theorem XG {x:Str}(h:We X.env.scope x=true):Gl X x:=by
 unfold We at h;split at h
 ·rename_i e;exact e
 ·cases h
theorem vn (i:Nat){x:Str}{pos:Pos}(J:X.N[i]?=some x:=by rfl)(M:Zju X.env.scope x=true:=by kernel_rfl)(O:(x == ("__debug__":Str))=false:=by kernel_rfl)(j:(x == ("__classdict__":Str))=false:=by kernel_rfl) :
  PE X (.Name x pos) (ZkA i):=ZnC J (Zjt M) O j
theorem gn (i:Nat){x:Str}{pos:Pos}(J:X.N[i]?=some x:=by rfl)(M:Jh X.N=true:=by kernel_rfl)(j:JF X.env.scope x=true:=by kernel_rfl):PG X (.Name x pos) (Ym i):=
 ZfN (Z6 M) J (.inl (Ji j)) (.inr (Ji j))
theorem gnf (i:Nat){x:Str}{pos:Pos}(j:X.fn x=true)(J:X.N[i]?=some x:=by rfl)(M:Jh X.N=true:=by kernel_rfl)(O:Zbb X.env.scope x=true:=by kernel_rfl):PG X (.Name x pos) (Ym i):=
 ZfN (Z6 M) J (YV O) (.inl j)
theorem ZK (i:Nat){x:Str}{e:Expr}{J:TE}{pos j:Pos}(M:X.fn x=true)(O:PE X e J)(U:X.N[i]?=some x:=by rfl)(Y:Jh X.N=true:=by kernel_rfl)(hx:Zbb X.env.scope x=true:=by kernel_rfl)
  (hs:swapsWith e (some (.Name x j)) pos.line X.env=pure false:=by rfl):PS X (.Assign [.Name x j] e pos) (Zd9 J (Ym i)):=
 Zny (Z6 Y) U (YV hx) O hs (.inl M)
theorem cb {x:Str}{id:String}{r:TR->Hp->VK->Prop}{e:Expr}{j:List Expr}{t:TA}{p pos:Pos}(M:YI X (.builtin id) r)(O:X.mg x=none)(U:PA X (e::j) t)(Y:We X.env.scope x=true:=by kernel_rfl)(hv:bootBuiltins x=some (.builtin id):=by kernel_rfl)
  (hn:x ≠ "__name__":=by decide) (hd:(x == ("__debug__":Str))=false:=by kernel_rfl) (he:WA e=true:=by rfl) (J:Xo j=true:=by rfl) :
  PE X (.Call (.Name x p) (e::j) [] pos) (tCB r t):=ZiO M (XG Y) O hv U hn hd (Jq he) (W5 J)
theorem ct {x:Str}{T:String}{r:TR->Hp->VK->Prop}{e:Expr}{j:List Expr}{t:TA}{p pos:Pos}(M:YI X (.type T) r)(O:X.mg x=none)(U:PA X (e::j) t)(Y:We X.env.scope x=true:=by kernel_rfl)(hv:bootBuiltins x=some (.type T):=by kernel_rfl)
  (hn:x ≠ "__name__":=by decide) (hd:(x == ("__debug__":Str))=false:=by kernel_rfl) (he:WA e=true:=by rfl) (J:Xo j=true:=by rfl) :
  PE X (.Call (.Name x p) (e::j) [] pos) (tCB r t):=ZgP M (XG Y) O hv U hn hd (Jq he) (W5 J)
theorem UT {J a:Expr}{j:TA}{p pos:Pos}(M:X.mg "range"=none)(O:PA X [a] j)(U:We X.env.scope "range"=true:=by kernel_rfl)(Y:starEach [a] X.env=[(false,eval a X.env)]:=by rfl):PI X J (.Call (.Name "range" p) [a] [] pos) (ZmT j):=ZgO (XG U) M O Y
theorem ZrG {M a b:Expr}{J:TA}{p pos:Pos}(O:X.mg "range"=none)(U:PA X [a,b] J)(Y:We X.env.scope "range"=true:=by kernel_rfl)(hs:starEach [a,b] X.env=[(false,eval a X.env),(false,eval b X.env)]:=by rfl)(j:starEach [b] X.env=[(false,eval b X.env)]:=by rfl) :
  PI X M (.Call (.Name "range" p) [a,b] [] pos) (ZmS J):=ZgN (XG Y) O U hs j
def Fn (P:Program)(w:World)(K:aa)(j:TV)(base:Heap)(CX:CXT)(k:Nat)(x:Str)(J:List Str)(sp:Sp):Prop:=
 ∃f M,ZW P w K j base CX k f M J sp/\j x=some (.ref f)/\dY K (.ref f)=true/\Binds K M J []
theorem YF {CX:CXT}{k j:Nat}{x:Str}{O:List Str}{sp:Sp}{E:XK}{e:Expr}{J:List Expr}{t:TA}{p pos:Pos}(G:Fn X.prog X.w X.K X.mg X.base CX k x O sp)(U:Jt j X.A)(Y:ZcF CX X E)(ha:PA X (e::J) t)(hk:k<=j:=by decide)
  (hg:We X.env.scope x=true:=by kernel_rfl) (hd:(x == ("__debug__":Str))=false:=by kernel_rfl) (he:WA e=true:=by rfl) (M:Xo J=true:=by rfl) :
  PE X (.Call (.Name x p) (e::J) [] pos) (Zmo sp [] E t):=by
 obtain⟨f,fd,F,hm,kp,b⟩:=G;exact Zla F (U.mono hk) (XG hg) hm kp b .nil Y ha hd (Jq he) (W5 M)
theorem Fn.mk {P:Program}{w:World}{K:aa}{mg:TV}{base h:Heap}{CX:CXT}{k:Nat}{x:Str}{M:List Str}{sp:Sp}{st:Stmt}{f:Addr}{oc:Value}{od O:Option Addr}{U:Array (Option Value)}{kV J Y j ct:Value}(X:K.In h)(G:h.Ns mainGlobals mg)
  (a:bo K mainGlobals x=some (some (.ref f))) (l:K.lookup f=some ⟨oc,od,.func (cK x x (Wt st) (Wj st) (Yc st) .none kV J Y O j ct),U⟩) (c:fw K j x=true) (kp:dY K (.ref f)=true)
  (hok:∀fd,Wf K x x st f fd->ZW P w K mg base CX k f fd M sp)
  (hb:∀(kV J Y:Value) (O:Option Addr) (j ct:Value) (us:List Value),us.length=M.length->bindArgs (cK x x (Wt st) (Wj st) (Yc st) .none kV J Y O j ct) ⟨us,[]⟩=pure (M.zip us)) :
  Fn P w K mg base CX k x M sp:=
 ⟨f,_,hok _ (ZeU l c kp),nU X G a,kp,(ZeU l c kp).binds hb⟩
theorem VA (K:aa)(j:X.K=K:=by rfl):IxR X (Zns K):=j▸Zoe
theorem ixL (K:aa)(j:X.K=K:=by rfl):IxR X (Znt K):=j▸ZlP
noncomputable abbrev ZrI (K:aa):TR->Hp->VK->Prop:=_root_.L2.I_call_len_seq K
theorem YL (K:aa)(j:X.K=K:=by rfl):YI X (.builtin "len") (ZrI K):=j▸ZcA
theorem itT (K:aa){J l:Expr}{j:TE}(M:PE X l j)(O:X.K=K:=by rfl):PI X J l (Zqd K j):=O▸Znz M
theorem itL (K:aa){J l:Expr}{j:TE}(M:PE X l j)(O:X.K=K:=by rfl):PI X J l (ZmU K j):=O▸Zk4 M
def Zcu (N:List Str)(O:db)(U:List Str)(J:TY)(Y:List Str)(M:db):Bool:=
 (M.kind == .function) && Jh (M.names.map (·.1)) && M.names.all (λy=>y.2 != .local || JF M y.1) && Jh Y && decide (Y=U++J.map λj=>N.getD j "") &&
  J.all (λj=>decide (j<N.length) && (match M.names.lookup (N.getD j "") with|some .free=>true|_=>false)) &&
  M.names.all (λy=>y.2 != .free || (match O.names.lookup y.1 with|some .cell=>true|some .free=>true|_=>false))
theorem Ju.of {N:List Str}{M:db}{own:List Str}{J:TY}{U:List Str}{Y:db}(h:Zcu N M own J U Y=true):Ju N M own J U Y:=by
 unfold Zcu at h;simp only[ae,ax,decide_eq_true_eq,beq_iff_eq,bne_iff_ne,ne_eq,bg] at h;obtain⟨⟨⟨⟨⟨⟨h1,h2⟩,h3⟩,h4⟩,h5⟩,h6⟩,h7⟩:=h;refine⟨h1,Z6 h2,λy O e=>?_,Z6 h4,h5,λj hj=>⟨(h6 j hj).1,?_⟩,λy O e=>?_⟩
 ·rcases h3 y O with z|z
  ·exact absurd e z
  ·exact Ji z
 ·have:=(h6 j hj).2
  split at this
  ·rename_i z;exact z
  ·cases this
 ·rcases h7 y O with z|z
  ·exact absurd e z
  ·split at z
   ·rename_i q;exact .inl q
   ·rename_i q;exact .inr q
   ·cases z
theorem cmp {X:Cx}(J:List Str)(j:TY)(O:List Str){scope:db}{elt iter U:Expr}{ifs:List Expr}{pos:Pos}{Y:TI}{g:TG}{tc:TT}{te:TE}(hc:X.calm=true)(hi:PI X U iter Y)
  (hg:∀M C s H ex,PG (Y7 X scope M O C s H ex) U g) (ht:∀M C s H ex,PIf (Y7 X scope M O C s H ex) ifs tc) (he:∀M C s H ex,PE (Y7 X scope M O C s H ex) elt te)
  (hS:Zcu X.N X.env.scope J j O scope=true:=by kernel_rfl) (hs:∀x,foldedSetIterable iter X.env x=pure x:=by intro _;rfl) :
  PE X (.ListComp elt [⟨U,iter,ifs,0⟩] scope pos) (Zff J j Y g tc te):=Zk9 rfl (.of hS) hc hi hg ht he hs
inductive ZmJ (x:V) (y:V) (H:Hp) (Q:VK):Prop
 |mk (a b:Addr) (xs ys:TR):(x=.ref a)->(y=.ref b)->(H a=some (.tup xs))->(H b=some (.tup ys))->(xs.length+ys.length<=sizeLine)->(∀p H',Same H H'->H' p=some (.tup (xs++ys))->Q (.ref p) H')->ZmJ x y H Q
theorem Zb6:XX X (binaryOp .Add) ZmJ:=by
 intro j s σ H x y v u Q I rx ry h;obtain⟨a,b,xs,ys,rfl,rfl,U,hb,hz,q⟩:=h;by_cases hx:xs=[]
 ·subst hx
  cases rx;cases ry;obtain⟨o7,r1,p1,_⟩:=I.tuple (WO.of U);obtain⟨o5,r2,p2,_⟩:=I.tuple (WO.of hb);cases r1;obtain⟨⟨o8,dd,data,sl⟩,ho,hc,n,hd⟩:=id p1;obtain⟨⟨o6,Y,data2,o0⟩,J,M,n2,O⟩:=id p2;simp only at hc hd M O;subst hc hd M O;exact ni ⟨_,ho,rfl⟩ ⟨_,J,rfl⟩ kH mB g9 gJ (gC _ _) (tuple_addW0 a b _ _ n n2 dd Y sl o0 rfl) ⟨ho,J,⟨.ref b,H,I,rfl,q b H (Same.refl H) hb⟩⟩
 ·refine Zlk j s σ H _ _ v u Q I rx ry ⟨a,b,xs,ys,rfl,rfl,.of U,.of hb,hx,hz,λe=>?_,λe p hp=>q p _ (Same.upd hp) Zt⟩
  subst e;exact q a H (Same.refl H) (by rw[ft];exact U)
theorem Yi {c:TT}{tb:TS}{D:WY}{σ:St}{H:Hp}(Pv:Nat->St->Hp->Prop)(J:St->Hp->Prop)(hend:∀ σ H,J σ H->D.nx σ H)(h0:∃m,Pv m σ H)
  (turn:(∀ σ H,J σ H->D.nx σ H)->∀m σ H,Pv m σ H->c σ H λb M=>if b=true then ∃N:St->Hp->Prop,(∀ j O,N j O->∃U,U<m/\Pv U j O)/\tb (D.lp N) σ M else D.nx σ M) :
  ZhS c tb D σ H:=⟨Pv,h0,turn hend⟩
structure WF (J:It)(H:Hp)(xs:TR):Prop where
 go:∀(i:Nat) H',Same H H'->i<xs.length->J.go i H'
 yld:∀(i:Nat) H' x H2,Same H H'->i<xs.length->J.yld i H' x H2->H2=H'/\xs[i]?=some x
 stop:∀H',Same H H'->J.stop xs.length H'
theorem WF.mono {J:It}{H M:Hp}{xs:TR}(s:Same H M)(S:WF J H xs):WF J M xs:=
 ⟨λi j e=>S.go i j (s.trans e),λi j x O e=>S.yld i j x O (s.trans e),λj e=>S.stop j (s.trans e)⟩
theorem YJ {K:aa}{H:Hp}{a:Addr}{xs:TR}(h:WO K H a xs):WF (Itt K a) H xs:=
 ⟨λi j s J=>⟨xs,_,s.tup h,Zf J⟩,λi j x M s _ y=>⟨y.1,y.2 xs (s.tup h)⟩,λj s=>⟨xs,s.tup h,Zq _⟩⟩
theorem Wh {K:aa}{H:Hp}{a:Addr}{xs:TR}(h:WZ K H a xs):WF (Itl K a) H xs:=
 ⟨λi j s J=>⟨xs,_,s.seq h,Zf J⟩,λi j x M s _ y=>⟨y.1,y.2 xs (s.seq h)⟩,λj s=>⟨xs,s.seq h,Zq _⟩⟩
theorem Xi {H:Hp}(lo:Int)(n:Nat):WF (Itr lo n) H ((Wo lo n).map V.int):=by
 have J:((Wo lo n).map V.int).length=n:=by rw[Za,Y9]
 refine⟨λi M s j=>by rw[J] at j;exact j,λi M x O s j y=>?_,λM s=>by show n<=_;rw[J];exact Zq _⟩;rw[J] at j;exact⟨y.1,by rw[y.2,Zc,Zc5 j];rfl⟩
theorem Zj1 {J:It}{own:List Str}{U:TY}{g:TG}{tc:TT}{te:TE}{σ:St}{H:Hp}{Q:VK}{xs:TR}(S:WF J H xs)(cs:St)(o5:JJ own U σ=none::cs)(f:V->TQ)(hz:xs.length<=1000000)
  (hs:∀(i:Nat) x v0 j,xs[i]?=some x->Same H j->∀(R:St->V->Hp->Prop) (R':St->Hp->Prop),(∀v H5,f x=some v->Same j H5->R (some x::cs) v H5)->(∀Y,f x=none->Same j Y->R' (some x::cs) Y)->
   g x (v0::cs) j λM H3=>tc M H3 λb Y=>if b=true then te M Y (R M) else R' M Y)
  (hd:∀D j,H D=none->Same H j->j D=some (.lst (xs.filterMap f))->Q (.ref D) j) :
  WH own U g tc te σ Q J H:=by
 intro D hD;refine⟨λi m o0 j=>m=xs.length-i/\i<=xs.length/\(∃v0,o0=v0::cs)/\Same H j/\j D=some (.lst ((xs.take i).filterMap f)),⟨_,rfl,aX _,⟨none,o5⟩,Same.upd hD,by rw[Zt,fI];rfl⟩,?_⟩;rintro i m o0 j ⟨rfl,hi,⟨v0,rfl⟩,s,hl⟩;by_cases O:i<xs.length
 ·refine .inr ⟨S.go i j s O,_,λo7 H2 z=>z,λx H2 y=>?_⟩
  obtain⟨rfl,hx⟩:=S.yld i j x H2 s O y;have ht:xs.take (i+1)=xs.take i++[x]:=by rw[ce,hx];rfl
  have o6:((xs.take i).filterMap f).length<=i:=aN (List.length_filterMap_le _ _) (by rw[bE];omega);refine hs i x v0 H2 hx s _ _ (λv H5 e s5=>?_) (λY e s4=>?_)
  ·refine⟨_,s5 _ _ hl,?_,xs.length-(i+1),by omega,rfl,O,⟨_,rfl⟩,(s.trans s5).updr hD,?_⟩
   ·have:(16777216:Nat)=sizeLine:=by decide
    omega
   ·rw[Zt,ht,l8,cD,e];rfl
  ·refine⟨xs.length-(i+1),by omega,rfl,O,⟨_,rfl⟩,s.trans s4,?_⟩
   rw[s4 _ _ hl,ht,l8,cD,e];simp
 ·have e:i=xs.length:=by omega
  subst e;refine .inl ⟨S.stop j s,hd D j hD s ?_⟩;rw[hl,cp]
theorem W9 {J:It}{g:TG}{tb:TS}{D:WY}{σ:St}{H0 H:Hp}{xs:TR}(S:WF J H0 xs)(Pv:Nat->St->Hp->Prop)(h0:Pv 0 σ H)(hS:∀i σ H,Pv i σ H->Same H0 H)
  (hs:∀(i:Nat) x σ H,xs[i]?=some x->Pv i σ H->g x σ H λM Y=>tb (D.lp (Pv (i+1))) M Y) (hd:∀ σ H,Pv xs.length σ H->D.nx σ H) :
  ∃W:Nat->Nat->St->Hp->Prop,(∃m,W 0 m σ H)/\∀i m σ H,W i m σ H->
   (J.stop i H/\D.nx σ H)\/(J.go i H/\∃N:St->Hp->Prop,(∀ O j,N O j->∃m',m'<m/\W (i+1) m' O j)/\∀x j,J.yld i H x j->g x σ j λM Y=>tb (D.lp N) M Y):=by
 refine⟨λi m σ H=>m=xs.length-i/\i<=xs.length/\Pv i σ H,⟨_,rfl,aX _,h0⟩,?_⟩;rintro i m σ H ⟨rfl,hi,p⟩;have s:=hS i σ H p;by_cases U:i<xs.length
 ·refine .inr ⟨S.go i H s U,Pv (i+1),λO j p'=>⟨xs.length-(i+1),by omega,rfl,U,p'⟩,λx j y=>?_⟩
  obtain⟨rfl,hx⟩:=S.yld i H x j s U y;exact hs i x σ _ hx p
 ·have e:i=xs.length:=by omega
  subst e;exact .inl ⟨S.stop H s,hd σ H p⟩
theorem tT {A B:Hp->Prop}{σ:St}{H:Hp}(h:A H):Wu σ H λb j=>if b=true then A j else B j:=by
 show if true=true then A H else B H
 rw[if_pos rfl];exact h
theorem Zf6 {α j:Type}(g:α->j):∀xs:List α,xs.filterMap (λy=>some (g y))=xs.map g
 | []=>rfl
 |x::r=>by rw[cD,aB,Zf6 g r]
theorem ZeO {c A B:Prop} [Decidable c](j:c)(h:A):if c then A else B:=by rw[if_pos j];exact h
theorem Vl {c A B:Prop} [Decidable c](j:¬c)(h:B):if c then A else B:=by rw[if_neg j];exact h
theorem YX {J:It}{own:List Str}{O:TY}{U:TE}{σ:St}{H:Hp}{Q:VK}{xs:TR}(S:WF J H xs)(M:St)(o0:JJ own O σ=none::M)(f:V->V)(hz:xs.length<=1000000)
  (hs:∀(i:Nat) x j,xs[i]?=some x->Same H j->∀R:VK,(∀Y,Same j Y->R (f x) Y)->U (some x::M) j R)
  (hd:∀D j,H D=none->Same H j->j D=some (.lst (xs.map f))->Q (.ref D) j):WH own O (Ym 0) Wu U σ Q J H:=by
 refine Zj1 S M o0 (λx=>some (f x)) hz (λi x v0 j hx s R R' h1 h2=>?_) λD j hD s hl=>hd D j hD s (by rw[hl,Zf6]);show Wu (some x::M) j λb H4=>if b=true then U (some x::M) H4 (R (some x::M)) else R' (some x::M) H4
 exact tT (A:=λH4=>U (some x::M) H4 (R (some x::M))) (hs i x j hx s _ λY s5=>h1 _ Y rfl s5)
theorem X9:∀{ns:TX},(∀n∈ns,n.natAbs<2 ^ 200)->fh (ns.map a5)=true/\gB (ns.map a5)=false/\cx (ns.map a5)=0/\dP 300 (ns.map a5)=true/\iF (ns.map a5)=ns.length/\c9 (ns.map a5)=true
 | [],_=>⟨rfl,rfl,rfl,rfl,rfl,rfl⟩
 |n::r,h=>by
  obtain⟨Y,O,h3,h4,h5,h6⟩:=X9 (ns:=r) λm hm=>h m (aF _ hm);have U:=h n aD;have j:n.natAbs.log2<1920:=by
   by_cases J:n.natAbs=0
   ·rw[J];decide +kernel
   ·have:=(mJ J).mpr U
    omega
  have M:(gc (.int n)).length<=300:=by
   have O:n.natAbs.log2<200:=by
    by_cases J:n.natAbs=0
    ·rw[J];decide +kernel
    ·exact (mJ J).mpr U
   have:=int_text_length_le (k:=200) (by decide) O;simp only[gc];rw[PySem.ofString_length];omega
  refine⟨?_,?_,?_,?_,?_,?_⟩
  ·simp only[aB,fh,jL,Y,fY,decide_eq_true_eq];exact j
  ·simp only[aB,gB,nX,O,i8]
  ·simp only[aB,cx,eK,h3];rfl
  ·simp only[aB,dP,mf,h4,fY,decide_eq_true_eq];exact M
  ·simp only[aB,iF,PyData.bulk,h5,Zi];omega
  ·simp only[aB,c9,gm,h6,fY]
def ZB (K:aa)(x:Str)(st:Stmt):Prop:=
 ∃(f:Addr) (O:Value) (U Y:Option Addr) (J:Array (Option Value)) (kV M pm j ct:Value),bo K mainGlobals x=some (some (.ref f))/\
  K.lookup f=some ⟨O,U,.func (cK x x (Wt st) (Wj st) (Yc st) .none kV M pm Y j ct),J⟩/\fw K j x=true/\dY K (.ref f)=true
theorem ZB.mk {K:aa}{x:Str}{st:Stmt}{f:Addr}{M:Value}{O an:Option Addr}{J:Array (Option Value)}{kV doc pm j ct:Value}(a:bo K mainGlobals x=some (some (.ref f)))
  (l:K.lookup f=some ⟨M,O,.func (cK x x (Wt st) (Wj st) (Yc st) .none kV doc pm an j ct),J⟩) (c:fw K j x=true) (k:dY K (.ref f)=true):ZB K x st:=
 ⟨f,M,O,an,J,kV,doc,pm,j,ct,a,l,c,k⟩
theorem ZB.fn {P:Program}{w:World}{K:aa}{mg:TV}{base h:Heap}{CX:CXT}{k:Nat}{x:Str}{J:List Str}{sp:Sp}{st:Stmt}(D:ZB K x st)(X:K.In h)(G:h.Ns mainGlobals mg)
  (O:∀f M,Wf K x x st f M->ZW P w K mg base CX k f M J sp)
  (hb:∀(kV doc pm:Value) (an:Option Addr) (j ct:Value) (us:List Value),us.length=J.length->bindArgs (cK x x (Wt st) (Wj st) (Yc st) .none kV doc pm an j ct) ⟨us,[]⟩=pure (J.zip us):=by first|exact λ_ _ _ _ _ _=>bd1 λ_=>rfl|exact λ_ _ _ _ _ _=>VT λ_ _=>rfl|exact λ_ _ _ _ _ _=>bd3 λ_ _ _=>rfl|exact λ_ _ _ _ _ _=>bd4 λ_ _ _ _=>rfl|exact λ_ _ _ _ _ _=>bd5 λ_ _ _ _ _=>rfl) :
  Fn P w K mg base CX k x J sp:=by
 obtain⟨f,Y,od,an,U,kV,doc,pm,j,ct,a,l,c,kp⟩:=D;exact Fn.mk X G a l c kp (λM F=>O f M F) hb
theorem ZB.law {P:Program}{w:World}{K:aa}{mg:TV}{h:Heap}{CX:CXT}{k:Nat}{x:Str}{p:Str}{sp:Sp}{st:Stmt}{U:Addr}(D:ZB K x st)(X:K.In h)(G:h.Ns mainGlobals mg)(M:mg x=some (.ref U))
  (O:∀(base:Heap) f J,base.Ns mainGlobals mg->K.In base->Wf K x x st f J->ZW P w K mg base CX k f J [p] sp)
  (hb:∀(kV doc pm:Value) (an:Option Addr) (j ct:Value) (s:Shared) (u:Value),jr s (cK x x (Wt st) (Wj st) (Yc st) .none kV doc pm an j ct) ⟨[u],[]⟩ [(p,u)]) :
  ∃J:FuncData,(∀(s:Shared) (u:Value),jr s J ⟨[u],[]⟩ [(p,u)])/\∀base:Heap,K.In base->base.Ns mainGlobals mg->ZW P w K mg base CX k U J [p] sp:=by
 obtain⟨f,oc,od,an,Y,kV,doc,pm,j,ct,a,l,c,kp⟩:=D;have e:=M.symm.trans (nU X G a);cases e;exact⟨_,λs u=>hb kV doc pm an j ct s u,λbase kb nb=>O base _ _ nb kb (ZeU l c kp)⟩
theorem Yv {α:Type} [DecidableEq α]:∀(l j:List α),l.Nodup->(∀a∈l,a∈j)->l.length<=j.length
 | [],_,_,_=>aX _
 |a::r,j,nd,h=>by
  obtain⟨O,U⟩:=bY.mp nd;have M:a∈j:=h a aD;have:=Yv r (j.erase a) U λb hb=>by
   have J:b≠a:=λe=>O (e▸hb);exact (mo J).mpr (h b (aF _ hb))
  rw[List.length_erase_of_mem M] at this;have Y:0<j.length:=List.length_pos_of_mem M;rw[Zi];omega
theorem VM (val:Nat->Int):∀i,(firstMet val i).Nodup
 |0=>eO
 |i+1=>by
  have j:=VM val i;rw[mH];unfold step_dedup;split
  ·exact j
  ·rename_i h
   refine nO.mpr ⟨j,bY.mpr ⟨by simp,eO⟩,?_⟩;intro a J b hb e;rw[aJ.mp hb] at e;apply h
   first
    |exact aZ.mpr ⟨a,J,by simp[e]⟩
    |simpa [e] using J
theorem ZlG (val:Nat->Int)(i:Nat)(k:Int):k∈firstMet val i↔∃j,j<i/\val j=k:=by
 have h:=firstMet_any val i k;constructor
 ·intro O
  have:(firstMet val i).any (· == k)=true:=aZ.mpr ⟨k,O,by simp⟩;rw[h] at this;obtain⟨x,J,e⟩:=aZ.mp this;obtain⟨j,M,rfl⟩:=aC.mp J;exact⟨j,af.mp M,by simpa using e⟩
 ·rintro⟨j,M,rfl⟩
  have:((ac i).map val).any (· == val j)=true:=aZ.mpr ⟨val j,aC.mpr ⟨j,af.mpr M,rfl⟩,by simp⟩;rw[<-h] at this;obtain⟨x,J,e⟩:=aZ.mp this;have:x=val j:=by simpa using e
  exact this▸J
theorem Zjb:fillsNumberSlot (.type "tuple") "mul"=pure false:=
 PySem.fillsNumberSlot_seq (id:="tuple.__mul__") (r:=some (.builtin "tuple.__rmul__")) fo.lookup (by decide +kernel) ku.lookup (by decide +kernel)
theorem ZrH:seqRepeat? (.type "tuple")=pure (some (.builtin "tuple.__mul__")):=by
 unfold seqRepeat?;rw[nh (T:="tuple") (name:="__mul__") (id:="tuple.__mul__") fo.lookup (by decide +kernel),nh (T:="tuple") (name:="__rmul__") (id:="tuple.__rmul__") ku.lookup (by decide +kernel)];rfl
noncomputable abbrev tob (J:Option Addr)(j:Array Value)(n:Nat)(M:Array (Option Value)):Obj:={cls:=.type "tuple",dict:=J,data:=.seq j n,slots:=M}
theorem ZpM (a:Int)(t:Tok)(l:Addr)(j:Array Value)(n:Nat)(M:Option Addr)(O:Array (Option Value)) :
  mS (cM.«int.__rmul__» ⟨[.int a t,.ref l],[]⟩) (λ_ R s=>s.heap.get? l=some (tob M j n O)/\R (.ok (.ret lO)) s):=.of_wp λJ w A R s h=>by
 obtain⟨U,g,d,tk,os⟩:=s;obtain⟨Y,h⟩:=h
 wp_walk;exact⟨_,rfl,h⟩
theorem Zp7 (l:Addr)(j:Array Value)(n:Nat)(M:Option Addr)(O:Array (Option Value))(t:Tok) :
  mS (cM.«tuple.__mul__» ⟨[.ref l,.int 1 t],[]⟩) (λ_ R s=>s.heap.get? l=some (tob M j n O)/\R (.ok (.ret (.ref l))) s):=.of_wp λJ w A R s h=>by
 obtain⟨Y,g,d,tk,os⟩:=s;obtain⟨U,h⟩:=h;have f1:=i9;have f2:=eV
 wp_walk using wpAny_loadPart' U
 exact⟨_,rfl,h⟩
theorem Zp8 (l:Addr)(j:Array Value)(n:Nat)(M:Option Addr)(O:Array (Option Value))(t:Tok)(Y:j.isEmpty=false) :
  mS (cM.«tuple.__mul__» ⟨[.ref l,.int 0 t],[]⟩) (λ_ R s=>s.heap.get? l=some (tob M j n O)/\R (.ok (.ret (.ref s.heap.objs.size))) {s with heap:=s.heap.push {cls:=.type "tuple",data:=.seq #[]}}):=.of_wp λJ w A R s h=>by
 obtain⟨hp,g,d,tk,os⟩:=s;obtain⟨U,h⟩:=h;have f1:=i9;have f2:=eV
 wp_walk using wpAny_loadPart' U
 exact⟨_,rfl,h⟩
theorem Zp6 (l:Addr)(items:Array Value)(n:Nat)(M:Option Addr)(O:Array (Option Value))(k:Int)(t:Tok)(U:¬(decide (k < -(2 ^ 63)) || decide (k ≥ 2 ^ 63))=true)(Y:¬(items.isEmpty || k == 1)=true)(h3:¬(decide (k<=0) || items.isEmpty)=true)
  (h4:¬((items.size:Int)*k > (2 ^ 63-1) / 8)) (h5:¬i6 ((items.size:Int)*k)=true) (h6:((am k.toNat items).foldl (· ++ ·) #[]).size<=sizeLine) :
  mS (cM.«tuple.__mul__» ⟨[.ref l,.int k t],[]⟩) (λ_ R s=>s.heap.get? l=some (tob M items n O)/\R (.ok (.ret (.ref s.heap.objs.size))) {s with heap:=s.heap.push {cls:=.type "tuple",data:=.seq ((am k.toNat items).foldl (· ++ ·) #[])}}):=.of_wp λJ w A R s h=>by
 obtain⟨hp,g,d,tk,os⟩:=s;obtain⟨j,h⟩:=h;have f1:=i9;have f2:=eV
 wp_walk using wpAny_loadPart' j
 rw[if_neg U]
 wp_walk using wpAny_loadPart' j
 all_goals (try rw[if_neg Y])
 all_goals (try wp_walk using wpAny_loadPart' j)
 all_goals (try rw[if_neg h3])
 all_goals (try wp_walk using wpAny_loadPart' j)
 all_goals (try rw[if_neg h4])
 all_goals (try wp_walk using wpAny_loadPart' j)
 all_goals (try rw[if_neg h5])
 all_goals (try wp_walk using wpAny_loadPart' j)
 all_goals first|exact⟨_,rfl,h⟩|exact h6
theorem Zbc (j:List Value):∀(m:Nat) (ZI:List Value),(am m j.toArray).foldl (· ++ ·) ZI.toArray=(ZI++(am m j).flatten).toArray
 |0,ZI=>by simp
 |m+1,ZI=>by
  rw[aV,j8,aV,bP,<-eh];have:ZI.toArray++j.toArray=(ZI++j).toArray:=by simp
  rw[this];exact Zbc j m (ZI++j)
theorem ZN.repl {xs:TR}{us:List Value}(r:ZN xs us):∀m:Nat,ZN (am m xs).flatten (am m us).flatten
 |0=>.nil
 |m+1=>by rw[aV,aV,bP,bP];exact r.append (ZN.repl r m)
inductive ZmH (x:V) (y:V) (H:Hp) (Q:VK):Prop
 |mk (a:Addr) (xs:TR) (k:Nat):(x=.ref a)->(y=.int k)->(H a=some (.tup xs))->(xs≠[])->(xs.length*k<=1000000)->(k<=1000000)->(∀p H',Same H H'->H' p=some (.tup (am k xs).flatten)->Q (.ref p) H')->ZmH x y H Q
theorem Zlh:XX X (binaryOp .Mult) ZmH:=by
 intro o5 s σ H x y v u Q I rx ry h;obtain⟨a,xs,k,rfl,rfl,ha,hx,hz,hk,q⟩:=h;cases rx;obtain⟨t,rfl⟩:=ry;obtain⟨j,r1,p1,_⟩:=I.tuple (WO.of ha);have hl:=r1.length;have o0:j≠[]:=λe=>by rw[e] at r1;cases r1;exact hx rfl
 have M:j.toArray.isEmpty=false:=by cases j with|nil=>exact absurd rfl o0|cons _ _=>rfl
 obtain⟨⟨o6,Y,data,sl⟩,J,hc,n,hd⟩:=id p1;simp only at hc hd;subst hc hd;have sz:=Jv;have fl:(am ((k:Nat):Int).toNat j.toArray).foldl (· ++ ·) #[]=((am k j).flatten).toArray:=by
  have:=Zbc j k [];rw[Zj];simpa using this
 have O:((am k j).flatten).length=k*j.length:=Zci j k;refine md (T:="tuple") (U:="int") (by decide) ⟨_,J,rfl⟩ (λs'=>jR s' k t) Zjb F.fills_int_mul iL ZrH F.slot_int_index.lookup
  (dX iL (jR s k t) F.entry_int_rmul (F.args_int_rmul_2 _ _) (ZpM k t a j.toArray n Y sl) ⟨J,rfl,⟨_,J,rfl⟩,?_⟩)
 by_cases k0:k=0
 ·subst k0
  refine dX fo ⟨_,J,rfl⟩ jT (jD _ _) (Zp8 a j.toArray n Y sl t M) ⟨J,?_⟩;exact⟨.ref s.heap.objs.size,_,I.laid (t':=s.toks) (o:=.tup []) (λb ob q=>Zn _ q) (Zq _) ⟨aX _,[],.nil,hG _ _⟩,rfl,q _ _ (Same.upd (I.hok.fresh (Zq _))) (by rw[Zt];rfl)⟩
 by_cases k1:k=1
 ·subst k1
  refine dX fo ⟨_,J,rfl⟩ jT (jD _ _) (Zp7 a j.toArray n Y sl t) ⟨J,?_⟩;exact⟨.ref a,H,I,rfl,q _ _ (Same.refl H) (by rw[ha];simp)⟩
 ·refine dX fo ⟨_,J,rfl⟩ jT (jD _ _) (Zp6 a j.toArray n Y sl k t ?_ ?_ ?_ ?_ ?_ ?_) ⟨J,?_⟩
  ·simp only[bg,decide_eq_true_eq,not_or];omega
  ·rw[M];simp;omega
  ·rw[M];simp;omega
  ·rw[Zh,<-hl]
   have:((xs.length*k:Nat):Int)<=1000000:=by omega
   rw[aW] at this;omega
  ·unfold i6
   rw[Zh,<-hl];have:((xs.length*k:Nat):Int)<=1000000:=by omega
   rw[aW] at this;simp only[decide_eq_true_eq];omega
  ·rw[fl,Zh,O,<-hl,dM];omega
  ·rw[fl]
   exact⟨.ref s.heap.objs.size,_,I.laid (t':=s.toks) (o:=.tup (am k xs).flatten) (λb ob q=>Zn _ q) (Zq _) ⟨by rw[Zci,dM];omega,_,ZN.repl r1 k,hG _ _⟩,rfl,q _ _ (Same.upd (I.hok.fresh (Zq _))) Zt⟩
theorem gT {J:TE}{N:St->Hp->Prop}{M:St->V->Hp->Prop}{x:V}{U:TQ}{cs:St}{H:Hp}(h:J (some x::cs) H (M (some x::cs))):Ym 0 x (U::cs) H λj Y=>Wu j Y λb O=>if b=true then J j O (M j) else N j O:=by
 show if true=true then J (some x::cs) H (M (some x::cs)) else N (some x::cs) H
 rw[if_pos rfl];exact h
theorem Vu {J:It}{own:List Str}{M:TY}{te:TE}{σ:St}{H:Hp}{Q:VK}{xs:TR}(G:Addr->Nat->TR->Hp->Prop)(cs:St)(o0:JJ own M σ=none::cs)(hz:xs.length<=1000000)
  (S:∀D i ys j,H D=none->j D=some (.lst ys)->G D i ys j->(i<xs.length->J.go i j/\∀x U,J.yld i j x U->U=j/\xs[i]?=some x)/\(i=xs.length->J.stop i j))
  (h0:∀D,H D=none->G D 0 [] (upd H D (.lst [])))
  (hs:∀D (i:Nat) x ys j,H D=none->j D=some (.lst ys)->xs[i]?=some x->G D i ys j->∀R:VK,(∀v H5,H5 D=some (.lst ys)->G D (i+1) (ys++[v]) (upd H5 D (.lst (ys++[v])))->R v H5)->te (some x::cs) j R)
  (hd:∀D ys j,H D=none->j D=some (.lst ys)->ys.length=xs.length->G D xs.length ys j->Q (.ref D) j):WH own M (Ym 0) Wu te σ Q J H:=by
 intro D hD;refine⟨λi m Y j=>m=xs.length-i/\i<=xs.length/\(∃v0,Y=v0::cs)/\∃ys,j D=some (.lst ys)/\ys.length=i/\G D i ys j,⟨_,rfl,aX _,⟨none,o0⟩,[],Zt,rfl,h0 D hD⟩,?_⟩;rintro i m Y j ⟨rfl,hi,⟨v0,rfl⟩,ys,hl,hy,g⟩;obtain⟨S1,S2⟩:=S D i ys j hD hl g;by_cases O:i<xs.length
 ·refine .inr ⟨(S1 O).1,_,λo5 U z=>z,λx U y=>?_⟩
  obtain⟨rfl,hx⟩:=(S1 O).2 x U y;refine gT ?_;refine hs D i x ys U hD hl hx g _ λv H5 h5 g5=>⟨ys,h5,?_,xs.length-(i+1),by omega,rfl,O,⟨_,rfl⟩,ys++[v],Zt,by rw[Zd];simp[hy],g5⟩;have:(16777216:Nat)=sizeLine:=by decide
  omega
 ·have e:i=xs.length:=by omega
  exact .inl ⟨S2 e,hd D ys j hD hl (by omega) (e▸g)⟩
theorem ZkN {X:Cx}(i:Nat)(M:List Str)(j:TY)(U:List Str){scope:db}{elt iter Y:Expr}{ifs:List Expr}{pos J py:Pos}{y:Str}{wi:TI}{g:TG}{tc:TT}{te:TE}(hc:X.calm=true)(hf:X.fn y=true)(hi:PI X Y iter wi)
  (hg:∀O C s H ex,PG (Y7 X scope O U C s H ex) Y g) (ht:∀O C s H ex,PIf (Y7 X scope O U C s H ex) ifs tc) (he:∀O C s H ex,PE (Y7 X scope O U C s H ex) elt te)
  (hS:Zcu X.N X.env.scope M j U scope=true:=by kernel_rfl) (hy:X.N[i]?=some y:=by rfl) (hN:Jh X.N=true:=by kernel_rfl) (hx:Zbb X.env.scope y=true:=by kernel_rfl)
  (o0:swapsWith (.ListComp elt [⟨Y,iter,ifs,0⟩] scope pos) (some (.Name y py)) J.line X.env=pure true:=by rfl) (hs:∀x,foldedSetIterable iter X.env x=pure x:=by intro _;rfl) :
  PS X (.Assign [.Name y py] (.ListComp elt [⟨Y,iter,ifs,0⟩] scope pos) J) (Zd9 (Zff M j wi g tc te) (Ym i)):=Zey rfl (.of hS) hc hi hg ht he (Z6 hN) hy (YV hx) (.inl hf) o0 hs
end L2
namespace HT
open PySem PyProof.Rows
end HT
namespace L2
open PySem PySem.Spec PyProof.Rows
section
variable {e:Expr}{te ts:TE}{st:Expr}{pos p2:Pos}
end
end L2
namespace HT
open PySem PyProof.Rows
theorem Xu {t O:Addr}{items:Array Value}{vl vu:Value}{lo M:Option Int}{Q:TW}(j:jN s.heap t items)(hs:s.heap.IsSliceOf O vl vu .none)(pl:jp vl lo)(pu:jp vu M)
  (hw:Y1 items.size 0 lo=0/\Y1 items.size items.size M=items.size)
  (h:Q (.ref t) s):wpAny (model prog w) A (getItem (.ref t) (.ref O)) Q E s:=by
 obtain⟨os,U,Y,o6⟩:=id hs;have o0:s.TypeIs (.ref O) "slice":=⟨os,U,Y⟩;unfold getItem
 try with_reducible refine cn ?_
 first|refine Zl (Zm ?_)|skip
 refine Zl (wpAny_sequenceKey j.typeIs (by decide) ?_);refine Zl (a8 (name:=cN "__getitem__") j.typeIs bN
  (ba bN j.typeIs entry_tuple_getitem ?_ (args_tuple_getitem _ _)))
 show wpAny _ _ (dD (.ref t) >>= _) _ _ s;refine Zl (tupleItemsOf_ j ?_);refine Zl (fk o0 ?_);rw[if_pos (by decide)];refine Zl (Jr hs pl pu ?_);have J:(((Y1 items.size 0 lo:Nat):Int) == 0 && (1:Int) == 1 && (Y1 items.size items.size M-Y1 items.size 0 lo) == items.size)=true:=by
  rw[hw.1,hw.2];simp
 show wpAny _ _ (if (((Y1 items.size 0 lo:Nat):Int) == 0 && (1:Int) == 1 && (Y1 items.size items.size M-Y1 items.size 0 lo) == items.size)=true then _ else _) _ _ s
 rw[if_pos J];refine Zl ?_;unfold Builtin.Tuple.tupleIsExact;refine Zl (fk j.typeIs (Zm ?_));rw[if_pos (by decide)];refine Zl (dW ?_)
 first
  |exact Zm ⟨_,rfl,Zm h⟩
  |exact Zl (Zm ⟨_,rfl,Zm h⟩)
end HT
namespace L2
open PySem PySem.Spec PyProof.Rows
inductive ZpN (K:aa) (x:V) (lo:Option Int) (hi:Option Int) (H:Hp) (Q:VK):Prop
 |mk (a:_) (xs:_):(x=.ref a)->(WO K H a xs)->((HT.Y1 xs.length 0 lo=0/\HT.Y1 xs.length xs.length hi=xs.length))->(Q (.ref a) H)->ZpN K x lo hi H Q
theorem Zh7:SlR X (ZpN X.K):=by
 intro M s σ H x v vl vu lo hi sl Q I U Y pl pu h;obtain⟨a,xs,rfl,hx,hw,q⟩:=h;cases U;obtain⟨J,r,O,hz⟩:=I.tuple hx;have j:J.toArray.size=xs.length:=by rw[Zh];exact r.length.symm
 refine⟨"tuple",_,bN.lookup,O.typeIs,?_⟩;exact HT.Xu O Y pl pu (by rw[j];exact hw) ⟨.ref a,H,I,rfl,q⟩
end L2
namespace PyS
open PySem PySem.SetTable
def VW (p:Array Nat):Prop:=p.toList.Pairwise (· < ·)
theorem VW.lt {p:Array Nat}(h:VW p){i j:Nat}{x y:Nat}(J:i<j)(M:p[i]?=some x)(O:p[j]?=some y):x<y:=by
 rw[<-cf] at M O;obtain⟨U,rfl⟩:=ab.mp M;obtain⟨Y,rfl⟩:=ab.mp O;exact kK.mp h i j U Y J
structure Ze9 (p:Array Nat)(j k:Nat):Prop where
 le:k<=p.size
 lo:∀i x,i<k->p[i]?=some x->x<j
 hi:∀i x,k<=i->p[i]?=some x->j<=x
theorem ZeP {p:Array Nat}(h:VW p)(j:Nat):∀(J lo hi:Nat),lo<=hi->hi<=p.size->hi-lo<=J->(∀i x,i<lo->p[i]?=some x->x<j)->(∀i x,hi<=i->p[i]?=some x->j<=x)->Ze9 p j (below.go p j J lo hi)
 |0,lo,hi,h1,U,h3,Y,h5=>by
  have:lo=hi:=by omega
  subst this;exact⟨U,Y,h5⟩
 |J+1,lo,hi,h1,U,h3,Y,h5=>by
  unfold below.go;by_cases M:lo<hi
  ·rw[if_pos M]
   try dsimp only
   have hm:(lo+hi) / 2<p.size:=by omega
   have O:p[(lo+hi) / 2]?=some p[(lo+hi) / 2]:=aP hm;have eg:p.getD ((lo+hi) / 2) j=p[(lo+hi) / 2]:=by rw[cR,O];rfl
   rw[eg];by_cases hc:p[(lo+hi) / 2]<j
   ·rw[if_pos hc]
    refine ZeP h j J _ _ (by omega) U (by omega) (λi x o0 e=>?_) h5;by_cases e1:i=(lo+hi) / 2
    ·subst e1
     rw[O] at e;cases e;exact hc
    ·exact jE (h.lt (by omega) e O) hc
   ·rw[if_neg hc]
    refine ZeP h j J _ _ (by omega) (by omega) (by omega) Y λi x o0 e=>?_;by_cases e1:i=(lo+hi) / 2
    ·subst e1
     rw[O] at e;cases e;omega
    ·have:=h.lt (by omega) O e
     omega
  ·rw[if_neg M]
   have:lo=hi:=by omega
   subst this;exact⟨U,Y,h5⟩
theorem Zbq {p:Array Nat}(h:VW p)(j:Nat):Ze9 p j (below p j):=ZeP h j _ _ _ (aX _) (Zq _) (by omega) (λi x J=>absurd J (gh _)) (λi x J e=>by
 rw[cQ J] at e;cases e)
theorem Ze9.uniq {p:Array Nat}{j k J:Nat}(a:Ze9 p j k)(b:Ze9 p j J):k=J:=by
 have M:∀{k J:Nat},Ze9 p j k->Ze9 p j J->¬k<J:=λ{k J} a b O=>by
  have U:k<p.size:=aE O b.le;have e:p[k]?=some p[k]:=aP U;have Y:=b.lo k _ O e;have h2:=a.hi k _ (Zq _) e;omega
 have:=M a b;have:=M b a;omega
theorem VW.insert {p:Array Nat}(h:VW p){j:Nat}(O:p[below p j]?≠some j):VW (insertAt p (below p j) j):=by
 have c:=Zbq h j;generalize below p j=k at c O;unfold VW;rw[toList_insertAt];have U:∀y∈p.toList.take k,y<j:=λy J=>by
  obtain⟨i,hi,rfl⟩:=List.mem_take_iff_getElem.mp J;have:i<p.size:=by rw[<-Zr];omega
  exact c.lo i _ (by omega) (by rw[aP this];simp)
 have Y:∀y∈p.toList.drop k,j<y:=λy J=>by
  obtain⟨i,hi,rfl⟩:=List.mem_drop_iff_getElem.mp J;have M:k+i<p.size:=by rw[Zr] at hi;omega
  have h1:=c.hi (k+i) p[k+i] (by omega) (by rw[aP M]);have h2:p[k+i]≠j:=λz=>by
   by_cases e:i=0
   ·subst e
    exact O (by rw[<-z];exact aP (by simpa using M))
   ·have hk:k<p.size:=by omega
    have h3:=h.lt (i:=k) (j:=k+i) (by omega) (aP hk) (aP M);have h4:=c.hi k _ (Zq _) (aP hk);omega
  show j<p.toList[k+i];rw[Array.getElem_toList];omega
 rw[iM];refine⟨dk (jt k _) h,?_,λa ha b hb=>?_⟩
 ·rw[mX]
  exact⟨Y,dk (List.drop_sublist k _) h⟩
 ·rcases aH.mp hb with hb|hb
  ·rw[hb];exact U a ha
  ·exact jE (U a ha) (Y b hb)
theorem VY {t:SetTable}(Y:t.dummies=#[]){hashAt:Nat->Int}{h:Int}:∀(J:Nat) (p:Probe),p.dummy=none->∀{j:Nat}{d:Option Nat},probe.go t hashAt h J p=some (.empty j d)->t.slot j=.empty/\d=none
 |0,p,_,j,d,e=>by
  unfold probe.go at e;cases e
 |J+1,p,O,j,d,e=>by
  unfold probe.go at e;cases M:t.slot p.j with
  |empty=>
   rw[M] at e;dsimp only at e;have e:=aA e;injection e with e1 e2;subst e1;exact⟨M,by rw[<-e2];exact O⟩
  |dummy=>
   exfalso;unfold nq at M;dsimp only at M;split at M
   ·cases M
   ·split at M
    ·rename_i U
     unfold has at U;rw[Y] at U;simp at U
    ·cases M
  |live i=>
   rw[M] at e;dsimp only at e;split at e
   ·cases e
   ·refine VY Y J _ ?_ e
    unfold advance;split
    ·exact O
    ·exact O
theorem Zhb {t:SetTable}(U:t.dummies=#[]){h:Int}{j:Nat}{b:Bool}(e:t.freeSlot h=some (j,b)):t.place[below t.place j]?≠some j:=by
 unfold SetTable.freeSlot at e;split at e
 ·rename_i Y d' e'
  have e:=aA e;injection e with M e2;obtain⟨J,h2⟩:=VY U _ _ rfl e';subst h2;have M:Y=j:=M;subst M;unfold nq at J;dsimp only at J;split at J
  ·cases J
  ·rename_i O
   intro z;exact O (by rw[z];simp)
 ·cases e
structure Wk (t:SetTable)(led:Bool):Prop where
 rise:VW t.place
 dum:t.dummies=#[]
 led:t.led=led
theorem Zet (n:Nat):VW (Array.range n):=by
 unfold VW;rw[Array.toList_range];exact iu
theorem Wk.standIn {t:SetTable}{led:Bool}(h:t.led=led)(n:Nat):Wk (t.standIn n) led:=⟨Zet n,rfl,h⟩
theorem Wk.lay {t:SetTable}{led:Bool}(W:Wk t led)(M:Array (Int×Value))(h:Int)(x:Value):Wk (layNew t M h x).2.1 led:=by
 unfold layNew;split
 ·rename_i slot O e
  try dsimp only
  have j:=Zhb W.dum e;have J:Wk (t.put slot).1 led:=by
   unfold put
   try dsimp only
   refine⟨W.rise.insert j,?_,W.led⟩
   try dsimp only
   rw[W.dum];unfold has;simp
  unfold SetTable.orStandIn;split
  ·exact J
  ·exact .standIn J.led _
 ·exact .standIn W.led _
theorem Zld {n:Nat}(g:Nat->Option Nat):(((ac n).filterMap λj=>(g j).map (j,·)).map (·.1)).Pairwise (· < ·):=by
 have e:∀l:TY,(l.filterMap λj=>(g j).map (j,·)).map (·.1)=l.filter λj=>(g j).isSome:=λl=>by
  induction l with
  |nil=>rfl
  |cons a l J=>
   rw[cD,fU];cases h:g a with
   |none=>rw[Option.map_none];dsimp only;rw[J];rfl
   |some b=>rw[jO];dsimp only;rw[aB,J];rfl
 rw[e];exact dk mL iu
theorem Wk.relay {t:SetTable}{led:Bool}(W:Wk t led)(O:Array (Int×Value))(j:Nat):Wk (relayAll t O j).2.1 led:=by
 unfold relayAll;split
 ·rename_i t' J e
  try dsimp only
  split
  ·dsimp only
   unfold relaid laid at e;cases U:layClean (sizeAbove j-1) (O.map (·.1)) with
   |none=>rw[U] at e;cases e
   |some M=>
    rw[U] at e;have e:=aA e;injection e with Y e2;subst Y;refine⟨?_,rfl,W.led⟩;unfold VW;exact Zld _
  ·exact .standIn W.led _
 ·exact .standIn W.led _
theorem Wk.plain {t:SetTable}{led:Bool}(W:Wk t led)(b:Bool):Wk {t with plain:=b} led:=⟨W.rise,W.dum,W.led⟩
theorem Wk.fresh (led:Bool):Wk (SetTable.fresh 0 0 led) led:=⟨f7,rfl,rfl⟩
theorem ZfQ {p:Array Nat}(h:VW p){i:Nat}{slot:Nat}(O:i<=p.size)(M:(i=0/\slot=0)\/(∃j x,i=j+1/\p[j]?=some x/\slot=x+1)):below p slot=i:=by
 refine (Zbq h slot).uniq ⟨O,λk x U e=>?_,λk x U e=>?_⟩
 ·rcases M with ⟨rfl,_⟩|⟨j,y,rfl,J,rfl⟩
  ·omega
  ·by_cases Y:k=j
   ·subst Y
    rw[J] at e;cases e;omega
   ·have:=h.lt (by omega) e J
    omega
 ·rcases M with ⟨_,rfl⟩|⟨j,y,rfl,J,rfl⟩
  ·omega
  ·have:=h.lt (by omega) J e
   omega
theorem XQ {α:Type}:∀{l:List α}{i:Nat}{x:α},l[i]?=some x->ci (x::l.eraseIdx i) l
 | [],i,x,e=>by cases e
 |a::l,0,x,e=>by cases e;exact di _
 |a::l,i+1,x,e=>by
  rw[List.getElem?_cons_succ] at e;rw[lB];exact (jH a x _).trans ((XQ e).cons a)
theorem ZaZ {α:Type}(next:Nat->Nat):∀(j k:Nat) (left:List α) (out:Array α),left.length<=j->ci (ke next j k left out).toList (out.toList++left)
 |0,k,left,out,h=>by
  have:left=[]:=ig.mp (by omega);subst this;unfold ke;rw[ft]
 |j+1,k,left,out,h=>by
  unfold ke;split
  ·rename_i x e
   have J:=(ab.mp e).1;refine (ZaZ next j (k+1) _ _ (by rw[eP];split <;> omega)).trans ?_
   rw[m8,eh];refine kB _ ?_;exact XQ e
  ·rename_i e
   have:left=[]:=by
    rcases left with _|⟨a,l⟩
    ·rfl
    ·exfalso
     rw[gH] at e;have:=bX (next k) (show 0<(a::l).length by rw[Zi];omega);omega
   subst this;rw[ft]
theorem WS {α:Type}(next:Nat->Nat)(xs:Array α):ci (pickOrder next xs).toList xs.toList:=by
 unfold pickOrder;have:=ZaZ next xs.size 0 xs.toList #[] (by rw[Zr];exact Zq _);simpa using this
end PyS
namespace PyS
open PySem
theorem Z1:Slot "set_iterator" "__next__" "set_iterator.__next__":=
 .of (owner:="set_iterator") (n:="__next__") (by rw[typeLookup_type,nR];kernel_rfl) (by decide +kernel) (by decide +kernel) (by decide +kernel)
  (by first|exact .inl (by decide +kernel)|exact .inr (by decide +kernel)) (by rw[lL];kernel_rfl)
theorem Ws:entryFor table "set_iterator.__next__"=some cM.«set_iterator.__next__»:=entryFor_of_tree (by kernel_rfl)
theorem Zdh:Manifest.owners.lookup (String.ofList ['r','o','t','a','r','e','t','i','_','t','e','s'].reverse)=some Manifest.sig_set_iterator:=by kernel_rfl
theorem WL (a:Value):argsOk "set_iterator.__next__" ⟨[a],[]⟩:=by
 unfold argsOk;rw[signature?_of (id:="set_iterator.__next__") (n:=['_','_','t','x','e','n','_','_']) (o:=['r','o','t','a','r','e','t','i','_','t','e','s']) (by kernel_rfl) Zdh];kernel_rfl
theorem X8:Slot "set_iterator" "__iter__" "set_iterator.__iter__":=
 .of (owner:="set_iterator") (n:="__iter__") (by rw[typeLookup_type,nR];kernel_rfl) (by decide +kernel) (by decide +kernel) (by decide +kernel)
  (by first|exact .inl (by decide +kernel)|exact .inr (by decide +kernel)) (by rw[lL];kernel_rfl)
theorem ZaJ:entryFor table "set_iterator.__iter__"=some cM.«dict_keyiterator.__iter__»:=entryFor_alias (id':="dict_keyiterator.__iter__") (by kernel_rfl) rfl (by decide +kernel) (by kernel_rfl)
theorem ZcC (a:Value):argsOk "set_iterator.__iter__" ⟨[a],[]⟩:=by
 unfold argsOk;rw[signature?_of (id:="set_iterator.__iter__") (n:=['_','_','r','e','t','i','_','_']) (o:=['r','o','t','a','r','e','t','i','_','t','e','s']) (by kernel_rfl) Zdh];kernel_rfl
theorem Zaf:entryFor table "set.__iter__"=some cM.«frozenset.__iter__»:=entryFor_alias (id':="frozenset.__iter__") (by kernel_rfl) rfl (by decide +kernel) (by kernel_rfl)
def JP (h:Heap)(a:Addr)(j:Array (Int×Value))(ep:Nat)(t:SetTable):Prop:=∃o,h.get? a=some o/\o.ExactSet/\o.data=.set j ep t/\t.fits j.size=true
def Wb (h:Heap)(I:Addr)(first:Value)(i:Nat)(a:Addr)(n ep:Nat):Prop:=∃o,h.get? I=some o/\o.cls=.type "set_iterator"/\o.data=.fields #[first,.int i 0,.ref a,.int n 0,.int ep 0]
theorem JP.keep {h h':Heap}{a:Addr}{j:Array (Int×Value)}{ep:Nat}{t:SetTable}(S:JP h a j ep t)(k:∀o,h.get? a=some o->h'.get? a=some o):JP h' a j ep t:=let ⟨o,e,r⟩:=S;⟨o,k o e,r⟩
theorem Wb.keep {h h':Heap}{I:Addr}{first:Value}{i:Nat}{a:Addr}{n ep:Nat}(S:Wb h I first i a n ep)(k:∀o,h.get? I=some o->h'.get? I=some o):Wb h' I first i a n ep:=let ⟨o,e,r⟩:=S;⟨o,k o e,r⟩
section
variable {I a:Addr}{es:Array (Int×Value)}{ep:Nat}{t:SetTable}{first:Value}{i n:Nat}
theorem Wb.typeIs (h:Wb s.heap I first i a n ep):s.TypeIs (.ref I) "set_iterator":=let ⟨o,e,c,_⟩:=h;⟨o,e,c⟩
theorem JP.typeIs (h:JP s.heap a es ep t):s.TypeIs (.ref a) "set":=let ⟨o,e,c,_⟩:=h;⟨o,e,c.1⟩
theorem JP.state (h:JP s.heap a es ep t){Q:(Array (Int×Value)×Nat×SetTable)->Shared->Prop}(q:Q (es,ep,t) s):wpAny (model prog w) A (setState a) Q E s:=let ⟨_,e,_,d,f⟩:=h;wpAny_setState_of e d f q
theorem JP.entries (h:JP s.heap a es ep t){Q:Array (Int×Value)->Shared->Prop}(q:Q es s):wpAny (model prog w) A (setEntries a) Q E s:=by
 unfold setEntries;exact Zl (h.state (Zm q))
theorem JP.epoch (h:JP s.heap a es ep t){Q:Nat->Shared->Prop}(q:Q ep s):wpAny (model prog w) A (setEpoch a) Q E s:=by
 unfold setEpoch;exact Zl (h.state (Zm q))
theorem ZcB {Q:Bool->Shared->Prop}(q:Q (w.params.followText "set-order") s):wpAny (model prog w) A setsByText Q E s:=by
 unfold setsByText;exact Zl (kG (Zm q))
theorem Wb.turn {h:Heap}{o:Obj}(e:h.get? I=some o)(c:o.cls=.type "set_iterator")(d:o.data=.fields #[first,.int i 0,.ref a,.int n 0,.int ep 0])(next:Value) :
  Wb ((h.update I (gY (·.setIfInBounds 0 next))).update I (gY (·.setIfInBounds 1 (rawInt ((i:Int)+1))))) I next (i+1) a n ep:=by
 have J:=bM (gY (·.setIfInBounds 0 next)) e (c7 (bJ d _));have j:=bJ d (·.setIfInBounds 0 next);refine⟨_,bM _ J (c7 (bJ j _)),?_,?_⟩
 ·rw[gN,gN,c]
 ·rw[bJ j]
  simp[rawInt]
theorem Zdp {slot:Nat}{Q:Option Value->Shared->Prop}(j:Wb s.heap I (.int slot 0) i a n ep)(M:JP s.heap a es ep t)(O:es.size=n){x:Value}{nx:Nat}
  (U:∀{R:Option (Value×Nat)->Shared->Prop}{Y:Around}{E':TW},R (some (x,nx)) s->wpAny (model prog w) Y (setNext a slot i ep) R E' s)
  (q:∀h',Wb h' I (.int nx 0) (i+1) a n ep->bq I s.heap h'->Q (some x) {s with heap:=h'}):wpAny (model prog w) A (pyNext (.ref I)) Q E s:=by
 obtain⟨o,e,c,d⟩:=id j;unfold pyNext;refine Zl (eG (a8 (name:=cN "__next__") j.typeIs Z1 (ba Z1 j.typeIs Ws ?_ (WL _))));unfold cM.«set_iterator.__next__»;refine Zl (Zm ?_);refine Zl (jh e d ?_);refine Zl (M.entries ?_);rw[O];rw[if_neg (by simp)];show wpAny _ _ (setNext a slot i ep >>= _) _ _ s;refine Zl (U ?_)
 try dsimp only
 refine Zl (dI e d (by simp) ?_);have h1:=bM (gY (·.setIfInBounds 0 (rawInt nx))) e (c7 (bJ d _));have d1:=bJ d (·.setIfInBounds 0 (rawInt nx));refine Zl (dI h1 d1 (by simp) ?_);exact Zm ⟨_,rfl,Zm (q _ (Wb.turn e c d _) ((bQ ..).trans (bQ ..)))⟩
theorem ZcT {h:Heap}{Q:Option Value->Shared->Prop}{F:Fin->Shared->Prop}(j:A.handled=none)(q:∀h',(∀b o,h.get? b=some o->h'.get? b=some o)->Q none {s with heap:=h'}) :
  wpAny (model prog w) A.in1 (do let x <-newExc (.type "StopIteration") [];raiseNew (α:=Fin) x) F (λe s'=>wpAny (model prog w) A (do let b <-isInstance e (.type "StopIteration");if b=true then pure none else throw e) Q E s') {s with heap:=h}:=by
 refine Zl ?_;unfold newExc newTuple;refine Zl (bm (Q:=_) ?_ (by size_fits));refine Zl (m:=firstArgMember _ _) (kO (a:=b9) (by first|rfl|(unfold firstArgMember;rfl)) ?_)
 refine bm (Q:=_) ?_ (by size_fits);unfold raiseNew;refine Zl (wpAny_handled ?_);rw[show A.in1.handled=none from j];refine Zl (Zm (wpAny_throw ?_));refine Zl (iH (T:="StopIteration") (b:=true) ⟨_,Zo _ rfl,rfl⟩ lM ?_);exact Zm (q _ λb o e=>Zn _ (Zn _ e))
theorem Zgb {slot:Nat}{Q:Option Value->Shared->Prop}(O:A.handled=none)(j:Wb s.heap I (.int slot 0) i a n ep)(U:JP s.heap a es ep t)(Y:es.size=n)
  (hN:∀{R:Option (Value×Nat)->Shared->Prop}{A':Around}{E':TW},R none s->wpAny (model prog w) A' (setNext a slot i ep) R E' s)
  (q:∀h',(∀b o,b≠I->s.heap.get? b=some o->h'.get? b=some o)->Q none {s with heap:=h'}):wpAny (model prog w) A (pyNext (.ref I)) Q E s:=by
 obtain⟨o,e,c,d⟩:=id j;unfold pyNext;refine Zl (eG (a8 (name:=cN "__next__") j.typeIs Z1 (ba Z1 j.typeIs Ws ?_ (WL _))));unfold cM.«set_iterator.__next__»;refine Zl (Zm ?_);refine Zl (jh e d ?_);refine Zl (U.entries ?_);rw[Y];rw[if_neg (by simp)];show wpAny _ _ (setNext a slot i ep >>= _) _ _ s;refine Zl (hN ?_)
 try dsimp only
 refine Zl (dI e d (by simp) ?_);exact ZcT O λh' k=>q h' λb M hb e'=>k b M ((bQ s.heap I _).extBut b M hb e')
theorem ZfP (j:w.params.followText "set-order"=true)(J:JP s.heap a es ep t){slot:Nat}{R:Option (Value×Nat)->Shared->Prop}
  (q:R (((pickOrder (w.params.setOrder a ep) es)[i]?).map λe=>(e.2,slot)) s):wpAny (model prog w) A (setNext a slot i ep) R E s:=by
 unfold setNext;refine Zl (J.state ?_)
 try dsimp only
 refine Zl (ZcB ?_);rw[j,if_pos rfl,if_neg (by simp)];refine Zl ?_;unfold setWalk;refine Zl (J.state ?_)
 try dsimp only
 refine Zl (ZcB ?_);rw[j,if_pos rfl];exact Zl (kG (Zm (Zm q)))
theorem Zdl (J:w.params.followText "set-order"=false)(M:JP s.heap a es ep t)(hd:t.plain=true\/es.size<=1)(O:t.led=true){slot:Nat}{R:Option (Value×Nat)->Shared->Prop}
  (q:R (match es[mQ t.place slot]?,t.place[mQ t.place slot]? with|some (_,x),some j=>some (x,j+1)|_,_=>none) s):wpAny (model prog w) A (setNext a slot i ep) R E s:=by
 unfold setNext;refine Zl (M.state ?_)
 try dsimp only
 refine Zl (ZcB ?_);rw[J,if_neg (by decide)];show wpAny _ _ (if (!t.plain && decide (es.size > 1))=true then _ else _) _ _ s
 rw[if_neg (by
  rcases hd with hd|hd
  ·rw[hd];simp
  ·rw[decide_eq_false (by omega),Bool.and_false];decide)]
 show wpAny _ _ ((if (!t.led && !es.isEmpty)=true then _ else _) >>= _) _ _ s
 rw[O];exact Zl (Zm (Zm q))
theorem ZeG {T0:Addr}{J:Array Value}{pl:Nat}{Q:Option Value->Shared->Prop}(j:Wb s.heap I (.ref T0) i a n ep)(U:∃o k,s.heap.get? T0=some o/\o.data=.seq J k)(M:JP s.heap a es ep t)(Y:es.size=n)(hp:J[i]?=some (.int pl 0)){h:Int}{x:Value}(hx:es[pl]?=some (h,x))
  (q:∀h',Wb h' I (.ref T0) (i+1) a n ep->bq I s.heap h'->Q (some x) {s with heap:=h'}):wpAny (model prog w) A (pyNext (.ref I)) Q E s:=by
 obtain⟨o,e,c,d⟩:=id j;obtain⟨ot,k,et,dt⟩:=U;unfold pyNext;refine Zl (eG (a8 (name:=cN "__next__") j.typeIs Z1 (ba Z1 j.typeIs Ws ?_ (WL _))));unfold cM.«set_iterator.__next__»;refine Zl (Zm ?_);refine Zl (jh e d ?_);refine Zl (M.entries ?_);rw[Y];rw[if_neg (by simp)];show wpAny _ _ (seqItems? (.ref T0) >>= _) _ _ s;refine Zl (cG et dt ?_)
 try dsimp only
 rw[Zj,hp];show wpAny _ _ (setNextDrawn a pl ep >>= _) _ _ s;refine Zl ?_;unfold setNextDrawn;refine Zl (M.state ?_)
 try dsimp only
 rw[if_neg (by simp),hx];refine Zm ?_;refine Zl (dI e d (by simp) ?_);refine Zm ⟨_,rfl,Zm (q _ ⟨_,bM _ e (c7 (bJ d _)),?_,?_⟩ (bQ ..))⟩
 ·rw[gN,c]
 ·rw[bJ d]
  simp[rawInt]
theorem Zhe {T0:Addr}{J:Array Value}{Q:Option Value->Shared->Prop}(U:A.handled=none)(j:Wb s.heap I (.ref T0) i a n ep)(Y:∃o k,s.heap.get? T0=some o/\o.data=.seq J k)(hS:JP s.heap a es ep t)(hn:es.size=n)(hp:J[i]?=none)
  (q:∀h',(∀b o,b≠I->s.heap.get? b=some o->h'.get? b=some o)->Q none {s with heap:=h'}):wpAny (model prog w) A (pyNext (.ref I)) Q E s:=by
 obtain⟨o,e,c,d⟩:=id j;obtain⟨ot,k,et,dt⟩:=Y;unfold pyNext;refine Zl (eG (a8 (name:=cN "__next__") j.typeIs Z1 (ba Z1 j.typeIs Ws ?_ (WL _))));unfold cM.«set_iterator.__next__»;refine Zl (Zm ?_);refine Zl (jh e d ?_);refine Zl (hS.entries ?_);rw[hn];rw[if_neg (by simp)];show wpAny _ _ (seqItems? (.ref T0) >>= _) _ _ s;refine Zl (cG et dt ?_)
 try dsimp only
 rw[Zj,hp]
 try dsimp only
 refine Zl (dI e d (by simp) ?_);have h1:=bM (gY (·.setIfInBounds 0 (rawInt 0))) e (c7 (bJ d _));have d1:=bJ d (·.setIfInBounds 0 (rawInt 0));refine Zl (dI h1 d1 (by simp) ?_);exact ZcT U λh' k=>q h' λb O hb e'=>k b O (((bQ s.heap I _).trans (bQ _ I _)).extBut b O hb e')
theorem Zhp {src:Source}{m:Nat}{Q:Nat->Shared->Prop}(j:m≠0)(q:∀k J,k<m->Q k {s with drawn:=J}):wpAny (model prog w) A (choose src m) Q E s:=λ_ _ _=>⟨j,q _ _ (bX _ (by omega))⟩
theorem Zbg {α:Type}:∀(m:Nat) (xs:List α) {s:Shared}{Q:List α->Shared->Prop},xs.length<=m->(∀ys M,ci ys xs->Q ys {s with drawn:=M})->wpAny (model prog w) A (drawOrder m xs) Q E s
 |0,xs,s,Q,h,q=>by
  have:xs=[]:=ig.mp (by omega);subst this;unfold drawOrder;exact Zm (q [] s.drawn (di _))
 |m+1,[],s,Q,h,q=>by
  unfold drawOrder;exact Zm (q [] s.drawn (di _))
 |m+1,x::xs,s,Q,h,q=>by
  unfold drawOrder;refine Zl (Zhp (by rw[Zi];omega) λk M j=>?_);rw[Zf j]
  try dsimp only
  refine Zl (Zbg m _ (by rw[eP,if_pos j];omega) λys J O=>Zm ?_);exact q _ J ((O.cons _).trans (XQ (Zf j)))
end
section
variable {I a:Addr}{es:Array (Int×Value)}{ep:Nat}{t:SetTable}{first:Value}{i n:Nat}
theorem ZbU {Q:TW}(j:Wb s.heap I first i a n ep)(q:Q (.ref I) s):wpAny (model prog w) A (pyIter (.ref I)) Q E s:=by
 refine wpAny_pyIter_slot j.typeIs X8 (ba X8 j.typeIs ZaJ ?_ (ZcC _));show wpAny _ _ (ret (.ref I)) _ _ s;exact Zm ⟨_,rfl, "set_iterator",_,j.typeIs,Z1.lookup,q⟩
def XY (es:Array (Int×Value)):List Value:=es.toList.map (·.2)
theorem Zgx (hh:A.handled=none)(U:w.params.followText "set-order"=true)(J:a≠I) :
  Walks prog w A I [I,a] [I] es.size (λi v=>((pickOrder (w.params.setOrder a ep) es).toList.map (·.2))[i]?=some v) (λi h=>Wb h I (.int 0 0) i a es.size ep/\JP h a es ep t) where
 sub:=λb hb=>by simp at hb;simp[hb]
 frame:=λ_ _ _ st k=>⟨st.1.keep λo e=>k I (by simp) o e,st.2.keep λo e=>k a (by simp) o e⟩
 item:=λi s Q E hi st j=>by
  have M:=WS (w.params.setOrder a ep) es;have hl:(pickOrder (w.params.setOrder a ep) es).size=es.size:=by rw[<-Zr,M.length_eq,Zr]
  have e:(pickOrder (w.params.setOrder a ep) es)[i]?=some ((pickOrder (w.params.setOrder a ep) es)[i]'(by omega)):=aP (by omega);generalize (pickOrder (w.params.setOrder a ep) es)[i]'(by omega)=y at e;refine Zdp (slot:=0) (x:=y.2) (nx:=0) st.1 st.2 rfl (λ{R A' E'} r=>ZfP U st.2 (by rw[e];exact r)) λO i' Y=>?_;refine j y.2 O s.toks ?_ ⟨i',st.2.keep λo e=>Y.extBut a o J e⟩ λb o hb e=>Y.extBut b o (λz=>hb (by simp[z])) e;rw[Zc,cf,e];rfl
 done:=λs Q E st j=>by
  have M:=WS (w.params.setOrder a ep) es;have hl:(pickOrder (w.params.setOrder a ep) es).size=es.size:=by rw[<-Zr,M.length_eq,Zr]
  refine Zgb (slot:=0) hh st.1 st.2 rfl (λ{R A' E'} r=>ZfP U st.2 (by rw[cQ (by omega)];exact r)) λO k=>j O s.toks λb o hb e=>k b o (λz=>hb (by simp[z])) e
 self:=λ_ _ _ _ st j=>ZbU st.1 j
theorem Zd2 (hh:A.handled=none)(ht:w.params.followText "set-order"=false)(hd:t.plain=true\/es.size<=1)(W:Wk t true)(Y:a≠I) :
  Walks prog w A I [I,a] [I] es.size (λi v=>(XY es)[i]?=some v) (λi h=>∃slot:Nat,((i=0/\slot=0)\/(∃j x,i=j+1/\t.place[j]?=some x/\slot=x+1))/\Wb h I (.int slot 0) i a es.size ep/\JP h a es ep t) where
 sub:=λb hb=>by simp at hb;simp[hb]
 frame:=λ_ _ _ st k=>by
  obtain⟨slot,O,M,J⟩:=st;exact⟨slot,O,M.keep λo e=>k I (by simp) o e,J.keep λo e=>k a (by simp) o e⟩
 item:=λi s Q E hi st U=>by
  obtain⟨slot,O,M,J⟩:=st;have hf:t.place.size=es.size:=by
   obtain⟨_,_,_,_,f⟩:=J;simp only[nv,ae,beq_iff_eq] at f;exact f.1
  have hb:=ZfQ W.rise (i:=i) (slot:=slot) (by omega) O;have e1:es[i]?=some es[i]:=aP hi;have e2:t.place[i]?=some (t.place[i]'(by omega)):=aP (by omega);generalize es[i]=y at e1;generalize t.place[i]'(by omega)=j at e2;refine Zdp (slot:=slot) (x:=y.2) (nx:=j+1) M J rfl (λ{R A' E'} r=>Zdl ht J hd W.led (by rw[hb,e1,e2];exact r)) λh' i' sb=>?_;refine U y.2 h' s.toks ?_ ⟨j+1,.inr ⟨i,j,rfl,e2,rfl⟩,i',J.keep λo e=>sb.extBut a o Y e⟩ λb o hb e=>sb.extBut b o (λz=>hb (by simp[z])) e;show (es.toList.map (·.2))[i]?=some y.2;rw[Zc,cf,e1];rfl
 done:=λs Q E st U=>by
  obtain⟨slot,O,M,J⟩:=st;have hf:t.place.size=es.size:=by
   obtain⟨_,_,_,_,f⟩:=J;simp only[nv,ae,beq_iff_eq] at f;exact f.1
  have hb:=ZfQ W.rise (i:=es.size) (slot:=slot) (by omega) O;refine Zgb (slot:=slot) hh M J rfl (λ{R A' E'} r=>Zdl ht J hd W.led (by rw[hb,cQ (Zq _)];exact r)) λh' k=>U h' s.toks λb o hb e=>k b o (λz=>hb (by simp[z])) e
 self:=λ_ _ _ _ st U=>by
  obtain⟨slot,O,M,J⟩:=st;exact ZbU M U
theorem Zd3 (hh:A.handled=none){T0:Addr}{j:TY}(M:ci j (ac es.size))(o0:a≠I)(o5:T0≠I) :
  Walks prog w A I [I,a,T0] [I] es.size (λi v=>(j.filterMap λp=>(es[p]?).map (·.2))[i]?=some v) (λi h=>Wb h I (.ref T0) i a es.size ep/\JP h a es ep t/\∃o k,h.get? T0=some o/\o.data=.seq (j.map λ(p:Nat)=>rawInt p).toArray k) where
 sub:=λb hb=>by simp at hb;simp[hb]
 frame:=λ_ _ _ st k=>by
  obtain⟨U,O,o,k0,J,h4⟩:=st;exact⟨U.keep λo e=>k I (by simp) o e,O.keep λo e=>k a (by simp) o e,o,k0,k T0 (by simp) o J,h4⟩
 item:=λi s Q E hi st Y=>by
  obtain⟨U,O,J⟩:=st;have hl:j.length=es.size:=by rw[M.length_eq,Zg]
  have e0:j[i]?=some (j[i]'(by omega)):=Zf (by omega);have hm:j[i]'(by omega)<es.size:=af.mp (M.mem_iff.mp (be _));generalize j[i]'(by omega)=pl at e0 hm;have e1:es[pl]?=some es[pl]:=aP hm;generalize es[pl]=y at e1;obtain⟨hv,x⟩:=y;refine ZeG (pl:=pl) U J O rfl (by simp[e0,rawInt]) e1 λh' i' sb=>?_;obtain⟨o,k0,J,h4⟩:=J;refine Y x h' s.toks ?_ ⟨i',O.keep λo e=>sb.extBut a o o0 e,o,k0,sb.extBut T0 o o5 J,h4⟩ λb o hb e=>sb.extBut b o (λz=>hb (by simp[z])) e;have all:∀(l:TY),(∀p∈l,p<es.size)->(l.filterMap λp=>(es[p]?).map (·.2))=l.map λp=>(es.getD p (0,.none)).2:=λl=>by
   induction l with
   |nil=>intro _;rfl
   |cons p l ih=>
    intro h;have M:=h p aD;rw[cD,aP M,jO,aB,ih λq hq=>h q (aF _ hq)]
    try dsimp only
    rw[cR,aP M];rfl
  rw[all j λp hm=>af.mp (M.mem_iff.mp hm),Zc,e0,jO,cR,e1];rfl
 done:=λs Q E st Y=>by
  obtain⟨U,O,J⟩:=st;have hl:j.length=es.size:=by rw[M.length_eq,Zg]
  refine Zhe hh U J O rfl (by rw[cQ (by simp[hl])]) λh' k=>Y h' s.toks λb o hb e=>k b o (λz=>hb (by simp[z])) e
 self:=λ_ _ _ _ st Y=>ZbU st.1 Y
theorem Zic (hz:es.size<=sizeLine)(M:JP s.heap a es ep t)(W:Wk t (!w.params.followText "set-order")){Q:TW}
  (q:∀(I:Addr) (fp:TU) (h':Heap) (dr:lU) (L:List Value) (St:Nat->Heap->Prop),s.heap.objs.size<=I->(∀b∈fp,b=a\/s.heap.objs.size<=b)->(∀b o,s.heap.get? b=some o->h'.get? b=some o)->ci L (XY es)->
   (∀A':Around,A'.handled=none->Walks prog w A' I fp [I] es.size (λi v=>L[i]?=some v) St)->St 0 h'->Q (.ref I) {s with heap:=h',drawn:=dr}) :
  wpAny (model prog w) A (pyIter (.ref a)) Q E s:=by
 have ha:a<s.heap.objs.size:=let ⟨o,e,_⟩:=M;Zp e;refine wpAny_pyIter_slot M.typeIs F.slot_set_iter (ba F.slot_set_iter M.typeIs Zaf ?_ (F.args_set_iter_1 _));unfold cM.«frozenset.__iter__»;show wpAny _ _ (pure a >>= _) _ _ s;refine Zl (Zm ?_);refine Zl ?_;unfold Builtin.Frozenset.sizeOf;refine Zl (M.entries (Zm ?_));refine Zl ?_;unfold setDrawn;refine Zl (M.state ?_)
 try dsimp only
 refine Zl (ZcB (Zm ?_));show wpAny _ _ (if (!w.params.followText "set-order" && (!t.plain && decide (es.size > 1)))=true then _ else _) _ _ s
 by_cases J:(!w.params.followText "set-order" && (!t.plain && decide (es.size > 1)))=true
 ·rw[if_pos J]
  refine Zl (Zbg _ _ (by rw[Zg];exact Zq _) λO dr hp=>?_);have hl:O.length=es.size:=by rw[hp.length_eq,Zg]
  unfold newTuple;refine Zl (bm ?_ (by show (jv (λ(i:Nat)=>rawInt i) O).toArray.size<=sizeLine;rw[Zh,Za,hl];exact hz));have h1:(s.heap.push {cls:=.type "tuple",data:=.seq (jv (λ(i:Nat)=>rawInt i) O).toArray}).get? s.heap.objs.size=some {cls:=.type "tuple",data:=.seq (jv (λ(i:Nat)=>rawInt i) O).toArray}:=Zo _ rfl;have Y:∀b o,s.heap.get? b=some o->(s.heap.push {cls:=.type "tuple",data:=.seq (jv (λ(i:Nat)=>rawInt i) O).toArray}).get? b=some o:=λb o e=>Zn _ e;have o0:(s.heap.push {cls:=.type "tuple",data:=.seq (jv (λ(i:Nat)=>rawInt i) O).toArray}).objs.size=s.heap.objs.size+1:=bF ..;generalize s.heap.push {cls:=.type "tuple",data:=.seq (jv (λ(i:Nat)=>rawInt i) O).toArray}=g1 at h1 Y o0 ⊢;have o5:JP g1 a es ep t:=M.keep λo e=>Y a o e;refine Zl (JP.epoch (s:={s with heap:=g1,drawn:=dr}) o5 ?_);refine Zl ?_;unfold newFields;refine bm (Zm ⟨_,rfl, "set_iterator",_,⟨_,Zo _ rfl,rfl⟩,Z1.lookup,?_⟩) (by size_fits);refine q g1.objs.size [g1.objs.size,a,s.heap.objs.size] _ dr _ (λi h=>Wb h g1.objs.size (.ref s.heap.objs.size) i a es.size ep/\JP h a es ep t/\∃o k,h.get? s.heap.objs.size=some o/\o.data=.seq (O.map λ(p:Nat)=>rawInt p).toArray k) (by omega) (λb hb=>?_) (λb o e=>Zn _ (Y b o e)) ?_
   (λA' hh=>Zd3 hh hp (ay (by rw[o0];exact cB ha)) (ay (by rw[o0];exact dA _))) ⟨⟨_,Zo _ rfl,rfl,rfl⟩,o5.keep λo e=>Zn _ e,_,_,Zn _ h1,rfl⟩
  ·simp only[aH,eY,or_false] at hb
   rcases hb with rfl|rfl|rfl
   ·right;omega
   ·left;rfl
   ·right;omega
  ·refine (hp.filterMap _).trans ?_
   have e:((ac es.size).filterMap λp=>(es[p]?).map (·.2))=XY es:=by
    unfold XY;rw[<-filterMap_getElem?_range es,List.map_filterMap]
   rw[e]
 ·rw[if_neg J]
  refine Zl (Zm ?_);refine Zl (M.epoch ?_);refine Zl ?_;unfold newFields;refine bm (Zm ⟨_,rfl, "set_iterator",_,⟨_,Zo _ rfl,rfl⟩,Z1.lookup,?_⟩) (by size_fits);have U:∀b∈[s.heap.objs.size,a],b=a\/s.heap.objs.size<=b:=λb hb=>by
   simp only[aH,eY,or_false] at hb;rcases hb with rfl|rfl
   ·right;omega
   ·left;rfl
  cases ht:w.params.followText "set-order" with
  |true=>
   refine q s.heap.objs.size [s.heap.objs.size,a] _ s.drawn _ (λi h=>Wb h s.heap.objs.size (.int 0 0) i a es.size ep/\JP h a es ep t) (Zq _) U (λb o e=>Zn _ e) ?_
    (λA' hh=>Zgx hh ht (ay ha)) ⟨⟨_,Zo _ rfl,rfl,rfl⟩,M.keep λo e=>Zn _ e⟩
   exact (WS _ es).map _
  |false=>
   rw[ht] at W J;refine q s.heap.objs.size [s.heap.objs.size,a] _ s.drawn _ (λi h=>∃slot:Nat,((i=0/\slot=0)\/(∃j x,i=j+1/\t.place[j]?=some x/\slot=x+1))/\Wb h s.heap.objs.size (.int slot 0) i a es.size ep/\JP h a es ep t) (Zq _) U (λb o e=>Zn _ e) (di _)
    (λA' hh=>Zd2 hh ht ?_ W (ay ha)) ⟨0,.inl ⟨rfl,rfl⟩,⟨_,Zo _ rfl,rfl,rfl⟩,M.keep λo e=>Zn _ e⟩
   cases hp:t.plain with
   |true=>exact .inl rfl
   |false=>
    rw[hp] at J;right;by_cases h1:es.size > 1
    ·exfalso
     apply J;simp[h1]
    ·omega
end
end PyS
namespace PyS
open PySem PySem.W PyProof.Rows PySem.Calls PyProof.V PySem.Spec
section
variable {a:Addr}{es:Array (Int×Value)}{ep:Nat}{t:SetTable}
theorem ZjB {r:Addr}{Q:Bool->Shared->Prop}(M:s.TypeIs (.ref r) "set")(h:Q false s):wpAny (model prog w) A (fR (.ref r)) Q E s:=by
 unfold fR;refine Zl (wpAny_specialOf M PySem.F.slot_set_len.lookup ?_);generalize J:("set.__len__":String)=O
 wp_delta
 rw[show splitId O=some ("set", "__len__") from by subst J;decide +kernel];subst J;refine Zl (iH (T:="set") (b:=true) M (by rw[lL];kernel_rfl) ?_);refine lh (λj=>absurd j (by decide)) (λ_=>?_);refine lh (λ_=>?_) (λj=>absurd (by decide +kernel) j);refine Zl (fk M ?_);exact Zm h
theorem Zjp {L:List Value}{ZI:Array Value}{n:Nat}(J:L.length=n)(h:iq (λi v=>L[i]?=some v) ZI n):ZI.toList=L:=by
 refine a6 λi=>?_;by_cases j:i<n
 ·have e:ZI[i]?=some (ZI[i]'(by rw[h.1];exact j)):=aP _
  rw[cf,e];exact (h.2 i _ e).symm
 ·rw[ag (by rw[Zr,h.1];omega),ag (by omega)]
structure Src (prog:Program)(w:World)(T:String)(a d:Addr)(n:Nat)(Good:(Nat->Value->Prop)->Prop)(OK:Heap->Prop):Prop where
 type:∀s:Shared,OK s.heap->s.TypeIs (.ref a) T
 there:∀s:Shared,OK s.heap->d<s.heap.objs.size
 keep:∀h h':Heap,OK h->(∀b o,h.get? b=some o->h'.get? b=some o)->OK h'
 notList:(cV T == cV "list")=false
 notTuple:(cV T == cV "tuple")=false
 hint:∀(A:Around) (E:TW) (s:Shared) (Q:Bool->Shared->Prop),OK s.heap->Q false s->wpAny (model prog w) A (fR (.ref a)) Q E s
 iter:∀(A:Around) (E:TW) (s:Shared) (Q:TW),OK s.heap->
  (∀(I:Addr) (fp:TU) (h':Heap) (dr:lU) (P:Nat->Value->Prop) (St:Nat->Heap->Prop),s.heap.objs.size<=I->(∀b∈fp,b=a\/b=d\/s.heap.objs.size<=b)->(∀b o,s.heap.get? b=some o->h'.get? b=some o)->Good P->
   (∀A':Around,A'.handled=none->Walks prog w A' I fp [I] n P St)->St 0 h'->Q (.ref I) {s with heap:=h',drawn:=dr})->wpAny (model prog w) A (pyIter (.ref a)) Q E s
section
variable {T:String}{d:Addr}{Good:(Nat->Value->Prop)->Prop}{OK:Heap->Prop}
theorem Zed {R:Result->Shared->Prop}(C:Src prog w T a d n Good OK)(hh:A.handled=none)(hz:n<=sizeLine)(o0:OK s.heap)(S:Addr)(o6:S≠a)(p7:S≠d)(res:Value)(Y:Nat)(hL:s.heap.get? S=some {cls:=.type "list",data:=.seq #[] Y})
  (hR:∀h' dr tk (J:Array Value) c' P,(∀b o,b≠S->s.heap.get? b=some o->h'.get? b=some o)->h'.get? S=some {cls:=.type "list",dict:=none,data:=.seq J c',slots:=#[]}->Good P->iq P J n->R (.ok (.ret res)) {s with heap:=h',drawn:=dr,toks:=tk}) :
  wpAny (model prog w) A.in1 (cg (.ref S) (.ref a) res)
   (λfin s'=>match fin with | .done f=>R (.ok f) s' | .again c'=>c'.quiet=true/\codeAny (model prog w) A c' R s') (λe s'=>R (.error e) s') s:=by
 have p8:S<s.heap.objs.size:=Zp hL;unfold cg;refine Zl (fk (T:=T) (C.type s o0) ?_);have h1:jq (.ref S) (.ref a)=false:=by simp[jq,o6]
 simp only[h1,C.notList,C.notTuple,i8,dH,if_false];refine Zl (C.iter _ _ _ _ o0 λI fp h' dr P St hI q0 hk hp o7 st=>?_);have o8:S∉fp:=λz=>by
  rcases q0 S z with e|e|e
  ·exact o6 e
  ·exact p7 e
  ·exact absurd p8 (Nat.not_lt.mpr e)
 have key:∀(h:Heap) (M tk:Nat),St 0 h->(∀b o,b≠S->s.heap.get? b=some o->h.get? b=some o)->
   h.get? S=some {cls:=.type "list",data:=.seq #[] M}->codeAny (model prog w) A (.builtin "list.extend.loop" ⟨[.ref S,.ref I,res],[]⟩) R {s with heap:=h,drawn:=dr,toks:=tk}:=by
  intro h M tk r6 hk j;refine codeAny_extend_loopS (o7 A.in1 hh).toS hz S o8 res n 0 _ #[] M rfl (aX _) r6 j (ItemsOf.nil _) λs' J c' hm r8 o9=>?_;rw[Moved.eq_with hm];refine hR s'.heap dr s'.toks J c' P (λb o hb e=>hm.heap b o (λO=>?_) (hk b o hb e)) r8 hp o9;rcases aH.mp O with e'|O
  ·exact hb e'
  ·exact absurd (Zp e) (by rw[aJ.mp O];exact Nat.not_lt.mpr hI)
 have j:=hk S _ hL;refine Zl (cn (C.hint _ _ {s with heap:=h',drawn:=dr} _ (C.keep _ _ o0 λb o e=>hk b o e) ?_));refine lh (λ_=>?_) (λ_=>Zm ⟨fG jY _,key _ Y _ st (λb o _ e=>hk b o e) j⟩);refine Zl (dW ?_);refine Zl ?_;show wpAny _ _ (updateSeq S (·.push .none) >>= λ_=>updateSeq S (·.pop)) _ _ _;refine Zl (wpAny_updateSeq j rfl ?_);have U:=bM (bR (·.push b9)) j rfl;refine wpAny_updateSeq (hz:=by seq_fits) U rfl ?_;have o5:=bM (bR (·.pop)) U rfl;refine Zm ⟨fG jY _,key _ _ _ ?_ (λb o hb e=>?_) o5⟩
 ·refine (o7 A.in1 hh).frame 0 _ _ st λb hb o e=>?_
  have p6:b≠S:=λh=>o8 (h▸hb);exact (bZ _ _ (bV p6)).trans ((bZ _ _ (bV p6)).trans e)
 ·exact (bZ _ _ (bV hb)).trans ((bZ _ _ (bV hb)).trans (hk b o e))
theorem ZcU {R:List Value->Shared->Prop}(C:Src prog w T a d n Good OK)(hh:A.handled=none)(hz:n<=sizeLine)(O:OK s.heap)
  (h:∀(h':Heap) (dr:lU) (tk:Nat) (ZI:Array Value) (P:Nat->Value->Prop),s.heap.objs.size<h'.objs.size->(∀b o,s.heap.get? b=some o->h'.get? b=some o)->Good P->iq P ZI n->R ZI.toList {s with heap:=h',drawn:=dr,toks:=tk}) :
  wpAny (model prog w) A (collect (.ref a)) R E s:=by
 have ha:a<s.heap.objs.size:=let ⟨o,e,_⟩:=C.type s O;Zp e;unfold collect;refine Zl (jg (cu entry_proto_collect' ?_));rw[cm jM _];show wpAny _ A.in1 (newList [] >>= λl=>again (.builtin "list.__iadd__" ⟨[l,.ref a],[]⟩)) _ _ s;refine Zl (bm ?_);refine Zm ⟨fG fj _,cu entry_list_iadd' ?_⟩;rw[cm fj _];have U:(s.heap.push {cls:=.type "list",data:=.seq ([]:List Value).toArray}).get? s.heap.objs.size=some {cls:=.type "list",data:=.seq #[]}:=Zo _ rfl;show wpAny _ A.in1 (cg (.ref s.heap.objs.size) (.ref a) (.ref s.heap.objs.size)) _ _ _;have o0:=Zed (prog:=prog) (w:=w) (A:=A) (s:={s with heap:=s.heap.push {cls:=.type "list",data:=.seq ([]:List Value).toArray}})
  (R:=λ(q:Result) (s':Shared)=>∃(h':Heap) (dr:lU) (tk:Nat) (j:Array Value) (Y:Nat) (P:Nat->Value->Prop),q=.ok (.ret (.ref s.heap.objs.size))/\s'={s with heap:=h',drawn:=dr,toks:=tk}/\
   (∀b o,s.heap.get? b=some o->h'.get? b=some o)/\h'.get? s.heap.objs.size=some {cls:=.type "list",dict:=none,data:=.seq j Y,slots:=#[]}/\Good P/\iq P j n)
  C hh hz (C.keep _ _ O λb o e=>Zn _ e) s.heap.objs.size (bB ha) (bB (C.there _ O)) (.ref s.heap.objs.size) 0 U
  (λh' dr tk j Y P hk M hg J=>⟨h',dr,tk,j,Y,P,rfl,rfl,λb o e=>hk b o (ay (Zp e)) (Zn _ e),M,hg,J⟩)
 refine cH o0 (λo5 s' x=>?_) λe s' x=>?_
 ·cases o5 with
  |done f=>
   obtain⟨h',dr,tk,j,Y,P,e,rfl,hk,M,hg,J⟩:=x;cases e;show wpAny _ A (load s.heap.objs.size >>= _) _ _ _;refine Zl (iR M ?_);exact Zm (h h' dr tk j P (Zp M) hk hg J)
  |again o6=>
   refine⟨x.1,fW x.2 λq o7 y=>?_⟩;obtain⟨h',dr,tk,j,Y,P,rfl,rfl,hk,M,hg,J⟩:=y;show wpAny _ A (load s.heap.objs.size >>= _) _ _ _;refine Zl (iR M ?_);exact Zm (h h' dr tk j P (Zp M) hk hg J)
 ·obtain⟨_,_,_,_,_,_,e',_⟩:=x
  cases e'
def ZeF:Value->Int
 | .int k _=>k
 |_=>0
theorem Zjy:∀{l:List Value}{ns:TX},bW l ns->ns=l.map ZeF
 |_,_,.nil=>rfl
 |_,_,.cons n t r=>by rw[aB,<-Zjy r];rfl
theorem Zjx:∀{l:List Value}{ns:TX},bW l ns->∀v∈l,∃k t,v=.int k t
 |_,_,.nil,v,h=>by cases h
 |_,_,.cons n t r,v,h=>by
  rcases aH.mp h with h|h
  ·exact⟨n,t,h⟩
  ·exact Zjx r v h
theorem Zjw:∀{l:List Value},(∀v∈l,∃k t,v=.int k t)->bW l (l.map ZeF)
 | [],_=>.nil
 |v::l,h=>by
  obtain⟨k,t,rfl⟩:=h v aD;exact .cons k t (Zjw λu j=>h u (aF _ j))
theorem ZlR {l j:List Value}{ns:TX}(p:ci j l)(h:bW l ns):bW j (j.map ZeF)/\ci (j.map ZeF) ns:=
 ⟨Zjw λv J=>Zjx h v (p.mem_iff.mp J),by rw[Zjy h];exact p.map _⟩
theorem Zec {Q:TW}(C:Src prog w T a d n Good OK)(hh:A.handled=none)(o6:n<64)(U:OK s.heap){ns:TX}(hi:∀P ZI,Good P->iq P ZI n->bW ZI.toList (ZI.toList.map ZeF)/\ci (ZI.toList.map ZeF) ns)
    (q:∀(D:Addr) (h':Heap) (Y:lU) (tk:Nat) (out:List Value) (j:TX) (c:Nat),s.heap.objs.size<=D->(∀b o,s.heap.get? b=some o->h'.get? b=some o)->h'.get? D=some (seqObj "list" out.toArray c)->bW out j->ci j ns->j.Pairwise (· ≤ ·)->Q (.ref D) {s with heap:=h',drawn:=Y,toks:=tk}) :
    wpAny (model prog w) A (call (.builtin "sorted") [.ref a]) Q E s:=by
  have hz : n ≤ sizeLine := by have:(16777216:Nat)=sizeLine:=by decide
                               omega
  refine ii kind_sorted nE nG (nH _) ?_;unfold cM.«sorted»;refine Zl (m:=checkCount "sorted" 1 1 _) (Zm ?_);refine Zl (ZcU (A:=A.in1) C hh hz U λh' Y tk ZI P O hk hg J=>?_);obtain⟨i1,i2⟩:=hi P ZI hg J;have hl:ZI.toList.length=n:=by rw[Zr];exact J.1
  generalize ZI.toList=M at i1 i2 hl ⊢;refine Zl (iy ?_ (by rw[hl];exact hz));have ho:(h'.push {cls:=.type "list",data:=.seq M.toArray}).get? h'.objs.size=some (seqObj "list" M.toArray 0):=Zo _ rfl;have o0:∀b o,s.heap.get? b=some o->(h'.push {cls:=.type "list",data:=.seq M.toArray}).get? b=some o:=λb o e=>Zn _ (hk b o e);refine Zl (cn ?_);refine ba lW ⟨_,ho,rfl⟩ ly (list_sort_tree (n:=0) (vs:=M) ho i1 (by omega) λout j hI o5 hP=>⟨.none,rfl,?_⟩) (lY _);refine Zm ⟨_,rfl,?_⟩;have o1:=i0 ho (λ_=>(#[]:Array Value));have o2:=Zn (seqObj "tuple" M.toArray 0) o1;have o3:=Zn (seqObj "list" #[] 0) o2;have o4:=i0 o3 (λ_=>out);refine q h'.objs.size _ Y tk out.toList j _ (dN O) (λb o e=>?_) (by rw[ma];exact o4) hI (o5.trans i2) hP;have hb:b≠h'.objs.size:=ay (jE (Zp e) O);unfold sortedHeap;rw[bZ _ _ (bV hb)];refine Zn _ (Zn _ ?_);rw[bZ _ _ (bV hb)];exact o0 b o e
end
theorem ZkH (hz:es.size<=sizeLine)(W:Wk t (!w.params.followText "set-order")):Src prog w "set" a a es.size (λP=>∃L:List Value,ci L (XY es)/\P=λi v=>L[i]?=some v) (λh=>JP h a es ep t) where
 type:=λs h=>JP.typeIs h
 there:=λs S=>let ⟨o,e,_⟩:=JP.typeIs (s:=s) S;Zp e
 keep:=λh M S k=>S.keep (k a)
 notList:=by decide
 notTuple:=by decide
 hint:=λA E s Q S q=>ZjB (JP.typeIs S) q
 iter:=λA E s Q S q=>Zic hz S W λI O M U L St Y j hk hp J st=>q I O M U _ St Y (λb hb=>(j b hb).elim .inl λz=>.inr (.inr z)) hk ⟨L,hp,rfl⟩ J st
theorem Zen {ns:TX}{Q:TW}(U:A.handled=none)(M:es.size<64)(Y:JP s.heap a es ep t)(W:Wk t (!w.params.followText "set-order"))(hi:bW (XY es) ns)
    (q:∀(D:Addr) (h':Heap) (dr:lU) (tk:Nat) (out:List Value) (j:TX) (c:Nat),s.heap.objs.size<=D->(∀b o,s.heap.get? b=some o->h'.get? b=some o)->h'.get? D=some (seqObj "list" out.toArray c)->bW out j->ci j ns->j.Pairwise (· ≤ ·)->Q (.ref D) {s with heap:=h',drawn:=dr,toks:=tk}) :
    wpAny (model prog w) A (call (.builtin "sorted") [.ref a]) Q E s:=by
  have hz : es.size ≤ sizeLine := by have:(16777216:Nat)=sizeLine:=by decide
                                     omega
  refine Zec (ZkH (ep:=ep) hz W) U M Y (ns:=ns) (λP ZI hg J=>?_) q;obtain⟨L,O,rfl⟩:=hg;rw[Zjp (by rw[O.length_eq];unfold XY;rw[Za,Zr]) J];exact ZlR O hi
section
variable {K:Type} [DecidableEq K]{knd:PySem.KeyKind prog w K}{kvs:List (K×Value)}
end
end
structure SX (prog:Program)(w:World)(h:Heap)(a:Addr)(es:Array (Int×Value))(ep:Nat)(t:SetTable)(S:Int->Bool)(n:Nat):Prop where
 at_:JP h a es ep t
 el:ElemsOf (intKind prog w) es.toList
 mem:∀k,S k=true↔∃e∈es.toList,(intKind prog w).is k e.2=true
 sb:es.size<scanBound
 sz:es.size=n
 wk:Wk t (!w.params.followText "set-order")
def Vy (prog:Program)(w:World)(h:Heap)(a:Addr)(S:Int->Bool)(n:Nat):Prop:=∃j J t,SX prog w h a j J t S n
section
variable {a:Addr}
theorem Vy.keep {h h':Heap}{S:Int->Bool}{n:Nat}(X:Vy prog w h a S n)(k:∀o,h.get? a=some o->h'.get? a=some o):Vy prog w h' a S n:=by
 obtain⟨j,J,t,X⟩:=X;exact⟨j,J,t,X.at_.keep k,X.el,X.mem,X.sb,X.sz,X.wk⟩
theorem Vy.congr {h:Heap}{S j:Int->Bool}{n J:Nat}(X:Vy prog w h a S n)(e:∀k,S k=j k)(M:n=J):Vy prog w h a j J:=by
 have:S=j:=funext e;subst this;subst M;exact X
theorem stored {h:Heap}{J es':Array (Int×Value)}{ep:Nat}{t t':SetTable}(S:JP h a J ep t)(hf:t'.fits es'.size=true):JP (h.update a (jo es' t')) a es' (ep+1) t':=by
 obtain⟨o,e,x,d,_⟩:=S;have j:=bM (jo es' t') e (by rw[putSet_of es' t' d];rfl);rw[putSet_of es' t' d] at j;exact⟨_,j,x,rfl,hf⟩
theorem Jp {j es':Array (Int×Value)}{ep:Nat}{t t':SetTable}{Q:Unit->Shared->Prop}(S:JP s.heap a j ep t)(hz:es'.size<=sizeLine)(q:Q () {s with heap:=s.heap.update a (jo es' t')}):wpAny (model prog w) A (storeSet a es' t') Q E s:=by
 obtain⟨o,e,x,d,_⟩:=S;exact wpAny_storeSet_of e d q hz
theorem ZdV {g:Bool->Sem Unit}(hg:∀(b:Bool) (U:Shared) (Q':Unit->Shared->Prop),Q' () U->wpAny (model prog w) A (g b) Q' E U){es j:Array (Int×Value)}{ep:Nat}{t J:SetTable}{led:Bool}(S:JP s.heap a es ep t)(hz:j.size<=sizeLine)(f2:J.fits j.size=true)(w2:Wk J led)
  {Y:Bool}{R:Option Bool->Shared->Prop} (fin:∀(h':Heap) (es':Array (Int×Value)) (o8:Nat) (t':SetTable),bq a s.heap h'->JP h' a es' o8 t'->ci es'.toList j.toList->Wk t' led->R (some true) {s with heap:=h'}) :
  wpAny (model prog w) A (do
    storeSet a j J
    if (!Y && J.tooFull)=true then do
      g (relayAll J j (dU j.size)).2.2
      storeSet a (relayAll J j (dU j.size)).1 (relayAll J j (dU j.size)).2.1
      pure (some true)
     else pure (some true)) R E s:=by
 refine Zl (Jp S hz ?_);have S2:=stored S (es':=j) f2;have o0:=bQ s.heap a (jo j J);generalize s.heap.update a (jo j J)=h2 at S2 o0 ⊢;by_cases M:(!Y && J.tooFull)=true
 ·rw[if_pos M]
  have O:=relayAll_perm J j (dU j.size);have o5:=relayAll_fits J j (dU j.size);have o6:=w2.relay j (dU j.size);generalize relayAll J j (dU j.size)=Rl at O o5 o6 ⊢;obtain⟨o7,t3,o9⟩:=Rl;dsimp only at O o5 o6 ⊢;have p6:o7.size=j.size:=by rw[<-Zr,O.length_eq,Zr]
  refine Zl (hg _ _ _ ?_);refine Zl (Jp (s:={s with heap:=h2}) S2 (by rw[p6];exact hz) ?_);exact Zm (fin _ o7 _ t3 (o0.trans (bQ _ a _)) (stored S2 o5) O o6)
 ·rw[if_neg M]
  exact Zm (fin h2 j _ J o0 S2 (di _) w2)
theorem add_int {S:Int->Bool}{n:Nat}{k:Int}{x:Value}{Q:Bool->Shared->Prop}(o5:(intKind prog w).is k x=true)(o9:x.scannable=true)(X:Vy prog w s.heap a S n)(p6:n+1<scanBound)
  (q:∀b h',bq a s.heap h'->Vy prog w h' a (λk'=>S k' || decide (k'=k)) (if S k then n else n+1)->Q b {s with heap:=h'}) :
  wpAny (model prog w) A (setAddHashed a x ((intKind prog w).hash k)) Q E s:=by
 obtain⟨es,ep,t,X⟩:=X;obtain⟨o,e1,e2,e3,e4⟩:=id X.at_;unfold setAddHashed setAddHashedIn;refine cn (Zl (X.at_.state ?_))
 try dsimp only
 rw[byScan_of o9 X.sb X.el];simp only[↓reduceIte];unfold setAddByScan;refine Zl (Zl (dW (Zl (wpAny_setScan_of o5 e1 e3 e4 X.el ?_))));cases hr:List.findIdx? (λe=>(intKind prog w).is k e.2) es.toList with
 |some j=>
  obtain⟨hj,r9,_⟩:=List.findIdx?_eq_some_iff_getElem.mp hr;have o8:S k=true:=(X.mem k).mpr ⟨_,be hj,r9⟩;refine Zm (Zm ?_);have:=q false s.heap (Heap.SameBut.refl a s.heap) ⟨es,ep,t,X.at_,X.el,λk'=>?_,X.sb,by rw[o8];exact X.sz,X.wk⟩
  ·exact this
  ·rw[bg,decide_eq_true_eq,<-X.mem k']
   exact⟨λh=>h.elim id λe=>by rw[e];exact o8,.inl⟩
 |none=>
  have o8:S k=false:=by
   cases hk:S k with
   |false=>rfl
   |true=>
    obtain⟨e,he,hp⟩:=(X.mem k).mp hk;have:=List.findIdx?_eq_none_iff.mp hr e he;rw[hp] at this;exact Bool.noConfusion this
  try dsimp only
  have J:=layNew_perm t es ((intKind prog w).hash k) x;have M:=layNew_fits t es ((intKind prog w).hash k) x;have o6:=X.wk.lay es ((intKind prog w).hash k) x;generalize layNew t es ((intKind prog w).hash k) x=L at J M o6 ⊢;obtain⟨o0,t1,t6,p8⟩:=L;dsimp only at J M o6 ⊢;rw[m8] at J;have t0:∀(b:Bool) {U:Shared}{Q':Unit->Shared->Prop},Q' () U->wpAny (model prog w) A (match b with|true=>rule "set.scan.the-table-gave-way" |false=>pure ()) Q' E U:=
   λb U Q' hq=>by cases b <;> first|exact Zm hq|exact dW hq
  have q0:o0.size=n+1:=by rw[<-Zr,J.length_eq,Zd,Zr,X.sz];rfl
  have t5:ElemsOf (intKind prog w) o0.toList:=(X.el.push o5 o9).perm J;have r6:∀k',(S k' || decide (k'=k))=true↔∃e∈o0.toList,(intKind prog w).is k' e.2=true:=mem_push_iff o5 X.mem J;have p7:o0.size<scanBound:=by rw[q0];exact p6
  have zl:∀m,m<scanBound->m<=sizeLine:=λm h=>fits_of_scanBound h;have r8:∀(h':Heap) (O:Array (Int×Value)) (Y:Nat) (t':SetTable),bq a s.heap h'->JP h' a O Y t'->ci O.toList o0.toList->Wk t' (!w.params.followText "set-order")->Q true {s with heap:=h'}:=λh' O Y t' sb at' hp o7=>by
   have hs:O.size=o0.size:=by rw[<-Zr,hp.length_eq,Zr]
   refine q true h' sb ⟨O,Y,t',at',t5.perm hp,λk'=>?_,by rw[hs];exact p7,by rw[o8,hs];exact q0,o7⟩;rw[r6 k'];exact⟨λ⟨e,he,r⟩=>⟨e,hp.mem_iff.mpr he,r⟩,λ⟨e,he,r⟩=>⟨e,hp.mem_iff.mp he,r⟩⟩
  refine Zl (t0 p8 ?_);split
  ·refine Zl ?_
   rw[hashByValue_scannable 8 o9];refine Zm ?_;refine ZdV (λb U Q' hq=>?_) X.at_ (zl _ p7) ?_ ?_ λh' O Y t' sb at' hp o7=>Zm (r8 h' O Y t' sb at' hp o7)
   ·cases b <;> first|exact Zm hq|exact dW hq
   ·split
    ·exact M
    ·exact SetTable.fits_plain_off M
   ·split
    ·exact o6
    ·exact o6.plain false
  ·refine Zl (Zm ?_)
   simp only[↓reduceIte];refine ZdV (λb U Q' hq=>?_) X.at_ (zl _ p7) M o6 λh' O Y t' sb at' hp o7=>Zm (r8 h' O Y t' sb at' hp o7);cases b <;> first|exact Zm hq|exact dW hq
end
section
variable {R:Result->Shared->Prop}{I:Addr}{fp wr:TU}{G:Array GenState->Array GenState->Prop}{P:Nat->Value->Prop}{St:Nat->Shared->Prop}
theorem ZhK (W:WalksS prog w A.in1 I fp wr G n P St)(S:Addr)(U:S∉fp)(val:Nat->Int)(Y:∀i v,P i v->∃t,v=.int (val i) t)(hb:n+1<scanBound) :
  ∀(k i:Nat) (s:Shared),n-i=k->i<=n->St i s->Vy prog w s.heap S (λO=>(firstMet val i).any (· == O)) (firstMet val i).length->
   (∀s',Moved (S::wr) G s s'->Vy prog w s'.heap S (λO=>(firstMet val n).any (· == O)) (firstMet val n).length->R (.ok (.ret .none)) s')->
   codeAny (model prog w) A (.builtin "set.update.loop" ⟨[.ref S,.ref I],[]⟩) R s:=by
 have o0:S∉wr:=λh=>U (W.sub _ h);have j:∀b∈wr,b∈S::wr:=λb hb=>aF _ hb;intro k;induction k with
 |zero=>
  intro i s hk hi J hS hR;have p6:i=n:=by omega
  subst p6;refine cu gO ?_;rw[cm dR _];show wpAny _ A.in1 (pyNext (.ref I) >>= _) _ _ s;refine Zl (W.done s _ _ J λs' hm=>?_);show wpAny _ A.in1 (ret b9) _ _ s';exact Zm (hR s' (hm.mono j) (hS.keep λo e=>hm.heap S o o0 e))
 |succ k ih=>
  intro i s hk hi J hS hR;have o5:i<n:=by omega
  refine cu gO ?_;rw[cm dR _];show wpAny _ A.in1 (pyNext (.ref I) >>= _) _ _ s;refine Zl (W.item i s _ _ o5 J λv s' hP o6 hm=>?_);obtain⟨t,rfl⟩:=Y i v hP;have p7:=hS.keep λo e=>hm.heap S o o0 e;show wpAny _ A.in1 (holding [iI (val i) t] (setAdd S (.int (val i) t)) >>= _) _ _ s';refine Zl (cn ?_);unfold setAdd;refine cn ?_;refine Zl ((intKind prog w).pyHash (k:=val i) (intKind_is _ _ _ _) ?_);have M:(firstMet val i).length+1<scanBound:=by have:=firstMet_length_le val i;omega
  refine add_int (s:={s' with toks:=s'.toks+1}) (intKind_is _ _ _ _) rfl p7 M λ_ h' o7 p8=>?_;have q0:Vy prog w h' S (λO=>(firstMet val (i+1)).any (· == O)) (firstMet val (i+1)).length:=
   p8.congr (λO=>by rw[mH,step_any]) (by rw[mH,step_length])
  refine Zm ⟨fG dR _,ih (i+1) _ (by omega) o5 (W.frame _ s' _ _ o6 (gP _) λb hb o e=>?_) q0 λr6 o8 o9=>?_⟩
  ·rw[o7.2 b (λh:b=S=>U (by rw[<-h];exact hb))];exact e
  ·refine hR r6 (Moved.trans W.gtrans ((hm.mono j).then_heap (gP _) λb o hb e=>?_) o8) o9
   rw[o7.2 b (λh:b=S=>hb (by rw[h];exact aD))];exact e
end
theorem ZkO (a:Value){Q₁:TW}
  (h:Q₁ (.ref s.heap.objs.size) {s with heap:=s.heap.push {cls:=.type "set",dict:=none,data:=.set #[] 0 (.fresh 0 0 (!w.params.followText "set-order"))}}) :
  codeAny (model prog w) A (.call (.builtin "set.__new__") ⟨[.type "set",a],[]⟩) (wants Q₁ E) s:=by
 refine lq ?_;show wpAny _ A.in1 (do checkBuiltinCall "set.__new__" ⟨[.type "set",a],[]⟩;again (.builtin "set.__new__" ⟨[.type "set",a],[]⟩)) _ _ s
 refine Zl (kO (PySem.F.newCall_set_1 a) (Zm ⟨fG kU _,cu PySem.F.entry_set_new ?_⟩));rw[cm kU _];unfold cM.«set.__new__» Builtin.Frozenset.newClass;have j:=sub_set_self;obtain⟨J,g,d,tk,os⟩:=s
 try dsimp only
 wp_walk
 refine kG (Zm ?_)
 try dsimp only
 simp only[newObj];refine Zl (wpAny_alloc (Zm ?_));exact Zm h
theorem ZlT {h:Heap}{a:Addr}(e:h.get? a=some {cls:=.type "set",dict:=none,data:=.set #[] 0 (.fresh 0 0 (!w.params.followText "set-order"))}):Vy prog w h a (λ_=>false) 0:=
 ⟨#[],0,_,⟨_,e,⟨rfl,rfl,rfl⟩,rfl,rfl⟩,λx j=>(by simp at j),λk=>(by simp),by unfold scanBound;decide,rfl,Wk.fresh _⟩
noncomputable abbrev Zgt (prog:Program)(w:World)(s:Shared)(ns:TX)(n:Nat)(h':Heap):Prop:=
 Vy prog w h' s.heap.objs.size (λj=>(L2.U5 ns n).any (· == j)) (L2.U5 ns n).length/\∀b o,b<s.heap.objs.size->s.heap.get? b=some o->h'.get? b=some o
theorem ZcY {l:Addr}{items:Array Value}{ns:TX}{Q:TW}(hh:A.handled=none)(hl:s.heap.IsList l items)(hi:bW items.toList ns)(hb:items.size+1<scanBound)
  (h:∀(h':Heap) (tk:Nat),Zgt prog w s ns items.size h'->Q (.ref s.heap.objs.size) {s with heap:=h',toks:=tk}):wpAny (model prog w) A (call (.type "set") [.ref l]) Q E s:=by
 obtain⟨c,tl,t5⟩:=cI.mro;have p6:=cI.made;have t6:=cI.sub;refine wpAny_call (lq ?_);show wpAny _ _ (callAny (.type "set") _) _ _ _;refine Zm ⟨mT _ (by decide +kernel),cu PySem.F.entry_type_call ?_⟩;rw[Around.under_plain (weight_type_call_type "set" [.ref l] []) rfl];have h1:=cI.notType;have h2:=cI.canCreate;have w6:=PySem.F.typeCall_set_1 (.ref l)
 repeat (any_goals (first|assumption|wp_step))
 let ob:Obj:={cls:=.type "set",dict:=none,data:=.set #[] 0 (.fresh 0 0 (!w.params.followText "set-order"))}
 refine fW (ZkO (.ref l) (E:=E) (Q₁:=λobj M=>obj=.ref s.heap.objs.size/\M={s with heap:=s.heap.push ob}) ⟨rfl,rfl⟩) λr M hr=>?_;cases r with
 |error e=>exact hr
 |ok fl=>
  cases fl with
  |ret obj=>
   obtain⟨rfl,rfl⟩:=hr;have hS:(s.heap.push ob).get? s.heap.objs.size=some ob:=Zo _ rfl;have hT:Shared.TypeIs {s with heap:=s.heap.push ob} (.ref s.heap.objs.size) "set":=⟨_,hS,rfl⟩;have w8:=cI.init.lookup;have w9:=cI.init.bind (.ref s.heap.objs.size)
   repeat (any_goals (first|assumption|wp_step))
   refine fW (codeAny_call_builtin (R:=wants (λr O=>r=.none/\∃h' tk,O={s with heap:=h',toks:=tk}/\Zgt prog w s ns items.size h') E) cI.init.plain PySem.F.entry_set_init (check_set_init_1 hT ?_)) λo5 O j=>?_
   ·obtain⟨ol,hol,o6,nl,o7⟩:=id hl
    obtain⟨t9,Y,p7,J⟩:=ol;simp only at o6 o7;subst o6;subst o7;have U:(s.heap.push ob).get? l=some {cls:=.type "list",dict:=Y,data:=.seq items nl,slots:=J}:=Zn _ hol;have u5:=PySem.F.sub_list_set;have u9:=PySem.F.sub_list_frozenset;have x6:(cV "list" == cV "dict")=false:=by decide
    have p8:(s.heap.push ob).IsList l items:=⟨_,U,rfl,nl,rfl⟩;unfold cM.«set.__init__» noKeywords Builtin.Frozenset.updateFrom;generalize q0:pyIter=PI
    wp_walk
    subst q0;refine fV p8 ?_;refine Zl (jg ?_);have o8:l<s.heap.objs.size:=Zp hol;have o9:l≠(s.heap.push ob).objs.size:=by rw[bF];exact ay (cB o8)
    have r6:s.heap.objs.size∉[(s.heap.push ob).objs.size,l]:=by
     rw[bF];intro z;rcases aH.mp z with z|z
     ·exact absurd z (ay (dA _))
     ·exact absurd (aJ.mp z) (bB o8)
    refine ZhK ((mD (A:=A.in1.in1.in1) (by simp[hh]) _ l o9 items).toS) s.heap.objs.size r6 (λi=>ns.getD i 0) (λi v hv=>IntsAre.int_at hi i v (by rw[cf];exact hv)) hb (items.size-0) 0 _ (by omega) (aX _)
     ⟨⟨_,Zo _ rfl,rfl,rfl⟩,⟨_,Zn _ U,rfl,nl,rfl⟩⟩ ?hS0 ?hR
    case hS0=>exact (ZlT (Zn _ hS)).congr (λ_=>rfl) rfl
    case hR=>
     intro s' hm r8;obtain⟨h',g',d',r9,t0⟩:=s';obtain rfl:g'=s.gens:=hm.gens;obtain rfl:d'=s.drawn:=hm.drawn;obtain rfl:t0=s.os:=hm.os;show wpAny _ _ _ _ _ _;refine Zm ?_;show wpAny _ _ (ret b9) _ _ _;refine Zm ⟨rfl,h',r9,rfl,r8,λb o hb e=>hm.heap b o (λz=>?_) (Zn _ (Zn _ e))⟩;rcases aH.mp z with z|z
     ·exact absurd z (ay hb)
     ·refine absurd (aJ.mp z) (ay ?_);rw[bF];exact cB hb
   ·cases o5 with
    |error e=>exact j
    |ok o0=>
     cases o0 with
     |ret r=>
      obtain⟨rfl,h',tk,rfl,he⟩:=j
      repeat (any_goals (first|assumption|wp_step))
      exact h _ _ he
     |_=>exact j.elim
  |_=>exact hr.elim
end PyS
namespace L2
open PySem PySem.Spec PyProof.Rows
theorem VZ:∀{M L:TX},M.Nodup->(∀x∈M,x∈L)->L.length=M.length->ci L M
 | [],L,_,_,h=>by
  have:L=[]:=ig.mp (by simpa using h);subst this;exact di _
 |x::M,L,j,O,h=>by
  have hx:=O x aD;have U:=List.perm_cons_erase hx;rw[bY] at j;refine U.trans ((VZ j.2 (λy Y=>?_) ?_).cons x)
  ·have J:y≠x:=λz=>j.1 (z▸Y)
   exact (mo J).mpr (O y (aF _ Y))
  ·have:=U.length_eq
   rw[Zi] at this;rw[Zi] at h;omega
theorem Zfd:∀{out:List Value}{ns:TX},bW out ns->ZN (ns.map V.int) out
 |_,_,.nil=>.nil
 |_,_,.cons n t r=>.cons ⟨t,rfl⟩ (Zfd r)
def Zid (prog:Program)(w:World)(a:Addr)(M:TX):HO:=.ext λh=>PyS.Vy prog w h a (λk=>M.any (· == k)) M.length
theorem Inv.drawn (I:Inv X pins σ H s)(d:lU):Inv X pins σ H {s with drawn:=d}:=⟨I.ok,I.os,I.bare,I.base,I.loc,I.cell,I.free,I.freeC,I.pin,I.hok,I.len⟩
inductive I_call_setL (K:aa) (P0:Program) (w0:World) (xs:TR) (H:Hp) (Q:VK):Prop
 |mk (a:Addr) (ns:TX):(xs=[.ref a])->(WZ K H a (ns.map V.int))->(ns.length<1000)->(∀p,H p=none->Q (.ref p) (upd H p (Zid P0 w0 p (U5 ns ns.length))))->I_call_setL K P0 w0 xs H Q
theorem Zht (U:X.calm=true):YI X (.type "set") (_root_.L2.I_call_setL X.K X.prog X.w):=by
 intro pins s σ H xs us Q I r h;obtain⟨a,ns,rfl,Y,hn,q⟩:=h;obtain⟨u,rfl,ru⟩:=vals1 r;cases ru;obtain⟨j,M,p,hz⟩:=I.list Y;have O:j.toArray.size=ns.length:=by rw[Zh,<-M.length,Za]
 refine PyS.ZcY (I.ok.hd U) p.isList (ns:=ns) (by simpa using Zf2 M) (by rw[O];unfold scanBound;omega) λh' tk ⟨J,e2⟩=>?_;rw[O] at J;refine⟨.ref _,_,I.laid (a:=s.heap.objs.size) (o:=Zid X.prog X.w s.heap.objs.size (U5 ns ns.length)) (t':=tk) (λb o e=>e2 b o (Zp e) e) (Zq _) ⟨J,?_,λh1 h2 x k=>x.keep k⟩,rfl,q _ (I.hok.fresh (Zq _))⟩;obtain⟨es,ep,t,⟨o,e,_⟩,_⟩:=J;exact⟨o,e⟩
inductive I_call_sortS (P0:Program) (w0:World) (xs:TR) (H:Hp) (Q:VK):Prop
 |mk (a:Addr) (M:TX):(xs=[.ref a])->(H a=some (Zid P0 w0 a M))->(M.Nodup)->(M.length<64)->(∀l ns,H l=none->ci ns M->ns.Pairwise (· ≤ ·)->Q (.ref l) (upd H l (.lst (ns.map V.int))))->I_call_sortS P0 w0 xs H Q
theorem Ze3 (hc:X.calm=true):YI X (.builtin "sorted") (_root_.L2.I_call_sortS X.prog X.w):=by
 intro pins s σ H xs us Q I r h;obtain⟨a,M,rfl,ha,hn,Y,q⟩:=h;obtain⟨u,rfl,ru⟩:=vals1 r;cases ru;obtain⟨J,_,_⟩:=(show YH X.prog X.w H s.heap a (Zid X.prog X.w a M) from I.hok a _ ha);obtain⟨es,ep,t,J⟩:=J;have O:∀v∈PyS.XY es,∃k tk,v=.int k tk:=λv hv=>by
  obtain⟨e,he,rfl⟩:=aC.mp hv;obtain⟨⟨k,hk,_⟩,_⟩:=J.el e he;obtain⟨tk,et⟩:=jj hk;exact⟨k,tk,et⟩
 have o0:=PyS.Zjw O;have hp:ci ((PyS.XY es).map PyS.ZeF) M:=by
  refine VZ hn (λx hx=>?_) ?_
  ·have hS:M.any (· == x)=true:=aZ.mpr ⟨x,hx,by simp⟩
   obtain⟨e,he,hk⟩:=(J.mem x).mp hS;obtain⟨tk,et⟩:=jj hk;refine aC.mpr ⟨e.2,aC.mpr ⟨e,he,rfl⟩,?_⟩;rw[et];rfl
  ·unfold PyS.XY
   rw[Za,Za,Zr];exact J.sz
 refine PyS.Zen (I.ok.hd hc) (by rw[J.sz];exact Y) J.at_ J.wk o0 λD h' dr tk out j c hD kp o5 hi U hP=>?_;have hl:ZN (j.map V.int) out:=Zfd hi;have sz:=Jv;have o6:j.length=M.length:=(U.trans hp).length_eq;refine⟨.ref D,_,(I.laid (a:=D) (o:=.lst (j.map V.int)) (t':=tk) kp hD ⟨by rw[Za];omega,out,c,hl,o5⟩).drawn dr,rfl,q _ j (I.hok.fresh hD) (U.trans hp) hP⟩
end L2
namespace C30
open PySem L2 PySem.Spec PyProof.Rows
noncomputable def tq (i:Nat):Stmt:=gE.main.body.getD i (.Pass ⟨0,0,0,0⟩)
structure BlB (mg:TV):Prop where
 list:mg "list"=none
 len:mg "len"=none
 range:mg "range"=none
 tuple:mg "tuple"=none
 max:mg "max"=none
 sorted:mg "sorted"=none
def tpK (c l n:Int):List (YQ×V):=[(.inr "cell",.int c),(.inr "left",.int l),(.inr "turn",.int n)]
def YS (H:Hp)(p:Addr)(b:Nat):Prop:=∃c l n:Int,H p=some (.dK (tpK c l n))/\0<=l/\0<=n/\n<=b
theorem YS.mono {H j:Hp}{p:Addr}{b:Nat}(s:Same H j)(h:YS H p b):YS j p b:=by
 obtain⟨c,l,n,J,M⟩:=h;exact⟨c,l,n,s _ _ J,M⟩
theorem YS.le {H:Hp}{p:Addr}{b j:Nat}(h:YS H p b)(hb:b<=j):YS H p j:=by
 obtain⟨c,l,n,J,M,O,U⟩:=h;exact⟨c,l,n,J,M,O,by omega⟩
theorem Zom {H:Hp}{p:Addr}{c l n:Int}(h:H p=some (.dK (tpK c l n))):Xe H p (.str "cell") (some (.int c)):=Xe.k (k:=.inr "cell") h
theorem ZeR {H:Hp}{p:Addr}{c l n:Int}(h:H p=some (.dK (tpK c l n))):Xe H p (.str "left") (some (.int l)):=Xe.k (k:=.inr "left") h
theorem Zol {H:Hp}{p:Addr}{c l n:Int}(h:H p=some (.dK (tpK c l n))):Xe H p (.str "turn") (some (.int n)):=Xe.k (k:=.inr "turn") h
theorem ZnG {H:Hp}{p:Addr}{c l n j:Int}(h:H p=some (.dK (tpK c l n))):Uf H p (.str "left") (.int j) (upd H p (.dK (tpK c j n))):=Uf.k (k:=.inr "left") h (by rw[ji];show 3<_;omega)
theorem ZnF {H:Hp}{p:Addr}{c l n j:Int}(h:H p=some (.dK (tpK c l n))):Uf H p (.str "turn") (.int j) (upd H p (.dK (tpK c l j))):=Uf.k (k:=.inr "turn") h (by rw[ji];show 3<_;omega)
theorem _root_.L2.Same.upd2 {H:Hp}{p:Addr}{o j:HO}(h:H p=none):Same H (upd (upd H p o) p j):=λb u e=>by
 have hb:b≠p:=λz=>by rw[z,h] at e;cases e
 rw[Zy hb,Zy hb];exact e
def Tk (p:Addr)(H j:Hp):Prop:=∀b o,H b=some o->b≠p->j b=some o
theorem Tk.of {p:Addr}{H j:Hp}(s:Same H j):Tk p H j:=λb o e _=>s b o e
theorem Tk.trans {p:Addr}{H j J:Hp}(a:Tk p H j)(b:Tk p j J):Tk p H J:=λc o e n=>b c o (a c o e n) n
theorem Tk.refl {p:Addr}{H:Hp}:Tk p H H:=λ_ _ e _=>e
theorem YS.ne {H:Hp}{p a:Addr}{b:Nat}{o:HO}(h:YS H p b)(e:H a=some o)(J:∀j,o≠.dK j):a≠p:=λz=>by
 obtain⟨c,l,n,M,_⟩:=h;rw[z,M] at e;exact J _ (aA e).symm
theorem YS.neN {H:Hp}{p a:Addr}{b:Nat}(h:YS H p b)(e:H a=none):a≠p:=λz=>by
 obtain⟨c,l,n,j,_⟩:=h;rw[z,j] at e;cases e
theorem Tk.tup {p a:Addr}{H j:Hp}{b:Nat}{xs:TR}(d:Tk p H j)(T:YS H p b)(h:H a=some (.tup xs)):j a=some (.tup xs):=d a _ h (T.ne h λ_ z=>by cases z)
theorem Tk.lst {p a:Addr}{H j:Hp}{b:Nat}{xs:TR}(d:Tk p H j)(T:YS H p b)(h:H a=some (.lst xs)):j a=some (.lst xs):=d a _ h (T.ne h λ_ z=>by cases z)
inductive Zef (K:aa) (vs:TR) (H:Hp) (Q:VK) (E03:XK):Prop
 |mk (a:Addr) (ns:TX) (i:Nat):(vs=[.ref a,.int i])->(WZ K H a (ns.map V.int))->(ns.length<=63)->(∀p H',Same H H'->H p=none->YS H' p 0->Q (.ref p) H')->Zef K vs H Q E03
inductive VC (vs:TR) (H:Hp) (Q:VK) (E03:XK):Prop
 |mk (p:Addr) (m:Int) (b:Nat):(vs=[.ref p,.int m])->(YS H p b)->(b<2 ^ 60)->(0<m)->(m<1073741824)->(∀r H',0<=r->r<m->Tk p H H'->YS H' p (b+1)->Q (.int r) H')->VC vs H Q E03
theorem Zlp (F:Wf K "_law_pick" "_law_pick" (tq 51) f fd):ZW P w K mg base ZY 1 f fd ["_law_tape_here", "_law_many"] VC:=by
 refine F.ok (FS (N:=["_law_tape_here", "_law_many", "_law_turn", "_law_found", "_law_stirred"])) (λvs H Q E h=>?_) (λM A O s H vs Q E hr h=>?_)
 ·obtain⟨p,m,b,rfl,_⟩:=h;rfl
 ·obtain⟨p,m,b,rfl,⟨c,l,n,Y,l0,n0,nb⟩,hb,m0,m1,q⟩:=h
  have j:(A.deeper (envOfC "_law_pick" (Yc (tq 51)) s.heap.objs.size f M)).units+1<cLine:=by have:=hr.un;omega
  refine⟨_,Zu (ZK 2 rfl (Zz YD (Xl j (vn 0) Je (λ_ _=>rfl)) Zw))
   (Zu (Us j (vn 0) Je (vn 2) (by rfl))
   (Zu (YU (ZM Zdi (Xl j (vn 0) Je (λ_ _=>rfl)) Zw (ZO _))
    (Zu (ZK 3 rfl (Zz Yb (Xl j (vn 0) Je (λ_ _=>rfl)) (vn 1)))
    (Zu (Us j (vn 0) Je (Zz JA (Xl j (vn 0) Je (λ_ _=>rfl)) (vn 1)) (by rfl))
    (Zv (ZE (vn 3))))) Z2)
   (Zu (ZK 4 rfl (Zz Z0 (Zz YD (Zz YD (Zz Yb (Xl j (vn 0) Je (λ_ _=>rfl)) Zw) (Zz Z0 (Zz Z0 Zw (vn 2)) (vn 2))) Zw) Zw))
   (Zu (ZK 4 rfl (Zz Z0 (Zz YD (Zz Yb (vn 4) Zw) (Zz Z0 Zw (vn 2))) Zw))
   (Zv (ZE (Zz Yb (Zz JA (Zz Yb (vn 4) Zw) Zw) (vn 1)))))))),?_⟩
  refine⟨_,rfl,p,_,rfl,Zol Y,_,_,rfl,rfl,?_⟩;refine⟨_,rfl,_,rfl,p,_,rfl,ZnF Y,?_⟩;have J:upd H p (.dK (tpK c l (n+1))) p=some (.dK (tpK c l (n+1))):=Zt;have U:Tk p H (upd H p (.dK (tpK c l (n+1)))):=λb o e hb=>by rw[Zy hb];exact e
  generalize upd H p (.dK (tpK c l (n+1)))=H2 at J U ⊢;refine⟨_,rfl,p,_,rfl,ZeR J,_,_,rfl,rfl,_,rfl,?_⟩;refine Y6 (λh=>?_) (λh=>?_)
  ·refine⟨_,rfl,p,_,rfl,ZeR J,_,rfl,_,_,rfl,rfl,m0,?_⟩
   refine⟨_,rfl,p,_,rfl,ZeR J,_,rfl,_,_,rfl,rfl,⟨m0,m1⟩,_,rfl,p,_,rfl,ZnG J,?_⟩;refine⟨_,rfl,q _ _ (dh _ (by omega)) (c6 _ m0) (U.trans λb o e hb=>by rw[Zy hb];exact e) ⟨c,l / m,n+1,Zt,Int.ediv_nonneg l0 (by omega),by omega,by omega⟩⟩
  ·refine⟨_,rfl,p,_,rfl,Zom J,_,_,rfl,rfl,(by show (0:Int)<_;decide),_,rfl,_,_,rfl,rfl,.inl ⟨by decide,by decide⟩,_,rfl,_,_,rfl,rfl,.inr ⟨by omega,by omega⟩,_,_,rfl,rfl,_,_,rfl,rfl,_,_,rfl,rfl,.inr ⟨by decide,by decide⟩,?_⟩
   refine⟨_,rfl,_,_,rfl,rfl,(by show (0:Int)<_;decide),_,rfl,_,_,rfl,rfl,.inl ⟨by decide,by decide⟩,_,_,rfl,rfl,_,_,rfl,rfl,.inr ⟨by decide,by decide⟩,?_⟩;refine⟨_,rfl,_,_,rfl,rfl,(by show (0:Int)<_;decide),_,_,rfl,rfl,⟨by decide,by decide⟩,_,rfl,_,_,rfl,rfl,m0,?_⟩;exact q _ _ (dh _ (by omega)) (c6 _ m0) U ⟨c,l,n+1,J,l0,by omega,by omega⟩
theorem Zln (F:Wf K "_law_tape" "_law_tape" (tq 50) f fd)(T:BlB mg):ZW P w K mg base ZY 1 f fd ["_law_script", "_law_at"] (Zef K):=by
 refine F.ok (FS (N:=["_law_script", "_law_at", "_law_cell"])) (λY H Q E h=>?_) (λo0 A O s H Y Q E hr h=>?_)
 ·obtain⟨a,ns,i,rfl,_⟩:=h;rfl
 ·obtain⟨a,ns,i,rfl,M,hn,q⟩:=h
  refine⟨_,Zu (ZK 2 rfl (vn 1))
   (Zu (YU (ZM Zdi (cb (YL K) T.len (pc (vn 0) Zs)) Zw (ZO _))
    (Zv (ZK 2 rfl (Zz YD (ZU (ixL K) (vn 0) (Zz Yb (vn 1) (cb (YL K) T.len (pc (vn 0) Zs))) (λ_ _=>rfl)) (Zz JA (vn 1) (cb (YL K) T.len (pc (vn 0) Zs)))))) Z2)
   (Zv (ZE (Zk8 (UZ Je (vn 2) (UZ Je (cb (Zhw rfl) T.max (pc Zw (pc (Zz Y3 (vn 2) (Zz ZnJ Zw Zw)) Zs))) (UZ Je Zw Zk3))) rfl rfl (by simp) (by decide))))),?_⟩
  have len:(ns.map V.int).length=ns.length:=j6 ..;refine⟨_,rfl,_,rfl,a,_,rfl,.inl M,_,_,rfl,rfl,_,rfl,?_⟩;refine Y6 (λh=>?_) (λh=>?_)
  ·have h:(0:Int)<(ns.map V.int).length:=of_decide_eq_true h
   rw[len] at h;have m0:=dh (i:Int) (show (ns.length:Int)≠0 by omega);have m1:=c6 (i:Int) h;obtain⟨j,ej⟩:=a7 m0;have hj:j<ns.length:=by omega
   have U:Xy (ns.map V.int) (j:Int)=some (.int (ns[j])):=ZR (by rw[Zc,Zf hj];rfl);refine⟨_,rfl,_,rfl,_,rfl,a,_,rfl,.inl M,?_⟩;rw[len];refine⟨_,_,rfl,rfl,h,?_⟩
   try dsimp only
   rw[ej];refine⟨a,_,_,_,rfl,rfl,M,U,_,rfl,_,rfl,a,_,rfl,.inl M,?_⟩;rw[len];refine⟨_,_,rfl,rfl,⟨h,by omega⟩,_,_,rfl,rfl,?_⟩;intro p J;refine⟨_,rfl,_,rfl,_,_,rfl,rfl,⟨by decide,by decide,by decide⟩,_,_,rfl,rfl,_,_,rfl,Zt,tpK (ns[j]+(i:Int) / (ns.length:Int)) (if (ns[j]+(i:Int) / (ns.length:Int))-10 ^ (18:Int).toNat > 0 then (ns[j]+(i:Int) / (ns.length:Int))-10 ^ (18:Int).toNat else 0) 0,rfl,(show 3<=15 by decide),?_⟩
   refine q p _ (Same.upd2 J) J ⟨_,_,0,Zt,?_,by decide,by decide⟩;split <;> omega
  ·generalize (i:Int)=c
   intro p J;refine⟨_,rfl,_,rfl,_,_,rfl,rfl,⟨by decide,by decide,by decide⟩,_,_,rfl,rfl,_,_,rfl,Zt,tpK c (if c-10 ^ (18:Int).toNat > 0 then c-10 ^ (18:Int).toNat else 0) 0,rfl,(show 3<=15 by decide),?_⟩
   refine q p _ (Same.upd2 J) J ⟨_,_,0,Zt,?_,by decide,by decide⟩;split <;> omega
end C30
namespace Tb
def ZT (t:T7)(a b:Nat):Nat:=(t.getD a []).getD b 0
def it (t:T7)(a:Nat):Nat->Nat
 |0=>0
 |k+1=>ZT t (it t a k) a
structure Rd (t:T7)(a r:Nat):Prop where
 r1:1<=r
 rn:r<=t.length
 dv:t.length % r=0
 z:it t a r=0
 nz:∀k,1<=k->k<r->it t a k≠0
 bk:ZT t a (it t a (r-1))=0
 un:∀b,b<t.length->ZT t a b=0->b=it t a (r-1)
structure PW (t:T7):Prop where
 n1:1<=t.length
 n60:t.length<=60
 len:∀row∈t,row.length=t.length
 lt:∀a b,a<t.length->b<t.length->ZT t a b<t.length
 one:∀a,a<t.length->ZT t 0 a=a
 rd:∀a,a<t.length->∃r,Rd t a r
 oneR:∀a,a<t.length->ZT t a 0=a
 ass:∀a b c,a<t.length->b<t.length->c<t.length->ZT t (ZT t a b) c=ZT t a (ZT t b c)
section
variable {a r:Nat}
theorem W6 (P:PW t)(j:a<t.length):∀k,it t a k<t.length
 |0=>P.n1
 |k+1=>P.lt _ _ (W6 P j k) j
theorem Zjr (P:PW t)(j:a<t.length):it t a 1=a:=P.one a j
theorem Zof (R:Rd t a r)(k:Nat):it t a (r+k)=it t a k:=by
 induction k with
 |zero=>exact R.z
 |succ k j=>rw[Nat.add_succ,it,it,j]
theorem Zad (R:Rd t a r)(k:Nat):it t a k=it t a (k % r):=by
 have J:=R.r1;induction k using Nat.strongRecOn with
 |_ k j=>
  by_cases h:k<r
  ·rw[bf h]
  ·have e:k=r+(k-r):=by omega
   rw[nJ (by omega),<-j (k-r) (by omega),<-Zof R (k-r),<-e]
end
def rdB (t:T7)(n a:Nat):Nat->Nat->Nat->Bool
 |0,_,_=>false
 |f+1,k,prev=>
  let x:=ZT t prev a
  match x with
  |0=>decide (n % (k+1)=0) && decide (k+1<=n) && decide (ZT t a prev=0) && ((ac n).all λb=>decide (b=prev) || !decide (ZT t a b=0))
  |y+1=>rdB t n a f (k+1) (y+1)
def fq1 {β:Type}(m:Nat)(k:Nat->β):β:=match m with
 |0=>k 0
 |m+1=>k (m+1)
theorem ZjG {β:Type}(m:Nat)(k:Nat->β):fq1 m k=k m:=by cases m <;> rfl
def fql {β:Type}:TY->(TY->β)->β
 | [],k=>k []
 |x::j,k=>fq1 x λy=>fql j λJ=>k (y::J)
theorem Zco {β:Type}:∀(a:TY) (k:TY->β),fql a k=k a
 | [],k=>rfl
 |x::j,k=>by rw[fql,ZjG,Zco j]
def ZoN (ZI:TY)(y:Nat):TY:=if ZI.contains y then ZI else ZI++[y]
def Zhz (t:T7)(gens:TY):Nat->Nat->TY->TY
 |0,_,ZI=>ZI
 |f+1,i,ZI=>match ZI[i]? with
  |none=>ZI
  |some x=>fql (gens.foldl (λZI g=>fq1 (ZT t x g) λy=>ZoN ZI y) ZI) λZI=>Zhz t gens f (i+1) ZI
def Zf3 (t:T7):Nat->Nat->TY->TY->TY
 |0,_,gens,_=>gens
 |f+1,a,gens,ZI=>if ZI.contains a then Zf3 t f (a+1) gens ZI else fql (Zhz t (gens++[a]) t.length 0 [0]) λZI=>Zf3 t f (a+1) (gens++[a]) ZI
def liB (t:T7)(g:Nat):Bool:=decide (g<t.length) && t.all λj=>(t.getD (j.getD g 0) [] == (t.getD g []).map λc=>j.getD c 0)
def asG (t:T7)(gens:TY):Bool:=gens.all (liB t) && fql (Zhz t gens t.length 0 [0]) λZI=>(ac t.length).all λa=>ZI.contains a
def asB (t:T7):Bool:=fql (Zf3 t t.length 0 [] [0]) (asG t)
def ZpY (t:T7):Bool:=decide (1<=t.length) && decide (t.length<=60) && (t.all λrow=>decide (row.length=t.length) && row.all λx=>decide (x<t.length)) && ((ac t.length).all λa=>decide (ZT t 0 a=a) && rdB t t.length a t.length 0 0)
def pwB (t:T7):Bool:=ZpY t && ((ac t.length).all λa=>decide (ZT t a 0=a)) && asB t
def Pr (t:T7)(a:Nat):Prop:=a<t.length/\∀x y,x<t.length->y<t.length->ZT t (ZT t x a) y=ZT t x (ZT t a y)
theorem Zqa {t:T7}(Y:∀row∈t,row.length=t.length){g:Nat}(h:liB t g=true):Pr t g:=by
 unfold liB at h;simp only[ax,ae,beq_iff_eq,decide_eq_true_eq] at h;obtain⟨J,h⟩:=h;refine⟨J,λx y O hy=>?_⟩;have hm:t.getD x []∈t:=by
  rw[Zb,Zf O];exact be O
 have M:t.getD g []∈t:=by
  rw[Zb,Zf J];exact be J
 have h1:=h _ hm;unfold ZT;rw[h1];have o0:=Y _ M;generalize t.getD g []=U at *;have j:y<U.length:=by omega
 rw[Zb,Zc,Zf j,Zb (l:=U),Zf j];rfl
theorem Pr.times {t:T7}(lt:∀a b,a<t.length->b<t.length->ZT t a b<t.length){a g:Nat}(j:Pr t a)(J:Pr t g):Pr t (ZT t a g):=by
 refine⟨lt _ _ j.1 J.1,λx y M O=>?_⟩;rw[<-j.2 x g M J.1,J.2 _ y (lt _ _ M j.1) O,j.2 x _ M (lt _ _ J.1 O),J.2 a y j.1 O]
theorem Zgo {t:T7}(lt:∀a b,a<t.length->b<t.length->ZT t a b<t.length){gens:TY}(hg:∀g∈gens,Pr t g):∀(f i:Nat) (ZI:TY),(∀a∈ZI,Pr t a)->∀a∈Zhz t gens f i ZI,Pr t a
 |0,i,ZI,h=>by unfold Zhz;exact h
 |f+1,i,ZI,h=>by
  unfold Zhz;split
  ·exact h
  ·rename_i x hx
   rw[Zco];refine Zgo lt hg f (i+1) _ ?_;have U:=h x (ah hx);have Y:∀(M ZI:TY),(∀g∈M,Pr t g)->(∀a∈ZI,Pr t a)->∀a∈M.foldl (λZI g=>fq1 (ZT t x g) λy=>ZoN ZI y) ZI,Pr t a:=λM=>by
    induction M with
    |nil=>intro ZI _ h;exact h
    |cons g M ih=>
     intro ZI O J;rw[j8];refine ih _ (λg' o0=>O g' (aF _ o0)) λa j=>?_;rw[ZjG] at j;unfold ZoN at j;split at j
     ·exact J a j
     ·rcases bv.mp j with j|j
      ·exact J a j
      ·rw[aJ.mp j]
       exact U.times lt (O g aD)
   exact Y gens ZI hg h
theorem ZoJ {t:T7}(n1:1<=t.length)(U:∀row∈t,row.length=t.length)(lt:∀a b,a<t.length->b<t.length->ZT t a b<t.length)(one:∀a,a<t.length->ZT t 0 a=a)(j:∀a,a<t.length->ZT t a 0=a)(h:asB t=true):∀a b c,a<t.length->b<t.length->c<t.length->ZT t (ZT t a b) c=ZT t a (ZT t b c):=by
 intro a b c J hb Y;unfold asB at h;rw[Zco] at h;generalize Zf3 t t.length 0 [] [0]=O at h;unfold asG at h;rw[Zco,ae,ax,ax] at h;have h0:Pr t 0:=⟨by omega,λx y hx hy=>by rw[j x hx,one y hy]⟩;have M:=Zgo lt (λg hg=>Zqa U (h.1 g hg)) t.length 0 [0] (λa J=>by rw[aJ.mp J];exact h0) b (aI.mp (h.2 b (af.mpr hb)));exact M.2 a c J Y
theorem ZiD {t:T7}{a:Nat}:∀(f k prev:Nat),prev=it t a k->(∀j,1<=j->j<=k->it t a j≠0)->rdB t t.length a f k prev=true->∃r,Rd t a r
 |0,k,prev,_,_,h=>by cases h
 |f+1,k,prev,e,O,h=>by
  unfold rdB at h;have ex:it t a (k+1)=ZT t prev a:=by rw[it,e]
  cases J:ZT t prev a with
  |zero=>
   simp only[J,ae,decide_eq_true_eq,ax,bg,gL,decide_eq_false_iff_not] at h;obtain⟨⟨⟨U,Y⟩,h3⟩,h4⟩:=h;refine⟨k+1,by omega,Y,U,by rw[ex,J],λj M jk=>O j M (by omega),by rw[dO,<-e];exact h3,λb hb hm=>?_⟩;rw[dO,<-e];exact (h4 b (af.mpr hb)).resolve_right λz=>z hm
  |succ y=>
   simp only[J] at h;refine ZiD f (k+1) (y+1) (by rw[ex,J]) (λj M jk=>?_) h;by_cases ej:j=k+1
   ·rw[ej,ex,J]
    exact jU _
   ·exact O j M (by omega)
theorem Znw {t:T7}(h:pwB t=true):PW t:=by
 unfold pwB at h;rw[ae,ae] at h;obtain⟨⟨h,O⟩,U⟩:=h;unfold ZpY at h;simp only[ae,decide_eq_true_eq,ax] at h;obtain⟨⟨⟨h1,h2⟩,Y⟩,h4⟩:=h;have lt:∀a b,a<t.length->b<t.length->ZT t a b<t.length:=λa b J hb=>by
  unfold ZT;have hm:t.getD a []∈t:=by
   rw[Zb,Zf J];exact be J
  obtain⟨hl,hx⟩:=Y _ hm;generalize t.getD a []=row at *;have M:b<row.length:=by omega
  refine hx _ ?_;rw[Zb,Zf M];exact be M
 have oneR:∀a,a<t.length->ZT t a 0=a:=λa J=>of_decide_eq_true (ax.mp O a (af.mpr J));have one:∀a,a<t.length->ZT t 0 a=a:=λa J=>(h4 a (af.mpr J)).1;refine⟨h1,h2,λrow hr=>(Y row hr).1,lt,one,λa J=>?_,oneR,ZoJ h1 (λrow hr=>(Y row hr).1) lt one oneR U⟩
 ·exact ZiD _ 0 0 rfl (λj j1 j0=>by omega) (h4 a (af.mpr J)).2
def pos (o:TY)(v:Nat):Nat:=o.findIdx (· == v)
def ren (t:T7)(o:TY):T7:=o.map λa=>o.map λb=>pos o (ZT t a b)
structure Ord (n:Nat)(o:TY):Prop where
 len:o.length=n
 nd:o.Nodup
 all:∀v,v<n->v∈o
 lt:∀v∈o,v<n
 z:o.getD 0 0=0
theorem Z8 {o:TY}{i:Nat}(h:i<o.length):o[i]?=some (o.getD i 0):=by
 rw[Zb,Zf h];rfl
theorem Wd {n v:Nat}(O:Ord n o)(J:v<n):pos o v<n/\o.getD (pos o v) 0=v:=by
 have hm:=O.all v J;have j:o.findIdx (· == v)<o.length:=jA ⟨v,hm,by simp⟩;refine⟨by rw[<-O.len];exact j,?_⟩;have M:=iN (w:=j);have U:o[o.findIdx (· == v)]=v:=by simpa using M
 unfold pos;rw[Zb,Zf j];exact U
theorem inj {n i j:Nat}(O:Ord n o)(J:i<n)(U:j<n)(e:o.getD i 0=o.getD j 0):i=j:=by
 have M:=Z8 (o:=o) (i:=i) (by rw[O.len];exact J);have Y:=Z8 (o:=o) (i:=j) (by rw[O.len];exact U);rw[e] at M;exact (jx (by rw[O.len];exact J) O.nd).mp (M.trans Y.symm)
theorem Yj {n i:Nat}(O:Ord n o)(j:i<n):o.getD i 0<n:=O.lt _ (ah (Z8 (by rw[O.len];exact j)))
theorem Uo:(ren t o).length=o.length:=by unfold ren;rw[Za]
theorem Zcb {n i j:Nat}(O:Ord n o)(J:i<n)(M:j<n):ZT (ren t o) i j=pos o (ZT t (o.getD i 0) (o.getD j 0)):=by
 unfold ZT ren;have U:=Z8 (o:=o) (i:=i) (by rw[O.len];exact J);have Y:=Z8 (o:=o) (i:=j) (by rw[O.len];exact M);rw[Zb (l:=o.map _),Zc,U];show (o.map λb=>pos o ((t.getD (o.getD i 0) []).getD b 0)).getD j 0=_;rw[Zb,Zc,Y];rfl
theorem Jd (P:PW t)(O:Ord t.length o):PW (ren t o):=by
 have L:(ren t o).length=t.length:=by rw[Uo,O.len]
 have back:∀i j,i<t.length->j<t.length->o.getD (ZT (ren t o) i j) 0=ZT t (o.getD i 0) (o.getD j 0):=λi j hi hj=>by
  rw[Zcb O hi hj];exact (Wd O (P.lt _ _ (Yj O hi) (Yj O hj))).2
 have lt:∀i j,i<t.length->j<t.length->ZT (ren t o) i j<t.length:=λi j hi hj=>by
  rw[Zcb O hi hj];exact (Wd O (P.lt _ _ (Yj O hi) (Yj O hj))).1
 have n1:=P.n1;have U:∀a,a<t.length->∀k,it (ren t o) a k<t.length/\o.getD (it (ren t o) a k) 0=it t (o.getD a 0) k:=λa ha k=>by
  induction k with
  |zero=>exact⟨n1,O.z⟩
  |succ k ih=>
   rw[it,it];exact⟨lt _ _ ih.1 ha,by rw[back _ _ ih.1 ha,ih.2]⟩
 have zz:∀i,i<t.length->(i=0↔o.getD i 0=0):=λi hi=>by
  constructor
  ·intro e;rw[e,O.z]
  ·intro e;exact inj O hi n1 (by rw[e,O.z])
 refine⟨by omega,by have:=P.n60;omega,λrow hr=>?_,λa b ha hb=>by rw[L];exact lt a b (by omega) (by omega),λa ha=>?_,λa ha=>?_,λa ha=>?_,λa b c ha hb hc=>?_⟩
 ·unfold ren at hr
  obtain⟨a,_,rfl⟩:=aC.mp hr;rw[Za,Uo]
 ·refine inj O (lt 0 a n1 (by omega)) (by omega) ?_
  rw[back 0 a n1 (by omega),O.z,P.one _ (Yj O (by omega))]
 ·have J:a<t.length:=by omega
  obtain⟨r,R⟩:=P.rd _ (Yj O J);have o0:∀k,it (ren t o) a k=0↔it t (o.getD a 0) k=0:=λk=>by
   rw[zz _ (U a J k).1,(U a J k).2]
  refine⟨r,R.r1,by rw[L];exact R.rn,by rw[L];exact R.dv,(o0 r).mpr R.z,λk k1 kr z=>R.nz k k1 kr ((o0 k).mp z),?_,λb hb hm=>?_⟩
  ·refine (zz _ (lt _ _ J (U a J _).1)).mpr ?_
   rw[back _ _ J (U a J _).1,(U a J _).2];exact R.bk
  ·have M:b<t.length:=by omega
   refine inj O M (U a J _).1 ?_;rw[(U a J _).2];refine R.un _ (Yj O M) ?_;rw[<-back a b J M,hm,O.z]
 ·refine inj O (lt a 0 (by omega) n1) (by omega) ?_
  rw[back a 0 (by omega) n1,O.z,P.oneR _ (Yj O (by omega))]
 ·have J:a<t.length:=by omega
  have M:b<t.length:=by omega
  have Y:c<t.length:=by omega
  refine inj O (lt _ _ (lt _ _ J M) Y) (lt _ _ J (lt _ _ M Y)) ?_;rw[back _ _ (lt _ _ J M) Y,back _ _ J M,back _ _ J (lt _ _ M Y),back _ _ M Y];exact P.ass _ _ _ (Yj O J) (Yj O M) (Yj O Y)
def upTo (r st:Nat):Nat->Nat->Nat
 |0,f=>f
 |k+1,f=>if f % r=0 then f else upTo r st k (f+st)
theorem ZaR {r st B:Nat}(j:1<=st)(hB:B % r=0)(J:B % st=0):∀(k f:Nat),f % st=0->f<=B->B-f<k*st->(∀x,x % st=0->x % r=0->1<=x->x<f->False)->upTo r st k f % r=0/\upTo r st k f % st=0/\f<=upTo r st k f/\upTo r st k f<=B/\(∀x,x % st=0->x % r=0->1<=x->x<upTo r st k f->False)
 |0,f,M,O,U,_=>by rw[gt] at U;omega
 |k+1,f,M,O,U,h4=>by
  unfold upTo;by_cases h:f % r=0
  ·rw[if_pos h]
   exact⟨h,M,Zq _,O,h4⟩
  ·rw[if_neg h]
   have fB:f≠B:=λz=>h (z▸hB);obtain⟨u,rfl⟩:=bt M;obtain⟨v,rfl⟩:=bt J;have uv:u<v:=kZ (fC O fB);have h5:st*u+st<=st*v:=by
    have:=ff st (show u+1<=v by omega);rw[j3,dF] at this;exact this
   have:=ZaR j hB J k (st*u+st) (by rw[n4,Nat.mul_mod_right]) h5 (by rw[cz] at U;omega) λx x1 Y x3 x4=>?_
   ·exact⟨this.1,this.2.1,by omega,this.2.2.2.1,this.2.2.2.2⟩
   ·by_cases hx:x<st*u
    ·exact h4 x x1 Y x3 hx
    ·obtain⟨y,rfl⟩:=bt x1
     have y1:u<=y:=Nat.le_of_mul_le_mul_left (by omega) j;have y2:y<u+1:=kZ (a:=st) (by rw[j3,dF];exact x4);have:y=u:=by omega
     rw[this] at Y;exact h Y
theorem Zcc {x d r:Nat}(J:x % r=0)(hd:d % r=0):x % d % r=0:=by
 have M:=Nat.mod_add_div x d;have O:(d*(x / d)) % r=0:=by rw[Nat.mul_mod,hd,gt,Nat.zero_mod]
 have j:(x % d+d*(x / d)) % r=0:=by rw[M];exact J
 rw[Nat.add_mod,O,e9,Nat.mod_mod] at j;exact j
structure Lc (rs:Nat->Nat)(i f:Nat):Prop where
 f1:1<=f
 dv:∀a,a<i->f % rs a=0
 mn:∀x,(∀a,a<i->x % rs a=0)->x % f=0
theorem Lc.step {rs:Nat->Nat}{i f B:Nat}(L:Lc rs i f)(hB:1<=B)(j:∀a,a<i+1->B % rs a=0){k:Nat}(hk:B<k):Lc rs (i+1) (upTo (rs i) f k f):=by
 have J:B % f=0:=L.mn B λa M=>j a (by omega);have O:=L.f1;have fB:f<=B:=hU (by omega) (bt J);obtain⟨U,Y,h3,h4,h5⟩:=ZaR (r:=rs i) O (j i (by omega)) J k f (l5 f) fB (by
  have:k*1<=k*f:=ff k O;omega) λx x1 x2 x3 x4=>by
   have:=hU (by omega) (bt x1);omega
 refine⟨by omega,λa M=>?_,λx hx=>?_⟩
 ·by_cases e:a=i
  ·rw[e];exact U
  ·have:=L.dv a (by omega)
   obtain⟨u,hu⟩:=bt Y;rw[hu,Nat.mul_mod,this,gt,Nat.zero_mod]
 ·have xf:x % f=0:=L.mn x λa M=>hx a (by omega)
  apply ak;intro z;exact h5 (x % upTo (rs i) f k f) (Zcc xf Y) (Zcc (hx i (by omega)) U) (by omega) (bX _ (by omega))
end Tb
namespace L2
open PySem PySem.Spec PyProof.Rows
inductive Znu (K:aa) (neg:Bool) (x:V) (y:V) (H:Hp) (Q:VK):Prop
 |mk (p:_) (xs:_) (ds:_) (dx:_):(y=.ref p)->((WZ K H p xs\/WO K H p xs))->(WC K H xs ds)->(RdD K H x dx)->(c9 ds=true)->(dx.canLay0=true)->(dx.depth<=60)->(Q (.bl (if neg then !(ds.any λy=>y.eqv dx) else ds.any λy=>y.eqv dx)) H)->Znu K neg x y H Q
theorem ZgR (hu:X.A.units+64<cLine):XX X (compareOp .NotIn) (Znu X.K true):=by
 intro U s σ H x y v u Q I rx ry h;obtain⟨p,xs,ds,dx,rfl,j,Y,hd,M,c2,dp,q⟩:=h;cases ry;obtain⟨bs,r1⟩:=I.reads hd rx;rcases j with j|j
 ·obtain⟨O,r,pl,hz⟩:=I.list j
  obtain⟨as,J⟩:=I.readsAll Y r;refine SeqAt.notIn_listAt _ pl.isList (ny (by simpa using J) r1 M c2 (by omega)) ⟨.bl _,H,I,rfl,?_⟩;rw[mR (by simpa using J) M];exact q
 ·obtain⟨O,r,pl,hz⟩:=I.tuple j
  obtain⟨as,J⟩:=I.readsAll Y r;refine SeqAt.notIn_tupleAt _ pl (ny (by simpa using J) r1 M c2 (by omega)) ⟨.bl _,H,I,rfl,?_⟩;rw[mR (by simpa using J) M];exact q
theorem Zp4 (K:aa)(j:X.A.units+64<cLine)(J:X.K=K:=by rfl):XX X (compareOp .NotIn) (Znu K true):=J▸ZgR j
theorem V6:∀ns:TX,c9 (ns.map a5)=true
 | []=>rfl
 |n::ns=>by
  show (gm (.int n) && c9 (ns.map a5))=true;rw[V6 ns];rfl
theorem Zav (ns:TX):gm (.tuple (ns.map a5))=true:=V6 ns
theorem Zaj:∀ns:TX,cx (ns.map a5)<=1
 | []=>by decide
 |n::ns=>by
  have:=Zaj ns;show max (eK (.int n)) (cx (ns.map a5))<=1;have e:eK (.int n)<=1:=by simp[eK]
  omega
end L2
namespace L2
open PySem
theorem Zbh (ns:TX):eK (.tuple (ns.map a5))<=60:=by
 have:=Zaj ns;show cx (ns.map a5)+1<=60;omega
end L2
namespace PyZ
open PySem
theorem ZaG (l:Addr)(J:Array Value)(x:Value)(e:Value->Bool)(j:Nat)(hj:j<J.size)(O:e J[j]=true)(U:∀(m:Nat) (hm:m<J.size),m<j->e J[m]=false) :
  mS (cM.«tuple.index» {pos:=[aQ l,x]}) λA R s=>
   s.heap.IsTuple l J/\(∀(y:Value),y∈J->lP A.in1 s y x (e y))/\
    R (Except.ok (Flow.ret (iI (↑j) s.toks))) {heap:=s.heap,gens:=s.gens,drawn:=s.drawn,toks:=s.toks+1,os:=s.os}:=by
 intro o5 w A R s h;obtain⟨hl,he,h⟩:=h;obtain⟨oa,ha,_,na,da⟩:=hl;unfold cM.«tuple.index»;refine Zl ?_;show wpAny _ _ (pure (aQ l,[x])) _ _ s;refine Zm ?_;show wpAny _ _ (dD (aQ l) >>= _) _ _ s;refine Zl ?_;unfold dD;refine Zl (cG ha da ?_);refine Zm ?_;show wpAny _ _ (pure 0 >>= _) _ _ s;refine Zl (Zm ?_);show wpAny _ _ (pure J.size >>= _) _ _ s;refine Zl (Zm ?_);refine Zl ?_;rw[l6,Std.Legacy.Range.forIn_eq_forIn_range'];have Y:(dE ([0:J.size]:iV).start ([0:J.size]:iV).size ([0:J.size]:iV).step)=dE 0 J.size:=by
  show dE 0 ((J.size-0+1-1) / 1) 1=_;rw[Nat.div_one,dJ,dO]
 rw[Y];refine wpAny_forIn_list _ (λrest b s'=>s'=s/\b=(none,())/\∃k,rest=dE k (J.size-k)/\k<=j) _ ?_ ?_ _ _ ⟨rfl,rfl,0,rfl,aX _⟩
 ·rintro i rest b s' ⟨rfl,rfl,k,M,hk⟩
  have hs:J.size-k=(J.size-(k+1))+1:=by omega
  rw[hs,eX] at M;obtain⟨rfl,rfl⟩:=List.cons.inj M;have hi:i<J.size:=by omega
  rw[aP hi];show wpAny _ _ (eqBool J[i] x >>= _) _ _ _;refine Zl (he J[i] (Array.getElem_mem hi) _ _ _ _ ?_);by_cases o0:i=j
  ·subst o0
   rw[O,if_pos rfl];refine Zl ?_;unfold retInt;refine Zl (wpAny_mkInt ?_);refine Zm ?_;refine Zm ?_;show wpAny _ _ (pure _) _ _ _;exact Zm h
  ·rw[U i hi (by omega),if_neg aK]
   refine Zm ?_;exact⟨rfl,rfl,i+1,rfl,by omega⟩
 ·rintro b s' ⟨rfl,rfl,k,M,hk⟩
  have:J.size-k=0:=by
   have:=congrArg df M;rw[List.length_range'] at this;exact this.symm
  omega
end PyZ
namespace L2
open PySem PySem.Spec PyProof.Rows
inductive ZiE (K:aa) (x:V) (vs:TR) (H:Hp) (Q:VK):Prop
 |mk (p:_) (xs:_) (y:_) (j:Nat):(x=.ref p)->(vs=[y])->(WO K H p xs)->(V2 y=true)->(xs.all V2=true)->(j<xs.length)->((∀z,xs[j]?=some z->eqV z y=true))->((∀m z,m<j->xs[m]?=some z->eqV z y=false))->(Q (.int j) H)->ZiE K x vs H Q
theorem Zg1:MtR X "tuple.index" (ZiE X.K):=by
 intro o9 s σ H x vs v us Q I rx rv h;obtain⟨p,xs,y,j,rfl,rfl,hq,fy,fs,hj,h1,h2,q⟩:=h;cases rx;obtain⟨u,rfl,ru⟩:=rv.one;obtain⟨J,r,pl,hz⟩:=I.tuple hq;have hl:=r.length;have M:∀(m:Nat) (z:V),xs[m]?=some z->V2 z=true:=λm z hm=>ax.mp fs z (ah hm);have eu:∀(m:Nat) (hm:m<J.toArray.size),∃z,xs[m]?=some z/\eqU y J.toArray[m]=eqV z y:=λm hm=>by
  have O:m<xs.length:=by rw[hl];simpa using hm
  obtain⟨w,hw,o5⟩:=r.get (Zf O);have o6:J.toArray[m]=w:=by
   have:=(ab.mp hw).2;simpa using this
  exact⟨_,Zf O,by rw[o6];exact ZjS o5 (M m _ (Zf O))⟩
 have o0:j<J.toArray.size:=by rw[Zh,<-hl];exact hj
 have o7:s.TypeIs (.ref p) "tuple":=nY pl;refine dX lS o7 F.entry_tuple_index (F.args_tuple_index_2 _ _) (PyZ.ZaG p J.toArray u (eqU y) j o0 ?_ ?_) ⟨pl,λw hw=>Zdu ru fy r fs w (by simpa using hw),?_⟩
 ·obtain⟨z,U,Y⟩:=eu j o0
  rw[Y];exact h1 z U
 ·intro m hm o8
  obtain⟨z,U,Y⟩:=eu m hm;rw[Y];exact h2 m z o8 U
 ·exact⟨.int j,H,I.kept (t':=s.toks+1) λb o e=>e,⟨_,rfl⟩,q⟩
theorem Zrv (K:aa)(j:X.K=K:=by rfl):MtR X "tuple.index" (ZiE K):=j▸Zg1
end L2
namespace PyZ
open PySem PyProof PyProof.Rows
def Ua (n:Nat)(cmp:Nat->Nat->Bool){α:Type}:kf α->Option α
 | .ret a=>some a
 | .ask i j k=>if i<n/\j<n then Ua n cmp (k (cmp i j)) else none
theorem Za9 {α:Type}{n:Nat}{cmp:Nat->Nat->Bool}{ask:Nat->Nat->(Bool->Shared->Prop)->Shared->Prop}{s:Shared}(h:∀i j C,i<n->j<n->C (cmp i j) s->ask i j C s):∀(t:kf α) (a:α) (Q:α->Shared->Prop),Ua n cmp t=some a->Q a s->W.KasT.kasWp ask t Q s
 | .ret b,a,Q,e,q=>by
  cases (aA e);exact q
 | .ask i j k,a,Q,e,q=>by
  rw[Ua] at e;by_cases J:i<n/\j<n
  ·rw[if_pos J] at e
   exact h i j _ J.1 J.2 (Za9 h (k (cmp i j)) a Q e q)
  ·rw[if_neg J] at e
   cases e
def ZeN (fin:Bool):TX->TX->Bool
 | [],_=>fin
 |_::_,[]=>fin
 |x::j,y::J=>if x=y then ZeN fin j J else decide (x<y)
def ltB (xs ys:TX):Bool:=ZeN (decide (xs.length<ys.length)) xs ys
def Zhj (h:Heap)(L:Addr):Heap:={h with objs:=h.objs.extract 0 L}
theorem Vt {h:Heap}{L b:Addr}(hb:b<L):(Zhj h L).get? b=h.get? b:=by
 unfold Zhj Heap.get?;have:(h.objs.extract 0 L)[b]?=h.objs[b]?:=by
  rw[Array.getElem?_extract];by_cases j:b<h.objs.size
  ·simp only[dJ,gu]
   rw[if_pos (show b<min L h.objs.size from Nat.lt_min.mpr ⟨hb,j⟩)]
  ·rw[cQ (jV j)]
   split <;> simp_all
 simp only[this]
theorem Zbi {h:Heap}{L b:Addr}(hb:L<=b):(Zhj h L).get? b=none:=by
 unfold Zhj Heap.get?;have:(h.objs.extract 0 L)[b]?=none:=by
  apply cQ;rw[mO];exact aN (by rw[dJ];exact ki ..) hb
 simp only[this]
def Yk (h:Heap)(L:Addr):List (Addr×Obj):=(ac h.objs.size).filterMap λa=>if L<a then (h.get? a).map λo=>(a,o) else none
theorem JC {h:Heap}{L:Addr}{p:Addr×Obj}:p∈Yk h L↔L<p.1/\h.get? p.1=some p.2:=by
 unfold Yk;rw[ja];constructor
 ·rintro⟨a,J,e⟩
  by_cases j:L<a
  ·rw[if_pos j] at e
   cases q:h.get? a with
   |none=>rw[q] at e;cases e
   |some o=>
    rw[q] at e;cases (aA e);exact⟨j,q⟩
  ·rw[if_neg j] at e
   cases e
 ·rintro⟨j,e⟩
  refine⟨p.1,af.mpr (Zp e),?_⟩;rw[if_pos j,e];rfl
end PyZ
namespace L2
open PySem PySem.Spec PyProof.Rows
theorem YH.there {P:Program}{w:World}{H:Hp}{h:Heap}{a:Addr}{o:HO}(x:YH P w H h a o):∃ob,h.get? a=some ob:=by
 cases o with
 |lst J=>obtain⟨_,_,_,_,e⟩:=x;exact⟨_,e⟩
 |tup J=>obtain⟨_,_,_,ob,e,_⟩:=x;exact⟨_,e⟩
 |dK j=>obtain⟨_,_,_,_,o,_,_,e,_⟩:=x;exact⟨_,e⟩
 |dT j=>obtain⟨_,_,_,_,o,_,_,e,_⟩:=x;exact⟨_,e⟩
 |set S n=>obtain⟨o,_,_,_,e,_⟩:=x;exact⟨_,e⟩
 |ins C M fs=>obtain⟨_,_,_,e,_⟩:=x;exact⟨_,e⟩
 |own y=>obtain⟨_,e⟩:=x;exact⟨_,e⟩
 |xd fs=>obtain⟨_,⟨_,_,_,e,_⟩,_⟩:=x;exact⟨_,e⟩
 |rng lo O=>obtain⟨_,_,_,e⟩:=x;exact⟨_,e⟩
 |frz ob u=>obtain⟨e,_⟩:=x;exact⟨_,e⟩
 |tbl U=>exact⟨_,(show h.get? a=some _ from x)⟩
 |met f y=>exact⟨_,(show h.get? a=some _ from x)⟩
 |ext Y=>obtain⟨_,⟨_,e⟩,_⟩:=x;exact⟨_,e⟩
theorem Inv.newL {D:Addr}{c:Nat}{h':Heap}{m:TV}{ys:TR}{U:List Value}(I:Inv X pins σ H s)(hm:s.heap.Ns X.env.locals m)
  (hl:∀(i:Nat) (x:Str) (v:V),X.N[i]?=some x->σ[i]?=some (some v)->Vis X.env.scope x->∃u,RelV v u/\Look X.env s.heap m x u)
  (dn:s.heap.get? D=none) (dL:D≠X.env.locals) (kept:∀b o,b≠X.env.locals->s.heap.get? b=some o->h'.get? b=some o) (o7:h'.Ns X.env.locals m) (hz:ys.length<=sizeLine) (hv:ZN ys U) (hD:h'.get? D=some {cls:=.type "list",data:=.seq U.toArray c}) :
  Inv X pins σ (upd H D (.lst ys)) {s with heap:=h'}/\H D=none:=by
 have o0:H D=none:=by
  cases e:H D with
  |none=>rfl
  |some o=>
   obtain⟨ob,e2⟩:=(I.hok D o e).there;rw[dn] at e2;cases e2
 have Y:∀{b:Addr}{o:Obj},s.heap.get? b=some o->b≠D:=λ{b o} e z=>by rw[z,dn] at e;cases e
 have M:∀{b:Addr}{o:HO},H b=some o->b≠D:=λ{b o} e z=>by rw[z,o0] at e;cases e
 have o5:∀{b:Addr}{o:HO},H b=some o->b≠X.env.locals:=λ{b o} e z=>by rw[z,I.free] at e;cases e
 have bL:∀{b:Addr}{o:Obj},X.s₀.heap.get? b=some o->b≠X.env.locals:=λ{b o} e=>ay (aE (Zp e) I.ok.above);refine⟨⟨I.ok,I.os,I.bare,⟨λb o e n hb O=>?_,λb o e n hb O=>?_,λb o e n O=>?_,λb o e O=>?_,λb xs e=>?_,λb o u e=>?_,λb ps e=>?_⟩,⟨m,o7,λj y v e1 e2 e3=>?_⟩,λy J e=>?_,?_,λy J e=>?_,λp hp=>?_,λb ob e=>?_,I.len⟩,o0⟩
 ·exact kept b o (bL e) (I.base.keep b o e n hb O)
 ·obtain⟨sl,e1⟩:=I.base.slot b o e n hb O
  exact⟨sl,kept b _ (bL e) e1⟩
 ·obtain⟨o',e1⟩:=I.base.there b o e O
  rw[Zy (Y e1)];exact I.base.free b o e n O
 ·obtain⟨o',e1⟩:=I.base.there b o e O
  exact⟨o',kept b _ (bL e) e1⟩
 ·have:=I.base.tups b xs e
  rw[Zy (M this)];exact this
 ·have:=I.base.frzs b o u e
  rw[Zy (M this)];exact this
 ·obtain⟨o6,this⟩:=I.base.tbls b ps e
  exact⟨o6,by rw[Zy (M this)];exact this⟩
 ·obtain⟨u,r,q⟩:=hl j y v e1 e2 e3
  refine⟨u,r,?_⟩;rcases q with ⟨k,e⟩|⟨k,J,e,z⟩
  ·exact .inl ⟨k,e⟩
  ·obtain⟨o,g,rest⟩:=z
   exact .inr ⟨k,J,e,o,kept J o (I.cne y J e) g,rest⟩
 ·obtain⟨w',o,g,rest⟩:=I.cell y J e
  exact⟨w',o,kept J o (I.cne y J e) g,rest⟩
 ·rw[Zy (bV dL)]
  exact I.free
 ·obtain⟨w',o,g,rest⟩:=I.cell y J e
  rw[Zy (Y g)];exact I.freeC y J e
 ·obtain⟨e,n,ne,nf,d⟩:=I.pin p hp
  exact⟨kept p.1 _ ne e,by rw[Zy (Y e)];exact n,ne,nf,d⟩
 ·by_cases hb:b=D
  ·subst hb
   rw[Zt] at e;cases (aA e);exact⟨hz,U,c,hv,hD⟩
  ·rw[Zy hb] at e
   refine (I.hok b ob e).stay (λJ w' hc q=>kept J w' ?_ q) (λJ q=>?_) λJ xs q=>?_
   ·rcases hc with rfl|hc
    ·exact o5 e
    ·exact o5 hc
   ·rw[Zy (M q)]
    exact q
   ·rw[Zy (M q)]
    exact q
theorem Xg:∀{as:TU}{us:List Value},ZN (as.map V.ref) us->us=as.map aQ
 | [],_,h=>by cases h;rfl
 |a::as,_,h=>by
  cases h with
  |cons r t=>rw[show _=aQ a from r,Xg t];rfl
theorem UA:∀{ns:TX}{us:List Value},ZN (ns.map V.int) us->bW us ns
 | [],_,h=>by cases h;exact .nil
 |n::ns,_,h=>by
  cases h with
  |cons r t=>
   obtain⟨k,rfl⟩:=r;exact .cons n k (UA t)
theorem VE:∀as:TU,ZN (as.map V.ref) (as.map aQ)
 | []=>.nil
 |a::as=>.cons rfl (VE as)
section
variable {X:Cx}
def Tz (H:Hp)(a:Addr)(ys:TR):Prop:=∃o:Obj,H a=some (.frz o (.tup ys))/\o.cls=.type "tuple"/\o.dict=none
theorem Tz.sq {K:aa}{H:Hp}{a:Addr}{ys:TR}(h:Tz H a ys):WO K H a ys:=by
 obtain⟨o,h,_⟩:=h;exact .inl (.inr ⟨o,h⟩)
theorem Tz.mono {H j:Hp}{a:Addr}{ys:TR}(s:Same H j)(h:Tz H a ys):Tz j a ys:=by
 obtain⟨o,h,r⟩:=h;exact⟨o,s _ _ h,r⟩
inductive I_call_tupleZ (K:aa) (xs:TR) (H:Hp) (Q:VK):Prop
 |mk (p:_) (ys:_):(xs=[.ref p])->(WZ K H p ys)->(∀l H',H l=none->Same H H'->Tz H' l ys->Q (.ref l) H')->I_call_tupleZ K xs H Q
theorem ZdR:YI X (.type "tuple") (_root_.L2.I_call_tupleZ X.K):=by
 intro j s O H xs us Q I r h;obtain⟨p,ys,rfl,hq,q⟩:=h;obtain⟨u,rfl,rx⟩:=vals1 r;cases rx;obtain⟨J,U,pl,hz⟩:=I.list hq;have Y:=U.length;refine call_tuple_list pl.isList (λM kp=>?_) (by simp only[Zh] <;> omega)
 have I1:Inv X j O H {s with heap:=M}:=I.kept (t':=s.toks) kp;have hf:=I1.hok.fresh (Zq _);have I2:Inv X j O (upd H M.objs.size (.frz {cls:=.type "tuple",data:=.seq J.toArray} (.tup ys))) {s with heap:=M.push {cls:=.type "tuple",data:=.seq J.toArray}}:=
  I1.laid (t':=s.toks) (λb o e=>Zn _ e) (Zq _) ⟨Zo _ rfl,hz,J,U,hG _ _⟩
 exact⟨.ref M.objs.size,_,I2,rfl,q _ _ hf (Same.upd hf) ⟨_,Zt,rfl,rfl⟩⟩
variable {o e:Expr}{es:List Expr}{to:TE}{t:TA}{name:Str}{apos cpos:Pos}{id:String}{r:V->TR->Hp->VK->Prop}
inductive Zqg (r:V->TR->Hp->VK->Prop) (t:TA) (σ:St) (Q:VK) (x:V) (H:Hp):Prop
 |mk:(∃p ys,x=.ref p/\Tz H p ys)->(t σ H λxs H2=>r x xs H2 Q)->Zqg r t σ Q x H
def ZrA (r:V->TR->Hp->VK->Prop)(to:TE)(t:TA):TE:=λj H Q=>to j H (Zqg r t j Q)
theorem ZnD (pa:PlainAttrs "tuple")(slot:Slot "tuple" name id)(Y:typeOf (.builtin id)=pure (.type "method_descriptor"))(hm:MtR X id r)(ho:PE X o to)(ha:PA X (e::es) t)
  (M:attributeBase o name X.env (eval o X.env)=eval o X.env:=by rfl)
  (U:((backTo cpos (starEach (e::es) X.env)).all (λx=>!x.1) && (backToKw cpos (keywordEach [] X.env)).all (λx=>x.1.isSome)
   && decide ((e::es).length+([]:List Keyword).length+(if ([]:List Keyword).isEmpty then 0 else 1)<30))=true:=by rfl)
  (O:(apos.endLine == cpos.line)=true:=by rfl) (hs:starEach (e::es) X.env=(false,eval e X.env)::starEach es X.env:=by rfl) (J:(backTo cpos (starEach es X.env)).any (·.1)=false:=by rfl) :
  PE X (.Call (.Attribute o name apos) (e::es) [] cpos) (ZrA r to t):=by
 intro j s σ H Q I h;refine m9 M U O rfl (Yo (ho j s σ H _ I h) λv s1 ⟨x,H1,I1,r1,ty,q1⟩=>?_);obtain⟨p,ys,rfl,ob,o0,hc,hd⟩:=ty;cases r1;obtain⟨eo,_⟩:=I1.hok p _ o0;refine⟨"tuple",id,pa,slot,Y,⟨ob,eo,hc⟩,λa e=>?_,?_⟩
 ·cases e
  exact⟨ob,eo,hd⟩
 have hA:=ha cpos j s1 σ H1 _ I1 q1;rw[hs] at hA ⊢;refine ik (by show (false || (backTo cpos (starEach es X.env)).any (·.1))=false;rw[J] <;> rfl) (lV ?_)
 exact Yo hA λus s2 ⟨vs,H2,I2,r2,q2⟩=>hm j s2 σ H2 (.ref p) vs (.ref p) us Q I2 rfl r2 q2
end
end L2
namespace PyZ
open PySem PySem.Spec PyProof.Rows
theorem ZaL {R:List Value->Shared->Prop}{r:Addr}{a b c:Int}{t u v:Tok}{n:Nat}(hh:A.handled=none)(hr:IsRange s.heap r a b c t u v)(O:cL a b c=true)
  (hn:bu a b c=n) (Y:n<=2 ^ 24)
  (h:∀(h':Heap) (tk:Nat) (ZI:Array Value),(∀b o,s.heap.get? b=some o->h'.get? b=some o)->iq (λi v=>∃t,v=.int (a+i*c) t) ZI n->R ZI.toList {s with heap:=h',toks:=tk}) :
  wpAny (model prog w) A (collect (.ref r)) R E s:=by
 unfold collect;refine Zl (jg (cu PySem.F.entry_proto_collect ?_));rw[cm jM _];show wpAny _ A.in1 (newList [] >>= λl=>again (.builtin "list.__iadd__" ⟨[l,.ref r],[]⟩)) _ _ s;refine Zl (bm ?_);refine Zm ⟨fG fj _,cu PySem.F.entry_list_iadd ?_⟩;rw[cm fj _];have U:(s.heap.push {cls:=.type "list",data:=.seq ([]:List Value).toArray}).get? s.heap.objs.size=some {cls:=.type "list",data:=.seq #[]}:=Zo _ rfl;show wpAny _ A.in1 (cg (.ref s.heap.objs.size) (.ref r) (.ref s.heap.objs.size)) _ _ _;have o0:=wpAny_extend_range (prog:=prog) (w:=w) (A:=A) (s:={s with heap:=s.heap.push {cls:=.type "list",data:=.seq ([]:List Value).toArray}})
  (R:=λ(q:Result) (s':Shared)=>∃(h':Heap) (tk:Nat) (j:Array Value) (c':Nat),q=.ok (.ret (.ref s.heap.objs.size))/\s'={s with heap:=h',toks:=tk}/\
   (∀b o,s.heap.get? b=some o->h'.get? b=some o)/\h'.get? s.heap.objs.size=some {cls:=.type "list",dict:=none,data:=.seq j c',slots:=#[]}/\iq (λi v=>∃t,v=.int (a+i*c) t) j n)
  hh (Zn _ hr) O hn Y s.heap.objs.size (.ref s.heap.objs.size) 0 U
  (λh' tk j c' hk M J=>⟨h',tk,j,c',rfl,rfl,λb o e=>hk b o (ay (Zp e)) (Zn _ e),M,J⟩)
 refine cH o0 (λo5 s' x=>?_) λe s' x=>?_
 ·cases o5 with
  |done f=>
   obtain⟨h',tk,j,c',e,rfl,hk,M,J⟩:=x;cases e;show wpAny _ A (load s.heap.objs.size >>= _) _ _ _;refine Zl (iR M ?_);exact Zm (h h' tk j hk J)
  |again o6=>
   refine⟨x.1,fW x.2 λq o7 y=>?_⟩;obtain⟨h',tk,j,c',rfl,rfl,hk,M,J⟩:=y;show wpAny _ A (load s.heap.objs.size >>= _) _ _ _;refine Zl (iR M ?_);exact Zm (h h' tk j hk J)
 ·obtain⟨_,_,_,_,e',_⟩:=x
  cases e'
theorem J7 {Q₁:TW}{r:Addr}{a b c:Int}{t u v:Tok}{n:Nat}(hh:A.handled=none)(hr:IsRange s.heap r a b c t u v)(j:cL a b c=true)
  (hn:bu a b c=n) (M:n<=2 ^ 24)
  (h:∀(h':Heap) (tk:Nat) (ZI:Array Value),(∀b o,s.heap.get? b=some o->h'.get? b=some o)->iq (λi v=>∃t,v=.int (a+i*c) t) ZI n->
   Q₁ (.ref h'.objs.size) {s with heap:=h'.push {cls:=.type "tuple",data:=.seq ZI},toks:=tk}) :
  codeAny (model prog w) A (.call (.builtin "tuple.__new__") ⟨[.type "tuple",.ref r],[]⟩) (wants Q₁ E) s:=by
 refine lq ?_;show wpAny _ A.in1 (do checkBuiltinCall "tuple.__new__" ⟨[.type "tuple",.ref r],[]⟩;again (.builtin "tuple.__new__" ⟨[.type "tuple",.ref r],[]⟩)) _ _ s
 refine Zl (kO (PySem.F.newCall_tuple_1 _) (Zm ⟨fG (show plainId "tuple.__new__"=true by decide +kernel) _,cu PySem.F.entry_tuple_new ?_⟩));rw[cm (show plainId "tuple.__new__"=true by decide +kernel) _];have o0:=sub_tuple_self;have O:=init_tuple_lookup;have o5:=madeHere_tuple;have U:s.TypeIs (.ref r) "range":=⟨_,hr,rfl⟩;have Y:n<=sizeLine:=by
  have:(16777216:Nat)=sizeLine:=by decide
  omega
 wp_walk using fk U,ZaL (A:=A.in1) hh hr j hn M
 intro h' tk ZI hm J;show wpAny _ _ (cy ZI.toList.toArray >>= λv=>ret v) _ _ _;unfold cy;refine Zl (bm ?_ (by show ZI.toList.toArray.size<=sizeLine;simp only[ma];rw[J.1];exact Y));refine Zm ?_;have e:ZI.toList.toArray=ZI:=by simp
 rw[e];exact h h' tk ZI hm J
theorem VR {Q:TW}{r:Addr}{a b c:Int}{t u v:Tok}{n:Nat}(hh:A.handled=none)(hr:IsRange s.heap r a b c t u v)(M:cL a b c=true)
  (hn:bu a b c=n) (O:n<=2 ^ 24)
  (h:∀(h':Heap) (tk:Nat) (ZI:Array Value),(∀b o,s.heap.get? b=some o->h'.get? b=some o)->iq (λi v=>∃t,v=.int (a+i*c) t) ZI n->
   Q (.ref h'.objs.size) {s with heap:=h'.push {cls:=.type "tuple",data:=.seq ZI},toks:=tk}) :
  wpAny (model prog w) A (call (.type "tuple") [.ref r]) Q E s:=by
 refine callType_codes (Q₁:=λobj j=>j.TypeIs obj "tuple"/\Q obj j) iA (PySem.F.typeCall_tuple_1 _) PySem.F.entry_object_init
  (J7 (A:=A.in1) hh hr M hn O λh' tk ZI hk U=>⟨⟨_,Zo _ rfl,rfl⟩,h h' tk ZI hk U⟩) λobj j J=>?_
 exact⟨J.1,lu obj _,object_init_meets iA.init.lookup iA.made (by decide) prog w A.in1 _ j ⟨J.1,rfl,J.2⟩⟩
end PyZ
namespace L2
open PySem PySem.Spec PyProof.Rows
inductive I_call_tuple_rng (xs:TR) (H:Hp) (Q:VK):Prop
 |mk (a:Addr) (lo hi:Int):(xs=[.ref a])->(H a=some (.rng lo hi))->((-(2 ^ 62)<=lo/\lo<2 ^ 62/\-(2 ^ 62)<=hi/\hi<2 ^ 62))->((hi-lo).toNat<=sizeLine)->(∀l,H l=none->Q (.ref l) (upd H l (.tup ((Wo lo (hi-lo).toNat).map V.int))))->I_call_tuple_rng xs H Q
theorem Zaw (hc:X.calm=true):YI X (.type "tuple") _root_.L2.I_call_tuple_rng:=by
 intro j s O H xs us Q I r h;obtain⟨a,lo,hi,rfl,ha,⟨b1,b2,b3,b4⟩,U,q⟩:=h;obtain⟨u,rfl,ru⟩:=vals1 r;cases ru;obtain⟨t,u,v,e⟩:=(show ∃t u v,s.heap.get? a=some {cls:=.type "range",data:=.fields #[.int lo t,.int hi u,.int 1 v]} from I.hok a _ ha);refine PyZ.VR (n:=(hi-lo).toNat) (I.ok.hd hc) e (small_one b1 b2 b3 b4) (by rw[rangeSize_one];split <;> omega) U λJ tk ZI hk M=>?_
 have Y:Inv X j O H {s with heap:=J,toks:=tk}:=I.kept (t':=tk) hk;have I2:Inv X j O (upd H J.objs.size (.tup ((Wo lo (hi-lo).toNat).map V.int))) {s with heap:=J.push {cls:=.type "tuple",data:=.seq ZI},toks:=tk}:=
  Y.laid (t':=tk) (λb o e=>Zn _ e) (Zq _) (show YH X.prog X.w _ _ _ (.tup ((Wo lo (hi-lo).toNat).map V.int)) from ⟨by rw[Za,Y9];exact U,ZI.toList,Zgy M,by simpa using hG _ _⟩)
 exact⟨.ref J.objs.size,_,I2,rfl,q _ (Y.hok.fresh (Zq _))⟩
end L2
namespace PyY
open PySem
open AutoSeq1 (wpAny_loadPart')
theorem U4 {j a:Addr}{k:Nat}{us:Array Value}{y:Value}{Q:TW}(c:s.heap.IsTupleIter j a k)(d:s.heap.IsTuple a us)(e:us[k]?=some y)
  (q:∀g,g.IsTupleIter j a (k+1)->bq j s.heap g->Q y {s with heap:=g}):wpAny (model prog w) A (a9 (.ref j)) Q E s:=by
 obtain⟨Y,J,cj,dj⟩:=id c;obtain⟨oa,O,_,na,U⟩:=d;unfold a9;refine Zl (a8 (name:=cN "__next__") c.typeIs eZ (ba eZ c.typeIs kW ?_ (kI _)));show wpAny _ _ (field (.ref j) 0 >>= _) _ _ s;refine Zl (bI J dj (x:=.ref a) rfl ?_);show wpAny _ _ (if (aQ a == b9)=true then _ else _) _ _ s
 rw[if_neg (show ¬((aQ a == b9)=true) from aK)];show wpAny _ _ (field (.ref j) 1 >>= _) _ _ s;refine Zl (bI J dj (x:=.int k 0) rfl ?_);show wpAny _ _ (seqItems? (.ref a) >>= _) _ _ s;refine Zl (cG O U ?_);simp only[Zj,e];refine Zl (dI J dj (by simp) (Zm ⟨y,rfl,Zm (q _ ?_ (bQ ..))⟩));refine⟨_,bM _ J (c7 (bJ dj _)),(gN ..).trans cj,?_⟩;rw[bJ dj];simp[rawInt]
theorem Za1 {j a:Addr}{k:Nat}{us:Array Value}{Q:TW}(U:A.handled=none)(c:s.heap.IsTupleIter j a k)(d:s.heap.IsTuple a us)(e:us[k]?=none)
  (q:∀g x,iJ j s.heap g->(∃o,g.get? x=some o/\o.cls=.type "StopIteration")->E (.ref x) {s with heap:=g}):wpAny (model prog w) A (a9 (.ref j)) Q E s:=by
 obtain⟨oj,J,cj,dj⟩:=id c;obtain⟨oa,Y,_,na,da⟩:=d;unfold a9;refine Zl (a8 (name:=cN "__next__") c.typeIs eZ (ba eZ c.typeIs kW ?_ (kI _)));show wpAny _ _ (field (.ref j) 0 >>= _) _ _ s;refine Zl (bI J dj (x:=.ref a) rfl ?_);show wpAny _ _ (if (aQ a == b9)=true then _ else _) _ _ s
 rw[if_neg (show ¬((aQ a == b9)=true) from aK)];show wpAny _ _ (field (.ref j) 1 >>= _) _ _ s;refine Zl (bI J dj (x:=.int k 0) rfl ?_);show wpAny _ _ (seqItems? (.ref a) >>= _) _ _ s;refine Zl (cG Y da ?_);simp only[Zj,e];refine Zl (dW (Zl (dI J dj (by simp) ?_)));show wpAny _ _ (newExc (.type "StopIteration") [] >>= _) _ _ {s with heap:=_};refine Zl ?_;unfold newExc newTuple;refine Zl (bm (Q:=_) ?_ (by size_fits));refine Zl (m:=firstArgMember _ _) (kO (a:=b9) (by first|rfl|(unfold firstArgMember;rfl)) ?_)
 refine bm (Q:=_) ?_ (by size_fits);unfold raiseNew;refine Zl (wpAny_handled ?_);have M:A.in1.handled=none:=U;rw[M];refine Zl (Zm (wpAny_throw (E:=E) ?_));exact q _ _ (((bQ ..).extBut.push _).push _) ⟨_,Zo _ rfl,rfl⟩
theorem ZeY {n j a:Addr}{k:Nat}{us:Array Value}{y J:Value}{Q:Option Value->Shared->Prop}(b:gZ s.heap n j k J)(c:s.heap.IsTupleIter j a k)(d:s.heap.IsTuple a us)(e:us[k]?=some y)(nj:n≠j)
  (q:∀g,IsEnumOut g n j ((k:Int)+1) y s.heap.objs.size->g.IsTupleIter j a (k+1)->g.get? s.heap.objs.size=some {cls:=.type "tuple",data:=.seq #[.int k s.toks,y]}->g.objs.size=s.heap.objs.size+1->
   (∀x o,x≠n->x≠j->s.heap.get? x=some o->g.get? x=some o)->Q (some (.ref s.heap.objs.size)) {s with heap:=g,toks:=s.toks+1}):wpAny (model prog w) A (pyNext (.ref n)) Q E s:=by
 have tn:s.TypeIs (.ref n) "enumerate":=⟨_,b,rfl⟩;unfold pyNext;refine Zl (eG (a8 (name:=cN "__next__") tn fZ (ba fZ tn mF ?_ (mj _))));obtain⟨M,O,dr,tk,os⟩:=s;show wpAny _ _ (field (.ref n) 2 >>= _) _ _ _;refine Zl (bI b rfl (x:=.ref j) rfl ?_);refine Zl (U4 c d e λU c1 s1=>?_);replace s1:bq j M U:=s1;have b1:gZ U n j k J:=(s1.2 n nj).trans b;show wpAny _ _ (field (.ref n) 3 >>= _) _ _ ⟨U,O,dr,tk,os⟩;refine Zl (bI b1 rfl (x:=rawInt k) rfl ?_);show wpAny _ _ (field (.ref n) 4 >>= _) _ _ ⟨U,O,dr,tk,os⟩;refine Zl (bI b1 rfl (x:=.none) rfl ?_);show wpAny _ _ (mkInt k >>= _) _ _ ⟨U,O,dr,tk,os⟩;refine Zl (wpAny_mkInt ?_);show wpAny _ _ (setField (.ref n) 3 (rawInt ((k:Int)+1)) >>= _) _ _ ⟨U,O,dr,tk+1,os⟩;refine Zl (bT b1 (by simp) λg2 b2 s2=>?_);replace s2:bq n U g2:=s2;replace b2:gZ g2 n j ((k:Int)+1) J:=b2;show wpAny _ _ (setField (.ref n) 4 .none >>= _) _ _ ⟨g2,O,dr,tk+1,os⟩;refine Zl (bT b2 (by simp) λY b3 s3=>?_);replace s3:bq n g2 Y:=s3;replace b3:gZ Y n j ((k:Int)+1) J:=b3;show wpAny _ _ (newTuple [.int k tk,y] >>= _) _ _ ⟨Y,O,dr,tk+1,os⟩;refine Zl (lJ ?_);have b4:gZ (Y.push {cls:=.type "tuple",data:=.seq #[.int k tk,y]}) n j ((k:Int)+1) J:=Zn _ b3;generalize z4:Y.push {cls:=.type "tuple",data:=.seq #[.int k tk,y]}=g4 at b4;have sz:Y.objs.size=M.objs.size:=by rw[s3.1,s2.1,s1.1]
 have nl:n<M.objs.size:=Zp b;have t4:g4.get? M.objs.size=some {cls:=.type "tuple",data:=.seq #[.int k tk,y]}:=by
  rw[<-z4,<-sz];exact Zo _ rfl
 have w4:g4.objs.size=M.objs.size+1:=by
  rw[<-z4,bF,sz]
 have k4:∀x o,x≠n->x≠j->M.get? x=some o->g4.get? x=some o:=λx o xn xj hx=>by
  rw[<-z4];exact Zn _ (s3.extBut x o xn (s2.extBut x o xn (s1.extBut x o xj hx)))
 have c4:g4.IsTupleIter j a (k+1):=by
  obtain⟨o,ho,r⟩:=(c1.extBut s2.extBut (bV nj)).extBut s3.extBut (bV nj);rw[<-z4];exact⟨o,Zn _ ho,r⟩
 show wpAny _ _ (bH (.ref n) >>= _) _ _ ⟨g4,O,dr,tk+1,os⟩;rw[sz];clear z4 b3 s3 b2 s2 b1 s1 c1 sz Y g2 U;refine Zl ?_;unfold bH;refine Zl (bI b4 rfl (x:=.none) rfl (Zm ?_));rw[if_pos rfl];refine Zl (dW (Zl (bI b4 rfl (x:=J) rfl ?_)));refine Zl (bT b4 (by simp) λg5 b5 s5=>?_);replace s5:bq n g4 g5:=s5;replace b5:gZ g5 n j ((k:Int)+1) y:=b5;show wpAny _ _ (cF (.ref n) (.ref M.objs.size) >>= _) _ _ ⟨g5,O,dr,tk+1,os⟩;refine Zl ?_;unfold cF;refine Zl (bT b5 (by simp) λg6 b6 s6=>?_);replace s6:bq n g5 g6:=s6;replace b6:IsEnumOut g6 n j ((k:Int)+1) y M.objs.size:=b6;refine bT b6 (by simp) λg7 b7 s7=>?_;replace s7:bq n g6 g7:=s7;replace b7:IsEnumOut g7 n j ((k:Int)+1) y M.objs.size:=b7;refine Zl (kP (Zm ⟨_,rfl,Zm (q g7 b7 ?_ ?_ ?_ ?_)⟩))
 ·exact ((c4.extBut s5.extBut (bV nj)).extBut s6.extBut (bV nj)).extBut s7.extBut (bV nj)
 ·exact s7.extBut _ _ (bB nl) (s6.extBut _ _ (bB nl) (s5.extBut _ _ (bB nl) t4))
 ·rw[s7.1,s6.1,s5.1,w4]
 ·exact λx o xn xj hx=>s7.extBut x o xn (s6.extBut x o xn (s5.extBut x o xn (k4 x o xn xj hx)))
theorem Zhd {n j a:Addr}{k:Nat}{us:Array Value}{old:Value}{Q:Option Value->Shared->Prop}(O:A.handled=none)(b:gZ s.heap n j k old)(c:s.heap.IsTupleIter j a k)(d:s.heap.IsTuple a us)(e:us[k]?=none)
  (q:∀g,iJ j s.heap g->Q none {s with heap:=g}):wpAny (model prog w) A (pyNext (.ref n)) Q E s:=by
 have J:s.TypeIs (.ref n) "enumerate":=⟨_,b,rfl⟩;unfold pyNext;refine Zl (eG (a8 (name:=cN "__next__") J fZ (ba fZ J mF ?_ (mj _))));show wpAny _ _ (field (.ref n) 2 >>= _) _ _ _;refine Zl (bI b rfl (x:=.ref j) rfl ?_);refine Zl (Za1 O c d e λg x U Y=>?_);obtain⟨o,ho,hc⟩:=Y;refine Zl (iH (T:="StopIteration") (b:=true) ⟨o,ho,hc⟩ lM ?_);exact Zm (q _ U)
theorem Zhc (a:Addr)(J:Array Value)(n:Nat)(O:Option Addr)(U:Array (Option Value)) :
  mS (cM.«enumerate.__new__» ⟨[.type "enumerate",.ref a],[]⟩) (λ_ R s=>s.heap.get? a=some {cls:=.type "tuple",dict:=O,data:=.seq J n,slots:=U}/\
   R (.ok (.ret (.ref (s.heap.push {cls:=.type "tuple_iterator",data:=.fields #[.ref a,.int 0 0]}).objs.size)))
    {s with heap:=(s.heap.push {cls:=.type "tuple_iterator",data:=.fields #[.ref a,.int 0 0]}).push {cls:=.type "enumerate",data:=.fields #[.none,.bool false,.ref s.heap.objs.size,rawInt 0,.none,.none]}}):=
 .of_wp λprog w A R s h=>by
  obtain⟨Y,gg,dr,tk,os⟩:=s;obtain⟨j,h⟩:=h;have sub:=sub_enumerate;have M:Heap.IsTuple (lD ⟨Y,gg,dr,tk,os⟩) a J:=⟨_,j,rfl,n,rfl⟩
  wp_walk using wpAny_loadPart' j
  refine wpAny_stack_any λst=>Zm ?_;split
  ·rename_i c1 _ _ _ _ _
   cases (c1 == cV "enumerate") <;> (wp_walk using wpAny_loadPart' j,fO M) <;> exact⟨_,rfl,h⟩
  ·wp_walk using wpAny_loadPart' j,fO M
   exact⟨_,rfl,h⟩
theorem Zax {a:Addr}{us:Array Value}{Q:TW}(O:s.heap.IsTuple a us)
  (h:∀g,gZ g (s.heap.objs.size+1) s.heap.objs.size 0 .none->g.IsTupleIter s.heap.objs.size a 0->g.objs.size=s.heap.objs.size+2->(∀b o,s.heap.get? b=some o->g.get? b=some o)->Q (.ref (s.heap.objs.size+1)) {s with heap:=g}) :
  wpAny (model prog w) A (call (.type "enumerate") [.ref a]) Q E s:=by
 obtain⟨⟨U,Y,dt,sl⟩,ha,hc,n,hd⟩:=O;have j:U=.type "tuple":=hc;have J:dt=.seq us n:=hd;subst j J;refine callType_new F.called_enumerate (by decide) (F.typeCall_enumerate_1 _) (F.newCall_enumerate_1 _) (λobj=>lu obj _) F.entry_enumerate_new (Zhc a us n Y sl) ⟨ha,?_⟩;have M:(s.heap.push {cls:=.type "tuple_iterator",data:=.fields #[.ref a,.int 0 0]}).objs.size=s.heap.objs.size+1:=bF ..;show _/\_;rw[M];have he:gZ ((s.heap.push {cls:=.type "tuple_iterator",data:=.fields #[.ref a,.int 0 0]}).push {cls:=.type "enumerate",data:=.fields #[.none,.bool false,.ref s.heap.objs.size,rawInt 0,.none,.none]}) (s.heap.objs.size+1) s.heap.objs.size 0 .none:=by
  have z:=Zo (s.heap.push {cls:=.type "tuple_iterator",data:=.fields #[.ref a,.int 0 0]}) (o:={cls:=.type "enumerate",data:=.fields #[.none,.bool false,.ref s.heap.objs.size,rawInt 0,.none,.none]}) rfl;rw[M] at z;exact z
 exact⟨⟨_,he,rfl⟩,h _ he ⟨_,Zn _ (Zo _ rfl),rfl,rfl⟩ (by rw[bF,M]) λb o y=>Zn _ (Zn _ y)⟩
end PyY
namespace L2
open PySem PySem.Spec PyProof.Rows
section
variable {h':Heap}
theorem Inv.turnLay {t':Nat}{ts:TU}{T:Addr}{o:HO}(I:Inv X pins σ H s)(k:∀b u,b∉ts->s.heap.get? b=some u->h'.get? b=some u)(ht:∀b∈ts,∃u,h'.get? b=some u)(O:∀b∈ts,ZaP X pins H b)(U:s.heap.objs.size<=T)
  (M:YH X.prog X.w (upd H T o) h' T o):Inv X pins σ (upd H T o) {s with heap:=h',toks:=t'}:=by
 have j:H T=none:=I.hok.fresh U;have J:∀b u,H b=some u->b∉ts:=λb u e z=>by
  have:=(O b z).1;rw[e] at this;cases this
 refine I.call (ch:=ts) (g':=s.gens) (d':=s.drawn) ⟨λb u e _ _ nx=>k b u nx e,λb u e _ _ nx=>⟨u.slots,k b u nx e⟩,λb u e n _=>?_,λb u e nx=>⟨u,k b u nx e⟩,λb Y q=>?_,λb u v q=>?_,λb ps q=>⟨#[],?_⟩⟩
  (λb u e=>?_) I.bare λb hb=>?_
 ·rw[Zy (ay (aE (Zp e) U))]
  exact n
 ·rw[Zy (Z7 q j)]
  exact q
 ·rw[Zy (Z7 q j)]
  exact q
 ·rw[Zy (Z7 q j),q]
  simp
 ·by_cases hb:b=T
  ·subst hb
   rw[Zt] at e;cases e;exact M
  ·rw[Zy hb] at e
   refine (I.hok b u e).stay (λc v hc q=>k c v ?_ q) (λc r=>by rw[Zy (Z7 r j)];exact r) λc Y r=>by rw[Zy (Z7 r j)];exact r
   rcases hc with z|z
   ·rw[z]
    exact J b u e
   ·exact J c _ z
 ·obtain⟨f0,f1,f2,f3,f4,f5⟩:=O b hb
  exact⟨f3,f1,f4,f5⟩
theorem Inv.turnedL {t':Nat}{ts:TU}(I:Inv X pins σ H s)(k:∀b u,b∉ts->s.heap.get? b=some u->h'.get? b=some u)(J:∀b∈ts,ZaP X pins H b):Inv X pins σ H {s with heap:=h',toks:=t'}:=by
 have j:∀b u,H b=some u->b∉ts:=λb u e z=>by
  have:=(J b z).1;rw[e] at this;cases this
 refine I.call (ch:=ts) (g':=s.gens) (d':=s.drawn) ⟨λb u e _ _ nx=>k b u nx e,λb u e _ _ nx=>⟨u.slots,k b u nx e⟩,λb u e n _=>n,λb u e nx=>⟨u,k b u nx e⟩,λb M q=>q,λb u v q=>q,λb ps q=>⟨#[],by rw[q];simp⟩⟩
  (λb u e=>?_) I.bare λb hb=>?_
 ·refine (I.hok b u e).stay (λc v O q=>k c v ?_ q) (λc r=>r) λc M r=>r
  rcases O with z|z
  ·rw[z]
   exact j b u e
  ·exact j c _ z
 ·obtain⟨f0,f1,f2,U,Y,f5⟩:=J b hb
  exact⟨U,f1,Y,f5⟩
end
def Zmg (K:aa)(a:Addr):It:=
 ⟨λi H=>∃j x,WZ K H a j/\j[i]?=some x,λi H x J=>∃T y,x=.ref T/\H T=none/\J=upd H T (.tup [.int i,y])/\∀j,WZ K H a j->j[i]?=some y,λi H=>∃j,WZ K H a j/\j.length<=i⟩
def ZoZ (K:aa)(a:Addr):It:=
 ⟨λi H=>∃j x,WO K H a j/\j[i]?=some x,λi H x J=>∃T y,x=.ref T/\H T=none/\J=upd H T (.tup [.int i,y])/\∀j,WO K H a j->j[i]?=some y,λi H=>∃j,WO K H a j/\j.length<=i⟩
theorem UE {P:Program}{w:World}{K:aa}{elts:List Expr}{x1}{pos:Pos}(a e it:Addr)(ne:e≠it) :
  ZaM P w K (.Tuple elts x1 pos) (Zmg K a) [e,it] e (λi h=>(∃j,gZ h e it i j)/\h.IsListIter it a i) where
 mem:=by simp
 obj:=λi h st b hb=>by
  obtain⟨⟨j,J⟩,⟨o,U,c,d⟩⟩:=st;rcases aH.mp hb with rfl|hb
  ·exact⟨_,J,λv z=>by
    have z':gK _=gq v:=z;cases z'⟩
  ·have q:b=it:=by simpa using hb
   subst q;exact⟨o,U,λv z=>by rw[d] at z;cases z⟩
 keep:=λi h h' st k=>by
  obtain⟨⟨j,J⟩,M⟩:=st;exact⟨⟨j,k e (by simp) _ J⟩,M.at λo q=>k it (by simp) o q⟩
 item:=by
  intro X hP hw hK hc i Y s σ H E I hf st hg;subst hP hw hK;obtain⟨⟨j,J⟩,M⟩:=st;obtain⟨xs,x,hq,hx⟩:=hg;obtain⟨o6,rv,p,hz⟩:=I.list hq;obtain⟨u,hu,ru⟩:=rv.get hx;refine wpAny_pyNext_enum_item J M p.isList (x:=u) (by simpa using hu) ne λh1 ho o7 hT p7 hk=>?_;refine⟨_,rfl,lK ho λh2 o8 o9=>?_⟩;have le:e<s.heap.objs.size:=Zp J;have O:bq e h1 h2:=o9;have p6:h2.get? s.heap.objs.size=some {cls:=.type "tuple",data:=.seq #[.int i s.toks,u]}:=(O.2 _ (bB le)).trans hT;have o0:h2.IsListIter it a (i+1):=o7.at λo q=>(O.2 it (bV ne)).trans q;have o5:gZ h2 e it ((i+1:Nat):Int) u:=by
   have:=o8;simpa using this
  have nT:H s.heap.objs.size=none:=I.hok.fresh (Zq _);have I2:=I.turnLay (t':=s.toks+1) (h':=h2) (ts:=[e,it]) (T:=s.heap.objs.size) (o:=.tup [.int i,x]) (λb v hb q=>?_) (λb hb=>?_) hf (Zq _) ⟨by show 2<=sizeLine;decide,[.int i s.toks,u],.cons ⟨_,rfl⟩ (.cons ru .nil),_,p6,rfl,0,rfl⟩
  ·refine⟨.ref s.heap.objs.size,_,I2,rfl,⟨_,x,rfl,nT,rfl,λys hy=>by rw[I.list_inj hy hq];exact hx⟩,⟨⟨u,o5⟩,o0⟩,λb hb=>?_⟩
   have fb:=(hf b hb).1;have lb:b<s.heap.objs.size:=by
    rcases aH.mp hb with rfl|hb
    ·exact le
    ·have q:b=it:=by simpa using hb
     subst q;obtain⟨o,U,_⟩:=M;exact Zp U
   rw[Zy (ay lb)];exact fb
  ·have q1:b≠e:=λz=>hb (by simp[z])
   have q2:b≠it:=λz=>hb (by simp[z]);exact (O.2 b q1).trans (hk b v q1 q2 q)
  ·rcases aH.mp hb with rfl|hb
   ·exact⟨_,o5⟩
   ·have q:b=it:=by simpa using hb
    subst q;obtain⟨o,U,_⟩:=o0;exact⟨o,U⟩
 done:=by
  intro X hP hw hK hc i Y s σ H E I hf st hg;subst hP hw hK;obtain⟨⟨j,J⟩,M⟩:=st;obtain⟨xs,hq,hx⟩:=hg;obtain⟨o6,rv,p,hz⟩:=I.list hq;have hl:=rv.length;exact wpAny_pyNext_enum_end (I.ok.hd hc) J M p.isList (by simp;omega) λh1 eb=>⟨rfl,I.turnedL (t':=s.toks) (ts:=[e,it]) (λb o hb q=>eb b o (λz=>hb (by simp[z])) q) hf⟩
 self:=λ_ _ _ _ _ st h=>by
  obtain⟨⟨j,J⟩,M⟩:=st;exact eS J h
theorem UD {P:Program}{w:World}{K:aa}{elts:List Expr}{x1}{pos:Pos}(a e it:Addr)(ne:e≠it) :
  ZaM P w K (.Tuple elts x1 pos) (ZoZ K a) [e,it] e (λi h=>(∃j,gZ h e it i j)/\h.IsTupleIter it a i) where
 mem:=by simp
 obj:=λi h st b hb=>by
  obtain⟨⟨j,J⟩,⟨o,Y,c,d⟩⟩:=st;rcases aH.mp hb with rfl|hb
  ·exact⟨_,J,λv z=>by
    have z':gK _=gq v:=z;cases z'⟩
  ·have q:b=it:=by simpa using hb
   subst q;exact⟨o,Y,λv z=>by rw[d] at z;cases z⟩
 keep:=λi h h' st k=>by
  obtain⟨⟨j,J⟩,M⟩:=st;exact⟨⟨j,k e (by simp) _ J⟩,M.at λo q=>k it (by simp) o q⟩
 item:=by
  intro X hP hw hK hc i o0 s σ H E I hf st hg;subst hP hw hK;obtain⟨⟨j,J⟩,M⟩:=st;obtain⟨xs,x,hq,hx⟩:=hg;obtain⟨O,rv,p,hz⟩:=I.tuple hq;obtain⟨u,hu,ru⟩:=rv.get hx;refine PyY.ZeY J M (show s.heap.IsTuple a O.toArray from p) (y:=u) (by simpa using hu) ne λh1 ho o7 hT p7 hk=>?_;refine⟨_,rfl,lK ho λh2 o8 o9=>?_⟩;have le:e<s.heap.objs.size:=Zp J;have U:bq e h1 h2:=o9;have p6:h2.get? s.heap.objs.size=some {cls:=.type "tuple",data:=.seq #[.int i s.toks,u]}:=(U.2 _ (bB le)).trans hT;have o5:h2.IsTupleIter it a (i+1):=o7.at λo q=>(U.2 it (bV ne)).trans q;have o6:gZ h2 e it ((i+1:Nat):Int) u:=by
   have:=o8;simpa using this
  have nT:H s.heap.objs.size=none:=I.hok.fresh (Zq _);have I2:=I.turnLay (t':=s.toks+1) (h':=h2) (ts:=[e,it]) (T:=s.heap.objs.size) (o:=.tup [.int i,x]) (λb v hb q=>?_) (λb hb=>?_) hf (Zq _) ⟨by show 2<=sizeLine;decide,[.int i s.toks,u],.cons ⟨_,rfl⟩ (.cons ru .nil),_,p6,rfl,0,rfl⟩
  ·refine⟨.ref s.heap.objs.size,_,I2,rfl,⟨_,x,rfl,nT,rfl,λys hy=>by rw[I.tuple_inj hy hq];exact hx⟩,⟨⟨u,o6⟩,o5⟩,λb hb=>?_⟩
   have fb:=(hf b hb).1;have lb:b<s.heap.objs.size:=by
    rcases aH.mp hb with rfl|hb
    ·exact le
    ·have q:b=it:=by simpa using hb
     subst q;obtain⟨o,Y,_⟩:=M;exact Zp Y
   rw[Zy (ay lb)];exact fb
  ·have q1:b≠e:=λz=>hb (by simp[z])
   have q2:b≠it:=λz=>hb (by simp[z]);exact (U.2 b q1).trans (hk b v q1 q2 q)
  ·rcases aH.mp hb with rfl|hb
   ·exact⟨_,o6⟩
   ·have q:b=it:=by simpa using hb
    subst q;obtain⟨o,Y,_⟩:=o5;exact⟨o,Y⟩
 done:=by
  intro X hP hw hK hc i o0 s σ H E I hf st hg;subst hP hw hK;obtain⟨⟨j,J⟩,M⟩:=st;obtain⟨xs,hq,hx⟩:=hg;obtain⟨O,rv,p,hz⟩:=I.tuple hq;have hl:=rv.length;exact PyY.Zhd (I.ok.hd hc) J M (show s.heap.IsTuple a O.toArray from p) (by simp;omega) λh1 eb=>⟨rfl,I.turnedL (t':=s.toks) (ts:=[e,it]) (λb o hb q=>eb b o (λz=>hb (by simp[z])) q) hf⟩
 self:=λ_ _ _ _ _ st h=>by
  obtain⟨⟨j,J⟩,M⟩:=st;exact eS J h
def ZmV (K:aa)(M:TA):TI:=λO H R=>M O H λU j=>∃a,U=[.ref a]/\(((∃J,WZ K j a J)/\R (Zmg K a) j)\/((∃J,WO K j a J)/\R (ZoZ K a) j))
theorem Zqq {elts:List Expr}{x1}{pt:Pos}{l:Expr}{ta:TA}{p pos:Pos}(hm:X.mg "enumerate"=none)(ha:PA X [l] ta)(hg:We X.env.scope "enumerate"=true:=by kernel_rfl)(hs:starEach [l] X.env=[(false,eval l X.env)]:=by rfl) :
  PI X (.Tuple elts x1 pt) (.Call (.Name "enumerate" p) [l] [] pos) (ZmV X.K ta):=by
 intro J s σ H R I h;refine Call_ (JD I (XG hg) hm (show bootBuiltins "enumerate"=some (.type "enumerate") by kernel_rfl) (bD (Yo (ha pos J s σ H _ I h) λus s1 ⟨vs,H1,j,r1,q1⟩=>?_) hs rfl));obtain⟨a,e,q⟩:=q1;subst e;cases r1 with
 |cons r rr=>
  cases rr;cases (show _=aQ a from r);have sz:∀b,b∈[s1.heap.objs.size+1,s1.heap.objs.size]->s1.heap.objs.size<=b:=λb hb=>by
   rcases aH.mp hb with rfl|hb
   ·exact gP _
   ·have:b=s1.heap.objs.size:=by simpa using hb
    rw[this];exact Zq _
  rcases q with ⟨⟨xs,O⟩,q⟩|⟨⟨xs,O⟩,q⟩
  ·obtain⟨M,rv,p,hz⟩:=j.list O
   refine call_enumerate_list p.isList λg ge U gs Y=>?_;refine eS ge ?_;exact⟨_,[s1.heap.objs.size+1,s1.heap.objs.size],_,_,H1,rfl,j.kept (t':=s1.toks) Y,UE a _ _ (bB (dA _)),⟨⟨_,ge⟩,U⟩,λb hb=>j.fpOk (sz b hb) (j.hok.fresh (sz b hb)),q⟩
  ·obtain⟨M,rv,p,hz⟩:=j.tuple O
   refine PyY.Zax (show s1.heap.IsTuple a M.toArray from p) λg ge U gs Y=>?_;refine eS ge ?_;exact⟨_,[s1.heap.objs.size+1,s1.heap.objs.size],_,_,H1,rfl,j.kept (t':=s1.toks) Y,UD a _ _ (bB (dA _)),⟨⟨_,ge⟩,U⟩,λb hb=>j.fpOk (sz b hb) (j.hok.fresh (sz b hb)),q⟩
theorem V3 (K:aa){elts:List Expr}{J}{pt:Pos}{l:Expr}{j:TA}{p pos:Pos}(M:X.mg "enumerate"=none)(O:PA X [l] j)(U:X.K=K:=by rfl)(Y:We X.env.scope "enumerate"=true:=by kernel_rfl)(hs:starEach [l] X.env=[(false,eval l X.env)]:=by rfl) :
  PI X (.Tuple elts J pt) (.Call (.Name "enumerate" p) [l] [] pos) (ZmV K j):=U▸Zqq M O Y hs
structure Zkn (J:It)(At:Hp->Prop)(xs:TR):Prop where
 go:∀i H,At H->i<xs.length->J.go i H
 yld:∀i H x H2,At H->J.yld i H x H2->∃T y,x=.ref T/\H T=none/\H2=upd H T (.tup [.int i,y])/\xs[i]?=some y
 stop:∀i H,At H->xs.length<=i->J.stop i H
theorem Zah {K:aa}{a:Addr}{xs:TR}:Zkn (Zmg K a) (λH=>WZ K H a xs) xs:=
 ⟨λi H h hi=>⟨xs,xs[i],h,by simp[hi]⟩,λi H x O h j=>by
  obtain⟨T,y,e,J,M,q⟩:=j;exact⟨T,y,e,J,M,q xs h⟩,λi H h hi=>⟨xs,h,hi⟩⟩
theorem Zag {K:aa}{a:Addr}{xs:TR}:Zkn (ZoZ K a) (λH=>WO K H a xs) xs:=
 ⟨λi H h hi=>⟨xs,xs[i],h,by simp[hi]⟩,λi H x O h j=>by
  obtain⟨T,y,e,J,M,q⟩:=j;exact⟨T,y,e,J,M,q xs h⟩,λi H h hi=>⟨xs,h,hi⟩⟩
theorem YW {J:It}{g:TG}{tb:TS}{D:WY}{σ:St}{H:Hp}{At:Hp->Prop}{xs:TR}(S:Zkn J At xs)(Pv:Nat->St->Hp->Prop)(h0:Pv 0 σ H)(hS:∀i σ H,Pv i σ H->At H)
  (hs:∀(i:Nat) y σ H T,xs[i]?=some y->Pv i σ H->H T=none->g (.ref T) σ (upd H T (.tup [.int i,y])) λM Y=>tb (D.lp (Pv (i+1))) M Y) (hd:∀ σ H,Pv xs.length σ H->D.nx σ H) :
  ∃W:Nat->Nat->St->Hp->Prop,(∃m,W 0 m σ H)/\∀i m σ H,W i m σ H->
   (J.stop i H/\D.nx σ H)\/(J.go i H/\∃N:St->Hp->Prop,(∀ O j,N O j->∃m',m'<m/\W (i+1) m' O j)/\∀x j,J.yld i H x j->g x σ j λM Y=>tb (D.lp N) M Y):=by
 refine⟨λi m σ H=>m=xs.length-i/\i<=xs.length/\Pv i σ H,⟨_,rfl,aX _,h0⟩,?_⟩;rintro i m σ H ⟨rfl,hi,p⟩;have s:=hS i σ H p;by_cases U:i<xs.length
 ·refine .inr ⟨S.go i H s U,Pv (i+1),λO j p'=>⟨xs.length-(i+1),by omega,rfl,U,p'⟩,λx j hy=>?_⟩
  obtain⟨T,y,rfl,hT,rfl,hx⟩:=S.yld i H x j s hy;exact hs i y σ H T hx p hT
 ·have e:i=xs.length:=by omega
  subst e;exact .inl ⟨S.stop _ H s (Zq _),hd σ H p⟩
def Itd (lo:Int)(n:Nat):It:=⟨λi _=>i<n,λi H x j=>j=H/\x=.int (lo-i),λi _=>n<=i⟩
theorem ZgB {P:Program}{w:World}{K:aa}{tg:Expr}(it:Addr)(lo:Int)(n:Nat):ZaM P w K tg (Itd lo n) [it] it (λi h=>ir h it (lo+(i:Nat)*(-1)) ((n:Int)-(i:Nat)) (-1)) where
 mem:=by simp
 obj:=λi h st b hb=>by
  have e:b=it:=by simpa using hb
  subst e;exact⟨_,st,λv z=>by
   have z':gK _=gq v:=z;cases z'⟩
 keep:=λi h M st k=>k it (by simp) _ st
 item:=by
  intro X U Y hK hc i j s σ H E I O st hg;subst U Y hK;obtain⟨f0,f1,f2,f3,f4,f5⟩:=O it (by simp);have W:=lN (prog:=X.prog) (w:=X.w) (I.ok.hd hc) it lo (-1) n;refine W.item i s _ _ hg st λv M tk hv J kk=>?_;obtain⟨t,rfl⟩:=hv;have I1:Inv X j σ H {s with heap:=M,toks:=tk}:=I.turned (λb o hb e=>kk b o (by simpa using hb) e) f0 f1 f3 f4 f5;refine⟨_,rfl,ZdH (s:={s with heap:=M,toks:=tk}) (n:="range_iterator") J rfl rfl (by decide) ⟨.int (lo-i),H,I1,⟨t,?_⟩,⟨rfl,rfl⟩,J,λb hb=>(O b hb).1⟩⟩;rw[show lo-(i:Int)=lo+(i:Int)*(-1) by omega]
 done:=by
  intro X U Y hK hc i j s σ H E I O st hg;subst U Y hK;obtain⟨f0,f1,f2,f3,f4,f5⟩:=O it (by simp);exact iP (I.ok.hd hc) st (by have:n<=i:=hg;omega) λM eb=>⟨rfl,I.turned (t':=s.toks) (λb o hb e=>eb b o hb e) f0 f1 f3 f4 f5⟩
 self:=λ_ _ _ _ _ st h=>iQ st h
theorem rangeSize_down (a b:Int):bu a b (-1)=if b<a then a-b else 0:=by
 unfold bu;rw[if_neg (by decide),Int.neg_neg,Int.ediv_one];by_cases h:b<a
 ·rw[if_pos h,if_pos h]
  omega
 ·rw[if_neg h,if_neg h]
theorem small_down {a b:Int}(j:-(2 ^ 62)<=a)(J:a<2 ^ 62)(M:-(2 ^ 62)<=b)(O:b<2 ^ 62):cL a b (-1)=true:=by
 unfold cL;rw[rangeSize_down];simp only[iZ,ae,bg,decide_eq_true_eq,beq_iff_eq,show ¬((-1:Int) > 0) by decide,if_false];split <;> omega
def Zqf (J:TA):TI:=λM H R=>J M H λO U=>∃i j:Int,O=[.int i,.int j,.int (-1)]/\(-(2 ^ 62)<=i/\i<2 ^ 62/\-(2 ^ 62)<=j/\j<2 ^ 62)/\R (Itd i (i-j).toNat) U
theorem ZpL {X:Cx}{tg a b c:Expr}{ta:TA}{p pos:Pos}(hm:X.mg "range"=none)(ha:PA X [a,b,c] ta)(hg:We X.env.scope "range"=true:=by kernel_rfl)(hs:starEach [a,b,c] X.env=(false,eval a X.env)::starEach [b,c] X.env:=by rfl)(Y:(backTo pos (starEach [b,c] X.env)).any (·.1)=false:=by rfl) :
  PI X tg (.Call (.Name "range" p) [a,b,c] [] pos) (Zqf ta):=by
 intro M s σ H R I h;refine Call_ (JD I (XG hg) hm lX (bD (Yo (ha pos M s σ H _ I h) λus s1 ⟨vs,H1,I1,r1,q1⟩=>?_) hs Y));obtain⟨i,j,e,⟨q1,q2,q3,q4⟩,q⟩:=q1;subst e;cases r1 with
 |cons r O=>
  cases O with
  |cons r' O=>
   cases O with
   |cons o0 O=>
    cases O;obtain⟨t,rfl⟩:=r;obtain⟨U,rfl⟩:=r';obtain⟨J,rfl⟩:=o0;refine call_range_3 (by decide) ?_ (Or.inl (kJ (by decide)));refine jP (lr ..) (small_down q1 q2 q3 q4) ?_;have I2:Inv X M σ H1 {s1 with heap:=s1.heap.push {cls:=.type "range",data:=.fields #[.int i t,.int j U,.int (-1) J]},toks:=s1.toks}:=I1.kept λb o e=>Zn _ e;refine⟨(s1.heap.push {cls:=.type "range",data:=.fields #[.int i t,.int j U,.int (-1) J]}).objs.size,[(s1.heap.push {cls:=.type "range",data:=.fields #[.int i t,.int j U,.int (-1) J]}).objs.size],_,_,H1,rfl,
     I2.kept (t':=s1.toks) λb o e=>Zn _ e,ZgB _ i (i-j).toNat,?_,λb hb=>?_,q⟩
    ·have e1:i+((0:Nat):Int)*(-1)=i:=by simp
     have e2:(((i-j).toNat:Nat):Int)-((0:Nat):Int)=bu i j (-1):=by rw[rangeSize_down];split <;> omega
     show ir _ _ (i+((0:Nat):Int)*(-1)) ((((i-j).toNat:Nat):Int)-((0:Nat):Int)) (-1);rw[e1,e2];exact Zo _ rfl
    ·have e:b=(s1.heap.push {cls:=.type "range",data:=.fields #[.int i t,.int j U,.int (-1) J]}).objs.size:=by simpa using hb
     subst e;exact I2.fpOk (Zq _) (I2.hok.fresh (Zq _))
theorem ZdI {lo:Int}{n:Nat}{g:TG}{tb:TS}{D:WY}{σ:St}{H:Hp}(Pv:Nat->St->Hp->Prop)(h0:Pv 0 σ H)
  (hs:∀i σ H,i<n->Pv i σ H->g (.int (lo-i)) σ H λj U=>tb (D.lp (Pv (i+1))) j U) (hd:∀ σ H,Pv n σ H->D.nx σ H) :
  ∃W:Nat->Nat->St->Hp->Prop,(∃m,W 0 m σ H)/\∀i m σ H,W i m σ H->
   ((Itd lo n).stop i H/\D.nx σ H)\/((Itd lo n).go i H/\∃N:St->Hp->Prop,(∀ J M,N J M->∃Y,Y<m/\W (i+1) Y J M)/\∀x M,(Itd lo n).yld i H x M->g x σ M λj U=>tb (D.lp N) j U):=by
 refine⟨λi m σ H=>m=n-i/\i<=n/\Pv i σ H,⟨n,by simp,aX _,h0⟩,?_⟩;rintro i m σ H ⟨rfl,hi,p⟩;by_cases O:i<n
 ·refine .inr ⟨O,Pv (i+1),λJ M p'=>⟨n-(i+1),by omega,rfl,O,p'⟩,λx M hy=>?_⟩
  obtain⟨e,rfl⟩:=hy;subst e;exact hs i σ _ O p
 ·have e:i=n:=by omega
  subst e;exact .inl ⟨Zq _,hd σ H p⟩
theorem g2 (K:aa)(i j:Nat){X:Cx}{x y:Str}{k}{J M pos:Pos}(U:X.calm=true)(Y:PG X (.Name x J) (Ym i))(hy:PG X (.Name y M) (Ym j))(hK:X.K=K:=by rfl)
  (hn:(assignEach [.Name x J,.Name y M] X.env).length=2:=by rfl) (O:(assignEach [.Name x J,.Name y M] X.env).findIdx? (·.1)=none:=by rfl) :
  PG X (.Tuple [.Name x J,.Name y M] k pos) (ZeS K 2 (JO (Ym i) (JO (Ym j) ZeT))):=hK▸ZnA U (Zdf Y (Zdf hy Zk5)) hn O
structure Sml (k b:Nat)(d:dZ):Prop where
 sh:d.showable=true
 nd:d.hasDict=false
 dp:d.depth<=k
 lv:d.leavesShort 300=true
 bl:d.bulk<=b
theorem Sml.all {k b:Nat}:∀{ds:List dZ},(∀d∈ds,Sml k b d)->fh ds=true/\gB ds=false/\cx ds<=k/\dP 300 ds=true/\iF ds<=ds.length*(b+1)
 | [],_=>⟨rfl,rfl,aX _,rfl,aX _⟩
 |d::ds,h=>by
  obtain⟨j,J,M,O,Y⟩:=Sml.all (ds:=ds) λe U=>h e (aF _ U);have hd:=h d aD;refine⟨?_,?_,?_,?_,?_⟩
  ·simp only[fh,hd.sh,j,Bool.and_self]
  ·simp only[gB,hd.nd,J,Bool.or_self]
  ·simp only[cx]
   exact Nat.max_le.mpr ⟨hd.dp,M⟩
  ·simp only[dP,hd.lv,O,Bool.and_self]
  ·simp only[iF,Zi]
   have:=hd.bl;rw[cz];omega
theorem Sml.fit {k b:Nat}{d:dZ}(h:Sml k b d)(j:k<=60)(hb:b<=50000):ZdX d:=by
 refine⟨h.sh,h.nd,aN h.dp j,?_⟩;have:=PyData.shown_le_bulk 300 (by decide) d h.lv;have J:=h.bl;have e:=Jv;omega
theorem Sml.tup {k b n:Nat}{ds:List dZ}(j:ds.length<=n)(h:∀d∈ds,Sml k b d):Sml (k+1) (n*(b+1)) (.tuple ds):=by
 obtain⟨J,M,Y,O,U⟩:=Sml.all h;refine⟨by simp only[jL];exact J,by simp only[nX];exact M,by simp only[eK];omega,by simp only[mf];exact O,?_⟩;simp only[PyData.bulk];exact aN U (cv _ j)
end L2
namespace Pm
open PySem L2 PySem.Spec PyProof.Rows
open Tb
def nV (k:Nat):V:=.int (k:Int)
def GT (H:Hp)(g:Addr)(t:T7):Prop:=∃rs:TU,H g=some (.tup (rs.map V.ref))/\rs.length=t.length/\∀(i:Nat) r,rs[i]?=some r->Tz H r ((t.getD i []).map nV)
theorem GT.mono {H j:Hp}{g:Addr}{t:T7}(s:Same H j)(G:GT H g t):GT j g t:=by
 obtain⟨J,M,O,U⟩:=G;exact⟨J,s _ _ M,O,λi r Y=>(U i r Y).mono s⟩
theorem Ul {t:T7}(P:PW t){a:Nat}(j:a<t.length):(t.getD a []).length=t.length:=by
 refine P.len _ ?_;rw[Zb,Zf j];exact be j
theorem ZbV {t:T7}(P:PW t){a b:Nat}(j:a<t.length)(hb:b<t.length):((t.getD a []).map nV)[b]?=some (.int (ZT t a b:Nat)):=by
 have J:=Ul P j;unfold ZT;generalize t.getD a []=row at *;rw[Zc,Zf (show b<row.length by omega),Zb,Zf (show b<row.length by omega)];rfl
theorem GT.at {H:Hp}{g:Addr}{t:T7}(G:GT H g t)(P:PW t){a:Nat}(J:a<t.length):∃(rs:TU) (r:Addr),H g=some (.tup (rs.map V.ref))/\rs.length=t.length/\Xy (rs.map V.ref) (a:Int)=some (.ref r)/\Tz H r ((t.getD a []).map nV)/\∀b,b<t.length->Xy ((t.getD a []).map nV) (b:Int)=some (.int (ZT t a b:Nat)):=by
 obtain⟨rs,M,O,U⟩:=G;have j:rs[a]?=some (rs[a]'(by omega)):=Zf (by omega);exact⟨rs,_,M,O,ZR (by rw[Zc,j];rfl),U a _ j,λb hb=>ZR (ZbV P J hb)⟩
def Zsb (H:Hp)(L:Addr)(rs:TU)(f:Nat->TY):Prop:=H L=some (.lst (rs.map V.ref))/\∀(i:Nat) r,rs[i]?=some r->Tz H r ((f i).map nV)
theorem J3 {n i:Nat}(h:i<n):ixN n (i:Int)=some i:=by
 unfold ixN;rw[if_pos (gF _),if_pos (by omega),Zj]
theorem ZdM {α:Type}:∀(l:List α) (i:Nat) (h:i<l.length),(l[i]::l.eraseIdx i).Perm l
 |x::l,0,h=>di _
 |x::l,i+1,h=>by
  show ((l[i]'(cC h))::x::l.eraseIdx i).Perm (x::l);exact (jH x _ _).trans (List.Perm.cons x (ZdM l i (cC h)))
theorem ZnH {n:Nat}{os:TY}(J:1<=n)(p:os.Perm (ac n))(h0:os[0]?=some 0):Ord n os:=by
 refine⟨by rw[p.length_eq,Zg],p.nodup_iff.mpr cT,λv j=>p.mem_iff.mpr (af.mpr j),λv j=>af.mp (p.mem_iff.mp j),?_⟩;rw[Zb,h0];rfl
theorem ZeH {xs:TY}{i:Nat}{y:V}(h:(xs.map nV)[i]?=some y):∃k,xs[i]?=some k/\y=.int (k:Nat):=by
 rw[Zc] at h;cases e:xs[i]? with
 |none=>rw[e] at h;cases h
 |some k=>rw[e] at h;exact⟨k,rfl,(aA h).symm⟩
def XH (f g:TY):TY:=g.map λi=>f.getD i 0
def nI (xs:TY):TX:=xs.map λk:Nat=>((k:Nat):Int)
theorem Zp5 (xs:TY):(nI xs).map V.int=xs.map nV:=by unfold nI;rw[aL];rfl
def TupsAt (H:Hp)(L:Addr)(bs:TU)(yss:T7):Prop:=H L=some (.lst (bs.map V.ref))/\bs.length=yss.length/\∀(i:Nat) b,bs[i]?=some b->H b=some (.tup ((yss.getD i []).map nV))
theorem TupsAt.mono {H j:Hp}{L:Addr}{bs:TU}{yss:T7}(s:Same H j)(R:TupsAt H L bs yss):TupsAt j L bs yss:=⟨s _ _ R.1,R.2.1,λi b hb=>s _ _ (R.2.2 i b hb)⟩
theorem TupsAt.push {H:Hp}{L:Addr}{bs:TU}{yss:T7}{b:Addr}{ys:TY}(R:TupsAt H L bs yss)(h:H b=some (.tup (ys.map nV))):TupsAt (upd H L (.lst (bs.map V.ref++[.ref b]))) L (bs++[b]) (yss++[ys]):=by
 have ne:∀{b ys},H b=some (.tup ys)->upd H L (.lst (bs.map V.ref++[.ref b])) b=some (.tup ys):=λ{b ys} hb=>by
  rw[Zy (λz=>by rw[z,R.1] at hb;cases hb)];exact hb
 refine⟨by rw[Zt,aO];rfl,by rw[Zd,Zd,R.2.1];rfl,λi c j=>?_⟩;have J:c≠L->upd H L (.lst (bs.map V.ref++[.ref b])) c=H c:=λz=>Zy z;by_cases M:i<bs.length
 ·rw[aq M] at j
  have:=R.2.2 i c j;rw[J (λz=>by rw[z,R.1] at this;cases this),Zb,aq (by rw[<-R.2.1];exact M),<-Zb];exact this
 ·rw[aw (by omega)] at j
  have O:i-bs.length=0:=by
   apply ak;intro z;rw[ag (by rw[Zk];omega)] at j;cases j
  rw[O] at j;cases j;have:i=yss.length:=by rw[<-R.2.1];omega
  rw[J (λz=>by rw[z,R.1] at h;cases h),this,Zb,aw (Zq _),cS];exact h
theorem Zb1 {K:aa}{H:Hp}:∀(bs:TU) (yss:T7),bs.length=yss.length->(∀(j:Nat) b,bs[j]?=some b->H b=some (.tup ((yss.getD j []).map nV)))->WC K H (bs.map V.ref) (yss.map λns=>fF ((nI ns).map a5))
 | [],[],_,_=>.nil
 | [],_::_,h,_=>by cases h
 |_::_,[],h,_=>by cases h
 |b::bs,y::yss,h,g=>by
  have hb:=g 0 b rfl;have J:H b=some (.tup ((nI y).map V.int)):=by rw[Zp5];exact hb
  exact .cons (.tup (.of J) (WC.ints _)) (Zb1 bs yss (c8 h) λj M O=>g (j+1) M O)
theorem Zn0 {a b:TY}:nI a=nI b↔a=b:=by
 constructor
 ·intro h
  unfold nI at h;exact (mY (λx y e=>by exact Int.ofNat.inj e)).mp h
 ·intro h;rw[h]
theorem Zqp (a b:TY):iX (.tuple ((nI a).map a5)) (.tuple ((nI b).map a5))=decide (a=b):=by
 have:iX (.tuple ((nI a).map a5)) (.tuple ((nI b).map a5))=decide (nI a=nI b):=by
  show PyData.eqvAll _ _=_;exact PySem.W.ked_eqvAll _ _
 rw[this,decide_eq_decide];exact Zn0
theorem ZcD (yss:T7)(o:TY):((yss.map λns=>fF ((nI ns).map a5)).any λy=>y.eqv (.tuple ((nI o).map a5)))=yss.contains o:=by
 rw[dG,List.contains_eq_any_beq];congr 1;funext y;show iX _ _=(o == y);rw[Zqp];by_cases h:y=o
 ·rw[decide_eq_true h,h,beq_self_eq_true]
 ·rw[decide_eq_false h]
  exact (beq_eq_false_iff_ne.mpr (λz=>h z.symm)).symm
def Zoq (j:TY):V->V
 | .int z=>nV (j.getD z.toNat 0)
 |y=>y
theorem ZjQ (j g:TY):(g.map nV).map (Zoq j)=(XH j g).map nV:=by
 unfold XH;rw[aL,aL];refine bn λb _=>?_;show nV (j.getD (b:Int).toNat 0)=nV (j.getD b 0);rw[Zj]
def Wg (j:T7):T7:=j.map λa=>j.map λb=>j.findIdx (· == XH a b)
def Gk (k:Nat)(y:TY):Prop:=y.length=k/\∀x∈y,x<k
theorem Zkf {k:Nat}{a g:TY}(j:Gk k a)(J:Gk k g):Gk k (XH a g):=by
 unfold XH;refine⟨by rw[Za];exact J.1,λx M=>?_⟩;obtain⟨i,hi,rfl⟩:=aC.mp M;have O:=J.2 i hi;have U:=j.1;rw[Zb,Zf (show i<a.length by omega)];exact j.2 _ (be _)
theorem TupsAt.get {H:Hp}{L:Addr}{bs:TU}{yss:T7}(R:TupsAt H L bs yss){i:Nat}(j:i<yss.length):∃b,bs[i]?=some b/\Xy (bs.map V.ref) (i:Int)=some (.ref b)/\H b=some (.tup ((yss.getD i []).map nV)):=by
 have hb:i<bs.length:=by rw[R.2.1];exact j
 have e:bs[i]?=some bs[i]:=Zf hb;exact⟨_,e,ZR (by rw[Zc,e];rfl),R.2.2 i _ e⟩
theorem TupsAt.ref {H:Hp}{L:Addr}{bs:TU}{yss:T7}(R:TupsAt H L bs yss){i:Nat}{y:V}(h:(bs.map V.ref)[i]?=some y):∃b,y=.ref b/\i<yss.length/\H b=some (.tup ((yss.getD i []).map nV)):=by
 rw[Zc] at h;cases e:bs[i]? with
 |none=>rw[e] at h;cases h
 |some b=>
  rw[e] at h;refine⟨b,(aA h).symm,?_,R.2.2 i b e⟩;rw[<-R.2.1];exact (ab.mp e).1
theorem getL {yss:T7}{i:Nat}(h:i<yss.length):yss[i]?=some (yss.getD i []):=by
 rw[Zb,Zf h];rfl
theorem ZeK {yss:T7}{i:Nat}(h:i<yss.length):yss.getD i []∈yss:=ah (getL h)
theorem Zp3 {xs:TY}{i:Nat}(h:i<xs.length):Xy (xs.map nV) (i:Int)=some (nV (xs.getD i 0)):=ZR (by rw[Zc,Zf h,Zb,Zf h];rfl)
def Zdq:T7->Hp->(TR->Hp->Prop)->Prop
 | [],H,Q=>Q [] H
 |x::r,H,Q=>iTu (λv j=>Zdq r j λJ M=>Q (v::J) M) (x.map nV) H
theorem JX:∀(xss:T7) (H:Hp) (Q:TR->Hp->Prop),(∀x∈xss,x.length<=1000)->
  (∀(bs:TU) (j:Hp),Same H j->bs.length=xss.length->(∀(i:Nat) b,bs[i]?=some b->j b=some (.tup ((xss.getD i []).map nV)))->Q (bs.map V.ref) j)->Zdq xss H Q
 | [],H,Q,_,q=>q [] H (Same.refl _) rfl λi b hb=>by cases hb
 |x::r,H,Q,M,q=>by
  have sz:=Jv;refine⟨?_,λp U=>JX r _ _ (λy Y=>M y (aF _ Y)) λbs j O hb hi=>?_⟩
  ·have:=M x aD
   rw[Za];omega
  ·refine q (p::bs) j ((Same.upd U).trans O) (by rw[Zi,Zi,hb]) λi b J=>?_
   cases i with
   |zero=>
    cases J;exact O _ _ Zt
   |succ i=>exact hi i b J
def Zjc:X0->Hp->(TR->Hp->Prop)->Prop
 | [],H,Q=>Q [] H
 |j::r,H,Q=>Zdq j H (iLs λv J=>Zjc r J λM O=>Q (v::M) O)
theorem V0:∀(j:X0) (H:Hp) (Q:TR->Hp->Prop),(∀xss∈j,xss.length<=1000/\∀x∈xss,x.length<=1000)->
  (∀(ls:TU) (J:Hp),Same H J->ls.length=j.length->(∀(i:Nat) l,ls[i]?=some l->H l=none/\∃bs,TupsAt J l bs (j.getD i []))->Q (ls.map V.ref) J)->Zjc j H Q
 | [],H,Q,_,q=>q [] H (Same.refl _) rfl λi b hb=>by cases hb
 |xss::r,H,Q,hl,q=>by
  have sz:=Jv;obtain⟨h1,h2⟩:=hl xss aD;refine JX xss H _ h2 λbs H1 s1 hb hi=>⟨by rw[Za];omega,λp O=>V0 r _ _ (λy hy=>hl y (aF _ hy)) λls J s' U Y=>?_⟩;have s2:=s1.trans (Same.upd (o:=.lst (bs.map V.ref)) O);refine q (p::ls) J (s2.trans s') (by rw[Zi,Zi,U]) λi l M=>?_;cases i with
  |zero=>
   cases M;refine⟨s1.free O,bs,TupsAt.mono s' ⟨Zt,hb,λi b o0=>?_⟩⟩;exact Same.upd (o:=.lst (bs.map V.ref)) O _ _ (hi i b o0)
  |succ i=>
   obtain⟨h3,h4⟩:=Y i l M;exact⟨s2.free h3,h4⟩
def teT (x:TY):TE:=λ_ H Q=>iTu Q (x.map nV) H
theorem Zk6 (x:TY){j:List Expr}{t:TA}{J}{pos:Pos}(h:PA X j t)(e:t=λ_ H Q=>Q (x.map nV) H):PE X (.Tuple j J pos) (teT x):=by
 subst e;exact VG h
def taN (xss:T7):TA:=λ_ H Q=>Zdq xss H Q
theorem Zlb:PA X [] (taN []):=Zs
theorem pan {e:Expr}{j:List Expr}{x:TY}{xss:T7}(h:PE X e (teT x))(r:PA X j (taN xss))(J:WA e=true:=by rfl):PA X (e::j) (taN (x::xss)):=pc h r J
def teL (xss:T7):TE:=λ_ H Q=>Zdq xss H (iLs Q)
theorem Zk7 {j:List Expr}{xss:T7}{pos:Pos}(h:PA X j (taN xss)):PE X (.List j pos) (teL xss):=ZS h
def taL (j:X0):TA:=λ_ H Q=>Zjc j H Q
theorem Zlc:PA X [] (taL []):=Zs
theorem pal {e:Expr}{J:List Expr}{xss:T7}{j:X0}(h:PE X e (teL xss))(r:PA X J (taL j))(M:WA e=true:=by rfl):PA X (e::J) (taL (xss::j)):=pc h r M
structure QE (X:Cx)(e:Expr)(t:TE):Prop where
 h:PE X e t
structure QA (X:Cx)(es:List Expr)(t:TA):Prop where
 h:PA X es t
structure QS (X:Cx)(st:Stmt)(t:TS):Prop where
 h:PS X st t
structure QSs (X:Cx)(sts:List Stmt)(t:TS):Prop where
 h:PSs X sts t
theorem qi {i:Int}{j}{pos:Pos}:QE X (.Constant (.int i) j pos) (tC (.int i)):=⟨Zw⟩
theorem YO:QA X [] ZkC:=⟨Zs⟩
theorem qa {e:Expr}{j:List Expr}{J:TE}{t:TA}(h:QE X e J)(r:QA X j t)(M:WA e=true:=by rfl):QA X (e::j) (ZcR J t):=⟨pc h.h r.h M⟩
theorem Wl (x:TY){j:List Expr}{t:TA}{J}{pos:Pos}(h:QA X j t)(e:t=λ_ H Q=>Q (x.map nV) H):QE X (.Tuple j J pos) (teT x):=⟨Zk6 x h.h e⟩
theorem WI:QA X [] (taN []):=⟨Zlb⟩
theorem qan {e:Expr}{j:List Expr}{x:TY}{xss:T7}(h:QE X e (teT x))(r:QA X j (taN xss))(J:WA e=true:=by rfl):QA X (e::j) (taN (x::xss)):=⟨pan h.h r.h J⟩
theorem Vf {j:List Expr}{xss:T7}{pos:Pos}(h:QA X j (taN xss)):QE X (.List j pos) (teL xss):=⟨Zk7 h.h⟩
theorem ZfI:QA X [] (taL []):=⟨Zlc⟩
theorem qal {e:Expr}{J:List Expr}{xss:T7}{j:X0}(h:QE X e (teL xss))(r:QA X J (taL j))(M:WA e=true:=by rfl):QA X (e::J) (taL (xss::j)):=⟨pal h.h r.h M⟩
theorem ZpU {j:List Expr}{t:TA}{pos:Pos}(h:QA X j t):QE X (.List j pos) (Zne t):=⟨ZS h.h⟩
theorem ZmL (i:Nat){x:Str}{e:Expr}{J:TE}{pos j:Pos}(M:X.fn x=true)(O:QE X e J)(U:X.N[i]?=some x:=by rfl)(Y:Jh X.N=true:=by kernel_rfl)(hx:Zbb X.env.scope x=true:=by kernel_rfl)
  (hs:swapsWith e (some (.Name x j)) pos.line X.env=pure false:=by rfl):QS X (.Assign [.Name x j] e pos) (Zd9 J (Ym i)):=⟨ZK i M O.h U Y hx hs⟩
theorem Jb {st:Stmt}{rest:List Stmt}{t u:TS}(j:QS X st t)(J:QSs X rest u):QSs X (st::rest) (Znd t u):=⟨Zu j.h J.h⟩
theorem QSs.out {j:List Stmt}{t:TS}(h:QSs X j t):PSs X j t:=h.h
theorem ZkP {j:TE}{g:TG}{u:TS}{D:WY}{σ:L2.St}{H:Hp}(h:j σ H λx J=>g x σ J (u D)):Znd (Zd9 j g) u D σ H:=h
theorem ZcQ (j:X0){σ:L2.St}{H:Hp}{Q:VK}(M:∀xss∈j,xss.length<=1000/\∀x∈xss,x.length<=1000)(hk:j.length<=1000)
  (q:∀(ls:TU) (J:Hp),Same H J->ls.length=j.length->(∀(i:Nat) l,ls[i]?=some l->H l=none/\∃bs,TupsAt J l bs (j.getD i []))->∀S,J S=none->Q (.ref S) (upd J S (.lst (ls.map V.ref)))):Zne (taL j) σ H Q:=by
 have sz:=Jv;exact V0 j H _ M λls J O U Y=>⟨by rw[Za];omega,q ls J O U Y⟩
theorem ZhT (xss:T7){σ:L2.St}{H:Hp}{Q:VK}(J:∀x∈xss,x.length<=1000)(Y:xss.length<=1000)
  (q:∀(bs:TU) (j:Hp),Same H j->bs.length=xss.length->(∀(i:Nat) b,bs[i]?=some b->j b=some (.tup ((xss.getD i []).map nV)))->∀S,j S=none->Q (.ref S) (upd j S (.lst (bs.map V.ref)))):teL xss σ H Q:=by
 have sz:=Jv;exact JX xss H _ J λbs j M O U=>⟨by rw[Za];omega,q bs j M O U⟩
theorem ZkU {bs:TU}{i:Nat}(h:i<bs.length):∃b,bs[i]?=some b/\Xy (bs.map V.ref) (i:Int)=some (.ref b):=⟨_,Zf h,ZR (by rw[Zc,Zf h];rfl)⟩
def CT (H:Hp)(c:Addr)(j:T7):Prop:=∃rs:TU,H c=some (.tup (rs.map V.ref))/\rs.length=j.length/\∀(i:Nat) r,rs[i]?=some r->H r=some (.tup ((j.getD i []).map nV))
theorem CT.mono {H J:Hp}{c:Addr}{j:T7}(s:Same H J)(h:CT H c j):CT J c j:=by
 obtain⟨M,O,U,Y⟩:=h;exact⟨M,s _ _ O,U,λi r hr=>s _ _ (Y i r hr)⟩
def Yh (n:Nat)(f:Nat->Nat):TY:=(ac n).map f
theorem Zc7 (n:Nat)(f:Nat->Nat):(Yh n f).length=n:=by unfold Yh;rw[Za,Zg]
theorem Zc6 {n a k:Nat}(f:Nat->Nat)(j:a<n):((Yh n f).map nV).set a (nV k)=(Yh n λb=>if b=a then k else f b).map nV:=by
 unfold Yh;refine a6 λi=>?_;rw[jw];by_cases J:i<n
 ·by_cases e:a=i
  ·subst e
   rw[if_pos rfl,if_pos (by rw[Za,Za,Zg];exact j),Zc,Zc,ao j];show some (nV k)=some (nV (if a=a then k else f a))
   rw[if_pos rfl]
  ·rw[if_neg e,Zc,Zc,ao J,Zc,Zc,ao J]
   show some (nV (f i))=some (nV (if i=a then k else f i))
   rw[if_neg (λz=>e z.symm)]
 ·have M:a≠i:=by omega
  rw[if_neg M,ag (by rw[Za,Za,Zg];omega),ag (by rw[Za,Za,Zg];omega)]
theorem Wp {n:Nat}{f g:Nat->Nat}(h:∀a,a<n->f a=g a):Yh n f=Yh n g:=bn λa j=>h a (af.mp j)
theorem CT.row {H:Hp}{c:Addr}{j:T7}(h:CT H c j):∃rs:TU,H c=some (.tup (rs.map V.ref))/\rs.length=j.length/\∀(i:Nat) y,(rs.map V.ref)[i]?=some y->∃r,y=.ref r/\i<j.length/\H r=some (.tup ((j.getD i []).map nV)):=by
 obtain⟨rs,U,O,Y⟩:=h;refine⟨rs,U,O,λi y J=>?_⟩;rw[Zc] at J;cases M:rs[i]? with
 |none=>rw[M] at J;cases J
 |some r=>
  rw[M] at J;cases J;exact⟨r,rfl,by rw[<-O];exact (ab.mp M).1,Y i r M⟩
theorem ZfC {j:T7}{k:Nat}(J:k<j.length):j.getD k []∈j:=by
 rw[Zb,Zf J];exact be J
theorem ZbZ {n:Nat}{f:Nat->Nat}{a:Nat}(j:a<n):Xy ((Yh n f).map nV) (a:Int)=some (.int (f a:Nat)):=ZR (by
 unfold Yh;rw[Zc,Zc,ao j];rfl)
theorem tupK {X:Cx}(K:aa)(j:X.K=K:=by rfl):YI X (.type "tuple") (_root_.L2.I_call_tuple_of K):=j▸ZD
theorem Zda {m i:Nat}{a:Nat->Addr}(j:i<m):Xy ((ac m).map λi=>V.ref (a i)) (i:Int)=some (.ref (a i)):=ZR (by rw[Zc,ao j];rfl)
theorem Zc9 {m i:Nat}{a:Nat->Addr}{y:V}(h:((ac m).map λi=>V.ref (a i))[i]?=some y):i<m/\y=.ref (a i):=by
 have j:i<m:=by
  have:=(ab.mp h).1;rw[Za,Zg] at this;exact this
 rw[Zc,ao j] at h;exact⟨j,(aA h).symm⟩
theorem Zjf {m i:Nat}{f:Nat->Nat}(j:i<m):((Yh m f).map nV)[i]?=some (.int (f i:Nat)):=by
 unfold Yh;rw[Zc,Zc,ao j];rfl
theorem ZkT (m:Nat):(Wo 0 m).map V.int=(ac m).map nV:=by
 unfold Wo;rw[aL];refine bn λi _=>?_;show V.int (0+(i:Int))=nV i;rw[cO];rfl
theorem ZbY {m i:Nat}{y:V}(h:((Wo 0 m).map V.int)[i]?=some y):i<m/\y=.int (i:Nat):=by
 rw[ZkT] at h;have j:i<m:=by
  have:=(ab.mp h).1;rw[Za,Zg] at this;exact this
 rw[Zc,ao j] at h;exact⟨j,(aA h).symm⟩
def cyc (m:Nat):TY:=(ac m).map λi=>(i+1) % m
def neg (m:Nat):TY:=(ac m).map λi=>(m-i) % m
def mn1:X0:=[[[1,0,2,3],[0,1,3,2]],[[1,0,2,3,4,5],[0,1,3,4,5,2]]]
def ma1:T7:=[[1,2,0,3],[1,0,3,2]]
def ma2:T7:=[[1,2,3,0,5,6,7,4],[4,7,6,5,2,1,0,3]]
def ma3:T7:=[[1,2,0,3,4,5,6],[0,2,1,4,5,6,3]]
def ma4:T7:=[[1,2,0,3,4,5],[0,1,2,4,5,3]]
def mn2:X0:=[[[1,2,3,4,0],[0,2,4,1,3]],[[1,2,3,0],[1,0,2,3]]]
def ma5:T7:=[[1,2,3,4,5,6,0],[0,2,4,6,1,3,5]]
def mnS:X0:=mn1++[ma1]++[ma2]++[ma3]++[ma4]
def mnG:X0:=mnS++mn2++[ma5]
def Yz (j:TY)(J:T7)(s:T7×T7):T7×T7:=J.foldl (λs p=>if s.1.contains (XH j p) then s else (s.1++[XH j p],s.2++[XH j p])) s
def dfs (M:T7):Nat->T7->T7->Option T7
 |f,fd,[]=>some fd
 |0,fd,_::_=>none
 |f+1,fd,x::O=>match Yz ((x::O).getLast?.getD []) M (fd,(x::O).dropLast) with
  |(j,J)=>dfs M f j J
structure ZoT (ps:T7)(k:Nat)(fd:T7):Prop where
 k1:1<=k
 k10:k<=10
 p1:1<=ps.length
 p9:ps.length<=9
 pl:∀g∈ps,Gk k g
 run:dfs ps 61 [ac k] [ac k]=some fd
 n60:fd.length<=60
 hd:fd[0]?=some (ac k)
 nd:fd.Nodup
 fg:∀g∈fd,Gk k g
 pw:PW (Wg fd)
 cl:∀a∈fd,∀b∈fd,XH a b∈fd
def gkB (k:Nat)(y:TY):Bool:=decide (y.length=k) && y.all λx=>decide (x<k)
theorem ZmW {k:Nat}{y:TY}(h:gkB k y=true):Gk k y:=by
 unfold gkB at h;rw[ae,decide_eq_true_eq,ax] at h;exact⟨h.1,λx j=>of_decide_eq_true (h.2 x j)⟩
def ndB:T7->Bool
 | []=>true
 |x::r=>!r.contains x && ndB r
theorem ZmN:∀{xs:T7},ndB xs=true->xs.Nodup
 | [],_=>eO
 |x::r,h=>by
  unfold ndB at h;rw[ae,gL] at h;refine bY.mpr ⟨λj=>?_,ZmN h.2⟩;rw[aI.mpr j] at h;cases h.1
def psB (j:T7):Bool:=
 let k:=(j.getD 0 []).length
 decide (1<=k) && decide (k<=10) && decide (1<=j.length) && decide (j.length<=9) && j.all (gkB k) && match dfs j 61 [ac k] [ac k] with
  |none=>false
  |some J=>decide (J.length<=60) && decide (J[0]?=some (ac k)) && ndB J && J.all (gkB k) && pwB (Wg J)
theorem Zoi {J:T7}(Y:PW (Wg J)):∀a∈J,∀b∈J,XH a b∈J:=by
 intro a ha b hb;obtain⟨i,hi⟩:=bG ha;obtain⟨j,U⟩:=bG hb;have M:(Wg J).length=J.length:=by unfold Wg;rw[Za]
 have il:=(ab.mp hi).1;have jl:=(ab.mp U).1;have h:=Y.lt i j (by rw[M];exact il) (by rw[M];exact jl);have e:ZT (Wg J) i j=J.findIdx (· == XH a b):=by
  unfold ZT Wg;rw[Zb,Zb,Zc,hi];show (Option.getD (J.map _)[j]? 0)=_;rw[Zc,U];rfl
 rw[e,M] at h;obtain⟨x,hx,O⟩:=lI.mp h;rw[<-eq_of_beq O];exact hx
theorem ZpZ {j:T7}(h:psB j=true):∃M,ZoT j (j.getD 0 []).length M:=by
 unfold psB at h;simp only[ae,decide_eq_true_eq,ax] at h;obtain⟨⟨⟨⟨⟨Y,h2⟩,h3⟩,h4⟩,h5⟩,J⟩:=h;cases hd:dfs j 61 [ac (j.getD 0 []).length] [ac (j.getD 0 []).length] with
 |none=>rw[hd] at J;cases J
 |some M=>
  rw[hd] at J;simp only[ae,decide_eq_true_eq,ax] at J;obtain⟨⟨⟨⟨g1,g2⟩,g3⟩,g4⟩,g5⟩:=J;have U:=Znw g5;exact⟨M,Y,h2,h3,h4,λg O=>ZmW (h5 g O),hd,g1,g2,ZmN g3,λg O=>ZmW (g4 g O),U,Zoi U⟩
theorem Zov:((ac 10).all λj=>psB [cyc (j+1)])=true:=by decide +kernel
theorem ZnY:((ac 4).all λj=>psB [cyc (j+3),neg (j+3)])=true:=by decide +kernel
theorem Zn2:(mnG.all psB)=true:=by decide +kernel
def Zaz:X0:=((ac 10).map λj=>[cyc (j+1)])++(((ac 4).map λj=>[cyc (j+3),neg (j+3)])++mnG)
def Zmh (j:T7):Prop:=psB j=true/\j∈Zaz
theorem Zoh {j:Nat}(h:j<10):Zmh [cyc (j+1)]:=⟨ax.mp Zov j (af.mpr h),cq _ (aC.mpr ⟨j,af.mpr h,rfl⟩)⟩
theorem Zog {j:Nat}(h:j<4):Zmh [cyc (j+3),neg (j+3)]:=⟨ax.mp ZnY j (af.mpr h),aU _ (cq _ (aC.mpr ⟨j,af.mpr h,rfl⟩))⟩
theorem Zqb {j:T7}(h:j∈mnG):Zmh j:=⟨ax.mp Zn2 j h,aU _ (aU _ h)⟩
def MkG (t:T7):Prop:=∃(J:T7) (k:Nat) (j:T7) (os:TY),J∈Zaz/\ZoT J k j/\Ord (Wg j).length os/\t=ren (Wg j) os
theorem Zdc {o e:Expr}{to te:TE}{J j O:Pos}(ho:PE X o to)(he:QE X e te)(o5:WA e=true:=by rfl)
  (U:attributeBase o "append" X.env (eval o X.env)=eval o X.env:=by rfl)
  (o0:((backTo j (starEach [e] X.env)).all (λx=>!x.1) && (backToKw j (keywordEach [] X.env)).all (λx=>x.1.isSome)
   && decide (([e]:List Expr).length+([]:List Keyword).length+(if ([]:List Keyword).isEmpty then 0 else 1)<30))=true:=by rfl)
  (Y:(J.endLine == j.line)=true:=by rfl) (hs:starEach [e] X.env=(false,eval e X.env)::starEach [] X.env:=by rfl) (M:(backTo j (starEach [] X.env)).any (·.1)=false:=by rfl)
  (o6:swapsWith (.Call (.Attribute o "append" J) [e] [] j) none O.line X.env=pure false:=by rfl) :
  QS X (.Expr (.Call (.Attribute o "append" J) [e] [] j) O) (ZhU (tBM X.K "list" Uq to (ZcR te ZkC))):=⟨Yx (Wv aM aS aT Z3 ho (pc he.h Zs o5) U o0 Y hs M) o6⟩
theorem ZpX {c:Expr}{a b:List Stmt}{j:TT}{t u:TS}{pos:Pos}(J:PT X c j)(M:QSs X a t)(hb:PSs X b u):QS X (.If c a b pos) (Zpq j t u):=⟨YU J M.h hb⟩
theorem ZpW {st:Stmt}{t:TS}(j:QS X st t):QSs X [st] t:=⟨Zv j.h⟩
theorem ZpV {op:lR}{r:R2}{a b:Expr}{j tb:TE}{pos:Pos}(J:XX X (binaryOp op) r)(M:PE X a j)(hb:QE X b tb):QE X (.BinOp a op b pos) (tOp r j tb):=⟨Zz J M hb.h⟩
def WD (H:Hp)(M:Addr)(ls:TU)(j:X0):Prop:=H M=some (.lst (ls.map V.ref))/\ls.length=j.length/\∀(i:Nat) l,ls[i]?=some l->l≠M/\∃bs,TupsAt H l bs (j.getD i [])
theorem WD.mono {H j:Hp}{M:Addr}{ls:TU}{mn:X0}(s:Same H j)(h:WD H M ls mn):WD j M ls mn:=
 ⟨s _ _ h.1,h.2.1,λi l J=>let ⟨a,bs,b⟩:=h.2.2 i l J;⟨a,bs,b.mono s⟩⟩
theorem TupsAt.updM {H:Hp}{L M:Addr}{bs:TU}{yss:T7}{vs:TR}{o:HO}(R:TupsAt H L bs yss)(j:H M=some (.lst vs))(J:L≠M):TupsAt (upd H M o) L bs yss:=
 ⟨by rw[Zy J];exact R.1,R.2.1,λi b hb=>by
  have:=R.2.2 i b hb;rw[Zy (λz=>by rw[z,j] at this;cases this)];exact this⟩
theorem WD.push {H:Hp}{M S:Addr}{ls bs:TU}{mn:X0}{xss:T7}(h:WD H M ls mn)(U:TupsAt H S bs xss)(J:S≠M):WD (upd H M (.lst (ls.map V.ref++[.ref S]))) M (ls++[S]) (mn++[xss]):=by
 refine⟨by rw[Zt,aO];rfl,by rw[Zd,Zd,h.2.1];rfl,λi l j=>?_⟩;by_cases O:i<ls.length
 ·rw[aq O] at j
  obtain⟨a,cs,b⟩:=h.2.2 i l j;refine⟨a,cs,?_⟩;rw[Zb,aq (by rw[<-h.2.1];exact O),<-Zb];exact b.updM h.1 a
 ·rw[aw (by omega)] at j
  have Y:i-ls.length=0:=by
   apply ak;intro z;rw[ag (by rw[Zk];omega)] at j;cases j
  rw[Y] at j;cases j;have:i=mn.length:=by rw[<-h.2.1];omega
  refine⟨J,bs,?_⟩;rw[this,Zb,aw (Zq _),cS];exact U.updM h.1 J
end Pm
namespace C30
open PySem L2 PySem.Spec PyProof.Rows
open Tb Pm
inductive Zh4 (vs:TR) (H:Hp) (Q:VK) (E03:XK):Prop
 |mk (m:Nat):(vs=[.int m])->(1<=m)->(m<=60)->(∀r H',H r=none->Same H H'->H' r=some (.tup ((cyc m).map nV))->Q (.ref r) H')->Zh4 vs H Q E03
inductive ZbC (vs:TR) (H:Hp) (Q:VK) (E03:XK):Prop
 |mk (p:Addr) (b:Nat) (gr:Bool):(vs=[.ref p,.bl gr])->(YS H p b)->(b+2<2 ^ 60)->(∀L bs ps H',Tk p H H'->YS H' p (b+2)->Zmh ps->TupsAt H' L bs ps->Q (.ref L) H')->ZbC vs H Q E03
inductive Uj (vs:TR) (H:Hp) (Q:VK) (E03:XK):Prop
 |mk (f g:Addr) (k:Nat) (x y:TY):(vs=[.ref f,.ref g])->(H f=some (.tup (x.map nV)))->(H g=some (.tup (y.map nV)))->(Gk k x)->(Gk k y)->(k<=1000)->(∀r H',H r=none->Same H H'->H' r=some (.tup ((XH x y).map nV))->Q (.ref r) H')->Uj vs H Q E03
def Zop (m:Nat):V->V
 | .int z=>nV ((z.toNat+1) % m)
 |y=>y
def Zoo (m:Nat):V->V
 | .int z=>nV ((m-z.toNat) % m)
 |y=>y
theorem TupsAt.tk {H j:Hp}{p L:Addr}{b:Nat}{bs:TU}{yss:T7}(T:YS H p b)(d:Tk p H j)(R:TupsAt H L bs yss):TupsAt j L bs yss:=⟨d.lst T R.1,R.2.1,λi b hb=>d.tup T (R.2.2 i b hb)⟩
theorem ZnW (F:Wf K "_law_cycle" "_law_cycle" (tq 52) f fd)(T:BlB mg):ZW P w K mg base ZY 1 f fd ["_law_many"] Zh4:=by
 refine F.ok (FS (N:=["_law_many"])) (λY H Q E h=>?_) (λo0 A j s H Y Q E hr h=>?_)
 ·obtain⟨m,rfl,_⟩:=h;rfl
 ·obtain⟨m,rfl,m1,o5,q⟩:=h
  refine⟨_,Zv (ZE (ct ZD T.tuple (pc (cmp ["_law_place"] [0] ["_law_place", "_law_many"] rfl (UT T.range (pc (vn 0) Zs)) (λ_ _ _ _ _=>gn 0) (λ_ _ _ _ _=>ZQ)
   (λ_ _ _ _ _=>Zz Yb (Zz YD (vn 0) Zw) (vn 1))) Zs))),?_⟩
  refine⟨_,rfl,_,rfl,by omega,by omega,?_⟩;rw[Zj];refine YX (Xi 0 m) [some (.int (m:Nat))] rfl (Zop m) (by rw[Za,Y9];omega) (λi x M hx J R gg=>?_) (λD M nD J O=>?_)
  ·obtain⟨hi,rfl⟩:=ZbY hx
   have fin:=gg M (Same.refl _);have e:Zop m (.int (i:Nat))=V.int (((i:Int)+1) % (m:Int)):=by
    show V.int ((((i:Int).toNat+1) % m:Nat):Int)=_;rw[Zj,bA];rfl
   rw[e] at fin;exact⟨_,rfl,_,_,rfl,rfl,_,rfl,_,_,rfl,rfl,(by show (0:Int)<(m:Int);omega),fin⟩
  ·have e:((Wo 0 m).map V.int).map (Zop m)=(cyc m).map nV:=by
    rw[ZkT];unfold cyc;rw[aL,aL];refine bn λi _=>?_;show nV (((i:Int).toNat+1) % m)=nV ((i+1) % m);rw[Zj]
   rw[e] at O;exact⟨D,_,rfl,.inl ⟨.of O,λr U=>q r _ (J.free U) (J.trans (Same.upd U)) Zt⟩⟩
theorem Zi7 (F:Wf K "_law_after" "_law_after" (tq 54) f fd)(T:BlB mg):ZW P w K mg base ZY 1 f fd ["_law_one", "_law_other"] Uj:=by
 refine F.ok (FS (N:=["_law_one", "_law_other"])) (λvs H Q E h=>?_) (λo0 A M s H vs Q E hr h=>?_)
 ·obtain⟨f,g,k,x,y,rfl,_⟩:=h;rfl
 ·obtain⟨f,g,k,x,y,rfl,hf,U,gx,Y,k10,q⟩:=h
  refine⟨_,Zv (ZE (ct ZD T.tuple (pc (cmp ["_law_place"] [0] ["_law_place", "_law_one"] rfl (itT K (vn 1)) (λ_ _ _ _ _=>gn 0) (λ_ _ _ _ _=>ZQ)
   (λ_ _ _ _ _=>ZU (VA K) (vn 1) (vn 0) (λ_ _=>rfl))) Zs))),?_⟩
  refine⟨_,rfl,g,rfl,⟨_,.of U⟩,?_⟩;refine YX (YJ (K:=K) (.of U)) [some (.ref f)] rfl (Zoq x) (by rw[Za,Y.1];omega) (λi v H' hx J R gg=>?_) (λD H' nD J hD=>?_)
  ·obtain⟨j,hj,rfl⟩:=ZeH hx
   have O:=Y.2 j (ah hj);have fin:=gg H' (Same.refl _);have e:Zoq x (.int (j:Nat))=nV (x.getD j 0):=by
    show nV (x.getD (j:Int).toNat 0)=_;rw[Zj]
   rw[e] at fin;exact⟨_,rfl,_,rfl,f,_,_,_,rfl,rfl,.of (J _ _ hf),Zp3 (by rw[gx.1];exact O),fin⟩
  ·rw[ZjQ] at hD
   exact⟨D,_,rfl,.inl ⟨.of hD,λr nr=>q r _ (J.free nr) (J.trans (Same.upd nr)) Zt⟩⟩
theorem UF {H:Hp}{L c:Addr}{x:TY}(h:H L=some (.lst [.ref c]))(j:H c=some (.tup (x.map nV))):TupsAt H L [c] [x]:=⟨h,rfl,λi b hb=>by
 cases i with
 |zero=>cases hb;exact j
 |succ i=>cases hb⟩
theorem ZhN {H:Hp}{L c d:Addr}{x y:TY}(h:H L=some (.lst [.ref c,.ref d]))(j:H c=some (.tup (x.map nV)))(J:H d=some (.tup (y.map nV))):TupsAt H L [c,d] [x,y]:=⟨h,rfl,λi b hb=>by
 cases i with
 |zero=>cases hb;exact j
 |succ i=>
  cases i with
  |zero=>cases hb;exact J
  |succ i=>cases hb⟩
theorem ZlE {m i:Nat}(h:i<m):(-(i:Int)) % (m:Int)=(((m-i) % m:Nat):Int):=by
 rw[bA,Int.ofNat_sub (by omega),show (m:Int)-(i:Int)=-(i:Int)+(m:Int)*1 by omega,Int.add_mul_emod_self_left]
theorem Xa {K:aa}{i:Nat}{M:Addr}{σ:L2.St}{j H:Hp}{ls:TU}{mn:X0}{xss:T7}{D:WY}(J:σ[i]?=some (some (.ref M)))(m:WD H M ls mn)(s:Same j H)(nM:j M=none)(hx:∀x∈xss,x.length<=1000)(hk:xss.length<=1000)(hl:mn.length<=1000)
  (q:∀S O,Same j O->WD O M (ls++[S]) (mn++[xss])->D.nx σ O):ZhU (tBM K "list" Uq (ZkA i) (ZcR (teL xss) ZkC)) D σ H:=by
 have sz:=Jv;refine⟨_,J,.inl ⟨rfl,_,.of m.1⟩,ZhT xss hx hk λbs H1 s1 hb hi S U=>?_⟩;have s2:=s1.trans (Same.upd (o:=.lst (bs.map V.ref)) U);have m2:=m.mono s2;have nS:S≠M:=λz=>by
  have:=s1 _ _ m.1;rw[<-z,U] at this;cases this
 have R:TupsAt (upd H1 S (.lst (bs.map V.ref))) S bs xss:=⟨Zt,hb,λi b Y=>Same.upd (o:=.lst (bs.map V.ref)) U _ _ (hi i b Y)⟩;refine⟨M,_,_,rfl,rfl,m2.1,by rw[Za,m.2.1];omega,q S _ ((s.trans s2).updr nM) (m2.push R nS)⟩
theorem ZiZ (F:Wf K "_law_perms" "_law_perms" (tq 53) f fd)(T:BlB mg)(GP:Fn P w K mg base ZY 1 "_law_pick" ["_law_tape_here", "_law_many"] VC)(GC:Fn P w K mg base ZY 1 "_law_cycle" ["_law_many"] Zh4):ZW P w K mg base ZY 2 f fd ["_law_tape_here", "_law_great"] ZbC:=by
 refine F.ok (FS (N:=["_law_tape_here", "_law_great", "_law_way", "_law_many", "_law_menu"])) (λvs H Q E h=>?_) (λt0 A o9 s H vs Q E hr h=>?_)
 ·obtain⟨p,b,gr,rfl,_⟩:=h;rfl
 ·obtain⟨p,b,gr,rfl,T0,hb,q⟩:=h
  refine⟨_,QSs.out (Jb ⟨ZK 2 rfl (YF GP hr ZF (pc (vn 0) (pc Zw Zs)))⟩
   (Jb ⟨YU (ZM Za0 (vn 2) Zw (ZO _)) (Zv (ZE (ZS (pc (YF GC hr ZF (pc (Zz YD Zw (YF GP hr ZF (pc (vn 0) (pc Zw Zs)))) Zs)) Zs)))) Z2⟩
   (Jb ⟨YU (ZM Za0 (vn 2) Zw (ZO _))
    (Zu (ZK 3 rfl (Zz YD Zw (YF GP hr ZF (pc (vn 0) (pc Zw Zs)))))
    (Zv (ZE (ZS (pc (YF GC hr ZF (pc (vn 3) Zs)) (pc (ct ZD T.tuple (pc (cmp ["_law_place"] [3] ["_law_place", "_law_many"] rfl (UT T.range (pc (vn 3) Zs)) (λ_ _ _ _ _=>gn 0) (λ_ _ _ _ _=>ZQ)
     (λ_ _ _ _ _=>Zz Yb (JN Wz (vn 0)) (vn 1))) Zs)) Zs)))))) Z2⟩
   (Jb (ZmL 4 rfl (ZpU (qal (Vf (qan (Wl [1,0,2,3] (qa qi (qa qi (qa qi (qa qi YO)))) (by rfl)) (qan (Wl [0,1,3,2] (qa qi (qa qi (qa qi (qa qi YO)))) (by rfl)) WI))) (qal (Vf (qan (Wl [1,0,2,3,4,5] (qa qi (qa qi (qa qi (qa qi (qa qi (qa qi YO)))))) (by rfl)) (qan (Wl [0,1,3,4,5,2] (qa qi (qa qi (qa qi (qa qi (qa qi (qa qi YO)))))) (by rfl)) WI))) ZfI))))
   (Jb (Zdc (vn 4) (Vf (qan (Wl [1,2,0,3] (qa qi (qa qi (qa qi (qa qi YO)))) (by rfl)) (qan (Wl [1,0,3,2] (qa qi (qa qi (qa qi (qa qi YO)))) (by rfl)) WI)))) (Jb (Zdc (vn 4) (Vf (qan (Wl [1,2,3,0,5,6,7,4] (qa qi (qa qi (qa qi (qa qi (qa qi (qa qi (qa qi (qa qi YO)))))))) (by rfl)) (qan (Wl [4,7,6,5,2,1,0,3] (qa qi (qa qi (qa qi (qa qi (qa qi (qa qi (qa qi (qa qi YO)))))))) (by rfl)) WI)))) (Jb (Zdc (vn 4) (Vf (qan (Wl [1,2,0,3,4,5,6] (qa qi (qa qi (qa qi (qa qi (qa qi (qa qi (qa qi YO))))))) (by rfl)) (qan (Wl [0,2,1,4,5,6,3] (qa qi (qa qi (qa qi (qa qi (qa qi (qa qi (qa qi YO))))))) (by rfl)) WI)))) (Jb (Zdc (vn 4) (Vf (qan (Wl [1,2,0,3,4,5] (qa qi (qa qi (qa qi (qa qi (qa qi (qa qi YO)))))) (by rfl)) (qan (Wl [0,1,2,4,5,3] (qa qi (qa qi (qa qi (qa qi (qa qi (qa qi YO)))))) (by rfl)) WI))))
   (Jb (ZpX (XL (vn 1)) (Jb (ZmL 4 rfl (ZpV ZeC (vn 4) (ZpU (qal (Vf (qan (Wl [1,2,3,4,0] (qa qi (qa qi (qa qi (qa qi (qa qi YO))))) (by rfl)) (qan (Wl [0,2,4,1,3] (qa qi (qa qi (qa qi (qa qi (qa qi YO))))) (by rfl)) WI))) (qal (Vf (qan (Wl [1,2,3,0] (qa qi (qa qi (qa qi (qa qi YO)))) (by rfl)) (qan (Wl [1,0,2,3] (qa qi (qa qi (qa qi (qa qi YO)))) (by rfl)) WI))) ZfI))))) (ZpW (Zdc (vn 4) (Vf (qan (Wl [1,2,3,4,5,6,0] (qa qi (qa qi (qa qi (qa qi (qa qi (qa qi (qa qi YO))))))) (by rfl)) (qan (Wl [0,2,4,6,1,3,5] (qa qi (qa qi (qa qi (qa qi (qa qi (qa qi (qa qi YO))))))) (by rfl)) WI)))))) Z2)
   ⟨Zv (ZE (ZU (ixL K) (vn 4) (YF GP hr ZF (pc (vn 0) (pc (cb (YL K) T.len (pc (vn 4) Zs)) Zs))) (λ_ _=>rfl)))⟩))))))))),?_⟩
  have sz:=Jv;refine⟨_,rfl,p,8,b,rfl,T0,by omega,by decide,by decide,λr H1 a0 a1 k1 T1=>?_⟩;refine⟨_,rfl,_,_,rfl,rfl,_,rfl,Y6 (λ_=>?_) (λ_=>?_)⟩
  ·refine⟨_,rfl,p,10,b+1,rfl,T1,by omega,by decide,by decide,λr2 U c0 c1 k2 T2=>?_⟩
   obtain⟨j,rfl⟩:=a7 c0;have hj:j<10:=by omega
   refine⟨_,_,rfl,rfl,j+1,?_,by omega,by omega,λc H3 nc s3 hc=>⟨JL,λL nL=>?_⟩⟩
   ·show [V.int (1+(j:Int))]=[V.int ((j+1:Nat):Int)]
    rw[show (1:Int)+(j:Int)=((j+1:Nat):Int) by omega]
   ·have s4:=s3.trans (Same.upd (o:=.lst [.ref c]) nL)
    exact q L [c] [cyc (j+1)] _ ((k1.trans k2).trans (Tk.of s4)) (T2.mono s4) (Zoh hj) (UF Zt (Same.upd nL _ _ hc))
  refine⟨_,rfl,_,_,rfl,rfl,_,rfl,Y6 (λ_=>?_) (λ_=>?_)⟩
  ·refine⟨_,rfl,p,4,b+1,rfl,T1,by omega,by decide,by decide,λr2 U c0 c1 k2 T2=>⟨_,_,rfl,rfl,?_⟩⟩
   obtain⟨j,rfl⟩:=a7 c0;have hj:j<4:=by omega
   have e3:(3:Int)+(j:Int)=((j+3:Nat):Int):=by omega
   try dsimp only
   rw[e3];refine⟨_,rfl,j+3,rfl,by omega,by omega,λc H3 nc s3 hc=>?_⟩;refine⟨_,rfl,_,rfl,by omega,by omega,?_⟩;rw[Zj];refine YX (Xi 0 (j+3)) [some (.int ((j+3:Nat):Int))] rfl (Zoo (j+3)) (by rw[Za,Y9];omega) (λi x H' hx s' R gg=>?_) (λD H4 nD s4 hD=>?_)
   ·obtain⟨hi,rfl⟩:=ZbY hx
    have fin:=gg H' (Same.refl _);have e:Zoo (j+3) (.int (i:Nat))=V.int ((-(i:Int)) % ((j+3:Nat):Int)):=by
     show V.int ((((j+3)-(i:Int).toNat) % (j+3):Nat):Int)=_;rw[Zj,ZlE hi]
    rw[e] at fin;exact⟨_,rfl,_,rfl,_,rfl,_,_,rfl,rfl,(by show (0:Int)<((j+3:Nat):Int);omega),fin⟩
   ·have e:((Wo 0 (j+3)).map V.int).map (Zoo (j+3))=(neg (j+3)).map nV:=by
     rw[ZkT];unfold neg;rw[aL,aL];refine bn λi _=>?_;show nV ((j+3-(i:Int).toNat) % (j+3))=nV ((j+3-i) % (j+3));rw[Zj]
    rw[e] at hD;refine⟨D,_,rfl,.inl ⟨.of hD,λd nd=>⟨JL,λL nL=>?_⟩⟩⟩;have s5:=Same.upd (o:=.lst [.ref c,.ref d]) nL;have s6:=(s3.trans s4).trans ((Same.upd (o:=.tup ((neg (j+3)).map nV)) nd).trans s5);exact q L [c,d] [cyc (j+3),neg (j+3)] _ ((k1.trans k2).trans (Tk.of s6)) (T2.mono s6) (Zog hj) (ZhN Zt (s5 _ _ (Same.upd nd _ _ (s4 _ _ hc))) (s5 _ _ Zt))
  have out:∀(M:Addr) (Y:TU) (mn:X0) (H9 U:Hp) {j:Nat}{Gl:Prop},Same H1 H9->WD H9 M Y mn->(∀ps∈mn,ps∈mnG)->Tk p H9 U->YS U p (b+1+1)->(j:Int)<(mn.length:Nat)->(∀{l:Addr},U M=some (.lst (Y.map V.ref))->Xy (Y.map V.ref) (j:Int)=some (.ref l)->Q (.ref l) U->Gl)->Gl:=λM Y mn H9 U {j Gl} s9 m p6 k2 T2 hj fin=>by
   have p7:j<Y.length:=by rw[m.2.1];omega
   obtain⟨l,hl,o0⟩:=ZkU p7;obtain⟨_,bs,R⟩:=m.2.2 j l hl;have T9:=T1.mono s9;have hm:mn.getD j []∈mn:=by
    rw[Zb,Zf (show j<mn.length by omega)];exact be _
   exact fin (k2.lst T9 m.1) o0 (q l bs _ U ((k1.trans (Tk.of s9)).trans k2) T2 (Zqb (p6 _ hm)) (TupsAt.tk T9 k2 R))
  refine ZkP (ZcQ mn1 (by decide) (by decide) λY U s2 p8 q0 M hM=>?_);have s3:=s2.trans (Same.upd (H:=U) (o:=.lst (Y.map V.ref)) hM);have nM:H1 M=none:=s2.free hM;have m0:WD (upd U M (.lst (Y.map V.ref))) M Y mn1:=⟨Zt,p8,λi l hl=>by
   obtain⟨u1,bs,u2⟩:=q0 i l hl;refine⟨λz=>?_,bs,u2.mono (Same.upd hM)⟩;have:=u2.1;rw[z,hM] at this;cases this⟩
  generalize upd U M (.lst (Y.map V.ref))=H3 at s3 m0 ⊢;refine Xa (xss:=ma1) rfl m0 s3 nM (by decide) (by decide) (by decide) λS1 H4 s4 m4=>?_;refine Xa (xss:=ma2) rfl m4 s4 nM (by decide) (by decide) (by decide) λS2 H5 s5 m5=>?_;refine Xa (xss:=ma3) rfl m5 s5 nM (by decide) (by decide) (by decide) λS3 H6 s6 m6=>?_;refine Xa (xss:=ma4) rfl m6 s6 nM (by decide) (by decide) (by decide) λS4 H7 s7 m7=>?_;replace m7:WD H7 M (Y++[S1]++[S2]++[S3]++[S4]) mnS:=m7;generalize Y++[S1]++[S2]++[S3]++[S4]=L5 at m7;refine⟨_,rfl,gr,rfl,Y6 (λ_=>?_) (λ_=>?_)⟩
  ·refine⟨_,rfl,ZcQ mn2 (by decide) (by decide) λJ H8 s8 o6 r6 M' r8=>?_⟩
   have s9:=Same.upd (H:=H8) (o:=.lst (J.map V.ref)) r8;have hA:=m7.mono (s8.trans s9);refine⟨M,M',_,_,rfl,rfl,hA.1,Zt,by rw[Za,Za,hA.2.1,o6];decide,λN nN=>?_⟩;have sX:=Same.upd (o:=.lst (L5.map V.ref++J.map V.ref)) nN;have o7:=((s7.trans s8).trans s9).trans sX;have r9:H1 N=none:=((s7.trans s8).trans s9).free nN;have mN:WD (upd (upd H8 M' (.lst (J.map V.ref))) N (.lst (L5.map V.ref++J.map V.ref))) N (L5++J) (mnS++mn2):=by
    have lm:L5.length=mnS.length:=hA.2.1;refine⟨by rw[Zt,aO],by rw[Zd,Zd,lm,o6],λi l hl=>?_⟩;have go:∀{H':Hp}{l:Addr}{bs:TU}{O:T7},TupsAt H' l bs O->Same H' (upd H8 M' (.lst (J.map V.ref)))->l≠N:=λ{H' l bs O} R s z=>by
     have:=s _ _ R.1;rw[z,nN] at this;cases this
    by_cases hi:i<L5.length
    ·rw[aq hi] at hl
     obtain⟨_,bs,u2⟩:=hA.2.2 i l hl;refine⟨go u2 (Same.refl _),bs,?_⟩;rw[Zb,aq (by rw[<-lm];exact hi),<-Zb];exact u2.mono sX
    ·rw[aw (by omega)] at hl
     obtain⟨_,bs,u2⟩:=r6 _ l hl;refine⟨go u2 s9,bs,?_⟩;rw[Zb,aw (by rw[<-lm];omega),<-lm,<-Zb];exact u2.mono (s9.trans sX)
   generalize upd (upd H8 M' (.lst (J.map V.ref))) N (.lst (L5.map V.ref++J.map V.ref))=HN at o7 mN ⊢;refine Xa (xss:=ma5) rfl mN o7 r9 (by decide) (by decide) (by decide) λS5 H9 o8 o5=>?_;refine⟨_,rfl,_,rfl,_,rfl,N,_,rfl,.inl (.of o5.1),?_⟩;rw[Za,o5.2.1];refine⟨p,_,b+1,rfl,T1.mono o8,by omega,by decide,by decide,λr2 U c0 c1 k2 T2=>?_⟩;obtain⟨j,rfl⟩:=a7 c0;exact out _ _ _ _ _ o8 o5 (by decide) k2 T2 c1 λhM o0 R=>⟨N,_,_,_,rfl,rfl,.of hM,o0,R⟩
  ·refine⟨_,rfl,_,rfl,_,rfl,M,_,rfl,.inl (.of m7.1),?_⟩
   rw[Za,m7.2.1];refine⟨p,_,b+1,rfl,T1.mono s7,by omega,by decide,by decide,λr2 U c0 c1 k2 T2=>?_⟩;obtain⟨j,rfl⟩:=a7 c0;exact out _ _ _ _ _ s7 m7 (by decide) k2 T2 c1 λhM o0 R=>⟨M,_,_,_,rfl,rfl,.of hM,o0,R⟩
end C30
namespace Pm
open PySem L2 PySem.Spec PyProof.Rows
open Tb
theorem neC {X:Cx}(K:aa)(j:X.A.units+64<cLine)(J:X.K=K:=by rfl):XX X (compareOp .NotEq) (_root_.L2.I_op_neD K):=J▸ZnK j
theorem ZjR (ds:List dZ):iX (.list ds) (.list [])=ds.isEmpty:=by
 cases ds with
 |nil=>rfl
 |cons d r=>rfl
def dT (x:TY):dZ:=fF ((nI x).map a5)
theorem Zcs:∀yss:T7,c9 (yss.map dT)=true
 | []=>rfl
 |y::yss=>by
  show (gm (.tuple ((nI y).map a5)) && c9 (yss.map dT))=true;rw[Zcs yss,Zav];rfl
theorem Zbe:∀yss:T7,cx (yss.map dT)<=60
 | []=>aX _
 |y::yss=>by
  show max (eK (.tuple ((nI y).map a5))) (cx (yss.map dT))<=60;exact Nat.max_le.mpr ⟨Zbh _,Zbe yss⟩
theorem ZcX (yss:T7):jm (.list (yss.map dT))=true:=by
 unfold jm;have j:gm (.list (yss.map dT))=true:=Zcs yss;have J:eK (.list (yss.map dT))<=64:=by
  have:=Zbe yss;show cx (yss.map dT)+1<=64;omega
 simp only[j,Bool.true_and,fY,decide_eq_true_eq];exact J
theorem TupsAt.rds {K:aa}{H:Hp}{L:Addr}{bs:TU}{yss:T7}(R:TupsAt H L bs yss):WC K H (bs.map V.ref) (yss.map dT):=Zb1 bs yss R.2.1 R.2.2
theorem TupsAt.rd {K:aa}{H:Hp}{L:Addr}{bs:TU}{yss:T7}(R:TupsAt H L bs yss):RdD K H (.ref L) (.list (yss.map dT)):=.lst (.of R.1) R.rds
theorem TupsAt.pop {H:Hp}{L:Addr}{bs:TU}{yss:T7}(R:TupsAt H L bs yss):TupsAt (upd H L (.lst (bs.map V.ref).dropLast)) L bs.dropLast yss.dropLast:=by
 refine⟨by rw[Zt,List.map_dropLast],by rw[eQ,eQ,R.2.1],λi b hb=>?_⟩;have j:i<bs.length-1:=by
  have:=(ab.mp hb).1;rw[eQ] at this;exact this
 rw[lH,if_pos j] at hb;have h:=R.2.2 i b hb;rw[Zy (λz=>by rw[z,R.1] at h;cases h),h,Zb,Zb,lH,if_pos (by rw[<-R.2.1];exact j)]
theorem Zea (j:TY){J:T7}{s:T7×T7}{i:Nat}{g:TY}(h:J[i]?=some g):Yz j (J.take (i+1)) s=if (Yz j (J.take i) s).1.contains (XH j g) then Yz j (J.take i) s else ((Yz j (J.take i) s).1++[XH j g],(Yz j (J.take i) s).2++[XH j g]):=by
 unfold Yz;rw[ce,h,jy];rfl
theorem VB (j:TY):∀(J:T7) (s:T7×T7),s.1.length<=(Yz j J s).1.length
 | [],s=>Zq _
 |p::J,s=>by
  show s.1.length<=(Yz j J (if s.1.contains (XH j p) then s else (s.1++[XH j p],s.2++[XH j p]))).1.length
  refine aN ?_ (VB j J _);split
  ·exact Zq _
  ·show s.1.length<=(s.1++[XH j p]).length
   rw[Zd];omega
theorem Zeb (j:TY)(J:T7)(s:T7×T7)(i:Nat):(Yz j (J.take i) s).1.length<=(Yz j J s).1.length:=by
 have:Yz j J s=Yz j (J.drop i) (Yz j (J.take i) s):=by
  unfold Yz;rw[<-jy,List.take_append_drop]
 rw[this];exact VB _ _ _
theorem Zgf (J:T7):∀(f:Nat) (fd j r:T7),dfs J f fd j=some r->fd.length<=r.length
 |f,fd,[],r,h=>by
  have:fd=r:=by cases f <;> exact aA h
  rw[this];exact Zq _
 |0,fd,_::_,r,h=>by cases h
 |f+1,fd,x::j,r,h=>by
  exact aN (VB ((x::j).getLast?.getD []) J (fd,(x::j).dropLast)) (Zgf J f (Yz ((x::j).getLast?.getD []) J (fd,(x::j).dropLast)).1 (Yz ((x::j).getLast?.getD []) J (fd,(x::j).dropLast)).2 r h)
theorem ZdC (x:TY)(r:T7):(x::r).getD ((x::r).length-1) []=(x::r).getLast?.getD []:=by
 rw[List.getLast?_eq_getElem?,Zb]
end Pm
namespace C30
open PySem L2 PySem.Spec PyProof.Rows
open Tb Pm
inductive UI (vs:TR) (H:Hp) (Q:VK) (E03:XK):Prop
 |mk (L:Addr) (bs:TU) (ps:T7) (k:Nat) (fd:T7):(vs=[.ref L])->(TupsAt H L bs ps)->(ZoT ps k fd)->(∀D cs H',H D=none->Same H H'->TupsAt H' D cs fd->Q (.ref D) H')->UI vs H Q E03
theorem ZgS (F:Wf K "_law_things" "_law_things" (tq 55) f fd)(T:BlB mg)(GA:Fn P w K mg base ZY 1 "_law_after" ["_law_one", "_law_other"] Uj):ZW P w K mg base ZY 2 f fd ["_law_perms_here"] UI:=by
 refine F.ok (FS (N:=["_law_perms_here", "_law_found", "_law_line", "_law_here", "_law_perm", "_law_later"])) (λvs H Q E h=>?_) (λcdv A y9 s H vs Q E hr h=>?_)
 ·obtain⟨L,bs,M,k,fd,rfl,_⟩:=h;rfl
 ·obtain⟨L,bs,M,k,o9,rfl,R0,B,q⟩:=h
  refine⟨_,Zu (ZK 1 rfl (ZS (pc (ct (Zaw rfl) T.tuple (pc (ct ZdS T.range (pc (cb (YL K) T.len (pc (ZU (ixL K) (vn 0) Zw (λ_ _=>rfl)) Zs)) Zs)) Zs)) Zs)))
   (Zu (ZK 2 rfl (ct JK T.list (pc (vn 1) Zs)))
   (Zu (Yr au (ZM (neC K hr.units) (vn 2) (ZS Zs) (ZO _))
    (Zu (ZK 3 rfl (ZnE aM gw kT Zn1 (vn 2)))
    (Zv (ZV au rfl (itL K (vn 0)) (gn 4)
     (Zu (ZK 5 rfl (YF GA hr ZF (pc (vn 3) (pc (vn 4) Zs))))
     (Zv (YU (ZM (Zp4 K hr.units) (vn 5) (vn 1) (by rfl))
      (Zu (Yx (Wv aM aS aT Z3 (vn 1) (pc (vn 5) Zs)))
      (Zv (Yx (Wv aM aS aT Z3 (vn 2) (pc (vn 5) Zs))))) Z2)))))))
   (Zv (ZE (vn 1))))),?_⟩
  have sz:=Jv;have k1:=B.k1;have k10:=B.k10;have p1:=B.p1;have p9:=B.p9;have n60:=B.n60;obtain⟨b0,_,u5,hb0⟩:=R0.get (i:=0) (by omega);have e0:((M.getD 0 []).map nV).length=k:=by rw[Za];exact (B.pl _ (ZeK (by omega))).1
  refine⟨_,rfl,L,_,_,_,rfl,rfl,.of R0.1,u5,b0,_,rfl,.inr (.of hb0),_,rfl,λr0 hr0=>⟨r0,0,_,rfl,Zt,⟨by omega,by omega,by rw[e0];omega,by rw[e0];omega⟩,by rw[e0];omega,λl hl=>?_⟩⟩;rw[e0] at hl ⊢;have ek:((k:Int)-0).toNat=k:=by omega
  rw[ek] at *;refine⟨JL,λD p6=>?_⟩;have s1:Same H (upd H r0 (.rng 0 (k:Int))):=Same.upd hr0;have s2:=s1.trans (Same.upd (o:=.tup ((Wo 0 k).map V.int)) hl);have s3:=s2.trans (Same.upd (o:=.lst [.ref l]) p6);have nD:H D=none:=s2.free p6;have R1:TupsAt (upd (upd (upd H r0 (.rng 0 (k:Int))) l (.tup ((Wo 0 k).map V.int))) D (.lst [.ref l])) D [l] [ac k]:=UF Zt (by
   rw[Zy (λz=>by rw[<-z,Zt] at p6;cases p6),Zt,ZkT])
  generalize upd (upd (upd H r0 (.rng 0 (k:Int))) l (.tup ((Wo 0 k).map V.int))) D (.lst [.ref l])=H3 at s3 R1 ⊢;refine⟨_,rfl,D,[.ref l],rfl,.inl (.of R1.1),λLn t0=>?_⟩;have s4:=Same.upd (H:=H3) (o:=.lst [.ref l]) t0;have nL:H Ln=none:=s3.free t0;have t5:D≠Ln:=λz=>by
   have:=R1.1;rw[z,t0] at this;cases this
  have R2:TupsAt (upd H3 Ln (.lst [.ref l])) Ln [l] [ac k]:=UF Zt (s4 _ _ (R1.2.2 0 l rfl));have u9:=R1.mono s4;have w6:=s3.trans s4;generalize upd H3 Ln (.lst [.ref l])=H4 at w6 u9 R2 ⊢;have g0:∀y∈[ac k],Gk k y:=λy hy=>by
   rw[aJ.mp hy];exact⟨Zg,λx hx=>af.mp hx⟩
  refine Yi (λm o6 H'=>∃(cs U:TU) (j ln:T7) (v3 v4 v5:TQ),o6=[some (.ref L),some (.ref D),some (.ref Ln),v3,v4,v5]/\Same H H'/\TupsAt H' D cs j/\TupsAt H' Ln U ln/\(∀y∈j,Gk k y)/\(∀y∈ln,Gk k y)/\ln.length<=j.length/\dfs M m j ln=some o9)
   (λo6 H'=>∃(cs:TU) (v3 v4 v5:TQ),o6=[some (.ref L),some (.ref D),some (.ref Ln),v3,v4,v5]/\Same H H'/\TupsAt H' D cs o9) ?hend ⟨61,_,_,_,_,_,_,_,rfl,w6,u9,R2,g0,g0,Zq _,B.run⟩ ?turn
  case hend=>
   rintro o6 H' ⟨cs,v3,v4,v5,rfl,sm,R⟩;exact⟨_,rfl,q D cs H' nD sm R⟩
  case turn=>
   rintro r8 m o6 H' ⟨cs,U,j,ln,v3,v4,v5,rfl,sm,R,S,gd,gl,ll,run⟩;refine⟨_,rfl,JL,λe0 ne0=>?_⟩;have sE:=Same.upd (H:=H') (o:=.lst []) ne0;have RE:=R.mono sE;have SE:=S.mono sE;have t6:=sm.trans sE;refine⟨_,_,SE.rd,.lst (.of Zt) .nil,ZcX ln,rfl,_,rfl,?_⟩;generalize upd H' e0 (.lst [])=HE at RE SE t6 ⊢;rw[ZjR];cases ln with
   |nil=>
    refine Vl (by decide) (r8 _ _ ⟨cs,v3,v4,v5,rfl,t6,?_⟩);have:j=o9:=by cases m <;> exact aA run
    rw[<-this];exact RE
   |cons x r=>
    refine ZeO rfl ?_;cases m with
    |zero=>cases run
    |succ m=>
     have run:dfs M m (Yz ((x::r).getLast?.getD []) M (j,(x::r).dropLast)).1 (Yz ((x::r).getLast?.getD []) M (j,(x::r).dropLast)).2=some o9:=run;have w8:U.length=(x::r).length:=SE.2.1;have w9:U.length-1<U.length:=by rw[w8,Zi];omega
     have Y:=SE.2.2 (U.length-1) _ (Zf w9);have t7:Gk k ((x::r).getLast?.getD []):=by
      rw[<-ZdC];exact gl _ (ZeK (by rw[Zi];omega))
     have el:(x::r).getD (U.length-1) []=(x::r).getLast?.getD []:=by rw[w8];exact ZdC x r
     rw[el] at Y;have r9:=Zgf M m _ _ _ run;have x6:∀y∈(x::r).dropLast,Gk k y:=λy hy=>gl y (List.dropLast_subset _ hy);have x8:(x::r).dropLast.length<=j.length:=by rw[eQ];omega
     have hxs:(U.map V.ref)[(U.map V.ref).length-1]?=some (.ref U[U.length-1]):=by rw[Za,Zc,Zf w9];rfl
     have SP:=SE.pop;have RP:=RE.updM (o:=.lst (U.map V.ref).dropLast) SE.1 t5;have t9:=t6.updr (o:=.lst (U.map V.ref).dropLast) nL;have p7:upd HE Ln (.lst (U.map V.ref).dropLast) U[U.length-1]=some (.tup (((x::r).getLast?.getD []).map nV)):=by
      rw[Zy (λz=>by rw[z,SE.1] at Y;cases Y)];exact Y
     refine⟨_,λ_ _ z=>z,_,rfl,.inl ⟨rfl,_,.of SE.1⟩,Ln,_,_,rfl,rfl,SE.1,hxs,?_⟩;generalize upd HE Ln (.lst (U.map V.ref).dropLast)=HP at SP RP t9 p7 ⊢;generalize U[U.length-1]=ea at p7 ⊢;generalize (x::r).getLast?.getD []=cur at p7 t7 run r9 ⊢;generalize (x::r).dropLast=O at SP run r9 x6 x8;have pll:(bs.map V.ref).length=M.length:=by rw[Za,R0.2.1]
     refine⟨_,rfl,L,rfl,⟨_,.of (t9 _ _ R0.1)⟩,?_⟩;refine W9 (H0:=H) (Wh (K:=K) (.of R0.1)) (λi τ HH=>∃(J o0:TU) (w4 w5:TQ),τ=[some (.ref L),some (.ref D),some (.ref Ln),some (.ref ea),w4,w5]/\Same H HH/\TupsAt HH D J (Yz cur (M.take i) (j,O)).1/\TupsAt HH Ln o0 (Yz cur (M.take i) (j,O)).2/\(∀y∈(Yz cur (M.take i) (j,O)).1,Gk k y)/\(∀y∈(Yz cur (M.take i) (j,O)).2,Gk k y)/\(Yz cur (M.take i) (j,O)).2.length<=(Yz cur (M.take i) (j,O)).1.length/\HH ea=some (.tup (cur.map nV)))
      ⟨_,_,_,_,rfl,t9,RP,SP,gd,x6,x8,p7⟩ (λi τ HH h=>h.choose_spec.choose_spec.choose_spec.choose_spec.2.1) ?_ ?_
     ·rintro i y τ HH hy ⟨J,o0,w4,w5,rfl,sH,R',S',o7,o8,p8,q0⟩
      obtain⟨b,rfl,hi,x9⟩:=R0.ref hy;have hbH:=sH _ _ x9;have gg:Gk k (M.getD i []):=B.pl _ (ZeK hi);have pi:M[i]?=some (M.getD i []):=getL hi;generalize M.getD i []=gp at *;have hcl:(Yz cur (M.take i) (j,O)).1.length<=60:=aN (Zeb cur M (j,O) i) (by omega);have est:=Zea cur (s:=(j,O)) pi;rw[est];generalize Yz cur (M.take i) (j,O)=zs at *;refine⟨_,rfl,_,rfl,ea,b,k,cur,gp,rfl,q0,hbH,t7,gg,by omega,λtp HF ntp sF hF=>?_⟩;have RF:=R'.mono sF;have SF:=S'.mono sF;have go:Gk k (XH cur gp):=Zkf t7 gg;refine⟨_,rfl,_,rfl,D,_,(zs.1.map λns=>fF ((nI ns).map a5)),.tuple ((nI (XH cur gp)).map a5),rfl,.inl (.of RF.1),Zb1 _ _ RF.2.1 RF.2.2,.tup (.of (by rw[Zp5];exact hF)) (WC.ints _),Zcs zs.1,Zav _,Zbh _,_,rfl,?_⟩;rw[if_pos rfl,ZcD];have zl:=RF.2.1;have wl:=SF.2.1;refine Y6 (λh2=>?_) (λh2=>?_)
      ·have h2:zs.1.contains (XH cur gp)=false:=by simpa using h2
       rw[if_neg (by rw[h2];decide)];refine⟨_,rfl,.inl ⟨rfl,_,.of RF.1⟩,_,rfl,D,_,_,rfl,rfl,RF.1,by rw[Za];omega,?_⟩;have y4:=RF.push hF;have o5:=SF.updM (o:=.lst (J.map V.ref++[.ref tp])) RF.1 t5.symm;have y6:=(sH.trans sF).updr (o:=.lst (J.map V.ref++[.ref tp])) nD;have y8:upd HF D (.lst (J.map V.ref++[.ref tp])) tp=some (.tup ((XH cur gp).map nV)):=by
        rw[Zy (λz=>by rw[z,RF.1] at hF;cases hF)];exact hF
       have r6:upd HF D (.lst (J.map V.ref++[.ref tp])) ea=some (.tup (cur.map nV)):=by
        have:=sF _ _ q0;rw[Zy (λz=>by rw[z,RF.1] at this;cases this)];exact this
       generalize upd HF D (.lst (J.map V.ref++[.ref tp]))=HG at y4 o5 y6 y8 r6 ⊢;refine⟨_,rfl,.inl ⟨rfl,_,.of o5.1⟩,_,rfl,Ln,_,_,rfl,rfl,o5.1,by rw[Za];omega,?_⟩;refine⟨J++[tp],o0++[tp],_,_,rfl,y6.updr nL,y4.updM o5.1 t5,o5.push y8,λy hy=>?_,λy hy=>?_,?_,?_⟩
       ·rcases bv.mp hy with z|z
        ·exact o7 y z
        ·rw[aJ.mp z];exact go
       ·rcases bv.mp hy with z|z
        ·exact o8 y z
        ·rw[aJ.mp z];exact go
       ·show (zs.2++[XH cur gp]).length<=(zs.1++[XH cur gp]).length
        rw[Zd,Zd];omega
       ·rw[Zy (λz=>by rw[z,o5.1] at r6;cases r6)]
        exact r6
      ·have h2:zs.1.contains (XH cur gp)=true:=by simpa using h2
       rw[if_pos h2];exact⟨J,o0,_,_,rfl,sH.trans sF,RF,SF,o7,o8,p8,sF _ _ q0⟩
     ·rintro τ HH ⟨J,o0,w4,w5,rfl,sH,R',S',o7,o8,p8,q0⟩
      rw[pll,cp] at R' S' o7 o8 p8;exact⟨m,by omega,J,o0,_,_,_,_,_,rfl,sH,R',S',o7,o8,p8,run⟩
end C30
namespace Pm
open PySem L2 PySem.Spec PyProof.Rows
open Tb
theorem Wa {W:Type}(o6:W->Addr)(Pr:Nat->W->Hp->Prop)(Y:W->Hp->Prop){J:It}{own:List Str}{o5:TY}{te:TE}{σ:L2.St}{H:Hp}{Q:VK}{xs:TR}(S:WF J H xs)(cs:L2.St)(o9:JJ own o5 σ=none::cs)(hn:xs.length<=1000)
  (mono:∀i w H M,Same H M->Pr i w H->Pr i w M) (o8:∀w H M,Same H M->Y w M->Y w H) (hu:∀i w H0 H1 D o ys p6,Pr i w H1->Y w H0->H0 D=some (.lst o)->H1 D=some (.lst ys)->Pr i w (upd H1 D (.lst p6)))
  (hs:∀(i:Nat) y,xs[i]?=some y->∀M,Same H M->∀R:VK,(∀w H5,Same M H5->Pr i w H5->Y w M->R (.ref (o6 w)) H5)->te (some y::cs) M R)
  (hd:∀D (O:List W) M,H D=none->Same H M->M D=some (.lst (O.map λw=>V.ref (o6 w)))->O.length=xs.length->(∀(i:Nat) w,O[i]?=some w->Pr i w M/\Y w H)->(∀(i j:Nat) w w',i<j->O[i]?=some w->O[j]?=some w'->∃Hm,Pr i w Hm/\Y w' Hm)->Q (.ref D) M):WH own o5 (Ym 0) Wu te σ Q J H:=by
 refine Vu (xs:=xs) (λD i ys M=>Same H M/\∃O:List W,ys=O.map (λw=>V.ref (o6 w))/\O.length=i/\(∀(i:Nat) w,O[i]?=some w->Pr i w M/\Y w H/\∃H0 o,H0 D=some (.lst o)/\Y w H0)/\(∀(i j:Nat) w w',i<j->O[i]?=some w->O[j]?=some w'->∃Hm,Pr i w Hm/\Y w' Hm)) cs o9 (by omega) ?_ ?_ ?_ ?_
 ·intro D i ys M hD U p
  have S':=S.mono p.1;exact⟨λhi=>⟨S'.go i M (Same.refl _) hi,λx H3 y=>S'.yld i M x H3 (Same.refl _) hi y⟩,λe=>e▸S'.stop M (Same.refl _)⟩
 ·intro D hD
  exact⟨Same.upd hD,[],rfl,rfl,(λi w hw=>by cases hw),(λi j w w' _ h=>by cases h)⟩
 ·rintro D i y ys M hD U hy ⟨sm,O,rfl,wl,hw,hp⟩ R k
  refine hs i y hy M sm R λw H5 s5 p5 n5=>?_;have o7:=s5 _ _ U;have lst:∀(b:Nat) v,(O++[w])[b]?=some v->(b<O.length/\O[b]?=some v)\/(b=O.length/\v=w):=λb v hb=>by
   by_cases o0:b<O.length
   ·rw[aq o0] at hb
    exact .inl ⟨o0,hb⟩
   ·rw[aw (by omega)] at hb
    have p7:b-O.length=0:=by
     apply ak;intro z;rw[ag (by rw[Zk];omega)] at hb;cases hb
    rw[p7] at hb;cases hb;exact .inr ⟨by omega,rfl⟩
  refine k _ H5 o7 ⟨(sm.trans s5).updr hD,O++[w],by rw[aO];rfl,by rw[Zd,wl];rfl,λb v hv=>?_,λa b v v' p8 ha hb=>?_⟩
  ·rcases lst b v hv with ⟨_,hv⟩|⟨hb,hv⟩
   ·obtain⟨h1,h2,H0,o,h3,h4⟩:=hw b v hv
    exact⟨hu b v H0 H5 D o _ _ (mono b v _ _ s5 h1) h4 h3 o7,h2,H0,o,h3,h4⟩
   ·subst hv
    subst hb;rw[<-wl] at p5;exact⟨hu _ v M H5 D _ _ _ p5 n5 U o7,o8 v _ _ sm n5,M,_,U,n5⟩
  ·rcases lst b v' hb with ⟨o0,hb⟩|⟨o0,hb⟩
   ·rw[aq (by omega)] at ha
    exact hp a b v v' p8 ha hb
   ·subst hb
    rw[aq (by omega)] at ha;exact⟨M,(hw a v ha).1,n5⟩
 ·rintro D ys H5 hD U q0 ⟨sm,O,rfl,wl,hw,hp⟩
  exact hd D O H5 hD sm U wl (λi w h=>⟨(hw i w h).1,(hw i w h).2.1⟩) hp
theorem Zal {J:It}{own:List Str}{O:TY}{te:TE}{σ:L2.St}{H:Hp}{Q:VK}{xs:TR}(S:WF J H xs)(cs:L2.St)(o0:JJ own O σ=none::cs)(F:Nat->V)(hz:xs.length<=1000)
  (hs:∀(i:Nat) y,xs[i]?=some y->∀j,Same H j->∀R:VK,(∀U,Same j U->R (F i) U)->te (some y::cs) j R)
  (hd:∀D j,H D=none->Same H j->j D=some (.lst ((ac xs.length).map F))->Q (.ref D) j):WH own O (Ym 0) Wu te σ Q J H:=by
 refine Vu (xs:=xs) (λD i ys j=>Same H j/\ys=(ac i).map F) cs o0 (by omega) ?_ ?_ ?_ ?_
 ·intro D i ys j Y M p
  have S':=S.mono p.1;exact⟨λhi=>⟨S'.go i j (Same.refl _) hi,λx H3 y=>S'.yld i j x H3 (Same.refl _) hi y⟩,λe=>e▸S'.stop j (Same.refl _)⟩
 ·intro D Y
  exact⟨Same.upd Y,rfl⟩
 ·rintro D i y ys j Y M hy ⟨sm,rfl⟩ R k
  refine hs i y hy j sm R λU s5=>k _ U (s5 _ _ M) ⟨(sm.trans s5).updr Y,?_⟩;rw[dS,aO];rfl
 ·rintro D ys U Y M o5 ⟨sm,rfl⟩
  exact hd D U Y sm M
theorem Zpk {X:Cx}(K:aa)(j:X.K=K:=by rfl):YI X (.type "tuple") (_root_.L2.I_call_tupleZ K):=j▸ZdR
theorem Tz.updL {H:Hp}{a D:Addr}{ys J:TR}{o:HO}(h:Tz H a ys)(M:H D=some (.lst J)):Tz (upd H D o) a ys:=by
 obtain⟨u,j,O⟩:=h;exact⟨u,by rw[Zy (λz=>by rw[z,M] at j;cases j)];exact j,O⟩
def XO (y:TY):List YQ:=y.map λx:Nat=>ix (x:Int)
theorem Zjo (y:TY):(XO y).map kV=y.map nV:=by
 unfold XO;rw[aL];rfl
theorem ZdD {a b:TY}(h:XO a=XO b):a=b:=by
 unfold XO at h;refine (mY (λx y e=>?_)).mp h;injection e with e;omega
def kvN (j:T7)(os:TY)(m:Nat):List (List YQ×V):=(ac m).map λi=>(XO (j.getD (os.getD i 0) []),.int (i:Nat))
section
variable {fd:T7}{os:TY}
theorem ZjK (M:fd.Nodup){a b:Nat}(j:a<fd.length)(hb:b<fd.length)(h:fd.getD a []=fd.getD b []):a=b:=by
 have J:=getL j;have O:=getL hb;rw[h,<-O] at J;exact (jx j M).mp J
theorem Zjn (J:fd.Nodup){n:Nat}(Y:fd.length=n)(O:Ord n os){i c:Nat}(j:i<n)(M:c<n):XO (fd.getD (os.getD i 0) [])=XO (fd.getD c [])↔i=pos os c:=by
 have ho:=Yj O j;obtain⟨U,p2⟩:=Wd O M;constructor
 ·intro h
  have:=ZjK J (by omega) (by omega) (ZdD h);exact inj O j U (by rw[this,p2])
 ·rintro rfl
  rw[p2]
theorem ZlO (U:fd.Nodup){n:Nat}(Y:fd.length=n)(O:Ord n os){m:Nat}(J:m<n):W0 (kvN fd os m) (XO (fd.getD (os.getD m 0) [])) (.int (m:Nat))=kvN fd os (m+1):=by
 have:(kvN fd os m).any (λM=>decide (M.1=XO (fd.getD (os.getD m 0) [])))=false:=by
  rw[nP];intro h;rw[aZ] at h;obtain⟨M,j,e⟩:=h;obtain⟨i,hi,rfl⟩:=aC.mp j;have hi:=af.mp hi;have e:=of_decide_eq_true e;have:=ZjK U (by have:=Yj O (show i<n by omega);omega) (by have:=Yj O J;omega) (ZdD e);have:=inj O (by omega) J this;omega
 unfold W0;rw[this];unfold kvN;rw[dS,aO];rfl
theorem ZlN (M:fd.Nodup){n:Nat}(U:fd.length=n)(O:Ord n os){c:Nat}(J:c<n):Jw (kvN fd os n) (XO (fd.getD c []))=some (.int (pos os c:Nat)):=by
 obtain⟨Y,p2⟩:=Wd O J;unfold Jw kvN;rw[List.find?_map];have:(ac n).find? ((λkv:List YQ×V=>decide (kv.1=XO (fd.getD c []))) ∘ λi:Nat=>((XO (fd.getD (os.getD i 0) []),V.int (i:Nat)):List YQ×V))=some (pos os c):=by
  rw[lf];refine⟨decide_eq_true ((Zjn M U O Y J).mpr rfl),af.mpr Y,λj hj=>?_⟩;rw[gL];refine decide_eq_false λh=>?_;have:=(Zjn M U O (by omega) J).mp h;omega
 rw[this];rfl
theorem ZoM (M:∀a∈fd,∀b∈fd,XH a b∈fd){a b:Nat}(J:a<fd.length)(hb:b<fd.length):ZT (Wg fd) a b<fd.length/\fd.getD (ZT (Wg fd) a b) []=XH (fd.getD a []) (fd.getD b []):=by
 have e:ZT (Wg fd) a b=fd.findIdx (· == XH (fd.getD a []) (fd.getD b [])):=by
  unfold ZT Wg;rw[Zb (l:=fd.map _),Zc,getL J];show (fd.map λb=>fd.findIdx (· == XH (fd.getD a []) b)).getD b 0=_;rw[Zb,Zc,getL hb];rfl
 have hm:=M _ (ZeK J) _ (ZeK hb);have j:fd.findIdx (· == XH (fd.getD a []) (fd.getD b []))<fd.length:=lI.mpr ⟨_,hm,by exact beq_self_eq_true _⟩;rw[e];refine⟨j,?_⟩;have:=iN (w:=j);rw[Zb,Zf j];exact eq_of_beq this
theorem ZhR (fd:T7):(Wg fd).length=fd.length:=by unfold Wg;rw[Za]
end
theorem Uw {α J:Type}(f:α->J):∀(xs:List α) (j:Nat),(xs.map f).eraseIdx j=(xs.eraseIdx j).map f
 | [],j=>rfl
 |x::xs,0=>rfl
 |x::xs,j+1=>by
  show f x::(xs.map f).eraseIdx j=f x::(xs.eraseIdx j).map f;rw[Uw f xs j]
theorem TupsAt.erase {H:Hp}{L:Addr}{bs:TU}{yss:T7}(R:TupsAt H L bs yss)(j:Nat):TupsAt (upd H L (.lst ((bs.map V.ref).eraseIdx j))) L (bs.eraseIdx j) (yss.eraseIdx j):=by
 refine⟨by rw[Zt,Uw],by rw[eP,eP,R.2.1],λi b hb=>?_⟩;rw[lG] at hb;rw[Zb,lG];have J:∀M,bs[M]?=some b->upd H L (.lst ((bs.map V.ref).eraseIdx j)) b=some (.tup ((yss[M]?.getD []).map nV)):=λM U=>by
  have h:=R.2.2 M b U;rw[Zy (λz=>by rw[z,R.1] at h;cases h),h,Zb]
 by_cases O:i<j
 ·rw[if_pos O] at hb ⊢
  exact J _ hb
 ·rw[if_neg O] at hb ⊢
  exact J _ hb
theorem TupsAt.sub {H:Hp}{L A:Addr}{cs:TU}{fd:T7}(R:TupsAt H L cs fd)(os:TY)(O:∀i∈os,i<fd.length)(U:H A=some (.lst ((os.map λi=>cs.getD i 0).map V.ref))):TupsAt H A (os.map λi=>cs.getD i 0) (os.map λi=>fd.getD i []):=by
 refine⟨U,by rw[Za,Za],λi b hb=>?_⟩;rw[Zc] at hb;cases e:os[i]? with
 |none=>rw[e] at hb;cases hb
 |some j=>
  rw[e] at hb;have Y:=O j (ah e);have J:j<cs.length:=by rw[R.2.1];exact Y
  have M:cs[j]?=some b:=by
   rw[<-aA hb];show cs[j]?=some (cs.getD j 0);rw[Zb,Zf J];rfl
  rw[R.2.2 j b M,Zb (l:=os.map _),Zc,e];rfl
end Pm
namespace C30
open PySem L2 PySem.Spec PyProof.Rows
open Tb Pm
inductive ZbH (vs:TR) (H:Hp) (Q:VK) (E03:XK):Prop
 |mk (p:Addr) (b:Nat) (gr:Bool):(vs=[.ref p,.bl gr])->(YS H p b)->(b+100<2 ^ 60)->(∀g t H',Tk p H H'->YS H' p (b+70)->GT H' g t->PW t->MkG t->Q (.ref g) H')->ZbH vs H Q E03
theorem ZjZ {xs:TR}(h:1<=xs.length):Jj xs (some 1) none=xs.drop 1:=by
 unfold Jj;have j:HT.Y1 xs.length 0 (some 1)=1:=by
  have:=HT.Vd xs.length 0 1;rw[show ((1:Nat):Int)=1 from rfl] at this;rw[this];omega
 rw[j,HT.Vb];rw[fJ (by rw[cr];omega)]
theorem Zow {xs:TR}(h:1<=xs.length):Jj xs none (some 1)=xs.take 1:=by
 unfold Jj;have j:HT.Y1 xs.length xs.length (some 1)=1:=by
  have:=HT.Vd xs.length xs.length 1;rw[show ((1:Nat):Int)=1 from rfl] at this;rw[this];omega
 rw[j,HT.Vb];rfl
theorem Zhf {cs:TU}{n:Nat}(h:cs.length=n):(cs.map V.ref).drop 1=(((ac (n-1)).map (· + 1)).map λi=>cs.getD i 0).map V.ref:=by
 refine a6 λi=>?_;rw[List.getElem?_drop,Zc,Zc,Zc,Zc];by_cases j:i<n-1
 ·rw[ao j,Zf (show 1+i<cs.length by omega)]
  show some (V.ref cs[1+i])=some (V.ref (cs.getD (i+1) 0));rw[Zb,Zf (show i+1<cs.length by omega)];congr 3;omega
 ·rw[ag (by omega),ag (by rw[Zg];omega)]
  rfl
theorem ZgC {cs:TU}(h:1<=cs.length):(cs.map V.ref).take 1=(([0]:TY).map λi=>cs.getD i 0).map V.ref:=by
 cases cs with
 |nil=>cases h
 |cons c r=>rfl
theorem Tk.updN {p l:Addr}{H j:Hp}{o:HO}(a:Tk p H j)(h:H l=none):Tk p H (upd j l o):=λc u e n=>by
 rw[Zy (Z7 e h)];exact a c u e n
theorem Tk.same {p:Addr}{H j J:Hp}(a:Tk p H j)(s:Same j J):Tk p H J:=a.trans (Tk.of s)
theorem YS.updN {p l:Addr}{H:Hp}{b:Nat}{o:HO}(h:YS H p b)(j:l≠p):YS (upd H l o) p b:=by
 obtain⟨c,J,n,M,O⟩:=h;exact⟨c,J,n,by rw[Zy j.symm];exact M,O⟩
theorem Zn4 (os:TY)(g:Nat->Nat):(ac os.length).map (λj=>g (os.getD j 0))=os.map g:=by
 refine a6 λi=>?_;rw[Zc,Zc];by_cases J:i<os.length
 ·rw[ao J,Zf J]
  show some (g (os.getD i 0))=some (g os[i]);rw[Zb,Zf J];rfl
 ·rw[ag (by rw[Zg];omega),ag (by omega)]
  rfl
theorem Zcd {os:TY}{fd:T7}{i:Nat}(j:i<os.length):(os.map λi=>fd.getD i []).getD i []=fd.getD (os.getD i 0) []:=by
 rw[Zb,Zc,Zf j,Zb (l:=os),Zf j];rfl
theorem Zi4 (F:Wf K "_law_group" "_law_group" (tq 56) f fd)(T:BlB mg)(y6:Fn P w K mg base ZY 2 "_law_things" ["_law_perms_here"] UI)(GP:Fn P w K mg base ZY 2 "_law_perms" ["_law_tape_here", "_law_great"] ZbC)(GK:Fn P w K mg base ZY 1 "_law_pick" ["_law_tape_here", "_law_many"] VC)(GA:Fn P w K mg base ZY 1 "_law_after" ["_law_one", "_law_other"] Uj) :
  ZW P w K mg base ZY 3 f fd ["_law_tape_here", "_law_great"] ZbH:=by
 refine F.ok (FS (N:=["_law_tape_here", "_law_great", "_law_things_here", "_law_left", "_law_order", "_law_numbers", "_law_k"])) (λvs H Q E h=>?_) (λy8 A y9 s H vs Q E hr h=>?_)
 ·obtain⟨p,b,gr,rfl,_⟩:=h;rfl
 ·obtain⟨p,b,gr,rfl,T0,hb,q⟩:=h
  have hu:(A.deeper (envOfC "_law_group" (Yc (tq 56)) s.heap.objs.size f y8)).units+1<cLine:=by have:=hr.un;omega
  refine⟨_,Zu (ZK 2 rfl (YF y6 hr ZF (pc (YF GP hr ZF (pc (vn 0) (pc (vn 1) Zs))) Zs)))
   (Zu (ZK 3 rfl (WT Uk (vn 2) (Jy Zw) Jz))
   (Zu (ZK 4 rfl (WT Uk (vn 2) Jz (Jy Zw)))
   (Zu (Yr au (ZM (neC K hr.units) (vn 3) (ZS Zs) (ZO _))
    (Zv (Yx (Wv aM aS aT Z3 (vn 4)
     (pc (Wv aM gw kT Zjh (vn 3) (pc (YF GK hr ZF (pc (vn 0) (pc (cb (YL K) T.len (pc (vn 3) Zs)) Zs))) Zs)) Zs)))))
   (Zu (ZK 5 rfl ZiM)
   (Zu (ZV au rfl (UT T.range (pc (cb (YL K) T.len (pc (vn 4) Zs)) Zs)) (gn 6)
    (Zv (Us hu (vn 5) (ZU (ixL K) (vn 4) (vn 6) (λ_ _=>rfl)) (vn 6) (by rfl))))
   (Zv (ZE (ct ZD T.tuple (pc (cmp ["_law_one"] [5,4] ["_law_one", "_law_numbers", "_law_order"] rfl (itL K (vn 4)) (λ_ _ _ _ _=>gnf 0 rfl) (λ_ _ _ _ _=>ZQ)
    (λ_ _ _ _ _=>ct (Zpk K) (by exact T.tuple) (pc (cmp ["_law_other"] [1,0] ["_law_other", "_law_numbers", "_law_one"] rfl (itL K (vn 2)) (λ_ _ _ _ _=>gn 0) (λ_ _ _ _ _=>ZQ)
     (λ_ _ _ _ _=>Xl hu (vn 1) (YF GA hr ZF (pc (vn 2) (pc (vn 0) Zs))) (λ_ _=>rfl))) Zs))) Zs))))))))),?_⟩
  have sz:=Jv;refine⟨_,rfl,_,rfl,p,b,gr,rfl,T0,by omega,λL bs ps H1 k1 T1 u5 R1=>?_⟩;obtain⟨J,B⟩:=ZpZ u5.1;generalize (ps.getD 0 []).length=k at B;have n60:=B.n60;have k10:=B.k10;have n1:1<=J.length:=(ab.mp B.hd).1;refine⟨L,bs,ps,k,J,rfl,R1,B,λD M H2 nD s2 R2=>?_⟩;have u9:M.length=J.length:=R2.2.1;have cml:(M.map V.ref).length=J.length:=by rw[Za,u9]
  refine⟨_,rfl,_,rfl,D,_,rfl,.of R2.1,λLf r6=>?_⟩;rw[ZjZ (by omega),Zhf u9];have s3:=Same.upd (H:=H2) (o:=.lst ((((ac (J.length-1)).map (· + 1)).map λi=>M.getD i 0).map V.ref)) r6;have o8:upd H2 Lf (.lst ((((ac (J.length-1)).map (· + 1)).map λi=>M.getD i 0).map V.ref)) Lf=some (.lst ((((ac (J.length-1)).map (· + 1)).map λi=>M.getD i 0).map V.ref)):=Zt;generalize upd H2 Lf (.lst ((((ac (J.length-1)).map (· + 1)).map λi=>M.getD i 0).map V.ref))=H3 at s3 o8 ⊢;refine⟨_,rfl,_,rfl,D,_,rfl,.of (s3 _ _ R2.1),λY r8=>?_⟩;rw[Zow (by omega),ZgC (by omega)];have s4:=Same.upd (H:=H3) (o:=.lst ((([0]:TY).map λi=>M.getD i 0).map V.ref)) r8;have w6:upd H3 Y (.lst ((([0]:TY).map λi=>M.getD i 0).map V.ref)) Y=some (.lst ((([0]:TY).map λi=>M.getD i 0).map V.ref)):=Zt;generalize upd H3 Y (.lst ((([0]:TY).map λi=>M.getD i 0).map V.ref))=H4 at s4 w6 ⊢;have r9:=s3.trans s4;have R4:=R2.mono r9;have p8:H2 Y=none:=s3.free r8;have w8:Lf≠Y:=λz=>by rw[z,r8] at o8;cases o8
  have T2:=T1.mono s2;have T4:=T2.mono r9;have nLp:Lf≠p:=T2.neN r6;have nOp:Y≠p:=T2.neN p8;have RL4:=R4.sub ((ac (J.length-1)).map (· + 1)) (λi hi=>by
   obtain⟨j,hj,rfl⟩:=aC.mp hi;have:=af.mp hj;omega) (s4 _ _ o8)
  have RO4:=R4.sub [0] (λi hi=>by rw[aJ.mp hi];omega) w6;have p0:([0]++(ac (J.length-1)).map (· + 1)).Perm (ac J.length):=by
   have:ac J.length=[0]++(ac (J.length-1)).map (· + 1):=by
    obtain⟨k,hk⟩:∃k,J.length=k+1:=⟨J.length-1,by omega⟩;rw[hk,lE];rfl
   rw[this]
  refine Yi (λm U H'=>∃(ls os:TY),U=[some (.ref p),some (.bl gr),some (.ref D),some (.ref Lf),some (.ref Y),none,none]/\Tk p H2 H'/\YS H' p (b+2+os.length)/\TupsAt H' Lf (ls.map λi=>M.getD i 0) (ls.map λi=>J.getD i [])/\TupsAt H' Y (os.map λi=>M.getD i 0) (os.map λi=>J.getD i [])/\(os++ls).Perm (ac J.length)/\os[0]?=some 0/\m=ls.length)
   (λU H'=>∃(os:TY),U=[some (.ref p),some (.bl gr),some (.ref D),some (.ref Lf),some (.ref Y),none,none]/\Tk p H2 H'/\YS H' p (b+2+os.length)/\TupsAt H' Y (os.map λi=>M.getD i 0) (os.map λi=>J.getD i [])/\os.Perm (ac J.length)/\os[0]?=some 0) ?hend ⟨_,_,_,rfl,Tk.of r9,T4.le (by omega),RL4,RO4,p0,rfl,rfl⟩ ?turn
  case turn=>
   rintro q0 m U H' ⟨ls,os,rfl,kk,Tp,RL,RO,pm,h0,hm⟩;have pl:=pm.length_eq;rw[Zd,Zg] at pl;refine⟨_,rfl,JL,λe0 ne0=>?_⟩;have sE:=Same.upd (H:=H') (o:=.lst []) ne0;have o6:=RL.mono sE;have o9:=RO.mono sE;have kE:=kk.same sE;have TE:=Tp.mono sE;refine⟨_,_,o6.rd,.lst (.of Zt) .nil,ZcX _,rfl,_,rfl,?_⟩;generalize upd H' e0 (.lst [])=HE at o6 o9 kE TE ⊢;rw[ZjR];refine Y6 (λhne=>?_) (λhe=>?_)
   ·have hpos:0<ls.length:=by
     cases ls with
     |nil=>cases hne
     |cons x r=>rw[Zi];omega
    refine⟨_,λ_ _ z=>z,_,rfl,.inl ⟨rfl,_,.of o9.1⟩,_,rfl,.inl ⟨rfl,_,.of o6.1⟩,_,rfl,_,rfl,Lf,_,rfl,.inl (.of o6.1),p,_,b+2+os.length,rfl,TE,by omega,?_,?_,λr5 H5 c0 c1 k5 T5=>?_⟩
    ·rw[Za,Za];omega
    ·rw[Za,Za];omega
    rw[Za,Za] at c1;obtain⟨j,rfl⟩:=a7 c0;have hj:j<ls.length:=by omega
    have o7:=TupsAt.tk TE k5 o6;have RO5:=TupsAt.tk TE k5 o9;have t0:((ls.map λi=>M.getD i 0).map V.ref)[j]?=some (.ref (M.getD ls[j] 0)):=by rw[Zc,Zc,Zf hj];rfl
    obtain⟨sx,_⟩:=Zck (J3 (n:=((ls.map λi=>M.getD i 0).map V.ref).length) (i:=j) (by rw[Za,Za];exact hj));have p6:=o7.2.2 j (M.getD ls[j] 0) (by rw[Zc,Zf hj];rfl);have ef:(ls.map λi=>J.getD i []).getD j []=J.getD ls[j] []:=by
     rw[Zb,Zc,Zf hj];rfl
    rw[ef] at p6;have t5:=o7.erase j;have p7:=RO5.updM (o:=.lst (((ls.map λi=>M.getD i 0).map V.ref).eraseIdx j)) o7.1 w8.symm;have T6:=T5.updN (o:=.lst (((ls.map λi=>M.getD i 0).map V.ref).eraseIdx j)) nLp;have k6:=(kE.trans k5).updN (o:=.lst (((ls.map λi=>M.getD i 0).map V.ref).eraseIdx j)) r6;have w9:upd H5 Lf (.lst (((ls.map λi=>M.getD i 0).map V.ref).eraseIdx j)) (M.getD ls[j] 0)=some (.tup ((J.getD ls[j] []).map nV)):=by
     rw[Zy (λz=>by rw[z,o7.1] at p6;cases p6)];exact p6
    refine⟨Lf,_,j,j,_,rfl,rfl,o7.1,by omega,by omega,sx,t0,?_⟩;generalize upd H5 Lf (.lst (((ls.map λi=>M.getD i 0).map V.ref).eraseIdx j))=H6 at t5 p7 T6 k6 w9 ⊢;refine⟨Y,_,_,rfl,rfl,p7.1,by rw[Za,Za];omega,?_⟩;rw[Uw,Uw] at t5;refine⟨(ls.eraseIdx j).length,by rw[eP,if_pos hj];omega,ls.eraseIdx j,os++[ls[j]],rfl,k6.updN p8,?_,t5.updM p7.1 w8,?_,?_,?_,rfl⟩
    ·rw[Zd]
     exact T6.updN nOp
    ·rw[aO,aO]
     exact p7.push w9
    ·rw[eh]
     exact (kB os (ZdM ls j hj)).trans pm
    ·rw[aq]
     ·exact h0
     ·exact (ab.mp h0).1
   ·have:ls=[]:=by
     cases ls with
     |nil=>rfl
     |cons x r=>exact absurd rfl he
    subst this;rw[ft] at pm;exact q0 _ _ ⟨os,rfl,kE,TE,o9,pm,h0⟩
  case hend=>
   rintro U H5 ⟨os,rfl,kk,Tp,RO,pm,h0⟩;have O:=ZnH n1 pm h0;have o5:=O.len;have nd:=B.nd;refine λNd x6=>?_;have s6:=Same.upd (H:=H5) (o:=.dT []) x6;have x8:upd H5 Nd (.dT []) Nd=some (.dT []):=Zt;generalize upd H5 Nd (.dT [])=H6 at s6 x8 ⊢;have ol:((os.map λi=>M.getD i 0).map V.ref).length=J.length:=by rw[Za,Za,o5]
   refine⟨_,rfl,Y,_,rfl,.inl (.of (s6 _ _ RO.1)),_,rfl,by rw[ol];omega,by rw[ol];omega,?_⟩;rw[ol,Zj];refine WN (λm U H'=>∃v6:TQ,U=[some (.ref p),some (.bl gr),some (.ref D),some (.ref Lf),some (.ref Y),some (.ref Nd),v6]/\Same H5 H'/\H' Nd=some (.dT (kvN J os m))) ⟨_,rfl,s6,x8⟩ ?_ ?_
   ·rintro m U H7 hm ⟨v6,rfl,s7,t6⟩
    rw[show (0:Int)+(m:Int)=(m:Int) by omega];have o0:=RO.mono s7;obtain⟨c,_,t0,hc⟩:=o0.get (i:=m) (by rw[Za,o5];exact hm);rw[Zcd (by omega)] at hc;refine⟨_,rfl,_,rfl,_,rfl,_,rfl,Y,_,_,_,rfl,rfl,.of o0.1,t0,Nd,_,rfl,Uf.T (k:=XO (J.getD (os.getD m 0) [])) t6 (by rw[Zjo];exact hc) (by unfold kvN;rw[Za,Zg];omega),?_⟩;rw[ZlO nd rfl O hm];exact⟨_,rfl,s7.updr x6,Zt⟩
   ·rintro U H7 ⟨v6,rfl,s7,t6⟩
    have o0:=RO.mono s7;refine⟨_,rfl,Y,rfl,⟨_,.of o0.1⟩,?_⟩;have Ot:Ord (Wg J).length os:=by rw[ZhR];exact O
    have Pt:PW (ren (Wg J) os):=Jd B.pw Ot;have rl:(ren (Wg J) os).length=J.length:=by rw[Uo,o5]
    have rat:∀i,i<J.length->(ren (Wg J) os).getD i []=os.map λb=>pos os (ZT (Wg J) (os.getD i 0) b):=λi hi=>by
     unfold ren;rw[Zb,Zc,Z8 (show i<os.length by omega)];rfl
    refine Wa (W:=Addr) id (λi w H=>Tz H w (((ren (Wg J) os).getD i []).map nV)) (λ_ _=>True) (Wh (K:=K) (.of o0.1)) [some (.ref Nd),some (.ref Y)] rfl (by rw[ol];omega) (λi w H H' s h=>h.mono s) (λw H H' s h=>trivial) (λi w H0 H1 D o ys ys' h h0 h1 h2=>Tz.updL h h2) (λi y hy H8 s8 R k8=>?_) (λD8 ws H8 nD8 s8 hD8 wl hw hp=>?_)
    ·obtain⟨c,rfl,hi,hc⟩:=o0.ref hy
     rw[Za,o5] at hi;rw[Zcd (by omega)] at hc;have t7:=o0.mono s8;have x9:=Yj O hi;refine⟨_,rfl,Y,rfl,⟨_,.of t7.1⟩,?_⟩;refine Zal (Wh (K:=K) (.of t7.1)) [some (.ref Nd),some (.ref c)] rfl (λj=>nV (pos os (ZT (Wg J) (os.getD i 0) (os.getD j 0)))) (by rw[ol];omega) (λj y' hy' H9 s9 R' k9=>?_) (λD9 H9 nD9 s9 t9=>?_)
     ·obtain⟨d,rfl,hj,hd⟩:=t7.ref hy'
      rw[Za,o5] at hj;rw[Zcd (by omega)] at hd;have y4:=Yj O hj;obtain⟨ml,me⟩:=ZoM B.cl x9 y4;refine⟨_,rfl,_,rfl,_,rfl,c,d,k,_,_,rfl,(s8.trans s9) _ _ hc,s9 _ _ hd,B.fg _ (ZeK x9),B.fg _ (ZeK y4),by omega,λr HA nr sA hr'=>?_⟩;have dg:=Xe.T (H:=HA) (k:=XO (XH (J.getD (os.getD i 0) []) (J.getD (os.getD j 0) []))) (((s8.trans s9).trans sA) _ _ t6) (by rw[Zjo];exact hr');rw[<-me,ZlN nd rfl O ml] at dg;exact⟨Nd,_,rfl,dg,k9 HA sA⟩
     ·rw[ol] at t9
      have e:(ac J.length).map (λj=>nV (pos os (ZT (Wg J) (os.getD i 0) (os.getD j 0))))=((ren (Wg J) os).getD i []).map nV:=by
       rw[rat i hi,<-Zn4 os,aL,o5];rfl
      rw[e] at t9;exact⟨D9,_,rfl,.of t9,λz Hz nz sz' hz=>k8 z Hz (s9.trans sz') hz trivial⟩
    ·refine⟨D8,_,rfl,.inl ⟨.of hD8,λg ng=>?_⟩⟩
     have s9:=Same.upd (H:=H8) (o:=.tup (ws.map λw=>V.ref (id w))) ng;have sX:=(s7.trans s8).trans s9;refine q g (ren (Wg J) os) _ (((k1.same s2).trans kk).same sX) ((Tp.mono sX).le (by omega)) ⟨ws,Zt,by rw[wl,ol,rl],λi r hr=>((hw i r hr).1).mono s9⟩ Pt ⟨ps,k,J,os,u5.2,B,Ot,rfl⟩
structure Bl (mg:TV):Prop where
 list:mg "list"=none
 len:mg "len"=none
 abs:mg "abs"=none
 range:mg "range"=none
 tuple:mg "tuple"=none
 isi:mg "isinstance"=none
 all:mg "all"=none
 set:mg "set"=none
 repr:mg "repr"=none
 any:mg "any"=none
 int:mg "int"=none
 bool:mg "bool"=none
inductive Zem (K:aa) (vs:TR) (H:Hp) (Q:VK) (E03:XK):Prop
 |mk (g:Addr) (t:T7) (a r:Nat):(vs=[.ref g,.int a])->(GT H g t)->(PW t)->(a<t.length)->(Rd t a r)->(Q (.int (it t a (r-1):Nat)) H)->Zem K vs H Q E03
theorem Zlz (F:Wf K "back" "back" (tq 3) f fd):ZW P w K mg base ZY 1 f fd ["group", "a"] (Zem K):=by
 refine F.ok (FS (N:=["group", "a"])) (λvs H Q E h=>?_) (λo0 A U s H vs Q E hr h=>?_)
 ·obtain⟨g,t,a,r,rfl,_⟩:=h;rfl
 ·obtain⟨g,t,a,r,rfl,G,J,M,R,q⟩:=h
  refine⟨_,Zv (ZE (ZnD PySem.F.plainAttrs_tuple lS PySem.F.type_tuple_index (Zrv K) (ZU (VA K) (vn 0) (vn 1) (λ_ _=>rfl)) (pc Zw Zs))),?_⟩;obtain⟨rs,r1,h1,_,h2,Y,h4⟩:=G.at J M;have hl:=Ul J M;have il:=W6 J M (r-1);refine⟨_,rfl,_,rfl,g,_,_,_,rfl,rfl,.of h1,h2,⟨_,_,rfl,Y⟩,r1,_,.int 0,it t a (r-1),rfl,rfl,Y.sq,rfl,?_,by rw[Za,hl];exact il,λz j=>?_,λm z hm j=>?_,q⟩
  ·rw[ax]
   intro z j;obtain⟨k,_,rfl⟩:=aC.mp j;rfl
  ·rw[ZbV J M il,R.bk] at j
   cases j;decide
  ·have O:m<t.length:=by omega
   rw[ZbV J M O] at j;cases j;have:ZT t a m≠0:=λz=>by
    have:=R.un m O z;omega
   show decide ((ZT t a m:Int)=0)=false;exact decide_eq_false (by omega)
end C30
namespace N30
open PySem L2 PySem.Spec PyProof.Rows
def tq (i:Nat):Stmt:=gE.main.body.getD i (.Pass ⟨0,0,0,0⟩)
structure Bl (mg:TV):Prop where
 list:mg "list"=none
 len:mg "len"=none
 abs:mg "abs"=none
 range:mg "range"=none
 tuple:mg "tuple"=none
 isi:mg "isinstance"=none
 all:mg "all"=none
 set:mg "set"=none
 repr:mg "repr"=none
 any:mg "any"=none
 int:mg "int"=none
 bool:mg "bool"=none
theorem Zg3 {m:Int}(h:0<m)(j:m<2 ^ 64):m.natAbs.log2<9000:=by
 have:=(mJ (n:=m.natAbs) (k:=64) (by omega)).mpr (by omega);omega
def strip:Nat->Int->Int->Int
 |0,r,_=>r
 |g+1,r,p=>if r % p=0 then strip g (r / p) p else r
def pr:Nat->Int->Int->TX->TX
 |0,_,_,ZI=>ZI
 |f+1,r,p,ZI=>if 1<r then pr f (strip 6 r p) (p+1) (if r % p=0 then ZI++[p] else ZI) else ZI
def ZeZ:Nat->Int->Int->Bool
 |0,r,_=>decide (r<=1)
 |f+1,r,p=>if 1<r then ZeZ f (strip 6 r p) (p+1) else true
def Ya (n:Int):TX:=pr 100 n 2 []
def VF (n:Int):Int:=(Ya n).foldl (λf p=>f / p*(p-1)) n
def Zqi:Nat->Int->Int->Int
 |0,a,_=>a
 |f+1,a,b=>if 0<b then Zqi f b (a % b) else a
def ZrT (a b:Int):Int:=Zqi 100 a b
def ZmP (n:Int):Int:=(((Wo 1 n.toNat).filter λk=>decide (ZrT k n=1)).length:Nat)
def okN (n:Nat):Bool:=ZeZ 100 n 2 && (Ya n).all (λp=>decide (2<=p) && decide (p<=60)) && decide (VF n=ZmP n) && decide (1<=VF n) && decide (VF n<=60)
theorem ZlA:((ac 61).all λn=>n == 0 || okN n)=true:=by decide +kernel
theorem Zb7 {n:Nat}(J:1<=n)(M:n<=60):ZeZ 100 n 2=true/\(∀p∈Ya n,2<=p/\p<=60)/\VF n=ZmP n/\1<=VF n/\VF n<=60:=by
 have h:=ax.mp ZlA n (af.mpr (by omega));have j:(n == 0)=false:=by simp;omega
 rw[j,gU] at h;unfold okN at h;simp only[ae,decide_eq_true_eq,ax] at h;exact⟨h.1.1.1.1,h.1.1.1.2,h.1.1.2,h.1.2,h.2⟩
theorem Zai {r p:Int}(J:1<=r)(j:2<=p)(h:r % p=0):1<=r / p/\2*(r / p)<=r:=by
 have e:p*(r / p)=r:=Int.mul_ediv_cancel' (Int.dvd_of_emod_eq_zero h);generalize r / p=q at e;have M:1<=q:=by
  apply ak;intro O;have:p*q<=p*0:=Int.mul_le_mul_of_nonneg_left (by omega) (by omega);omega
 have:2*q<=p*q:=dB j (by omega);omega
theorem X3:∀(g:Nat) {r p:Int},1<=r->2<=p->1<=strip g r p/\strip g r p<=r
 |0,r,p,j,_=>⟨j,Int.le_refl _⟩
 |g+1,r,p,j,J=>by
  unfold strip;by_cases h:r % p=0
  ·rw[if_pos h]
   obtain⟨a,b⟩:=Zai j J h;have:=X3 g (r:=r / p) (p:=p) a J;omega
  ·rw[if_neg h];omega
theorem UG {g:Nat}{r p:Int}(h:¬r % p=0):strip g r p=r:=by
 cases g with
 |zero=>rfl
 |succ g=>unfold strip;rw[if_neg h]
inductive X4 (vs:TR) (H:Hp) (Q:VK) (E03:XK):Prop
 |mk (n:Nat):(vs=[.int n])->(1<=n)->(n<=60)->(∀l H',Same H H'->H' l=some (.lst ((Ya n).map V.int))->Q (.ref l) H')->X4 vs H Q E03
inductive UK (vs:TR) (H:Hp) (Q:VK) (E03:XK):Prop
 |mk (n:Nat):(vs=[.int n])->(1<=n)->(n<=60)->(∀H',Same H H'->Q (.int (VF n)) H')->UK vs H Q E03
theorem ZgV (F:Wf K "primes_of" "primes_of" (tq 14) f fd)(T:Bl mg):ZW P w K mg base ZY 1 f fd ["n"] X4:=by
 refine F.ok (FS (N:=["n", "primes", "rest", "p"])) (λvs H Q E h=>?_) (λr6 A o9 s H vs Q E hr h=>?_)
 ·obtain⟨n,rfl,_⟩:=h;rfl
 ·obtain⟨n,rfl,n1,n60,q⟩:=h
  obtain⟨o7,r8,_⟩:=Zb7 n1 n60;refine⟨_,Zu (ZK 1 rfl (ZS Zs)) (Zu (ZK 2 rfl (vn 0)) (Zu (ZK 3 rfl Zw)
   (Zu (Yr au (ZM Zdi (vn 2) Zw (ZO _))
    (Zu (YU (ZM Zdj (Zz Yb (vn 2) (vn 3)) Zw (ZO _)) (Zv (Yx (Wv aM aS aT Z3 (vn 1) (pc (vn 3) Zs)))) Z2)
    (Zu (Yr au (ZM Zdj (Zz Yb (vn 2) (vn 3)) Zw (ZO _)) (Zv (ZK 2 rfl (Zz JA (vn 2) (vn 3)))))
    (Zv (JV (i:=3) (Z6 (by kernel_rfl)) rfl (YV (by kernel_rfl)) Zw WB (.inl rfl))))))
   (Zv (ZE (vn 1)))))),?_⟩
  refine⟨by decide,λl hl=>⟨_,rfl,?_⟩⟩;have s1:Same H (upd H l (.lst [])):=Same.upd hl;refine Yi (λf O H'=>∃(r p:Int) (ZI:TX),O=[some (.int n),some (.ref l),some (.int r),some (.int p)]/\H'=upd H l (.lst (ZI.map V.int))/\1<=r/\r<=60/\2<=p/\p+f=102/\ZI.length+f<=100/\ZeZ f r p=true/\pr f r p ZI=Ya n)
   (λO H'=>∃r p:TQ,O=[some (.int n),some (.ref l),r,p]/\H'=upd H l (.lst ((Ya n).map V.int))) ?hend ⟨100,n,2,[],rfl,rfl,by omega,by omega,by omega,by omega,by decide,o7,rfl⟩ ?turn
  case hend=>
   rintro O H' ⟨r,p,rfl,rfl⟩;exact⟨_,rfl,q l _ (Same.upd hl) Zt⟩
  case turn=>
   rintro o5 f O H' ⟨r,p,ZI,rfl,rfl,r1,p6,p2,pf,al,he,hp⟩;refine⟨_,rfl,_,_,rfl,rfl,_,rfl,?_⟩;refine Y6 (λh1=>?_) (λh1=>?_)
   rotate_left
   ·have h1:¬ 1<r:=λz=>h1 (decide_eq_true z)
    refine o5 _ _ ⟨_,_,rfl,?_⟩;have:pr f r p ZI=ZI:=by cases f with|zero=>rfl|succ f=>unfold pr;rw[if_neg h1]
    rw[<-hp,this]
   have h1:1<r:=of_decide_eq_true h1;obtain⟨g,rfl⟩:∃g,f=g+1:=by
    cases f with
    |zero=>unfold ZeZ at he;have:=of_decide_eq_true he;omega
    |succ g=>exact⟨g,rfl⟩
   refine⟨_,λ_ _ z=>z,?_⟩;unfold ZeZ at he;unfold pr at hp;rw[if_pos h1] at he hp;have sz:=Jv;refine⟨_,rfl,_,rfl,_,_,rfl,rfl,(by show (0:Int)<p;omega),rfl,_,rfl,?_⟩;obtain⟨j,o6,o8,hA⟩:∃j:TX,j=(if r % p=0 then ZI++[p] else ZI)/\pr g (strip 6 r p) (p+1) j=Ya n/\j.length<=ZI.length+1:=⟨_,rfl,hp,by split <;> simp⟩
   obtain⟨p7,r9⟩:=X3 6 (r:=r) (p:=p) r1 p2;refine Y6 (λh2=>?_) (λh2=>?_)
   ·have h2:r % p=0:=V.int.inj (of_decide_eq_true h2)
    refine⟨_,rfl,.inl ⟨rfl,_,.of Zt⟩,_,rfl,l,_,_,rfl,rfl,Zt,by rw[Za];omega,?_⟩;have e1:upd (upd H l (.lst (ZI.map V.int))) l (.lst (ZI.map V.int++[.int p]))=upd H l (.lst (j.map V.int)):=by
     rw[Zkx,o6,if_pos h2,aO];rfl
    rw[e1];refine Yi (λm J M=>∃(U:Int) (g':Nat),J=[some (.int n),some (.ref l),some (.int U),some (.int p)]/\M=upd H l (.lst (j.map V.int))/\1<=U/\U<=60/\U<2 ^ g'/\strip g' U p=strip 6 r p/\m=U.toNat)
     (λJ M=>J=[some (.int n),some (.ref l),some (.int (strip 6 r p)),some (.int p)]/\M=upd H l (.lst (j.map V.int))) ?hend2 ⟨_,r,6,rfl,rfl,r1,p6,by omega,rfl,rfl⟩ ?turn2
    case hend2=>
     rintro J M ⟨rfl,rfl⟩;exact⟨_,rfl,_,_,rfl,rfl,g,by omega,strip 6 r p,p+1,j,rfl,rfl,p7,by omega,by omega,by omega,by omega,he,o8⟩
    case turn2=>
     rintro Y m J M ⟨U,g',rfl,rfl,a1,a2,a3,a4,rfl⟩;refine⟨_,rfl,_,rfl,_,_,rfl,rfl,(by show (0:Int)<p;omega),rfl,_,rfl,?_⟩;refine Y6 (λh3=>?_) (λh3=>?_)
     ·have h3:U % p=0:=V.int.inj (of_decide_eq_true h3)
      obtain⟨b1,b2⟩:=Zai a1 p2 h3;obtain⟨g2,rfl⟩:∃g2,g'=g2+1:=by
       cases g' with
       |zero=>simp at a3;omega
       |succ g2=>exact⟨g2,rfl⟩
      unfold strip at a4;rw[if_pos h3] at a4;refine⟨_,λ_ _ z=>z,_,rfl,_,rfl,_,_,rfl,rfl,⟨by omega,by omega⟩,(U / p).toNat,by omega,U / p,g2,rfl,rfl,b1,by omega,?_,a4,rfl⟩;rw[Int.pow_succ] at a3;omega
     ·have h3:¬U % p=0:=λz=>h3 (decide_eq_true (congrArg V.int z))
      rw[UG h3] at a4;exact Y _ _ ⟨by rw[a4],rfl⟩
   ·have h2:¬r % p=0:=λz=>h2 (decide_eq_true (congrArg V.int z))
    have e1:upd H l (.lst (ZI.map V.int))=upd H l (.lst (j.map V.int)):=by rw[o6,if_neg h2]
    rw[e1];have e2:strip 6 r p=r:=UG h2;refine Yi (λm J M=>J=[some (.int n),some (.ref l),some (.int r),some (.int p)]/\M=upd H l (.lst (j.map V.int)))
     (λJ M=>J=[some (.int n),some (.ref l),some (.int r),some (.int p)]/\M=upd H l (.lst (j.map V.int))) ?hend3 ⟨0,rfl,rfl⟩ ?turn3
    case hend3=>
     rintro J M ⟨rfl,rfl⟩;exact⟨_,rfl,_,_,rfl,rfl,g,by omega,r,p+1,j,rfl,rfl,r1,by omega,by omega,by omega,by omega,e2▸he,e2▸o8⟩
    case turn3=>
     rintro o0 m J M ⟨rfl,rfl⟩;refine⟨_,rfl,_,rfl,_,_,rfl,rfl,(by show (0:Int)<p;omega),rfl,_,rfl,?_⟩;exact Vl (λz=>h2 (V.int.inj (of_decide_eq_true z))) (o0 _ _ ⟨rfl,rfl⟩)
theorem ZgW (F:Wf K "places" "places" (tq 15) f fd)(T:Bl mg)(GP:Fn P w K mg base ZY 1 "primes_of" ["n"] X4):ZW P w K mg base ZY 2 f fd ["n"] UK:=by
 refine F.ok (FS (N:=["n", "found", "p"])) (λvs H Q E h=>?_) (λo0 A O s H vs Q E hr h=>?_)
 ·obtain⟨n,rfl,_⟩:=h;rfl
 ·obtain⟨n,rfl,n1,n60,q⟩:=h
  obtain⟨_,U,_⟩:=Zb7 n1 n60;refine⟨_,Zu (ZK 1 rfl (vn 0)) (Zu (ZV au rfl (itL K (YF GP hr ZF (pc (vn 0) Zs))) (gn 2)
   (Zv (ZK 1 rfl (Zz Z0 (Zz JA (vn 1) (vn 2)) (Zz Y3 (vn 2) Zw)))))
   (Zv (ZE (vn 1)))),?_⟩
  refine⟨_,rfl,_,rfl,n,rfl,n1,n60,λl H1 s1 Y=>⟨l,rfl,⟨_,.of Y⟩,?_⟩⟩;refine W9 (Wh (WZ.of Y)) (λi j M=>∃v2:TQ,j=[some (.int n),some (.int (((Ya n).take i).foldl (λf p=>f / p*(p-1)) n)),v2]/\M=H1) ⟨none,rfl,rfl⟩ (λ_ _ _ ⟨_,_,e⟩=>e▸Same.refl _) ?_ ?_
  ·rintro i x j M J ⟨v2,rfl,rfl⟩
   rw[Zc] at J;cases e:(Ya n)[i]? with
   |none=>rw[e] at J;cases J
   |some p=>
    rw[e] at J;cases J;obtain⟨a1,a2⟩:=U p (ah e);refine⟨_,rfl,_,rfl,_,_,rfl,rfl,⟨by omega,by omega⟩,_,rfl,_,_,rfl,rfl,_,_,rfl,rfl,.inr ⟨by omega,by omega⟩,?_⟩;refine⟨some (.int p),?_,rfl⟩;have ht:(Ya n).take (i+1)=(Ya n).take i++[p]:=by rw[ce,e];rfl
    rw[ht,jy];rfl
  ·rintro j M ⟨v2,rfl,rfl⟩
   refine⟨_,rfl,?_⟩;rw[Za,cp];exact q M s1
inductive ZhW (vs:TR) (H:Hp) (Q:VK) (E03:XK):Prop
 |mk (n:Nat) (k:Int):(vs=[.int n,.int k])->(1<=n)->(n<=60)->(∀p H',Same H H'->H' p=some (.tup ((k::am (VF n-1).toNat 0).map V.int))->Q (.ref p) H')->ZhW vs H Q E03
inductive Zee (vs:TR) (H:Hp) (Q:VK) (E03:XK):Prop
 |mk (a:Addr) (z:Int) (r:TX):(vs=[.ref a])->(H a=some (.tup ((z::r).map V.int)))->(r.length<=1000)->(∀H',Same H H'->Q (if r.any (λy=>decide (y≠0))=true then .non else .int z) H')->Zee vs H Q E03
theorem UW (m:Nat):(am m [V.int 0]).flatten=(am m (0:Int)).map V.int:=by
 induction m with
 |zero=>rfl
 |succ m j=>rw[aV,bP,j,aV];rfl
theorem ZnN (F:Wf K "whole" "whole" (tq 20) f fd)(Y:Fn P w K mg base ZY 2 "places" ["n"] UK):ZW P w K mg base ZY 3 f fd ["n", "k"] ZhW:=by
 refine F.ok (FS (N:=["n", "k"])) (λvs H Q E h=>?_) (λo0 A J s H vs Q E hr h=>?_)
 ·obtain⟨n,k,rfl,_⟩:=h;rfl
 ·obtain⟨n,k,rfl,n1,n60,q⟩:=h
  obtain⟨_,_,_,p1,o5⟩:=Zb7 n1 n60;refine⟨_,Zv (ZE (Zz Zb6 (VG (pc (vn 1) Zs)) (Zz Zlh (VG (pc Zw Zs)) (Zz Y3 (YF Y hr ZF (pc (vn 0) Zs)) Zw)))),?_⟩;refine⟨_,rfl,JL,λO h1=>⟨JL,λt2 h2=>⟨_,rfl,n,rfl,n1,n60,λH1 s1=>⟨_,_,rfl,rfl,?_⟩⟩⟩⟩;have M:Same H (upd H O (.tup [.int k])):=Same.upd h1;have j:=Same.upd (o:=.tup [.int 0]) h2;obtain⟨m,hm⟩:=a7 (show 0<=VF n-1 by omega);refine⟨t2,_,m,rfl,congrArg V.int hm,s1 _ _ Zt,by simp,by simp;omega,by omega,λt3 H3 U h3=>?_⟩;refine⟨O,t3,_,_,rfl,rfl,U _ _ (s1 _ _ (j _ _ Zt)),h3,?_,λt4 H4 s4 h4=>?_⟩
  ·rw[UW,Za,Ze]
   have:(16777216:Nat)=sizeLine:=by decide
   simp;omega
  ·refine q t4 H4 ((((M.trans j).trans s1).trans U).trans s4) ?_
   rw[h4,UW,hm,Zj];rfl
end N30
namespace L2
open PySem PySem.Spec PyProof.Rows
end L2
namespace N30
open PySem L2 PySem.Spec PyProof.Rows
end N30
namespace PyY
open PySem
open AutoSeq1 (wpAny_loadPart')
def V9 (b:Bool)(h:Heap)(j a:Addr)(k:Nat):Prop:=match b with
 |true=>h.IsTupleIter j a k
 |false=>h.IsListIter j a k
def V8 (b:Bool)(h:Heap)(a:Addr)(j:Array Value):Prop:=match b with
 |true=>h.IsTuple a j
 |false=>h.IsList a j
theorem V9.ext {b:Bool}{h h':Heap}{c j a:Addr}{k:Nat}(x:V9 b h j a k)(e:iJ c h h')(n:j≠c):V9 b h' j a k:=by
 cases b
 ·exact Heap.IsListIter.extBut x e n
 ·exact Heap.IsTupleIter.extBut x e n
theorem V8.ext {b:Bool}{h h':Heap}{c a:Addr}{us:Array Value}(x:V8 b h a us)(e:iJ c h h')(n:a≠c):V8 b h' a us:=by
 cases b
 ·exact Heap.IsList.extBut x e n
 ·exact Heap.IsTuple.extBut x e n
theorem V9.at {b:Bool}{h h':Heap}{j a:Addr}{k:Nat}(x:V9 b h j a k)(e:∀o,h.get? j=some o->h'.get? j=some o):V9 b h' j a k:=by
 cases b
 ·exact Heap.IsListIter.at x e
 ·obtain⟨o,J,r⟩:=(show h.IsTupleIter j a k from x)
  exact⟨o,e o J,r⟩
theorem V8.at {b:Bool}{h h':Heap}{a:Addr}{us:Array Value}(x:V8 b h a us)(e:∀o,h.get? a=some o->h'.get? a=some o):V8 b h' a us:=by
 cases b
 ·exact Heap.IsList.at x e
 ·obtain⟨o,j,r⟩:=(show h.IsTuple a us from x)
  exact⟨o,e o j,r⟩
theorem V9.obj {b:Bool}{h:Heap}{j a:Addr}{k:Nat}(x:V9 b h j a k):∃o,h.get? j=some o/\∀v,o.data≠.cell v:=by
 cases b
 ·obtain⟨o,J,_,d⟩:=(show h.IsListIter j a k from x)
  exact⟨o,J,λv z=>by rw[d] at z;cases z⟩
 ·obtain⟨o,J,_,d⟩:=(show h.IsTupleIter j a k from x)
  exact⟨o,J,λv z=>by rw[d] at z;cases z⟩
theorem XM {b:Bool}{j a:Addr}{k:Nat}{us:Array Value}{y:Value}{Q:TW}(c:V9 b s.heap j a k)(d:V8 b s.heap a us)(e:us[k]?=some y)
  (q:∀g,V9 b g j a (k+1)->bq j s.heap g->Q y {s with heap:=g}):wpAny (model prog w) A (a9 (.ref j)) Q E s:=by
 cases b
 ·exact wpAny_nextOf_list_item c d e q
 ·exact U4 c d e q
theorem Za2 {b:Bool}{j a:Addr}{k:Nat}{us:Array Value}{Q:TW}(J:A.handled=none)(c:V9 b s.heap j a k)(d:V8 b s.heap a us)(e:us[k]?=none)
  (q:∀g x,iJ j s.heap g->(∃o,g.get? x=some o/\o.cls=.type "StopIteration")->E (.ref x) {s with heap:=g}):wpAny (model prog w) A (a9 (.ref j)) Q E s:=by
 cases b
 ·exact wpAny_nextOf_list_end J c d e q
 ·exact Za1 J c d e q
structure ZA (z p r i j a b:Addr):Prop where
 pz:p≠z
 rz:r≠z
 iz:i≠z
 jz:j≠z
 pr:p≠r
 pi:p≠i
 pj:p≠j
 ri:r≠i
 rj:r≠j
 ij:i≠j
 az:a≠z
 ar:a≠r
 ai:a≠i
 aj:a≠j
 bz:b≠z
 br:b≠r
 bi:b≠i
 bj:b≠j
theorem Zgw {u v:Bool}{z p r i j a b:Addr}{k:Nat}{us vs:Array Value}{x y o1 o2:Value}{Q:Option Value->Shared->Prop}(D:ZA z p r i j a b)
  (hz:iY s.heap z p r .none) (hp:ed s.heap p (.ref i) (.ref j)) (hr:ed s.heap r o1 o2) (hi:V9 u s.heap i a k) (hj:V9 v s.heap j b k) (ha:V8 u s.heap a us) (hb:V8 v s.heap b vs) (ex:us[k]?=some x) (ey:vs[k]?=some y)
  (q:∀g,iY g z p r (rawInt s.heap.objs.size)->ed g r x y->V9 u g i a (k+1)->V9 v g j b (k+1)->ed g s.heap.objs.size x y->g.objs.size=s.heap.objs.size+1->
   (∀c o,c≠z->c≠r->c≠i->c≠j->s.heap.get? c=some o->g.get? c=some o)->Q (some (.ref s.heap.objs.size)) {s with heap:=g}):wpAny (model prog w) A (pyNext (.ref z)) Q E s:=by
 have tz:s.TypeIs (.ref z) "zip":=⟨_,hz,rfl⟩;unfold pyNext;refine Zl (eG (a8 (name:=cN "__next__") tz iK (ba iK tz F.entry_zip_next ?_ (F.args_zip_next_1 _))));show wpAny _ _ (field (.ref z) 2 >>= _) _ _ s;refine Zl (bI hz rfl (x:=.bool false) rfl ?_);show wpAny _ _ (field (.ref z) 3 >>= _) _ _ s;refine Zl (bI hz rfl (x:=.ref p) rfl ?_);refine Zl (cG hp rfl ?_);show wpAny _ _ (bH (.ref z) >>= _) _ _ s;refine Zl ?_;unfold bH;refine Zl (bI hz rfl (x:=.none) rfl (Zm ?_));rw[if_pos rfl];refine Zl (dW (Zl (bI hz rfl (x:=.ref r) rfl ?_)));refine Zl (bT hz (by simp) λg1 z1 s1=>?_);replace z1:iY g1 z p r .ellipsis:=z1;refine Zl ?_;simp only[n6,List.zipIdx_nil,j7,kA];refine Zl (Zl (jK ?_));show wpAny _ _ (a9 (.ref i) >>= _) _ _ _;refine Zl (XM (hi.ext s1.extBut D.iz) (ha.ext s1.extBut D.az) ex λg2 i2 s2=>Zm ?_);have r2:ed g2 r o1 o2:=s2.extBut _ _ D.ri (s1.extBut _ _ D.rz hr);refine Zl (cG r2 rfl ?_);refine Zl (jf r2 λg3 r3 O=>?_);replace r3:ed g3 r x o2:=r3;refine Zl (kP (Zm ?_));refine Zl (Zl (jK ?_));show wpAny _ _ (a9 (.ref j) >>= _) _ _ _;refine Zl (XM (((hj.ext s1.extBut D.jz).ext s2.extBut D.ij.symm).ext O.extBut D.rj.symm) (((hb.ext s1.extBut D.bz).ext s2.extBut D.bi).ext O.extBut D.br) ey λg4 j4 U=>Zm ?_);have r4:ed g4 r x o2:=U.extBut _ _ D.rj r3;refine Zl (cG r4 rfl ?_);refine Zl (jf r4 λJ r5 Y=>?_);replace r5:ed J r x y:=r5;refine Zl (kP (Zm (Zm ?_)));refine Zl (cG r5 rfl ?_);refine Zl (lJ ?_);have sz:J.objs.size=s.heap.objs.size:=by rw[Y.1,U.1,O.1,s2.1,s1.1]
 have z5:iY J z p r .ellipsis:=Y.extBut _ _ D.rz.symm (U.extBut _ _ D.jz.symm (O.extBut _ _ D.rz.symm (s2.extBut _ _ D.iz.symm z1)));have k5:∀c o,c≠z->c≠r->c≠i->c≠j->s.heap.get? c=some o->J.get? c=some o:=λc o M c2 c3 c4 e=>Y.extBut _ _ c2 (U.extBut _ _ c4 (O.extBut _ _ c2 (s2.extBut _ _ c3 (s1.extBut _ _ M e))));have i5:V9 u J i a (k+1):=((i2.ext O.extBut D.ri.symm).ext U.extBut D.ij).ext Y.extBut D.ri.symm;have j5:V9 v J j b (k+1):=j4.ext Y.extBut D.rj.symm;have zl:z<J.objs.size:=Zp z5;show wpAny _ _ (cF (.ref z) (.ref J.objs.size) >>= _) _ _ _;refine Zl ?_;unfold cF;have z6:iY (J.push {cls:=.type "tuple",data:=.seq #[x,y]}) z p r .ellipsis:=Zn _ z5;refine Zl (bT z6 (by simp) λg7 z7 s7=>?_);replace z7:iY g7 z p r (rawInt J.objs.size):=z7;refine bT z7 (by simp) λg8 z8 s8=>?_;replace z8:iY g8 z p r (rawInt J.objs.size):=z8;have up:∀c o,c≠z->J.get? c=some o->g8.get? c=some o:=λc o M e=>s8.extBut _ _ M (s7.extBut _ _ M (Zn _ e));have t8:ed g8 J.objs.size x y:=s8.extBut _ _ (bB zl) (s7.extBut _ _ (bB zl) (Zo _ rfl));have e8:g8.objs.size=J.objs.size+1:=by rw[s8.1,s7.1,bF]
 rw[sz] at z8 t8 e8;refine Zm ⟨_,rfl,Zm ?_⟩;show Q (some (.ref J.objs.size)) _;rw[sz];exact q g8 z8 (up _ _ D.rz r5) (i5.at λo e=>up _ o D.iz e) (j5.at λo e=>up _ o D.jz e) t8 e8 λc o M c2 c3 c4 e=>up c o M (k5 c o M c2 c3 c4 e)
theorem Zgv {u v:Bool}{z p r i j a b:Addr}{k:Nat}{us vs:Array Value}{o1 o2:Value}{Q:PySem.Fin->Shared->Prop}(hn:A.handled=none)(D:ZA z p r i j a b)
  (hz:iY s.heap z p r .none) (hp:ed s.heap p (.ref i) (.ref j)) (hr:ed s.heap r o1 o2) (hi:V9 u s.heap i a k) (hj:V9 v s.heap j b k) (ha:V8 u s.heap a us) (hb:V8 v s.heap b vs) (en:us[k]?=none\/vs[k]?=none)
  (q:∀g e,(∀c o,c≠z->c≠r->c≠i->c≠j->s.heap.get? c=some o->g.get? c=some o)->(∃o,g.get? e=some o/\o.cls=.type "StopIteration")->E (.ref e) {s with heap:=g}) :
  wpAny (model prog w) A (cM.«zip.__next__» ⟨[.ref z],[]⟩) Q E s:=by
 show wpAny _ _ (field (.ref z) 2 >>= _) _ _ s;refine Zl (bI hz rfl (x:=.bool false) rfl ?_);show wpAny _ _ (field (.ref z) 3 >>= _) _ _ s;refine Zl (bI hz rfl (x:=.ref p) rfl ?_);refine Zl (cG hp rfl ?_);show wpAny _ _ (bH (.ref z) >>= _) _ _ s;refine Zl ?_;unfold bH;refine Zl (bI hz rfl (x:=.none) rfl (Zm ?_));rw[if_pos rfl];refine Zl (dW (Zl (bI hz rfl (x:=.ref r) rfl ?_)));refine Zl (bT hz (by simp) λg1 z1 O=>?_);replace z1:iY g1 z p r .ellipsis:=z1;refine Zl ?_;simp only[n6,List.zipIdx_nil,j7,kA];refine Zl (Zl (jK ?_));show wpAny _ _ (a9 (.ref i) >>= _) _ _ _;cases ex:us[k]? with
 |none=>
  refine Zl (Za2 hn (hi.ext O.extBut D.iz) (ha.ext O.extBut D.az) ex λg2 e U he=>?_);obtain⟨oe,J,M⟩:=he;have z2:iY g2 z p r .ellipsis:=U _ _ D.iz.symm z1;have Y:e≠z:=λx=>by
   subst x;rw[z2] at J;cases J;simp at M
  exact bT z2 (by simp) λg3 _ s3=>q g3 e (λc o c1 _ c3 _ x=>s3.extBut _ _ c1 (U _ _ c3 (O.extBut _ _ c1 x))) ⟨oe,s3.extBut _ _ Y J,M⟩
 |some x=>
  have ey:vs[k]?=none:=by
   rcases en with h|h
   ·rw[ex] at h;cases h
   ·exact h
  refine Zl (XM (hi.ext O.extBut D.iz) (ha.ext O.extBut D.az) ex λg2 i2 U=>Zm ?_);have r2:ed g2 r o1 o2:=U.extBut _ _ D.ri (O.extBut _ _ D.rz hr);refine Zl (cG r2 rfl ?_);refine Zl (jf r2 λg3 r3 s3=>?_);refine Zl (kP (Zm ?_));refine Zl (Zl (jK ?_));show wpAny _ _ (a9 (.ref j) >>= _) _ _ _;refine Zl (Za2 hn (((hj.ext O.extBut D.jz).ext U.extBut D.ij.symm).ext s3.extBut D.rj.symm) (((hb.ext O.extBut D.bz).ext U.extBut D.bi).ext s3.extBut D.br) ey λg4 e s4 he=>?_);obtain⟨oe,J,M⟩:=he;have z4:iY g4 z p r .ellipsis:=s4 _ _ D.jz.symm (s3.extBut _ _ D.rz.symm (U.extBut _ _ D.iz.symm z1));have Y:e≠z:=λx=>by
   subst x;rw[z4] at J;cases J;simp at M
  exact bT z4 (by simp) λg5 _ s5=>q g5 e (λc o c1 c2 c3 c4 x=>s5.extBut _ _ c1 (s4 _ _ c4 (s3.extBut _ _ c2 (U.extBut _ _ c3 (O.extBut _ _ c1 x))))) ⟨oe,s5.extBut _ _ Y J,M⟩
theorem ZhG {u v:Bool}{z p r i j a b:Addr}{k:Nat}{us vs:Array Value}{O U:Value}{Q:Option Value->Shared->Prop}(Y:A.handled=none)(D:ZA z p r i j a b)
  (hz:iY s.heap z p r .none) (hp:ed s.heap p (.ref i) (.ref j)) (hr:ed s.heap r O U) (hi:V9 u s.heap i a k) (hj:V9 v s.heap j b k) (ha:V8 u s.heap a us) (hb:V8 v s.heap b vs) (en:us[k]?=none\/vs[k]?=none)
  (q:∀g,(∀c o,c≠z->c≠r->c≠i->c≠j->s.heap.get? c=some o->g.get? c=some o)->Q none {s with heap:=g}):wpAny (model prog w) A (pyNext (.ref z)) Q E s:=by
 have J:s.TypeIs (.ref z) "zip":=⟨_,hz,rfl⟩;unfold pyNext;refine Zl (eG (a8 (name:=cN "__next__") J iK (ba iK J F.entry_zip_next (Zgv Y D hz hp hr hi hj ha hb en λg e hk he=>?_) (F.args_zip_next_1 _))));obtain⟨o,ho,hc⟩:=he;refine Zl (iH (T:="StopIteration") (b:=true) ⟨o,ho,hc⟩ lM ?_);exact Zm (q _ hk)
def Zfw (b:Bool):String:=match b with
 |true => "tuple_iterator"
 |false => "list_iterator"
theorem ZmR {b:Bool}{a:Addr}{us:Array Value}{Q:TW}(h:V8 b s.heap a us)(q:Q (.ref s.heap.objs.size) {s with heap:=s.heap.push {cls:=.type (Zfw b),data:=.fields #[.ref a,.int 0 0]}}):wpAny (model prog w) A (pyIter (.ref a)) Q E s:=by
 cases b
 ·exact fV h q
 ·exact fO h q
noncomputable abbrev zh1 (h:Heap)(u:Bool)(a:Addr):Heap:=h.push {cls:=.type (Zfw u),data:=.fields #[.ref a,.int 0 0]}
noncomputable abbrev zh2 (h:Heap)(u v:Bool)(a b:Addr):Heap:=(zh1 h u a).push {cls:=.type (Zfw v),data:=.fields #[.ref b,.int 0 0]}
noncomputable abbrev zh3 (h:Heap)(u v:Bool)(a b:Addr):Heap:=(zh2 h u v a b).push {cls:=.type "tuple",data:=.seq #[.ref h.objs.size,.ref (zh1 h u a).objs.size]}
noncomputable abbrev zh4 (h:Heap)(u v:Bool)(a b:Addr):Heap:=(zh3 h u v a b).push {cls:=.type "tuple",data:=.seq #[.none,.none]}
noncomputable abbrev zh5 (h:Heap)(u v:Bool)(a b:Addr):Heap:=(zh4 h u v a b).push {cls:=.type "zip",data:=.fields #[.none,.bool false,.bool false,.ref (zh2 h u v a b).objs.size,.ref (zh3 h u v a b).objs.size]}
theorem V8.push {b:Bool}{h:Heap}{a:Addr}{us:Array Value}(x:V8 b h a us)(o:Obj):V8 b (h.push o) a us:=x.at λ_ e=>Zn _ e
theorem ZhF (u v:Bool)(a b:Addr)(j vs:Array Value) :
  mS (cM.«zip.__new__» ⟨[.type "zip",.ref a,.ref b],[]⟩) (λ_ R s=>V8 u s.heap a j/\V8 v s.heap b vs/\R (.ok (.ret (.ref (zh4 s.heap u v a b).objs.size))) {s with heap:=zh5 s.heap u v a b}):=
 .of_wp λprog w A R s h=>by
  obtain⟨J,M,dr,tk,os⟩:=s;obtain⟨O,hb,h⟩:=h;have sub:=sub_zip;have U:V8 u (lD ⟨J,M,dr,tk,os⟩) a j:=O;have Y:V8 v (lD ⟨zh1 J u a,M,dr,tk,os⟩) b vs:=V8.push hb _
  wp_walk using ZmR U,ZmR Y
  exact⟨_,rfl,h⟩
theorem Zhr {u v:Bool}{a b:Addr}{us vs:Array Value}{Q:TW}(ha:V8 u s.heap a us)(hb:V8 v s.heap b vs)
  (q:∀g,iY g (s.heap.objs.size+4) (s.heap.objs.size+2) (s.heap.objs.size+3) .none->ed g (s.heap.objs.size+2) (.ref s.heap.objs.size) (.ref (s.heap.objs.size+1))->ed g (s.heap.objs.size+3) .none .none->
   V9 u g s.heap.objs.size a 0->V9 v g (s.heap.objs.size+1) b 0->(∀c o,s.heap.get? c=some o->g.get? c=some o)->Q (.ref (s.heap.objs.size+4)) {s with heap:=g}) :
  wpAny (model prog w) A (call (.type "zip") [.ref a,.ref b]) Q E s:=by
 refine callType_new F.called_zip (by decide) (F.typeCall_zip_2 _ _) (F.newCall_zip_2 _ _) (λobj=>F.args_object_init_3 obj _ _) F.entry_zip_new (ZhF u v a b us vs) ⟨ha,hb,?_⟩;have J:(zh1 s.heap u a).objs.size=s.heap.objs.size+1:=bF ..;have M:(zh2 s.heap u v a b).objs.size=s.heap.objs.size+2:=by rw[bF,J]
 have O:(zh3 s.heap u v a b).objs.size=s.heap.objs.size+3:=by rw[bF,M]
 have Y:(zh4 s.heap u v a b).objs.size=s.heap.objs.size+4:=by rw[bF,O]
 have U:(zh5 s.heap u v a b).get? (zh4 s.heap u v a b).objs.size=some _:=Zo _ rfl;have w4:(zh5 s.heap u v a b).get? (zh3 s.heap u v a b).objs.size=some _:=Zn _ (Zo _ rfl);have w3:(zh5 s.heap u v a b).get? (zh2 s.heap u v a b).objs.size=some _:=Zn _ (Zn _ (Zo _ rfl));have w2:(zh5 s.heap u v a b).get? (zh1 s.heap u a).objs.size=some _:=Zn _ (Zn _ (Zn _ (Zo _ rfl)));have w1:(zh5 s.heap u v a b).get? s.heap.objs.size=some _:=Zn _ (Zn _ (Zn _ (Zn _ (Zo _ rfl))));have it:∀(x:Bool) (g:Heap) (j c:Addr),g.get? j=some {cls:=.type (Zfw x),data:=.fields #[.ref c,.int 0 0]}->V9 x g j c 0:=λx g j c e=>by
  cases x <;> exact⟨_,e,rfl,rfl⟩
 show _/\_;rw[M,O,Y] at U;rw[J,M] at w3;rw[O] at w4;rw[J] at w2;rw[Y];exact⟨⟨_,U,rfl⟩,q _ U w3 w4 (it u _ _ _ w1) (it v _ _ _ w2) λc o x=>Zn _ (Zn _ (Zn _ (Zn _ (Zn _ x))))⟩
end PyY
namespace L2
open PySem PySem.Spec PyProof.Rows
def XV (b:Bool)(K:aa)(H:Hp)(a:Addr)(xs:TR):Prop:=match b with
 |true=>WO K H a xs
 |false=>WZ K H a xs
theorem XV.mono {b:Bool}{K:aa}{H j:Hp}{a:Addr}{xs:TR}(h:XV b K H a xs)(s:Same H j):XV b K j a xs:=by
 cases b
 ·exact s.seq h
 ·exact s.tup h
theorem XV.lst {K:aa}{H:Hp}{a:Addr}{xs:TR}(h:WZ K H a xs):XV false K H a xs:=h
theorem XV.tup {K:aa}{H:Hp}{a:Addr}{xs:TR}(h:WO K H a xs):XV true K H a xs:=h
theorem Inv.sqB {b:Bool}{a:Addr}{xs:TR}(I:Inv X pins σ H s)(h:XV b X.K H a xs):∃j,ZN xs j/\PyY.V8 b s.heap a j.toArray:=by
 cases b
 ·obtain⟨j,J,p,_⟩:=I.list h
  exact⟨j,J,p.isList⟩
 ·obtain⟨j,J,p,_⟩:=I.tuple h
  exact⟨j,J,p⟩
theorem Inv.sqB_inj {b:Bool}{a:Addr}{xs ys:TR}(I:Inv X pins σ H s)(h:XV b X.K H a xs)(h':XV b X.K H a ys):xs=ys:=by
 cases b
 ·exact I.list_inj h h'
 ·exact I.tuple_inj h h'
def Itz (K:aa)(u v:Bool)(a b:Addr):It:=
  ⟨λi H=>∃j J x y,XV u K H a j/\XV v K H b J/\j[i]?=some x/\J[i]?=some y,
   λi H x U=>∃T M O,x=.ref T/\H T=none/\U=upd H T (.tup [M,O])/\(∀j,XV u K H a j->j[i]?=some M)/\∀J,XV v K H b J->J[i]?=some O,
   λi H=>∃j J,XV u K H a j/\XV v K H b J/\(j.length<=i\/J.length<=i)⟩
theorem ZhM {P:Program}{w:World}{K:aa}{elts:List Expr}{x1}{pos:Pos}(u v:Bool)(a b z p r i j:Addr)(D:PyY.ZA z p r i j a b) :
  ZaM P w K (.Tuple elts x1 pos) (Itz K u v a b) [z,p,r,i,j] z (λk h=>iY h z p r .none/\ed h p (.ref i) (.ref j)/\(∃o1 o2,ed h r o1 o2)/\PyY.V9 u h i a k/\PyY.V9 v h j b k) where
 mem:=by simp
 obj:=λk h st c hc=>by
  obtain⟨O,M,⟨o1,o2,U⟩,hi,Y⟩:=st;simp only[aH,eY,or_false] at hc;rcases hc with rfl|rfl|rfl|rfl|rfl
  ·exact⟨_,O,λv z=>by
    have z':gK _=gq v:=z;cases z'⟩
  ·exact⟨_,M,λv z=>by
    have z':Data.seq _ _=gq v:=z;cases z'⟩
  ·exact⟨_,U,λv z=>by
    have z':Data.seq _ _=gq v:=z;cases z'⟩
  ·exact hi.obj
  ·exact Y.obj
 keep:=λk h h' st kk=>by
  obtain⟨O,M,⟨o1,o2,U⟩,hi,Y⟩:=st;exact⟨kk z (by simp) _ O,kk p (by simp) _ M,⟨o1,o2,kk r (by simp) _ U⟩,hi.at λo q=>kk i (by simp) o q,Y.at λo q=>kk j (by simp) o q⟩
 item:=by
  intro X hP hw hK hc k o6 s σ H E I hf st hg;subst hP hw hK;obtain⟨O,M,⟨o1,o2,U⟩,hi,Y⟩:=st;obtain⟨xs,ys,x,y,hA,hB,hx,hy⟩:=hg;obtain⟨o7,rv,pa⟩:=I.sqB hA;obtain⟨o8,o0,pb⟩:=I.sqB hB;obtain⟨ux,o9,p6⟩:=rv.get hx;obtain⟨uy,p7,p8⟩:=o0.get hy;refine PyY.Zgw D O M U hi Y pa pb (x:=ux) (y:=uy) (by simpa using o9) (by simpa using p7) λh1 z1 r1 i1 j1 t1 q0 k1=>?_;refine⟨_,rfl,wpAny_letOwnedTupleGo_zip z1 λh2 z2 s2=>?_⟩;have lt:∀c∈[z,p,r,i,j],c<s.heap.objs.size:=λc J=>by
   simp only[aH,eY,or_false] at J;rcases J with rfl|rfl|rfl|rfl|rfl
   ·exact Zp O
   ·exact Zp M
   ·exact Zp U
   ·obtain⟨o,e,_⟩:=hi.obj;exact Zp e
   ·obtain⟨o,e,_⟩:=Y.obj;exact Zp e
  have s3:bq z h1 h2:=s2;have t2:ed h2 s.heap.objs.size ux uy:=(s3.2 _ (bB (lt z (by simp)))).trans t1;have nT:H s.heap.objs.size=none:=I.hok.fresh (Zq _);have p2:ed h2 p (.ref i) (.ref j):=(s3.2 _ D.pz).trans (k1 _ _ D.pz D.pr D.pi D.pj M);have r2:ed h2 r ux uy:=(s3.2 _ D.rz).trans r1;have i2:=i1.ext s3.extBut D.iz;have j2:=j1.ext s3.extBut D.jz;have I2:=I.turnLay (t':=s.toks) (h':=h2) (ts:=[z,p,r,i,j]) (T:=s.heap.objs.size) (o:=.tup [x,y]) (λc o J q=>?_) (λc J=>?_) hf (Zq _) ⟨by show 2<=sizeLine;decide,[ux,uy],.cons p6 (.cons p8 .nil),_,t2,rfl,0,rfl⟩
  ·refine⟨.ref s.heap.objs.size,_,I2,rfl,⟨_,x,y,rfl,nT,rfl,λzs o5=>by rw[I.sqB_inj o5 hA];exact hx,λzs o5=>by rw[I.sqB_inj o5 hB];exact hy⟩,⟨z2,p2,⟨_,_,r2⟩,i2,j2⟩,λc J=>?_⟩
   rw[Zy (ay (lt c J))];exact (hf c J).1
  ·have q1:c≠z:=λe=>J (by simp[e])
   have q2:c≠r:=λe=>J (by simp[e]);have q3:c≠i:=λe=>J (by simp[e]);have q4:c≠j:=λe=>J (by simp[e]);exact (s3.2 c q1).trans (k1 c o q1 q2 q3 q4 q)
  ·simp only[aH,eY,or_false] at J
   rcases J with rfl|rfl|rfl|rfl|rfl
   ·exact⟨_,z2⟩
   ·exact⟨_,p2⟩
   ·exact⟨_,r2⟩
   ·obtain⟨o,e,_⟩:=i2.obj;exact⟨o,e⟩
   ·obtain⟨o,e,_⟩:=j2.obj;exact⟨o,e⟩
 done:=by
  intro X hP hw hK hc k o6 s σ H E I hf st hg;subst hP hw hK;obtain⟨O,M,⟨o1,o2,U⟩,hi,Y⟩:=st;obtain⟨xs,ys,hA,hB,hl⟩:=hg;obtain⟨o7,rv,pa⟩:=I.sqB hA;obtain⟨o8,o0,pb⟩:=I.sqB hB;have l1:=rv.length;have l2:=o0.length;refine PyY.ZhG (I.ok.hd hc) D O M U hi Y pa pb ?_ λh1 k1=>⟨rfl,I.turnedL (t':=s.toks) (ts:=[z,p,r,i,j]) (λc o J q=>?_) hf⟩
  ·rcases hl with h|h
   ·exact .inl (by simp;omega)
   ·exact .inr (by simp;omega)
  ·exact k1 c o (λe=>J (by simp[e])) (λe=>J (by simp[e])) (λe=>J (by simp[e])) (λe=>J (by simp[e])) q
 self:=λ_ _ _ _ _ st h=>wpAny_pyIter_zip st.1 h
structure ZcE (J:It)(At:Hp->Prop)(ps:List (V×V)):Prop where
 go:∀i H,At H->i<ps.length->J.go i H
 yld:∀i H x H2,At H->J.yld i H x H2->∃T y z,x=.ref T/\H T=none/\H2=upd H T (.tup [y,z])/\ps[i]?=some (y,z)
 stop:∀i H,At H->ps.length<=i->J.stop i H
theorem Zpi {K:aa}{u v:Bool}{a b:Addr}{xs ys:TR}:ZcE (Itz K u v a b) (λH=>XV u K H a xs/\XV v K H b ys) (xs.zip ys) where
 go:=λi H h j=>by
  rw[bO] at j;exact⟨xs,ys,xs[i]'(by omega),ys[i]'(by omega),h.1,h.2,by simp,by simp⟩
 yld:=λi H x H2 h J=>by
  obtain⟨T,y,z,e,M,O,U,Y⟩:=J;refine⟨T,y,z,e,M,O,?_⟩;rw[bh];exact⟨U xs h.1,Y ys h.2⟩
 stop:=λi H h j=>by
  rw[bO] at j;exact⟨xs,ys,h.1,h.2,by omega⟩
def Zqc (K:aa)(ta:TA):TI:=λσ H R=>ta σ H λvs M=>∃a b u v O U j,vs=[.ref a,.ref b]/\XV u K j a O/\XV v K j b U/\Same j M/\∀J Y,ZcE J Y (O.zip U)->(∀H',Same j H'->Y H')->R J M
theorem Zrt {X:Cx}{elts:List Expr}{x1}{pt:Pos}{l m:Expr}{ta:TA}{p pos:Pos}(hm:X.mg "zip"=none)(ha:PA X [l,m] ta)(hg:We X.env.scope "zip"=true:=by kernel_rfl)(hs:starEach [l,m] X.env=(false,eval l X.env)::starEach [m] X.env:=by rfl)(O:(backTo pos (starEach [m] X.env)).any (·.1)=false:=by rfl) :
  PI X (.Tuple elts x1 pt) (.Call (.Name "zip" p) [l,m] [] pos) (Zqc X.K ta):=by
 intro j s σ H R I h;refine Call_ (JD I (XG hg) hm (show bootBuiltins "zip"=some (.type "zip") by kernel_rfl) (bD (Yo (ha pos j s σ H _ I h) λus s1 ⟨vs,H1,J,r1,q1⟩=>?_) hs O));obtain⟨a,b,u,v,xs,ys,Hx,e,hA,hB,sm,q⟩:=q1;subst e;cases r1 with
 |cons r U=>
  cases U with
  |cons r' U=>
   cases U;cases (show _=aQ a from r);cases (show _=aQ b from r');obtain⟨o0,rv,Y⟩:=J.sqB (hA.mono sm);obtain⟨o5,o6,pb⟩:=J.sqB (hB.mono sm);have la:a<s1.heap.objs.size:=by
    cases u
    ·obtain⟨o,e,_⟩:=(show s1.heap.IsList a _ from Y);exact Zp e
    ·obtain⟨o,e,_⟩:=(show s1.heap.IsTuple a _ from Y);exact Zp e
   have lb:b<s1.heap.objs.size:=by
    cases v
    ·obtain⟨o,e,_⟩:=(show s1.heap.IsList b _ from pb);exact Zp e
    ·obtain⟨o,e,_⟩:=(show s1.heap.IsTuple b _ from pb);exact Zp e
   have nn:∀{c d:Nat},c<d->(c:Addr)≠d:=λh=>ay h;have D:PyY.ZA (s1.heap.objs.size+4) (s1.heap.objs.size+2) (s1.heap.objs.size+3) s1.heap.objs.size (s1.heap.objs.size+1) a b:=by
    have o7:(a:Nat)<s1.heap.objs.size:=la;have o8:(b:Nat)<s1.heap.objs.size:=lb;constructor <;> first|exact ay (aE la (e7 _ _))|exact ay (aE lb (e7 _ _))|exact ay la|exact ay lb|exact ay (by omega)|exact bB (by omega)
   refine PyY.Zhr Y pb λg gz gp gr gi gj gk=>wpAny_pyIter_zip gz ?_;have sz:∀c∈[s1.heap.objs.size+4,s1.heap.objs.size+2,s1.heap.objs.size+3,s1.heap.objs.size,s1.heap.objs.size+1],s1.heap.objs.size<=c:=λc M=>by
    simp only[aH,eY,or_false] at M;rcases M with rfl|rfl|rfl|rfl|rfl
    ·exact e7 _ _
    ·exact e7 _ _
    ·exact e7 _ _
    ·exact Zq _
    ·exact e7 _ _
   exact⟨_,[s1.heap.objs.size+4,s1.heap.objs.size+2,s1.heap.objs.size+3,s1.heap.objs.size,s1.heap.objs.size+1],_,_,H1,rfl,J.kept (t':=s1.toks) gk,ZhM u v a b _ _ _ _ _ D,⟨gz,gp,⟨_,_,gr⟩,gi,gj⟩,λc M=>J.fpOk (sz c M) (J.hok.fresh (sz c M)),q _ _ Zpi λH' s'=>⟨hA.mono s',hB.mono s'⟩⟩
theorem ZaE (K:aa){X:Cx}{elts:List Expr}{M}{pt:Pos}{l m:Expr}{J:TA}{p pos:Pos}(O:X.mg "zip"=none)(U:PA X [l,m] J)(Y:X.K=K:=by rfl)(hg:We X.env.scope "zip"=true:=by kernel_rfl)(hs:starEach [l,m] X.env=(false,eval l X.env)::starEach [m] X.env:=by rfl)(j:(backTo pos (starEach [m] X.env)).any (·.1)=false:=by rfl) :
  PI X (.Tuple elts M pt) (.Call (.Name "zip" p) [l,m] [] pos) (Zqc K J):=Y▸Zrt O U hg hs j
theorem Zak {K:aa}{J:It}{At:Hp->Prop}{own:List Str}{O:TY}{te:TE}{σ:St}{H Hx:Hp}{Q:VK}{M:List (V×V)}(S:ZcE J At M)(o8:∀j,Same Hx j->At j)(sx:Same Hx H)(U:St)(o9:JJ own O σ=none::none::U)(f:V->V->V)(hz:M.length<=1000000)
  (hs:∀(i:Nat) x y j,M[i]?=some (x,y)->Same H j->∀R:VK,(∀Y,Same j Y->R (f x y) Y)->te (some x::some y::U) j R)
  (hd:∀D j,H D=none->Same H j->j D=some (.lst (M.map λp=>f p.1 p.2))->Q (.ref D) j):WH own O (ZeS K 2 (JO (Ym 0) (JO (Ym 1) ZeT))) Wu te σ Q J H:=by
 intro D hD;refine⟨λi m o5 j=>m=M.length-i/\i<=M.length/\(∃v0 v1,o5=v0::v1::U)/\Same H j/\j D=some (.lst ((M.take i).map λp=>f p.1 p.2)),⟨_,rfl,aX _,⟨none,none,o9⟩,Same.upd hD,by rw[Zt,fI];rfl⟩,?_⟩;rintro i m o5 j ⟨rfl,hi,⟨v0,v1,rfl⟩,s,hl⟩;have o0:=o8 j (sx.trans s);by_cases o6:i<M.length
 ·refine .inr ⟨S.go i j o0 o6,λo7 H2=>(∃v0 v1,o7=v0::v1::U)/\Same H H2/\H2 D=some (.lst ((M.take (i+1)).map λp=>f p.1 p.2)),λo7 H2 z=>⟨M.length-(i+1),by omega,rfl,o6,z.1,z.2.1,z.2.2⟩,λx H2 hy=>?_⟩
  obtain⟨T,y,z,rfl,hT,rfl,hx⟩:=S.yld i j x H2 o0 hy;have ht:M.take (i+1)=M.take i++[(y,z)]:=by rw[ce,hx];rfl
  refine⟨T,_,rfl,.of Zt,rfl,_,_,rfl,_,_,rfl,rfl,?_⟩;refine tT (A:=λH4=>te (some y::some z::U) H4 λv Y=>∃xs,Y D=some (.lst xs)/\xs.length<sizeLine/\(∃v0 v1,(some y::some z::U:St)=v0::v1::U)/\Same H (upd Y D (.lst (xs++[v])))/\(upd Y D (.lst (xs++[v]))) D=some (.lst ((M.take (i+1)).map λp=>f p.1 p.2))) ?_;refine hs i y z _ hx (s.trans (Same.upd hT)) _ λY s5=>⟨_,s5 _ _ (Same.upd hT _ _ hl),?_,⟨_,_,rfl⟩,((s.trans (Same.upd hT)).trans s5).updr hD,?_⟩
  ·rw[Za,bE]
   have:(16777216:Nat)=sizeLine:=by decide
   omega
  ·rw[Zt,ht,aO]
   rfl
 ·have e:i=M.length:=by omega
  subst e;refine .inl ⟨S.stop _ j o0 (Zq _),hd D j hD s ?_⟩;rw[hl,cp]
end L2
set_option maxHeartbeats 1000000
namespace Num
def co (a:TX)(i:Nat):Int:=a.getD i 0
theorem Y8 (i:Nat):co [] i=0:=by simp[co]
theorem YM (x:Int)(r:TX):co (x::r) 0=x:=by simp[co]
theorem Wc (x:Int)(r:TX)(i:Nat):co (x::r) (i+1)=co r i:=by simp[co]
theorem J9 {a:TX}{i:Nat}(h:a.length<=i):co a i=0:=by
 unfold co;rw[Zb,ag h];rfl
theorem Z9 {a:TX}{i:Nat}(h:i<a.length):a[i]?=some (co a i):=by
 unfold co;rw[Zb,Zf h];rfl
def ZaF:TX->TX->TX
 | [],b=>b
 |a,[]=>a
 |x::a,y::b=>(x+y)::ZaF a b
def vsc (c:Int)(a:TX):TX:=a.map (c * ·)
theorem Vv:∀(a b:TX) (i:Nat),co (ZaF a b) i=co a i+co b i
 | [],b,i=>by rw[ZaF,Y8,cO]
 |x::a,[],i=>by rw[ZaF,Y8,bU];intro z;cases z
 |x::a,y::b,0=>by rw[ZaF,YM,YM,YM]
 |x::a,y::b,i+1=>by rw[ZaF,Wc,Wc,Wc,Vv a b i]
theorem Ze0 (c:Int):∀(a:TX) (i:Nat),co (vsc c a) i=c*co a i
 | [],i=>by unfold vsc;rw[fK,Y8,bc]
 |x::a,0=>by unfold vsc;rw[aB,YM,YM]
 |x::a,i+1=>by
  have:=Ze0 c a i;unfold vsc at this ⊢;rw[aB,Wc,Wc,this]
def Jl:TX->TZ->TX
 |_,[]=>[]
 |a,r::j=>ZaF (vsc (co a 0) r) (Jl a.tail j)
theorem Zl4 (a:TX)(i:Nat):co a.tail i=co a (i+1):=by
 cases a with
 |nil=>rw[List.tail_nil,Y8,Y8]
 |cons x r=>rw[dw,Wc]
theorem ZZ (a:TX)(r:TX)(rs:TZ)(j:Nat):co (Jl a (r::rs)) j=co a 0*co r j+co (Jl a.tail rs) j:=by
 rw[Jl,Vv,Ze0]
def ro (R:TZ)(i:Nat):TX:=R.getD i []
theorem ZbW (r:TX)(rs:TZ):ro (r::rs) 0=r:=by simp[ro]
theorem ZbX (r:TX)(rs:TZ)(i:Nat):ro (r::rs) (i+1)=ro rs i:=by simp[ro]
theorem Zno (i:Nat):ro [] i=[]:=by simp[ro]
theorem Zch (j:Nat)(v:Int):∀(a:TX) (i:Nat) (R:TZ),i<a.length->co (Jl (a.set i v) R) j=co (Jl a R) j+(v-co a i)*co (ro R i) j
 |a,i,[],h=>by rw[Zno,Y8,bc,bU];unfold Jl;rfl
 | [],i,r::J,h=>by cases h
 |x::a,0,r::J,h=>by
  rw[mV,ZZ,ZZ,YM,YM,ZbW,dw,dw,iT];omega
 |x::a,i+1,r::J,h=>by
  rw[mW,ZZ,ZZ,YM,YM,Wc,ZbX,dw,dw,Zch j v a i J (cC h)];omega
theorem Vk:∀(R:TZ) (j:Nat),co (Jl [] R) j=0
 | [],j=>by unfold Jl;exact Y8 j
 |r::J,j=>by rw[ZZ,Y8,List.tail_nil,Vk J j,bC,bU]
theorem Za6:∀(m:Nat) (R:TZ) (j:Nat),co (Jl (am m 0) R) j=0
 |0,R,j=>Vk R j
 |m+1,[],j=>by unfold Jl;exact Y8 j
 |m+1,r::J,j=>by rw[ZZ,aV,YM,dw,Za6 m J j,bC,bU]
def sig (n:Nat)(R:TZ)(j:Nat):TX->Nat->Int
 | [],_=>0
 |x::J,k=>x*co (ro R (k % n)) j+sig n R j J (k+1)
def V1 (n:Nat):TX->Nat->TX->TX
 | [],_,ZI=>ZI
 |x::j,k,ZI=>V1 n j (k+1) (ZI.set (k % n) (co ZI (k % n)+x))
def ZdJ (n:Nat)(j:TX):TX:=V1 n j 0 (am n 0)
theorem ZdA (n:Nat)(J:0<n)(R:TZ)(j:Nat):∀(M:TX) (k:Nat) (ZI:TX),ZI.length=n->co (Jl (V1 n M k ZI) R) j=co (Jl ZI R) j+sig n R j M k
 | [],k,ZI,h=>by rw[V1,sig,bU]
 |x::O,k,ZI,h=>by
  rw[V1,ZdA n J R j O (k+1) _ (by rw[aY,h]),Zch j _ ZI (k % n) R (by rw[h];exact bX _ J),sig];have e:co ZI (k % n)+x-co ZI (k % n)=x:=by omega
  rw[e];omega
theorem Zg4 (n:Nat)(M:0<n)(R:TZ)(J:TX)(j:Nat):co (Jl (ZdJ n J) R) j=sig n R j J 0:=by
 unfold ZdJ;rw[ZdA n M R j J 0 _ (cJ ..),Za6,cO]
theorem ZaU (n:Nat)(R:TZ)(j:Nat):∀(m k:Nat),sig n R j (am m 0) k=0
 |0,k=>rfl
 |m+1,k=>by rw[aV,sig,ZaU n R j m (k+1),bC,bU]
theorem Zfp (n:Nat)(R:TZ)(j:Nat)(c:Int):∀(a:TX) (i k:Nat),i<a.length->sig n R j (a.set i (co a i+c)) k=sig n R j a k+c*co (ro R ((k+i) % n)) j
 | [],i,k,h=>by cases h
 |x::a,0,k,h=>by
  rw[mV,sig,sig,YM,kc];simp only[e9];omega
 |x::a,i+1,k,h=>by
  rw[mW,sig,sig,Wc,Zfp n R j c a i (k+1) (cC h),show k+1+i=k+(i+1) by omega];omega
def lk (n:Nat)(s:Nat)(g:Nat->Int):Nat->Int:=λk=>g k-g ((k+(n-s)) % n)
def lks (n:Nat)(j:TY)(g:Nat->Int):Nat->Int:=j.foldl (λg s=>lk n s g) g
theorem ZfW (n:Nat):∀(j:TY) (g h:Nat->Int) (k:Nat),lks n j (λt=>g t+h t) k=lks n j g k+lks n j h k
 | [],g,h,k=>rfl
 |s::j,g,h,k=>by
  show lks n j (lk n s λt=>g t+h t) k=lks n j (lk n s g) k+lks n j (lk n s h) k;rw[<-ZfW n j (lk n s g) (lk n s h) k];congr 1;funext t;unfold lk;show g t+h t-(g ((t+(n-s)) % n)+h ((t+(n-s)) % n))=_;omega
theorem Zji (n:Nat)(c:Int):∀(j:TY) (g:Nat->Int) (k:Nat),lks n j (λt=>c*g t) k=c*lks n j g k
 | [],g,k=>rfl
 |s::j,g,k=>by
  show lks n j (lk n s λt=>c*g t) k=c*lks n j (lk n s g) k;rw[<-Zji n c j (lk n s g) k];congr 1;funext t;unfold lk;rw[f9]
theorem Zdy (n:Nat):∀(j:TY) (k:Nat),lks n j (λ_=>0) k=0
 | [],k=>rfl
 |s::j,k=>by
  show lks n j (lk n s λ_=>0) k=0;have:(lk n s λ_=>(0:Int))=λ_=>0:=by funext t;unfold lk;rfl
  rw[this];exact Zdy n j k
theorem Js (n:Nat)(M:0<n):∀(j:TY) (g h:Nat->Int),(∀t,t<n->g t=h t)->∀k,k<n->lks n j g k=lks n j h k
 | [],g,h,e,k,J=>e k J
 |s::j,g,h,e,k,J=>by
  refine Js n M j (lk n s g) (lk n s h) (λt O=>?_) k J;unfold lk;rw[e t O,e _ (bX _ M)]
def lkL (n s:Nat)(a:TX):TX:=de (· - ·) a (a.drop s++a.take s)
theorem ZfX {n s:Nat}{a:TX}(h:a.length=n):(lkL n s a).length=n:=by
 unfold lkL;rw[fc,Zd,cr,bE];omega
theorem Zoy {n s k:Nat}{a:TX}(h:a.length=n)(Y:s<=n)(J:k<n):co (lkL n s a) k=co a k-co a ((k+s) % n):=by
 have hl:(a.drop s++a.take s).length=n:=by
  rw[Zd,cr,bE];omega
 have M:(lkL n s a)[k]?=some (a[k]'(by omega)-(a.drop s++a.take s)[k]'(by omega)):=by
  unfold lkL;rw[fS,Zf (by omega),Zf (by omega)]
 have g2:=Z9 (a:=lkL n s a) (i:=k) (by rw[ZfX h];exact J);rw[M] at g2;have O:co a k=a[k]'(by omega):=by
  have:=Z9 (a:=a) (i:=k) (by omega);rw[Zf (by omega)] at this;exact (aA this).symm
 have U:co a ((k+s) % n)=(a.drop s++a.take s)[k]'(by omega):=by
  have j:(k+s) % n<a.length:=by rw[h];exact bX _ (by omega)
  have:=Z9 (a:=a) j;rw[Zf j] at this;rw[<-aA this];by_cases hc:k<n-s
  ·have q:(k+s) % n=k+s:=bf (by omega)
   rw[List.getElem_append_left (by rw[cr];omega),List.getElem_drop];congr 1;omega
  ·have q:(k+s) % n=k+s-n:=by
    rw[nJ (by omega),bf (by omega)]
   rw[List.getElem_append_right (by rw[cr];omega),List.getElem_take];congr 1;rw[cr];omega
 rw[O,U];exact (aA g2).symm
def Zn8 (n:Nat)(j:TY)(a:TX):TX:=j.foldl (λa s=>lkL n (n-s) a) a
theorem Zgj {n:Nat}:∀(j:TY) (a:TX),a.length=n->∀k,k<n->co (Zn8 n j a) k=lks n j (co a) k
 | [],a,h,k,J=>rfl
 |s::j,a,h,k,J=>by
  show co (Zn8 n j (lkL n (n-s) a)) k=lks n j (lk n s (co a)) k;rw[Zgj j _ (ZfX h) k J];exact Js n (by omega) j _ _ (λt M=>Zoy h (Nat.sub_le _ _) M) k J
def ZC:Nat->(Nat->Int)->Int
 |0,_=>0
 |n+1,f=>f 0+ZC n λt=>f (t+1)
theorem Zx:∀(n:Nat) (f g:Nat->Int),(∀t,t<n->f t=g t)->ZC n f=ZC n g
 |0,f,g,h=>rfl
 |n+1,f,g,h=>by rw[ZC,ZC,h 0 (lZ _),Zx n _ _ λt j=>h (t+1) (im j)]
theorem YZ:∀(n:Nat) (f:Nat->Int),(∀t,t<n->f t=0)->ZC n f=0
 |0,f,h=>rfl
 |n+1,f,h=>by rw[ZC,h 0 (lZ _),YZ n _ λt j=>h (t+1) (im j),bU]
theorem WP:∀(n j:Nat) (f:Nat->Int),j<n->(∀t,t<n->t≠j->f t=0)->ZC n f=f j
 |0,j,f,J,h=>absurd J (gh _)
 |n+1,0,f,J,h=>by rw[ZC,YZ n _ λt M=>h (t+1) (im M) (jU _),bU]
 |n+1,j+1,f,J,h=>by
  rw[ZC,h 0 (lZ _) (jU _).symm,cO];exact WP n j (λt=>f (t+1)) (cC J) λt M O=>h (t+1) (im M) λz=>O (c8 z)
theorem Jn:∀(n:Nat) (f g:Nat->Int),ZC n (λt=>f t-g t)=ZC n f-ZC n g
 |0,f,g=>rfl
 |n+1,f,g=>by
  rw[ZC,ZC,ZC,Jn n (λt=>f (t+1)) λt=>g (t+1)];omega
theorem ZfY (j:Nat):∀(R:TZ) (a:TX),co (Jl a R) j=ZC R.length λt=>co a t*co (ro R t) j
 | [],a=>by rw[Jl,Y8];rfl
 |r::J,a=>by
  rw[ZZ,ZfY j J a.tail,Zi,ZC,ZbW];congr 1;refine Zx _ _ _ λt M=>?_;rw[Zl4,ZbX]
def YR (n k:Nat):TX:=(ac n).map λt=>if t=k then 1 else 0
theorem Xp {n k t:Nat}(h:t<n):co (YR n k) t=if t=k then 1 else 0:=by
 unfold YR co;rw[Zb,Zc,ao h];rfl
def stN (step:Nat):TX->Nat->TX->TX
 | [],_,ZI=>ZI
 |x::j,k,ZI=>stN step j (k+1) (ZI.set (k*step) x)
def stM (j:TX)(step:Nat):TX:=stN step j 0 (am ((j.length-1)*step+1) 0)
theorem Zfi (step:Nat):∀(j:TX) (k:Nat) (ZI:TX),(stN step j k ZI).length=ZI.length
 | [],k,ZI=>rfl
 |x::J,k,ZI=>by rw[stN,Zfi step J,aY]
theorem Zfj (j:TX)(step:Nat):(stM j step).length=(j.length-1)*step+1:=by unfold stM;rw[Zfi,Ze]
def qIn:TX->Nat->Int->TX->TX
 | [],_,_,rest=>rest
 |d::j,b,c,rest=>qIn j (b+1) c (rest.set b (co rest b-c*d))
theorem ZfJ:∀(ds:TX) (b:Nat) (c:Int) (rest:TX),(qIn ds b c rest).length=rest.length
 | [],b,c,rest=>rfl
 |d::ds,b,c,rest=>by rw[qIn,ZfJ ds,aY]
def ZiH (ds:TX)(top:Nat):Nat->TX->TX->TX
 |0,found,_=>found
 |k+1,found,rest=>ZiH ds top k (found.set k (co rest (k+top))) (qIn ds k (co rest (k+top)) rest)
def ZfH (j ds:TX):TX:=ZiH ds (ds.length-1) (j.length-(ds.length-1)) (am (j.length-(ds.length-1)) 0) j
theorem Zj3 {a:TX}{i k:Nat}{v:Int}:co (a.set i v) k=if i=k/\i<a.length then v else co a k:=by
 unfold co;rw[Zb,jw,Zb];by_cases h:i=k
 ·subst h
  by_cases j:i<a.length
  ·rw[if_pos rfl,if_pos j,if_pos ⟨rfl,j⟩];rfl
  ·rw[if_pos rfl,if_neg j,if_neg λz=>j z.2,ag (by omega)]
 ·rw[if_neg h,if_neg λz=>h z.1]
theorem Zex (c:Int):∀(ds:TX) (b:Nat) (rest:TX) (i:Nat),b+ds.length<=rest.length->co (qIn ds b c rest) i=if b<=i/\i<b+ds.length then co rest i-c*co ds (i-b) else co rest i
 | [],b,rest,i,h=>by rw[qIn,if_neg (by rw[iC];omega)]
 |d::ds,b,rest,i,h=>by
  rw[Zi] at h ⊢;rw[qIn,Zex c ds (b+1) _ i (by rw[aY];omega),Zj3];by_cases j:i=b
  ·subst j
   rw[if_neg (by omega),if_pos ⟨rfl,by omega⟩,if_pos ⟨Zq _,by omega⟩,cS,YM]
  ·rw[if_neg (show ¬(b=i/\b<rest.length) from λz=>j z.1.symm)]
   by_cases J:b+1<=i/\i<b+1+ds.length
   ·rw[if_pos J,if_pos ⟨by omega,by omega⟩,show i-b=(i-(b+1))+1 by omega,Wc]
   ·rw[if_neg J,if_neg (by omega)]
theorem Zjj (d:Int)(ds:TX)(R:TZ)(b j:Nat):co (Jl (d::ds) (R.drop b)) j=d*co (ro R b) j+co (Jl ds (R.drop (b+1))) j:=by
 by_cases h:b<R.length
 ·rw[b8 h,ZZ,YM,dw]
  congr 2;unfold ro;rw[Zb,Zf h];rfl
 ·rw[fN (by omega),fN (by omega)]
  unfold ro;rw[Zb,ag (by omega)];show co (Jl (d::ds) []) j=d*co [] j+co (Jl ds []) j;rw[Jl,Jl,Y8,bc,bU]
theorem ZfZ (c:Int)(R:TZ)(j:Nat):∀(ds:TX) (b:Nat) (rest:TX),b+ds.length<=rest.length->co (Jl (qIn ds b c rest) R) j=co (Jl rest R) j-c*co (Jl ds (R.drop b)) j
 | [],b,rest,h=>by rw[qIn,Vk,bc,l9]
 |d::ds,b,rest,h=>by
  rw[Zi] at h;rw[qIn,ZfZ c R j ds (b+1) _ (by rw[aY];omega),Zch j _ rest b R (by omega),Zjj,mM];have e:(co rest b-c*d-co rest b)*co (ro R b) j=- (c*(d*co (ro R b) j)):=by
   rw[show co rest b-c*d-co rest b=-(c*d) by omega,gR,aR]
  rw[e];omega
def XN (s:TX×Int)(p:Int):TX×Int:=(ZfH (stM s.1 p.toNat) s.1,s.2*p)
def Wr (n:Nat)(j:TX):TX:=stM (j.foldl XN ([-1,1],1)).1 ((n:Int) / (j.foldl XN ([-1,1],1)).2).toNat
def small (a:TX):Bool:=a.all λx=>decide (x.natAbs<=100)
def ZlI (s:TX×Int):Bool:=small s.1 && decide (2<=s.1.length) && decide (s.1.length<=61) && decide (1<=s.2) && decide (s.2<=60)
def Vj (s:TX×Int):TX->Bool
 | []=>ZlI s
 |p::j=>ZlI s && decide (2<=p) && decide (p<=60) && Vj (XN s p) j
def WE (j:TX)(top:Nat)(r:TX):TX:=ZaF (0::r.take (top-1)) (vsc (- co r (top-1)) (j.take top))
def Z5 (j:TX)(top:Nat):Nat->TX->TZ
 |0,_=>[]
 |m+1,r=>r::Z5 j top m (WE j top r)
def RT (n:Nat)(j:TX):TZ:=Z5 (Wr n j) ((Wr n j).length-1) n (YR ((Wr n j).length-1) 0)
def Zma (a:TX):Bool:=a.all λx=>x == 0
def UH (n:Nat)(j:TX):TY:=j.map λp=>n / p.toNat
def X1 (n:Nat)(R:TZ)(j s:Nat):Nat->TX
 |0=>[]
 |m+1=>ZaF (X1 n R j s m) (ro R ((j+m*s) % n))
theorem Zcv {a:TX}(h:Zma a=true)(i:Nat):co a i=0:=by
 by_cases j:i<a.length
 ·have:=Z9 j
  have J:=ax.mp h _ (ah this);simpa using J
 ·exact J9 (by omega)
theorem Zao {a:TX}(h:small a=true)(i:Nat):(co a i).natAbs<=100:=by
 by_cases j:i<a.length
 ·have:=Z9 j
  have J:=ax.mp h _ (ah this);simpa using J
 ·rw[J9 (by omega)];decide
structure Good (n:Nat)(ps least:TX)(top:Nat)(R:TZ):Prop where
 n1:1<=n
 ls:Vj ([-1,1],1) ps=true
 l2:least.length=top+1
 t1:1<=top
 tn:top<=n
 sm:small least=true
 mon:co least top=1
 len:R.length=n
 rsm:∀i j,(co (ro R i) j).natAbs<=100
 rlen:∀i,i<n->(ro R i).length=top
 un:∀k,k<top->ro R k=YR top k
 tails:∀m,m<n-top->∀j,co (Jl least (R.drop m)) j=0
 look:∀k,k<n->∀t,t<n->lks n (UH n ps) (λt=>co (ro R k) t-if t=k then 1 else 0) t=0
 row:∀p∈ps,∀a,a<n->∀j,co (X1 n R a (n / p.toNat) p.toNat) j=0
 nz:∀k,k<n->∃j,j<top/\co (ro R k) j≠0
 div:∀p∈ps,p.toNat*(n / p.toNat)=n
theorem ZpK {R:TZ}{i:Nat}(h:R.length<=i):ro R i=[]:=by
 unfold ro;rw[Zb,ag h];rfl
def Zqo {β:Type}(x:Int)(k:Int->β):β:=match x with
 | .ofNat m=>(match m with
  |0=>k (.ofNat 0)
  |m+1=>k (.ofNat (m+1)))
 | .negSucc m=>(match m with
  |0=>k (.negSucc 0)
  |m+1=>k (.negSucc (m+1)))
theorem ZlW {β:Type}(x:Int)(k:Int->β):Zqo x k=k x:=by
 cases x with
 |ofNat m=>cases m <;> rfl
 |negSucc m=>cases m <;> rfl
def fL {β:Type}:TX->(TX->β)->β
 | [],k=>k []
 |x::j,k=>Zqo x λy=>fL j λJ=>k (y::J)
theorem Zbd {β:Type}:∀(a:TX) (k:TX->β),fL a k=k a
 | [],k=>rfl
 |x::j,k=>by rw[fL,ZlW,Zbd j]
def nx (j:TX)(top:Nat):Nat->TX->TX
 |0,r=>r
 |m+1,r=>nx j top m (WE j top r)
def nxB (j:TX)(top:Nat):Nat->TX->(TX->Bool)->Bool
 |0,r,k=>k r
 |m+1,r,k=>fL (WE j top r) λJ=>nxB j top m J k
theorem Zi9 (j:TX)(top:Nat):∀(m:Nat) (r:TX) (k:TX->Bool),nxB j top m r k=k (nx j top m r)
 |0,r,k=>rfl
 |m+1,r,k=>by rw[nxB,Zbd,Zi9 j top m,nx]
def ZfB (j:TX)(top:Nat):Nat->Nat->TX->Bool
 |0,_,r=>decide (r=YR top 0)
 |m+1,k,r=>small r && decide (r.length=top) && (decide (top<=k) || decide (r=YR top k)) && fL (WE j top r) (ZfB j top m (k+1))
def ZkE (J:TX)(top s:Nat):Nat->TX->TX->Bool
 |0,_,ZI=>Zma ZI
 |j+1,r,ZI=>fL (ZaF ZI r) λM=>nxB J top s r λO=>ZkE J top s j O M
def ZoF (n:Nat)(J:TX)(j:TX)(top:Nat):Bool:=
 decide (2<=j.length) && decide (top+1<=n\/(n=1/\top=1)) && small j && decide (co j top=1) && ZfB j top n 0 (YR top 0) && Zma (Jl j (Z5 j top (top+1) (YR top 0))) &&
  (decide (n=1) || Zma (Zn8 n (UH n J) (j++am (n-(top+1)) 0))) && J.all (λp=>decide (p.toNat*(n / p.toNat)=n) && ZkE j top (n / p.toNat) p.toNat (YR top 0) [])
def chk (n:Nat)(J:TX):Bool:=Vj ([-1,1],1) J && fL (Wr n J) λj=>ZoF n J j (j.length-1)
theorem UR (j:TX)(top:Nat):∀(m:Nat) (r:TX),(Z5 j top m r).length=m
 |0,r=>rfl
 |m+1,r=>by rw[Z5,Zi,UR j top m]
theorem W3 (j:TX)(top:Nat):∀(m:Nat) (r:TX),nx j top (m+1) r=WE j top (nx j top m r)
 |0,r=>rfl
 |m+1,r=>by rw[nx,W3 j top m (WE j top r),nx]
theorem Zi8 (j:TX)(top a:Nat):∀(b:Nat) (r:TX),nx j top (a+b) r=nx j top b (nx j top a r)
 |0,r=>rfl
 |b+1,r=>by rw[Nat.add_succ,W3,W3,Zi8 j top a b r]
theorem Um (j:TX)(top:Nat):∀(m:Nat) (r:TX) (k:Nat),k<m->ro (Z5 j top m r) k=nx j top k r
 |0,r,k,h=>absurd h (gh _)
 |m+1,r,0,h=>by rw[Z5,ZbW,nx]
 |m+1,r,k+1,h=>by rw[Z5,ZbX,Um j top m _ k (cC h),nx]
theorem US (j:TX)(top:Nat):∀(m k:Nat) (r:TX),ZfB j top m k r=true->
  nx j top m r=YR top 0/\∀i,i<m->small (nx j top i r)=true/\(nx j top i r).length=top/\(k+i<top->nx j top i r=YR top (k+i))
 |0,k,r,h=>⟨of_decide_eq_true h,λi M=>absurd M (gh _)⟩
 |m+1,k,r,h=>by
  rw[ZfB,Zbd] at h;simp only[ae,decide_eq_true_eq,bg] at h;obtain⟨⟨⟨O,U⟩,J⟩,Y⟩:=h;obtain⟨g1,g2⟩:=US j top m (k+1) _ Y;refine⟨by rw[nx];exact g1,λi M=>?_⟩;cases i with
  |zero=>
   refine⟨O,U,λz=>?_⟩;rcases J with J|J
   ·omega
   ·exact J
  |succ i=>
   obtain⟨q1,q2,q3⟩:=g2 i (cC M);rw[nx];exact⟨q1,q2,λz=>by rw[q3 (by omega)];congr 1;omega⟩
theorem JH (j:TX)(top:Nat)(r:TX)(i:Nat):co (WE j top r) i=(if i=0\/top<=i then 0 else co r (i-1))-co r (top-1)*co (j.take top) i:=by
 have e:co (0::r.take (top-1)) i=if i=0\/top<=i then 0 else co r (i-1):=by
  cases i with
  |zero=>rw[YM,if_pos (.inl rfl)]
  |succ i=>
   rw[Wc,dO];by_cases h:i<top-1
   ·rw[if_neg (by omega)]
    unfold co;rw[Zb,Zb,jc,if_pos h]
   ·rw[if_pos (by omega)]
    exact J9 (by rw[bE];omega)
 unfold WE;rw[Vv,Ze0,e,gR];omega
theorem VJ (j:TX)(top:Nat){r:TX}(h:∀i,co r i=0)(i:Nat):co (WE j top r) i=0:=by
 rw[JH,h,h,bC];split <;> rfl
theorem Zdo (j:TX)(top:Nat)(i:Nat):∀(Q:TZ) (a:TX),co (WE j top (Jl a Q)) i=co (Jl a (Q.map (WE j top))) i
 | [],a=>by
  rw[fK];refine (VJ j top (λt=>?_) i).trans ?_
  ·rw[Jl];exact Y8 t
  ·rw[Jl];exact (Y8 i).symm
 |q::J,a=>by
  rw[aB,ZZ,<-Zdo j top i J a.tail,JH,JH,JH,ZZ,ZZ];by_cases h:i=0\/top<=i
  ·rw[if_pos h,if_pos h,if_pos h,kc,f9,aR]
   omega
  ·rw[if_neg h,if_neg h,if_neg h,kc,f9,aR]
   omega
theorem Zc4 (j:TX)(top:Nat):∀(m:Nat) (r:TX),(Z5 j top m r).map (WE j top)=Z5 j top m (WE j top r)
 |0,r=>rfl
 |m+1,r=>by rw[Z5,aB,Zc4 j top m,Z5]
theorem Zdz (J:TX)(top j:Nat):∀(a:TX) (m:Nat) (r:TX),a.length<=m->co (Jl a (Z5 J top m r)) j=co (Jl a (Z5 J top a.length r)) j
 | [],m,r,h=>by rw[Vk,Vk]
 |x::a,0,r,h=>absurd h (Nat.not_succ_le_zero _)
 |x::a,m+1,r,h=>by
  rw[Zi,Z5,Z5,ZZ,ZZ,dw,Zdz J top j a m _ (Nat.le_of_succ_le_succ h)]
theorem Zbf (j:TX)(top:Nat):∀(b m:Nat) (r:TX),(Z5 j top m r).drop b=Z5 j top (m-b) (nx j top b r)
 |0,m,r=>by rw[iO,dJ,nx]
 |b+1,0,r=>by rw[Nat.zero_sub,Z5,Z5,List.drop_nil]
 |b+1,m+1,r=>by rw[Z5,List.drop_succ_cons,Zbf j top b m,nx,Nat.add_sub_add_right]
theorem ZcO (J:TX)(top:Nat){r:TX}(h:∀j,co (Jl J (Z5 J top J.length r)) j=0):∀(m j:Nat),co (Jl J (Z5 J top J.length (nx J top m r))) j=0
 |0,j=>h j
 |m+1,j=>by
  rw[W3,<-Zc4,<-Zdo];exact VJ J top (λi=>ZcO J top h m i) j
theorem Zfh (J:TX)(top s:Nat):∀(j:Nat) (r ZI:TX),ZkE J top s j r ZI=true->∀i,co ZI i+ZC j (λt=>co (nx J top (t*s) r) i)=0
 |0,r,ZI,h,i=>by rw[ZC,bU];exact Zcv h i
 |j+1,r,ZI,h,i=>by
  rw[ZkE,Zbd,Zi9] at h;have:=Zfh J top s j _ _ h i;rw[Vv] at this;rw[ZC,gt,nx];have e:(ZC j λt=>co (nx J top ((t+1)*s) r) i)=ZC j λt=>co (nx J top (t*s) (nx J top s r)) i:=by
   refine Zx _ _ _ λt _=>?_;rw[<-Zi8,cz,jF]
  rw[e];omega
theorem Zan (n:Nat)(R:TZ)(a s i:Nat):∀m:Nat,co (X1 n R a s m) i=ZC m λt=>co (ro R ((a+t*s) % n)) i
 |0=>by rw[X1,Y8];rfl
 |m+1=>by
  have j:∀(m:Nat) (f:Nat->Int),ZC (m+1) f=ZC m f+f m:=by
   intro m;induction m with
   |zero=>intro f;rw[ZC,ZC,ZC];omega
   |succ m J=>
    intro f;rw[ZC,J,ZC];omega
  rw[X1,Vv,Zan n R a s i m,j]
theorem Zn9 (n s:Nat)(j:0<n)(g:Nat->Int)(t:Nat):lk n s (λt=>g ((t+(n-1)) % n)) t=lk n s g ((t+(n-1)) % n):=by
 unfold lk;have e:((t+(n-s)) % n+(n-1)) % n=((t+(n-1)) % n+(n-s)) % n:=by
  rw[fv,fv];congr 1;omega
 show g ((t+(n-1)) % n)-g (((t+(n-s)) % n+(n-1)) % n)=_;rw[e]
theorem ZfV (n:Nat)(J:0<n):∀(j:TY) (g:Nat->Int) (t:Nat),lks n j (λt=>g ((t+(n-1)) % n)) t=lks n j g ((t+(n-1)) % n)
 | [],g,t=>rfl
 |s::j,g,t=>by
  show lks n j (lk n s λt=>g ((t+(n-1)) % n)) t=lks n j (lk n s g) ((t+(n-1)) % n);rw[<-ZfV n J j (lk n s g) t];congr 1;funext u;exact Zn9 n s J g u
theorem ZlS {n:Nat}{Y:TX}(n1:1<=n)(h:chk n Y=true):Good n Y (Wr n Y) ((Wr n Y).length-1) (RT n Y):=by
 unfold chk at h;rw[ae,Zbd] at h;obtain⟨a1,h⟩:=h;unfold RT;generalize Wr n Y=J at h ⊢;generalize O:J.length-1=top at h ⊢;unfold ZoF at h;simp only[ae,bg,decide_eq_true_eq,ax] at h;obtain⟨⟨⟨⟨⟨⟨⟨h1,h2⟩,h3⟩,h4⟩,h5⟩,h6⟩,h7⟩,h8⟩:=h;have ll:J.length=top+1:=by omega
 obtain⟨o0,rr⟩:=US J top n 0 _ h5;have M:∀k,k<n->ro (Z5 J top n (YR top 0)) k=nx J top k (YR top 0):=λk U=>Um J top n _ k U;have tl:∀m j,co (Jl J (Z5 J top J.length (nx J top m (YR top 0)))) j=0:=λm j=>ZcO J top (λj=>by rw[ll];exact Zcv h6 j) m j;have t1:1<=top:=by omega
 have tn:top<=n:=by omega
 have u0:∀i,co (YR top 0) i=if i=0 then 1 else 0:=λi=>by
  by_cases hi:i<top
  ·exact Xp hi
  ·rw[J9 (by unfold YR;rw[Za,Zg];omega),if_neg (by omega)]
 have nxt:∀k,nx J top ((k+1) % n) (YR top 0)=WE J top (nx J top (k % n) (YR top 0)):=λk=>by
  rw[<-W3];have U:=bX k (show n > 0 by omega);by_cases hc:k % n+1<n
  ·rw[<-fv,bf hc]
  ·have e:k % n+1=n:=by omega
   rw[<-fv,e,l5,o0,nx]
 refine⟨n1,a1,ll,t1,tn,h3,h4,UR ..,λi j=>?_,λi hi=>by rw[M i hi];exact (rr i hi).2.1,λk U=>?_,λm hm j=>?_,?_,λp hp a ha j=>?_,λk U=>?_,λp hp=>(h8 p hp).1⟩
 ·by_cases hi:i<n
  ·rw[M i hi]
   exact Zao (rr i hi).1 j
  ·rw[ZpK (by rw[UR];omega),Y8];decide
 ·rw[M k (by omega)]
  have:=(rr k (by omega)).2.2 (by omega);rw[this,gu]
 ·rw[Zbf,Zdz J top j J _ _ (by omega)]
  exact tl m j
 ·
  have base:∀t,t<n->top+1<=n->lks n (UH n Y) (co J) t=0:=λt O h2=>by
   have h7:=h7.resolve_left (by omega);have e:=Zgj (n:=n) (UH n Y) (J++am (n-(top+1)) 0) (by rw[Zd,Ze];omega) t O;rw[Zcv h7 t] at e;refine Eq.trans (Js n (by omega) _ _ _ (λs hs=>?_) t O) e.symm;unfold co;rw[Zb,Zb,List.getElem?_append];by_cases o5:s<J.length
   ·rw[if_pos o5]
   ·rw[if_neg o5,ag (by omega),cP]
    split <;> rfl
  intro k;induction k with
  |zero=>
   intro U t O;refine Eq.trans (Js n (by omega) _ _ (λ_=>0) (λs hs=>?_) t O) (Zdy n _ t);rw[M 0 U,nx,u0];split <;> rfl
  |succ k ih=>
   intro U t O;have o8:top+1<=n:=by omega
   have o9:=ih (by omega);have hl:(nx J top k (YR top 0)).length=top:=(rr k (by omega)).2.1;have e:∀s,s<n->co (ro (Z5 J top n (YR top 0)) (k+1)) s-(if s=k+1 then 1 else 0) =
     (λs=>(λt=>co (ro (Z5 J top n (YR top 0)) k) t-if t=k then 1 else 0) ((s+(n-1)) % n)) s+(- co (nx J top k (YR top 0)) (top-1))*co J s:=λs hs=>by
    rw[M (k+1) U,M k (by omega),W3,JH];have ct:co (J.take top) s=if s<top then co J s else 0:=by
     by_cases h:s<top
     ·rw[if_pos h]
      unfold co;rw[Zb,Zb,jc,if_pos h]
     ·rw[if_neg h]
      exact J9 (by rw[bE];omega)
    rw[ct];show _=co (nx J top k (YR top 0)) ((s+(n-1)) % n)-(if (s+(n-1)) % n=k then 1 else 0)+(- co (nx J top k (YR top 0)) (top-1))*co J s
    cases s with
    |zero=>
     have e0:(0+(n-1)) % n=n-1:=by rw[gu];exact bf (by omega)
     have c1:¬(0=k+1):=by omega
     have c2:¬(n-1=k):=by omega
     have c3:0<top:=t1;rw[e0,if_pos (.inl rfl),if_pos c3,if_neg c1,if_neg c2,J9 (a:=nx J top k (YR top 0)) (i:=n-1) (by omega),gR];omega
    |succ s=>
     have e1:(s+1+(n-1)) % n=s:=by
      rw[show s+1+(n-1)=s+n by omega,n4,bf (by omega)]
     rw[e1,dO];have ei:(if s+1=k+1 then (1:Int) else 0)=if s=k then 1 else 0:=by
      by_cases z:s=k
      ·rw[if_pos z,if_pos (by omega)]
      ·rw[if_neg z,if_neg (by omega)]
     rw[ei,gR];by_cases c1:s+1<top
     ·rw[if_neg (by omega),if_pos c1]
      omega
     ·rw[if_pos (.inr (by omega)),if_neg c1,bc]
      by_cases c2:s+1=top
      ·have:co J (s+1)=1:=by rw[c2];exact h4
       rw[this,show top-1=s by omega,eR];omega
      ·rw[J9 (a:=J) (by omega),J9 (a:=nx J top k (YR top 0)) (i:=s) (by omega),bc]
       omega
   rw[Js n (by omega) _ _ _ e t O,ZfW n _ (λs=>(λt=>co (ro (Z5 J top n (YR top 0)) k) t-if t=k then 1 else 0) ((s+(n-1)) % n)) (λs=>(- co (nx J top k (YR top 0)) (top-1))*co J s) t,ZfV n (by omega) _ (λt=>co (ro (Z5 J top n (YR top 0)) k) t-if t=k then 1 else 0) t,Zji,base t O o8,
    o9 _ (bX _ (by omega)),bc,bU]
 ·
  rw[Zan];have hb:=Zfh J top (n / p.toNat) p.toNat _ _ (h8 p hp).2;have hd:=(h8 p hp).1;have p6:∀a,a<n->∀i,(ZC p.toNat λt=>co (nx J top ((a+t*(n / p.toNat)) % n) (YR top 0)) i)=0:=by
   intro a;induction a with
   |zero=>
    intro _ i;have:=hb i;rw[Y8,cO] at this;rw[<-this];refine Zx _ _ _ λt O=>?_;have:t*(n / p.toNat)<n:=by
     have:t*(n / p.toNat)+(n / p.toNat)<=p.toNat*(n / p.toNat):=by
      rw[<-cz];exact cv _ O
     have p8:0<n / p.toNat:=by
      rcases Nat.eq_zero_or_pos (n / p.toNat) with z|z
      ·rw[z,Nat.mul_zero] at hd;omega
      ·exact z
     omega
    rw[gu,bf this]
   |succ a ih=>
    intro ha i;have o6:=ih (by omega);have e:(ZC p.toNat λt=>co (nx J top ((a+1+t*(n / p.toNat)) % n) (YR top 0)) i)=ZC p.toNat λt=>co (WE J top (nx J top ((a+t*(n / p.toNat)) % n) (YR top 0))) i:=by
     refine Zx _ _ _ λt _=>?_;rw[show a+1+t*(n / p.toNat)=a+t*(n / p.toNat)+1 by omega,nxt]
    have o7:∀(m:Nat) (f g:Nat->Int) (c:Int),ZC m (λt=>f t-g t*c)=ZC m f-ZC m g*c:=by
     intro m;induction m with
     |zero=>intro f g c;simp[ZC]
     |succ m ih=>intro f g c;rw[ZC,ZC,ZC,ih (λt=>f (t+1)) (λt=>g (t+1)) c,kc];omega
    rw[e];simp only[JH];rw[o7 _ (λt=>if i=0\/top<=i then 0 else co (nx J top ((a+t*(n / p.toNat)) % n) (YR top 0)) (i-1)) (λt=>co (nx J top ((a+t*(n / p.toNat)) % n) (YR top 0)) (top-1)),o6 (top-1),bC,l9]
    by_cases hc:i=0\/top<=i
    ·simp only[if_pos hc]
     exact YZ _ _ λ_ _=>rfl
    ·simp only[if_neg hc]
     exact o6 (i-1)
  rw[<-p6 a ha j];refine Zx _ _ _ λt O=>?_;rw[M _ (bX _ (by omega))]
 ·
  apply ak;intro hz;have z0:∀j,co (nx J top k (YR top 0)) j=0:=λj=>by
   by_cases hj:j<top
   ·apply ak
    intro p7;exact hz ⟨j,hj,by rw[M k U];exact p7⟩
   ·exact J9 (by rw[(rr k U).2.1];omega)
  have all:∀d j,co (nx J top (k+d) (YR top 0)) j=0:=by
   intro d;induction d with
   |zero=>exact z0
   |succ d ih=>intro j;rw[<-Nat.add_assoc,W3];exact VJ J top ih j
  have:=all (n-k) 0;rw[show k+(n-k)=n by omega,o0,u0,if_pos rfl] at this;cases this
def Jg (n top:Nat)(R:TZ)(J:TX):TX:=(ac top).map λj=>sig n R j J 0
theorem WV (n top:Nat)(R:TZ)(j:TX):(Jg n top R j).length=top:=by unfold Jg;rw[Za,Zg]
theorem Zgi {n top:Nat}{R:TZ}{J:TX}{j:Nat}(h:j<top):co (Jg n top R J) j=sig n R j J 0:=by
 unfold Jg co;rw[Zb,Zc,ao h];rfl
theorem J5 {a b:TX}(h:a.length=b.length)(e:∀j,j<a.length->co a j=co b j):a=b:=by
 refine a6 λi=>?_;by_cases J:i<a.length
 ·rw[Z9 J,Z9 (by omega),e i J]
 ·rw[ag (by omega),ag (by omega)]
section
variable {n:Nat}{ps least:TX}{top:Nat}{R:TZ}(G:Good n ps least top R)
include G
theorem ZiB {cur:TX}{k:Nat}(J:cur.length=n)(M:k<n)(O:top<=k):(qIn least (k-top) (co cur k) cur).length=n/\(∀j,co (Jl (qIn least (k-top) (co cur k) cur) R) j=co (Jl cur R) j)/\
  co (qIn least (k-top) (co cur k) cur) k=0/\∀t,k<t->co (qIn least (k-top) (co cur k) cur) t=co cur t:=by
 have hb:k-top+least.length<=cur.length:=by rw[G.l2,J];omega
 have U:=G.l2;refine⟨by rw[ZfJ,J],λj=>?_,?_,λt Y=>?_⟩
 ·rw[ZfZ _ _ _ _ _ _ hb,G.tails (k-top) (by omega) j,bc,l9]
 ·rw[Zex _ _ _ _ _ hb,if_pos ⟨by omega,by omega⟩,show k-(k-top)=top by omega,G.mon,eR,iD]
 ·rw[Zex _ _ _ _ _ hb,if_neg (by omega)]
theorem ZkV {cur f:TX}(hl:cur.length=n)(hz:∀t,top<=t->co cur t=0)(hP:∀j,co (Jl cur R) j=co (Jl f R) j)(qs:TX)(hf:f=ZdJ n qs):cur.take top=Jg n top R qs:=by
 have J:(cur.take top).length=top:=by rw[bE,hl];have:=G.tn;omega
 refine J5 (by rw[J,WV]) λj M=>?_;rw[J] at M;have O:0<n:=G.n1;rw[Zgi M,<-Zg4 n O,<-hf,<-hP j,ZfY];have U:j<n:=aE M G.tn;rw[WP _ j _ (by rw[G.len];exact U) λt ht Y=>?_]
 ·rw[G.un j M,Xp M,if_pos rfl,eR]
  unfold co;rw[Zb,Zb,jc,if_pos M]
 ·by_cases h:t<top
  ·rw[G.un t h,Xp M,if_neg (bV Y),bc]
  ·rw[hz t (by omega),bC]
end
section
variable {n:Nat}{ps least:TX}{top:Nat}{R:TZ}(G:Good n ps least top R)
include G
end
end Num
set_option maxHeartbeats 4000000
namespace N30
open PySem L2 PySem.Spec PyProof.Rows
open Num
structure Bl2 (mg:TV):Prop where
 enumerate:mg "enumerate"=none
 max:mg "max"=none
theorem Zcn {a:TX}{i:Nat}(h:i<a.length):Xy (a.map V.int) (i:Int)=some (.int (co a i)):=ZR (by rw[Zc,Z9 h];rfl)
theorem Jx (a:TX)(i:Nat)(v:Int):(a.map V.int).set i (V.int v)=(a.set i v).map V.int:=by rw[lF]
theorem Ys {a:TX}{i:Nat}{y:V}(h:(a.map V.int)[i]?=some y):i<a.length/\y=.int (co a i):=by
 rw[Zc] at h;by_cases j:i<a.length
 ·rw[Z9 j] at h
  exact⟨j,(aA h).symm⟩
 ·rw[ag (by omega)] at h
  cases h
theorem JE {n i:Nat}(h:i<n):ixN n (i:Int)=some i:=by
 unfold ixN;rw[if_pos (gF _),if_pos (by omega),Zj]
theorem Zeu (m:Nat):(am m [V.int 0]).flatten=(am m (0:Int)).map V.int:=UW m
theorem Vo {X:Cx}:ZoV X (λx y H Q=>∃(p:Addr) (xs:TR) (i:Nat) (v:V),x=.ref p/\y=.int i/\H p=some (.lst xs)/\xs[i]?=some v/\Q v H):=by
 intro J s σ H x y O iv Q I U Y h;obtain⟨p,xs,i,v,rfl,rfl,hp,M,q⟩:=h;cases (show O=aQ p from U);obtain⟨t,rfl⟩:=Y;obtain⟨o0,r,pl,hz⟩:=I.list (.of hp);obtain⟨w,ew,j⟩:=r.get M;have hl:=r.length;have hn:=VN;have hi:i<xs.length:=(ab.mp M).1;exact wpAny_getItem_list pl.isList (gF _) (by omega) (by simpa using ew) ⟨v,H,I,j,q⟩
inductive ZhY (K:aa) (vs:TR) (H:Hp) (Q:VK) (E03:XK):Prop
 |mk (a:Addr) (ps:TX) (st:Nat):(vs=[.ref a,.int st])->(WZ K H a (ps.map V.int))->(1<=ps.length)->((ps.length-1)*st<=100000)->(ps.length<=1000)->(st<=1000)->(∀l H',Same H H'->H' l=some (.lst ((stM ps st).map V.int))->Q (.ref l) H')->ZhY K vs H Q E03
theorem ZnO (F:Wf K "stretched" "stretched" (tq 16) f fd)(T:Bl mg)(T2:Bl2 mg):ZW P w K mg base ZY 1 f fd ["powers", "step"] (ZhY K):=by
 refine F.ok (FS (N:=["powers", "step", "wide", "k", "x"])) (λvs H Q E h=>?_) (λo6 A o0 s H vs Q E hr h=>?_)
 ·obtain⟨a,j,st,rfl,_⟩:=h;rfl
 ·obtain⟨a,j,st,rfl,hS,hl,hb,o7,o8,q⟩:=h
  refine⟨_,Zu (ZK 2 rfl (Zz WU (ZS (pc Zw Zs)) (Zz YD (Zz Z0 (Zz Y3 (cb (YL K) T.len (pc (vn 0) Zs)) Zw) (vn 1)) Zw)))
   (Zu (ZV au rfl (V3 K T2.enumerate (pc (vn 0) Zs)) (g2 K 3 4 rfl (gn 3) (gn 4))
    (Zv (UY (vn 4) (U2 (vn 2) (Zz Z0 (vn 3) (vn 1)) YT))))
   (Zv (ZE (vn 2)))),?_⟩
  refine⟨JL,λl0 n0=>?_⟩;have s0:Same H (upd H l0 (.lst [.int 0])):=Same.upd n0;refine⟨_,rfl,a,_,rfl,.inl (s0.seq hS),_,_,rfl,rfl,_,rfl,_,_,rfl,rfl,.inl ⟨?_,?_⟩,_,_,rfl,rfl,l0,_,_,rfl,rfl,Zt,?_,?_,?_,λl nl=>?_⟩
  ·rw[Za];omega
  ·rw[Za];omega
  ·rw[Za];have:(0:Int)<=((j.length:Int)-1)*st:=Int.mul_nonneg (by omega) (by omega);omega
  ·rw[Za]
   have:((j.length:Int)-1)*st=(((j.length-1)*st:Nat):Int):=by rw[aW];congr 1;omega
   omega
  ·rw[Za]
   have:((j.length:Int)-1)*st=(((j.length-1)*st:Nat):Int):=by rw[aW];congr 1;omega
   rw[this];show 1*_<=sizeLine;have e:=Jv;omega
  have eN:(((j.map V.int).length:Int)-1)*st+1=(((j.length-1)*st+1:Nat):Int):=by
   rw[Za,Int.natCast_add,aW];congr 2;omega
  rw[eN,Zj,Zeu];have o5:H l=none:=s0.free nl;have s1:=s0.trans (Same.upd (o:=.lst ((am ((j.length-1)*st+1) (0:Int)).map V.int)) nl);refine⟨_,rfl,a,rfl,.inl ⟨⟨_,s1.seq hS⟩,?_⟩⟩;refine YW Zah (λi O Y=>∃(J:TX) (v3 v4:TQ),O=[some (.ref a),some (.int st),some (.ref l),v3,v4]/\Same H Y/\Y l=some (.lst (J.map V.int))/\J.length=(j.length-1)*st+1/\stN st (j.drop i) i J=stM j st)
   ⟨_,_,_,rfl,s1,Zt,cJ ..,rfl⟩ (λi O Y h=>h.choose_spec.choose_spec.choose_spec.2.1.seq hS) ?_ ?_
  ·rintro i y O Y T' hy ⟨J,v3,v4,rfl,sm,U,hlen,M⟩ nT
   obtain⟨hi,rfl⟩:=Ys hy;refine⟨T',_,rfl,.of Zt,rfl,_,_,rfl,_,_,rfl,rfl,_,rfl,_,rfl,_,rfl,_,rfl,_,_,rfl,rfl,.inl ⟨by omega,by omega⟩,l,_,_,i*st,rfl,rfl,Same.upd nT _ _ U,?_,?_⟩
   rotate_left
   ·have o9:i*st<J.length:=by
     rw[hlen];have:i*st<=(j.length-1)*st:=cv _ (by omega);omega
    refine⟨J.set (i*st) (co j i),_,_,rfl,(sm.trans (Same.upd nT)).updr o5,?_,?_,?_⟩
    ·rw[Zt,Jx]
    ·rw[aY];exact hlen
    ·rw[<-M]
     have:j.drop i=co j i::j.drop (i+1):=by
      rw[b8 hi];congr 1;have:=Z9 hi;rw[Zf hi] at this;exact aA this
     rw[this,Num.stN]
   ·rw[Za]
    have:((i:Int)*(st:Int))=((i*st:Nat):Int):=by rw[aW]
    rw[this];refine JE ?_;rw[hlen];have:i*st<=(j.length-1)*st:=cv _ (by omega);omega
  ·rintro O Y ⟨J,v3,v4,rfl,sm,U,hlen,M⟩
   rw[Za,cU,Num.stN] at M;rw[M] at U;exact⟨_,rfl,q l Y sm U⟩
inductive Zh0 (K:aa) (vs:TR) (H:Hp) (Q:VK) (E03:XK):Prop
 |mk (a b:Addr) (ps ds:TX):(vs=[.ref a,.ref b])->(WZ K H a (ps.map V.int))->(WZ K H b (ds.map V.int))->(1<=ds.length)->(ds.length<=ps.length)->(ps.length<=100000)->(small ds=true)->(∀l H',Same H H'->H' l=some (.lst ((ZfH ps ds).map V.int))->Q (.ref l) H')->Zh0 K vs H Q E03
theorem JG {j:TX}{i:Nat}(J:i<j.length):j.drop i=co j i::j.drop (i+1):=by
 rw[b8 J];congr 1;have:=Z9 J;rw[Zf J] at this;exact aA this
theorem Zae {a:TX}{i:Nat}(h:i<a.length):(a.map V.int)[i]?=some (.int (co a i)):=by rw[Zc,Z9 h];rfl
theorem ZnR (F:Wf K "quotient" "quotient" (tq 17) f fd)(T:Bl mg)(T2:Bl2 mg):ZW P w K mg base ZY 1 f fd ["powers", "divisor"] (Zh0 K):=by
 refine F.ok (FS (N:=["powers", "divisor", "rest", "top", "found", "k", "j", "x"])) (λvs H Q E h=>?_) (λw9 A t5 s H vs Q E hr h=>?_)
 ·obtain⟨a,b,U,ds,rfl,_⟩:=h;rfl
 ·obtain⟨a,b,U,ds,rfl,hA,hB,x6,x8,x9,t6,q⟩:=h
  refine⟨_,Zu (ZK 2 rfl (ct JK T.list (pc (vn 0) Zs)))
   (Zu (ZK 3 rfl (Zz Y3 (cb (YL K) T.len (pc (vn 1) Zs)) Zw))
   (Zu (ZK 4 rfl (Zz WU (ZS (pc Zw Zs)) (Zz Y3 (cb (YL K) T.len (pc (vn 2) Zs)) (vn 3))))
   (Zu (ZV au rfl (ZpL T.range (pc (Zz Y3 (cb (YL K) T.len (pc (vn 4) Zs)) Zw) (pc (JN Wz Zw) (pc (JN Wz Zw) Zs)))) (gn 5)
    (Zu (UY (ZU (ixL K) (vn 2) (Zz YD (vn 5) (vn 3)) (λ_ _=>rfl)) (U2 (vn 4) (vn 5) YT))
    (Zv (ZV au rfl (V3 K T2.enumerate (pc (vn 1) Zs)) (g2 K 6 7 rfl (gn 6) (gn 7))
     (Zv (Xj (vn 2) (Zz YD (vn 5) (vn 6)) Vo (Zz Z0 (ZU (ixL K) (vn 4) (vn 5) (λ_ _=>rfl)) (vn 7)) Zjv YT))))))
   (Zv (ZE (vn 4)))))),?_⟩
  refine⟨_,rfl,a,_,rfl,.inl hA,λr nr=>?_⟩;have s1:Same H (upd H r (.lst (U.map V.int))):=Same.upd nr;refine⟨_,rfl,b,_,rfl,.inl (s1.seq hB),_,_,rfl,rfl,?_⟩;refine⟨JL,λl0 n0=>?_⟩;have s2:=s1.trans (Same.upd (o:=.lst [.int 0]) n0);refine⟨_,rfl,r,_,rfl,.inl (.of (Same.upd n0 _ _ Zt)),_,rfl,_,_,rfl,rfl,l0,_,_,rfl,rfl,Zt,?_,?_,?_,λl nl=>?_⟩
  ·rw[Za,Za];omega
  ·rw[Za,Za];omega
  ·rw[Za,Za]
   show 1*_<=sizeLine;have e:=Jv;omega
  have eN:(((U.map V.int).length:Int)-(((ds.map V.int).length:Int)-1)).toNat=U.length-(ds.length-1):=by rw[Za,Za];omega
  rw[eN,Zeu];have t7:H r=none:=nr;have t9:H l=none:=s2.free nl;have p7:l≠r:=λz=>by
   rw[z,Zy (λz2=>by rw[z2,Zt] at n0;cases n0),Zt] at nl;cases nl
  have s3:=s2.trans (Same.upd (o:=.lst ((am (U.length-(ds.length-1)) (0:Int)).map V.int)) nl);generalize hN:U.length-(ds.length-1)=N at *;have u5:(upd (upd (upd H r (.lst (U.map V.int))) l0 (.lst [.int 0])) l (.lst ((am N (0:Int)).map V.int))) r=some (.lst (U.map V.int)):=Same.upd nl _ _ (Same.upd n0 _ _ Zt);refine⟨_,rfl,l,_,rfl,.inl (.of Zt),_,_,rfl,rfl,_,rfl,_,rfl,_,_,rfl,⟨by rw[Za,Ze];omega,by rw[Za,Ze];omega,by decide,by decide⟩,?_⟩;rw[Za,Za,Ze];have e2:(((N:Int)-1)-(-1)).toNat=N:=by omega
  rw[e2];refine ZdI (λi o6 H'=>∃(J rest:TX) (v5 v6 v7:TQ),o6=[some (.ref a),some (.ref b),some (.ref r),some (.int ((ds.length:Int)-1)),some (.ref l),v5,v6,v7]/\Same H H'/\H' l=some (.lst (J.map V.int))/\H' r=some (.lst (rest.map V.int))/\
    J.length=N/\rest.length=U.length/\ZiH ds (ds.length-1) (N-i) J rest=ZfH U ds)
   ⟨_,_,_,_,_,rfl,s3,Zt,u5,cJ ..,rfl,by rw[dJ,ZfH,hN]⟩ ?_ ?_
  ·rintro i o6 H' hi ⟨J,rest,v5,v6,v7,rfl,sm,o0,o7,p8,q0,hq⟩
   generalize hk:N-1-i=k;have ek:(N:Int)-1-(i:Int)=(k:Int):=by omega
   rw[ek];have y4:k<N:=by omega
   have u9:N-i=k+1:=by omega
   rw[u9,ZiH] at hq;have r6:k+(ds.length-1)<rest.length:=by omega
   refine⟨_,rfl,_,rfl,_,rfl,_,_,rfl,rfl,r,_,_,.int (co rest (k+(ds.length-1))),rfl,rfl,.of o7,?_,_,rfl,_,rfl,l,_,_,k,rfl,rfl,o0,?_,?_⟩
   ·have:(k:Int)+((ds.length:Int)-1)=((k+(ds.length-1):Nat):Int):=by omega
    rw[this];exact Zcn r6
   ·rw[Za];exact JE (by omega)
   generalize hc:co rest (k+(ds.length-1))=c at hq ⊢;rw[Jx];have r8:Same H (upd H' l (.lst ((J.set k c).map V.int))):=sm.updr t9;have w6:(upd H' l (.lst ((J.set k c).map V.int))) r=some (.lst (rest.map V.int)):=by rw[Zy (bV p7)];exact o7
   have w8:co (J.set k c) k=c:=by rw[Zj3,if_pos ⟨rfl,by omega⟩]
   refine⟨_,rfl,b,rfl,.inl ⟨⟨_,r8.seq hB⟩,?_⟩⟩;refine YW Zah (λj M O=>∃(cur:TX) (u6 u7:TQ),M=[some (.ref a),some (.ref b),some (.ref r),some (.int ((ds.length:Int)-1)),some (.ref l),some (.int k),u6,u7]/\Same H O/\O l=some (.lst ((J.set k c).map V.int))/\O r=some (.lst (cur.map V.int))/\
     cur.length=U.length/\qIn (ds.drop j) (k+j) c cur=qIn ds k c rest)
    ⟨_,_,_,rfl,r8,Zt,w6,q0,rfl⟩ (λj M O h=>h.choose_spec.choose_spec.choose_spec.2.1.seq hB) ?_ ?_
   ·rintro j y M O T' hy ⟨cur,u6,u7,rfl,o8,Y,o9,p6,o5⟩ nT
    obtain⟨hj,rfl⟩:=Ys hy;have kj:k+j<cur.length:=by omega
    have r9:=Same.upd (o:=.tup [.int j,.int (co ds j)]) nT _ _ o9;have t0:=Same.upd (o:=.tup [.int j,.int (co ds j)]) nT _ _ Y;have cb:=Zao t6 j;refine⟨T',_,rfl,.of Zt,rfl,_,_,rfl,_,_,rfl,rfl,_,rfl,_,rfl,_,rfl,_,_,rfl,rfl,r,_,k+j,.int (co cur (k+j)),rfl,congrArg V.int (by omega),r9,Zae kj,
     _,rfl,_,rfl,l,_,_,.int c,rfl,rfl,.of t0,?_,_,rfl,_,_,rfl,rfl,.inr ⟨by omega,by omega⟩,_,_,rfl,rfl,r,_,_,k+j,rfl,congrArg V.int (show (k:Int)+(j:Int)=((k+j:Nat):Int) by omega),r9,?_,?_⟩
    ·have:=Zcn (a:=J.set k c) (i:=k) (by rw[aY];omega)
     rw[w8] at this;exact this
    ·rw[Za];exact JE kj
    ·refine⟨cur.set (k+j) (co cur (k+j)-c*co ds j),_,_,rfl,(o8.trans (Same.upd nT)).updr t7,?_,?_,?_,?_⟩
     ·rw[Zy p7];exact t0
     ·rw[Zt,Jx]
     ·rw[aY];exact p6
     ·rw[<-o5,JG hj,Num.qIn]
      rfl
   ·rintro M O ⟨cur,u6,u7,rfl,o8,Y,o9,p6,o5⟩
    rw[Za,cU,Num.qIn] at o5;refine⟨J.set k c,cur,_,_,_,rfl,o8,Y,o9,by rw[aY];exact p8,p6,?_⟩;rw[show N-(i+1)=k by omega,o5];exact hq
  ·rintro o6 H' ⟨J,rest,v5,v6,v7,rfl,sm,o0,o7,p8,q0,hq⟩
   rw[cS,Num.ZiH] at hq;rw[hq] at o0;exact⟨_,rfl,q l H' sm o0⟩
end N30
namespace L2
open PySem PySem.Spec PyProof.Rows
def Zjz (K:aa)(ta:TA):TI:=λσ H R=>ta σ H λvs O=>∃a M j,vs=[.ref a]/\(WZ K j a M\/WO K j a M)/\Same j O/\∀J U,Zkn J U M->(∀Y,Same j Y->U Y)->R J O
theorem Zos {elts:List Expr}{x1}{pt:Pos}{l:Expr}{ta:TA}{p pos:Pos}(hm:X.mg "enumerate"=none)(ha:PA X [l] ta)(hg:We X.env.scope "enumerate"=true:=by kernel_rfl)(hs:starEach [l] X.env=[(false,eval l X.env)]:=by rfl) :
  PI X (.Tuple elts x1 pt) (.Call (.Name "enumerate" p) [l] [] pos) (Zjz X.K ta):=by
 intro M s σ H R I h;refine Call_ (JD I (XG hg) hm (show bootBuiltins "enumerate"=some (.type "enumerate") by kernel_rfl) (bD (Yo (ha pos M s σ H _ I h) λus s1 ⟨vs,H1,j,r1,q1⟩=>?_) hs rfl));obtain⟨a,xs,Hx,e,J,sm,q⟩:=q1;subst e;cases r1 with
 |cons r rr=>
  cases rr;cases (show _=aQ a from r);have sz:∀b,b∈[s1.heap.objs.size+1,s1.heap.objs.size]->s1.heap.objs.size<=b:=λb hb=>by
   rcases aH.mp hb with rfl|hb
   ·exact gP _
   ·have:b=s1.heap.objs.size:=by simpa using hb
    rw[this];exact Zq _
  rcases J with J|J
  ·obtain⟨O,rv,p,hz⟩:=j.list (sm.seq J)
   refine call_enumerate_list p.isList λg ge U gs Y=>eS ge ?_;exact⟨_,[s1.heap.objs.size+1,s1.heap.objs.size],_,_,H1,rfl,j.kept (t':=s1.toks) Y,UE a _ _ (bB (dA _)),⟨⟨_,ge⟩,U⟩,λb hb=>j.fpOk (sz b hb) (j.hok.fresh (sz b hb)),q _ _ Zah λH' s'=>s'.seq J⟩
  ·obtain⟨O,rv,p,hz⟩:=j.tuple (sm.tup J)
   refine PyY.Zax (show s1.heap.IsTuple a O.toArray from p) λg ge U gs Y=>eS ge ?_;exact⟨_,[s1.heap.objs.size+1,s1.heap.objs.size],_,_,H1,rfl,j.kept (t':=s1.toks) Y,UD a _ _ (bB (dA _)),⟨⟨_,ge⟩,U⟩,λb hb=>j.fpOk (sz b hb) (j.hok.fresh (sz b hb)),q _ _ Zag λH' s'=>s'.tup J⟩
theorem Zcr (K:aa){elts:List Expr}{J}{pt:Pos}{l:Expr}{j:TA}{p pos:Pos}(M:X.mg "enumerate"=none)(O:PA X [l] j)(U:X.K=K:=by rfl)(Y:We X.env.scope "enumerate"=true:=by kernel_rfl)(hs:starEach [l] X.env=[(false,eval l X.env)]:=by rfl) :
  PI X (.Tuple elts J pt) (.Call (.Name "enumerate" p) [l] [] pos) (Zjz K j):=U▸Zos M O Y hs
end L2
namespace N30
open PySem L2 PySem.Spec PyProof.Rows
open Num
def lsN (n:Nat):TX:=Wr n (Ya n)
def ZG (n:Nat):Nat:=(lsN n).length-1
def RN (n:Nat):TZ:=RT n (Ya n)
def XU (n:Nat):Bool:=Num.chk n (Ya n) && decide (((Num.Wr n (Ya n)).length:Int)=VF n+1)
theorem ZqG:([1,2,3,4,5,6,7,8,9,10,11,12,13,14,15,16].all XU)=true:=by decide +kernel
theorem ZqF:([17,18,19,20,21,22,23,24].all XU)=true:=by decide +kernel
theorem ZqE:([25,26,27,28,29,30].all XU)=true:=by decide +kernel
theorem ZqD:([31,32,33,34,35].all XU)=true:=by decide +kernel
theorem ZqC:([36,37,38,39,40].all XU)=true:=by decide +kernel
theorem ZqB:([41,42,43,44].all XU)=true:=by decide +kernel
theorem ZqA:([45,46,47].all XU)=true:=by decide +kernel
theorem Zqz:([48,49,50].all XU)=true:=by decide +kernel
theorem Zqy:([51,52,53].all XU)=true:=by decide +kernel
theorem Zqx:([54,55,56].all XU)=true:=by decide +kernel
theorem ZoE:([57,58].all XU)=true:=by decide +kernel
theorem ZoD:([59,60].all XU)=true:=by decide +kernel
theorem all2 {p:Nat->Bool}{a b:TY}(h:a.all p=true)(g:b.all p=true):(a++b).all p=true:=by rw[List.all_append,h,g];rfl
theorem Zj9 {n:Nat}(j:1<=n)(J:n<=60):XU n=true:=ax.mp (all2 ZqG (all2 ZqF (all2 ZqE (all2 ZqD (all2 ZqC (all2 ZqB (all2 ZqA (all2 Zqz (all2 Zqy (all2 Zqx (all2 ZoE ZoD))))))))))) n (by
 show n∈dE 1 60;exact List.mem_range'_1.mpr ⟨j,by omega⟩)
theorem Vn {n:Nat}(j:1<=n)(J:n<=60):Good n (Ya n) (lsN n) (ZG n) (RN n)/\(ZG n:Int)=VF n:=by
 have h:=Zj9 j J;unfold XU at h;rw[ae] at h;have g:=ZlS j h.1;refine⟨g,?_⟩;have e:=of_decide_eq_true h.2;have:=g.l2;unfold ZG lsN;omega
inductive ZbG (vs:TR) (H:Hp) (Q:VK) (E03:XK):Prop
 |mk (n:Nat):(vs=[.int n])->(1<=n)->(n<=60)->(∀l H',Same H H'->H' l=some (.lst ((lsN n).map V.int))->Q (.ref l) H')->ZbG vs H Q E03
inductive X5 (K:aa) (vs:TR) (H:Hp) (Q:VK) (E03:XK):Prop
 |mk (n:Nat) (a:Addr) (ws:TX):(vs=[.int n,.ref a])->(1<=n)->(n<=60)->((WZ K H a (ws.map V.int)\/WO K H a (ws.map V.int)))->(ws.length<=100000)->(∀q H',Same H H'->H' q=some (.tup ((Jg n (ZG n) (RN n) ws).map V.int))->Q (.ref q) H')->X5 K vs H Q E03
theorem ZjY (xs:TR){k:Nat}(h:k<=xs.length):Jj xs none (some (k:Int))=xs.take k:=by
 unfold Jj;rw[HT.Vd];have e:HT.Y1 xs.length 0 none=0:=rfl;rw[e,iO,dJ,km h]
theorem Zab {s:TX×Int}{j:TX}(h:Vj s j=true):small s.1=true/\2<=s.1.length/\s.1.length<=61/\1<=s.2/\s.2<=60:=by
 have g:ZlI s=true:=by
  cases j with
  |nil=>exact h
  |cons p j=>
   rw[Num.Vj] at h;simp only[ae] at h;exact h.1.1.1
 unfold ZlI at g;simp only[ae,decide_eq_true_eq] at g;exact⟨g.1.1.1.1,g.1.1.1.2,g.1.1.2,g.1.2,g.2⟩
theorem ZeM {s:TX×Int}{p:Int}{j:TX}(h:Vj s (p::j)=true):2<=p/\p<=60/\Vj (XN s p) j=true:=by
 rw[Num.Vj] at h;simp only[ae,decide_eq_true_eq] at h;exact⟨h.1.1.2,h.1.2,h.2⟩
theorem Zi3 (F:Wf K "least_sum" "least_sum" (tq 18) f fd)(GP:Fn P w K mg base ZY 1 "primes_of" ["n"] X4)(GS:Fn P w K mg base ZY 1 "stretched" ["powers", "step"] (ZhY K))(GQ:Fn P w K mg base ZY 1 "quotient" ["powers", "divisor"] (Zh0 K)) :
  ZW P w K mg base ZY 2 f fd ["n"] ZbG:=by
 refine F.ok (FS (N:=["n", "found", "built", "p"])) (λvs H Q E h=>?_) (λo6 A o5 s H vs Q E hr h=>?_)
 ·obtain⟨n,rfl,_⟩:=h;rfl
 ·obtain⟨n,rfl,n1,n60,q⟩:=h
  obtain⟨G,_⟩:=Vn n1 n60;refine⟨_,Zu (ZK 1 rfl (ZS (pc (JN Wz Zw) (pc Zw Zs))))
   (Zu (ZK 2 rfl Zw)
   (Zu (ZV au rfl (itL K (YF GP hr ZF (pc (vn 0) Zs))) (gn 3)
    (Zu (ZK 1 rfl (YF GQ hr ZF (pc (YF GS hr ZF (pc (vn 1) (pc (vn 3) Zs))) (pc (vn 1) Zs))))
    (Zv (ZK 2 rfl (Zz Z0 (vn 2) (vn 3))))))
   (Zv (ZE (YF GS hr ZF (pc (vn 1) (pc (Zz JA (vn 0) (vn 2)) Zs))))))),?_⟩
  refine⟨_,rfl,JL,λl0 n0=>?_⟩;have s0:Same H (upd H l0 (.lst [.int (-1),.int 1])):=Same.upd n0;refine⟨_,rfl,n,rfl,n1,n60,λlp H1 s1 hp=>⟨lp,rfl,⟨_,.of hp⟩,?_⟩⟩;refine W9 (Wh (K:=K) (.of hp)) (λi M U=>∃(st:TX×Int) (O:Addr) (v3:TQ),M=[some (.int n),some (.ref O),some (.int st.2),v3]/\Same H1 U/\U O=some (.lst (st.1.map V.int))/\Vj st ((Ya n).drop i)=true/\
    ((Ya n).drop i).foldl XN st=(Ya n).foldl XN ([-1,1],1))
   ⟨([-1,1],1),l0,_,rfl,Same.refl _,s1 _ _ Zt,G.ls,rfl⟩ (λi M U h=>h.choose_spec.choose_spec.choose_spec.2.1) ?_ ?_
  ·rintro i x M U hx ⟨st,O,v3,rfl,sm,hf,J,j⟩
   obtain⟨hi,rfl⟩:=Ys hx;rw[JG hi] at J j;obtain⟨p2,o7,Y⟩:=ZeM J;obtain⟨c1,c2,c3,c4,c5⟩:=Zab J;generalize o8:co (Ya n) i=p at *;have ep:(p.toNat:Int)=p:=by omega
   have o0:(st.1.length-1)*p.toNat<=60*60:=cZ (by omega) (by omega);refine⟨_,rfl,_,rfl,O,st.1,p.toNat,by rw[ep];rfl,.of hf,by omega,by omega,by omega,by omega,λl2 H2 s2 h2=>?_⟩;have o9:st.1.length-1<=(st.1.length-1)*p.toNat:=Nat.le_mul_of_pos_right _ (by omega);refine⟨_,rfl,l2,O,_,_,rfl,.of h2,.of (s2 _ _ hf),by omega,by rw[Zfj];omega,by rw[Zfj];omega,c1,λl3 H3 s3 h3=>?_⟩;refine⟨_,rfl,_,rfl,_,_,rfl,rfl,.inl ⟨by omega,by omega⟩,?_⟩;exact⟨XN st p,l3,_,rfl,(sm.trans s2).trans s3,h3,Y,j⟩
  ·rintro M U ⟨st,O,v3,rfl,sm,hf,J,j⟩
   rw[Za,cU] at J j;obtain⟨c1,c2,c3,c4,c5⟩:=Zab J;have hd:0<=(n:Int) / st.2/\(n:Int) / st.2<=n:=⟨Int.ediv_nonneg (by omega) (by omega),Int.ediv_le_self _ (by omega)⟩;have o0:(st.1.length-1)*((n:Int) / st.2).toNat<=60*60:=cZ (by omega) (by omega);refine⟨_,rfl,_,rfl,_,rfl,_,_,rfl,rfl,⟨by omega,by omega⟩,O,st.1,((n:Int) / st.2).toNat,by rw[Int.toNat_of_nonneg hd.1];rfl,.of hf,by omega,by omega,by omega,by omega,λl4 H4 s4 h4=>?_⟩;refine q l4 H4 (((s0.trans s1).trans sm).trans s4) ?_;rw[h4];unfold lsN Wr;rw[<-j];rfl
theorem Zi1 (F:Wf K "number_of" "number_of" (tq 19) f fd)(T:Bl mg)(T2:Bl2 mg)(GL:Fn P w K mg base ZY 2 "least_sum" ["n"] ZbG):ZW P w K mg base ZY 3 f fd ["n", "powers"] (X5 K):=by
 refine F.ok (FS (N:=["n", "powers", "least", "top", "rest", "k", "x", "high", "j"])) (λvs H Q E h=>?_) (λy8 A u5 s H vs Q E hr h=>?_)
 ·obtain⟨n,a,ws,rfl,_⟩:=h;rfl
 ·obtain⟨n,a,ws,rfl,n1,n60,hS,y9,q⟩:=h
  obtain⟨G,_⟩:=Vn n1 n60;refine⟨_,Zu (ZK 2 rfl (YF GL hr ZF (pc (vn 0) Zs)))
   (Zu (ZK 3 rfl (Zz Y3 (cb (YL K) T.len (pc (vn 2) Zs)) Zw))
   (Zu (ZK 4 rfl (Zz WU (ZS (pc Zw Zs)) (vn 0)))
   (Zu (ZV au rfl (Zcr K T2.enumerate (pc (vn 1) Zs)) (g2 K 5 6 rfl (gn 5) (gn 6))
    (Zv (Xj (vn 4) (Zz Yb (vn 5) (vn 0)) Vo (vn 6) WB YT)))
   (Zu (ZV au rfl (ZpL T.range (pc (Zz Y3 (vn 0) Zw) (pc (Zz Y3 (vn 3) Zw) (pc (JN Wz Zw) Zs)))) (gn 5)
    (Zu (ZK 7 rfl (ZU (ixL K) (vn 4) (vn 5) (λ_ _=>rfl)))
    (Zv (YU (ZM Ww (vn 7) Zw (ZO _))
     (Zv (ZV au rfl (V3 K T2.enumerate (pc (vn 2) Zs)) (g2 K 8 6 rfl (gn 8) (gn 6))
      (Zv (Xj (vn 4) (Zz YD (Zz Y3 (vn 5) (vn 3)) (vn 8)) Vo (Zz Z0 (vn 7) (vn 6)) Zjv YT)))) Z2))))
   (Zv (ZE (ct ZD T.tuple (pc (WT Uk (vn 4) Jz (Jy (vn 3))) Zs)))))))),?_⟩
  refine⟨_,rfl,n,rfl,n1,n60,λll H1 s1 o9=>?_⟩;have q0:(((lsN n).map V.int).length:Int)-1=(ZG n:Int):=by
   rw[Za,G.l2];omega
  have tn:=G.tn;have t1:=G.t1;refine⟨_,rfl,ll,_,rfl,.inl (.of o9),_,_,rfl,rfl,?_⟩;refine⟨JL,λl0 n0=>?_⟩;have s2:=s1.trans (Same.upd (o:=.lst [.int 0]) n0);refine⟨_,rfl,l0,_,_,rfl,rfl,Zt,by omega,by omega,?_,λl nl=>?_⟩
  ·rw[Zj]
   show 1*n<=sizeLine;have e:=Jv;omega
  rw[Zj,Zeu];have r6:H l=none:=s2.free nl;have r8:=Same.upd (o:=.lst ((am n (0:Int)).map V.int)) nl _ _ (Same.upd (o:=.lst [.int 0]) n0 _ _ o9);have r9:l≠ll:=λz=>by
   rw[z,Same.upd (o:=.lst [.int 0]) n0 _ _ o9] at nl;cases nl
  have s3:=s2.trans (Same.upd (o:=.lst ((am n (0:Int)).map V.int)) nl);refine⟨_,rfl,a,_,H,rfl,hS,s3,λJ At S u9=>?_⟩;refine YW S (λi o0 H'=>∃(M:TX) (v5 v6:TQ),o0=[some (.int n),some (.ref a),some (.ref ll),some (.int ((((lsN n).map V.int).length:Int)-1)),some (.ref l),v5,v6,none,none]/\Same H H'/\H' ll=some (.lst ((lsN n).map V.int))/\H' l=some (.lst (M.map V.int))/\M.length=n/\
    V1 n (ws.drop i) i M=ZdJ n ws)
   ⟨_,_,_,rfl,s3,r8,Zt,cJ ..,rfl⟩ (λi o0 H' h=>u9 _ h.choose_spec.choose_spec.choose_spec.2.1) ?_ ?_
  ·rintro i y o0 H' T' hy ⟨M,v5,v6,rfl,sm,p6,p7,o5,o6⟩ nT
   obtain⟨hi,rfl⟩:=Ys hy;have t0:i % n<M.length:=by rw[o5];exact bX _ n1
   have eM:V.int ((i:Int) % (n:Int))=V.int ((i % n:Nat):Int):=congrArg V.int (by omega);have t5:=Same.upd (o:=.tup [.int i,.int (co ws i)]) nT _ _ p7;refine⟨T',_,rfl,.of Zt,rfl,_,_,rfl,_,_,rfl,rfl,_,rfl,_,rfl,_,rfl,_,_,rfl,rfl,(by show (0:Int)<n;omega),l,_,i % n,.int (co M (i % n)),rfl,eM,t5,Zae t0,_,rfl,_,_,rfl,rfl,l,_,_,i % n,rfl,eM,t5,?_,?_⟩
   ·rw[Za];exact JE t0
   ·refine⟨M.set (i % n) (co M (i % n)+co ws i),_,_,rfl,(sm.trans (Same.upd nT)).updr r6,?_,?_,?_,?_⟩
    ·rw[Zy (bV r9)];exact Same.upd nT _ _ p6
    ·rw[Zt,Jx]
    ·rw[aY];exact o5
    ·rw[<-o6,JG hi,Num.V1]
  ·rintro o0 H' ⟨M,v5,v6,rfl,sm,p6,p7,o5,o6⟩
   rw[Za,cU,Num.V1] at o6;refine⟨_,rfl,_,_,rfl,rfl,_,rfl,_,_,rfl,rfl,_,rfl,_,_,rfl,⟨by omega,by omega,by omega,by omega⟩,?_⟩;rw[show (((n:Int)-1)-((((lsN n).map V.int).length:Int)-1-1)).toNat=n-ZG n by omega];refine ZdI (λi o0 H'=>∃(M:TX) (v5 v6 v7 v8:TQ),o0=[some (.int n),some (.ref a),some (.ref ll),some (.int ((((lsN n).map V.int).length:Int)-1)),some (.ref l),v5,v6,v7,v8]/\Same H H'/\H' ll=some (.lst ((lsN n).map V.int))/\H' l=some (.lst (M.map V.int))/\M.length=n/\
     (∀j,co (Jl M (RN n)) j=co (Jl (ZdJ n ws) (RN n)) j)/\∀t,n-i<=t->co M t=0)
    ⟨M,_,_,_,_,rfl,sm,p6,p7,o5,λj=>by rw[o6],λt ht=>J9 (by omega)⟩ ?_ ?_
   ·rintro i t6 w6 hi ⟨c2,w8,w9,x6,x8,rfl,o7,Y,O,U,hP,hz⟩
    generalize hk:n-1-i=k;have ek:(n:Int)-1-(i:Int)=(k:Int):=by omega
    rw[ek];have x9:k<n:=by omega
    have y4:ZG n<=k:=by omega
    refine⟨_,rfl,_,rfl,l,_,_,.int (co c2 k),rfl,rfl,.of O,Zcn (by omega),?_⟩;refine⟨_,rfl,rfl,_,rfl,Y6 (λhh=>?_) (λhh=>?_)⟩
    ·refine⟨_,rfl,ll,rfl,.inl ⟨⟨_,.of Y⟩,?_⟩⟩
     obtain⟨r1,r2,r3,r4⟩:=ZiB G U x9 y4;refine YW Zah (λj o8 H3=>∃(c3:TX) (u6 u8:TQ),o8=[some (.int n),some (.ref a),some (.ref ll),some (.int ((((lsN n).map V.int).length:Int)-1)),some (.ref l),some (.int k),u6,some (.int (co c2 k)),u8]/\Same H H3/\H3 ll=some (.lst ((lsN n).map V.int))/\H3 l=some (.lst (c3.map V.int))/\c3.length=n/\
       qIn ((lsN n).drop j) (k-ZG n+j) (co c2 k) c3=qIn (lsN n) (k-ZG n) (co c2 k) c2)
      ⟨c2,_,_,rfl,o7,Y,O,U,rfl⟩ (λj o8 H3 h=>.of h.choose_spec.choose_spec.choose_spec.2.2.1) ?_ ?_
     ·rintro j y o8 H3 T' hy ⟨c3,u6,u8,rfl,p8,g1,g2,g3,g4⟩ nT
      obtain⟨hj,rfl⟩:=Ys hy;have ll2:=G.l2;have kj:k-ZG n+j<c3.length:=by omega
      have eI:V.int ((k:Int)-((((lsN n).map V.int).length:Int)-1)+(j:Int))=V.int ((k-ZG n+j:Nat):Int):=congrArg V.int (by omega);have t7:=Same.upd (o:=.tup [.int j,.int (co (lsN n) j)]) nT _ _ g2;have cb:=Zao G.sm j;refine⟨T',_,rfl,.of Zt,rfl,_,_,rfl,_,_,rfl,rfl,_,rfl,_,rfl,_,rfl,_,_,rfl,rfl,_,rfl,_,_,rfl,rfl,l,_,k-ZG n+j,.int (co c3 (k-ZG n+j)),rfl,eI,t7,Zae kj,_,rfl,_,rfl,_,_,rfl,rfl,.inr ⟨by omega,by omega⟩,_,_,rfl,rfl,l,_,_,k-ZG n+j,rfl,eI,t7,?_,?_⟩
      ·rw[Za];exact JE kj
      ·refine⟨c3.set (k-ZG n+j) (co c3 (k-ZG n+j)-co c2 k*co (lsN n) j),_,_,rfl,(p8.trans (Same.upd nT)).updr r6,?_,?_,?_,?_⟩
       ·rw[Zy (bV r9)];exact Same.upd nT _ _ g1
       ·rw[Zt,Jx]
       ·rw[aY];exact g3
       ·rw[<-g4,JG hj,Num.qIn]
        rfl
     ·rintro o8 H3 ⟨c3,u6,u8,rfl,p8,g1,g2,g3,g4⟩
      rw[Za,cU,Num.qIn] at g4;refine⟨c3,_,_,_,_,rfl,p8,g1,g2,g3,λj=>?_,λt ht=>?_⟩
      ·rw[g4,r2 j];exact hP j
      ·rw[g4]
       by_cases e:t=k
       ·rw[e];exact r3
       ·rw[r4 t (by omega)];exact hz t (by omega)
    ·have h0:co c2 k=0:=by
      apply ak;intro y6;apply hh;rw[Ye];simp[y6]
     refine⟨c2,_,_,_,_,rfl,o7,Y,O,U,hP,λt ht=>?_⟩;by_cases e:t=k
     ·rw[e];exact h0
     ·exact hz t (by omega)
   ·rintro t6 w6 ⟨c2,w8,w9,x6,x8,rfl,o7,Y,O,U,hP,hz⟩
    refine⟨_,rfl,_,rfl,_,rfl,l,_,rfl,.of O,λp1 h1=>⟨p1,_,rfl,.inl ⟨.of Zt,λqq t9=>?_⟩⟩⟩;rw[q0,ZjY _ (by rw[Za];omega),<-List.map_take] at t9 ⊢;refine q qq _ ((o7.trans (Same.upd h1)).trans (Same.upd t9)) ?_;rw[Zt,ZkV G U (λt ht=>hz t (by omega)) hP ws rfl]
end N30
namespace Num
def JZ (x:Int):TX->Nat->TX->TX
 | [],_,ZI=>ZI
 |y::j,k,ZI=>JZ x j (k+1) (ZI.set k (co ZI k+x*y))
def JY (ys:TX):TX->Nat->TX->TX
 | [],_,ZI=>ZI
 |x::j,i,ZI=>JY ys j (i+1) (if x=0 then ZI else JZ x ys i ZI)
def Zdr (xs ys:TX):TX:=JY ys xs 0 (am (xs.length+ys.length-1) 0)
theorem Za3 (x:Int):∀(ys:TX) (k:Nat) (ZI:TX),(JZ x ys k ZI).length=ZI.length
 | [],_,_=>rfl
 |_::ys,_,_=>by rw[JZ,Za3 x ys,aY]
def sIn (n:Nat)(R:TZ)(j:Nat)(x:Int):TX->Nat->Int
 | [],_=>0
 |y::J,k=>x*y*co (ro R (k % n)) j+sIn n R j x J (k+1)
def ZgI (n:Nat)(R:TZ)(j:Nat)(ys:TX):TX->Nat->Int
 | [],_=>0
 |x::J,i=>sIn n R j x ys i+ZgI n R j ys J (i+1)
theorem Zc2 (n:Nat)(R:TZ)(j:Nat):∀(ys:TX) (k:Nat),sIn n R j 0 ys k=0
 | [],_=>rfl
 |y::ys,k=>by rw[sIn,Zc2 n R j ys,bC,bC];rfl
theorem ZaV (n:Nat)(R:TZ)(j:Nat)(x:Int):∀(ys:TX) (k:Nat) (ZI:TX),k+ys.length<=ZI.length->sig n R j (JZ x ys k ZI) 0=sig n R j ZI 0+sIn n R j x ys k
 | [],_,_,_=>by rw[JZ,sIn,bU]
 |y::ys,k,ZI,h=>by
  rw[Zi] at h;rw[JZ,ZaV n R j x ys (k+1) _ (by rw[aY];omega),Zfp n R j (x*y) ZI k 0 (by omega),sIn,gu,lC]
theorem XJ (n:Nat)(R:TZ)(j:Nat)(ys:TX):∀(xs:TX) (i:Nat) (ZI:TX),i+xs.length+ys.length<=ZI.length+1->sig n R j (JY ys xs i ZI) 0=sig n R j ZI 0+ZgI n R j ys xs i
 | [],_,_,_=>by rw[JY,ZgI,bU]
 |x::xs,i,ZI,h=>by
  rw[Zi] at h;rw[JY,ZgI];by_cases J:x=0
  ·rw[if_pos J,XJ n R j ys xs (i+1) _ (by omega),J,Zc2,cO]
  ·rw[if_neg J,XJ n R j ys xs (i+1) _ (by rw[Za3];omega),ZaV n R j x ys i ZI (by omega),lC]
def ti (n:Nat)(u:Int)(j:Nat):Nat:=((j:Int)*u % (n:Int)).toNat
theorem Zpl {n:Nat}(J:0<n)(u:Int)(j:Nat):ti n u j<n:=by
 have M:=dh ((j:Int)*u) (show (n:Int)≠0 by omega);have O:=c6 ((j:Int)*u) (show (0:Int)<n by omega);unfold ti;omega
theorem Zm8 {n:Nat}(J:0<n)(u:Int)(j:Nat):((ti n u j:Nat):Int)=(j:Int)*u % (n:Int):=by
 have M:=dh ((j:Int)*u) (show (n:Int)≠0 by omega);unfold ti;omega
def ZhP (n:Nat)(u:Int):TX->Nat->TX->TX
 | [],_,ZI=>ZI
 |x::J,j,ZI=>ZhP n u J (j+1) (ZI.set (ti n u j) (co ZI (ti n u j)+x))
def ZcN (n:Nat)(u:Int)(xs:TX):TX:=ZhP n u xs 0 (am n 0)
end Num
namespace L2
open PySem PySem.Spec PyProof.Rows
def Zgu (i j:Int):Prop:=Zmj i j\/(i.natAbs<2 ^ 900/\j.natAbs<2 ^ 900)
theorem Zgu.ok {i j:Int}(h:Zgu i j):IntMulOk i j:=by
 rcases h with h|⟨J,M⟩
 ·exact h.ok
 ·have a:=intBits_le J
  have b:=intBits_le M;unfold IntMulOk;have:jZ ((kw i:Int)+(kw j:Int))=false:=by
   unfold jZ;refine decide_eq_false ?_;have e:(1800:Int)<=(bitsLine:Int):=by decide
   omega
  rw[this];simp
theorem Zlj {X:Cx}:XX X (binaryOp .Mult) (rI Zgu λi j=>.int (i*j)):=opI λ_ _ _ _ _ _ _ J q=>mul_int q J.ok
end L2
namespace N30
open PySem L2 PySem.Spec PyProof.Rows
open Num
def XW (xs:TX):Prop:=∀x∈xs,-(2 ^ 64)<x/\x<2 ^ 64
def ZdY (xs:TX):Prop:=∀x∈xs,x.natAbs<2 ^ 900
inductive Zbw (K:aa) (vs:TR) (H:Hp) (Q:VK) (E03:XK):Prop
 |mk (n:Nat) (a b:Addr) (xs ys:TX):(vs=[.int n,.ref a,.ref b])->(1<=n)->(n<=60)->(WO K H a (xs.map V.int))->(WO K H b (ys.map V.int))->(1<=xs.length)->(xs.length<=60)->(1<=ys.length)->(ys.length<=60)->(((XW xs\/XW ys)\/(ZdY xs/\ZdY ys)))->(∀q H',Same H H'->H' q=some (.tup ((Jg n (ZG n) (RN n) (Zdr xs ys)).map V.int))->Q (.ref q) H')->Zbw K vs H Q E03
inductive WR (K:aa) (vs:TR) (H:Hp) (Q:VK) (E03:XK):Prop
 |mk (n:Nat) (a:Addr) (u:Int) (xs:TX):(vs=[.int n,.ref a,.int u])->(1<=n)->(n<=60)->(WO K H a (xs.map V.int))->(xs.length<=60)->(∀q H',Same H H'->H' q=some (.tup ((Jg n (ZG n) (RN n) (ZcN n u xs)).map V.int))->Q (.ref q) H')->WR K vs H Q E03
inductive Zel (K:aa) (vs:TR) (H:Hp) (Q:VK) (E03:XK):Prop
 |mk (n:Nat) (a:Addr) (xs:TX):(vs=[.int n,.ref a])->(1<=n)->(n<=60)->(WO K H a (xs.map V.int))->(xs.length<=60)->(∀q H',Same H H'->H' q=some (.tup ((Jg n (ZG n) (RN n) (ZcN n (-1) xs)).map V.int))->Q (.ref q) H')->Zel K vs H Q E03
theorem VH (F:Wf K "turned" "turned" (tq 26) f fd)(T:Bl mg)(T2:Bl2 mg)(GN:Fn P w K mg base ZY 3 "number_of" ["n", "powers"] (X5 K)):ZW P w K mg base ZY 4 f fd ["n", "one", "k"] (WR K):=by
 refine F.ok (FS (N:=["n", "one", "k", "powers", "j", "x"])) (λvs H Q E h=>?_) (λo9 A o6 s H vs Q E hr h=>?_)
 ·obtain⟨n,a,u,xs,rfl,_⟩:=h;rfl
 ·obtain⟨n,a,u,xs,rfl,n1,n60,hS,p6,q⟩:=h
  refine⟨_,Zu (ZK 3 rfl (Zz WU (ZS (pc Zw Zs)) (vn 0)))
   (Zu (ZV au rfl (Zcr K T2.enumerate (pc (vn 1) Zs)) (g2 K 4 5 rfl (gn 4) (gn 5))
    (Zv (Xj (vn 3) (Zz Yb (Zz Z0 (vn 4) (vn 2)) (vn 0)) Vo (vn 5) WB YT)))
   (Zv (ZE (YF GN hr ZF (pc (vn 0) (pc (vn 3) Zs)))))),?_⟩
  refine⟨JL,λl0 n0=>?_⟩;have s2:Same H _:=Same.upd (o:=.lst [.int 0]) n0;refine⟨_,rfl,l0,_,_,rfl,rfl,Zt,by omega,by omega,?_,λl nl=>?_⟩
  ·rw[Zj]
   show 1*n<=sizeLine;have e:=Jv;omega
  rw[Zj,Zeu];have o7:H l=none:=s2.free nl;have s3:=s2.trans (Same.upd (o:=.lst ((am n (0:Int)).map V.int)) nl);refine⟨_,rfl,a,_,H,rfl,.inr hS,s3,λJ At S o8=>?_⟩;refine YW S (λi M H'=>∃(j:TX) (v4 v5:TQ),M=[some (.int n),some (.ref a),some (.int u),some (.ref l),v4,v5]/\Same H H'/\H' l=some (.lst (j.map V.int))/\j.length=n/\
    ZhP n u (xs.drop i) i j=ZcN n u xs)
   ⟨_,_,_,rfl,s3,Zt,cJ ..,rfl⟩ (λi M H' h=>o8 _ h.choose_spec.choose_spec.choose_spec.2.1) ?_ ?_
  ·rintro i y M H' T' hy ⟨j,v4,v5,rfl,sm,U,Y,O⟩ nT
   obtain⟨hi,rfl⟩:=Ys hy;have o0:ti n u i<j.length:=by rw[Y];exact Zpl n1 u i
   have eM:V.int ((i:Int)*u % (n:Int))=V.int ((ti n u i:Nat):Int):=by rw[Zm8 n1]
   have o5:=Same.upd (o:=.tup [.int i,.int (co xs i)]) nT _ _ U;refine⟨T',_,rfl,.of Zt,rfl,_,_,rfl,_,_,rfl,rfl,_,rfl,_,rfl,_,rfl,_,_,rfl,rfl,.inl ⟨by omega,by omega⟩,_,rfl,_,_,rfl,rfl,(by show (0:Int)<n;omega),l,_,ti n u i,.int (co j (ti n u i)),rfl,eM,o5,Zae o0,_,rfl,_,_,rfl,rfl,l,_,_,ti n u i,rfl,eM,o5,?_,?_⟩
   ·rw[Za];exact JE o0
   ·refine⟨j.set (ti n u i) (co j (ti n u i)+co xs i),_,_,rfl,(sm.trans (Same.upd nT)).updr o7,?_,?_,?_⟩
    ·rw[Zt,Jx]
    ·rw[aY];exact Y
    ·rw[<-O,JG hi,Num.ZhP]
  ·rintro M H' ⟨j,v4,v5,rfl,sm,U,Y,O⟩
   rw[Za,cU,Num.ZhP] at O;subst O;refine⟨_,rfl,_,rfl,n,l,_,rfl,n1,n60,.inl (.of U),by omega,λqq H2 sq hq=>q qq H2 (sm.trans sq) hq⟩
theorem Zly (F:Wf K "flipped" "flipped" (tq 25) f fd)(GT:Fn P w K mg base ZY 4 "turned" ["n", "one", "k"] (WR K)):ZW P w K mg base ZY 5 f fd ["n", "one"] (Zel K):=by
 refine F.ok (FS (N:=["n", "one"])) (λM H Q E h=>?_) (λO A j s H M Q E U h=>?_)
 ·obtain⟨n,a,xs,rfl,_⟩:=h;rfl
 ·obtain⟨n,a,xs,rfl,n1,n60,Y,J,q⟩:=h
  refine⟨_,Zv (ZE (YF GT U ZF (pc (vn 0) (pc (vn 1) (pc (JN Wz Zw) Zs))))),?_⟩;exact⟨_,rfl,_,rfl,_,rfl,n,a,-1,xs,rfl,n1,n60,Y,J,q⟩
theorem ZiT (F:Wf K "times" "times" (tq 24) f fd)(T:Bl mg)(T2:Bl2 mg)(GN:Fn P w K mg base ZY 3 "number_of" ["n", "powers"] (X5 K)):ZW P w K mg base ZY 4 f fd ["n", "one", "other"] (Zbw K):=by
 refine F.ok (FS (N:=["n", "one", "other", "powers", "i", "x", "j", "y"])) (λvs H Q E h=>?_) (λt7 A r8 s H vs Q E hr h=>?_)
 ·obtain⟨n,a,b,xs,U,rfl,_⟩:=h;rfl
 ·obtain⟨n,a,b,xs,U,rfl,n1,n60,hS,hB,x1,t9,y1,u5,r9,q⟩:=h
  refine⟨_,Zu (ZK 3 rfl (Zz WU (ZS (pc Zw Zs)) (Zz Y3 (Zz YD (cb (YL K) T.len (pc (vn 1) Zs)) (cb (YL K) T.len (pc (vn 2) Zs))) Zw)))
   (Zu (ZV au rfl (Zcr K T2.enumerate (pc (vn 1) Zs)) (g2 K 4 5 rfl (gn 4) (gn 5))
    (Zv (YU (ZM Ww (vn 5) Zw (ZO _))
     (Zv (ZV au rfl (Zcr K T2.enumerate (pc (vn 2) Zs)) (g2 K 6 7 rfl (gn 6) (gn 7))
      (Zv (Xj (vn 3) (Zz YD (vn 4) (vn 6)) Vo (Zz Zlj (vn 5) (vn 7)) WB YT)))) Z2)))
   (Zv (ZE (YF GN hr ZF (pc (vn 0) (pc (vn 3) Zs)))))),?_⟩
  refine⟨JL,λl0 n0=>?_⟩;have s2:Same H _:=Same.upd (o:=.lst [.int 0]) n0;refine⟨_,rfl,a,_,rfl,.inr (s2.tup hS),_,rfl,b,_,rfl,.inr (s2.tup hB),_,_,rfl,rfl,_,_,rfl,rfl,l0,_,_,rfl,rfl,Zt,?_,?_,?_,λl nl=>?_⟩
  ·rw[Za,Za];omega
  ·rw[Za,Za];omega
  ·rw[Za,Za]
   show 1*((xs.length:Int)+(U.length:Int)-1).toNat<=sizeLine;have e:=Jv;omega
  have eN:(((xs.map V.int).length:Int)+((U.map V.int).length:Int)-1).toNat=xs.length+U.length-1:=by
   rw[Za,Za];omega
  rw[eN,Zeu];have t0:H l=none:=s2.free nl;have s3:=s2.trans (Same.upd (o:=.lst ((am (xs.length+U.length-1) (0:Int)).map V.int)) nl);refine⟨_,rfl,a,_,H,rfl,.inr hS,s3,λJ At S t5=>?_⟩;refine YW S (λi o0 H'=>∃(M:TX) (v4 v5 v6 v7:TQ),o0=[some (.int n),some (.ref a),some (.ref b),some (.ref l),v4,v5,v6,v7]/\Same H H'/\H' l=some (.lst (M.map V.int))/\M.length=xs.length+U.length-1/\
    JY U (xs.drop i) i M=Zdr xs U)
   ⟨_,_,_,_,_,rfl,s3,Zt,cJ ..,rfl⟩ (λi o0 H' h=>t5 _ h.choose_spec.choose_spec.choose_spec.choose_spec.choose_spec.2.1) ?_ ?_
  ·rintro i y o0 H' T' hy ⟨M,v4,v5,v6,v7,rfl,sm,o6,o7,O⟩ nT
   obtain⟨hi,rfl⟩:=Ys hy;have p7:=Same.upd (o:=.tup [.int i,.int (co xs i)]) nT _ _ o6;have o8:=sm.trans (Same.upd (o:=.tup [.int i,.int (co xs i)]) nT);rw[JG hi,Num.JY] at O;refine⟨T',_,rfl,.of Zt,rfl,_,_,rfl,_,_,rfl,rfl,_,rfl,rfl,_,rfl,Y6 (λhh=>?_) (λhh=>?_)⟩
   ·have o9:co xs i≠0:=by
     intro e;rw[Ye] at hh;simp[e] at hh
    rw[if_neg o9] at O;have t6:∀j,j<U.length->Zgu (co xs i) (co U j):=λj hj=>r9.elim (λh=>.inl (h.elim (λh=>.inl (h _ (ah (Z9 hi)))) λh=>.inr (h _ (ah (Z9 hj))))) λh=>.inr ⟨h.1 _ (ah (Z9 hi)),h.2 _ (ah (Z9 hj))⟩;refine⟨_,rfl,b,_,H,rfl,.inr hB,o8,λJ2 u9 S2 p8=>?_⟩;refine YW S2 (λj o5 H3=>∃(Y:TX) (u6 u7:TQ),o5=[some (.int n),some (.ref a),some (.ref b),some (.ref l),some (.int i),some (.int (co xs i)),u6,u7]/\Same H H3/\H3 l=some (.lst (Y.map V.int))/\Y.length=xs.length+U.length-1/\
      JZ (co xs i) (U.drop j) (i+j) Y=JZ (co xs i) U i M)
     ⟨M,_,_,rfl,o8,p7,o7,rfl⟩ (λj o5 H3 h=>p8 _ h.choose_spec.choose_spec.choose_spec.2.1) ?_ ?_
    ·rintro j z o5 H3 T3 hz ⟨Y,u6,u7,rfl,p6,g2,g3,g4⟩ q0
     obtain⟨hj,rfl⟩:=Ys hz;have kj:i+j<Y.length:=by omega
     have eI:V.int ((i:Int)+(j:Int))=V.int ((i+j:Nat):Int):=congrArg V.int (by omega);have r6:=Same.upd (o:=.tup [.int j,.int (co U j)]) q0 _ _ g2;refine⟨T3,_,rfl,.of Zt,rfl,_,_,rfl,_,_,rfl,rfl,_,rfl,_,rfl,_,rfl,_,_,rfl,rfl,l,_,i+j,.int (co Y (i+j)),rfl,eI,r6,Zae kj,_,rfl,_,rfl,_,_,rfl,rfl,t6 j hj,_,_,rfl,rfl,l,_,_,i+j,rfl,eI,r6,?_,?_⟩
     ·rw[Za];exact JE kj
     ·refine⟨Y.set (i+j) (co Y (i+j)+co xs i*co U j),_,_,rfl,(p6.trans (Same.upd q0)).updr t0,?_,?_,?_⟩
      ·rw[Zt,Jx]
      ·rw[aY];exact g3
      ·rw[<-g4,JG hj,Num.JZ]
       rfl
    ·rintro o5 H3 ⟨Y,u6,u7,rfl,p6,g2,g3,g4⟩
     rw[Za,cU,Num.JZ] at g4;refine⟨Y,_,_,_,_,rfl,p6,g2,g3,?_⟩;rw[g4];exact O
   ·have h0:co xs i=0:=by
     apply ak;intro o9;apply hh;rw[Ye];simp[o9]
    rw[if_pos h0] at O;exact⟨M,_,_,_,_,rfl,o8,p7,o7,O⟩
  ·rintro o0 H' ⟨M,v4,v5,v6,v7,rfl,sm,o6,o7,O⟩
   rw[Za,cU,Num.JY] at O;subst O;refine⟨_,rfl,_,rfl,n,l,_,rfl,n1,n60,.inl (.of o6),by omega,λqq H2 sq hq=>q qq H2 (sm.trans sq) hq⟩
structure Bl3 (mg:TV):Prop where
 zip:mg "zip"=none
inductive ZhX (K:aa) (g:Int->Int->Int) (vs:TR) (H:Hp) (Q:VK) (E03:XK):Prop
 |mk (a b:Addr) (xs ys:TX):(vs=[.ref a,.ref b])->(WO K H a (xs.map V.int))->(WO K H b (ys.map V.int))->(xs.length<=100000)->(∀q H',Same H H'->H' q=some (.tup ((de g xs ys).map V.int))->Q (.ref q) H')->ZhX K g vs H Q E03
inductive Zfm (K:aa) (vs:TR) (H:Hp) (Q:VK) (E03:XK):Prop
 |mk (a:Addr) (k:Int) (xs:TX):(vs=[.ref a,.int k])->(WO K H a (xs.map V.int))->(xs.length<=100000)->((-(2 ^ 64)<k/\k<2 ^ 64))->(∀q H',Same H H'->H' q=some (.tup ((xs.map (· * k)).map V.int))->Q (.ref q) H')->Zfm K vs H Q E03
def Zqk (g:Int->Int->Int):V->V->V
 | .int x,.int y=>.int (g x y)
 |x,_=>x
theorem ZdL (g:Int->Int->Int):∀xs ys:TX,((xs.map V.int).zip (ys.map V.int)).map (λp=>Zqk g p.1 p.2)=(de g xs ys).map V.int
 | [],_=>rfl
 |_::_,[]=>rfl
 |x::xs,y::ys=>by
  exact congrArg (V.int (g x y) :: ·) (ZdL g xs ys)
theorem zip_get {xs ys:TX}{i:Nat}{x y:V}(h:((xs.map V.int).zip (ys.map V.int))[i]?=some (x,y)):∃u v,x=.int u/\y=.int v:=by
 rw[bh] at h;obtain⟨j,J⟩:=h;obtain⟨_,M⟩:=Ys j;obtain⟨_,O⟩:=Ys J;exact⟨_,_,M,O⟩
def Zql (k:Int):V->V
 | .int x=>.int (x*k)
 |x=>x
theorem ZjN (k:Int)(xs:TX):(xs.map V.int).map (Zql k)=(xs.map (· * k)).map V.int:=by
 rw[aL,aL];rfl
theorem Zlo (F:Wf K "plus" "plus" (tq 21) f fd)(T:Bl mg)(T3:Bl3 mg):ZW P w K mg base ZY 1 f fd ["one", "other"] (ZhX K (· + ·)):=by
 refine F.ok (FS (N:=["one", "other"])) (λvs H Q E h=>?_) (λo0 A j s H vs Q E hr h=>?_)
 ·obtain⟨a,b,xs,ys,rfl,_⟩:=h;rfl
 ·obtain⟨a,b,xs,ys,rfl,ha,hb,hx,q⟩:=h
  refine⟨_,Zv (ZE (ct ZD T.tuple (pc (cmp ["x", "y"] [] ["x", "y"] rfl (ZaE K T3.zip (pc (vn 0) (pc (vn 1) Zs))) (λ_ _ _ _ _=>g2 K 0 1 rfl (gn 0) (gn 1)) (λ_ _ _ _ _=>ZQ)
   (λ_ _ _ _ _=>Zz YD (vn 0) (vn 1))) Zs))),?_⟩
  refine⟨_,rfl,_,rfl,a,b,true,true,_,_,H,rfl,.tup ha,.tup hb,Same.refl _,λJ At S M=>?_⟩;refine Zak S M (Same.refl _) [] rfl (Zqk (· + ·)) (by rw[bO,Za,Za];omega) (λi x y Y O s' R g=>?_) (λD Y nD s' hD=>?_)
  ·obtain⟨u,v,rfl,rfl⟩:=zip_get O
   exact⟨_,rfl,_,rfl,_,_,rfl,rfl,g Y (Same.refl _)⟩
  ·rw[ZdL] at hD
   refine⟨D,_,rfl,.inl ⟨.of hD,λqq U=>?_⟩⟩;exact q qq _ (s'.trans (Same.upd U)) Zt
theorem ZgT (F:Wf K "scaled" "scaled" (tq 22) f fd)(T:Bl mg):ZW P w K mg base ZY 1 f fd ["one", "k"] (Zfm K):=by
 refine F.ok (FS (N:=["one", "k"])) (λvs H Q E h=>?_) (λo0 A j s H vs Q E hr h=>?_)
 ·obtain⟨a,k,xs,rfl,_⟩:=h;rfl
 ·obtain⟨a,k,xs,rfl,O,hx,hk,q⟩:=h
  refine⟨_,Zv (ZE (ct ZD T.tuple (pc (cmp ["x"] [1] ["x", "k"] rfl (itT K (vn 0)) (λ_ _ _ _ _=>gn 0) (λ_ _ _ _ _=>ZQ)
   (λ_ _ _ _ _=>Zz Z0 (vn 0) (vn 1))) Zs))),?_⟩
  refine⟨_,rfl,a,rfl,⟨_,O⟩,?_⟩;refine YX (YJ O) [some (.int k)] rfl (Zql k) (by rw[Za];omega) (λi x U J Y R g=>?_) (λD U nD Y hD=>?_)
  ·obtain⟨_,rfl⟩:=Ys J
   exact⟨_,rfl,_,rfl,_,_,rfl,rfl,.inr hk,g U (Same.refl _)⟩
  ·rw[ZjN] at hD
   refine⟨D,_,rfl,.inl ⟨.of hD,λqq M=>?_⟩⟩;exact q qq _ (Y.trans (Same.upd M)) Zt
end N30
namespace C30
open PySem L2 PySem.Spec PyProof.Rows
open Tb Pm
def W1 (H:Hp)(r:Addr)(xss:TZ):Prop:=∃rs:TU,H r=some (.tup (rs.map V.ref))/\rs.length=xss.length/\∀(i:Nat) b,rs[i]?=some b->H b=some (.tup ((xss.getD i []).map V.int))
theorem W1.mono {H j:Hp}{r:Addr}{xss:TZ}(s:Same H j)(h:W1 H r xss):W1 j r xss:=by
 obtain⟨J,M,O,U⟩:=h;exact⟨J,s _ _ M,O,λi b hb=>s _ _ (U i b hb)⟩
theorem Zhk {K:aa}{J:It}{At:Hp->Prop}{own:List Str}{Y:TY}{te:TE}{σ:L2.St}{H Hx:Hp}{Q:VK}{U:List (V×V)}(S:ZcE J At U)(o9:∀M,Same Hx M->At M)(sx:Same Hx H)(cs:L2.St)(p6:JJ own Y σ=none::none::cs)(F:Nat->TX)(hz:U.length<=1000)
  (hs:∀(i:Nat) x y M,U[i]?=some (x,y)->Same H M->∀R:VK,(∀r O,Same M O->O r=some (.tup ((F i).map V.int))->R (.ref r) O)->te (some x::some y::cs) M R)
  (hd:∀D (rs:TU) M,H D=none->Same H M->M D=some (.lst (rs.map V.ref))->rs.length=U.length->(∀(i:Nat) r,rs[i]?=some r->M r=some (.tup ((F i).map V.int)))->Q (.ref D) M):WH own Y (ZeS K 2 (JO (Ym 0) (JO (Ym 1) ZeT))) Wu te σ Q J H:=by
 have sz:=Jv;intro D hD;refine⟨λi m o5 M=>m=U.length-i/\i<=U.length/\(∃v0 v1,o5=v0::v1::cs)/\Same H M/\∃rs:TU,M D=some (.lst (rs.map V.ref))/\rs.length=i/\∀(i:Nat) r,rs[i]?=some r->M r=some (.tup ((F i).map V.int)),⟨_,rfl,aX _,⟨none,none,p6⟩,Same.upd hD,[],Zt,rfl,λi r hr=>by cases hr⟩,?_⟩;rintro i m o5 M ⟨rfl,hi,⟨v0,v1,rfl⟩,s,rs,hl,rl,hr⟩;have o0:=o9 M (sx.trans s);by_cases o6:i<U.length
 ·refine .inr ⟨S.go i M o0 o6,λo7 H2=>(∃v0 v1,o7=v0::v1::cs)/\Same H H2/\∃rs:TU,H2 D=some (.lst (rs.map V.ref))/\rs.length=i+1/\∀(i:Nat) r,rs[i]?=some r->H2 r=some (.tup ((F i).map V.int)),λo7 H2 z=>⟨U.length-(i+1),by omega,rfl,o6,z.1,z.2.1,z.2.2⟩,λx H2 hy=>?_⟩
  obtain⟨T,y,z,rfl,hT,rfl,hx⟩:=S.yld i M x H2 o0 hy;refine⟨T,_,rfl,.of Zt,rfl,_,_,rfl,_,_,rfl,rfl,?_⟩;refine tT (A:=λH4=>te (some y::some z::cs) H4 λv O=>∃xs,O D=some (.lst xs)/\xs.length<sizeLine/\(∃v0 v1,(some y::some z::cs:L2.St)=v0::v1::cs)/\Same H (upd O D (.lst (xs++[v])))/\∃rs:TU,(upd O D (.lst (xs++[v]))) D=some (.lst (rs.map V.ref))/\rs.length=i+1/\∀(i:Nat) r,rs[i]?=some r->(upd O D (.lst (xs++[v]))) r=some (.tup ((F i).map V.int))) ?_;refine hs i y z _ hx (s.trans (Same.upd hT)) _ λr O s5 h5=>?_;have s4:=(Same.upd (H:=M) (o:=.tup [y,z]) hT).trans s5;have o8:=s4 _ _ hl;refine⟨_,o8,by rw[Za];omega,⟨_,_,rfl⟩,(s.trans s4).updr hD,rs++[r],by rw[Zt,aO];rfl,by rw[Zd,rl];rfl,λj c hc=>?_⟩;have nt:∀{c:Addr}{ws:TR},O c=some (.tup ws)->upd O D (.lst (rs.map V.ref++[.ref r])) c=some (.tup ws):=λ{c ws} h=>by
   rw[Zy (λz=>by rw[z,o8] at h;cases h)];exact h
  by_cases hj:j<rs.length
  ·rw[aq hj] at hc
   exact nt (s4 _ _ (hr j c hc))
  ·rw[aw (by omega)] at hc
   have e0:j-rs.length=0:=by
    apply ak;intro z;rw[ag (by rw[Zk];omega)] at hc;cases hc
   rw[e0] at hc;cases hc;have:j=i:=by omega
   subst this;exact nt h5
 ·have e:i=U.length:=by omega
  subst e;exact .inl ⟨S.stop _ M o0 (Zq _),hd D rs M hD s hl rl hr⟩
theorem ZiP {rs j:TU}{i:Nat}{x y:V}(h:((rs.map V.ref).zip (j.map V.ref))[i]?=some (x,y)):∃a b,rs[i]?=some a/\j[i]?=some b/\x=.ref a/\y=.ref b:=by
 rw[bh,Zc,Zc] at h;obtain⟨J,M⟩:=h;cases O:rs[i]? with
 |none=>rw[O] at J;cases J
 |some a=>
  cases U:j[i]? with
  |none=>rw[U] at M;cases M
  |some b=>
   rw[O] at J;rw[U] at M;cases J;cases M;exact⟨a,b,rfl,rfl,rfl,rfl⟩
def Xs (m:Nat)(F:Nat->TX):TZ:=(ac m).map F
theorem WX (m:Nat)(F:Nat->TX):(Xs m F).length=m:=by unfold Xs;rw[Za,Zg]
theorem U8 {m i:Nat}{F:Nat->TX}(h:i<m):(Xs m F).getD i []=F i:=by
 unfold Xs;rw[Zb,Zc,ao h];rfl
theorem Zfk {H j:Hp}{D r:Addr}{rs:TU}{m:Nat}{F:Nat->TX}(s:Same H j)(h':j r=some (.tup (rs.map V.ref)))(J:rs.length=m)(M:∀(i:Nat) r,rs[i]?=some r->H r=some (.tup ((F i).map V.int))):W1 j r (Xs m F):=by
 refine⟨rs,h',by rw[WX];exact J,λi b hb=>?_⟩;have O:i<m:=by rw[<-J];exact (ab.mp hb).1
 rw[U8 O];exact s _ _ (M i b hb)
inductive UJ (vs:TR) (H:Hp) (Q:VK) (E03:XK):Prop
 |mk (n:Nat) (a b:Addr) (xss yss:TZ):(vs=[.int n,.ref a,.ref b])->(1<=n)->(n<=60)->(W1 H a xss)->(W1 H b yss)->(xss.length=yss.length)->(xss.length<=60)->((∀xs∈xss,1<=xs.length/\xs.length<=60/\N30.ZdY xs))->((∀ys∈yss,1<=ys.length/\ys.length<=60/\N30.ZdY ys))->(∀r H',Same H H'->W1 H' r (Xs xss.length λi=>Num.Jg n (N30.ZG n) (N30.RN n) (Num.Zdr (xss.getD i []) (yss.getD i [])))->Q (.ref r) H')->UJ vs H Q E03
inductive Zbz (vs:TR) (H:Hp) (Q:VK) (E03:XK):Prop
 |mk (n:Nat) (a:Addr) (xss:TZ):(vs=[.int n,.ref a])->(1<=n)->(n<=60)->(W1 H a xss)->(xss.length<=60)->((∀xs∈xss,xs.length<=60))->(∀r H',Same H H'->W1 H' r (Xs xss.length λi=>Num.Jg n (N30.ZG n) (N30.RN n) (Num.ZcN n (-1) (xss.getD i [])))->Q (.ref r) H')->Zbz vs H Q E03
theorem Vi {yss:TZ}{i:Nat}(h:i<yss.length):yss.getD i []∈yss:=by
 rw[Zb,Zf h];exact be h
theorem ZgU (F:Wf K "spread_times" "spread_times" (tq 30) f fd)(T:Bl mg)(T3:N30.Bl3 mg)(U:Fn P w K mg base ZY 4 "times" ["n", "one", "other"] (N30.Zbw K)):ZW P w K mg base ZY 5 f fd ["n", "one", "other"] UJ:=by
 refine F.ok (FS (N:=["n", "one", "other"])) (λvs H Q E h=>?_) (λo8 A Y s H vs Q E hr h=>?_)
 ·obtain⟨n,a,b,j,M,rfl,_⟩:=h;rfl
 ·obtain⟨n,a,b,j,M,rfl,n1,n60,⟨rs,a1,a2,a3⟩,⟨o0,b1,b2,b3⟩,hl,o9,hx,hy,q⟩:=h
  refine⟨_,Zv (ZE (ct ZD T.tuple (pc (cmp ["x", "y"] [0] ["x", "y", "n"] rfl (ZaE K T3.zip (pc (vn 1) (pc (vn 2) Zs))) (λ_ _ _ _ _=>g2 K 0 1 rfl (gn 0) (gn 1)) (λ_ _ _ _ _=>ZQ)
   (λ_ _ _ _ _=>YF U hr ZF (pc (vn 2) (pc (vn 0) (pc (vn 1) Zs))))) Zs))),?_⟩
  have pl:((rs.map V.ref).zip (o0.map V.ref)).length=j.length:=by rw[bO,Za,Za,a2,b2];omega
  refine⟨_,rfl,_,rfl,a,b,true,true,_,_,H,rfl,.tup (.of a1),.tup (.of b1),Same.refl _,λJ At S o5=>?_⟩;refine Zhk S o5 (Same.refl _) [some (.int (n:Nat))] rfl (λi=>Num.Jg n (N30.ZG n) (N30.RN n) (Num.Zdr (j.getD i []) (M.getD i []))) (by omega) (λi x y H' o6 O R g=>?_) (λD p6 H' nD O hD rl o7=>?_)
  ·obtain⟨c,d,e1,e2,rfl,rfl⟩:=ZiP o6
   have hi:i<j.length:=by rw[<-a2];exact (ab.mp e1).1
   obtain⟨x1,x2,x3⟩:=hx _ (Vi hi);obtain⟨y1,y2,y3⟩:=hy _ (Vi (yss:=M) (i:=i) (by omega));exact⟨_,rfl,_,rfl,_,rfl,n,c,d,_,_,rfl,n1,n60,.of (O _ _ (a3 i c e1)),.of (O _ _ (b3 i d e2)),x1,x2,y1,y2,.inr ⟨x3,y3⟩,λr H5 s5 h5=>g r H5 s5 h5⟩
  ·refine⟨D,_,rfl,.inl ⟨.of hD,λr nr=>?_⟩⟩
   exact q r _ (O.trans (Same.upd nr)) (Zfk (D:=D) (Same.upd nr) Zt (by rw[rl,pl]) o7)
theorem ZiW (F:Wf K "spread_flipped" "spread_flipped" (tq 31) f fd)(T:Bl mg)(GF:Fn P w K mg base ZY 5 "flipped" ["n", "one"] (N30.Zel K)):ZW P w K mg base ZY 6 f fd ["n", "one"] Zbz:=by
 refine F.ok (FS (N:=["n", "one"])) (λvs H Q E h=>?_) (λo0 A M s H vs Q E O h=>?_)
 ·obtain⟨n,a,j,rfl,_⟩:=h;rfl
 ·obtain⟨n,a,j,rfl,n1,n60,⟨U,a1,a2,a3⟩,o5,hx,q⟩:=h
  refine⟨_,Zv (ZE (ct ZD T.tuple (pc (cmp ["x"] [0] ["x", "n"] rfl (itT K (vn 1)) (λ_ _ _ _ _=>gn 0) (λ_ _ _ _ _=>ZQ)
   (λ_ _ _ _ _=>YF GF O ZF (pc (vn 1) (pc (vn 0) Zs)))) Zs))),?_⟩
  have pl:(U.map V.ref).length=j.length:=by rw[Za,a2]
  refine⟨_,rfl,a,rfl,⟨_,.of a1⟩,?_⟩;refine Wa (W:=Addr) id (λi r H=>H r=some (.tup ((Num.Jg n (N30.ZG n) (N30.RN n) (Num.ZcN n (-1) (j.getD i []))).map V.int))) (λ_ _=>True) (YJ (K:=K) (.of a1)) [some (.int (n:Nat))] rfl (by omega) (λi w H Y s h=>s _ _ h) (λw H Y s h=>trivial) (λi w H0 H1 D o ys o6 h h0 h1 h2=>?_) (λi y J Y s' R k=>?_) (λD ws Y nD s' hD wl hw hp=>?_)
  ·rw[Zy λz=>by rw[z,h2] at h;cases h]
   exact h
  ·rw[Zc] at J
   cases e:U[i]? with
   |none=>rw[e] at J;cases J
   |some c=>
    rw[e] at J;cases J;have hi:i<j.length:=by rw[<-a2];exact (ab.mp e).1
    exact⟨_,rfl,_,rfl,n,c,_,rfl,n1,n60,.of (s' _ _ (a3 i c e)),hx _ (Vi hi),λr H5 s5 h5=>k r H5 s5 h5 trivial⟩
  ·refine⟨D,_,rfl,.inl ⟨.of hD,λr nr=>?_⟩⟩
   exact q r _ (s'.trans (Same.upd nr)) (Zfk (D:=D) (rs:=ws) (Same.upd nr) Zt (by rw[wl,pl]) λi r O=>(hw i r O).1)
end C30
namespace Tb
def YY (t:T7)(a:Nat):Nat:=((ac t.length).find? λb=>ZT t a b == 0).getD 0
theorem Yw (P:PW t){a:Nat}(j:a<t.length):YY t a<t.length/\ZT t a (YY t a)=0:=by
 obtain⟨r,R⟩:=P.rd a j;unfold YY;cases h:(ac t.length).find? λb=>ZT t a b == 0 with
 |none=>
  exfalso;rw[jd] at h;exact h _ (af.mpr (W6 P j (r-1))) (by rw[R.bk];rfl)
 |some b=>
  have J:=af.mp (gG h);have M:=j9 h;exact⟨J,by simpa using M⟩
theorem Zke (P:PW t){a r:Nat}(j:a<t.length)(R:Rd t a r):it t a (r-1)=YY t a:=((R.un _ (Yw P j).1 (Yw P j).2)).symm
theorem VU (P:PW t){a b:Nat}(j:a<t.length)(hb:b<t.length)(h:ZT t a b=0):b=YY t a:=by
 obtain⟨r,R⟩:=P.rd a j;rw[<-Zke P j R];exact R.un b hb h
theorem Zbr (P:PW t){a:Nat}(j:a<t.length):ZT t (YY t a) a=0:=by
 obtain⟨J,U⟩:=Yw P j;obtain⟨M,O⟩:=Yw P J;have e:a=YY t (YY t a):=by
  have:=P.ass a (YY t a) (YY t (YY t a)) j J M;rw[U,O,P.one _ M,P.oneR a j] at this;exact this.symm
 conv=>lhs;rw[e]
 rw[<-e]
 conv=>lhs;rw[e]
 rw[<-e];rw[show ZT t (YY t a) a=ZT t (YY t a) (YY t (YY t a)) by rw[<-e]];exact O
def tb (t:T7)(b x:Nat):Nat:=ZT t (ZT t x b) (YY t x)
theorem XZ (P:PW t){b x:Nat}(hb:b<t.length)(j:x<t.length):tb t b x<t.length:=P.lt _ _ (P.lt _ _ j hb) (Yw P j).1
theorem Zbt (P:PW t){b:Nat}(hb:b<t.length):tb t b 0=b:=by
 have j:=P.n1;have e:YY t 0=0:=(VU P (by omega) (by omega) (P.one 0 (by omega))).symm;unfold tb;rw[e,P.one b hb,P.oneR b hb]
theorem Uh (P:PW t){b x:Nat}(hb:b<t.length)(j:x<t.length):ZT t (ZT t (YY t x) (tb t b x)) x=b:=by
 obtain⟨J,_⟩:=Yw P j;have M:=Zbr P j;unfold tb;rw[<-P.ass (YY t x) (ZT t x b) (YY t x) J (P.lt _ _ j hb) J,<-P.ass (YY t x) x b J j hb,M,P.one b hb,P.ass b (YY t x) x hb J j,M,P.oneR b hb]
theorem Zbu (P:PW t){b k x y:Nat}(hb:b<t.length)(hk:k<t.length)(J:x<t.length)(j:y<t.length)(h:tb t b x=tb t k y):∃z,z<t.length/\tb t b z=k:=by
 obtain⟨M,x2⟩:=Yw P J;obtain⟨O,y2⟩:=Yw P j;have yl:=Zbr P j;have Y:=P.lt _ _ O J;refine⟨ZT t (YY t y) x,Y,?_⟩;have e1:YY t (ZT t (YY t y) x)=ZT t (YY t x) y:=by
  refine (VU P Y (P.lt _ _ M j) ?_).symm;rw[P.ass _ x _ O J (P.lt _ _ M j),<-P.ass x (YY t x) y J M j,x2,P.one y j,yl]
 have U:=Uh P hk j;rw[<-h] at U;unfold tb at U ⊢;rw[e1,P.ass (YY t y) x b O J hb,<-P.ass (ZT t (YY t y) (ZT t x b)) (YY t x) y (P.lt _ _ O (P.lt _ _ J hb)) M j,P.ass (YY t y) (ZT t x b) (YY t x) O (P.lt _ _ J hb) M];exact U
def Yf (t:T7)(b:Nat):TY:=(ac t.length).filter λa=>(ac t.length).any λx=>tb t b x == a
theorem Yu (P:PW t){b a:Nat}(hb:b<t.length):a∈Yf t b↔∃x,x<t.length/\tb t b x=a:=by
 unfold Yf;rw[gf,aZ];constructor
 ·rintro⟨_,x,j,e⟩
  exact⟨x,af.mp j,by simpa using e⟩
 ·rintro⟨x,j,e⟩
  exact⟨af.mpr (e▸XZ P hb j),x,af.mpr j,by simpa using e⟩
theorem XR {b a:Nat}(h:a∈Yf t b):a<t.length:=af.mp (gf.mp h).1
theorem Zj6 (b:Nat):(Yf t b).Pairwise (· < ·):=dk mL iu
theorem Zcy (b:Nat):(Yf t b).length<=t.length:=by
 have:=iG (λa=>(ac t.length).any λx=>tb t b x == a) (ac t.length);rw[Zg] at this;exact this
theorem YG (P:PW t){b:Nat}(hb:b<t.length):b∈Yf t b:=(Yu P hb).mpr ⟨0,by have:=P.n1;omega,Zbt P hb⟩
theorem Yd (P:PW t){b k a:Nat}(hb:b<t.length)(j:k<t.length)(J:a∈Yf t b)(M:a∈Yf t k):k∈Yf t b:=by
 obtain⟨x,O,U⟩:=(Yu P hb).mp J;obtain⟨y,Y,e2⟩:=(Yu P j).mp M;exact (Yu P hb).mpr (Zbu P hb j O Y (U.trans e2.symm))
def ZH (t:T7):Nat->T7
 |0=>[]
 |k+1=>if (ZH t k).any (·.contains k) then ZH t k else ZH t k++[Yf t k]
def JM (j:T7)(a:Nat):Bool:=j.any (·.contains a)
theorem Ja (P:PW t):∀k,k<=t.length->∀c∈ZH t k,∃b,b<k/\c=Yf t b
 |0,_,c,h=>by cases h
 |k+1,M,c,h=>by
  unfold ZH at h;split at h
  ·obtain⟨b,J,j⟩:=Ja P k (by omega) c h
   exact⟨b,by omega,j⟩
  ·rcases bv.mp h with h|h
   ·obtain⟨b,J,j⟩:=Ja P k (by omega) c h
    exact⟨b,by omega,j⟩
   ·exact⟨k,by omega,aJ.mp h⟩
theorem Vw (P:PW t):∀k,k<=t.length->∀b,b<k->JM (ZH t k) b=true
 |0,_,b,h=>by omega
 |k+1,J,b,h=>by
  unfold JM ZH;split
  ·rename_i j
   by_cases e:b=k
   ·subst e;exact j
   ·exact Vw P k (by omega) b (by omega)
  ·rw[List.any_append,bg]
   by_cases e:b=k
   ·subst e
    right;rw[gQ,List.any_nil,i8];exact aI.mpr (YG P (by omega))
   ·left
    exact Vw P k (by omega) b (by omega)
theorem Zar (P:PW t):∀k,k<=t.length->∀(i j:Nat) (c d:TY) (a:Nat),(ZH t k)[i]?=some c->(ZH t k)[j]?=some d->a∈c->a∈d->i=j
 |0,_,i,j,c,d,a,h,_,_,_=>by cases h
 |k+1,hk,i,j,c,d,a,M,J,Y,h4=>by
  have ih:=Zar P k (by omega);unfold ZH at M J;split at M
  ·rename_i hc
   rw[if_pos hc] at J;exact ih i j c d a M J Y h4
  ·rename_i hc
   rw[if_neg hc] at J;have U:∀c,c∈ZH t k->∀a,a∈c->a∈Yf t k->False:=λc hm a ha o0=>by
    obtain⟨b,hb,rfl⟩:=Ja P k (by omega) c hm;have:=Yd P (by omega) (by omega) ha o0;exact hc (aZ.mpr ⟨_,hm,aI.mpr this⟩)
   by_cases hi:i<(ZH t k).length
   ·rw[aq hi] at M
    by_cases hj:j<(ZH t k).length
    ·rw[aq hj] at J
     exact ih i j c d a M J Y h4
    ·rw[aw (by omega)] at J
     have hd:d=Yf t k:=by
      cases O:j-(ZH t k).length with
      |zero=>rw[O] at J;cases J;rfl
      |succ m=>rw[O] at J;cases J
     subst hd;exact (U c (ah M) a Y h4).elim
   ·rw[aw (by omega)] at M
    have o5:c=Yf t k/\i=(ZH t k).length:=by
     cases O:i-(ZH t k).length with
     |zero=>rw[O] at M;cases M;exact⟨rfl,by omega⟩
     |succ m=>rw[O] at M;cases M
    obtain⟨rfl,ei⟩:=o5;by_cases hj:j<(ZH t k).length
    ·rw[aq hj] at J
     exact (U d (ah J) a h4 Y).elim
    ·rw[aw (by omega)] at J
     cases O:j-(ZH t k).length with
     |zero=>omega
     |succ m=>rw[O] at J;cases J
theorem Wx:∀k,(ZH t k).length<=k
 |0=>Zq _
 |k+1=>by
  have:=Wx k;unfold ZH;split
  ·omega
  ·rw[Zd,Zk];omega
end Tb
namespace C30
open PySem L2 PySem.Spec PyProof.Rows
open Tb Pm
structure Zfa (mg:TV):Prop where
 sorted:mg "sorted"=none
 enumerate:mg "enumerate"=none
theorem ZkJ {ns M:TX}{c:TY}(O:ci ns M)(U:ns.Pairwise (· ≤ ·))(Y:M.Nodup)(hm:∀k:Int,k∈M↔∃a∈c,k=(a:Int))(J:c.Pairwise (· < ·)):ns.map V.int=c.map nV:=by
 have e:ns=c.map λa:Nat=>(a:Int):=by
  refine PySem.W.lks_uniq (O.trans ?_) U ?_
  ·refine (cW Y ?_).mpr λk=>?_
   ·refine kF _ (λa b (h:a<b)=>?_) J
    omega
   ·rw[hm k,aC]
    exact⟨λ⟨a,j,e⟩=>⟨a,j,e.symm⟩,λ⟨a,j,e⟩=>⟨a,j,e.symm⟩⟩
  ·refine kF _ (λa b (h:a<b)=>?_) J
   omega
 rw[e,aL];rfl
inductive WR (vs:TR) (H:Hp) (Q:VK) (E03:XK):Prop
 |mk (g:Addr) (t:T7) (b x:Nat):(vs=[.ref g,.int b,.int x])->(GT H g t)->(PW t)->(b<t.length)->(x<t.length)->(Q (.int (tb t b x:Nat)) H)->WR vs H Q E03
inductive XI (vs:TR) (H:Hp) (Q:VK) (E03:XK):Prop
 |mk (g:Addr) (t:T7) (b:Nat):(vs=[.ref g,.int b])->(GT H g t)->(PW t)->(b<t.length)->(∀r H',Same H H'->H' r=some (.tup ((Yf t b).map nV))->Q (.ref r) H')->XI vs H Q E03
theorem VH (F:Wf K "turned_by" "turned_by" (tq 7) f fd)(O:Fn P w K mg base ZY 1 "back" ["group", "a"] (Zem K)):ZW P w K mg base ZY 2 f fd ["group", "b", "t"] WR:=by
 refine F.ok (FS (N:=["group", "b", "t"])) (λU H Q E h=>?_) (λY A M s H U Q E hr h=>?_)
 ·obtain⟨g,t,b,x,rfl,_⟩:=h;rfl
 ·obtain⟨g,t,b,x,rfl,G,j,hb,J,q⟩:=h
  refine⟨_,Zv (ZE (ZU (VA K) (ZU (VA K) (vn 0) (ZU (VA K) (ZU (VA K) (vn 0) (vn 2) (λ_ _=>rfl)) (vn 1) (λ_ _=>rfl)) (λ_ _=>rfl)) (YF O hr ZF (pc (vn 0) (pc (vn 2) Zs))) (λ_ _=>rfl))),?_⟩;obtain⟨r,R⟩:=j.rd x J;obtain⟨rs,r1,h1,_,h2,h3,h4⟩:=G.at j J;have ml:=j.lt _ _ J hb;obtain⟨o0,r2,g1,_,g2,g3,g4⟩:=G.at j ml;have q':Q (.int (ZT t (ZT t x b) (it t x (r-1)):Nat)) H:=by rw[Zke j J R];exact q
  exact⟨_,rfl,_,rfl,_,rfl,g,_,_,_,rfl,rfl,.of h1,h2,_,rfl,r1,_,_,_,rfl,rfl,h3.sq,h4 b hb,g,_,_,_,rfl,rfl,.of g1,g2,_,rfl,_,rfl,g,t,x,r,rfl,G,j,J,R,r2,_,_,_,rfl,rfl,g3.sq,g4 _ (W6 j J (r-1)),q'⟩
def fTb (t:T7)(b:Nat):V->V
 | .int z=>nV (tb t b z.toNat)
 |y=>y
theorem Zdk (F:Wf K "turnings" "turnings" (tq 8) f fd)(T:Bl mg)(T2:Zfa mg)(Y:Fn P w K mg base ZY 2 "turned_by" ["group", "b", "t"] WR):ZW P w K mg base ZY 3 f fd ["group", "b"] XI:=by
 refine F.ok (FS (N:=["group", "b"])) (λvs H Q E h=>?_) (λo5 A o0 s H vs Q E hr h=>?_)
 ·obtain⟨g,t,b,rfl,_⟩:=h;rfl
 ·obtain⟨g,t,b,rfl,G,U,hb,q⟩:=h
  refine⟨_,Zv (ZE (ct ZD T.tuple (pc (cb (Ze3 rfl) T2.sorted (pc (ct (Zht rfl) T.set (pc (cmp ["t"] [0,1] ["t", "group", "b"] rfl (UT T.range (pc (cb (YL K) T.len (pc (vn 0) Zs)) Zs)) (λ_ _ _ _ _=>gn 0) (λ_ _ _ _ _=>ZQ)
   (λ_ _ _ _ _=>YF Y hr ZF (pc (vn 1) (pc (vn 2) (pc (vn 0) Zs))))) Zs)) Zs)) Zs))),?_⟩
  have o6:=U.n60;obtain⟨gs,u1,u2,_⟩:=id G;have el:(gs.map V.ref).length=t.length:=by rw[Za,u2]
  refine⟨_,rfl,g,_,rfl,.inr (.of u1),_,rfl,by rw[el];omega,by rw[el];omega,?_⟩;rw[el,Zj];refine YX (Xi 0 t.length) [some (.ref g),some (.int b)] rfl (fTb t b) (by rw[Za,Y9];omega) (λi x H' J sm R gg=>?_) (λD H' hD sm M=>?_)
  ·have hi:i<t.length:=by
    have:=(ab.mp J).1;rw[Za,Y9] at this;exact this
   rw[Zc,Zc5 hi] at J;have J:x=.int (i:Int):=by
    have:=aA J;rw[<-this,cO]
   subst J;have fin:=gg H' (Same.refl _);exact⟨_,rfl,_,rfl,_,rfl,g,t,b,i,rfl,G.mono sm,U,hb,hi,fin⟩
  ·have e1:((Wo 0 t.length).map V.int).map (fTb t b)=((ac t.length).map λx=>((tb t b x:Nat):Int)).map V.int:=by
    unfold Wo;rw[aL,aL,aL];refine bn λi _=>?_;show nV (tb t b ((0:Int)+(i:Int)).toNat)=V.int _;rw[cO,Zj];rfl
   rw[e1] at M;generalize hN:((ac t.length).map λx=>((tb t b x:Nat):Int))=N at M;have nl:N.length=t.length:=by rw[<-hN,Za,Zg]
   refine⟨D,N,rfl,.of M,by omega,λp1 h1=>?_⟩;have s1:=Same.upd (o:=Zid P w p1 (U5 N N.length)) h1;have ml:(U5 N N.length).length<=N.length:=firstMet_length_le _ _;refine⟨p1,U5 N N.length,rfl,Zt,VM _ _,by omega,λl ns h2 hp hs=>?_⟩;have s2:=Same.upd (o:=.lst (ns.map V.int)) h2;have e:=ZkJ (c:=Yf t b) hp hs (VM _ _) (λk=>?_) (Zj6 b)
   ·refine⟨l,_,rfl,.inl ⟨.of Zt,λr nr=>?_⟩⟩
    exact q r _ (((sm.trans s1).trans s2).trans (Same.upd nr)) (by rw[<-e];exact Zt)
   ·rw[ZlG]
    constructor
    ·rintro⟨j,hj,e⟩
     have O:j<t.length:=by omega
     refine⟨tb t b j,(Yu U hb).mpr ⟨j,O,rfl⟩,?_⟩;rw[<-e,<-hN,Zb,Zc,ao O];rfl
    ·rintro⟨a,ha,rfl⟩
     obtain⟨x,J,e⟩:=(Yu U hb).mp ha;refine⟨x,by omega,?_⟩;rw[<-e,<-hN,Zb,Zc,ao J];rfl
end C30
namespace L2
open PySem PySem.Spec PyProof.Rows
inductive I_call_sumL (K:aa) (xs:TR) (H:Hp) (Q:VK):Prop
 |mk (a:Addr) (ns:TX):(xs=[.ref a])->(WZ K H a (ns.map V.int))->(Q (.int ns.sum) H)->I_call_sumL K xs H Q
theorem Zhs (hc:X.calm=true):YI X (.builtin "sum") (_root_.L2.I_call_sumL X.K):=by
 intro O s σ H j us Q I r h;obtain⟨a,ns,rfl,hq,q⟩:=h;obtain⟨u,rfl,ru⟩:=vals1 r;cases ru;obtain⟨J,rv,p,hz⟩:=I.list hq;have U:bW J ns:=intsAre_of rv;obtain⟨j,Y⟩:=U.allInts.items;have M:s.heap.IsList a (intItems j):=Y▸p.isList;refine sum_intListG (I.ok.hd hc) M λh' tk t' hk=>?_;have e1:ns=j.toList.map (·.1):=by
  rw[<-nums_intItems,<-Y];exact (show numsOf J.toArray.toList=ns from U.numsOf).symm
 have e2:preSum (numAt j) j.size=ns.sum:=by
  rw[preSum_eq,fJ (by simp),e1]
 rw[e2];exact⟨.int _,H,I.kept (t':=tk) hk,⟨_,rfl⟩,q⟩
theorem sumK (K:aa)(j:X.calm=true)(J:X.K=K:=by rfl):YI X (.builtin "sum") (_root_.L2.I_call_sumL K):=J▸Zhs j
theorem Zm6 {prog:Program}{w:World}{A:Around}{j:List Value}{ns:TX}(r:ZN (ns.map V.int) j):TruthOf prog w A (λi v=>j.toArray[i]?=some v) (λi=>ns.getD i 0 != 0):=by
 intro i v s Q E J O;rw[l7] at J;have hi:i<j.length:=(ab.mp J).1;have U:=r.length;rw[Za] at U;have hb:(ns.map V.int)[i]?=some (.int (ns.getD i 0)):=by
  rw[Zc,Zb,Zf (by omega)];rfl
 obtain⟨u,M,Y⟩:=r.get hb;rw[J] at M;cases M;obtain⟨t,rfl⟩:=Y;exact truthy_int O
theorem Zew {ns:TX}:((ac ns.length).any λi=>ns.getD i 0 != 0)=ns.any (· != 0):=by
 have:(ac ns.length).map (λi=>ns.getD i 0)=ns:=by
  apply n9
  ·simp
  ·intro i j J;simp at j;simp[j]
 conv=>rhs;rw[<-this,dG]
 rfl
inductive I_call_anyI (K:aa) (xs:TR) (H:Hp) (Q:VK):Prop
 |mk (a:Addr) (ns:TX):(xs=[.ref a])->(WZ K H a (ns.map V.int))->(Q (.bl (ns.any (· != 0))) H)->I_call_anyI K xs H Q
theorem Zhy (Y:X.calm=true):YI X (.builtin "any") (_root_.L2.I_call_anyI X.K):=by
 intro M s σ H xs us Q I r h;obtain⟨a,ns,rfl,hq,q⟩:=h;obtain⟨u,rfl,ru⟩:=vals1 r;cases ru;obtain⟨j,O,p,hz⟩:=I.list hq;have U:=O.length;rw[Za] at U;refine call_any_walk (fV p.isList ?_);have J:a≠s.heap.objs.size:=by obtain⟨o,n,e,_⟩:=p;exact ay (Zp e)
 refine⟨s.heap.objs.size,_,_,_,_,_,(λi=>ns.getD i 0 != 0),rfl,mD (A:=X.A.in1) (I.ok.hd Y) _ a J j.toArray,⟨⟨_,Zo _ rfl,rfl,rfl⟩,p.isList.push _⟩,Zm6 O,λh' tk k=>?_⟩;rw[Zh,<-U,Zew];refine⟨.bl _,H,I.kept (t':=tk) λb o e=>k b o ?_ (Zn _ e),rfl,q⟩;simpa using ay (Zp e)
theorem ZqK (K:aa)(j:X.calm=true)(J:X.K=K:=by rfl):YI X (.builtin "any") (_root_.L2.I_call_anyI K):=J▸Zhy j
def Its (lo st:Int)(n:Nat):It:=⟨λi _=>i<n,λi H x j=>j=H/\x=.int (lo+(i:Int)*st),λi _=>n<=i⟩
theorem Zgz {P:Program}{w:World}{K:aa}{tg:Expr}(it:Addr)(lo st:Int)(n:Nat):ZaM P w K tg (Its lo st n) [it] it (λi h=>ir h it (lo+(i:Nat)*st) ((n:Int)-(i:Nat)) st) where
 mem:=by simp
 obj:=λi h st b hb=>by
  have e:b=it:=by simpa using hb
  subst e;exact⟨_,st,λv z=>by
   have z':gK _=gq v:=z;cases z'⟩
 keep:=λi h O st k=>k it (by simp) _ st
 item:=by
  intro X Y hw hK hc i J s σ H E I U j hg;subst Y hw hK;obtain⟨f0,f1,f2,f3,f4,f5⟩:=U it (by simp);have W:=lN (prog:=X.prog) (w:=X.w) (I.ok.hd hc) it lo st n;refine W.item i s _ _ hg j λv O tk hv M kk=>?_;obtain⟨t,rfl⟩:=hv;have I1:Inv X J σ H {s with heap:=O,toks:=tk}:=I.turned (λb o hb e=>kk b o (by simpa using hb) e) f0 f1 f3 f4 f5;refine⟨_,rfl,ZdH (s:={s with heap:=O,toks:=tk}) (n:="range_iterator") M rfl rfl (by decide) ⟨.int (lo+(i:Int)*st),H,I1,⟨t,rfl⟩,⟨rfl,rfl⟩,M,λb hb=>(U b hb).1⟩⟩
 done:=by
  intro X Y hw hK hc i J s σ H E I U j hg;subst Y hw hK;obtain⟨f0,f1,f2,f3,f4,f5⟩:=U it (by simp);exact iP (I.ok.hd hc) j (by have:n<=i:=hg;omega) λO eb=>⟨rfl,I.turned (t':=s.toks) (λb o hb e=>eb b o hb e) f0 f1 f3 f4 f5⟩
 self:=λ_ _ _ _ _ j h=>iQ j h
def WQ (n st:Nat):Nat:=(n+st-1) / st
theorem JU (n st:Nat)(M:1<=st):bu 0 (n:Int) (st:Int)=(WQ n st:Nat):=by
  unfold bu WQ;rw[if_pos (by omega)];by_cases h:(0:Int)<(n:Int)
  · rw[if_pos h]
    have:((n+st-1:Nat):Int)=(n:Int)-0-1+(st:Int):=by omega
    first
    |(rw[jW,this];congr 1;omega)
    | (have j:(n+st-1) / st=(n-1) / st+1:=by
         rw[show n+st-1=(n-1)+st by omega,Nat.add_div_right _ (by omega)]
       rw[j];have J:(n:Int)-0-1=((n-1:Nat):Int):=by omega
       first
       |(rw[J,<-jW];omega)
       |(rw[show (n:Int)-1-0=((n-1:Nat):Int) by omega,<-jW];omega))
  · rw[if_neg h]
    have:n=0:=by omega
    subst this;rw[show 0+st-1=st-1 by omega,Nat.div_eq_of_lt (by omega)];rfl
theorem ZhV (n st:Nat)(j:1<=st):WQ n st<=n:=by
 unfold WQ;by_cases h:n=0
 ·subst h
  rw[show 0+st-1=st-1 by omega,Nat.div_eq_of_lt (by omega)];exact Zq _
 ·rw[Nat.div_le_iff_le_mul_add_pred (by omega)]
  have:n<=st*n:=Nat.le_mul_of_pos_left n (by omega);omega
theorem Zeq {n st:Nat}(J:1<=st)(M:n<=1000)(j:st<=1000):cL 0 (n:Int) (st:Int)=true:=by
 unfold cL;rw[JU n st J];have:=ZhV n st J;have O:((WQ n st:Nat):Int)*(st:Int)<=1000000:=by
  have:WQ n st*st<=1000*1000:=cZ (by omega) j;rw[<-aW];omega
 have U:0<=((WQ n st:Nat):Int)*(st:Int):=by
  rw[<-aW];omega
 simp only[iZ,ae,bg,decide_eq_true_eq,beq_iff_eq];refine⟨by omega,.inr ?_⟩;rw[if_pos (by omega),ae,decide_eq_true_eq,decide_eq_true_eq];omega
def Zqe (j:TA):TI:=λJ H R=>j J H λM O=>∃n st:Nat,M=[.int 0,.int n,.int st]/\1<=st/\n<=1000/\st<=1000/\R (Its 0 st (WQ n st)) O
theorem ZrF {X:Cx}{tg a b c:Expr}{ta:TA}{p pos:Pos}(hm:X.mg "range"=none)(ha:PA X [a,b,c] ta)(hg:We X.env.scope "range"=true:=by kernel_rfl)(hs:starEach [a,b,c] X.env=(false,eval a X.env)::starEach [b,c] X.env:=by rfl)(Y:(backTo pos (starEach [b,c] X.env)).any (·.1)=false:=by rfl) :
  PI X tg (.Call (.Name "range" p) [a,b,c] [] pos) (Zqe ta):=by
 intro J s σ H R I h;refine Call_ (JD I (XG hg) hm lX (bD (Yo (ha pos J s σ H _ I h) λus s1 ⟨vs,H1,I1,r1,q1⟩=>?_) hs Y));obtain⟨n,st,e,M,hn,o0,q⟩:=q1;subst e;cases r1 with
 |cons r O=>
  cases O with
  |cons r' O=>
   cases O with
   |cons o5 O=>
    cases O;obtain⟨t,rfl⟩:=r;obtain⟨U,rfl⟩:=r';obtain⟨j,rfl⟩:=o5;have lg:((st:Int)).natAbs.log2<9000:=by
     rw[Int.natAbs_natCast];have h1:st.log2<=st:=Nat.log2_le_self st;omega
    refine call_range_3 (by omega) ?_ (Or.inl (kh lg));refine jP (lr ..) (Zeq M hn o0) ?_;have I2:Inv X J σ H1 {s1 with heap:=s1.heap.push {cls:=.type "range",data:=.fields #[.int 0 t,.int (n:Int) U,.int (st:Int) j]},toks:=s1.toks}:=I1.kept λb o e=>Zn _ e;refine⟨(s1.heap.push {cls:=.type "range",data:=.fields #[.int 0 t,.int (n:Int) U,.int (st:Int) j]}).objs.size,[(s1.heap.push {cls:=.type "range",data:=.fields #[.int 0 t,.int (n:Int) U,.int (st:Int) j]}).objs.size],_,_,H1,rfl,
     I2.kept (t':=s1.toks) λb o e=>Zn _ e,Zgz _ 0 (st:Int) (WQ n st),?_,λb hb=>?_,q⟩
    ·have e1:(0:Int)+((0:Nat):Int)*(st:Int)=0:=by simp
     have e2:((WQ n st:Nat):Int)-((0:Nat):Int)=bu 0 (n:Int) (st:Int):=by rw[JU n st M];omega
     show ir _ _ ((0:Int)+((0:Nat):Int)*(st:Int)) (((WQ n st:Nat):Int)-((0:Nat):Int)) (st:Int);rw[e1,e2];exact Zo _ rfl
    ·have e:b=(s1.heap.push {cls:=.type "range",data:=.fields #[.int 0 t,.int (n:Int) U,.int (st:Int) j]}).objs.size:=by simpa using hb
     subst e;exact I2.fpOk (Zq _) (I2.hok.fresh (Zq _))
theorem ZjH {lo st:Int}{n:Nat}{g:TG}{tb:TS}{D:WY}{σ:St}{H:Hp}(Pv:Nat->St->Hp->Prop)(h0:Pv 0 σ H)
  (hs:∀i σ H,i<n->Pv i σ H->g (.int (lo+(i:Int)*st)) σ H λj U=>tb (D.lp (Pv (i+1))) j U) (hd:∀ σ H,Pv n σ H->D.nx σ H) :
  ∃W:Nat->Nat->St->Hp->Prop,(∃m,W 0 m σ H)/\∀i m σ H,W i m σ H->
   ((Its lo st n).stop i H/\D.nx σ H)\/((Its lo st n).go i H/\∃N:St->Hp->Prop,(∀ J M,N J M->∃Y,Y<m/\W (i+1) Y J M)/\∀x M,(Its lo st n).yld i H x M->g x σ M λj U=>tb (D.lp N) j U):=by
 refine⟨λi m σ H=>m=n-i/\i<=n/\Pv i σ H,⟨n,by simp,aX _,h0⟩,?_⟩;rintro i m σ H ⟨rfl,hi,p⟩;by_cases O:i<n
 ·refine .inr ⟨O,Pv (i+1),λJ M p'=>⟨n-(i+1),by omega,rfl,O,p'⟩,λx M hy=>?_⟩
  obtain⟨e,rfl⟩:=hy;subst e;exact hs i σ _ O p
 ·have e:i=n:=by omega
  subst e;exact .inl ⟨Zq _,hd σ H p⟩
end L2
namespace Tb
def sm (n:Nat)(f:Nat->Nat):Nat:=((ac n).map f).sum
theorem YA {n:Nat}{f g:Nat->Nat}(h:∀x,x<n->f x=g x):sm n f=sm n g:=by
 unfold sm;rw[bn λx j=>h x (af.mp j)]
theorem Y0 (n:Nat)(f:Nat->Nat):sm (n+1) f=sm n f+f n:=by
 unfold sm;rw[dS,aO,List.sum_append];simp
theorem ZkK (n:Nat):sm n (λ_=>0)=0:=by
 induction n with
 |zero=>rfl
 |succ n j=>rw[Y0,j]
theorem Znh (n:Nat)(f g:Nat->Nat):sm n (λx=>f x+g x)=sm n f+sm n g:=by
 induction n with
 |zero=>rfl
 |succ n j=>rw[Y0,Y0,Y0,j];omega
theorem Zer (n k:Nat)(f:Nat->Nat):sm n (λx=>k*f x)=k*sm n f:=by
 induction n with
 |zero=>rfl
 |succ n j=>rw[Y0,Y0,j,j3]
theorem ZkL (n m:Nat)(f:Nat->Nat->Nat):sm n (λx=>sm m λy=>f x y)=sm m (λy=>sm n λx=>f x y):=by
 induction n with
 |zero=>exact (ZkK m).symm
 |succ n j=>
  rw[Y0,j,<-Znh];exact YA λy _=>(Y0 n λx=>f x y).symm
theorem ZbO {n:Nat}{c d:Nat->Nat}(O:∀x,x<n->c x<n)(U:∀x,x<n->d x<n)(J:∀x,x<n->d (c x)=x)(Y:∀x,x<n->c (d x)=x)(f:Nat->Nat):sm n (λx=>f (c x))=sm n f:=by
 unfold sm;have hp:ci ((ac n).map c) (ac n):=by
  refine (cW ?_ cT).mpr λk=>?_
  ·unfold List.Nodup
   rw[ju];refine f8 (λ{a b} ha hb j z=>j ?_) cT;rw[<-J a (af.mp ha),z,J b (af.mp hb)]
  ·rw[aC]
   constructor
   ·rintro⟨x,hx,rfl⟩
    exact af.mpr (O x (af.mp hx))
   ·intro M
    exact⟨d k,af.mpr (U k (af.mp M)),Y k (af.mp M)⟩
 have:=(hp.map f).sum_nat;rw[aL] at this;exact this
theorem Zkz (P:PW t){s:Nat}(J:s<t.length)(f:Nat->Nat):sm t.length (λx=>f (tb t x s))=sm t.length f:=by
 obtain⟨M,U⟩:=Yw P J;have O:=Zbr P J;have e:YY t (YY t s)=s:=(VU P M J O).symm;refine ZbO (c:=λx=>tb t x s) (d:=λx=>tb t x (YY t s)) (λx j=>XZ P j J) (λx j=>XZ P j M) (λx j=>?_) (λx j=>?_) f
 ·show tb t (tb t x s) (YY t s)=x
  have:=Uh P j J;unfold tb at this ⊢;rw[e];exact this
 ·show tb t (tb t x (YY t s)) s=x
  have:=Uh P j M;rw[e] at this;unfold tb at this ⊢;rw[e] at this ⊢;exact this
theorem Zd7 (P:PW t){s x y:Nat}(j:s<t.length)(O:x<t.length)(M:y<t.length):tb t (ZT t x y) s=ZT t (tb t x s) (tb t y s):=by
 obtain⟨J,_⟩:=Yw P j;have hl:=Zbr P j;have U:=P.lt _ _ j O;have Y:=P.lt _ _ j M;unfold tb;rw[P.ass (ZT t s x) (YY t s) (ZT t (ZT t s y) (YY t s)) U J (P.lt _ _ Y J),<-P.ass (YY t s) (ZT t s y) (YY t s) J Y J,<-P.ass (YY t s) s y J j M,hl,P.one y M,<-P.ass s x y j O M,P.ass (ZT t s x) y (YY t s) U M J]
theorem Xh (P:PW t){s:Nat}(j:s<t.length):tb t 0 s=0:=by
 have J:=P.n1;unfold tb;rw[P.oneR s j,(Yw P j).2]
theorem Znb (P:PW t){s x:Nat}(j:s<t.length)(J:x<t.length):YY t (tb t x s)=tb t (YY t x) s:=by
 obtain⟨M,O⟩:=Yw P J;refine (VU P (XZ P J j) (XZ P M j) ?_).symm;rw[<-Zd7 P j J M,O,Xh P j]
theorem Zjg (P:PW t){x:Nat}(J:x<t.length)(F:Nat->Nat->Nat):sm t.length (λy=>F y (ZT t x y))=sm t.length (λw=>F (ZT t (YY t x) w) w):=by
 obtain⟨M,U⟩:=Yw P J;have O:=Zbr P J;have:=ZbO (c:=λy=>ZT t x y) (d:=λy=>ZT t (YY t x) y) (λy j=>P.lt _ _ J j) (λy j=>P.lt _ _ M j) (λy j=>by
  show ZT t (YY t x) (ZT t x y)=y;rw[<-P.ass _ _ _ M J j,O,P.one y j]) (λy j=>by
  show ZT t x (ZT t (YY t x) y)=y;rw[<-P.ass _ _ _ J M j,U,P.one y j]) (λw=>F (ZT t (YY t x) w) w)
 rw[<-this];refine YA λy j=>?_;show F y (ZT t x y)=F (ZT t (YY t x) (ZT t x y)) (ZT t x y);rw[<-P.ass _ _ _ M J j,O,P.one y j]
def J4 (b:Bool):Nat:=if b then 1 else 0
theorem Zh6 {n z:Nat}(hz:z<n)(f:Nat->Nat):sm n (λw=>J4 (decide (w=z))*f w)=f z:=by
 have j:∀m,m<=n->sm m (λw=>J4 (decide (w=z))*f w)=if z<m then f z else 0:=λm=>by
  induction m with
  |zero=>intro _;rfl
  |succ m J=>
   intro M;rw[Y0,J (by omega)];by_cases e:m=z
   ·subst e
    rw[if_neg (ck _),if_pos (dA _),decide_eq_true rfl];show 0+1*f m=f m;omega
   ·rw[decide_eq_false e]
    show _+0*f m=_;by_cases h:z<m
    ·rw[if_pos h,if_pos (by omega)];omega
    ·rw[if_neg h,if_neg (by omega)];omega
 rw[j n (Zq _),if_pos hz]
def cnA (t:T7)(J:Nat->Nat)(i j z:Nat):Nat:=sm t.length λx=>J4 (decide (J x=i))*J4 (decide (J (ZT t (YY t x) z)=j))
section
variable {nu:Nat->Nat}
theorem Zho (P:PW t){i j z:Nat}(hz:z<t.length):sm t.length (λx=>sm t.length λy=>J4 (decide (nu x=i))*(J4 (decide (nu y=j))*J4 (decide (ZT t x y=z))))=cnA t nu i j z:=by
 unfold cnA;refine YA λx J=>?_;rw[Zer,Zjg P J (λy w=>J4 (decide (nu y=j))*J4 (decide (w=z)))];congr 1;have:sm t.length (λw=>J4 (decide (nu (ZT t (YY t x) w)=j))*J4 (decide (w=z)))=sm t.length (λw=>J4 (decide (w=z))*J4 (decide (nu (ZT t (YY t x) w)=j))):=YA λw _=>dM _ _;rw[this,Zh6 hz λw=>J4 (decide (nu (ZT t (YY t x) w)=j))]
end
structure Nus (t:T7)(nu rep:Nat->Nat)(N:Nat):Prop where
 lt:∀x,x<t.length->nu x<N
 con:∀x s,x<t.length->s<t.length->nu (tb t x s)=nu x
 tr:∀x y,x<t.length->y<t.length->nu x=nu y->∃s,s<t.length/\tb t x s=y
 rl:∀k,k<N->rep k<t.length
 rn:∀k,k<N->nu (rep k)=k
 z:∀x,x<t.length->(nu x=0↔x=0)
section
variable {nu rep:Nat->Nat}{N:Nat}
end
section
variable {t1 t2 T:T7}
end
section
variable {On:Nat->TY}
end
section
variable {o o2:TY}
def YN (t:T7)(b:Nat):Nat:=(ZH t t.length).findIdx (·.contains b)
theorem Zaq (P:PW t){b:Nat}(hb:b<t.length):YN t b<(ZH t t.length).length/\b∈(ZH t t.length).getD (YN t b) []:=by
 have J:=Vw P t.length (Zq _) b hb;unfold JM at J;obtain⟨c,M,hm⟩:=aZ.mp J;have j:(ZH t t.length).findIdx (·.contains b)<(ZH t t.length).length:=jA ⟨c,M,hm⟩;refine⟨j,?_⟩;have O:=iN (w:=j);unfold YN;rw[Zb,Zf j];exact aI.mp O
theorem VO {α:Type}{l:List (List α)}{i:Nat}(h:i<l.length):l[i]?=some (l.getD i []):=by
 rw[Zb,Zf h];rfl
theorem Zcw (P:PW t){b i:Nat}(hb:b<t.length)(j:i<(ZH t t.length).length)(J:b∈(ZH t t.length).getD i []):YN t b=i:=by
 obtain⟨M,O⟩:=Zaq P hb;exact Zar P t.length (Zq _) _ _ _ _ b (VO M) (VO j) O J
theorem Ze2 (P:PW t){i:Nat}(j:i<(ZH t t.length).length):∃b,b<t.length/\(ZH t t.length).getD i []=Yf t b:=Ja P t.length (Zq _) _ (ah (VO j))
theorem Zj5 (P:PW t){b x:Nat}(hb:b<t.length)(j:x<t.length):YN t (tb t b x)=YN t b:=by
 have O:=XZ P hb j;obtain⟨J,M⟩:=Zaq P O;obtain⟨c,U,e⟩:=Ze2 P J;have Y:tb t b x∈Yf t b:=(Yu P hb).mpr ⟨x,j,rfl⟩;rw[e] at M;have h4:=Yd P U hb M Y;exact (Zcw P hb J (by rw[e];exact h4)).symm
theorem Zl5 (P:PW t){i:Nat}(J:i<(ZH t t.length).length):((ZH t t.length).getD i []).getD 0 0∈(ZH t t.length).getD i []/\((ZH t t.length).getD i []).getD 0 0<t.length:=by
 obtain⟨b,hb,e⟩:=Ze2 P J;rw[e];have j:=YG P hb;have:(Yf t b).getD 0 0∈Yf t b:=by
  cases h:Yf t b with
  |nil=>rw[h] at j;cases j
  |cons x r=>exact aD
 exact⟨this,XR this⟩
end
def ZL (t:T7)(k:Nat):Nat:=((ZH t t.length).getD k []).getD 0 0
theorem JI (P:PW t){k:Nat}(j:k<(ZH t t.length).length):∃b,b<t.length/\(ZH t t.length).getD k []=Yf t b:=by
 have J:(ZH t t.length).getD k []∈ZH t t.length:=by
  rw[Zb,Zf j];exact be j
 exact Ja P t.length (Zq _) _ J
theorem ZfE (P:PW t){k:Nat}(J:k<(ZH t t.length).length):ZL t k∈(ZH t t.length).getD k []:=by
 obtain⟨b,hb,e⟩:=JI P J;unfold ZL;rw[e];have j:=YG P hb;cases h:Yf t b with
 |nil=>rw[h] at j;cases j
 |cons x r=>exact aD
theorem ZiA (P:PW t){k:Nat}(j:k<(ZH t t.length).length):ZL t k<t.length:=by
 obtain⟨b,hb,e⟩:=JI P j;have:=ZfE P j;rw[e] at this;exact XR this
theorem ZcZ (P:PW t){x y:Nat}(j:x<t.length)(M:y<t.length)(h:YN t x=YN t y):∃s,s<t.length/\tb t x s=y:=by
 obtain⟨hk,U⟩:=Zaq P j;obtain⟨_,O⟩:=Zaq P M;rw[<-h] at O;obtain⟨b,hb,e⟩:=JI P hk;rw[e] at U O;obtain⟨u,hu,eu⟩:=(Yu P hb).mp U;have Y:x∈Yf t x:=YG P j;have J:b∈Yf t x:=Yd P j hb Y U;have:y∈Yf t x:=by
  obtain⟨v,hv,ev⟩:=(Yu P hb).mp O;obtain⟨q,hq,eq⟩:=(Yu P j).mp J;have o0:b∈Yf t y:=Yd P M hb (YG P M) O;have o5:y∈Yf t x:=Yd P j M J o0;exact o5
 exact (Yu P j).mp this
theorem Zbl:∀k,(ZH t (k+1))[0]?=some (Yf t 0)
 |0=>rfl
 |k+1=>by
  have j:=Zbl k;show (if (ZH t (k+1)).any (·.contains (k+1)) then ZH t (k+1) else ZH t (k+1)++[Yf t (k+1)])[0]?=_
  split
  ·exact j
  ·rw[aq (ab.mp j).1]
   exact j
theorem Zap (P:PW t):YN t 0=0:=by
 obtain⟨k,j⟩:∃k,t.length=k+1:=⟨t.length-1,by have:=P.n1;omega⟩;have h:=Zbl (t:=t) k;rw[<-j] at h;have J:=(ab.mp h).1;refine Zcw P P.n1 J ?_;rw[Zb,h];exact YG P P.n1
theorem YE (P:PW t):Nus t (YN t) (ZL t) (ZH t t.length).length:=by
 have O:=Zap P;refine⟨λx j=>(Zaq P j).1,λx s j M=>Zj5 P j M,λx y j U h=>ZcZ P j U h,λk J=>ZiA P J,λk J=>Zcw P (ZiA P J) J (ZfE P J),λx j=>⟨λh=>?_,λh=>by rw[h];exact O⟩⟩;obtain⟨s,M,e⟩:=ZcZ P P.n1 j (O.trans h.symm);rw[Xh P M] at e;exact e.symm
def YB (n:Nat)(f:Nat->Int):Int:=((ac n).map f).sum
theorem Yq (n:Nat)(f:Nat->Int):YB (n+1) f=YB n f+f n:=by
 unfold YB;rw[dS,aO,List.sum_append];simp
theorem ZJ {n:Nat}{f g:Nat->Int}(h:∀x,x<n->f x=g x):YB n f=YB n g:=by
 unfold YB;rw[bn λx j=>h x (af.mp j)]
theorem JS (n:Nat):YB n (λ_=>0)=0:=by
 induction n with
 |zero=>rfl
 |succ n j=>rw[Yq,j];rfl
theorem ZbQ (n:Nat)(f g:Nat->Int):YB n (λx=>f x+g x)=YB n f+YB n g:=by
 induction n with
 |zero=>rfl
 |succ n j=>rw[Yq,Yq,Yq,j];omega
theorem W2 (n:Nat)(k:Int)(f:Nat->Int):YB n (λx=>k*f x)=k*YB n f:=by
 induction n with
 |zero=>exact (bc k).symm
 |succ n j=>rw[Yq,Yq,j,mM]
theorem UN (n m:Nat)(f:Nat->Nat->Int):YB n (λx=>YB m λy=>f x y)=YB m (λy=>YB n λx=>f x y):=by
 induction n with
 |zero=>
  show (0:Int)=_;exact (JS m).symm
 |succ n j=>
  rw[Yq,j,<-ZbQ];exact ZJ λy _=>(Yq n _).symm
theorem X7 {n:Nat}{p:Int}{f g:Nat->Int}(h:∀x,x<n->f x % p=g x % p):YB n f % p=YB n g % p:=by
 induction n with
 |zero=>rfl
 |succ n j=>
  rw[Yq,Yq,Int.add_emod,j λx J=>h x (by omega),h n (by omega),<-Int.add_emod]
theorem ZbP {n z:Nat}(hz:z<n)(f:Nat->Int):YB n (λw=>if w=z then f w else 0)=f z:=by
 induction n with
 |zero=>omega
 |succ n j=>
  rw[Yq];by_cases e:z=n
  ·subst e
   rw[if_pos rfl];have:YB z (λw=>if w=z then f w else 0)=YB z (λ_=>0):=ZJ λx J=>if_neg (by omega)
   rw[this,JS,cO]
  ·rw[j (by omega),if_neg (λx=>e x.symm),bU]
theorem X6 (n:Nat)(f:Nat->Nat):YB n (λx=>(f x:Int))=(sm n f:Nat):=by
 induction n with
 |zero=>rfl
 |succ n j=>rw[Yq,Y0,j];omega
def cjB (t:T7)(u x:Nat):Bool:=(ac t.length).any λy=>tb t u y == x
theorem XT {t:T7}{u x:Nat}:cjB t u x=true↔∃y,y<t.length/\tb t u y=x:=by
 unfold cjB;rw[aZ];constructor
 ·rintro⟨y,j,e⟩;exact⟨y,af.mp j,eq_of_beq e⟩
 ·rintro⟨y,j,e⟩;exact⟨y,af.mpr j,beq_iff_eq.mpr e⟩
structure PrM (p:Nat):Prop where
 p2:2<=p
 nz:∀a b,0<a->a<p->0<b->b<p->a*b % p≠0
 iv:∀a,0<a->a<p->∃b,0<b/\b<p/\b*a % p=1
structure CD (t:T7)(p m:Nat)(e w f:Nat->Nat->Nat):Prop where
 pr:PrM p
 m1:1<=m
 mc:m=(ZH t t.length).length
 ec:∀s x y,s<m->x<t.length->y<t.length->e s (tb t x y)=e s x
 wc:∀s x y,s<m->x<t.length->y<t.length->w s (tb t x y)=w s x
 elt:∀s x,s<m->x<t.length->e s x<p
 wlt:∀s x,s<m->x<t.length->w s x<p
 eig:∀s u z,s<m->u<t.length->z<t.length->sm t.length (λx=>J4 (cjB t u x)*e s (ZT t (YY t x) z)) % p=w s u*e s z % p
 one:∀x,x<t.length->sm m (λs=>e s x) % p=if x=0 then 1 else 0
 du:∀s s',s<m->s'<m->sm t.length (λx=>f s x*e s' x) % p=if s=s' then 1 else 0
 sep:∀s s',s<m->s'<m->(∀u,u<t.length->w s u=w s' u)->s=s'
section
variable {e w f:Nat->Nat->Nat}
theorem CD.p0 (C:CD t p m e w f):(p:Int)≠0:=by have:=C.pr.p2;omega
def EC (t:T7)(e:Nat->Nat->Nat)(s c:Nat):Nat:=e s (ZL t c)
theorem CD.at (C:CD t p m e w f)(P:PW t){s x:Nat}(M:s<m)(J:x<t.length):e s x=EC t e s (YN t x):=by
 have U:=YE P;have j:=U.lt x J;obtain⟨y,O,h⟩:=U.tr (ZL t (YN t x)) x (U.rl _ j) J (U.rn _ j);have:=C.ec s _ y M (U.rl _ j) O;rw[h] at this;exact this
theorem CD.wat (C:CD t p m e w f)(P:PW t){s x:Nat}(M:s<m)(J:x<t.length):w s x=w s (ZL t (YN t x)):=by
 have U:=YE P;have j:=U.lt x J;obtain⟨y,O,h⟩:=U.tr (ZL t (YN t x)) x (U.rl _ j) J (U.rn _ j);have:=C.wc s _ y M (U.rl _ j) O;rw[h] at this;exact this
theorem Zat (P:PW t){u x:Nat}(j:u<t.length)(J:x<t.length):cjB t u x=decide (YN t x=YN t u):=by
 have U:=YE P;by_cases h:YN t x=YN t u
 ·rw[decide_eq_true h]
  exact XT.mpr (U.tr u x j J h.symm)
 ·rw[decide_eq_false h]
  cases q:cjB t u x with
  |false=>rfl
  |true=>
   obtain⟨y,M,e⟩:=XT.mp q;have:=U.con u y j M;rw[e] at this;exact absurd this h
theorem CD.LE (C:CD t p m e w f)(P:PW t){s i c:Nat}(M:s<m)(hi:i<m)(hc:c<m) :
  sm m (λj=>EC t e s j*cnA t (YN t) i j (ZL t c)) % p=w s (ZL t i)*EC t e s c % p:=by
 have U:=YE P;have mc:=C.mc;have O:ZL t i<t.length:=U.rl i (by omega);have J:ZL t c<t.length:=U.rl c (by omega);rw[show w s (ZL t i)*EC t e s c=w s (ZL t i)*e s (ZL t c) from rfl,<-C.eig s _ _ M O J];congr 1;have h1:sm m (λj=>EC t e s j*cnA t (YN t) i j (ZL t c))=sm m (λj=>sm t.length λx=>J4 (decide (YN t x=i))*(J4 (decide (YN t (ZT t (YY t x) (ZL t c))=j))*EC t e s j)):=YA λj _=>by
  unfold cnA;rw[<-Zer];refine YA λx _=>?_;rw[dM (EC t e s j),lz]
 rw[h1,ZkL];refine YA λx Y=>?_;rw[Zer,Zat P O Y,U.rn i (by omega)];congr 1;have hb:=(Yw P Y).1;have hl:YN t (ZT t (YY t x) (ZL t c))<m:=by rw[mc];exact U.lt _ (P.lt _ _ hb J)
 have:=Zh6 hl (λj=>EC t e s j);rw[C.at P M (P.lt _ _ hb J),<-this];refine YA λj _=>?_;congr 2;rw[decide_eq_decide];exact eq_comm
def Vc (t:T7)(p m:Nat)(e:Nat->Nat->Nat)(α:Nat->Int)(c:Nat):Int:=YB m (λs=>α s*(EC t e s c:Int)) % (p:Int)
theorem Xb {α j:Nat->Int}(h:∀s,s<m->α s % (p:Int)=j s % (p:Int))(c:Nat):Vc t p m e α c=Vc t p m e j c:=by
 unfold Vc;refine X7 λs J=>?_;rw[bS,h s J,<-bS]
theorem Zki (α:Nat->Int)(u:Int)(c:Nat):Vc t p m e α c*u % (p:Int)=Vc t p m e (λs=>α s*u) c:=by
 unfold Vc;rw[bS,gb _ (jI _),<-bS,bd,<-W2];congr 1;refine ZJ λs _=>?_;rw[<-aR,bd u]
theorem ZoO (α j:Nat->Int)(c:Nat):(Vc t p m e α c-Vc t p m e j c) % (p:Int)=Vc t p m e (λs=>α s - j s) c:=by
 unfold Vc;rw[<-iE];congr 1;have:YB m (λs=>(α s - j s)*(EC t e s c:Int))=YB m (λs=>α s*(EC t e s c:Int)+(-1)*(j s*(EC t e s c:Int))):=ZJ λs _=>by
  rw[iT];omega
 rw[this,ZbQ,W2];omega
theorem Zmc (C:CD t p m e w f)(P:PW t){i c:Nat}(J:i<m)(M:c<m)(α:Nat->Int)(k:Int) :
  (YB m (λj=>Vc t p m e α j*(cnA t (YN t) i j (ZL t c):Int))-k*Vc t p m e α c) % (p:Int)=Vc t p m e (λs=>α s*((w s (ZL t i):Int)-k)) c:=by
 have O:YB m (λj=>Vc t p m e α j*(cnA t (YN t) i j (ZL t c):Int)) % (p:Int)=YB m (λs=>α s*((w s (ZL t i):Int)*(EC t e s c:Int))) % (p:Int):=by
  have U:YB m (λj=>Vc t p m e α j*(cnA t (YN t) i j (ZL t c):Int)) % (p:Int)=YB m (λj=>YB m (λs=>α s*(EC t e s j:Int))*(cnA t (YN t) i j (ZL t c):Int)) % (p:Int):=X7 λj _=>by
   unfold Vc;rw[bS,gb _ (jI _),<-bS]
  rw[U];have Y:YB m (λj=>YB m (λs=>α s*(EC t e s j:Int))*(cnA t (YN t) i j (ZL t c):Int))=YB m (λs=>α s*YB m (λj=>((EC t e s j*cnA t (YN t) i j (ZL t c):Nat):Int))):=by
   have e3:∀j,YB m (λs=>α s*(EC t e s j:Int))*(cnA t (YN t) i j (ZL t c):Int)=YB m (λs=>α s*((EC t e s j*cnA t (YN t) i j (ZL t c):Nat):Int)):=λj=>by
    rw[bd,<-W2];refine ZJ λs _=>?_;rw[aW,<-aR,bd _ (α s),aR,bd (cnA t (YN t) i j (ZL t c):Int)]
   rw[ZJ λj _=>e3 j,UN];refine ZJ λs _=>?_;rw[<-W2]
  rw[Y];refine X7 λs hs=>?_;rw[X6,bS];have:=C.LE P hs J M;have h2:((sm m (λj=>EC t e s j*cnA t (YN t) i j (ZL t c)):Nat):Int) % (p:Int)=((w s (ZL t i):Int)*(EC t e s c:Int)) % (p:Int):=by
   rw[<-aW,<-bA,<-bA,this]
  rw[h2,<-bS]
 rw[iE,O,<-iE];have h3:(k*Vc t p m e α c) % (p:Int)=(k*YB m (λs=>α s*(EC t e s c:Int))) % (p:Int):=by
  unfold Vc;rw[bS,gb _ (jI _),<-bS]
 rw[iE,h3,<-iE];unfold Vc;congr 1;have:YB m (λs=>α s*((w s (ZL t i):Int)-k)*(EC t e s c:Int))=YB m (λs=>α s*((w s (ZL t i):Int)*(EC t e s c:Int))+(-k)*(α s*(EC t e s c:Int))):=ZJ λs _=>by
  rw[f9,iT,aR,gR,bd (α s) k,aR k];omega
 rw[this,ZbQ,W2,gR];omega
theorem Zm1 (C:CD t p m e w f)(P:PW t)(α:Nat->Int)(h:∀c,c<m->Vc t p m e α c=0):∀s,s<m->α s % (p:Int)=0:=by
 intro s O;have U:=YE P;have mc:=C.mc;have M:YB t.length (λx=>(f s x:Int)*YB m (λj=>α j*(e j x:Int))) % (p:Int)=0:=by
  have:YB t.length (λx=>(f s x:Int)*YB m (λj=>α j*(e j x:Int))) % (p:Int)=YB t.length (λ_=>0) % (p:Int):=X7 λx Y=>by
   have hc:=U.lt x Y;have hv:=h (YN t x) (by omega);unfold Vc at hv;have:YB m (λj=>α j*(e j x:Int))=YB m (λj=>α j*(EC t e j (YN t x):Int)):=ZJ λj J=>by rw[C.at P J Y]
   rw[this,bS,hv];simp
  rw[this,JS];rfl
 have h2:YB t.length (λx=>(f s x:Int)*YB m (λj=>α j*(e j x:Int)))=YB m (λj=>α j*((sm t.length (λx=>f s x*e j x):Nat):Int)):=by
  have e1:∀x,(f s x:Int)*YB m (λj=>α j*(e j x:Int))=YB m (λj=>α j*((f s x*e j x:Nat):Int)):=λx=>by
   rw[<-W2];refine ZJ λj _=>?_;rw[aW,<-aR,bd _ (α j),aR]
  rw[ZJ λx _=>e1 x,UN];refine ZJ λj _=>?_;rw[W2,X6]
 rw[h2] at M;have h3:YB m (λj=>α j*((sm t.length (λx=>f s x*e j x):Nat):Int)) % (p:Int)=YB m (λj=>if j=s then α j else 0) % (p:Int):=X7 λj J=>by
  have d:=C.du s j O J;have d2:((sm t.length (λx=>f s x*e j x):Nat):Int) % (p:Int)=(if s=j then 1 else 0:Int):=by
   rw[<-bA,d];split <;> rfl
  rw[bS,d2];by_cases q:j=s
  ·rw[if_pos q,if_pos q.symm]
   simp
  ·rw[if_neg q,if_neg (λz=>q z.symm)]
   simp
 rw[h3,ZbP O] at M;exact M
theorem ZqM (C:CD t p m e w f)(P:PW t){s c:Nat}(j:s<m)(M:c<m):Vc t p m e (λs'=>if s'=s then 1 else 0) c=(EC t e s c:Int):=by
 unfold Vc;have:YB m (λs'=>(if s'=s then (1:Int) else 0)*(EC t e s' c:Int))=YB m (λs'=>if s'=s then (EC t e s' c:Int) else 0):=ZJ λs' _=>by
  split
  ·rw[ka]
  ·rw[bC]
 rw[this,ZbP j];have J:ZL t c<t.length:=(YE P).rl c (by have:=C.mc;omega);have:=C.elt s _ j J;rw[fQ (by omega)];unfold EC;omega
theorem ZoP (C:CD t p m e w f)(P:PW t){c:Nat}(M:c<m):Vc t p m e (λ_=>1) c=if c=0 then 1 else 0:=by
 have U:=YE P;have j:c<(ZH t t.length).length:=by have:=C.mc;omega
 have J:=U.rl c j;unfold Vc;have:YB m (λs=>1*(EC t e s c:Int))=((sm m (λs=>e s (ZL t c)):Nat):Int):=by
  rw[<-X6];exact ZJ λs _=>ka _
 rw[this,<-bA,C.one _ J];have:ZL t c=0↔c=0:=by
  rw[<-U.z _ J,U.rn c j]
 by_cases h:c=0
 ·rw[if_pos (this.mpr h),if_pos h];rfl
 ·rw[if_neg (λz=>h (this.mp z)),if_neg h];rfl
end
def ffI (w:Nat):Nat->Int
 |0=>1
 |k+1=>ffI w k*((w:Int)-(k:Int))
theorem Zcq {w:Nat}:∀{k:Nat},w<k->ffI w k=0
 |0,h=>by omega
 |k+1,h=>by
  rw[ffI];by_cases e:w=k
  ·subst e
   rw[iD,bc]
  ·rw[Zcq (by omega),bC]
theorem PrM.nzI {p:Nat}(h:PrM p){a:Int}{b:Nat}(O:a % (p:Int)≠0)(hb:0<b)(j:b<p):a*(b:Int) % (p:Int)≠0:=by
 have U:=h.p2;have p0:(p:Int)≠0:=by omega
 obtain⟨r,J⟩:=a7 (dh a p0);have M:=c6 a (show (0:Int)<p by omega);rw[bS,J,<-bA b p,<-aW,<-bA,bf j];have:=h.nz r b (by omega) (by omega) hb j;omega
theorem ZjJ {p:Nat}(h:PrM p){w:Nat}(hw:w<p):∀{k:Nat},k<=w->ffI w k % (p:Int)≠0
 |0,_=>by
  have:=h.p2;rw[ffI,fQ (by omega) (by omega)];decide
 |k+1,j=>by
  rw[ffI,show (w:Int)-(k:Int)=((w-k:Nat):Int) by omega];exact h.nzI (ZjJ h hw (by omega)) (by omega) (by omega)
def fcI (p:Nat):Nat->Int
 |0=>1
 |k+1=>fcI p k*((k:Int)+1) % (p:Int)
theorem ZdK (w:Nat):∀k,ffI (w+1) (k+1)=((w:Int)+1)*ffI w k
 |0=>by
  show (1:Int)*(((w+1:Nat):Int)-0)=((w:Int)+1)*1;omega
 |k+1=>by
  rw[ffI,ZdK w k,ffI];have:((w+1:Nat):Int)-((k+1:Nat):Int)=(w:Int)-(k:Int):=by omega
  rw[this,aR]
theorem ZjL (p:Nat):∀k,fcI p k % (p:Int)=ffI k k % (p:Int)
 |0=>rfl
 |k+1=>by
  rw[fcI,ZdK,gb _ (jI _),bS,ZjL p k,<-bS,bd]
theorem ZmY {p:Nat}(j:2<=p):∀k,0<=fcI p k/\fcI p k<(p:Int)
 |0=>by unfold fcI;omega
 |k+1=>by
  rw[fcI];exact⟨dh _ (by omega),c6 _ (by omega)⟩
def Xt (S:Nat->Bool)(s:Nat):Int:=if S s then 1 else 0
theorem Zn3 {m:Nat}{S:Nat->Bool}{g:Nat->Nat}(h:∃s,s<m/\S s=true):∃M,(∃s,s<m/\S s=true/\g s=M)/\∀s,s<m->S s=true->g s<=M:=by
 induction m with
 |zero=>obtain⟨s,U,_⟩:=h;omega
 |succ m ih=>
  by_cases O:∃s,s<m/\S s=true
  ·obtain⟨M,⟨s,U,h1,h2⟩,Y⟩:=ih O
   by_cases hq:S m=true/\M<g m
   ·refine⟨g m,⟨m,by omega,hq.1,rfl⟩,λj J q=>?_⟩
    by_cases z:j=m
    ·rw[z];exact Zq _
    ·have:=Y j (by omega) q
     omega
   ·refine⟨M,⟨s,by omega,h1,h2⟩,λj J q=>?_⟩
    by_cases z:j=m
    ·subst z
     by_cases zz:M<g j
     ·exact absurd ⟨q,zz⟩ hq
     ·omega
    ·exact Y j (by omega) q
  ·obtain⟨s,U,q⟩:=h
   have:s=m:=by
    by_cases z:s=m
    ·exact z
    ·exact absurd ⟨s,by omega,q⟩ O
   subst this;refine⟨g s,⟨s,by omega,q,rfl⟩,λj J q'=>?_⟩;by_cases z:j=s
   ·rw[z];exact Zq _
   ·exact absurd ⟨j,by omega,q'⟩ O
section
variable {e w f:Nat->Nat->Nat}
def lpA (S:Nat->Bool)(g:Nat->Nat)(k s:Nat):Int:=Xt S s*ffI (g s) k
theorem ZlK (S:Nat->Bool)(g:Nat->Nat)(k:Nat):(λs=>lpA S g k s*((g s:Int)-(k:Int)))=lpA S g (k+1):=by
 funext s;unfold lpA;rw[ffI,aR]
theorem ZlJ (S:Nat->Bool)(g:Nat->Nat):lpA S g 0=Xt S:=by
 funext s;unfold lpA;rw[ffI,eR]
theorem Zn6 (C:CD t p m e w f)(P:PW t){S:Nat->Bool}{g:Nat->Nat}(O:∀s,s<m->g s<p){M:Nat}(U:∃s,s<m/\S s=true/\g s=M)(Y:∀s,s<m->S s=true->g s<=M)(k:Nat) :
  (∃c,c<m/\Vc t p m e (lpA S g k) c≠0)↔k<=M:=by
 constructor
 ·rintro⟨c,J,h⟩
  by_cases z:k<=M
  ·exact z
  ·refine absurd ?_ h
   have:Vc t p m e (lpA S g k) c=Vc t p m e (λ_=>0) c:=Xb (λs j=>by
    unfold lpA Xt;by_cases q:S s=true
    ·have:=Y s j q
     rw[Zcq (show g s<k by omega),bc]
    ·rw[if_neg q,bC]) c
   rw[this];unfold Vc;rw[ZJ (g:=λ_=>0) λs _=>bC _,JS];rfl
 ·intro hk
  obtain⟨s,j,q1,q2⟩:=U;refine ak λhn=>?_;have hz:∀c,c<m->Vc t p m e (lpA S g k) c=0:=λc J=>ak λz=>hn ⟨c,J,z⟩;have:=Zm1 C P _ hz s j;unfold lpA Xt at this;rw[if_pos q1,ka] at this;exact ZjJ C.pr (O s j) (by omega) this
def Xr (S:Nat->Bool)(g:Nat->Nat)(M:Nat)(s:Nat):Bool:=S s && decide (g s=M)
theorem Zn5 (C:CD t p m e w f){S:Nat->Bool}{g:Nat->Nat}{M:Nat}(j:∀s,s<m->S s=true->g s<=M){u:Int}(J:u*fcI p M % (p:Int)=1)(c:Nat) :
  Vc t p m e (lpA S g M) c*u % (p:Int)=Vc t p m e (Xt (Xr S g M)) c:=by
 rw[Zki];refine Xb (λs O=>?_) c;unfold lpA Xt Xr;by_cases q:S s=true
 ·rw[q,if_pos rfl,ka]
  by_cases z:g s=M
  ·rw[decide_eq_true z,z]
   show ffI M M*u % (p:Int)=1 % (p:Int);rw[bS,<-ZjL,<-bS,bd,J,fQ (by omega) (by have:=C.pr.p2;omega)]
  ·have:=j s O q
   rw[decide_eq_false z,Zcq (show g s<M by omega),bC];rfl
 ·rw[if_neg q,bC,bC]
  have:S s=false:=by cases U:S s with|true=>exact absurd U q|false=>rfl
  rw[this];rfl
def Zcg (S:Nat->Bool)(g:Nat->Nat)(M:Nat)(s:Nat):Bool:=S s && decide (g s<M)
theorem Zn7 {S:Nat->Bool}{g:Nat->Nat}{M:Nat}(j:∀s,s<m->S s=true->g s<=M)(c:Nat) :
  (Vc t p m e (Xt S) c-Vc t p m e (Xt (Xr S g M)) c) % (p:Int)=Vc t p m e (Xt (Zcg S g M)) c:=by
 rw[ZoO];refine Xb (λs J=>?_) c;congr 1;unfold Xt Xr Zcg;cases q:S s with
 |false=>rfl
 |true=>
  have:=j s J q;by_cases z:g s=M
  ·rw[decide_eq_true z,decide_eq_false (by omega)];rfl
  ·rw[decide_eq_false z,decide_eq_true (by omega)];rfl
theorem Zgs (C:CD t p m e w f)(P:PW t)(S:Nat->Bool):(∃c,c<m/\Vc t p m e (Xt S) c≠0)↔∃s,s<m/\S s=true:=by
 constructor
 ·rintro⟨c,M,h⟩
  refine ak λj=>h ?_;have:Vc t p m e (Xt S) c=Vc t p m e (λ_=>0) c:=Xb (λs J=>by
   unfold Xt;rw[if_neg (λz=>j ⟨s,J,z⟩)]) c
  rw[this];unfold Vc;rw[ZJ (g:=λ_=>0) λs _=>bC _,JS];rfl
 ·rintro⟨s,J,q⟩
  refine ak λj=>?_;have:=Zm1 C P _ (λc M=>ak λz=>j ⟨c,M,z⟩) s J;unfold Xt at this;rw[if_pos q,fQ (by omega) (by have:=C.pr.p2;omega)] at this;cases this
end
structure PtS (m:Nat)(S:Nat->Bool)(g:Nat->Nat)(Ss:List (Nat->Bool)):Prop where
 ne:∀T∈Ss,∃s,s<m/\T s=true
 sub:∀T∈Ss,∀s,s<m->T s=true->S s=true
 cov:∀s,s<m->S s=true->∃T∈Ss,T s=true
 dj:Ss.Pairwise λT T'=>∀s,s<m->T s=true->T' s=true->False
 eq:∀T∈Ss,∀s s',s<m->s'<m->T s=true->T s'=true->g s=g s'
structure PtW (m:Nat)(S:Nat->Bool)(g:Nat->Nat)(Ss:List (Nat->Bool))(R:Nat->Bool):Prop where
 ne:∀T∈Ss,∃s,s<m/\T s=true
 sub:∀T∈Ss,∀s,s<m->T s=true->S s=true
 rs:∀s,s<m->R s=true->S s=true
 cov:∀s,s<m->S s=true->R s=true\/∃T∈Ss,T s=true
 dj:Ss.Pairwise λT T'=>∀s,s<m->T s=true->T' s=true->False
 dr:∀T∈Ss,∀s,s<m->T s=true->R s=true->False
 eq:∀T∈Ss,∀s s',s<m->s'<m->T s=true->T s'=true->g s=g s'
theorem PtW.zero {m:Nat}{S:Nat->Bool}{g:Nat->Nat}:PtW m S g [] S:=
 ⟨λ_ h=>(by cases h),λ_ h=>(by cases h),λs _ h=>h,λs _ h=>.inl h,.nil,λ_ h=>(by cases h),λ_ h=>(by cases h)⟩
theorem PtW.step {m:Nat}{S R:Nat->Bool}{g:Nat->Nat}{Ss:List (Nat->Bool)}(W:PtW m S g Ss R){M:Nat}(h1:∃s,s<m/\R s=true/\g s=M)(h2:∀s,s<m->R s=true->g s<=M):PtW m S g (Ss++[Xr R g M]) (Zcg R g M):=by
 have U:∀s,Xr R g M s=true->R s=true/\g s=M:=λs h=>by
  unfold Xr at h;rw[ae,decide_eq_true_eq] at h;exact h
 have lw:∀s,Zcg R g M s=true->R s=true/\g s<M:=λs h=>by
  unfold Zcg at h;rw[ae,decide_eq_true_eq] at h;exact h
 have O:∀{T:Nat->Bool},T∈Ss++[Xr R g M]->T∈Ss\/T=Xr R g M:=λ{T} h=>by
  rcases bv.mp h with h|h
  ·exact .inl h
  ·exact .inr (aJ.mp h)
 refine⟨λT J=>?_,λT J s j q=>?_,λs j q=>W.rs s j (lw s q).1,λs j q=>?_,?_,λT J s j q1 q2=>?_,λT J s s' j o0 q Y=>?_⟩
 ·rcases O J with h|rfl
  ·exact W.ne T h
  ·obtain⟨s,j,a,b⟩:=h1
   exact⟨s,j,by unfold Xr;rw[a,decide_eq_true b];rfl⟩
 ·rcases O J with h|rfl
  ·exact W.sub T h s j q
  ·exact W.rs s j (U s q).1
 ·rcases W.cov s j q with h|⟨T,J,h⟩
  ·have:=h2 s j h
   by_cases z:g s=M
   ·exact .inr ⟨_,aU _ aD,by unfold Xr;rw[h,decide_eq_true z];rfl⟩
   ·exact .inl (by unfold Zcg;rw[h,decide_eq_true (by omega)];rfl)
  ·exact .inr ⟨T,cq _ J,h⟩
 ·rw[iM]
  refine⟨W.dj,ie _ _,λT J T' o5 s j q Y=>?_⟩;rw[aJ.mp o5] at Y;exact W.dr T J s j q (U s Y).1
 ·rcases O J with h|rfl
  ·exact W.dr T h s j q1 (lw s q2).1
  ·have a:=(U s q1).2
   have b:=(lw s q2).2;omega
 ·rcases O J with h|rfl
  ·exact W.eq T h s s' j o0 q Y
  ·rw[(U s q).2,(U s' Y).2]
theorem PtW.end {m:Nat}{S R:Nat->Bool}{g:Nat->Nat}{j:List (Nat->Bool)}(W:PtW m S g j R)(h:¬ ∃s,s<m/\R s=true):PtS m S g j:=
 ⟨W.ne,W.sub,λs J q=>by
  rcases W.cov s J q with z|z
  ·exact absurd ⟨s,J,z⟩ h
  ·exact z,W.dj,W.eq⟩
structure XA (m:Nat)(w:Nat->Nat->Nat)(i:Nat)(Ss:List (Nat->Bool)):Prop where
 ne:∀T∈Ss,∃s,s<m/\T s=true
 cov:∀s,s<m->∃T∈Ss,T s=true
 dj:Ss.Pairwise λT T'=>∀s,s<m->T s=true->T' s=true->False
 eq:∀T∈Ss,∀s s',s<m->s'<m->T s=true->T s'=true->∀j,j<i->w s j=w s' j
theorem XA.zero {m:Nat}(m1:1<=m)(w:Nat->Nat->Nat):XA m w 0 [λ_=>true]:=
 ⟨λT J=>⟨0,m1,by rw[aJ.mp J]⟩,λs _=>⟨_,aD,rfl⟩,ie _ _,λ_ _ _ _ _ _ _ _ j M=>by omega⟩
inductive FiS (m:Nat) (g:Nat->Nat):List (Nat->Bool)->List (Nat->Bool)->Prop
 |nil:FiS m g [] []
 |snoc {Ss Fs Ts:List (Nat->Bool)}{S:Nat->Bool}:FiS m g Ss Fs->PtS m S g Ts->FiS m g (Ss++[S]) (Fs++Ts)
theorem FiS.out {m:Nat}{g:Nat->Nat}{M O:List (Nat->Bool)}(h:FiS m g M O):(∀T∈O,(∃s,s<m/\T s=true)/\(∃S∈M,∀s,s<m->T s=true->S s=true)/\∀s s',s<m->s'<m->T s=true->T s'=true->g s=g s')/\(∀S∈M,∀s,s<m->S s=true->∃T∈O,T s=true):=by
 induction h with
 |nil=>exact⟨λ_ h=>(by cases h),λ_ h=>(by cases h)⟩
 |snoc h p U=>
  refine⟨λT j=>?_,λS J s Y q=>?_⟩
  ·rcases bv.mp j with j|j
   ·obtain⟨a,⟨S,J,b⟩,c⟩:=U.1 T j
    exact⟨a,⟨S,cq _ J,b⟩,c⟩
   ·exact⟨p.ne T j,⟨_,aU _ aD,p.sub T j⟩,p.eq T j⟩
  ·rcases bv.mp J with J|J
   ·obtain⟨T,j,z⟩:=U.2 S J s Y q
    exact⟨T,cq _ j,z⟩
   ·rw[aJ.mp J] at q
    obtain⟨T,j,z⟩:=p.cov s Y q;exact⟨T,aU _ j,z⟩
theorem FiS.dj {m:Nat}{g:Nat->Nat}{U Y:List (Nat->Bool)}(h:FiS m g U Y)(J:U.Pairwise λT j=>∀s,s<m->T s=true->j s=true->False):Y.Pairwise λT j=>∀s,s<m->T s=true->j s=true->False:=by
 induction h with
 |nil=>exact .nil
 |snoc h p ih=>
  rw[iM] at J ⊢;refine⟨ih J.1,p.dj,λT hT j M s O q q'=>?_⟩;obtain⟨_,⟨S,hS,b⟩,_⟩:=h.out.1 T hT;exact J.2.2 S hS _ aD s O (b s O q) (p.sub j M s O q')
theorem XA.step {m i:Nat}{w:Nat->Nat->Nat}{Ss Fs:List (Nat->Bool)}(A:XA m w i Ss)(h:FiS m (λs=>w s i) Ss Fs):XA m w (i+1) Fs:=by
 refine⟨λT O=>(h.out.1 T O).1,λs M=>?_,h.dj A.dj,λT O s U M J q q' j hj=>?_⟩
 ·obtain⟨S,Y,q⟩:=A.cov s M
  exact h.out.2 S Y s M q
 ·obtain⟨_,⟨S,Y,b⟩,c⟩:=h.out.1 T O
  by_cases z:j=i
  ·rw[z];exact c s U M J q q'
  ·exact A.eq S Y s U M J (b s M q) (b U J q') j (by omega)
def pkS (m:Nat)(T:Nat->Bool):Nat:=((ac m).find? T).getD 0
theorem XC {m:Nat}{T:Nat->Bool}(h:∃s,s<m/\T s=true):pkS m T<m/\T (pkS m T)=true:=by
 obtain⟨s,j,q⟩:=h;unfold pkS;cases z:(ac m).find? T with
 |none=>
  have:=jd.mp z s (af.mpr j);exact absurd q this
 |some x=>exact⟨af.mp (gG z),j9 z⟩
theorem ZaY {m:Nat}:∀{M:List (Nat->Bool)},(∀T∈M,∃s,s<m/\T s=true)->(M.Pairwise λT j=>∀s,s<m->T s=true->j s=true->False)->(M.map (pkS m)).Nodup
 | [],_,_=>eO
 |T::M,O,hd=>by
  rw[mX] at hd;rw[aB,bY];refine⟨λh=>?_,ZaY (λj U=>O j (aF _ U)) hd.2⟩;obtain⟨j,J,z⟩:=aC.mp h;have a:=XC (O T aD);have b:=XC (O j (aF _ J));rw[z] at b;exact hd.1 j J _ a.1 a.2 b.2
theorem XA.len {m i:Nat}{w:Nat->Nat->Nat}{j:List (Nat->Bool)}(A:XA m w i j):j.length<=m:=by
 have:=L2.Yv (j.map (pkS m)) (ac m) (ZaY A.ne A.dj) (λx J=>by
  obtain⟨T,M,rfl⟩:=aC.mp J;exact af.mpr (XC (A.ne T M)).1)
 rwa [Za,Zg] at this
theorem ZlF {l:TY}{m:Nat}(nd:l.Nodup)(J:∀x∈l,x<m)(len:l.length=m):l.Perm (ac m):=by
 have M:∀x,x<m->x∈l:=λx O=>by
  refine ak λU=>?_;have:=L2.Yv (x::l) (ac m) (bY.mpr ⟨U,nd⟩) (λy j=>by
   rcases aH.mp j with rfl|j
   ·exact af.mpr O
   ·exact af.mpr (J y j))
  rw[Zi,Zg] at this;omega
 exact (cW nd cT).mpr λx=>⟨λh=>af.mpr (J x h),λh=>M x (af.mp h)⟩
theorem Zqt {m:Nat}{J:List (Nat->Bool)}(hd:J.Pairwise λT j=>∀s,s<m->T s=true->j s=true->False){T j:Nat->Bool}(h:T∈J)(h':j∈J){s:Nat}(Y:s<m)(q:T s=true)(M:j s=true):T=j:=by
 induction hd with
 |nil=>cases h
 |cons a _ ih=>
  rcases aH.mp h with e1|h1
  ·rcases aH.mp h' with O|U
   ·rw[e1,O]
   ·rw[e1] at q
    exact (a _ U s Y q M).elim
  ·rcases aH.mp h' with O|U
   ·rw[O] at M
    exact (a _ h1 s Y M q).elim
   ·exact ih h1 U
theorem XA.full {m i:Nat}{w:Nat->Nat->Nat}{J:List (Nat->Bool)}(A:XA m w i J)(h:m<=J.length):∀T∈J,∀s s',s<m->s'<m->T s=true->T s'=true->s=s':=by
 have Y:(J.map (pkS m)).Perm (ac m):=ZlF (ZaY A.ne A.dj) (λx hx=>by
  obtain⟨T,j,rfl⟩:=aC.mp hx;exact (XC (A.ne T j)).1) (by rw[Za];have:=A.len;omega)
 have key:∀T∈J,∀s,s<m->T s=true->s=pkS m T:=λT j s O q=>by
  obtain⟨T',M,z⟩:=aC.mp (Y.mem_iff.mpr (af.mpr O));have b:=XC (A.ne T' M);rw[z] at b;rw[Zqt A.dj j M O q b.2,z]
 intro T j s s' O U q q';rw[key T j s O q,key T j s' U q']
theorem XA.skip {m i:Nat}{w:Nat->Nat->Nat}{J:List (Nat->Bool)}(A:XA m w i J)(h:m<=J.length):XA m w (i+1) J:=
 ⟨A.ne,A.cov,A.dj,λT O s U Y M q q' j _=>by rw[A.full h T O s U Y M q q']⟩
theorem XA.end {m:Nat}{w:Nat->Nat->Nat}{M:List (Nat->Bool)}(A:XA m w m M)(O:∀s s',s<m->s'<m->(∀j,j<m->w s j=w s' j)->s=s'):(M.map (pkS m)).Perm (ac m)/\∀T∈M,∀s,s<m->T s=decide (s=pkS m T):=by
 have one:∀T∈M,∀s,s<m->T s=decide (s=pkS m T):=λT J s U=>by
  have a:=XC (A.ne T J);cases q:T s with
  |true=>exact (decide_eq_true (O s _ U a.1 (A.eq T J s _ U a.1 q a.2))).symm
  |false=>
   refine (decide_eq_false λz=>?_).symm;rw[z,a.2] at q;cases q
 refine⟨?_,one⟩;refine (cW (ZaY A.ne A.dj) cT).mpr λx=>⟨λh=>?_,λh=>?_⟩
 ·obtain⟨T,J,rfl⟩:=aC.mp h
  exact af.mpr (XC (A.ne T J)).1
 ·have Y:=af.mp h
  obtain⟨T,J,q⟩:=A.cov x Y;rw[one T J x Y] at q;rw[of_decide_eq_true q];exact aC.mpr ⟨T,J,rfl⟩
def Ud (count p:Nat):Bool:=decide (p*p<=4*count) || (ac (p-2)).any λk=>p % (k+2) == 0
structure ZqX (n count p:Nat):Prop where
 st:∃J,p=(n+1)+J*n/\∀j,j<J->Ud count ((n+1)+j*n)=true
 ok:Ud count p=false
 p2:2<=p
 lt:p<=100000
structure ZqR (p z r:Nat):Prop where
 r1:1<=r
 rp:r<=p
 one:z ^ r % p=1
 nz:∀k,1<=k->k<r->z ^ k % p≠1
def RtP (n p j:Nat):Prop:=(j=1/\n=1)\/(2<=j/\j<p/\n≠1/\∃r:Nat->Nat,(∀z,2<=z->z<=j->ZqR p z (r z))/\(∀z,2<=z->z<j->r z≠n)/\r j=n)
structure TD (t:T7)(n p m:Nat)(e ω φ:Nat->Nat->Nat)(z:Nat)(dg:Nat->Nat):Prop where
 cd:CD t p m e ω φ
 n1:1<=n
 n60:n<=60
 all:∀a,a<t.length->it t a n=0
 mn:∀x,(∀a,a<t.length->it t a x=0)->x % n=0
 fit:ZqX n t.length p
 rt:RtP n p z
 d1:∀s,s<m->1<=dg s
 dp:∀s,s<m->dg s<p
 dl:∀s,s<m->dg s<=1000
 dq:∀s,s<m->((dg s:Int)*(dg s:Int)-(e s 0:Int)*(t.length:Int)) % (p:Int)=0
 dm:∀s d',s<m->1<=d'->d'<dg s->((d':Int)*(d':Int)-(e s 0:Int)*(t.length:Int)) % (p:Int)≠0
structure Dt where
 n:Nat
 p:Nat
 z:Nat
 cl:TY
 rp:TY
 E:T7
 W:T7
 F:T7
 dg:TY
def V7 (M:T7)(i j:Nat):Nat:=(M.getD i []).getD j 0
def fA (n:Nat)(f:Nat->Bool):Bool:=(ac n).all f
theorem Z4 {n:Nat}{f:Nat->Bool}(h:fA n f=true){i:Nat}(j:i<n):f i=true:=ax.mp h i (af.mpr j)
def fE (n:Nat)(f:Nat->Bool):Bool:=(ac n).any f
theorem Zf9 {n:Nat}{f:Nat->Bool}(h:fE n f=true):∃i,i<n/\f i=true:=by
 obtain⟨i,hi,q⟩:=aZ.mp h;exact⟨i,af.mp hi,q⟩
def prB (p:Nat):Bool:=decide (2<=p) && (fA (p-1) λa=>fA (p-1) λb=>(a+1)*(b+1) % p != 0) && fA (p-1) λa=>fE (p-1) λb=>(b+1)*(a+1) % p == 1
theorem Zp0 {p:Nat}(h:prB p=true):PrM p:=by
 unfold prB at h;rw[ae,ae,decide_eq_true_eq] at h;obtain⟨⟨j,J⟩,M⟩:=h;refine⟨j,λa b O U Y bp=>?_,λa O U=>?_⟩
 ·have:=Z4 (Z4 J (i:=a-1) (by omega)) (i:=b-1) (by omega)
  rw[show a-1+1=a by omega,show b-1+1=b by omega] at this;simpa using this
 ·obtain⟨b,hb,q⟩:=Zf9 (Z4 M (i:=a-1) (by omega))
  rw[show a-1+1=a by omega] at q;exact⟨b+1,by omega,by omega,eq_of_beq q⟩
def ZjI (n count p:Nat):Nat->Nat->Bool
 |0,q=>decide (q=p) && !Ud count q
 |f+1,q=>if q=p then !Ud count q else Ud count q && ZjI n count p f (q+n)
theorem Zf8 {n count p:Nat}:∀{f q:Nat},ZjI n count p f q=true->(∃J,p=q+J*n/\∀j,j<J->Ud count (q+j*n)=true)/\Ud count p=false
 |0,q,h=>by
  rw[ZjI,ae,decide_eq_true_eq] at h;obtain⟨e,h⟩:=h;subst e;exact⟨⟨0,by omega,λj M=>by omega⟩,by simpa using h⟩
 |f+1,q,h=>by
  rw[ZjI] at h;by_cases e:q=p
  ·rw[if_pos e] at h
   subst e;exact⟨⟨0,by omega,λj M=>by omega⟩,by simpa using h⟩
  ·rw[if_neg e,ae] at h
   obtain⟨⟨J,O,U⟩,Y⟩:=Zf8 h.2;refine⟨⟨J+1,by rw[O,cz];omega,λj M=>?_⟩,Y⟩;cases j with
   |zero=>rw[gt,e9];exact h.1
   |succ j=>
    have:=U j (by omega);rw[cz];rw[show q+(j*n+n)=q+n+j*n by omega];exact this
def ZnI (p z r:Nat):Bool:=decide (1<=r) && decide (r<=p) && (z ^ r % p == 1) && fA r λk=>k == 0 || z ^ k % p != 1
theorem Zlf {p z r:Nat}(h:ZnI p z r=true):ZqR p z r:=by
 unfold ZnI at h;rw[ae,ae,ae,decide_eq_true_eq,decide_eq_true_eq] at h;obtain⟨⟨⟨j,J⟩,M⟩,O⟩:=h;refine⟨j,J,eq_of_beq M,λk Y U=>?_⟩;have:=Z4 O U;rw[bg] at this;rcases this with q|q
 ·have:=eq_of_beq q
  omega
 ·simpa using q
def rdZ (p z:Nat):Nat:=(((ac p).find? λr=>z ^ (r+1) % p == 1).getD 0)+1
def rtB (n p j:Nat):Bool:=(j == 1 && n == 1) || (decide (2<=j) && decide (j<p) && n != 1 && (fA (j+1) λz=>decide (z<2) || (ZnI p z (rdZ p z) && (z == j || rdZ p z != n))) && rdZ p j == n)
theorem ZpJ {n p j:Nat}(h:rtB n p j=true):RtP n p j:=by
 unfold rtB at h;rw[bg] at h;rcases h with h|h
 ·rw[ae] at h
  exact .inl ⟨eq_of_beq h.1,eq_of_beq h.2⟩
 ·rw[ae,ae,ae,ae,decide_eq_true_eq,decide_eq_true_eq] at h
  obtain⟨⟨⟨⟨M,O⟩,U⟩,J⟩,Y⟩:=h;refine .inr ⟨M,O,by simpa using U,rdZ p,λz z2 zz=>?_,λz z2 zz=>?_,eq_of_beq Y⟩
  ·have:=Z4 J (i:=z) (by omega)
   rw[decide_eq_false (by omega),gU,ae] at this;exact Zlf this.1
  ·have:=Z4 J (i:=z) (by omega)
   rw[decide_eq_false (by omega),gU,ae,bg] at this;rcases this.2 with q|q
   ·have:=eq_of_beq q
    omega
   ·simpa using q
def itB (t:T7)(n:Nat):Bool:=(fA t.length λa=>it t a n == 0) && fA n λx=>x == 0 || fE t.length λa=>it t a x != 0
def Zl9 (t:T7)(bs:TY):Bool:=fA t.length λa=>decide (bs.getD a 0<t.length) && ZT t a (bs.getD a 0) == 0
def tbL (t:T7)(bs:TY)(b x:Nat):Nat:=ZT t (ZT t x b) (bs.getD x 0)
def clB (t:T7)(bs:TY)(D:Dt):Bool:=
 (fA t.length λx=>decide (D.cl.getD x 0<D.rp.length) && ((D.cl.getD x 0 == 0) == (x == 0)) && (fA t.length λs=>D.cl.getD (tbL t bs x s) 0 == D.cl.getD x 0) && fE t.length λs=>tbL t bs (D.rp.getD (D.cl.getD x 0) 0) s == x) &&
 fA D.rp.length λk=>decide (D.rp.getD k 0<t.length) && D.cl.getD (D.rp.getD k 0) 0 == k
def ZrV (t:T7)(bs:TY)(D:Dt):Bool:=fA D.rp.length λs=>fA D.rp.length λi=>fA D.rp.length λc=>
 sm t.length (λx=>J4 (decide (D.cl.getD x 0=i))*V7 D.E s (D.cl.getD (ZT t (bs.getD x 0) (D.rp.getD c 0)) 0)) % D.p == V7 D.W s i*V7 D.E s c % D.p
noncomputable def tdB (t:T7)(bs:TY)(D:Dt):Bool:=
 prB D.p && decide (D.p<=1000) && decide (1<=D.rp.length) && decide (1<=D.n) && decide (D.n<=60) && itB t D.n && ZjI D.n t.length D.p 60 (D.n+1) && rtB D.n D.p D.z && Zl9 t bs && clB t bs D && ZrV t bs D &&
 (fA D.rp.length λs=>fA D.rp.length λc=>decide (V7 D.E s c<D.p) && decide (V7 D.W s c<D.p)) &&
 (fA D.rp.length λc=>sm D.rp.length (λs=>V7 D.E s c) % D.p == if c=0 then 1 else 0) &&
 (fA D.rp.length λs=>fA D.rp.length λj=>sm t.length (λx=>V7 D.F s (D.cl.getD x 0)*V7 D.E j (D.cl.getD x 0)) % D.p == if s=j then 1 else 0) &&
 (fA D.rp.length λs=>fA D.rp.length λj=>s == j || fE D.rp.length λi=>V7 D.W s i != V7 D.W j i) &&
 fA D.rp.length λs=>decide (1<=D.dg.getD s 0) && decide (D.dg.getD s 0<D.p) && (((D.dg.getD s 0:Int)*(D.dg.getD s 0:Int)-(V7 D.E s 0:Int)*(t.length:Int)) % (D.p:Int) == 0) && fA (D.dg.getD s 0) λd=>d == 0 || ((d:Int)*(d:Int)-(V7 D.E s 0:Int)*(t.length:Int)) % (D.p:Int) != 0
section
variable {t:T7}{bs:TY}{D:Dt}
def eD (D:Dt)(s x:Nat):Nat:=V7 D.E s (D.cl.getD x 0)
def wD (D:Dt)(s x:Nat):Nat:=V7 D.W s (D.cl.getD x 0)
def fD (D:Dt)(s x:Nat):Nat:=V7 D.F s (D.cl.getD x 0)
theorem Zkc (P:PW t)(h:Zl9 t bs=true){a:Nat}(j:a<t.length):bs.getD a 0=YY t a:=by
 have:=Z4 h j;rw[ae,decide_eq_true_eq] at this;exact VU P j this.1 (eq_of_beq this.2)
theorem ZhQ (P:PW t)(h:Zl9 t bs=true){b x:Nat}(j:x<t.length):tbL t bs b x=tb t b x:=by
 unfold tbL tb;rw[Zkc P h j]
structure ClW (t:T7)(cl rp:Nat->Nat)(m:Nat):Prop where
 lt:∀x,x<t.length->cl x<m
 z:∀x,x<t.length->(cl x=0↔x=0)
 con:∀x s,x<t.length->s<t.length->cl (tb t x s)=cl x
 tr:∀x,x<t.length->∃s,s<t.length/\tb t (rp (cl x)) s=x
 rl:∀k,k<m->rp k<t.length
 rn:∀k,k<m->cl (rp k)=k
theorem Zj8 (P:PW t)(hb:Zl9 t bs=true)(h:clB t bs D=true):ClW t (λx=>D.cl.getD x 0) (λk=>D.rp.getD k 0) D.rp.length:=by
 unfold clB at h;rw[ae] at h;have g:∀{x},x<t.length->D.cl.getD x 0<D.rp.length/\((D.cl.getD x 0 == 0) == (x == 0))=true/\(fA t.length λs=>D.cl.getD (tbL t bs x s) 0 == D.cl.getD x 0)=true/\(fE t.length λs=>tbL t bs (D.rp.getD (D.cl.getD x 0) 0) s == x)=true:=λ{x} j=>by
  have:=Z4 h.1 j;rw[ae,ae,ae,decide_eq_true_eq] at this;exact⟨this.1.1.1,this.1.1.2,this.1.2,this.2⟩
 have g2:∀{k},k<D.rp.length->D.rp.getD k 0<t.length/\D.cl.getD (D.rp.getD k 0) 0=k:=λ{k} J=>by
  have:=Z4 h.2 J;rw[ae,decide_eq_true_eq] at this;exact⟨this.1,eq_of_beq this.2⟩
 refine⟨λx j=>(g j).1,λx j=>?_,λx s j M=>?_,λx j=>?_,λk J=>(g2 J).1,λk J=>(g2 J).2⟩
 ·have:=eq_of_beq (g j).2.1
  constructor
  ·intro q
   have q:D.cl.getD x 0=0:=q;rw[q] at this;exact eq_of_beq this.symm
  ·intro q
   rw[q] at this ⊢;exact eq_of_beq this
 ·have:=eq_of_beq (Z4 (g j).2.2.1 M)
  rw[ZhQ P hb M] at this;exact this
 ·obtain⟨s,M,q⟩:=Zf9 (g j).2.2.2
  have:=eq_of_beq q;rw[ZhQ P hb M] at this;exact⟨s,M,this⟩
variable {cl rp:Nat->Nat}{m:Nat}
theorem ClW.cj (P:PW t)(C:ClW t cl rp m){u x:Nat}(j:u<t.length)(J:x<t.length):cjB t u x=decide (cl x=cl u):=by
 by_cases h:cl x=cl u
 ·rw[decide_eq_true h]
  obtain⟨s1,h1,e1⟩:=C.tr u j;obtain⟨O,h2,U⟩:=C.tr x J;rw[h] at U;have M:=C.rl (cl u) (C.lt u j);have n1:=P.n1;have:tb t u 0=tb t (rp (cl u)) s1:=by rw[Zbt P j];exact e1.symm
  obtain⟨z,hz,ez⟩:=Zbu P j M n1 h1 this;have e3:tb t (rp (cl u)) O=tb t x 0:=by rw[Zbt P J];exact U
  have m1:u∈Yf t (rp (cl u)):=(Yu P M).mpr ⟨s1,h1,e1⟩;have m2:x∈Yf t (rp (cl u)):=(Yu P M).mpr ⟨O,h2,U⟩;have m3:rp (cl u)∈Yf t u:=(Yu P j).mpr ⟨z,hz,ez⟩;have m4:x∈Yf t u:=Yd P j J m3 (by
   have:tb t x 0=tb t (rp (cl u)) O:=e3.symm;obtain⟨z2,Y,o0⟩:=Zbu P J M n1 h2 this;exact (Yu P J).mpr ⟨z2,Y,o0⟩)
  exact XT.mpr ((Yu P j).mp m4)
 ·rw[decide_eq_false h]
  cases q:cjB t u x with
  |false=>rfl
  |true=>
   obtain⟨y,hy,e⟩:=XT.mp q;have:=C.con u y j hy;rw[e] at this;exact absurd this h
theorem Zje {n:Nat}{f:Nat->Nat}(h:∀a b,a<n->b<n->f a=f b->a=b):((ac n).map f).Nodup:=by
 rw[List.Nodup,ju];exact f8 (λ{a b} j hb ne e=>ne (h a b (af.mp j) (af.mp hb) e)) cT
theorem ClW.count (P:PW t)(C:ClW t cl rp m):m=(ZH t t.length).length:=by
 have U:=YE P;have J:∀x y,x<t.length->y<t.length->(cl x=cl y↔YN t x=YN t y):=λx y j Y=>by
  have a:=C.cj P Y j;rw[Zat P Y j] at a;exact⟨λh=>by
   rw[decide_eq_true h] at a;exact of_decide_eq_true a,λh=>by
   rw[decide_eq_true h] at a;exact of_decide_eq_true a.symm⟩
 have l1:=L2.Yv ((ac m).map λk=>YN t (rp k)) (ac (ZH t t.length).length) (by
  refine Zje λa b M hb e=>?_;have:=(J _ _ (C.rl a M) (C.rl b hb)).mpr e;rw[C.rn a M,C.rn b hb] at this;exact this) (λx j=>by
  obtain⟨k,O,rfl⟩:=aC.mp j;exact af.mpr (U.lt _ (C.rl k (af.mp O))))
 have l2:=L2.Yv ((ac (ZH t t.length).length).map λk=>cl (ZL t k)) (ac m) (by
  refine Zje λa b M hb e=>?_;have:=(J _ _ (U.rl a M) (U.rl b hb)).mp e;rw[U.rn a M,U.rn b hb] at this;exact this) (λx j=>by
  obtain⟨k,O,rfl⟩:=aC.mp j;exact af.mpr (C.lt _ (U.rl k (af.mp O))))
 rw[Za,Zg,Zg] at l1 l2;omega
theorem ClW.turn (P:PW t)(C:ClW t cl rp m)(E:Nat->Nat)(i:Nat){z y:Nat}(hz:z<t.length)(j:y<t.length):sm t.length (λx=>J4 (decide (cl x=i))*E (cl (ZT t (YY t x) (tb t z y))))=sm t.length (λx=>J4 (decide (cl x=i))*E (cl (ZT t (YY t x) z))):=by
 rw[<-Zkz P j (λx=>J4 (decide (cl x=i))*E (cl (ZT t (YY t x) (tb t z y))))];refine YA λx J=>?_;rw[C.con x y J j,Znb P j J,<-Zd7 P j (Yw P J).1 hz,C.con _ y (P.lt _ _ (Yw P J).1 hz) j]
theorem Zmm (P:PW t)(h:tdB t bs D=true):TD t D.n D.p D.rp.length (eD D) (wD D) (fD D) D.z (λs=>D.dg.getD s 0):=by
 unfold tdB at h;simp only[ae] at h;obtain⟨⟨⟨⟨⟨⟨⟨⟨⟨⟨⟨⟨⟨⟨⟨h1,h2⟩,h3⟩,h4⟩,h5⟩,h6⟩,h7⟩,h8⟩,h9⟩,o5⟩,o6⟩,o7⟩,o8⟩,o9⟩,p6⟩,p7⟩:=h;have p8:=of_decide_eq_true h2;have m1:=of_decide_eq_true h3;have n1:=of_decide_eq_true h4;have n60:=of_decide_eq_true h5;have C:=Zj8 P h9 o5;have N1:=P.n1;have pr:=Zp0 h1;have O:∀{s c},s<D.rp.length->c<D.rp.length->V7 D.E s c<D.p/\V7 D.W s c<D.p:=λ{s c} j hc=>by
  have:=Z4 (Z4 o7 j) hc;rw[ae,decide_eq_true_eq,decide_eq_true_eq] at this;exact this
 have q0:D.cl.getD 0 0=0:=(C.z 0 N1).mpr rfl;have M:∀{s},s<D.rp.length->1<=D.dg.getD s 0/\D.dg.getD s 0<D.p/\((D.dg.getD s 0:Int)*(D.dg.getD s 0:Int)-(V7 D.E s 0:Int)*(t.length:Int)) % (D.p:Int)=0/\∀d,1<=d->d<D.dg.getD s 0->((d:Int)*(d:Int)-(V7 D.E s 0:Int)*(t.length:Int)) % (D.p:Int)≠0:=λ{s} j=>by
  have:=Z4 p7 j;simp only[ae,decide_eq_true_eq] at this;obtain⟨⟨⟨a,b⟩,c⟩,d⟩:=this;refine⟨a,b,eq_of_beq c,λk k1 kd=>?_⟩;have:=Z4 d kd;rw[bg] at this;rcases this with q|q
  ·have:=eq_of_beq q
   omega
  ·simpa using q
 have e0:∀s,eD D s 0=V7 D.E s 0:=λs=>by unfold eD;rw[q0]
 unfold itB at h6;rw[ae] at h6;have U:∀a,a<t.length->it t a D.n=0:=λa Y=>eq_of_beq (Z4 h6.1 Y);obtain⟨f1,f2⟩:=Zf8 h7;refine⟨?_,n1,n60,U,λx J=>?_,⟨f1,f2,pr.p2,by omega⟩,ZpJ h8,λs j=>(M j).1,λs j=>(M j).2.1,λs j=>by have:=(M j).2.1;omega,λs j=>by rw[e0];exact (M j).2.2.1,λs d' j a b=>by rw[e0];exact (M j).2.2.2 d' a b⟩
 ·refine⟨pr,m1,C.count P,λs x y j J hy=>?_,λs x y j J hy=>?_,λs x j J=>(O j (C.lt x J)).1,λs x j J=>(O j (C.lt x J)).2,λs u z j hu hz=>?_,λx J=>?_,λs s' j o0=>?_,λs s' j o0 h=>?_⟩
  ·unfold eD
   have:=C.con x y J hy;rw[this]
  ·unfold wD
   have:=C.con x y J hy;rw[this]
  ·obtain⟨y,hy,ey⟩:=C.tr z hz
   have r6:=C.rl _ (C.lt z hz);have a1:sm t.length (λx=>J4 (cjB t u x)*eD D s (ZT t (YY t x) z))=sm t.length (λx=>J4 (decide (D.cl.getD x 0=D.cl.getD u 0))*V7 D.E s (D.cl.getD (ZT t (YY t x) z) 0)):=YA λx J=>by rw[C.cj P hu J];rfl
   have a2:=C.turn P (V7 D.E s) (D.cl.getD u 0) r6 hy;rw[ey] at a2;rw[a1,a2];have a3:=eq_of_beq (Z4 (Z4 (Z4 o6 j) (C.lt u hu)) (C.lt z hz));have a4:sm t.length (λx=>J4 (decide (D.cl.getD x 0=D.cl.getD u 0))*V7 D.E s (D.cl.getD (ZT t (bs.getD x 0) (D.rp.getD (D.cl.getD z 0) 0)) 0))=sm t.length (λx=>J4 (decide (D.cl.getD x 0=D.cl.getD u 0))*V7 D.E s (D.cl.getD (ZT t (YY t x) (D.rp.getD (D.cl.getD z 0) 0)) 0)):=YA λx J=>by rw[Zkc P h9 J]
   rw[a4] at a3;exact a3
  ·have:=eq_of_beq (Z4 o8 (C.lt x J))
   have e1:sm D.rp.length (λs=>eD D s x)=sm D.rp.length (λs=>V7 D.E s (D.cl.getD x 0)):=rfl;rw[e1,this];by_cases q:x=0
   ·rw[if_pos q,if_pos ((C.z x J).mpr q)]
   ·rw[if_neg q,if_neg (λzz=>q ((C.z x J).mp zz))]
  ·exact eq_of_beq (Z4 (Z4 o9 j) o0)
  ·have:=Z4 (Z4 p6 j) o0
   rw[bg] at this;rcases this with q|q
   ·exact eq_of_beq q
   ·obtain⟨i,hi,q⟩:=Zf9 q
    have:=h (D.rp.getD i 0) (C.rl i hi);unfold wD at this;rw[C.rn i hi] at this;rw[this] at q;simp at q
 ·have r8:∀a,a<t.length->it t a (x % D.n)=0:=λa Y=>by
   obtain⟨r,R⟩:=P.rd a Y;have r9:x % r=0:=by
    have:=J a Y;rw[Zad R] at this;apply ak;intro zz;exact R.nz _ (by omega) (bX _ R.r1) this
   have t0:D.n % r=0:=by
    have:=U a Y;rw[Zad R] at this;apply ak;intro zz;exact R.nz _ (by omega) (bX _ R.r1) this
   rw[Zad R,Zcc r9 t0];rfl
  apply ak;intro zz;have t5:=bX x (show 0<D.n by omega);have:=Z4 h6.2 t5;rw[bg] at this;rcases this with q|q
  ·exact zz (eq_of_beq q)
  ·obtain⟨a,Y,q⟩:=Zf9 q
   rw[r8 a Y] at q;simp at q
end
end Tb
namespace C30
open PySem L2 PySem.Spec PyProof.Rows
open Tb Pm
structure BlT (mg:TV):Prop where
 zip:mg "zip"=none
 sum:mg "sum"=none
inductive JR (vs:TR) (H:Hp) (Q:VK) (E03:XK):Prop
 |mk (p:Nat) (x:Int):(vs=[.int p,.int x])->(2<=p)->(p<=100000)->((∃y:Nat,1<=y/\y<p/\(y:Int)*x % (p:Int)=1))->(∀y:Nat,1<=y->y<p->(y:Int)*x % (p:Int)=1->Q (.int (y:Nat)) H)->JR vs H Q E03
inductive ZbK (K:aa) (vs:TR) (H:Hp) (Q:VK) (E03:XK):Prop
 |mk (a:Addr) (xs:TX) (e N p d:Nat):(vs=[.ref a,.int N,.int p])->(WZ K H a (xs.map V.int))->(xs[0]?=some (e:Int))->(e<=100000)->(N<=60)->(2<=p)->(p<=100000)->(1<=d)->(d<=1000)->(((d:Int)*d-e*N) % (p:Int)=0)->((∀d':Nat,1<=d'->d'<d->((d':Int)*d'-e*N) % (p:Int)≠0))->(Q (.int (d:Nat)) H)->ZbK K vs H Q E03
inductive Zh3 (vs:TR) (H:Hp) (Q:VK) (E03:XK):Prop
 |mk (n count p:Nat):(vs=[.int n,.int count])->(1<=n)->(n<=60)->(count<=4000)->(ZqX n count p)->(∀H',Same H H'->Q (.int p) H')->Zh3 vs H Q E03
theorem Zix {lo:Int}{n i:Nat}{y:V}(h:((Wo lo n).map V.int)[i]?=some y):i<n/\y=.int (lo+(i:Int)):=by
 unfold Wo at h;rw[Zc,Zc] at h;by_cases j:i<n
 ·rw[ao j] at h
  exact⟨j,(aA h).symm⟩
 ·rw[ag (by rw[Zg];omega)] at h
  cases h
theorem ZgZ (F:Wf K "back_by" "back_by" (tq 41) f fd):ZW P w K mg base ZY 1 f fd ["p", "x"] JR:=by
 refine F.ok (FS (N:=["p", "x", "found"])) (λY H Q E h=>?_) (λo0 A U s H Y Q E hr h=>?_)
 ·obtain⟨p,x,rfl,_⟩:=h;rfl
 ·obtain⟨p,x,rfl,p2,pl,⟨y,y1,yp,hy⟩,q⟩:=h
  refine⟨_,Zu (ZK 2 rfl Zw)
   (Zu (Yr au (ZM Ww (Zz Yb (Zz Z0 (vn 2) (vn 1)) (vn 0)) Zw (ZO _)) (Zv (JV (i:=2) (Z6 (by kernel_rfl)) rfl (YV (by kernel_rfl)) Zw WB (.inl rfl))))
   (Zv (ZE (vn 2)))),?_⟩
  refine Yi (λm j O=>∃k:Nat,j=[some (.int p),some (.int x),some (.int (k:Nat))]/\O=H/\1<=k/\k<=y/\m=y-k)
   (λj O=>∃k:Nat,j=[some (.int p),some (.int x),some (.int (k:Nat))]/\O=H/\1<=k/\k<p/\(k:Int)*x % (p:Int)=1) ?hend ⟨y-1,1,rfl,rfl,Zq _,y1,rfl⟩ ?turn
  case hend=>
   rintro j O ⟨k,rfl,rfl,k1,kp,hk⟩;exact⟨_,rfl,q k k1 kp hk⟩
  case turn=>
   rintro M m j O ⟨k,rfl,rfl,k1,ky,rfl⟩;refine⟨_,rfl,_,rfl,_,_,rfl,rfl,.inl ⟨by omega,by omega⟩,_,rfl,_,_,rfl,rfl,(by show (0:Int)<(p:Int);omega),rfl,_,rfl,?_⟩;refine Y6 (λJ=>?_) (λJ=>?_)
   ·have J:(k:Int)*x % (p:Int)≠1:=λz=>by
     rw[Ye,z] at J;simp at J
    have:k≠y:=λz=>by rw[z] at J;exact J hy
    exact⟨_,λ_ _ z=>z,_,rfl,_,_,rfl,rfl,y-(k+1),by omega,k+1,rfl,rfl,by omega,by omega,rfl⟩
   ·have J:(k:Int)*x % (p:Int)=1:=by
     apply ak;intro z;apply J;rw[Ye];simpa using z
    exact M _ _ ⟨k,rfl,rfl,k1,by omega,J⟩
theorem Zi5 (F:Wf K "first_of" "first_of" (tq 47) f fd):ZW P w K mg base ZY 1 f fd ["one", "count", "p"] (ZbK K):=by
 refine F.ok (FS (N:=["one", "count", "p", "d"])) (λvs H Q E h=>?_) (λo5 A Y s H vs Q E hr h=>?_)
 ·obtain⟨a,xs,e,N,p,d,rfl,_⟩:=h;rfl
 ·obtain⟨a,xs,e,N,p,d,rfl,ha,he,e5,o6,p2,pl,d1,dl,hd,hm,q⟩:=h
  refine⟨_,Zu (ZK 3 rfl Zw)
   (Zu (Yr au (ZM Ww (Zz Yb (Zz Y3 (Zz Z0 (vn 3) (vn 3)) (Zz Z0 (ZU (ixL K) (vn 0) Zw (λ_ _=>rfl)) (vn 1))) (vn 2)) Zw (ZO _)) (Zv (JV (i:=3) (Z6 (by kernel_rfl)) rfl (YV (by kernel_rfl)) Zw WB (.inl rfl))))
   (Zv (ZE (vn 3)))),?_⟩
  have h0:(xs.map V.int)[0]?=some (.int (e:Int)):=by rw[Zc,he];rfl
  have o0:Xy (xs.map V.int) 0=some (.int (e:Int)):=by
   show Xy (xs.map V.int) ((0:Nat):Int)=_
   first
   |(rw[O];exact h0)
   |(rw[ZR];exact h0)
   |simpa [Xy] using h0
  refine Yi (λm j U=>∃k:Nat,j=[some (.ref a),some (.int (N:Nat)),some (.int (p:Nat)),some (.int (k:Nat))]/\U=H/\1<=k/\k<=d/\m=d-k)
   (λj U=>j=[some (.ref a),some (.int (N:Nat)),some (.int (p:Nat)),some (.int (d:Nat))]/\U=H) ?hend ⟨d-1,1,rfl,rfl,Zq _,d1,rfl⟩ ?turn
  case hend=>
   rintro j U ⟨rfl,rfl⟩;exact⟨_,rfl,q⟩
  case turn=>
   rintro M m j U ⟨k,rfl,rfl,k1,ky,rfl⟩;refine⟨_,rfl,_,rfl,_,_,rfl,rfl,.inl ⟨by omega,by omega⟩,_,rfl,a,_,_,_,rfl,rfl,ha,o0,_,rfl,_,_,rfl,rfl,.inl ⟨by omega,by omega⟩,_,_,rfl,rfl,_,rfl,_,_,rfl,rfl,(by show (0:Int)<(p:Int);omega),rfl,_,rfl,?_⟩;refine Y6 (λJ=>?_) (λJ=>?_)
   ·have J:((k:Int)*k-e*N) % (p:Int)≠0:=λz=>by
     rw[Ye,z] at J;simp at J
    have:k≠d:=λz=>by rw[z] at J;exact J hd
    exact⟨_,λ_ _ z=>z,_,rfl,_,_,rfl,rfl,d-(k+1),by omega,k+1,rfl,rfl,by omega,by omega,rfl⟩
   ·have J:((k:Int)*k-e*N) % (p:Int)=0:=by
     apply ak;intro z;apply J;rw[Ye];simpa using z
    have:k=d:=by
     apply ak;intro z;exact hm k k1 (by omega) J
    subst this;exact M _ _ ⟨rfl,rfl⟩
theorem ZnV (F:Wf K "fit_prime" "fit_prime" (tq 39) f fd)(T:Bl mg):ZW P w K mg base ZY 1 f fd ["n", "count"] Zh3:=by
 refine F.ok (FS (N:=["n", "count", "p"])) (λvs H Q E h=>?_) (λp6 A o7 s H vs Q E hr h=>?_)
 ·obtain⟨n,count,p,rfl,_⟩:=h;rfl
 ·obtain⟨n,count,p,rfl,n1,n60,cl,Fp,q⟩:=h
  refine⟨_,Zu (ZK 2 rfl (Zz YD (vn 0) Zw))
   (Zu (Yr au (ZfK (ZM Zp1 (Zz Z0 (vn 2) (vn 2)) (Zz Z0 Zw (vn 1)) (ZO _)) (Zb4 (XL (cb (Vx rfl) T.any (pc (cmp ["k"] [2] ["k", "p"] rfl (ZrG T.range (pc Zw (pc (vn 2) Zs))) (λ_ _ _ _ _=>gn 0) (λ_ _ _ _ _=>ZQ) (λ_ _ _ _ _=>Xm Zdj (Zz Yb (vn 1) (vn 0)) Zw (ZO _))) Zs))))).pt
    (Zv (JV (i:=2) (Z6 (by kernel_rfl)) rfl (YV (by kernel_rfl)) (vn 0) WB (.inl rfl))))
   (Zv (ZE (vn 2)))),?_⟩
  obtain⟨J,eJ,hJ⟩:=Fp.st;have pl:=Fp.lt;have p2:=Fp.p2;refine⟨_,rfl,_,_,rfl,rfl,?_⟩;refine Yi (λm M H'=>∃j:Nat,M=[some (.int (n:Nat)),some (.int (count:Nat)),some (.int (((n+1)+j*n:Nat):Int))]/\Same H H'/\j<=J/\m=J-j)
   (λM H'=>M=[some (.int (n:Nat)),some (.int (count:Nat)),some (.int (p:Nat))]/\Same H H') ?hend ⟨J,0,by rw[gt,e9];rfl,Same.refl _,aX _,rfl⟩ ?turn
  case hend=>
   rintro M H' ⟨rfl,sm⟩;exact⟨_,rfl,q H' sm⟩
  case turn=>
   rintro O m M H' ⟨j,rfl,sm,jJ,rfl⟩;have jn:(n+1)+j*n<=p:=by rw[eJ];have:=cv n jJ;omega
   have o8:Ud count ((n+1)+j*n)=true\/(n+1)+j*n=p:=by
    by_cases z:j=J
    ·exact .inr (by rw[eJ,z])
    ·exact .inl (hJ j (by omega))
   have ok:=Fp.ok;have p7:2<=(n+1)+j*n:=by omega
   have U:(n+1)+j*n≠p->j<J:=λz=>by
    by_cases e:j=J
    ·exact absurd (by rw[eJ,e]) z
    ·omega
   have o0:(((n+1)+j*n:Nat):Int)+(n:Int)=(((n+1)+(j+1)*n:Nat):Int):=by
    rw[cz];omega
   generalize hx:(n+1)+j*n=x at *;refine⟨_,rfl,_,rfl,_,_,rfl,rfl,.inl ⟨by omega,by omega⟩,_,rfl,_,_,rfl,rfl,.inl ⟨by omega,by omega⟩,_,_,rfl,rfl,_,rfl,?_⟩;refine Y6 (λY=>?_) (λY=>?_)
   ·have Y:x*x<=4*count:=by have:=of_decide_eq_true Y;rw[<-aW] at this;omega
    have hb:Ud count x=true:=by unfold Ud;rw[decide_eq_true Y];rfl
    have:=U (λz=>by rw[z,ok] at hb;cases hb);refine (Y6 (λ_=>?_) (λh=>absurd rfl h));exact⟨_,λ_ _ z=>z,_,rfl,_,rfl,_,_,rfl,rfl,J-(j+1),by omega,j+1,by rw[<-o0];rfl,sm,by omega,rfl⟩
   ·have Y:¬x*x<=4*count:=λz=>Y (decide_eq_true (by rw[<-aW];omega))
    refine⟨_,rfl,_,_,rfl,⟨by omega,by omega,by omega,by omega⟩,?_⟩;rw[show ((x:Nat):Int)-2=((x-2:Nat):Int) by omega,Zj];refine YX (Xi 2 (x-2)) [some (.int (x:Nat))] rfl (λy=>match y with | .int z=>.bl ((x:Int) % z == 0)|y=>y) (by rw[Za,Y9];omega) (λi y H2 hy s2 R gg=>?_) (λD H2 hD s2 o9=>?_)
    ·obtain⟨hi,rfl⟩:=Zix hy
     have o5:=gg H2 (Same.refl _);dsimp only at o5;refine⟨_,rfl,_,rfl,_,_,rfl,rfl,(by show (0:Int)<2+(i:Int);omega),rfl,?_⟩;have e:decide (V.int ((x:Int) % (2+(i:Int)))=V.int 0)=((x:Int) % (2+(i:Int)) == 0):=by
      by_cases h:(x:Int) % (2+(i:Int))=0
      ·rw[h];rfl
      ·rw[decide_eq_false (λz=>h (by injection z)),beq_eq_false_iff_ne.mpr h]
     rw[e];exact o5
    ·refine⟨D,(ac (x-2)).map λk=>x % (k+2) == 0,rfl,.of ?_,?_⟩
     ·rw[o9]
      unfold Wo;rw[aL,aL,aL];congr 2;refine bn λi _=>?_;show V.bl ((x:Int) % (2+(i:Int)) == 0)=V.bl (x % (i+2) == 0);congr 1;have:(x:Int) % (2+(i:Int))=((x % (i+2):Nat):Int):=by
       rw[show (2:Int)+(i:Int)=((i+2:Nat):Int) by omega];rfl
      rw[this];cases hq:(x % (i+2) == 0) with
      |true=>rw[eq_of_beq hq];rfl
      |false=>
       have:=ne_of_beq_false hq;exact beq_eq_false_iff_ne.mpr (by omega)
     ·have ea:((ac (x-2)).map λk=>x % (k+2) == 0).any id=(ac (x-2)).any λk=>x % (k+2) == 0:=by rw[dG];rfl
      rw[ea];have eb:Ud count x=((ac (x-2)).any λk=>x % (k+2) == 0):=by unfold Ud;rw[decide_eq_false Y,gU]
      rw[<-eb];have o6:=sm.trans s2;refine⟨_,rfl,Y6 (λh2=>?_) (λh2=>?_)⟩
      ·have:=U (λz=>by rw[z,ok] at h2;cases h2)
       exact⟨_,λ_ _ z=>z,_,rfl,_,rfl,_,_,rfl,rfl,J-(j+1),by omega,j+1,by rw[<-o0];rfl,o6,by omega,rfl⟩
      ·have:x=p:=by
        rcases o8 with z|z
        ·exact absurd z h2
        ·exact z
       subst this;exact O _ _ ⟨rfl,o6⟩
theorem ZrM {a b:Int}(h:(!decide (V.int a=V.int b))=true):a≠b:=λe=>by rw[e,decide_eq_true rfl] at h;cases h
theorem ZrN {a b:Int}(h:¬(!decide (V.int a=V.int b))=true):a=b:=by
 apply ak;intro e;exact h (by rw[decide_eq_false (λz=>e (by injection z))];rfl)
def Jc (p z n:Nat):TR:=(ac n).map λj=>V.int ((z ^ j % p:Nat):Int)
theorem Zdd (p z n:Nat):Jc p z (n+1)=Jc p z n++[V.int ((z ^ n % p:Nat):Int)]:=by
 unfold Jc;rw[dS,aO];rfl
theorem Ur (p z n:Nat):(Jc p z n).length=n:=by unfold Jc;rw[Za,Zg]
theorem ZkY (p z k:Nat):((z ^ k % p:Nat):Int)*(z:Int) % (p:Int)=((z ^ (k+1) % p:Nat):Int):=by
 rw[<-aW,<-bA,Nat.pow_succ,Nat.mod_mul_mod]
inductive ZbB (vs:TR) (H:Hp) (Q:VK) (E03:XK):Prop
 |mk (n p z0:Nat):(vs=[.int n,.int p])->(1<=n)->(n<=60)->(2<=p)->(p<=100000)->(RtP n p z0)->(∀L H',H L=none->Same H H'->H' L=some (.lst (Jc p z0 n))->Q (.ref L) H')->ZbB vs H Q E03
theorem ZiY (F:Wf K "root_powers" "root_powers" (tq 40) f fd)(T:Bl mg):ZW P w K mg base ZY 1 f fd ["n", "p"] ZbB:=by
 refine F.ok (FS (N:=["n", "p", "z", "powers"])) (λvs H Q E h=>?_) (λt6 A q0 s H vs Q E hr h=>?_)
 ·obtain⟨n,p,z0,rfl,_⟩:=h;rfl
 ·obtain⟨n,p,z0,rfl,n1,n60,p2,pl,R,q⟩:=h
  refine⟨_,Zu (ZK 2 rfl Zw)
   (Zu (ZK 3 rfl (ZS (pc Zw Zs)))
   (Zu (Yr au (ZM Ww (cb (YL K) T.len (pc (vn 3) Zs)) (vn 0) (ZO _))
    (Zu (JV (i:=2) (Z6 (by kernel_rfl)) rfl (YV (by kernel_rfl)) Zw WB (.inl rfl))
    (Zu (ZK 3 rfl (ZS (pc Zw Zs)))
    (Zv (Yr au (ZM Ww (Zz Yb (Zz Z0 (ZU (ixL K) (vn 3) (JN Wz Zw) (λ_ _=>rfl)) (vn 2)) (vn 1)) Zw (ZO _))
     (Zv (Yx (Wv aM aS aT Z3 (vn 3) (pc (Zz Yb (Zz Z0 (ZU (ixL K) (vn 3) (JN Wz Zw) (λ_ _=>rfl)) (vn 2)) (vn 1)) Zs)))))))))
   (Zv (ZE (vn 3))))),?_⟩
  have t5:(1:Int)=((1 ^ 0 % p:Nat):Int):=by rw[Nat.pow_zero,bf (by omega)];rfl
  have o5:∀z:Nat,V.int 1=V.int ((z ^ 0 % p:Nat):Int):=λz=>by rw[Nat.pow_zero,bf (by omega)];rfl
  have sz:=Jv;refine⟨JL,λL0 o8=>?_⟩;have s0:=Same.upd (H:=H) (o:=.lst [.int 1]) o8;have h0:upd H L0 (.lst [.int 1]) L0=some (.lst (Jc p 1 1)):=by
   rw[Zt];show some (HO.lst [V.int 1])=some (HO.lst [V.int ((1 ^ 0 % p:Nat):Int)]);rw[o5 1]
  generalize upd H L0 (.lst [.int 1])=H0 at s0 h0 ⊢;refine Yi (λm j J=>∃(z k:Nat) (L:Addr),j=[some (.int (n:Nat)),some (.int (p:Nat)),some (.int (z:Nat)),some (.ref L)]/\Same H J/\H L=none/\J L=some (.lst (Jc p z k))/\1<=z/\k<=p/\z<=z0/\m=z0-z/\(k=n->z=z0)/\(k≠n->z<z0))
   (λj J=>∃(L:Addr),j=[some (.int (n:Nat)),some (.int (p:Nat)),some (.int (z0:Nat)),some (.ref L)]/\Same H J/\H L=none/\J L=some (.lst (Jc p z0 n))) ?hend ⟨z0-1,1,1,L0,rfl,s0,o8,h0,Zq _,by omega,?_,rfl,?_,?_⟩ ?turn
  case hend=>
   rintro j J ⟨L,rfl,sm,nL,hL⟩;exact⟨_,rfl,q L J nL sm hL⟩
  ·rcases R with ⟨a,b⟩|⟨a,_⟩ <;> omega
  ·rcases R with ⟨a,b⟩|⟨a,_,b,_⟩ <;> omega
  ·rcases R with ⟨a,b⟩|⟨a,_,b,_⟩ <;> omega
  case turn=>
   rintro o6 m j J ⟨z,k,L,rfl,sm,nL,hL,z1,kp,zz,rfl,c1,c2⟩;refine⟨_,rfl,L,_,rfl,.inl (.of hL),_,rfl,rfl,_,rfl,?_⟩;rw[Ur];refine Y6 (λh1=>?_) (λh1=>?_)
   ·have h1:k≠n:=λe=>by
     rw[e,Ye] at h1;simp at h1
    have zl:=c2 h1;rcases R with ⟨a,b⟩|⟨a,ap,b,r,r6,r8,r9⟩
    ·omega
    ·have O:=r6 (z+1) (by omega) (by omega)
     have r1:=O.r1;have rp:=O.rp;refine⟨_,λ_ _ z=>z,_,rfl,_,_,rfl,rfl,JL,λU o9=>?_⟩;have s1:=Same.upd (H:=J) (o:=.lst [.int 1]) o9;have p6:upd J U (.lst [.int 1]) U=some (.lst (Jc p (z+1) 1)):=by
      rw[Zt];show some (HO.lst [V.int 1])=some (HO.lst [V.int (((z+1) ^ 0 % p:Nat):Int)]);rw[o5 (z+1)]
     have o7:H U=none:=sm.free o9;have p7:=sm.trans s1;generalize upd J U (.lst [.int 1])=H1 at s1 p6 p7 ⊢;have ez:(z:Int)+1=((z+1:Nat):Int):=by omega
     refine Yi (λm j J=>∃k:Nat,j=[some (.int (n:Nat)),some (.int (p:Nat)),some (.int ((z+1:Nat):Int)),some (.ref U)]/\Same H J/\J U=some (.lst (Jc p (z+1) k))/\1<=k/\k<=r (z+1)/\m=r (z+1)-k)
      (λj J=>j=[some (.int (n:Nat)),some (.int (p:Nat)),some (.int ((z+1:Nat):Int)),some (.ref U)]/\Same H J/\J U=some (.lst (Jc p (z+1) (r (z+1))))) ?hend2 ⟨r (z+1)-1,1,by rw[<-ez];rfl,p7,p6,Zq _,r1,rfl⟩ ?turn2
     case hend2=>
      rintro j H2 ⟨rfl,o0,h2⟩;refine⟨z0-(z+1),by omega,z+1,r (z+1),U,rfl,o0,o7,h2,by omega,rp,by omega,rfl,λe=>?_,λe=>?_⟩
      ·apply ak
       intro ne;exact r8 (z+1) (by omega) (by omega) e
      ·apply ak
       intro ne;have:z+1=z0:=by omega
       rw[this] at e;exact e r9
     case turn2=>
      rintro Y m j H2 ⟨k,rfl,o0,h2,k1,kr,rfl⟩;obtain⟨M,rfl⟩:∃M,k=M+1:=⟨k-1,by omega⟩;have p8:Xy (Jc p (z+1) (M+1)) (-1)=some (V.int (((z+1) ^ M % p:Nat):Int)):=by rw[Zdd];exact ZdU _ _
      have nx:=ZkY p (z+1) M;refine⟨_,rfl,_,rfl,U,_,_,_,rfl,rfl,.of h2,p8,_,rfl,_,_,rfl,rfl,.inr ⟨by omega,by omega⟩,_,rfl,_,_,rfl,rfl,(by show (0:Int)<(p:Int);omega),rfl,_,rfl,?_⟩;refine Y6 (λh3=>?_) (λh3=>?_)
      ·have h3:(z+1) ^ (M+1) % p≠1:=λe=>by
        rw[Ye,nx,e] at h3;simp at h3
       have:M+1≠r (z+1):=λe=>by rw[e] at h3;exact h3 O.one
       refine⟨_,λ_ _ z=>z,_,rfl,.inl ⟨rfl,_,.of h2⟩,_,rfl,_,rfl,U,_,_,_,rfl,rfl,.of h2,p8,_,rfl,_,_,rfl,rfl,.inr ⟨by omega,by omega⟩,_,rfl,_,_,rfl,rfl,(by show (0:Int)<(p:Int);omega),U,_,_,rfl,rfl,h2,by rw[Ur];omega,?_⟩;have e5:Jc p (z+1) (M+1)++[V.int (((((z+1) ^ M % p:Nat):Int))*((z+1:Nat):Int) % (p:Int))]=Jc p (z+1) (M+2):=by rw[nx,Zdd p (z+1) (M+1)]
       rw[e5];exact⟨r (z+1)-(M+2),by omega,M+2,rfl,o0.updr o7,Zt,by omega,by omega,rfl⟩
      ·have h3:(z+1) ^ (M+1) % p=1:=by
        apply ak;intro e;apply h3;rw[Ye,nx,beq_eq_false_iff_ne.mpr (λq=>e (by exact_mod_cast q))];rfl
       have:M+1=r (z+1):=by
        apply ak;intro e;exact O.nz (M+1) (by omega) (by omega) h3
       rw[this] at h2;exact Y _ _ ⟨rfl,o0,h2⟩
   ·have h1:k=n:=by
     apply ak;intro e;apply h1;rw[Ye];simp;omega
    subst h1;rw[c1 rfl] at hL ⊢;exact o6 _ _ ⟨L,rfl,sm,nL,hL⟩
def ZP (m:Nat)(v:Nat->Int):TR:=(ac m).map λc=>V.int (v c)
theorem Yp (m:Nat)(v:Nat->Int):(ZP m v).length=m:=by unfold ZP;rw[Za,Zg]
theorem Xf {m c:Nat}(v:Nat->Int)(h:c<m):(ZP m v)[c]?=some (V.int (v c)):=by
 unfold ZP;rw[Zc,ao h];rfl
theorem Wm {m:Nat}{v u:Nat->Int}(h:∀c,c<m->v c=u c):ZP m v=ZP m u:=by
 unfold ZP;exact bn λc j=>by rw[h c (af.mp j)]
theorem Jm (m:Nat)(v:Nat->Int):ZP m v=((ac m).map v).map V.int:=by
 unfold ZP;rw[aL];rfl
theorem ZcL (m:Nat)(v:Nat->Int):ZP (m+1) v=ZP m v++[V.int (v m)]:=by
 unfold ZP;rw[dS,aO];rfl
theorem Ug (m:Nat)(v:Nat->Int):((ac m).map v).any (· != 0)=true↔∃c,c<m/\v c≠0:=by
 rw[aZ];constructor
 ·rintro⟨x,J,h⟩
  obtain⟨c,j,rfl⟩:=aC.mp J;exact⟨c,af.mp j,by simpa using h⟩
 ·rintro⟨c,j,h⟩
  exact⟨v c,aC.mpr ⟨c,af.mpr j,rfl⟩,by simpa using h⟩
def fI2 (g:Int->Int->Int):V->V->V:=λx y=>match x,y with
 | .int a,.int b=>.int (g a b)
 |_,_=>.non
theorem Zfb {m:Nat}{v u:Nat->Int}:(ZP m v).zip (ZP m u)=(ac m).map λc=>(V.int (v c),V.int (u c)):=by
 unfold ZP;rw[List.zip_map']
theorem VP {K:aa}{J:It}{At:Hp->Prop}{own:List Str}{O:TY}{te:TE}{σ:L2.St}{H Hx:Hp}{Q:VK}{m:Nat}{v u:Nat->Int}(S:ZcE J At ((ZP m v).zip (ZP m u)))(U:∀j,Same Hx j->At j)(sx:Same Hx H)(Y:L2.St)(o0:JJ own O σ=none::none::Y)(g:Int->Int->Int)(hz:m<=1000)
  (hs:∀(i:Nat) j,i<m->Same H j->∀R:VK,R (.int (g (v i) (u i))) j->te (some (.int (v i))::some (.int (u i))::Y) j R)
  (hd:∀D j,H D=none->Same H j->j D=some (.lst (ZP m λi=>g (v i) (u i)))->Q (.ref D) j):WH own O (ZeS K 2 (JO (Ym 0) (JO (Ym 1) ZeT))) Wu te σ Q J H:=by
 refine Zak S U sx Y o0 (fI2 g) (by rw[bO,Yp,Yp];omega) (λi x y j M s R gg=>?_) (λD j nD s hD=>hd D j nD s ?_)
 ·rw[Zfb] at M
  have hi:i<m:=by
   have:=(ab.mp M).1;rw[Za,Zg] at this;exact this
  rw[Zc,ao hi] at M;cases M;exact hs i j hi s R (gg j (Same.refl _))
 ·rw[hD,Zfb,aL]
  rfl
def LLs (H:Hp)(a:Addr)(m:Nat)(F:Nat->Nat->Int):Prop:=∃cs:TU,H a=some (.lst (cs.map V.ref))/\cs.length=m/\∀(c:Nat) b,cs[c]?=some b->H b=some (.lst (ZP m (F c)))
theorem LLs.mono {H j:Hp}{a:Addr}{m:Nat}{F:Nat->Nat->Int}(h:LLs H a m F)(s:Same H j):LLs j a m F:=by
 obtain⟨J,M,O,U⟩:=h;exact⟨J,s _ _ M,O,λc b hb=>s _ _ (U c b hb)⟩
def Zac (m p:Nat)(F:Nat->Nat->Int)(v:Nat->Int)(k:Int)(c:Nat):Int:=(YB m (λj=>v j*F c j)-k*v c) % (p:Int)
structure Zkh (m p:Nat)(v:Nat->Int):Prop where
 ge:∀c,c<m->0<=v c
 lt:∀c,c<m->v c<(p:Int)
inductive Zeg (vs:TR) (H:Hp) (Q:VK) (E03:XK):Prop
 |mk (ca oa:Addr) (m k p:Nat) (F:Nat->Nat->Int) (v:Nat->Int):(vs=[.ref ca,.ref oa,.int k,.int p])->(LLs H ca m F)->(H oa=some (.lst (ZP m v)))->(2<=p)->(p<=100000)->(m<=60)->(k<=100000)->(Zkh m p v)->(∀L H',H L=none->Same H H'->H' L=some (.lst (ZP m (Zac m p F v k)))->Q (.ref L) H')->Zeg vs H Q E03
theorem Zcp {J:It}{g:TG}{tb:TS}{D:WY}{σ:L2.St}{H:Hp}{At:Hp->Prop}{j:List (V×V)}(S:ZcE J At j)(Pv:Nat->L2.St->Hp->Prop)(h0:Pv 0 σ H)(hS:∀i σ H,Pv i σ H->At H)
  (hs:∀(i:Nat) y z σ H T,j[i]?=some (y,z)->Pv i σ H->H T=none->g (.ref T) σ (upd H T (.tup [y,z])) λO H2=>tb (D.lp (Pv (i+1))) O H2) (hd:∀ σ H,Pv j.length σ H->D.nx σ H) :
  ∃W:Nat->Nat->L2.St->Hp->Prop,(∃m,W 0 m σ H)/\∀i m σ H,W i m σ H->
   (J.stop i H/\D.nx σ H)\/(J.go i H/\∃N:L2.St->Hp->Prop,(∀ U M,N U M->∃m',m'<m/\W (i+1) m' U M)/\∀x M,J.yld i H x M->g x σ M λO H2=>tb (D.lp N) O H2):=by
 refine⟨λi m σ H=>m=j.length-i/\i<=j.length/\Pv i σ H,⟨_,rfl,aX _,h0⟩,?_⟩;rintro i m σ H ⟨rfl,hi,p⟩;have s:=hS i σ H p;by_cases Y:i<j.length
 ·refine .inr ⟨S.go i H s Y,Pv (i+1),λU M p'=>⟨j.length-(i+1),by omega,rfl,Y,p'⟩,λx M hy=>?_⟩
  obtain⟨T,y,z,rfl,hT,rfl,hx⟩:=S.yld i H x M s hy;exact hs i y z σ H T hx p hT
 ·have e:i=j.length:=by omega
  subst e;exact .inl ⟨S.stop _ H s (Zq _),hd σ H p⟩
theorem Zlt (F:Wf K "less_often" "less_often" (tq 46) f fd)(T5:BlT mg):ZW P w K mg base ZY 1 f fd ["columns", "one", "k", "p"] Zeg:=by
 refine F.ok (FS (N:=["columns", "one", "k", "p", "found", "column", "x"])) (λvs H Q E h=>?_) (λo7 A o0 s H vs Q E hr h=>?_)
 ·obtain⟨ca,oa,m,k,p,G,v,rfl,_⟩:=h;rfl
 ·obtain⟨ca,oa,m,k,p,G,v,rfl,hC,hO,p2,pl,o8,kl,vo,q⟩:=h
  refine⟨_,Zu (ZK 4 rfl (ZS Zs))
   (Zu (ZV au rfl (ZaE K T5.zip (pc (vn 0) (pc (vn 1) Zs))) (g2 K 5 6 rfl (gn 5) (gn 6))
    (Zv (Yx (Wv aM aS aT Z3 (vn 4)
     (pc (Zz Yb (Zz Y3 (cb (sumK K rfl) T5.sum (pc (cmp ["y", "often"] [] ["y", "often"] rfl (ZaE K T5.zip (pc (vn 1) (pc (vn 5) Zs))) (λ_ _ _ _ _=>g2 K 0 1 rfl (gn 0) (gn 1)) (λ_ _ _ _ _=>ZQ)
      (λ_ _ _ _ _=>Zz Z0 (vn 0) (vn 1))) Zs)) (Zz Z0 (vn 2) (vn 6))) (vn 3)) Zs)))))
   (Zv (ZE (vn 4)))),?_⟩
  have sz:=Jv;obtain⟨cs,c1,c2,c3⟩:=id hC;refine⟨JL,λL nL=>?_⟩;have s0:=Same.upd (H:=H) (o:=.lst []) nL;have h0:upd H L (.lst []) L=some (.lst (ZP 0 (Zac m p G v k))):=Zt;generalize upd H L (.lst [])=H0 at s0 h0 ⊢;refine⟨_,rfl,_,rfl,ca,oa,false,false,_,_,H,rfl,.lst (.of c1),.lst (.of hO),s0,λJ At S o5=>?_⟩;have o6:((cs.map V.ref).zip (ZP m v)).length=m:=by rw[bO,Za,Yp,c2];omega
  refine Zcp S (λi M H'=>∃(v5 v6:TQ),M=[some (.ref ca),some (.ref oa),some (.int (k:Nat)),some (.int (p:Nat)),some (.ref L),v5,v6]/\Same H H'/\H' L=some (.lst (ZP i (Zac m p G v k))))
   ⟨_,_,rfl,s0,h0⟩ (λi M H' h=>?_) ?_ ?_
  ·obtain⟨_,_,_,sm,_⟩:=h
   exact o5 H' sm
  ·rintro i y z M H1 T' U ⟨v5,v6,rfl,s1,h1⟩ nT
   have hi:i<m:=by
    have:=(ab.mp U).1;omega
   rw[bh,Xf v hi,Zc,Zf (by omega)] at U;obtain⟨e1,e2⟩:=U;cases e1;cases e2;have hb:=c3 i (cs[i]'(by omega)) (Zf (by omega));generalize cs[i]'(by omega)=b at hb ⊢;have s2:=Same.upd (H:=H1) (o:=.tup [.ref b,.int (v i)]) nT;refine⟨T',_,rfl,.of Zt,rfl,_,_,rfl,_,_,rfl,rfl,?_⟩;have O:=s1.trans s2;have h2:=s2 _ _ h1;generalize upd H1 T' (.tup [.ref b,.int (v i)])=H2 at O h2 ⊢;refine⟨_,rfl,.inl ⟨rfl,_,.of h2⟩,_,rfl,_,rfl,oa,b,false,false,_,_,H,rfl,.lst (.of hO),.lst (.of hb),O,λJ' o9 S' Y=>?_⟩;refine VP S' Y O [] rfl (λx y=>x*y) (by omega) (λj H3 hj s3 R g=>?_) (λD H3 nD s3 hD=>?_)
   ·have a1:=vo.ge j hj
    have a2:=vo.lt j hj;exact⟨_,rfl,_,rfl,_,_,rfl,rfl,.inl ⟨by omega,by omega⟩,g⟩
   ·rw[Jm] at hD
    refine⟨D,_,rfl,.of hD,_,rfl,_,rfl,_,_,rfl,rfl,.inl ⟨by omega,by omega⟩,_,_,rfl,rfl,_,rfl,_,_,rfl,rfl,(by show (0:Int)<(p:Int);omega),L,_,_,rfl,rfl,s3 _ _ h2,by rw[Yp];omega,?_⟩;have e5:ZP i (Zac m p G v k)++[V.int ((((ac m).map λj=>v j*G i j).sum-(k:Int)*v i) % (p:Int))]=ZP (i+1) (Zac m p G v k):=by
     rw[ZcL];rfl
    rw[e5];exact⟨_,_,rfl,(O.trans s3).updr nL,Zt⟩
  ·rintro M H1 ⟨v5,v6,rfl,s1,h1⟩
   rw[o6] at h1;exact⟨_,rfl,q L H1 nL s1 h1⟩
def Xw (xss:TZ)(ks st:TX):Nat->TX
 |0=>st
 |i+1=>if Num.co ks i=0 then Xw xss ks st i else de (· + ·) (Xw xss ks st i) ((xss.getD i []).map (· * Num.co ks i))
def ZqP (H:Hp)(a:Addr)(xss:TZ):Prop:=∃rs:TU,H a=some (.lst (rs.map V.ref))/\rs.length=xss.length/\∀(i:Nat) r,rs[i]?=some r->H r=some (.tup ((xss.getD i []).map V.int))
inductive ZbI (vs:TR) (H:Hp) (Q:VK) (E03:XK):Prop
 |mk (a b c:Addr) (xss:TZ) (ks st:TX):(vs=[.ref a,.ref b,.ref c])->((W1 H a xss\/ZqP H a xss))->(H b=some (.tup (ks.map V.int)))->(H c=some (.tup (st.map V.int)))->(xss.length=ks.length)->(xss.length<=60)->(st.length<=60)->((∀xs∈xss,xs.length<=60))->(N30.XW ks)->(∀r H',Same H H'->H' r=some (.tup ((Xw xss ks st xss.length).map V.int))->Q (.ref r) H')->ZbI vs H Q E03
theorem Zf4 {xss:TZ}{ks st:TX}(h:st.length<=60):∀i,(Xw xss ks st i).length<=60
 |0=>h
 |i+1=>by
  unfold Xw;have:=Zf4 (xss:=xss) (ks:=ks) h i;split
  ·exact this
  ·rw[fc]
   omega
theorem Xn {rs:TU}{ks:TX}{i:Nat}{x y:V}(h:((rs.map V.ref).zip (ks.map V.int))[i]?=some (x,y)):∃a,rs[i]?=some a/\i<ks.length/\x=.ref a/\y=.int (Num.co ks i):=by
 rw[bh,Zc] at h;obtain⟨j,M⟩:=h;obtain⟨O,rfl⟩:=N30.Ys M;cases J:rs[i]? with
 |none=>rw[J] at j;cases j
 |some a=>
  rw[J] at j;cases j;exact⟨a,rfl,O,rfl,rfl⟩
theorem Zlw (F:Wf K "gathered" "gathered" (tq 23) f fd)(T3:N30.Bl3 mg)(GP:Fn P w K mg base ZY 1 "plus" ["one", "other"] (N30.ZhX K (· + ·)))(GS:Fn P w K mg base ZY 1 "scaled" ["one", "k"] (N30.Zfm K)):ZW P w K mg base ZY 2 f fd ["numbers", "often", "start"] ZbI:=by
 refine F.ok (FS (N:=["numbers", "often", "start", "found", "one", "k"])) (λvs H Q E h=>?_) (λo8 A o0 s H vs Q E hr h=>?_)
 ·obtain⟨a,b,c,j,U,st,rfl,_⟩:=h;rfl
 ·obtain⟨a,b,c,j,U,st,rfl,hA,hB,hC,hl,o9,Y,hx,o5,q⟩:=h
  obtain⟨bb,rs,a1,a2,a3⟩:∃(bb:Bool) (rs:TU),XV bb K H a (rs.map V.ref)/\rs.length=j.length/\∀(i:Nat) r,rs[i]?=some r->H r=some (.tup ((j.getD i []).map V.int)):=by
   rcases hA with ⟨rs,x,y,z⟩|⟨rs,x,y,z⟩
   ·exact⟨true,rs,XV.tup (.of x),y,z⟩
   ·exact⟨false,rs,XV.lst (.of x),y,z⟩
  refine⟨_,Zu (ZK 3 rfl (vn 2))
   (Zu (ZV au rfl (ZaE K T3.zip (pc (vn 0) (pc (vn 1) Zs))) (g2 K 4 5 rfl (gn 4) (gn 5))
    (Zv (YU (ZM Ww (vn 5) Zw (ZO _)) (Zv (ZK 3 rfl (YF GP hr ZF (pc (vn 3) (pc (YF GS hr ZF (pc (vn 4) (pc (vn 5) Zs))) Zs))))) Z2)))
   (Zv (ZE (vn 3)))),?_⟩
  have pl:((rs.map V.ref).zip (U.map V.int)).length=j.length:=by rw[bO,Za,Za,a2];omega
  refine⟨_,rfl,_,rfl,_,rfl,a,b,bb,true,_,_,H,rfl,a1,.tup (.of hB),Same.refl _,λJ At S o6=>?_⟩;refine Zcp S (λi M H'=>∃(r:Addr) (v4 v5:TQ),M=[some (.ref a),some (.ref b),some (.ref c),some (.ref r),v4,v5]/\Same H H'/\H' r=some (.tup ((Xw j U st i).map V.int)))
   ⟨c,_,_,rfl,Same.refl _,hC⟩ (λi M H' h=>by
    obtain⟨_,_,_,_,sm,_⟩:=h;exact o6 H' sm) ?_ ?_
  ·rintro i y z M H1 T' o7 ⟨r,v4,v5,rfl,s1,h1⟩ nT
   obtain⟨d,e1,hk,rfl,rfl⟩:=Xn o7;have hi:i<j.length:=by omega
   have s2:=Same.upd (H:=H1) (o:=.tup [.ref d,.int (Num.co U i)]) nT;refine⟨T',_,rfl,.of Zt,rfl,_,_,rfl,_,_,rfl,rfl,?_⟩;have O:=s1.trans s2;have h2:=s2 _ _ h1;generalize upd H1 T' (.tup [.ref d,.int (Num.co U i)])=H2 at O h2 ⊢;refine⟨_,rfl,rfl,_,rfl,?_⟩;by_cases hz:Num.co U i=0
   ·refine Vl (by rw[Ye,hz];decide) ⟨r,_,_,rfl,O,?_⟩
    rw[Xw,if_pos hz];exact h2
   ·refine ZeO (by rw[Ye];simpa using hz) ?_
    refine⟨_,rfl,_,rfl,_,rfl,d,_,_,rfl,.of (O _ _ (a3 i d e1)),aN (hx _ (Vi hi)) (by decide),o5 _ (ah (Num.Z9 hk)),λr3 H3 s3 h3=>?_⟩;refine⟨r,r3,_,_,rfl,.of (s3 _ _ h2),.of h3,aN (Zf4 Y i) (by decide),λr4 H4 s4 h4=>?_⟩;refine⟨r4,_,_,rfl,(O.trans s3).trans s4,?_⟩;rw[Xw,if_neg hz];exact h4
  ·rintro M H1 ⟨r,v4,v5,rfl,s1,h1⟩
   rw[pl] at h1;exact⟨_,rfl,q r H1 s1 h1⟩
def whL (n:Nat)(k:Int):TX:=k::am (N30.ZG n-1) 0
def Xx (n:Nat)(ys:TX):TX:=Num.Jg n (N30.ZG n) (N30.RN n) (Num.ZcN n (-1) ys)
def muN (n:Nat)(xs ys:TX):TX:=Num.Jg n (N30.ZG n) (N30.RN n) (Num.Zdr xs ys)
def J0 (n:Nat)(ks:TX)(xss yss:TZ):TX:=Xw (Xs xss.length λi=>muN n (xss.getD i []) (Xx n (yss.getD i []))) ks (whL n 0) xss.length
def SpB (n:Nat)(xss:TZ):Prop:=∀xs∈xss,xs.length=N30.ZG n/\∀x∈xs,x.natAbs<=2 ^ 800
inductive UL (vs:TR) (H:Hp) (Q:VK) (E03:XK):Prop
 |mk (n:Nat) (sa a b:Addr) (ks:TX) (xss yss:TZ):(vs=[.ref sa,.int n,.ref a,.ref b])->(1<=n)->(n<=60)->(H sa=some (.tup (ks.map V.int)))->(W1 H a xss)->(W1 H b yss)->(xss.length=yss.length)->(xss.length=ks.length)->(xss.length<=60)->(SpB n xss)->((∀ys∈yss,ys.length=N30.ZG n/\N30.ZdY (Xx n ys)))->(N30.XW ks)->(∀r H',Same H H'->H' r=some (.tup ((J0 n ks xss yss).map V.int))->Q (.ref r) H')->UL vs H Q E03
theorem Vr (n:Nat)(ys:TX):(Xx n ys).length=N30.ZG n:=Num.WV ..
theorem ZgX (F:Wf K "meeting_by" "meeting_by" (tq 32) f fd)(GG:Fn P w K mg base ZY 2 "gathered" ["numbers", "often", "start"] ZbI)(o0:Fn P w K mg base ZY 5 "spread_times" ["n", "one", "other"] UJ)(GF:Fn P w K mg base ZY 6 "spread_flipped" ["n", "one"] Zbz)(GW:Fn P w K mg base ZY 3 "whole" ["n", "k"] N30.ZhW):ZW P w K mg base ZY 7 f fd ["sizes", "n", "one", "other"] UL:=by
 refine F.ok (FS (N:=["sizes", "n", "one", "other"])) (λvs H Q E h=>?_) (λo9 A o5 s H vs Q E U h=>?_)
 ·obtain⟨n,sa,a,b,ks,J,j,rfl,_⟩:=h;rfl
 ·obtain⟨n,sa,a,b,ks,J,j,rfl,n1,n60,hS,hA,hB,hl,hk,M,bx,O,sk,q⟩:=h
  refine⟨_,Zv (ZE (YF GG U ZF (pc (YF o0 U ZF (pc (vn 1) (pc (vn 2) (pc (YF GF U ZF (pc (vn 1) (pc (vn 3) Zs))) Zs)))) (pc (vn 0) (pc (YF GW U ZF (pc (vn 1) (pc Zw Zs))) Zs))))),?_⟩;obtain⟨G,ht⟩:=N30.Vn n1 n60;obtain⟨_,_,o8,p1,p6⟩:=N30.Zb7 n1 n60;have tn:=G.tn;have t1:1<=N30.ZG n:=by omega
  refine⟨_,rfl,_,rfl,_,rfl,_,rfl,n,b,j,rfl,n1,n60,hB,by omega,λys hy=>by have:=(O ys hy).1;omega,λz H1 s1 hZ=>?_⟩;have hz:∀Y∈Xs j.length (λi=>Xx n (j.getD i [])),1<=Y.length/\Y.length<=60/\N30.ZdY Y:=λY o6=>by
   obtain⟨i,hi,rfl⟩:=aC.mp o6;have hm:=O _ (Vi (af.mp hi));rw[Vr];exact⟨by omega,by omega,hm.2⟩
  refine⟨n,a,z,J,_,rfl,n1,n60,hA.mono s1,hZ,by rw[WX];exact hl,M,λxs hx=>?_,hz,λw' H2 s2 hW=>?_⟩
  ·have hm:=bx xs hx
   refine⟨by omega,by omega,λx o7=>nK (hm.2 x o7) (by decide +kernel)⟩
  have eW:(Xs J.length λi=>Num.Jg n (N30.ZG n) (N30.RN n) (Num.Zdr (J.getD i []) ((Xs j.length λi=>Xx n (j.getD i [])).getD i [])))=Xs J.length λi=>muN n (J.getD i []) (Xx n (j.getD i [])):=by
   unfold Xs;refine bn λi hi=>?_;have hi:=af.mp hi;have:=U8 (m:=j.length) (i:=i) (F:=λi=>Xx n (j.getD i [])) (by omega);unfold Xs at this;rw[this];rfl
  have hW:W1 H2 w' (Xs J.length λi=>muN n (J.getD i []) (Xx n (j.getD i []))):=by rw[<-eW];exact hW
  refine⟨_,rfl,_,rfl,n,0,rfl,n1,n60,λp H3 s3 hp=>?_⟩;have ep:((0:Int)::am (N30.VF n-1).toNat 0)=whL n 0:=by
   unfold whL;rw[show (N30.VF n-1).toNat=N30.ZG n-1 by omega]
  rw[ep] at hp;refine⟨w',sa,p,_,ks,_,rfl,.inl (hW.mono s3),((s1.trans s2).trans s3) _ _ hS,hp,by rw[WX];exact hk,by rw[WX];exact M,by unfold whL;rw[Zi,Ze];omega,λxs hx=>?_,sk,λr H4 s4 h4=>?_⟩
  ·obtain⟨i,_,rfl⟩:=aC.mp hx
   unfold muN;rw[Num.WV];omega
  ·rw[WX] at h4
   exact q r H4 (((s1.trans s2).trans s3).trans s4) h4
end C30
namespace N30
open PySem L2 PySem.Spec PyProof.Rows
inductive VD (K:aa) (vs:TR) (H:Hp) (Q:VK) (E03:XK):Prop
 |mk (a:Addr) (xs:TX) (k:Int):(vs=[.ref a,.int k])->(WO K H a (xs.map V.int))->(1<=k)->(k<2 ^ 64)->(xs.length<=1000)->((∀q H',Same H H'->(∀x∈xs,x % k=0)->H' q=some (.tup ((xs.map (· / k)).map V.int))->Q (.ref q) H'))->((∀H',Same H H'->¬(∀x∈xs,x % k=0)->Q .non H'))->VD K vs H Q E03
def Zqm (k:Int):V->V
 | .int x=>.bl (!decide (V.int (x % k)=V.int 0))
 |y=>y
theorem ZjO (k:Int)(xs:TX):(xs.map V.int).map (Zqm k)=(xs.map λx=>!decide (V.int (x % k)=V.int 0)).map V.bl:=by
 rw[aL,aL];rfl
theorem Zgr {k:Int}{xs:TX}:((xs.map λx=>!decide (V.int (x % k)=V.int 0)).any id)=true↔¬ ∀x∈xs,x % k=0:=by
 rw[aZ];constructor
 ·rintro⟨b,hb,e⟩ f
  obtain⟨x,j,rfl⟩:=aC.mp hb;rw[id,f x j] at e;simp at e
 ·intro f
  apply ak;intro z;refine f λx j=>?_;apply ak;intro ne;refine z ⟨true,aC.mpr ⟨x,j,?_⟩,rfl⟩;rw[decide_eq_false (λh=>ne (V.int.inj h))];rfl
def Zqn (k:Int):V->V
 | .int x=>.int (x / k)
 |y=>y
theorem ZjP (k:Int)(xs:TX):(xs.map V.int).map (Zqn k)=(xs.map (· / k)).map V.int:=by
 rw[aL,aL];rfl
theorem ZeD (F:Wf K "divided" "divided" (tq 27) f fd)(T:Bl mg):ZW P w K mg base ZY 1 f fd ["one", "k"] (VD K):=by
 refine F.ok (FS (N:=["one", "k"])) (λvs H Q E h=>?_) (λo5 A O s H vs Q E hr h=>?_)
 ·obtain⟨a,xs,k,rfl,_⟩:=h;rfl
 ·obtain⟨a,xs,k,rfl,M,k1,U,hl,q1,q2⟩:=h
  refine⟨_,Zu (YU (XL (cb (Vx rfl) T.any (pc (cmp ["x"] [1] ["x", "k"] rfl (itT K (vn 0)) (λ_ _ _ _ _=>gn 0) (λ_ _ _ _ _=>ZQ) (λ_ _ _ _ _=>Xm Ww (Zz Yb (vn 0) (vn 1)) Zw (ZO _))) Zs))) (Zv (ZE Jf)) Z2)
   (Zv (ZE (ct ZD T.tuple (pc (cmp ["x"] [1] ["x", "k"] rfl (itT K (vn 0)) (λ_ _ _ _ _=>gn 0) (λ_ _ _ _ _=>ZQ) (λ_ _ _ _ _=>Zz ZiQ (vn 0) (vn 1))) Zs)))),?_⟩
  refine⟨_,rfl,a,rfl,⟨_,M⟩,?_⟩;refine YX (YJ M) [some (.int k)] rfl (Zqm k) (by rw[Za];omega) (λi x Y j s' R g=>?_) (λD H1 nD s1 hD=>?_)
  ·obtain⟨_,rfl⟩:=Ys j
   exact⟨_,rfl,_,rfl,_,_,rfl,rfl,(by show (0:Int)<k;omega),rfl,g Y (Same.refl _)⟩
  rw[ZjO] at hD;refine⟨D,_,rfl,.of hD,_,rfl,?_⟩;refine Y6 (λh1=>?_) (λh1=>?_)
  ·exact q2 H1 s1 (Zgr.mp h1)
  ·have fl:∀x∈xs,x % k=0:=ak λz=>h1 (Zgr.mpr z)
   refine⟨_,rfl,a,rfl,⟨_,s1.tup M⟩,?_⟩;refine YX (YJ (s1.tup M)) [some (.int k)] rfl (Zqn k) (by rw[Za];omega) (λi x Y j s' R g=>?_) (λD2 H2 o6 s2 J=>?_)
   ·obtain⟨_,rfl⟩:=Ys j
    exact⟨_,rfl,_,rfl,_,_,rfl,rfl,⟨(by show (0:Int)<k;omega),Zg3 (by omega) U⟩,g Y (Same.refl _)⟩
   ·rw[ZjP] at J
    refine⟨D2,_,rfl,.inl ⟨.of J,λqq o0=>?_⟩⟩;exact q1 qq _ ((s1.trans s2).trans (Same.upd o0)) fl Zt
theorem Zlm (F:Wf K "whole_of" "whole_of" (tq 28) f fd)(T:Bl mg):ZW P w K mg base ZY 1 f fd ["one"] Zee:=by
 refine F.ok (FS (N:=["one"])) (λvs H Q E h=>?_) (λo5 A O s H vs Q E hr h=>?_)
 ·obtain⟨a,z,r,rfl,_⟩:=h;rfl
 ·obtain⟨a,z,r,rfl,ha,hl,q⟩:=h
  refine⟨_,Zu (YU (XL (cb (Vx rfl) T.any (pc (cmp ["x"] [] ["x"] rfl (itT K (WT Zh8 (vn 0) (Jy Zw) Jz)) (λ_ _ _ _ _=>gn 0) (λ_ _ _ _ _=>ZQ) (λ_ _ _ _ _=>Xm Ww (vn 0) Zw (ZO _))) Zs))) (Zv (ZE Jf)) Z2)
   (Zv (ZE (ZU (VA K) (vn 0) Zw (λ_ _=>rfl)))),?_⟩
  refine⟨_,rfl,_,rfl,a,_,rfl,.of ha,?_,λt1 h1=>?_⟩
  ·rintro⟨U,_⟩
   have U:min 1 ((z::r).map V.int).length=0:=U;simp at U
  have ec:Jj ((z::r).map V.int) (some 1) none=r.map V.int:=by
   unfold Jj;have e1:HT.Y1 ((z::r).map V.int).length 0 (some 1)=1:=by
    show min 1 ((z::r).map V.int).length=1;simp
   rw[e1];show (((z::r).map V.int).drop 1).take (((z::r).map V.int).length-1)=r.map V.int;simp;exact fJ (by simp)
  rw[ec];have s1:=Same.upd (H:=H) (o:=.tup (r.map V.int)) h1;refine⟨t1,rfl,⟨_,.of Zt⟩,?_⟩;refine YX (YJ (WO.of Zt)) [] rfl (λy=>.bl (!decide (y=.int 0))) (by rw[Za];omega) ?_ ?_
  ·intro i y Y J s' R g1
   rw[Zc] at J;cases e:r[i]? with
   |none=>rw[e] at J;cases J
   |some k=>rw[e] at J;cases J;exact⟨_,rfl,rfl,g1 Y (Same.refl _)⟩
  ·intro D Y hD s' o0
   refine⟨D,(r.map V.int).map (λy=>!decide (y=.int 0)),rfl,.of (by rw[o0];simp only[aL];rfl),_,rfl,?_⟩;have e:((r.map V.int).map (λy=>!decide (y=.int 0))).any id=r.any (λy=>decide (y≠0)):=by
    rw[dG,dG];congr 1;funext y;simp
   rw[e];have M:=q Y (s1.trans s');refine Y6 (λb=>?_) (λb=>?_)
   ·rw[if_pos b] at M;exact M
   ·rw[if_neg b] at M
    exact⟨_,rfl,a,_,0,_,rfl,rfl,.of ((s1.trans s') _ _ ha),ZR (j:=0) rfl,M⟩
end N30
namespace C30
open PySem L2 PySem.Spec PyProof.Rows
open Tb Pm
structure KS (kvs:List (YQ×V))(ks:TY):Prop where
 keys:kvs.map (·.1)=ks.map λa:Nat=>(ix (a:Int):YQ)
 nd:ks.Nodup
theorem KS.nil:KS [] []:=⟨rfl,eO⟩
theorem KS.len {j:List (YQ×V)}{ks:TY}(h:KS j ks):j.length=ks.length:=by
 have:=congrArg df h.keys;rwa [Za,Za] at this
theorem KS.some {j:List (YQ×V)}{ks:TY}(h:KS j ks)(a:Nat):(Jw j (.inl (a:Int))).isSome=ks.contains a:=by
 rw[<-JQ];have e:(j.any λM=>decide (M.1=(.inl (a:Int):YQ)))=(j.map (·.1)).any λk=>decide (k=(.inl (a:Int):YQ)):=by rw[dG];rfl
 rw[e,h.keys,dG];by_cases hm:a∈ks
 ·rw[aI.mpr hm,aZ]
  exact⟨a,hm,by simp⟩
 ·have J:ks.contains a=false:=by
   cases J:ks.contains a with
   |false=>rfl
   |true=>exact absurd (aI.mp J) hm
  rw[J,List.any_eq_false];intro b hb z;have z:=of_decide_eq_true z;injection z with z;have:b=a:=by omega
  exact hm (this▸hb)
theorem KS.put {j:List (YQ×V)}{ks:TY}(h:KS j ks)(a:Nat)(v:V):KS (W0 j (.inl (a:Int)) v) (if ks.contains a then ks else ks++[a]):=by
 have M:=h.some a;by_cases J:ks.contains a=true
 ·rw[if_pos J]
  rw[J] at M;refine⟨?_,h.nd⟩;unfold W0;rw[if_pos (by rw[JQ];exact M),aL,<-h.keys];refine bn λO _=>?_;show (if O.1=_ then (O.1,v) else O).1=O.1
  split <;> rfl
 ·rw[if_neg J]
  have U:Jw j (.inl (a:Int))=none:=by
   cases Y:Jw j (.inl (a:Int)) with
   |none=>rfl
   |some x=>rw[Y] at M;exact absurd M.symm J
  rw[ZiI v U];refine⟨by rw[aO,aO,h.keys];rfl,?_⟩;rw[nO];refine⟨h.nd,by simp,λb hb c hc z=>J ?_⟩;rw[aJ.mp hc] at z;exact aI.mpr (z▸hb)
theorem Zk0 {ks:TY}{a b:Nat}:b∈(if ks.contains a then ks else ks++[a])↔b∈ks\/b=a:=by
 split
 ·rename_i h
  exact⟨.inl,λz=>z.elim id λe=>by rw[e];exact aI.mp h⟩
 ·rw[bv,aJ]
theorem Zk1 (ks:TY)(a:Nat):(if ks.contains a then ks else ks++[a]).length<=ks.length+1:=by
 split
 ·omega
 ·rw[Zd,Zk];exact Zq _
inductive WM (vs:TR) (H:Hp) (Q:VK) (E03:XK):Prop
 |mk (g:Addr) (t:T7):(vs=[.ref g])->(GT H g t)->(PW t)->(∀c H',Same H H'->CT H' c (ZH t t.length)->Q (.ref c) H')->WM vs H Q E03
theorem _root_.Pm.TupsAt.updD {H:Hp}{L D:Addr}{bs:TU}{yss:T7}{j:List (YQ×V)}{o:HO}(J:H D=some (.dK j))(R:TupsAt H L bs yss):TupsAt (upd H D o) L bs yss:=by
 refine⟨?_,R.2.1,λi b hb=>?_⟩
 ·rw[Zy λz=>by have:=R.1;rw[z,J] at this;cases this]
  exact R.1
 ·rw[Zy λz=>by have:=R.2.2 i b hb;rw[z,J] at this;cases this]
  exact R.2.2 i b hb
theorem _root_.Pm.TupsAt.last {H:Hp}{L r:Addr}{bs:TU}{yss:T7}{ys:TY}(R:TupsAt H L (bs++[r]) (yss++[ys])):H r=some (.tup (ys.map nV)):=by
 have j:=R.2.1;rw[Zd,Zd,Zk,Zk] at j;have:=R.2.2 bs.length r (by rw[aw (Zq _),cS];rfl);rw[Zb,aw (by omega),show bs.length-yss.length=0 by omega] at this;exact this
theorem Zqv {H:Hp}{L c:Addr}{bs:TU}{yss:T7}(R:TupsAt H L bs yss)(j:H c=none):CT (upd H c (.tup (bs.map V.ref))) c yss:=⟨bs,Zt,R.2.1,λi r J=>Same.upd j _ _ (R.2.2 i r J)⟩
theorem ZeE (F:Wf K "classes_of" "classes_of" (tq 9) f fd)(T:Bl mg)(GN:Fn P w K mg base ZY 3 "turnings" ["group", "b"] XI):ZW P w K mg base ZY 4 f fd ["group"] WM:=by
 refine F.ok (FS (N:=["group", "found", "seen", "b", "a"])) (λvs H Q E h=>?_) (λp6 A p7 s H vs Q E hr h=>?_)
 ·obtain⟨g,t,rfl,_⟩:=h;rfl
 ·obtain⟨g,t,rfl,G,Pt,q⟩:=h
  have hu:(A.deeper (envOfC "classes_of" (Yc (tq 9)) s.heap.objs.size f p6)).units+1<cLine:=by have:=hr.un;omega
  refine⟨_,Zu (ZK 1 rfl (ZS Zs))
   (Zu (ZK 2 rfl ZiN)
   (Zu (ZV au rfl (UT T.range (pc (cb (YL K) T.len (pc (vn 0) Zs)) Zs)) (gn 3)
    (Zv (YU (Znx (ZgQ hu (vn 3) (vn 2)))
     (Zu (Yx (Wv aM aS aT Z3 (vn 1) (pc (YF GN hr ZF (pc (vn 0) (pc (vn 3) Zs))) Zs)))
     (Zv (ZV au rfl (itT K (ZU (ixL K) (vn 1) (JN Wz Zw) (λ_ _=>rfl))) (gn 4) (Zv (Us hu (vn 2) (vn 4) U3 (by rfl)))))) Z2)))
   (Zv (ZE (ct ZD T.tuple (pc (vn 1) Zs)))))),?_⟩
  have sz:=Jv;have r9:=Pt.n60;refine⟨JL,λL nL=>λD nD=>?_⟩;have s1:=Same.upd (H:=H) (o:=.lst []) nL;have s2:=s1.trans (Same.upd (o:=.dK []) nD);have p8:H D=none:=s1.free nD;obtain⟨gs,u1,u2,_⟩:=id (G.mono s2);have el:(gs.map V.ref).length=t.length:=by rw[Za,u2]
  refine⟨_,rfl,g,_,rfl,.inr (.of u1),_,rfl,by rw[el];omega,by rw[el];omega,?_⟩;rw[el,Zj];refine WN (λi M H'=>∃(w3 w4:TQ) (bs:TU) (J:List (YQ×V)) (ks:TY),M=[some (.ref g),some (.ref L),some (.ref D),w3,w4]/\Same H H'/\TupsAt H' L bs (ZH t i)/\H' D=some (.dK J)/\KS J ks/\(∀a,a∈ks↔JM (ZH t i) a=true)/\ks.length<=60*i)
   ⟨_,_,[],[],[],rfl,s2,⟨Same.upd nD _ _ Zt,rfl,λi b hb=>by cases hb⟩,Zt,.nil,λa=>⟨λz=>(by cases z),λz=>(by cases z)⟩,Zq _⟩ ?_ ?_
  ·rintro i M H3 hi ⟨w3,w4,bs,J,ks,rfl,s3,R,hD,hK,Y,kl⟩
   rw[show (0:Int)+(i:Int)=(i:Int) by omega];refine⟨_,rfl,_,rfl,D,_,rfl,Xe.k (k:=.inl (i:Int)) hD,_,rfl,?_⟩;have o7:(Jw J (.inl (i:Int))).isSome=JM (ZH t i) i:=by
    rw[hK.some];cases hc:JM (ZH t i) i with
    |true=>exact aI.mpr ((Y i).mpr hc)
    |false=>
     cases q0:ks.contains i with
     |false=>rfl
     |true=>rw[(Y i).mp (aI.mp q0)] at hc;cases hc
   rw[o7];refine Y6 (λh=>?_) (λh=>?_)
   ·have h:JM (ZH t i) i=false:=by simpa using h
    have eU:ZH t (i+1)=ZH t i++[Yf t i]:=by
     rw[ZH,if_neg (by unfold JM at h;rw[h];decide)]
    refine⟨_,rfl,.inl ⟨rfl,_,.of R.1⟩,_,rfl,_,rfl,g,t,i,rfl,G.mono s3,Pt,hi,λr H4 s4 r6=>?_⟩;have R4:=R.mono s4;have bl:=R4.2.1;have ul:=Wx (t:=t) i;refine⟨L,_,_,rfl,rfl,R4.1,by rw[Za];omega,?_⟩;have R5:=R4.push r6;have o8:upd H4 L (.lst (bs.map V.ref++[.ref r])) D=some (.dK J):=by
     rw[Zy λz=>by have:=s4 _ _ hD;rw[z,R4.1] at this;cases this];exact s4 _ _ hD
    have s5:Same H (upd H4 L (.lst (bs.map V.ref++[.ref r]))):=(s3.trans s4).updr nL;refine⟨_,rfl,_,rfl,L,_,_,_,rfl,rfl,.of Zt,ZdU _ _,r,rfl,⟨_,.of R5.last⟩,?_⟩;generalize upd H4 L (.lst (bs.map V.ref++[.ref r]))=H5 at R5 o8 s5 ⊢;have cl:=Zcy (t:=t) i;refine Zf5 (K:=K) (a:=r) (xs:=(Yf t i).map nV) (λj M H'=>∃(w4:TQ) (J:List (YQ×V)) (O:TY),M=[some (.ref g),some (.ref L),some (.ref D),some (.int (i:Nat)),w4]/\Same H H'/\TupsAt H' L (bs++[r]) (ZH t i++[Yf t i])/\H' D=some (.dK J)/\KS J O/\(∀a,a∈O↔a∈ks\/a∈(Yf t i).take j)/\O.length<=60*i+j)
     ⟨_,J,ks,rfl,s5,R5,o8,hK,λa=>⟨.inl,λz=>z.elim id λz=>by rw[fI] at z;cases z⟩,kl⟩ (λj M H' _ h=>by
      obtain⟨_,_,_,_,_,R',_⟩:=h;exact .of R'.last) ?_ ?_
    ·rintro j y M H6 hy ⟨r8,o6,O,rfl,s6,R6,o0,o5,U,o9⟩
     obtain⟨k,hk,rfl⟩:=ZeH hy;have hj:j<(Yf t i).length:=(ab.mp hk).1;refine⟨_,rfl,_,rfl,D,_,rfl,Uf.k (k:=.inl (k:Int)) o0 (by rw[o5.len];omega),?_⟩;refine⟨_,_,_,rfl,s6.updr p8,R6.updD o0,Zt,o5.put k (.bl true),λa=>?_,?_⟩
     ·rw[Zk0,U,ce,hk,bv]
      show _↔a∈ks\/a∈(Yf t i).take j\/a∈[k];rw[aJ];exact⟨λz=>z.elim (λz=>z.elim .inl λz=>.inr (.inl z)) λz=>.inr (.inr z),λz=>z.elim (λz=>.inl (.inl z)) λz=>z.elim (λz=>.inl (.inr z)) .inr⟩
     ·have:=Zk1 O k
      omega
    ·rintro M H6 ⟨r8,o6,O,rfl,s6,R6,o0,o5,U,o9⟩
     rw[Za] at U o9;refine⟨_,_,bs++[r],o6,O,rfl,s6,by rw[eU];exact R6,o0,o5,λa=>?_,by omega⟩;rw[U,cp,Y a,eU];unfold JM;rw[List.any_append,bg,gQ,List.any_nil,i8,aI]
   ·have h:JM (ZH t i) i=true:=by simpa using h
    have eU:ZH t (i+1)=ZH t i:=by
     rw[ZH,if_pos (by unfold JM at h;rw[h])]
    exact⟨_,_,bs,J,ks,rfl,s3,by rw[eU];exact R,hD,hK,λa=>by rw[eU];exact Y a,by omega⟩
  ·rintro M H3 ⟨w3,w4,bs,J,ks,rfl,s3,R,hD,hK,Y,kl⟩
   exact⟨_,rfl,L,_,rfl,.inl ⟨.of R.1,λc nc=>q c _ (s3.trans (Same.upd nc)) (Zqv R nc)⟩⟩
def hol (j:T7):Nat->Nat->Nat
 |0,_=>0
 |k+1,a=>if (j.getD k []).contains a then k else hol j k a
inductive Zek (vs:TR) (H:Hp) (Q:VK) (E03:XK):Prop
 |mk (c:Addr) (css:T7) (n:Nat):(vs=[.ref c,.int n])->(CT H c css)->((∀row∈css,∀a∈row,a<n))->(n<=60)->(css.length<=60)->(∀r H',Same H H'->H' r=some (.tup ((Yh n (hol css css.length)).map nV))->Q (.ref r) H')->Zek vs H Q E03
inductive ZbE (vs:TR) (H:Hp) (Q:VK) (E03:XK):Prop
 |mk (g:Addr) (t:T7):(vs=[.ref g])->(GT H g t)->(PW t)->(∀r H',Same H H'->H' r=some (.tup ((Yh t.length (hol (ZH t t.length) (ZH t t.length).length)).map nV))->Q (.ref r) H')->ZbE vs H Q E03
inductive Zby (vs:TR) (H:Hp) (Q:VK) (E03:XK):Prop
 |mk (g:Addr) (t:T7):(vs=[.ref g])->(GT H g t)->(PW t)->(∀r H',Same H H'->H' r=some (.tup (((ZH t t.length).map df).map nV))->Q (.ref r) H')->Zby vs H Q E03
def ZdB (H:Hp):V->V
 | .ref r=>match H r with
  |some (.tup j)=>.int (j.length:Nat)
  |_=>.non
 |_=>.non
theorem Zlv (F:Wf K "holders" "holders" (tq 1) f fd)(T:Bl mg)(T2:Zfa mg):ZW P w K mg base ZY 1 f fd ["bundles", "count"] Zek:=by
 refine F.ok (FS (N:=["bundles", "count", "numbers", "k", "members", "a"])) (λvs H Q E h=>?_) (λq0 A o8 s H vs Q E hr h=>?_)
 ·obtain⟨c,J,n,rfl,_⟩:=h;rfl
 ·obtain⟨c,J,n,rfl,C,o9,n60,r6,q⟩:=h
  refine⟨_,Zu (ZK 2 rfl (Zz WU (ZS (pc Zw Zs)) (vn 1)))
   (Zu (ZV au rfl (V3 K T2.enumerate (pc (vn 0) Zs)) (g2 K 3 4 rfl (gn 3) (gn 4))
    (Zv (ZV au rfl (itT K (vn 4)) (gn 5) (Zv (UY (vn 3) (U2 (vn 2) (vn 5) YT))))))
   (Zv (ZE (ct ZD T.tuple (pc (vn 2) Zs))))),?_⟩
  have sz:=Jv;obtain⟨rs,c1,c2,c3⟩:=C.row;refine⟨JL,λl0 p6=>⟨_,rfl,l0,_,_,rfl,rfl,Zt,by omega,by omega,by show 1*((n:Int)).toNat<=sizeLine;omega,λL nL=>?_⟩⟩;rw[Zj];have s1:=Same.upd (H:=H) (o:=.lst [.int 0]) p6;have p7:H L=none:=s1.free nL;have e0:(am n [V.int 0]).flatten=(Yh n (hol J 0)).map nV:=by
   unfold Yh;rw[aL];have:∀m k,(am m [V.int 0]).flatten=(dE k m).map λ_=>nV 0:=λm=>by
    induction m with
    |zero=>intro k;rfl
    |succ m ih=>intro k;rw[aV,bP,ih (k+1),eX,aB];rfl
   rw[this n 0,<-eL];rfl
  rw[e0];have s2:=s1.trans (Same.upd (o:=.lst ((Yh n (hol J 0)).map nV)) nL);refine⟨_,rfl,c,rfl,.inr ⟨⟨_,.of (s2 _ _ c1)⟩,?_⟩⟩;refine YW (Zag (K:=K) (xs:=rs.map V.ref)) (λi M H'=>∃v3 v4 v5:TQ,M=[some (.ref c),some (.int (n:Nat)),some (.ref L),v3,v4,v5]/\Same H H'/\H' L=some (.lst ((Yh n (hol J i)).map nV)))
   ⟨_,_,_,rfl,s2,Zt⟩ (λi M H' h=>by
    obtain⟨_,_,_,_,sm,_⟩:=h;exact sm.tup (.of c1)) ?_ ?_
  ·rintro i y M H3 T' hy ⟨v3,v4,v5,rfl,s3,O⟩ nT
   obtain⟨r,rfl,hi,U⟩:=c3 i y hy;have s4:=Same.upd (H:=H3) (o:=.tup [.int (i:Nat),.ref r]) nT;refine⟨T',_,rfl,.of Zt,rfl,_,_,rfl,_,_,rfl,rfl,?_⟩;generalize upd H3 T' (.tup [.int (i:Nat),.ref r])=H4 at s4 ⊢;have o5:=(s3.trans s4) _ _ U;have hm:J.getD i []∈J:=by
    rw[Zb,Zf hi];exact be hi
   have o0:=o9 _ hm;generalize o6:J.getD i []=row at U o5 o0;refine⟨_,rfl,r,rfl,⟨_,.of o5⟩,?_⟩;refine Zf5 (K:=K) (a:=r) (xs:=row.map nV) (λj M H'=>∃v5:TQ,M=[some (.ref c),some (.int (n:Nat)),some (.ref L),some (.int (i:Nat)),some (.ref r),v5]/\Same H H'/\H' L=some (.lst ((Yh n λa=>if (row.take j).contains a then i else hol J i a).map nV)))
    ⟨_,rfl,s3.trans s4,by
     have e:(Yh n λa=>if ((row.take 0).contains a)=true then i else hol J i a)=Yh n (hol J i):=Wp λa _=>by rw[fI];rfl
     rw[e];exact s4 _ _ O⟩ (λj M H' _ h=>by
     obtain⟨_,_,sm,_⟩:=h;exact .of (sm _ _ (by rw[<-o6] at U ⊢;exact U))) ?_ ?_
   ·rintro j y M H5 hy ⟨p8,rfl,s5,Y⟩
    obtain⟨k,hk,rfl⟩:=ZeH hy;have o7:k<n:=o0 k (ah hk);refine⟨_,rfl,_,rfl,_,rfl,L,_,_,k,rfl,rfl,Y,J3 (by rw[Za,Zc7];exact o7),?_⟩;refine⟨_,rfl,s5.updr p7,?_⟩;rw[Zt];have e:=Zc6 (k:=i) (λa=>if ((row.take j).contains a)=true then i else hol J i a) o7
    have e2:(Yh n λb=>if b=k then i else if ((row.take j).contains b)=true then i else hol J i b)=Yh n λa=>if ((row.take (j+1)).contains a)=true then i else hol J i a:=Wp λa _=>by
     rw[ce,hk];by_cases h1:a=k
     ·subst h1
      rw[if_pos rfl,if_pos (aI.mpr (aU _ (by simp)))]
     ·rw[if_neg h1]
      by_cases h2:a∈row.take j
      ·rw[if_pos (aI.mpr h2),if_pos (aI.mpr (cq _ h2))]
      ·rw[if_neg (λz=>h2 (aI.mp z)),if_neg (λz=>?_)]
       rcases bv.mp (aI.mp z) with z|z
       ·exact h2 z
       ·exact h1 (by simpa using z)
    rw[e2] at e;exact congrArg (λxs=>some (HO.lst xs)) e
   ·rintro M H5 ⟨p8,rfl,s5,Y⟩
    refine⟨_,_,_,rfl,s5,?_⟩;rw[Za] at Y;rw[Y];have e:(Yh n λa=>if ((row.take row.length).contains a)=true then i else hol J i a)=Yh n (hol J (i+1)):=Wp λa _=>by
     rw[cp,hol,o6]
    rw[e]
  ·rintro M H3 ⟨v3,v4,v5,rfl,s3,O⟩
   rw[Za,c2] at O;exact⟨_,rfl,L,_,rfl,.inl ⟨.of O,λr nr=>q r _ (s3.trans (Same.upd nr)) Zt⟩⟩
theorem Zl6 {t:T7}(j:PW t):∀row∈ZH t t.length,∀a∈row,a<t.length:=λrow J a M=>by
 obtain⟨b,_,rfl⟩:=Ja j t.length (Zq _) row J;exact XR M
theorem Zlq (F:Wf K "class_numbers" "class_numbers" (tq 10) f fd)(T:Bl mg)(Y:Fn P w K mg base ZY 4 "classes_of" ["group"] WM)(GH:Fn P w K mg base ZY 1 "holders" ["bundles", "count"] Zek):ZW P w K mg base ZY 5 f fd ["group"] ZbE:=by
 refine F.ok (FS (N:=["group"])) (λvs H Q E h=>?_) (λo0 A j s H vs Q E O h=>?_)
 ·obtain⟨g,t,rfl,_⟩:=h;rfl
 ·obtain⟨g,t,rfl,G,J,q⟩:=h
  refine⟨_,Zv (ZE (YF GH O ZF (pc (YF Y O ZF (pc (vn 0) Zs)) (pc (cb (YL K) T.len (pc (vn 0) Zs)) Zs)))),?_⟩;have n60:=J.n60;refine⟨_,rfl,g,t,rfl,G,J,λc H' U C=>?_⟩;obtain⟨gs,u1,u2,_⟩:=id (G.mono U);have el:(gs.map V.ref).length=t.length:=by rw[Za,u2]
  refine⟨_,rfl,g,_,rfl,.inr (.of u1),?_⟩;rw[el];exact⟨c,_,t.length,rfl,C,Zl6 J,n60,aN (Wx _) n60,λr H2 s2 M=>q r H2 (U.trans s2) M⟩
theorem ZlL {H:Hp}{rs:TU}{j:T7}(U:rs.length=j.length)(h:∀(i:Nat) y,(rs.map V.ref)[i]?=some y->∃r,y=.ref r/\i<j.length/\H r=some (.tup ((j.getD i []).map nV))):(rs.map V.ref).map (ZdB H)=(j.map df).map nV:=by
 refine a6 λi=>?_;rw[Zc];by_cases J:i<j.length
 ·obtain⟨r,M,_,O⟩:=h i _ (Zf (show i<(rs.map V.ref).length by rw[Za];omega))
  rw[Zf (show i<(rs.map V.ref).length by rw[Za];omega),M,Zc,Zc,Zf J];show some (ZdB H (.ref r))=some (nV j[i].length);unfold ZdB
  try dsimp only
  rw[O]
  try dsimp only
  rw[Za,Zb,Zf J];rfl
 ·rw[ag (by rw[Za];omega),ag (by rw[Za,Za];omega)]
  rfl
end C30
namespace Tb
def rdT (t:T7)(a:Nat):Nat:=(((ac t.length).find? λr=>it t a (r+1) == 0).getD 0)+1
theorem Zb3 {t:T7}{a r:Nat}(R:Rd t a r):rdT t a=r:=by
 have J:=R.r1;have:(ac t.length).find? (λr=>it t a (r+1) == 0)=some (r-1):=by
  rw[lf];refine⟨by rw[show r-1+1=r by omega,R.z];rfl,af.mpr (by have:=R.rn;omega),λj M=>?_⟩;have:=R.nz (j+1) (by omega) (by omega);simpa using this
 unfold rdT;rw[this];show r-1+1=r;omega
theorem Zjq (P:PW t){a s:Nat}(j:a<t.length)(J:s<t.length):∀k,it t (tb t a s) k=tb t (it t a k) s
 |0=>(Xh P J).symm
 |k+1=>by
  rw[it,it,Zjq P j J k,Zd7 P J (W6 P j k) j]
theorem Zrw (P:PW t){x s:Nat}(M:x<t.length)(j:s<t.length):tb t x s=0↔x=0:=by
 have O:=P.n1;constructor
 ·intro h
  have J:=Uh P M j;rw[h,P.oneR _ (Yw P j).1,Zbr P j] at J;exact J.symm
 ·rintro rfl
  exact Xh P j
theorem Znr (P:PW t){a s:Nat}(J:a<t.length)(M:s<t.length):rdT t (tb t a s)=rdT t a:=by
 unfold rdT;have j:(λr=>it t (tb t a s) (r+1) == 0)=λr=>it t a (r+1) == 0:=funext λr=>?_
 ·rw[j]
 have h:=Zjq P J M (r+1);have O:=Zrw P (W6 P J (r+1)) M;rw[h];cases U:(it t a (r+1) == 0) with
 |true=>
  have:it t a (r+1)=0:=by simpa using U
  simpa using O.mpr this
 |false=>
  have:it t a (r+1)≠0:=by simpa using U
  have:tb t (it t a (r+1)) s≠0:=λz=>this (O.mp z);simpa using this
end Tb
namespace C30
open PySem L2 PySem.Spec PyProof.Rows
open Tb Pm
theorem ZjA {j:T7}{a J:Nat}(O:(j.getD J []).contains a=true)(U:∀k,k<j.length->(j.getD k []).contains a=true->k=J):∀m,m<=j.length->J<m->hol j m a=J
 |0,_,h=>by omega
 |m+1,hm,h=>by
  unfold hol;split
  ·rename_i M
   exact U m (by omega) M
  ·rename_i M
   refine ZjA O U m (by omega) ?_;by_cases e:J=m
   ·subst e;exact absurd O M
   ·omega
theorem Zj7 {t:T7}(Y:PW t){a:Nat}(ha:a<t.length):∃j,j<(ZH t t.length).length/\((ZH t t.length).getD j []).contains a=true/\∀k,k<(ZH t t.length).length->((ZH t t.length).getD k []).contains a=true->k=j:=by
 have h:=Vw Y t.length (Zq _) a ha;unfold JM at h;obtain⟨c,hc,J⟩:=aZ.mp h;obtain⟨j,M⟩:=bG hc;have hl:=(ab.mp M).1;have e:(ZH t t.length).getD j []=c:=by rw[Zb,M];rfl
 refine⟨j,hl,by rw[e];exact J,λk O U=>?_⟩;have e2:(ZH t t.length)[k]?=some ((ZH t t.length).getD k []):=by rw[Zb,Zf O];rfl
 exact Zar Y t.length (Zq _) k j _ c a e2 M (aI.mp U) (aI.mp J)
def JW (t:T7)(a:Nat):Nat:=hol (ZH t t.length) (ZH t t.length).length a
theorem VI {t:T7}(O:PW t){a:Nat}(U:a<t.length):JW t a<(ZH t t.length).length/\a∈(ZH t t.length).getD (JW t a) []/\∀k,k<(ZH t t.length).length->a∈(ZH t t.length).getD k []->k=JW t a:=by
 obtain⟨Y,j,J,M⟩:=Zj7 O U;have e:JW t a=Y:=ZjA J M _ (Zq _) j;rw[e];exact⟨j,aI.mp J,λk hk hm=>M k hk (aI.mpr hm)⟩
theorem ZkR {t:T7}(M:PW t){k a:Nat}(Y:k<(ZH t t.length).length)(O:a∈(ZH t t.length).getD k []):a<t.length/\JW t a=k/\∀x,x∈(ZH t t.length).getD k []↔x∈Yf t a:=by
 obtain⟨b,hb,e⟩:=Ja M t.length (Zq _) _ (ZfC Y);rw[e] at O ⊢;have J:=XR O;refine⟨J,((VI M J).2.2 k Y (by rw[e];exact O)).symm,λx=>⟨λU=>?_,λU=>?_⟩⟩
 ·have j:=XR U
  exact Yd M J j (Yd M J hb (YG M J) O) (Yd M j hb (YG M j) U)
 ·have j:=XR U
  exact Yd M hb j O (Yd M j J (YG M j) U)
theorem Ziw {t:T7}(j:PW t){k:Nat}(M:k<(ZH t t.length).length):∃a r,(ZH t t.length).getD k []=a::r:=by
 obtain⟨b,hb,e⟩:=Ja j t.length (Zq _) _ (ZfC M);have J:=YG j hb;rw[e];cases h:Yf t b with
 |nil=>rw[h] at J;cases J
 |cons a r=>exact⟨a,r,rfl⟩
inductive ZbA (vs:TR) (H:Hp) (Q:VK) (E03:XK):Prop
 |mk (g:Addr) (t:T7) (a r:Nat):(vs=[.ref g,.int a])->(GT H g t)->(PW t)->(a<t.length)->(Rd t a r)->(Q (.int r) H)->ZbA vs H Q E03
inductive ZbJ (vs:TR) (H:Hp) (Q:VK) (E03:XK):Prop
 |mk (g:Addr) (t:T7) (rs:Nat->Nat):(vs=[.ref g])->(GT H g t)->(PW t)->((∀a,a<t.length->Rd t a (rs a)))->(∀(f:Nat) H',Same H H'->Lc rs t.length f->Q (.int f) H')->ZbJ vs H Q E03
theorem ZiX (F:Wf K "round_of" "round_of" (tq 4) f fd):ZW P w K mg base ZY 1 f fd ["group", "a"] ZbA:=by
 refine F.ok (FS (N:=["group", "a", "k", "found"])) (λvs H Q E h=>?_) (λo0 A U s H vs Q E hr h=>?_)
 ·obtain⟨g,t,a,r,rfl,_⟩:=h;rfl
 ·obtain⟨g,t,a,r,rfl,G,Y,ha,R,q⟩:=h
  refine⟨_,Zu (ZK 2 rfl Zw) (Zu (ZK 3 rfl (vn 1))
   (Zu (Yr au (ZM Ww (vn 3) Zw (ZO _))
    (Zu (ZK 3 rfl (ZU (VA K) (ZU (VA K) (vn 0) (vn 3) (λ_ _=>rfl)) (vn 1) (λ_ _=>rfl)))
    (Zv (JV (i:=2) (Z6 (by kernel_rfl)) rfl (YV (by kernel_rfl)) Zw WB (.inl rfl)))))
   (Zv (ZE (vn 2))))),?_⟩
  have r1:=R.r1;refine⟨_,rfl,?_⟩;refine Yi (λm j O=>∃k:Nat,j=[some (.ref g),some (.int a),some (.int k),some (.int (it t a k:Nat))]/\O=H/\1<=k/\k<=r/\m=r-k)
   (λj O=>∃v3:TQ,j=[some (.ref g),some (.int a),some (.int r),v3]/\O=H) ?hend ⟨r-1,1,by rw[Zjr Y ha];rfl,rfl,Zq _,r1,rfl⟩ ?turn
  case hend=>
   rintro j O ⟨v3,rfl,rfl⟩;exact⟨_,rfl,q⟩
  case turn=>
   rintro J m j O ⟨k,rfl,rfl,k1,kr,hm⟩;refine⟨_,rfl,rfl,_,rfl,?_⟩;refine Y6 (λM=>?_) (λM=>?_)
   ·have M:it t a k≠0:=λz=>by
     rw[Ye,z] at M;simp at M
    have o5:k<r:=fC kr λz=>M (z▸R.z);obtain⟨rs,r2,g1,_,g2,g3,g4⟩:=G.at Y (W6 Y ha k);refine⟨_,λ_ _ z=>z,_,rfl,_,rfl,g,_,_,_,rfl,rfl,.of g1,g2,_,rfl,r2,_,_,_,rfl,rfl,g3.sq,g4 a ha,_,rfl,_,_,rfl,rfl,r-(k+1),by omega,k+1,?_,rfl,by omega,by omega,rfl⟩;rfl
   ·have M:it t a k=0:=by
     apply ak;intro z;apply M;rw[Ye];simp[z]
    have:k=r:=by
     apply ak;intro z;exact R.nz k k1 (by omega) M
    exact J _ _ ⟨_,by rw[this],rfl⟩
theorem Zlx (F:Wf K "full_round" "full_round" (tq 5) f fd)(T:Bl mg)(GR:Fn P w K mg base ZY 1 "round_of" ["group", "a"] ZbA):ZW P w K mg base ZY 2 f fd ["group"] ZbJ:=by
 refine F.ok (FS (N:=["group", "found", "a", "step"])) (λvs H Q E h=>?_) (λo6 A o5 s H vs Q E hr h=>?_)
 ·obtain⟨g,t,rs,rfl,_⟩:=h;rfl
 ·obtain⟨g,t,rs,rfl,G,Pt,R,q⟩:=h
  refine⟨_,Zu (ZK 1 rfl Zw) (Zu (ZV au rfl (UT T.range (pc (cb (YL K) T.len (pc (vn 0) Zs)) Zs)) (gn 2)
    (Zu (ZK 3 rfl (vn 1))
    (Zv (Yr au (ZM Ww (Zz Yb (vn 1) (YF GR hr ZF (pc (vn 0) (pc (vn 2) Zs)))) Zw (ZO _)) (Zv (JV (i:=1) (Z6 (by kernel_rfl)) rfl (YV (by kernel_rfl)) (vn 3) WB (.inl rfl)))))))
   (Zv (ZE (vn 1)))),?_⟩
  have n1:=Pt.n1;have o7:=Pt.n60;obtain⟨gs,g1,g2,_⟩:=id G;have el:(gs.map V.ref).length=t.length:=by rw[Za,g2]
  refine⟨_,rfl,g,_,rfl,.inr (.of g1),_,rfl,by omega,by rw[el];omega,?_⟩;rw[Zj,el];refine WN (λi Y H'=>∃(f:Nat) (v2 v3:TQ),Y=[some (.ref g),some (.int f),v2,v3]/\Same H H'/\Lc rs i f) ⟨1,_,_,rfl,Same.refl _,⟨Zq _,λa ha=>absurd ha (gh _),λx _=>Nat.mod_one x⟩⟩ ?_ ?_
  ·rintro i Y H' hi ⟨f,v2,v3,rfl,sm,L⟩
   rw[show (0:Int)+(i:Int)=(i:Int) by omega];have Ri:=R i hi;have o8:=Ri.r1;have L2:Lc rs (i+1) (upTo (rs i) f 61 f):=L.step (B:=t.length) n1 (λa ha=>(R a (by omega)).dv) (by omega);have o0:=L2.dv i (by omega);refine⟨_,rfl,?_⟩;refine Yi (λm j J=>∃x:Nat,j=[some (.ref g),some (.int x),some (.int i),some (.int f)]/\J=H'/\upTo (rs i) f m x=upTo (rs i) f 61 f)
    (λj J=>j=[some (.ref g),some (.int (upTo (rs i) f 61 f:Nat)),some (.int i),some (.int f)]/\J=H') ?hend ⟨61,f,rfl,rfl,rfl⟩ ?turn
   case hend=>
    rintro j J ⟨rfl,rfl⟩;exact⟨_,_,_,rfl,sm,L2⟩
   case turn=>
    rintro O m j J ⟨x,rfl,rfl,U⟩;have eT:(x:Int) % ((rs i:Nat):Int)=((x % rs i:Nat):Int):=by push_cast;rfl
    refine⟨_,rfl,_,rfl,_,rfl,g,t,i,rs i,rfl,G.mono sm,Pt,hi,Ri,_,_,rfl,rfl,(by show (0:Int)<(rs i:Nat);omega),rfl,_,rfl,?_⟩;refine Y6 (λM=>?_) (λM=>?_)
    ·have M:x % rs i≠0:=λz=>by
      rw[Ye,eT,z] at M;simp at M
     cases m with
     |zero=>
      have U:x=upTo (rs i) f 61 f:=U;rw[<-U] at o0;exact absurd o0 M
     |succ m=>
      rw[Tb.upTo,if_neg M] at U;exact⟨_,λ_ _ z=>z,_,rfl,_,rfl,_,_,rfl,rfl,m,by omega,x+f,rfl,rfl,U⟩
    ·have M:x % rs i=0:=by
      apply ak;intro z;apply M;rw[Ye,eT];simp;omega
     have:x=upTo (rs i) f 61 f:=by
      cases m with
      |zero=>exact U
      |succ m=>rw[Tb.upTo,if_pos M] at U;exact U
     exact O _ _ ⟨by rw[this],rfl⟩
  ·rintro Y H' ⟨f,v2,v3,rfl,sm,L⟩
   exact⟨_,rfl,q f H' sm L⟩
theorem ZiV (F:Wf K "sizes_of" "sizes_of" (tq 11) f fd)(T:Bl mg)(GC:Fn P w K mg base ZY 4 "classes_of" ["group"] WM):ZW P w K mg base ZY 5 f fd ["group"] Zby:=by
 refine F.ok (FS (N:=["group"])) (λvs H Q E h=>?_) (λo0 A J s H vs Q E hr h=>?_)
 ·obtain⟨g,t,rfl,_⟩:=h;rfl
 ·obtain⟨g,t,rfl,G,M,q⟩:=h
  refine⟨_,Zv (ZE (ct ZD T.tuple (pc (cmp ["members"] [] ["members"] rfl (itT K (YF GC hr ZF (pc (vn 0) Zs))) (λ_ _ _ _ _=>gn 0) (λ_ _ _ _ _=>ZQ) (λ_ _ _ _ _=>cb (YL K) T.len (pc (vn 0) Zs))) Zs))),?_⟩;have o5:=M.n60;refine⟨_,rfl,g,t,rfl,G,M,λc O s' C=>?_⟩;obtain⟨rs,U,c2,Y⟩:=C.row;have ul:=Wx (t:=t) t.length;refine⟨c,rfl,⟨_,.of U⟩,?_⟩;refine YX (YJ (K:=K) (.of U)) [] rfl (ZdB O) (by rw[Za];omega) (λi x HC hx sC R gg=>?_) (λD HD nD sD hD=>?_)
  ·obtain⟨r,rfl,hi,j⟩:=Y i x hx
   have fin:=gg HC (Same.refl _);have e:ZdB O (.ref r)=.int (((((ZH t t.length).getD i []).map nV).length:Nat)):=by
    unfold ZdB
    try dsimp only
    rw[j]
   rw[e] at fin;exact⟨_,rfl,r,_,rfl,.inr (.of (sC _ _ j)),fin⟩
  ·rw[ZlL c2 Y] at hD
   exact⟨D,_,rfl,.inl ⟨.of hD,λr nr=>q r _ ((s'.trans sD).trans (Same.upd nr)) Zt⟩⟩
def Uc (t:T7)(i c j:Nat):Int:=(cnA t (YN t) i j (ZL t c):Nat)
def gW (t:T7)(j:Nat->Nat->Nat)(i s:Nat):Nat:=j s (ZL t i)
theorem Zml (C:CD t p m e ω φ)(α:Nat->Int):Zkh m p (Vc t p m e α):=
 ⟨λc _=>dh _ C.p0,λc _=>c6 _ (by have:=C.pr.p2;omega)⟩
theorem Zf0 (C:CD t p m e ω φ)(j:PW t){i:Nat}(J:i<m)(S:Nat->Bool)(k:Nat):ZP m (Zac m p (Uc t i) (Vc t p m e (lpA S (gW t ω i) k)) (k:Int))=ZP m (Vc t p m e (lpA S (gW t ω i) (k+1))):=by
 refine Wm λc M=>?_;unfold Zac Uc;rw[Zmc C j J M,<-ZlK];rfl
theorem ZmX (C:CD t p m e ω φ)(j:PW t){i:Nat}(M:i<m):∀s,s<m->gW t ω i s<p:=λs J=>C.wlt s _ J ((YE j).rl i (by have:=C.mc;omega))
theorem ZlV (C:CD t p m e ω φ){M:Nat}(U:M<p):∃y:Nat,1<=y/\y<p/\(y:Int)*fcI p M % (p:Int)=1:=by
 have Y:=C.pr.p2;obtain⟨j,J⟩:=ZmY Y M;have O:=ZjJ C.pr U (Zq M);rw[<-ZjL,fQ j J] at O;obtain⟨a,ha⟩:=a7 j;rw[ha] at O J ⊢;obtain⟨b,b1,b2,b3⟩:=C.pr.iv a (by omega) (by omega);exact⟨b,b1,b2,by rw[<-aW,<-bA,b3];rfl⟩
inductive Zeh (vs:TR) (H:Hp) (Q:VK) (E03:XK):Prop
 |mk (ca oa:Addr) (t:T7) (p m:Nat) (e ω φ:Nat->Nat->Nat) (S:Nat->Bool) (i:Nat):(vs=[.ref ca,.ref oa,.int p])->(CD t p m e ω φ)->(PW t)->(i<m)->(p<=100000)->(LLs H ca m (Uc t i))->(H oa=some (.lst (ZP m (Vc t p m e (Xt S)))))->((∃s,s<m/\S s=true))->(∀L M H',H L=none->Same H H'->(∃s,s<m/\S s=true/\gW t ω i s=M)->(∀s,s<m->S s=true->gW t ω i s<=M)->H' L=some (.lst (ZP m (Vc t p m e (Xt (Xr S (gW t ω i) M)))))->Q (.ref L) H')->Zeh vs H Q E03
theorem Zl7 {t:T7}{p m:Nat}{e j J:Nat->Nat->Nat}(C:CD t p m e j J)(M:PW t):m<=60:=by
 have O:=C.mc;have U:=Wx (t:=t) t.length;have Y:=M.n60;omega
theorem Zlu (F:Wf K "last_part" "last_part" (tq 45) f fd)(T:Bl mg)(GL:Fn P w K mg base ZY 1 "less_often" ["columns", "one", "k", "p"] Zeg)(GB:Fn P w K mg base ZY 1 "back_by" ["p", "x"] JR):ZW P w K mg base ZY 2 f fd ["columns", "one", "p"] Zeh:=by
 refine F.ok (FS (N:=["columns", "one", "p", "k", "factor", "left", "after", "undo"])) (λvs H Q E h=>?_) (λq0 A p7 s H vs Q E hr h=>?_)
 ·obtain⟨ca,oa,t,p,m,e,U,φ,S,i,rfl,_⟩:=h;rfl
 ·obtain⟨ca,oa,t,p,m,e,U,φ,S,i,rfl,C,Pt,hi,pl,hC,hO,hS,q⟩:=h
  refine⟨_,Zu (ZK 3 rfl Zw)
   (Zu (ZK 4 rfl Zw)
   (Zu (ZK 5 rfl (vn 1))
   (Zu (ZK 6 rfl (YF GL hr ZF (pc (vn 0) (pc (vn 5) (pc (vn 3) (pc (vn 2) Zs))))))
   (Zu (Yr au (XL (cb (ZqK K rfl) T.any (pc (vn 6) Zs)))
    (Zu (ZK 5 rfl (vn 6))
    (Zu (JV (i:=3) (Z6 (by kernel_rfl)) rfl (YV (by kernel_rfl)) Zw WB (.inl rfl))
    (Zu (ZK 4 rfl (Zz Yb (Zz Z0 (vn 4) (vn 3)) (vn 2)))
    (Zv (ZK 6 rfl (YF GL hr ZF (pc (vn 0) (pc (vn 5) (pc (vn 3) (pc (vn 2) Zs)))))))))))
   (Zu (ZK 7 rfl (YF GB hr ZF (pc (vn 2) (pc (vn 4) Zs))))
   (Zv (ZE (cmp ["x"] [7,2] ["x", "undo", "p"] rfl (itL K (vn 5)) (λ_ _ _ _ _=>gn 0) (λ_ _ _ _ _=>ZQ) (λ_ _ _ _ _=>Zz Yb (Zz Z0 (vn 0) (vn 1)) (vn 2)))))))))),?_⟩
  have p2:=C.pr.p2;have o5:=Zl7 C Pt;obtain⟨M,Y,o0⟩:=Zn3 (g:=gW t U i) hS;have o6:=ZmX C Pt hi;have Mp:M<p:=by obtain⟨s',p8,_,e'⟩:=Y;rw[<-e'];exact o6 s' p8
  have any:=Zn6 C Pt o6 Y o0;have o7:H oa=some (.lst (ZP m (Vc t p m e (lpA S (gW t U i) 0)))):=by rw[ZlJ];exact hO
  refine⟨_,rfl,_,rfl,_,rfl,_,rfl,_,rfl,ca,oa,m,0,p,Uc t i,_,rfl,hC,o7,p2,pl,o5,by omega,Zml C _,λL1 H1 r6 s1 h1=>?_⟩;rw[Zf0 C Pt hi] at h1;refine Yi (λx j J=>∃(k:Nat) (l a:Addr),j=[some (.ref ca),some (.ref oa),some (.int (p:Nat)),some (.int (k:Nat)),some (.int (fcI p k)),some (.ref l),some (.ref a),none]/\Same H J/\J l=some (.lst (ZP m (Vc t p m e (lpA S (gW t U i) k))))/\J a=some (.lst (ZP m (Vc t p m e (lpA S (gW t U i) (k+1)))))/\k<=M/\x=M-k)
   (λj J=>∃(l a:Addr),j=[some (.ref ca),some (.ref oa),some (.int (p:Nat)),some (.int (M:Nat)),some (.int (fcI p M)),some (.ref l),some (.ref a),none]/\Same H J/\J l=some (.lst (ZP m (Vc t p m e (lpA S (gW t U i) M))))) ?hend ⟨M,0,oa,L1,rfl,s1,s1 _ _ o7,h1,aX _,rfl⟩ ?turn
  case hend=>
   rintro j J ⟨l,a,rfl,sm,hl⟩;obtain⟨y0,y1,y2,y3⟩:=ZlV C Mp;refine⟨_,rfl,_,rfl,p,_,rfl,p2,pl,⟨y0,y1,y2,y3⟩,λy a1 a2 a3=>?_⟩;refine⟨_,rfl,l,rfl,⟨_,.of hl⟩,?_⟩;refine Zal (Wh (K:=K) (.of hl)) [some (.int (y:Nat)),some (.int (p:Nat))] rfl (λc=>V.int (Vc t p m e (Xt (Xr S (gW t U i) M)) c)) (by rw[Yp];omega) (λc z hz H2 s2 R k2=>?_) (λD H2 nD s2 hD=>?_)
   ·have hc:c<m:=by
     have:=(ab.mp hz).1;rw[Yp] at this;exact this
    rw[Xf _ hc] at hz;cases hz;refine⟨_,rfl,_,rfl,_,_,rfl,rfl,.inr ⟨by omega,by omega⟩,_,rfl,_,_,rfl,rfl,(by show (0:Int)<(p:Int);omega),?_⟩;have o8:=k2 H2 (Same.refl _);rw[<-Zn5 C o0 a3 c] at o8;exact o8
   ·rw[Yp] at hD
    exact q D M H2 (sm.free nD) (sm.trans s2) Y o0 hD
  case turn=>
   rintro O x j J ⟨k,l,a,rfl,sm,hl,ha,kM,rfl⟩;have o9:=ha;rw[Jm] at o9;refine⟨_,rfl,a,_,rfl,.of o9,_,rfl,?_⟩;refine Y6 (λh2=>?_) (λh2=>?_)
   ·have:k+1<=M:=(any (k+1)).mp ((Ug _ _).mp h2)
    have ek:(k:Int)+1=((k+1:Nat):Int):=by omega
    obtain⟨f0,f1⟩:=ZmY p2 k;refine⟨_,λ_ _ z=>z,_,rfl,_,rfl,_,_,rfl,rfl,_,rfl,_,rfl,_,_,rfl,rfl,.inl ⟨by omega,by omega⟩,_,rfl,_,_,rfl,rfl,(by show (0:Int)<(p:Int);omega),_,rfl,_,rfl,_,rfl,_,rfl,ca,a,m,k+1,p,Uc t i,_,by rw[<-ek];rfl,hC.mono sm,ha,p2,pl,o5,by omega,Zml C _,λL2 H2 r8 s2 p6=>?_⟩;rw[Zf0 C Pt hi] at p6;exact⟨M-(k+1),by omega,k+1,a,L2,by rw[<-ek];rfl,sm.trans s2,s2 _ _ ha,p6,this,rfl⟩
   ·have:¬k+1<=M:=λz=>h2 ((Ug _ _).mpr ((any (k+1)).mpr z))
    have e2:k=M:=by omega
    subst e2;exact O _ _ ⟨l,a,rfl,sm,hl⟩
def WG (H:Hp)(a:Addr)(t:T7)(p m:Nat)(e:Nat->Nat->Nat)(cs:TU)(J:List (Nat->Bool)):Prop:=H a=some (.lst (cs.map V.ref))/\cs.length=J.length/\∀(j:Nat) b,cs[j]?=some b->∃S,J[j]?=some S/\H b=some (.lst (ZP m (Vc t p m e (Xt S))))
theorem WG.mono {H J:Hp}{a:Addr}{cs:TU}{M:List (Nat->Bool)}(h:WG H a t p m e cs M)(s:Same H J):WG J a t p m e cs M:=
 ⟨s _ _ h.1,h.2.1,λj b hb=>by
  obtain⟨S,O,U⟩:=h.2.2 j b hb;exact⟨S,O,s _ _ U⟩⟩
theorem WG.push {H:Hp}{a c:Addr}{cs:TU}{J:List (Nat->Bool)}{S:Nat->Bool}(h:WG H a t p m e cs J)(Y:H c=some (.lst (ZP m (Vc t p m e (Xt S)))))(hv:∀(j:Nat) b,(cs++[c])[j]?=some b->b≠a):WG (upd H a (.lst (cs.map V.ref++[.ref c]))) a t p m e (cs++[c]) (J++[S]):=by
 refine⟨by rw[Zt,aO];rfl,by rw[Zd,Zd,h.2.1];rfl,λj b hb=>?_⟩;have M:=hv j b hb;by_cases O:j<cs.length
 ·rw[aq O] at hb
  obtain⟨S',h1,h2⟩:=h.2.2 j b hb;exact⟨S',by rw[aq (by rw[<-h.2.1];exact O)];exact h1,by rw[Zy M];exact h2⟩
 ·have hl:=(ab.mp hb).1
  rw[Zd,Zk] at hl;have U:j=cs.length:=by omega
  rw[aw (by omega),U,cS] at hb;cases hb;refine⟨S,?_,by rw[Zy M];exact Y⟩;rw[U,h.2.1,aw (Zq _),cS];rfl
theorem Zca {H:Hp}{a b:Addr}{xs:TR}{ys:TR}(j:H a=some (.lst xs))(J:H b=some (.lst ys))(h:xs≠ys):a≠b:=λz=>by
 rw[z,J] at j;injection j with j;injection j with j;exact h j.symm
theorem UX {cs:TU}{m:Nat}{v:Nat->Int}(J:1<=m):cs.map V.ref≠ZP m v:=λz=>by
 have h:=congrArg (λl=>l[0]?) z;simp only[Xf v (show 0<m by omega),Zc] at h;cases j:cs[0]? with
 |none=>rw[j] at h;cases h
 |some c=>rw[j] at h;cases h
inductive ZbD (vs:TR) (H:Hp) (Q:VK) (E03:XK):Prop
 |mk (ca oa:Addr) (t:T7) (p m:Nat) (e ω φ:Nat->Nat->Nat) (S:Nat->Bool) (i:Nat):(vs=[.ref ca,.ref oa,.int p])->(CD t p m e ω φ)->(PW t)->(i<m)->(p<=100000)->(LLs H ca m (Uc t i))->(H oa=some (.lst (ZP m (Vc t p m e (Xt S)))))->(∀L cs Ss H',H L=none->Same H H'->PtS m S (gW t ω i) Ss->WG H' L t p m e cs Ss->Q (.ref L) H')->ZbD vs H Q E03
theorem Zky {m:Nat}{S:Nat->Bool}{g:Nat->Nat}{j:List (Nat->Bool)}{R:Nat->Bool}(W:PtW m S g j R):j.length<=m:=by
 have:=L2.Yv (j.map (pkS m)) (ac m) (ZaY W.ne W.dj) (λx J=>by
  obtain⟨T,M,rfl⟩:=aC.mp J;exact af.mpr (XC (W.ne T M)).1)
 rwa [Za,Zg] at this
theorem Zi0 (F:Wf K "parts_by" "parts_by" (tq 44) f fd)(T:Bl mg)(T5:BlT mg)(GL:Fn P w K mg base ZY 2 "last_part" ["columns", "one", "p"] Zeh):ZW P w K mg base ZY 3 f fd ["columns", "one", "p"] ZbD:=by
 refine F.ok (FS (N:=["columns", "one", "p", "parts", "rest", "part"])) (λvs H Q E h=>?_) (λu5 A r8 s H vs Q E hr h=>?_)
 ·obtain⟨ca,oa,t,p,m,e,Y,φ,S,i,rfl,_⟩:=h;rfl
 ·obtain⟨ca,oa,t,p,m,e,Y,φ,S,i,rfl,C,Pt,hi,pl,hC,hO,q⟩:=h
  refine⟨_,Zu (ZK 3 rfl (ZS Zs))
   (Zu (ZK 4 rfl (vn 1))
   (Zu (Yr au (XL (cb (ZqK K rfl) T.any (pc (vn 4) Zs)))
    (Zu (ZK 5 rfl (YF GL hr ZF (pc (vn 0) (pc (vn 4) (pc (vn 2) Zs)))))
    (Zu (Yx (Wv aM aS aT Z3 (vn 3) (pc (vn 5) Zs)))
    (Zv (ZkN 4 ["x", "y"] [2] ["x", "y", "p"] rfl rfl (ZaE K T5.zip (pc (vn 4) (pc (vn 5) Zs))) (λ_ _ _ _ _=>g2 K 0 1 rfl (gn 0) (gn 1)) (λ_ _ _ _ _=>ZQ) (λ_ _ _ _ _=>Zz Yb (Zz Y3 (vn 0) (vn 1)) (vn 2)))))))
   (Zv (ZE (vn 3))))),?_⟩
  have p2:=C.pr.p2;have u9:=Zl7 C Pt;have m1:=C.m1;have sz:=Jv;have r9:=ZmX C Pt hi;refine⟨JL,λL nL=>?_⟩;have s0:=Same.upd (H:=H) (o:=.lst []) nL;have h0:upd H L (.lst []) L=some (.lst ([]:TR)):=Zt;generalize upd H L (.lst [])=H0 at s0 h0 ⊢;refine⟨_,rfl,?_⟩;refine Yi (λx U H'=>∃(cs:TU) (Ss:List (Nat->Bool)) (R:Nat->Bool) (r:Addr) (v5:TQ),U=[some (.ref ca),some (.ref oa),some (.int (p:Nat)),some (.ref L),some (.ref r),v5]/\Same H H'/\WG H' L t p m e cs Ss/\PtW m S (gW t Y i) Ss R/\H' r=some (.lst (ZP m (Vc t p m e (Xt R))))/\∀s,s<m->R s=true->gW t Y i s<x)
   (λU H'=>∃(cs:TU) (Ss:List (Nat->Bool)) (r:Addr) (v5:TQ),U=[some (.ref ca),some (.ref oa),some (.int (p:Nat)),some (.ref L),some (.ref r),v5]/\Same H H'/\WG H' L t p m e cs Ss/\PtS m S (gW t Y i) Ss) ?hend
   ⟨p,[],[],S,oa,none,rfl,s0,⟨h0,rfl,λj b hb=>by simp at hb⟩,.zero,s0 _ _ hO,λs hs _=>r9 s hs⟩ ?turn
  case hend=>
   rintro U H' ⟨cs,Ss,r,v5,rfl,sm,hP,hS⟩;exact⟨_,rfl,q L cs Ss H' nL sm hS hP⟩
  case turn=>
   rintro o6 x U H' ⟨cs,Ss,R,r,v5,rfl,sm,hP,hW,hR,hx⟩;have o7:=hR;rw[Jm] at o7;refine⟨_,rfl,r,_,rfl,.of o7,_,rfl,?_⟩;refine Y6 (λh2=>?_) (λh2=>?_)
   ·have t0:=(Zgs C Pt R).mp ((Ug _ _).mp h2)
    refine⟨_,λ_ _ z=>z,_,rfl,_,rfl,_,rfl,ca,r,t,p,m,e,Y,φ,R,i,rfl,C,Pt,hi,pl,hC.mono sm,hR,t0,λL2 M H2 w6 s2 g1 o8 o0=>?_⟩;have O:=hP.mono s2;have o9:=s2 _ _ hR;have sl:=Zky hW;have o5:∀{b:Addr}{v:Nat->Int},H2 b=some (.lst (ZP m v))->b≠L:=λ{b v} hb=>Zca hb O.1 (UX m1).symm;have p6:=O.push o0 (λj b hb=>by
     rcases bv.mp (ah hb) with z|z
     ·obtain⟨j',t5⟩:=bG z
      obtain⟨S',_,t6⟩:=O.2.2 j' b t5;exact o5 t6
     ·rw[aJ.mp z]
      exact o5 o0)
    refine⟨_,rfl,.inl ⟨rfl,_,.of O.1⟩,_,rfl,L,_,_,rfl,rfl,O.1,by rw[Za,O.2.1];omega,?_⟩;have p7:Same H (upd H2 L (.lst (cs.map V.ref++[.ref L2]))):=(sm.trans s2).updr nL;have p8:upd H2 L (.lst (cs.map V.ref++[.ref L2])) r=some (.lst (ZP m (Vc t p m e (Xt R)))):=by rw[Zy (o5 o9)];exact o9
    have q0:upd H2 L (.lst (cs.map V.ref++[.ref L2])) L2=some (.lst (ZP m (Vc t p m e (Xt (Xr R (gW t Y i) M))))):=by rw[Zy (o5 o0)];exact o0
    generalize upd H2 L (.lst (cs.map V.ref++[.ref L2]))=H3 at p6 p7 p8 q0 ⊢;refine⟨_,rfl,_,rfl,r,L2,false,false,_,_,H3,rfl,.lst (.of p8),.lst (.of q0),Same.refl _,λJ At S' t7=>?_⟩;refine VP S' t7 (Same.refl _) [some (.int (p:Nat))] rfl (λa b=>(a-b) % (p:Int)) (by omega) (λj H4 hj s4 R' g=>?_) (λD H4 nD s4 hD=>?_)
    ·exact⟨_,rfl,_,rfl,_,_,rfl,rfl,_,rfl,_,_,rfl,rfl,(by show (0:Int)<(p:Int);omega),g⟩
    ·have e5:(ZP m λj=>(Vc t p m e (Xt R) j-Vc t p m e (Xt (Xr R (gW t Y i) M)) j) % (p:Int))=ZP m (Vc t p m e (Xt (Zcg R (gW t Y i) M))):=Wm λc _=>Zn7 o8 c
     rw[e5] at hD;refine⟨M,?_,cs++[L2],Ss++[Xr R (gW t Y i) M],Zcg R (gW t Y i) M,D,_,rfl,p7.trans s4,p6.mono s4,hW.step g1 o8,hD,λs' r6 q'=>?_⟩
     ·obtain⟨s',r6,a,b⟩:=g1
      rw[<-b];exact hx s' r6 a
     ·unfold Zcg at q'
      rw[ae,decide_eq_true_eq] at q';exact q'.2
   ·have t9:¬ ∃s,s<m/\R s=true:=λz=>h2 ((Ug _ _).mpr ((Zgs C Pt R).mpr z))
    exact o6 _ _ ⟨cs,Ss,r,v5,rfl,sm,hP,hW.end t9⟩
end C30
namespace C30
open PySem L2 PySem.Spec PyProof.Rows
open Tb
open Pm
theorem ZjD {X:Cx}:ZoV X (λx y H Q=>∃(p:Addr) (xs:TR) (i:Nat) (v:V),x=.ref p/\y=.int i/\H p=some (.lst xs)/\xs[i]?=some v/\Q v H):=by
 intro J s σ H x y O iv Q I U Y h;obtain⟨p,xs,i,v,rfl,rfl,hp,M,q⟩:=h;cases (show O=aQ p from U);obtain⟨t,rfl⟩:=Y;obtain⟨o0,r,pl,hz⟩:=I.list (.of hp);obtain⟨w,ew,j⟩:=r.get M;have hl:=r.length;have hn:=VN;have hi:i<xs.length:=(ab.mp M).1;exact wpAny_getItem_list pl.isList (gF _) (by omega) (by simpa using ew) ⟨v,H,I,j,q⟩
theorem Wa {W:Type}(o6:W->Addr)(Pr:Nat->W->Hp->Prop)(Y:W->Hp->Prop){J:It}{own:List Str}{o5:TY}{te:TE}{σ:L2.St}{H:Hp}{Q:VK}{xs:TR}(S:WF J H xs)(cs:L2.St)(o9:JJ own o5 σ=none::cs)(hn:xs.length<=1000)
  (mono:∀i w H M,Same H M->Pr i w H->Pr i w M) (o8:∀w H M,Same H M->Y w M->Y w H) (hu:∀i w H0 H1 D o ys p6,Pr i w H1->Y w H0->H0 D=some (.lst o)->H1 D=some (.lst ys)->Pr i w (upd H1 D (.lst p6)))
  (hs:∀(i:Nat) y,xs[i]?=some y->∀M,Same H M->∀R:VK,(∀w H5,Same M H5->Pr i w H5->Y w M->R (.ref (o6 w)) H5)->te (some y::cs) M R)
  (hd:∀D (O:List W) M,H D=none->Same H M->M D=some (.lst (O.map λw=>V.ref (o6 w)))->O.length=xs.length->(∀(i:Nat) w,O[i]?=some w->Pr i w M/\Y w H)->(∀(i j:Nat) w w',i<j->O[i]?=some w->O[j]?=some w'->∃Hm,Pr i w Hm/\Y w' Hm)->Q (.ref D) M):WH own o5 (Ym 0) Wu te σ Q J H:=by
 refine Vu (xs:=xs) (λD i ys M=>Same H M/\∃O:List W,ys=O.map (λw=>V.ref (o6 w))/\O.length=i/\(∀(i:Nat) w,O[i]?=some w->Pr i w M/\Y w H/\∃H0 o,H0 D=some (.lst o)/\Y w H0)/\(∀(i j:Nat) w w',i<j->O[i]?=some w->O[j]?=some w'->∃Hm,Pr i w Hm/\Y w' Hm)) cs o9 (by omega) ?_ ?_ ?_ ?_
 ·intro D i ys M hD U p
  have S':=S.mono p.1;exact⟨λhi=>⟨S'.go i M (Same.refl _) hi,λx H3 y=>S'.yld i M x H3 (Same.refl _) hi y⟩,λe=>e▸S'.stop M (Same.refl _)⟩
 ·intro D hD
  exact⟨Same.upd hD,[],rfl,rfl,(λi w hw=>by cases hw),(λi j w w' _ h=>by cases h)⟩
 ·rintro D i y ys M hD U hy ⟨sm,O,rfl,wl,hw,hp⟩ R k
  refine hs i y hy M sm R λw H5 s5 p5 n5=>?_;have o7:=s5 _ _ U;have lst:∀(b:Nat) v,(O++[w])[b]?=some v->(b<O.length/\O[b]?=some v)\/(b=O.length/\v=w):=λb v hb=>by
   by_cases o0:b<O.length
   ·rw[aq o0] at hb
    exact .inl ⟨o0,hb⟩
   ·rw[aw (by omega)] at hb
    have p7:b-O.length=0:=by
     apply ak;intro z;rw[ag (by rw[Zk];omega)] at hb;cases hb
    rw[p7] at hb;cases hb;exact .inr ⟨by omega,rfl⟩
  refine k _ H5 o7 ⟨(sm.trans s5).updr hD,O++[w],by rw[aO];rfl,by rw[Zd,wl];rfl,λb v hv=>?_,λa b v v' p8 ha hb=>?_⟩
  ·rcases lst b v hv with ⟨_,hv⟩|⟨hb,hv⟩
   ·obtain⟨h1,h2,H0,o,h3,h4⟩:=hw b v hv
    exact⟨hu b v H0 H5 D o _ _ (mono b v _ _ s5 h1) h4 h3 o7,h2,H0,o,h3,h4⟩
   ·subst hv
    subst hb;rw[<-wl] at p5;exact⟨hu _ v M H5 D _ _ _ p5 n5 U o7,o8 v _ _ sm n5,M,_,U,n5⟩
  ·rcases lst b v' hb with ⟨o0,hb⟩|⟨o0,hb⟩
   ·rw[aq (by omega)] at ha
    exact hp a b v v' p8 ha hb
   ·subst hb
    rw[aq (by omega)] at ha;exact⟨M,(hw a v ha).1,n5⟩
 ·rintro D ys H5 hD U q0 ⟨sm,O,rfl,wl,hw,hp⟩
  exact hd D O H5 hD sm U wl (λi w h=>⟨(hw i w h).1,(hw i w h).2.1⟩) hp
structure N3 (Hb H:Hp)(L:Addr)(m:Nat)(A:Nat->Addr)(B:Nat->Nat->Addr)(f:Nat->Nat->Nat->Nat):Prop where
 sm:Same Hb H
 m1:1<=m
 top:H L=some (.lst ((ac m).map λi=>V.ref (A i)))
 mid:∀i,i<m->H (A i)=some (.lst ((ac m).map λj=>V.ref (B i j)))
 low:∀i j,i<m->j<m->H (B i j)=some (.lst ((Yh m (f i j)).map nV))
 inj:∀i j i' j',i<m->j<m->i'<m->j'<m->B i j=B i' j'->i=i'/\j=j'
 nw:∀i j,i<m->j<m->Hb (B i j)=none
section
variable {Hb H H':Hp}{L:Addr}{A:Nat->Addr}{B:Nat->Nat->Addr}{f:Nat->Nat->Nat->Nat}
theorem N3.mono (N:N3 Hb H L m A B f)(s:Same H H'):N3 Hb H' L m A B f:=⟨N.sm.trans s,N.m1,s _ _ N.top,λi J=>s _ _ (N.mid i J),λi j J M=>s _ _ (N.low i j J M),N.inj,N.nw⟩
theorem ZfF {m:Nat}(J:1<=m){a:Nat->Addr}{f:Nat->Nat}:(HO.lst ((ac m).map λi=>V.ref (a i)))≠.lst ((Yh m f).map nV):=λz=>by
 injection z with z;have:=congrArg (λj:TR=>j[0]?) z;unfold Yh at this;rw[Zc,Zc,Zc,ao (show 0<m by omega)] at this;cases this
theorem N3.put (N:N3 Hb H L m A B f){i j k v:Nat}(hi:i<m)(hj:j<m)(hk:k<m):N3 Hb (upd H (B i j) (.lst (((Yh m (f i j)).map nV).set k (nV v)))) L m A B (λJ O U=>if J=i/\O=j/\U=k then v else f J O U):=by
 have nL:L≠B i j:=Zjd N.top (N.low i j hi hj) (ZfF N.m1);have nA:∀J,J<m->A J≠B i j:=λJ M=>Zjd (N.mid J M) (N.low i j hi hj) (ZfF N.m1);refine⟨N.sm.updr (N.nw i j hi hj),N.m1,by rw[Zy nL];exact N.top,λJ M=>by rw[Zy (nA J M)];exact N.mid J M,λJ O M Y=>?_,N.inj,N.nw⟩;by_cases e:J=i/\O=j
 ·obtain⟨rfl,rfl⟩:=e
  rw[Zt,Zc6 _ hk];have:(Yh m λb=>if b=k then v else f J O b)=Yh m λU=>if J=J/\O=O/\U=k then v else f J O U:=Wp λb _=>by
   by_cases h:b=k
   ·rw[if_pos h,if_pos ⟨rfl,rfl,h⟩]
   ·rw[if_neg h,if_neg (λz=>h z.2.2)]
  rw[this]
 ·rw[Zy λz=>e (N.inj J O i j M Y hi hj z),N.low J O M Y]
  have:(Yh m (f J O))=Yh m λU=>if J=i/\O=j/\U=k then v else f J O U:=Wp λb _=>by rw[if_neg (λz=>e ⟨z.1,z.2.1⟩)]
  rw[<-this]
theorem N3.congr (N:N3 Hb H L m A B f){g:Nat->Nat->Nat->Nat}(h:∀i j k,i<m->j<m->k<m->f i j k=g i j k):N3 Hb H L m A B g:=⟨N.sm,N.m1,N.top,N.mid,λi j J M=>by rw[N.low i j J M,Wp λk O=>h i j k J M O],N.inj,N.nw⟩
end
def Zmf (m:Nat)(b:Addr)(H:Hp):Prop:=H b=some (.lst ((Yh m λ_=>0).map nV))
structure ZoX (m:Nat)(w:Addr×TU)(H:Hp):Prop where
 top:H w.1=some (.lst (w.2.map V.ref))
 len:w.2.length=m
 low:∀b∈w.2,Zmf m b H
 nd:∀(i j:Nat) b b',i<j->w.2[i]?=some b->w.2[j]?=some b'->b≠b'
def NwM (w:Addr×TU)(H:Hp):Prop:=H w.1=none/\∀b∈w.2,H b=none
theorem Zhn {m:Nat}{J:It}{own:List Str}{O:TY}{te:TE}{σ:L2.St}{H:Hp}{Q:VK}{xs:TR}(S:WF J H xs)(Y:L2.St)(o0:JJ own O σ=none::Y)(hn:xs.length<=1000)(hm:xs.length=m)
  (hs:∀(i:Nat) y,xs[i]?=some y->∀M,Same H M->∀R:VK,(∀b H5,Same M H5->Zmf m b H5->M b=none->R (.ref b) H5)->te (some y::Y) M R)
  (hd:∀w M,Same H M->ZoX m w M->NwM w H->Q (.ref w.1) M):WH own O (Ym 0) Wu te σ Q J H:=by
 refine Wa (W:=Addr) id (λ_ b H=>Zmf m b H) (λb H=>H b=none) S Y o0 hn (λi w H M s h=>s _ _ h) (λw H M s h=>s.free h) (λi w H0 H1 D o ys o6 h h0 U _=>?_) (λi y hy M s R k=>hs i y hy M s R k) (λD ws M nD s hD wl hw hp=>?_)
 ·have:w≠D:=λz=>by rw[z,U] at h0;cases h0
  show upd H1 D _ w=_;rw[Zy this];exact h
 ·refine hd (D,ws) M s ⟨hD,by rw[<-hm];exact wl,λb hb=>?_,λi j b b' o5 hi hj z=>?_⟩ ⟨nD,λb hb=>?_⟩
  ·obtain⟨i,hi⟩:=bG hb
   exact (hw i b hi).1
  ·obtain⟨Hm,U,h2⟩:=hp i j b b' o5 hi hj
   have U:Hm b=some _:=U;rw[z,h2] at U;cases U
  ·obtain⟨i,hi⟩:=bG hb
   exact (hw i b hi).2
theorem Zhm {m:Nat}{J:It}{own:List Str}{o6:TY}{te:TE}{σ:L2.St}{H:Hp}{Q:VK}{xs:TR}(S:WF J H xs)(cs:L2.St)(o8:JJ own o6 σ=none::cs)(hn:xs.length<=1000)(hm:xs.length=m)(m1:1<=m)
  (hs:∀(i:Nat) y,xs[i]?=some y->∀H',Same H H'->∀R:VK,(∀w H5,Same H' H5->ZoX m w H5->NwM w H'->R (.ref w.1) H5)->te (some y::cs) H' R)
  (hd:∀D A B H',H D=none->N3 H H' D m A B (λ_ _ _=>0)->Q (.ref D) H'):WH own o6 (Ym 0) Wu te σ Q J H:=by
 refine Wa (W:=Addr×TU) mm (λ_ w H=>ZoX m w H) NwM S cs o8 hn (λi w H H' s h=>⟨s _ _ h.top,h.len,λb hb=>s _ _ (h.low b hb),h.nd⟩) (λw H H' s h=>⟨s.free h.1,λb hb=>s.free (h.2 b hb)⟩) (λi w H0 H1 D o ys p6 h h0 h1 _=>?_) (λi y hy H' s R k=>hs i y hy H' s R k) (λD ws H' nD s hD wl hw hp=>?_)
 ·have n1:w.1≠D:=λz=>by have:=h0.1;rw[z,h1] at this;cases this
  have n2:∀b∈w.2,b≠D:=λb hb z=>by have:=h0.2 b hb;rw[z,h1] at this;cases this
  exact⟨by rw[Zy n1];exact h.top,h.len,λb hb=>by show upd H1 D _ b=_;rw[Zy (n2 b hb)];exact h.low b hb,h.nd⟩
 ·rw[hm] at wl
  have wat:∀i,i<m->ws[i]?=some (ws.getD i (0,[])):=λi O=>by rw[Zb,Zf (by omega)];rfl
  have U:∀i j,i<m->j<m->(ws.getD i (0,[])).2[j]?=some ((ws.getD i (0,[])).2.getD j 0):=λi j O Y=>by
   have:=(hw i _ (wat i O)).1.len;rw[Zb (l:=(ws.getD i (0,[])).2),Zf (by omega)];rfl
  refine hd D (λi=>(ws.getD i (0,[])).1) (λi j=>(ws.getD i (0,[])).2.getD j 0) H' nD ⟨s,m1,?_,λi O=>?_,λi j O Y=>?_,λi j i' j' O Y o5 o0 z=>?_,λi j O Y=>?_⟩
  ·rw[hD]
   congr 2;refine a6 λi=>?_;rw[Zc,Zc];by_cases O:i<m
   ·rw[wat i O,ao O]
    rfl
   ·rw[ag (by omega),ag (by rw[Zg];omega)]
    rfl
  ·have M:=(hw i _ (wat i O)).1
   have ml:=M.len;rw[M.top];congr 2;refine a6 λj=>?_;rw[Zc,Zc];by_cases Y:j<m
   ·rw[U i j O Y,ao Y]
    rfl
   ·rw[ag (by omega),ag (by rw[Zg];omega)]
    rfl
  ·exact (hw i _ (wat i O)).1.low _ (ah (U i j O Y))
  ·have o7:∀i j i' j',i<m->j<m->i'<m->j'<m->i<i'->(ws.getD i (0,[])).2.getD j 0≠(ws.getD i' (0,[])).2.getD j' 0:=λi j i' j' O Y o5 o0 o9 z=>by
    obtain⟨Hm,h1,h2⟩:=hp i i' _ _ o9 (wat i O) (wat i' o5);have a1:=h1.low _ (ah (U i j O Y));have a2:=h2.2 _ (ah (U i' j' o5 o0));unfold Zmf at a1;rw[z,a2] at a1;cases a1
   have ei:i=i':=by
    rcases nZ i i' with h|h|h
    ·exact absurd z (o7 i j i' j' O Y o5 o0 h)
    ·exact h
    ·exact absurd z.symm (o7 i' j' i j o5 o0 O Y h)
   subst ei;refine⟨rfl,?_⟩;have nd:=(hw i _ (wat i O)).1.nd;rcases nZ j j' with h|h|h
   ·exact absurd z (nd j j' _ _ h (U i j O Y) (U i j' O o0))
   ·exact h
   ·exact absurd z.symm (nd j' j _ _ h (U i j' O o0) (U i j O Y))
  ·exact (hw i _ (wat i O)).2.2 _ (ah (U i j O Y))
def C3 (H:Hp)(r:Addr)(m:Nat)(F:Nat->Nat->Nat->Nat):Prop:=∃cs:TU,H r=some (.tup (cs.map V.ref))/\cs.length=m/\∀(i:Nat) c,cs[i]?=some c->CT H c ((ac m).map λj=>Yh m (F i j))
def PrT (m:Nat)(F:Nat->Nat->Nat)(w:Addr×TU)(H:Hp):Prop:=H w.1=some (.tup (w.2.map V.ref))/\w.2.length=m/\∀(j:Nat) r,w.2[j]?=some r->H r=some (.tup ((Yh m (F j)).map nV))
theorem PrT.mono {m:Nat}{F:Nat->Nat->Nat}{w:Addr×TU}{H J:Hp}(h:PrT m F w H)(s:Same H J):PrT m F w J:=⟨s _ _ h.1,h.2.1,λj r M=>s _ _ (h.2.2 j r M)⟩
theorem PrT.upd {m:Nat}{F:Nat->Nat->Nat}{w:Addr×TU}{H:Hp}{D:Addr}{ys:TR}{o:HO}(h:PrT m F w H)(J:H D=some (.lst ys)):PrT m F w (upd H D o):=
 ⟨by rw[Zy λz=>by have:=h.1;rw[z,J] at this;cases this];exact h.1,h.2.1,λj r M=>by rw[Zy λz=>by have:=h.2.2 j r M;rw[z,J] at this;cases this];exact h.2.2 j r M⟩
theorem PrT.ct {m:Nat}{F:Nat->Nat->Nat}{w:Addr×TU}{H:Hp}(h:PrT m F w H):CT H w.1 ((ac m).map λj=>Yh m (F j)):=by
 refine⟨w.2,h.1,by rw[Za,Zg];exact h.2.1,λi r J=>?_⟩;have M:i<m:=by rw[<-h.2.1];exact (ab.mp J).1
 rw[h.2.2 i r J,Zb,Zc,ao M];rfl
theorem Zhl {m:Nat}{F:Nat->Nat->Nat}{J:It}{own:List Str}{O:TY}{te:TE}{σ:L2.St}{H:Hp}{Q:VK}{xs:TR}(S:WF J H xs)(cs:L2.St)(o0:JJ own O σ=none::cs)(hn:xs.length<=1000)(hm:xs.length=m)
  (hs:∀(i:Nat) y,xs[i]?=some y->∀M,Same H M->∀R:VK,(∀b U,Same M U->U b=some (.tup ((Yh m (F i)).map nV))->R (.ref b) U)->te (some y::cs) M R)
  (hd:∀D (rs:TU) M,H D=none->Same H M->M D=some (.lst (rs.map V.ref))->(∀r Y,Y r=some (.tup (rs.map V.ref))->Same M Y->PrT m F (r,rs) Y)->Q (.ref D) M):WH own O (Ym 0) Wu te σ Q J H:=by
 refine Wa (W:=Addr) id (λi b H=>H b=some (.tup ((Yh m (F i)).map nV))) (λ_ _=>True) S cs o0 hn (λi w H M s h=>s _ _ h) (λw H M s h=>trivial) (λi w H0 H1 D o ys o5 h h0 h1 h2=>?_) (λi y hy M s R k=>hs i y hy M s R λb U s5 h5=>k b U s5 h5 trivial) (λD ws M nD s hD wl hw hp=>?_)
 ·rw[Zy λz=>by rw[z,h2] at h;cases h]
  exact h
 ·exact hd D ws M nD s hD λr Y hr s2=>⟨hr,by rw[<-hm];exact wl,λj b hb=>s2 _ _ (hw j b hb).1⟩
theorem Zl2 {m:Nat}{F:Nat->Nat->Nat->Nat}{J:It}{own:List Str}{M:TY}{te:TE}{σ:L2.St}{H:Hp}{Q:VK}{xs:TR}(S:WF J H xs)(cs:L2.St)(o0:JJ own M σ=none::cs)(hn:xs.length<=1000)(hm:xs.length=m)
  (hs:∀(i:Nat) y,xs[i]?=some y->∀j,Same H j->∀R:VK,(∀w O,Same j O->PrT m (F i) w O->R (.ref w.1) O)->te (some y::cs) j R)
  (hd:∀D (ys:TR) j,H D=none->Same H j->j D=some (.lst ys)->(∀r Y,Y r=some (.tup ys)->Same j Y->C3 Y r m F)->Q (.ref D) j):WH own M (Ym 0) Wu te σ Q J H:=by
 refine Wa (W:=Addr×TU) mm (λi w H=>PrT m (F i) w H) (λ_ _=>True) S cs o0 hn (λi w H j s h=>h.mono s) (λw H j s h=>trivial) (λi w H0 H1 D o ys o5 h h0 h1 h2=>h.upd h2) (λi y hy j s R k=>hs i y hy j s R λb O s5 h5=>k b O s5 h5 trivial) (λD ws j nD s hD wl hw hp=>?_);refine hd D _ j nD s hD λr Y hr s2=>⟨ws.map mm,by rw[hr,aL];rfl,by rw[Za,<-hm];exact wl,λi c U=>?_⟩;rw[Zc] at U;cases hx:ws[i]? with
 |none=>rw[hx] at U;cases U
 |some w=>
  rw[hx] at U;cases U;exact ((hw i w hx).1.mono s2).ct
def one (J:Nat->Nat)(C:Nat->Nat->Nat->Bool)(i j k x y:Nat):Nat:=J4 (decide (J x=i))*(J4 (decide (J y=j))*J4 (C x y k))
def ZI (n:Nat)(J:Nat->Nat)(C:Nat->Nat->Nat->Bool)(X Y i j k:Nat):Nat:=sm X (λx=>sm n λy=>one J C i j k x y)+sm Y λy=>one J C i j k X y
theorem acc_zero (n:Nat)(J:Nat->Nat)(C:Nat->Nat->Nat->Bool)(i j k:Nat):ZI n J C 0 0 i j k=0:=rfl
theorem Zmb (n:Nat)(J:Nat->Nat)(C:Nat->Nat->Nat->Bool)(X i j k:Nat):ZI n J C X n i j k=ZI n J C (X+1) 0 i j k:=by
 unfold ZI;rw[Y0];rfl
theorem acc_step (n:Nat)(J:Nat->Nat)(C:Nat->Nat->Nat->Bool)(X Y i j k:Nat):ZI n J C X (Y+1) i j k=ZI n J C X Y i j k+one J C i j k X Y:=by
 unfold ZI;rw[Y0];omega
def hdT (t:T7)(k:Nat):Nat:=((ZH t t.length).getD k []).getD 0 0
theorem Zcm {t:T7}(j:PW t){k:Nat}(J:k<(ZH t t.length).length):hdT t k<t.length/\JW t (hdT t k)=k/\((ZH t t.length).getD k [])[0]?=some (hdT t k):=by
 obtain⟨a,r,e⟩:=Ziw j J;have M:hdT t k=a:=by unfold hdT;rw[e];rfl
 have h:=ZkR j J (by rw[e];exact aD);rw[M,e];exact⟨h.1,h.2.1,rfl⟩
def Cg (t:T7)(x y k:Nat):Bool:=decide (ZT t x y=hdT t k)
def cnG (t:T7):Nat->Nat->Nat->Nat:=ZI t.length (JW t) (Cg t) t.length 0
theorem ZiR (J:Nat->Nat)(C:Nat->Nat->Nat->Bool)(i j k x y:Nat):one J C i j k x y=if i=J x/\j=J y/\C x y k=true then 1 else 0:=by
 unfold one;by_cases M:J x=i
 ·rw[decide_eq_true M]
  by_cases O:J y=j
  ·rw[decide_eq_true O]
   cases U:C x y k with
   |true=>rw[if_pos ⟨M.symm,O.symm,rfl⟩];rfl
   |false=>rw[if_neg (λz=>by cases z.2.2)];rfl
  ·rw[decide_eq_false O,if_neg (λz=>O z.2.1.symm)]
   show 1*(0*_)=0;omega
 ·rw[decide_eq_false M,if_neg (λz=>M z.1.symm)]
  show 0*_=0;omega
inductive UM (vs:TR) (H:Hp) (Q:VK) (E03:XK):Prop
 |mk (g:Addr) (t:T7):(vs=[.ref g])->(GT H g t)->(PW t)->(∀r H',Same H H'->C3 H' r (ZH t t.length).length (cnG t)->Q (.ref r) H')->UM vs H Q E03
theorem ZgY (F:Wf K "counts_of" "counts_of" (tq 12) f fd)(T:Bl mg)(T2:Zfa mg)(GC:Fn P w K mg base ZY 4 "classes_of" ["group"] WM)(GN:Fn P w K mg base ZY 5 "class_numbers" ["group"] ZbE):ZW P w K mg base ZY 6 f fd ["group"] UM:=by
 refine F.ok (FS (N:=["group", "classes", "numbers", "counts", "x", "row", "y", "z", "k"])) (λvs H Q E h=>?_) (λu5 A p7 s H vs Q E hr h=>?_)
 ·obtain⟨g,t,rfl,_⟩:=h;rfl
 ·obtain⟨g,t,rfl,G,O,q⟩:=h
  refine⟨_,Zu (ZK 1 rfl (YF GC hr ZF (pc (vn 0) Zs)))
   (Zu (ZK 2 rfl (YF GN hr ZF (pc (vn 0) Zs)))
   (Zu (ZkN 3 ["i"] [1] ["i", "classes"] rfl rfl (itT K (vn 1)) (λ_ _ _ _ _=>gn 0) (λ_ _ _ _ _=>ZQ)
    (λ_ _ _ _ _=>cmp ["j"] [1] ["j", "classes"] rfl (itT K (vn 1)) (λ_ _ _ _ _=>gn 0) (λ_ _ _ _ _=>ZQ)
     (λ_ _ _ _ _=>Zz WU (ZS (pc Zw Zs)) (cb (YL K) (by exact T.len) (pc (vn 1) Zs)))))
   (Zu (ZV au rfl (V3 K T2.enumerate (pc (vn 0) Zs)) (g2 K 4 5 rfl (gn 4) (gn 5))
    (Zv (ZV au rfl (V3 K T2.enumerate (pc (vn 5) Zs)) (g2 K 6 7 rfl (gn 6) (gn 7))
     (Zu (ZK 8 rfl (ZU (VA K) (vn 2) (vn 7) (λ_ _=>rfl)))
     (Zv (YU (ZM Zdj (ZU (VA K) (ZU (VA K) (vn 1) (vn 8) (λ_ _=>rfl)) Zw (λ_ _=>rfl)) (vn 7) (ZO _))
      (Zv (Xj (ZU (ixL K) (ZU (ixL K) (vn 3) (ZU (VA K) (vn 2) (vn 4) (λ_ _=>rfl)) (λ_ _=>rfl)) (ZU (VA K) (vn 2) (vn 6) (λ_ _=>rfl)) (λ_ _=>rfl)) (vn 8) ZjD Zw WB YT)) Z2))))))
   (Zv (ZE (ct ZD T.tuple (pc (cmp ["seconds"] [] ["seconds"] rfl (itL K (vn 3)) (λ_ _ _ _ _=>gn 0) (λ_ _ _ _ _=>ZQ)
    (λ_ _ _ _ _=>ct (tupK K) (by exact T.tuple) (pc (cmp ["ends"] [] ["ends"] rfl (itL K (vn 0)) (λ_ _ _ _ _=>gn 0) (λ_ _ _ _ _=>ZQ)
     (λ_ _ _ _ _=>ct (tupK K) (by exact T.tuple) (pc (vn 0) Zs))) Zs))) Zs))))))),?_⟩
  have sz:=Jv;have u9:=O.n60;have ul:=Wx (t:=t) t.length;have m1:1<=(ZH t t.length).length:=by
   have:=(VI O (show 0<t.length from O.n1)).1;omega
  refine⟨_,rfl,g,t,rfl,G,O,λc H1 s1 C1=>?_⟩;refine⟨_,rfl,g,t,rfl,G.mono s1,O,λr0 H2 s2 o0=>?_⟩;have C2:=C1.mono s2;obtain⟨rs,c1,c2,c3⟩:=C2.row;have cl:(rs.map V.ref).length=(ZH t t.length).length:=by rw[Za,c2]
  replace o0:H2 r0=some (.tup ((Yh t.length (JW t)).map nV)):=o0;generalize hm:(ZH t t.length).length=m at *;refine⟨_,rfl,c,rfl,⟨_,.of c1⟩,?_⟩;refine Zhm (YJ (K:=K) (.of c1)) [some (.ref c)] rfl (by omega) cl m1 (λi y hy H3 s3 R k=>?_) (λL A B H3 nL N=>?_)
  ·have o5:=s3 _ _ c1
   refine⟨_,rfl,c,rfl,⟨_,.of o5⟩,?_⟩;refine Zhn (YJ (K:=K) (.of o5)) [some (.ref c)] rfl (by omega) cl (λj y' o7 H4 s4 R' k'=>?_) (λw' H4 s4 M p8=>k w' H4 s4 M p8);refine⟨JL,λl0 q0=>?_⟩;have U:=Same.upd (H:=H4) (o:=.lst [.int 0]) q0;refine⟨_,rfl,c,_,rfl,.inr (.of (U _ _ (s4 _ _ o5))),l0,_,_,rfl,rfl,Zt,by rw[cl];omega,by rw[cl];omega,by rw[cl];show 1*((m:Int)).toNat<=sizeLine;omega,λb nb=>?_⟩;rw[cl,Zj];have e0:(am m [V.int 0]).flatten=(Yh m λ_=>0).map nV:=by
    unfold Yh;rw[aL];have:∀m k,(am m [V.int 0]).flatten=(dE k m).map λ_=>nV 0:=λm=>by
     induction m with
     |zero=>intro k;rfl
     |succ m ih=>intro k;rw[aV,bP,ih (k+1),eX,aB];rfl
    rw[this m 0,<-eL];rfl
   rw[e0];exact k' b _ (U.trans (Same.upd nb)) Zt (U.free nb)
  have G2:=G.mono (s1.trans s2);obtain⟨gs,u1,u2,u3⟩:=id G2;have el:(gs.map V.ref).length=t.length:=by rw[Za,u2]
  refine⟨_,rfl,g,rfl,.inr ⟨⟨_,.of (N.sm _ _ u1)⟩,?_⟩⟩;refine YW (Zag (K:=K) (xs:=gs.map V.ref)) (λX J H'=>∃v4 v5 v6 v7 v8:TQ,J=[some (.ref g),some (.ref c),some (.ref r0),some (.ref L),v4,v5,v6,v7,v8]/\N3 H2 H' L m A B (ZI t.length (JW t) (Cg t) X 0))
   ⟨_,_,_,_,_,rfl,N.congr λi j k _ _ _=>(acc_zero _ _ _ _ _ _).symm⟩ (λi J H' h=>by
    obtain⟨_,_,_,_,_,_,N'⟩:=h;exact N'.sm.tup (.of u1)) ?_ ?_
  ·rintro X y J H4 T' hy ⟨v4,v5,v6,v7,v8,rfl,N4⟩ nT
   have hX:X<t.length:=by
    have:=(ab.mp hy).1;rw[el] at this;exact this
   have o8:gs[X]?=some (gs[X]'(by omega)):=Zf (by omega);rw[Zc,o8] at hy;cases hy;have row:=u3 X _ o8;generalize gs[X]'(by omega)=r at row;have U:=Same.upd (H:=H4) (o:=.tup [.int (X:Nat),.ref r]) nT;refine⟨T',_,rfl,.of Zt,rfl,_,_,rfl,_,_,rfl,rfl,?_⟩;have N5:=N4.mono U;generalize upd H4 T' (.tup [.int (X:Nat),.ref r])=H5 at U N5 ⊢;refine⟨_,rfl,r,rfl,.inr ⟨⟨_,(row.mono N5.sm).sq⟩,?_⟩⟩;refine YW (Zag (K:=K) (xs:=(t.getD X []).map nV)) (λY J H'=>∃v6 v7 v8:TQ,J=[some (.ref g),some (.ref c),some (.ref r0),some (.ref L),some (.int (X:Nat)),some (.ref r),v6,v7,v8]/\N3 H2 H' L m A B (ZI t.length (JW t) (Cg t) X Y))
    ⟨_,_,_,rfl,N5⟩ (λi J H' h=>by
     obtain⟨_,_,_,_,N'⟩:=h;exact (row.mono N'.sm).sq) ?_ ?_
   ·rintro Y y J H6 o9 hy ⟨r6,r8,r9,rfl,N6⟩ t0
    have hY:Y<t.length:=by
     have:=(ab.mp hy).1;rw[Za,Ul O hX] at this;exact this
    rw[ZbV O hX hY] at hy;cases hy;have s7:=Same.upd (H:=H6) (o:=.tup [.int (Y:Nat),.int (ZT t X Y:Nat)]) t0;refine⟨o9,_,rfl,.of Zt,rfl,_,_,rfl,_,_,rfl,rfl,?_⟩;have N7:=N6.mono s7;generalize upd H6 o9 (.tup [.int (Y:Nat),.int (ZT t X Y:Nat)])=H7 at s7 N7 ⊢;have hz:ZT t X Y<t.length:=O.lt _ _ hX hY;obtain⟨kz,w6,t5⟩:=VI O hz;rw[hm] at kz t5;have kX:=(VI O hX).1;have kY:=(VI O hY).1;rw[hm] at kX kY;have o6:=N7.sm _ _ o0;have t6:=N7.sm _ _ c1;obtain⟨h1,h2,h3⟩:=Zcm O (by rw[hm];exact kz);have p6:JW t (ZT t X Y)<(rs.map V.ref).length:=by omega
    obtain⟨rk,e1,_,e2⟩:=c3 _ _ (Zf p6);have t7:Xy (rs.map V.ref) (JW t (ZT t X Y):Int)=some (.ref rk):=ZR (by rw[Zf p6,e1]);refine⟨_,rfl,_,rfl,r0,_,_,_,rfl,rfl,.of o6,ZbZ hz,?_⟩;refine⟨_,rfl,_,rfl,c,_,_,_,rfl,rfl,.of t6,t7,rk,_,_,_,rfl,rfl,.of (N7.sm _ _ e2),ZR (j:=0) (by rw[Zc,h3];rfl),_,rfl,rfl,_,rfl,?_⟩;refine Y6 (λh=>?_) (λh=>?_)
    ·have he:hdT t (JW t (ZT t X Y))=ZT t X Y:=by
      have h:V.int (hdT t (JW t (ZT t X Y)):Nat)=V.int (ZT t X Y:Nat):=of_decide_eq_true h;injection h with h;omega
     refine⟨_,rfl,_,rfl,_,rfl,r0,_,_,_,rfl,rfl,.of o6,ZbZ hX,L,_,_,_,rfl,rfl,.of N7.top,Zda kX,_,rfl,_,rfl,r0,_,_,_,rfl,rfl,.of o6,ZbZ hY,A (JW t X),_,_,_,rfl,rfl,.of (N7.mid _ kX),Zda kY,_,rfl,B (JW t X) (JW t Y),_,JW t (ZT t X Y),_,rfl,rfl,N7.low _ _ kX kY,Zjf kz,_,_,rfl,rfl,B (JW t X) (JW t Y),_,_,JW t (ZT t X Y),rfl,rfl,N7.low _ _ kX kY,J3 (by rw[Za,Zc7];exact kz),?_⟩;refine⟨_,_,_,rfl,(N7.put (v:=ZI t.length (JW t) (Cg t) X Y (JW t X) (JW t Y) (JW t (ZT t X Y))+1) kX kY kz).congr λi j k hi hj hk=>?_⟩;rw[acc_step,ZiR];by_cases e:i=JW t X/\j=JW t Y/\k=JW t (ZT t X Y)
     ·obtain⟨rfl,rfl,rfl⟩:=e
      rw[if_pos ⟨rfl,rfl,rfl⟩,if_pos ⟨rfl,rfl,decide_eq_true he.symm⟩]
     ·rw[if_neg e,if_neg,e9]
      rintro⟨z1,z2,z3⟩;have z3:ZT t X Y=hdT t k:=of_decide_eq_true z3;refine e ⟨z1,z2,?_⟩;rw[z3];exact (Zcm O (by rw[hm];exact hk)).2.1.symm
    ·have he:hdT t (JW t (ZT t X Y))≠ZT t X Y:=λz=>h (by rw[z];exact decide_eq_true rfl)
     refine⟨_,_,_,rfl,N7.congr λi j k hi hj hk=>?_⟩;rw[acc_step,ZiR,if_neg,e9];rintro⟨z1,z2,z3⟩;have z3:ZT t X Y=hdT t k:=of_decide_eq_true z3;have:=(Zcm O (by rw[hm];exact hk)).2.1;rw[<-z3] at this;rw[this] at he;exact he z3.symm
   ·rintro J H6 ⟨r6,r8,r9,rfl,N6⟩
    rw[Za,Ul O hX] at N6;exact⟨_,_,_,_,_,rfl,N6.congr λi j k _ _ _=>Zmb _ _ _ _ _ _ _⟩
  ·rintro J H4 ⟨v4,v5,v6,v7,v8,rfl,N4⟩
   rw[el] at N4;have tl:((ac m).map λi=>V.ref (A i)).length=m:=by rw[Za,Zg]
   refine⟨_,rfl,L,rfl,⟨_,.of N4.top⟩,?_⟩;refine Zl2 (m:=m) (F:=cnG t) (Wh (K:=K) (.of N4.top)) [] rfl (by rw[tl];omega) tl (λi y hy H5 U R k=>?_) (λD ys H5 nD U hD k=>?_)
   ·obtain⟨hi,rfl⟩:=Zc9 hy
    have ml:((ac m).map λj=>V.ref (B i j)).length=m:=by rw[Za,Zg]
    have hA:=U _ _ (N4.mid i hi);refine⟨_,rfl,A i,rfl,⟨_,.of hA⟩,?_⟩;refine Zhl (m:=m) (F:=cnG t i) (Wh (K:=K) (.of hA)) [] rfl (by rw[ml];omega) ml (λj y' o7 H6 s6 R' k'=>?_) (λD t9 H6 nD s6 hD k'=>?_)
    ·obtain⟨hj,rfl⟩:=Zc9 o7
     refine⟨_,rfl,B i j,_,rfl,.inl ⟨.of ((U.trans s6) _ _ (N4.low i j hi hj)),λb nb=>?_⟩⟩;exact k' b _ (Same.upd nb) Zt
    ·refine⟨D,_,rfl,.inl ⟨.of hD,λr nr=>?_⟩⟩
     exact k (r,t9) _ (s6.trans (Same.upd nr)) (k' r _ Zt (Same.upd nr))
   ·refine⟨D,_,rfl,.inl ⟨.of hD,λr nr=>?_⟩⟩
    exact q r _ ((((s1.trans s2).trans N4.sm).trans U).trans (Same.upd nr)) (k r _ Zt (Same.upd nr))
end C30
namespace C30
open PySem L2 PySem.Spec PyProof.Rows
open Tb Pm
theorem Zb9 (P:PW t){x:Nat}(j:x<t.length):JW t x=YN t x:=by
 obtain⟨J,M,O⟩:=VI P j;exact (Zcw P j J M).symm
theorem Zoz (P:PW t){i j k:Nat}(O:k<(ZH t t.length).length):cnG t i j k=cnA t (YN t) i j (ZL t k):=by
 have J:ZL t k<t.length:=(YE P).rl k O;have U:cnG t i j k=cnA t (JW t) i j (ZL t k):=by
  rw[<-Zho P J];show ZI t.length (JW t) (Cg t) t.length 0 i j k=_;unfold ZI one Cg;rfl
 rw[U];unfold cnA;refine YA λx M=>?_;rw[Zb9 P M,Zb9 P (P.lt _ _ (Yw P M).1 J)]
theorem WG.ext {H:Hp}{a b:Addr}{cs ds:TU}{Y Ts:List (Nat->Bool)}(m1:1<=m)(h:WG H a t p m e cs Y)(g:WG H b t p m e ds Ts):WG (upd H a (.lst (cs.map V.ref++ds.map V.ref))) a t p m e (cs++ds) (Y++Ts):=by
 have ne:∀{x:Addr}{v:Nat->Int},H x=some (.lst (ZP m v))->x≠a:=λ{x v} J=>Zca J h.1 (UX m1).symm;refine⟨by rw[Zt,aO],by rw[Zd,Zd,h.2.1,g.2.1],λj x J=>?_⟩;by_cases hj:j<cs.length
 ·rw[aq hj] at J
  obtain⟨O,U,M⟩:=h.2.2 j x J;exact⟨O,by rw[aq (by rw[<-h.2.1];exact hj)];exact U,by rw[Zy (ne M)];exact M⟩
 ·rw[aw (by omega)] at J
  obtain⟨O,U,M⟩:=g.2.2 _ x J;exact⟨O,by rw[aw (by rw[<-h.2.1];omega),<-h.2.1];exact U,by rw[Zy (ne M)];exact M⟩
theorem Zfc {t:T7}{p m:Nat}{e j J:Nat->Nat->Nat}(C:CD t p m e j J)(M:PW t):[V.int 1]++(am (m-1) [V.int 0]).flatten=ZP m (Vc t p m e (Xt λ_=>true)):=by
 have m1:=C.m1;have O:ZP m (Vc t p m e (Xt λ_=>true))=ZP m (λc=>if c=0 then 1 else 0):=Wm λc U=>ZoP C M U
 rw[O];obtain⟨k,rfl⟩:∃k,m=k+1:=⟨m-1,by omega⟩;unfold ZP;rw[lE,aB,aL,dO];have:∀k a,(am k [V.int 0]).flatten=(dE a k).map λ_=>V.int 0:=λk=>by
  induction k with
  |zero=>intro a;rfl
  |succ k Y=>intro a;rw[aV,bP,Y (a+1),eX,aB];rfl
 rw[this k 0,<-eL];rfl
structure Zr9 (H:Hp)(L:Addr)(t:T7)(m:Nat)(e:Nat->Nat->Nat)(cs:TU)(ss:TY):Prop where
 at':H L=some (.lst (cs.map V.ref))
 len:cs.length=ss.length
 pm:ss.Perm (ac m)
 it:∀(j:Nat) b,cs[j]?=some b->H b=some (.lst (ZP m λc=>(EC t e (ss.getD j 0) c:Int)))
inductive ZbL (vs:TR) (H:Hp) (Q:VK) (E03:XK):Prop
 |mk (ra:Addr) (t:T7) (p m:Nat) (e ω φ:Nat->Nat->Nat):(vs=[.ref ra,.int p])->(CD t p m e ω φ)->(PW t)->(p<=100000)->(C3 H ra m (cnG t))->(∀L cs ss H',Same H H'->Zr9 H' L t m e cs ss->Q (.ref L) H')->ZbL vs H Q E03
theorem Zi6 (F:Wf K "taken_apart" "taken_apart" (tq 43) f fd)(T:Bl mg)(GP:Fn P w K mg base ZY 3 "parts_by" ["columns", "one", "p"] ZbD):ZW P w K mg base ZY 4 f fd ["counts", "p"] ZbL:=by
 refine F.ok (FS (N:=["counts", "p", "found", "seconds", "columns", "finer", "one"])) (λvs H Q E h=>?_) (λw8 A r9 s H vs Q E hr h=>?_)
 ·obtain⟨ra,t,p,m,e,ω,φ,rfl,_⟩:=h;rfl
 ·obtain⟨ra,t,p,m,e,ω,φ,rfl,C,Y,pl,t0,q⟩:=h
  refine⟨_,Zu (ZK 2 rfl (ZS (pc (Zz ZeC (ZS (pc Zw Zs)) (Zz WU (ZS (pc Zw Zs)) (Zz Y3 (cb (YL K) T.len (pc (vn 0) Zs)) Zw))) Zs)))
   (Zu (ZV au rfl (itT K (vn 0)) (gnf 3 rfl)
    (Zv (YU (ZM Za0 (cb (YL K) T.len (pc (vn 2) Zs)) (cb (YL K) T.len (pc (vn 0) Zs)) (ZO _))
     (Zu (ZkN 4 ["k"] [3] ["k", "seconds"] rfl rfl (UT T.range (pc (cb (YL K) T.len (pc (vn 0) Zs)) Zs)) (λ_ _ _ _ _=>gnf 0 rfl) (λ_ _ _ _ _=>ZQ)
      (λ_ _ _ _ _=>cmp ["ends"] [0] ["ends", "k"] rfl (itT K (vn 1)) (λ_ _ _ _ _=>gn 0) (λ_ _ _ _ _=>ZQ) (λ_ _ _ _ _=>ZU (VA K) (vn 0) (vn 1) (λ_ _=>rfl))))
     (Zu (ZK 5 rfl (ZS Zs))
     (Zu (ZV au rfl (itL K (vn 2)) (gn 6)
      (Zv (Yx (Wv aM lT PySem.F.type_list_extend Zg2 (vn 5) (pc (YF GP hr ZF (pc (vn 4) (pc (vn 6) (pc (vn 1) Zs)))) Zs)))))
     (Zv (ZK 2 rfl (vn 5)))))) Z2)))
   (Zv (ZE (vn 2)))),?_⟩
  have p2:=C.pr.p2;have w9:=Zl7 C Y;have m1:=C.m1;have mc:=C.mc;have sz:=Jv;obtain⟨rs,c1,c2,c3⟩:=id t0;have cl:(rs.map V.ref).length=m:=by rw[Za,c2]
  refine⟨JL,λa1 t5=>(?_:_)⟩;have s1:=Same.upd (H:=H) (o:=.lst [.int 1]) t5;have h1:upd H a1 (.lst [.int 1]) a1=some (.lst [.int 1]):=Zt;generalize upd H a1 (.lst [.int 1])=H1 at s1 h1 ⊢;refine⟨JL,λa2 t6=>?_⟩;have s2:=Same.upd (H:=H1) (o:=.lst [.int 0]) t6;have h2:upd H1 a2 (.lst [.int 0]) a2=some (.lst [.int 0]):=Zt;generalize upd H1 a2 (.lst [.int 0])=H2 at s2 h2 ⊢;have o8:=s1.trans s2;refine⟨_,rfl,ra,_,rfl,.inr (.of (o8 _ _ c1)),_,_,rfl,rfl,a2,_,_,rfl,rfl,h2,by rw[cl];omega,by rw[cl];omega,by rw[cl];show 1*((m:Int)-1).toNat<=sizeLine;omega,λa3 t7=>?_⟩;have et:(((rs.map V.ref).length:Int)-1).toNat=m-1:=by rw[cl];omega
  rw[et];have s3:=Same.upd (H:=H2) (o:=.lst (am (m-1) [V.int 0]).flatten) t7;have h3:upd H2 a3 (.lst (am (m-1) [V.int 0]).flatten) a3=some (.lst (am (m-1) [V.int 0]).flatten):=Zt;generalize upd H2 a3 (.lst (am (m-1) [V.int 0]).flatten)=H3 at s3 h3 ⊢;have fl:(am (m-1) [V.int 0]).flatten.length<=60:=by
   have:=congrArg df (Zfc C Y);rw[Yp,Zd] at this;omega
  refine⟨a1,a3,_,_,rfl,rfl,(s2.trans s3) _ _ h1,h3,by show 1+_<=sizeLine;omega,λa4 t9=>?_⟩;rw[Zfc C Y];have s4:=Same.upd (H:=H3) (o:=.lst (ZP m (Vc t p m e (Xt λ_=>true)))) t9;have h4:upd H3 a4 (.lst (ZP m (Vc t p m e (Xt λ_=>true)))) a4=some (.lst (ZP m (Vc t p m e (Xt λ_=>true)))):=Zt;generalize upd H3 a4 (.lst (ZP m (Vc t p m e (Xt λ_=>true))))=H4 at s4 h4 ⊢;refine⟨JL,λL nL=>?_⟩;have s5:=Same.upd (H:=H4) (o:=.lst [.ref a4]) nL;have h5:upd H4 L (.lst [.ref a4]) L=some (.lst [.ref a4]):=Zt;generalize upd H4 L (.lst [.ref a4])=H5 at s5 h5 ⊢;have o9:Same H H5:=((o8.trans s3).trans s4).trans s5;have P5:WG H5 L t p m e [a4] [λ_=>true]:=⟨h5,rfl,λj b hb=>by
   cases j with
   |zero=>cases hb;exact⟨_,rfl,s5 _ _ h4⟩
   |succ j=>cases hb⟩
  refine⟨_,rfl,ra,rfl,⟨_,.of (o9 _ _ c1)⟩,?_⟩;have wj:∀s s',s<m->s'<m->(∀j,j<m->gW t ω j s=gW t ω j s')->s=s':=λs s' hs p6 h=>C.sep s s' hs p6 λu hu=>by
   have hc:=(YE Y).lt u hu;rw[C.wat Y hs hu,C.wat Y p6 hu];exact h (YN t u) (by omega)
  refine W9 (H0:=H) (YJ (K:=K) (.of c1)) (λi J H'=>∃(l:Addr) (cs:TU) (M:List (Nat->Bool)) (v3 v4 v5 v6:TQ),J=[some (.ref ra),some (.int (p:Nat)),some (.ref l),v3,v4,v5,v6]/\Same H H'/\WG H' l t p m e cs M/\XA m (λs j=>gW t ω j s) i M)
   ⟨L,_,_,_,_,_,_,rfl,o9,P5,XA.zero m1 _⟩ (λi J H' h=>by
    obtain⟨_,_,_,_,_,_,_,_,sm,_⟩:=h;exact sm) ?_ ?_
  ·rintro i y J H6 hy ⟨l,cs,M,v3,v4,v5,v6,rfl,s6,O,A6⟩
   have hi:i<m:=by
    have:=(ab.mp hy).1;rw[cl] at this;exact this
   rw[Zc,Zf (show i<rs.length by omega)] at hy;cases hy;obtain⟨es,e1,e2,e3⟩:=c3 i _ (Zf (show i<rs.length by omega));generalize rs[i]'(by omega)=sa at e1 ⊢;rw[Za,Zg] at e2;have el:(es.map V.ref).length=m:=by rw[Za,e2]
   have o5:(cs.map V.ref).length=M.length:=by rw[Za,O.2.1]
   refine⟨_,rfl,l,_,rfl,.inl (.of O.1),_,rfl,ra,_,rfl,.inr (.of (s6 _ _ c1)),_,_,rfl,rfl,_,rfl,?_⟩;rw[o5,cl];refine Y6 (λp7=>?_) (λp7=>?_)
   ·refine⟨_,rfl,ra,_,rfl,.inr (.of (s6 _ _ c1)),_,rfl,by rw[cl];omega,by rw[cl];omega,?_⟩
    rw[cl,Zj];refine Pm.Wa (W:=Addr) id (λk a H=>H a=some (.lst (ZP m (Uc t i k)))) (λa H=>H a=none) (Xi 0 m) [some (.ref sa)] rfl (by rw[Za,Y9];omega) (λk a H H' sm h=>sm _ _ h) (λa H H' sm h=>sm.free h) (λk a x6 x8 D o ys x9 h1 h2 h3 h4=>by rw[Zy (λz=>by rw[z,h3] at h2;cases h2)];exact h1) (λk y hy H7 s7 R k7=>?_) (λD ws H7 nD s7 hD wl hw _=>?_)
    ·obtain⟨hk,rfl⟩:=ZbY hy
     have U:=s6.trans s7;refine⟨_,rfl,sa,rfl,⟨_,.of (U _ _ e1)⟩,?_⟩;refine Pm.Zal (YJ (K:=K) (.of (U _ _ e1))) [some (.int (k:Nat))] rfl (λj=>V.int (Uc t i k j)) (by rw[el];omega) (λj z hz H8 s8 R' k8=>?_) (λD8 H8 u5 s8 p8=>?_)
     ·have hj:j<m:=by
       have:=(ab.mp hz).1;rw[el] at this;exact this
      rw[Zc,Zf (show j<es.length by omega)] at hz;cases hz;have hE:=e3 j _ (Zf (show j<es.length by omega));generalize es[j]'(by omega)=ea at hE ⊢;have row:((ac m).map λj=>Yh m (cnG t i j)).getD j []=Yh m (cnG t i j):=by rw[Zb,Zc,ao hj];rfl
      rw[row] at hE;have u9:Xy ((Yh m (cnG t i j)).map nV) (k:Int)=some (V.int (Uc t i k j)):=by
       refine ZR ?_;unfold Yh;rw[Zc,Zc,ao hk];show some (V.int ((cnG t i j k:Nat):Int))=some (V.int (Uc t i k j));unfold Uc;rw[Zoz Y (by omega)]
      exact⟨_,rfl,_,rfl,ea,_,_,_,rfl,rfl,.of ((U.trans s8) _ _ hE),u9,k8 H8 (Same.refl _)⟩
     ·rw[el] at p8
      exact k7 D8 H8 s8 p8 u5
    ·have hL:LLs H7 D m (Uc t i):=⟨ws,hD,by rw[wl,Za,Y9],λc b hb=>(hw c b hb).1⟩
     have U:=s6.trans s7;have P7:=O.mono s7;refine⟨JL,λFn q0=>?_⟩;have s8:=Same.upd (H:=H7) (o:=.lst []) q0;have h8:upd H7 Fn (.lst []) Fn=some (.lst ([]:TR)):=Zt;generalize upd H7 Fn (.lst [])=H8 at s8 h8 ⊢;have P8:=P7.mono s8;refine⟨_,rfl,l,rfl,⟨_,.of P8.1⟩,?_⟩;refine W9 (H0:=H7) (Wh (K:=K) (.of P7.1)) (λj J H'=>∃(ds:TU) (Fs:List (Nat->Bool)) (v6:TQ),J=[some (.ref ra),some (.int (p:Nat)),some (.ref l),some (.ref sa),some (.ref D),some (.ref Fn),v6]/\Same H7 H'/\WG H' Fn t p m e ds Fs/\FiS m (gW t ω i) (M.take j) Fs)
      ⟨[],[],_,rfl,s8,⟨h8,rfl,λj b hb=>by simp at hb⟩,by rw[fI];exact .nil⟩ (λj J H' h=>by
       obtain⟨_,_,_,_,sm,_⟩:=h;exact sm) ?_ ?_
     ·rintro j y J H9 hy ⟨ds,Fs,v6,rfl,s9,P9,F9⟩
      have hj:j<M.length:=by
       have:=(ab.mp hy).1;rw[o5] at this;exact this
      rw[Zc,Zf (show j<cs.length by rw[O.2.1];exact hj)] at hy;cases hy;obtain⟨S,hS,hb⟩:=P7.2.2 j _ (Zf (show j<cs.length by rw[O.2.1];exact hj));generalize cs[j]'(by rw[O.2.1];exact hj)=b at hb ⊢;refine⟨_,rfl,.inl ⟨rfl,_,.of P9.1⟩,_,rfl,_,rfl,_,rfl,D,b,t,p,m,e,ω,φ,S,i,rfl,C,Y,hi,pl,hL.mono s9,s9 _ _ hb,λB bs Ts y4 nB r6 pS pA=>?_⟩;have o6:=P9.mono r6;have o0:FiS m (gW t ω i) (M.take (j+1)) (Fs++Ts):=by
       rw[ce,hS];exact .snoc F9 pS
      have y6:Fs.length+Ts.length<=m:=by
       have hd:=o0.dj (dk (jt _ _) A6.dj);have:=L2.Yv ((Fs++Ts).map (pkS m)) (ac m) (ZaY (λT' o7=>(o0.out.1 T' o7).1) hd) (λx hx=>by
        obtain⟨T',o7,rfl⟩:=aC.mp hx;exact af.mpr (XC (o0.out.1 T' o7).1).1)
       rwa [Za,Zd,Zg] at this
      refine⟨Fn,B,_,_,rfl,rfl,o6.1,pA.1,by rw[Za,Za,o6.2.1,pA.2.1];omega,?_⟩;refine⟨ds++bs,Fs++Ts,_,rfl,(s9.trans r6).updr q0,?_,o0⟩;exact o6.ext m1 pA
     ·rintro J H9 ⟨ds,Fs,v6,rfl,s9,P9,F9⟩
      rw[o5,cp] at F9;exact⟨_,rfl,Fn,ds,Fs,_,_,_,_,rfl,U.trans s9,P9,A6.step F9⟩
   ·have w6:m<=M.length:=by
     apply ak;intro z;exact p7 (decide_eq_true (by omega))
    exact⟨l,cs,M,_,_,_,_,rfl,s6,O,A6.skip w6⟩
  ·rintro J H6 ⟨l,cs,M,v3,v4,v5,v6,rfl,s6,O,A6⟩
   rw[cl] at A6;obtain⟨hp,r8⟩:=A6.end wj;refine⟨_,rfl,q l cs (M.map (pkS m)) H6 s6 ⟨O.1,by rw[Za];exact O.2.1,hp,λj b hb=>?_⟩⟩;obtain⟨S,h1,h2⟩:=O.2.2 j b hb;rw[h2];congr 2;have hS:S∈M:=ah h1;have e6:(M.map (pkS m)).getD j 0=pkS m S:=by rw[Zb,Zc,h1];rfl
   have pk:=(XC (A6.ne S hS)).1;refine Wm λc hc=>?_;rw[e6,<-ZqM C Y pk hc];refine Xb (λs hs=>?_) c;unfold Xt;rw[r8 S hS s hs];by_cases z:s=pkS m S
   ·rw[if_pos z,if_pos (decide_eq_true z)]
   ·rw[if_neg z,if_neg (by rw[decide_eq_false z];decide)]
def wkF (t:T7)(a k:Nat):Int:=(YN t (it t a k):Nat)
structure ZqL (H:Hp)(L:Addr)(t:T7)(n:Nat)(cs:TU):Prop where
 at':H L=some (.lst (cs.map V.ref))
 len:cs.length=n
 it:∀(c:Nat) b,cs[c]?=some b->H b=some (.lst (ZP (rdT t (ZL t c)) (wkF t (ZL t c))))
inductive Zbv (vs:TR) (H:Hp) (Q:VK) (E03:XK):Prop
 |mk (g:Addr) (t:T7):(vs=[.ref g])->(GT H g t)->(PW t)->(∀L cs H',Same H H'->ZqL H' L t (ZH t t.length).length cs->Q (.ref L) H')->Zbv vs H Q E03
def but (H:Hp)(W:Addr):Hp:=λb=>if b=W then none else H b
theorem VS {H:Hp}{W b:Addr}{o:HO}(h:H b=some o)(hb:b≠W):but H W b=some o:=by unfold but;rw[if_neg hb];exact h
theorem Zb8 {H:Hp}{W b:Addr}{o:HO}(h:but H W b=some o):b≠W/\H b=some o:=by
 unfold but at h;by_cases z:b=W
 ·rw[if_pos z] at h;cases h
 ·rw[if_neg z] at h;exact⟨z,h⟩
theorem ZcM {cs:TU}{m:Nat}{v:Nat->Int}(j:1<=m):ZP m v≠cs.map V.ref:=(UX j).symm
theorem ZiS (F:Wf K "power_walks" "power_walks" (tq 42) f fd)(GN:Fn P w K mg base ZY 5 "class_numbers" ["group"] ZbE)(GC:Fn P w K mg base ZY 4 "classes_of" ["group"] WM):ZW P w K mg base ZY 6 f fd ["group"] Zbv:=by
 refine F.ok (FS (N:=["group", "numbers", "walks", "members", "walk", "a"])) (λvs H Q E h=>?_) (λy4 A t5 s H vs Q E hr h=>?_)
 ·obtain⟨g,t,rfl,_⟩:=h;rfl
 ·obtain⟨g,t,rfl,G,M,q⟩:=h
  refine⟨_,Zu (ZK 1 rfl (YF GN hr ZF (pc (vn 0) Zs)))
   (Zu (ZK 2 rfl (ZS Zs))
   (Zu (ZV au rfl (itT K (YF GC hr ZF (pc (vn 0) Zs))) (gn 3)
    (Zu (ZK 4 rfl (ZS (pc Zw Zs)))
    (Zu (ZK 5 rfl (ZU (VA K) (vn 3) Zw (λ_ _=>rfl)))
    (Zu (Yr au (ZM Ww (vn 5) Zw (ZO _))
     (Zu (Yx (Wv aM aS aT Z3 (vn 4) (pc (ZU (VA K) (vn 1) (vn 5) (λ_ _=>rfl)) Zs)))
     (Zv (ZK 5 rfl (ZU (VA K) (ZU (VA K) (vn 0) (vn 5) (λ_ _=>rfl)) (ZU (VA K) (vn 3) Zw (λ_ _=>rfl)) (λ_ _=>rfl))))))
    (Zv (Yx (Wv aM aS aT Z3 (vn 2) (pc (vn 4) Zs))))))))
   (Zv (ZE (vn 2))))),?_⟩
  have sz:=Jv;have y6:=M.n60;have ul:=Wx (t:=t) t.length;have U:=YE M;refine⟨_,rfl,g,t,rfl,G,M,λr0 H1 s1 o7=>?_⟩;replace o7:H1 r0=some (.tup ((Yh t.length (JW t)).map nV)):=o7;refine⟨JL,λW nW=>?_⟩;have s2:=Same.upd (H:=H1) (o:=.lst []) nW;have h2:upd H1 W (.lst []) W=some (.lst ([]:TR)):=Zt;generalize upd H1 W (.lst [])=H2 at s2 h2 ⊢;have p7:=s1.trans s2;refine⟨_,rfl,g,t,rfl,G.mono p7,M,λc H3 s3 t6=>?_⟩;have p8:=p7.trans s3;have t7:H W=none:=s1.free nW;obtain⟨rs,c1,c2,c3⟩:=t6.row;have cl:(rs.map V.ref).length=(ZH t t.length).length:=by rw[Za,c2]
  have h3:=s3 _ _ h2;have o8:=(s2.trans s3) _ _ o7;generalize hm:(ZH t t.length).length=m at *;refine⟨c,rfl,⟨_,.of c1⟩,?_⟩;refine W9 (H0:=but H3 W) (YJ (K:=K) (.of (VS c1 (λz=>by rw[z,h3] at c1;cases c1)))) (λi J H'=>∃(cs:TU) (v3 v4 v5:TQ),J=[some (.ref g),some (.ref r0),some (.ref W),v3,v4,v5]/\Same (but H3 W) H'/\ZqL H' W t i cs)
   ⟨[],_,_,_,rfl,λb o hb=>(Zb8 hb).2,h3,rfl,λc b hb=>by simp at hb⟩ (λi J H' h=>by
    obtain⟨_,_,_,_,_,sm,_⟩:=h;exact sm) ?_ ?_
  ·rintro i y J O hy ⟨cs,v3,v4,v5,rfl,s4,W4⟩
   obtain⟨r,rfl,hi,Y⟩:=c3 i y hy;have k4:∀{b:Addr}{o:HO},H3 b=some o->b≠W->O b=some o:=λ{b o} hb z=>s4 b o (VS hb z);have hR:=U.rl i (by omega);obtain⟨o0,t9,q0⟩:=Zcm M (k:=i) (by omega);have u5:hdT t i=ZL t i:=rfl;rw[u5] at o0 t9 q0;generalize ha:ZL t i=a at *;obtain⟨rd,R⟩:=M.rd a o0;have u9:=Zb3 R;have r1:=R.r1;have rn:=R.rn;have r6:=k4 Y (λz=>by rw[z,h3] at Y;cases Y);have w6:=k4 o8 (λz=>by rw[z,h3] at o8;cases o8);have G3:=G.mono p8;have G4:GT O g t:=by
    obtain⟨gs,g1,g2,g3⟩:=G3;refine⟨gs,k4 g1 (λz=>by rw[z,h3] at g1;cases g1),g2,λj b hb=>?_⟩;obtain⟨o,ho,w8⟩:=g3 j b hb;exact⟨o,k4 ho (λz=>by rw[z,h3] at ho;cases ho),w8⟩
   refine⟨JL,λwk o9=>?_⟩;have s5:=Same.upd (H:=O) (o:=.lst [.int 0]) o9;have h5:upd O wk (.lst [.int 0]) wk=some (.lst (ZP 1 (wkF t a))):=by
    rw[Zt];show some (HO.lst [V.int 0])=some (HO.lst [V.int ((YN t (it t a 0):Nat):Int)]);rw[show it t a 0=0 from rfl,Zap M];rfl
   generalize upd O wk (.lst [.int 0])=H5 at s5 h5 ⊢;have o5:Xy (((ZH t t.length).getD i []).map nV) 0=some (V.int (a:Nat)):=by
    refine ZR (j:=0) ?_;rw[Zc,q0];rfl
   have w9:=s5 _ _ r6;refine⟨_,rfl,r,_,_,_,rfl,rfl,.of w9,o5,?_⟩;have x9:∀{b:Addr}{o:HO},O b=some o->b≠wk:=λ{b o} hb z=>by rw[z,o9] at hb;cases hb
   refine Yi (λx J H'=>∃k:Nat,J=[some (.ref g),some (.ref r0),some (.ref W),some (.ref r),some (.ref wk),some (.int ((it t a k:Nat):Int))]/\Same O H'/\H' wk=some (.lst (ZP k (wkF t a)))/\1<=k/\k<=rd/\x=rd-k)
    (λJ H'=>∃v5:TQ,J=[some (.ref g),some (.ref r0),some (.ref W),some (.ref r),some (.ref wk),v5]/\Same O H'/\H' wk=some (.lst (ZP rd (wkF t a)))) ?hend ⟨rd-1,1,by rw[Zjr M o0];rfl,s5,h5,Zq _,r1,rfl⟩ ?turn
   case hend=>
    rintro J H6 ⟨y8,rfl,s6,h6⟩;have p6:=s6 _ _ W4.at';have r8:∀{b:Addr}{v:Nat->Int}{n:Nat},1<=n->H6 b=some (.lst (ZP n v))->b≠W:=λ{b v n} hn hb=>Zca hb p6 (ZcM hn);refine⟨_,rfl,.inl ⟨rfl,_,.of p6⟩,_,rfl,W,_,_,rfl,rfl,p6,by rw[Za,W4.len];omega,?_⟩;refine⟨cs++[wk],_,_,_,rfl,λb o hb=>?_,⟨by rw[Zt,aO];rfl,by rw[Zd,W4.len];rfl,λc' b hb=>?_⟩⟩
    ·rw[Zy (Zb8 hb).1]
     exact (s4.trans s6) b o hb
    ·by_cases x6:c'<cs.length
     ·rw[aq x6] at hb
      have r9:=s6 _ _ (W4.it c' b hb);obtain⟨y9,R'⟩:=M.rd (ZL t c') (U.rl c' (by have:=W4.len;omega));rw[Zy (r8 (by rw[Zb3 R'];exact R'.r1) r9)];exact r9
     ·have hl:=(ab.mp hb).1
      rw[Zd,Zk] at hl;have ec:c'=cs.length:=by omega
      rw[aw (by omega),ec,cS] at hb;cases hb;rw[ec,W4.len,ha,u9,Zy (r8 r1 h6)];exact h6
   case turn=>
    rintro o6 x J H6 ⟨k,rfl,s6,h6,k1,kr,rfl⟩;have il:=W6 M o0 k;refine⟨_,rfl,rfl,_,rfl,?_⟩;refine Y6 (λq1=>?_) (λq1=>?_)
    ·have q1:=ZrM q1
     have kn:k≠rd:=λz=>by rw[z,R.z] at q1;exact q1 rfl
     have x8:=s6 _ _ w6;have t0:Xy ((Yh t.length (JW t)).map nV) ((it t a k:Nat):Int)=some (V.int (wkF t a k)):=by
      refine ZR ?_;unfold Yh;rw[Zc,Zc,ao il];show some (V.int ((JW t (it t a k):Nat):Int))=_;rw[Zb9 M il];rfl
     refine⟨_,λ_ _ z=>z,_,rfl,.inl ⟨rfl,_,.of h6⟩,_,rfl,_,rfl,r0,_,_,_,rfl,rfl,.of x8,t0,wk,_,_,rfl,rfl,h6,by rw[Yp];omega,?_⟩;rw[<-ZcL];have s7:Same O (upd H6 wk (.lst (ZP (k+1) (wkF t a)))):=s6.updr o9;have h7:upd H6 wk (.lst (ZP (k+1) (wkF t a))) wk=some (.lst (ZP (k+1) (wkF t a))):=Zt;generalize upd H6 wk (.lst (ZP (k+1) (wkF t a)))=H7 at s7 h7 ⊢;obtain⟨gr,ga,u1,_,u2,u3,u4⟩:=(G4.mono s7).at M il;refine⟨_,rfl,_,rfl,g,_,_,_,rfl,rfl,.of u1,u2,_,rfl,r,_,_,_,rfl,rfl,.of (s7 _ _ r6),o5,ga,_,_,_,rfl,rfl,u3.sq,u4 a o0,?_⟩;exact⟨rd-(k+1),by omega,k+1,rfl,s7,h7,by omega,by omega,rfl⟩
    ·have q1:=ZrN q1
     have:k=rd:=by
      apply ak;intro z;exact R.nz k k1 (by omega) (by omega)
     rw[this] at h6;exact o6 _ _ ⟨_,rfl,s6,h6⟩
  ·rintro J O ⟨cs,v3,v4,v5,rfl,s4,W4⟩
   rw[cl] at W4;exact⟨_,rfl,q W cs O (λb o hb=>s4 b o (VS (p8 _ _ hb) (λz=>by rw[z,t7] at hb;cases hb))) W4⟩
def bkM (p x:Nat):Nat:=((ac p).find? λy=>y*x % p == 1).getD 0
theorem ZqI {p x y j:Nat}(O:y<p)(J:j<p)(h:y*x % p=1)(h':j*x % p=1):y=j:=by
 have M:y*(j*x) % p=y % p:=by rw[<-Nat.mul_mod_mod,h',dF]
 have U:j*(y*x) % p=j % p:=by rw[<-Nat.mul_mod_mod,h,dF]
 have Y:y*(j*x)=j*(y*x):=by rw[<-lz,dM y j,lz]
 rw[Y,U,bf O,bf J] at M;exact M.symm
theorem Zm0 {p x y:Nat}(j:y<p)(h:y*x % p=1):bkM p x=y:=by
 unfold bkM;cases q:(ac p).find? λy=>y*x % p == 1 with
 |none=>
  have:=jd.mp q y (af.mpr j);rw[h] at this;exact absurd rfl this
 |some z=>
  have J:=af.mp (gG q);have M:z*x % p=1:=eq_of_beq (j9 (p:=λy=>y*x % p == 1) q);exact ZqI J j M h
def ofF (n r p:Nat)(J:Int)(z:Nat)(o:Nat->Int)(j:Nat):Int:=if j % (n / r)=0 then J*(bkM p r:Int)*YB r (λk=>o k*((z ^ (j*k % n) % p:Nat):Int)) % (p:Int) else 0
def Zja (n:Nat)(v:Nat->Int):TX:=Num.Jg n (N30.ZG n) (N30.RN n) ((ac n).map v)
inductive ZbF (vs:TR) (H:Hp) (Q:VK) (E03:XK):Prop
 |mk (wa oa ra:Addr) (r m n p z:Nat) (share:Int) (wk one:Nat->Int):(vs=[.ref wa,.ref oa,.int share,.ref ra,.int p])->(H wa=some (.lst (ZP r wk)))->(H oa=some (.lst (ZP m one)))->(H ra=some (.lst (Jc p z n)))->(1<=n)->(n<=60)->(m<=60)->(1<=r)->(r<=n)->(r<p)->(p<=100000)->(PrM p)->(Zkh m p one)->((∀k,k<r->∃c:Nat,c<m/\wk k=(c:Int)))->(-(2 ^ 40)<share)->(share<2 ^ 40)->(∀q H',Same H H'->H' q=some (.tup ((Zja n (ofF n r p share z λk=>one (wk k).toNat)).map V.int))->Q (.ref q) H')->ZbF vs H Q E03
theorem Zqr {J:It}{M:Hp->Prop}{xs:TR}(S:Zkn J M xs):ZcE J M (((ac xs.length).map nV).zip xs) where
 go:=λi H h j=>S.go i H h (by rw[bO,Za,Zg,l6] at j;exact j)
 yld:=λi H x O h U=>by
  obtain⟨T,y,rfl,Y,rfl,e⟩:=S.yld i H x O h U;have j:=(ab.mp e).1;refine⟨T,.int i,y,rfl,Y,rfl,?_⟩;rw[bh,Zc,ao j];exact⟨rfl,e⟩
 stop:=λi H h j=>S.stop i H h (by rw[bO,Za,Zg,l6] at j;exact j)
theorem ZkX {p z n k:Nat}(h:k<n):Xy (Jc p z n) (k:Int)=some (V.int ((z ^ k % p:Nat):Int)):=by
 refine ZR ?_;unfold Jc;rw[Zc,ao h];rfl
theorem Zkw {n j:Nat}(v:Nat->Int)(x:Int)(h:j<n):(ZP n v).set j (V.int x)=ZP n λi=>if i=j then x else v i:=by
 refine a6 λi=>?_;by_cases J:i<n
 ·rw[Xf _ J,jw]
  by_cases e:j=i
  ·subst e
   rw[if_pos rfl,if_pos (by rw[Yp];exact J),if_pos rfl]
  ·rw[if_neg e,Xf _ J,if_neg (λz=>e z.symm)]
 ·rw[ag (by rw[aY,Yp];omega),ag (by rw[Yp];omega)]
theorem Zd4 (n:Nat):(am n [V.int 0]).flatten=ZP n λ_=>0:=by
 have:∀k a,(am k [V.int 0]).flatten=(dE a k).map λ_=>V.int 0:=λk=>by
  induction k with
  |zero=>intro a;rfl
  |succ k j=>intro a;rw[aV,bP,j (a+1),eX,aB];rfl
 unfold ZP;rw[this n 0,<-eL]
theorem Zi2 (F:Wf K "number_at" "number_at" (tq 48) f fd)(T:Bl mg)(T2:Zfa mg)(T5:BlT mg)(GB:Fn P w K mg base ZY 1 "back_by" ["p", "x"] JR)(GN:Fn P w K mg base ZY 3 "number_of" ["n", "powers"] (N30.X5 K)):ZW P w K mg base ZY 4 f fd ["walk", "one", "share", "roots", "p"] ZbF:=by
 refine F.ok (FS (N:=["walk", "one", "share", "roots", "p", "n", "step", "part", "often", "j"])) (λvs H Q E h=>?_) (λq0 A o7 s H vs Q E hr h=>?_)
 ·obtain⟨M,oa,ra,r,m,n,p,z,share,wk,one,rfl,_⟩:=h;rfl
 ·obtain⟨M,oa,ra,r,m,n,p,z,share,wk,one,rfl,hW,hO,hR,n1,n60,r6,r1,rn,rp,pl,pr,vo,o8,r8,r9,q⟩:=h
  refine⟨_,Zu (ZK 5 rfl (cb (YL K) T.len (pc (vn 3) Zs)))
   (Zu (ZK 6 rfl (Zz JA (vn 5) (cb (YL K) T.len (pc (vn 0) Zs))))
   (Zu (ZK 7 rfl (Zz Z0 (vn 2) (YF GB hr ZF (pc (vn 4) (pc (cb (YL K) T.len (pc (vn 0) Zs)) Zs)))))
   (Zu (ZK 8 rfl (Zz WU (ZS (pc Zw Zs)) (vn 5)))
   (Zu (ZV au rfl (ZrF T.range (pc Zw (pc (vn 5) (pc (vn 6) Zs)))) (gnf 9 rfl)
    (Zv (UY (Zz Yb (Zz Z0 (vn 7) (cb (sumK K rfl) T5.sum (pc (cmp ["k", "c"] [1,3,9,5] ["k", "c", "one", "roots", "j", "n"] rfl (V3 K T2.enumerate (pc (vn 0) Zs)) (λ_ _ _ _ _=>g2 K 0 1 rfl (gn 0) (gn 1)) (λ_ _ _ _ _=>ZQ)
     (λ_ _ _ _ _=>Zz Z0 (ZU (ixL K) (vn 2) (vn 1) (λ_ _=>rfl)) (ZU (ixL K) (vn 3) (Zz Yb (Zz Z0 (vn 4) (vn 0)) (vn 5)) (λ_ _=>rfl)))) Zs))) (vn 4)) (U2 (vn 8) (vn 9) YT))))
   (Zv (ZE (YF GN hr ZF (pc (vn 5) (pc (vn 8) Zs))))))))),?_⟩
  have p2:=pr.p2;have sz:=Jv;have o9:1<=n / r:=Nat.div_pos rn (by omega);have t0:n / r<=n:=Nat.div_le_self _ _;have t5:((n:Nat):Int) / ((r:Nat):Int)=((n / r:Nat):Int):=rfl;refine⟨_,rfl,ra,_,rfl,.inl (.of hR),?_⟩;rw[Ur];refine⟨_,rfl,_,rfl,M,_,rfl,.inl (.of hW),?_⟩;rw[Yp];refine⟨_,_,rfl,rfl,⟨by omega,by omega⟩,_,rfl,_,rfl,_,rfl,M,_,rfl,.inl (.of hW),?_⟩;rw[Yp];obtain⟨y0,y1,y2,y3⟩:=pr.iv r (by omega) rp;refine⟨p,_,rfl,p2,pl,⟨y0,y1,y2,by rw[<-aW,<-bA,y3];rfl⟩,λy a1 a2 a3=>?_⟩;have hy:y*r % p=1:=by
   have:((y*r % p:Nat):Int)=1:=by rw[bA,aW];exact a3
   omega
  have eb:=Zm0 a2 hy;refine⟨_,_,rfl,rfl,.inl ⟨by omega,by omega⟩,?_⟩;refine⟨JL,λl0 p6=>⟨_,rfl,l0,_,_,rfl,rfl,Zt,by omega,by omega,by show 1*((n:Int)).toNat<=sizeLine;omega,λL nL=>?_⟩⟩;rw[Zj,Zd4];have s1:=Same.upd (H:=H) (o:=.lst [.int 0]) p6;have p7:H L=none:=s1.free nL;have s2:=s1.trans (Same.upd (o:=.lst (ZP n λ_=>0)) nL);have h2:upd (upd H l0 (.lst [.int 0])) L (.lst (ZP n λ_=>0)) L=some (.lst (ZP n λ_=>0)):=Zt;generalize upd (upd H l0 (.lst [.int 0])) L (.lst (ZP n λ_=>0))=H2 at s2 h2 ⊢;refine⟨_,rfl,_,rfl,n,n / r,rfl,o9,by omega,by omega,?_⟩;refine ZjH (λi Y H'=>∃v9:TQ,Y=[some (.ref M),some (.ref oa),some (.int share),some (.ref ra),some (.int (p:Nat)),some (.int (n:Nat)),some (.int ((n / r:Nat):Int)),some (.int (share*(y:Int))),some (.ref L),v9]/\Same H H'/\H' L=some (.lst (ZP n λj=>if j<i*(n / r) then ofF n r p share z (λk=>one (wk k).toNat) j else 0)))
   ⟨_,rfl,s2,by rw[h2];congr 2;exact Wm λj _=>by rw[if_neg (by omega)]⟩ ?_ ?_
  ·rintro i Y H3 hi ⟨v9,rfl,s3,h3⟩
   have hj:i*(n / r)<n:=by
    unfold WQ at hi;have:(i+1)*(n / r)<=n+n / r-1:=aN (cv _ hi) (Nat.div_mul_le_self _ _);rw[cz] at this;omega
   have ej:(0:Int)+(i:Int)*((n / r:Nat):Int)=((i*(n / r):Nat):Int):=by rw[aW];omega
   rw[ej];generalize O:i*(n / r)=j at hj;have o0:=s3 _ _ hW;refine⟨_,rfl,_,rfl,M,rfl,.inl ⟨⟨_,.of o0⟩,?_⟩⟩;have zi:ZcE (Zmg K M) (λH=>WZ K H M (ZP r wk)) ((ZP r λk=>(k:Int)).zip (ZP r wk)):=by
    have:=Zqr (Zah (K:=K) (a:=M) (xs:=ZP r wk));rw[Yp] at this;exact this
   refine VP zi (λH' sm=>.of (sm _ _ o0)) (Same.refl H3) [some (.ref oa),some (.ref ra),some (.int (j:Nat)),some (.int (n:Nat))] rfl (λk c=>one c.toNat*((z ^ (j*k.toNat % n) % p:Nat):Int)) (by omega) (λk H4 hk s4 R g=>?_) (λD H4 nD s4 hD=>?_)
   ·obtain⟨c,hc,ec⟩:=o8 k hk
    have J:=s3.trans s4;have g1:=vo.ge c hc;have t6:=vo.lt c hc;rw[ec] at g ⊢;rw[Zj,Zj] at g;have o5:((j:Nat):Int)*((k:Nat):Int) % ((n:Nat):Int)=((j*k % n:Nat):Int):=by rw[bA,aW]
    have p8:Xy (Jc p z n) (((j:Nat):Int)*((k:Nat):Int) % ((n:Nat):Int))=some (V.int ((z ^ (j*k % n) % p:Nat):Int)):=by
     rw[o5];exact ZkX (bX _ (by omega))
    refine⟨_,rfl,_,rfl,oa,_,_,_,rfl,rfl,.of (J _ _ hO),ZR (Xf one hc),_,rfl,_,rfl,_,rfl,_,_,rfl,rfl,.inl ⟨by omega,by omega⟩,_,rfl,_,_,rfl,rfl,(by show (0:Int)<(n:Int);omega),ra,_,_,_,rfl,rfl,.of (J _ _ hR),p8,_,_,rfl,rfl,.inl ⟨by omega,by omega⟩,g⟩
   ·rw[Jm] at hD
    have yb:(y:Int)<100000:=by omega
    have mb:-(2 ^ 64)<share*(y:Int)/\share*(y:Int)<2 ^ 64:=by
     have h1:(y:Int) ≥ 1:=by omega
     constructor
     ·have:share*(y:Int) ≥ -(2 ^ 40)*100000:=by
       have a:share*(y:Int) ≥ (-(2 ^ 40))*(y:Int):=dB (by omega) (by omega);have b:(-(2 ^ 40):Int)*(y:Int) ≥ -(2 ^ 40)*100000:=by omega
       omega
      omega
     ·have:share*(y:Int)<=(2 ^ 40)*(y:Int):=dB (by omega) (by omega)
      omega
    have J:=s3.trans s4;refine⟨D,_,rfl,.of hD,_,_,rfl,rfl,.inl mb,_,rfl,_,_,rfl,rfl,(by show (0:Int)<(p:Int);omega),_,rfl,_,rfl,L,_,_,j,rfl,rfl,s4 _ _ h3,J3 (by rw[Yp];exact hj),?_⟩;refine⟨_,rfl,J.updr p7,?_⟩;rw[Zt,Zkw _ _ hj];congr 2;refine Wm λa ha=>?_;have U:j % (n / r)=0:=by rw[<-O];exact Nat.mul_mod_left _ _
    by_cases e1:a=j
    ·rw[if_pos e1,if_pos (by rw[e1,<-O,cz];omega),e1]
     unfold ofF;rw[if_pos U,eb];rfl
    ·rw[if_neg e1]
     by_cases e2:a<j
     ·rw[if_pos (by rw[O];exact e2),if_pos (by rw[cz,O];omega)]
     ·rw[if_neg (by rw[O];exact e2)]
      by_cases e3:a<(i+1)*(n / r)
      ·rw[if_pos e3]
       unfold ofF;rw[if_neg];intro hz;rw[cz,O] at e3;obtain⟨q1,o6⟩:=bt hz;obtain⟨q2,t7⟩:=bt U;have:i<q1:=by
        apply ak;intro zz;have h4:(n / r)*q1<=(n / r)*i:=ff _ (by omega);rw[<-o6,dM,O] at h4;omega
       have h5:(n / r)*(i+1)<=(n / r)*q1:=ff _ (by omega);rw[<-o6,j3,dF,dM,O] at h5;omega
      ·rw[if_neg e3]
  ·rintro Y H3 ⟨v9,rfl,s3,h3⟩
   have big:n<=WQ n (n / r)*(n / r):=by
    unfold WQ;have h1:=Nat.div_add_mod (n+n / r-1) (n / r);have h2:=bX (n+n / r-1) (show 0<n / r by omega);rw[dM] at h1;omega
   have e3:(ZP n λj=>if j<WQ n (n / r)*(n / r) then ofF n r p share z (λk=>one (wk k).toNat) j else 0)=ZP n (ofF n r p share z λk=>one (wk k).toNat):=Wm λj hj=>if_pos (by omega)
   rw[e3,Jm] at h3;refine⟨_,rfl,_,rfl,n,L,_,rfl,n1,n60,.inl (.of h3),by rw[Za,Zg];omega,λq' H4 s4 h4=>?_⟩;exact q q' H4 (s3.trans s4) h4
end C30
namespace PyZ
open PySem PyProof PyProof.Rows
def Runs (n:Nat)(cmp:Nat->Nat->Bool){α:Type}:kf α->(α->Prop)->Prop
 | .ret a,Q=>Q a
 | .ask i j k,Q=>i<n/\j<n/\Runs n cmp (k (cmp i j)) Q
theorem Runs.run {n:Nat}{cmp:Nat->Nat->Bool}{α:Type}{Q:α->Prop}:∀{t:kf α},Runs n cmp t Q->∃a,Ua n cmp t=some a/\Q a
 | .ret a,h=>⟨a,rfl,h⟩
 | .ask i j k,h=>by
  obtain⟨J,M,O⟩:=h;obtain⟨a,e,q⟩:=O.run;exact⟨a,by rw[Ua,if_pos ⟨J,M⟩];exact e,q⟩
theorem Runs.bind {n:Nat}{cmp:Nat->Nat->Bool}{α J:Type}{f:α->kf J}{Q:J->Prop}:∀{t:kf α},Runs n cmp t (λa=>Runs n cmp (f a) Q)->Runs n cmp (t.bind f) Q
 | .ret a,h=>h
 | .ask i j k,h=>⟨h.1,h.2.1,h.2.2.bind⟩
theorem Runs.mono {n:Nat}{cmp:Nat->Nat->Bool}{α:Type}{Q J:α->Prop}(M:∀a,Q a->J a):∀{t:kf α},Runs n cmp t Q->Runs n cmp t J
 | .ret a,h=>M a h
 | .ask i j k,h=>⟨h.1,h.2.1,h.2.2.mono M⟩
section
variable {rank:Nat->Nat}
noncomputable abbrev WJ (rank:Nat->Nat):Nat->Nat->Bool:=λi j=>decide (rank i<rank j)
def RK (rank:Nat->Nat)(p:Array Nat)(i:Nat):Nat:=rank (p.getD i 0)
structure PmO (n:Nat)(p:Array Nat):Prop where
 pm:p.Perm (ac n).toArray
theorem PmO.size {p:Array Nat}(h:PmO n p):p.size=n:=by
 have:=h.pm.size_eq;simpa using this
theorem PmO.lt {p:Array Nat}(h:PmO n p){i:Nat}(hi:i<n):p.getD i 0<n:=by
 have j:=h.size;have J:p.toList.Perm (ac n):=by have:=h.pm;rw[ko] at this;simpa using this
 have e:p.getD i 0=p[i]'(by omega):=by simp[mP,j,hi]
 rw[e];have M:p[i]'(by omega)∈p.toList:=by simp
 exact af.mp (J.mem_iff.mp M)
theorem Xd {p q:Array Nat}{i j:Nat}(h:p[i]?=q[j]?):RK rank p i=RK rank q j:=by
 unfold RK;rw[cR,cR,h]
theorem ZhA {xs:Array Nat}{src d:Nat}(M:src<xs.size)(O:d<=src)(k:Nat) :
  RK rank (bubble xs src d) k=if k=src-d then RK rank xs src else if src-d<k/\k<=src then RK rank xs (k-1) else RK rank xs k:=by
 have e:=getElem?_bubble M d O k;by_cases j:k=src-d
 ·rw[if_pos j] at e ⊢;exact Xd e
 ·rw[if_neg j] at e ⊢
  by_cases J:src-d<k/\k<=src
  ·rw[if_pos J] at e ⊢;exact Xd e
  ·rw[if_neg J] at e ⊢;exact Xd e
theorem Ze8 {xs:Array Nat}{i j:Nat}(M:j<=xs.size)(k:Nat):RK rank (fH xs i j) k=if i<=k/\k<j then RK rank xs (i+j-1-k) else RK rank xs k:=by
 have e:=getElem?_mirror_all (i:=i) M k;unfold fH;by_cases J:i<=k/\k<j
 ·rw[if_pos J] at e ⊢;exact Xd e
 ·rw[if_neg J] at e ⊢;exact Xd e
theorem VX {xs:Array Nat}{i j:Nat}(J:j<=xs.size)(heq:∀k,i<=k->k<j->RK rank xs k=RK rank xs (j-1))(k:Nat):RK rank (fH xs i j) k=RK rank xs k:=by
 rw[Ze8 J];split
 ·rw[heq _ (by omega) (by omega),heq k (by omega) (by omega)]
 ·rfl
theorem PmO.rev {p:Array Nat}(h:PmO n p)(i j:Nat):PmO n (fH p i j):=⟨(mirror_perm p i j _).trans h.pm⟩
theorem PmO.bub {p:Array Nat}(h:PmO n p)(k d:Nat):PmO n (bubble p k d):=⟨(bubble_perm p k d).trans h.pm⟩
def Up (rank:Nat->Nat)(p:Array Nat)(k:Nat):Prop:=∀i j,i<=j->j<k->RK rank p i<=RK rank p j
def Dn (rank:Nat->Nat)(p:Array Nat)(k:Nat):Prop:=∀i j,i<=j->j<k->RK rank p j<=RK rank p i
theorem Up.snoc {p:Array Nat}{k:Nat}(U:1<=k)(h:Up rank p k)(M:RK rank p (k-1)<=RK rank p k):Up rank p (k+1):=λi j J Y=>by
 by_cases e:j=k
 ·subst e
  by_cases O:i=j
  ·rw[O];exact Zq _
  ·exact aN (h i (j-1) (by omega) (by omega)) M
 ·exact h i j J (by omega)
theorem Dn.snoc {p:Array Nat}{k:Nat}(U:1<=k)(h:Dn rank p k)(M:RK rank p k<=RK rank p (k-1)):Dn rank p (k+1):=λi j J Y=>by
 by_cases e:j=k
 ·subst e
  by_cases O:i=j
  ·rw[O];exact Zq _
  ·exact aN M (h i (j-1) (by omega) (by omega))
 ·exact h i j J (by omega)
theorem Ze6 {p:Array Nat}(J:PmO n p):∀(f k:Nat),1<=k->k+f<=n->Up rank p k->Runs n (WJ rank) (W.kas_asc p f k) λm=>k<=m/\m<=k+f/\Up rank p m/\(m<k+f->RK rank p m<RK rank p (m-1))
 |0,k,M,O,j=>⟨Zq _,Zq _,j,λz=>absurd z (by omega)⟩
 |f+1,k,M,O,j=>by
  refine⟨J.lt (by omega),J.lt (by omega),?_⟩;by_cases c:rank (p.getD k 0)<rank (p.getD (k-1) 0)
  ·rw[show WJ rank _ _=true from decide_eq_true c]
   exact⟨Zq _,by omega,j,λ_=>c⟩
  ·rw[show WJ rank _ _=false from decide_eq_false c]
   refine (Ze6 J f (k+1) (by omega) (by omega) (j.snoc M (by unfold RK;omega))).mono λm ⟨a,b,u,d⟩=>⟨by omega,by omega,u,λz=>d (by omega)⟩
theorem Ux:∀(f:Nat) (p:Array Nat) (k q:Nat),PmO n p->1<=k->k+f<=n->q+1<=k->Dn rank p k->(∀j,k-1-q<=j->j<k->RK rank p j=RK rank p (k-1))->
  Runs n (WJ rank) (W.kas_desc f p k q) λr=>PmO n r.1/\1<=r.2.1/\r.2.1<=k+f/\r.2.2+1<=r.2.1/\Dn rank r.1 r.2.1/\∀j,r.2.1-1-r.2.2<=j->j<r.2.1->RK rank r.1 j=RK rank r.1 (r.2.1-1)
 |0,p,k,q,J,M,hk,U,hd,he=>⟨J,M,Zq _,U,hd,he⟩
 |f+1,p,k,q,J,M,hk,U,hd,he=>by
  refine⟨J.lt (by omega),J.lt (by omega),?_⟩;by_cases c:rank (p.getD k 0)<rank (p.getD (k-1) 0)
  ·rw[show WJ rank _ _=true from decide_eq_true c]
   show Runs n (WJ rank) (if q > 0 then W.kas_desc f (fH p (k-(q+1)) k) (k+1) 0 else W.kas_desc f p (k+1) 0) _
   have O:=hd.snoc M (dN c);have sz:=J.size;split
   ·have Y:∀j,RK rank (fH p (k-(q+1)) k) j=RK rank p j:=λj=>VX (by omega) (λi a b=>he i (by omega) b) j
    refine (Ux f _ (k+1) 0 (J.rev _ _) (by omega) (by omega) (by omega) (λi j a b=>?_) (λj a b=>?_)).mono λr ⟨a,b,c,d⟩=>⟨a,b,by omega,d⟩
    ·rw[Y,Y];exact O i j a b
    ·rw[show j=k+1-1 by omega]
   ·refine (Ux f _ (k+1) 0 J (by omega) (by omega) (by omega) O (λj a b=>?_)).mono λr ⟨a,b,c,d⟩=>⟨a,b,by omega,d⟩
    rw[show j=k+1-1 by omega]
  ·rw[show WJ rank _ _=false from decide_eq_false c]
   refine⟨J.lt (by omega),J.lt (by omega),?_⟩;by_cases d:rank (p.getD (k-1) 0)<rank (p.getD k 0)
   ·rw[show WJ rank _ _=true from decide_eq_true d]
    exact⟨J,M,(show k<=k+(f+1) by omega),U,hd,he⟩
   ·rw[show WJ rank _ _=false from decide_eq_false d]
    have e:RK rank p k=RK rank p (k-1):=by unfold RK;omega
    refine (Ux f _ (k+1) (q+1) J (by omega) (by omega) (by omega) (hd.snoc M (by omega)) (λj a b=>?_)).mono λr ⟨a,b,c,d⟩=>⟨a,b,by omega,d⟩;rw[show k+1-1=k by omega];by_cases ej:j=k
    ·rw[ej]
    ·rw[he j (by omega) (by omega),e]
theorem ZcP {p:Array Nat}{k:Nat}(J:PmO n p)(M:1<=k)(Y:k<=n)(O:Dn rank p k):Runs n (WJ rank) (nk k n p) λr=>1<=r.1/\r.1<=n/\PmO n r.2/\Up rank r.2 r.1:=by
 have sz:=J.size;have U:Up rank (fH p 0 k) k:=λi j a b=>by
  rw[Ze8 (by omega),Ze8 (by omega),if_pos ⟨aX _,by omega⟩,if_pos ⟨aX _,b⟩];exact O _ _ (by omega) (by omega)
 exact Runs.bind ((Ze6 (J.rev 0 k) (n-k) k M (by omega) U).mono λm ⟨a,b,c,_⟩=>⟨aN M a,by show m<=n;omega,J.rev 0 k,c⟩)
theorem V4 {p:Array Nat}{k:Nat}(M:PmO n p)(U:k+1<=n)(O:Dn rank p (k+1)):Runs n (WJ rank) (W.kas_descPart k n p) λr=>1<=r.1/\r.1<=n/\PmO n r.2/\Up rank r.2 r.1:=by
 refine Runs.bind ((Ux (n-(k+1)) p (k+1) 0 M (by omega) (by omega) (by omega) O (λj a b=>by rw[show j=k+1-1 by omega])).mono λr ⟨a,b,c,d,e,g⟩=>?_);have sz:=a.size;show Runs n (WJ rank) (if r.2.2 > 0 then nk r.2.1 n (fH r.1 (r.2.1-(r.2.2+1)) r.2.1) else nk r.2.1 n r.1) _
 split
 ·have J:∀j,RK rank (fH r.1 (r.2.1-(r.2.2+1)) r.2.1) j=RK rank r.1 j:=λj=>VX (by omega) (λi x y=>g i (by omega) y) j
  exact ZcP (a.rev _ _) b (by omega) λi j x y=>by rw[J,J];exact e i j x y
 ·exact ZcP a b (by omega) e
theorem Zj0 {p:Array Nat}(J:PmO n p)(h1:1<=n):Runs n (WJ rank) (W.kas_count n p) λr=>1<=r.1/\r.1<=n/\PmO n r.2/\Up rank r.2 r.1:=by
 refine Runs.bind ((Ze6 J (n-1) 1 (Zq _) (by omega) (λi j a b=>by rw[show i=0 by omega,show j=0 by omega];exact Zq _)).mono λm ⟨a,b,c,d⟩=>?_);have sz:=J.size;show Runs n (WJ rank) (if (m == n)=true then _ else _) _
 by_cases e:m=n
 ·rw[if_pos (by rw[e];exact beq_self_eq_true n)]
  exact⟨a,by show m<=n;omega,J,c⟩
 ·rw[if_neg (by simpa using e)]
  have U:=d (by omega);have M:Dn rank p m->Dn rank p (m+1):=λh=>h.snoc a (dN U);split
  ·refine⟨J.lt (by omega),J.lt (by omega),?_⟩
   by_cases g:rank (p.getD 0 0)<rank (p.getD (m-1) 0)
   ·rw[show WJ rank _ _=true from decide_eq_true g]
    exact⟨a,by show m<=n;omega,J,c⟩
   ·rw[show WJ rank _ _=false from decide_eq_false g]
    have all:∀j,j<m->RK rank p j=RK rank p (m-1):=λj Y=>by
     have x:=c 0 j (by omega) Y;have y:=c j (m-1) (by omega) (by omega);unfold RK at x y ⊢;omega
    have O:∀j,RK rank (fH p 0 m) j=RK rank p j:=λj=>VX (by omega) (λi _ y=>all i y) j;refine V4 (J.rev 0 m) (by omega) λi j x y=>?_;rw[O,O];exact M (λi j x y=>by rw[all i (by omega),all j y];exact Zq _) i j x y
  ·have e1:m=1:=by omega
   subst e1;exact V4 J (by omega) (M λi j x y=>by rw[show i=0 by omega,show j=0 by omega];exact Zq _)
theorem U0 {p:Array Nat}{k:Nat}(j:PmO n p)(Y:k<n)(J:Up rank p k):∀(f l r:Nat),r-l<=f->l<=r->r<=k->(∀i,i<l->RK rank p i<=RK rank p k)->(∀i,r<=i->i<k->RK rank p k<RK rank p i)->
  Runs n (WJ rank) (W.kas_place p k f l r) λm=>m<=k/\(∀i,i<m->RK rank p i<=RK rank p k)/\∀i,m<=i->i<k->RK rank p k<RK rank p i
 |0,l,r,hf,o0,M,O,U=>by
  have e:l=r:=by omega
  subst e;exact⟨M,O,U⟩
 |f+1,l,r,hf,o0,M,O,U=>by
  show Runs n (WJ rank) (if l ≥ r then _ else _) _
  split
  ·have e:l=r:=by omega
   subst e;exact⟨M,O,U⟩
  ·refine⟨j.lt Y,j.lt (by omega),?_⟩
   by_cases c:rank (p.getD k 0)<rank (p.getD ((l+r) / 2) 0)
   ·rw[show WJ rank _ _=true from decide_eq_true c]
    refine U0 j Y J f l ((l+r) / 2) (by omega) (by omega) (by omega) O λi a b=>?_;exact aE c (J _ _ a b)
   ·rw[show WJ rank _ _=false from decide_eq_false c]
    refine U0 j Y J f ((l+r) / 2+1) r (by omega) (by omega) M (λi a=>?_) U;have:=J i ((l+r) / 2) (by omega) (by omega);unfold RK at this ⊢;omega
theorem Zkd:∀(f:Nat) (p:Array Nat) (k:Nat),PmO n p->k+f=n->Up rank p k->Runs n (WJ rank) (W.kas_bin f p k) λr=>PmO n r/\Up rank r n
 |0,p,k,M,Y,J=>⟨M,by rw[<-Y];exact J⟩
 |f+1,p,k,M,Y,J=>by
  have sz:=M.size;refine Runs.bind ((U0 M (by omega) J k 0 k (by omega) (by omega) (Zq _) (λi h=>by omega) (λi a b=>by omega)).mono λl ⟨a,b,c⟩=>?_);refine Zkd f _ (k+1) (M.bub _ _) (by omega) λi j U hj=>?_;have hb:=λx=>ZhA (rank:=rank) (xs:=p) (src:=k) (d:=k-l) (by omega) (by omega) x;rw[hb i,hb j];have el:k-(k-l)=l:=by omega
  rw[el];have o5:=J;by_cases i1:i=l
  ·rw[if_pos i1]
   by_cases O:j=l
   ·rw[if_pos O];exact Zq _
   ·rw[if_neg O,if_pos ⟨by omega,by omega⟩]
    exact dN (c (j-1) (by omega) (by omega))
  ·rw[if_neg i1]
   by_cases i2:l<i/\i<=k
   ·rw[if_pos i2,if_neg (by omega),if_pos ⟨by omega,by omega⟩]
    exact J _ _ (by omega) (by omega)
   ·rw[if_neg i2]
    have il:i<l:=by omega
    by_cases O:j=l
    ·rw[if_pos O];exact b i il
    ·rw[if_neg O]
     by_cases j2:l<j/\j<=k
     ·rw[if_pos j2];exact J _ _ (by omega) (by omega)
     ·rw[if_neg j2];exact J _ _ U (by omega)
theorem ZkI (U:1<=n)(rank:Nat->Nat):∃p,Ua n (WJ rank) (jC n)=some p/\p.toList.Perm (ac n)/\(p.toList.map rank).Pairwise (· ≤ ·):=by
 have:Runs n (WJ rank) (jC n) λp=>PmO n p/\Up rank p n:=by
  refine Runs.bind ((Zj0 (rank:=rank) ⟨Array.Perm.refl _⟩ U).mono λr ⟨a,b,c,d⟩=>?_);show Runs n (WJ rank) (if r.1<n then _ else _) _
  split
  ·have e:max r.1 1=r.1:=by omega
   rw[e];exact Zkd _ _ _ c (by omega) d
  ·exact⟨c,by rw[show n=r.1 by omega];exact d⟩
 obtain⟨p,e,O,Y⟩:=this.run;refine⟨p,e,?_,?_⟩
 ·have:=O.pm
  rw[ko] at this;simpa using this
 ·have sz:=O.size
  rw[kK];intro i j J M o0;rw[Za] at J M;have li:i<p.size:=by simpa using J
  have lj:j<p.size:=by simpa using M
  have:=Y i j (by omega) (by omega);unfold RK at this;rw[n8,n8];have ei:p.getD i 0=p.toList[i]'J:=by simp[mP,li]
  have ej:p.getD j 0=p.toList[j]'M:=by simp[mP,lj]
  rw[ei,ej] at this;exact this
end
end PyZ
namespace PyZ
open PySem PyProof PyProof.Rows SeqAt
open AutoSeq1 (wpAny_loadPart')
theorem Uv {vs:List Value}{ns:TX}(h:bW vs ns):∀{i:Nat}{v:Value},vs[i]?=some v->∃n t,ns[i]?=some n/\v=.int n t:=by
 induction h with
 |nil=>intro i v e;simp at e
 |cons n t _ j=>
  intro i v e
  match i,e with
  |0,e=>cases e;exact⟨_,_,rfl,rfl⟩
  |i+1,e=>exact j (i:=i) (by simpa using e)
theorem Vm {vs:List Value}{ns:TX}(h:bW vs ns):vs.length=ns.length:=by
 induction h with
 |nil=>rfl
 |cons _ _ _ j=>rw[Zi,Zi,j]
theorem Zg5 {fin:Bool}{xs ys:TX}{i:Nat}{x y:Int}(j:xs[i]?=some x)(J:ys[i]?=some y):ZeN fin (xs.drop i) (ys.drop i)=if x=y then ZeN fin (xs.drop (i+1)) (ys.drop (i+1)) else decide (x<y):=by
 have M:=(ab.mp j);have O:=(ab.mp J);obtain⟨U,Y⟩:=M;obtain⟨l2,e2⟩:=O;rw[b8 U,b8 l2,Y,e2];rfl
theorem Zjl {fin:Bool}{xs ys:TX}{i:Nat}(h:xs[i]?=none\/ys[i]?=none):ZeN fin (xs.drop i) (ys.drop i)=fin:=by
 rcases h with h|h
 ·rw[fN (gH.mp h)]
  rfl
 ·rw[fN (as:=ys) (gH.mp h)]
  cases xs.drop i with
  |nil=>rfl
  |cons _ _=>rfl
end PyZ
namespace PyZ
open PySem PyProof PyProof.Rows
theorem Zcf (ys:TX):ltB [] ys=decide (0<ys.length):=rfl
theorem Zdw (xs:TX):ltB xs []=false:=by
 cases xs with
 |nil=>rfl
 |cons x xs=>
  show decide ((x::xs).length<([]:TX).length)=false;exact decide_eq_false (by simp)
theorem Zaa (x y:Int)(xs ys:TX):ltB (x::xs) (y::ys)=if x=y then ltB xs ys else decide (x<y):=by
 unfold ltB;show (if x=y then ZeN _ xs ys else _)=_
 have e:decide ((x::xs).length<(y::ys).length)=decide (xs.length<ys.length):=by
  simp only[Zi,lA]
 rw[e]
theorem ZfU:∀xs:TX,ltB xs xs=false
 | []=>rfl
 |x::xs=>by rw[Zaa,if_pos rfl];exact ZfU xs
theorem ZfT:∀{xs ys:TX},ltB xs ys=false->ltB ys xs=false->xs=ys
 | [],[],_,_=>rfl
 | [],_::_,h,_=>by rw[Zcf] at h;simp at h
 |_::_,[],_,h=>by rw[Zcf] at h;simp at h
 |x::xs,y::ys,j,J=>by
  rw[Zaa] at j J;by_cases e:x=y
  ·rw[if_pos e] at j
   rw[if_pos e.symm] at J;rw[e,ZfT j J]
  ·rw[if_neg e] at j
   rw[if_neg (bV e)] at J;have a:=of_decide_eq_false j;have b:=of_decide_eq_false J;omega
theorem Za5:∀{xs ys J:TX},ltB xs ys=true->ltB ys J=true->ltB xs J=true
 |xs,ys,[],_,h=>by rw[Zdw] at h;cases h
 |xs,[],z::J,h,_=>by rw[Zdw] at h;cases h
 | [],y::ys,z::J,_,_=>by rw[Zcf];exact decide_eq_true (by simp)
 |x::xs,y::ys,z::J,M,j=>by
  rw[Zaa] at M j ⊢;by_cases U:x=y
  ·rw[if_pos U] at M
   by_cases O:y=z
   ·rw[if_pos O] at j
    rw[if_pos (U.trans O)];exact Za5 M j
   ·rw[if_neg O] at j
    have:=of_decide_eq_true j;rw[if_neg (by omega)];exact decide_eq_true (by omega)
  ·rw[if_neg U] at M
   have a:=of_decide_eq_true M;by_cases O:y=z
   ·rw[if_neg (by omega)]
    exact decide_eq_true (by omega)
   ·rw[if_neg O] at j
    have:=of_decide_eq_true j;rw[if_neg (by omega)];exact decide_eq_true (by omega)
theorem UQ {n:Nat}{cmp J:Nat->Nat->Bool}(h:∀i j,i<n->j<n->cmp i j=J i j){α:Type}:∀t:kf α,Ua n cmp t=Ua n J t
 | .ret a=>rfl
 | .ask i j k=>by
  rw[Ua,Ua];by_cases M:i<n/\j<n
  ·rw[if_pos M,if_pos M,h i j M.1 M.2]
   exact UQ h _
  ·rw[if_neg M,if_neg M]
theorem Zbj {α:Type}{p q:α->Bool}:∀{l:List α},(∀x∈l,p x=true->q x=true)->(∃x∈l,p x=false/\q x=true)->l.countP p<l.countP q
 | [],_,⟨x,j,_⟩=>by cases j
 |y::l,h,⟨x,j,J,M⟩=>by
  have le:∀{l:List α},(∀x∈l,p x=true->q x=true)->l.countP p<=l.countP q:=λ{l} h=>List.countP_mono_left h;rw[og,og];have O:∀x∈l,p x=true->q x=true:=λz U=>h z (aF _ U);rcases aH.mp j with e|j
  ·rw[<-e,J,M]
   have:=le O;simp only[dH,if_false,if_true];omega
  ·have:=Zbj O ⟨x,j,J,M⟩
   have Y:=h y aD;cases e1:p y with
   |true=>rw[Y e1];omega
   |false=>
    simp only[dH,if_false];split <;> omega
theorem Zkv (vs:List Value)(h:vs.length<2):(vs.toArray.zip vs.toArray).map (·.2)=vs.toArray:=by
 cases vs with
 |nil=>simp
 |cons v r=>
  cases r with
  |nil=>simp
  |cons a b=>exact absurd h (by rw[Zi,Zi];omega)
theorem Zeo {a:Addr}{vs:List Value}{n:Nat}{P:Fin->Shared->Prop}(O:s.heap.get? a=some (seqObj "list" vs.toArray n))(h2:vs.length<2)
  (h:P (.done (.ret .none)) {s with heap:=sortedHeap s.heap a vs vs.toArray}):wpAny (model prog w) A (cM.«list.sort» ⟨[.ref a],[]⟩) P E s:=by
 rw[list_sort_plain];have Y:a<s.heap.objs.size:=Zp O;refine Zl (nF O rfl ?_);refine Zl (mG O rfl ?_);obtain⟨U,j⟩:∃U,(s.heap.update a (bR λ_=>#[])).get? a=some (seqObj "list" #[] U):=⟨_,i0 O (λ_=>#[])⟩;refine Zl (seqEpoch_at j rfl ?_);refine Zl (lJ ?_);refine Zl (iy ?_);refine cn ?_;have J:(((s.heap.update a (bR λ_=>#[])).push (seqObj "tuple" vs.toArray 0)).push (seqObj "list" #[] 0)).get? a=some (seqObj "list" #[] U):=by
  rw[gI _ _ _ (by rw[size_push',ic];exact ay (cB Y)),gI _ _ _ (by rw[ic];exact ay Y)];exact j
 show wpAny (model prog w) A _ P E {s with heap:=((s.heap.update a (bR λ_=>#[])).push (seqObj "tuple" vs.toArray 0)).push (seqObj "list" #[] 0)}
 try dsimp only
 have o5:vs.toArray.size=vs.length:=by simp
 have M:vs.toArray.size<2:=by omega
 rw[if_pos M,if_pos M];refine Zl (Zm ?_);rw[StateT.run_pure];refine Zl (Zm ?_)
 try dsimp only
 have eo:(arrOf (SortSt.mk' general' (vs.toArray.zip vs.toArray) #[] 7 none)).map (·.2)=vs.toArray:=by
  exact Zkv _ h2
 refine Zl (seqEpoch_at J rfl ?_);refine Zl (mG J rfl ?_ (hsz2:=by rw[Array.size_map];show (pairsOf vs).size<=_;rw[pairsOf_size,ji];omega));simp only[bne_self_eq_false,dH,if_false];refine Zm ?_;rw[eo];exact h
end PyZ
namespace L2
open PySem PySem.Spec PyProof.Rows
theorem Zll:∀{as:TU},as.length<2->((ac as.length).map λi=>as.getD i 0)=as
 | [],_=>rfl
 | [_],_=>rfl
theorem ZnM {β:Type}:∀{n:Nat},n<2->∀(f:Nat->β) (R:β->β->Prop),((ac n).map f).Pairwise R
 |0,_,_,_=>f7
 |1,_,_,_=>ie _ _
end L2
namespace PyZ
open PySem PyProof PyProof.Rows SeqAt
open AutoSeq1 (wpAny_loadPart')
theorem ZhO (l b:Addr)(J j:Array Value)(n n2:Nat)(dd o8:Option Addr)(sl o9:Array (Option Value)){xs ys:TX}(hx:bW J.toList xs)(hy:bW j.toList ys) :
  mS (cM.«tuple.__lt__» ⟨[.ref l,.ref b],[]⟩)
   (λA R s=>s.heap.get? l=some {cls:=.type "tuple",dict:=dd,data:=.seq J n,slots:=sl}/\s.heap.get? b=some {cls:=.type "tuple",dict:=o8,data:=.seq j n2,slots:=o9}/\
    R (.ok (.ret (.bool (ltB xs ys)))) s):=
 .of_wp λo5 w A R s h=>by
  obtain⟨hp,g,d,tk,os⟩:=s;obtain⟨hl,hb,h⟩:=h;have f2:=eV;have sx:J.size=xs.length:=by rw[<-Vm hx,Zr]
  have sy:j.size=ys.length:=by rw[<-Vm hy,Zr]
  have hZ:(J.toList.zip j.toList).length=min J.size j.size:=by simp
  wp_walk using wpAny_loadPart' hl,wpAny_loadPart' hb,wpAny_forIn_list _ (λrest b s'=>b.1=none/\s'=⟨hp,g,d,tk,os⟩/\∃i,rest=(J.toList.zip j.toList).drop i/\
   R (.ok (.ret (.bool (ZeN (decide (xs.length<ys.length)) (xs.drop i) (ys.drop i))))) ⟨hp,g,d,tk,os⟩) _
  case turn=>
   rintro⟨y,x⟩ rest b s' ⟨O,rfl,i,U,M⟩;have o6:i<(J.toList.zip j.toList).length:=by
    rcases gv i (J.toList.zip j.toList).length with Y|Y
    ·exact Y
    ·rw[iw Y] at U;cases U
   have hm:i<min J.size j.size:=hZ▸o6;have h1:i<J.size:=aE hm (ki _ _);have h2:i<j.size:=aE hm (Nat.min_le_right _ _);rw[b8 o6] at U;injection U with o7 o0;have p6:y=J[i]:=by have:=congrArg mm o7;simpa using this
   have p7:x=j[i]:=by have:=congrArg Prod.snd o7;simpa using this
   subst p6 p7;obtain⟨a,ta,ex,vx⟩:=Uv hx (i:=i) (v:=J[i]) (by simp[h1]);obtain⟨c,tc,ey,vy⟩:=Uv hy (i:=i) (v:=j[i]) (by simp[h2]);rw[Zg5 ex ey] at M;rw[vx,vy];refine Zl (jX _ _ _ _ o5 w _ _ ?_);by_cases e:a=c
   ·rw[if_pos e] at M
    rw[show (a == c)=true from beq_iff_eq.mpr e]
    wp_walk
    exact⟨rfl,rfl,i+1,o0,M⟩
   ·rw[if_neg e] at M
    rw[show (a == c)=false from beq_eq_false_iff_ne.mpr e];simp only[Bool.not_false,if_true];refine Zl (dW ?_);refine Zl (show wpAny _ _ (compareOp .Lt (.int a ta) (.int c tc)) _ _ _ from lt_int ?_)
    wp_walk
    exact⟨_,rfl,M⟩
  case fin=>
   rintro⟨b1,b2⟩ s' ⟨O,rfl,i,U,M⟩;simp only at O;subst O;have q0:min J.size j.size<=i:=by
    rcases gv i (J.toList.zip j.toList).length with Y|Y
    ·rw[b8 Y] at U;cases U
    ·exact hZ▸Y
   rw[Zjl (by
    rcases gv i xs.length with q|q
    ·exact .inr (ag (by omega))
    ·exact .inl (ag q))] at M
   wp_walk
   refine⟨_,rfl,?_⟩;rw[sx,sy];exact M
  case h=>
   exact⟨rfl,rfl,0,rfl,h⟩
def Zjk (fin:Bool):TZ->TZ->Bool
 | [],_=>fin
 |_::_,[]=>fin
 |x::j,y::J=>if x=y then Zjk fin j J else ltB x y
def Uu (xs ys:TZ):Bool:=Zjk (decide (xs.length<ys.length)) xs ys
def Xc (h:Heap):List Value->TZ->Prop
 | [],[]=>True
 |v::J,x::M=>(∃a j,v=.ref a/\h.IsTuple a j/\bW j.toList x)/\Xc h J M
 |_,_=>False
theorem ZlQ {us vs:List Value}{xs ys:TX}(J:bW us xs)(j:bW vs ys)(h:us=vs):xs=ys:=by
 subst h;induction J generalizing ys with
 |nil=>cases j;rfl
 |cons _ _ _ M=>cases j with|cons _ _ r=>rw[M r]
theorem ZoL {xs ys:TX}:((ac (min xs.length ys.length)).all (λj=>xs.getD j 0 == ys.getD j 0) && xs.length == ys.length)=decide (xs=ys):=by
 by_cases e:xs=ys
 ·subst e
  rw[decide_eq_true rfl,beq_self_eq_true,fY,ax];intro j _;exact beq_self_eq_true _
 ·rw[decide_eq_false e]
  cases q:((ac (min xs.length ys.length)).all (λj=>xs.getD j 0 == ys.getD j 0) && xs.length == ys.length) with
  |false=>rfl
  |true=>
   refine absurd ?_ e;rw[ae,ax] at q;have M:xs.length=ys.length:=eq_of_beq q.2;refine a6 λi=>?_;by_cases J:i<xs.length
   ·have:=eq_of_beq (q.1 i (af.mpr (by omega)))
    rw[Zf J,Zf (by omega)];rw[Zb,Zb,Zf J,Zf (by omega)] at this;exact congrArg some this
   ·rw[ag (by omega),ag (by omega)]
theorem ZhB {a b:Addr}{us vs:Array Value}{xs ys:TX}(Y:A.units<cLine)(U:s.heap.IsTuple a us)(hb:s.heap.IsTuple b vs)(M:bW us.toList xs)(O:bW vs.toList ys):lP A s (.ref a) (.ref b) (decide (xs=ys)):=by
 by_cases e:a=b
 ·subst e
  obtain⟨o,g1,_,n1,d1⟩:=U;obtain⟨o2,k1,_,n2,J⟩:=hb;rw[g1] at k1;cases k1;rw[d1] at J;injection J with J _;subst J;rw[ZlQ M O rfl,decide_eq_true rfl];exact EqAt.same _
 ·have sx:us.size=xs.length:=by rw[<-Vm M,Zr]
  have sy:vs.size=ys.length:=by rw[<-Vm O,Zr]
  have:=RcAt.tuples (A:=A) (s:=s) (e:=λj=>xs.getD j 0 == ys.getD j 0) U hb Y (λj h1 h2=>by
   obtain⟨x,tx,ex,vx⟩:=Uv M (i:=j) (v:=us[j]) (by simp[h1]);obtain⟨y,ty,ey,vy⟩:=Uv O (i:=j) (v:=vs[j]) (by simp[h2]);rw[vx,vy,Zb,Zb,ex,ey];exact jX _ _ _ _)
  rw[sx,sy,ZoL] at this;exact EqAt.of_refs e this
theorem ZlH {a b:Addr}{us vs:Array Value}{xs ys:TX}{Q:TW}(hu:A.units<cLine)(ha:s.heap.IsTuple a us)(hb:s.heap.IsTuple b vs)(hx:bW us.toList xs)(hy:bW vs.toList ys)(h:Q (.bool (ltB xs ys)) s):wpAny (model prog w) A (compareOp .Lt (.ref a) (.ref b)) Q E s:=by
 obtain⟨⟨o5,dd,data,sl⟩,Y,hc,n,hd⟩:=id ha;obtain⟨⟨o0,O,data2,U⟩,j,J,n2,M⟩:=id hb;simp only at hc hd J M;subst hc hd J M;exact richCompare_meets_room (op:=.Lt) ⟨_,Y,rfl⟩ ⟨_,j,rfl⟩ F.slot_tuple_lt F.entry_tuple_lt (F.args_tuple_lt_2 _ _) (ZhO a b us vs n n2 dd O sl U hx hy)
  ⟨Y,j,show i4 (ltB xs ys)≠lO/\Q (.bool (ltB xs ys)) s from ⟨(λx=>nomatch x),h⟩⟩ hu
theorem Zf1 {fin:Bool}{Q:Bool->Shared->Prop}(O:A.units<cLine):∀(M vs:List Value) (xs ys:TZ) (i:Nat),Xc s.heap M xs->Xc s.heap vs ys->Q (Zjk fin xs ys) s->W.KatLex prog w A false fin Q (M.zip vs) i s
 | [],vs,xs,ys,i,j,J,q=>by
  cases xs with
  |nil=>exact W.kat_nil q
  |cons _ _=>exact j.elim
 |_::_,[],xs,ys,i,j,J,q=>by
  cases ys with
  |cons _ _=>exact J.elim
  |nil=>
   cases xs with
   |nil=>exact W.kat_nil q
   |cons x xs=>exact W.kat_nil q
 |u::M,v::vs,xs,ys,i,j,J,q=>by
  cases xs with
  |nil=>exact j.elim
  |cons x xs=>
   cases ys with
   |nil=>exact J.elim
   |cons y ys=>
    obtain⟨⟨a,ua,rfl,U,Y⟩,r1⟩:=j;obtain⟨⟨b,ub,rfl,tb,ib⟩,r2⟩:=J;rw[gA];refine W.kat_cons ?_;refine ZhB O U tb Y ib prog w _ _ ?_;rw[Zjk] at q;by_cases e:x=y
    ·rw[if_pos e] at q
     rw[decide_eq_true e];exact W.kat_yes (Zf1 O M vs xs ys (i+1) r1 r2 q)
    ·rw[if_neg e] at q
     rw[decide_eq_false e];refine W.kat_no ?_;rw[Bool.false_and];exact W.kat_one _ _ (ZlH O U tb Y ib q)
end PyZ
namespace PyZ
open PySem PySem.Spec PyProof.Rows
variable {prog:Program}{w:World}{A:Around}{E:TW}{s:Shared}
theorem V5 {l:Addr}{vs:List Value}{Q:List Value->Shared->Prop}(J:jN s.heap l vs.toArray)(hsz:vs.length<=sizeLine)
  (h:Q vs {s with heap:=(s.heap.push (seqObj "list" #[] 0)).update s.heap.objs.size (bR (· ++ vs.toArray))}):wpAny (model prog w) A (collect (.ref l)) Q E s:=by
 obtain⟨o,M,O,n,hd⟩:=J;have j:(s.heap.push (seqObj "list" #[] 0)).get? l=some o:=Zn _ M;unfold collect;refine Zl (jg (cu entry_proto_collect' ?_));show wpAny _ _ (do again (.builtin "list.__iadd__" ⟨[<-newList [],.ref l],[]⟩)) _ _ s
 refine Zl (iy (Zm ⟨mT _ (by decide +kernel),cu entry_list_iadd' ?_⟩));show wpAny _ _ (cg (.ref s.heap.objs.size) (.ref l) (.ref s.heap.objs.size)) _ _ {s with heap:=s.heap.push (seqObj "list" #[] 0)};unfold cg;refine Zl (fk (T:="tuple") ⟨o,j,O⟩ ?_);have U:(cV "tuple" == cV "tuple")=true:=by rfl
 rw[if_pos (by rw[U];simp)];refine Zl (nF j hd ?_);refine Zl (nF (xs:=#[]) (n:=0) (Zo _ rfl) rfl ?_);rw[if_neg (by simp)];refine Zl (mG (xs:=#[]) (n:=0) (Zo _ rfl) rfl ?_ (aX _) (by show (#[]++vs.toArray).size<=sizeLine+1;simp only[Array.size_append,Zh,iC];omega));refine Zm ?_;show wpAny (model prog w) A (load s.heap.objs.size >>= _) Q E {s with heap:=(s.heap.push (seqObj "list" #[] 0)).update s.heap.objs.size (bR (· ++ vs.toArray))};refine Zl (iR (i0 (Zo _ rfl) _) ?_);show wpAny _ _ (pure ((#[]:Array Value)++vs.toArray).toList) Q E _;rw[show ((#[]:Array Value)++vs.toArray).toList=vs by simp];exact Zm h
end PyZ
namespace PyZ
open PySem PyProof PyProof.Rows SeqAt
theorem Zce (ys:TZ):Uu [] ys=decide (0<ys.length):=rfl
theorem Zdv (xs:TZ):Uu xs []=false:=by
 cases xs with
 |nil=>rfl
 |cons x xs=>
  show decide ((x::xs).length<([]:TZ).length)=false;exact decide_eq_false (by simp)
theorem U9 (x y:TX)(xs ys:TZ):Uu (x::xs) (y::ys)=if x=y then Uu xs ys else ltB x y:=by
 unfold Uu;show (if x=y then Zjk _ xs ys else _)=_
 have e:decide ((x::xs).length<(y::ys).length)=decide (xs.length<ys.length):=by
  simp only[Zi,lA]
 rw[e]
theorem ZfS:∀xs:TZ,Uu xs xs=false
 | []=>rfl
 |x::xs=>by rw[U9,if_pos rfl];exact ZfS xs
theorem ZfR:∀{xs ys:TZ},Uu xs ys=false->Uu ys xs=false->xs=ys
 | [],[],_,_=>rfl
 | [],_::_,h,_=>by rw[Zce] at h;simp at h
 |_::_,[],_,h=>by rw[Zce] at h;simp at h
 |x::xs,y::ys,j,J=>by
  rw[U9] at j J;by_cases e:x=y
  ·rw[if_pos e] at j
   rw[if_pos e.symm] at J;rw[e,ZfR j J]
  ·rw[if_neg e] at j
   rw[if_neg (bV e)] at J;exact absurd (ZfT j J) e
theorem Za4:∀{xs ys U:TZ},Uu xs ys=true->Uu ys U=true->Uu xs U=true
 |xs,ys,[],_,h=>by rw[Zdv] at h;cases h
 |xs,[],z::U,h,_=>by rw[Zdv] at h;cases h
 | [],y::ys,z::U,_,_=>by rw[Zce];exact decide_eq_true (by simp)
 |x::xs,y::ys,z::U,M,J=>by
  rw[U9] at M J ⊢;by_cases O:x=y
  ·rw[if_pos O] at M
   by_cases j:y=z
   ·rw[if_pos j] at J
    rw[if_pos (O.trans j)];exact Za4 M J
   ·rw[if_neg j] at J
    rw[if_neg (by rw[O];exact j),O];exact J
  ·rw[if_neg O] at M
   by_cases j:y=z
   ·rw[if_neg (by rw[<-j];exact O),<-j]
    exact M
   ·rw[if_neg j] at J
    have Y:=Za5 M J;rw[if_neg (λe=>by rw[e,ZfU] at Y;cases Y)];exact Y
def rkR (yss:T8)(i:Nat):Nat:=(ac yss.length).countP λk=>Uu (yss.getD k []) (yss.getD i [])
theorem ZfD {yss:T8}{i j:Nat}(J:i<yss.length)(U:j<yss.length):Uu (yss.getD i []) (yss.getD j [])=decide (rkR yss i<rkR yss j):=by
 have M:∀{i j:Nat},i<yss.length->Uu (yss.getD i []) (yss.getD j [])=true->rkR yss i<rkR yss j:=λ{i j} J h=>by
  refine Zbj (λk _ Y=>Za4 Y h) ⟨i,af.mpr J,ZfS _,h⟩
 cases e:Uu (yss.getD i []) (yss.getD j []) with
 |true=>rw[decide_eq_true (M J e)]
 |false=>
  cases O:Uu (yss.getD j []) (yss.getD i []) with
  |true=>
   have:=M U O;rw[decide_eq_false (by omega)]
  |false=>
   have:=ZfR e O;unfold rkR;rw[this];exact (decide_eq_false (by omega)).symm
theorem Zep {yss:T8}(O:1<=yss.length):∃p,Ua yss.length (λi j=>Uu (yss.getD i []) (yss.getD j [])) (jC yss.length)=some p/\p.toList.Perm (ac yss.length)/\(p.toList.map λi=>yss.getD i []).Pairwise λa b=>Uu b a=false:=by
 obtain⟨p,e,J,M⟩:=ZkI O (rkR yss);refine⟨p,(UQ (λi j U Y=>ZfD U Y) _).trans e,J,?_⟩;rw[ju] at M ⊢;refine f8 (λ{a b} ha hb o0=>?_) M;have la:=af.mp (J.mem_iff.mp ha);have lb:=af.mp (J.mem_iff.mp hb);rw[ZfD lb la];exact decide_eq_false (by omega)
theorem Xc.len {h:Heap}:∀{us:List Value}{xs:TZ},Xc h us xs->us.length=xs.length
 | [],[],_=>rfl
 | [],_::_,h=>h.elim
 |_::_,[],h=>h.elim
 |_::_,_::_,h=>by rw[Zi,Zi,h.2.len]
theorem ZdE {h:Heap}:∀(as:TU) (yss:T8),as.length=yss.length->(∀(i:Nat) a,as[i]?=some a->∃(j:List Value) (ys:TZ),yss[i]?=some ys/\h.IsTuple a j.toArray/\Xc h j ys/\ys≠[])->
  ∃fs:List Value,W.KatTups h (as.map aQ) fs/\fs.length=as.length/\∀v∈fs,∃a j,v=aQ a/\h.IsTuple a j
 | [],[],_,_=>⟨[],W.KatTups.nil,rfl,λv J=>by cases J⟩
 | [],_::_,h,_=>by cases h
 |_::_,[],h,_=>by cases h
 |a::as,ys::yss,O,g=>by
  obtain⟨j,U,e,⟨o,Y,c,n,d⟩,M,ne⟩:=g 0 a rfl;cases e;obtain⟨fs,k,l,f⟩:=ZdE as yss (c8 O) λi a' hi=>g (i+1) a' hi
  match j,ys,M,ne with
  |_,[],_,ne=>exact absurd rfl ne
  | [],_::_,M,_=>exact M.elim
  |u::j,y::ys,M,_=>
   obtain⟨⟨b,ub,rfl,tb,_⟩,_⟩:=M;refine⟨aQ b::fs,W.KatTups.cons Y c d (by simp) k,by rw[Zi,Zi,l],λv J=>?_⟩;rcases aH.mp J with rfl|J
   ·exact⟨b,ub,rfl,tb⟩
   ·exact f v J
theorem ZdP {l:Addr}{vs:List Value}{Q:List Value->Shared->Prop}(j:s.heap.IsList l vs.toArray\/jN s.heap l vs.toArray)(hsz:vs.length<=sizeLine)
  (h:Q vs {s with heap:=(s.heap.push (seqObj "list" #[] 0)).update s.heap.objs.size (bR (· ++ vs.toArray))}):wpAny (model prog w) A (collect (.ref l)) Q E s:=j.elim (λj=>collect_list j h hsz) λj=>V5 j hsz h
theorem ZgF {l:Addr}{vs:List Value}{Q:TW}(M:s.heap.IsList l vs.toArray\/jN s.heap l vs.toArray)(O:vs.length<2)(h:Q (.ref (s.heap.objs.size+1)) {s with heap:=sortedAll s.heap vs vs.toArray}):wpAny (model prog w) A (call (.builtin "sorted") [.ref l]) Q E s:=by
 have U:sizeLine=16777216:=by decide
 refine ii kind_sorted nE nG (nH _) ?_;unfold cM.«sorted»;refine Zl (m:=checkCount "sorted" 1 1 _) (Zm (Zl (ZdP M (by omega) (Zl (iy ?_ (by omega))))));have j:((s.heap.push (seqObj "list" #[] 0)).update s.heap.objs.size (bR (· ++ vs.toArray))).objs.size=s.heap.objs.size+1:=by rw[ic,size_push']
 show wpAny _ _ _ _ _ {s with heap:=((s.heap.push (seqObj "list" #[] 0)).update s.heap.objs.size (bR (· ++ vs.toArray))).push (seqObj "list" vs.toArray 0)};rw[j];have J:(((s.heap.push (seqObj "list" #[] 0)).update s.heap.objs.size (bR (· ++ vs.toArray))).push (seqObj "list" vs.toArray 0)).get? (s.heap.objs.size+1)=some (seqObj "list" vs.toArray 0):=j▸Zo _ rfl;refine Zl (cn (ba lW ⟨_,J,rfl⟩ ly (Zeo J O ⟨_,rfl,Zm ⟨_,rfl,h⟩⟩) (lY _)))
theorem ZkG {h₀:Heap}{L:Addr}{m:TV}{news:List (Addr×Obj)}{l:Addr}{vs:List Value}{Q:TW}(F:Fr h₀ L s.heap m)(N:News h₀ L s.heap news)(j:s.heap.IsList l vs.toArray\/jN s.heap l vs.toArray)(h2:2<=vs.length)(J:vs.length<64)
  (h:∀D O h',Fr h₀ L h' m->News h₀ L h' ((D,seqObj "list" #[] O)::news)->(∀q∈news,q.1<D)->
   wpAny (model prog w) A.in1.in1 (keyKind' vs.toArray) (λκ s'=>(jC vs.length).kasWp (W.kas_ask prog w A.in1.in1 κ vs) (λp M=>W.KasFin h₀ L m D O (p.toList.map λi=>vs.getD i b9) (λs3=>Q (.ref D) s3) M) s') (λ_ _=>False) {s with heap:=h'}):wpAny (model prog w) A (call (.builtin "sorted") [.ref l]) Q E s:=by
 rcases j with j|j
 ·exact W.kat_sorted F N j h2 J h
 have sl:sizeLine=16777216:=by decide
 refine ii kind_sorted nE nG (nH _) ?_;unfold cM.«sorted»;refine Zl (m:=checkCount "sorted" 1 1 _) (Zm (Zl (V5 j (by omega) (Zl (iy ?_ (by omega))))));have U:((s.heap.push (seqObj "list" #[] 0)).update s.heap.objs.size (bR (· ++ vs.toArray))).objs.size=s.heap.objs.size+1:=by rw[ic,size_push']
 have keep:∀b o,s.heap.get? b=some o->(((s.heap.push (seqObj "list" #[] 0)).update s.heap.objs.size (bR (· ++ vs.toArray))).push (seqObj "list" vs.toArray 0)).get? b=some o:=λb o q=>by
  have hb:=Zp q;rw[gI _ _ _ (U▸ay (cB hb)),Heap.get?_update_ne _ _ _ _ (ay hb),gI _ _ _ (ay hb),q]
 show wpAny _ _ _ _ _ {s with heap:=((s.heap.push (seqObj "list" #[] 0)).update s.heap.objs.size (bR (· ++ vs.toArray))).push (seqObj "list" vs.toArray 0)};rw[U];have Y:(((s.heap.push (seqObj "list" #[] 0)).update s.heap.objs.size (bR (· ++ vs.toArray))).push (seqObj "list" vs.toArray 0)).get? (s.heap.objs.size+1)=some (seqObj "list" vs.toArray 0):=U▸Zo _ rfl;have hL:=cB F.ns.lt;generalize ((s.heap.push (seqObj "list" #[] 0)).update s.heap.objs.size (bR (· ++ vs.toArray))).push (seqObj "list" vs.toArray 0)=hh at Y keep ⊢;refine Zl (cn (ba lW ⟨_,Y,rfl⟩ ly (W.kat_list_sort (s:={s with heap:=hh}) (F.kept keep) (N.grown keep) Y (bB hL) (mi (aN F.above (dN hL))) (λp hp=>ay (cB (Zp (N p hp).1))) h2 J λO h' F' N'=>?_) (lY _)));refine cH (h _ O h' F' N' λq hq=>cB (Zp (N q hq).1)) (λκ s' hk=>?_) λ_ _ x=>x;rw[W.kat_ask_eq rfl] at hk ⊢;exact W.kas_wp_mono hk λp M o0=>o0.mono λs3 hq=>⟨_,rfl,Zm ⟨_,rfl,hq⟩⟩
theorem ZbM {l L:Addr}{m:TV}{as:TU}{yss:T8}{p:Array Nat}{Q:TW}(hu:A.units+2<cLine)(o7:s.heap.Ns L m)(hl:s.heap.IsList l (as.map aQ).toArray\/jN s.heap l (as.map aQ).toArray)(n2:2<=as.length)(o8:as.length<64)(hy:as.length=yss.length)
  (ht:∀h':Heap,(∀b o,b≠L->s.heap.get? b=some o->h'.get? b=some o)->∀(i:Nat) a,as[i]?=some a->∃(us:List Value) (ys:TZ),yss[i]?=some ys/\h'.IsTuple a us.toArray/\Xc h' us ys/\ys≠[])
  (hp:Ua as.length (λi j=>Uu (yss.getD i []) (yss.getD j [])) (jC as.length)=some p)
  (q:∀D c h',s.heap.get? D=none->D≠L->(∀b o,b≠L->s.heap.get? b=some o->h'.get? b=some o)->h'.Ns L m->h'.get? D=some (W.listOf (p.toList.map λi=>(as.map aQ).getD i b9).toArray c)->Q (.ref D) {s with heap:=h'}) :
  wpAny (model prog w) A (call (.builtin "sorted") [.ref l]) Q E s:=by
 have fr:Fr (Zhj s.heap L) L s.heap m:=by
  refine⟨o7,λb o e=>?_,?_⟩
  ·by_cases hb:b<L
   ·rw[Vt hb] at e;exact e
   ·rw[Zbi (jV hb)] at e
    cases e
  ·show (s.heap.objs.extract 0 L).size<=L
   rw[mO,dJ];exact ki ..
 have nw:News (Zhj s.heap L) L s.heap (Yk s.heap L):=λx hx=>by
  obtain⟨J,h2⟩:=JC.mp hx;exact⟨h2,bB J,Zbi (dN J)⟩
 have lv:(as.map aQ).length=as.length:=j6 ..;refine ZkG fr nw hl (by rw[lv];exact n2) (by rw[lv];exact o8) λD e1 h' o0 M big=>?_;have kept:∀b o,b≠L->s.heap.get? b=some o->h'.get? b=some o:=λb o hb e=>by
  rcases gv b L with J|J
  ·exact o0.keep b o (by rw[Vt J];exact e)
  ·exact (M (b,o) (aF _ (JC.mpr ⟨fC J (bV hb),e⟩))).1
 have dn:s.heap.get? D=none:=by
  cases e:s.heap.get? D with
  |none=>rfl
  |some o=>
   obtain⟨_,dL,dc⟩:=M _ (aD ..);rcases gv D L with J|J
   ·rw[Vt J] at dc
    rw[dc] at e;cases e
   ·exact absurd (big (D,o) (JC.mpr ⟨fC J (bV dL),e⟩)) (ck _)
 have dL:D≠L:=(M _ (aD ..)).2.1;have Y:=ht h' kept;obtain⟨fs,kt,fl,fi⟩:=ZdE as yss hy Y;refine W.kat_kind (T:=cV "tuple") kt (by omega) (λv hv=>?_) (by decide +kernel) ?_
 ·obtain⟨a,us,rfl,⟨o,g1,g2,_⟩⟩:=fi v hv
  intro A Q E s' hk q;refine fk (T:="tuple") ⟨o,hk _ _ g1,g2⟩ q
 ·rw[lv]
  have kb:(cV "tuple" != cV "tuple")=false:=by decide +kernel
  rw[kb];refine Za9 (cmp:=λi j=>Uu (yss.getD i []) (yss.getD j [])) (λi j C hi hj c=>?_) _ p _ hp ?_
  ·unfold W.kas_ask
   obtain⟨us,ys,e,⟨o,g1,g2,n1,g3⟩,ia,_⟩:=Y i as[i] (Zf hi);obtain⟨o9,o5,e2,⟨o2,k1,k2,p7,k3⟩,o6,_⟩:=Y j as[j] (Zf hj);have v1:(as.map aQ).getD i b9=.ref as[i]:=by
    rw[Zb,Zc,Zf hi];rfl
   have v2:(as.map aQ).getD j b9=.ref as[j]:=by
    rw[Zb,Zc,Zf hj];rfl
   have w1:yss.getD i []=ys:=by rw[Zb,e];rfl
   have w2:yss.getD j []=o5:=by rw[Zb,e2];rfl
   rw[v1,v2];refine W.kat_lt g1 g3 k1 k3 ?_;refine Zf1 (by show A.units+1+1<cLine;omega) us o9 ys o5 0 ia o6 ?_;rw[w1,w2] at c;unfold Uu at c;rw[Zh,Zh,ia.len,o6.len];exact c
  ·refine⟨_,_,o0,M,W.UpdF.head (λx hx=>ay (big x hx)),λp6 c O U=>?_⟩
   refine q D c p6 dn dL (λb o hb e=>?_) O.ns (U _ (aD ..)).1;rcases gv b L with J|J
   ·exact O.keep b o (by rw[Vt J];exact e)
   ·exact (U (b,o) (aF _ (JC.mpr ⟨fC J (bV hb),e⟩))).1
end PyZ
namespace L2
open PySem PySem.Spec PyProof.Rows
def RowT (H:Hp)(a:Addr)(ys:TZ):Prop:=∃cs:TU,H a=some (.tup (cs.map V.ref))/\cs.length=ys.length/\∀(i:Nat) c,cs[i]?=some c->∃y,ys[i]?=some y/\H c=some (.tup (y.map V.int))
inductive ZiF (xs:TR) (H:Hp) (Q:VK):Prop
 |mk (l:Addr) (as:TU) (yss:T8):(xs=[.ref l])->((H l=some (.lst (as.map V.ref))\/H l=some (.tup (as.map V.ref))))->(as.length=yss.length)->(as.length<64)->((∀(i:Nat) a,as[i]?=some a->∃ys,yss[i]?=some ys/\ys≠[]/\RowT H a ys))->(∀D js,H D=none->ci js (ac as.length)->(js.map λi=>yss.getD i []).Pairwise (λa b=>PyZ.Uu b a=false)->Q (.ref D) (upd H D (.lst ((js.map λi=>as.getD i 0).map V.ref))))->ZiF xs H Q
theorem ZaS (I:Inv X pins σ H s){h':Heap}(kept:∀b o,b≠X.env.locals->s.heap.get? b=some o->h'.get? b=some o):∀(cs:TU) (ys:TZ),cs.length=ys.length->(∀(i:Nat) c,cs[i]?=some c->∃y,ys[i]?=some y/\H c=some (.tup (y.map V.int)))->PyZ.Xc h' (cs.map aQ) ys
 | [],[],_,_=>trivial
 | [],_::_,h,_=>by cases h
 |_::_,[],h,_=>by cases h
 |c::cs,y::ys,M,g=>by
  obtain⟨y',e,j⟩:=g 0 c rfl;cases e;obtain⟨us,O,⟨o,U,g2⟩,_⟩:=I.tuple (.of j);have J:c≠X.env.locals:=λz=>by rw[z,I.free] at j;cases j
  exact⟨⟨c,us.toArray,rfl,⟨o,kept c o J U,g2⟩,by simpa using UA O⟩,ZaS I kept cs ys (c8 M) λi Y hi=>g (i+1) Y hi⟩
theorem Ze4 (hu:X.A.units+64<cLine):YI X (.builtin "sorted") ZiF:=by
 intro pins s σ H xs us Q I r h;obtain⟨l,j,J,rfl,Y,hy,o7,ht,q⟩:=h;obtain⟨u,rfl,ru⟩:=r.one;cases ru;obtain⟨m,hm,o8⟩:=id I.loc;have o0:s.heap.IsList l (j.map aQ).toArray\/jN s.heap l (j.map aQ).toArray:=Y.elim (λY=>.inl <| by
   obtain⟨o5,M,pl,_⟩:=I.list (.of Y);rw[Xg M] at pl;exact pl.isList) λY=>.inr <| by
   obtain⟨o5,M,pl,_⟩:=I.tuple (.of Y);rw[Xg M] at pl;exact pl
 have Jv:=Jv;have o9:∀{a:Addr}{o:HO},H a=some o->a≠X.env.locals:=λ{a o} e z=>by rw[z,I.free] at e;cases e
 by_cases n2:j.length<2
 ·refine PyZ.ZgF o0 (by rw[Za];exact n2) ?_
  obtain⟨e1,he⟩:=sortedAll_at s.heap (j.map aQ) (j.map aQ).toArray;have o6:∀b o,s.heap.get? b=some o->(sortedAll s.heap (j.map aQ) (j.map aQ).toArray).get? b=some o:=λb o e=>sortedAll_old e;generalize sortedAll s.heap (j.map aQ) (j.map aQ).toArray=h' at he o6 ⊢;have U:s.heap.objs.size<=s.heap.objs.size+1:=gP _;generalize s.heap.objs.size+1=D at he U ⊢;have em:=Zll n2;have p6:=ZnM n2 (λi=>J.getD i []) λa b=>PyZ.Uu b a=false;have fin:=q D (ac j.length) (I.hok.fresh U) (di _) p6;rw[em] at fin;have I':Inv X pins σ (upd H D (.lst (j.map V.ref))) {s with heap:=h',toks:=s.toks}:=I.laid (a:=D) (o:=.lst (j.map V.ref)) (t':=s.toks) o6 U ⟨by rw[Za];omega,j.map aQ,e1,VE j,he⟩;exact⟨.ref D,_,I',rfl,fin⟩
 ·obtain⟨p,hp,O,p7⟩:=PyZ.Zep (yss:=J) (by omega)
  rw[<-hy] at hp O;have p8:∀i∈p.toList,i<j.length:=λi hi=>af.mp (O.mem_iff.mp hi);have pl:p.toList.length=j.length:=by rw[O.length_eq,Zg]
  have es:(p.toList.map λi=>(j.map aQ).getD i b9)=(p.toList.map λi=>j.getD i 0).map aQ:=by
   rw[aL];refine bn λi hi=>?_;have:=p8 i hi;show (j.map aQ).getD i b9=aQ (j.getD i 0);rw[Zb,Zc,Zf this,Zb,Zf this];rfl
  refine PyZ.ZbM (yss:=J) (p:=p) (by omega) hm o0 (by omega) o7 hy (λh' kept i a hi=>?_) hp (λD c h' dn dL kept q0 hD=>?_)
  ·obtain⟨ys,e1,ne,cs,ha,cl,hc⟩:=ht i a hi
   obtain⟨us,M,⟨o,g1,g2⟩,_⟩:=I.tuple (.of ha);have eu:=Xg M;subst eu;exact⟨_,ys,e1,⟨o,kept a o (o9 ha) g1,g2⟩,ZaS I kept cs ys cl hc,ne⟩
  ·rw[es] at hD
   obtain⟨I',hH⟩:=I.newL (ys:=(p.toList.map λi=>j.getD i 0).map V.ref) hm o8 dn dL kept q0 (by rw[Za,Za];omega) (VE _) hD;exact⟨.ref D,_,I',rfl,q D _ hH O p7⟩
end L2
namespace C30
open PySem L2 PySem.Spec PyProof.Rows
open Tb Pm
def Xv (t:T7)(n p:Nat)(e:Nat->Nat->Nat)(z:Nat)(j:Nat->Nat)(s x:Nat):TX:=Zja n (ofF n (rdT t x) p ((t.length:Int)*(bkM p (j s):Int)) z λk=>(e s (it t x k):Int))
def Wn (t:T7)(n p m:Nat)(e:Nat->Nat->Nat)(z:Nat)(j:Nat->Nat)(s:Nat):TZ:=(ac m).map λc=>Xv t n p e z j s (ZL t c)
def Xz (H:Hp)(r:Addr)(yss:T8):Prop:=∃cs:TU,H r=some (.tup (cs.map V.ref))/\cs.length=yss.length/\∀(i:Nat) c,cs[i]?=some c->∃j,yss[i]?=some j/\RowT H c j
inductive Zbx (vs:TR) (H:Hp) (Q:VK) (E03:XK):Prop
 |mk (g:Addr) (t:T7) (n p m:Nat) (e ω φ:Nat->Nat->Nat) (z:Nat) (dg:Nat->Nat):(vs=[.ref g])->(GT H g t)->(PW t)->(TD t n p m e ω φ z dg)->(∀r yss H',Same H H'->Xz H' r yss->yss.Perm ((ac m).map (Wn t n p m e z dg))->yss.Pairwise (λa b=>PyZ.Uu b a=false)->Q (.ref r) H')->Zbx vs H Q E03
theorem _root_.L2.RowT.mono {H j:Hp}{a:Addr}{ys:TZ}(h:RowT H a ys)(s:Same H j):RowT j a ys:=by
 obtain⟨J,M,O,U⟩:=h;refine⟨J,s _ _ M,O,λi c Y=>?_⟩;obtain⟨y,g1,g2⟩:=U i c Y;exact⟨y,g1,s _ _ g2⟩
section
variable {dg:Nat->Nat}
theorem ZiC {a r:Nat}(R:Rd t a r){x:Nat}(h:it t a x=0):x % r=0:=by
 rw[Zad R] at h;apply ak;intro z;exact R.nz (x % r) (by omega) (bX _ R.r1) h
theorem Zou {a r:Nat}(R:Rd t a r){x:Nat}(h:x % r=0):it t a x=0:=by
 rw[Zad R,h];rfl
theorem _root_.Tb.TD.round (D:TD t n p m e ω φ z dg){rs:Nat->Nat}(R:∀a,a<t.length->Rd t a (rs a)){f:Nat}(L:Lc rs t.length f):f=n:=by
 have J:n % f=0:=L.mn n λa j=>ZiC (R a j) (D.all a j);have M:f % n=0:=D.mn f λa j=>Zou (R a j) (L.dv a j);have O:=L.f1;have U:=D.n1;have Y:=hU (by omega) (bt J);have d2:=hU (by omega) (bt M);omega
theorem _root_.Tb.TD.rd (D:TD t n p m e ω φ z dg){a r:Nat}(j:a<t.length)(R:Rd t a r):r<=n/\r<p:=by
 have h:=ZiC R (D.all a j);have O:=D.n1;have M:=hU (by omega) (bt h);obtain⟨J,U,_⟩:=D.fit.st;exact⟨M,by omega⟩
end
theorem ZiU (F:Wf K "table_of" "table_of" (tq 38) f fd)(T:Bl mg)(T2:Zfa mg)(GR:Fn P w K mg base ZY 2 "full_round" ["group"] ZbJ)(GF:Fn P w K mg base ZY 1 "fit_prime" ["n", "count"] Zh3)(x8:Fn P w K mg base ZY 1 "root_powers" ["n", "p"] ZbB)(GW:Fn P w K mg base ZY 6 "power_walks" ["group"] Zbv)(GC:Fn P w K mg base ZY 6 "counts_of" ["group"] UM)(GA:Fn P w K mg base ZY 4 "taken_apart" ["counts", "p"] ZbL)(GB:Fn P w K mg base ZY 1 "back_by" ["p", "x"] JR)(G1:Fn P w K mg base ZY 1 "first_of" ["one", "count", "p"] (ZbK K))(GN:Fn P w K mg base ZY 4 "number_at" ["walk", "one", "share", "roots", "p"] ZbF):ZW P w K mg base ZY 7 f fd ["group"] Zbx:=by
 refine F.ok (FS (N:=["group", "n", "p", "roots", "walks", "rows", "one", "share"])) (λvs H Q E h=>?_) (λcdv A x9 s H vs Q E hr h=>?_)
 ·obtain⟨g,t,n,p,m,e,ω,φ,z,dg,rfl,_⟩:=h;rfl
 ·obtain⟨g,t,n,p,m,e,ω,φ,z,dg,rfl,G,Pt,D,q⟩:=h
  refine⟨_,Zu (ZK 1 rfl (YF GR hr ZF (pc (vn 0) Zs)))
   (Zu (ZK 2 rfl (YF GF hr ZF (pc (vn 1) (pc (cb (YL K) T.len (pc (vn 0) Zs)) Zs))))
   (Zu (ZK 3 rfl (YF x8 hr ZF (pc (vn 1) (pc (vn 2) Zs))))
   (Zu (ZK 4 rfl (YF GW hr ZF (pc (vn 0) Zs)))
   (Zu (ZK 5 rfl (ZS Zs))
   (Zu (ZV au rfl (itL K (YF GA hr ZF (pc (YF GC hr ZF (pc (vn 0) Zs)) (pc (vn 2) Zs)))) (gnf 6 rfl)
    (Zu (ZK 7 rfl (Zz Z0 (cb (YL K) T.len (pc (vn 0) Zs)) (YF GB hr ZF (pc (vn 2) (pc (YF G1 hr ZF (pc (vn 6) (pc (cb (YL K) T.len (pc (vn 0) Zs)) (pc (vn 2) Zs)))) Zs)))))
    (Zv (Yx (Wv aM aS aT Z3 (vn 5)
     (pc (ct ZD T.tuple (pc (cmp ["walk"] [6,7,3,2] ["walk", "one", "share", "roots", "p"] rfl (itL K (vn 4)) (λ_ _ _ _ _=>gn 0) (λ_ _ _ _ _=>ZQ)
      (λ_ _ _ _ _=>YF GN hr ZF (pc (vn 0) (pc (vn 1) (pc (vn 2) (pc (vn 3) (pc (vn 4) Zs))))))) Zs)) Zs))))))
   (Zv (ZE (ct ZD T.tuple (pc (cb (Ze4 hr.units) T2.sorted (pc (vn 5) Zs)) Zs))))))))),?_⟩
  have sz:=Jv;have n60:=D.n60;have y4:=Pt.n60;have N1:=Pt.n1;have C:=D.cd;have p2:=C.pr.p2;have pl:=D.fit.lt;have m1:=C.m1;have y6:=Zl7 C Pt;have mc:=C.mc;have U:=YE Pt;obtain⟨gs,u1,u2,_⟩:=id G;have el:(gs.map V.ref).length=t.length:=by rw[Za,u2]
  have r9:∀a,a<t.length->Rd t a (rdT t a):=λa ha=>by
   obtain⟨r,R⟩:=Pt.rd a ha;rw[Zb3 R];exact R
  refine⟨_,rfl,g,t,rdT t,rfl,G,Pt,r9,λfr H1 s1 L=>?_⟩;have y8:=D.round r9 L;subst y8;refine⟨_,rfl,_,rfl,g,_,rfl,.inr (.of (s1 _ _ u1)),fr,t.length,p,by rw[el];rfl,D.n1,n60,by omega,D.fit,λH2 s2=>?_⟩;refine⟨_,rfl,_,rfl,fr,p,z,rfl,D.n1,n60,p2,pl,D.rt,λRo H3 nRo s3 y9=>?_⟩;have t0:=(s1.trans s2).trans s3;refine⟨_,rfl,g,t,rfl,G.mono t0,Pt,λWk ws H4 s4 W4=>?_⟩;rw[<-mc] at W4;refine⟨JL,λL nL=>?_⟩;have s5:=Same.upd (H:=H4) (o:=.lst []) nL;have h5:upd H4 L (.lst []) L=some (.lst ([]:TR)):=Zt;generalize upd H4 L (.lst [])=H5 at s5 h5 ⊢;have t9:=(t0.trans s4).trans s5;have nLH:H L=none:=(t0.trans s4).free nL;refine⟨_,rfl,g,t,rfl,G.mono t9,Pt,λCn H6 s6 C6=>?_⟩;rw[<-mc] at C6;refine⟨_,rfl,Cn,t,p,m,e,ω,φ,rfl,C,Pt,pl,C6,λSm cs ss H7 s7 S7=>?_⟩;have t5:=(t9.trans s6).trans s7;have h7:=(s6.trans s7) _ _ h5;obtain⟨S1,S2,S3,S4⟩:=S7;have p6:ss.length=m:=by rw[S3.length_eq,Zg]
  have o5:∀{b:Addr}{xs:TR},xs≠[]->H7 b=some (.lst xs)->b≠L:=λ{b xs} hx hb=>Zca hb h7 hx;have neT:∀{b:Addr}{xs:TR},H7 b=some (.tup xs)->b≠L:=λ{b xs} hb z=>by rw[z,h7] at hb;cases hb
  have u5:cs.map V.ref≠[]:=λz=>by
   have:=congrArg df z;rw[Za,S2,p6] at this;simp at this;omega
  have u9:∀{k:Nat}{v:Nat->Int},1<=k->ZP k v≠[]:=λ{k v} hk z=>by
   have:=congrArg df z;rw[Yp] at this;simp at this;omega
  have hB1:=VS S1 (o5 u5 S1);refine⟨Sm,rfl,⟨_,.of S1⟩,?_⟩;have W7:H7 Wk=some (.lst (ws.map V.ref)):=(s5.trans (s6.trans s7)) _ _ W4.at';have R7:H7 Ro=some (.lst (Jc p z fr)):=(s4.trans (s5.trans (s6.trans s7))) _ _ y9;have o6:(ws.map V.ref).length=m:=by rw[Za,W4.len]
  refine W9 (H0:=but H7 L) (Wh (K:=K) (.of hB1)) (λi p7 H'=>∃(rs:TU) (v6 v7:TQ),p7=[some (.ref g),some (.int (fr:Nat)),some (.int (p:Nat)),some (.ref Ro),some (.ref Wk),some (.ref L),v6,v7]/\Same (but H7 L) H'/\H' L=some (.lst (rs.map V.ref))/\rs.length=i/\∀(j:Nat) c,rs[j]?=some c->RowT H' c (Wn t fr p m e z dg (ss.getD j 0)))
   ⟨[],_,_,rfl,λb o hb=>(Zb8 hb).2,h7,rfl,λj c O=>by simp at O⟩ (λi p7 H' h=>by
    obtain⟨_,_,_,_,sm,_⟩:=h;exact sm) ?_ ?_
  ·rintro i y p7 H8 hy ⟨rs,v6,v7,rfl,s8,h8,rl,p8⟩
   have hi:i<m:=by
    have:=(ab.mp hy).1;rw[Za,S2,p6] at this;exact this
   rw[Zc,Zf (show i<cs.length by omega)] at hy;cases hy;have ho:=S4 i _ (Zf (show i<cs.length by omega));generalize cs[i]'(by omega)=oa at ho ⊢;have J:ss.getD i 0<m:=by
    have:ss.getD i 0∈ss:=by rw[Zb,Zf (by omega)];exact be _
    exact af.mp (S3.mem_iff.mp this)
   generalize hs':ss.getD i 0=M at ho J;have k8:∀{b:Addr}{o:HO},H7 b=some o->b≠L->H8 b=some o:=λ{b o} hb Y=>s8 b o (VS hb Y);have w6:=k8 ho (o5 (u9 m1) ho);have u8:=k8 (t5 _ _ u1) (neT (t5 _ _ u1));have W8:=k8 W7 (o5 (λY=>by rw[Y] at o6;simp at o6;omega) W7);have w8:Jc p z fr≠[]:=λY=>by
    have:=congrArg df Y;rw[Ur] at this;have:=D.n1;simp at *;omega
   have R8:=k8 R7 (o5 w8 R7);have Zeu:ZL t 0=0:=by
    have h0:0<(ZH t t.length).length:=by omega
    exact ((U.z _ (U.rl 0 h0)).mp (U.rn 0 h0))
   have e0:EC t e M 0=e M 0:=by unfold EC;rw[Zeu]
   have elt:=C.elt M 0 J (by omega);refine⟨_,rfl,g,_,rfl,.inr (.of u8),_,rfl,_,rfl,_,rfl,g,_,rfl,.inr (.of u8),_,rfl,oa,(ac m).map λc=>((EC t e M c:Nat):Int),e M 0,t.length,p,dg M,by rw[el];rfl,.of (by rw[w6,Jm]),?_,by omega,y4,p2,pl,D.d1 M J,D.dl M J,D.dq M J,λd' a b=>D.dm M d' J a b,?_⟩
   ·rw[Zc,ao (by omega)]
    show some ((EC t e M 0:Nat):Int)=_;rw[e0]
   have dgp:=D.dp M J;have dg1:=D.d1 M J;obtain⟨y0,y1,y2,y3⟩:=C.pr.iv (dg M) (by omega) dgp;refine⟨p,_,rfl,p2,pl,⟨y0,y1,y2,by rw[<-aW,<-bA,y3];rfl⟩,λy a1 a2 a3=>?_⟩;have hy:y*dg M % p=1:=by
    have:((y*dg M % p:Nat):Int)=1:=by rw[bA,aW];exact a3
    omega
   have eb:=Zm0 a2 hy;refine⟨_,_,rfl,rfl,.inr ⟨by omega,by omega⟩,?_⟩;rw[el];refine⟨_,rfl,.inl ⟨rfl,_,.of h8⟩,_,rfl,Wk,rfl,⟨_,.of W8⟩,?_⟩;refine Pm.Wa (W:=Addr) id (λc a H=>H a=some (.tup ((Xv t fr p e z dg M (ZL t c)).map V.int))) (λ_ _=>True) (Wh (K:=K) (.of W8)) [some (.ref oa),some (.int ((t.length:Int)*(y:Int))),some (.ref Ro),some (.int (p:Nat))] rfl (by rw[o6];omega) (λk a H H' sm h=>sm _ _ h) (λa H H' sm h=>trivial) (λk a H0' H1' D' o ys ys' h1 h2 h3 h4=>by rw[Zy (λY=>by rw[Y,h4] at h1;cases h1)];exact h1) (λc x hx H9 s9 R k9=>?_) (λD9 as H9 nD9 s9 hD9 w9 has _=>?_)
   ·have O:c<m:=by
     have:=(ab.mp hx).1;rw[o6] at this;exact this
    rw[Zc,Zf (show c<ws.length by have:=W4.len;omega)] at hx;cases hx;have hw:=W4.it c _ (Zf (show c<ws.length by have:=W4.len;omega));generalize ws[c]'(by have:=W4.len;omega)=wa at hw ⊢;have q0:=U.rl c (by omega);have Rr:=r9 _ q0;have rr:=D.rd q0 Rr;have x6:=(s5.trans (s6.trans s7)) _ _ hw;have hw8:=k8 x6 (o5 (u9 Rr.r1) x6);have tl:(t.length:Int)<=60:=by omega
    have shb:(t.length:Int)*(y:Int)<2 ^ 40:=by
     have:(t.length:Int)*(y:Int)<=60*(y:Int):=dB tl (by omega);omega
    have sha:0<=(t.length:Int)*(y:Int):=Int.mul_nonneg (by omega) (by omega);refine⟨_,rfl,_,rfl,_,rfl,_,rfl,_,rfl,wa,oa,Ro,rdT t (ZL t c),m,fr,p,z,_,_,_,rfl,s9 _ _ hw8,s9 _ _ w6,s9 _ _ R8,D.n1,n60,y6,Rr.r1,rr.1,rr.2,pl,C.pr,⟨λc _=>by omega,λc O=>?_⟩,λk hk=>?_,by omega,shb,λq' o0 o7 r6=>?_⟩
    ·have:=C.elt M (ZL t c) J (U.rl c (by omega))
     show ((e M (ZL t c):Nat):Int)<(p:Int);omega
    ·exact⟨YN t (it t (ZL t c) k),by have:=U.lt _ (W6 Pt q0 k);omega,rfl⟩
    ·refine k9 q' o0 o7 ?_ trivial
     rw[r6];show some (HO.tup ((Zja fr (ofF fr (rdT t (ZL t c)) p ((t.length:Int)*(y:Int)) z λk=>((EC t e M (wkF t (ZL t c) k).toNat:Nat):Int))).map V.int))=_;unfold Xv;rw[eb];congr 3;congr 2;funext k;unfold wkF;rw[Zj,<-C.at Pt J (W6 Pt q0 k)]
   ·refine⟨D9,_,rfl,.inl ⟨.of hD9,λtp t6=>?_⟩⟩
    have o7:=Same.upd (H:=H9) (o:=.tup (as.map λw=>V.ref (id w))) t6;have hT:upd H9 tp (.tup (as.map λw=>V.ref (id w))) tp=some (.tup (as.map V.ref)):=Zt;generalize upd H9 tp (.tup (as.map λw=>V.ref (id w)))=o0 at o7 hT ⊢;have o8:=s9.trans o7;have r6:=o8 _ _ h8;refine⟨L,_,_,rfl,rfl,r6,by rw[Za,rl];omega,?_⟩;have keep:∀{b:Addr}{xs:TR},o0 b=some (.tup xs)->upd o0 L (.lst (rs.map V.ref++[.ref tp])) b=some (.tup xs):=λ{b xs} hb=>by
     rw[Zy (λY=>by rw[Y,r6] at hb;cases hb)];exact hb
    have o9:∀{b:Addr}{ys:TZ},RowT o0 b ys->RowT (upd o0 L (.lst (rs.map V.ref++[.ref tp]))) b ys:=λ{b ys} hb=>by
     obtain⟨bs,b1,b2,b3⟩:=hb;refine⟨bs,keep b1,b2,λj c O=>?_⟩;obtain⟨yy,c1,c2⟩:=b3 j c O;exact⟨yy,c1,keep c2⟩
    rw[o6] at w9;refine⟨rs++[tp],_,_,rfl,λb o hb=>?_,by rw[Zt,aO];rfl,by rw[Zd,rl];rfl,λj c O=>?_⟩
    ·rw[Zy (Zb8 hb).1]
     exact (s8.trans o8) b o hb
    ·by_cases hj:j<rs.length
     ·rw[aq hj] at O
      exact o9 ((p8 j c O).mono o8)
     ·have hl:=(ab.mp O).1
      rw[Zd,Zk] at hl;have ec:j=rs.length:=by omega
      rw[aw (by omega),ec,cS] at O;cases O;rw[ec,rl,hs'];refine o9 ⟨as,hT,by unfold Wn;rw[Za,Zg,w9],λc a ha=>?_⟩;have hcm:c<m:=by
       have:=(ab.mp ha).1;omega
      refine⟨Xv t fr p e z dg M (ZL t c),by unfold Wn;rw[Zc,ao hcm];rfl,o7 _ _ (has c a ha).1⟩
  ·rintro p7 H8 ⟨rs,v6,v7,rfl,s8,h8,rl,p8⟩
   rw[Za,S2,p6] at rl;have yl:(ss.map (Wn t fr p m e z dg)).length=m:=by rw[Za,p6]
   have r8:∀j,j<m->(ss.map (Wn t fr p m e z dg))[j]?=some (Wn t fr p m e z dg (ss.getD j 0)):=λj hj=>by
    rw[Zc,Zf (by omega),Zb,Zf (by omega)];rfl
   refine⟨_,rfl,L,rs,ss.map (Wn t fr p m e z dg),rfl,.inl h8,by omega,by omega,λj a ha=>?_,λLs js nLs pm pw=>?_⟩
   ·have hj:j<m:=by
     have:=(ab.mp ha).1;omega
    exact⟨_,r8 j hj,λY=>by
     have:=congrArg df Y;unfold Wn at this;rw[Za,Zg] at this;simp at this;omega,p8 j a ha⟩
   ·refine⟨Ls,_,rfl,.inl ⟨.of Zt,λtp t6=>?_⟩⟩
    have sA:=Same.upd (H:=H8) (o:=.lst ((js.map λi=>rs.getD i 0).map V.ref)) nLs;have sB:=Same.upd (H:=upd H8 Ls (.lst ((js.map λi=>rs.getD i 0).map V.ref))) (o:=.tup ((js.map λi=>rs.getD i 0).map V.ref)) t6;have t7:=sA.trans sB;have hT:upd (upd H8 Ls (.lst ((js.map λi=>rs.getD i 0).map V.ref))) tp (.tup ((js.map λi=>rs.getD i 0).map V.ref)) tp=some (.tup ((js.map λi=>rs.getD i 0).map V.ref)):=Zt;generalize upd (upd H8 Ls (.lst ((js.map λi=>rs.getD i 0).map V.ref))) tp (.tup ((js.map λi=>rs.getD i 0).map V.ref))=H9 at t7 hT ⊢;rw[rl] at pm;have jl:js.length=m:=by rw[pm.length_eq,Zg]
    refine q tp (js.map λi=>(ss.map (Wn t fr p m e z dg)).getD i []) H9 (λb o hb=>t7 _ _ (s8 b o (VS (t5 _ _ hb) (λY=>by rw[Y,nLH] at hb;cases hb)))) ⟨js.map λi=>rs.getD i 0,hT,by rw[Za,Za],λi c O=>?_⟩ ?_ pw
    ·rw[Zc] at O
     cases hj:js[i]? with
     |none=>rw[hj] at O;cases O
     |some j=>
      rw[hj] at O;have hjm:j<m:=af.mp (pm.mem_iff.mp (ah hj));have ec:c=rs.getD j 0:=(aA O).symm;have hrj:rs[j]?=some c:=by rw[ec,Zb,Zf (by omega)];rfl
      refine⟨_,by rw[Zc,hj];rfl,?_⟩;have:=(p8 j c hrj).mono t7;show RowT H9 c ((ss.map (Wn t fr p m e z dg)).getD j []);rw[Zb,r8 j hjm];exact this
    ·have h1:(js.map λi=>(ss.map (Wn t fr p m e z dg)).getD i []).Perm ((ac m).map λi=>(ss.map (Wn t fr p m e z dg)).getD i []):=pm.map _
     have h2:((ac m).map λi=>(ss.map (Wn t fr p m e z dg)).getD i [])=ss.map (Wn t fr p m e z dg):=by
      refine a6 λj=>?_;by_cases hj:j<m
      ·rw[r8 j hj,Zc,ao hj]
       show some ((ss.map (Wn t fr p m e z dg)).getD j [])=_;rw[Zb,r8 j hj];rfl
      ·rw[ag (by rw[Za,Zg];omega),ag (by omega)]
     rw[h2] at h1;exact h1.trans (S3.map _)
end C30
namespace L2
open PySem PySem.Spec PyProof.Rows
end L2
namespace C30
open PySem L2 PySem.Spec PyProof.Rows
open Tb Pm
theorem XF (p:Nat->Bool):∀n,((ac n).filter p).length=sm n λw=>J4 (p w)
 |0=>rfl
 |n+1=>by
  rw[dS,je,Zd,XF p n,Y0];congr 1;cases h:p n with
  |true=>rw[List.filter_cons_of_pos h];rfl
  |false=>rw[List.filter_cons_of_neg (by rw[h];decide)];rfl
theorem ZoB (b:Nat):(Yf t b).length=sm t.length λa=>J4 (cjB t b a):=XF _ _
theorem U7 {b a:Nat}(P:PW t)(hb:b<t.length):cjB t b a=true↔a∈Yf t b:=by rw[XT,Yu P hb]
theorem ZoA (P:PW t){b y:Nat}(hb:b<t.length)(M:y∈Yf t b):Yf t y=Yf t b:=by
 have J:=XR M;refine List.filter_congr λa O=>?_;have j:=af.mp O;show cjB t y a=cjB t b a;rw[fu,U7 P J,U7 P hb];constructor
 ·intro h
  exact Yd P hb j M (Yd P j J (YG P j) h)
 ·intro h
  exact Yd P J j (Yd P J hb (YG P J) M) (Yd P j hb (YG P j) h)
theorem Ze1 (P:PW t){c:Nat}(j:c<(ZH t t.length).length):(ZH t t.length).getD c []=Yf t (ZL t c):=by
 obtain⟨b,hb,M⟩:=Ze2 P j;have J:=(Zl5 P j).1;unfold ZL;rw[M] at J ⊢;exact (ZoA P hb J).symm
theorem Ziv {H:Hp}{a:Addr}{ys:TZ}(h:RowT H a ys):W1 H a ys:=by
 obtain⟨j,J,M,O⟩:=h;refine⟨j,J,M,λi r U=>?_⟩;obtain⟨y,Y,e2⟩:=O i r U;rw[Zb,Y];exact e2
def okS (N:Int)(xs:TX):Bool:=(xs.all λx=>decide (x % N=0)) && (xs.tail.all λx=>decide (x=0))
def shL (N:Int)(j:TZ):Option TX:=if j.all (okS N)=true then some (j.map λx=>x.headD 0 / N) else none
def Jk (t:T7):TX:=(ZH t t.length).map λc=>((c.length:Nat):Int)
def ShR (H:Hp)(x:V):Option TX->Prop
 |none=>x=.non
 |some j=>∃r,x=.ref r/\H r=some (.tup (j.map V.int))
def TbO (t:T7)(n:Nat)(yss:T8):Prop:=yss.length<=60/\∀j∈yss,j.length=(ZH t t.length).length/\∀y∈j,y.length=N30.ZG n/\N30.ZdY (Xx n y)
def Y5 (t:T7)(n:Nat)(xss:TZ)(yss:T8):TZ:=yss.map λj=>J0 n (Jk t) xss j
inductive Zfl (vs:TR) (H:Hp) (Q:VK) (E03:XK):Prop
 |mk (g r a:Addr) (t:T7) (rs:Nat->Nat) (n:Nat) (xss:TZ) (yss:T8):(vs=[.ref g,.ref r,.ref a])->(GT H g t)->(PW t)->((∀a,a<t.length->Rd t a (rs a)))->((∀f,Lc rs t.length f->f=n))->(1<=n)->(n<=60)->(Xz H r yss)->(TbO t n yss)->(W1 H a xss)->(xss.length=(ZH t t.length).length)->(SpB n xss)->(∀x H',Same H H'->ShR H' x (shL (t.length:Int) (Y5 t n xss yss))->Q x H')->Zfl vs H Q E03
theorem ZgD {t:T7}(P:PW t):N30.XW (Jk t):=λx j=>by
 obtain⟨c,J,rfl⟩:=aC.mp j;obtain⟨i,hi⟩:=bG J;have:=Ze1 P (ab.mp hi).1;rw[Zb,hi] at this;have e:c=Yf t (ZL t i):=this;have:=Zcy (t:=t) (ZL t i);have:=P.n60;rw[e];omega
theorem Vq {xss:TZ}{ks st:TX}{tp:Nat}(h:st.length=tp)(j:∀xs∈xss,xs.length=tp):∀i,i<=xss.length->(Xw xss ks st i).length=tp
 |0,_=>h
 |i+1,hi=>by
  unfold Xw;have:=Vq (xss:=xss) (ks:=ks) h j i (by omega);split
  ·exact this
  ·rw[fc,Za,this,j _ (Vi (by omega))]
   omega
theorem Ut {n:Nat}(J:1<=N30.ZG n){ks:TX}{xss yss:TZ}:(J0 n ks xss yss).length=N30.ZG n:=by
 unfold J0;refine Vq (by unfold whL;rw[Zi,Ze];omega) (λM j=>?_) _ (by rw[WX];exact Zq _);obtain⟨i,_,rfl⟩:=aC.mp j;exact Num.WV ..
theorem ZnQ (F:Wf K "shares_of" "shares_of" (tq 34) f fd)(T:Bl mg)(r9:Fn P w K mg base ZY 2 "full_round" ["group"] ZbJ)(t0:Fn P w K mg base ZY 5 "sizes_of" ["group"] Zby)(GM:Fn P w K mg base ZY 7 "meeting_by" ["sizes", "n", "one", "other"] UL)(t5:Fn P w K mg base ZY 1 "divided" ["one", "k"] (N30.VD K))(o9:Fn P w K mg base ZY 1 "whole_of" ["one"] N30.Zee):ZW P w K mg base ZY 8 f fd ["group", "table", "spread"] Zfl:=by
 refine F.ok (FS (N:=["group", "table", "spread", "n", "sizes", "shares", "row", "share"])) (λvs H Q E h=>?_) (λw8 A t6 s H vs Q E hr h=>?_)
 ·obtain⟨g,r,a,t,rs,n,j,J,rfl,_⟩:=h;rfl
 ·obtain⟨g,r,a,t,rs,n,j,J,rfl,G0,Pt,hR,hn,n1,n60,A0,⟨w9,yO⟩,S0,xl,xb,q⟩:=h
  refine⟨_,Zu (ZK 3 rfl (YF r9 hr ZF (pc (vn 0) Zs)))
   (Zu (ZK 4 rfl (YF t0 hr ZF (pc (vn 0) Zs)))
   (Zu (ZK 5 rfl (ZS Zs))
   (Zu (ZV au rfl (itT K (vn 1)) (gn 6)
   (Zu (ZK 7 rfl (YF t5 hr ZF (pc (YF GM hr ZF (pc (vn 4) (pc (vn 3) (pc (vn 2) (pc (vn 6) Zs))))) (pc (cb (YL K) T.len (pc (vn 0) Zs)) Zs))))
   (Zu (YU (ZfK (ZM Zb5 (vn 7) Jf (ZO _)) (Zb4 (ZM Zb5 (YF o9 hr ZF (pc (vn 7) Zs)) Jf (ZO _)))).pt (Zv (ZE Jf)) Z2)
   (Zv (Yx (Wv aM aS aT Z3 (vn 5) (pc (YF o9 hr ZF (pc (vn 7) Zs)) Zs)))))))
   (Zv (ZE (ct ZD T.tuple (pc (vn 5) Zs))))))),?_⟩
  have sz:=Jv;have x6:=Pt.n60;have N1:=Pt.n1;have cl:=Wx (t:=t) t.length;obtain⟨GN,_⟩:=N30.Vn n1 n60;have t1:=GN.t1;have tn:=GN.tn;refine⟨_,rfl,g,t,rs,rfl,G0,Pt,hR,λf H1 s1 L1=>?_⟩;obtain rfl:=hn f L1;refine⟨_,rfl,g,t,rfl,G0.mono s1,Pt,λsa H2 s2 U=>?_⟩;have t7:((ZH t t.length).map df).map nV=(Jk t).map V.int:=by
   unfold Jk;rw[aL,aL];rfl
  rw[t7] at U;refine⟨JL,λL nL=>?_⟩;obtain⟨H3,t9,s3,h3⟩:=Vg (o:=.lst []) nL;rw[t9];have o6:=s1.trans s2;have LH:H L=none:=o6.free nL;have u5:sa≠L:=λz=>by rw[z,nL] at U;cases U
  have U:=s3 _ _ U;obtain⟨cs,c1,c2,c3⟩:=id A0;refine⟨_,rfl,r,rfl,⟨_,.of ((o6.trans s3) _ _ c1)⟩,?_⟩;have ml:(Y5 t f j J).length=J.length:=by unfold Y5;rw[Za]
  refine W9 (H0:=H) (YJ (K:=K) (.of c1)) (λi o0 H'=>∃v6 v7:TQ,o0=[some (.ref g),some (.ref r),some (.ref a),some (.int (f:Nat)),some (.ref sa),some (.ref L),v6,v7]/\Same H H'/\H' sa=some (.tup ((Jk t).map V.int))/\H' L=some (.lst ((((Y5 t f j J).take i).map λx=>x.headD 0 / (t.length:Int)).map V.int))/\∀x∈(Y5 t f j J).take i,okS (t.length:Int) x=true) ⟨_,_,rfl,o6.trans s3,U,h3,λx M=>by cases M⟩ (λi o0 H' ⟨_,_,_,s,_⟩=>s) (λi y o0 H4 hy ⟨v6,v7,e,s4,o7,h4,o5⟩=>?_) (λo0 H4 ⟨v6,v7,e,s4,o7,h4,o5⟩=>?_)
  ·subst e
   obtain⟨c,hc,rfl⟩:=Zev hy;obtain⟨ys,e1,RT⟩:=c3 i c hc;obtain⟨yl,yb⟩:=yO ys (ah e1);have hi:i<J.length:=(ab.mp e1).1;have em:(Y5 t f j J)[i]?=some (J0 f (Jk t) j ys):=by unfold Y5;rw[Zc,e1];rfl
   refine⟨_,rfl,_,rfl,_,rfl,_,rfl,f,sa,a,c,Jk t,j,ys,rfl,n1,n60,o7,S0.mono s4,Ziv (RT.mono s4),by rw[xl,yl],by unfold Jk;rw[Za];exact xl,by omega,xb,yb,ZgD Pt,λmr H5 s5 h5=>?_⟩;obtain⟨gs,u1,u2,_⟩:=(G0.mono (s4.trans s5));have el:(gs.map V.ref).length=t.length:=by rw[Za,u2]
   have O:=Ut t1 (ks:=Jk t) (xss:=j) (yss:=ys);generalize J0 f (Jk t) j ys=mt at em h5 O;refine⟨_,rfl,g,_,rfl,.inr (.of u1),mr,mt,(t.length:Int),by rw[el];rfl,.of h5,by omega,by omega,by omega,λdr H6 s6 hd h6=>?_,λH6 s6 hd=>?_⟩
   ·have o8:=s4.trans (s5.trans s6)
    obtain⟨z,Y,rfl⟩:∃z Y,mt=z::Y:=by
     cases mt with
     |nil=>simp at O;omega
     |cons z Y=>exact⟨z,Y,rfl⟩
    have u9:((z::Y).map λx=>x / (t.length:Int))=(z / (t.length:Int))::Y.map λx=>x / (t.length:Int):=rfl;rw[u9] at h6;refine⟨_,rfl,rfl,_,rfl,Vl (by simp) ?_⟩;refine⟨_,rfl,dr,_,_,rfl,h6,by rw[Za];rw[Zi] at O;omega,λH7 s7=>?_⟩;have hz:(Y.map λx=>x / (t.length:Int)).any (λy=>decide (y≠0))=true↔¬okS (t.length:Int) (z::Y)=true:=by
     unfold okS;have ha:((z::Y).all λx=>decide (x % (t.length:Int)=0))=true:=ax.mpr λx M=>decide_eq_true (hd x M);rw[ha,Bool.true_and,aZ];constructor
     ·rintro⟨y,hy,p6⟩ p7
      obtain⟨x,M,rfl⟩:=aC.mp hy;have:=of_decide_eq_true (ax.mp p7 x M);rw[this] at p6;simp at p6
     ·intro hn
      rw[Bool.not_eq_true,List.all_eq_false] at hn;obtain⟨x,M,p8⟩:=hn;have p8:x≠0:=by simpa using p8
      refine⟨x / (t.length:Int),aC.mpr ⟨x,M,rfl⟩,decide_eq_true λw=>?_⟩;have h1:=hd x (aF _ M);have h2:=mq x (t.length:Int);rw[h1,w] at h2;omega
    have q0:=o8.trans s7;by_cases ho:okS (t.length:Int) (z::Y)=true
    ·rw[if_neg (λw=>(hz.mp w) ho)]
     refine⟨rfl,_,rfl,Vl (by simp) ?_⟩;have r6:=((s5.trans s6).trans s7) _ _ h4;refine⟨_,rfl,.inl ⟨rfl,_,.of r6⟩,_,rfl,dr,_,_,rfl,s7 _ _ h6,by rw[Za];rw[Zi] at O;omega,λH8 s8=>?_⟩;rw[if_neg (λw=>(hz.mp w) ho)];have r8:=s8 _ _ r6;refine⟨L,_,_,rfl,rfl,r8,by rw[Za,Za,bE,ml];omega,?_⟩;refine⟨_,_,rfl,(q0.trans s8).updr LH,by rw[Zy u5];exact s8 _ _ (s7 _ _ (s6 _ _ (s5 _ _ o7))),?_,λx M=>?_⟩
     ·rw[Zt,ce,em,aO,aO]
      rfl
     ·rw[ce,em] at M
      rcases bv.mp M with M|M
      ·exact o5 x M
      ·rw[aJ.mp M]
       exact ho
    ·rw[if_pos (hz.mpr ho)]
     refine⟨rfl,_,rfl,ZeO (by simp) ?_⟩;refine q .non H7 q0 ?_;have:shL (t.length:Int) (Y5 t f j J)=none:=if_neg λw=>ho (ax.mp w _ (ah em));rw[this];rfl
   ·have o8:=s4.trans (s5.trans s6)
    refine⟨_,rfl,rfl,_,rfl,ZeO (by simp) ?_⟩;refine q .non H6 o8 ?_;have:shL (t.length:Int) (Y5 t f j J)=none:=if_neg λw=>hd λx M=>by
     have:=ax.mp w _ (ah em);unfold okS at this;rw[ae] at this;exact of_decide_eq_true (ax.mp this.1 x M)
    rw[this];rfl
  ·subst e
   have lc:(cs.map V.ref).length=(Y5 t f j J).length:=by rw[Za,c2,ml]
   rw[lc,cp] at h4 o5;refine⟨_,rfl,L,_,rfl,.inl ⟨.of h4,λr' w6=>?_⟩⟩;refine q (.ref r') _ (s4.trans (Same.upd w6)) ?_;have:shL (t.length:Int) (Y5 t f j J)=some ((Y5 t f j J).map λx=>x.headD 0 / (t.length:Int)):=if_pos (ax.mpr o5);rw[this];exact⟨r',rfl,Zt⟩
end C30
namespace Num
theorem Jo:∀(n:Nat) (f:Nat->Int),ZC (n+1) f=ZC n f+f n
 |0,f=>by rw[ZC,ZC,ZC];omega
 |n+1,f=>by
  rw[ZC,Jo n λt=>f (t+1),ZC];omega
theorem ZcS:∀(n:Nat) (f g:Nat->Int),ZC n (λt=>f t+g t)=ZC n f+ZC n g
 |0,f,g=>rfl
 |n+1,f,g=>by
  rw[ZC,ZC,ZC,ZcS n (λt=>f (t+1)) λt=>g (t+1)];omega
theorem Yy (c:Int):∀(n:Nat) (f:Nat->Int),c*ZC n f=ZC n λt=>c*f t
 |0,f=>bc c
 |n+1,f=>by rw[ZC,ZC,mM,Yy c n λt=>f (t+1)]
theorem Yg (b:Nat):∀(a:Nat) (f:Nat->Nat->Int),ZC a (λi=>ZC b λm=>f m i)=ZC b λm=>ZC a λi=>f m i
 |0,f=>by rw[ZC];exact (YZ b _ λt _=>rfl).symm
 |a+1,f=>by rw[ZC,Yg b a λm i=>f m (i+1),<-ZcS];rfl
def rh (n:Nat)(R:TZ)(k j:Nat):Int:=co (ro R (k % n)) j
structure Per (n top:Nat)(least:TX)(R:TZ):Prop where
 nxt:∀k,ro R ((k+1) % n)=WE least top (ro R (k % n))
theorem Zb0 (P:Per n top least R)(k j:Nat):rh n R (k+1) j=(if j=0\/top<=j then 0 else rh n R k (j-1))-rh n R k (top-1)*co (least.take top) j:=by
 unfold rh;rw[P.nxt,JH]
theorem Zni (P:Per n top least R)(t:Nat)(c:Nat->Int)(f:Nat->Nat)(g:Nat)(h:∀j,ZC t (λi=>c i*rh n R (f i) j)=rh n R g j)(j:Nat):ZC t (λi=>c i*rh n R (f i+1) j)=rh n R (g+1) j:=by
 rw[Zb0 P g j,<-h (top-1),bd (ZC _ _),Yy];by_cases J:j=0\/top<=j
 ·rw[if_pos J,<-iD (ZC t λ_=>0),iD,Int.zero_sub]
  rw[show -ZC t (λi=>co (least.take top) j*(c i*rh n R (f i) (top-1)))=ZC t (λi=>0-co (least.take top) j*(c i*rh n R (f i) (top-1))) by rw[Jn,YZ t (λ_=>0) λ_ _=>rfl];omega];refine Zx _ _ _ λi _=>?_;rw[Zb0 P (f i) j,if_pos J,f9,bc,<-aR,bd (co (least.take top) j)]
 ·rw[if_neg J,<-h (j-1),<-Jn]
  refine Zx _ _ _ λi _=>?_;rw[Zb0 P (f i) j,if_neg J,f9,<-aR,bd (co (least.take top) j)]
theorem Zh9 (P:Per n top least R)(t:Nat)(c:Nat->Int)(f:Nat->Nat)(g:Nat)(h:∀j,ZC t (λi=>c i*rh n R (f i) j)=rh n R g j):∀(d j:Nat),ZC t (λi=>c i*rh n R (f i+d) j)=rh n R (g+d) j
 |0,j=>h j
 |d+1,j=>Zni P t c (λi=>f i+d) (g+d) (Zh9 P t c f g h d) j
def TP (n top:Nat)(R:TZ)(h:Nat):Prop:=∀m j,ZC top (λi=>rh n R m i*rh n R (i*h) j)=rh n R (m*h) j
theorem ZoQ {O:TX}(G:Good n O least top R):TP n top R 1:=by
 intro m j;have U:0<n:=G.n1;have tn:=G.tn;by_cases J:j<top
 ·rw[WP top j _ J λt Y M=>?_,dF,dF]
  ·unfold rh
   rw[bf (show j<n by omega),G.un j J,Xp J,if_pos rfl,eR]
  ·rw[dF]
   unfold rh;rw[bf (show t<n by omega),G.un t Y,Xp J,if_neg (λz=>M z.symm),bc]
 ·have z:∀k,rh n R k j=0:=λk=>by
   unfold rh;exact J9 (by rw[G.rlen _ (bX _ U)];omega)
  rw[z,YZ top _ λt _=>by rw[z,bc]]
theorem ZnB {n:Nat}{J:TX}(n1:1<=n)(h:chk n J=true):Per n ((Wr n J).length-1) (Wr n J) (RT n J):=by
 unfold chk at h;rw[ae,Zbd] at h;obtain⟨a1,h⟩:=h;unfold RT;generalize Wr n J=j at h ⊢;generalize ht:j.length-1=top at h ⊢;unfold ZoF at h;simp only[ae,bg,decide_eq_true_eq,ax] at h;obtain⟨⟨⟨⟨⟨⟨⟨h1,h2⟩,h3⟩,h4⟩,O⟩,h6⟩,h7⟩,h8⟩:=h;obtain⟨M,rr⟩:=US j top n 0 _ O;refine⟨λk=>?_⟩;have U:=bX k (show n > 0 by omega);rw[Um j top n _ _ (bX _ (show n > 0 by omega)),Um j top n _ _ U,<-W3];by_cases Y:k % n+1<n
 ·rw[<-fv,bf Y]
 ·have e:k % n+1=n:=by omega
  rw[<-fv,e,l5,M,nx]
theorem mv (G:Good n ps least top R)(P:Per n top least R)(m k j:Nat):ZC top (λi=>rh n R m i*rh n R (i+k) j)=rh n R (m+k) j:=by
 refine Zh9 P top (rh n R m) (λi=>i) m (λj=>?_) k j;have:=ZoQ G m j;rw[dF] at this;rw[<-this];refine Zx _ _ _ λi _=>?_;rw[dF]
theorem Zfy (j:Nat)(x:Int):∀(ys:TX) (k:Nat),sIn n R j x ys k=ZC ys.length λt=>x*co ys t*rh n R (k+t) j
 | [],k=>rfl
 |y::ys,k=>by
  rw[sIn,Zfy j x ys (k+1),Zi,ZC,YM,e9];congr 1;refine Zx _ _ _ λt _=>?_;rw[Wc,Nat.add_assoc,jF 1 t]
theorem Zc0 (j:Nat)(ys:TX):∀(xs:TX) (i:Nat),ZgI n R j ys xs i=ZC xs.length λa=>ZC ys.length λt=>co xs a*co ys t*rh n R (i+a+t) j
 | [],i=>rfl
 |x::xs,i=>by
  rw[ZgI,Zc0 j ys xs (i+1),Zfy,Zi,ZC];congr 1;refine Zx _ _ _ λa _=>?_;refine Zx _ _ _ λt _=>?_;rw[Wc,show i+1+a+t=i+(a+1)+t by omega]
def Yn (n top:Nat)(R:TZ)(xs ys:TX):TX:=Jg n top R (Zdr xs ys)
theorem YC (xs ys:TX):(Yn n top R xs ys).length=top:=WV ..
theorem Xk {xs ys:TX}{j:Nat}(J:j<top):co (Yn n top R xs ys) j=ZC xs.length λa=>ZC ys.length λt=>co xs a*co ys t*rh n R (a+t) j:=by
 unfold Yn Zdr;rw[Zgi J,XJ n R j ys xs 0 _ (by rw[Ze];omega),ZaU,cO,Zc0];refine Zx _ _ _ λa _=>?_;refine Zx _ _ _ λt _=>?_;rw[gu]
theorem ZaX (xs ys:TX):Yn n top R xs ys=Yn n top R ys xs:=by
 refine J5 (by rw[YC,YC]) λj J=>?_;rw[YC] at J;rw[Xk J,Xk J,Yg];refine Zx _ _ _ λa _=>?_;refine Zx _ _ _ λt _=>?_;rw[bd (co xs t),jF]
theorem ZmM (G:Good n ps least top R)(P:Per n top least R)(xs ys J:TX){j:Nat}(M:j<top):co (Yn n top R (Yn n top R xs ys) J) j=ZC xs.length λa=>ZC ys.length λb=>ZC J.length λc=>co xs a*(co ys b*(co J c*rh n R (a+b+c) j)):=by
 rw[Xk M,YC];have O:ZC top (λi=>ZC J.length λc=>co (Yn n top R xs ys) i*co J c*rh n R (i+c) j)=ZC top λi=>ZC xs.length λa=>ZC ys.length λb=>ZC J.length λc=>co xs a*(co ys b*(co J c*(rh n R (a+b) i*rh n R (i+c) j))):=by
  refine Zx _ _ _ λi U=>?_;rw[Xk U];have Y:∀c,ZC xs.length (λa=>ZC ys.length λt=>co xs a*co ys t*rh n R (a+t) i)*co J c*rh n R (i+c) j=ZC xs.length λa=>ZC ys.length λb=>co xs a*(co ys b*(co J c*(rh n R (a+b) i*rh n R (i+c) j))):=λc=>by
   rw[aR,bd,Yy];refine Zx _ _ _ λa _=>?_;rw[Yy];refine Zx _ _ _ λb _=>?_;rw[bd (co J c*rh n R (i+c) j),aR,aR];congr 2;rw[<-aR,<-aR,bd (rh n R (a+b) i)]
  rw[Zx _ _ _ λc _=>Y c,Yg];refine Zx _ _ _ λa _=>?_;rw[Yg]
 rw[O,Yg];refine Zx _ _ _ λa _=>?_;rw[Yg];refine Zx _ _ _ λb _=>?_;rw[Yg];refine Zx _ _ _ λc _=>?_;rw[<-Yy,<-Yy,<-Yy,mv G P]
theorem Zez (G:Good n ps least top R)(P:Per n top least R)(xs ys J:TX):Yn n top R (Yn n top R xs ys) J=Yn n top R xs (Yn n top R ys J):=by
 refine J5 (by rw[YC,YC]) λj M=>?_;rw[YC] at M;rw[ZaX xs (Yn n top R ys J),ZmM G P _ _ _ M,ZmM G P _ _ _ M,Yg];refine Zx _ _ _ λb _=>?_;rw[Yg];refine Zx _ _ _ λc _=>?_;refine Zx _ _ _ λa _=>?_;rw[show a+b+c=b+c+a by omega,<-aR (co ys b),<-aR,bd (co xs a),aR,aR (co ys b)]
theorem ZiJ (G:Good n ps least top R){xs one:TX}(U:xs.length=top)(h1:one.length=top)(Y:∀i,i<top->co one i=if i=0 then 1 else 0):Yn n top R xs one=xs:=by
 have tn:=G.tn;have t1:=G.t1;refine J5 (by rw[YC,U]) λj M=>?_;rw[YC] at M;rw[Xk M,U,h1];have e:∀a,a<top->ZC top (λt=>co xs a*co one t*rh n R (a+t) j)=co xs a*(if j=a then 1 else 0):=λa O=>by
  rw[WP top 0 _ (by omega) λt ht J=>by rw[Y t ht,if_neg J,bc,bC],Y 0 (by omega),if_pos rfl,eR,e9];unfold rh;rw[bf (show a<n by omega),G.un a O,Xp M]
 rw[Zx _ _ _ λa O=>e a O,WP top j _ M λt ht J=>by rw[if_neg (λz=>J z.symm),bc],if_pos rfl,eR]
theorem Zl3 (k:Int){u v:TX}(h:u.length=v.length)(t:Nat):co (de (· + ·) u (v.map (· * k))) t=co u t+co v t*k:=by
 unfold co;rw[Zb,Zb,Zb,fS,Zc];by_cases j:t<u.length
 ·rw[Zf j,Zf (show t<v.length by omega)]
  rfl
 ·rw[ag (show u.length<=t by omega),ag (show v.length<=t by omega)]
  show (0:Int)=0+0*k;omega
def bl (n top:Nat)(R:TZ)(x y:Nat->Int)(j:Nat):Int:=ZC top λa=>ZC top λb=>x a*y b*rh n R (a+b) j
theorem WK {X Y:TX}(J:X.length=top)(M:Y.length=top){j:Nat}(O:j<top):co (Yn n top R X Y) j=bl n top R (co X) (co Y) j:=by
 rw[Xk O,J,M];rfl
theorem Wy {x J y M:Nat->Int}{j:Nat}(h:∀a,a<top->x a=J a)(h':∀a,a<top->y a=M a):bl n top R x y j=bl n top R J M j:=
 Zx _ _ _ λa O=>Zx _ _ _ λb hb=>by rw[h a O,h' b hb]
def XD (top:Nat)(x:Nat->Int):TX:=(ac top).map x
theorem Yl (x:Nat->Int):(XD top x).length=top:=by unfold XD;rw[Za,Zg]
theorem Y4 {x:Nat->Int}{j:Nat}(J:j<top):co (XD top x) j=x j:=by
 unfold co XD;rw[Zb,Zc,ao J];rfl
theorem Zgn (x y:Nat->Int){j:Nat}(M:j<top):bl n top R x y j=bl n top R y x j:=by
 have h:=congrArg (λl=>co l j) (ZaX (n:=n) (top:=top) (R:=R) (XD top x) (XD top y));have h:co (Yn n top R (XD top x) (XD top y)) j=co (Yn n top R (XD top y) (XD top x)) j:=h;rw[WK (Yl _) (Yl _) M,WK (Yl _) (Yl _) M] at h;rw[Wy (λa J=>(Y4 (x:=x) J).symm) (λa J=>(Y4 (x:=y) J).symm),h];exact Wy (λa J=>Y4 J) λa J=>Y4 J
theorem Zkb (G:Good n ps least top R)(P:Per n top least R)(x y z:Nat->Int){j:Nat}(M:j<top):bl n top R (bl n top R x y) z j=bl n top R x (bl n top R y z) j:=by
 have h:=congrArg (λl=>co l j) (Zez G P (XD top x) (XD top y) (XD top z));have h:co (Yn n top R (Yn n top R (XD top x) (XD top y)) (XD top z)) j=co (Yn n top R (XD top x) (Yn n top R (XD top y) (XD top z))) j:=h;rw[WK (YC _ _) (Yl _) M,WK (Yl _) (YC _ _) M] at h;have e:∀u v:Nat->Int,∀a,a<top->co (Yn n top R (XD top u) (XD top v)) a=bl n top R u v a:=λu v a J=>by
  rw[WK (Yl _) (Yl _) J];exact Wy (λa J=>Y4 J) λa J=>Y4 J
 rw[Wy (λa J=>e x y a J) (λa J=>Y4 (x:=z) J),Wy (λa J=>Y4 (x:=x) J) (λa J=>e y z a J)] at h;exact h
theorem ZoH (G:Good n ps least top R)(x:Nat->Int){j:Nat}(M:j<top):bl n top R x (λb=>if b=0 then 1 else 0) j=x j:=by
 have h:=congrArg (λl=>co l j) (ZiJ G (xs:=XD top x) (one:=XD top λb=>if b=0 then 1 else 0) (Yl _) (Yl _) λi O=>Y4 O)
 have h:co (Yn n top R (XD top x) (XD top λb=>if b=0 then 1 else 0)) j=co (XD top x) j:=h
 rw[WK (Yl _) (Yl _) M,Y4 M] at h;rw[<-h];exact Wy (λa J=>(Y4 J).symm) λa J=>(Y4 (x:=λb=>if b=0 then 1 else 0) J).symm
theorem Ze5 (m:Nat)(k:Nat->Int)(x:Nat->Nat->Int)(y:Nat->Int)(j:Nat):bl n top R (λi=>ZC m λs=>k s*x s i) y j=ZC m λs=>k s*bl n top R (x s) y j:=by
 unfold bl;have h:∀s,k s*ZC top (λa=>ZC top λb=>x s a*y b*rh n R (a+b) j)=ZC top λa=>ZC top λb=>k s*x s a*y b*rh n R (a+b) j:=λs=>by
  rw[Yy];refine Zx _ _ _ λa _=>?_;rw[Yy];refine Zx _ _ _ λb _=>?_;rw[<-aR,<-aR]
 rw[Zx m _ _ λs _=>h s,<-Yg m top];refine Zx _ _ _ λa _=>?_;rw[<-Yg m top];refine Zx _ _ _ λb _=>?_;show ZC m (λs=>k s*x s a)*y b*rh n R (a+b) j=_;rw[aR,bd,Yy];refine Zx _ _ _ λs _=>?_;rw[bd,aR,aR,aR]
theorem Zgm (m:Nat)(k:Nat->Int)(x:Nat->Nat->Int)(y:Nat->Int){j:Nat}(J:j<top):bl n top R y (λi=>ZC m λs=>k s*x s i) j=ZC m λs=>k s*bl n top R y (x s) j:=by
 rw[Zgn _ _ J,Ze5];exact Zx _ _ _ λs _=>by rw[Zgn _ _ J]
theorem Zib {m:Nat}{k:Nat->Int}{N:Int}{r f:Nat->Nat->Nat->Int}(Row:∀s s' j,s<m->s'<m->j<top->ZC m (λc=>k c*bl n top R (r s c) (f s' c) j)=if s=s'/\j=0 then N else 0)(M:Nat->Int){s j:Nat}(U:s<m)(Y:j<top) :
  ZC m (λc=>k c*bl n top R (λi=>ZC m λu=>M u*r u c i) (f s c) j)=if j=0 then N*M s else 0:=by
 have h:∀c,k c*bl n top R (λi=>ZC m λu=>M u*r u c i) (f s c) j=ZC m λu=>M u*(k c*bl n top R (r u c) (f s c) j):=λc=>by
  rw[Ze5,Yy];refine Zx _ _ _ λu _=>?_;rw[<-aR,bd (k c),aR]
 rw[Zx _ _ _ λc _=>h c,Yg,Zx _ _ (λu=>M u*if u=s/\j=0 then N else 0) λu O=>by rw[<-Yy,Row u s j O U Y],WP m s _ U λu _ O=>by rw[if_neg λz=>O z.1,bc]]
 by_cases J:j=0
 ·rw[if_pos ⟨rfl,J⟩,if_pos J,bd]
 ·rw[if_neg λz=>J z.2,if_neg J,bc]
theorem Znj (G:Good n ps least top R)(P:Per n top least R){m:Nat}{k:Nat->Int}{N:Int}{r f:Nat->Nat->Nat->Int}(o0:∀c J j,c<m->J<m->j<top->k J*ZC m (λs=>bl n top R (f s J) (r s c) j)=if c=J/\j=0 then N else 0)(y:Nat->Nat->Int)(h0:∀s j,s<m->j<top->ZC m (λc=>k c*bl n top R (y c) (f s c) j)=0)
  {c j:Nat} (hc:c<m) (U:j<top):N*y c j=0:=by
 have a1:ZC m (λs=>bl n top R (λi=>ZC m λJ=>k J*bl n top R (y J) (f s J) i) (r s c) j)=0:=by
  refine YZ _ _ λs hs=>?_;unfold bl;refine YZ _ _ λa ha=>YZ _ _ λb _=>?_;have:=h0 s a hs ha;unfold bl at this;show ZC m (λJ=>k J*ZC top λO=>ZC top λb=>y J O*f s J b*rh n R (O+b) a)*r s c b*rh n R (a+b) j=0;rw[this,bC,bC]
 have a2:∀s,bl n top R (λi=>ZC m λJ=>k J*bl n top R (y J) (f s J) i) (r s c) j=ZC m λJ=>k J*bl n top R (y J) (bl n top R (f s J) (r s c)) j:=λs=>by
  rw[Ze5];exact Zx _ _ _ λJ _=>by rw[Zkb G P _ _ _ U]
 rw[Zx _ _ _ λs _=>a2 s,Yg] at a1;have a3:∀J,J<m->ZC m (λs=>k J*bl n top R (y J) (bl n top R (f s J) (r s c)) j)=if J=c then N*y c j else 0:=λJ o5=>by
  have e1:ZC m (λs=>k J*bl n top R (y J) (bl n top R (f s J) (r s c)) j)=bl n top R (y J) (λi=>ZC m λs=>k J*bl n top R (f s J) (r s c) i) j:=(Zgm m (λ_=>k J) _ _ U).symm;have e2:∀i,i<top->ZC m (λs=>k J*bl n top R (f s J) (r s c) i)=ZC 1 λ_=>(if c=J then N else 0)*if i=0 then 1 else 0:=λi hi=>by
   rw[<-Yy,o0 c J i hc o5 hi];show _=(if c=J then N else 0)*(if i=0 then 1 else 0)+0
   by_cases M:c=J <;> by_cases Y:i=0
   ·rw[if_pos ⟨M,Y⟩,if_pos M,if_pos Y];omega
   ·rw[if_neg λz=>Y z.2,if_neg Y];omega
   ·rw[if_neg λz=>M z.1,if_neg M];omega
   ·rw[if_neg λz=>M z.1,if_neg M];omega
  rw[e1,Wy (λa _=>rfl) e2,Zgm 1 (λ_=>if c=J then N else 0) (λ_ i=>if i=0 then 1 else 0) (y J) U]
  show (if c=J then N else 0)*bl n top R (y J) (λi=>if i=0 then 1 else 0) j+0=_
  rw[ZoH G _ U];by_cases M:c=J
  ·rw[if_pos M,if_pos M.symm,M];omega
  ·rw[if_neg M,if_neg λz=>M z.symm];omega
 rw[Zx _ _ _ a3,WP m c _ hc λu _ hu=>by rw[if_neg hu],if_pos rfl] at a1;exact a1
end Num
namespace C30
open PySem L2 PySem.Spec PyProof.Rows
open Tb Pm
theorem ZeQ {xss:TZ}{ks st:TX}{tp k:Nat}(M:st.length=tp)(j:∀xs∈xss,xs.length=tp)(O:k<tp):∀i,i<=xss.length->Num.co (Xw xss ks st i) k=Num.co st k+Num.ZC i λd=>Num.co ks d*Num.co (xss.getD d []) k
 |0,_=>(bU _).symm
 |i+1,hi=>by
  have U:=ZeQ (ks:=ks) M j O i (by omega);have Y:=Vq (ks:=ks) M j i (by omega);have lx:=j _ (Vi (yss:=xss) (i:=i) (by omega));rw[Num.Jo,<-lC,<-U];have eg:Xw xss ks st (i+1)=if Num.co ks i=0 then Xw xss ks st i else de (· + ·) (Xw xss ks st i) ((xss.getD i []).map (· * Num.co ks i)):=rfl
  rw[eg];by_cases J:Num.co ks i=0
  ·rw[if_pos J,J,bC,bU]
  ·rw[if_neg J,Num.Zl3 _ (by rw[Y,lx]),bd]
def Y2 (j tp:Nat)(yss:T8)(J:TX):TZ:=(ac j).map λc=>Num.XD tp λq=>Num.ZC yss.length λs=>Num.co J s*Num.co ((yss.getD s []).getD c []) q
theorem J5 {tp:Nat}{a b:TX}(J:a.length=tp)(hb:b.length=tp)(h:∀q,q<tp->Num.co a q=Num.co b q):a=b:=by
 refine a6 λi=>?_;by_cases j:i<tp
 ·have:=h i j
  unfold Num.co at this;rw[Zb,Zb,Zf (by omega),Zf (by omega)] at this;rw[Zf (by omega),Zf (by omega)];exact congrArg some this
 ·rw[ag (by omega),ag (by omega)]
def RwO (j tp:Nat)(yss:T8):Prop:=1<=yss.length/\yss.length<=60/\j<=60/\tp<=60/\∀J∈yss,J.length=j/\∀y∈J,y.length=tp
inductive Zh1 (vs:TR) (H:Hp) (Q:VK) (E03:XK):Prop
 |mk (r b:Addr) (mc tp:Nat) (yss:T8) (zs:TX):(vs=[.ref r,.ref b])->(Xz H r yss)->(RwO mc tp yss)->(H b=some (.tup (zs.map V.int)))->(zs.length=yss.length)->(N30.XW zs)->(∀r' H',Same H H'->W1 H' r' (Y2 mc tp yss zs)->Q (.ref r') H')->Zh1 vs H Q E03
theorem Zk2 {mc tp c:Nat}{yss:T8}{zs st:TX}(O:RwO mc tp yss)(U:c<mc)(j:st.length=tp)(h0:∀q,Num.co st q=0):Xw (yss.map λys=>ys.getD c []) zs st yss.length=Num.XD tp λq=>Num.ZC yss.length λs=>Num.co zs s*Num.co ((yss.getD s []).getD c []) q:=by
 have J:∀xs∈yss.map (λys=>ys.getD c []),xs.length=tp:=λxs h=>by
  obtain⟨ys,Y,rfl⟩:=aC.mp h;have:=O.2.2.2.2 ys Y;exact this.2 _ (Vi (by rw[this.1];exact U))
 refine J5 (Vq j J _ (by rw[Za];exact Zq _)) (Num.Yl _) λq M=>?_;rw[ZeQ j J M _ (by rw[Za];exact Zq _),Num.Y4 M,h0,cO];refine Num.Zx _ _ _ λs j=>?_;have e:(yss.map λys=>ys.getD c []).getD s []=(yss.getD s []).getD c []:=by
  rw[Zb,Zc,Zf j,Zb (l:=yss),Zf j];rfl
 rw[e]
theorem ZnS (F:Wf K "put_by" "put_by" (tq 35) f fd)(T:Bl mg)(T2:Zfa mg)(GG:Fn P w K mg base ZY 2 "gathered" ["numbers", "often", "start"] ZbI)(r8:Fn P w K mg base ZY 1 "scaled" ["one", "k"] (N30.Zfm K)):ZW P w K mg base ZY 3 f fd ["table", "shares"] Zh1:=by
 refine F.ok (FS (N:=["table", "shares", "found", "c", "number"])) (λvs H Q E h=>?_) (λw6 A r9 s H vs Q E hr h=>?_)
 ·obtain⟨r,b,mc,tp,J,zs,rfl,_⟩:=h;rfl
 ·obtain⟨r,b,mc,tp,J,zs,rfl,A0,O,hB,zl,t0,q⟩:=h
  refine⟨_,Zu (ZK 2 rfl (ZS Zs))
   (Zu (ZV au rfl (V3 K T2.enumerate (pc (ZU (VA K) (vn 0) Zw (λ_ _=>rfl)) Zs)) (g2 K 3 4 rfl (gnf 3 rfl) (gn 4))
   (Zv (Yx (Wv aM aS aT Z3 (vn 2) (pc (YF GG hr ZF (pc (cmp ["row"] [3] ["row", "c"] rfl (itT K (vn 0)) (λ_ _ _ _ _=>gn 0) (λ_ _ _ _ _=>ZQ) (λ_ _ _ _ _=>ZU (VA K) (vn 0) (vn 1) (λ_ _=>rfl))) (pc (vn 1) (pc (YF r8 hr ZF (pc (vn 4) (pc Zw Zs))) Zs)))) Zs)))))
   (Zv (ZE (ct ZD T.tuple (pc (vn 2) Zs))))),?_⟩
  have sz:=Jv;obtain⟨y1,t5,w8,o6,yO⟩:=id O;obtain⟨cs,c1,c2,c3⟩:=id A0;refine⟨JL,λL nL=>?_⟩;obtain⟨H1,t6,s1,h1⟩:=Vg (o:=.lst []) nL;rw[t6];have o7:cs[0]?=some (cs.getD 0 0):=Z8 (by omega);obtain⟨t7,e0,R0⟩:=c3 0 _ o7;obtain⟨ds,d1,d2,d3⟩:=R0;obtain⟨o8,o9⟩:=yO t7 (ah e0);refine⟨_,rfl,r,_,_,_,rfl,rfl,.of (s1 _ _ c1),ZR (by rw[Zc,o7];rfl),cs.getD 0 0,rfl,.inr ⟨⟨_,.of (s1 _ _ d1)⟩,?_⟩⟩;refine YW (Zag (K:=K) (xs:=ds.map V.ref)) (λi U H'=>∃(rs:TU) (v3 v4:TQ),U=[some (.ref r),some (.ref b),some (.ref L),v3,v4]/\Same H H'/\H' L=some (.lst (rs.map V.ref))/\rs.length=i/\∀(j:Nat) x,rs[j]?=some x->H' x=some (.tup (((Y2 mc tp J zs).getD j []).map V.int))) ⟨[],_,_,rfl,s1,h1,rfl,λj x h=>by cases h⟩ (λi U H' ⟨_,_,_,_,s,_⟩=>.of (s _ _ d1)) ?_ ?_
  ·rintro i y U H2 T' hy ⟨rs,v3,v4,rfl,s2,h2,rl,o0⟩ nT
   obtain⟨d,hd,rfl⟩:=Zev hy;obtain⟨y0,e1,t9⟩:=d3 i d hd;have hi:i<mc:=by rw[<-o8];exact (ab.mp e1).1
   have s3:=Same.upd (H:=H2) (o:=.tup [.int i,.ref d]) nT;have h3:=Zt (H:=H2) (a:=T') (o:=.tup [.int i,.ref d]);generalize upd H2 T' (.tup [.int i,.ref d])=H3 at s3 h3 ⊢;have Y:=s2.trans s3;refine⟨T',_,rfl,.of h3,rfl,_,_,rfl,_,_,rfl,rfl,?_⟩;have p6:=s3 _ _ h2;refine⟨_,rfl,.inl ⟨rfl,_,.of p6⟩,_,rfl,r,rfl,⟨_,.of (Y _ _ c1)⟩,?_⟩;refine Wa (W:=Addr) id (λj w H=>H w=some (.tup (((J.getD j []).getD i []).map V.int))) (λ_ _=>True) (YJ (K:=K) (.of (Y _ _ c1))) [some (.int (i:Nat))] rfl (by rw[Za,c2];omega) (λj w H H' s h=>s _ _ h) (λ_ _ _ _ _=>trivial) (λj w H0 H1 D o ys w9 h _ _ h2=>by rw[Zy (λz=>by rw[z,h2] at h;cases h)];exact h) (λj y hy H4 s4 R kR=>?_) (λD ws H4 nD s4 hD wl hw _=>?_)
   ·obtain⟨c,hc,rfl⟩:=Zev hy
    obtain⟨ys,e2,RT⟩:=c3 j c hc;obtain⟨o5,u1,u2,u3⟩:=RT.mono (Y.trans s4);have yl:=(yO ys (ah e2)).1;have p7:i<o5.length:=by rw[u2,yl];exact hi
    obtain⟨yy,w1,w2⟩:=u3 i (o5.getD i 0) (Z8 p7);refine⟨_,rfl,_,rfl,c,_,_,_,rfl,rfl,.of u1,ZR (by rw[Zc,Z8 p7];rfl),kR (o5.getD i 0) H4 (Same.refl _) ?_ trivial⟩;have ey:(J.getD j []).getD i []=yy:=by
     rw[Zb (l:=J),e2];show ys.getD i []=yy;rw[Zb,w1];rfl
    rw[ey];exact w2
   rw[Za,c2] at wl;have p8:=Y.trans s4;refine⟨_,rfl,_,rfl,d,0,y0,rfl,.of (p8 _ _ t9),?_,⟨by decide,by decide⟩,λst H5 s5 h5=>?_⟩
   ·rw[o9 y0 (ah e1)];omega
   have hA:ZqP H5 D (J.map λys=>ys.getD i []):=⟨ws,s5 _ _ hD,by rw[Za,wl],λj x M=>by
    have hj:j<J.length:=by rw[<-wl];exact (ab.mp M).1
    have:=s5 _ _ (hw j x M).1;have e:(J.map λys=>ys.getD i []).getD j []=(J.getD j []).getD i []:=by
     rw[Zb,Zc,Zf hj,Zb (l:=J),Zf hj];rfl
    rw[e];exact this⟩
   have q0:=p8.trans s5;have yt:=o9 y0 (ah e1);refine⟨D,b,st,_,zs,_,rfl,.inr hA,q0 _ _ hB,h5,by rw[Za,zl],by rw[Za];exact t5,by rw[Za,yt];exact o6,λxs M=>?_,t0,λgr H6 s6 h6=>?_⟩
   ·obtain⟨ys,u5,rfl⟩:=aC.mp M
    have:=yO ys u5;rw[this.2 _ (Vi (by rw[this.1];exact hi))];exact o6
   ·have r6:=((s4.trans s5).trans s6) _ _ p6
    rw[Za,Zk2 O hi (by rw[Za,yt]) (λq=>by
     unfold Num.co;rw[Zb,Zc];cases y0[q]? with
     |none=>rfl
     |some x=>exact bc x)] at h6
    refine⟨L,_,_,rfl,rfl,r6,by rw[Za,rl];omega,?_⟩;refine⟨rs++[gr],_,_,rfl,(q0.trans s6).updr nL,by rw[Zt,aO];rfl,by rw[Zd,rl];rfl,λj x M=>?_⟩;have up:∀x v,H6 x=some (.tup v)->upd H6 L (.lst (rs.map V.ref++[.ref gr])) x=some (.tup v):=λx v h=>by
     rw[Zy (λz=>by rw[z,r6] at h;cases h)];exact h
    by_cases hj:j<rs.length
    ·rw[aq hj] at M
     exact up _ _ (((s3.trans s4).trans (s5.trans s6)) _ _ (o0 j x M))
    ·have hl:=(ab.mp M).1
     rw[Zd,Zk] at hl;have ej:j=i:=by omega
     rw[aw (by omega),ej,rl,cS] at M;cases M;have ep:(Y2 mc tp J zs).getD j []=Num.XD tp λq=>Num.ZC J.length λs=>Num.co zs s*Num.co ((J.getD s []).getD i []) q:=by
      unfold Y2;rw[ej,Zb,Zc,ao hi];rfl
     rw[ep];exact up _ _ h6
  ·rintro U H2 ⟨rs,v3,v4,rfl,s2,h2,rl,o0⟩
   rw[Za,d2,o8] at rl;refine⟨_,rfl,L,_,rfl,.inl ⟨.of h2,λr' u9=>?_⟩⟩;have s3:=Same.upd (H:=H2) (o:=.tup (rs.map V.ref)) u9;exact q r' _ (s2.trans s3) ⟨rs,Zt,by unfold Y2;rw[Za,Zg,rl],λj x M=>s3 _ _ (o0 j x M)⟩
end C30
namespace L2
open PySem PySem.Spec PyProof.Rows
inductive Prs (Pr:V->V->V->Hp->Prop) (H:Hp):List (V×V)->TR->Prop where
 |nil:Prs Pr H [] []
 |cons {x y v:V}{ps:List (V×V)}{vs:TR} (h:Pr x y v H) (r:Prs Pr H ps vs):Prs Pr H ((x,y)::ps) (v::vs)
theorem Prs.map {Pr:V->V->V->Hp->Prop}{H j:Hp}(m:∀x y v,Pr x y v H->Pr x y v j):∀{J:List (V×V)}{vs:TR},Prs Pr H J vs->Prs Pr j J vs
 |_,_,.nil=>.nil
 |_,_,.cons h r=>.cons (m _ _ _ h) (r.map m)
theorem Prs.snoc {Pr:V->V->V->Hp->Prop}{H:Hp}{x y v:V}(h:Pr x y v H):∀{j:List (V×V)}{vs:TR},Prs Pr H j vs->Prs Pr H (j++[(x,y)]) (vs++[v])
 |_,_,.nil=>.cons h .nil
 |_,_,.cons g r=>.cons g (r.snoc h)
theorem Prs.len {Pr:V->V->V->Hp->Prop}{H:Hp}:∀{j:List (V×V)}{vs:TR},Prs Pr H j vs->vs.length=j.length
 |_,_,.nil=>rfl
 |_,_,.cons _ r=>congrArg (· + 1) r.len
theorem Zbk {K:aa}{J:It}{At:Hp->Prop}{own:List Str}{O:TY}{tc:TT}{te:TE}{σ:St}{H Hx:Hp}{Q:VK}{M:List (V×V)}(S:ZcE J At M)(o7:∀j,Same Hx j->At j)(sx:Same Hx H)(cs:St)(o8:JJ own O σ=none::none::cs)(p:V->V->Bool)(Pr:V->V->V->Hp->Prop)(hz:M.length<=1000000)
  (mono:∀x y v H j,Same H j->Pr x y v H->Pr x y v j) (hu:∀x y v H D ys o,Pr x y v H->H D=some (.lst ys)->Pr x y v (upd H D o))
  (hs:∀(i:Nat) x y j,M[i]?=some (x,y)->Same H j->∀(R:VK) (R':Hp->Prop),(p x y=true->∀v U,Same j U->Pr x y v U->R v U)->(p x y=false->∀U,Same j U->R' U)->tc (some x::some y::cs) j λb H4=>if b=true then te (some x::some y::cs) H4 R else R' H4)
  (hd:∀D vs j,H D=none->Same H j->j D=some (.lst vs)->Prs Pr j (M.filter λq=>p q.1 q.2) vs->Q (.ref D) j):WH own O (ZeS K 2 (JO (Ym 0) (JO (Ym 1) ZeT))) tc te σ Q J H:=by
 intro D hD;refine⟨λi m o6 j=>m=M.length-i/\i<=M.length/\(∃v0 v1,o6=v0::v1::cs)/\Same H j/\∃vs,j D=some (.lst vs)/\Prs Pr j ((M.take i).filter λq=>p q.1 q.2) vs,⟨_,rfl,aX _,⟨none,none,o8⟩,Same.upd hD,[],Zt,by rw[fI];exact .nil⟩,?_⟩;rintro i m o6 j ⟨rfl,hi,⟨v0,v1,rfl⟩,s,vs,hl,hv⟩;have Y:=o7 j (sx.trans s);by_cases o0:i<M.length
 ·refine .inr ⟨S.go i j Y o0,_,λo9 H2 z=>z,λx H2 hy=>?_⟩
  obtain⟨T,y,z,rfl,hT,rfl,hx⟩:=S.yld i j x H2 Y hy;have ht:M.take (i+1)=M.take i++[(y,z)]:=by rw[ce,hx];rfl
  refine⟨T,_,rfl,.of Zt,rfl,_,_,rfl,_,_,rfl,rfl,?_⟩;have p6:vs.length<=i:=by
   rw[hv.len];exact aN (iG _ _) (by rw[bE];omega)
  refine hs i y z _ hx (s.trans (Same.upd hT)) _ _ (λe v U s5 hp=>?_) (λe U s5=>?_)
  ·have o5:=s5 _ _ (Same.upd hT _ _ hl)
   refine⟨_,o5,?_,M.length-(i+1),by omega,rfl,o0,⟨_,_,rfl⟩,((s.trans (Same.upd hT)).trans s5).updr hD,vs++[v],Zt,?_⟩
   ·have:(16777216:Nat)=sizeLine:=by decide
    omega
   ·rw[ht,je,fU,if_pos e]
    exact (Prs.map (λa b c h=>hu a b c _ D _ _ (mono a b c _ _ ((Same.upd hT).trans s5) h) o5) hv).snoc (hu _ _ _ _ D _ _ hp o5)
  ·refine⟨M.length-(i+1),by omega,rfl,o0,⟨_,_,rfl⟩,(s.trans (Same.upd hT)).trans s5,vs,s5 _ _ (Same.upd hT _ _ hl),?_⟩
   rw[ht,je,fU,if_neg (by rw[e];decide),List.filter_nil,ft];exact Prs.map (λa b c h=>mono a b c _ _ ((Same.upd hT).trans s5) h) hv
 ·have e:i=M.length:=by omega
  subst e;refine .inl ⟨S.stop _ j Y (Zq _),hd D vs j hD s hl ?_⟩;rw[cp] at hv;exact hv
end L2
namespace PyZ
open PySem PySem.Spec PyProof.Rows
section
variable {t:Addr}{xs:Array (Int×Tok)}
theorem ZeI {Q:TW}(Y:A.handled=none)(J:s.heap.IsTuple t (intItems xs))(M:0<xs.size)
  (h:∀v h' tk,(intItems xs)[argBest (λi j=>decide (numAt xs i<numAt xs j)) (xs.size-1)]?=some v->(∀b o,s.heap.get? b=some o->h'.get? b=some o)->Q v {s with heap:=h',toks:=tk}) :
  wpAny (model prog w) A (call (.builtin "min") [.ref t]) Q E s:=by
 obtain⟨o,U,hc,n,hd⟩:=id J;have O:t≠s.heap.objs.size:=ay (Zp U);refine call_min_walk (fO J ?_);refine⟨_,_,_,_,_,_,_,rfl,Walks.tuple (A:=A.in1) Y s.heap.objs.size t O (intItems xs),⟨⟨_,Zo _ rfl,rfl,rfl⟩,J.at λo e=>Zn _ e⟩,λb hb=>?_,by simpa [intItems] using M,CmpOf.ints_lt (numAt xs) (λ_ _=>intItems_at),λv h' tk hP hk=>?_⟩
 ·rcases aH.mp hb with rfl|hb
  ·exact Zp (Zo _ rfl)
  ·obtain rfl:=aJ.mp hb
   exact Zp (Zn _ U)
 ·exact h v h' tk (by simpa [intItems] using hP) λb o e=>hk b o (λhb=>absurd (Zp e) ((aJ.mp hb)▸ck _)) (Zn _ e)
end
end PyZ
namespace L2
open PySem PySem.Spec PyProof.Rows
inductive I_call_minT (K:aa) (xs:TR) (H:Hp) (Q:VK):Prop
 |mk (p:Addr) (ns:TX):(xs=[.ref p])->(WO K H p (ns.map V.int))->(ns≠[])->(∀M,M∈ns->(∀a,a∈ns->M<=a)->Q (.int M) H)->I_call_minT K xs H Q
theorem Zhv (K:aa)(hc:X.calm=true)(hK:X.K=K:=by rfl):YI X (.builtin "min") (_root_.L2.I_call_minT K):=by
 subst hK;intro Y s σ H M us Q I r h;obtain⟨p,ns,rfl,hp,O,q⟩:=h;obtain⟨u,rfl,ru⟩:=vals1 r;cases ru;obtain⟨o0,r,pl,hz⟩:=I.tuple hp;have hi:=intsAre_of r;obtain⟨M,e⟩:=hi.allInts.items;have J:ns=M.toList.map (·.1):=by
  rw[<-hi.numsOf,<-nums_intItems,<-e]
 have U:0<M.size:=by
  have h3:0<ns.length:=List.length_pos_iff.mpr O;rw[J,Za,Zr] at h3;exact h3
 have hl:s.heap.IsTuple p (intItems M):=e▸pl;refine PyZ.ZeI (I.ok.hd hc) hl U λv h' tk hv hk=>?_;obtain⟨t,rfl⟩:=intItems_at hv;obtain⟨h1,h2⟩:=argBest_lt (numAt M) (M.size-1);refine⟨.int _,H,I.kept hk,⟨_,rfl⟩,q _ ?_ λa ha=>?_⟩
 ·rw[J,numAt_eq];exact getD_mem (by rw[Za,Zr];omega)
 ·rw[J] at ha
  obtain⟨j,hj,rfl⟩:=mem_getD ha;rw[Za,Zr] at hj;rw[<-numAt_eq];exact h2 j (by omega)
end L2
namespace C30
open PySem L2 PySem.Spec PyProof.Rows
open Tb Pm
structure BlM (mg:TV):Prop where
 min:mg "min"=none
def dTI (xss:TZ):dZ:=.tuple (xss.map λj=>fF (j.map a5))
theorem Zb2 {K:aa}{H:Hp}:∀(rs:TU) (xss:TZ),rs.length=xss.length->(∀(i:Nat) b,rs[i]?=some b->∃y,xss[i]?=some y/\H b=some (.tup (y.map V.int)))->WC K H (rs.map V.ref) (xss.map λxs=>fF (xs.map a5))
 | [],[],_,_=>.nil
 | [],_::_,h,_=>by cases h
 |_::_,[],h,_=>by cases h
 |r::rs,x::xss,h,g=>by
  obtain⟨y,j,J⟩:=g 0 r rfl;cases j;exact .cons (.tup (.of J) (WC.ints _)) (Zb2 rs xss (c8 h) λi b hb=>g (i+1) b hb)
theorem ZkS {K:aa}{H:Hp}{r:Addr}{xss:TZ}(h:RowT H r xss):RdD K H (.ref r) (dTI xss):=by
 obtain⟨j,J,M,O⟩:=h;exact .tup (.of J) (Zb2 j xss M O)
def Zdg (yss:T8)(j:TX):List dZ:=((yss.zip j).filter λq=>decide (0<q.2)).map λq=>fF [dTI q.1,.int q.2]
def ZaK (yss:T8):Option TX->dZ
 |none=>.none
 |some j=>if j.any (λz=>decide (z<0))=true then .none else .tuple (Zdg yss j)
def pz:V->V->Bool
 |_,.int k=>decide (0<k)
 |_,_=>false
def PrP (x y v:V)(H:Hp):Prop:=∃T,v=.ref T/\H T=some (.tup [x,y])
theorem ZeB {K:aa}{H:Hp}:∀(cs:TU) (yss:T8) (zs:TX) (vs:TR),cs.length=yss.length->(∀(i:Nat) c,cs[i]?=some c->∃ys,yss[i]?=some ys/\RowT H c ys)->Prs PrP H (((cs.map V.ref).zip (zs.map V.int)).filter λq=>pz q.1 q.2) vs->WC K H vs (Zdg yss zs)
 | [],[],zs,vs,_,_,h=>by
  cases h;exact .nil
 | [],_::_,_,_,h,_,_=>by cases h
 |_::_,[],_,_,h,_,_=>by cases h
 |c::cs,ys::yss,[],vs,_,_,h=>by
  have h:Prs PrP H [] vs:=h;cases h;exact .nil
 |c::cs,ys::yss,z::zs,vs,Y,M,h=>by
  have O:=ZeB (K:=K) (H:=H) cs yss zs;have j:cs.length=yss.length:=c8 Y;have J:∀(i:Nat) d,cs[i]?=some d->∃ys,yss[i]?=some ys/\RowT H d ys:=λi d hd=>M (i+1) d hd;unfold Zdg;rw[aB,aB,gA,fU] at h;rw[gA,fU];have e:pz (V.ref c) (V.int z)=decide (0<z):=rfl;rw[e] at h;by_cases U:decide (0<z)=true
  ·rw[if_pos U] at h ⊢
   cases h with
   |cons h r=>
    obtain⟨T,rfl,hT⟩:=h;obtain⟨o0,e1,RT⟩:=M 0 c rfl;cases e1;exact .cons (.tup (.of hT) (.cons (ZkS RT) (.cons (.int _) .nil))) (O _ j J r)
  ·rw[if_neg U] at h ⊢
   exact O vs j J h
inductive Zh2 (K:aa) (vs:TR) (H:Hp) (Q:VK) (E03:XK):Prop
 |mk (g r a:Addr) (t:T7) (rs:Nat->Nat) (n:Nat) (xss:TZ) (yss:T8):(vs=[.ref g,.ref r,.ref a])->(GT H g t)->(PW t)->((∀a,a<t.length->Rd t a (rs a)))->((∀f,Lc rs t.length f->f=n))->(1<=n)->(n<=60)->(Xz H r yss)->(TbO t n yss)->(W1 H a xss)->(xss.length=(ZH t t.length).length)->(SpB n xss)->(∀x H',Same H H'->RdD K H' x (ZaK yss (shL (t.length:Int) (Y5 t n xss yss)))->Q x H')->Zh2 K vs H Q E03
inductive Zej (K:aa) (vs:TR) (H:Hp) (Q:VK) (E03:XK):Prop
 |mk (r:Addr) (x:V) (o:Option TX) (yss:T8):(vs=[.ref r,x])->(Xz H r yss)->(yss.length<=60)->(ShR H x o)->((∀zs,o=some zs->zs.length=yss.length/\zs≠[]))->(∀x H',Same H H'->RdD K H' x (ZaK yss o)->Q x H')->Zej K vs H Q E03
theorem Zfq {N:Int}{ms:TZ}{zs:TX}(h:shL N ms=some zs):zs.length=ms.length:=by
 unfold shL at h;split at h
 ·injection h with h
  rw[<-h,Za]
 ·cases h
def ngV:V->V
 | .int z=>.bl (decide (z<0))
 |y=>y
theorem ZnT (F:Wf K "share_paper" "share_paper" (tq 36) f fd)(T:Bl mg)(T3:N30.Bl3 mg)(o5:Fn P w K mg base ZY 8 "shares_of" ["group", "table", "spread"] Zfl):ZW P w K mg base ZY 9 f fd ["group", "table", "spread"] (Zh2 K):=by
 refine F.ok (FS (N:=["group", "table", "spread", "shares"])) (λvs H Q E h=>?_) (λp8 A o6 s H vs Q E hr h=>?_)
 ·obtain⟨g,r,a,t,rs,n,O,j,rfl,_⟩:=h;rfl
 ·obtain⟨g,r,a,t,rs,n,O,j,rfl,G0,Pt,hR,hn,n1,n60,A0,yO,S0,xl,xb,q⟩:=h
  refine⟨_,Zu (ZK 3 rfl (YF o5 hr ZF (pc (vn 0) (pc (vn 1) (pc (vn 2) Zs)))))
   (Zu (YU (ZfK (ZM Zb5 (vn 3) Jf (ZO _)) (Zb4 (XL (cb (Vx rfl) T.any (pc (cmp ["k"] [] ["k"] rfl (itT K (vn 3)) (λ_ _ _ _ _=>gn 0) (λ_ _ _ _ _=>ZQ) (λ_ _ _ _ _=>Xm Za0 (vn 0) Zw (ZO _))) Zs))))).pt (Zv (ZE Jf)) Z2)
   (Zv (ZE (ct ZD T.tuple (pc (cmp ["row", "k"] [] ["row", "k"] rfl (ZaE K T3.zip (pc (vn 1) (pc (vn 3) Zs))) (λ_ _ _ _ _=>g2 K 0 1 rfl (gn 0) (gn 1)) (λ_ _ _ _ _=>ZfM (ZM Zdi (vn 1) Zw (ZO _))) (λ_ _ _ _ _=>VG (pc (vn 0) (pc (vn 1) Zs)))) Zs))))),?_⟩
  have sz:=Jv;refine⟨_,rfl,_,rfl,_,rfl,g,r,a,t,rs,n,O,j,rfl,G0,Pt,hR,hn,n1,n60,A0,yO,S0,xl,xb,λx H1 s1 Y=>?_⟩;have ml:(Y5 t n O j).length=j.length:=by unfold Y5;rw[Za]
  have o0:∀M,shL (t.length:Int) (Y5 t n O j)=some M->M.length=j.length:=λM h=>by rw[Zfq h,ml]
  generalize shL (t.length:Int) (Y5 t n O j)=o at Y q o0;cases o with
  |none=>
   have Y:x=.non:=Y;subst Y;exact⟨_,rfl,rfl,_,rfl,ZeO rfl (q .non H1 s1 .non)⟩
  |some M=>
   obtain⟨b,rfl,hb⟩:=Y;have zl:=o0 M rfl;have q0:=yO.1;refine⟨_,rfl,rfl,_,rfl,Vl (by simp) ?_⟩;refine⟨_,rfl,b,rfl,⟨_,.of hb⟩,?_⟩;refine YX (YJ (K:=K) (.of hb)) [] rfl ngV (by rw[Za];omega) (λi y H' hy s' R kk=>?_) (λD H2 nD s2 hD=>?_)
   ·obtain⟨_,rfl⟩:=N30.Ys hy
    exact⟨_,rfl,_,_,rfl,rfl,kk H' (Same.refl _)⟩
   have e:(M.map V.int).map ngV=(M.map λz=>decide (z<0)).map V.bl:=by rw[aL,aL];rfl
   rw[e] at hD;refine⟨D,_,rfl,.of hD,_,rfl,?_⟩;have ea:(M.map λz=>decide (z<0)).any id=M.any λz=>decide (z<0):=by rw[dG];rfl
   rw[ea];have U:=s1.trans s2;refine Y6 (λh=>?_) (λh=>?_)
   ·refine q .non H2 U ?_
    rw[show ZaK j (some M)=.none from if_pos h];exact .non
   ·obtain⟨cs,c1,c2,c3⟩:=A0
    have o7:=s2 _ _ hb;refine⟨_,rfl,_,rfl,r,b,true,true,_,_,H2,rfl,XV.tup (.of (U _ _ c1)),XV.tup (.of o7),Same.refl _,λJ At S o8=>?_⟩;refine Zbk S o8 (Same.refl _) [] rfl pz PrP (by rw[bO,Za,Za];omega) (λx y v H H' s ⟨T,a,b⟩=>⟨T,a,s _ _ b⟩) (λx y v H D ys o ⟨T,a,b⟩ h=>⟨T,a,by rw[Zy (λz=>by rw[z,h] at b;cases b)];exact b⟩) (λi x y H3 o9 s3 R R' h1 h2=>?_) (λD3 vs H3 r6 s3 p6 hv=>?_)
    ·obtain⟨c,e1,hk,rfl,rfl⟩:=Xn o9
     refine⟨_,rfl,_,_,rfl,rfl,_,rfl,Y6 (λhp=>?_) (λhp=>?_)⟩
     ·exact⟨_,rfl,_,rfl,JL,λT' nT=>h1 hp (.ref T') _ (Same.upd nT) ⟨T',rfl,Zt⟩⟩
     ·exact h2 (by simpa [pz] using hp) H3 (Same.refl _)
    ·refine⟨D3,_,rfl,.inl ⟨.of p6,λr' p7=>?_⟩⟩
     have s4:=Same.upd (H:=H3) (o:=.tup vs) p7;refine q (.ref r') _ ((U.trans s3).trans s4) ?_;rw[show ZaK j (some M)=.tuple (Zdg j M) from if_neg h];refine .tup (.of Zt) (ZeB cs j M vs c2 (λi c hc=>?_) (hv.map λx y v ⟨T,a,b⟩=>⟨T,a,s4 _ _ b⟩));obtain⟨ys,e1,RT⟩:=c3 i c hc;exact⟨ys,e1,RT.mono ((U.trans s3).trans s4)⟩
theorem Zls (F:Wf K "_law_paper" "_law_paper" (tq 60) f fd)(T:Bl mg)(T3:N30.Bl3 mg)(TM:BlM mg):ZW P w K mg base ZY 1 f fd ["_law_table", "_law_shares"] (Zej K):=by
 refine F.ok (FS (N:=["_law_table", "_law_shares"])) (λU H Q E h=>?_) (λp7 A o0 s H U Q E hr h=>?_)
 ·obtain⟨r,x,o,j,rfl,_⟩:=h;rfl
 ·obtain⟨r,x,o,j,rfl,A0,p8,Y,o5,q⟩:=h
  refine⟨_,Zu (YU (ZfK (ZM Zb5 (vn 1) Jf (ZO _)) (Zb4 (ZM Za0 (cb (Zhv K rfl) TM.min (pc (vn 1) Zs)) Zw (ZO _)))).pt (Zv (ZE Jf)) Z2)
   (Zv (ZE (ct ZD T.tuple (pc (cmp ["_law_row", "_law_often"] [] ["_law_row", "_law_often"] rfl (ZaE K T3.zip (pc (vn 0) (pc (vn 1) Zs))) (λ_ _ _ _ _=>g2 K 0 1 rfl (gn 0) (gn 1)) (λ_ _ _ _ _=>ZfM (ZM Zdi (vn 1) Zw (ZO _))) (λ_ _ _ _ _=>VG (pc (vn 0) (pc (vn 1) Zs)))) Zs)))),?_⟩
  have sz:=Jv;cases o with
  |none=>
   have Y:x=.non:=Y;subst Y;exact⟨_,rfl,rfl,_,rfl,ZeO rfl (q .non H (Same.refl _) .non)⟩
  |some zs=>
   obtain⟨b,rfl,hb⟩:=Y;obtain⟨zl,zn⟩:=o5 zs rfl;refine⟨_,rfl,rfl,_,rfl,Vl (by simp) ?_⟩;refine⟨_,rfl,b,zs,rfl,.of hb,zn,λM hM o6=>?_⟩;refine⟨_,_,rfl,rfl,_,rfl,?_⟩;have O:decide (M<0)=true↔zs.any (λz=>decide (z<0))=true:=by
    rw[decide_eq_true_iff,aZ];constructor
    ·intro h
     exact⟨M,hM,decide_eq_true h⟩
    ·rintro⟨z,hz,h⟩
     have:=o6 z hz;have:=of_decide_eq_true h;omega
   refine Y6 (λh=>?_) (λh=>?_)
   ·refine q .non H (Same.refl _) ?_
    rw[show ZaK j (some zs)=.none from if_pos (O.mp h)];exact .non
   ·obtain⟨cs,c1,c2,c3⟩:=A0
    refine⟨_,rfl,_,rfl,r,b,true,true,_,_,H,rfl,XV.tup (.of c1),XV.tup (.of hb),Same.refl _,λJ At S o7=>?_⟩;refine Zbk S o7 (Same.refl _) [] rfl pz PrP (by rw[bO,Za,Za];omega) (λx y v H H' s ⟨T,a,b⟩=>⟨T,a,s _ _ b⟩) (λx y v H D ys o ⟨T,a,b⟩ h=>⟨T,a,by rw[Zy (λz=>by rw[z,h] at b;cases b)];exact b⟩) (λi x y H3 o8 s3 R R' h1 h2=>?_) (λD3 U H3 q0 s3 o9 hv=>?_)
    ·obtain⟨c,e1,hk,rfl,rfl⟩:=Xn o8
     refine⟨_,rfl,_,_,rfl,rfl,_,rfl,Y6 (λhp=>?_) (λhp=>?_)⟩
     ·exact⟨_,rfl,_,rfl,JL,λT' nT=>h1 hp (.ref T') _ (Same.upd nT) ⟨T',rfl,Zt⟩⟩
     ·exact h2 (by simpa [pz] using hp) H3 (Same.refl _)
    ·refine⟨D3,_,rfl,.inl ⟨.of o9,λr' p6=>?_⟩⟩
     have s4:=Same.upd (H:=H3) (o:=.tup U) p6;refine q (.ref r') _ (s3.trans s4) ?_;rw[show ZaK j (some zs)=.tuple (Zdg j zs) from if_neg λw=>h (O.mpr w)];refine .tup (.of Zt) (ZeB cs j zs U c2 (λi c hc=>?_) (hv.map λx y v ⟨T,a,b⟩=>⟨T,a,s4 _ _ b⟩));obtain⟨ys,e1,RT⟩:=c3 i c hc;exact⟨ys,e1,RT.mono (s3.trans s4)⟩
def SmR (x:Int):Prop:=-(2 ^ 20)<x/\x<2 ^ 20
inductive Zei (vs:TR) (H:Hp) (Q:VK) (E03:XK):Prop
 |mk (r b:Addr) (mc tp:Nat) (yss:T8) (zs:TX):(vs=[.ref r,.ref b])->(Xz H r yss)->(RwO mc tp yss)->(1<=mc)->((∀ys∈yss,∀y∈ys,∀x∈y,SmR x))->(H b=some (.tup (zs.map V.int)))->(zs.length=yss.length)->(∀r' H',Same H H'->W1 H' r' (Y2 mc tp yss zs)->Q (.ref r') H')->Zei vs H Q E03
def fAM (k:Int):V->V->V
 | .int a,.int b=>.int (a+k*b)
 |x,_=>x
theorem Zga (k:Int):∀(xs ys:TX),(((xs.map V.int).zip (ys.map V.int)).map λq=>fAM k q.1 q.2)=(de (λa b=>a+k*b) xs ys).map V.int
 | [],_=>rfl
 |_::_,[]=>rfl
 |x::xs,y::ys=>by
  rw[aB,aB,gA,aB,List.zipWith_cons_cons,aB,Zga k xs ys];rfl
theorem Zqw {k:Int}{u v:TX}{q:Nat}(h:u.length=v.length)(j:q<u.length):Num.co (de (λa b=>a+k*b) u v) q=Num.co u q+k*Num.co v q:=by
 unfold Num.co;rw[Zb,fS,Zf j,Zf (by omega),Zb,Zf j,Zb,Zf (by omega)];rfl
def Ue (tp:Nat)(yss:T8)(j:TX)(i k:Nat):TX:=Num.XD tp λq=>Num.ZC k λs=>Num.co j s*Num.co ((yss.getD s []).getD i []) q
theorem Zkg {tp:Nat}{yss:T8}{zs:TX}{i k:Nat}{y:TX}(M:y.length=tp)(e:(yss.getD k []).getD i []=y):de (λa b=>a+Num.co zs k*b) (Ue tp yss zs i k) y=Ue tp yss zs i (k+1):=by
 have j:(Ue tp yss zs i k).length=tp:=Num.Yl _;refine J5 (tp:=tp) (by rw[fc,j,M];omega) (Num.Yl _) λq J=>?_;rw[Zqw (by rw[j,M]) (by rw[j];exact J)];unfold Ue;rw[Num.Y4 J,Num.Y4 J,Num.Jo,e]
theorem Zlr (F:Wf K "_law_put" "_law_put" (tq 58) f fd)(T:Bl mg)(T3:N30.Bl3 mg):ZW P w K mg base ZY 1 f fd ["_law_table", "_law_shares"] Zei:=by
 refine F.ok (FS (N:=["_law_table", "_law_shares", "_law_found", "_law_c", "_law_number", "_law_row", "_law_often"])) (λvs H Q E h=>?_) (λcdv A t6 s H vs Q E hr h=>?_)
 ·obtain⟨r,b,mc,Y,M,zs,rfl,_⟩:=h;rfl
 ·obtain⟨r,b,mc,Y,M,zs,rfl,A0,O,mc1,t7,hB,zl,q⟩:=h
  refine⟨_,Zu (ZK 2 rfl (ZS Zs))
   (Zu (ZV au rfl (UT T.range (pc (cb (YL K) T.len (pc (ZU (VA K) (vn 0) Zw (λ_ _=>rfl)) Zs)) Zs)) (gn 3)
   (Zu (ZK 4 rfl (Zz WU (ZS (pc Zw Zs)) (cb (YL K) T.len (pc (ZU (VA K) (ZU (VA K) (vn 0) Zw (λ_ _=>rfl)) Zw (λ_ _=>rfl)) Zs))))
   (Zu (ZV au rfl (ZaE K T3.zip (pc (vn 0) (pc (vn 1) Zs))) (g2 K 5 6 rfl (gn 5) (gnf 6 rfl))
   (Zv (ZkN 4 ["_law_a", "_law_b"] [6] ["_law_a", "_law_b", "_law_often"] rfl rfl (ZaE K T3.zip (pc (vn 4) (pc (ZU (VA K) (vn 5) (vn 3) (λ_ _=>rfl)) Zs))) (λ_ _ _ _ _=>g2 K 0 1 rfl (gn 0) (gn 1)) (λ_ _ _ _ _=>ZQ) (λ_ _ _ _ _=>Zz YD (vn 0) (Zz Z0 (vn 2) (vn 1))))))
   (Zv (Yx (Wv aM aS aT Z3 (vn 2) (pc (ct ZD T.tuple (pc (vn 4) Zs)) Zs)))))))
   (Zv (ZE (ct ZD T.tuple (pc (vn 2) Zs))))),?_⟩
  have sz:=Jv;obtain⟨y1,y60,m60,t60,yO⟩:=id O;obtain⟨cs,c1,c2,c3⟩:=id A0;refine⟨JL,λL nL=>?_⟩;obtain⟨H1,t9,s1,h1⟩:=Vg (o:=.lst []) nL;rw[t9];have p7:cs[0]?=some (cs.getD 0 0):=Z8 (by omega);obtain⟨u5,e0,R0⟩:=c3 0 _ p7;obtain⟨ds,d1,d2,d3⟩:=R0;obtain⟨o6,u9⟩:=yO u5 (ah e0);have p8:Xy (cs.map V.ref) 0=some (.ref (cs.getD 0 0)):=ZR (j:=0) (by rw[Zc,p7];rfl);refine⟨_,rfl,r,_,_,_,rfl,rfl,.of (s1 _ _ c1),p8,cs.getD 0 0,_,rfl,.inr (.of (s1 _ _ d1)),_,rfl,?_,?_,?_⟩
  ·rw[Za,d2,o6];omega
  ·rw[Za,d2,o6];omega
  rw[Za,d2,o6,Zj];have q0:ds[0]?=some (ds.getD 0 0):=Z8 (by omega);obtain⟨w6,w8,w9⟩:=d3 0 _ q0;have x6:=u9 w6 (ah w8);refine WN (λi U H'=>∃(rs:TU) (v3 v4 v5 v6:TQ),U=[some (.ref r),some (.ref b),some (.ref L),v3,v4,v5,v6]/\Same H H'/\H' L=some (.lst (rs.map V.ref))/\rs.length=i/\∀(j:Nat) x,rs[j]?=some x->H' x=some (.tup (((Y2 mc Y M zs).getD j []).map V.int))) ⟨[],_,_,_,_,rfl,s1,h1,rfl,λj x h=>by cases h⟩ ?_ ?_
  ·rintro i U H2 hi ⟨rs,v3,v4,v5,v6,rfl,s2,h2,rl,o7⟩
   rw[show (0:Int)+(i:Int)=(i:Int) by omega];refine⟨JL,λl0 x8=>?_⟩;obtain⟨H3,x9,s3,h3⟩:=Vg (o:=.lst [.int 0]) x8;rw[x9];have o0:=s2.trans s3;refine⟨_,rfl,r,_,_,_,rfl,rfl,.of (o0 _ _ c1),p8,cs.getD 0 0,_,_,_,rfl,rfl,.of (o0 _ _ d1),ZR (j:=0) (by rw[Zc,q0];rfl),ds.getD 0 0,_,rfl,.inr (.of (o0 _ _ w9)),?_⟩;rw[Za,x6];refine⟨l0,_,_,rfl,rfl,h3,by omega,by omega,by rw[Zj];show 1*Y<=sizeLine;omega,λln y4=>?_⟩;rw[Zj];have er:(am Y [V.int 0]).flatten=(Ue Y M zs i 0).map V.int:=by
    have:Ue Y M zs i 0=am Y 0:=by
     unfold Ue Num.XD;refine a6 λq=>?_;rw[Zc,cP];by_cases hq:q<Y
     ·rw[ao hq,if_pos hq];rfl
     ·rw[ag (by rw[Zg];omega),if_neg hq];rfl
    rw[this,List.map_replicate,List.flatten_replicate_singleton]
   rw[er];obtain⟨H4,y6,s4,h4⟩:=Vg (o:=.lst ((Ue Y M zs i 0).map V.int)) y4;rw[y6];have y8:=s4 _ _ (s3 _ _ h2);have o5:=o0.trans s4;have y9:=s3.trans s4;refine⟨_,rfl,_,rfl,r,b,true,true,_,_,H4,rfl,XV.tup (.of (o5 _ _ c1)),XV.tup (.of (o5 _ _ hB)),Same.refl _,λJ At S o8=>?_⟩;have pl:((cs.map V.ref).zip (zs.map V.int)).length=M.length:=by rw[bO,Za,Za,c2];omega
   refine Zcp S (λk U H'=>∃(lk:Addr) (v5 v6:TQ),U=[some (.ref r),some (.ref b),some (.ref L),some (.int (i:Nat)),some (.ref lk),v5,v6]/\Same H4 H'/\H' lk=some (.lst ((Ue Y M zs i k).map V.int))) ⟨ln,_,_,rfl,Same.refl _,h4⟩ (λk U H' ⟨_,_,_,_,sm,_⟩=>o8 H' sm) ?_ ?_
   ·rintro k y z U H5 T' hyz ⟨lk,v5,v6,rfl,s5,h5⟩ nT
    obtain⟨c,e1,hk,rfl,rfl⟩:=Xn hyz;have s6:=Same.upd (H:=H5) (o:=.tup [.ref c,.int (Num.co zs k)]) nT;have h6:=Zt (H:=H5) (a:=T') (o:=.tup [.ref c,.int (Num.co zs k)]);generalize upd H5 T' (.tup [.ref c,.int (Num.co zs k)])=H6 at s6 h6 ⊢;refine⟨T',_,rfl,.of h6,rfl,_,_,rfl,_,_,rfl,rfl,?_⟩;have r6:=s5.trans s6;have s16:=o5.trans r6;obtain⟨ys,e2,RT⟩:=c3 k c e1;obtain⟨o9,u1,u2,u3⟩:=RT.mono s16;obtain⟨yl,yt⟩:=yO ys (ah e2);have r8:i<o9.length:=by rw[u2,yl];exact hi
    obtain⟨yy,w1,w2⟩:=u3 i (o9.getD i 0) (Z8 r8);have r9:=ah w1;have ey:(M.getD k []).getD i []=yy:=by
     rw[Zb (l:=M),e2];show ys.getD i []=yy;rw[Zb,w1];rfl
    refine⟨_,rfl,_,rfl,_,rfl,c,_,_,_,rfl,rfl,.of u1,ZR (by rw[Zc,Z8 r8];rfl),lk,o9.getD i 0,false,true,_,_,H6,rfl,XV.lst (.of (s6 _ _ h5)),XV.tup (.of w2),Same.refl _,λJ At S o8=>?_⟩;refine Zak S o8 (Same.refl _) [some (.int (Num.co zs k))] rfl (fAM (Num.co zs k)) (by rw[bO,Za,Za];unfold Ue;rw[Num.Yl];omega) (λj x y H7 p6 s7 R kR=>?_) (λD H7 nD s7 hD=>?_)
    ·rw[bh] at p6
     obtain⟨_,rfl⟩:=N30.Ys p6.1;obtain⟨hj,rfl⟩:=N30.Ys p6.2;have sm:=t7 ys (ah e2) yy r9 _ (ah (Num.Z9 hj));exact⟨_,rfl,_,rfl,_,rfl,_,_,rfl,rfl,.inr ⟨by have:=sm.1;omega,by have:=sm.2;omega⟩,_,_,rfl,rfl,kR H7 (Same.refl _)⟩
    ·rw[Zga,Zkg (yt yy r9) ey] at hD
     exact⟨D,_,_,rfl,r6.trans s7,hD⟩
   ·rintro U H5 ⟨lk,v5,v6,rfl,s5,h5⟩
    rw[pl] at h5;have t0:=s5 _ _ y8;refine⟨_,rfl,.inl ⟨rfl,_,.of t0⟩,_,rfl,lk,_,rfl,.inl ⟨.of h5,λgr ngr=>?_⟩⟩;obtain⟨H6,eH6,s6,h6⟩:=Vg (o:=.tup ((Ue Y M zs i M.length).map V.int)) ngr;rw[eH6];have t5:=s6 _ _ t0;refine⟨L,_,_,rfl,rfl,t5,by rw[Za,rl];omega,?_⟩;refine⟨rs++[gr],_,_,_,_,rfl,((o5.trans s5).trans s6).updr nL,by rw[Zt,aO];rfl,by rw[Zd,rl];rfl,λj x hx=>?_⟩;have up:∀x v,H6 x=some (.tup v)->upd H6 L (.lst (rs.map V.ref++[.ref gr])) x=some (.tup v):=λx v h=>by
     rw[Zy (λz=>by rw[z,t5] at h;cases h)];exact h
    by_cases hj:j<rs.length
    ·rw[aq hj] at hx
     exact up _ _ ((y9.trans (s5.trans s6)) _ _ (o7 j x hx))
    ·have hl:=(ab.mp hx).1
     rw[Zd,Zk] at hl;have ej:j=i:=by omega
     rw[aw (by omega),ej,rl,cS] at hx;cases hx;have ep:(Y2 mc Y M zs).getD j []=Ue Y M zs i M.length:=by
      unfold Y2;rw[ej,Zb,Zc,ao hi];rfl
     rw[ep];exact up _ _ h6
  ·rintro U H2 ⟨rs,v3,v4,v5,v6,rfl,s2,h2,rl,o7⟩
   refine⟨_,rfl,L,_,rfl,.inl ⟨.of h2,λr' nr'=>?_⟩⟩;have s3:=Same.upd (H:=H2) (o:=.tup (rs.map V.ref)) nr';exact q r' _ (s2.trans s3) ⟨rs,Zt,by unfold Y2;rw[Za,Zg,rl],λj x hx=>s3 _ _ (o7 j x hx)⟩
inductive ZpO (x:V) (lo:Option Int) (hi:Option Int) (H:Hp) (Q:VK):Prop
 |mk (a:_) (xs:_):(x=.ref a)->(H a=some (.tup xs))->(∀p H',Same H H'->H' p=some (.tup (Jj xs lo hi))->Q (.ref p) H')->ZpO x lo hi H Q
theorem Zfo {X:Cx}:SlR X ZpO:=by
 intro j s U H x v Y vu lo M sl Q I rx hs pl pu h;obtain⟨a,xs,rfl,O,q⟩:=h;by_cases J:HT.Y1 xs.length 0 lo=0/\HT.Y1 xs.length xs.length M=xs.length
 ·refine Zh7 (X:=X) j s U H _ v Y vu lo M sl Q I rx hs pl pu ⟨a,xs,rfl,.of O,J,q a H (Same.refl _) ?_⟩
  rw[O];unfold Jj;rw[J.1,J.2,iO,dJ,cp]
 ·exact Zh8 (X:=X) j s U H _ v Y vu lo M sl Q I rx hs pl pu ⟨a,xs,rfl,.of O,J,λp hp=>q p _ (Same.upd hp) Zt⟩
theorem Zr1 {xs:TR}{c:Nat}(h:c<=xs.length):Jj xs none (some (c:Int))=xs.take c:=by
 unfold Jj;rw[HT.Vd,HT.Vb,iO,dJ,km h]
theorem Zr2 {xs:TR}{c:Nat}:Jj xs (some (c:Int)) none=xs.drop c:=by
 unfold Jj;rw[HT.Vd,HT.Vb];by_cases h:c<=xs.length
 ·rw[km h]
  exact fJ (by rw[cr];exact Zq _)
 ·rw[Nat.min_eq_right (by omega),iw (Zq _),iw (by omega),List.take_nil]
inductive ZhZ (vs:TR) (H:Hp) (Q:VK) (E03:XK):Prop
 |mk (p:Addr) (b m:Nat) (bw:Bool):(vs=[.ref p,.int (m:Nat),.bl bw])->(YS H p b)->(b+100<2 ^ 60)->(m<=60)->(∀(r:Addr) (zs:TX) H',Tk p H H'->YS H' p (b+60)->H' r=some (.tup (zs.map V.int))->zs.length=m->(∀z∈zs,-3<z/\z<4)->Q (.ref r) H')->ZhZ vs H Q E03
inductive Zh5 (vs:TR) (H:Hp) (Q:VK) (E03:XK):Prop
 |mk (p a:Addr) (b tp B:Nat) (xss:TZ):(vs=[.ref p,.ref a])->(YS H p b)->(b+100<2 ^ 60)->(W1 H a xss)->(1<=xss.length)->(xss.length<=60)->(1<=tp)->(tp<=60)->((∀xs∈xss,xs.length=tp/\∀x∈xs,x.natAbs<=B))->(∀r xss' H',Tk p H H'->YS H' p (b+10)->W1 H' r xss'->xss'.length=xss.length->(∀xs∈xss',xs.length=tp/\∀x∈xs,x.natAbs<=B+12)->Q (.ref r) H')->Zh5 vs H Q E03
theorem ZnP (F:Wf K "_law_some_shares" "_law_some_shares" (tq 57) f fd)(T:Bl mg)(o6:Fn P w K mg base ZY 1 "_law_pick" ["_law_tape_here", "_law_many"] VC):ZW P w K mg base ZY 2 f fd ["_law_tape_here", "_law_many", "_law_below"] ZhZ:=by
 refine F.ok (FS (N:=["_law_tape_here", "_law_many", "_law_below", "_law_menu"])) (λvs H Q E h=>?_) (λt7 A o7 s H vs Q E hr h=>?_)
 ·obtain⟨p,b,m,O,rfl,_⟩:=h;rfl
 ·obtain⟨p,b,m,O,rfl,T0,hb,t9,q⟩:=h
  refine⟨_,Zu (ZK 3 rfl (Zz ZeC (ZS (pc Zw (pc Zw (pc Zw (pc Zw (pc Zw (pc Zw Zs))))))) (Zz WU (ZS (pc (JN Wz Zw) (pc (JN Wz Zw) Zs))) (ct Zhx T.int (pc (vn 2) Zs)))))
   (Zv (ZE (ct ZD T.tuple (pc (cmp ["_law_k"] [3,0] ["_law_k", "_law_menu", "_law_tape_here"] rfl (UT T.range (pc (vn 1) Zs)) (λ_ _ _ _ _=>gn 0) (λ_ _ _ _ _=>ZQ) (λ_ _ _ _ _=>ZU (ixL K) (vn 1) (YF o6 hr ZF (pc (vn 2) (pc (cb (YL K) (by exact T.len) (pc (vn 1) Zs)) Zs))) (λ_ _=>rfl))) Zs)))),?_⟩
  have sz:=Jv;refine⟨JL,λl1 o8=>?_⟩;obtain⟨H1,o9,s1,h1⟩:=Vg (o:=.lst [.int 0,.int 0,.int 1,.int 1,.int 2,.int 3]) o8;rw[o9];refine⟨_,rfl,_,rfl,JL,λl2 p6=>?_⟩;obtain⟨H2,p7,s2,h2⟩:=Vg (o:=.lst [.int (-1),.int (-2)]) p6;rw[p7];have ek:(if O then 1 else 0:Int)=((if O then 1 else 0:Nat):Int):=by cases O <;> rfl
  refine⟨_,rfl,.inr ⟨O,rfl,l2,_,_,rfl,rfl,h2,?_,?_,?_,λl3 p8=>?_⟩⟩
  ·cases O <;> decide
  ·cases O <;> decide
  ·cases O
   ·show 2*0<=sizeLine;omega
   ·show 2*1<=sizeLine;omega
  obtain⟨me,ee,m2,mb⟩:∃me:TX,(am (if O=true then 1 else 0:Int).toNat [V.int (-1),V.int (-2)]).flatten=me.map V.int/\me.length<=2/\∀z∈me,-3<z/\z<4:=by
   cases O
   ·exact⟨[],rfl,by decide,λz M=>by cases M⟩
   ·exact⟨[-1,-2],rfl,by decide,by decide⟩
  rw[ee];obtain⟨H3,q0,s3,h3⟩:=Vg (o:=.lst (me.map V.int)) p8;rw[q0];refine⟨l1,l3,_,_,rfl,rfl,(s2.trans s3) _ _ h1,h3,by rw[Za];show 6+me.length<=sizeLine;omega,λlm r6=>?_⟩;have r8:∀z∈([0,0,1,1,2,3]:TX),-3<z/\z<4:=by decide
  obtain⟨J,em,ml,mh,mb⟩:∃J:TX,([V.int 0,.int 0,.int 1,.int 1,.int 2,.int 3]++me.map V.int)=J.map V.int/\1<=J.length/\J.length<=8/\∀z∈J,-3<z/\z<4:=⟨[0,0,1,1,2,3]++me,by rw[aO];rfl,by rw[Zd];show 1<=6+_;omega,by rw[Zd];show 6+_<=8;omega,λz M=>by
   rcases bv.mp M with M|M
   ·exact r8 z M
   ·exact mb z M⟩
  rw[em];obtain⟨H4,r9,s4,h4⟩:=Vg (o:=.lst (J.map V.int)) r6;rw[r9];have o0:=(s1.trans s2).trans (s3.trans s4);have T4:=T0.mono o0;refine⟨_,rfl,_,rfl,by omega,by omega,?_⟩;rw[Zj];have rl:((Wo 0 m).map V.int).length=m:=by rw[Za,Y9]
  refine Vu (xs:=(Wo 0 m).map V.int) (λD j ys U=>Tk p H4 U/\YS U p (b+j)/\∃ns:TX,ys=ns.map V.int/\ns.length=j/\∀z∈ns,-3<z/\z<4) [some (.ref lm),some (.ref p)] rfl (by rw[rl];omega) ?_ ?_ ?_ ?_
  ·intro D j ys U hD Y _
   have S:=Xi (H:=U) 0 m;exact⟨λhj=>⟨S.go j U (Same.refl _) hj,λx t0 y=>S.yld j U x t0 (Same.refl _) hj y⟩,λe=>e▸S.stop U (Same.refl _)⟩
  ·intro D hD
   exact⟨Tk.of (Same.upd hD),T4.mono (Same.upd hD),[],rfl,rfl,λx hx=>by cases hx⟩
  ·rintro D j y ys U hD Y hy ⟨kD,TD,ns,rfl,nl,sm⟩ R k
   have hj:j<m:=by
    have:=(ab.mp hy).1;rw[rl] at this;exact this
   have o5:=kD.lst T4 h4;refine⟨_,rfl,_,rfl,_,rfl,lm,_,rfl,.inl (.of o5),p,_,b+j,rfl,TD,by omega,by rw[Za];omega,by rw[Za];omega,λr5 H5 c0 c1 k5 T5=>?_⟩;rw[Za] at c1;obtain⟨e,rfl⟩:=a7 c0;have he:e<J.length:=by omega
   have t5:Xy (J.map V.int) (e:Int)=some (.int J[e]):=ZR (by rw[Zc,Zf he];rfl);refine⟨lm,_,_,_,rfl,rfl,.of (k5.lst TD o5),t5,k _ H5 (k5.lst TD Y) ?_⟩;have t6:D≠p:=T4.neN hD;refine⟨(kD.trans k5).updN hD,(T5.updN t6).le (by omega),ns++[J[e]],by rw[aO];rfl,by rw[Zd,nl];rfl,λz M=>?_⟩;rcases bv.mp M with M|M
   ·exact sm z M
   ·rw[aJ.mp M]
    exact mb _ (be he)
  ·rintro D ys U hD Y hl ⟨kD,TD,ns,rfl,nl,sm⟩
   rw[rl] at nl TD;refine⟨D,_,rfl,.inl ⟨.of Y,λr nr=>?_⟩⟩;have s5:=Same.upd (H:=U) (o:=.tup (ns.map V.int)) nr;exact q r ns _ (((Tk.of o0).trans kD).same s5) ((TD.mono s5).le (by omega)) Zt nl sm
theorem ZnX (F:Wf K "_law_changed" "_law_changed" (tq 59) f fd)(T:Bl mg)(o0:Fn P w K mg base ZY 1 "_law_pick" ["_law_tape_here", "_law_many"] VC):ZW P w K mg base ZY 2 f fd ["_law_tape_here", "_law_spread"] Zh5:=by
 refine F.ok (FS (N:=["_law_tape_here", "_law_spread", "_law_c", "_law_j", "_law_number"])) (λvs H Q E h=>?_) (λx8 A r8 s H vs Q E hr h=>?_)
 ·obtain⟨p,a,b,tp,B,O,rfl,_⟩:=h;rfl
 ·obtain⟨p,a,b,tp,B,O,rfl,T0,hb,⟨rs,a1,a2,a3⟩,x1,x9,t1,y4,hx,q⟩:=h
  refine⟨_,Zu (ZK 2 rfl (YF o0 hr ZF (pc (vn 0) (pc (cb (YL K) T.len (pc (vn 1) Zs)) Zs))))
   (Zu (ZK 3 rfl (YF o0 hr ZF (pc (vn 0) (pc (cb (YL K) T.len (pc (ZU (VA K) (vn 1) (vn 2) (λ_ _=>rfl)) Zs)) Zs))))
   (Zu (ZK 4 rfl (ct JK T.list (pc (ZU (VA K) (vn 1) (vn 2) (λ_ _=>rfl)) Zs)))
   (Zu (UY (Zz YD (ZU (ixL K) (vn 4) (vn 3) (λ_ _=>rfl)) (ZU (ixL K) (ZS (pc Zw (pc (JN Wz Zw) (pc Zw (pc Zw Zs))))) (YF o0 hr ZF (pc (vn 0) (pc Zw Zs))) (λ_ _=>rfl))) (U2 (vn 4) (vn 3) YT))
   (Zv (ZE (Zz Zb6 (Zz Zb6 (WT Zfo (vn 1) Jz (Jy (vn 2))) (VG (pc (ct ZD T.tuple (pc (vn 4) Zs)) Zs))) (WT Zfo (vn 1) (Jy (Zz YD (vn 2) Zw)) Jz))))))),?_⟩
  have sz:=Jv;have el:(rs.map V.ref).length=O.length:=by rw[Za,a2]
  refine⟨_,rfl,_,rfl,a,_,rfl,.inr (.of a1),p,_,b,rfl,T0,by omega,by rw[el];omega,by rw[el];omega,λy1 H1 b0 b1 k1 T1=>?_⟩;rw[el] at b1;obtain⟨c,rfl⟩:=a7 b0;have hc:c<O.length:=by omega
  have o5:c<rs.length:=by omega
  obtain⟨xl,xb⟩:=hx _ (Vi hc);have o8:=k1.tup T0 a1;have o9:=k1.tup T0 (a3 c _ (Z8 o5));have p6:Xy (rs.map V.ref) (c:Int)=some (.ref (rs.getD c 0)):=ZR (by rw[Zc,Z8 o5];rfl);refine⟨_,rfl,_,rfl,_,rfl,a,_,_,_,rfl,rfl,.of o8,p6,rs.getD c 0,_,rfl,.inr (.of o9),p,_,_,rfl,T1,by omega,by rw[Za,xl];omega,by rw[Za,xl];omega,λy2 H2 c0 c1 k2 T2=>?_⟩;rw[Za,xl] at c1;obtain⟨j,rfl⟩:=a7 c0;have hj:j<tp:=by omega
  have p7:=k2.tup T1 o8;have r9:=k2.tup T1 o9;refine⟨_,rfl,_,rfl,a,_,_,_,rfl,rfl,.of p7,p6,rs.getD c 0,_,rfl,.inr (.of r9),λU o6=>?_⟩;obtain⟨H3,t0,s3,h3⟩:=Vg (o:=.lst ((O.getD c []).map V.int)) o6;rw[t0];have t5:U≠p:=T2.neN o6;generalize O.getD c []=J at xl xb h3;have t6:Xy (J.map V.int) (j:Int)=some (.int (Num.co J j)):=ZR (by rw[Zc,Num.Z9 (by omega)];rfl);refine⟨_,rfl,_,rfl,U,_,_,_,rfl,rfl,.of h3,t6,_,rfl,JL,λM nM=>?_⟩;obtain⟨H4,t7,s4,h4⟩:=Vg (o:=.lst [.int 1,.int (-1),.int 2,.int 12]) nM;rw[t7];have p8:=s3.trans s4;have T4:=T2.mono p8;refine⟨_,rfl,p,_,_,rfl,T4,by omega,by decide,by decide,λy3 H5 d0 d1 k5 T5=>?_⟩;obtain⟨v,hv,vb⟩:∃v:Int,Xy [V.int 1,.int (-1),.int 2,.int 12] y3=some (.int v)/\v.natAbs<=12:=by
   have:y3=0\/y3=1\/y3=2\/y3=3:=by omega
   rcases this with rfl|rfl|rfl|rfl
   ·exact⟨1,ZR (j:=0) rfl,by decide⟩
   ·exact⟨-1,ZR (j:=1) rfl,by decide⟩
   ·exact⟨2,ZR (j:=2) rfl,by decide⟩
   ·exact⟨12,ZR (j:=3) rfl,by decide⟩
  have h5:=k5.lst T4 (s4 _ _ h3);have t9:Tk p H2 H5:=(Tk.of p8).trans k5;refine⟨M,_,_,_,rfl,rfl,.of (k5.lst T4 h4),hv,_,_,rfl,rfl,_,rfl,_,rfl,U,_,_,j,rfl,rfl,h5,J3 (by rw[Za];omega),?_⟩;have Y:Tk p H2 (upd H5 U (.lst ((J.map V.int).set j (.int (Num.co J j+v))))):=t9.updN o6;have T6:YS (upd H5 U (.lst ((J.map V.int).set j (.int (Num.co J j+v))))) p (b+1+1+1):=T5.updN t5;have h6:upd H5 U (.lst ((J.map V.int).set j (.int (Num.co J j+v)))) U=some (.lst ((J.set j (Num.co J j+v)).map V.int)):=by rw[Zt,lF]
  try dsimp only
  generalize upd H5 U (.lst ((J.map V.int).set j (.int (Num.co J j+v))))=H6 at Y T6 h6 ⊢;have q0:=Y.tup T2 p7;refine⟨_,rfl,_,rfl,_,rfl,a,_,rfl,q0,λp1 H7 s7 h7=>?_⟩;refine⟨_,rfl,U,_,rfl,.inl ⟨.of (s7 _ _ h6),λtn u5=>?_⟩⟩;obtain⟨H8,u9,s8,h8⟩:=Vg (o:=.tup ((J.set j (Num.co J j+v)).map V.int)) u5;rw[u9];refine⟨JL,λq1 w6=>?_⟩;obtain⟨H9,w8,s9,h9⟩:=Vg (o:=.tup [.ref tn]) w6;rw[w8];rw[Zr1 (by rw[el];omega)] at h7;refine⟨p1,q1,_,_,rfl,rfl,(s8.trans s9) _ _ h7,h9,by rw[bE];show _+1<=sizeLine;omega,λp2 HA sA hA=>?_⟩;have r6:=((s7.trans s8).trans s9).trans sA;refine⟨_,rfl,_,rfl,_,_,rfl,rfl,_,rfl,a,_,rfl,r6 _ _ q0,λp3 HB sB hB=>?_⟩;rw[show (c:Int)+1=((c+1:Nat):Int) by omega,Zr2] at hB;refine⟨p2,p3,_,_,rfl,rfl,sB _ _ hA,hB,by rw[Zd,bE,cr];show _+1+_<=sizeLine;omega,λp4 HC sC hC=>?_⟩;have o7:=(r6.trans sB).trans sC;have eC:(rs.map V.ref).take c++[V.ref tn]++(rs.map V.ref).drop (c+1)=(rs.set c tn).map V.ref:=by
   rw[lF,List.set_eq_take_append_cons_drop,if_pos (by omega),eh];rfl
  rw[eC] at hC;have w9:=(((s9.trans sA).trans sB).trans sC) _ _ h8;refine q p4 (O.set c (J.set j (Num.co J j+v))) HC (((k1.trans k2).trans Y).same o7) ((T6.mono o7).le (by omega)) ⟨rs.set c tn,hC,by rw[aY,aY,a2],λi r hr=>?_⟩ (by rw[aY]) λxs x6=>?_
  ·by_cases hi:i=c
   ·subst hi
    rw[fM o5] at hr;cases hr;rw[Zb,fM hc];exact w9
   ·rw[f6 (by omega)] at hr
    rw[Zb,f6 (by omega),<-Zb];exact o7 _ _ (Y.tup T2 (k2.tup T1 (k1.tup T0 (a3 i r hr))))
  ·rcases kL x6 with h|rfl
   ·obtain⟨u1,u2⟩:=hx xs h
    exact⟨u1,λx hx=>aN (u2 x hx) (by omega)⟩
   ·refine⟨by rw[aY,xl],λx hx=>?_⟩
    rcases kL hx with h|rfl
    ·exact aN (xb x h) (by omega)
    ·have:=xb _ (ah (Num.Z9 (a:=J) (i:=j) (by omega)))
     omega
end C30
namespace Tb
def ZlY:Nat->Nat->TY
 |0,_=>[]
 |k+1,x=>x % 64::ZlY k (x / 64)
def dgb (b:Nat):Nat->Nat->TY
 |0,_=>[]
 |k+1,x=>x % b::dgb b k (x / b)
def rwL {α:Type}(k:Nat):Nat->List α->List (List α)
 |0,_=>[]
 |r+1,l=>l.take k::rwL k r (l.drop k)
def ZrZ (N m n p z:Nat)(r:TY):TY×Dt:=(r.take N,⟨n,p,z,(r.drop N).take N,(r.drop (2*N)).take m,rwL m m (r.drop (2*N+m)),rwL m m (r.drop (2*N+m+m*m)),rwL m m (r.drop (2*N+m+2*(m*m))),r.drop (2*N+m+3*(m*m))⟩)
def Zr0 (x:Nat):TY×Dt:=match ZlY 5 x with
 | [N,m,n,p,z]=>ZrZ N m n p z (ZlY (2*N+2*m+3*(m*m)) (x / 1073741824))
 |_=>([],⟨0,0,0,[],[],[],[],[],[]⟩)
end Tb
namespace Pm
open Tb
noncomputable def Vs:List (TY×Dt):=[
 0x410410000010c1041,
 0x10410420410420420810810010010020c2082,
 0x410410411020421010410440810840451450c61460c50810020400420021c30c3,
 0x1041041041043102042103044044041041043102042103044044044104103042102043101101103081003081001083002144104,
 0x410410410410411052430432451012440c50450c42410410410441490c10c91440491031411431090492492491440432430441490450c42440c50491030810040c20400420c40032c5145,
 0x10410410410410410440811020451060830421010840430861050460460460410410410440811020451060830421010840430861050460460460461861861850c61431841410c21831460c51820c11441811811811851030810051030810010831050031c6186,
 0x410410410410410410416505d85070545d91d84014181d95d40586544075c15c74146580475185d06410410410410594176141c15176476100506076575016195101d70571d05196011d46174190596596596590475185d06575014181d91d84015176580571d05195101d70586505d85070591851030810061440c20400420c41460077471c7,
 0x104104104104104104104104934f40810204d40404d40404f10940234804210840f34904440d04440d04834240910f05005005005004104104104104934f40810204d40404d40404f10940234804210840f34904440d04440d04834240910f05005005005004f3cf3cf3cf3cd2410842103c90883c90883c120d0902443d020408124d3c80893c80893c425008d2013c23c23c23c23c7185103081007185103081001083105187002448208,
 0x410410410410410410410410411462d12474040444072512c61414092c510744604b1c12c704b1c14442d01871490472c11cb0472c11911c414b2500491471902c444104104104104104518b4491d01011101c944b18505024b1441d11812c704b1c12c705110b4061c52411cb0472c11cb0464471052c94012451c640b1110514514514514512c61411101c94491d01011462d11c414b2500464454111504454110491471902c44501514054501511814092c51074442d01871490512071851030810081c61440c20400420c41461c80044c9249,
 0x10410410410410410410410410410460c724a1481020441490c11052430432451010c91440491031412440c504210814a2470c604824610a0c21470471420ca1062480450c424114310904a04a04a04a04a0410410410410410460c724a1481020441490c11052430432451010c91440491031412440c504210814a2470c604824610a0c21470471420ca1062480450c424114310904a04a04a04a04a04a28a28a28a28a2891c31810842052880861ca20218728718220a1c608828620708a1881c22852040811831c92841892011c50832830851c12091842821c818a0872062812812812812812892071851030810092071851030810010831051872090022ca28a,
 0x410810411810400c10c20440810060461860461800830810010820810011030850031c60c6,
 0x8104104c00000104104104130c04104c04c04104c30130000004108208104b2c20412c22c10422cb0460000071451451452081451481481451482051c30810040c1083081007181103085005344148,
 0x104208104104128104900704700904214204218204700304300704a28a28a04a2880051c50081c70810030830810820810072091811030850022ca10a,
 0x20410410860c00040410410410410461810460460460460411860410c00030461800010410830c20410841020460840c50460831050411800060420400061430c30c30c30c41030c40c40c40c40c31040c50400011491c30810040c50840c108308100728920b1811030850031c618c,
 0x1041041041044101044044041104041041044101044044041104044104101044101101104041103081003081003081004142104,
 0x104104104104104104104104820c30514104514c30820104c30104c30104c04c04c04c04520130814c04814130520c04130c04130c04104104104104820c30514104514c30820104c30104c30104c04c04c04c04520130814c04814130520c04130c04130c04514514514514c30820104514104820c30514820514820514814814814814130520c04814c045201308145208145208147185103081007185103081003085107181005344208,
 0x30410400800440420420440410410401800420c10410c20440c40401401860c50c50c60c30c30c40810030420c20c10c10810051090470cb2860880031c610c,
 0x8104104c00000104104104130c04104c04c04104c30130000004108208104b2c20412c22c10422cb046000007145145145208145148148145148205103081003081103081003081107185005344148,
 0x104104208830c14104104104104c04130104530c2010401810060401cc00604b2cc0820430810c204a0812820422cc2c204030100c04004c00c04804114c30c30c30c30130c04c30504120c3000890022402c40022461440810021011451440c20810081412c308a10718900234c18c,
 0x410410410410410410410410410811041020810440420821040411041020420420411020441020810840440811020420821011011011020421010840410840420841010410410410410420441040820411010820841010441040810810810440811040820421011020440810820840440440440810840421010421010821040441041041041040840410420841011020820411040410421021021040421010420840811010840421020820440440440421020440811040811020810442071851030810081c61440c20401410c80861070021c3249,
 0x41041120a090410410410680680412688010400002819641040451451019059040449251010000280570929e79e79e79c29c29e74825e79c00002091840810040820440c30c20411041030c20810033c725238d3080502d108511318a002a54154,
 0x830410c118000110010904104104104130c0440091010c900004c00b0810c81860432071c130008b04b04000b2002050861861861861c71880052023430810040840830c10c20840c10c30420c10430810175955102854cf38d24448c0470d12c608800234c158,
 0x410430c10410410469010419060412000060460002010c71c3043aa50c10e5a83058000481480018069a69a69a4e7e9a697cea6954001c65c0005592040810010c30821040c30820840430c30820402102464c704b0cd15250f44a08c10e009ad5155].map Zr0
noncomputable def Zqu (x:T7×(TY×Dt)):Bool:=match dfs x.1 61 [ac (x.1.getD 0 []).length] [ac (x.1.getD 0 []).length] with
 |none=>false
 |some j=>tdB (Wg j) x.2.1 x.2.2
theorem Zl0:(Zaz.zip Vs).all Zqu=true:=by decide +kernel
theorem ZjW:Zaz.length=Vs.length:=by decide +kernel
end Pm
namespace Tb
section
variable {t:T7}{o:TY}
theorem UV (P:PW t)(O:Ord t.length o){i j:Nat}(J:i<t.length)(M:j<t.length):o.getD (ZT (ren t o) i j) 0=ZT t (o.getD i 0) (o.getD j 0):=by
 rw[Zcb O J M];exact (Wd O (P.lt _ _ (Yj O J) (Yj O M))).2
theorem Wq (O:Ord t.length o):(ren t o).length=t.length:=by rw[Uo,O.len]
theorem Zc8 (P:PW t)(O:Ord t.length o){a:Nat}(j:a<t.length):∀k,o.getD (it (ren t o) a k) 0=it t (o.getD a 0) k
 |0=>O.z
 |k+1=>by
  have J:=Jd P O;have:=W6 J (a:=a) (by rw[Wq O];exact j) k;rw[Wq O] at this;rw[it,UV P O this j,Zc8 P O j k];rfl
theorem Ziz (P:PW t)(O:Ord t.length o){a:Nat}(j:a<t.length):o.getD (YY (ren t o) a) 0=YY t (o.getD a 0):=by
 have U:=Jd P O;have M:=Wq O;obtain⟨J,Y⟩:=Yw U (a:=a) (by rw[M];exact j);rw[M] at J;refine VU P (Yj O j) (Yj O J) ?_;rw[<-UV P O j J,Y];exact O.z
theorem UU (P:PW t)(O:Ord t.length o){b x:Nat}(hb:b<t.length)(j:x<t.length):o.getD (tb (ren t o) b x) 0=tb t (o.getD b 0) (o.getD x 0):=by
 have M:=Jd P O;have J:=Wq O;have U:=(Yw M (a:=x) (by rw[J];exact j)).1;have Y:=M.lt x b (by rw[J];exact j) (by rw[J];exact hb);rw[J] at U Y;unfold tb;rw[UV P O Y U,UV P O j hb,Ziz P O j]
theorem Znp (O:Ord t.length o){x:Nat}(j:x<t.length):pos o (o.getD x 0)=x:=by
 have h:=Wd O (Yj O j);exact inj O h.1 j h.2
theorem ZmD (O:Ord t.length o)(F:Nat->Nat):sm t.length (λx=>F (o.getD x 0))=sm t.length F:=
 ZbO (c:=λx=>o.getD x 0) (d:=λx=>pos o x) (λx j=>Yj O j) (λx j=>(Wd O j).1) (λx j=>Znp O j) (λx j=>(Wd O j).2) F
theorem ZmE (P:PW t)(O:Ord t.length o){u x:Nat}(U:u<t.length)(hx:x<t.length):cjB (ren t o) u x=cjB t (o.getD u 0) (o.getD x 0):=by
 have P':=Jd P O;have j:=Wq O;rw[fu,XT,XT,j];constructor
 ·rintro⟨y,J,e⟩
  exact⟨o.getD y 0,Yj O J,by rw[<-UU P O U J,e]⟩
 ·rintro⟨y,J,e⟩
  have M:=Wd O J;refine⟨pos o y,M.1,?_⟩;have Y:=XZ P' (b:=u) (x:=pos o y) (by rw[j];exact U) (by rw[j];exact M.1);rw[j] at Y;refine inj O Y hx ?_;rw[UU P O U M.1,M.2,e]
variable {n p m:Nat}{e ω φ:Nat->Nat->Nat}{z:Nat}{dg:Nat->Nat}
theorem Znq (P:PW t)(O:Ord t.length o):ClW (ren t o) (λx=>YN t (o.getD x 0)) (λk=>pos o (ZL t k)) (ZH t t.length).length:=by
 have P':=Jd P O;have J:=Wq O;have U:=YE P;refine⟨λx j=>?_,λx j=>?_,λx s j Y=>?_,λx j=>?_,λk hk=>?_,λk hk=>?_⟩
 ·rw[J] at j;exact U.lt _ (Yj O j)
 ·rw[J] at j
  rw[U.z _ (Yj O j)];constructor
  ·intro h
   exact inj O j P.n1 (h.trans O.z.symm)
  ·intro h
   rw[h];exact O.z
 ·rw[J] at j Y
  show YN t (o.getD (tb (ren t o) x s) 0)=_;rw[UU P O j Y];exact U.con _ _ (Yj O j) (Yj O Y)
 ·rw[J] at j ⊢
  have hc:=U.lt _ (Yj O j);have hr:=U.rl _ hc;obtain⟨s,Y,es⟩:=U.tr (ZL t (YN t (o.getD x 0))) (o.getD x 0) hr (Yj O j) (U.rn _ hc);have hp:=Wd O Y;have M:=Wd O hr;refine⟨pos o s,hp.1,?_⟩;have h1:=XZ P' (b:=pos o (ZL t (YN t (o.getD x 0)))) (x:=pos o s) (by rw[J];exact M.1) (by rw[J];exact hp.1);rw[J] at h1;refine inj O h1 j ?_;rw[UU P O M.1 hp.1,hp.2,M.2,es]
 ·rw[J];exact (Wd O (U.rl k hk)).1
 ·show YN t (o.getD (pos o (ZL t k)) 0)=k
  rw[(Wd O (U.rl k hk)).2];exact U.rn k hk
theorem TD.ren (P:PW t)(O:Ord t.length o)(D:TD t n p m e ω φ z dg):TD (ren t o) n p m (λs x=>e s (o.getD x 0)) (λs x=>ω s (o.getD x 0)) (λs x=>φ s (o.getD x 0)) z dg:=by
 have P':=Jd P O;have M:=Wq O;have C:=D.cd;have lt:∀{x},x<(Tb.ren t o).length->x<t.length:=λ{x} h=>by rw[M] at h;exact h
 have e0:∀s,e s (o.getD 0 0)=e s 0:=λs=>by rw[O.z]
 refine⟨⟨C.pr,C.m1,C.mc.trans ((Znq P O).count P'),λs x y J j hy=>?_,λs x y J j hy=>?_,λs x J j=>C.elt s _ J (Yj O (lt j)),λs x J j=>C.wlt s _ J (Yj O (lt j)),λs u z J hu hz=>?_,λx j=>?_,λs s' J U=>?_,λs s' J U h=>?_⟩,D.n1,D.n60,λa ha=>?_,λx j=>?_,by rw[M];exact D.fit,D.rt,D.d1,D.dp,D.dl,λs J=>by rw[M];show ((dg s:Int)*(dg s:Int)-(e s (o.getD 0 0):Int)*(t.length:Int)) % (p:Int)=0;rw[e0];exact D.dq s J,λs d' J a b=>by rw[M];show ((d':Int)*(d':Int)-(e s (o.getD 0 0):Int)*(t.length:Int)) % (p:Int)≠0;rw[e0];exact D.dm s d' J a b⟩
 ·show e s (o.getD (tb (Tb.ren t o) x y) 0)=_
  rw[UU P O (lt j) (lt hy)];exact C.ec s _ _ J (Yj O (lt j)) (Yj O (lt hy))
 ·show ω s (o.getD (tb (Tb.ren t o) x y) 0)=_
  rw[UU P O (lt j) (lt hy)];exact C.wc s _ _ J (Yj O (lt j)) (Yj O (lt hy))
 ·rw[M]
  have h1:sm t.length (λx=>J4 (cjB (Tb.ren t o) u x)*e s (o.getD (ZT (Tb.ren t o) (YY (Tb.ren t o) x) z) 0))=sm t.length (λx=>(λy=>J4 (cjB t (o.getD u 0) y)*e s (ZT t (YY t y) (o.getD z 0))) (o.getD x 0)):=YA λx j=>by
   have hb:=(Yw P' (a:=x) (by rw[M];exact j)).1;rw[M] at hb;show _=J4 (cjB t (o.getD u 0) (o.getD x 0))*e s (ZT t (YY t (o.getD x 0)) (o.getD z 0));rw[ZmE P O (lt hu) j,UV P O hb (lt hz),Ziz P O j]
  rw[h1,ZmD O (λy=>J4 (cjB t (o.getD u 0) y)*e s (ZT t (YY t y) (o.getD z 0)))];exact C.eig s _ _ J (Yj O (lt hu)) (Yj O (lt hz))
 ·have:=C.one _ (Yj O (lt j))
  rw[this];by_cases h:x=0
  ·rw[if_pos h,h,O.z,if_pos rfl]
  ·rw[if_neg h,if_neg]
   intro q;exact h (inj O (lt j) P.n1 (q.trans O.z.symm))
 ·rw[M,ZmD O (λy=>φ s y*e s' y)]
  exact C.du s s' J U
 ·refine C.sep s s' J U λu hu=>?_
  have Y:=Wd O hu;have:=h (pos o u) (by rw[M];exact Y.1);rw[Y.2] at this;exact this
 ·have hi:=W6 P' ha n
  rw[M] at hi;refine inj O hi P.n1 ?_;rw[Zc8 P O (lt ha),O.z];exact D.all _ (Yj O (lt ha))
 ·refine D.mn x λa ha=>?_
  have Y:=Wd O ha;have:=j (pos o a) (by rw[M];exact Y.1);have h2:=Zc8 P O Y.1 x;rw[this,Y.2,O.z] at h2;exact h2.symm
end
end Tb
namespace C30
open PySem L2 PySem.Spec PyProof.Rows
open Tb Pm
def flp (n:Nat)(xs:TX):TX:=Num.Jg n (N30.ZG n) (N30.RN n) (Num.ZcN n (-1) xs)
structure Dx where
 top:Nat
 R:TZ
 X:T8
 F:T8
 sz:TX
def ZrY (top n m:Nat)(r:TX)(X:T8)(e:TX):Dx:=⟨top,rwL top n r,X,(e.take m).map λj=>X.getD (j+8).toNat [],(e.drop m).map (· + 8)⟩
def ZrX (x:Nat):Dx:=match ZlY 3 x with
 | [top,n,m]=>(λr:TX=>ZrY top n m r ((rwL (m*top) m (r.drop (n*top))).map (rwL top m)) (r.drop ((n+m*m)*top))) ((dgb 16 ((n+m*m)*top+2*m) (x / 262144)).map λ(v:Nat)=>(v:Int)-8)
 |_=>⟨0,[],[],[],[]⟩
noncomputable def dxs:List Dx:=[
 0x42641041,
 0x444265e5e42081,
 0x444806262625de622661de25de622430c2,
 0x4444c48226262625e21e6226621de2261e261e25e21e62244102,
 0x4444508c0622262226222622262225ddde6222262222622226226226226221ddde22262621ddde22626222222662222261ddde26222225ddde62222622226222245144,
 0x4444454850c2262626262625e25e25e25e25e5e21e5e62265de2265de226625e1de1e6261e261e261e25e5e21e5e62246182,
 0x444444580d0496222226222226222226222226222226222226222225ddddde622222262222226222222622222262222226222622262221ddddde222262226222622222222226622222226222222261ddddde262222222622222226226221ddddde222622622222222262262222222226262222222262622222222621ddddde226222222226222262222622226222262222622221ddddde222225ddddde62222226222222622222262222226222222471c6,
 0x44444445cc85950222262226222622262226222622262225e2221e2221e2221e62222622226222261e22221e262222261e22221e2622222621e22621e222221e22621e2262222226226226226222221e21e21e21e22222262622221e1e2222262622221e1e22222662221e222262221de222262221e22226221e2226221e2226221e2226221e2225e2221e2221e2221e62222622226222248204,
 0x44444444619c48114e222226222226222226222226222226222226222226222226222225e21e221e21e221e21e62222226222222622222262222226222222622226222262222622226222262222221e21e1e21e1e21e2222222622262226222221e21de21e222222622262226222221e21e222222621e21e22622222222621e21e22622222222621e21e22622222222662222222226221e21e2226221e21e2226221e21e2226222222222622622221e21e22222622622221e21e22222622622221e21e2222261e21e2622222226222222261e21e2221e21e262222222622222226262221e21e222262221e21e222262221e21e222262622222222225e21e221e21e221e21e6222222622222262222226222222622222249246,
 0x4444444446519c608d422226222622262226222622262226222622262225e5e5e2221e2221e2221e5e5e622226222262222626225e5e21e1e222222626225e5e21e1e2222225e22221e25e5e26222225e22221e25e5e2622222621e22621e2225e5e222621e22621e2225e5e22262262262262225e5e221e21e21e21e221e5e62226622221e1e5e62622221de22222625e5e1e2222261e225e5e2261e222221e2621e5e621e2622222265e5de222262221e222265e5de222262221e22226221e2226221e2226221e2226221e2226221e2225e5e5e2221e2221e2221e5e5e6222262222622224a284,
 0xc848422626261e2626221e29e5e21e5e62243182,
 0x488850c8421a2222222a2626262626261e1e2626261e261e2626261e1e25e21e62245102,
 0x9484c84222262226222622262226221e22262225e62222225e1e222a5e1e2221e6222229e5e5e2221e2221e2221e5e5e62222622226222244284,
 0x48cc8550c8421a1e2222262a26262626262626261e1e26261e261e261e261e26261e1e262a1e22221e29e5e21e5e62246182,
 0x4444c8426665de65e5e65de5e44081,
 0x44444445d590c4822626262626262625e1e21e1e6262262662621e1de1e226261e1e26261e1e26261e261e261e261e2661e2261de2621e25e262261e61e21e26261e1e26261e1e25e21e62248102,
 0x10d04c482221e222de2265e265e25e22626262625e5e21e5e62244182,
 0x488850c8421a2222222a2626262626261e1e2626261e261e2626261e1e25e21e62245102,
 0xc84c8490d4426222221e221de22222262226222622262226222622262226221e22262226221e22262225e222221e221e6222222622262222221e222a2222221e222a22222226221a2222221e2229e2621e25e2221e2221e2221e61e2261e62222622226222246304,
 0x44444444619c8054d22626262626262626266225ddddde62622625de26626261ddde2625ddddde62266226622625de6225ddde62622661de25de6225de6226626261de25de25de25de622661de2661de262661de266261ddde25de622490c2,
 0x1555044c902226222222222221e21e22222222222262222222622222226222222262222222622222226222222262222221e222222262222221e222222262222222621e222222222221e2262222222222226222222262222222222222222222222222222221e22222231e261e2621e261e25e22222221e22222221e22222221e22222221e22222221e22222221e22222221e61e261e2261e261e62222222262222222262222222262222222262222222262222222262222222245508,
 0xe19850c842222a221e22222222222a221e2222221e2226222e2226222622262226222622262226221e221e2226221e22222226221e222de2621e25e2221e2221e2221e61e2261e62222622226222245304,
 0xddcc508c062222222222262222222222262222222222262222222222262222222222262222222222262221e222221e2222622222222222222222262222222222262222222222262222622222222221e222221e222222222226222222222225e25e221e21e222222222222222222222222261e62226225e22222222222e61e62226225e222222222222222222222221e25e221e21e222222222222de61e61e25e25e25e25de61e5e222221e22221e222221e22221e222221e22221e222221e22221e222221e5e25de61e61e61e61e25e25e622222222222262222222222226222222222222622222222222262222222222226222222222222622222222222262222222222226222222222222622222222222262222222222224554c].map ZrX
def at3 (M:T8)(s c:Nat):TX:=(M.getD s []).getD c []
def xvB (t:T7)(D:Dt)(Y:Dx):Bool:=
 decide (N30.ZG D.n=Y.top) && (N30.RN D.n == Y.R) && fA D.rp.length λs=>fA D.rp.length λc=>
  Num.Jg D.n Y.top Y.R ((ac D.n).map (ofF D.n (rdT t (D.rp.getD c 0)) D.p ((t.length:Int)*(bkM D.p (D.dg.getD s 0):Int)) D.z λk=>(V7 D.E s (D.cl.getD (it t (D.rp.getD c 0) k) 0):Int))) == at3 Y.X s c
def ZkM (t:T7)(D:Dt)(c:Nat):Int:=((sm t.length λx=>J4 (decide (D.cl.getD x 0=c)):Nat):Int)
def gS (top:Nat)(f:Nat->TX):Nat->TX
 |0=>am top 0
 |c+1=>de (· + ·) (gS top f c) (f c)
noncomputable def orB (t:T7)(D:Dt)(Y:Dx):Bool:=decide (1<=Y.top) && decide (Y.top<=12) && decide (D.rp.length<=12) && (fA D.rp.length λc=>ZkM t D c == Num.co Y.sz c) &&
 (fA D.rp.length λs=>fA D.rp.length λc=>Num.Jg D.n Y.top Y.R (Num.ZcN D.n (-1) (at3 Y.X s c)) == at3 Y.F s c) &&
 (fA D.rp.length λs=>fA D.rp.length λj=>gS Y.top (λc=>(Num.Yn D.n Y.top Y.R (at3 Y.X s c) (at3 Y.F j c)).map (Num.co Y.sz c * ·)) D.rp.length == (if s=j then (t.length:Int) else 0)::am (Y.top-1) 0) &&
 (fA D.rp.length λc=>fA D.rp.length λJ=>(gS Y.top (λs=>Num.Yn D.n Y.top Y.R (at3 Y.F s c) (at3 Y.X s J)) D.rp.length).map (Num.co Y.sz c * ·) == (if c=J then (t.length:Int) else 0)::am (Y.top-1) 0) &&
 fA D.rp.length λs=>fA D.rp.length λc=>((at3 Y.X s c).all λx=>decide (-(2 ^ 20)<x) && decide (x<2 ^ 20)) && (at3 Y.F s c).all λx=>decide (-(2 ^ 20)<x) && decide (x<2 ^ 20)
noncomputable def dxB (x:T7×((TY×Dt)×Dx)):Bool:=match dfs x.1 61 [ac (x.1.getD 0 []).length] [ac (x.1.getD 0 []).length] with
 |none=>false
 |some j=>xvB (Wg j) x.2.1.2 x.2.2 && orB (Wg j) x.2.1.2 x.2.2
noncomputable def okX (i:Nat):Bool:=((Zaz.zip (Vs.zip dxs))[i]?).all dxB
theorem Zot:∀i,i<23->okX i=true
 |0,_|1,_|2,_|3,_|4,_|5,_|6,_|7,_|8,_|9,_|10,_|11,_|12,_|13,_|14,_|15,_|16,_|17,_|18,_|19,_|20,_|21,_|22,_=>by decide +kernel
 |n+23,h=>by omega
theorem Zgc:Vs.length=dxs.length/\dxs.length=23:=by decide +kernel
section
variable {dg:Nat->Nat}
theorem Zm5 (P:PW t){s x y:Nat}(ec:∀x y,x<t.length->y<t.length->e s (tb t x y)=e s x)(j:x<t.length)(J:y<t.length):Xv t n p e z dg s (tb t x y)=Xv t n p e z dg s x:=by
 unfold Xv;rw[Znr P j J];congr 2;funext k;rw[Zjq P j J,ec _ _ (W6 P j k) J]
theorem ZkW (P:PW t)(O:Ord t.length o){x:Nat}(J:x<t.length):rdT (ren t o) x=rdT t (o.getD x 0):=by
 unfold rdT;rw[Wq O];have j:(λr=>it (ren t o) x (r+1) == 0)=λr=>it t (o.getD x 0) (r+1) == 0:=funext λr=>by
  have U:=Zc8 P O J (r+1);have M:=W6 (Jd P O) (a:=x) (by rw[Wq O];exact J) (r+1);rw[Wq O] at M;rw[<-U];by_cases q:it (ren t o) x (r+1)=0
  ·rw[q,O.z]
  ·have Y:o.getD (it (ren t o) x (r+1)) 0≠0:=λw=>q (inj O M P.n1 (w.trans O.z.symm))
   rw[beq_eq_false_iff_ne.mpr q,beq_eq_false_iff_ne.mpr Y]
 rw[j]
theorem Zm4 (P:PW t)(O:Ord t.length o){s x:Nat}(j:x<t.length):Xv (ren t o) n p (λs x=>e s (o.getD x 0)) z dg s x=Xv t n p e z dg s (o.getD x 0):=by
 unfold Xv;rw[ZkW P O j,Wq O];congr 2;funext k;show ((e s (o.getD (it (ren t o) x k) 0):Nat):Int)=_;rw[Zc8 P O j]
theorem Uy (P:PW t)(O:Ord t.length o){x y:Nat}(j:x<t.length)(J:y<t.length):YN (ren t o) x=YN (ren t o) y↔YN t (o.getD x 0)=YN t (o.getD y 0):=by
 have U:=Jd P O;have len:(ren t o).length=t.length:=Wq O;have M:=Zat U (u:=y) (x:=x) (by rw[len];exact J) (by rw[len];exact j);have Y:=Zat P (u:=o.getD y 0) (x:=o.getD x 0) (Yj O J) (Yj O j);rw[ZmE P O J j,Y] at M;rw[<-decide_eq_true_eq (p:=YN (ren t o) x=_),<-decide_eq_true_eq (p:=YN t _=_),M]
end
theorem ZhI {t:T7}{n p:Nat}{e:Nat->Nat->Nat}{z:Nat}{dg:Nat->Nat}(s x:Nat):(Xv t n p e z dg s x).length=N30.ZG n:=by unfold Xv Zja;exact Num.WV _ _ _ _
def szT (t:T7)(x:Nat):Int:=YB t.length λw=>if YN t w=YN t x then 1 else 0
structure OrS (t:T7)(n m:Nat)(X:Nat->Nat->TX):Prop where
 len:∀s x,(X s x).length=N30.ZG n
 row:∀s s' q,s<m->s'<m->q<N30.ZG n->YB t.length (λx=>Num.co (Num.Yn n (N30.ZG n) (N30.RN n) (X s x) (flp n (X s' x))) q)=if s=s'/\q=0 then (t.length:Int) else 0
 col:∀x y q,x<t.length->y<t.length->q<N30.ZG n->szT t x*YB m (λs=>Num.co (Num.Yn n (N30.ZG n) (N30.RN n) (flp n (X s x)) (X s y)) q)=if YN t x=YN t y/\q=0 then (t.length:Int) else 0
 cls:∀s x y,s<m->x<t.length->y<t.length->X s (tb t x y)=X s x
 sm:∀s x v,s<m->x<t.length->v∈X s x->-(2 ^ 20)<v/\v<2 ^ 20
 fm:∀s x v,s<m->x<t.length->v∈flp n (X s x)->-(2 ^ 20)<v/\v<2 ^ 20
 t12:N30.ZG n<=12
 m12:m<=12
theorem Ziy {t:T7}{o:TY}(O:Ord t.length o)(F:Nat->Int):YB t.length (λx=>F (o.getD x 0))=YB t.length F:=by
 have M:((ac t.length).map λx=>o.getD x 0).Perm (ac t.length):=by
  have:(ac t.length).map (λx=>o.getD x 0)=o:=by
   refine a6 λi=>?_;by_cases J:i<t.length
   ·rw[Zc,ao J,Z8 (by rw[O.len];exact J)]
    rfl
   ·rw[ag (by rw[Za,Zg];omega),ag (by rw[O.len];omega)]
  rw[this];exact (cW O.nd cT).mpr λx=>⟨λh=>af.mpr (O.lt x h),λh=>O.all x (af.mp h)⟩
 unfold YB;have U:(ac t.length).map (λx=>F (o.getD x 0))=((ac t.length).map λx=>o.getD x 0).map F:=by rw[aL];rfl
 rw[U];have j:=M.map F;generalize ((ac t.length).map λx=>o.getD x 0).map F=l1 at j;generalize (ac t.length).map F=l2 at j ⊢;induction j with
 |nil=>rfl
 |cons x _ Y=>rw[cw,cw,Y]
 |swap x y l=>rw[cw,cw,cw,cw];omega
 |trans _ _ a b=>rw[a,b]
theorem OrS.ren {t:T7}{o:TY}{n m:Nat}{X:Nat->Nat->TX}(P:PW t)(O:Ord t.length o)(S:OrS t n m X){Y:Nat->Nat->TX}(hl:∀s x,(Y s x).length=N30.ZG n)(M:∀s x,x<t.length->Y s x=X s (o.getD x 0)):OrS (ren t o) n m Y:=by
 have P':=Jd P O;have len:=Wq O;have lt:∀{x},x<(Tb.ren t o).length->x<t.length:=λ{x} h=>by rw[len] at h;exact h
 refine⟨hl,λs s' q U o0 hq=>?_,λx y q j J hq=>?_,λs x y U j J=>?_,λs x v U j hv=>?_,λs x v U j hv=>?_,S.t12,S.m12⟩
 ·rw[len,<-S.row s s' q U o0 hq,<-Ziy O λx=>Num.co (Num.Yn n (N30.ZG n) (N30.RN n) (X s x) (flp n (X s' x))) q]
  exact ZJ λx j=>by rw[M s x j,M s' x j]
 ·have j:=lt j
  have J:=lt J;have e1:szT (Tb.ren t o) x=szT t (o.getD x 0):=by
   unfold szT;rw[len,<-Ziy O λw=>if YN t w=YN t (o.getD x 0) then 1 else 0]
   refine ZJ λw hw=>?_;by_cases h:YN (Tb.ren t o) w=YN (Tb.ren t o) x
   ·rw[if_pos h,if_pos ((Uy P O hw j).mp h)]
   ·rw[if_neg h,if_neg λz=>h ((Uy P O hw j).mpr z)]
  have h:=S.col _ _ q (Yj O j) (Yj O J) hq;have e2:YB m (λs=>Num.co (Num.Yn n (N30.ZG n) (N30.RN n) (flp n (Y s x)) (Y s y)) q)=YB m (λs=>Num.co (Num.Yn n (N30.ZG n) (N30.RN n) (flp n (X s (o.getD x 0))) (X s (o.getD y 0))) q):=ZJ λs _=>by rw[M s x j,M s y J]
  rw[e1,e2,h,len];by_cases hc:YN t (o.getD x 0)=YN t (o.getD y 0)/\q=0
  ·rw[if_pos hc,if_pos ⟨(Uy P O j J).mpr hc.1,hc.2⟩]
  ·rw[if_neg hc,if_neg λz=>hc ⟨(Uy P O j J).mp z.1,z.2⟩]
 ·have h1:=XZ P' j J
  rw[M s _ (lt h1),M s x (lt j),UU P O (lt j) (lt J)];exact S.cls s _ _ U (Yj O (lt j)) (Yj O (lt J))
 ·rw[M s x (lt j)] at hv
  exact S.sm s _ v U (Yj O (lt j)) hv
 ·rw[M s x (lt j)] at hv
  exact S.fm s _ v U (Yj O (lt j)) hv
theorem ZoC {t:T7}{bs:TY}{D:Dt}(P:PW t)(h:tdB t bs D=true):ClW t (λx=>D.cl.getD x 0) (λk=>D.rp.getD k 0) D.rp.length:=by
 unfold tdB at h;simp only[ae] at h;obtain⟨⟨⟨⟨⟨⟨⟨⟨⟨⟨⟨⟨⟨⟨⟨h1,h2⟩,h3⟩,h4⟩,h5⟩,h6⟩,h7⟩,h8⟩,J⟩,j⟩,M⟩,O⟩,U⟩,Y⟩,o0⟩,o5⟩:=h;exact Zj8 P J j
theorem Zfg {N m:Nat}{c:Nat->Nat}(j:∀x,x<N->c x<m)(F:Nat->Int):YB N (λx=>F (c x))=YB m λk=>YB N (λx=>if c x=k then 1 else 0)*F k:=by
 have e:∀k,YB N (λx=>if c x=k then 1 else 0)*F k=YB N λx=>if k=c x then F k else 0:=λk=>by
  rw[bd,<-W2];refine ZJ λx _=>?_;by_cases h:c x=k
  ·rw[if_pos h,if_pos h.symm,eR]
  ·rw[if_neg h,if_neg λz=>h z.symm,bc]
 rw[ZJ λk _=>e k,UN];exact ZJ λx J=>(ZbP (j x J) F).symm
theorem ZjE {top:Nat}{f:Nat->TX}:∀m,(∀c,c<m->(f c).length=top)->(gS top f m).length=top
 |0,_=>Ze
 |m+1,h=>by
  rw[gS,fc,ZjE m λc j=>h c (by omega),h m (by omega)];omega
theorem ZjF {top q:Nat}{f:Nat->TX}(j:q<top):∀m,(∀c,c<m->(f c).length=top)->Num.co (gS top f m) q=YB m λc=>Num.co (f c) q
 |0,_=>by
  show (am top (0:Int)).getD q 0=0;rw[Zb,cP,if_pos j];rfl
 |m+1,h=>by
  have J:=ZjE m λc M=>h c (by omega);rw[Yq,<-ZjF j m λc M=>h c (by omega),gS];unfold Num.co;rw[Zb,fS,Zf (by rw[J];exact j),Zf (by rw[h m (by omega)];exact j),Zb,Zf (by rw[J];exact j),Zb,Zf (by rw[h m (by omega)];exact j)];rfl
theorem Zj4 {l:TX}{k:Int}{q:Nat}:Num.co (l.map (k * ·)) q=k*Num.co l q:=by
 unfold Num.co;rw[Zb,Zc,Zb];cases l[q]? with
 |none=>exact (bc k).symm
 |some x=>rfl
theorem Zj2 {top q:Nat}(k:Int)(j:q<top):Num.co (k::am (top-1) 0) q=if q=0 then k else 0:=by
 unfold Num.co;cases q with
 |zero=>rfl
 |succ q=>
  rw[if_neg (by omega),mK,Zb,cP,if_pos (by omega)];rfl
theorem Zcz {t:T7}{cl rp:Nat->Nat}{m:Nat}(P:PW t)(C:ClW t cl rp m){x y:Nat}(J:x<t.length)(Y:y<t.length):cl x=cl y↔YN t x=YN t y:=by
 have U:=YE P;constructor
 ·intro h
  obtain⟨s,M,es⟩:=C.tr x J;obtain⟨s',O,j⟩:=C.tr y Y;rw[<-h] at j;have r:=C.rl _ (C.lt x J);have h1:=U.con _ s r M;have h2:=U.con _ s' r O;rw[es] at h1;rw[j] at h2;rw[h1,h2]
 ·intro h
  obtain⟨s,M,e⟩:=U.tr x y J Y h;rw[<-e];exact (C.con x s J M).symm
theorem Zlg {t:T7}{bs:TY}{D:Dt}{Y:Dx}(P:PW t)(h:tdB t bs D=true)(j:xvB t D Y=true)(hf:orB t D Y=true):OrS t D.n D.rp.length (Xv t D.n D.p (eD D) D.z λs=>D.dg.getD s 0):=by
 have C:=ZoC P h;have T:=Zmm P h;unfold xvB at j;rw[ae,ae,decide_eq_true_eq] at j;obtain⟨⟨M,U⟩,o7⟩:=j;have U:=eq_of_beq U;unfold orB at hf;simp only[ae,decide_eq_true_eq] at hf;obtain⟨⟨⟨⟨⟨⟨⟨t1,t12⟩,m12⟩,fz⟩,f0⟩,f1⟩,f2⟩,f3⟩:=hf;have cls:∀s x y,s<D.rp.length->x<t.length->y<t.length->Xv t D.n D.p (eD D) D.z (λs=>D.dg.getD s 0) s (tb t x y)=Xv t D.n D.p (eD D) D.z (λs=>D.dg.getD s 0) s x:=λs x y J j hy=>Zm5 P (λa b ha hb=>T.cd.ec s a b J ha hb) j hy;have rep:∀s c,s<D.rp.length->c<D.rp.length->Xv t D.n D.p (eD D) D.z (λs=>D.dg.getD s 0) s (D.rp.getD c 0)=at3 Y.X s c:=λs c J O=>by
  have:=eq_of_beq (Z4 (Z4 o7 J) O);rw[<-this];unfold Xv Zja;rw[M,U];rfl
 have at':∀s x,s<D.rp.length->x<t.length->Xv t D.n D.p (eD D) D.z (λs=>D.dg.getD s 0) s x=at3 Y.X s (D.cl.getD x 0):=λs x J j=>by
  have O:=C.lt x j;obtain⟨y,hy,ey⟩:=C.tr x j;have h1:=cls s _ y J (C.rl _ O) hy;rw[ey] at h1;rw[h1];exact rep s _ J O
 have fl:∀s c,s<D.rp.length->c<D.rp.length->flp D.n (at3 Y.X s c)=at3 Y.F s c:=λs c J O=>by
  rw[<-eq_of_beq (Z4 (Z4 f0 J) O)];unfold flp;rw[M,U]
 have o6:∀c,ZkM t D c=YB t.length λx=>if D.cl.getD x 0=c then 1 else 0:=λc=>by
  unfold ZkM;rw[<-X6];refine ZJ λx _=>?_;by_cases h:D.cl.getD x 0=c
  ·rw[if_pos h,decide_eq_true h];rfl
  ·rw[if_neg h,decide_eq_false h];rfl
 refine⟨ZhI,λs s' q J o0 hq=>?_,λx y q j hy hq=>?_,cls,λs x v J j hv=>?_,λs x v J j hv=>?_,by rw[M];exact t12,m12⟩
 ·rw[M] at hq
  have h1:=congrArg (λl=>Num.co l q) (eq_of_beq (Z4 (Z4 f1 J) o0));have h1:Num.co (gS Y.top (λc=>(Num.Yn D.n Y.top Y.R (at3 Y.X s c) (at3 Y.F s' c)).map (Num.co Y.sz c * ·)) D.rp.length) q=Num.co ((if s=s' then (t.length:Int) else 0)::am (Y.top-1) 0) q:=h1
  rw[ZjF hq _ (λc _=>by rw[Za,Num.YC]),Zj2 _ hq] at h1;have e0:(if s=s'/\q=0 then (t.length:Int) else 0)=if q=0 then if s=s' then (t.length:Int) else 0 else 0:=by
   by_cases a:s=s' <;> by_cases b:q=0 <;> simp[a,b]
  rw[e0,<-h1];have e1:YB t.length (λx=>Num.co (Num.Yn D.n (N30.ZG D.n) (N30.RN D.n) (Xv t D.n D.p (eD D) D.z (λs=>D.dg.getD s 0) s x) (flp D.n (Xv t D.n D.p (eD D) D.z (λs=>D.dg.getD s 0) s' x))) q)=YB t.length λx=>(λc=>Num.co (Num.Yn D.n Y.top Y.R (at3 Y.X s c) (at3 Y.F s' c)) q) (D.cl.getD x 0):=ZJ λx j=>by
   rw[at' s x J j,at' s' x o0 j,fl s' _ o0 (C.lt x j),M,U]
  rw[e1];refine (Zfg (c:=λx=>D.cl.getD x 0) C.lt λc=>Num.co (Num.Yn D.n Y.top Y.R (at3 Y.X s c) (at3 Y.F s' c)) q).trans ?_;exact ZJ λc O=>by rw[Zj4,<-eq_of_beq (Z4 fz O),o6 c]
 ·rw[M] at hq
  have o5:=C.lt x j;have o8:=C.lt y hy;have h1:=congrArg (λl=>Num.co l q) (eq_of_beq (Z4 (Z4 f2 o5) o8));have h1:Num.co ((gS Y.top (λs=>Num.Yn D.n Y.top Y.R (at3 Y.F s (D.cl.getD x 0)) (at3 Y.X s (D.cl.getD y 0))) D.rp.length).map (Num.co Y.sz (D.cl.getD x 0) * ·)) q=Num.co ((if D.cl.getD x 0=D.cl.getD y 0 then (t.length:Int) else 0)::am (Y.top-1) 0) q:=h1
  rw[Zj4,ZjF hq _ (λc _=>Num.YC ..),Zj2 _ hq,<-eq_of_beq (Z4 fz o5)] at h1;have e3:(if D.cl.getD x 0=D.cl.getD y 0/\q=0 then (t.length:Int) else 0)=if q=0 then if D.cl.getD x 0=D.cl.getD y 0 then (t.length:Int) else 0 else 0:=by
   by_cases a:D.cl.getD x 0=D.cl.getD y 0 <;> by_cases b:q=0 <;> simp[a,b]
  rw[<-e3] at h1;have e0:szT t x=ZkM t D (D.cl.getD x 0):=by
   rw[o6];unfold szT;refine ZJ λw hw=>?_;by_cases h:D.cl.getD w 0=D.cl.getD x 0
   ·rw[if_pos h,if_pos ((Zcz P C hw j).mp h)]
   ·rw[if_neg h,if_neg λz=>h ((Zcz P C hw j).mpr z)]
  have e1:YB D.rp.length (λs=>Num.co (Num.Yn D.n (N30.ZG D.n) (N30.RN D.n) (flp D.n (Xv t D.n D.p (eD D) D.z (λs=>D.dg.getD s 0) s x)) (Xv t D.n D.p (eD D) D.z (λs=>D.dg.getD s 0) s y)) q)=YB D.rp.length (λs=>Num.co (Num.Yn D.n Y.top Y.R (at3 Y.F s (D.cl.getD x 0)) (at3 Y.X s (D.cl.getD y 0))) q):=ZJ λs J=>by
   rw[at' s x J j,at' s y J hy,fl s _ J o5,M,U]
  rw[e0,e1,h1];by_cases O:D.cl.getD x 0=D.cl.getD y 0/\q=0
  ·rw[if_pos O,if_pos ⟨(Zcz P C j hy).mp O.1,O.2⟩]
  ·rw[if_neg O,if_neg λz=>O ⟨(Zcz P C j hy).mpr z.1,z.2⟩]
 ·rw[at' s x J j] at hv
  have:=Z4 (Z4 f3 J) (C.lt x j);rw[ae] at this;have:=ax.mp this.1 v hv;rw[ae,decide_eq_true_eq,decide_eq_true_eq] at this;exact this
 ·rw[at' s x J j,fl s _ J (C.lt x j)] at hv
  have:=Z4 (Z4 f3 J) (C.lt x j);rw[ae] at this;have:=ax.mp this.2 v hv;rw[ae,decide_eq_true_eq,decide_eq_true_eq] at this;exact this
theorem ZoK {t:T7}(h:MkG t):∃(n p m:Nat) (e ω φ:Nat->Nat->Nat) (z:Nat) (dg:Nat->Nat),TD t n p m e ω φ z dg/\OrS t n m (Xv t n p e z dg):=by
 obtain⟨j,k,fd,os,o0,B,O,rfl⟩:=h;obtain⟨i,hi⟩:=bG o0;have il:=(ab.mp hi).1;have M:i<Vs.length:=by rw[<-ZjW];exact il
 have U:i<dxs.length:=by rw[<-Zgc.1];exact M
 have hz:(Zaz.zip Vs)[i]?=some (j,Vs[i]):=by
  rw[bh];exact⟨hi,Zf M⟩
 have o5:(Zaz.zip (Vs.zip dxs))[i]?=some (j,(Vs[i],dxs[i])):=by
  rw[bh,bh];exact⟨hi,Zf M,Zf U⟩
 have ek:(j.getD 0 []).length=k:=by
  have h0:j[0]?=some (j.getD 0 []):=by rw[Zb,Zf (show 0<j.length from B.p1)];rfl
  exact (B.pl _ (ah h0)).1
 have Y:=ax.mp Zl0 _ (ah hz);unfold Zqu at Y;rw[show ((j,Vs[i]):T7×(TY×Dt)).1=j from rfl,ek,B.run] at Y;have J:=Zot i (by rw[<-Zgc.2];exact U);unfold okX at J;rw[o5] at J;have J:dxB (j,(Vs[i],dxs[i]))=true:=J;unfold dxB at J;rw[show ((j,(Vs[i],dxs[i])):T7×((TY×Dt)×Dx)).1=j from rfl,ek,B.run] at J;have J:xvB (Wg fd) Vs[i].2 dxs[i]=true/\orB (Wg fd) Vs[i].2 dxs[i]=true:=by
  rw[<-ae];exact J
 exact⟨_,_,_,_,_,_,_,_,(Zmm B.pw Y).ren B.pw O,(Zlg B.pw Y J.1 J.2).ren B.pw O ZhI λs x hx=>Zm4 B.pw O hx⟩
theorem JT (f:Nat->Int):∀n,YB n f=Num.ZC n f
 |0=>rfl
 |n+1=>by rw[Yq,Num.Jo,JT f n]
theorem ZiL {α:Type}{f:Nat->α}:∀{l:TY}{ys:List α},ys.Perm (l.map f)->∃J:TY,J.Perm l/\ys=J.map f:=by
 intro l ys h;generalize e:l.map f=zs at h;induction h generalizing l with
 |nil=>
  cases l with
  |nil=>exact⟨[],.nil,rfl⟩
  |cons a l=>cases e
 |cons x p ih=>
  cases l with
  |nil=>cases e
  |cons a l=>
   rw[aB] at e;injection e with M j;obtain⟨J,O,U⟩:=ih j;exact⟨a::J,O.cons a,by rw[aB,M,U]⟩
 |swap x y r=>
  cases l with
  |nil=>cases e
  |cons a l=>
   cases l with
   |nil=>rw[aB] at e;injection e with M j;cases j
   |cons b l=>
    rw[aB,aB] at e;injection e with M j;injection j with j e3;exact⟨b::a::l,jH a b l,by rw[aB,aB,M,j,e3]⟩
 |trans p q Y o0=>
  obtain⟨J,O,U⟩:=o0 e;obtain⟨ks,h3,h4⟩:=Y U.symm;exact⟨ks,h3.trans O,h4⟩
theorem ZgE {m:Nat}{j:TY}(h:j.Perm (ac m))(F:Nat->Int):Num.ZC m (λs=>F (j.getD s 0))=Num.ZC m F:=by
 have Y:j.length=m:=by rw[h.length_eq,Zg]
 have e:(ac m).map (λs=>j.getD s 0)=j:=by
  refine a6 λi=>?_;by_cases M:i<m
  ·rw[Zc,ao M,Z8 (by omega)]
   rfl
  ·rw[ag (by rw[Za,Zg];omega),ag (by omega)]
 rw[<-JT,<-JT];unfold YB;have O:(ac m).map (λs=>F (j.getD s 0))=j.map F:=by
  conv=>rhs;rw[<-e]
  rw[aL];rfl
 rw[O];have J:=h.map F;generalize j.map F=l1 at J;generalize (ac m).map F=l2 at J ⊢;induction J with
 |nil=>rfl
 |cons x _ U=>rw[cw,cw,U]
 |swap x y l=>rw[cw,cw,cw,cw];omega
 |trans _ _ a b=>rw[a,b]
theorem ZoG {n top:Nat}{R:TZ}(x J y:Nat->Int)(j:Nat):Num.bl n top R (λi=>x i-J i) y j=Num.bl n top R x y j-Num.bl n top R J y j:=by
 unfold Num.bl;rw[<-Num.Jn];refine Num.Zx _ _ _ λa _=>?_;rw[<-Num.Jn];refine Num.Zx _ _ _ λb _=>?_;show (x a-J a)*y b*Num.rh n R (a+b) j=_;rw[iT,iT]
theorem ZeJ {n:Nat}(O:1<=n)(j:n<=60){ks:TX}{xss ys:TZ}(U:∀c,c<xss.length->(xss.getD c []).length=N30.ZG n){q:Nat}(J:q<N30.ZG n):Num.co (J0 n ks xss ys) q=Num.ZC xss.length λc=>Num.co ks c*Num.bl n (N30.ZG n) (N30.RN n) (Num.co (xss.getD c [])) (Num.co (Xx n (ys.getD c []))) q:=by
 have t1:1<=N30.ZG n:=(N30.Vn O j).1.t1;unfold J0;have Y:∀xs∈Xs xss.length (λi=>muN n (xss.getD i []) (Xx n (ys.getD i []))),xs.length=N30.ZG n:=λxs h=>by
  obtain⟨i,_,rfl⟩:=aC.mp h;exact Num.WV ..
 rw[ZeQ (tp:=N30.ZG n) (by unfold whL;rw[Zi,Ze];omega) Y J _ (by rw[WX];exact Zq _)];have h0:Num.co (whL n 0) q=0:=by
  unfold whL;rw[Zj2 0 J];split <;> rfl
 rw[h0,cO];refine Num.Zx _ _ _ λc M=>?_;rw[U8 M];show _*Num.co (Num.Yn n (N30.ZG n) (N30.RN n) (xss.getD c []) (Xx n (ys.getD c []))) q=_;rw[Num.WK (U c M) (Vr n _) J]
section
variable {t:T7}{n p m:Nat}{e ω φ:Nat->Nat->Nat}{z:Nat}{dg:Nat->Nat}
theorem ZhH (P:PW t)(D:TD t n p m e ω φ z dg)(S:OrS t n m (Xv t n p e z dg)){s y:Nat}(M:s<m)(J:y<t.length):YN t y<m/\Xv t n p e z dg s (ZL t (YN t y))=Xv t n p e z dg s y:=by
 have U:=YE P;rw[<-D.cd.mc] at U;have j:=U.lt y J;refine⟨j,?_⟩;obtain⟨u,O,Y⟩:=U.tr (ZL t (YN t y)) y (U.rl _ j) J (U.rn _ j);have:=S.cls s (ZL t (YN t y)) u M (U.rl _ j) O;rw[Y] at this;exact this.symm
theorem Zmp (P:PW t)(D:TD t n p m e ω φ z dg){c:Nat}(J:c<m):Num.co (Jk t) c=YB t.length λx=>if YN t x=c then 1 else 0:=by
 have U:=YE P;rw[<-D.cd.mc] at U;have j:c<(ZH t t.length).length:=by rw[<-D.cd.mc];exact J
 have M:Num.co (Jk t) c=(((ZH t t.length).getD c []).length:Int):=by
  unfold Num.co Jk;rw[Zb,Zc,Zf j,Zb,Zf j];rfl
 rw[M,Ze1 P j,ZoB,<-X6];refine ZJ λx O=>?_;rw[Zat P (U.rl c J) O,U.rn c J];by_cases h:YN t x=c
 ·rw[if_pos h,decide_eq_true h];rfl
 ·rw[if_neg h,decide_eq_false h];rfl
variable {js:TY}
theorem Znn (P:PW t)(D:TD t n p m e ω φ z dg)(S:OrS t n m (Xv t n p e z dg))(n1:1<=n)(Y:n<=60){s s' q:Nat}(J:s<m)(j:s'<m)(M:q<N30.ZG n) :
  Num.ZC m (λc=>Num.co (Jk t) c*Num.bl n (N30.ZG n) (N30.RN n) (Num.co (Xv t n p e z dg s (ZL t c))) (Num.co (Xx n (Xv t n p e z dg s' (ZL t c)))) q)=if s=s'/\q=0 then (t.length:Int) else 0:=by
 rw[<-S.row s s' q J j M,<-JT];have U:=YE P;rw[<-D.cd.mc] at U;have h1:YB t.length (λx=>Num.co (Num.Yn n (N30.ZG n) (N30.RN n) (Xv t n p e z dg s x) (flp n (Xv t n p e z dg s' x))) q)=YB t.length λx=>(λc=>Num.co (Num.Yn n (N30.ZG n) (N30.RN n) (Xv t n p e z dg s (ZL t c)) (flp n (Xv t n p e z dg s' (ZL t c)))) q) (YN t x):=ZJ λx O=>by
  show _=Num.co (Num.Yn n (N30.ZG n) (N30.RN n) (Xv t n p e z dg s (ZL t (YN t x))) (flp n (Xv t n p e z dg s' (ZL t (YN t x))))) q;rw[(ZhH P D S J O).2,(ZhH P D S j O).2]
 rw[h1,Zfg (c:=YN t) U.lt λc=>Num.co (Num.Yn n (N30.ZG n) (N30.RN n) (Xv t n p e z dg s (ZL t c)) (flp n (Xv t n p e z dg s' (ZL t c)))) q];refine ZJ λc hc=>?_;rw[Zmp P D hc];show _*_=_*Num.co (Num.Yn n (N30.ZG n) (N30.RN n) (Xv t n p e z dg s (ZL t c)) (Xx n (Xv t n p e z dg s' (ZL t c)))) q;rw[Num.WK (S.len _ _) (Vr n _) M]
theorem Zox (P:PW t)(D:TD t n p m e ω φ z dg)(S:OrS t n m (Xv t n p e z dg)){c j q:Nat}(M:c<m)(J:j<m)(O:q<N30.ZG n) :
  Num.co (Jk t) j*Num.ZC m (λs=>Num.bl n (N30.ZG n) (N30.RN n) (Num.co (Xx n (Xv t n p e z dg s (ZL t j)))) (Num.co (Xv t n p e z dg s (ZL t c))) q)=if c=j/\q=0 then (t.length:Int) else 0:=by
 have U:=YE P;rw[<-D.cd.mc] at U;have h:=S.col _ _ q (U.rl j J) (U.rl c M) O;have Y:szT t (ZL t j)=Num.co (Jk t) j:=by
  rw[Zmp P D J];unfold szT;rw[U.rn j J]
 rw[Y,JT] at h;have e2:Num.ZC m (λs=>Num.bl n (N30.ZG n) (N30.RN n) (Num.co (Xx n (Xv t n p e z dg s (ZL t j)))) (Num.co (Xv t n p e z dg s (ZL t c))) q)=Num.ZC m λs=>Num.co (Num.Yn n (N30.ZG n) (N30.RN n) (flp n (Xv t n p e z dg s (ZL t j))) (Xv t n p e z dg s (ZL t c))) q:=Num.Zx _ _ _ λs _=>by
  show _=Num.co (Num.Yn n (N30.ZG n) (N30.RN n) (Xx n (Xv t n p e z dg s (ZL t j))) (Xv t n p e z dg s (ZL t c))) q;rw[Num.WK (Vr n _) (S.len _ _) O]
 rw[e2,h,U.rn j J,U.rn c M];by_cases a:c=j/\q=0
 ·rw[if_pos a,if_pos ⟨a.1.symm,a.2⟩]
 ·rw[if_neg a,if_neg λw=>a ⟨w.1.symm,w.2⟩]
theorem Ve {s c:Nat}(j:c<m):(Wn t n p m e z dg s).getD c []=Xv t n p e z dg s (ZL t c):=by
 unfold Wn;rw[Zb,Zc,ao j];rfl
structure Tbq (t:T7)(n m:Nat)(yss:T8):Prop where
 len:yss.length=m
 rl:∀s,s<m->(yss.getD s []).length=m
 nl:∀s c,s<m->c<m->((yss.getD s []).getD c []).length=N30.ZG n
 row:∀s s' q,s<m->s'<m->q<N30.ZG n->Num.ZC m (λc=>Num.co (Jk t) c*Num.bl n (N30.ZG n) (N30.RN n) (Num.co ((yss.getD s []).getD c [])) (Num.co (Xx n ((yss.getD s' []).getD c []))) q)=if s=s'/\q=0 then (t.length:Int) else 0
 col:∀c c' q,c<m->c'<m->q<N30.ZG n->Num.co (Jk t) c'*Num.ZC m (λs=>Num.bl n (N30.ZG n) (N30.RN n) (Num.co (Xx n ((yss.getD s []).getD c' []))) (Num.co ((yss.getD s []).getD c [])) q)=if c=c'/\q=0 then (t.length:Int) else 0
theorem Zm9 (P:PW t)(D:TD t n p m e ω φ z dg)(S:OrS t n m (Xv t n p e z dg))(n1:1<=n)(o0:n<=60){yss:T8}(h:yss.Perm ((ac m).map (Wn t n p m e z dg))):Tbq t n m yss:=by
 obtain⟨js,Y,rfl⟩:=ZiL h;have hl:js.length=m:=by rw[Y.length_eq,Zg]
 have at':∀s,s<m->(js.map (Wn t n p m e z dg)).getD s []=Wn t n p m e z dg (js.getD s 0):=λs j=>by
  rw[Zb,Zc,Z8 (by omega)];rfl
 have lt:∀s,s<m->js.getD s 0<m:=λs j=>af.mp (Y.mem_iff.mp (ah (Z8 (by omega))));have ij:∀s J,s<m->J<m->(js.getD s 0=js.getD J 0↔s=J):=λs J j M=>by
  refine⟨λh=>?_,λh=>by rw[h]⟩;have nd:js.Nodup:=Y.nodup_iff.mpr cT;have h1:=Z8 (o:=js) (i:=s) (by omega);have h2:=Z8 (o:=js) (i:=J) (by omega);rw[<-h] at h2;exact (jx (by omega) nd).mp (h1.trans h2.symm)
 refine⟨by rw[Za,hl],λs j=>?_,λs c j O=>?_,λs J q j M hq=>?_,λc c' q O U hq=>?_⟩
 ·rw[at' s j];unfold Wn;rw[Za,Zg]
 ·rw[at' s j,Ve O];exact S.len _ _
 ·have:=Znn P D S n1 o0 (lt s j) (lt J M) hq
  have e1:Num.ZC m (λc=>Num.co (Jk t) c*Num.bl n (N30.ZG n) (N30.RN n) (Num.co (((js.map (Wn t n p m e z dg)).getD s []).getD c [])) (Num.co (Xx n (((js.map (Wn t n p m e z dg)).getD J []).getD c []))) q)=Num.ZC m (λc=>Num.co (Jk t) c*Num.bl n (N30.ZG n) (N30.RN n) (Num.co (Xv t n p e z dg (js.getD s 0) (ZL t c))) (Num.co (Xx n (Xv t n p e z dg (js.getD J 0) (ZL t c)))) q):=Num.Zx _ _ _ λc O=>by rw[at' s j,at' J M,Ve O,Ve O]
  rw[e1,this];by_cases a:s=J/\q=0
  ·rw[if_pos a,if_pos ⟨(ij s J j M).mpr a.1,a.2⟩]
  ·rw[if_neg a,if_neg λw=>a ⟨(ij s J j M).mp w.1,w.2⟩]
 ·rw[<-Zox P D S O U hq,<-ZgE Y λs=>Num.bl n (N30.ZG n) (N30.RN n) (Num.co (Xx n (Xv t n p e z dg s (ZL t c')))) (Num.co (Xv t n p e z dg s (ZL t c))) q]
  congr 1;exact Num.Zx _ _ _ λs j=>by rw[at' s j,Ve O,Ve U]
end
section
variable {yss:T8}
theorem ZfL {tp c q:Nat}{zs:TX}(j:c<m)(J:q<tp):Num.co ((Y2 m tp yss zs).getD c []) q=Num.ZC yss.length λs=>Num.co zs s*Num.co ((yss.getD s []).getD c []) q:=by
 unfold Y2;rw[Zb,Zc,ao j];exact Num.Y4 J
theorem Zde {tp c:Nat}{zs:TX}(j:c<m):((Y2 m tp yss zs).getD c []).length=tp:=by
 unfold Y2;rw[Zb,Zc,ao j];exact Num.Yl _
theorem ZfO {N:Int}{xs:TX}{tp:Nat}(N1:0<N)(t1:1<=tp)(M:xs.length=tp):okS N xs=true↔∀q,q<tp->Num.co xs q=if q=0 then N*(xs.headD 0 / N) else 0:=by
 obtain⟨x,r,rfl⟩:∃x r,xs=x::r:=by
  cases xs with
  |nil=>simp at M;omega
  |cons x r=>exact⟨x,r,rfl⟩
 unfold okS;rw[ae,ax,ax];have U:(x::r).headD 0=x:=rfl;rw[U];rw[Zi] at M;constructor
 ·rintro⟨Y,h2⟩ q J
  cases q with
  |zero=>
   rw[if_pos rfl];have:=of_decide_eq_true (Y x aD);have h3:=mq x N;show x=_;omega
  |succ q=>
   rw[if_neg (by omega)];have hm:r[q]?=some (Num.co (x::r) (q+1)):=by
    have:=Num.Z9 (a:=x::r) (i:=q+1) (by rw[Zi];omega);exact this
   exact of_decide_eq_true (h2 _ (ah hm))
 ·intro h
  have h0:x=N*(x / N):=by
   have:=h 0 (by omega);rw[if_pos rfl] at this;exact this
  have O:∀y∈r,y=0:=λy j=>by
   obtain⟨q,J⟩:=bG j;have o0:=(ab.mp J).1;have:=h (q+1) (by omega);rw[if_neg (by omega)] at this;have e:Num.co (x::r) (q+1)=y:=by
    unfold Num.co;rw[mK,Zb,J];rfl
   rw[e] at this;exact this
  refine⟨λy j=>decide_eq_true ?_,λy j=>decide_eq_true (O y j)⟩;rcases aH.mp j with rfl|j
  ·rw[h0]
   exact Int.mul_emod_right _ _
  ·rw[O y j]
   exact Int.zero_emod _
theorem Vh {xss:TZ}{s:Nat}(j:s<yss.length):(Y5 t n xss yss)[s]?=some (J0 n (Jk t) xss (yss.getD s [])):=by
 unfold Y5;rw[Zc,Zf j,Zb,Zf j];rfl
theorem ZgG (B:Tbq t n m yss)(n1:1<=n)(J:n<=60)(N1:1<=t.length){zs:TX}(zl:zs.length=m):shL (t.length:Int) (Y5 t n (Y2 m (N30.ZG n) yss zs) yss)=some zs:=by
 have t1:1<=N30.ZG n:=(N30.Vn n1 J).1.t1;have pl:(Y2 m (N30.ZG n) yss zs).length=m:=by unfold Y2;rw[Za,Zg]
 have U:∀s,s<m->∀q,q<N30.ZG n->Num.co (J0 n (Jk t) (Y2 m (N30.ZG n) yss zs) (yss.getD s [])) q=if q=0 then (t.length:Int)*Num.co zs s else 0:=λs j q O=>by
  rw[ZeJ n1 J (λc hc=>Zde (by omega)) O,pl];rw[<-Num.Zib (n:=n) (top:=N30.ZG n) (R:=N30.RN n) (k:=Num.co (Jk t)) (r:=λs c=>Num.co ((yss.getD s []).getD c [])) (f:=λs c=>Num.co (Xx n ((yss.getD s []).getD c []))) B.row (Num.co zs) j O];refine Num.Zx _ _ _ λc hc=>?_;congr 1;refine Num.Wy (λi hi=>?_) λ_ _=>rfl;rw[ZfL hc hi,B.len]
 have ok:∀s,s<m->okS (t.length:Int) (J0 n (Jk t) (Y2 m (N30.ZG n) yss zs) (yss.getD s []))=true/\(J0 n (Jk t) (Y2 m (N30.ZG n) yss zs) (yss.getD s [])).headD 0 / (t.length:Int)=Num.co zs s:=λs j=>by
  have Y:=Ut t1 (ks:=Jk t) (xss:=Y2 m (N30.ZG n) yss zs) (yss:=yss.getD s []);have hk:=U s j;generalize J0 n (Jk t) (Y2 m (N30.ZG n) yss zs) (yss.getD s [])=xs at Y hk;have e0:xs.headD 0=(t.length:Int)*Num.co zs s:=by
   have:=hk 0 (by omega);rw[if_pos rfl] at this;cases xs with
   |nil=>simp at Y;omega
   |cons x r=>exact this
  have e1:xs.headD 0 / (t.length:Int)=Num.co zs s:=by
   rw[e0];exact Int.mul_ediv_cancel_left _ (by omega)
  refine⟨(ZfO (by omega) t1 Y).mpr λq O=>?_,e1⟩;rw[hk q O,e1]
 have ml:(Y5 t n (Y2 m (N30.ZG n) yss zs) yss).length=m:=by unfold Y5;rw[Za,B.len]
 have al:(Y5 t n (Y2 m (N30.ZG n) yss zs) yss).all (okS (t.length:Int))=true:=ax.mpr λx hx=>by
  obtain⟨s,j⟩:=bG hx;have M:s<m:=by rw[<-ml];exact (ab.mp j).1
  rw[Vh (by rw[B.len];exact M)] at j;cases j;exact (ok s M).1
 unfold shL;rw[if_pos al];congr 1;refine a6 λs=>?_;rw[Zc];by_cases j:s<m
 ·rw[Vh (by rw[B.len];exact j),Num.Z9 (by omega)]
  exact congrArg some (ok s j).2
 ·rw[ag (by omega),ag (by omega)]
  rfl
theorem ZgL (B:Tbq t n m yss)(n1:1<=n)(J:n<=60)(Pr:Num.Per n (N30.ZG n) (N30.lsN n) (N30.RN n))(N1:1<=t.length){xss:TZ}(xl:xss.length=m)(hx:∀xs∈xss,xs.length=N30.ZG n){zs:TX}(h:shL (t.length:Int) (Y5 t n xss yss)=some zs):Y2 m (N30.ZG n) yss zs=xss:=by
 have G:=(N30.Vn n1 J).1;have t1:1<=N30.ZG n:=G.t1;have pl:(Y2 m (N30.ZG n) yss zs).length=m:=by unfold Y2;rw[Za,Zg]
 have M:∀c,c<xss.length->(xss.getD c []).length=N30.ZG n:=λc O=>hx _ (Vi O);have ml:(Y5 t n xss yss).length=m:=by unfold Y5;rw[Za,B.len]
 unfold shL at h;split at h
 ·rename_i U
  injection h with h;have hz:∀s,s<m->Num.co zs s=(J0 n (Jk t) xss (yss.getD s [])).headD 0 / (t.length:Int):=λs Y=>by
   rw[<-h];unfold Num.co;rw[Zb,Zc,Vh (by rw[B.len];exact Y)];rfl
  have o0:∀s q,s<m->q<N30.ZG n->Num.ZC m (λc=>Num.co (Jk t) c*Num.bl n (N30.ZG n) (N30.RN n) (λi=>Num.co (xss.getD c []) i-Num.ZC m (λu=>Num.co zs u*Num.co ((yss.getD u []).getD c []) i)) (Num.co (Xx n ((yss.getD s []).getD c []))) q)=0:=λs q Y j=>by
   have h1:=ZeJ (ks:=Jk t) (ys:=yss.getD s []) n1 J M j;have ho:=ax.mp U _ (ah (Vh (t:=t) (n:=n) (xss:=xss) (yss:=yss) (s:=s) (by rw[B.len];exact Y)));have h2:=(ZfO (by omega) t1 (Ut t1)).mp ho q j;rw[<-hz s Y,h1,xl] at h2;have h3:=Num.Zib (n:=n) (top:=N30.ZG n) (R:=N30.RN n) (k:=Num.co (Jk t)) (r:=λs c=>Num.co ((yss.getD s []).getD c [])) (f:=λs c=>Num.co (Xx n ((yss.getD s []).getD c []))) B.row (Num.co zs) Y j;have e1:∀c,Num.co (Jk t) c*Num.bl n (N30.ZG n) (N30.RN n) (λi=>Num.co (xss.getD c []) i-Num.ZC m (λu=>Num.co zs u*Num.co ((yss.getD u []).getD c []) i)) (Num.co (Xx n ((yss.getD s []).getD c []))) q=Num.co (Jk t) c*Num.bl n (N30.ZG n) (N30.RN n) (Num.co (xss.getD c [])) (Num.co (Xx n ((yss.getD s []).getD c []))) q-Num.co (Jk t) c*Num.bl n (N30.ZG n) (N30.RN n) (λi=>Num.ZC m (λu=>Num.co zs u*Num.co ((yss.getD u []).getD c []) i)) (Num.co (Xx n ((yss.getD s []).getD c []))) q:=λc=>by
    rw[ZoG,f9]
   rw[Num.Zx _ _ _ λc _=>e1 c,Num.Jn,h2,h3,iD]
  refine a6 λc=>?_;by_cases O:c<m
  ·have e1:(Y2 m (N30.ZG n) yss zs).getD c []=xss.getD c []:=by
    refine J5 (tp:=N30.ZG n) (Zde O) (M c (by omega)) λq j=>?_;rw[ZfL O j,B.len];have:=Num.Znj G Pr (k:=Num.co (Jk t)) (N:=(t.length:Int)) (r:=λs c=>Num.co ((yss.getD s []).getD c [])) (f:=λs c=>Num.co (Xx n ((yss.getD s []).getD c []))) B.col (λc i=>Num.co (xss.getD c []) i-Num.ZC m (λu=>Num.co zs u*Num.co ((yss.getD u []).getD c []) i)) o0 O j;have h0:(t.length:Int)≠0:=by omega
    have:=(Int.mul_eq_zero.mp this).resolve_left h0;omega
   rw[Zb,Zb,Zf (by omega),Zf (by omega)] at e1;rw[Zf (by omega),Zf (by omega)];exact congrArg some e1
  ·rw[ag (by omega),ag (by omega)]
 ·cases h
end
theorem ZrL {n:Nat}(M:1<=n)(j:n<=60):Num.Per n (N30.ZG n) (N30.lsN n) (N30.RN n):=by
 have J:=N30.Zj9 M j;unfold N30.XU at J;rw[ae] at J;exact Num.ZnB M J.1
theorem X2 {M:Nat}:∀(n:Nat) (f:Nat->Int),(∀t,t<n->(f t).natAbs<=M)->(Num.ZC n f).natAbs<=n*M
 |0,f,_=>by show (0:Int).natAbs<=0*M;simp
 |n+1,f,h=>by
  rw[Num.Jo];have j:=X2 n f λt J=>h t (by omega);have O:=h n (by omega);have:(n+1)*M=n*M+M:=cz n M;omega
theorem Zpv {k b j J:Nat}{d:dZ}(h:Sml k b d)(M:k<=j)(hb:b<=J):Sml j J d:=⟨h.sh,h.nd,aN h.dp M,h.lv,aN h.bl hb⟩
theorem Zfn {z:Int}(h:z.natAbs<2 ^ 200):Sml 0 0 (.int z):=by
 obtain⟨j,_,_,J,_,_⟩:=X9 (ns:=[z]) (λn M=>by
  rw[aJ.mp M];exact h)
 simp only[aB,fK,fh,dP,fY] at j J;exact⟨j,rfl,aX _,J,aX _⟩
theorem ZcW {zs:TX}(j:zs.length<=12)(h:∀z∈zs,z.natAbs<2 ^ 200):Sml 1 12 (.tuple (zs.map a5)):=by
 have:=Sml.tup (k:=0) (b:=0) (n:=12) (ds:=zs.map a5) (by rw[Za];exact j) λd J=>by
  obtain⟨z,M,rfl⟩:=aC.mp J;exact Zfn (h z M)
 exact this
theorem ZbN {xss:TZ}(J:xss.length<=12)(h:∀xs∈xss,xs.length<=12/\∀x∈xs,x.natAbs<2 ^ 200):Sml 2 (12*(12+1)) (dTI xss):=by
 refine Sml.tup (by rw[Za];exact J) λd M=>?_;obtain⟨xs,j,rfl⟩:=aC.mp M;exact ZcW (h xs j).1 (h xs j).2
theorem Ui {K:aa}{H:Hp}{a:Addr}{xss:TZ}(h:W1 H a xss):RdD K H (.ref a) (dTI xss):=by
 obtain⟨J,M,j,O⟩:=h;refine .tup (.of M) (Zb2 J xss j λi b hb=>?_);have U:i<xss.length:=by rw[<-j];exact (ab.mp hb).1
 refine⟨xss.getD i [],?_,O i b hb⟩;rw[Zb,Zf U];rfl
theorem Zf7:ZdX .none:=by
 have sz:=Jv;exact⟨rfl,rfl,by decide,by rw[<-sz];decide⟩
theorem ZlU {yss:T8}{o:Option TX}(hy:yss.length<=12)(h:∀ys∈yss,ys.length<=12/\∀y∈ys,y.length<=12/\∀x∈y,x.natAbs<2 ^ 200)(hz:∀j,o=some j->∀z∈j,z.natAbs<2 ^ 200):ZdX (ZaK yss o):=by
 cases o with
 |none=>exact Zf7
 |some j=>
  by_cases M:j.any (λz=>decide (z<0))=true
  ·rw[show ZaK yss (some j)=.none from if_pos M]
   exact Zf7
  ·rw[show ZaK yss (some j)=.tuple (Zdg yss j) from if_neg M]
   refine (Sml.tup (k:=3) (b:=2*(12*(12+1)+1)) (n:=12) ?_ λd hd=>?_).fit (by decide) (by decide)
   ·unfold Zdg
    rw[Za];refine aN (iG _ _) ?_;rw[bO];omega
   ·unfold Zdg at hd
    obtain⟨q,J,rfl⟩:=aC.mp hd;have J:=(gf.mp J).1;obtain⟨O,U⟩:=iB J;refine Sml.tup (by simp) λd hd=>?_;rcases aH.mp hd with rfl|hd
    ·exact ZbN (h q.1 O).1 λY hx=>(h q.1 O).2 Y hx
    ·rw[aJ.mp hd]
     exact Zpv (Zfn (hz j rfl q.2 U)) (by decide) (by decide)
theorem XB {X:Cx}(K:aa){k:Nat}(j:Jt k X.A)(J:X.K=K:=by rfl):YI X (.builtin "repr") (_root_.L2.I_call_repr K):=J▸Zhu j
theorem Zie {p:Addr}{H j J:Hp}(s:Same H j)(M:H p=none)(k:Tk p j J):Same H J:=λb o e=>k b o (s b o e) λz=>by rw[z,M] at e;cases e
theorem Xz.mono {H j:Hp}{r:Addr}{yss:T8}(h:Xz H r yss)(s:Same H j):Xz j r yss:=by
 obtain⟨J,M,O,U⟩:=h;refine⟨J,s _ _ M,O,λi c Y=>?_⟩;obtain⟨ys,e1,RT⟩:=U i c Y;exact⟨ys,e1,RT.mono s⟩
theorem Xz.tk {p r:Addr}{b:Nat}{H J:Hp}{yss:T8}(T:YS H p b)(k:Tk p H J)(h:Xz H r yss):Xz J r yss:=by
 obtain⟨M,O,U,Y⟩:=h;refine⟨M,k.tup T O,U,λi c hc=>?_⟩;obtain⟨ys,e1,ds,u1,u2,u3⟩:=Y i c hc;refine⟨ys,e1,ds,k.tup T u1,u2,λj d hd=>?_⟩;obtain⟨y,y1,y2⟩:=u3 j d hd;exact⟨y,y1,k.tup T y2⟩
theorem Zoj {p g:Addr}{b:Nat}{H j:Hp}{t:T7}(T:YS H p b)(k:Tk p H j)(G:GT H g t):GT j g t:=by
 obtain⟨M,O,U,Y⟩:=G;refine⟨M,k.tup T O,U,λi r hr=>?_⟩;obtain⟨o,J,e2⟩:=Y i r hr;exact⟨o,k _ _ J (T.ne J λ_ z=>by cases z),e2⟩
structure TbL (t:T7)(n m:Nat)(yss:T8):Prop where
 q:Tbq t n m yss
 m1:1<=m
 m12:m<=12
 mc:m=(ZH t t.length).length
 t1:1<=N30.ZG n
 t12:N30.ZG n<=12
 sm:∀ys∈yss,ys.length=m/\∀y∈ys,y.length=N30.ZG n/\(∀x∈y,SmR x)/\N30.ZdY (Xx n y)/\∀x∈Xx n y,SmR x
theorem Zna {t:T7}{n p m:Nat}{e Y φ:Nat->Nat->Nat}{z:Nat}{dg:Nat->Nat}(P:PW t)(D:TD t n p m e Y φ z dg)(S:OrS t n m (Xv t n p e z dg)){yss:T8}(h:yss.Perm ((ac m).map (Wn t n p m e z dg))):TbL t n m yss:=by
 have U:=YE P;rw[<-D.cd.mc] at U;refine⟨Zm9 P D S D.n1 D.n60 h,D.cd.m1,S.m12,D.cd.mc,(N30.Vn D.n1 D.n60).1.t1,S.t12,λys hy=>?_⟩;obtain⟨s,j,rfl⟩:=aC.mp (h.mem_iff.mp hy);have j:=af.mp j;refine⟨by unfold Wn;rw[Za,Zg],λy J=>?_⟩;unfold Wn at J;obtain⟨c,hc,rfl⟩:=aC.mp J;have O:=U.rl c (af.mp hc);refine⟨S.len _ _,λx M=>S.sm s _ x j O M,λx M=>?_,λx M=>S.fm s _ x j O M⟩;have:=S.fm s _ x j O M;have h9:(2:Nat) ^ 20<2 ^ 900:=by decide +kernel
 omega
section
variable {yss:T8}
theorem TbL.at (B:TbL t n m yss){s c:Nat}(J:s<m)(M:c<m):(yss.getD s []).getD c []∈yss.getD s []/\yss.getD s []∈yss:=by
 have j:yss.getD s []∈yss:=by
  rw[Zb,Zf (by rw[B.q.len];exact J)];exact be _
 exact⟨Vi (by rw[(B.sm _ j).1];exact M),j⟩
theorem TbL.rw (B:TbL t n m yss):RwO m (N30.ZG n) yss:=by
 have:=B.m12;have:=B.t12;have:=B.m1;exact⟨by rw[B.q.len];omega,by rw[B.q.len];omega,by omega,by omega,λJ M=>⟨(B.sm J M).1,λy j=>((B.sm J M).2 y j).1⟩⟩
theorem TbL.ob (B:TbL t n m yss):TbO t n yss:=by
 have:=B.m12;exact⟨by rw[B.q.len];omega,λJ M=>⟨by rw[(B.sm J M).1];exact B.mc,λy j=>⟨((B.sm J M).2 y j).1,((B.sm J M).2 y j).2.2.1⟩⟩⟩
theorem TbL.fit (B:TbL t n m yss):yss.length<=12/\∀ys∈yss,ys.length<=12/\∀y∈ys,y.length<=12/\∀x∈y,x.natAbs<2 ^ 200:=by
 have:=B.m12;have:=B.t12;refine⟨by rw[B.q.len];omega,λys J=>⟨by rw[(B.sm ys J).1];omega,λy j=>⟨by rw[((B.sm ys J).2 y j).1];omega,λx M=>?_⟩⟩⟩;have:=((B.sm ys J).2 y j).2.1 x M;unfold SmR at this;have O:(2:Nat) ^ 20<2 ^ 200:=by decide
 omega
theorem ZgK (B:TbL t n m yss){zs:TX}(zl:zs.length=m)(hz:∀z∈zs,-3<z/\z<4):(Y2 m (N30.ZG n) yss zs).length=m/\∀xs∈Y2 m (N30.ZG n) yss zs,xs.length=N30.ZG n/\∀x∈xs,x.natAbs<=12*(3*2 ^ 20):=by
 have J:=B.m12;refine⟨by unfold Y2;rw[Za,Zg],λxs j=>?_⟩;unfold Y2 at j;obtain⟨c,O,rfl⟩:=aC.mp j;have O:=af.mp O;refine⟨Num.Yl _,λx j=>?_⟩;unfold Num.XD at j;obtain⟨q,U,rfl⟩:=aC.mp j;have U:=af.mp U;refine aN (X2 (M:=3*2 ^ 20) _ _ λs Y=>?_) (cv _ (by rw[B.q.len];exact J));rw[B.q.len] at Y;obtain⟨h1,h2⟩:=B.at Y O;have h3:=(B.sm _ h2).2 _ h1;have h4:=h3.2.1 _ (ah (Num.Z9 (a:=(yss.getD s []).getD c []) (i:=q) (by rw[h3.1];exact U)));have h5:=hz _ (ah (Num.Z9 (a:=zs) (i:=s) (by omega)));unfold SmR at h4;rw[iU];exact cZ (by omega) (by omega)
theorem Zia (B:TbL t n m yss)(n1:1<=n)(J:n<=60)(P:PW t){xss:TZ}(xl:xss.length=m)(hx:∀xs∈xss,xs.length=N30.ZG n/\∀x∈xs,x.natAbs<=2 ^ 40){zs:TX}(h:shL (t.length:Int) (Y5 t n xss yss)=some zs):zs.length=m/\∀z∈zs,z.natAbs<2 ^ 200:=by
 have hl:=Zfq h;have ml:(Y5 t n xss yss).length=m:=by unfold Y5;rw[Za,B.q.len]
 refine⟨by rw[hl,ml],λz hz=>?_⟩;have o7:=B.m12;have M:=B.t12;have o8:=P.n60;unfold shL at h;split at h
 ·injection h with h
  rw[<-h] at hz;obtain⟨mt,hm,rfl⟩:=aC.mp hz;obtain⟨s,hs⟩:=bG hm;have O:s<m:=by rw[<-ml];exact (ab.mp hs).1
  rw[Vh (by rw[B.q.len];exact O)] at hs;cases hs;have o6:=Ut B.t1 (ks:=Jk t) (xss:=xss) (yss:=yss.getD s []);have e0:(J0 n (Jk t) xss (yss.getD s [])).headD 0=Num.co (J0 n (Jk t) xss (yss.getD s [])) 0:=by
   cases J0 n (Jk t) xss (yss.getD s []) <;> rfl
  rw[e0,ZeJ n1 J (λc hc=>(hx _ (Vi hc)).1) (by have:=B.t1;omega)];have hb:(Num.ZC xss.length λc=>Num.co (Jk t) c*Num.bl n (N30.ZG n) (N30.RN n) (Num.co (xss.getD c [])) (Num.co (Xx n ((yss.getD s []).getD c []))) 0).natAbs<=xss.length*(60*(N30.ZG n*(N30.ZG n*(2 ^ 40*2 ^ 20*100)))):=by
   refine X2 _ _ λc hc=>?_;rw[iU];have U:c<m:=by omega
   refine cZ ?_ ?_
   ·have j:c<(ZH t t.length).length:=by rw[<-B.mc];exact U
    have e1:Num.co (Jk t) c=(((ZH t t.length).getD c []).length:Int):=by
     unfold Num.co Jk;rw[Zb,Zc,Zf j,Zb,Zf j];rfl
    rw[e1,Ze1 P j];have:=Zcy (t:=t) (ZL t c);omega
   ·unfold Num.bl
    refine X2 _ _ λa ha=>X2 _ _ λb hb=>?_;rw[iU,iU];obtain⟨h1,h2⟩:=B.at O U;have h3:=(B.sm _ h2).2 _ h1;have Y:=hx _ (Vi hc);have v1:=Y.2 _ (ah (Num.Z9 (a:=xss.getD c []) (i:=a) (by rw[Y.1];exact ha)));have v2:=h3.2.2.2 _ (ah (Num.Z9 (a:=Xx n ((yss.getD s []).getD c [])) (i:=b) (by rw[Vr];exact hb)));unfold SmR at v2;refine cZ (cZ v1 (by omega)) ?_;exact (N30.Vn n1 J).1.rsm _ _
  have o0:xss.length*(60*(N30.ZG n*(N30.ZG n*(2 ^ 40*2 ^ 20*100))))<=12*(60*(12*(12*(2 ^ 40*2 ^ 20*100)))):=cZ (by omega) (ff _ (cZ M (cv _ M)));have o5:12*(60*(12*(12*(2 ^ 40*2 ^ 20*100))))<2 ^ 200:=by decide
  exact nK (aN (Int.natAbs_ediv_le_natAbs _ _) (aN hb o0)) o5
 ·cases h
end
inductive ZcV (K:aa) (vs:TR) (H:Hp) (Q:VK) (E03:XK):Prop
 |mk (a:Addr) (ns:TX):(vs=[.ref a])->(WZ K H a (ns.map V.int))->(ns.length<=63)->(∀H',Q (.bl true) H')->ZcV K vs H Q E03
theorem ZnU (F:Wf K "law" "law" (tq 61) f fd)(T:Bl mg)(GTp:Fn P w K mg base ZY 1 "_law_tape" ["_law_script", "_law_at"] (Zef K))(GG0:Fn P w K mg base ZY 3 "_law_group" ["_law_tape_here", "_law_great"] ZbH)(GTa:Fn P w K mg base ZY 7 "table_of" ["group"] Zbx)(GSs:Fn P w K mg base ZY 2 "_law_some_shares" ["_law_tape_here", "_law_many", "_law_below"] ZhZ)(w8:Fn P w K mg base ZY 1 "_law_put" ["_law_table", "_law_shares"] Zei)
  (GPu:Fn P w K mg base ZY 3 "put_by" ["table", "shares"] Zh1) (w9:Fn P w K mg base ZY 8 "shares_of" ["group", "table", "spread"] Zfl) (x6:Fn P w K mg base ZY 9 "share_paper" ["group", "table", "spread"] (Zh2 K)) (x8:Fn P w K mg base ZY 1 "_law_paper" ["_law_table", "_law_shares"] (Zej K)) (GCh:Fn P w K mg base ZY 2 "_law_changed" ["_law_tape_here", "_law_spread"] Zh5) :
  ZW P w K mg base ZY 10 f fd ["_law_script"] (ZcV K):=by
 refine F.ok (FS (N:=["_law_script", "_law_k", "_law_tape_here", "_law_group_here", "_law_table", "_law_turn", "_law_shares", "_law_spread", "_law_other", "_law_found"])) (λvs H Q E h=>?_) (λcdv A outer s H vs Q E O h=>?_)
 ·obtain⟨a,ns,rfl,_⟩:=h;rfl
 ·obtain⟨a,ns,rfl,hS,hlen,q⟩:=h
  refine⟨_,Zu (ZV au rfl (UT T.range (pc (Zz YD Zw (cb (YL K) T.len (pc (WT Uk (vn 0) Jz (Jy Zw)) Zs))) Zs)) (gn 1)
   (Zu (ZK 2 rfl (YF GTp O ZF (pc (vn 0) (pc (vn 1) Zs))))
   (Zu (ZK 3 rfl (YF GG0 O ZF (pc (vn 2) (pc (Xm Za0 (vn 1) Zw (ZO _)) Zs))))
   (Zu (ZK 4 rfl (YF GTa O ZF (pc (vn 3) Zs)))
   (Zv (ZV au rfl (UT T.range (pc Zw Zs)) (gn 5)
   (Zu (ZK 6 rfl (YF GSs O ZF (pc (vn 2) (pc (cb (YL K) T.len (pc (vn 4) Zs)) (pc (Xm Zdj (vn 5) Zw (ZO _)) Zs)))))
   (Zu (ZK 7 rfl (YF w8 O ZF (pc (vn 4) (pc (vn 6) Zs))))
   (Zu (YU (ZM Ww (cb (XB K O) T.repr (pc (YF GPu O ZF (pc (vn 4) (pc (vn 6) Zs))) Zs)) (cb (XB K O) T.repr (pc (vn 7) Zs)) (ZO _)) (Zv (ZE U3)) Z2)
   (Zu (YU (ZM Ww (cb (XB K O) T.repr (pc (YF w9 O ZF (pc (vn 3) (pc (vn 4) (pc (vn 7) Zs)))) Zs)) (cb (XB K O) T.repr (pc (vn 6) Zs)) (ZO _)) (Zv (ZE U3)) Z2)
   (Zu (YU (ZM Ww (cb (XB K O) T.repr (pc (YF x6 O ZF (pc (vn 3) (pc (vn 4) (pc (vn 7) Zs)))) Zs)) (cb (XB K O) T.repr (pc (YF x8 O ZF (pc (vn 4) (pc (vn 6) Zs))) Zs)) (ZO _)) (Zv (ZE U3)) Z2)
   (Zu (ZK 8 rfl (YF GCh O ZF (pc (vn 2) (pc (vn 7) Zs))))
   (Zu (ZK 9 rfl (YF w9 O ZF (pc (vn 3) (pc (vn 4) (pc (vn 8) Zs)))))
   (Zu (YU (Znv (ZM Zli (vn 9) Jf (ZO _)) (ZkZ (ZM Ww (cb (XB K O) T.repr (pc (YF w8 O ZF (pc (vn 4) (pc (vn 9) Zs))) Zs)) (cb (XB K O) T.repr (pc (vn 8) Zs)) (ZO _)))).pt (Zv (ZE U3)) Z2)
   (Zv (YU (ZM Ww (cb (XB K O) T.repr (pc (YF x6 O ZF (pc (vn 3) (pc (vn 4) (pc (vn 8) Zs)))) Zs)) (cb (XB K O) T.repr (pc (YF x8 O ZF (pc (vn 4) (pc (vn 9) Zs))) Zs)) (ZO _)) (Zv (ZE U3)) Z2))))))))))))))))
   (Zv (ZE U3)),?_⟩
  have sz:=Jv;refine⟨_,rfl,_,rfl,a,_,rfl,hS,λl0 nl0=>⟨l0,_,rfl,.inl (.of Zt),_,_,rfl,rfl,_,rfl,?_,?_,?_⟩⟩
  ·omega
  ·have:=J6 (ns.map V.int) none (some 2)
   rw[Za] at this;omega
  have s0:=Same.upd (H:=H) (o:=.lst (Jj (ns.map V.int) none (some 2))) nl0;refine WN (λi o5 H'=>∃v1 v2 v3 v4 v5 v6 v7 v8 v9:TQ,o5=[some (.ref a),v1,v2,v3,v4,v5,v6,v7,v8,v9]/\WZ K H' a (ns.map V.int)) ⟨_,_,_,_,_,_,_,_,_,rfl,s0.seq hS⟩ ?_ (λo5 H1 _=>q H1);rintro i o5 H1 hi ⟨v1,v2,v3,v4,v5,v6,v7,v8,v9,rfl,x9⟩;rw[show (0:Int)+(i:Int)=(i:Int) by omega];refine⟨_,rfl,_,rfl,a,ns,i,rfl,x9,hlen,λp H2 s2 np T2'=>?_⟩;refine⟨_,rfl,_,rfl,_,_,rfl,rfl,p,0,_,rfl,T2',by decide,λg t H3 k3 T3 G3 Pt Mk=>?_⟩;have s13:Same H1 H3:=Zie s2 np k3;have np3:H1 p=none:=np;obtain⟨n,pr,m,e,ω,φ,z,dg,D,S⟩:=ZoK Mk;have n1:=D.n1;have n60:=D.n60;have N1:=Pt.n1;have N60:=Pt.n60;have o7:∀a,a<t.length->Rd t a (rdT t a):=λa ha=>by
   obtain⟨r,R⟩:=Pt.rd a ha;rw[Zb3 R];exact R
  have hn:∀f,Lc (rdT t) t.length f->f=n:=λf L=>by
   have:=D.round o7 L;omega
  refine⟨_,rfl,g,t,n,pr,m,e,ω,φ,z,dg,rfl,G3,Pt,D,λtb J H4 s4 A4 pm pw=>?_⟩;have B:=Zna Pt D S pm;clear pm pw S D;have m1:=B.m1;have m12:=B.m12;have t1:=B.t1;have y4:=B.t12;have T4:=(T3.mono s4).le (show 0+70<=100 by decide);have G4:=G3.mono s4;have s14:=s13.trans s4;refine⟨_,rfl,by decide,by decide,?_⟩;refine WN (λj o5 H'=>∃v5 v6 v7 v8 v9:TQ,o5=[some (.ref a),some (.int (i:Nat)),some (.ref p),some (.ref g),some (.ref tb),v5,v6,v7,v8,v9]/\Tk p H4 H'/\YS H' p (100+100*j)) ⟨_,_,_,_,_,rfl,Tk.refl,T4⟩ ?_ ?_
  ·rintro j o5 H5 hj ⟨v5,v6,v7,v8,v9,rfl,k5,T5⟩
   have hj:j<2:=hj;have A5:=Xz.tk T4 k5 A4;have G5:=Zoj T4 k5 G4;obtain⟨cs,c1,c2,c3⟩:=id A5;have cl:(cs.map V.ref).length=m:=by rw[Za,c2,B.q.len]
   refine⟨_,rfl,_,rfl,tb,_,rfl,.inr (.of c1),_,rfl,rfl,p,_,m,_,by rw[cl];rfl,T5,by omega,by omega,λr zs H6 k6 T6 o8 zl zb=>?_⟩;have A6:=Xz.tk T5 k6 A5;have G6:=Zoj T5 k6 G5;have t6:zs.length=J.length:=by rw[zl,B.q.len]
   have y6:∀ys∈J,∀y∈ys,∀x∈y,SmR x:=λys hy y hy' x U=>((B.sm ys hy).2 y hy').2.1 x U;refine⟨_,rfl,_,rfl,tb,r,m,_,J,zs,rfl,A6,B.rw,m1,y6,o8,t6,λsp H7 s7 S7=>?_⟩;obtain⟨pl,pb⟩:=ZgK B zl zb;have e0:=ZgG B.q n1 n60 N1 zl;have big:12*(3*2 ^ 20)+12<=2 ^ 40:=by decide
   have big2:(2:Nat) ^ 40<2 ^ 200:=by decide
   have y8:(2:Nat) ^ 40<=2 ^ 800:=by decide +kernel
   generalize hxs:Y2 m (N30.ZG n) J zs=xs at S7 pl pb e0;have r6:ZdX (dTI xs):=(ZbN (by omega) λx U=>⟨by rw[(pb x U).1];exact y4,λy hy=>by have:=(pb x U).2 y hy;omega⟩).fit (by decide) (by decide);have r8:ZdX (.tuple (zs.map a5)):=(ZcW (by omega) λz hz=>by
    have:=zb z hz;have:(4:Nat)<2 ^ 200:=by decide
    omega).fit (by decide) (by decide)
   have y9:∀(B':Nat) (us:TZ),B'<=2 ^ 40->(∀x∈us,x.length=N30.ZG n/\∀y∈x,y.natAbs<=B')->SpB n us:=λB' us hB h x U=>⟨(h x U).1,λy hy=>aN ((h x U).2 y hy) (aN hB y8)⟩;have spb:SpB n xs:=y9 _ xs (by omega) pb;have xl:xs.length=(ZH t t.length).length:=by rw[pl];exact B.mc
   have zsm:N30.XW zs:=λz hz=>by have:=zb z hz;omega
   have r9:∀o:Option TX,(∀zs,o=some zs->∀z∈zs,z.natAbs<2 ^ 200)->ZdX (ZaK J o):=λo h=>ZlU B.fit.1 B.fit.2 h;refine⟨_,rfl,_,rfl,tb,r,m,_,J,zs,rfl,A6.mono s7,B.rw,s7 _ _ o8,t6,zsm,λpb' H8 s8 S8=>?_⟩;rw[hxs] at S8;refine⟨_,_,rfl,Ui S8,r6,_,rfl,_,_,rfl,Ui (S7.mono s8),r6,rfl,_,rfl,Vl (by simp) ?_⟩;have t7:=s7.trans s8;refine⟨_,rfl,_,rfl,_,rfl,g,tb,sp,t,rdT t,n,xs,J,rfl,G6.mono t7,Pt,o7,hn,n1,n60,A6.mono t7,B.ob,S7.mono s8,xl,spb,λx H9 s9 U=>?_⟩;rw[e0] at U;obtain⟨b',rfl,hb'⟩:=U;have o9:=t7.trans s9;refine⟨_,_,rfl,.tup (.of hb') (WC.ints _),r8,_,rfl,_,_,rfl,.tup (.of (o9 _ _ o8)) (WC.ints _),r8,rfl,_,rfl,Vl (by simp) ?_⟩;refine⟨_,rfl,_,rfl,_,rfl,g,tb,sp,t,rdT t,n,xs,J,rfl,G6.mono o9,Pt,o7,hn,n1,n60,A6.mono o9,B.ob,S7.mono (s8.trans s9),xl,spb,λx HA sA hxA=>?_⟩;rw[e0] at hxA;have t0:=r9 (some zs) λM e z hz=>by
    injection e with e;rw[<-e] at hz;have:=zb z hz;have:(4:Nat)<2 ^ 200:=by decide
    omega
   have t9:=o9.trans sA;refine⟨_,_,rfl,hxA,t0,_,rfl,_,rfl,tb,.ref r,some zs,J,rfl,A6.mono t9,by rw[B.q.len];omega,⟨r,rfl,t9 _ _ o8⟩,λM e=>?_,λx' HB sB hxB=>⟨_,_,rfl,hxB,t0,rfl,_,rfl,Vl (by simp) ?_⟩⟩
   ·injection e with e
    rw[<-e];refine⟨t6,λw=>?_⟩;rw[w] at zl;simp at zl;omega
   have p6:=t9.trans sB;have TB:=T6.mono p6;refine⟨_,rfl,_,rfl,p,sp,_,N30.ZG n,12*(3*2 ^ 20),xs,rfl,TB,by omega,S7.mono (((s8.trans s9).trans sA).trans sB),by omega,by omega,t1,by omega,pb,λso us HC kC TC SC ul ub=>?_⟩;have AC:=Xz.tk TB kC (A6.mono p6);have GC:=Zoj TB kC (G6.mono p6);have u5:us.length=m:=by rw[ul,pl]
   have u9:us.length=(ZH t t.length).length:=by rw[u5];exact B.mc
   have Y:∀x∈us,x.length=N30.ZG n/\∀y∈x,y.natAbs<=2 ^ 40:=λx U=>⟨(ub x U).1,λy hy=>aN ((ub x U).2 y hy) big⟩;have w6:SpB n us:=y9 _ us (Zq _) Y;refine⟨_,rfl,_,rfl,_,rfl,g,tb,so,t,rdT t,n,us,J,rfl,GC,Pt,o7,hn,n1,n60,AC,B.ob,SC,u9,w6,λx HD sD p7=>?_⟩;have p8:=λM (h:shL (t.length:Int) (Y5 t n us J)=some M)=>And.intro (Zia B n1 n60 Pt u5 Y h) (ZgL B.q n1 n60 (ZrL n1 n60) N1 u5 (λx U=>(Y x U).1) h);have t5:ZdX (dTI us):=(ZbN (by omega) λx U=>⟨by rw[(Y x U).1];exact y4,λy hy=>by have:=(Y x U).2 y hy;omega⟩).fit (by decide) (by decide);have fin:∀(HE:Hp),Same HD HE->Tk p H4 HE/\YS HE p (100+100*(j+1)):=λHE sE=>⟨(((k5.trans k6).trans (Tk.of p6)).trans kC).trans (Tk.of (sD.trans sE)),(TC.mono (sD.trans sE)).le (by omega)⟩;have pap:∀(HE:Hp),Same HD HE->GT HE g t/\Xz HE tb J/\W1 HE so us:=λHE sE=>⟨GC.mono (sD.trans sE),AC.mono (sD.trans sE),SC.mono (sD.trans sE)⟩;have o0:=r9 (shL (t.length:Int) (Y5 t n us J)) λM e z hz=>(p8 M e).1.2 z hz;have o6:∀M,shL (t.length:Int) (Y5 t n us J)=some M->M.length=J.length/\M≠[]:=λM e=>by
    have h1:=(p8 M e).1.1;refine⟨by rw[h1,B.q.len],λw=>?_⟩;rw[w] at h1;simp at h1;omega
   have hxD':=p7;generalize ho:shL (t.length:Int) (Y5 t n us J)=o at p7 p8 o0 o6;cases o with
   |none=>
    have hx0:x=.non:=p7;subst hx0;refine⟨_,rfl,rfl,_,rfl,Vl (by simp) ?_⟩;obtain⟨q1,q2,q3⟩:=pap HD (Same.refl _);refine⟨_,rfl,_,rfl,_,rfl,g,tb,so,t,rdT t,n,us,J,rfl,q1,Pt,o7,hn,n1,n60,q2,B.ob,q3,u9,w6,λx HE sE hxE=>?_⟩;rw[ho] at hxE;refine⟨_,_,rfl,hxE,o0,_,rfl,_,rfl,tb,.non,none,J,rfl,q2.mono sE,by rw[B.q.len];omega,rfl,o6,λx' HF sF q0=>⟨_,_,rfl,q0,o0,rfl,_,rfl,Vl (by simp) ?_⟩⟩;obtain⟨w1,w2⟩:=fin HF (sE.trans sF);exact⟨_,_,_,_,_,rfl,w1,w2⟩
   |some M=>
    obtain⟨rb,rfl,hrb⟩:=p7;obtain⟨⟨zl2,zb2⟩,hput⟩:=p8 M rfl;obtain⟨q1,q2,q3⟩:=pap HD (Same.refl _);refine⟨_,rfl,rfl,_,rfl,ZeO (by simp) ?_⟩;refine⟨_,rfl,_,rfl,tb,rb,m,_,J,M,rfl,q2,B.rw,m1,y6,hrb,(o6 M rfl).1,λpu HE sE SE=>?_⟩;rw[hput] at SE;refine⟨_,_,rfl,Ui SE,t5,_,rfl,_,_,rfl,Ui (q3.mono sE),t5,rfl,_,rfl,Vl (by simp) ?_⟩;refine⟨_,rfl,_,rfl,_,rfl,g,tb,so,t,rdT t,n,us,J,rfl,q1.mono sE,Pt,o7,hn,n1,n60,q2.mono sE,B.ob,q3.mono sE,u9,w6,λx HF sF q0=>?_⟩;rw[ho] at q0;refine⟨_,_,rfl,q0,o0,_,rfl,_,rfl,tb,.ref rb,some M,J,rfl,q2.mono (sE.trans sF),by rw[B.q.len];omega,⟨rb,rfl,(sE.trans sF) _ _ hrb⟩,o6,λx' HG sG hxG=>⟨_,_,rfl,hxG,o0,rfl,_,rfl,Vl (by simp) ?_⟩⟩;obtain⟨w1,w2⟩:=fin HG ((sE.trans sF).trans sG);exact⟨_,_,_,_,_,rfl,w1,w2⟩
  ·rintro o5 H5 ⟨v5,v6,v7,v8,v9,rfl,k5,T5⟩
   refine⟨_,_,_,_,_,_,_,_,_,rfl,?_⟩;exact (Zie s14 np k5).seq x9
theorem all_mk {l:gM}{w:World}{K:aa}{h:Heap}{mg:TV}{fa:Addr}(X:K.In h)(G:h.Ns mainGlobals mg)(hfa:mg "law"=some (.ref fa))
  (d1:ZB K "_law_tape" (tq 50)) (d2:ZB K "_law_after" (tq 54)) (d3:ZB K "_law_things" (tq 55)) (d4:ZB K "_law_pick" (tq 51)) (d5:ZB K "_law_cycle" (tq 52)) (d6:ZB K "_law_perms" (tq 53)) (d7:ZB K "_law_group" (tq 56)) (d8:ZB K "round_of" (tq 4)) (d9:ZB K "full_round" (tq 5)) (d10:ZB K "fit_prime" (tq 39)) (d11:ZB K "root_powers" (tq 40)) (d12:ZB K "back" (tq 3)) (d13:ZB K "turned_by" (tq 7)) (d14:ZB K "turnings" (tq 8)) (d15:ZB K "classes_of" (tq 9)) (d16:ZB K "holders" (tq 1)) (d17:ZB K "class_numbers" (tq 10)) (d18:ZB K "power_walks" (tq 42)) (d19:ZB K "counts_of" (tq 12)) (d20:ZB K "less_often" (tq 46)) (d21:ZB K "back_by" (tq 41)) (d22:ZB K "last_part" (tq 45)) (d23:ZB K "parts_by" (tq 44)) (d24:ZB K "taken_apart" (tq 43)) (d25:ZB K "first_of" (tq 47)) (d26:ZB K "primes_of" (N30.tq 14)) (d27:ZB K "stretched" (N30.tq 16)) (d28:ZB K "quotient" (N30.tq 17)) (d29:ZB K "least_sum" (N30.tq 18)) (d30:ZB K "number_of" (N30.tq 19)) (d31:ZB K "number_at" (tq 48)) (d32:ZB K "table_of" (tq 38)) (d33:ZB K "_law_some_shares" (tq 57)) (d34:ZB K "_law_put" (tq 58)) (d35:ZB K "plus" (N30.tq 21)) (d36:ZB K "scaled" (N30.tq 22)) (d37:ZB K "gathered" (tq 23)) (d38:ZB K "put_by" (tq 35)) (d39:ZB K "sizes_of" (tq 11)) (d40:ZB K "times" (N30.tq 24)) (d41:ZB K "spread_times" (tq 30)) (d42:ZB K "turned" (N30.tq 26)) (d43:ZB K "flipped" (N30.tq 25)) (d44:ZB K "spread_flipped" (tq 31)) (d45:ZB K "places" (N30.tq 15)) (d46:ZB K "whole" (N30.tq 20)) (d47:ZB K "meeting_by" (tq 32)) (d48:ZB K "divided" (N30.tq 27)) (d49:ZB K "whole_of" (N30.tq 28)) (d50:ZB K "shares_of" (tq 34)) (d51:ZB K "share_paper" (tq 36)) (d52:ZB K "_law_paper" (tq 60)) (d53:ZB K "_law_changed" (tq 59)) (d54:ZB K "law" (tq 61))
  (z1:bo K mainGlobals "list"=some none) (z2:bo K mainGlobals "len"=some none) (z3:bo K mainGlobals "range"=some none) (z4:bo K mainGlobals "tuple"=some none) (z5:bo K mainGlobals "max"=some none) (z6:bo K mainGlobals "sorted"=some none) (z7:bo K mainGlobals "abs"=some none) (z8:bo K mainGlobals "isinstance"=some none) (z9:bo K mainGlobals "all"=some none) (z10:bo K mainGlobals "set"=some none) (z11:bo K mainGlobals "repr"=some none) (z12:bo K mainGlobals "any"=some none) (z13:bo K mainGlobals "int"=some none) (z14:bo K mainGlobals "bool"=some none) (z15:bo K mainGlobals "enumerate"=some none) (z16:bo K mainGlobals "zip"=some none) (z17:bo K mainGlobals "sum"=some none) (z18:bo K mainGlobals "min"=some none) :
  ∃O:FuncData,(∀(s:Shared) (v:Value),jr s O ⟨[v],[]⟩ [("_law_script",v)])/\∀base:Heap,K.In base->base.Ns mainGlobals mg->ZW l.prog w K mg base ZY 10 fa O ["_law_script"] (ZcV K):=by
 have oD:=λ{x}z=>av X G (n:=x) z;have U:BlB mg:=⟨oD z1,oD z2,oD z3,oD z4,oD z5,oD z6⟩;have j:Bl mg:=⟨oD z1,oD z2,oD z7,oD z3,oD z4,oD z8,oD z9,oD z10,oD z11,oD z12,oD z13,oD z14⟩;have M:Zfa mg:=⟨oD z6,oD z15⟩;have p8:BlT mg:=⟨oD z16,oD z17⟩;have J:N30.Bl mg:=⟨oD z1,oD z2,oD z7,oD z3,oD z4,oD z8,oD z9,oD z10,oD z11,oD z12,oD z13,oD z14⟩;have o6:N30.Bl2 mg:=⟨oD z15,oD z5⟩;have Y:N30.Bl3 mg:=⟨oD z16⟩;have ad:BlM mg:=⟨oD z18⟩;refine d54.law X G hfa (λbase f O nb kb F=>?_) (λ_ _ _ _ _ _ _ _=>.of_eq rfl);have fn:=@ZB.fn l.prog w K mg base h;have y8:=fn d1 X G λf O F=>Zln F U;have p6:=fn d2 X G λf O F=>Zi7 F U;have t7:=fn d3 X G λf O F=>ZgS F U p6;have o5:=fn d4 X G λf O F=>Zlp F;have w8:=fn d5 X G λf O F=>ZnW F U;have w9:=fn d6 X G λf O F=>ZiZ F U o5 w8;have x6:=fn d7 X G λf O F=>Zi4 F U t7 w9 o5 p6;have oq:=fn d8 X G λf O F=>ZiX F;have p7:=fn d9 X G λf O F=>Zlx F j oq;have y9:=fn d10 X G λf O F=>ZnV F j;have t9:=fn d11 X G λf O F=>ZiY F j;have eH:=fn d12 X G λf O F=>Zlz F;have oz:=fn d13 X G λf O F=>VH F eH;have oA:=fn d14 X G λf O F=>Zdk F j M oz;have o0:=fn d15 X G λf O F=>ZeE F j oA;have ld:=fn d16 X G λf O F=>Zlv F j M;have o7:=fn d17 X G λf O F=>Zlq F j o0 ld;have u5:=fn d18 X G λf O F=>ZiS F o7 o0;have fx:=fn d19 X G λf O F=>ZgY F j M o0 o7;have x8:=fn d20 X G λf O F=>Zlt F p8;have q0:=fn d21 X G λf O F=>ZgZ F;have mu:=fn d22 X G λf O F=>Zlu F j x8 q0;have oh:=fn d23 X G λf O F=>Zi0 F j p8 mu;have u9:=fn d24 X G λf O F=>Zi6 F j oh;have gy:=fn d25 X G λf O F=>Zi5 F;have r6:=fn d26 X G λf O F=>N30.ZgV F J;have ou:=fn d27 X G λf O F=>N30.ZnO F J o6;have oo:=fn d28 X G λf O F=>N30.ZnR F J o6;have mx:=fn d29 X G λf O F=>N30.Zi3 F r6 ou oo;have o8:=fn d30 X G λf O F=>N30.Zi1 F J o6 mx;have my:=fn d31 X G λf O F=>Zi2 F j M p8 q0 o8;have ow:=fn d32 X G λf O F=>ZiU F j M p7 y9 t9 u5 fx u9 q0 gy my;have o9:=fn d33 X G λf O F=>ZnP F j o5;have cc:=fn d34 X G λf O F=>Zlr F j Y;have om:=fn d35 X G λf O F=>N30.Zlo F J Y;have y6:=fn d36 X G λf O F=>N30.ZgT F J;have t0:=fn d37 X G λf O F=>Zlw F Y om y6;have on:=fn d38 X G λf O F=>ZnS F j M t0 y6;have or:=fn d39 X G λf O F=>ZiV F j o0;have ox:=fn d40 X G λf O F=>N30.ZiT F J o6 o8;have t5:=fn d41 X G λf O F=>ZgU F j Y ox;have oy:=fn d42 X G λf O F=>N30.VH F J o6 o8;have hQ:=fn d43 X G λf O F=>N30.Zly F oy;have r8:=fn d44 X G λf O F=>ZiW F j hQ;have oi:=fn d45 X G λf O F=>N30.ZgW F J r6;have oB:=fn d46 X G λf O F=>N30.ZnN F oi;have x9:=fn d47 X G λf O F=>ZgX F t0 t5 r8 oB;have fT:=fn d48 X G λf O F=>N30.ZeD F J;have oC:=fn d49 X G λf O F=>N30.Zlm F J;have r9:=fn d50 X G λf O F=>ZnQ F j p7 or x9 fT oC;have w6:=fn d51 X G λf O F=>ZnT F j Y r9;have y4:=fn d52 X G λf O F=>Zls F j Y ad;have t6:=fn d53 X G λf O F=>ZnX F j o5;exact ZnU F j y8 x6 ow o9 cc on r9 w6 y4 t6
theorem walk {l:gM}{q:Program}{loose:List Str}{Y:TV->Heap->Prop}{M:World->Heap->Prop}{d:DefRec}{K:Params->aa}(hn:l.most=some 63)(J:d.params.defaults=[])
  (hY:∀(w:World) (h:Heap),M w h->(K w.params).In h)
  (F:∀(w:World) (j:TV) (O:Addr) (h:Heap),(K w.params).In h->h.Ns mainGlobals j->j d.name=some (.ref O)->
   ∃U:FuncData,(∀(s:Shared) (u:Value),jr s U ⟨[u],[]⟩ [("_law_script",u)])/\∀base:Heap,(K w.params).In base->base.Ns mainGlobals j->ZW l.prog w (K w.params) j base ZY 10 O U ["_law_script"] (ZcV (K w.params))) :
  mE q loose Y M l.row.toRowW d [] (λf vs=>mC f vs):=
 L2.Zbs (n:=63) (k:=10) (x:="_law_script") (CX:=λ_=>ZY) (sp:=λw=>ZcV (K w.params)) hn (by decide) J ⟨rfl,by decide,by decide,rfl⟩ hY F (λ_ _ a ns hl _ hS=>⟨a,ns,rfl,hS,hl,λ_=>rfl⟩) λ_ _ _ _ _ z=>z
end C30
structure PySem.W.Fast where
 (tw6592591673262833258 tw1384181381784011506 tw3005131294566918895 tw14940337039052494277 tw5681880363435561883 tw5303665474981840509 tw16333703567976523977 tw9619205345900880532 tw9078463403735775551 tw2190515202463567488 tw2482565214749517651 tw12721355470764632004 tw3253273618096273193 tw14820634286054058621 tw1164129512997189220 tw9884202443025087363 tw6577249785111752334 tw10761980539715937730 tw12482377549093299120 tw13665117481912900650 tw6464247019648238514 tw5520084856194127709 tw13344176166631882636 tw617367342740750759 tw10809717897576538975 tw13678061322828536494 tw610787430156968773 tw1621882666705117665 tw5069119577751588881 tw5844292918273875668 tw7990392202028344940 tw10051174379526768601 tw1951427550567879070 tw16124156754460127097 tw15953169261815816292 tw15631099670990978399 tw8476558758486865688 tw6683145615378446487 tw18252295082544577621 tw17096458823876237731 tw5183798900458487962 tw8769443769950648974 tw4786943522500418465 tw12487955230142635376 tw8302917819500906029 tw13227109447683566704 tw3134138097966053124 tw3902854778366780301 tw11783752523947936574 tw684120263857134046 tw12890957150906246414 tw444414082961716754 tw5798878577878176407 tw11535797049993646360 tw4594220393584908686 tw7659713160131882057 tw742614528830954509 tw10092818869574799135 tw11276282721762445014 tw10186928383718722158 tw2096468013683846163 tw11535757945620967095 tw2860454942712517350 tw11797838810361503206 tw1094309480261982006 tw14452238389260932926 tw12938211808596655551 tw2655844921791767673 tw6794020567061397704 tw13203088434987620149 tw1798497798513350285 tw17278452477052939768 tw15805165835218046893 tw15161011684801892079 tw16033648627232660467 tw16006637696304997974 tw14918283833859220988 tw10117131292263375407 tw13833303225568144270 tw16242433267523521333 tw8286118425792254744 tw9544536344191983700 tw11715963355617938097 tw425049750001490743 tw469821025856679658 tw10526266731581489488 tw13355926766248226466 tw14893588980156084383 tw14120324135440055768 tw17893854031551880410 tw13143863396339098103 tw11290370938281430874 tw4110925008927029884 tw10905916230926643922 tw2672081278363299491 tw13463050529267411019 tw1486435596626485319 tw2518919754644237408 tw4671468573569700766 tw10016046292153905613 tw12399501529142184100 tw15806453524558135039 tw1155155972837990072 tw17532143849001858704 tw4978449630190489433 tw14775730539403079126 tw13495513025055615231 tw5384762685288845331 tw17312763424717575254 tw7867468978655077960 tw9156793283618919197 tw2490605471991103907 tw18348754712192689441 tw3163961603690980822 tw8980354434458167622 tw616682443620031192 tw6183899890146526028 tw9301861262222590777 tw955668314758766896 tw7282526771471711684:True)
open PySem PySem.W PyProof.Rows
set_option maxRecDepth 100000 in
set_option maxHeartbeats 0 in
theorem PySem.Challenge.cw_classtab_k30_shares_holds : PySem.Challenge.rw_classtab_k30_shares.Holds := by
 w_on;o_law;k_head;(case hw=>w_witness2)
 k_fill
 refine C30.walk (l:=PySem.Challenge.rw_classtab_k30_shares) rfl rfl (fun w h Y=>PySem.W.kIn_of Y) ?F
 case F=>
  intro w mg fa h KX G hmg
  refine' C30.all_mk KX G hmg (.mk ?_ ?_ ?_ ?_) (.mk ?_ ?_ ?_ ?_) (.mk ?_ ?_ ?_ ?_) (.mk ?_ ?_ ?_ ?_) (.mk ?_ ?_ ?_ ?_) (.mk ?_ ?_ ?_ ?_) (.mk ?_ ?_ ?_ ?_) (.mk ?_ ?_ ?_ ?_) (.mk ?_ ?_ ?_ ?_) (.mk ?_ ?_ ?_ ?_) (.mk ?_ ?_ ?_ ?_) (.mk ?_ ?_ ?_ ?_) (.mk ?_ ?_ ?_ ?_) (.mk ?_ ?_ ?_ ?_) (.mk ?_ ?_ ?_ ?_) (.mk ?_ ?_ ?_ ?_) (.mk ?_ ?_ ?_ ?_) (.mk ?_ ?_ ?_ ?_) (.mk ?_ ?_ ?_ ?_) (.mk ?_ ?_ ?_ ?_) (.mk ?_ ?_ ?_ ?_) (.mk ?_ ?_ ?_ ?_) (.mk ?_ ?_ ?_ ?_) (.mk ?_ ?_ ?_ ?_) (.mk ?_ ?_ ?_ ?_) (.mk ?_ ?_ ?_ ?_) (.mk ?_ ?_ ?_ ?_) (.mk ?_ ?_ ?_ ?_) (.mk ?_ ?_ ?_ ?_) (.mk ?_ ?_ ?_ ?_) (.mk ?_ ?_ ?_ ?_) (.mk ?_ ?_ ?_ ?_) (.mk ?_ ?_ ?_ ?_) (.mk ?_ ?_ ?_ ?_) (.mk ?_ ?_ ?_ ?_) (.mk ?_ ?_ ?_ ?_) (.mk ?_ ?_ ?_ ?_) (.mk ?_ ?_ ?_ ?_) (.mk ?_ ?_ ?_ ?_) (.mk ?_ ?_ ?_ ?_) (.mk ?_ ?_ ?_ ?_) (.mk ?_ ?_ ?_ ?_) (.mk ?_ ?_ ?_ ?_) (.mk ?_ ?_ ?_ ?_) (.mk ?_ ?_ ?_ ?_) (.mk ?_ ?_ ?_ ?_) (.mk ?_ ?_ ?_ ?_) (.mk ?_ ?_ ?_ ?_) (.mk ?_ ?_ ?_ ?_) (.mk ?_ ?_ ?_ ?_) (.mk ?_ ?_ ?_ ?_) (.mk ?_ ?_ ?_ ?_) (.mk ?_ ?_ ?_ ?_) (.mk ?_ ?_ ?_ ?_) ?_ ?_ ?_ ?_ ?_ ?_ ?_ ?_ ?_ ?_ ?_ ?_ ?_ ?_ ?_ ?_ ?_ ?_
  any_goals k_is
  all_goals kernel_rfl
