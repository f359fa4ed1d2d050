import PyProof.Rows.All
import Wide.All
import OpenK.AllK
import Wide.FinOn
import Lean
import PyProof.EqAt
import PyProof.EqKinds
import PyProof.TupleCall
import PyProof.DictWalks
import KE.KDictSum
import KE.KSortTup
import PyProof.EnumMake
import PyProof.EnumFor
import PyProof.TupleIter
import PyProof.Rows.Range3
import KE.LcSums
import PyProof.ZipIter
import PyProof.Rows.IntMath
import PySem.Challenge.RW_classtab_k39_sorts_and_roots
open PySem.W renaming Frag->ab,mg_none_of->au,nsIn->bh,kia_one->bV,fnOf->cr,keepIn->dY,codeIn->fj,kas_rev->fu,OpenLaw->gD,cellsFrom_some->gL,methodObj->iP,instObj->jc,lookIn->jx,kitOne->jy,KasT->jS,kas_sort->kJ,ked_eqvAll->ly,kitx_list->lP,kitx_dict->lQ,plainGet->ma,WalkO->md,kas_tail3->mM,findIn->mO,mg_of->m9
open List renaming range->ac,getElem?_eq_some_iff->ae,mem_range->af,getElem?_eq_none->ah,replicate->ak,getElem?_range->ao,mem_of_getElem?->av,getElem?_append_left->aw,getElem?_append_right->ax,contains_iff_mem->aA,all_eq_true->aD,mem_cons_self->aE,mem_cons->aF,mem_cons_of_mem->aH,map_map->aK,map_cons->aL,mem_map->aN,mem_singleton->aQ,mem_append_right->aS,map_append->aU,replicate_succ->aW,ext_getElem?->aY,any_eq_true->a6,map_congr_left->a8,getElem_mem->bg,length_set->bA,flatten_cons->bC,getElem?_zip_eq_some->bE,nodup_cons->bG,mem_append->bH,Perm->bN,perm_ext_iff_of_nodup->bQ,drop_eq_getElem_cons->bS,filterMap_cons->bU,mem_append_left->bY,length_take->bZ,getElem?_replicate->b8,getElem?_of_mem->b9,sum_cons->cf,nodup_range->cu,length_zip->cI,not_mem_nil->cQ,length_drop->cR,length_replicate->cU,range_succ->c6,take_add_one->c8,length->c9,take_length->dz,tail_cons->dA,lookup_cons->dB,range'->dI,any_map->dJ,any_cons->dU,range_eq_range'->eC,nodup_nil->eE,length_eraseIdx->eF,length_dropLast->eG,range'_succ->eO,drop_length->eP,mem_filter->fe,find?_cons->ff,length_eq_zero_iff->fo,map_nil->fv,drop_eq_nil_of_le->fw,append_assoc->fz,append_nil->fW,take_zero->gb,mem_of_find?_eq_some->gu,getElem?_eq_none_iff->gv,any_eq_false->gB,pairwise_singleton->gS,zipWith->ic,take_of_length_le->ie,pairwise_lt_range->ig,getElem?_zipWith->ir,pairwise_append->iB,map_eq_cons_iff->iC,findIdx_getElem->iD,length_zipWith->iO,mem_filterMap->iT,lookup_append->iU,getElem?_take->iV,find?_eq_none->iW,take_sublist->i4,pairwise_map->i6,map->i7,getElem?_set->i8,foldl_append->i9,findIdx_lt_length_of_exists->ja,eraseIdxIfInBounds_toArray->jg,countP_cons->jq,of_mem_zip->jH,length_nil->jI,length_map->jK,forIn_cons->jL,foldl_cons->jM,find?_some->jN,any_append->jO,forIn_nil->j7,pairwise_iff_getElem->kh,find?_range_eq_some->kC,eq_of_mem_replicate->kD,contains_eq_any_beq->kF,eraseIdx_cons_succ->kQ,range_succ_eq_map->kS,getElem?_set_self->kT,getElem?_eraseIdx->kU,getElem?_dropLast->kW,findIdx_lt_length->kZ,any_nil->lc,getElem?_toArray->lK,filterMap_append->lL,mem_erase_of_ne->lX,getElem?_set_ne->lY,filter_sublist->mo,pairwise_cons->mF,map_inj_right->mG,foldl->mH,nodup_append->mV,getElem?_inj->mW,zipIdx_cons->nq,getElem_map->nv,filter_cons->ny,ext_getElem->nC
open Bool renaming and_eq_true->ag,false_ne_true->aG,or_eq_true->aZ,eq_iff_iff->c7,false_eq_true->dM,and_true->dW,not_eq_true'->gC,or_false->gI,false_or->gJ,true_and->kG,eq_false_iff->mY
open Classical renaming byContradiction->am
open PySem.PassesOwn renaming never->aq
open Option.some renaming inj->ay
open Nat renaming ne_of_lt->aB,lt_of_lt_of_le->aC,zero_le->aX,le_trans->a5,dvd_of_mod_eq_zero->be,ne_of_gt->bt,mod_eq_of_lt->bK,lt_irrefl->cg,mod_lt->cm,succ_mul->cy,lt_of_succ_lt_succ->cO,sub_self->de,mul_le_mul_right->df,lt_succ_self->dE,mul_comm->dO,add_sub_cancel->dP,le_of_succ_le->ee,le_of_lt->eR,le_add_right->eS,not_lt_zero->fh,lt_of_le_of_ne->fm,sub_zero->fF,lt_succ_of_lt->fG,mul_le_mul_left->fX,zero_mul->f7,lt_or_ge->f8,le_succ->gG,le_of_dvd->gR,succ_lt_succ->gZ,add_zero->ik,mod_add_mod->iq,mul_one->iI,zero_add->je,lt_trans->jf,succ_ne_zero->jB,le_of_not_lt->jC,mul_add->jG,min_le_left->jX,mul_le_mul->kg,lt_of_mul_lt_mul_left->kB,mul_assoc->kO,add_lt_add_iff_right->kP,succ_pos->lI,min_self->lJ,mod_eq_sub_mod->mU,lt_trichotomy->nk,add_mod_right->no
open PySem.Value renaming ref->aI,none->bT,type->db,isInt_shape->gq,int->gM,bool->gU,str->ko,notImplemented->lz,isInt->lA
open PySem renaming Spec->aJ,wpAny_newObj_type->ba,wpAny_callSpecial?_slot->bb,wpAny_call_entry->bm,wpAny_field->bu,mem_of_lookup->bw,wpAny_setField_rec->bI,wpAny_seqItems->cp,wpAny_mono->cD,wpAny_holding->cG,Builtin->cH,codeAny_builtin->cM,Scope->cZ,call_meets->dC,wpAny_setField->dN,IsPair->dZ,wpAny_passesOwn->eh,wpAny_attempt->eB,wpAny_pyIter_enum->eK,wpAny_rule->eV,NameKind->eW,PyData->fk,plainId_quiet->fq,wpAny_pyIter_list->fN,codeAny_mono->fO,sizeLine_eq->fZ,wpAny_pyIter_tuple->gK,IsEnum->gO,wpAny_truthy_bool->g9,ItemsOf->hG,IsRangeIter->hU,wpAny_isInstance->iu,wpAny_typeOf->iE,wpAny_pyNext_range_end->iF,wpAny_pyIter_rangeiter->iG,wpAny_execs_nil->iL,IsZip->iM,wpAny_updateSeq_pair->iX,wpAny_fieldsOf->iY,BindsTo->i3,wpAny_onRaise->jj,wpAny_pyIter_range->jr,wpAny_load->jt,wpAny_Call_Name_kw->ju,typeIs_int->jv,tupleKind_room_in1->jw,wpAny_askSetting->j9,noFill_tuple_add->ka,IsPart->kc,wpAny_of_eq->ki,wpAny_letGo->km,wpAny_ite_split->kH,codeAny_of_tree->kI,wpAny_runValue->lf,wpAny_newTuple->lh,wpAny_letOwnedTupleGo_enum->lq,isSubtype_type->lr,isSubtype_stop->lu,PlainAttrs->lC,Paired->lD,Operator->lE,Drawn->lG,wpAny_binaryOp_repeat_ref->lO,wpAny_standAt->lZ,wpAny_newList->l5,wpAny_comprehension_free->l6,seq_tuple_add->l7,call->l8,Meets->mC,wpAny_Call_method_late->mJ,seqSlot_of->mK,concat_meets->mL,wpAny_isTrue_Compare1->mZ,builtinLookup_eq_fast->m8
open PySem.F renaming plainAttrs_list->aM,slot_list_append->aR,type_list_append->aT,called_set->cq,slot_tuple_iterator_next->eQ,plain_list_iadd->eZ,slot_tuple_mul->fc,slot_enumerate_next->fQ,slot_list_pop->f9,args_tuple_add_2->gh,entry_tuple_add->gw,slot_tuple_add->gP,slot_tuple_index->gX,called_tuple->ii,slot_zip_next->iy,slot_int_rmul->iA,args_tuple_mul_2->jd,plain_proto_collect->jp,entry_tuple_mul->jA,plain_extend_loop->jF,type_tuple_index->jT,slot_dict_update->jU,plainAttrs_tuple->jV,slot_tuple_rmul->j3,args_tuple_iterator_next_1->ke,type_list_pop->kw,plain_set_new->kx,entry_tuple_iterator_next->kA,args_object_init_2->kL,slot_list_extend->lF,slot_list_count->lT,args_enumerate_next_1->lU,entry_enumerate_next->mh
open PySem.PyData renaming int->aO,depthAll->bO,tuple->ce,canLayAll0->cF,depth->cW,leavesShortAll->dQ,canLay0->d0,showableAll->eX,eqv->eY,shown->fV,hasDictAll->gf,eqvAll->gt,bulkAll->ip,showable->jm,leavesShort->lS,hasDict->nh
open Array renaming getElem?_eq_getElem->aP,getElem?_toList->bM,getElem?_eq_none->cK,getD_eq_getD_getElem?->cL,perm_iff_toList_perm->jY,toArray_toList->lN,size_extract->mv,getD->mw,toList_push->mI
open Int renaming natCast_mul->aV,natCast_emod->a9,eq_ofNat_of_zero_le->bB,mul_emod->bF,zero_mul->bW,mul_assoc->ci,emod_lt_of_pos->cx,zero_add->cz,mul_zero->cB,add_zero->cC,emod_nonneg->cJ,mul_comm->cP,mul_le_mul_of_nonneg_right->dF,emod_eq_of_lt->fH,emod_emod_of_dvd->fU,natCast_nonneg->gm,neg_mul->gH,sub_emod->io,mul_one->iJ,dvd_refl->ji,natCast_ediv->jD,one_mul->jP,mul_sub->jQ,sub_zero->lM,sub_mul->mq,add_mul->mr,natAbs_natCast->mX
open PySem.Builtin.SmallTypes renaming nextOf->a7,ownedTupleIsFree->bq,ownedTupleHandOut->cn
open PySem.Heap renaming SameBut->bd,size_push->bo,get?_update_self->bx,get?_update_other->bR,ExtBut->ix,size_update->jo,get?_push_ne->mS
open PySem.Builtin.Range renaming rangeSize->bf,small->cw,rangeFitsLong->iN
open PyProof.Rows renaming callWith_type1->bn,IntsAre->bP,slot_tuple_getitem->dG,AllBare->iH,get?_update_seq->kN,boot_range->lH,firstMet_succ->mj,subscriptTail_builtinR->mT
open PySem.Obj renaming data_mapFields->bv,mapSeq->cT,isFreed_of_fields->cV,cls_mapFields->gE,mapFields->gN,putSet->iZ
open PySem.Heap.SameBut renaming update->bD
open Ne renaming symm->bJ
open PySem.Around renaming under_plainId->bX
open PySem.Builtin.Tuple renaming tupleExact->ck,tupleItemsOf->fJ,tupleTooMany->iQ
open PySem.Str renaming ofString->cN
open ForInStep renaming yield->cS
open PySem.SeqAt renaming shaped->cY,EqAt->lB,notIn_tupleAt->lR,notIn_listAt->mf,any_by_data->mB,items_eqAt->mR
open List.Perm renaming refl->dh,swap->jh,append_left->j8
open True renaming intro->di
open List.Pairwise renaming sublist->dk,nil->fR,imp_of_mem->fS,map->im
open Nat.succ renaming inj->dw
open PySem.Builtin.List renaming listExtendWith->dD,listTooLong->ed,listLengthHint->fI,listSameRef->i0
open PySem.NameKind renaming cell->dH,free->fC
open PySem.Builtin.Slice renaming slicePlaces->dR,sliceAdjust->fP,sliceApplied->iR
open PyProof.Rows.F renaming plain_set_update_loop->dS,entry_set_update_loop->gF
open PySem.SetTable renaming grown->dX,below->mz,slot->mP,fits->mQ
open False renaming elim->eA
open PySem.AutoSeq1 renaming sub_tuple_tuple->eL,idx_int->iS
open PySem.Calls renaming callWith_builtin->ft,evalArgs_plain->iw,Name_function_global->jW,call_function_entry->lV,spliced_cons->mi,spliced_nil->mD
open PySem.Challenge renaming rw_classtab_k39_sorts_and_roots->fK,pw_classtab_k39_sorts_and_roots->fM
open Sum renaming inl->fY,inr->jb
open PySem.Data renaming cell->f6,fields->gA
open PyProof.Rows.IsTup renaming new->gQ
open Option renaming map_some->gY,isSome_iff_exists->j6,isSome_map->mm,getD_none->mE
open Std.Legacy renaming Range->iK
open PySem.SeqAt.EqAt renaming int_int->jE,str_int->kq,int_str->ku
open PySem.pickOrder renaming go->jR
open PySem.Paired renaming length->jZ
open PyProof renaming noPylong_small->kf
open PySem.IsRange renaming new->kK
open PySem.Shared renaming heap->kR
open PySem.Walks renaming range->lx,list->l9
open Prod renaming fst->lW
open PySem.Heap.IsTuple renaming typeIs->ni
set_option Elab.async false
set_option linter.all false
set_option maxRecDepth 100000
theorem Za {α j:Type _}{l:List α}{f:α->j}:(l.map f).length=l.length:=jK ..
theorem Zb {α:Type _}{l:List α}{i:Nat}{a:α}:l.getD i a=l[i]?.getD a:=List.getD_eq_getElem?_getD ..
theorem Zc {α j:Type _}{f:α->j}{l:List α}{i:Nat}:(l.map f)[i]?=l[i]?.map f:=List.getElem?_map ..
theorem Zd {α:Type _}{a b:List α}:(a++b).length=a.length+b.length:=List.length_append ..
theorem Ze {α:Type _}{n:Nat}{a:α}:(ak n a).length=n:=cU ..
theorem Zf {α:Type _}{l:List α}{i:Nat}(h:i<l.length):l[i]?=some l[i]:=List.getElem?_eq_getElem h
theorem Zg {n:Nat}:(ac n).length=n:=List.length_range ..
theorem Zh {α:Type _}{l:List α}:l.toArray.size=l.length:=List.size_toArray ..
theorem Zi {α:Type _}{a:α}{l:List α}:(a::l).length=l.length+1:=List.length_cons ..
theorem Zj (n:Nat):(n:Int).toNat=n:=Int.toNat_natCast n
theorem Zk {α:Type _}{a:α}:[a].length=1:=List.length_singleton ..
noncomputable abbrev Zl:=@PySem.wpAny_bind
noncomputable abbrev Zm:=@PySem.wpAny_pure
noncomputable abbrev Zn:=@PySem.Heap.get?_push_of_some
noncomputable abbrev Zo:=@PySem.Heap.get?_push_size
noncomputable abbrev Zp:=@PySem.Heap.lt_size
noncomputable abbrev Zq:=@Nat.le_refl
noncomputable abbrev Zr.{u}:=@Array.length_toList.{u}
namespace L2
open PySem PySem.Spec PyProof.Rows
noncomputable abbrev Yz:=Sum Int Str
noncomputable def Zaf:Yz->Value->Bool
 | .inl k,v=>lA k v
 | .inr x,v=>Value.isStrOf x v
noncomputable def Zp2 (w:World):Yz->Int
 | .inl k=>hashInt k
 | .inr x=>hashStr w x
theorem Yn:∀{k:Yz}{v:Value},Zaf k v=true->(∃i t,k=fY i/\v=gM i t)\/(∃x t,k=jb x/\v=ko x t)
 | .inl i,v,h=>by
  obtain⟨t,e⟩:=gq (k:=i) (v:=v) h;exact .inl ⟨i,t,rfl,e⟩
 | .inr x,v,h=>by
  obtain⟨t,e⟩:=Value.isStrOf_shape (x:=x) (v:=v) h;exact .inr ⟨x,t,rfl,e⟩
theorem ZfO (i:Int)(t:Tok):Zaf (.inl i) (.int i t)=true:=by simp[Zaf,lA]
theorem ZfN (x:Str)(t:Tok):Zaf (.inr x) (.str x t)=true:=by simp[Zaf,Value.isStrOf]
theorem Zmw (a b:Int):decide ((fY a:Yz)=fY b)=(a == b):=by
 by_cases e:a=b
 ·subst e;simp
 ·have h:¬(fY a:Yz)=fY b:=fun q=>e (Sum.inl.inj q)
  rw[decide_eq_false h];exact (beq_eq_false_iff_ne.mpr e).symm
theorem Zmt (a b:Str):decide ((jb a:Yz)=jb b)=decide (a=b):=by
 by_cases e:a=b
 ·subst e;simp
 ·have h:¬(jb a:Yz)=jb b:=fun q=>e (Sum.inr.inj q)
  rw[decide_eq_false h,decide_eq_false e]
theorem Zmv (a:Int)(b:Str):decide ((fY a:Yz)=jb b)=false:=decide_eq_false (fun q=>nomatch q)
theorem Zmu (a:Str)(b:Int):decide ((jb a:Yz)=fY b)=false:=decide_eq_false (fun q=>nomatch q)
noncomputable def Ym (prog:Program)(w:World):PySem.KeyKind prog w Yz where
 is:=Zaf
 hash:=Zp2 w
 inj:=fun v a b M hb=>by
  rcases Yn M with ⟨i,t,rfl,rfl⟩|⟨x,t,rfl,rfl⟩
  ·rcases Yn hb with ⟨j,u,rfl,e⟩|⟨y,u,rfl,e⟩
   ·injection e with q _;rw[q]
   ·exact nomatch e
  ·rcases Yn hb with ⟨j,u,rfl,e⟩|⟨y,u,rfl,e⟩
   ·exact nomatch e
   ·injection e with q _;rw[q]
 byValue:=fun k v h=>by
  rcases Yn h with ⟨i,t,rfl,rfl⟩|⟨x,t,rfl,rfl⟩ <;> rfl
 pyHash:=fun J h=>by
  rcases Yn J with ⟨i,t,rfl,rfl⟩|⟨x,t,rfl,rfl⟩
  ·exact wpAny_pyHash_int h
  ·exact wpAny_pyHash_str h
 eqBool:=fun O J h=>by
  rcases Yn O with ⟨i,t,rfl,rfl⟩|⟨x,t,rfl,rfl⟩
  ·rcases Yn J with ⟨j,u,rfl,rfl⟩|⟨y,u,rfl,rfl⟩
   ·rw[Zmw] at h;exact wpAny_eqBool_int h
   ·rw[Zmv] at h;exact ku i t y u _ _ _ _ h
  ·rcases Yn J with ⟨j,u,rfl,rfl⟩|⟨y,u,rfl,rfl⟩
   ·rw[Zmu] at h;exact kq x t j u _ _ _ _ h
   ·rw[Zmt] at h;exact wpAny_eqBool_str h
 «strs»:=fun k x t v h=>by
  rcases Yn h with ⟨i,u,rfl,e⟩|⟨y,u,rfl,e⟩
  ·exact nomatch e
  ·injection e with q _
   subst q;cases v <;> rfl
theorem Zcm (prog:Program)(w:World)(i:Int)(t:Tok):(Ym prog w).is (.inl i) (.int i t)=true:=ZfO i t
theorem Zcl (prog:Program)(w:World)(x:Str)(t:Tok):(Ym prog w).is (.inr x) (.str x t)=true:=ZfN x t
inductive V where
 |non|bl (b:Bool)|int (i:Int)|str (x:Str)|byt (b:Array UInt8)|flt (b:UInt64)|ref (a:Addr)|ty (n:String)
 deriving DecidableEq
noncomputable def RelV:V->Value->Prop
 | .non,u=>u=bT
 | .bl b,u=>u=gU b
 | .int i,u=>∃t,u=gM i t
 | .str x,u=>∃t,u=ko x t
 | .byt b,u=>∃t,u=Value.bytes b t
 | .flt b,u=>∃t,u=Value.float b t
 | .ref a,u=>u=aI a
 | .ty n,u=>u=db n
noncomputable abbrev ZK:List V->List Value->Prop:=lD RelV
theorem ZK.length {xs:List V}{us:List Value}(r:ZK xs us):xs.length=us.length:=jZ r
theorem ZK.get:∀{xs:List V}{us:List Value}{i:Nat}{x:V},ZK xs us->xs[i]?=some x->∃u,us[i]?=some u/\RelV x u
 |_,_,_,_,.nil,e=>by simp at e
 |_,_,0,_,.cons r _,e=>by simp at e;subst e;exact⟨_,rfl,r⟩
 |_,_,i+1,x,.cons _ t,e=>by
  obtain⟨u,j,q⟩:=ZK.get (i:=i) (x:=x) t (by simpa using e);exact⟨u,by simpa using j,q⟩
theorem ZK.set {x:V}{u:Value}(r:RelV x u):∀{xs:List V}{us:List Value} (i:Nat),ZK xs us->ZK (xs.set i x) (us.set i u)
 |_,_,_,.nil=>.nil
 |_,_,0,.cons _ t=>.cons r t
 |_,_,i+1,.cons q t=>.cons q (ZK.set r i t)
theorem ZK.append:∀{xs ys:List V}{us j:List Value},ZK xs us->ZK ys j->ZK (xs++ys) (us++j)
 |_,_,_,_,.nil,s=>s
 |_,_,_,_,.cons r t,s=>.cons r (ZK.append t s)
theorem ZK.take:∀{xs:List V}{us:List Value} (n:Nat),ZK xs us->ZK (xs.take n) (us.take n)
 |_,_,0,_=>.nil
 |_,_,_+1,.nil=>.nil
 |_,_,n+1,.cons r t=>.cons r (ZK.take n t)
theorem ZK.drop:∀{xs:List V}{us:List Value} (n:Nat),ZK xs us->ZK (xs.drop n) (us.drop n)
 |_,_,0,r=>r
 |_,_,_+1,.nil=>.nil
 |_,_,n+1,.cons _ t=>ZK.drop n t
noncomputable def UK:Option V->Option Value->Prop
 |some v,some u=>RelV v u
 |none,none=>True
 |_,_=>False
noncomputable def KV {j:Type}:List (j×V)->List (j×Value)->Prop:=lD fun (p:j×V) (q:j×Value)=>p.1=q.1/\RelV p.2 q.2
noncomputable def kV:Yz->V
 | .inl i=>.int i
 | .inr x=>.str x
inductive HO where
 |lst (xs:List V)
 |tup (xs:List V)
 |dK (kvs:List (Yz×V))|dT (kvs:List (List Yz×V))
 |set (S:Int->Bool) (n:Nat)
 |ins (C dx:Addr) (fs:List (Str×V))
 |own (x:Addr)
 |xd (fs:List (Str×V))
 |met (f x:Addr)
 |rng (lo hi:Int)
 |frz (o:Obj) (u:HO)
 |tbl (ps:Array Value)
 |ext (φ:Heap->Prop)
noncomputable abbrev Hp:=Addr->Option HO
noncomputable def upd (H:Hp)(a:Addr)(o:HO):Hp:=fun b=>if b=a then some o else H b
theorem Zt {H:Hp}{a:Addr}{o:HO}:upd H a o a=some o:=by unfold upd;rw[if_pos rfl]
theorem Zx {H:Hp}{a b:Addr}{o:HO}(h:b≠a):upd H a o b=H b:=by unfold upd;rw[if_neg h]
theorem ZiT {H:Hp}{a:Addr}{o u:HO}:upd (upd H a o) a u=upd H a u:=by
 funext b;unfold upd;split <;> rfl
theorem ZhN {H:Hp}{a b:Addr}{o u:HO}(h:H a=some o)(h':H b=some u)(d:o≠u):a≠b:=by
 intro e;subst e;rw[h] at h';exact d (ay h')
theorem Z1 {H:Hp}{a b:Addr}{o:HO}(h:H a=some o)(h':H b=none):a≠b:=by
 intro e;subst e;rw[h] at h';cases h'
section
variable (P:Program)(w:World)
noncomputable def Z6 (H:Hp)(h:Heap)(a:Addr):HO->Prop
 | .lst M=>M.length<=sizeLine/\∃(j:List Value) (n:Nat),ZK M j/\h.get? a=some {cls:=.type "list",data:=.seq j.toArray n}
 | .tup M=>M.length<=sizeLine/\∃j:List Value,ZK M j/\IsTup h a j.toArray
 | .dK J=>J.length<=sizeLine/\(a == sysModules)=false/\∃vs,KV J vs/\h.DictOf (Ym P w) a vs
 | .dT J=>J.length<=sizeLine/\(a == sysModules)=false/\∃M:List (List Yz×Addr×Value),
   lD (fun (p:List Yz×V) (q:List Yz×Addr×Value)=>p.1=q.1/\H q.2.1=some (.tup (p.1.map kV))/\RelV p.2 q.2.2) J M/\
   ∃o es ep,h.get? a=some o/\o.ExactDict/\o.data=.dict es ep/\es.toList=M.map (entryOfKey (tupleKind (Ym P w)))/\(M.map (·.1)).Nodup
 | .set S n=>h.SetOf (intKind P w) a S n
 | .ins C U fs=>H U=some (.own a)/\fs.length<=1000/\U≠a/\h.get? a=some (jc C U)/\
   ∃O,h.Ns1 U O/\(∀f,UK (fs.lookup f) (O f))/\PySem.Within O (fs.map (·.1))
 | .own _=>∃o,h.get? a=some o
 | .xd fs=>∃O,h.Ns1 a O/\∀f,UK (fs.lookup f) (O f)
 | .rng lo hi=>∃t u v,h.get? a=some {cls:=.type "range",data:=.fields #[.int lo t,.int hi u,.int 1 v]}
 | .frz o u=>h.get? a=some o/\Z6 H h a u
 | .tbl ps=>h.get? a=some {cls:=.none,data:=.fields ps}
 | .met f x=>h.get? a=some (iP (.ref f) (.ref x))
 | .ext Y=>Y h/\(∃o,h.get? a=some o)/\∀h1 h2:Heap,Y h1->(∀o,h1.get? a=some o->h2.get? a=some o)->Y h2
noncomputable def Xd (H:Hp)(h:Heap):Prop:=∀a o,H a=some o->Z6 P w H h a o
end
section
variable {P:Program}{w:World}{H H':Hp}{h h':Heap}{a:Addr}{o:HO}
theorem Z6.lt (x:Z6 P w H h a o):a<h.objs.size:=by
 cases o with
 |lst q=>obtain⟨_,_,_,_,e⟩:=x;exact Zp e
 |tup q=>obtain⟨_,_,_,p⟩:=x;exact p.lt
 |dK j=>obtain⟨_,_,_,_,o,_,_,e,_⟩:=x;exact Zp e
 |dT j=>obtain⟨_,_,_,_,o,_,_,e,_⟩:=x;exact Zp e
 |set S n=>obtain⟨o,_,_,_,e,_⟩:=x;exact Zp e
 |ins C J fs=>obtain⟨_,_,_,e,_⟩:=x;exact Zp e
 |own y=>obtain⟨_,e⟩:=x;exact Zp e
 |xd fs=>obtain⟨_,⟨_,_,_,e,_⟩,_⟩:=x;exact Zp e
 |rng lo M=>obtain⟨_,_,_,e⟩:=x;exact Zp e
 |frz O u=>obtain⟨e,_⟩:=x;exact Zp e
 |tbl U=>exact Zp (show h.get? a=some _ from x)
 |met f y=>exact Zp (show h.get? a=some _ from x)
 |ext Y=>obtain⟨_,⟨_,e⟩,_⟩:=x;exact Zp e
theorem lD.mapP {α J:Type}{F G:α->J->Prop}:∀{j:List α}{q:List J},lD F j q->(∀a b,F a b->G a b)->lD G j q
 |_,_,.nil,_=>.nil
 |_,_,.cons r t,f=>.cons (f _ _ r) (lD.mapP t f)
theorem Z6.stay (x:Z6 P w H h a o)(k:∀b u,(b=a\/H b=some (.own a))->h.get? b=some u->h'.get? b=some u)
  (ho:∀b,H b=some (.own a)->H' b=some (.own a)) (ht:∀b xs,H b=some (.tup xs)->H' b=some (.tup xs)):Z6 P w H' h' a o:=by
 induction o with
 |lst xs=>obtain⟨z,O,n,r,e⟩:=x;exact⟨z,O,n,r,k _ _ (.inl rfl) e⟩
 |tup xs=>obtain⟨z,O,r,j,e,c⟩:=x;exact⟨z,O,r,j,k _ _ (.inl rfl) e,c⟩
 |dK U=>obtain⟨z,y,vs,r,j,J,M,e,c⟩:=x;exact⟨z,y,vs,r,j,J,M,k _ _ (.inl rfl) e,c⟩
 |dT U=>
  obtain⟨z,y,xs,r,j,J,M,e,c⟩:=x;exact⟨z,y,xs,lD.mapP r fun p q z=>⟨z.1,ht _ _ z.2.1,z.2.2⟩,j,J,M,k _ _ (.inl rfl) e,c⟩
 |set S n=>obtain⟨j,J,M,t,e,c⟩:=x;exact⟨j,J,M,t,k _ _ (.inl rfl) e,c⟩
 |ins C dx fs=>
  obtain⟨d,z,ne,e,Y,⟨od,J,M,e2,c⟩,r⟩:=x;exact⟨ho _ d,z,ne,k _ _ (.inl rfl) e,Y,⟨od,J,M,k _ _ (.inr d) e2,c⟩,r⟩
 |own y=>obtain⟨j,e⟩:=x;exact⟨j,k _ _ (.inl rfl) e⟩
 |xd fs=>obtain⟨Y,⟨od,J,M,e,c⟩,r⟩:=x;exact⟨Y,⟨od,J,M,k _ _ (.inl rfl) e,c⟩,r⟩
 |rng lo hi=>obtain⟨t,u,v,e⟩:=x;exact⟨t,u,v,k _ _ (.inl rfl) e⟩
 |frz j u ih=>obtain⟨e,q⟩:=x;exact⟨k _ _ (.inl rfl) e,ih q⟩
 |tbl ps=>
  have e:h.get? a=some {cls:=.none,data:=.fields ps}:=x;show h'.get? a=some {cls:=.none,data:=.fields ps};exact k a _ (.inl rfl) e
 |met f y=>
  have e:h.get? a=some (iP (.ref f) (.ref y)):=x;show h'.get? a=some (iP (.ref f) (.ref y));exact k a _ (.inl rfl) e
 |ext φ=>obtain⟨p,⟨o,e⟩,st⟩:=x;exact⟨st _ _ p fun o q=>k _ _ (.inl rfl) q,⟨o,k _ _ (.inl rfl) e⟩,st⟩
theorem Xd.lt (x:Xd P w H h)(e:H a=some o):a<h.objs.size:=(x a o e).lt
theorem Xd.fresh (x:Xd P w H h)(e:h.objs.size<=a):H a=none:=by
 cases q:H a with
 |none=>rfl
 |some u=>exact absurd (aC (x.lt q) e) (cg _)
theorem Xd.kept (x:Xd P w H h)(k:∀b u,h.get? b=some u->h'.get? b=some u):Xd P w H h':=fun a o e=>
 (x a o e).stay (fun b u _ q=>k b u q) (fun _ q=>q) fun _ _ q=>q
theorem Xd.laid (x:Xd P w H h)(k:∀b u,h.get? b=some u->h'.get? b=some u)(M:h.objs.size<=a)(j:Z6 P w (upd H a o) h' a o):Xd P w (upd H a o) h':=fun b u e=>by
 have J:=x.fresh M;by_cases hb:b=a
 ·subst hb;rw[Zt] at e;cases e;exact j
 ·rw[Zx hb] at e
  exact (x b u e).stay (fun c v _ q=>k c v q) (fun c q=>by rw[Zx (Z1 q J)];exact q) fun c O q=>by rw[Zx (Z1 q J)];exact q
end
noncomputable def Rd (H:Hp)(a:Addr)(u:HO):Prop:=H a=some u\/∃o,H a=some (.frz o u)
theorem Rd.ok {P:Program}{w:World}{H:Hp}{h:Heap}{a:Addr}{u:HO}(r:Rd H a u)(x:Xd P w H h):Z6 P w H h a u:=by
 rcases r with r|⟨o,r⟩
 ·exact x a u r
 ·obtain⟨_,q⟩:=x a _ r
  exact q
noncomputable def Mut:Option HO->Prop
 |some (.lst _)=>True
 |some (.dK _)=>True
 |some (.dT _)=>True
 |some (.set _ _)=>True
 |some (.ins _ _ _)=>True
 |some (.ext _)=>True
 |_=>False
section
variable {P:Program}{w:World}{H:Hp}{h h':Heap}{x e:Addr}{o':HO}
theorem Xd.write (ok:Xd P w H h)(O:Mut (H x))(he:e=x\/H e=some (.own x))(k:∀b u,b≠e->h.get? b=some u->h'.get? b=some u)(n4:∃u,h'.get? e=some u)
  (n6:Z6 P w (upd H x o') h' x o'):Xd P w (upd H x o') h':=fun b u q=>by
 have J:∀c y,H c=some (.own y)->c≠x:=fun c y r z=>by subst z;rw[r] at O;exact O
 have M:∀c U,H c=some (.tup U)->c≠x:=fun c U r z=>by subst z;rw[r] at O;exact O
 by_cases hb:b=x
 ·subst hb;rw[Zt] at q;cases q;exact n6
 ·rw[Zx hb] at q
  by_cases j:b=e
  ·have q':H b=some (.own x):=by
    rcases he with z|z
    ·exact absurd (j.trans z) hb
    ·rw[j];exact z
   rw[q] at q';cases q';obtain⟨v,hv⟩:=n4;exact⟨v,by rw[j];exact hv⟩
  ·refine (ok b u q).stay (fun c v Y r=>k c v ?_ r) (fun c r=>by rw[Zx (J c b r)];exact r) fun c U r=>by rw[Zx (M c U r)];exact r
   rcases Y with rfl|Y
   ·exact j
   ·rintro rfl
    rcases he with z|z
    ·exact J c b Y z
    ·rw[Y] at z;cases z;exact hb rfl
end
structure Un (fs ex:List Addr)(H H':Hp)(h h':Heap):Prop where
 keep:∀b o,h.get? b=some o->H b=none->b∉fs->b∉ex->h'.get? b=some o
 slot:∀b o,h.get? b=some o->H b=none->b∈fs->b∉ex->∃sl,h'.get? b=some {o with slots:=sl}
 free:∀b o,h.get? b=some o->H b=none->b∉ex->H' b=none
 there:∀b o,h.get? b=some o->b∉ex->∃o',h'.get? b=some o'
 tups:∀b xs,H b=some (.tup xs)->H' b=some (.tup xs)
 frzs:∀b o u,H b=some (.frz o u)->H' b=some (.frz o u)
 tbls:∀b ps,H b=some (.tbl ps)->∃more,H' b=some (.tbl (ps++more))
section
variable {fs fs' ex ex':List Addr}{H H1 H2:Hp}{h h1 h2 h':Heap}{a x e:Addr}{o:HO}
theorem Un.any (u:Un fs ex H H1 h h1){b:Addr}{j:Obj}(q:h.get? b=some j)(n:H b=none)(J:b∉ex):∃M,h1.get? b=some {j with slots:=M}:=by
 by_cases hb:b∈fs
 ·exact u.slot b j q n hb J
 ·exact⟨j.slots,u.keep b j q n hb J⟩
theorem Un.kept (k:∀b u,h.get? b=some u->h'.get? b=some u):Un fs ex H H h h':=
 ⟨fun b j q _ _ _=>k b j q,fun b j q _ _ _=>⟨j.slots,k b j q⟩,fun _ _ _ n _=>n,fun b j q _=>⟨j,k b j q⟩,fun _ _ q=>q,fun _ _ _ q=>q,fun _ J q=>⟨#[],by rw[q];simp⟩⟩
theorem Un.refl:Un fs ex H H h h:=Un.kept fun _ _ q=>q
theorem Un.laid (k:∀b u,h.get? b=some u->h'.get? b=some u)(J:h.objs.size<=a)(j:H a=none):Un fs ex H (upd H a o) h h' where
 keep:=fun b u q _ _ _=>k b u q
 slot:=fun b u q _ _ _=>⟨u.slots,k b u q⟩
 free:=fun b u q n _=>by rw[Zx (aB (aC (Zp q) J))];exact n
 there:=fun b u q _=>⟨u,k b u q⟩
 tups:=fun b M q=>by rw[Zx (Z1 q j)];exact q
 frzs:=fun b u M q=>by rw[Zx (Z1 q j)];exact q
 tbls:=fun b O q=>⟨#[],by rw[Zx (Z1 q j),q];simp⟩
theorem Un.write (J:Mut (H x))(Y:e=x\/H e=some (.own x))(k:∀b u,b≠e->h.get? b=some u->h'.get? b=some u)(M:∃u,h'.get? e=some u):Un fs ex H (upd H x o) h h':=by
 have U:∀b,H b=none->b≠x:=fun b n z=>by subst z;rw[n] at J;exact J
 have hb:∀b,H b=none->b≠e:=fun b n z=>by
  subst z;rcases Y with r|r
  ·exact U b n r
  ·rw[n] at r;cases r
 have O:∀b u,H b=some u->¬Mut (some u)->b≠x:=fun b u q nm z=>by subst z;rw[q] at J;exact nm J
 refine⟨fun b u q n _ _=>k b u (hb b n) q,fun b u q n _ _=>⟨u.slots,k b u (hb b n) q⟩,fun b u q n _=>by rw[Zx (U b n)];exact n,fun b u q _=>?_,
  fun b xs q=>by rw[Zx (O b _ q fun z=>z)];exact q,fun b u xs q=>by rw[Zx (O b _ q fun z=>z)];exact q,fun b ps q=>⟨#[],by rw[Zx (O b _ q fun z=>z),q];simp⟩⟩
 by_cases j:b=e
 ·subst j;exact M
 ·exact⟨u,k b u j q⟩
end
noncomputable def trk (h:Heap)(H:Hp):List Addr:=(ac h.objs.size).filter fun a=>(H a).isSome
noncomputable def Zbc (h:Heap)(H:Hp):Heap:=PySem.W.hideAll h (trk h H)
theorem ZfT (h:Heap)(H:Hp):(Zbc h H).objs.size=h.objs.size:=PySem.W.hideAll_size _ _
theorem Zia {h:Heap}{H:Hp}{b:Addr}{o:Obj}(e:h.get? b=some o)(n:H b=none):(Zbc h H).get? b=some o:=
 PySem.W.hideAll_get _ e fun j=>by
  have q:(H b).isSome=true:=(fe.mp j).2;rw[n] at q;simp at q
theorem ZjR {h:Heap}{H:Hp}{b:Addr}{o:Obj}(e:(Zbc h H).get? b=some o):h.get? b=some o/\H b=none:=by
 have j:h.get? b=some o:=PySem.W.of_hideAll (trk h H) e;refine⟨j,?_⟩;cases q:H b with
 |none=>rfl
 |some x=>
  have J:b∈trk h H:=fe.mpr ⟨af.mpr (Zp j),by simp[q]⟩;have z:(Zbc h H).get? b=none:=PySem.W.hideAll_none (trk h H) J;rw[z] at e;cases e
structure Mod (K:ab)(mg:Str->Option Value)(base:Heap):Prop where
 kin:K.In base
 glob:base.Ns mainGlobals mg
 blt:∃mb,base.Ns builtinsNs mb/\∀x:Str,x ≠ "__name__"->mb x=bootBuiltins x
 nolimit:base.NoLimit
structure Cx where
 prog:Program
 w:World
 K:ab
 mg:Str->Option Value
 base:Heap
 A:Around
 N:List Str
 s₀:Shared
 H₀:Hp
 env:Env
 outer:List Env
 stack:List Env
 ex:List Addr
 fn:Str->Bool
 calm:Bool
 pn:List (Addr×Obj)
 xe:Value->Shared->Prop
noncomputable def frs (l:List Env):List Addr:=l.filterMap (·.frame)
noncomputable abbrev Cx.fs (X:Cx):List Addr:=frs X.outer
noncomputable def Vis (j:cZ)(x:Str):Prop:=j.names.lookup x=some .local\/j.names.lookup x=some .cell\/j.names.lookup x=some .free
noncomputable def Loc (j:cZ)(x:Str):Prop:=j.names.lookup x=some .local\/j.names.lookup x=some .cell
noncomputable def Look (env:Env)(h:Heap)(m:Str->Option Value)(x:Str)(u:Value):Prop:=
 (env.kindOf x=some .local/\m x=some u)\/((env.kindOf x=some .cell\/env.kindOf x=some .free)/\∃c,env.cells.lookup x=some c/\h.IsCell c (some u))
structure Cx.Ok (X:Cx):Prop where
 mod:Mod X.K X.mg X.base
 kind:X.env.scope.kind=.function
 glob:X.env.globals=mainGlobals
 blt:X.env.builtins=builtinsNs
 above:X.s₀.heap.objs.size<=X.env.locals
 inj:∀x y c,X.env.cells.lookup x=some c->X.env.cells.lookup y=some c->x=y
 has:∀x,(X.env.kindOf x=some .cell\/X.env.kindOf x=some .free)->∃c,X.env.cells.lookup x=some c
 cab:∀x c,X.fn x=true->X.env.cells.lookup x=some c->X.s₀.heap.objs.size<=c
 hd:X.calm=true->X.A.handled=none
 frames:X.A.frames=some X.stack
 stk:X.stack=X.outer\/(X.stack=X.env::X.outer/\X.env.frame=some X.env.locals)
 exf:∀b∈X.ex,b≠X.env.locals/\∀x c,X.env.cells.lookup x=some c->c≠b
 bs:∀b o,X.base.get? b=some o->X.s₀.heap.get? b=some o/\X.H₀ b=none
 bsz:X.base.objs.size<=X.s₀.heap.objs.size
 noex:∀b o,X.base.get? b=some o->b∉X.ex
 exfs:∀b∈X.ex,b∉X.fs
 funs:X.s₀.heap.FunFrames X.base X.outer
 frf:∀b∈X.fs,X.H₀ b=none
structure Inv (X:Cx)(pins:List (Addr×Obj))(σ:List (Option V))(H:Hp)(s:Shared):Prop where
 ok:X.Ok
 os:s.os=X.s₀.os
 bare:iH s.gens
 base:Un X.fs X.ex X.H₀ H X.s₀.heap s.heap
 loc:∃m,s.heap.Ns X.env.locals m/\∀(i:Nat) (x:Str) (v:V),X.N[i]?=some x->σ[i]?=some (some v)->Vis X.env.scope x->∃u,RelV v u/\Look X.env s.heap m x u
 cell:∀x c,X.env.cells.lookup x=some c->∃v,s.heap.IsCell c v
 free:H X.env.locals=none
 freeC:∀x c,X.env.cells.lookup x=some c->H c=none
 pin:∀p∈X.pn++pins,s.heap.get? p.1=some p.2/\H p.1=none/\p.1≠X.env.locals/\p.1∉X.fs/\∀v,p.2.data≠.cell v
 hok:Xd X.prog X.w H s.heap
 len:σ.length=X.N.length
section
variable {X:Cx}{pins:List (Addr×Obj)}{σ:List (Option V)}{H H':Hp}{s:Shared}{h':Heap}
theorem Cx.Ok.nofr (ok:X.Ok){b:Addr}{o:Obj}(e:X.base.get? b=some o):b∉X.fs:=fun hb=>by
 have:=(ok.funs.mem hb).1;rw[e] at this;cases this
theorem Inv.bs (I:Inv X pins σ H s):∀b o,X.base.get? b=some o->s.heap.get? b=some o/\H b=none:=fun b o e=>
 ⟨I.base.keep b o (I.ok.bs b o e).1 (I.ok.bs b o e).2 (I.ok.nofr e) (I.ok.noex b o e),I.base.free b o (I.ok.bs b o e).1 (I.ok.bs b o e).2 (I.ok.noex b o e)⟩
theorem Inv.bk (I:Inv X pins σ H s):∀b o,X.base.get? b=some o->s.heap.get? b=some o:=fun b o e=>(I.bs b o e).1
theorem Inv.mod (I:Inv X pins σ H s):Mod X.K X.mg X.base:=I.ok.mod
theorem Inv.kIn (I:Inv X pins σ H s):X.K.In s.heap:=I.ok.mod.kin.keeps I.bk
theorem Inv.lt (I:Inv X pins σ H s):X.env.locals<s.heap.objs.size:=let ⟨_,j,_⟩:=I.loc;j.lt
theorem Inv.sz (I:Inv X pins σ H s):X.s₀.heap.objs.size<=s.heap.objs.size:=a5 I.ok.above (eR I.lt)
theorem Inv.nofs (I:Inv X pins σ H s){a:Addr}(h:s.heap.objs.size<=a):a∉X.fs:=fun hb=>by
 obtain⟨_,o,j,_⟩:=I.ok.funs.mem hb;exact absurd (aC (Zp j) (a5 I.sz h)) (cg _)
theorem Inv.cne (I:Inv X pins σ H s):∀x c,X.env.cells.lookup x=some c->c≠X.env.locals:=fun x c e z=>by
 obtain⟨v,o,J,hd⟩:=I.cell x c e;obtain⟨m,⟨M,O,U,j,q,_⟩,_⟩:=I.loc;rw[z,j] at J;cases J;rw[q] at hd;cases hd
theorem Inv.funs (I:Inv X pins σ H s):s.heap.FunFrames X.base X.outer:=by
 have all:∀(l:List Env),(∀b∈frs l,b∈X.fs)->X.s₀.heap.FunFrames X.base l->s.heap.FunFrames X.base l:=by
  intro l;induction l with
  |nil=>intro _ _;trivial
  |cons env r J=>
   intro q M;obtain⟨O,⟨L,o,hf,U,Y,hd⟩,hr⟩:=M;have j:L∈X.fs:=q L (by unfold frs;rw[bU,hf];exact aE);obtain⟨sl,e⟩:=I.base.slot L o Y (I.ok.frf L j) j fun z=>I.ok.exfs L z j;exact⟨O,⟨L,_,hf,U,e,hd⟩,J (fun b hb=>q b (by unfold frs;rw[bU,hf];exact aH _ hb)) hr⟩
 exact all X.outer (fun _ hb=>hb) I.ok.funs
theorem Inv.stack (I:Inv X pins σ H s):s.heap.FunFrames X.base X.stack:=by
 rcases I.ok.stk with e|⟨e,hf⟩
 ·rw[e];exact I.funs
 ·rw[e]
  obtain⟨m,j,_⟩:=I.loc;refine .cons (by rw[I.ok.kind];decide) hf j ?_ I.funs;exact Heap.get?_none_of_le (a5 I.ok.bsz I.ok.above)
theorem Inv.stkSub (I:Inv X pins σ H s):∀b∈frs X.stack,b∈X.env.locals::X.fs:=fun b hb=>by
 rcases I.ok.stk with e|⟨e,hf⟩
 ·rw[e] at hb;exact aH _ hb
 ·rw[e] at hb
  unfold frs at hb;rw[bU,hf] at hb;exact hb
theorem Inv.stkFree (I:Inv X pins σ H s):∀b∈frs X.stack,H b=none:=fun b hb=>by
 rcases aF.mp (I.stkSub b hb) with e|hb
 ·rw[e];exact I.free
 ·obtain⟨_,o,j,_⟩:=I.ok.funs.mem hb
  exact I.base.free b o j (I.ok.frf b hb) fun z=>I.ok.exfs b z hb
theorem Inv.step {g':Array GenState}{t':Nat}{d':lG}{ch:List Addr}(I:Inv X pins σ H s)
  (J:∀b∈ch,(b∈X.ex\/X.s₀.heap.objs.size<=b)/\b≠X.env.locals/\(∀x c,X.env.cells.lookup x=some c->c≠b)/\∀p∈X.pn++pins,p.1≠b)
  (keep:∀b o,b≠X.env.locals->b∉X.fs->b∉ch->s.heap.get? b=some o->H b=none->h'.get? b=some o)
  (slot:∀b o,b≠X.env.locals->b∈X.fs->b∉ch->s.heap.get? b=some o->H b=none->∃sl,h'.get? b=some {o with slots:=sl}) (free:∀b o,b∉ch->s.heap.get? b=some o->H b=none->H' b=none)
  (there:∀b o,b∉ch->s.heap.get? b=some o->∃o',h'.get? b=some o')
  (n4:∀b xs,H b=some (.tup xs)->H' b=some (.tup xs)) (n6:∀b o u,H b=some (.frz o u)->H' b=some (.frz o u)) (n8:∀b ps,H b=some (.tbl ps)->∃n9,H' b=some (.tbl (ps++n9)))
  (ns:∀m,s.heap.Ns X.env.locals m->h'.Ns X.env.locals m) (hok:Xd X.prog X.w H' h') (hg:iH g') :
  Inv X pins σ H' {s with heap:=h',gens:=g',drawn:=d',toks:=t'}:=by
 have o0:∀b o,X.s₀.heap.get? b=some o->b≠X.env.locals:=fun b o e=>aB (aC (Zp e) I.ok.above);have neC:∀b o,X.s₀.heap.get? b=some o->b∉X.ex->b∉ch:=fun b o e j hb=>by
  rcases (J b hb).1 with z|z
  ·exact j z
  ·exact absurd (aC (Zp e) z) (cg _)
 have M:∀x c,X.env.cells.lookup x=some c->∀v,s.heap.IsCell c v->h'.IsCell c v:=fun x c e v ⟨o,Y,hd⟩=>by
  have O:c∉ch:=fun z=>(J c z).2.2.1 x c e rfl;by_cases hc:c∈X.fs
  ·obtain⟨sl,q⟩:=slot c o (I.cne x c e) hc O Y (I.freeC x c e)
   exact⟨_,q,hd⟩
  ·exact⟨o,keep c o (I.cne x c e) hc O Y (I.freeC x c e),hd⟩
 refine⟨I.ok,I.os,hg,⟨fun b o e n hb j=>?_,fun b o e n hb j=>?_,fun b o e n j=>?_,fun b o e j=>?_,fun b xs e=>n4 b xs (I.base.tups b xs e),fun b o xs e=>n6 b o xs (I.base.frzs b o xs e),fun b ps e=>?_⟩,?_,fun x c e=>?_,?_,fun x c e=>?_,fun p hp=>?_,hok,I.len⟩
 ·exact keep b o (o0 b o e) hb (neC b o e j) (I.base.keep b o e n hb j) (I.base.free b o e n j)
 ·obtain⟨sl,U⟩:=I.base.slot b o e n hb j
  obtain⟨o5,e2⟩:=slot b _ (o0 b o e) hb (neC b o e j) U (I.base.free b o e n j);exact⟨o5,e2⟩
 ·obtain⟨o',U⟩:=I.base.there b o e j
  exact free b o' (neC b o e j) U (I.base.free b o e n j)
 ·obtain⟨o',U⟩:=I.base.there b o e j
  exact there b o' (neC b o e j) U
 ·obtain⟨m1,U⟩:=I.base.tbls b ps e
  obtain⟨m2,e2⟩:=n8 b _ U;exact⟨m1++m2,by rw[e2,Array.append_assoc]⟩
 ·obtain⟨m,hn,hl⟩:=I.loc
  refine⟨m,ns m hn,fun i x v U e2 e3=>?_⟩;obtain⟨u,r,l⟩:=hl i x v U e2 e3;refine⟨u,r,?_⟩;rcases l with l|⟨k,c,e,z⟩
  ·exact .inl l
  ·exact .inr ⟨k,c,e,M x c e _ z⟩
 ·obtain⟨v,z⟩:=I.cell x c e
  exact⟨v,M x c e v z⟩
 ·obtain⟨m,⟨o,_,_,Y,_⟩,_⟩:=I.loc
  exact free _ o (fun z=>(J _ z).2.1 rfl) Y I.free
 ·obtain⟨v,o,Y,hd⟩:=I.cell x c e
  exact free c o (fun z=>(J c z).2.2.1 x c e rfl) Y (I.freeC x c e)
 ·obtain⟨e,n,ne,nf,d⟩:=I.pin p hp
  have O:p.1∉ch:=fun z=>(J p.1 z).2.2.2 p hp rfl;exact⟨keep p.1 p.2 ne nf O e n,free p.1 p.2 O e n,ne,nf,d⟩
theorem Inv.un {t':Nat}(I:Inv X pins σ H s)(u:Un X.fs [] H H' s.heap h')(q:Xd X.prog X.w H' h'):Inv X pins σ H' {s with heap:=h',toks:=t'}:=by
 obtain⟨m,⟨o,es,ep,O,r⟩,_⟩:=id I.loc;obtain⟨sl,U⟩:=u.any O I.free (by simp);exact I.step (g':=s.gens) (d':=s.drawn) (ch:=[]) (fun _ z=>nomatch z) (fun b o _ hb _ e n=>u.keep b o e n hb (by simp)) (fun b o _ hb _ e n=>u.slot b o e n hb (by simp)) (fun b o _ e n=>u.free b o e n (by simp)) (fun b o _ e=>u.there b o e (by simp)) u.tups u.frzs u.tbls (fun m' Y=>by
  obtain⟨o',J,M,j,r'⟩:=Y;rw[O] at j;cases j;exact⟨_,J,M,U,r'⟩) q I.bare
theorem Inv.call {g':Array GenState}{t':Nat}{d':lG}{ch:List Addr}(I:Inv X pins σ H s)(u:Un (frs X.stack) ch H H' s.heap h')(M:Xd X.prog X.w H' h')(hg:iH g')
  (q:∀b∈ch,(b∈X.ex\/X.s₀.heap.objs.size<=b)/\b≠X.env.locals/\(∀x c,X.env.cells.lookup x=some c->c≠b)/\∀p∈X.pn++pins,p.1≠b) :
  Inv X pins σ H' {s with heap:=h',gens:=g',drawn:=d',toks:=t'}:=by
 obtain⟨m,⟨o,es,ep,ho,r⟩,_⟩:=id I.loc;obtain⟨sl,O⟩:=u.any ho I.free fun z=>(q _ z).2.1 rfl;exact I.step (ch:=ch) q (fun b o O hb j e n=>u.keep b o e n (fun z=>(aF.mp (I.stkSub b z)).elim O hb) j) (fun b o _ _ j e n=>u.any e n j) (fun b o j e n=>u.free b o e n j) (fun b o j e=>u.there b o e j) u.tups u.frzs u.tbls (fun m' hm=>by
  obtain⟨o',U,Y,J,r'⟩:=hm;rw[ho] at J;cases J;exact⟨_,U,Y,O,r'⟩) M hg
theorem Inv.turned {t':Nat}{it:Addr}(I:Inv X pins σ H s)(k:∀b o,b≠it->s.heap.get? b=some o->h'.get? b=some o)(O:H it=none)(M:it≠X.env.locals)
  (U:it∈X.ex\/X.s₀.heap.objs.size<=it) (Y:∀x c,X.env.cells.lookup x=some c->c≠it) (h3:∀p∈X.pn++pins,p.1≠it):Inv X pins σ H {s with heap:=h',toks:=t'}:=by
 have J:∀b u,H b=some u->b≠it:=fun b u e z=>by rw[z,O] at e;cases e
 refine I.step (g':=s.gens) (d':=s.drawn) (ch:=[it]) (fun b hb=>?_) (fun b o _ _ j e _=>k b o (fun z=>j (by simp[z])) e) (fun b o _ _ j e _=>⟨o.slots,k b o (fun z=>j (by simp[z])) e⟩) (fun _ _ _ _ n=>n)
  (fun b o j e=>⟨o,k b o (fun z=>j (by simp[z])) e⟩) (fun _ _ e=>e) (fun _ _ _ e=>e) (fun b ps e=>⟨#[],by rw[e];simp⟩) (fun m hm=>?_) (fun b u e=>?_) I.bare
 ·have e:b=it:=by simpa using hb
  subst e;exact⟨U,M,Y,h3⟩
 ·obtain⟨o,es,ep,ho,r⟩:=hm
  exact⟨o,es,ep,k _ o (bJ M) ho,r⟩
 ·refine (I.hok b u e).stay (fun c v j q=>k c v ?_ q) (fun _ q=>q) fun _ _ q=>q
  rcases j with z|z
  ·rw[z];exact J b u e
  ·exact J c _ z
theorem Inv.tok (I:Inv X pins σ H s)(t:Nat):Inv X pins σ H {s with toks:=t}:=I.un (h':=s.heap) (t':=t) Un.refl I.hok
theorem Inv.kept {t':Nat}(I:Inv X pins σ H s)(k:∀b u,s.heap.get? b=some u->h'.get? b=some u):Inv X pins σ H {s with heap:=h',toks:=t'}:=I.un (Un.kept k) (I.hok.kept k)
theorem Inv.laid {a:Addr}{o:HO}{t':Nat}(I:Inv X pins σ H s)(k:∀b u,s.heap.get? b=some u->h'.get? b=some u)(j:s.heap.objs.size<=a)(q:Z6 X.prog X.w (upd H a o) h' a o) :
  Inv X pins σ (upd H a o) {s with heap:=h',toks:=t'}:=I.un (Un.laid k j (I.hok.fresh j)) (I.hok.laid k j q)
theorem Inv.write {x e:Addr}{o:HO}{t':Nat}(I:Inv X pins σ H s)(J:Mut (H x))(M:e=x\/H e=some (.own x))(k:∀b u,b≠e->s.heap.get? b=some u->h'.get? b=some u)(j:∃u,h'.get? e=some u)
  (q:Z6 X.prog X.w (upd H x o) h' x o):Inv X pins σ (upd H x o) {s with heap:=h',toks:=t'}:=I.un (Un.write J M k j) (I.hok.write J M k j q)
theorem Inv.pins_of {j:List (Addr×Obj)}(I:Inv X pins σ H s)(h:∀p∈j,s.heap.get? p.1=some p.2/\H p.1=none/\p.1≠X.env.locals/\p.1∉X.fs/\∀v,p.2.data≠.cell v):Inv X j σ H s:=
 ⟨I.ok,I.os,I.bare,I.base,I.loc,I.cell,I.free,I.freeC,fun p q=>(bH.mp q).elim (fun z=>I.pin p (bY _ z)) (h p),I.hok,I.len⟩
theorem Zch {N:List Str}(q:N.Nodup){i j:Nat}{x:Str}(a:N[i]?=some x)(b:N[j]?=some x):i=j:=by
 obtain⟨O,J⟩:=ae.mp a;obtain⟨U,M⟩:=ae.mp b;exact (List.getElem_inj q).mp (J.trans M.symm)
theorem U2 {M:Model}{A:Around}{E:Value->Shared->Prop}{i:Nat}{x:Str}{v:V}{u:Value}{Q:Unit->Shared->Prop}(I:Inv X pins σ H s)(hN:X.N.Nodup)(hi:X.N[i]?=some x)(hx:Loc X.env.scope x)(r:RelV v u)
  (h:∀s',Inv X pins (σ.set i (some v)) H s'->(∃a,bd a s.heap s'.heap/\(a=X.env.locals\/X.env.cells.lookup x=some a))->Q () s') (hf:X.fn x=true\/X.env.scope.names.lookup x=some .local:=by first|exact .inl rfl|exact .inr rfl|assumption):wpAny M A (storeName X.env x u) Q E s:=by
 obtain⟨m,hn,hl⟩:=id I.loc;have n9:(X.env.scope.kind == .class || (X.env.scope.kind == .module && X.env.locals != X.env.globals))=false:=by rw[I.ok.kind];rfl
 have n6:i < σ.length:=by rw[I.len];exact (ae.mp hi).1
 have cne:=I.cne;have O:∀{a:Addr}{h':Heap},(∃o,s.heap.get? a=some o/\H a=none)->bd a s.heap h'->Xd X.prog X.w H h':=fun {a h'} ha J b ob e=>by
  obtain⟨_,_,n4⟩:=ha;refine (I.hok b ob e).stay (fun c w' Y q=>(J.2 c ?_).trans q) (fun _ q=>q) fun _ _ q=>q;rintro rfl;rcases Y with rfl|Y
  ·rw[n4] at e;cases e
  ·rw[n4] at Y;cases Y
 rcases hx with hk|hk
 ·refine wpAny_storeName_local hk hn (fun h' o8 J=>?_) n9
  obtain⟨oL,_,_,o9,_⟩:=id hn;refine h _ ⟨I.ok,I.os,I.bare,⟨fun b o e n hb hx=>?_,fun b o e n hb hx=>?_,I.base.free,fun b o e hx=>?_,I.base.tups,I.base.frzs,I.base.tbls⟩,⟨_,o8,fun j y v' U e2 e3=>?_⟩,fun y c e=>?_,I.free,I.freeC,fun p hp=>?_,O ⟨oL,o9,I.free⟩ J,by simpa using I.len⟩ ⟨_,J,.inl rfl⟩
  ·exact (J.2 b (aB (aC (Zp e) I.ok.above))).trans (I.base.keep b o e n hb hx)
  ·obtain⟨sl,U⟩:=I.base.slot b o e n hb hx
   exact⟨sl,(J.2 b (aB (aC (Zp e) I.ok.above))).trans U⟩
  ·obtain⟨o',U⟩:=I.base.there b o e hx
   exact⟨o',(J.2 b (aB (aC (Zp e) I.ok.above))).trans U⟩
  ·by_cases hj:j=i
   ·subst hj
    rw[hi] at U;cases U;rw[kT n6] at e2;cases e2;exact⟨u,r,.inl ⟨hk,by simp⟩⟩
   ·rw[lY (bJ hj)] at e2
    obtain⟨u',r',q⟩:=hl j y v' U e2 e3;refine⟨u',r',?_⟩;rcases q with ⟨k,e⟩|⟨k,c,e,z⟩
    ·refine .inl ⟨k,?_⟩
     have:y≠x:=fun e=>hj (Zch hN U (e▸hi));simp[this,e]
    ·exact .inr ⟨k,c,e,z.sameBut J (cne y c e)⟩
  ·obtain⟨w',z⟩:=I.cell y c e
   exact⟨w',z.sameBut J (cne y c e)⟩
  ·obtain⟨e,n,ne,nf,d⟩:=I.pin p hp
   exact⟨(J.2 p.1 ne).trans e,n,ne,nf,d⟩
 ·have n8:X.fn x=true:=by
   rcases hf with z|z
   ·exact z
   ·rw[z] at hk;cases hk
  obtain⟨c,Y⟩:=I.ok.has x (.inl hk);obtain⟨w',z⟩:=I.cell x c Y;refine wpAny_storeName_cell I.ok.kind hk Y z (fun h' o0 J=>?_);obtain⟨oc,o5,o6⟩:=id z;refine h {s with heap:=h'} ⟨I.ok,I.os,I.bare,⟨fun b o e n hb hx=>?_,fun b o e n hb hx=>?_,I.base.free,fun b o e hx=>?_,I.base.tups,I.base.frzs,I.base.tbls⟩,⟨m,hn.sameBut J (bJ (cne x c Y)),fun j y v' U e2 e3=>?_⟩,fun y c' e=>?_,I.free,I.freeC,fun p hp=>?_,O ⟨oc,o5,I.freeC x c Y⟩ J,by simpa using I.len⟩ ⟨c,J,.inr Y⟩
  ·exact (J.2 b (aB (aC (Zp e) (I.ok.cab x c n8 Y)))).trans (I.base.keep b o e n hb hx)
  ·obtain⟨sl,U⟩:=I.base.slot b o e n hb hx
   exact⟨sl,(J.2 b (aB (aC (Zp e) (I.ok.cab x c n8 Y)))).trans U⟩
  ·obtain⟨o',U⟩:=I.base.there b o e hx
   exact⟨o',(J.2 b (aB (aC (Zp e) (I.ok.cab x c n8 Y)))).trans U⟩
  ·by_cases hj:j=i
   ·subst hj
    rw[hi] at U;cases U;rw[kT n6] at e2;cases e2;exact⟨u,r,.inr ⟨.inl hk,c,Y,o0⟩⟩
   ·rw[lY (bJ hj)] at e2
    obtain⟨u',r',q⟩:=hl j y v' U e2 e3;refine⟨u',r',?_⟩;rcases q with q|⟨k,c',e,z'⟩
    ·exact .inl q
    ·refine .inr ⟨k,c',e,z'.sameBut J ?_⟩
     rintro rfl;exact hj (Zch hN U (I.ok.inj _ _ _ e Y▸hi))
  ·by_cases o7:c'=c
   ·subst o7;exact⟨_,o0⟩
   ·obtain⟨w2,z2⟩:=I.cell y c' e
    exact⟨w2,z2.sameBut J o7⟩
  ·obtain⟨e,n,ne,nf,d⟩:=I.pin p hp
   refine⟨(J.2 p.1 ?_).trans e,n,ne,nf,d⟩;intro q;rw[q,o5] at e;have q':oc=p.2:=ay e;exact d w' (by rw[<-q'];exact o6)
theorem W6 {M:Model}{A:Around}{E:Value->Shared->Prop}{i:Nat}{x:Str}{v:V}{u:Value}{Q:Unit->Shared->Prop}(I:Inv X pins σ H s)(j:X.N.Nodup)(q:X.N[i]?=some x)(J:Loc X.env.scope x)(r:RelV v u)
  (h:∀s',Inv X pins (σ.set i (some v)) H s'->Q () s') (O:X.fn x=true\/X.env.scope.names.lookup x=some .local:=by first|exact .inl rfl|exact .inr rfl|assumption):wpAny M A (storeName X.env x u) Q E s:=
 U2 I j q J r (fun s' U _=>h s' U) O
theorem Inv.call' {s':Shared}{ch:List Addr}(I:Inv X pins σ H s)(U:s'.os=s.os)(u:Un (frs X.stack) ch H H' s.heap s'.heap)(j:Xd X.prog X.w H' s'.heap)(Y:iH s'.gens)
  (q:∀b∈ch,(b∈X.ex\/X.s₀.heap.objs.size<=b)/\b≠X.env.locals/\(∀x c,X.env.cells.lookup x=some c->c≠b)/\∀p∈X.pn++pins,p.1≠b):Inv X pins σ H' s':=by
 obtain⟨h',J,M,O,o'⟩:=s';have e:o'=s.os:=U;subst e;exact I.call (g':=J) (t':=O) (d':=M) u j Y q
end
noncomputable abbrev XK:=Value->Option Addr->Hp->Prop
noncomputable abbrev St:=List (Option V)
noncomputable abbrev VK:=V->Hp->Prop
noncomputable abbrev TE:=St->Hp->VK->Prop
noncomputable abbrev TT:=St->Hp->(Bool->Hp->Prop)->Prop
noncomputable abbrev TA:=St->Hp->(List V->Hp->Prop)->Prop
structure Xc where
 nx:St->Hp->Prop
 rt:VK
 bk:St->Hp->Prop:=fun _ _=>False
 ct:St->Hp->Prop:=fun _ _=>False
noncomputable abbrev TS:=Xc->St->Hp->Prop
noncomputable def EP (X:Cx)(j:List (Addr×Obj))(J:St)(Q:VK)(u:Value)(s':Shared):Prop:=∃v q,Inv X j J q s'/\RelV v u/\Q v q
noncomputable def TP (X:Cx)(j:List (Addr×Obj))(J:St)(Q:Bool->Hp->Prop)(b:Bool)(s':Shared):Prop:=∃q,Inv X j J q s'/\Q b q
noncomputable def AP (X:Cx)(j:List (Addr×Obj))(M:St)(Q:List V->Hp->Prop)(O:List Value)(s':Shared):Prop:=∃q J,Inv X j M J s'/\ZK q O/\Q q J
noncomputable def SP (X:Cx)(q:List (Addr×Obj))(D:Xc)(f:Flow)(s':Shared):Prop:=
 match f with
 | .next=>∃ j J,Inv X q j J s'/\D.nx j J
 | .brk=>∃ j J,Inv X q j J s'/\D.bk j J
 | .cont=>∃ j J,Inv X q j J s'/\D.ct j J
 | .ret u=>∃v j J,Inv X q j J s'/\RelV v u/\D.rt v J
noncomputable def PE (X:Cx)(e:Expr)(t:TE):Prop:=
 ∀(j:List (Addr×Obj)) (s:Shared) (q:St) (H:Hp) (Q:VK),Inv X j q H s->t q H Q->wpAny (model X.prog X.w) X.A (eval e X.env) (EP X j q Q) X.xe s
noncomputable def PT (X:Cx)(e:Expr)(t:TT):Prop:=
 ∀(j:List (Addr×Obj)) (s:Shared) (q:St) (H:Hp) (Q:Bool->Hp->Prop),Inv X j q H s->t q H Q->wpAny (model X.prog X.w) X.A (isTrue e X.env (eval e X.env)) (TP X j q Q) X.xe s
noncomputable def PW (X:Cx)(e:Expr)(t:TT):Prop:=
 ∀(q:Sem Value) (j:List (Addr×Obj)) (s:Shared) (J:St) (H:Hp) (Q:Bool->Hp->Prop),Inv X j J H s->t J H Q->wpAny (model X.prog X.w) X.A (isTrue e X.env q) (TP X j J Q) X.xe s
theorem PW.pt {X:Cx}{e:Expr}{t:TT}(h:PW X e t):PT X e t:=h _
noncomputable def PA (X:Cx)(J:List Expr)(t:TA):Prop:=
 ∀(pos:Pos) (j:List (Addr×Obj)) (s:Shared) (q:St) (H:Hp) (Q:List V->Hp->Prop),Inv X j q H s->t q H Q->wpAny (model X.prog X.w) X.A (spliced (backTo pos (starEach J X.env))) (AP X j q Q) X.xe s
noncomputable def PS (X:Cx)(st:Stmt)(t:TS):Prop:=
 ∀(j:List (Addr×Obj)) (s:Shared) (q:St) (H:Hp) (D:Xc),Inv X j q H s->t D q H->wpAny (model X.prog X.w) X.A (exec st X.env) (SP X j D) X.xe s
noncomputable def PSs (X:Cx)(st:List Stmt)(t:TS):Prop:=
 ∀(j:List (Addr×Obj)) (s:Shared) (q:St) (H:Hp) (D:Xc),Inv X j q H s->t D q H->wpAny (model X.prog X.w) X.A (execs st X.env) (SP X j D) X.xe s
theorem Yi {α:Type}{t:Sem α}{Q j:α->Shared->Prop}{M:Model}{A:Around}{E:Value->Shared->Prop}{s:Shared}(h:wpAny M A t Q E s)(q:∀a s,Q a s->j a s):wpAny M A t j E s:=cD h q fun _ _ x=>x
section
variable {X:Cx}
noncomputable def Zlz (i:Nat):TE:=fun σ H Q=>∃v,σ[i]?=some (some v)/\Q v H
noncomputable def tC (v:V):TE:=fun _ H Q=>Q v H
theorem ZlY {i:Nat}{x:Str}{pos:Pos}(hN:X.N[i]?=some x)(hv:Vis X.env.scope x)(O:(x == ("__debug__":Str))=false:=by decide)(U:(x == ("__classdict__":Str))=false:=by decide):PE X (.Name x pos) (Zlz i):=by
 intro M s σ H Q I h;obtain⟨v,e,h⟩:=h;obtain⟨m,hn,hl⟩:=I.loc;obtain⟨u,r,l⟩:=hl i x v hN e hv;have q:EP X M σ Q u s:=⟨v,H,I,r,h⟩;rcases l with ⟨J,hm⟩|⟨J,c,Y,j⟩
 ·exact wpAny_Name (wpAny_loadName_local I.ok.kind J hn hm q) O
 ·rcases J with J|J
  ·exact wpAny_Name (wpAny_loadName_cell I.ok.kind J Y j q) O
  ·exact wpAny_Name (wpAny_loadName_free I.ok.kind J Y j q U) O
theorem Zw {i j pos}:PE X (.Constant (.int i) j pos) (tC (.int i)):=fun _ _ _ H _ I h=>wpAny_Constant_int ⟨.int i,H,I.tok _,⟨_,rfl⟩,h⟩
theorem Ud {b j pos}:PE X (.Constant (.bool b) j pos) (tC (.bl b)):=fun _ _ _ H _ I h=>Constant_bool ⟨.bl b,H,I,rfl,h⟩
theorem ZlZ {j pos}:PE X (.Constant .none j pos) (tC .non):=fun _ _ _ H _ I h=>Constant_none ⟨.non,H,I,rfl,h⟩
theorem WV {x j pos}:PE X (.Constant (.str x) j pos) (tC (.str x)):=fun _ _ _ H _ I h=>Calls.Constant_str ⟨.str x,H,I.tok _,⟨_,rfl⟩,h⟩
noncomputable def Gl (X:Cx)(x:Str):Prop:=X.env.kindOf x=some .globalImplicit
theorem Zj3 {E:Value->Shared->Prop}{j:List (Addr×Obj)}{s:Shared}{σ:St}{H:Hp}{x:Str}{u:Value}{pos:Pos}{Q:Value->Shared->Prop}(I:Inv X j σ H s)(q:Gl X x)(J:X.mg x=some u)(h:Q u s)
  (M:(x == ("__debug__":Str))=false:=by decide):wpAny (model X.prog X.w) X.A (eval (.Name x pos) X.env) Q E s:=
 jW I.ok.kind q (Calls.loadGlobal_global (by rw[I.ok.glob];exact I.mod.glob.keeps I.bk) J h) M
theorem WZ {E:Value->Shared->Prop}{j:List (Addr×Obj)}{s:Shared}{σ:St}{H:Hp}{x:Str}{u:Value}{pos:Pos}{Q:Value->Shared->Prop}(I:Inv X j σ H s)(q:Gl X x)(J:X.mg x=none)(M:bootBuiltins x=some u)(h:Q u s)
  (O:x ≠ "__name__":=by decide) (U:(x == ("__debug__":Str))=false:=by decide):wpAny (model X.prog X.w) X.A (eval (.Name x pos) X.env) Q E s:=by
 obtain⟨mb,Y,h2⟩:=I.mod.blt;exact jW I.ok.kind q (Calls.loadGlobal_builtin (by rw[I.ok.glob];exact I.mod.glob.keeps I.bk) J (by rw[I.ok.blt];exact Y.keeps I.bk) ((h2 x O).trans M) h) U
theorem Zjs {x:Str}{v:V}{u:Value}{pos:Pos}(j:Gl X x)(q:X.mg x=none)(J:bootBuiltins x=some u)(r:RelV v u)(M:x ≠ "__name__":=by decide)(O:(x == ("__debug__":Str))=false:=by decide):PE X (.Name x pos) (tC v):=
 fun _ _ _ H _ I h=>WZ I j q J ⟨v,H,I,r,h⟩ M O
variable {a b:Expr}{ta tb:TE}{pos:Pos}
noncomputable def PC (X:Cx)(op:CmpOp)(a b:Expr)(t:TE):Prop:=
 ∀(j:List (Addr×Obj)) (s:Shared) (M:St) (H:Hp) (Q:VK),Inv X j M H s->t M H Q->
  wpAny (model X.prog X.w) X.A (eval a X.env) (fun v q=>wpAny (model X.prog X.w) X.A (eval b X.env) (fun u J=>wpAny (model X.prog X.w) X.A (compareOp op v u) (EP X j M Q) X.xe J) X.xe q) X.xe s
noncomputable def tB (t:TE):TT:=fun j H Q=>t j H fun x q=>∃c,x=.bl c/\Q c q
theorem Zhh {op:CmpOp}{t:TE}(h:PC X op a b t)(M:behindInMarks op b=false:=by first|exact j _ (by decide) (by decide)|rfl):PT X (.Compare a [op] [b] pos) (tB t):=by
 intro J s O H Q I U;refine mZ (Yi (h J s O H _ I U) fun v s1 M=>Yi M fun u s2 Y=>Yi Y fun c s3 ⟨x,H1,I1,r1,q1⟩=>?_) M;obtain⟨d,rfl,q⟩:=q1;cases r1;exact g9 ⟨H1,I1,q⟩
theorem XY {e:Expr}{t:TE}(h:PE X e t)(M:∀j,isTrue e X.env j=(do let v <-j;standAt e.pos;holding [v] (truthy v)):=by intro _;rfl):PT X e (tB t):=by
 intro J s O H Q I U;refine isTrue_plain (Yi (h J s O H _ I U) fun v s1 ⟨x,Y,I1,r1,q1⟩=>?_) (M _);obtain⟨d,rfl,q⟩:=q1;cases r1;exact g9 ⟨Y,I1,q⟩
variable {tA tB':TT}{rest:List Expr}
noncomputable def tOr (t u:TT):TT:=fun j H Q=>t j H fun c q=>if c=true then Q true q else u j q Q
theorem Zhe (q:PT X a tA):PW X (.BoolOp .Or [a] pos) tA:=by
 intro M j s J H Q I h;refine isTrue_or (Yi (q j s J H Q I h) fun c O e=>?_);cases c with
 |false=>exact isTrue_or_nil e
 |true=>exact e
theorem Zk8 (U:PT X a tA)(hb:PW X (.BoolOp .Or (b::rest) pos) tB'):PW X (.BoolOp .Or (a::b::rest) pos) (tOr tA tB'):=by
 intro Y j s q H Q I h;refine isTrue_or (Yi (U j s q H _ I h) fun c s1 ⟨J,M,O⟩=>?_);cases c with
 |true=>exact⟨J,M,O⟩
 |false=>exact hb Y j s1 q J Q M O
end
noncomputable def Wr (K:ab)(H:Hp)(a:Addr)(xs:List V):Prop:=
 Rd H a (.lst xs)\/
  ∃(o:Obj) (j:Array Value) (n:Nat),K.lookup a=some o/\o.cls=.type "list"/\o.dict=none/\o.data=.seq j n/\j.size<=sizeLine/\ZK xs j.toList
noncomputable def WM (K:ab)(H:Hp)(a:Addr)(xs:List V):Prop:=
 Rd H a (.tup xs)\/
  ∃(o:Obj) (j:Array Value) (n:Nat),K.lookup a=some o/\o.cls=.type "tuple"/\o.data=.seq j n/\j.size<=sizeLine/\ZK xs j.toList
noncomputable def Zqf:Value->Option V
 | .none=>some .non
 | .bool b=>some (.bl b)
 | .int i _=>some (.int i)
 | .str x _=>some (.str x)
 | .bytes b _=>some (.byt b)
 | .float b _=>some (.flt b)
 | .ref a=>some (.ref a)
 | .type n=>some (.ty n)
 |_=>none
theorem RelV.abs {x:V}{u:Value}(r:RelV x u):Zqf u=some x:=by
 cases x with
 |non=>cases r;rfl
 |bl _=>cases r;rfl
 |int _=>obtain⟨t,rfl⟩:=r;rfl
 |str _=>obtain⟨t,rfl⟩:=r;rfl
 |byt _=>obtain⟨t,rfl⟩:=r;rfl
 |flt _=>obtain⟨t,rfl⟩:=r;rfl
 |ref _=>cases r;rfl
 |ty _=>cases r;rfl
theorem RelV.inj {x y:V}{u:Value}(r:RelV x u)(q:RelV y u):x=y:=ay (r.abs.symm.trans q.abs)
theorem ZK.inj:∀{xs ys:List V}{us:List Value},ZK xs us->ZK ys us->xs=ys
 |_,_,_,.nil,.nil=>rfl
 |_,_,_,.cons r t,.cons j q=>by rw[r.inj j,ZK.inj t q]
section
variable {X:Cx}{pins:List (Addr×Obj)}{σ:St}{H:Hp}{s:Shared}{a:Addr}{xs ys:List V}
theorem Wr.of {K:ab}(h:H a=some (.lst xs)):Wr K H a xs:=.inl (.inl h)
theorem WM.of {K:ab}(h:H a=some (.tup xs)):WM K H a xs:=.inl (.inl h)
theorem Inv.list (I:Inv X pins σ H s)(h:Wr X.K H a xs):∃j:List Value,ZK xs j/\PlainL s.heap a j.toArray/\xs.length<=sizeLine:=by
 rcases h with h|⟨o,j,n,q,J,hd,M,O,r⟩
 ·obtain⟨z,j,n,r,e⟩:=h.ok I.hok
  exact⟨j,r,⟨_,n,e,rfl,rfl,rfl⟩,z⟩
 ·refine⟨j.toList,r,⟨o,n,I.kIn a o q,J,hd,by simpa using M⟩,?_⟩
  have e:=r.length;simp only[Zr] at e;omega
theorem Inv.tuple (I:Inv X pins σ H s)(h:WM X.K H a xs):∃j:List Value,ZK xs j/\IsTup s.heap a j.toArray/\xs.length<=sizeLine:=by
 rcases h with h|⟨o,j,n,q,J,M,O,r⟩
 ·obtain⟨z,j,r,p⟩:=h.ok I.hok
  exact⟨j,r,p,z⟩
 ·refine⟨j.toList,r,⟨o,I.kIn a o q,J,n,by simpa using M⟩,?_⟩
  have e:=r.length;simp only[Zr] at e;omega
theorem Inv.list_inj (I:Inv X pins σ H s)(h:Wr X.K H a xs)(h':Wr X.K H a ys):xs=ys:=by
 obtain⟨q,r,⟨o,n,e,_,_,d⟩,_⟩:=I.list h;obtain⟨j,O,⟨U,Y,J,_,_,M⟩,_⟩:=I.list h';rw[e] at J;cases J;rw[d] at M;injection M with d1 _;have:q=j:=by simpa using congrArg Array.toList d1
 subst this;exact r.inj O
theorem Inv.tuple_inj (I:Inv X pins σ H s)(h:WM X.K H a xs)(h':WM X.K H a ys):xs=ys:=by
 obtain⟨q,r,⟨o,e,_,n,d⟩,_⟩:=I.tuple h;obtain⟨j,O,⟨U,J,_,Y,M⟩,_⟩:=I.tuple h';rw[e] at J;cases J;rw[d] at M;injection M with d1 _;have:q=j:=by simpa using congrArg Array.toList d1
 subst this;exact r.inj O
end
noncomputable abbrev Cx.wish (X:Cx)(E:Value->Shared->Prop):Cx:={X with xe:=E}
noncomputable abbrev Cx.nox (X:Cx):Cx:=X.wish fun _ _=>False
theorem Cx.Ok.wish {X:Cx}(ok:X.Ok)(E:Value->Shared->Prop):(X.wish E).Ok:=
 ⟨ok.mod,ok.kind,ok.glob,ok.blt,ok.above,ok.inj,ok.has,ok.cab,ok.hd,ok.frames,ok.stk,ok.exf,ok.bs,ok.bsz,ok.noex,ok.exfs,ok.funs,ok.frf⟩
theorem Cx.Ok.unwish {X:Cx}{E:Value->Shared->Prop}(ok:(X.wish E).Ok):X.Ok:=
 ⟨ok.mod,ok.kind,ok.glob,ok.blt,ok.above,ok.inj,ok.has,ok.cab,ok.hd,ok.frames,ok.stk,ok.exf,ok.bs,ok.bsz,ok.noex,ok.exfs,ok.funs,ok.frf⟩
section
variable {X:Cx}{pins:List (Addr×Obj)}{σ:St}{H:Hp}{s:Shared}{E:Value->Shared->Prop}
theorem Inv.wish (I:Inv X pins σ H s)(E:Value->Shared->Prop):Inv (X.wish E) pins σ H s:=⟨I.ok.wish E,I.os,I.bare,I.base,I.loc,I.cell,I.free,I.freeC,I.pin,I.hok,I.len⟩
theorem Inv.unwish (I:Inv (X.wish E) pins σ H s):Inv X pins σ H s:=⟨I.ok.unwish,I.os,I.bare,I.base,I.loc,I.cell,I.free,I.freeC,I.pin,I.hok,I.len⟩
theorem SP.unwish {D:Xc}{f:Flow}{s':Shared}(h:SP (X.wish E) pins D f s'):SP X pins D f s':=by
 cases f with
 |next=>obtain⟨j,J,I,q⟩:=h;exact⟨j,J,I.unwish,q⟩
 |brk=>obtain⟨j,J,I,q⟩:=h;exact⟨j,J,I.unwish,q⟩
 |cont=>obtain⟨j,J,I,q⟩:=h;exact⟨j,J,I.unwish,q⟩
 |ret u=>obtain⟨v,j,J,I,r,q⟩:=h;exact⟨v,j,J,I.unwish,r,q⟩
theorem PSs.nox {st:List Stmt}{t:TS}(h:PSs X.nox st t):PSs X st t:=fun pins s σ H D I j=>
 cD (h pins s σ H D (I.wish _) j) (fun _ _ q=>q.unwish) fun _ _ z=>eA z
end
section
variable {X:Cx}{st:Stmt}{rest:List Stmt}{t u:TS}{e:Expr}{te:TE}{pos:Pos}
noncomputable def ZnH:TS:=fun D j H=>D.nx j H
noncomputable def ZlA (t u:TS):TS:=fun D j H=>t {D with nx:=u D} j H
theorem Yf:PSs X [] ZnH:=fun _ _ j H _ I h=>iL ⟨j,H,I,h⟩
theorem Zu (M:PS X st t)(O:PSs X rest u):PSs X (st::rest) (ZlA t u):=by
 intro j s U H D I h;refine wpAny_execs_cons (Yi (M j s U H {D with nx:=u D} I h) fun f Y q=>?_);cases f with
 |next=>
  obtain⟨J,H',I',q⟩:=q;exact O j Y J H' D I' q
 |ret v=>exact q
 |brk=>exact q
 |cont=>exact q
theorem Zv (J:PS X st t):PSs X [st] t:=by
 intro j s M H D I h;refine wpAny_execs_cons (Yi (J j s M H D I h) fun f O q=>?_);cases f with
 |next=>exact iL q
 |ret v=>exact q
 |brk=>exact q
 |cont=>exact q
theorem Inv.quiet {j:List (Addr×Obj)}{σ:St}{H:Hp}{s:Shared}(I:Inv X j σ H s):interactive X.env=false:=by simp[interactive,I.ok.kind]
noncomputable def ZgA (te:TE):TS:=fun D j H=>te j H fun _ q=>D.nx j q
theorem Yv (J:PE X e te)(M:swapsWith e none pos.line X.env=pure false:=by rfl):PS X (.Expr e pos) (ZgA te):=by
 intro j s q H D I h;exact wpAny_Expr_any (Yi (J j s q H _ I h) fun v s1 ⟨x,O,U,r1,Y⟩=>⟨q,O,U,Y⟩) I.quiet M
noncomputable def ZpD (te:TE):TS:=fun D j H=>te j H D.rt
theorem ZD (q:PE X e te):PS X (.Return (some e) pos) (ZpD te):=by
 intro j s σ H D I h;exact wpAny_Return_some (Yi (q j s σ H _ I h) fun v U ⟨x,J,M,r1,O⟩=>⟨x,σ,J,M,r1,O⟩)
noncomputable def ZnI (c:TT)(t u:TS):TS:=fun D j H=>c j H fun b q=>if b=true then t D j q else u D j q
theorem Y9 {c:Expr}{a b:List Stmt}{J:TT}(hc:PT X c J)(ha:PSs X a t)(hb:PSs X b u):PS X (.If c a b pos) (ZnI J t u):=by
 intro j s q H D I h;refine wpAny_If (Yi (hc j s q H _ I h) fun d M ⟨O,U,Y⟩=>?_);cases d with
 |true=>exact ha j M q O D U Y
 |false=>exact hb j M q O D U Y
end
noncomputable abbrev TG:=V->St->Hp->(St->Hp->Prop)->Prop
noncomputable abbrev TGs:=List V->St->Hp->(St->Hp->Prop)->Prop
noncomputable def PG (X:Cx)(j:Expr)(t:TG):Prop:=
 ∀(q:List (Addr×Obj)) (s:Shared) (M:St) (H:Hp) (v:V) (u:Value) (Q:St->Hp->Prop),Inv X q M H s->RelV v u->t v M H Q->
  wpAny (model X.prog X.w) X.A (assign j X.env u) (fun _ U=>∃ J O,Inv X q J O U/\Q J O) X.xe s
noncomputable def PGs (X:Cx)(ts:List Expr)(t:TGs):Prop:=
 ∀(j:List (Addr×Obj)) (s:Shared) (J:St) (H:Hp) (M:List V) (O:List Value) (Q:St->Hp->Prop),Inv X j J H s->ZK M O->t M J H Q->
  wpAny (model X.prog X.w) X.A (assignInOrder ((assignEach ts X.env).map (·.2)) O) (fun _ Y=>∃ q U,Inv X j q U Y/\Q q U) X.xe s
noncomputable abbrev ZiM:=V->V->V->Hp->(Hp->Prop)->Prop
noncomputable def Zna (X:Cx)(t:ZiM):Prop:=
 ∀(j:List (Addr×Obj)) (s:Shared) (q:St) (H:Hp) (o i v:V) (J M u:Value) (Q:Hp->Prop),Inv X j q H s->RelV o J->RelV i M->RelV v u->t o i v H Q->
  wpAny (model X.prog X.w) X.A (setItem J M u) (fun _ U=>∃O,Inv X j q O U/\Q O) X.xe s
noncomputable abbrev TIp:=V->V->Hp->VK->Prop
noncomputable def PIp (X:Cx)(op:lE)(t:TIp):Prop:=
 ∀(j:List (Addr×Obj)) (s:Shared) (q:St) (H:Hp) (x y:V) (v u:Value) (Q:VK),Inv X j q H s->RelV x v->RelV y u->t x y H Q->
  wpAny (model X.prog X.w) X.A (inplaceOp op v u) (EP X j q Q) X.xe s
section
variable {X:Cx}{pos:Pos}
noncomputable def Yy (i:Nat):TG:=fun v j H Q=>Q (j.set i (some v)) H
theorem ZeE {i:Nat}{x:Str}(q:X.N.Nodup)(J:X.N[i]?=some x)(M:Loc X.env.scope x)(O:X.fn x=true\/X.env.scope.names.lookup x=some .local:=by first|exact .inl rfl|exact .inr rfl|assumption):PG X (.Name x pos) (Yy i):=by
 intro j s Y H v u Q I r h;exact wpAny_assign_Name (W6 I q J M r (fun s' U=>⟨_,H,U,h⟩) O)
noncomputable def Zkd:TGs:=fun j q H Q=>j=[]/\Q q H
noncomputable def Uk (t:TG)(u:TGs):TGs:=fun q J H Q=>∃v r,q=v::r/\t v J H fun j M=>u r j M Q
theorem Zjl:PGs X [] Zkd:=by
 intro j s q H J M Q I r h;obtain⟨e,h⟩:=h;subst e;cases r;exact assignInOrder_nil ⟨q,H,I,h⟩
theorem Zb8 {e:Expr}{q:List Expr}{t:TG}{u:TGs}(M:PG X e t)(O:PGs X q u)
  (U:(assignEach (e::q) X.env).map (·.2)=assign e X.env::(assignEach q X.env).map (·.2):=by rfl):PGs X (e::q) (Uk t u):=by
 intro j s Y H vs us Q I r h;obtain⟨v,vr,e1,h⟩:=h;subst e1;cases r with
 |cons r rr=>
  rw[U];refine assignInOrder_cons (Yi (M j s Y H _ _ _ I r h) fun _ s1 ⟨J,H1,I1,q1⟩=>?_);exact O j s1 J H1 _ _ Q I1 rr q1
noncomputable def Zkc (K:ab)(n:Nat)(t:TGs):TG:=fun v q H Q=>∃a j,v=.ref a/\WM K H a j/\j.length=n/\t j q H Q
theorem ZlX {q:List Expr}{k:Nat}{t:TGs}{n:Nat}(Y:X.calm=true)(h:PGs X q t)
  (hn:(assignEach q X.env).length=n:=by rfl) (J:(assignEach q X.env).findIdx? (·.1)=none:=by rfl):PG X (.Tuple q k pos) (Zkc X.K n t):=by
 intro j s O H v u Q I r M;obtain⟨a,xs,e1,hq,hl,M⟩:=M;subst e1;cases r;obtain⟨n4,U,ht,hz⟩:=I.tuple hq;refine assign_Tuple_tuple (I.ok.hd Y) ht (by simp[hn,<-hl,U.length]) J fun h' hx=>?_;have I1:Inv X j O H {s with heap:=h'}:=I.kept (t':=s.toks) fun b o e=>hx b o (aB (Zp e)) e;exact h j _ O H xs _ Q I1 (by simpa using U) M
noncomputable def Zp5 (q ti:TE)(t:ZiM):TG:=fun v j H Q=>q j H fun o J=>ti j J fun i M=>t o i v M fun O=>Q j O
theorem ZaX {o i:Expr}{to ti:TE}{t:ZiM}(M:PE X o to)(O:PE X i ti)(U:Zna X t)
  (Y:∀v,assign (.Subscript o i pos) X.env v=(do
   let q <-holding [v] (eval o X.env)
   let iv <-holding [v,q] (eval i X.env)
   standAt pos
   holding [v,q,iv] (setItem q iv v)
   release [v,q,iv] []):=by intro _;rfl):PG X (.Subscript o i pos) (Zp5 to ti t):=by
 intro j s J H v u Q I r h;rw[Y];refine Zl (cG (Yi (M j s J H _ I h) fun q s1 ⟨x,H1,I1,r1,q1⟩=>?_));refine Zl (cG (Yi (O j s1 J H1 _ I1 q1) fun iv s2 ⟨y,H2,I2,r2,q2⟩=>?_));refine Zl (lZ (Zl (cG (Yi (U j s2 J H2 x y v q iv u _ I2 r1 r2 r q2) fun _ s3 ⟨H3,I3,q3⟩=>?_))));exact wpAny_release ⟨J,H3,I3,q3⟩
noncomputable def Zc5 (q:TE)(g:TG):TS:=fun D j H=>q j H fun x J=>g x j J D.nx
theorem ZaW {J e:Expr}{M:TE}{g:TG}(U:PE X e M)(Y:PG X J g)(hs:swapsWithSole [J] e pos.line X.env=pure false:=by rfl)(hw:swappedStores [J] e X.env=pure none:=by rfl)
  (h1:(assignEach [J] X.env).map (·.2)=[assign J X.env]:=by rfl):PS X (.Assign [J] e pos) (Zc5 M g):=by
 intro j s O H D I h;refine wpAny_Assign_stores (Yi (U j s O H _ I h) fun v s1 ⟨x,H1,I1,r1,q1⟩=>?_) hs hw;rw[h1];exact Yi (Y j s1 O H1 x v _ I1 r1 q1) fun _ s2 q=>q
theorem ZlV {i:Nat}{x:Str}{e:Expr}{J:TE}{j:Pos}(M:X.N.Nodup)(O:X.N[i]?=some x)(U:Loc X.env.scope x)(Y:PE X e J)(hs:swapsWith e (some (.Name x j)) pos.line X.env=pure false:=by rfl)(hf:X.fn x=true\/X.env.scope.names.lookup x=some .local:=by first|exact .inl rfl|exact .inr rfl|assumption) :
  PS X (.Assign [.Name x j] e pos) (Zc5 J (Yy i)):=by
 intro q s σ H D I h;refine wpAny_Assign_Name (Yi (Y q s σ H _ I h) fun v s1 ⟨y,H1,I1,r1,q1⟩=>?_) hs;exact W6 I1 M O U r1 (fun s2 I2=>⟨_,H1,I2,q1⟩) hf
noncomputable def ZpH (i:Nat)(j:TE)(ti:TIp):TS:=fun D σ H=>∃x,σ[i]?=some (some x)/\j σ H fun y q=>ti x y q fun z J=>D.nx (σ.set i (some z)) J
theorem Jx {i:Nat}{x:Str}{e:Expr}{te:TE}{op:lE}{ti:TIp}{M:Pos}(hN:X.N.Nodup)(hi:X.N[i]?=some x)(Y:Loc X.env.scope x)(he:PE X e te)(ho:PIp X op ti)(hf:X.fn x=true\/X.env.scope.names.lookup x=some .local:=by first|exact .inl rfl|exact .inr rfl|assumption) :
  PS X (.AugAssign (.Name x M) op e pos) (ZpH i te ti):=by
 intro j s σ H D I h;obtain⟨v,e1,h⟩:=h;obtain⟨m,hn,hl⟩:=I.loc;have n4:Vis X.env.scope x:=by rcases Y with k|k;exact .inl k;exact .inr (.inl k)
 obtain⟨u,r,l⟩:=hl i x v hi e1 n4;refine wpAny_AugAssign_Name ?_;have go:wpAny (model X.prog X.w) X.A (eval e X.env) (fun w O=>wpAny (model X.prog X.w) X.A (inplaceOp op u w) (fun r U=>wpAny (model X.prog X.w) X.A (storeName X.env x r) (fun _=>SP X j D .next) X.xe U) X.xe O) X.xe s:=by
  refine Yi (he j s σ H _ I h) fun w s1 ⟨y,H1,I1,r1,q1⟩=>?_;refine Yi (ho j s1 σ H1 v y u w _ I1 r r1 q1) fun z s2 ⟨zv,H2,I2,r2,q2⟩=>?_;exact W6 I2 hN hi Y r2 (fun s3 I3=>⟨_,H2,I3,q2⟩) hf
 rcases l with ⟨q,hm⟩|⟨q,c,hc,J⟩
 ·exact wpAny_loadName_local I.ok.kind q hn hm go
 ·rcases q with q|q
  ·exact wpAny_loadName_cell I.ok.kind q hc J go
  ·rcases Y with k|k
   ·have:X.env.scope.names.lookup x=some .free:=q
    rw[k] at this;cases this
   ·have:X.env.scope.names.lookup x=some .free:=q
    rw[k] at this;cases this
noncomputable def ZnM (O ti U:TE)(j:V->V->Hp->VK->Prop)(M:TIp)(q:ZiM):TS:=fun D J H=>O J H fun o Y=>ti J Y fun i H2=>j o i H2 fun x H3=>U J H3 fun y H4=>M x y H4 fun z H5=>q o i z H5 fun H6=>D.nx J H6
noncomputable def Znb (X:Cx)(t:V->V->Hp->VK->Prop):Prop:=
 ∀(j:List (Addr×Obj)) (s:Shared) (q:St) (H:Hp) (o i:V) (J M:Value) (Q:VK),Inv X j q H s->RelV o J->RelV i M->t o i H Q->
  wpAny (model X.prog X.w) X.A (getItem J M) (EP X j q Q) X.xe s
theorem Xu {o i e:Expr}{to ti te:TE}{J:V->V->Hp->VK->Prop}{Y:TIp}{M:ZiM}{op:lE}{n4:Pos}(ho:PE X o to)(hi:PE X i ti)(hg:Znb X J)(he:PE X e te)(hp:PIp X op Y)(hs:Zna X M)
  (ha:∀O iv q,augStore i O iv q=(do holding [q,O,iv] (setItem O iv q);release [q,O,iv] [];pure .next):=by intros;rfl):PS X (.AugAssign (.Subscript o i n4) op e pos) (ZnM to ti te J Y M):=by
 intro j s U H D I h;refine wpAny_AugAssign_SubscriptAny (Yi (ho j s U H _ I h) fun O s1 ⟨x1,H1,I1,r1,q1⟩=>?_) ha;refine Yi (hi j s1 U H1 _ I1 q1) fun iv s2 ⟨x2,H2,I2,r2,q2⟩=>?_;refine Yi (hg j s2 U H2 x1 x2 O iv _ I2 r1 r2 q2) fun n6 s3 ⟨x3,H3,I3,r3,q3⟩=>?_;refine Yi (he j s3 U H3 _ I3 q3) fun v s4 ⟨x4,H4,I4,r4,q4⟩=>?_;refine Yi (hp j s4 U H4 x3 x4 n6 v _ I4 r3 r4 q4) fun q s5 ⟨x5,H5,I5,r5,q5⟩=>?_;exact Yi (hs j s5 U H5 x1 x2 x5 O iv q _ I5 r1 r2 r5 q5) fun _ s6 ⟨H6,I6,q6⟩=>⟨U,H6,I6,q6⟩
noncomputable def ipI (f:Int->Int->Int):TIp:=fun x y H Q=>∃i j,x=.int i/\y=.int j/\Q (.int (f i j)) H
theorem WK:PIp X .Add (ipI fun i j=>i+j):=by
 intro J s σ H x y v u Q I M O h;obtain⟨i,j,U,Y,q⟩:=h;subst U;subst Y;obtain⟨t,rfl⟩:=M;obtain⟨t',rfl⟩:=O;exact iadd_int ⟨.int _,H,I.tok _,⟨_,rfl⟩,q⟩
theorem Zh4:PIp X .Sub (ipI fun i j=>i-j):=by
 intro J s σ H x y v u Q I M O h;obtain⟨i,j,U,Y,q⟩:=h;subst U;subst Y;obtain⟨t,rfl⟩:=M;obtain⟨t',rfl⟩:=O;exact isub_int ⟨.int _,H,I.tok _,⟨_,rfl⟩,q⟩
end
section
variable {X:Cx}{pos:Pos}
noncomputable def Zgy (c:TT)(tb:TS):TS:=fun D j H=>∃W:Nat->St->Hp->Prop,(∃m,W m j H)/\∀m j H,W m j H->
 c j H fun b J=>if b=true then ∃N:St->Hp->Prop,(∀ q M,N q M->∃O,O<m/\W O q M)/\tb {D with nx:=N,ct:=N,bk:=D.nx} j J else D.nx j J
theorem Yk {c:Expr}{body:List Stmt}{tc:TT}{tb:TS}(hp:PassesOwn (model X.prog X.w) X.A X.env X.xe)(hc:PT X c tc)(hb:PSs X body tb):PS X (.While c body [] pos) (Zgy tc tb):=by
 intro j s σ H D I h;obtain⟨W,⟨m0,w0⟩,turn⟩:=h;refine wpAny_While (codeAny_whileLoop (fun n s'=>∃ M H',Inv X j M H' s'/\W n M H') ?_ m0 ⟨σ,H,I,w0⟩);rintro n s1 ⟨J,H1,I1,w1⟩;refine eh hp (Yi (hc j s1 J H1 _ I1 (turn n J H1 w1)) fun b s2 ⟨H2,I2,U⟩=>?_);cases b with
 |true=>
  obtain⟨N,hN,U⟩:=U;rw[if_pos rfl];refine eh hp (Yi (hb j s2 J H2 _ I2 U) fun f s3 Y=>?_);cases f with
  |next=>
   obtain⟨q,O,I3,n3⟩:=Y;obtain⟨m',hm,w3⟩:=hN q O n3;exact⟨m',hm,q,O,I3,w3⟩
  |cont=>
   obtain⟨q,O,I3,n3⟩:=Y;obtain⟨m',hm,w3⟩:=hN q O n3;exact⟨m',hm,q,O,I3,w3⟩
  |brk=>exact Y
  |ret v=>exact Y
 |false=>
  rw[if_neg aG];exact iL ⟨J,H2,I2,U⟩
end
structure It where
 go:Nat->Hp->Prop
 yld:Nat->Hp->V->Hp->Prop
 stop:Nat->Hp->Prop
noncomputable def UY (X:Cx)(j:List (Addr×Obj))(H:Hp)(b:Addr):Prop:=
 H b=none/\b≠X.env.locals/\b∉X.fs/\(b∈X.ex\/X.s₀.heap.objs.size<=b)/\(∀x c,X.env.cells.lookup x=some c->c≠b)/\∀p∈X.pn++j,p.1≠b
theorem Inv.fpOk {X:Cx}{j:List (Addr×Obj)}{σ:St}{H J:Hp}{s:Shared}{b:Addr}(I:Inv X j σ H s)(hb:s.heap.objs.size<=b)(M:J b=none):UY X j J b:=by
 refine⟨M,bt (aC I.lt hb),I.nofs hb,.inr (a5 I.sz hb),fun x c e z=>?_,fun p O z=>?_⟩
 ·obtain⟨v,q⟩:=I.cell x c e
  exact absurd (aC q.lt (by rw[z];exact hb)) (cg _)
 ·exact absurd (aC (Zp (I.pin p O).1) (by rw[z];exact hb)) (cg _)
structure UW (P:Program)(w:World)(K:ab)(tg:Expr)(J:It)(fp:List Addr)(it:Addr)(tn:Nat->Heap->Prop):Prop where
 mem:it∈fp
 obj:∀i h,tn i h->∀b∈fp,∃o,h.get? b=some o/\∀v,o.data≠.cell v
 keep:∀i h h',tn i h->(∀b∈fp,∀o,h.get? b=some o->h'.get? b=some o)->tn i h'
 item:∀(X:Cx),X.prog=P->X.w=w->X.K=K->X.calm=true->∀(i:Nat) (pins:List (Addr×Obj)) (s:Shared) (σ:St) (H:Hp) (E:Value->Shared->Prop),Inv X pins σ H s->(∀b∈fp,UY X pins H b)->tn i s.heap->J.go i H->
  wpAny (model P w) X.A (pyNext (.ref it)) (fun r s1=>∃u,r=some u/\
   wpAny (model P w) X.A (letOwnedTupleGo tg (.ref it) u) (fun _ s2=>∃x H',Inv X pins σ H' s2/\RelV x u/\J.yld i H x H'/\tn (i+1) s2.heap/\∀b∈fp,H' b=none) E s1) E s
 done:∀(X:Cx),X.prog=P->X.w=w->X.K=K->X.calm=true->∀(i:Nat) (pins:List (Addr×Obj)) (s:Shared) (σ:St) (H:Hp) (E:Value->Shared->Prop),Inv X pins σ H s->(∀b∈fp,UY X pins H b)->tn i s.heap->J.stop i H->
  wpAny (model P w) X.A (pyNext (.ref it)) (fun r s1=>r=none/\Inv X pins σ H s1) E s
 self:∀(A:Around) (i:Nat) (s:Shared) (Q:Value->Shared->Prop) (E:Value->Shared->Prop),tn i s.heap->Q (.ref it) s->wpAny (model P w) A (pyIter (.ref it)) Q E s
noncomputable abbrev TI:=St->Hp->(It->Hp->Prop)->Prop
noncomputable def PIE (X:Cx)(j:List (Addr×Obj))(σ:St)(tg:Expr)(R:It->Hp->Prop)(q:Value)(O:Shared):Prop:=
 ∃(it:Addr) (U:List Addr) (Y:Nat->Heap->Prop) (J:It) (M:Hp),q=.ref it/\Inv X j σ M O/\UW X.prog X.w X.K tg J U it Y/\Y 0 O.heap/\(∀b∈U,UY X j M b)/\R J M
noncomputable def PI (X:Cx)(M q:Expr)(O:TI):Prop:=
 ∀(j:List (Addr×Obj)) (s:Shared) (J:St) (H:Hp) (R:It->Hp->Prop),Inv X j J H s->O J H R->
  wpAny (model X.prog X.w) X.A (eval q X.env) (fun v U=>wpAny (model X.prog X.w) X.A (pyIter v) (PIE X j J M R) X.xe U) X.xe s
theorem ZcB {M:Model}{A:Around}{E:Value->Shared->Prop}{s:Shared}{q:Expr}{it:Addr}{u:Value}{o:Obj}{n:String}{vs:Array Value}{Q:Unit->Shared->Prop}(J:s.heap.get? it=some o)(O:o.cls=.type n)(hd:o.data=.fields vs)
    (U:["enumerate", "zip", "dict_itemiterator", "dict_reverseitemiterator", "odict_iterator", "itertools.zip_longest", "itertools.pairwise"].contains n=false) (j:Q () s):wpAny M A (letOwnedTupleGo q (.ref it) u) Q E s:=by
  unfold letOwnedTupleGo;cases q <;> first
    |exact Zm j
    |(cases u <;> first
        |exact Zm j
        | (refine Zl (jt J ?_)
           rw[O,hd];show wpAny M A (if (["enumerate", "zip", "dict_itemiterator", "dict_reverseitemiterator", "odict_iterator", "itertools.zip_longest", "itertools.pairwise"].contains n && vs[0]? == some (rawInt _))=true then _ else _) Q E s
           rw[if_neg (by intro h;rw[U,Bool.false_and] at h;cases h)];exact Zm j))
noncomputable def Itl (K:ab)(a:Addr):It:=
 ⟨fun i H=>∃j x,Wr K H a j/\j[i]?=some x,fun i H x q=>q=H/\∀j,Wr K H a j->j[i]?=some x,fun i H=>∃j,Wr K H a j/\j.length<=i⟩
noncomputable def Itt (K:ab)(a:Addr):It:=
 ⟨fun i H=>∃j x,WM K H a j/\j[i]?=some x,fun i H x q=>q=H/\∀j,WM K H a j->j[i]?=some x,fun i H=>∃j,WM K H a j/\j.length<=i⟩
noncomputable def Itr (lo:Int)(n:Nat):It:=⟨fun i _=>i<n,fun i H x j=>j=H/\x=.int (lo+i),fun i _=>n<=i⟩
theorem Zfm {P:Program}{w:World}{K:ab}{tg:Expr}(a it:Addr):UW P w K tg (Itl K a) [it] it (fun i h=>h.IsListIter it a i) where
 mem:=by simp
 obj:=fun i h st b hb=>by
  have e:b=it:=by simpa using hb
  subst e;obtain⟨o,e,c,d⟩:=st;exact⟨o,e,fun v z=>by rw[d] at z;cases z⟩
 keep:=fun i h J st k=>st.at fun o e=>k it (by simp) o e
 item:=by
  intro X U Y hK hc i j s σ H E I M st hg;subst U Y hK;obtain⟨xs,x,O,hx⟩:=hg;obtain⟨n4,rv,p,hz⟩:=I.list O;obtain⟨u,hu,ru⟩:=rv.get hx;obtain⟨f0,f1,f2,f3,f4,f5⟩:=M it (by simp);refine wpAny_pyNext_list_item st p.isList (x:=u) (by simpa using hu) fun J q sb=>?_;have I1:Inv X j σ H {s with heap:=J}:=I.turned (t':=s.toks) (fun b o hb e=>(sb.2 b hb).trans e) f0 f1 f3 f4 f5;obtain⟨o,e,c,d⟩:=id q;exact⟨u,rfl,ZcB (s:={s with heap:=J}) e c d (by decide) ⟨x,H,I1,ru,⟨rfl,fun ys hy=>by rw[I.list_inj hy O];exact hx⟩,q,fun b hb=>(M b hb).1⟩⟩
 done:=by
  intro X U Y hK hc i j s σ H E I M st hg;subst U Y hK;obtain⟨xs,O,hx⟩:=hg;obtain⟨n4,rv,p,hz⟩:=I.list O;obtain⟨f0,f1,f2,f3,f4,f5⟩:=M it (by simp);have hl:=rv.length;exact wpAny_pyNext_list_end (I.ok.hd hc) st p.isList (by simp;omega) fun J eb=>⟨rfl,I.turned (t':=s.toks) (fun b o hb e=>eb b o hb e) f0 f1 f3 f4 f5⟩
 self:=fun _ _ _ _ _ st h=>wpAny_pyIter_listiter st h
theorem Zc2 {P:Program}{w:World}{K:ab}{tg:Expr}(a it:Addr):UW P w K tg (Itt K a) [it] it (fun i h=>h.IsTupleIter it a i) where
 mem:=by simp
 obj:=fun i h st b hb=>by
  have e:b=it:=by simpa using hb
  subst e;obtain⟨o,e,c,d⟩:=st;exact⟨o,e,fun v z=>by rw[d] at z;cases z⟩
 keep:=fun i h M st k=>st.at fun o e=>k it (by simp) o e
 item:=by
  intro X Y hw hK hc i j s σ H E I O st hg;subst Y hw hK;obtain⟨xs,x,U,hx⟩:=hg;obtain⟨q,rv,p,hz⟩:=I.tuple U;obtain⟨u,hu,ru⟩:=rv.get hx;obtain⟨f0,f1,f2,f3,f4,f5⟩:=O it (by simp);refine wpAny_pyNext_tuple_item st (show s.heap.IsTuple a q.toArray from p) (x:=u) (by simpa using hu) fun M J sb=>?_;have I1:Inv X j σ H {s with heap:=M}:=I.turned (t':=s.toks) (fun b o hb e=>(sb.2 b hb).trans e) f0 f1 f3 f4 f5;obtain⟨o,e,c,d⟩:=id J;exact⟨u,rfl,ZcB (s:={s with heap:=M}) e c d (by decide) ⟨x,H,I1,ru,⟨rfl,fun ys hy=>by rw[I.tuple_inj hy U];exact hx⟩,J,fun b hb=>(O b hb).1⟩⟩
 done:=by
  intro X Y hw hK hc i j s σ H E I O st hg;subst Y hw hK;obtain⟨xs,U,hx⟩:=hg;obtain⟨q,rv,p,hz⟩:=I.tuple U;obtain⟨f0,f1,f2,f3,f4,f5⟩:=O it (by simp);have hl:=rv.length;exact wpAny_pyNext_tuple_end (I.ok.hd hc) st (show s.heap.IsTuple a q.toArray from p) (by simp;omega) fun M eb=>⟨rfl,I.turned (t':=s.toks) (fun b o hb e=>eb b o hb e) f0 f1 f3 f4 f5⟩
 self:=fun _ _ _ _ _ st h=>wpAny_pyIter_tupleiter st h
theorem Zc3 {P:Program}{w:World}{K:ab}{tg:Expr}(it:Addr)(lo:Int)(n:Nat):UW P w K tg (Itr lo n) [it] it (fun i h=>hU h it (lo+(i:Nat)*1) ((n:Int)-(i:Nat)) 1) where
 mem:=by simp
 obj:=fun i h st b hb=>by
  have e:b=it:=by simpa using hb
  subst e;exact⟨_,st,fun v z=>by
   have z':gA _=f6 v:=z;cases z'⟩
 keep:=fun i h J st k=>k it (by simp) _ st
 item:=by
  intro X O U Y hc i j s σ H E I M st hg;subst O U Y;obtain⟨f0,f1,f2,f3,f4,f5⟩:=M it (by simp);have W:=lx (prog:=X.prog) (w:=X.w) (I.ok.hd hc) it lo 1 n;refine W.item i s _ _ hg st fun v J tk hv q kk=>?_;obtain⟨t,rfl⟩:=hv;have I1:Inv X j σ H {s with heap:=J,toks:=tk}:=I.turned (fun b o hb e=>kk b o (by simpa using hb) e) f0 f1 f3 f4 f5;refine⟨_,rfl,ZcB (s:={s with heap:=J,toks:=tk}) (n:="range_iterator") q rfl rfl (by decide) ⟨.int (lo+i),H,I1,⟨t,?_⟩,⟨rfl,rfl⟩,q,fun b hb=>(M b hb).1⟩⟩;rw[iJ]
 done:=by
  intro X O U Y hc i j s σ H E I M st hg;subst O U Y;obtain⟨f0,f1,f2,f3,f4,f5⟩:=M it (by simp);exact iF (I.ok.hd hc) st (by have:n<=i:=hg;omega) fun J eb=>⟨rfl,I.turned (t':=s.toks) (fun b o hb e=>eb b o hb e) f0 f1 f3 f4 f5⟩
 self:=fun _ _ _ _ _ st h=>iG st h
section
variable {X:Cx}{tg:Expr}
noncomputable def Zlg (K:ab)(q:TE):TI:=fun J H R=>q J H fun x j=>∃a,x=.ref a/\(∃M,Wr K j a M)/\R (Itl K a) j
noncomputable def Zov (K:ab)(q:TE):TI:=fun J H R=>q J H fun x j=>∃a,x=.ref a/\(∃M,WM K j a M)/\R (Itt K a) j
theorem Zjk {l:Expr}{O:TE}(U:PE X l O):PI X tg l (Zlg X.K O):=by
 intro j s Y H R I h;refine Yi (U j s Y H _ I h) fun v J ⟨x,H1,M,r1,q1⟩=>?_;obtain⟨a,e,⟨xs,hq⟩,q⟩:=q1;subst e;cases r1;obtain⟨n4,rv,p,hz⟩:=M.list hq;refine fN p.isList ?_;refine⟨J.heap.objs.size,[J.heap.objs.size],_,_,H1,rfl,M.kept (t':=J.toks) fun b o e=>Zn _ e,Zfm a _,⟨_,Zo _ rfl,rfl,rfl⟩,fun b hb=>?_,q⟩;have e:b=J.heap.objs.size:=by simpa using hb
 subst e;exact M.fpOk (Zq _) (M.hok.fresh (Zq _))
theorem ZlW {l:Expr}{U:TE}(Y:PE X l U):PI X tg l (Zov X.K U):=by
 intro j s σ H R I h;refine Yi (Y j s σ H _ I h) fun v J ⟨x,H1,M,r1,q1⟩=>?_;obtain⟨a,e,⟨xs,hq⟩,q⟩:=q1;subst e;cases r1;obtain⟨O,rv,p,hz⟩:=M.tuple hq;refine gK (show J.heap.IsTuple a O.toArray from p) ?_;refine⟨J.heap.objs.size,[J.heap.objs.size],_,_,H1,rfl,M.kept (t':=J.toks) fun b o e=>Zn _ e,Zc2 a _,⟨_,Zo _ rfl,rfl,rfl⟩,fun b hb=>?_,q⟩;have e:b=J.heap.objs.size:=by simpa using hb
 subst e;exact M.fpOk (Zq _) (M.hok.fresh (Zq _))
theorem Zb5 {J:List (Addr×Obj)}{σ:St}{H:Hp}{s:Shared}{R:It->Hp->Prop}{E:Value->Shared->Prop}{lo j:Int}{t u v:Tok}{tk:Nat}(I:Inv X J σ H s)(O:-(2 ^ 62)<=lo)(U:lo<2 ^ 62)(Y:-(2 ^ 62)<=j)(h4:j<2 ^ 62)
  (q:R (Itr lo (j-lo).toNat) H):wpAny (model X.prog X.w) X.A (pyIter (.ref s.heap.objs.size)) (PIE X J σ tg R) E {s with heap:=s.heap.push {cls:=.type "range",data:=.fields #[.int lo t,.int j u,.int 1 v]},toks:=tk}:=by
 refine jr (kK ..) (small_one O U Y h4) ?_;have M:Inv X J σ H {s with heap:=s.heap.push {cls:=.type "range",data:=.fields #[.int lo t,.int j u,.int 1 v]},toks:=tk}:=I.kept fun b o e=>Zn _ e;refine⟨(s.heap.push {cls:=.type "range",data:=.fields #[.int lo t,.int j u,.int 1 v]}).objs.size,[(s.heap.push {cls:=.type "range",data:=.fields #[.int lo t,.int j u,.int 1 v]}).objs.size],_,_,H,rfl,
  M.kept (t':=tk) fun b o e=>Zn _ e,Zc3 _ lo (j-lo).toNat,?_,fun b hb=>?_,q⟩
 ·have e1:lo+((0:Nat):Int)*1=lo:=by simp
  have e2:(((j-lo).toNat:Nat):Int)-((0:Nat):Int)=bf lo j 1:=by rw[rangeSize_one];split <;> omega
  show hU _ _ (lo+((0:Nat):Int)*1) ((((j-lo).toNat:Nat):Int)-((0:Nat):Int)) 1;rw[e1,e2];exact Zo _ rfl
 ·have e:b=(s.heap.push {cls:=.type "range",data:=.fields #[.int lo t,.int j u,.int 1 v]}).objs.size:=by simpa using hb
  subst e;exact M.fpOk (Zq _) (M.hok.fresh (Zq _))
noncomputable def Zlf (q:TA):TI:=fun J H R=>q J H fun M O=>∃j:Int,M=[.int j]/\-(2 ^ 62)<=j/\j<2 ^ 62/\R (Itr 0 j.toNat) O
noncomputable def Zle (q:TA):TI:=fun J H R=>q J H fun M O=>∃i j:Int,M=[.int i,.int j]/\(-(2 ^ 62)<=i/\i<2 ^ 62/\-(2 ^ 62)<=j/\j<2 ^ 62)/\R (Itr i (j-i).toNat) O
theorem Zfv {a:Expr}{O:TA}{p pos:Pos}(U:Gl X "range")(Y:X.mg "range"=none)(ha:PA X [a] O)(hs:starEach [a] X.env=[(false,eval a X.env)]:=by rfl):PI X tg (.Call (.Name "range" p) [a] [] pos) (Zlf O):=by
 intro J s σ H R I h;refine Call_ (WZ I U Y lH (bn (Yi (ha pos J s σ H _ I h) fun us s1 ⟨vs,H1,I1,r1,M⟩=>?_) hs rfl));obtain⟨j,e,M,q2,q⟩:=M;subst e;cases r1 with
 |cons r rr=>
  cases rr;obtain⟨t,rfl⟩:=r;exact call_range_1 (Zb5 I1 (by omega) (by omega) M q2 (by simpa using q))
theorem Zfu {a b:Expr}{Y:TA}{p pos:Pos}(hg:Gl X "range")(hm:X.mg "range"=none)(ha:PA X [a,b] Y)(hs:starEach [a,b] X.env=[(false,eval a X.env),(false,eval b X.env)]:=by rfl)(J:starEach [b] X.env=[(false,eval b X.env)]:=by rfl) :
  PI X tg (.Call (.Name "range" p) [a,b] [] pos) (Zle Y):=by
 intro M s σ H R I h;refine Call_ (WZ I hg hm lH (bn (Yi (ha pos M s σ H _ I h) fun us s1 ⟨vs,H1,I1,r1,O⟩=>?_) (by rw[hs,J]) (by rw[J];rfl)));obtain⟨i,j,e,⟨O,q2,q3,q4⟩,q⟩:=O;subst e;cases r1 with
 |cons r U=>
  cases U with
  |cons r' U=>
   cases U;obtain⟨t,rfl⟩:=r;obtain⟨t',rfl⟩:=r';exact call_range_2 (Zb5 I1 O q2 q3 q4 q)
noncomputable def ZpE (Y:TI)(g:TG)(tb:TS):TS:=fun D j H=>Y j H fun J H1=>∃W:Nat->Nat->St->Hp->Prop,(∃m,W 0 m j H1)/\∀i m j H,W i m j H->
 (J.stop i H/\D.nx j H)\/(J.go i H/\∃N:St->Hp->Prop,(∀ q M,N q M->∃U,U<m/\W (i+1) U q M)/\∀x M,J.yld i H x M->g x j M fun O H2=>tb {D with nx:=N,ct:=N,bk:=D.nx} O H2)
noncomputable def Ub (j:List Addr)(h:Heap):List (Addr×Obj):=j.filterMap fun b=>(h.get? b).map fun o=>(b,o)
theorem Ji {j:List Addr}{h:Heap}{b:Addr}{o:Obj}(hb:b∈j)(e:h.get? b=some o):(b,o)∈Ub j h:=iT.mpr ⟨b,hb,by rw[e];rfl⟩
theorem ZfG {j:List Addr}{h:Heap}{p:Addr×Obj}(J:p∈Ub j h):p.1∈j/\h.get? p.1=some p.2:=by
 obtain⟨b,hb,e⟩:=iT.mp J;cases q:h.get? b with
 |none=>rw[q] at e;cases e
 |some o=>
  rw[q] at e;have M:(b,o)=p:=ay e;subst M;exact⟨hb,q⟩
theorem Inv.pinned {j:List (Addr×Obj)}{σ:St}{H:Hp}{s:Shared}{q:List Addr}(I:Inv X j σ H s)(M:∀b∈q,UY X j H b)(O:∀b∈q,∃o,s.heap.get? b=some o/\∀v,o.data≠.cell v):Inv X (j++Ub q s.heap) σ H s:=
 I.pins_of fun p U=>(bH.mp U).elim (fun z=>I.pin p (aS _ z)) fun z=>by
  obtain⟨hb,e⟩:=ZfG z;obtain⟨Y,f1,f2,_⟩:=M p.1 hb;obtain⟨o,J,d⟩:=O p.1 hb;rw[e] at J;cases J;exact⟨e,Y,f1,f2,d⟩
theorem Inv.unpinned {j pl:List (Addr×Obj)}{σ:St}{H:Hp}{s:Shared}(I:Inv X (j++pl) σ H s):Inv X j σ H s:=I.pins_of fun p q=>I.pin p (aS _ (bY _ q))
theorem ZQ {iter:Expr}{body:List Stmt}{wi:TI}{g:TG}{tb:TS}{pos:Pos}(hp:PassesOwn (model X.prog X.w) X.A X.env X.xe)(hc:X.calm=true)(hi:PI X tg iter wi)(hg:PG X tg g)(hb:PSs X body tb)
  (hs:∀x,foldedSetIterable iter X.env x=pure x:=by intro _;rfl):PS X (.For tg iter body [] pos) (ZpE wi g tb):=by
 intro j s σ H D I h;refine wpAny_For (Yi (hi j s σ H _ I h) fun v s1 h1=>Yi h1 fun o7 s2 h2=>?_) hs;obtain⟨it,fp,tn,J,H2,e,I2,T,n9,f2,W,⟨m0,w0⟩,turn⟩:=h2;subst e;have M:∀{H':Hp},(∀b∈fp,H' b=none)->∀b∈fp,UY X j H' b:=fun hn b hb=>⟨hn b hb,(f2 b hb).2⟩;refine codeAny_forLoop_any (fun n s'=>∃i O H',Inv X j O H' s'/\tn i s'.heap/\(∀b∈fp,H' b=none)/\W i n O H') ?_ m0 ⟨0,σ,H2,I2,n9,fun b hb=>(f2 b hb).1,w0⟩;rintro n s3 ⟨i,U,H3,I3,n6,n8,w3⟩;rcases turn i n U H3 w3 with ⟨stop,qn⟩|⟨go,N,hN,step⟩
 ·refine eh hp (Yi (T.done X rfl rfl rfl hc i j s3 U H3 X.xe I3 (M n8) n6 stop) fun r s4 ⟨hr,I4⟩=>?_)
  subst hr;exact iL ⟨U,H3,I4,qn⟩
 ·refine eh hp (Yi (T.item X rfl rfl rfl hc i j s3 U H3 X.xe I3 (M n8) n6 go) fun r s4 ⟨u,hr,h4⟩=>?_)
  subst hr;refine eh hp (Yi h4 fun _ s5 ⟨x,H5,I5,r5,y5,n4,o0⟩=>?_);have o5:=I5.pinned (M o0) (T.obj _ _ n4);refine eh hp (Yi (hg _ s5 U H5 x u _ o5 r5 (step x H5 y5)) fun _ s6 ⟨o6,H6,I6,q6⟩=>?_);refine eh hp (Yi (hb _ s6 o6 H6 _ I6 q6) fun f s7 q7=>?_);have again:∀{q:St}{Y:Hp},Inv X (j++Ub fp s5.heap) q Y s7->N q Y->∃m,m<n/\∃i O H',Inv X j O H' s7/\tn i s7.heap/\(∀b∈fp,H' b=none)/\W i m O H':=fun {q Y} I7 n7=>by
   obtain⟨m',hm,w7⟩:=hN q Y n7;refine⟨m',hm,i+1,q,Y,I7.unpinned,T.keep _ _ _ n4 fun b hb o e=>(I7.pin (b,o) (aS _ (aS _ (Ji hb e)))).1,fun b hb=>?_,w7⟩;obtain⟨o,e,d⟩:=T.obj _ _ n4 b hb;exact (I7.pin (b,o) (aS _ (aS _ (Ji hb e)))).2.1
  cases f with
  |next=>obtain⟨q,Y,I7,n7⟩:=q7;exact again I7 n7
  |cont=>obtain⟨q,Y,I7,n7⟩:=q7;exact again I7 n7
  |brk=>obtain⟨q,Y,I7,q7⟩:=q7;exact⟨q,Y,I7.unpinned,q7⟩
  |ret v=>obtain⟨x7,q,Y,I7,r7,q7⟩:=q7;exact⟨x7,q,Y,I7.unpinned,r7,q7⟩
end
theorem ZeY {K:ab}{a:Addr}{xs:List V}{g:TG}{tb:TS}{D:Xc}{σ:St}{H:Hp}(Pv:Nat->St->Hp->Prop)(h0:Pv 0 σ H)(hl:∀i σ H,i<=xs.length->Pv i σ H->WM K H a xs)
  (hs:∀i x σ H,xs[i]?=some x->Pv i σ H->g x σ H fun j U=>tb {D with nx:=Pv (i+1),ct:=Pv (i+1),bk:=D.nx} j U) (hd:∀ σ H,Pv xs.length σ H->D.nx σ H) :
  ∃W:Nat->Nat->St->Hp->Prop,(∃m,W 0 m σ H)/\∀i m σ H,W i m σ H->
   ((Itt K a).stop i H/\D.nx σ H)\/((Itt K a).go i H/\∃N:St->Hp->Prop,(∀ J M,N J M->∃Y,Y<m/\W (i+1) Y J M)/\∀x M,(Itt K a).yld i H x M->g x σ M fun j U=>tb {D with nx:=N,ct:=N,bk:=D.nx} j U):=by
 refine⟨fun i m σ H=>m=xs.length-i/\i<=xs.length/\Pv i σ H,⟨xs.length,by simp,aX _,h0⟩,?_⟩;rintro i m σ H ⟨rfl,hi,p⟩;have q:=hl i σ H hi p;by_cases O:i<xs.length
 ·refine .inr ⟨⟨xs,xs[i],q,by simp[O]⟩,Pv (i+1),fun J M p'=>⟨xs.length-(i+1),by omega,rfl,O,p'⟩,fun x M y=>?_⟩
  obtain⟨e,y⟩:=y;subst e;exact hs i x σ _ (y xs q) p
 ·have e:i=xs.length:=by omega
  subst e;exact .inl ⟨⟨xs,q,Zq _⟩,hd σ H p⟩
theorem Wf {lo:Int}{n:Nat}{g:TG}{tb:TS}{D:Xc}{σ:St}{H:Hp}(Pv:Nat->St->Hp->Prop)(h0:Pv 0 σ H)
  (Y:∀i σ H,i<n->Pv i σ H->g (.int (lo+i)) σ H fun j O=>tb {D with nx:=Pv (i+1),ct:=Pv (i+1),bk:=D.nx} j O) (hd:∀ σ H,Pv n σ H->D.nx σ H) :
  ∃W:Nat->Nat->St->Hp->Prop,(∃m,W 0 m σ H)/\∀i m σ H,W i m σ H->
   ((Itr lo n).stop i H/\D.nx σ H)\/((Itr lo n).go i H/\∃N:St->Hp->Prop,(∀ q J,N q J->∃U,U<m/\W (i+1) U q J)/\∀x J,(Itr lo n).yld i H x J->g x σ J fun j O=>tb {D with nx:=N,ct:=N,bk:=D.nx} j O):=by
 refine⟨fun i m σ H=>m=n-i/\i<=n/\Pv i σ H,⟨n,by simp,aX _,h0⟩,?_⟩;rintro i m σ H ⟨rfl,hi,p⟩;by_cases M:i<n
 ·refine .inr ⟨M,Pv (i+1),fun q J p'=>⟨n-(i+1),by omega,rfl,M,p'⟩,fun x J y=>?_⟩
  obtain⟨e,y⟩:=y;subst e y;exact Y i σ _ M p
 ·have e:i=n:=by omega
  subst e;exact .inl ⟨Zq _,hd σ H p⟩
noncomputable abbrev R2:=V->V->Hp->VK->Prop
noncomputable def Xb (X:Cx)(f:Value->Value->Sem Value)(r:R2):Prop:=
 ∀(j:List (Addr×Obj)) (s:Shared) (q:St) (H:Hp) (x y:V) (v u:Value) (Q:VK),Inv X j q H s->RelV x v->RelV y u->r x y H Q->
  wpAny (model X.prog X.w) X.A (f v u) (EP X j q Q) X.xe s
noncomputable def UnR (X:Cx)(f:Value->Sem Value)(r:V->Hp->VK->Prop):Prop:=
 ∀(j:List (Addr×Obj)) (s:Shared) (q:St) (H:Hp) (x:V) (v:Value) (Q:VK),Inv X j q H s->RelV x v->r x H Q->
  wpAny (model X.prog X.w) X.A (f v) (EP X j q Q) X.xe s
noncomputable def Yo (X:Cx)(f:Value)(r:List V->Hp->VK->Prop):Prop:=
 ∀(j:List (Addr×Obj)) (s:Shared) (q:St) (H:Hp) (J:List V) (M:List Value) (Q:VK),Inv X j q H s->ZK J M->r J H Q->
  wpAny (model X.prog X.w) X.A (call f M) (EP X j q Q) X.xe s
noncomputable def tOp (r:R2)(q tb:TE):TE:=fun j H Q=>q j H fun x J=>tb j J fun y M=>r x y M Q
noncomputable def tUn (r:V->Hp->VK->Prop)(j:TE):TE:=fun q H Q=>j q H fun x J=>r x J Q
noncomputable def rI (C:Int->Int->Prop)(g:Int->Int->V):R2:=fun x y H Q=>∃i j,x=.int i/\y=.int j/\C i j/\Q (g i j) H
noncomputable def rI0 (g:Int->Int->V):R2:=fun x y H Q=>∃i j,x=.int i/\y=.int j/\Q (g i j) H
noncomputable def rU (g:Int->V):V->Hp->VK->Prop:=fun x H Q=>∃i,x=.int i/\Q (g i) H
section
variable {X:Cx}{a b c:Expr}{ta tb tc:TE}{pos:Pos}
theorem ZmZ (Y:PE X a ta)(hb:PE X b tb){j:List (Addr×Obj)}{s:Shared}{σ:St}{H:Hp}{R:V->V->Hp->Prop}(I:Inv X j σ H s)
  (h:ta σ H fun x U=>tb σ U fun y q=>R x y q) {Q:Value->Shared->Prop}{f:Value->Value->Sem Value}
  (hf:∀v u O x y q,Inv X j σ q O->RelV x v->RelV y u->R x y q->wpAny (model X.prog X.w) X.A (f v u) Q X.xe O) :
  wpAny (model X.prog X.w) X.A (eval a X.env) (fun v J=>wpAny (model X.prog X.w) X.A (eval b X.env) (fun u M=>wpAny (model X.prog X.w) X.A (f v u) Q X.xe M) X.xe J) X.xe s:=by
 refine Yi (Y j s σ H _ I h) fun v s1 ⟨x,U,I1,r1,q1⟩=>?_;refine Yi (hb j s1 σ U _ I1 q1) fun u O ⟨y,q,I2,r2,q2⟩=>?_;exact hf v u O x y q I2 r1 r2 q2
theorem Zz {op:lE}{r:R2}(J:Xb X (binaryOp op) r)(M:PE X a ta)(hb:PE X b tb):PE X (.BinOp a op b pos) (tOp r ta tb):=by
 intro j s O H Q I h;exact wpAny_BinOp (ZmZ M hb I h fun v u U x y Y I2 rx ry q=>J j U O Y x y v u Q I2 rx ry q)
theorem J0 {op:UnaryOp}{r:V->Hp->VK->Prop}(J:UnR X (unaryOp op) r)(M:PE X a ta):PE X (.UnaryOp op a pos) (tUn r ta):=by
 intro j s q H Q I h;exact UnaryOp_ (Yi (M j s q H _ I h) fun v O ⟨x,U,Y,r1,q1⟩=>J j O q U x v Q Y r1 q1)
theorem opI {f:Value->Value->Sem Value}{C:Int->Int->Prop}{g:Int->Int->Int}
  (rule:∀(i j:Int) (t u:Tok) (s:Shared) (Q:Value->Shared->Prop) (E:Value->Shared->Prop),C i j->Q (.int (g i j) s.toks) {s with toks:=s.toks+1}->wpAny (model X.prog X.w) X.A (f (.int i t) (.int j u)) Q E s) :
  Xb X f (rI C fun i j=>.int (g i j)):=by
 intro J s σ H x y v u Q I M O h;obtain⟨i,j,rfl,rfl,U,q⟩:=h;obtain⟨t,rfl⟩:=M;obtain⟨Y,rfl⟩:=O;exact rule i j t Y s _ _ U ⟨.int (g i j),H,I.tok _,⟨_,rfl⟩,q⟩
theorem Zoi {f:Value->Value->Sem Value}{g:Int->Int->Int}
  (rule:∀(i j:Int) (t u:Tok) (s:Shared) (Q:Value->Shared->Prop) (E:Value->Shared->Prop),Q (.int (g i j) s.toks) {s with toks:=s.toks+1}->wpAny (model X.prog X.w) X.A (f (.int i t) (.int j u)) Q E s) :
  Xb X f (rI0 fun i j=>.int (g i j)):=by
 intro J s Y H x y v u Q I M O h;obtain⟨i,j,rfl,rfl,q⟩:=h;obtain⟨t,rfl⟩:=M;obtain⟨U,rfl⟩:=O;exact rule i j t U s _ _ ⟨.int (g i j),H,I.tok _,⟨_,rfl⟩,q⟩
theorem Zl8 {f:Value->Value->Sem Value}{g:Int->Int->Bool}
  (rule:∀(i j:Int) (t u:Tok) (s:Shared) (Q:Value->Shared->Prop) (E:Value->Shared->Prop),Q (.bool (g i j)) s->wpAny (model X.prog X.w) X.A (f (.int i t) (.int j u)) Q E s) :
  Xb X f (rI0 fun i j=>.bl (g i j)):=by
 intro J s Y H x y v u Q I M O h;obtain⟨i,j,rfl,rfl,q⟩:=h;obtain⟨t,rfl⟩:=M;obtain⟨U,rfl⟩:=O;exact rule i j t U s _ _ ⟨.bl (g i j),H,I,rfl,q⟩
noncomputable def Zqp (i j:Int):Prop:=0<j/\j<1073741824
noncomputable def Zqo (i j:Int):Prop:=0<=j/\j<=1000000/\i.natAbs<2 ^ 64
noncomputable def Znh (i j:Int):Prop:=(-(2 ^ 64)<i/\i<2 ^ 64)\/(-(2 ^ 64)<j/\j<2 ^ 64)
theorem Znh.ok {i j:Int}(h:Znh i j):IntMulOk i j:=by
 rcases h with ⟨q,J⟩|⟨q,J⟩
 ·exact .of_left (intBits_le_64 q J)
 ·exact .of_right (intBits_le_64 q J)
theorem YN:Xb X (binaryOp .Add) (rI0 fun i j=>.int (i+j)):=Zoi fun _ _ _ _ _ _ _ q=>add_int q
theorem YU:Xb X (binaryOp .Sub) (rI0 fun i j=>.int (i-j)):=Zoi fun _ _ _ _ _ _ _ q=>sub_int q
theorem ZV:Xb X (binaryOp .Mult) (rI Znh fun i j=>.int (i*j)):=opI fun _ _ _ _ _ _ _ J q=>mul_int q J.ok
theorem WO:Xb X (binaryOp .FloorDiv) (rI Zqp fun i j=>.int (i / j)):=opI fun i j _ _ _ _ _ J q=>by
 have M:(0:Int)<j:=J.1;have O:j<1073741824:=J.2;exact floordiv_int (by omega) (by rw[Int.fdiv_eq_ediv_of_nonneg i (by omega)];exact q) (.inl (kf (by omega)))
theorem Z5:Xb X (binaryOp .Mod) (rI (fun _ j=>0<j) fun i j=>.int (i % j)):=opI fun i j _ _ _ _ _ J q=>by
 have M:(0:Int)<j:=J;exact mod_int' (by omega) (by rw[Int.fmod_eq_emod_of_nonneg i (by omega)];exact q)
theorem Zl6:Xb X (binaryOp .Pow) (rI Zqo fun i j=>.int (i ^ j.toNat)):=opI fun _ _ _ _ _ _ _ J q=>pow_int_small J.1 J.2.1 J.2.2 q
theorem unI {f:Value->Sem Value}{g:Int->Int}
  (rule:∀(i:Int) (t:Tok) (s:Shared) (Q:Value->Shared->Prop) (E:Value->Shared->Prop),Q (.int (g i) s.toks) {s with toks:=s.toks+1}->wpAny (model X.prog X.w) X.A (f (.int i t)) Q E s) :
  UnR X f (rU fun i=>.int (g i)):=by
 intro j s M H x v Q I J h;obtain⟨i,rfl,q⟩:=h;obtain⟨t,rfl⟩:=J;exact rule i t s _ _ ⟨.int (g i),H,I.tok _,⟨_,rfl⟩,q⟩
theorem WS:UnR X (unaryOp .USub) (rU fun i=>.int (-i)):=unI fun _ _ _ _ _ q=>neg_int q
end
noncomputable def ZnO:V->V->Bool
 | .non,.non=>true | .non,.int _=>true | .int _,.non=>true | .non,.bl _=>true | .bl _,.non=>true | .non,.str _=>true | .str _,.non=>true
 | .int _,.int _=>true | .bl _,.bl _=>true | .str _,.str _=>true | .byt _,.byt _=>true
 | .int _,.str _=>true | .str _,.int _=>true | .bl _,.str _=>true | .str _,.bl _=>true
 |_,_=>false
noncomputable def rEq:R2:=fun x y H Q=>ZnO x y=true/\Q (.bl (decide (x=y))) H
noncomputable def rNe:R2:=fun x y H Q=>ZnO x y=true/\Q (.bl (!decide (x=y))) H
theorem Yg {i j:Int}:decide (V.int i=V.int j)=(i == j):=by
 rw[c7];simp
theorem Zir {i j:Bool}:decide (V.bl i=V.bl j)=(i == j):=by
 rw[c7];simp
theorem Ze4 {i j:Str}:decide (V.str i=V.str j)=(i == j):=by
 rw[c7];simp
theorem Ze5 {i j:Array UInt8}:decide (V.byt i=V.byt j)=(i.toList == j.toList):=by
 rw[c7];cases i;cases j;simp
section
variable {X:Cx}{a b c:Expr}{ta tb tc:TE}{pos:Pos}
theorem ZX {j:List (Addr×Obj)}{σ:St}{H:Hp}{s:Shared}{Q:VK}{k J:Bool}(I:Inv X j σ H s)(q:Q (.bl k) H)(e:k=J):EP X j σ Q (.bool J) s:=by
 subst e;exact⟨.bl k,H,I,rfl,q⟩
theorem Zca:Xb X (compareOp .Eq) rEq:=by
 intro Y s σ H x y v u Q I U J h;obtain⟨O,q⟩:=h;cases x with
 |non=>
  cases U;cases y with
  |non=>cases J;exact PySem.EqNone.eq_none_none (ZX I q (by simp))
  |bl j=>cases J;exact PySem.EqNone.eq_none_bool (ZX I q (by simp))
  |int j=>obtain⟨M,rfl⟩:=J;exact PySem.EqNone.eq_none_int (ZX I q (by simp))
  |str j=>obtain⟨M,rfl⟩:=J;exact PySem.EqNone.eq_none_str (ZX I q (by simp))
  |_=>exact absurd (show false=true from O) aG
 |bl i=>
  cases U;cases y with
  |non=>cases J;exact PySem.EqNone.eq_bool_none (ZX I q (by simp))
  |bl j=>cases J;exact eq_bool (ZX I q Zir)
  |str j=>obtain⟨M,rfl⟩:=J;exact PySem.EqMixed.eq_bool_str (ZX I q (by simp))
  |_=>exact absurd (show false=true from O) aG
 |int i=>
  obtain⟨t,rfl⟩:=U;cases y with
  |non=>cases J;exact PySem.EqNone.eq_int_none (ZX I q (by simp))
  |int j=>obtain⟨M,rfl⟩:=J;exact eq_int (ZX I q Yg)
  |str j=>obtain⟨M,rfl⟩:=J;exact PySem.EqMixed.eq_int_str (ZX I q (by simp))
  |_=>exact absurd (show false=true from O) aG
 |str i=>
  obtain⟨t,rfl⟩:=U;cases y with
  |non=>cases J;exact PySem.EqNone.eq_str_none (ZX I q (by simp))
  |bl j=>cases J;exact PySem.EqMixed.eq_str_bool (ZX I q (by simp))
  |int j=>obtain⟨M,rfl⟩:=J;exact PySem.EqMixed.eq_str_int (ZX I q (by simp))
  |str j=>obtain⟨M,rfl⟩:=J;exact eq_str (ZX I q Ze4)
  |_=>exact absurd (show false=true from O) aG
 |byt i=>
  obtain⟨t,rfl⟩:=U;cases y with
  |byt j=>obtain⟨M,rfl⟩:=J;exact PySem.W.eq_bytes (ZX I q Ze5)
  |_=>exact absurd (show false=true from O) aG
 |_=>cases y <;> exact absurd (show false=true from O) aG
theorem Jo:Xb X (compareOp .NotEq) rNe:=by
 intro Y s σ H x y v u Q I U J h;obtain⟨O,q⟩:=h;cases x with
 |non=>
  cases U;cases y with
  |non=>cases J;exact PySem.EqNone.ne_none_none (ZX I q (by simp))
  |bl j=>cases J;exact PySem.EqNone.ne_none_bool (ZX I q (by simp))
  |int j=>obtain⟨M,rfl⟩:=J;exact PySem.EqNone.ne_none_int (ZX I q (by simp))
  |str j=>obtain⟨M,rfl⟩:=J;exact PySem.EqNone.ne_none_str (ZX I q (by simp))
  |_=>exact absurd (show false=true from O) aG
 |bl i=>
  cases U;cases y with
  |non=>cases J;exact PySem.EqNone.ne_bool_none (ZX I q (by simp))
  |bl j=>cases J;exact ne_bool (ZX I q (congrArg not Zir))
  |str j=>obtain⟨M,rfl⟩:=J;exact PySem.EqMixed.ne_bool_str (ZX I q (by simp))
  |_=>exact absurd (show false=true from O) aG
 |int i=>
  obtain⟨t,rfl⟩:=U;cases y with
  |non=>cases J;exact PySem.EqNone.ne_int_none (ZX I q (by simp))
  |int j=>obtain⟨M,rfl⟩:=J;exact ne_int (ZX I q (congrArg not Yg))
  |str j=>obtain⟨M,rfl⟩:=J;exact PySem.EqMixed.ne_int_str (ZX I q (by simp))
  |_=>exact absurd (show false=true from O) aG
 |str i=>
  obtain⟨t,rfl⟩:=U;cases y with
  |non=>cases J;exact PySem.EqNone.ne_str_none (ZX I q (by simp))
  |bl j=>cases J;exact PySem.EqMixed.ne_str_bool (ZX I q (by simp))
  |int j=>obtain⟨M,rfl⟩:=J;exact PySem.EqMixed.ne_str_int (ZX I q (by simp))
  |str j=>obtain⟨M,rfl⟩:=J;exact ne_str (ZX I q (congrArg not Ze4))
  |_=>exact absurd (show false=true from O) aG
 |byt i=>
  obtain⟨t,rfl⟩:=U;cases y with
  |byt j=>obtain⟨M,rfl⟩:=J;exact PySem.W.ne_bytes (ZX I q (congrArg not Ze5))
  |_=>exact absurd (show false=true from O) aG
 |_=>cases y <;> exact absurd (show false=true from O) aG
theorem ZeF:Xb X (compareOp .Lt) (rI0 fun i j=>.bl (decide (i<j))):=Zl8 fun _ _ _ _ _ _ _ q=>lt_int q
theorem Zoh:Xb X (compareOp .LtE) (rI0 fun i j=>.bl (decide (i<=j))):=Zl8 fun _ _ _ _ _ _ _ q=>le_int q
theorem Zhn:Xb X (compareOp .Gt) (rI0 fun i j=>.bl (decide (j<i))):=Zl8 fun _ _ _ _ _ _ _ q=>gt_int q
theorem ZW (b:Expr){op:CmpOp}(h:op≠.In:=by decide)(j:op≠.NotIn:=by decide):behindInMarks op b=false:=by
 have q:(op == CmpOp.In)=false:=by cases op <;> first|rfl|exact absurd rfl h
 have J:(op == CmpOp.NotIn)=false:=by cases op <;> first|rfl|exact absurd rfl j
 cases b <;> simp[behindInMarks,q,J]
theorem Xy {op:CmpOp}{r:R2}(J:Xb X (compareOp op) r)(M:PE X a ta)(hb:PE X b tb)(O:behindInMarks op b=false):PE X (.Compare a [op] [b] pos) (tOp r ta tb):=by
 intro j s U H Q I h;exact wpAny_Compare1 (ZmZ M hb I h fun v u Y x y H2 I2 rx ry q=>J j Y U H2 x y v u Q I2 rx ry q) O
noncomputable def ZnE (t:TE):TT:=fun j H Q=>t j H fun x q=>∃k,x=.bl k/\Q k q
theorem ZP {op:CmpOp}{r:R2}(J:Xb X (compareOp op) r)(M:PE X a ta)(hb:PE X b tb)(O:behindInMarks op b=false):PT X (.Compare a [op] [b] pos) (ZnE (tOp r ta tb)):=by
 intro j s q H Q I h;refine mZ (Yi (M j s q H _ I h) fun v U ⟨x,Y,I1,r1,q1⟩=>Yi (hb j U q Y _ I1 q1) fun u s2 ⟨y,H2,I2,r2,q2⟩=>
  Yi (J j s2 q H2 x y v u _ I2 r1 r2 q2) fun c s3 ⟨z,H3,I3,r3,k,e,q3⟩=>?_) O
 subst e;cases r3;exact g9 ⟨H3,I3,q3⟩
theorem X4:(sizeLine:Nat)<2 ^ 63:=by rw[fZ];decide
theorem vals1 {x:V}{us:List Value}(r:ZK [x] us):∃u,us=[u]/\RelV x u:=by
 cases r with
 |cons r1 j=>cases j;exact⟨_,rfl,r1⟩
theorem vals2 {x y:V}{us:List Value}(r:ZK [x,y] us):∃u j,us=[u,j]/\RelV x u/\RelV y j:=by
 cases r with
 |cons r1 q=>
  cases q with
  |cons J M=>cases M;exact⟨_,_,rfl,r1,J⟩
theorem Zge (O:X.calm=true):Yo X (.builtin "max") (fun xs H Q=>∃i j,xs=[.int i,.int j]/\Q (.int (if j > i then j else i)) H):=by
 intro M s U H xs Y Q I r h;obtain⟨i,j,rfl,q⟩:=h;obtain⟨u,w',rfl,⟨t,rfl⟩,⟨t',rfl⟩⟩:=vals2 r;refine max_two_ints (I.ok.hd O) fun h' tk k=>⟨_,H,I.kept k,?_,q⟩;by_cases J:j > i
 ·rw[if_pos J,if_pos J];exact⟨_,rfl⟩
 ·rw[if_neg J,if_neg J];exact⟨_,rfl⟩
end
structure Znd (h:Heap)(x dx C:Addr)(mA:Str->Option Value):Prop where
 obj:h.get? x=some (jc C dx)
 ns:h.Ns1 dx mA
 ne:dx≠x
theorem ZfK {h:Heap}{J:Addr}{M:Str->Option Value}(n:h.Ns1 J M):∃O,h.get? J=some O/\∀name,jx name O=some (M name):=by
 obtain⟨o,U,ep,Y,hd,hk,_,hm⟩:=n;refine⟨o,Y,fun name=>?_⟩;have e:=hm name;unfold nsFind findBy at e;rw[<-Array.find?_toList] at e;unfold jx;rw[hd];dsimp only;split
 ·rename_i y q
  rw[q] at e;exact congrArg some e
 ·rename_i q
  rw[q] at e;have a:U.toList.any (·.refKey)=false:=by
   rw[gB];intro y hy;obtain⟨z,t,j⟩:=hk y (Array.mem_toList_iff.mp hy);simp[DictEntry.refKey,j]
  have a':¬U.toList.any (·.refKey)=true:=by rw[a];exact aG
  rw[if_neg a'];exact congrArg some e
theorem Znd.look {h:Heap}{x q C:Addr}{J:Str->Option Value}(I:Znd h x q C J):∃j,PySem.W.InstAt h x (jc C q) C (some j)/\∀name,jx name j=some (J name):=
 let ⟨j,M,O⟩:=ZfK I.ns
 ⟨j,⟨I.obj,rfl,rfl,M⟩,O⟩
section
variable {prog:Program}{w:World}{A:Around}{E:Value->Shared->Prop}{s:Shared}{K:ab}{x dx C f:Addr}{mA:Str->Option Value}{name:Str}{v:Value}
end
theorem UK.some_of {v:V}{o:Option Value}(r:UK (some v) o):∃u,o=some u/\RelV v u:=by
 cases o with
 |none=>exact (show False from r).elim
 |some u=>exact⟨u,rfl,r⟩
section
variable {P:Program}{w:World}{H H':Hp}{h h':Heap}{a C dx:Addr}{fs fs':List (Str×V)}
theorem Zj8 (J:Xd P w H h)(e:H a=some (.ins C dx fs)):∃j,Znd h a dx C j/\(∀f,UK (fs.lookup f) (j f))/\PySem.Within j (fs.map (·.1))/\fs.length<=1000/\H dx=some (.own a):=by
 obtain⟨d,z,ne,M,j,n,r,q⟩:=(show Z6 P w H h a (.ins C dx fs) from J a _ e);exact⟨j,⟨M,n,ne⟩,r,q,z,d⟩
end
structure Cls (K:ab)(C:Addr):Prop where
 pg:ma K C Str.empty=true
 hd:PySem.W.hasDictIn K C=true
 po:PySem.W.plainOver K C=true
 sa:mO K (.ref C) "__setattr__"=some (some (.builtin "object.__setattr__"))
theorem Cls.get {K:ab}{C:Addr}(c:Cls K C)(f:Str):ma K C f=true:=c.pg
section
variable {X:Cx}{pins:List (Addr×Obj)}{σ:St}{H:Hp}{s:Shared}{a C dx:Addr}{fs:List (Str×V)}{f:Str}{v:V}{A:Around}{E:Value->Shared->Prop}
end
section
variable {X:Cx}{o e value:Expr}{f:Str}{pos pos' tpos:Pos}{ta tv:TE}
end
section
variable {X:Cx}{pins:List (Addr×Obj)}{σ:St}{H:Hp}{s:Shared}{A:Around}{E:Value->Shared->Prop}{Q:Value->Shared->Prop}{c:Value}{b:Bool}
inductive XM (K:ab) (H:Hp):V->Value->Prop where
 |non:XM K H .non (.type "NoneType")
 |bl (x:Bool):XM K H (.bl x) (.type "bool")
 |int (i:Int):XM K H (.int i) (.type "int")
 |str (x:Str):XM K H (.str x) (.type "str")
 |flt (x:UInt64):XM K H (.flt x) (.type "float")
 |lst {a:Addr}{xs:List V} (e:H a=some (.lst xs)):XM K H (.ref a) (.type "list")
 |frz {a:Addr}{o:Obj}{xs:List V} (e:H a=some (.frz o (.lst xs))):XM K H (.ref a) (.type "list")
 |tup {a:Addr}{xs:List V} (e:H a=some (.tup xs)):XM K H (.ref a) (.type "tuple")
 |dK {a:Addr}{kvs:List (Yz×V)} (e:H a=some (.dK kvs)):XM K H (.ref a) (.type "dict")
 |dT {a:Addr}{kvs:List (List Yz×V)} (e:H a=some (.dT kvs)):XM K H (.ref a) (.type "dict")
 |ins {a C dx:Addr}{fs:List (Str×V)} (e:H a=some (.ins C dx fs)) (cl:Cls K C) (ha:mO K (.ref C) "__class__"=some (some (.builtin "object.__class__")))
   (hn:PySem.W.specialIn K (.builtin "object.__class__") "__get__"=some (some (.builtin "getset_descriptor.__get__"))) (htk:PySem.W.takesIn K (.builtin "object.__class__")=some true)
   (hm:PySem.W.mroIn K C (.type "object")=some true):XM K H (.ref a) (.ref C)
theorem ZfR {x:V}{u t:Value}(I:Inv X pins σ H s)(j:RelV x u)(ty:XM X.K H x t)(e:jy X.K t c=some b)(h:∀tk,Q (.bool b) {s with toks:=tk}) :
  wpAny (model X.prog X.w) A (call (.builtin "isinstance") [u,c]) Q E s:=by
 cases ty with
 |non=>cases (show u=bT from j);exact bV PySem.W.kitx_none I.kIn di e (fun z=>nomatch z) h
 |bl y=>cases (show u=gU y from j);exact bV PySem.W.kitx_bool I.kIn di e (fun z=>nomatch z) h
 |int i=>obtain⟨t,q⟩:=(show ∃t,u=gM i t from j);cases q;exact bV PySem.W.kitx_int I.kIn di e (fun z=>nomatch z) h
 |str y=>obtain⟨t,q⟩:=(show ∃t,u=ko y t from j);cases q;exact bV PySem.W.kitx_str I.kIn di e (fun z=>nomatch z) h
 |flt y=>obtain⟨t,q⟩:=(show ∃t,u=Value.float y t from j);cases q;exact bV PySem.W.kitx_float I.kIn di e (fun z=>nomatch z) h
 | @lst a xs M=>
  cases (show u=aI a from j);obtain⟨_,_,n,_,U⟩:=(show Z6 X.prog X.w H s.heap a (.lst xs) from I.hok a _ M);exact bV lP I.kIn ⟨_,U,rfl⟩ e (fun z=>nomatch z) h
 | @frz a ob xs M=>
  cases (show u=aI a from j);obtain⟨_,_,_,n,_,U⟩:=(show Z6 X.prog X.w H s.heap a (.frz ob (.lst xs)) from I.hok a _ M);exact bV lP I.kIn ⟨_,U,rfl⟩ e (fun z=>nomatch z) h
 | @tup a xs M=>
  cases (show u=aI a from j);obtain⟨_,_,_,p⟩:=(show Z6 X.prog X.w H s.heap a (.tup xs) from I.hok a _ M);obtain⟨o,U,h2,_⟩:=p;exact bV PySem.W.kitx_tuple I.kIn ⟨o,U,h2⟩ e (fun z=>nomatch z) h
 | @dK a Y M=>
  cases (show u=aI a from j);obtain⟨_,_,vs,_,p⟩:=(show Z6 X.prog X.w H s.heap a (.dK Y) from I.hok a _ M);obtain⟨o,es,ep,U,h2,_⟩:=p;exact bV lQ I.kIn ⟨o,U,h2.1⟩ e (fun z=>nomatch z) h
 | @dT a Y M=>
  cases (show u=aI a from j);obtain⟨_,_,xs,_,o,es,ep,U,h2,_⟩:=(show Z6 X.prog X.w H s.heap a (.dT Y) from I.hok a _ M);exact bV lQ I.kIn ⟨o,U,h2.1⟩ e (fun z=>nomatch z) h
 | @ins a C dx fs M cl ha hn n4 hm=>
  cases (show u=aI a from j);obtain⟨mA,O,_⟩:=Zj8 I.hok M;obtain⟨od,J,_⟩:=O.look;exact bV (PySem.W.kitx_own (cl.get _) cl.hd ha hn n4 hm) I.kIn J e (fun z=>nomatch z) h
end
structure Jc (k:Nat)(A:Around):Prop where
 hd:A.handled=none
 dp:A.depth+3*k+5<recursionLimit
 un:A.units+16*k+200<cLine
 gd:A.guards=some []
theorem Jc.mono {j k:Nat}{A:Around}(r:Jc k A)(h:j<=k):Jc j A:=⟨r.hd,by have:=r.dp;omega,by have:=r.un;omega,r.gd⟩
theorem Jc.deeper {k:Nat}{A:Around}(r:Jc (k+1) A)(env:Env):Jc k (A.deeper env):=
 ⟨r.hd,by have:=r.dp;show A.depth+1+3*k+5<_;omega,by have:=r.un;show A.units+3+16*k+200<_;omega,r.gd⟩
theorem Jc.depth {k:Nat}{A:Around}(r:Jc k A):A.depth<recursionLimit:=by have:=r.dp;omega
theorem Jc.units {k:Nat}{A:Around}(r:Jc k A):A.units+64<cLine:=by have:=r.un;omega
noncomputable def ZiW:TA:=fun _ H Q=>Q [] H
noncomputable def ZbH (q:TE)(J:TA):TA:=fun j H Q=>q j H fun x M=>J j M fun O U=>Q (x::O) U
section
variable {X:Cx}{e:Expr}{es:List Expr}{te:TE}{t:TA}{pos:Pos}
theorem Zs:PA X [] ZiW:=fun _ _ _ _ H Q I h=>mD ⟨[],H,I,.nil,h⟩
theorem Zjw (J:PE X e te)(M:PA X es t)(O:starEach (e::es) X.env=(false,eval e X.env)::starEach es X.env:=by rfl):PA X (e::es) (ZbH te t):=by
 intro pos j s q H Q I h;rw[O];show wpAny _ _ (spliced ((false,eval e X.env)::backTo pos (starEach es X.env))) _ _ s;refine mi (Yi (J j s q H _ I h) fun u U ⟨x,Y,I1,r1,q1⟩=>?_);exact Yi (M pos j U q Y _ I1 q1) fun us s2 ⟨xs,H2,I2,r2,q2⟩=>⟨x::xs,H2,I2,.cons r1 r2,q2⟩
noncomputable def ZpC (t:TA):TE:=fun J H Q=>t J H fun j q=>j.length<=sizeLine/\∀p,q p=none->Q (.ref p) (upd q p (.tup j))
noncomputable def ZlB (t:TA):TE:=fun J H Q=>t J H fun j q=>j.length<=sizeLine/\∀p,q p=none->Q (.ref p) (upd q p (.lst j))
theorem ZaY {U}(h:PA X es t):PE X (.Tuple es U pos) (ZpC t):=by
 intro j s Y H Q I hq;refine wpAny_Tuple_spliced (Yi (h pos j s Y H _ I hq) fun us J ⟨xs,M,O,r,z,q⟩=>⟨by rw[<-r.length];exact z,?_⟩);have hf:M J.heap.objs.size=none:=O.hok.fresh (Zq _);refine⟨.ref J.heap.objs.size,upd M J.heap.objs.size (.tup xs),O.laid (t':=J.toks) (fun b u e=>Zn _ e) (Zq _) ?_,rfl,q _ hf⟩;exact⟨z,us,r,⟨_,Zo _ rfl,rfl,_,rfl⟩⟩
theorem ZS (h:PA X es t):PE X (.List es pos) (ZlB t):=by
 intro j s U H Q I Y;refine wpAny_List_spliced (Yi (h pos j s U H _ I Y) fun us J ⟨xs,M,O,r,z,q⟩=>⟨by rw[<-r.length];exact z,?_⟩);have hf:M J.heap.objs.size=none:=O.hok.fresh (Zq _);refine⟨.ref J.heap.objs.size,upd M J.heap.objs.size (.lst xs),O.laid (t':=J.toks) (fun b u e=>Zn _ e) (Zq _) ?_,rfl,q _ hf⟩;exact⟨z,us,0,r,Zo _ rfl⟩
end
noncomputable abbrev Sp:=List V->Hp->VK->XK->Prop
noncomputable abbrev CXT:=List Env->Hp->Shared->XK->Value->Shared->Prop
structure ZkF (P:Program)(w:World)(K:ab)(mg:Str->Option Value)(base:Heap)(A:Around)(outer:List Env)(s:Shared)(H:Hp):Prop where
 frames:A.frames=some outer
 mod:Mod K mg base
 bs:∀b o,base.get? b=some o->s.heap.get? b=some o/\H b=none
 bsz:base.objs.size<=s.heap.objs.size
 funs:s.heap.FunFrames base outer
 frf:∀b∈frs outer,H b=none
 hok:Xd P w H s.heap
 bare:iH s.gens
noncomputable def CE (outer:List Env)(P:Program)(w:World)(H:Hp)(s:Shared)(Q:VK)(u:Value)(s':Shared):Prop:=
 ∃v j,s'.os=s.os/\iH s'.gens/\Un (frs outer) [] H j s.heap s'.heap/\Xd P w j s'.heap/\RelV v u/\Q v j
noncomputable def CR (CX:CXT)(outer:List Env)(P:Program)(w:World)(H:Hp)(s:Shared)(Q:VK)(E:XK)(r:Result)(s':Shared):Prop:=
 match r with
 | .ok (.ret u)=>CE outer P w H s Q u s'
 | .ok _=>False
 | .error e=>CX outer H s E e s'
structure ZR (P:Program)(w:World)(K:ab)(mg:Str->Option Value)(base:Heap)(CX:CXT)(k:Nat)(f:Addr)(fd:FuncData)(ps:List Str)(sp:Sp):Prop where
 len:∀vs H Q E,sp vs H Q E->vs.length=ps.length
 run:∀(A:Around) (outer:List Env) (s:Shared) (H:Hp) (args:Args) (us:List Value) (vs:List V) (Q:VK) (E:XK),Jc k A->ZkF P w K mg base A outer s H->i3 s fd args (ps.zip us)->ZK vs us->sp vs H Q E->
  codeAny (model P w) A (.call (.ref f) args) (CR CX outer P w H s Q E) s
section
variable {X:Cx}{pins:List (Addr×Obj)}{σ:St}{H:Hp}{s s':Shared}
theorem Inv.env0 (I:Inv X pins σ H s):ZkF X.prog X.w X.K X.mg X.base X.A X.stack s H:=
 ⟨I.ok.frames,I.ok.mod,I.bs,a5 I.ok.bsz I.sz,I.stack,I.stkFree,I.hok,I.bare⟩
theorem Inv.after {Q:VK}{u:Value}(I:Inv X pins σ H s)(h:CE X.stack X.prog X.w H s Q u s'):EP X pins σ Q u s':=by
 obtain⟨v,J,os,bare,un,hok,r,q⟩:=h;obtain⟨M,g,d,t,j⟩:=s';obtain rfl:j=s.os:=os;exact⟨v,J,I.call (h':=M) (g':=g) (d':=d) (t':=t) (ch:=[]) un hok bare (fun b z=>absurd z (by simp)),r,q⟩
end
noncomputable def ZkK (sp:Sp)(j:List V)(E:XK)(t:TA):TE:=fun q H Q=>t q H fun J M=>sp (J++j) M Q E
noncomputable def Binds (K:ab)(J:FuncData)(q:List Str)(ds:List Value):Prop:=
 ∀(s:Shared) (j:List Value),K.In s.heap->(j++ds).length=q.length->i3 s J ⟨j,[]⟩ (q.zip (j++ds))
theorem Binds.all {K:ab}{fd:FuncData}{j:List Str}(h:∀us:List Value,us.length=j.length->bindArgs fd ⟨us,[]⟩=pure (j.zip us)):Binds K fd j []:=fun s us _ q=>by
 rw[fW] at q ⊢;exact .of_eq (h us q)
noncomputable def Zbv (CX:CXT)(X:Cx)(E:XK):Prop:=∀(j:List (Addr×Obj)) (J:St) (H:Hp) (s:Shared) (e:Value) (q:Shared),Inv X j J H s->CX X.stack H s E e q->X.xe e q
section
variable {X:Cx}{CX:CXT}{k:Nat}{f C:Addr}{fd:FuncData}{ps:List Str}{sp:Sp}{dvs:List V}{ds:List Value}{E:XK}{x m:Str}{p pos apos:Pos}{e o:Expr}{es:List Expr}{ta:TE}{t:TA}
theorem ZlJ {j:List (Addr×Obj)}{σ:St}{H:Hp}{s:Shared}{Q:VK}{us:List Value}{vs:List V}(F:ZR X.prog X.w X.K X.mg X.base CX k f fd ps sp)(M:Jc k X.A)(hb:Binds X.K fd ps ds)(O:ZK dvs ds)(U:Zbv CX X E)
  (I:Inv X j σ H s) (r:ZK vs us) (h:sp (vs++dvs) H Q E):wpAny (model X.prog X.w) X.A (call (.ref f) us) (EP X j σ Q) X.xe s:=by
 have J:ZK (vs++dvs) (us++ds):=r.append O;have Y:(us++ds).length=ps.length:=by rw[<-J.length];exact F.len _ _ _ _ h
 refine wpAny_call (fO (F.run X.A X.stack s H ⟨us,[]⟩ (us++ds) (vs++dvs) Q E M I.env0 (hb s us I.kIn Y) J h) fun r s' q=>?_);cases r with
 |error e=>exact U j σ H s e s' I q
 |ok fl=>
  cases fl with
  |ret u=>exact I.after q
  |next=>exact eA q
  |brk=>exact eA q
  |cont=>exact eA q
theorem Zjr (F:ZR X.prog X.w X.K X.mg X.base CX k f fd ps sp)(Y:Jc k X.A)(hg:Gl X x)(hm:X.mg x=some (.ref f))(hk:dY X.K (.ref f)=true)(hb:Binds X.K fd ps ds)(hd:ZK dvs ds)(hx:Zbv CX X E)
  (ha:PA X (e::es) t) (J:(x == ("__debug__":Str))=false:=by decide) (he:starEach (e::es) X.env=(false,eval e X.env)::starEach es X.env:=by rfl) (M:(backTo pos (starEach es X.env)).any (·.1)=false:=by rfl) :
  PE X (.Call (.Name x p) (e::es) [] pos) (ZkK sp dvs E t):=by
 intro j s σ H Q I h;refine ju (Zj3 I hg hm ?_ J);refine PySem.W.callWith_K (h₀:=X.base) I.ok.mod.kin hk (Yi (ha pos j s σ H _ I h) fun us s1 ⟨vs,H1,U,r,q⟩=>⟨U.kIn,?_⟩) he M;exact ZlJ F Y hb hd hx U r q
end
section
variable {X:Cx}{CX:CXT}{k:Nat}{f C:Addr}{fd:FuncData}{ps ks:List Str}{sp:Sp}{E:XK}{x m:Str}{p pos apos kpos:Pos}{e o:Expr}{es:List Expr}{kws:List Keyword}{te ta:TE}{t tk:TA}{nm:Option Str}
variable {g:List Value->List Value->List Value}{gV:List V->List V->List V}
end
structure VM (N P:List Str)(sc:cZ):Prop where
 kind:sc.kind=.function
 co:sc.isCoroutine=false
 gen:sc.isGenerator=false
 nd:N.Nodup
 pre:N.take P.length=P
 par:∀x∈P,sc.names.lookup x=some .local\/sc.names.lookup x=some .cell
 nofree:∀y∈sc.names,y.2≠.free
theorem FS {N P:List Str}{j:cZ}(a:j.kind=.function:=by rfl)(b:j.isCoroutine=false:=by rfl)(c:j.isGenerator=false:=by rfl)(d:N.Nodup:=by decide +kernel)(e:N.take P.length=P:=by rfl)(f:∀x∈P,j.names.lookup x=some .local\/j.names.lookup x=some .cell:=by decide +kernel)(g:∀y∈j.names,y.2≠.free:=by decide +kernel):VM N P j:=⟨a,b,c,d,e,f,g⟩
theorem bd1 {α:Type}{f g:List Value->α}(h:∀a,f [a]=g [a])(j:List Value)(l:j.length=1):f j=g j:=by
  cases j with
  |nil=>cases l
  |cons a r=>cases r with
    |nil=>exact h a
    |cons b r=>simp at l
theorem Ve {α:Type}{f g:List Value->α}(h:∀a b,f [a,b]=g [a,b])(j:List Value)(l:j.length=2):f j=g j:=by
  cases j with
  |nil=>cases l
  |cons a r=>exact bd1 (f:=fun r=>f (a::r)) (g:=fun r=>g (a::r)) (h a) r (dw l)
theorem bd3 {α:Type}{f g:List Value->α}(h:∀a b c,f [a,b,c]=g [a,b,c])(j:List Value)(l:j.length=3):f j=g j:=by
  cases j with
  |nil=>cases l
  |cons a r=>exact Ve (f:=fun r=>f (a::r)) (g:=fun r=>g (a::r)) (h a) r (dw l)
theorem bd4 {α:Type}{f g:List Value->α}(h:∀a b c d,f [a,b,c,d]=g [a,b,c,d])(j:List Value)(l:j.length=4):f j=g j:=by
  cases j with
  |nil=>cases l
  |cons a r=>exact bd3 (f:=fun r=>f (a::r)) (g:=fun r=>g (a::r)) (h a) r (dw l)
theorem bd5 {α:Type}{f g:List Value->α}(h:∀a b c d e,f [a,b,c,d,e]=g [a,b,c,d,e])(j:List Value)(l:j.length=5):f j=g j:=by
  cases j with
  |nil=>cases l
  |cons a r=>exact bd4 (f:=fun r=>f (a::r)) (g:=fun r=>g (a::r)) (h a) r (dw l)
theorem Zaq {kindOf:Str->Option eW}{x:Str}:∀{binds:List (Str×Value)}{m:Str->Option Value},(∀v,(x,v)∉binds)->bindL kindOf binds m x=m x
 | [],_,_=>rfl
 |(n,v)::r,m,h=>by
  unfold bindL;rw[Zaq fun w j=>h w (aH _ j)];split
  ·have:x≠n:=by rintro rfl;exact h v aE
   simp[this]
  ·rfl
theorem Zas {kindOf:Str->Option eW}{x:Str}:∀{binds:List (Str×Value)}{m:Str->Option Value},(∀v,(x,v)∉binds)->bindC kindOf binds m x=m x
 | [],_,_=>rfl
 |(n,v)::r,m,h=>by
  unfold bindC;rw[Zas fun w j=>h w (aH _ j)];split
  ·rfl
  ·have:x≠n:=by rintro rfl;exact h v aE
   simp[this]
theorem Zar {kindOf:Str->Option eW}{x:Str}{v:Value}:∀{P:List Str}{vs:List Value}{i:Nat}{m:Str->Option Value},P.Nodup->P[i]?=some x->vs[i]?=some v->kindOf x=some .local->
  bindL kindOf (P.zip vs) m x=some v
 | [],_,_,_,_,h,_,_=>by simp at h
 |_::_,[],_,_,_,_,h,_=>by simp at h
 |p::P,w::vs,0,m,nd,j,q,J=>by
  simp at j q;subst j;subst q;show bindL kindOf ((p,w)::P.zip vs) m p=_;unfold bindL;rw[Zaq fun v M=>(bG.mp nd).1 (jH M).1,if_pos J];simp
 |p::P,w::vs,i+1,m,nd,j,q,J=>by
  show bindL kindOf ((p,w)::P.zip vs) m x=_;unfold bindL;exact Zar (i:=i) (bG.mp nd).2 (by simpa using j) (by simpa using q) J
theorem Zat {kindOf:Str->Option eW}{x:Str}{v:Value}:∀{P:List Str}{vs:List Value}{i:Nat}{m:Str->Option Value},P.Nodup->P[i]?=some x->vs[i]?=some v->kindOf x≠some .local->
  bindC kindOf (P.zip vs) m x=some v
 | [],_,_,_,_,h,_,_=>by simp at h
 |_::_,[],_,_,_,_,h,_=>by simp at h
 |p::P,w::vs,0,m,nd,j,q,J=>by
  simp at j q;subst j;subst q;show bindC kindOf ((p,w)::P.zip vs) m p=_;unfold bindC;rw[Zas fun v M=>(bG.mp nd).1 (jH M).1,if_neg J];simp
 |p::P,w::vs,i+1,m,nd,j,q,J=>by
  show bindC kindOf ((p,w)::P.zip vs) m x=_;unfold bindC;exact Zat (i:=i) (bG.mp nd).2 (by simpa using j) (by simpa using q) J
noncomputable def start (N:List Str)(vs:List V):St:=vs.map some++ak (N.length-vs.length) none
noncomputable def Zf1 (CX:CXT)(P:Program)(w:World)(K:ab)(mg:Str->Option Value)(base:Heap)(N:List Str)(j:Str)(scope:cZ)(f:Addr)(J:Value)(A:Around)(outer:List Env)(s:Shared)(H:Hp)(E:XK):Cx where
 prog:=P
 w:=w
 K:=K
 mg:=mg
 base:=base
 A:=A.deeper (envOfC j scope s.heap.objs.size f J)
 N:=N
 s₀:=s
 H₀:=H
 env:=envOfC j scope s.heap.objs.size f J
 outer:=outer
 stack:=envOfC j scope s.heap.objs.size f J::outer
 ex:=[]
 calm:=true
 fn:=fun _=>true
 pn:=[]
 xe:=fun e M=>wpAny (model P w) (A.deeper (envOfC j scope s.heap.objs.size f J)) (leaving (envOfC j scope s.heap.objs.size f J) e) (fun _ q=>CX outer H s E e q) (fun O q=>CX outer H s E O q) M
theorem ZcO {j:cZ}{n:Nat}{x:Str}(h:j.names.lookup x=some .cell):∃c,(cellsFrom n j.names []).lookup x=some c:=by
 have q:=gL j.names n [] (.inl h);exact j6.mp q
theorem ZfS {CX:CXT}{P:Program}{w:World}{K:ab}{mg:Str->Option Value}{base:Heap}{N M:List Str}{qual:Str}{scope:cZ}{f:Addr}{cd:Value}{A:Around}{outer:List Env}{s s1:Shared}{H:Hp}{E:XK}{us:List Value}{vs:List V}
  (S:VM N M scope) (hd:A.handled=none) (J:ZkF P w K mg base A outer s H) (hl:vs.length=M.length) (r:ZK vs us)
  (x:InCallC s s.heap.objs.size (bindL (envOfC qual scope s.heap.objs.size f cd).kindOf (M.zip us) fun _=>none) (cellsFrom (s.heap.objs.size+1) scope.names []) (bindC (envOfC qual scope s.heap.objs.size f cd).kindOf (M.zip us) fun _=>none) s1) :
  Inv (Zf1 CX P w K mg base N qual scope f cd A outer s H E) [] (start N vs) H s1:=by
 have n6:M.length<=N.length:=by have:=congrArg c9 S.pre;rw[bZ] at this;omega
 obtain⟨h1,tk,rfl,hk⟩:=x.done;have O:∀b:Addr,b∉(Zf1 CX P w K mg base N qual scope f cd A outer s H E).ex:=fun b z=>absurd (show b∈([]:List Addr) from z) (by simp);refine⟨⟨J.mod,S.kind,rfl,rfl,Zq _,fun y z c h1 j=>?_,fun y U=>?_,fun y c _ h=>?_,fun _=>hd,Around.frames_deeper J.frames,.inr ⟨rfl,rfl⟩,fun b z=>absurd z (O b),J.bs,J.bsz,fun b _ _=>O b,fun b z=>absurd z (O b),J.funs,J.frf⟩,
  rfl,J.bare,Un.kept hk,⟨_,x.toInCall.ns,fun i y v h1 j h3=>?_⟩,fun y c h=>⟨_,x.cell y c h⟩,J.hok.fresh (Zq _),fun y c h=>?_,fun p Y=>absurd (show p∈([]:List (Addr×Obj)) from Y) (by simp),J.hok.kept hk,?_⟩
 ·exact name_of_addr x.apart (bw h1) (bw j)
 ·have U:scope.names.lookup y=some .cell\/scope.names.lookup y=some .free:=U
  rcases U with U|U
  ·exact ZcO U
  ·exact absurd rfl (S.nofree _ (bw U))
 ·exact eR (x.above y c (bw h))
 ·have hi:i<vs.length:=by
   unfold start at j;by_cases hi:i<vs.length
   ·exact hi
   ·rw[ax (by simpa using hi)] at j
    rw[b8] at j;split at j <;> cases j
  have ha:vs[i]?=some v:=by
   unfold start at j;rw[aw (by simpa using hi),Zc] at j;cases e:vs[i]? with
   |none=>rw[e] at j;cases j
   |some a=>rw[e] at j;cases j;rfl
  obtain⟨u,hu,rv⟩:=r.get ha;have Y:M[i]?=some y:=by
   rw[<-S.pre,List.getElem?_take_of_lt (by omega)];exact h1
  have n4:M.Nodup:=by rw[<-S.pre];exact S.nd.sublist (i4 _ _)
  refine⟨u,rv,?_⟩;rcases S.par y (av Y) with k|k
  ·exact .inl ⟨k,Zar n4 Y hu k⟩
  ·obtain⟨c,e⟩:=ZcO (n:=s.heap.objs.size+1) k
   refine .inr ⟨.inl k,c,e,?_⟩;have q:=x.cell y c e;rw[Zat n4 Y hu (by show scope.names.lookup y≠_;rw[k];decide)] at q;exact q
 ·exact J.hok.fresh (eR (x.above y c (bw h)))
 ·unfold start
  show _=N.length;rw[Zd,Za,Ze];omega
theorem Zoz {CX:CXT}{P:Program}{w:World}{K:ab}{mg:Str->Option Value}{base:Heap}{k:Nat}{f:Addr}{name j:Str}{params:Arguments}{body:List Stmt}{scope:cZ}{dV kV n6 pm M ct oc:Value}{an od:Option Addr}
  {o0:Array (Option Value)}{N ps:List Str}{sp:Sp} (lk:K.lookup f=some ⟨oc,od,.func (cr name j params body scope dV kV n6 pm an M ct),o0⟩) (o5:fj K M j=true) (S:VM N ps scope)
  (len:∀vs H Q E,sp vs H Q E->vs.length=ps.length)
  (Y:∀(A:Around) (outer:List Env) (s:Shared) (H:Hp) (vs:List V) (Q:VK) (E:XK),Jc k (A.deeper (envOfC j scope s.heap.objs.size f M))->sp vs H Q E->
   ∃t,PSs (Zf1 CX P w K mg base N j scope f M A outer s H E) body t/\t {nx:=fun _ U=>Q .non U,rt:=Q} (start N vs) H) :
  ZR P w K mg base CX (k+1) f (cr name j params body scope dV kV n6 pm an M ct) ps sp:=by
 refine⟨len,fun A outer s H args us vs Q E hr e0 hb r n8=>?_⟩;have hl:=len _ _ _ _ n8;have KX:K.In s.heap:=e0.mod.kin.keeps fun b o e=>(e0.bs b o e).1;have o6:s.heap.NoLimit:=e0.mod.nolimit.keeps fun b o e=>(e0.bs b o e).1;have n4:∀y∈ps.zip us,scope.names.lookup y.1=some .local\/(scope.names.lookup y.1=some .cell/\((cellsFrom (s.heap.objs.size+1) scope.names []).lookup y.1).isSome=true):=fun ⟨n,v⟩ hy=>by
  rcases S.par n (jH hy).1 with q|q
  ·exact .inl q
  ·exact .inr ⟨q,gL _ _ _ (.inl q)⟩
 refine codeAny_call_function hr.depth (KX _ _ lk) rfl S.co S.gen rfl (PySem.W.codeRec_of KX o5) (hb _ _ _ _ ?_);refine wpAny_newFunctionEnv_cells S.kind n4 fun env he s1 x=>?_;subst he;refine⟨o6.keeps x.toInCall.keep,codeAny_func ?_⟩;obtain⟨t,ht,hq⟩:=Y A outer s H vs Q E (hr.deeper _) n8;have I:Inv (Zf1 CX P w K mg base N j scope f M A outer s H E) [] (start N vs) H s1:=ZfS S hr.hd e0 hl r x;refine cD (ht [] s1 (start N vs) H _ I hq) (fun fl s' hs=>?_) fun e s' hs=>hs;have n9:∀{O:St}{U:Hp}{v:V}{u:Value},Inv (Zf1 CX P w K mg base N j scope f M A outer s H E) [] O U s'->RelV v u->Q v U->CE outer P w H s Q u s':=
  fun {O U v u} J rv q=>⟨v,U,J.os,J.bare,J.base,J.hok,rv,q⟩
 cases fl with
 |ret u=>
  obtain⟨v,O,U,J,rv,q⟩:=hs;exact n9 J rv q
 |next=>
  obtain⟨O,U,J,q⟩:=hs;exact n9 (v:=V.non) (u:=bT) J rfl q
 |brk=>
  obtain⟨_,_,_,q⟩:=hs;exact eA q
 |cont=>
  obtain⟨_,_,_,q⟩:=hs;exact eA q
section
variable {X:Cx}{x:Str}{p pos:Pos}{e:Expr}{es:List Expr}{t:TA}{id T:String}{r:List V->Hp->VK->Prop}
noncomputable def tCB (r:List V->Hp->VK->Prop)(t:TA):TE:=fun j H Q=>t j H fun q J=>r q J Q
theorem Zhl (O:Yo X (.builtin id) r)(U:Gl X x)(Y:X.mg x=none)(hv:bootBuiltins x=some (.builtin id))(ha:PA X (e::es) t)(hn:x ≠ "__name__":=by decide)(q:(x == ("__debug__":Str))=false:=by decide)
  (he:starEach (e::es) X.env=(false,eval e X.env)::starEach es X.env:=by rfl) (J:(backTo pos (starEach es X.env)).any (·.1)=false:=by rfl):PE X (.Call (.Name x p) (e::es) [] pos) (tCB r t):=by
 intro j s M H Q I h;refine ju (WZ I U Y hv ?_ hn q);exact PyProof.Rows.callWith_builtin1 (Yi (ha pos j s M H _ I h) fun us s1 ⟨vs,H1,I1,r1,q1⟩=>O j s1 M H1 vs us Q I1 r1 q1) he J
theorem Zfw (O:Yo X (.type T) r)(U:Gl X x)(Y:X.mg x=none)(hv:bootBuiltins x=some (.type T))(ha:PA X (e::es) t)(hn:x ≠ "__name__":=by decide)(q:(x == ("__debug__":Str))=false:=by decide)
  (he:starEach (e::es) X.env=(false,eval e X.env)::starEach es X.env:=by rfl) (J:(backTo pos (starEach es X.env)).any (·.1)=false:=by rfl):PE X (.Call (.Name x p) (e::es) [] pos) (tCB r t):=by
 intro j s M H Q I h;refine ju (WZ I U Y hv ?_ hn q);exact bn (Yi (ha pos j s M H _ I h) fun us s1 ⟨vs,H1,I1,r1,q1⟩=>O j s1 M H1 vs us Q I1 r1 q1) he J
end
end L2
namespace HT
open PySem PyProof.Rows
section
open PySem.SeqAt
open PySem.AutoSeq1 (wpAny_loadPart')
open PySem.MeetsSeq PySem.MeetsSeq2 PySem.MeetsSeq3
end
section
variable {prog:Program}{w:World}{A:Around}{E:Value->Shared->Prop}{s:Shared}
theorem Zkr {t b:Addr}{vs j:List Value}{Q:Value->Shared->Prop}(ht:IsTup s.heap t vs.toArray)(hb:IsTup s.heap b j.toArray)(hv:vs≠[])
  (h1:j=[]->Q (.ref t) s) (h2:j≠[]->Q (.ref s.heap.objs.size) {s with heap:=s.heap.push {cls:=.type "tuple",data:=.seq (vs++j).toArray}})
  (hsz:vs.length+j.length<=sizeLine):wpAny (model prog w) A (binaryOp .Add (.ref t) (.ref b)) Q E s:=by
 obtain⟨⟨cls,dd,data,sl⟩,Y,hc,n,hd⟩:=id ht;obtain⟨⟨n4,J,data2,M⟩,q,O,n2,U⟩:=id hb;simp only at hc hd O U;subst hc hd O U;have e:vs.toArray++j.toArray=(vs++j).toArray:=by simp
 by_cases hw:j=[]
 ·exact mL ⟨_,Y,rfl⟩ ⟨_,q,rfl⟩ ka l7 gP gw (gh _ _)
   (tuple_addW1 t b vs.toArray j.toArray n n2 dd J sl M (by simpa using hv) (by simp[hw])) ⟨Y,q,h1 hw⟩
 ·refine mL ⟨_,Y,rfl⟩ ⟨_,q,rfl⟩ ka l7 gP gw (gh _ _)
   (tuple_addW2 t b vs.toArray j.toArray n n2 dd J sl M (by simpa using hv) (by simpa using hw) (by rw[Zh,Zh];exact hsz)) ⟨Y,q,?_⟩
  rw[e];exact h2 hw
noncomputable def Y6 (n d:Nat):Option Int->Nat
 |none=>d
 |some v=>if v<0 then (v+(n:Int)).toNat else min v.toNat n
theorem ZbV (n d:Nat):Y6 n d none=d:=rfl
theorem ZaM (n d k:Nat):Y6 n d (some (k:Int))=min k n:=by
 show (if (k:Int)<0 then ((k:Int)+(n:Int)).toNat else min (k:Int).toNat n)=min k n
 rw[if_neg (by omega),Zj]
theorem ZlH (n d:Nat)(q:d<=n)(o:Option Int):Y6 n d o<=n:=by
 cases o with
 |none=>exact q
 |some v=>
  show (if v<0 then (v+(n:Int)).toNat else min v.toNat n)<=n
  by_cases j:v<0
  ·rw[if_pos j];omega
  ·rw[if_neg j];exact Nat.min_le_right _ _
theorem Ze8 (v:Int)(n d:Nat):(if v<0 then max (v+(n:Int)) 0 else min v (n:Int))=((Y6 n d (some v):Nat):Int):=by
 show (if v<0 then max (v+(n:Int)) 0 else min v (n:Int))=(((if v<0 then (v+(n:Int)).toNat else min v.toNat n):Nat):Int)
 by_cases j:v<0
 ·simp only[if_pos j];omega
 ·simp only[if_neg j];omega
theorem ZdR (lo j:Option Int)(n:Nat):fP lo j 1 (n:Int)=(((Y6 n 0 lo:Nat):Int),((Y6 n n j:Nat):Int)):=by
 have q:¬((1:Int)<0):=by omega
 unfold fP;simp only[q,if_false];refine Prod.ext ?_ ?_
 ·cases lo with
  |none=>rfl
  |some v=>exact Ze8 v n 0
 ·cases j with
  |none=>rfl
  |some v=>exact Ze8 v n n
theorem Zdo (i j:Nat):dR (i:Int) (j:Int) 1=j-i:=by
 unfold dR;have q:(1:Int) > 0:=by omega
 simp only[q,if_true,Int.ediv_one];split <;> omega
theorem V2 {v:Value}{o:Option Int}{Q:Option Int->Shared->Prop}(p:kc v o)(h:Q o s):wpAny (model prog w) A (Builtin.Slice.slicePartIndex v) Q E s:=by
 cases p with
 |none=>exact slicePart_none h
 |int i t=>exact slicePart_int h
theorem XT {O:Addr}{J M:Value}{lo hi:Option Int}{n:Nat}{Q:Int×Int×Nat->Shared->Prop}(U:s.heap.IsSliceOf O J M .none)(pl:kc J lo)(Y:kc M hi)
  (h:Q (((Y6 n 0 lo:Nat):Int),1,Y6 n n hi-Y6 n 0 lo) s):wpAny (model prog w) A (iR (.ref O) (pure (n:Int))) Q E s:=by
 obtain⟨os,j,n4,q⟩:=id U;unfold iR Builtin.Slice.sliceFields;refine Zl (Zl (bu j q (x:=J) rfl (Zl (bu j q (x:=M) rfl (Zl (bu j q (x:=.none) rfl (Zm ?_)))))));refine Zl (slicePart_none ?_);show wpAny _ _ (if ((1:Int) == 0)=true then _ else _) _ _ s
 rw[if_neg (by decide)];refine Zl (V2 pl (Zl (V2 Y (Zl (Zm ?_)))));show wpAny _ _ (match fP lo hi 1 (n:Int) with|(lo,hi)=>pure (lo,(1:Int),dR lo hi 1)) _ _ s
 rw[ZdR lo hi n];show wpAny _ _ (pure (((Y6 n 0 lo:Nat):Int),(1:Int),dR ((Y6 n 0 lo:Nat):Int) ((Y6 n n hi:Nat):Int) 1)) _ _ s;rw[Zdo];exact Zm h
theorem Zhi (xs:Array Value)(i k:Nat):((ac k).filterMap fun (m:Nat)=>xs[((i:Int)+(m:Int)*1).toNat]?).toArray=((xs.toList.drop i).take k).toArray:=by
 have e:(fun (m:Nat)=>xs[((i:Int)+(m:Int)*1).toNat]?)=fun m=>xs[i+m]?:=by
  funext m;have:((i:Int)+(m:Int)*1).toNat=i+m:=by omega
  rw[this]
 rw[e];have:=pick_run xs i k;rw[List.filterMap_map] at this;have j:((fun x=>xs[x]?) ∘ fun x=>i+x)=fun m=>xs[i+m]?:=rfl;rw[j] at this;rw[this]
theorem XD {t O:Addr}{items:Array Value}{vl vu:Value}{lo J:Option Int}{Q:Value->Shared->Prop}(M:IsTup s.heap t items)(hs:s.heap.IsSliceOf O vl vu .none)(pl:kc vl lo)(pu:kc vu J)
  (hw:¬(Y6 items.size 0 lo=0/\Y6 items.size items.size J=items.size))
  (h:Q (.ref s.heap.objs.size) {s with heap:=s.heap.push {cls:=.type "tuple",data:=.seq ((items.toList.drop (Y6 items.size 0 lo)).take (Y6 items.size items.size J-Y6 items.size 0 lo)).toArray}})
  (hsz:items.size<=sizeLine):wpAny (model prog w) A (getItem (.ref t) (.ref O)) Q E s:=by
 have j:sizeOk (.seq ((items.toList.drop (Y6 items.size 0 lo)).take (Y6 items.size items.size J-Y6 items.size 0 lo)).toArray):=by
  show ((items.toList.drop (Y6 items.size 0 lo)).take (Y6 items.size items.size J-Y6 items.size 0 lo)).toArray.size<=sizeLine;rw[Zh,bZ,cR,Zr];omega
 have hj:Y6 items.size items.size J<=items.size:=ZlH _ _ (Zq _) J;obtain⟨os,U,Y,n9⟩:=id hs;have n4:s.TypeIs (.ref O) "slice":=⟨os,U,Y⟩;unfold getItem
 try with_reducible refine cG ?_
 first|refine Zl (Zm ?_)|skip
 refine Zl (wpAny_sequenceKey M.typeIs (by decide) ?_);refine Zl (bb (name:=cN "__getitem__") M.typeIs dG
  (bm dG M.typeIs entry_tuple_getitem ?_ (args_tuple_getitem _ _)))
 show wpAny _ _ (fJ (.ref t) >>= _) _ _ s;refine Zl (tupleItemsOf_ M ?_);refine Zl (iE n4 ?_);rw[if_pos (by decide)];refine Zl (XT hs pl pu ?_);have n6:¬((((Y6 items.size 0 lo:Nat):Int) == 0 && (1:Int) == 1 && (Y6 items.size items.size J-Y6 items.size 0 lo) == items.size)=true):=by
  intro q;rw[ag,ag] at q;have q1:((Y6 items.size 0 lo:Nat):Int)=0:=eq_of_beq q.1.1;have q2:Y6 items.size items.size J-Y6 items.size 0 lo=items.size:=eq_of_beq q.2;exact hw ⟨by omega,by omega⟩
 show wpAny _ _ (if (((Y6 items.size 0 lo:Nat):Int) == 0 && (1:Int) == 1 && (Y6 items.size items.size J-Y6 items.size 0 lo) == items.size)=true then _ else _) _ _ s
 rw[if_neg n6,Zhi]
 first
  |exact Zl (m:=ck _) (ba (Zm ⟨_,rfl,Zm h⟩) j)
  |exact Zl (m:=ck _) (ba (Zl (Zm (Zm ⟨_,rfl,Zm h⟩))) j)
  |exact Zl (Zl (m:=ck _) (ba (Zm (Zm ⟨_,rfl,Zm h⟩)) j))
  |exact Zl (Zl (m:=ck _) (ba (Zm ⟨_,rfl,Zm h⟩) j))
end
end HT
namespace L2
open PySem PySem.Spec PyProof.Rows
noncomputable abbrev TO:=St->Hp->(Option Int->Hp->Prop)->Prop
noncomputable def PO (X:Cx)(e:Option Expr)(t:TO):Prop:=
 ∀(j:List (Addr×Obj)) (s:Shared) (q:St) (H:Hp) (Q:Option Int->Hp->Prop),Inv X j q H s->t q H Q->
  wpAny (model X.prog X.w) X.A (evalPart e X.env) (fun u M=>∃o J,Inv X j q J M/\kc u o/\Q o J) X.xe s
noncomputable def ZiV:TO:=fun _ H Q=>Q none H
noncomputable def ZnF (t:TE):TO:=fun j H Q=>t j H fun x q=>∃i,x=.int i/\Q (some i) q
theorem intsAre_of {ns:List Int}:∀{us:List Value},ZK (ns.map V.int) us->bP us ns:=by
 induction ns with
 |nil=>intro us r;rw[fv] at r;cases r;exact .nil
 |cons n ns j=>
  intro us r;rw[aL] at r;cases r with
  |cons q J=>
   obtain⟨t,e⟩:=q;subst e;exact .cons n t (j J)
section
variable {X:Cx}{e:Expr}{te:TE}{lo hi:Option Expr}{tl th:TO}{pos p2:Pos}
theorem Xx:PO X none ZiV:=by
 intro j s q H Q I h;rw[evalPart_none];exact Zm ⟨none,H,I,.none,h⟩
theorem Xw (h:PE X e te):PO X (some e) (ZnF te):=by
 intro j s J H Q I M;rw[evalPart_some];refine Yi (h j s J H _ I M) fun u s1 ⟨x,O,U,r1,Y⟩=>?_;obtain⟨i,rfl,q⟩:=Y;obtain⟨t,rfl⟩:=r1;exact⟨some i,O,U,.int i t,q⟩
noncomputable def SlR (X:Cx)(r:V->Option Int->Option Int->Hp->VK->Prop):Prop:=
 ∀(j:List (Addr×Obj)) (s:Shared) (q:St) (H:Hp) (x:V) (v J M:Value) (lo hi:Option Int) (O:Addr) (Q:VK),Inv X j q H s->RelV x v->s.heap.IsSliceOf O J M .none->kc J lo->kc M hi->r x lo hi H Q->
  ∃T id,typeLookup (.type T) "__getitem__"=pure (some (.builtin id))/\s.TypeIs v T/\wpAny (model X.prog X.w) X.A (getItem v (.ref O)) (EP X j q Q) X.xe s
noncomputable def tSl (r:V->Option Int->Option Int->Hp->VK->Prop)(te:TE)(tl th:TO):TE:=fun j H Q=>te j H fun x q=>tl j q fun l J=>th j J fun u M=>r x l u M Q
theorem Jy {r:V->Option Int->Option Int->Hp->VK->Prop}(hr:SlR X r)(he:PE X e te)(hl:PO X lo tl)(hu:PO X hi th):PE X (.Subscript e (.Slice lo hi none p2) pos) (tSl r te tl th):=by
 intro j s M H Q I h;refine Subscript_ (Yi (he j s M H _ I h) fun v s1 ⟨x,H1,I1,r1,q1⟩=>?_);refine wpAny_Slice (Yi (hl j s1 M H1 _ I1 q1) fun O s2 ⟨l,H2,I2,pl,q2⟩=>Yi (hu j s2 M H2 _ I2 q2) fun U J ⟨u,Y,I3,pu,q3⟩=>?_);rw[evalPart_none];refine Zm ?_;have I4:Inv X j M Y {J with heap:=J.heap.push {cls:=.type "slice",data:=.fields #[O,U,.none]}}:=I3.kept (t':=J.toks) fun b ob q=>Zn _ q;obtain⟨T,id,hT,ht,hg⟩:=hr j {J with heap:=J.heap.push {cls:=.type "slice",data:=.fields #[O,U,.none]}} M Y x v O U l u J.heap.objs.size Q I4 r1 (Heap.IsSliceOf.new ..) pl pu q3;show wpAny (model X.prog X.w) X.A (subscriptTail e (.Slice lo hi none p2) v (.ref J.heap.objs.size)) (EP X j M Q) X.xe {J with heap:=J.heap.push {cls:=.type "slice",data:=.fields #[O,U,.none]}};exact tail_any (ops:=[.ref J.heap.objs.size,v]) ht hT hg (by with_unfolding_all rfl)
noncomputable def J9 (xs:List V)(lo hi:Option Int):List V:=(xs.drop (HT.Y6 xs.length 0 lo)).take (HT.Y6 xs.length xs.length hi-HT.Y6 xs.length 0 lo)
theorem JC (xs:List V)(lo hi:Option Int):(J9 xs lo hi).length<=xs.length:=by
 unfold J9;rw[bZ,cR];omega
noncomputable def ZpM (K:ab):V->Option Int->Option Int->Hp->VK->Prop:=fun x lo hi H Q=>∃a j,x=.ref a/\WM K H a j/\
 ¬(HT.Y6 j.length 0 lo=0/\HT.Y6 j.length j.length hi=j.length)/\∀p,H p=none->Q (.ref p) (upd H p (.tup (J9 j lo hi)))
theorem ZlF:SlR X (ZpM X.K):=by
 intro M s σ H x v vl vu lo hi sl Q I Y hs pl pu h;obtain⟨a,xs,rfl,hx,hw,q⟩:=h;cases Y;obtain⟨J,r,O,U⟩:=I.tuple hx;have j:J.toArray.size=xs.length:=by rw[Zh];exact r.length.symm
 refine⟨"tuple",_,dG.lookup,O.typeIs,?_⟩;refine HT.XD O hs pl pu (by rw[j];exact hw) ?_ (by rw[j];exact U);rw[j];refine⟨.ref s.heap.objs.size,_,I.laid (t':=s.toks) (o:=.tup (J9 xs lo hi)) (fun b ob q=>Zn _ q) (Zq _) ?_,rfl,q _ (I.hok.fresh (Zq _))⟩;exact⟨a5 (JC xs lo hi) U,_,(r.drop (HT.Y6 xs.length 0 lo)).take (HT.Y6 xs.length xs.length hi-HT.Y6 xs.length 0 lo),gQ _ _⟩
noncomputable def Zn9 (K:ab):R2:=fun x y H Q=>∃a b q j,x=.ref a/\y=.ref b/\WM K H a q/\WM K H b j/\q≠[]/\q.length+j.length<=sizeLine/\
 (j=[]->Q (.ref a) H)/\(j≠[]->∀p,H p=none->Q (.ref p) (upd H p (.tup (q++j))))
theorem ZK.nil_iff {xs:List V}{us:List Value}(r:ZK xs us):us=[]↔xs=[]:=by
 cases r with
 |nil=>simp
 |cons _ _=>simp
theorem ZjA:Xb X (binaryOp .Add) (Zn9 X.K):=by
 intro J s σ H x y v u Q I U Y h;obtain⟨a,b,xs,ys,rfl,rfl,ha,hb,hx,M,q1,q2⟩:=h;cases U;cases Y;obtain⟨n4,r1,p1,_⟩:=I.tuple ha;obtain⟨O,j,p2,_⟩:=I.tuple hb;refine HT.Zkr p1 p2 (fun z=>hx (r1.nil_iff.mp z)) (fun z=>⟨.ref a,H,I,rfl,q1 (j.nil_iff.mp z)⟩) (fun z=>?_) (by rw[<-r1.length,<-j.length];exact M);refine⟨.ref s.heap.objs.size,_,I.laid (t':=s.toks) (o:=.tup (xs++ys)) (fun b ob q=>Zn _ q) (Zq _) ?_,rfl,q2 (fun w=>z (j.nil_iff.mpr w)) _ (I.hok.fresh (Zq _))⟩;exact⟨by rw[Zd];exact M,_,r1.append j,gQ _ _⟩
end
noncomputable def ixN (n:Nat)(i:Int):Option Nat:=if 0<=i then (if i<n then some i.toNat else none) else if -(n:Int)<=i then some (i+n).toNat else none
noncomputable def XO {α:Type}(xs:List α)(i:Int):Option α:=(ixN xs.length i).bind fun j=>xs[j]?
theorem Zbb {n:Nat}{i:Int}{j:Nat}(h:ixN n i=some j):seqIndex? i n=some j/\j<n/\-(n:Int)<=i/\i<n:=by
 unfold ixN at h;by_cases J:0<=i
 ·rw[if_pos J] at h
  by_cases q:i<n
  ·rw[if_pos q] at h
   have e:i.toNat=j:=ay h;exact⟨by rw[seqIndex_of J q,e],by omega,by omega,q⟩
  ·rw[if_neg q] at h;cases h
 ·rw[if_neg J] at h
  by_cases q:-(n:Int)<=i
  ·rw[if_pos q] at h
   have e:(i+n).toNat=j:=ay h;exact⟨by rw[seqIndex_neg (by omega) q,e],by omega,q,by omega⟩
  ·rw[if_neg q] at h;cases h
theorem Zfc {α:Type}{xs:List α}{i:Int}{v:α}(h:XO xs i=some v):∃j,seqIndex? i xs.length=some j/\xs[j]?=some v/\j<xs.length/\-(xs.length:Int)<=i/\i<xs.length:=by
 unfold XO at h;cases e:ixN xs.length i with
 |none=>rw[e] at h;cases h
 |some j=>
  rw[e] at h;obtain⟨q,J,M,O⟩:=Zbb e;exact⟨j,q,h,J,M,O⟩
theorem ZO {α:Type}{xs:List α}{j:Nat}{v:α}(h:xs[j]?=some v):XO xs (j:Int)=some v:=by
 have q:j<xs.length:=(ae.mp h).1;have e:ixN xs.length (j:Int)=some j:=by
  unfold ixN;rw[if_pos (by omega),if_pos (by omega)];simp
 unfold XO;rw[e];exact h
theorem ZcT {α:Type}(xs:List α)(v:α):XO (xs++[v]) (-1)=some v:=by
 have j:(xs++[v]).length=xs.length+1:=by simp
 have e:ixN (xs++[v]).length (-1)=some xs.length:=by
  unfold ixN;rw[j,if_neg (by decide),if_pos (by omega)];congr 1;omega
 unfold XO;rw[e];show (xs++[v])[xs.length]?=some v;simp
noncomputable def Zkz (b:Expr):Prop:=∀o i,subscripted b false o i=operate [o,i] (getItem o i)
noncomputable def IxR (X:Cx)(r:R2):Prop:=
 ∀(J j:Expr) (q:List (Addr×Obj)) (s:Shared) (M:St) (H:Hp) (x y:V) (v u:Value) (Q:VK),Inv X q M H s->RelV x v->RelV y u->r x y H Q->
  subscripted j false v u=operate [v,u] (getItem v u)->wpAny (model X.prog X.w) X.A (subscriptTail J j v u) (EP X q M Q) X.xe s
noncomputable def MtR (X:Cx)(id:String)(r:V->List V->Hp->VK->Prop):Prop:=
 ∀(j:List (Addr×Obj)) (s:Shared) (q:St) (H:Hp) (x:V) (J:List V) (v:Value) (M:List Value) (Q:VK),Inv X j q H s->RelV x v->ZK J M->r x J H Q->
  wpAny (model X.prog X.w) X.A (call (.builtin id) (v::M)) (EP X j q Q) X.xe s
section
variable {X:Cx}{a b:Expr}{ta tb:TE}{pos:Pos}
theorem ZM {r:R2}(J:IxR X r)(M:PE X a ta)(hb:PE X b tb)(O:Zkz b):PE X (.Subscript a b pos) (tOp r ta tb):=by
 intro j s U H Q I h;exact Subscript_ (ZmZ M hb I h fun v u Y x y H2 I2 rx ry q=>J a b j Y U H2 x y v u Q I2 rx ry q (O _ _))
noncomputable def Zn5 (K:ab):R2:=fun x y H Q=>∃p j i v,x=.ref p/\y=.int i/\Wr K H p j/\XO j i=some v/\Q v H
noncomputable def Zn4 (K:ab):R2:=fun x y H Q=>∃p j i v,x=.ref p/\y=.int i/\WM K H p j/\XO j i=some v/\Q v H
theorem Zj6:IxR X (Zn5 X.K):=by
 intro O U J s σ H x y v u Q I rx ry h hs;obtain⟨p,xs,i,z,rfl,rfl,hq,he,q⟩:=h;cases rx;obtain⟨t,rfl⟩:=ry;obtain⟨Y,r,pl,hz⟩:=I.list hq;obtain⟨j,M,h2,h3,h4,h5⟩:=Zfc he;obtain⟨w,ew,n4⟩:=r.get h2;have hl:=r.length;have hn:=X4;have fin:EP X J σ Q w s:=⟨z,H,I,n4,q⟩;by_cases h0:0<=i
 ·have hj:i.toNat=j:=by
   rw[seqIndex_of h0 h5] at M;exact ay M
  exact item_listR pl.isList h0 (by omega) (by rw[hj];simpa using ew) fin hs
 ·have hj:(i+(Y.toArray.size:Int)).toNat=j:=by
   rw[seqIndex_neg (by omega) h4] at M;rw[Zh,<-hl];exact ay M
  exact mT (x:=w) pl.isList.typeIs slot_list_getitem.lookup
   (wpAny_getItem_list_neg (Q:=fun r s'=>r=w/\EP X J σ Q r s') pl.isList (by omega) (by rw[Zh] <;> omega) (by omega) (by rw[hj];simpa using ew) ⟨rfl,fin⟩) hs
theorem Zmx:IxR X (Zn4 X.K):=by
 intro M O J s Y H x y v u Q I rx ry h hs;obtain⟨p,xs,i,z,rfl,rfl,hq,he,q⟩:=h;cases rx;obtain⟨t,rfl⟩:=ry;obtain⟨n4,r,pl,hz⟩:=I.tuple hq;obtain⟨j,h1,h2,h3,h4,h5⟩:=Zfc he;obtain⟨w,ew,U⟩:=r.get h2;have hl:=r.length;have hn:=X4;have fin:EP X J Y Q w s:=⟨z,H,I,U,q⟩;exact mT (x:=w) pl.typeIs dG.lookup
  (getItem_tuple (j:=j) (Q:=fun r s'=>r=w/\EP X J Y Q r s') pl (by omega) (by omega) (by rw[Zh,<-hl];exact h1) (by simpa using ew) ⟨rfl,fin⟩) hs
theorem Zdw (q:List Value)(n j:Nat)(u:Value):cT (·.setIfInBounds j u) {cls:=.type "list",data:=.seq q.toArray n}={cls:=.type "list",data:=.seq (q.set j u).toArray n}:=by
 simp[cT]
theorem Inv.lst {q:List (Addr×Obj)}{σ:St}{H:Hp}{s:Shared}{p:Addr}{xs:List V}(I:Inv X q σ H s)(h:H p=some (.lst xs)) :
  ∃(j:List Value) (n:Nat),ZK xs j/\s.heap.get? p=some {cls:=.type "list",data:=.seq j.toArray n}/\xs.length<=sizeLine:=by
 obtain⟨z,j,n,r,e⟩:=I.hok p _ h;exact⟨j,n,r,e,z⟩
theorem Inv.lstUpd {j:List (Addr×Obj)}{σ:St}{H:Hp}{s:Shared}{p:Addr}{xs ys:List V}{J its':List Value}{n M:Nat}{f:Obj->Obj}(I:Inv X j σ H s)(h:H p=some (.lst xs))
  (O:s.heap.get? p=some {cls:=.type "list",data:=.seq J.toArray n}) (hf:f {cls:=.type "list",data:=.seq J.toArray n}={cls:=.type "list",data:=.seq its'.toArray M}) (r:ZK ys its') (hz:ys.length<=sizeLine) (t:Nat) :
  Inv X j σ (upd H p (.lst ys)) {s with heap:=s.heap.update p f,toks:=t}:=by
 have e:(s.heap.update p f).get? p=some {cls:=.type "list",data:=.seq its'.toArray M}:=by
  rw[bx f O (by rw[hf] <;> rfl),hf]
 refine I.write (x:=p) (e:=p) (by rw[h];trivial) (.inl rfl) (fun b u hb q=>(bR _ _ (bJ hb)).trans q) ⟨_,e⟩ ?_;exact⟨hz,its',M,r,e⟩
noncomputable def Zn2:V->V->V->Hp->(Hp->Prop)->Prop:=fun o i v H Q=>∃p q k j,o=.ref p/\i=.int k/\H p=some (.lst q)/\ixN q.length k=some j/\Q (upd H p (.lst (q.set j v)))
theorem YY:Zna X Zn2:=by
 intro J s σ H o i v ov iv u Q I ro ri rv h;obtain⟨p,xs,k,j,rfl,rfl,hp,hj,q⟩:=h;cases ro;obtain⟨t,rfl⟩:=ri;obtain⟨M,n,r,U,hz⟩:=I.lst hp;obtain⟨O,h2,h3,h4⟩:=Zbb hj;have Y:=r.length;have hn:=X4;have I':Inv X J σ (upd H p (.lst (xs.set j v))) {s with heap:=s.heap.update p (cT (·.setIfInBounds j u))}:=
  I.lstUpd hp U (Zdw M n j u) (r.set rv j) (by rw[bA];exact hz) s.toks
 by_cases h0:0<=k
 ·have hk:k.toNat=j:=by
   rw[seqIndex_of h0 h4] at O;exact ay O
  exact PySem.W.ki_setAt U h0 (by omega) (by rw[Zh,<-Y];exact h4) (by rw[hk];exact⟨_,I',q⟩)
 ·have hk:(k+(M.toArray.size:Int)).toNat=j:=by
   rw[seqIndex_neg (by omega) h3] at O;rw[Zh,<-Y];exact ay O
  exact PySem.W.ki_setBack U (by omega) (by rw[Zh,<-Y];exact h3) (by omega) (by rw[hk];exact⟨_,I',q⟩)
theorem ZaK (lo j:Option Int)(n:Nat):(sliceBounds lo j none n).1=((HT.Y6 n 0 lo:Nat):Int)/\(sliceBounds lo j none n).2.1=((HT.Y6 n n j:Nat):Int)/\(sliceBounds lo j none n).2.2=1:=by
 refine⟨?_,?_,rfl⟩
 ·cases lo with
  |none=>simp[sliceBounds,HT.Y6]
  |some i=>
   simp only[sliceBounds,HT.Y6,mE,show (1:Int) > 0 by decide,if_true];by_cases h:i<0
   ·simp only[h,if_true] <;> omega
   ·simp only[h,if_false] <;> omega
 ·cases j with
  |none=>simp[sliceBounds,HT.Y6]
  |some i=>
   simp only[sliceBounds,HT.Y6,mE,show (1:Int) > 0 by decide,if_true];by_cases h:i<0
   ·simp only[h,if_true] <;> omega
   ·simp only[h,if_false] <;> omega
theorem UQ (j:List Value)(lo q:Option Int):slicePick j.toArray lo q none=((j.drop (HT.Y6 j.length 0 lo)).take (HT.Y6 j.length j.length q-HT.Y6 j.length 0 lo)).toArray:=by
 obtain⟨J,M,O⟩:=ZaK lo q j.toArray.size;unfold slicePick;rw[J,M,O];simp only[sliceRange_one,pick_run,Zh] <;> rfl
noncomputable def ZpN (K:ab):V->Option Int->Option Int->Hp->VK->Prop:=fun x lo q H Q=>∃a j,x=.ref a/\Wr K H a j/\∀p,H p=none->Q (.ref p) (upd H p (.lst (J9 j lo q)))
theorem VB:SlR X (ZpN X.K):=by
 intro M s σ H x v vl vu lo J sl Q I U Y pl pu h;obtain⟨a,xs,rfl,hx,q⟩:=h;cases U;obtain⟨n4,r,O,hz⟩:=I.list hx;have j:=r.length;refine⟨"list",_,slot_list_getitem.lookup,O.isList.typeIs,?_⟩;refine wpAny_getItem_list_slice O.isList Y pl pu .none (by simp) ?_ (by rw[Zh] <;> omega)
 rw[UQ,<-j];refine⟨.ref s.heap.objs.size,_,I.laid (t':=s.toks) (o:=.lst (J9 xs lo J)) (fun b ob q=>Zn _ q) (Zq _) ?_,rfl,q _ (I.hok.fresh (Zq _))⟩;exact⟨a5 (JC xs lo J) hz,_,0,(r.drop (HT.Y6 xs.length 0 lo)).take (HT.Y6 xs.length xs.length J-HT.Y6 xs.length 0 lo),Zo _ rfl⟩
noncomputable def WR:V->Bool
 | .non=>true
 | .bl _=>true
 | .int _=>true
 | .str _=>true
 |_=>false
noncomputable def eqV:V->V->Bool
 | .non,.non=>true
 | .bl a,.bl b=>a == b
 | .bl a,.int b=>(if a then 1 else 0) == b
 | .int a,.bl b=>a == (if b then 1 else 0)
 | .int a,.int b=>a == b
 | .str a,.str b=>a == b
 |_,_=>false
theorem ZmM {A:Around}{s:Shared}{y x:V}{u v:Value}(J:RelV y u)(j:RelV x v)(O:WR y=true)(M:WR x=true):lB A s u v (eqV y x):=by
 cases y with
 |non=>
  cases J;cases x with
  |non=>cases j;exact SeqAt.EqAt.same _
  |bl b=>cases j;exact SeqAt.EqAt.none_bool b
  |int b=>obtain⟨t,rfl⟩:=j;exact SeqAt.EqAt.none_int b t
  |str b=>obtain⟨t,rfl⟩:=j;exact SeqAt.EqAt.none_str b t
  |_=>exact absurd (show false=true from M) aG
 |bl a=>
  cases J;cases x with
  |non=>cases j;exact SeqAt.EqAt.bool_none a
  |bl b=>cases j;exact SeqAt.EqAt.bool_bool a b
  |int b=>obtain⟨t,rfl⟩:=j;exact SeqAt.EqAt.bool_int a b t
  |str b=>obtain⟨t,rfl⟩:=j;exact SeqAt.EqAt.bool_str a b t
  |_=>exact absurd (show false=true from M) aG
 |int a=>
  obtain⟨q,rfl⟩:=J;cases x with
  |non=>cases j;exact SeqAt.EqAt.int_none a q
  |bl b=>cases j;exact SeqAt.EqAt.int_bool a q b
  |int b=>obtain⟨t,rfl⟩:=j;exact jE a q b t
  |str b=>obtain⟨t,rfl⟩:=j;exact ku a q b t
  |_=>exact absurd (show false=true from M) aG
 |str a=>
  obtain⟨q,rfl⟩:=J;cases x with
  |non=>cases j;exact SeqAt.EqAt.str_none a q
  |bl b=>cases j;exact SeqAt.EqAt.str_bool a q b
  |int b=>obtain⟨t,rfl⟩:=j;exact kq a q b t
  |str b=>obtain⟨t,rfl⟩:=j;exact SeqAt.EqAt.str_str a q b t
  |_=>exact absurd (show false=true from M) aG
 |_=>exact absurd (show false=true from O) aG
noncomputable def UT (x:V)(u:Value):Bool:=match u with
 | .none=>eqV .non x
 | .bool b=>eqV (.bl b) x
 | .int i _=>eqV (.int i) x
 | .str z _=>eqV (.str z) x
 |_=>false
theorem Zbj {x y:V}{u:Value}(r:RelV y u)(f:WR y=true):UT x u=eqV y x:=by
 cases y with
 |non=>cases r;rfl
 |bl b=>cases r;rfl
 |int i=>obtain⟨t,rfl⟩:=r;rfl
 |str z=>obtain⟨t,rfl⟩:=r;rfl
 |_=>exact absurd (show false=true from f) aG
theorem XL {x:V}:∀{xs:List V}{us:List Value},ZK xs us->xs.all WR=true->us.any (UT x)=xs.any fun y=>eqV y x
 |_,_,.nil,_=>rfl
 |y::xs,u::us,.cons r t,f=>by
  rw[List.all_cons,ag] at f;rw[dU,dU,Zbj r f.1,XL t f.2]
theorem WJ {A:Around}{s:Shared}{x:V}{v:Value}(q:RelV x v)(J:WR x=true):∀{xs:List V}{us:List Value},ZK xs us->xs.all WR=true->∀u∈us,lB A s u v (UT x u)
 |_,_,.nil,_=>fun u j=>by cases j
 |y::xs,u::us,.cons r t,f=>fun M j=>by
  rw[List.all_cons,ag] at f;rcases aF.mp j with rfl|j
  ·rw[Zbj r f.1];exact ZmM r q f.1 J
  ·exact WJ q J t f.2 M j
noncomputable def inV (x:V)(xs:List V):Bool:=xs.any fun y=>eqV y x
noncomputable def rIn (K:ab)(neg:Bool):R2:=fun x y H Q=>∃p j,y=.ref p/\(Wr K H p j\/WM K H p j)/\WR x=true/\j.all WR=true/\Q (.bl (if neg then !inV x j else inV x j)) H
theorem Zfz:Xb X (compareOp .In) (rIn X.K false):=by
 intro O s σ H x y v u Q I U ry h;obtain⟨p,xs,rfl,J,Y,fs,q⟩:=h;cases ry;rcases J with J|J
 ·obtain⟨j,r,pl,hz⟩:=I.list J
  refine SeqAt.in_listAt (UT x) pl.isList (fun w M=>WJ U Y r fs w (by simpa using M)) ⟨.bl _,H,I,rfl,?_⟩;rw[show j.toArray.any (UT x)=j.any (UT x) by simp,XL r fs];exact q
 ·obtain⟨j,r,pl,hz⟩:=I.tuple J
  refine SeqAt.in_tupleAt (UT x) pl (fun w M=>WJ U Y r fs w (by simpa using M)) ⟨.bl _,H,I,rfl,?_⟩;rw[show j.toArray.any (UT x)=j.any (UT x) by simp,XL r fs];exact q
theorem ZaZ:Xb X (compareOp .NotIn) (rIn X.K true):=by
 intro O s σ H x y v u Q I U ry h;obtain⟨p,xs,rfl,J,Y,fs,q⟩:=h;cases ry;rcases J with J|J
 ·obtain⟨j,r,pl,hz⟩:=I.list J
  refine mf (UT x) pl.isList (fun w M=>WJ U Y r fs w (by simpa using M)) ⟨.bl _,H,I,rfl,?_⟩;rw[show j.toArray.any (UT x)=j.any (UT x) by simp,XL r fs];exact q
 ·obtain⟨j,r,pl,hz⟩:=I.tuple J
  refine lR (UT x) pl (fun w M=>WJ U Y r fs w (by simpa using M)) ⟨.bl _,H,I,rfl,?_⟩;rw[show j.toArray.any (UT x)=j.any (UT x) by simp,XL r fs];exact q
theorem Zbr:Yo X (.builtin "len") (fun xs H Q=>∃p ys,xs=[.ref p]/\(Wr X.K H p ys\/WM X.K H p ys)/\Q (.int ys.length) H):=by
 intro O s σ H xs us Q I r h;obtain⟨p,ys,rfl,j,q⟩:=h;obtain⟨u,rfl,U⟩:=vals1 r;cases U;have hn:=X4;rcases j with j|j
 ·obtain⟨J,M,pl,Y⟩:=I.list j
  have hlen:=M.length;exact Calls.call_len_list pl.isList (by simp only[Zh] <;> omega) ⟨.int ys.length,H,I.tok _,⟨s.toks+1,by rw[Zh,hlen]⟩,q⟩
 ·obtain⟨J,M,pl,Y⟩:=I.tuple j
  have hlen:=M.length;exact len_tuple pl (by simp only[Zh] <;> omega) ⟨.int ys.length,H,I.tok _,⟨s.toks+1,by rw[Zh,hlen]⟩,q⟩
theorem XJ:Yo X (.type "list") (fun xs H Q=>∃p ys,xs=[.ref p]/\(Wr X.K H p ys\/WM X.K H p ys)/\∀l,H l=none->Q (.ref l) (upd H l (.lst ys))):=by
 intro U s σ H xs us Q I r h;obtain⟨p,ys,rfl,Y,q⟩:=h;obtain⟨u,rfl,rx⟩:=vals1 r;cases rx;have n4:∀(j:List Value),ZK ys j->ys.length<=sizeLine->∀(J:Heap) (M:Nat),(∀b o',s.heap.get? b=some o'->J.get? b=some o')->
   J.get? s.heap.objs.size=some {cls:=.type "list",dict:=none,data:=.seq j.toArray M,slots:=#[]}->EP X U σ Q (.ref s.heap.objs.size) {s with heap:=J}:=fun j O hz J M kp e=>
  ⟨.ref s.heap.objs.size,_,I.laid (t':=s.toks) kp (Zq _) (show Z6 X.prog X.w _ J _ (.lst ys) from ⟨hz,j,M,O,e⟩),rfl,q _ (I.hok.fresh (Zq _))⟩
 rcases Y with Y|Y
 ·obtain⟨j,O,pl,hz⟩:=I.list Y
  have n6:=O.length;obtain⟨o,ho,hc,n,hd⟩:=pl.isList;exact call_list_seq p (.inl rfl) ho hc hd (fun J M kp e=>n4 j O hz J M kp e) (by simp only[Zh] <;> omega)
 ·obtain⟨j,O,pl,hz⟩:=I.tuple Y
  have n6:=O.length;obtain⟨o,ho,hc,n,hd⟩:=pl;exact call_list_seq p (.inr rfl) ho hc hd (fun J M kp e=>n4 j O hz J M kp e) (by simp only[Zh] <;> omega)
theorem ZE:Yo X (.type "tuple") (fun xs H Q=>∃p ys,xs=[.ref p]/\((Wr X.K H p ys/\∀l,H l=none->Q (.ref l) (upd H l (.tup ys)))\/(WM X.K H p ys/\Q (.ref p) H))):=by
 intro j s Y H xs us Q I r h;obtain⟨p,ys,rfl,h⟩:=h;obtain⟨u,rfl,rx⟩:=vals1 r;cases rx;rcases h with ⟨O,q⟩|⟨O,q⟩
 ·obtain⟨J,U,pl,hz⟩:=I.list O
  have n4:=U.length;refine call_tuple_list pl.isList (fun M kp=>?_) (by simp only[Zh] <;> omega)
  have I1:Inv X j Y H {s with heap:=M}:=I.kept (t':=s.toks) kp;have I2:Inv X j Y (upd H M.objs.size (.tup ys)) {s with heap:=M.push {cls:=.type "tuple",data:=.seq J.toArray}}:=
   I1.laid (t':=s.toks) (fun b o e=>Zn _ e) (Zq _) (show Z6 X.prog X.w _ _ _ (.tup ys) from ⟨hz,J,U,gQ _ _⟩)
  exact⟨.ref M.objs.size,_,I2,rfl,q _ (I1.hok.fresh (Zq _))⟩
 ·obtain⟨J,U,pl,hz⟩:=I.tuple O
  exact call_tuple_same pl ⟨.ref p,H,I,rfl,q⟩
noncomputable def tyV (K:ab)(T:String)(x:V)(H:Hp):Prop:=match x with
 | .str _=>T = "str"
 | .int _=>T = "int"
 | .ref p=>(T = "list"/\∃q,Wr K H p q)\/(T = "tuple"/\∃o,K.lookup p=some o/\o.cls=.type "tuple"/\o.dict=none)\/
   (T = "dict"/\((∃j,H p=some (.dK j))\/∃j,H p=some (.dT j)))\/(T = "set"/\∃S n,H p=some (.set S n))
 |_=>False
theorem Zgr {q:List (Addr×Obj)}{σ:St}{H:Hp}{s:Shared}{T:String}{x:V}{v:Value}(I:Inv X q σ H s)(r:RelV x v)(J:tyV X.K T x H) :
  s.TypeIs v T/\∀a,v=.ref a->∃U,s.heap.get? a=some U/\U.dict=none:=by
 cases x with
 |str z=>
  obtain⟨t,rfl⟩:=r;cases (show T = "str" from J);exact⟨typeIs_str s z t,fun _ e=>nomatch e⟩
 |int i=>
  obtain⟨t,rfl⟩:=r;cases (show T = "int" from J);exact⟨jv s i t,fun _ e=>nomatch e⟩
 |ref p=>
  cases r;rcases J with ⟨rfl,xs,Y⟩|⟨rfl,o,j,hc,hd⟩|⟨rfl,j⟩|⟨rfl,S,n,j⟩
  ·obtain⟨n4,_,pl,_⟩:=I.list Y
   refine⟨pl.isList.typeIs,fun a e=>?_⟩;cases e;obtain⟨o,n,e,c,hd,_⟩:=pl;exact⟨o,e,hd⟩
  ·refine⟨⟨o,I.kIn p o j,hc⟩,fun a e=>?_⟩
   cases e;exact⟨o,I.kIn _ o j,hd⟩
  ·have z:∃o,s.heap.get? p=some o/\o.ExactDict:=by
    rcases j with ⟨M,j⟩|⟨M,j⟩
    ·obtain⟨_,_,_,_,o,_,_,e,ex,_⟩:=I.hok p _ j
     exact⟨o,e,ex⟩
    ·obtain⟨_,_,_,_,o,_,_,e,ex,_⟩:=I.hok p _ j
     exact⟨o,e,ex⟩
   obtain⟨o,e,ex⟩:=z;refine⟨⟨o,e,ex.1⟩,fun a O=>?_⟩;cases O;exact⟨o,e,ex.2.1⟩
  ·obtain⟨o,_,_,_,e,ex,_⟩:=I.hok p _ j
   refine⟨⟨o,e,ex.1⟩,fun a O=>?_⟩;cases O;exact⟨o,e,ex.2.1⟩
 |_=>exact eA J
noncomputable def ZpG (K:ab)(T:String)(r:V->List V->Hp->VK->Prop)(q:TE):TE:=fun J H Q=>q J H fun x j=>tyV K T x j/\r x [] j Q
noncomputable def tBM (K:ab)(T:String)(r:V->List V->Hp->VK->Prop)(J:TE)(t:TA):TE:=fun j H Q=>J j H fun x q=>tyV K T x q/\t j q fun M O=>r x M O Q
variable {o e:Expr}{es:List Expr}{to:TE}{t:TA}{name:Str}{apos cpos:Pos}{T id:String}{r:V->List V->Hp->VK->Prop}
theorem Zl1 (Y:lC T)(slot:Slot T name id)(M:typeOf (.builtin id)=pure (.type "method_descriptor"))(hm:MtR X id r)(ho:PE X o to)
  (q:attributeBase o name X.env (eval o X.env)=eval o X.env:=by rfl) (J:(apos.endLine == cpos.line)=true:=by rfl):PE X (.Call (.Attribute o name apos) [] [] cpos) (ZpG X.K T r to):=by
 intro j s O H Q I h;refine wpAny_Call_method0_late q J (Yi (ho j s O H _ I h) fun v s1 ⟨x,H1,U,r1,ty,q1⟩=>?_);obtain⟨h1,h2⟩:=Zgr U r1 ty;exact⟨T,id,Y,slot,M,h1,h2,ft rfl (PySem.evalArgs_none (hm j s1 O H1 x [] v [] Q U r1 .nil q1))⟩
theorem Wm (pa:lC T)(slot:Slot T name id)(U:typeOf (.builtin id)=pure (.type "method_descriptor"))(hm:MtR X id r)(ho:PE X o to)(ha:PA X (e::es) t)
  (J:attributeBase o name X.env (eval o X.env)=eval o X.env:=by rfl)
  (O:((backTo cpos (starEach (e::es) X.env)).all (fun x=>!x.1) && (backToKw cpos (keywordEach [] X.env)).all (fun x=>x.1.isSome)
   && decide ((e::es).length+([]:List Keyword).length+(if ([]:List Keyword).isEmpty then 0 else 1)<30))=true:=by rfl)
  (M:(apos.endLine == cpos.line)=true:=by rfl) (hs:starEach (e::es) X.env=(false,eval e X.env)::starEach es X.env:=by rfl) (q:(backTo cpos (starEach es X.env)).any (·.1)=false:=by rfl) :
  PE X (.Call (.Attribute o name apos) (e::es) [] cpos) (tBM X.K T r to t):=by
 intro j s Y H Q I h;refine mJ J O M rfl (Yi (ho j s Y H _ I h) fun v s1 ⟨x,H1,I1,r1,ty,q1⟩=>?_);obtain⟨h1,h2⟩:=Zgr I1 r1 ty;refine⟨T,id,pa,slot,U,h1,h2,?_⟩;have hA:=ha cpos j s1 Y H1 _ I1 q1;rw[hs] at hA ⊢;refine ft (by show (false || (backTo cpos (starEach es X.env)).any (·.1))=false;rw[q] <;> rfl) (iw ?_)
 exact Yi hA fun us s2 ⟨vs,H2,I2,r2,q2⟩=>hm j s2 Y H2 x vs v us Q I2 r1 r2 q2
end
noncomputable def MtM (X:Cx)(id:String)(r:V->List V->Hp->VK->Prop):Prop:=
 ∀(j:List (Addr×Obj)) (s:Shared) (q:St) (H:Hp) (x:V) (J:List V) (v:Value) (M:List Value) (Q:VK),Inv X j q H s->RelV x v->ZK J M->r x J H Q->
  wpAny (model X.prog X.w) X.A (call (.builtin id) (v::M)) (EP X j q Q) X.xe s
theorem ZK.one {x:V}{us:List Value}(h:ZK [x] us):∃u,us=[u]/\RelV x u:=by
 cases h with
 |cons r t=>cases t;exact⟨_,rfl,r⟩
theorem ZK.zero:∀{us:List Value},ZK [] us->us=[]
 |_,.nil=>rfl
theorem ZK.dropLast {xs:List V}{us:List Value}(h:ZK xs us):ZK xs.dropLast us.dropLast:=by
 induction h with
 |nil=>exact .nil
 |cons r t j=>
  cases t with
  |nil=>exact .nil
  |cons q J=>exact .cons r j
theorem ZK.eraseIdx:∀{xs:List V}{us:List Value} (i:Nat),ZK xs us->ZK (xs.eraseIdx i) (us.eraseIdx i)
 |_,_,_,.nil=>.nil
 |_,_,0,.cons _ t=>t
 |_,_,i+1,.cons r t=>.cons r (ZK.eraseIdx i t)
theorem ZK.rep {xs:List V}{us:List Value}(h:ZK xs us):∀k:Nat,ZK (ak k xs).flatten (ak k us).flatten
 |0=>.nil
 |k+1=>by
  rw[aW,aW,bC,bC];exact ZK.append h (ZK.rep h k)
theorem ZdF {α:Type}(l:List α):l.eraseIdx (l.length-1)=l.dropLast:=by
 induction l with
 |nil=>rfl
 |cons a r j=>
  cases r with
  |nil=>rfl
  |cons b r=>
   have e:(a::b::r).length-1=((b::r).length-1)+1:=by
    have q:(a::b::r).length=r.length+2:=rfl;have J:(b::r).length=r.length+1:=rfl;omega
   rw[e,kQ,j];all_goals rfl
theorem Zae {α:Type}:∀(l:List α) (i:Nat),(l.eraseIdx i).length<=l.length
 | [],_=>Zq _
 |_::_,0=>gG _
 |_::r,i+1=>Nat.succ_le_succ (Zae r i)
theorem foldl_rep (j:List Value):∀(k:Nat) (ZG:List Value),
  mH (fun q J=>q++J) ZG.toArray (ak k j.toArray)=(ZG++(ak k j).flatten).toArray
 |0,ZG=>by simp
 |k+1,ZG=>by
  have e:ZG.toArray++j.toArray=(ZG++j).toArray:=by simp
  have M:(ZG++j)++(ak k j).flatten=ZG++(ak (k+1) j).flatten:=by
   rw[aW,bC,fz]
  rw[<-M,<-foldl_rep j k (ZG++j),<-e,aW,jM]
section
variable {X:Cx}{pins:List (Addr×Obj)}{σ:St}{H:Hp}{s:Shared}{l b:Addr}{xs ys zs:List V}
theorem Inv.lset {j its':List Value}{n:Nat}{f:Array Value->Array Value}{t':Nat}(I:Inv X pins σ H s)(J:H l=some (.lst xs))
  (e:s.heap.get? l=some {cls:=.type "list",data:=.seq j.toArray n}) (M:f j.toArray=its'.toArray) (O:ZK ys its') (hz:ys.length<=sizeLine) :
  Inv X pins σ (upd H l (.lst ys)) {s with heap:=s.heap.update l (cT f),toks:=t'}:=by
 have q:=PySem.IsL.update e f;rw[M] at q;refine I.write (x:=l) (e:=l) (by rw[J];exact trivial) (.inl rfl) (fun Y u hb U=>(bR s.heap (cT f) (bJ hb)).trans U) ⟨_,q⟩ ?_;exact⟨hz,its',_,O,q⟩
theorem Inv.lnew {j:List Value}{t':Nat}(I:Inv X pins σ H s)(J:ZK ys j)(hz:ys.length<=sizeLine) :
  Inv X pins σ (upd H s.heap.objs.size (.lst ys)) {s with heap:=s.heap.push {cls:=.type "list",data:=.seq j.toArray},toks:=t'}:=
 I.laid (fun _ _ q=>Zn _ q) (Zq _) ⟨hz,j,0,J,Zo _ rfl⟩
theorem Inv.fresh (I:Inv X pins σ H s):H s.heap.objs.size=none:=I.hok.fresh (Zq _)
theorem Inv.lstM (I:Inv X pins σ H s)(q:H l=some (.lst xs)):xs.length<=sizeLine/\∃(j:List Value) (n:Nat),ZK xs j/\xs.length=j.length/\s.heap.get? l=some {cls:=.type "list",data:=.seq j.toArray n}:=by
 obtain⟨z,j,n,r,e⟩:=I.hok l _ q;exact⟨z,j,n,r,r.length,e⟩
theorem Zcg {n:Nat}(h:n<=sizeLine):ed n=false:=by
 unfold ed;exact decide_eq_false (by omega)
end
section
variable {X:Cx}
noncomputable def ZaT:V->List V->Hp->VK->Prop:=fun x q H Q=>∃l j y,x=.ref l/\q=[y]/\H l=some (.lst j)/\j.length<sizeLine/\Q .non (upd H l (.lst (j++[y])))
theorem Z2:MtM X "list.append" ZaT:=by
 intro J s σ H x vs v us Q I U Y h;obtain⟨l,xs,y,rfl,rfl,M,hz,q⟩:=h;cases U;obtain⟨u,rfl,ru⟩:=Y.one;obtain⟨z,j,n,r,hl,e⟩:=I.lstM M;refine dC aR ⟨_,e,rfl⟩ F.entry_list_append (F.args_list_append_2 _ _) (PySem.list_append l j.toArray n u (by rw[Zh];omega)) ⟨e,?_⟩;refine⟨.non,_,I.lset (its':=j++[u]) M e (by simp) (r.append (.cons ru .nil)) ?_,rfl,q⟩;rw[Zd,Zk];omega
noncomputable def Zjf:V->List V->Hp->VK->Prop:=fun x J H Q=>∃l b j q,x=.ref l/\J=[.ref b]/\H l=some (.lst j)/\H b=some (.lst q)/\j.length+q.length<=sizeLine/\Q .non (upd H l (.lst (j++q)))
theorem ZfJ:MtM X "list.extend" Zjf:=by
 intro U s σ H x vs v us Q I rx rv h;obtain⟨l,b,xs,zs,rfl,rfl,Y,hB,hz,q⟩:=h;cases rx;obtain⟨u,rfl,ru⟩:=rv.one;cases ru;obtain⟨z,J,n,r,hl,e⟩:=I.lstM Y;obtain⟨z2,j,n2,r2,n6,e2⟩:=I.lstM hB;have O:J.toArray.size+j.toArray.size<=sizeLine:=by rw[Zh,Zh];omega
 have M:¬(!J.toArray.isEmpty && ed (J.toArray.size+j.toArray.size))=true:=by
  rw[Zcg O,Bool.and_false];exact aG
 refine dC lF ⟨_,e,rfl⟩ F.entry_list_extend (F.args_list_extend_2 _ _)
  (AutoSeq1.list_extend_list_list_0 l J.toArray n b j.toArray n2 M (by rw[Zh];omega) (by omega)) ⟨e,e2,?_⟩
 refine⟨.non,_,I.lset (its':=J++j) Y e (by simp) (r.append r2) ?_,rfl,q⟩;rw[Zd];omega
noncomputable def ZpP:V->List V->Hp->VK->Prop:=fun x q H Q=>∃l j y,x=.ref l/\q=[]/\H l=some (.lst j)/\j[j.length-1]?=some y/\Q y (upd H l (.lst j.dropLast))
theorem Zmk:MtM X "list.pop" ZpP:=by
 intro O s σ H x vs v us Q I rx rv h;obtain⟨l,xs,y,rfl,rfl,U,hy,q⟩:=h;cases rx;have J:=rv.zero;subst J;obtain⟨z,j,n,r,hl,e⟩:=I.lstM U;obtain⟨u,hu,ru⟩:=r.get hy;have M:j.toArray[j.toArray.size-1]?=some u:=by
  show j.toArray[j.length-1]?=some u;rw[<-bM,<-hl];exact hu
 refine dC f9 ⟨_,e,rfl⟩ F.entry_list_pop (F.args_list_pop_1 _) (MeetsSeq.list_pop_last l j.toArray n u M (by rw[Zh];omega)) ⟨e,?_⟩;refine⟨y,_,I.lset (its':=j.dropLast) U e ?_ r.dropLast ?_,ru,q⟩
 ·show j.toArray.eraseIdxIfInBounds (j.toArray.size-1)=j.dropLast.toArray
  rw[Zh,jg,ZdF]
 ·rw[eG]
  omega
noncomputable def ZlQ:V->List V->Hp->VK->Prop:=fun x q H Q=>∃l j i k y,x=.ref l/\q=[.int i]/\H l=some (.lst j)/\-(2 ^ 63)<=i/\i<2 ^ 63/\seqIndex? i j.length=some k/\j[k]?=some y/\Q y (upd H l (.lst (j.eraseIdx k)))
theorem ZhR:MtM X "list.pop" ZlQ:=by
 intro M s σ H x vs v us Q I Y rv h;obtain⟨l,xs,i,k,y,rfl,rfl,O,h1,h2,hk,hy,q⟩:=h;cases Y;obtain⟨u,rfl,ru⟩:=rv.one;obtain⟨t,rfl⟩:=ru;obtain⟨z,j,n,r,hl,e⟩:=I.lstM O;obtain⟨w,hw,J⟩:=r.get hy;refine dC f9 ⟨_,e,rfl⟩ F.entry_list_pop (F.args_list_pop_2 _ _)
  (MeetsSeq.list_pop_at l j.toArray n i t k w (fitsIndex_both h1 h2) (by rw[Zh,<-hl];exact hk) (by rw[<-bM];exact hw) (by rw[Zh];omega)) ⟨e,?_⟩
 refine⟨y,_,I.lset (its':=j.eraseIdx k) O e ?_ (r.eraseIdx k) ?_,J,q⟩
 ·show j.toArray.eraseIdxIfInBounds k=(j.eraseIdx k).toArray
  rw[jg]
 ·have:=Zae xs k
  omega
noncomputable def ZpR:R2:=fun x y H Q=>∃l b j q,x=.ref l/\y=.ref b/\H l=some (.lst j)/\H b=some (.lst q)/\j.length+q.length<=sizeLine/\∀p,H p=none->Q (.ref p) (upd H p (.lst (j++q)))
theorem Zho:Xb X (binaryOp .Add) ZpR:=by
 intro M s σ H x y v u Q I O U h;obtain⟨l,b,xs,zs,rfl,rfl,Y,hB,hz,q⟩:=h;cases O;cases U;obtain⟨z,J,n,r,hl,e⟩:=I.lstM Y;obtain⟨z2,j,n2,r2,n4,e2⟩:=I.lstM hB;refine PySem.P.add_list e e2 ?_ (by rw[Zh,Zh];omega);have ea:J.toArray++j.toArray=(J++j).toArray:=by simp
 rw[ea];exact⟨.ref _,_,I.lnew (t':=s.toks) (r.append r2) (by rw[Zd];omega),rfl,q _ I.fresh⟩
noncomputable def ZpO:R2:=fun x y H Q=>∃l k j,x=.ref l/\y=.int k/\H l=some (.lst j)/\-(2 ^ 63)<=k/\k<2 ^ 63/\j.length*k.toNat<=sizeLine/\
 ∀p,H p=none->Q (.ref p) (upd H p (.lst (ak k.toNat j).flatten))
theorem Za9 {α:Type}(xs:List α)(k:Nat):(ak k xs).flatten.length=k*xs.length:=by
 induction k with
 |zero=>simp
 |succ k j=>rw[aW,bC,Zd,j,cy,Nat.add_comm]
theorem Jg:Xb X (binaryOp .Mult) ZpO:=by
 intro n6 s σ H x y v u Q I rx ry h;obtain⟨l,k,xs,rfl,rfl,hH,h1,h2,hz,q⟩:=h;cases rx;obtain⟨t,rfl⟩:=ry;obtain⟨z,j,n,r,hl,e⟩:=I.lstM hH;have M:j.toArray.size*k.toNat<=sizeLine:=by rw[Zh,<-hl];exact hz
 have O:¬j.toArray.size*k.toNat > (2 ^ 63-1) / 8:=by
  have:(sizeLine:Nat)<=(2 ^ 63-1) / 8:=by decide
  omega
 have Y:¬(!Builtin.List.listFitsIndex k)=true:=by
  rw[fitsIndex_both h1 h2];exact aG
 have J:¬ed (j.toArray.size*k.toNat)=true:=by
  rw[Zcg M];exact aG
 have n4:mH (fun x1 x2=>x1++x2) #[] (ak (if j.toArray.isEmpty=true then 0 else k.toNat) j.toArray)=(ak k.toNat j).flatten.toArray:=by
  have f0:∀m:Nat,mH (fun x1 x2=>x1++x2) #[] (ak m j.toArray)=(ak m j).flatten.toArray:=fun m=>by
   have:=foldl_rep j m [];rw[List.nil_append] at this;exact this
  rw[f0];cases j with
  |nil=>simp
  |cons a r'=>rw[if_neg (by simp)]
 refine lO (T:="list") (U:="int") (by decide) ⟨_,e,rfl⟩ (fun s'=>jv s' k t) noFill_list_mul F.fills_int_mul iA repeat_list F.slot_int_index.lookup
  (dC iA (jv s k t) F.entry_int_rmul (F.args_int_rmul_2 _ _) (int___rmul___int_list k t l j.toArray n)
   ⟨e,rfl,⟨_,e,rfl⟩,dC F.slot_list_mul ⟨_,e,rfl⟩ F.entry_list_mul (F.args_list_mul_2 _ _) (AutoListH.list___mul___list_int_3 l j.toArray n k t Y O J) ⟨e,?_⟩⟩)
 rw[n4];exact⟨.ref _,_,I.lnew (t':=s.toks) (r.rep k.toNat) (by rw[Za9,dO];exact hz),rfl,q _ I.fresh⟩
end
section
variable {prog:Program}{w:World}{A:Around}{E:Value->Shared->Prop}{s:Shared}
end
section
variable {X:Cx}
end
end L2
namespace Att
open PySem PySem.W PySem.Calls PyProof.Rows
theorem Vw {P:Params}{h:Heap}:∀(ns:List Int) (vs:List Value),WellAll P h vs (ns.map WData.int)->bP vs ns:=by
 intro ns;induction ns with
 |nil=>
  intro vs w;rw[fv] at w;cases w;exact .nil
 |cons n ns j=>
  intro vs w;rw[aL] at w;cases w with
  |cons a b=>
   cases a;exact .cons _ _ (j _ b)
theorem Zfq {l:gD}{n:Nat}(hn:l.most=some n){P:Params}{h:Heap}{args:List WData}{Xe:List Value}
  (j:l.row.toRowW.claim.pre args=true) (U:WellAll P h Xe args) :
  ∃a vs ns,Xe=[aI a]/\args=[WData.list (ns.map WData.int)]/\h.get? a=some {cls:=.type "list",data:=.seq vs.toArray}/\bP vs ns/\ns.length<=n:=by
 have Y:WShape.hasAll [] args [.list .int]=true:=(pre_splitW j).1;have hc:l.pre.holds [] {args:=args}=true:=(pre_splitW j).2;obtain⟨d,r,rfl,h1,h2⟩:=hasAllW_cons Y;obtain rfl:=hasAllW_nil h2;obtain⟨xs,rfl,h3⟩:=hasW_list h1;obtain⟨ns,rfl⟩:=items_int h3;have hlen:ns.length<=n:=by
  unfold OpenLaw.pre at hc;have M:(WTm.not (.lt (.lit (.int (n:Int))) (.len (.arg 0)))).holds [] {args:=[.list (ns.map .int)]}=true:=by
   have M:=(holds_andW hc).1;rw[hn] at M;exact M
  have O:=condW_of M (w_not (w_lt w_lit (w_len_list (w_arg rfl))));rw[Za] at O;refine jC fun q=>?_;have q':(n:Int)<((ns.length:Nat):Int):=by omega
  first
   |(rw[decide_eq_true q'] at O;exact absurd O (by decide))
   |(simp at O;omega)
 cases U with
 |cons w1 w2=>
  cases w2;cases w1 with
  |list ho J=>exact⟨_,_,ns,rfl,rfl,ho,Vw ns _ J,hlen⟩
theorem Zft (l:gD)(args:List WData):l.row.toRowW.claim.post args (.bool true) args=true:=
 postW_of (r:=l.row.toRowW) (X:=(true == true))
  (show WShape.has [] (.bool true) .bool=true by first|rfl|decide|simp[WShape.has,WShape.arms,WShape.armsAll])
  (show (WTm.eq .res (.lit (.bool true))).value [] {args:=args,res:=some (.bool true),after:=args}=some (.bool (true == true)) from w_eq_bool (w_res rfl) w_lit) rfl
theorem ZcS {l:gD}{n:Nat}{q:Program}{loose:List Str}{XP:(Str->Option Value)->Heap->Prop}{YP:World->Heap->Prop}{d:DefRec}
  (hn:l.most=some n) (n4:d.params.defaults=[])
  (call:∀(w:World) (s₀ j:Shared) (mg mb:Str->Option Value) (M:Addr) (o:Obj) (pm cd J:Value) (a:Addr) (vs:List Value) (ns:List Int),
   Ground q loose [] XP w s₀ mg mb j.heap->YP w j.heap->
   j.heap.get? M=some o->o.data=.func (docDef d.name d.params d.body d.scope pm cd J)->j.heap.CodeRec cd d.name->mg d.name=some (.ref M)->
   j.heap.get? a=some {cls:=.type "list",data:=.seq vs.toArray}->bP vs ns->ns.length<=n->j.gens=#[]->
   codeAny (model l.prog w) callerA (.call (.ref M) ⟨[.ref a],[]⟩) (fun r s'=>r=.ok (.ret (.bool true))/\OldK j.heap s'.heap/\s'.os=j.os/\iH s'.gens) j) :
  md q loose XP YP l.row.toRowW d [] (fun f vs=>l8 f vs):=by
 intro w s₀ j mg mb G Y M o pm cd J dV kV ho hd n6 hD n8 hg args Xe as O o0 o5 n9 o6;obtain rfl:dV=.none:=Dflts.none hD n4;obtain rfl:kV=.none:=Dflts.noKw hD;obtain⟨a,vs,ns,rfl,rfl,U,hints,hlen⟩:=Zfq hn O n9;refine enter_call (fO (call w s₀ j mg mb M o pm cd J a vs ns G Y ho (fd_plain hd) n6 n8 U hints hlen hg) fun r s' hq=>?_);obtain⟨rfl,h2,h3,h4⟩:=hq;exact⟨.inl ⟨.bool true,.bool true,[],rfl,fun _=>rfl,.bool true,Zft l _,fun _=>⟨fR,fun _ hm=>(nomatch hm)⟩⟩,h2,h3,h4⟩
section
variable {prog:Program}{w:World}{A:Around}{E:Value->Shared->Prop}{s:Shared}{K:Frag}
end
end Att
namespace L2
open PySem PySem.Spec PyProof.Rows
theorem UZ:∀{vs:List Value}{ns:List Int},bP vs ns->ZK (ns.map V.int) vs
 |_,_,.nil=>.nil
 |_,_,.cons n t h=>.cons ⟨t,rfl⟩ (UZ h)
noncomputable def Znc (H:Hp):Prop:=∀b,H b=none\/∃o j,H b=some (.frz o (.lst j))
theorem ZhX {P:Program}{w:World}{K:ab}{mg mb:Str->Option Value}{CX:CXT}{k:Nat}{fa a:Addr}{fd:FuncData}{x:Str}{sp:Sp}{j:Shared}{vs:List Value}{ns:List Int}
  (KX:K.In j.heap) (Y:j.heap.Ns mainGlobals mg) (hb:j.heap.Ns builtinsNs mb) (n9:∀x:Str,x ≠ "__name__"->mb x=bootBuiltins x) (n4:j.heap.NoLimit) (hg:j.gens=#[])
  (ha:j.heap.get? a=some {cls:=.type "list",data:=.seq vs.toArray}) (hi:bP vs ns) (hl:ns.length<=sizeLine) (hr:Jc k callerA)
  (F:∀base:Heap,K.In base->base.Ns mainGlobals mg->ZR P w K mg base CX k fa fd [x] sp) (U:∀(s:Shared) (u:Value),i3 s fd ⟨[u],[]⟩ [(x,u)])
  (o0:∀H:Hp,Znc H->Wr K H a (ns.map V.int)->sp [.ref a] H (fun v _=>v=.bl true) fun _ _ _=>False)
  (o5:∀H e s',CX [] H j (fun _ _ _=>False) e s'->False) :
  codeAny (model P w) callerA (.call (.ref fa) ⟨[.ref a],[]⟩) (fun r s'=>r=.ok (.ret (.bool true))/\OldK j.heap s'.heap/\s'.os=j.os/\iH s'.gens) j:=by
 have rv:=UZ hi;have Zcu:=hi.length;have O:∀H:Hp,Znc H->Wr K H a (ns.map V.int)->Xd P w H j.heap->(∀b,H b≠none->b=a)->(H a≠none->K.lookup a=none)->
   codeAny (model P w) callerA (.call (.ref fa) ⟨[.ref a],[]⟩) (fun r s'=>r=.ok (.ret (.bool true))/\OldK j.heap s'.heap/\s'.os=j.os/\iH s'.gens) j:=by
  intro H hO hS hok hA hK;have J:∀{b:Addr}{o:Obj},j.heap.get? b=some o->H b=none->(Zbc j.heap H).get? b=some o:=fun e n=>Zia e n;have o6:∀{b:Addr}{o:Obj}{es:Array DictEntry}{ep:Nat},j.heap.get? b=some o->o.data=.dict es ep->H b=none:=fun {b o es ep} e d=>by
   cases q:H b with
   |none=>rfl
   |some u=>
    have e':b=a:=hA b (by rw[q];simp);subst e';rw[ha] at e;cases e;have d':Data.seq vs.toArray _=Data.dict es ep:=d;cases d'
  have M:∀{b:Addr}{m:Str->Option Value},j.heap.Ns b m->(Zbc j.heap H).Ns b m:=fun {b m} ⟨o,es,ep,e,d,r⟩=>⟨o,es,ep,J e (o6 e d),d,r⟩;have n6:K.In (Zbc j.heap H):=fun b o e=>J (KX b o e) (by
   cases q:H b with
   |none=>rfl
   |some u=>
    have e':b=a:=hA b (by rw[q];simp);subst e';rw[hK (by rw[q];simp)] at e;cases e)
  have hM:Mod K mg (Zbc j.heap H):=⟨n6,M Y,⟨mb,M hb,n9⟩,let ⟨mc,h1,h2⟩:=n4;⟨mc,M h1,h2⟩⟩;have e0:ZkF P w K mg (Zbc j.heap H) callerA [] j H:=⟨rfl,hM,fun b o e=>ZjR e,Nat.le_of_eq (ZfT _ _),trivial,fun b hb=>absurd (show b∈([]:List Addr) from hb) (by simp),hok,.of_eq hg⟩;refine fO ((F _ n6 (M Y)).run callerA [] j H ⟨[.ref a],[]⟩ [.ref a] [.ref a] _ _ hr e0 (U j (.ref a)) (.cons rfl .nil) (o0 H hO hS)) fun r s' h=>?_;cases r with
  |error e=>exact (o5 H e s' h).elim
  |ok fl=>
   cases fl with
   |next=>exact eA h
   |brk=>exact eA h
   |cont=>exact eA h
   |ret u=>
    obtain⟨v,H',os,bare,un,n8,r',q⟩:=h;have q':v=.bl true:=q;subst q';obtain rfl:u=gU true:=r';refine⟨rfl,OldK.of_keep fun b o e=>?_,os,bare⟩;cases q:H b with
    |none=>exact un.keep b o e q (by intro z;exact absurd (show b∈([]:List Addr) from z) (by simp)) (by simp)
    |some u=>
     rcases hO b with z|⟨ob,xs,z⟩
     ·rw[q] at z;cases z
     ·have z2:=un.frzs b ob _ z
      obtain⟨e1,_⟩:=hok b _ z;obtain⟨e2,_⟩:=n8 b _ z2;rw[e] at e1;cases e1;exact e2
 cases hk:K.lookup a with
 |some o=>
  have e:=KX a o hk;rw[ha] at e;cases e;refine O (fun _=>none) (fun _=>.inl rfl) (.inr ⟨_,vs.toArray,_,hk,rfl,rfl,rfl,by rw[Zh,Zcu];exact hl,by simpa using rv⟩) (fun b u z=>by have z':(none:Option HO)=some u:=z;cases z') (fun b z=>absurd rfl z) fun z=>absurd rfl z
 |none=>
  refine O (fun b=>if b=a then some (.frz {cls:=.type "list",data:=.seq vs.toArray} (.lst (ns.map V.int))) else none) (fun b=>?_) (.inl (.inr ⟨{cls:=.type "list",data:=.seq vs.toArray},if_pos rfl⟩)) (fun b u z=>?_) (fun b z=>?_) fun _=>hk
  ·by_cases hb:b=a
   ·exact .inr ⟨_,_,if_pos hb⟩
   ·exact .inl (if_neg hb)
  ·by_cases hb:b=a
   ·have z':=(if_pos hb).symm.trans z
    cases z';subst hb;exact⟨ha,by rw[Za];exact hl,vs,_,rv,ha⟩
   ·have z':=(if_neg hb).symm.trans z
    cases z'
  ·by_cases hb:b=a
   ·exact hb
   ·exact absurd (if_neg hb) z
theorem Zaw {l:gD}{n k:Nat}{q:Program}{loose:List Str}{XP:(Str->Option Value)->Heap->Prop}{YP:World->Heap->Prop}{d:DefRec}{K:Params->ab}{CX:World->CXT}{sp:World->Sp}{x:Str}
  (hn:l.most=some n) (n4:n<=sizeLine) (n6:d.params.defaults=[]) (hr:Jc k callerA)
  (hY:∀(w:World) (h:Heap),YP w h->(K w.params).In h)
  (F:∀(w:World) (M:Str->Option Value) (fa:Addr) (h:Heap),(K w.params).In h->h.Ns mainGlobals M->M d.name=some (.ref fa)->
   ∃fd:FuncData,(∀(s:Shared) (u:Value),i3 s fd ⟨[u],[]⟩ [(x,u)])/\
    ∀base:Heap,(K w.params).In base->base.Ns mainGlobals M->ZR l.prog w (K w.params) M base (CX w) k fa fd [x] (sp w))
  (n8:∀(w:World) (H:Hp) (a:Addr) (ns:List Int),ns.length<=n->Znc H->Wr (K w.params) H a (ns.map V.int)->sp w [.ref a] H (fun v _=>v=.bl true) fun _ _ _=>False)
  (n9:∀(w:World) (H:Hp) (s:Shared) (e:Value) (s':Shared),CX w [] H s (fun _ _ _=>False) e s'->False) :
  md q loose XP YP l.row.toRowW d [] (fun f vs=>l8 f vs):=by
 refine Att.ZcS hn n6 fun w o5 O M mb fa o pm cd o6 a vs ns G Y ho hd o7 o0 U J j hg=>?_;have KX:=hY w _ Y;obtain⟨fd,hb,hF⟩:=F w M fa _ KX G.T.g o0;exact ZhX KX G.T.g G.T.b G.T.builtins G.T.nolimit hg U J (a5 j n4) hr hF hb (fun H hO hS=>n8 w H a ns j hO hS) fun H e s'=>n9 w H O e s'
noncomputable def Wj (s:Stmt):Arguments:=match s with
 | .FunctionDef _ a _ _ _ _ _ _ _ _=>a
 |_=>{posonlyargs:=[],args:=[],vararg:=none,kwonlyargs:=[],kw_defaults:=[],kwarg:=none,defaults:=[]}
noncomputable def Y2 (s:Stmt):List Stmt:=match s with
 | .FunctionDef _ _ b _ _ _ _ _ _ _=>b
 |_=>[]
noncomputable def Z3 (s:Stmt):cZ:=match s with
 | .FunctionDef _ _ _ _ _ _ j _ _ _=>j
 |_=>{kind:=.function,names:=[],isGenerator:=false,isCoroutine:=false}
noncomputable abbrev ZT:CXT:=fun _ _ _ _ _ _=>False
noncomputable abbrev E0:XK:=fun _ _ _=>False
theorem ZF {X:Cx}:Zbv ZT X E0:=fun _ _ _ _ _ _ _ h=>h.elim
structure Y5 (K:ab)(x qual:Str)(st:Stmt)(f:Addr)(fd:FuncData):Prop where
 ex:∃(oc:Value) (od:Option Addr) (kV doc pm:Value) (an:Option Addr) (cdv ct:Value) (osl:Array (Option Value)),
  fd=cr x qual (Wj st) (Y2 st) (Z3 st) .none kV doc pm an cdv ct/\K.lookup f=some ⟨oc,od,.func fd,osl⟩/\fj K cdv qual=true
 kp:dY K (.ref f)=true
section
variable {P:Program}{w:World}{K:ab}{mg:Str->Option Value}{base:Heap}
theorem Y5.ok {x j:Str}{st:Stmt}{f:Addr}{fd:FuncData}{N O:List Str}{k:Nat}{sp:Sp}(F:Y5 K x j st f fd)(S:VM N O (Z3 st))(len:∀vs H Q E,sp vs H Q E->vs.length=O.length)
  (M:∀(J:Value) (A:Around) (outer:List Env) (s:Shared) (H:Hp) (vs:List V) (Q:VK) (E:XK),Jc k (A.deeper (envOfC j (Z3 st) s.heap.objs.size f J))->sp vs H Q E->
   ∃t,PSs (Zf1 ZT P w K mg base N j (Z3 st) f J A outer s H E).nox (Y2 st) t/\t {nx:=fun _ H'=>Q .non H',rt:=Q} (start N vs) H):ZR P w K mg base ZT (k+1) f fd O sp:=by
 obtain⟨oc,od,kV,doc,pm,an,J,ct,n4,rfl,lk,U⟩:=F.ex;refine Zoz lk U S len fun A outer s H vs Q E hr Y=>?_;obtain⟨t,h,q⟩:=M J A outer s H vs Q E hr Y;exact⟨t,h.nox,q⟩
theorem Y5.binds {x j:Str}{st:Stmt}{f:Addr}{fd:FuncData}{J:List Str}(F:Y5 K x j st f fd)
  (h:∀(kV doc pm:Value) (an:Option Addr) (q ct:Value) (us:List Value),us.length=J.length->bindArgs (cr x j (Wj st) (Y2 st) (Z3 st) .none kV doc pm an q ct) ⟨us,[]⟩=pure (J.zip us)):Binds K fd J []:=by
 obtain⟨U,Y,kV,doc,pm,an,q,ct,M,rfl,lk,O⟩:=F.ex;exact .all (h kV doc pm an q ct)
theorem ZdD {x j:Str}{st:Stmt}{f:Addr}{M:Value}{O an:Option Addr}{J:Array (Option Value)}{kV doc pm q ct:Value}(l:K.lookup f=some ⟨M,O,.func (cr x j (Wj st) (Y2 st) (Z3 st) .none kV doc pm an q ct),J⟩)
  (c:fj K q j=true) (k:dY K (.ref f)=true):Y5 K x j st f (cr x j (Wj st) (Y2 st) (Z3 st) .none kV doc pm an q ct):=⟨⟨M,O,kV,doc,pm,an,q,ct,J,rfl,l,c⟩,k⟩
end
section
variable {X:Cx}
end
theorem Y0 {c A B:Prop} [Decidable c](j:c->A)(q:¬c->B):if c then A else B:=by
 by_cases h:c
 ·rw[if_pos h]
  exact j h
 ·rw[if_neg h]
  exact q h
noncomputable def Same (H j:Hp):Prop:=∀b o,H b=some o->j b=some o
theorem Same.refl (H:Hp):Same H H:=fun _ _ h=>h
theorem Same.trans {H j q:Hp}(a:Same H j)(b:Same j q):Same H q:=fun c o h=>b c o (a c o h)
theorem Same.free {H j:Hp}(e:Same H j){l:Addr}(h:j l=Option.none):H l=Option.none:=by
 cases q:H l with
 |none=>rfl
 |some o=>
  rw[e l o q] at h;cases h
theorem Same.seq {K:ab}{H j:Hp}{a:Addr}{xs:List V}(e:Same H j)(h:Wr K H a xs):Wr K j a xs:=by
 rcases h with (h|⟨o,h⟩)|h
 ·exact .inl (.inl (e _ _ h))
 ·exact .inl (.inr ⟨o,e _ _ h⟩)
 ·exact .inr h
end L2
set_option maxHeartbeats 4000000
namespace L2
open PySem PySem.Spec PyProof.Rows
structure Jd (N:List Str)(esc:cZ)(own:List Str)(caps:List Nat)(N':List Str)(sc:cZ):Prop where
 kind:sc.kind=.function
 ndn:(sc.names.map (·.1)).Nodup
 uniq:∀y∈sc.names,y.2=.local->sc.names.lookup y.1=some .local
 nd:N'.Nodup
 eqN:N'=own++caps.map fun j=>N.getD j ""
 cap:∀j∈caps,j<N.length/\sc.names.lookup (N.getD j "")=some .free
 fr:∀y∈sc.names,y.2=.free->esc.names.lookup y.1=some .cell\/esc.names.lookup y.1=some .free
noncomputable def Js (J:List Str)(q:List Nat)(M:St):St:=ak J.length none++q.map fun j=>(M[j]?).join
theorem Xa {env:Env}:∀(names:List (Str×eW)) (ZG:List (Str×Addr)),(∀y∈names,y.2=.free->∃c,env.cells.lookup y.1=some c)->(∀y c,ZG.lookup y=some c->env.cells.lookup y=some c)->
  ∃cl,(forIn names ZG (fun x r=>if (x.2 == fC)=true then (do let c <-cellOf env x.1;pure (cS ((x.1,c)::r))) else pure (cS r)):Sem (List (Str×Addr)))=pure cl/\
   (∀y c,cl.lookup y=some c->env.cells.lookup y=some c)/\(∀y,(∃c,ZG.lookup y=some c)->∃c,cl.lookup y=some c)/\∀y∈names,y.2=.free->∃c,cl.lookup y.1=some c
 | [],ZG,_,M=>⟨ZG,rfl,M,fun _ h=>h,fun _ h=>absurd h (by simp)⟩
 | (n,k)::r,ZG,Y,M=>by
  rw[jL];by_cases hk:k=.free
  ·subst hk
   obtain⟨c,hc⟩:=Y (n,.free) aE rfl;have n4:∀y d,((n,c)::ZG).lookup y=some d->env.cells.lookup y=some d:=fun y d e=>by
    rw[dB] at e;cases q:y == n with
    |true=>rw[q] at e;cases e;rw[beq_iff_eq.mp q];exact hc
    |false=>rw[q] at e;exact M y d e
   obtain⟨cl,e,h1,O,h3⟩:=Xa r ((n,c)::ZG) (fun y j=>Y y (aH _ j)) n4;have hh:∀y,(∃d,ZG.lookup y=some d)->∃d,((n,c)::ZG).lookup y=some d:=fun y ⟨d,hd⟩=>by
    rw[dB];cases q:y == n with
    |true=>exact⟨c,rfl⟩
    |false=>exact⟨d,hd⟩
   have hs:∃d,((n,c)::ZG).lookup n=some d:=⟨c,by rw[dB,beq_self_eq_true]⟩;refine⟨cl,?_,h1,fun y j=>O y (hh y j),fun y j U=>?_⟩
   ·have J:cellOf env n=pure c:=by simp only[cellOf,hc]
    simp only[beq_self_eq_true,if_true,J];simp only[pure_bind];exact e
   ·rcases aF.mp j with rfl|j
    ·exact O _ hs
    ·exact h3 y j U
  ·obtain⟨cl,e,h1,O,h3⟩:=Xa r ZG (fun y j=>Y y (aH _ j)) M
   refine⟨cl,?_,h1,O,fun y j U=>?_⟩
   ·have hb:(k == fC)=false:=by simpa using hk
    simp only[hb,dM,if_false,pure_bind];exact e
   ·rcases aF.mp j with rfl|j
    ·exact absurd U hk
    ·exact h3 y j U
theorem UE {scope:cZ}{env:Env}(h:∀y∈scope.names,y.2=.free->∃c,env.cells.lookup y.1=some c) :
  ∃cl,closureFor scope env=pure cl/\(∀y c,cl.lookup y=some c->env.cells.lookup y=some c)/\∀y∈scope.names,y.2=.free->∃c,cl.lookup y.1=some c:=by
 obtain⟨cl,e,j,_,J⟩:=Xa (env:=env) scope.names [] h (fun y c e=>by simp at e);refine⟨cl,?_,j,J⟩;have q:closureFor scope env=((forIn scope.names ([]:List (Str×Addr)) (fun x r=>if (x.2 == fC)=true then (do let c <-cellOf env x.1;pure (cS ((x.1,c)::r))) else pure (cS r)):Sem (List (Str×Addr))) >>= fun M=>pure M):=rfl
 rw[q,e];rfl
theorem WI {names:List (Str×eW)}{x:Str}{k:eW}(h:names.lookup x=some k):(x,k)∈names:=bw h
theorem YZ {env:Env}{x:Str}:∀{names:List (Str×eW)}{k:eW},
  (names.map fun (n,k)=>if (k == fC && env.scope.kind == .function && env.kindOf n == some .cell) then (n,dH) else (n,k)).lookup x=some k->
  names.lookup x=some k\/(k=.cell/\names.lookup x=some .free)
 | [],_,h=>by simp at h
 | (n,j)::r,k,h=>by
  have O:=@YZ env x r k;have h:List.lookup x ((if (j == fC && env.scope.kind == .function && env.kindOf n == some .cell)=true then (n,dH) else (n,j))::_)=some k:=h
  rw[dB];by_cases J:(j == fC && env.scope.kind == .function && env.kindOf n == some .cell)=true
  ·rw[if_pos J,dB] at h
   have M:j=.free:=by
    simp only[ag,beq_iff_eq] at J;exact J.1.1
   cases q:x == n with
   |true=>rw[q] at h;cases h;right;exact⟨rfl,by rw[M]⟩
   |false=>rw[q] at h;exact O h
  ·rw[if_neg J,dB] at h
   cases q:x == n with
   |true=>rw[q] at h;cases h;left;rfl
   |false=>rw[q] at h;exact O h
section
variable {X:Cx}
noncomputable def ZiD (scope:cZ)(x:Str):Bool:=scope.names.any fun y=>y.1 == x && (match y.2 with | .cell=>true|_=>false)
theorem Zf9 {scope:cZ}{x:Str}(h:ZiD scope x=true):(x,dH)∈scope.names:=by
 unfold ZiD at h;obtain⟨⟨n,k⟩,hm,j⟩:=a6.mp h;rw[ag] at j;obtain⟨q,J⟩:=j;have e:n=x:=by simpa using q
 subst e;cases k <;> first|exact hm|cases J
theorem X2 {x:Str}{k:eW}:∀{names:List (Str×eW)},(names.map (·.1)).Nodup->(x,k)∈names->names.lookup x=some k
 | [],_,h=>by cases h
 | (n,j)::r,nd,h=>by
  rw[aL,bG] at nd;rw[dB];rcases aF.mp h with e|h
  ·cases e
   simp
  ·have:(x == n)=false:=by
    refine mY.mpr fun z=>nd.1 ?_;rw[<-beq_iff_eq.mp z];exact aN.mpr ⟨_,h,rfl⟩
   rw[this];exact X2 nd.2 h
theorem JU:∀(names:List (Str×eW)) (n:Nat) (ZG:List (Str×Addr)),cellsFrom n names ZG=cellsFrom n names []++ZG
 | [],n,ZG=>rfl
 |(x,k)::r,n,ZG=>by
  unfold cellsFrom;by_cases j:(k == dH)=true
  ·rw[if_pos j,if_pos j,JU r (n+1) ((x,n)::ZG),JU r (n+1) [(x,n)],fz]
   rfl
  ·rw[if_neg j,if_neg j,JU r n ZG]
theorem Va {x:Str}{c:Addr}:∀(names:List (Str×eW)) (n:Nat) (ZG:List (Str×Addr)),(x,c)∈cellsFrom n names ZG->(x,dH)∈names\/(x,c)∈ZG
 | [],n,ZG,h=>.inr h
 | (y,k)::r,n,ZG,h=>by
  unfold cellsFrom at h;by_cases j:(k == dH)=true
  ·rw[if_pos j] at h
   rcases Va r (n+1) _ h with z|z
   ·exact .inl (aH _ z)
   ·rcases aF.mp z with e|z
    ·cases e
     have:k=.cell:=by cases k <;> first|rfl|cases j
     rw[this];exact .inl aE
    ·exact .inr z
  ·rw[if_neg j] at h
   rcases Va r n _ h with z|z
   ·exact .inl (aH _ z)
   ·exact .inr z
theorem ZjT {M:Model}{A:Around}{E:Value->Shared->Prop}{s:Shared}{scope:cZ}{globals:Addr}{cl:List (Str×Addr)}{qual:Str}{j:Env}{Q:Env->Shared->Prop}
  (U:Q (newEnv scope s.heap.objs.size globals (cellsFrom (s.heap.objs.size+1) scope.names cl) qual none .none (some j) builtinsNs) {s with heap:=pushCells (s.heap.push {cls:=.type "dict",data:=.dict #[]}) scope.names}) :
  wpAny M A (newFunctionEnv scope globals cl [] qual none .none (some j)) Q E s:=by
 unfold newFunctionEnv;refine Zl (wpAny_alloc ?_);refine Zl (wpAny_layCells _ (fun O kind q=>by cases J:kind == dH <;> simp[J]) _ _ _ _ ?_)
 rw[show ({s with heap:=s.heap.push {cls:=.type (if (some j).isSome=true then "dict" else "frame"),data:=.dict #[]}}:Shared).heap.objs.size=s.heap.objs.size+1 from bo ..]
 exact Zl (by rw[j7];exact Zm (Zm U))
noncomputable def YQ (X:Cx)(scope:cZ)(j:List (Str×Addr))(q:List Str)(C:Addr)(s:Shared)(H:Hp)(ex:List Addr):Cx:=
 {X with N:=q,s₀:=s,H₀:=H,env:=compEnvC scope j C X.env,outer:=X.stack,ex:=ex,fn:=ZiD scope,pn:=[],xe:=fun _ _=>False}
noncomputable def WL (n4:List Str)(q:List Nat)(g:TG)(tc:TT)(te:TE)(σ:St)(Q:VK)(J:It)(H1:Hp):Prop:=∀D,H1 D=none->
 ∃W:Nat->Nat->St->Hp->Prop,(∃m,W 0 m (Js n4 q σ) (upd H1 D (.lst [])))/\∀i m M O,W i m M O->
  (J.stop i O/\Q (.ref D) O)\/(J.go i O/\∃N:St->Hp->Prop,(∀ U Y,N U Y->∃m',m'<m/\W (i+1) m' U Y)/\∀x Y,J.yld i O x Y->g x M Y fun j H3=>tc j H3 fun b H4=>
   if b=true then te j H4 fun v H5=>∃xs,H5 D=some (.lst xs)/\xs.length<sizeLine/\N j (upd H5 D (.lst (xs++[v]))) else N j H4)
noncomputable def Zd0 (q:List Str)(j:List Nat)(O:TI)(g:TG)(U:TT)(Y:TE):TE:=fun M H Q=>O M H fun J H1=>WL q j g U Y M Q J H1
noncomputable def Wv:TT:=fun _ H Q=>Q true H
noncomputable def PIf (X:Cx)(q:List Expr)(t:TT):Prop:=
 ∀(j:List (Addr×Obj)) (s:Shared) (J:St) (H:Hp) (Q:Bool->Hp->Prop),Inv X j J H s->t J H Q->
  wpAny (model X.prog X.w) X.A (forIn q true fun c r=>if r=true then do let ok <-isTrue c X.env (eval c X.env);pure (cS ok) else pure (cS r)) (TP X j J Q) X.xe s
theorem ZN:PIf X [] Wv:=fun _ _ _ H _ I h=>wpAny_tests_nil ⟨H,I,h⟩
theorem Zjj {c:Expr}{t:TT}(h:PT X c t):PIf X [c] t:=fun j s J H Q I q=>wpAny_tests_one (h j s J H Q I q)
theorem JE {prog:Program}{w:World}{A:Around}{R:Result->Shared->Prop}{s:Shared}{elt j iter:Expr}{ifs:List Expr}{scope:cZ}{pos:Pos}{it ZG:Value}{env:Env}(I:Nat->Shared->Prop)
  (turn:∀n s,I n s->wpAny (model prog w) A (pyNext it) (fun r q=>match r with
   |none=>R (.ok .next) q
   |some v=>wpAny (model prog w) A (letOwnedTupleGo j it v) (fun _ J=>wpAny (model prog w) A (assign j env v) (fun _ U=>
     wpAny (model prog w) A (forIn ifs true fun c r=>if r=true then do let ok <-isTrue c env (eval c env);pure (cS ok) else pure (cS r)) (fun ok M=>
      if ok=true then wpAny (model prog w) A (eval elt env) (fun x Y=>
       wpAny (model prog w) A (call (.builtin "list.append") [ZG,x]) (fun _ n4=>∃m,m<n/\I m n4) (fun _ _=>False) Y) (fun _ _=>False) M
      else ∃m,m<n/\I m M) (fun _ _=>False) U) (fun _ _=>False) J) (fun _ _=>False) q) (fun _ _=>False) s)
  (n:Nat) (h:I n s) :
  codeAny (model prog w) A (.compLoop (.ListComp elt [⟨j,iter,ifs,0⟩] scope pos) 0 it ZG env) R s:=by
 refine codeAny_loop rfl I (fun n s hI=>?_) n h;show wpAny _ A ((compTurn (.ListComp elt [⟨j,iter,ifs,0⟩] scope pos) 0 it ZG env).onRaise (fun x=>do noteFrame x env;theTreesLotGoes x)) _ _ s
 refine wpAny_noted ?_;rw[compTurn_list];refine Zl (lZ (Zl (cD (turn n s hI) (fun r q n6=>?_) fun _ _ O=>O.elim)));cases r with
 |none=>exact Zm n6
 |some v=>
  refine Zl (cD n6 (fun _ J n9=>?_) fun _ _ O=>O.elim);refine Zl (cD n9 (fun _ U o0=>Zl (cD o0 (fun ok M n8=>?_) fun _ _ O=>O.elim)) fun _ _ O=>O.elim);cases ok with
  |false=>exact Zm ⟨rfl,n8⟩
  |true=>
   exact Zl (Zl (cD n8 (fun x Y o5=>Zl (cD o5 (fun _ n4 o6=>Zm (Zm ⟨rfl,o6⟩)) fun _ _ O=>O.elim)) fun _ _ O=>O.elim))
theorem Uw {own:List Str}{o8:List Nat}{N':List Str}{y9 scope:cZ}{elt iter tg:Expr}{ifs:List Expr}{pos:Pos}{g:TG}{tc:TT}{te:TE}{cl:List (Str×Addr)}
  (hesc:X.env.scope=y9) (S:Jd X.N y9 own o8 N' scope) (hc:X.calm=true)
  (n4:∀y c,cl.lookup y=some c->X.env.cells.lookup y=some c) (t6:∀y∈scope.names,y.2=.free->∃c,cl.lookup y.1=some c)
  (hg:∀cl C s H ex,PG (YQ X scope cl N' C s H ex) tg g) (ht:∀cl C s H ex,PIf (YQ X scope cl N' C s H ex) ifs tc) (he:∀cl C s H ex,PE (YQ X scope cl N' C s H ex) elt te)
  {n8:List (Addr×Obj)}{σ:St}{H2:Hp}{s2:Shared}{it:Addr}{fp:List Addr}{tn:Nat->Heap->Prop}{J:It}{Q:VK}{RR:Value->Addr->Result->Shared->Prop}{E:Value->Shared->Prop}
  (I2:Inv X n8 σ H2 s2) (T:UW X.prog X.w X.K tg J fp it tn) (u9:tn 0 s2.heap) (f2:∀b∈fp,UY X n8 H2 b)
  (h:WL own o8 g tc te σ Q J H2)
  (hRR:∀D C s' m H',s'.heap.Ns C m->C≠X.env.locals->(∀x c,X.env.cells.lookup x=some c->c≠C)->X.s₀.heap.objs.size<=C->(∀p∈X.pn++n8,p.1≠C)->H' C=none->Q (.ref D) H'->(∀h',bd C s'.heap h'->Inv X n8 σ H' {s' with heap:=h'})->RR (.ref D) C (.ok .next) s') :
  wpAny (model X.prog X.w) X.A (newList []) (fun ZG s₃=>wpAny (model X.prog X.w) X.A (newFunctionEnv scope X.env.globals cl [] X.env.qual none .none (some X.env)) (fun t7 s₄=>
   codeAny (model X.prog X.w) X.A (.compStart (.ListComp elt [⟨tg,iter,ifs,0⟩] scope pos) 0 (.ref it) ZG {t7 with scope:=relabel scope X.env}) (RR ZG t7.locals) s₄) E s₃) E s2:=by
 refine ba (ZjT ?_);dsimp only;have hD:H2 s2.heap.objs.size=none:=I2.hok.fresh (Zq _);obtain⟨W,⟨m0,w0⟩,turn⟩:=h _ hD;generalize w8:s2.heap.push {cls:=.type "list",dict:=none,data:=.seq ([]:List Value).toArray}=O;have hC:O.objs.size=s2.heap.objs.size+1:=by rw[<-w8,bo]
 have t9:∀b o,s2.heap.get? b=some o->O.get? b=some o:=fun b o e=>w8▸Zn _ e;have I3:Inv X n8 σ (upd H2 s2.heap.objs.size (.lst [])) {s2 with heap:=O,toks:=s2.toks}:=
  I2.laid (t':=s2.toks) t9 (Zq _) ⟨aX _,[],0,.nil,w8▸Zo _ rfl⟩
 generalize x0:pushCells (O.push {cls:=.type "dict",data:=.dict #[]}) scope.names=n9;have k1:∀b o,O.get? b=some o->n9.get? b=some o:=fun b o e=>x0▸pushCells_keeps _ _ b o (Zn _ e);have p7:n9.Ns O.objs.size (fun _=>none):=x0▸(Heap.Ns.new O (.type "dict")).keeps (pushCells_keeps _ _);have p8:CellsOk n9 (O.objs.size+1) (cellsFrom (O.objs.size+1) scope.names []):=by
  have q:=cellsFrom_ok scope.names (O.push {cls:=.type "dict",data:=.dict #[]}) (O.objs.size+1) [] ⟨fun _ _ hm=>(nomatch hm),fR⟩ (by rw[bo];exact Zq _);rw[bo,x0] at q;exact q
 have o9:cellsFrom (O.objs.size+1) scope.names cl=cellsFrom (O.objs.size+1) scope.names []++cl:=JU _ _ _;have o5:∀y,scope.names.lookup y=some .cell->∃c,(cellsFrom (O.objs.size+1) scope.names []).lookup y=some c:=fun y hy=>j6.mp (gL scope.names (O.objs.size+1) [] (.inl hy));generalize hcA:cellsFrom (O.objs.size+1) scope.names []=cA at p8 o9 o5;have memA:∀y c,cA.lookup y=some c->(y,dH)∈scope.names:=fun y c e=>by
  have:=bw e;rw[<-hcA] at this;rcases Va _ _ _ this with z|z
  ·exact z
  ·cases z
 generalize hcE:cellsFrom (O.objs.size+1) scope.names cl=cE at o9;have p3:∀y c,cE.lookup y=some c->cA.lookup y=some c\/(cA.lookup y=none/\cl.lookup y=some c):=fun y c e=>by
  rw[o9,iU] at e;cases q:cA.lookup y with
  |none=>rw[q] at e;exact .inr ⟨rfl,by simpa using e⟩
  |some c'=>rw[q] at e;exact .inl (by simpa using e)
 have lkF:∀y c,scope.names.lookup y=some .free->cl.lookup y=some c->cE.lookup y=some c:=fun y c hy e=>by
  rw[o9,iU];cases q:cA.lookup y with
  |none=>simpa using e
  |some c'=>
   have:=X2 S.ndn (memA y c' q);rw[hy] at this;cases this
 have fpn:∀b∈fp,upd H2 s2.heap.objs.size (.lst []) b=none:=fun b hb=>by
  obtain⟨o,ho,_⟩:=T.obj _ _ u9 b hb;rw[Zx (aB (Zp ho))];exact (f2 b hb).1
 have p4:∀b∈fp,b<O.objs.size:=fun b hb=>by
  obtain⟨o,ho,_⟩:=T.obj _ _ u9 b hb;rw[hC];exact fG (Zp ho)
 generalize M:YQ X scope cE N' O.objs.size {s2 with heap:=O,toks:=s2.toks} (upd H2 s2.heap.objs.size (.lst [])) fp=X';have hfs:X'.fs=frs X.stack:=by rw[<-M];rfl
 have x6:∀y,X'.env.kindOf y=some .cell\/X'.env.kindOf y=some .free->∃c,cE.lookup y=some c:=fun y hy=>by
  have hy':(relabel scope X.env).names.lookup y=some .cell\/(relabel scope X.env).names.lookup y=some .free:=by rw[<-M] at hy;exact hy
  have hf:scope.names.lookup y=some .free->∃c,cE.lookup y=some c:=fun hf=>by
   obtain⟨c,o6⟩:=t6 _ (WI hf) rfl;exact⟨c,lkF y c hf o6⟩
  have r6:scope.names.lookup y=some .cell->∃c,cE.lookup y=some c:=fun hf=>by
   obtain⟨c,o6⟩:=o5 y hf;exact⟨c,by rw[o9,iU,o6];rfl⟩
  rcases hy' with q|q
  ·rcases YZ q with z|z
   ·exact r6 z
   ·exact hf z.2
  ·rcases YZ q with z|z
   ·exact hf z
   ·exact absurd z.1 (by decide)
 have n6:X'.env.cells=cE:=by rw[<-M];rfl
 have o0:X'.env.locals=O.objs.size:=by rw[<-M];rfl
 have cne:∀x c,cl.lookup x=some c->c≠O.objs.size/\c<O.objs.size:=fun x c e=>by
  obtain⟨v,q⟩:=I3.cell x c (n4 x c e);exact⟨aB q.lt,q.lt⟩
 have U:∀x c,cA.lookup x=some c->O.objs.size+1<=c:=fun x c e=>(p8.empty x c (bw e)).2;have injE:∀x y c,cE.lookup x=some c->cE.lookup y=some c->x=y:=fun x y c a b=>by
  rcases p3 x c a with a|⟨_,a⟩ <;> rcases p3 y c b with b|⟨_,b⟩
  ·exact name_of_addr p8.apart (bw a) (bw b)
  ·have h1:O.objs.size+1<=c:=U x c a
   exact absurd (aC (cne y c b).2 (ee h1)) (cg _)
  ·have h1:O.objs.size+1<=c:=U y c b
   exact absurd (aC (cne x c a).2 (ee h1)) (cg _)
  ·exact I3.ok.inj x y c (n4 x c a) (n4 y c b)
 have ok':X'.Ok:=by
  refine M▸⟨I3.ok.mod,S.kind,I3.ok.glob,I3.ok.blt,Zq _,injE,?_,?cab,I3.ok.hd,I3.ok.frames,.inl rfl,?_,?_,?_,?_,?_,I3.stack,I3.stkFree⟩
  ·intro y hy
   exact x6 y (by rw[<-M];exact hy)
  ·intro x c z e
   have hm:=X2 S.ndn (Zf9 z);rcases p3 x c e with e|⟨n,_⟩
   ·exact ee (U x c e)
   ·obtain⟨c',o6⟩:=o5 x hm
    rw[n] at o6;cases o6
  ·intro b hb
   refine⟨aB (p4 b hb),fun x c e=>?_⟩;rcases p3 x c e with e|⟨_,e⟩
   ·have h1:O.objs.size+1<=c:=U x c e
    exact fun z=>absurd (aC (p4 b hb) (ee h1)) (by rw[z];exact cg _)
   ·exact (f2 b hb).2.2.2.2.1 x c (n4 x c e)
  ·exact I3.bs
  ·exact a5 I3.ok.bsz I3.sz
  ·intro b o e hb
   rcases (f2 b hb).2.2.2.1 with z|z
   ·exact I3.ok.noex b o e z
   ·exact absurd (aC (Zp e) (a5 I3.ok.bsz z)) (cg _)
  ·intro b hb z
   rcases aF.mp (I3.stkSub b z) with e|e
   ·exact (f2 b hb).2.1 e
   ·exact (f2 b hb).2.2.1 e
 have I4:Inv X' [] (Js own o8 σ) (upd H2 s2.heap.objs.size (.lst [])) {s2 with heap:=n9,toks:=s2.toks}:=by
  refine⟨ok',M▸rfl,I3.bare,?_,⟨_,by rw[o0];exact p7,?_⟩,?_,?_,?_,?_,?_,?_⟩
  ·rw[<-M];exact Un.kept k1
  ·intro i x v hN o7 hV
   have x8:N'[i]?=some x:=by rw[<-M] at hN;exact hN
   unfold Js at o7;by_cases hi:i<own.length
   ·rw[aw (by simpa using hi),b8] at o7
    rw[if_pos hi] at o7;cases o7
   ·rw[ax (by simpa using hi),Ze,Zc] at o7
    rw[S.eqN,ax (by omega),Zc] at x8;cases hj:o8[i-own.length]? with
    |none=>rw[hj] at o7;cases o7
    |some j=>
     rw[hj] at o7 x8;have hx:X.N.getD j ""=x:=ay x8;obtain⟨hjl,p6⟩:=S.cap j (av hj);rw[hx] at p6;have hjN:X.N[j]?=some x:=by
      rw[Zf hjl,<-hx,Zb,Zf hjl];rfl
     have hv:σ[j]?=some (some v):=by
      have q:(σ[j]?).join=some v:=ay o7;cases q':σ[j]? with
      |none=>rw[q'] at q;cases q
      |some o=>rw[q'] at q;rw[show o=some v from q]
     have x9:=S.fr (x,.free) (WI p6) rfl;rw[<-hesc] at x9;obtain⟨m,hn,hl⟩:=I3.loc;have visX:Vis X.env.scope x:=x9.elim (fun z=>.inr (.inl z)) fun z=>.inr (.inr z);obtain⟨u,ru,look⟩:=hl j x v hjN hv visX;refine⟨u,ru,?_⟩;obtain⟨c,r6⟩:=t6 (x,.free) (WI p6) rfl;rcases look with ⟨a,_⟩|⟨_,c',o6,y4⟩
     ·rcases x9 with z|z
      ·rw[show X.env.kindOf x=X.env.scope.names.lookup x from rfl,z] at a;cases a
      ·rw[show X.env.kindOf x=X.env.scope.names.lookup x from rfl,z] at a;cases a
     ·have:c'=c:=by rw[n4 _ _ r6] at o6;cases o6;rfl
      subst this;refine .inr ⟨?_,c',by rw[n6];exact lkF _ _ p6 r6,y4.keeps k1⟩;rcases hV with q|q|q
      ·have q':(relabel scope X.env).names.lookup x=some .local:=by rw[<-M] at q;exact q
       rcases YZ q' with z|z
       ·rw[p6] at z;cases z
       ·exact absurd z.1 (by decide)
      ·exact .inl q
      ·exact .inr q
  ·intro x c e
   rw[n6] at e;rcases p3 x c e with e|⟨_,e⟩
   ·exact⟨_,(p8.empty x c (bw e)).1⟩
   ·obtain⟨v,q⟩:=I3.cell x c (n4 x c e)
    exact⟨v,q.keeps k1⟩
  ·rw[o0];exact I3.hok.fresh (Zq _)
  ·intro x c e
   rw[n6] at e;rcases p3 x c e with e|⟨_,e⟩
   ·exact I3.hok.fresh (ee (U x c e))
   ·exact I3.freeC x c (n4 x c e)
  ·intro p hp
   have:p∈([]:List (Addr×Obj)):=by rw[<-M] at hp;exact hp
   cases this
  ·rw[<-M];exact I3.hok.kept k1
  ·rw[<-M]
   show (Js own o8 σ).length=N'.length;unfold Js;rw[S.eqN,Zd,Zd,Ze,Za,Za]
 have pX:X'.prog=X.prog:=by rw[<-M];rfl
 have wX:X'.w=X.w:=by rw[<-M];rfl
 have KX:X'.K=X.K:=by rw[<-M];rfl
 have AX:X'.A=X.A:=by rw[<-M];rfl
 have cX:X'.calm=true:=by rw[<-M];exact hc
 have xX:X'.xe=fun _ _=>False:=by rw[<-M];rfl
 have envX:X'.env=compEnvC scope cE O.objs.size X.env:=by rw[<-M];rfl
 have exX:X'.ex=fp:=by rw[<-M];rfl
 have hg':PG X' tg g:=M▸hg _ _ _ _ _;have ht':PIf X' ifs tc:=M▸ht _ _ _ _ _;have he':PE X' elt te:=M▸he _ _ _ _ _;have y6:∀{H':Hp},(∀b∈fp,H' b=none)->∀b∈fp,UY X' [] H' b:=fun {H'} hn b hb=>by
  refine⟨hn b hb,?_,?_,?_,?_,?_⟩
  ·rw[o0];exact aB (p4 b hb)
  ·rw[hfs];intro z
   rcases aF.mp (I3.stkSub b z) with e|e
   ·exact (f2 b hb).2.1 e
   ·exact (f2 b hb).2.2.1 e
  ·rw[exX];exact .inl hb
  ·intro x c e
   rw[n6] at e;rcases p3 x c e with e|⟨_,e⟩
   ·have h1:O.objs.size+1<=c:=U x c e
    exact fun z=>absurd (aC (p4 b hb) (ee h1)) (by rw[z];exact cg _)
   ·exact (f2 b hb).2.2.2.2.1 x c (n4 x c e)
  ·intro p hp
   have:p∈([]:List (Addr×Obj)):=by rw[<-M] at hp;exact hp
   cases this
 have st1:tn 0 n9:=T.keep _ _ _ u9 fun b hb o e=>k1 b o (t9 b o e);have back:∀{Y:St}{H':Hp}{s':Shared}{pp:List (Addr×Obj)}{h':Heap},Inv X' pp Y H' s'->bd O.objs.size s'.heap h'->Inv X n8 σ H' {s' with heap:=h'}:=fun {Y H' s' pp h'} I' sb=>by
  have u:=I'.base;rw[hfs,exX] at u;have hs0:X'.s₀.heap=O:=by rw[<-M];rfl
  have hH0:X'.H₀=upd H2 s2.heap.objs.size (.lst []):=by rw[<-M];rfl
  rw[hs0,hH0] at u;have ne:∀b o,O.get? b=some o->b≠O.objs.size:=fun b o e=>aB (Zp e);have hCn:H' O.objs.size=none:=by have:=I'.free;rw[o0] at this;exact this
  refine I3.call' (s':={s' with heap:=h'}) (ch:=fp) ?_ ⟨?_,?_,?_,?_,?_,?_,?_⟩ ?_ I'.bare ?_
  ·have:=I'.os;rw[<-M] at this;exact this
  ·intro b o e n hb hx;exact sb.extBut b o (ne b o e) (u.keep b o e n hb hx)
  ·intro b o e n hb hx
   obtain⟨sl,q⟩:=u.slot b o e n hb hx;exact⟨sl,sb.extBut b _ (ne b o e) q⟩
  ·exact u.free
  ·intro b o e hx
   obtain⟨o',q⟩:=u.there b o e hx;exact⟨o',sb.extBut b _ (ne b o e) q⟩
  ·exact u.tups
  ·exact u.frzs
  ·exact u.tbls
  ·have hok:=I'.hok
   rw[pX,wX] at hok;intro a o e;refine (hok a o e).stay (fun b v hb r=>sb.extBut b v ?_ r) (fun b r=>r) fun b xs r=>r;rcases hb with rfl|hb
   ·intro z;rw[z,hCn] at e;cases e
   ·intro z;rw[z,hCn] at hb;cases hb
  ·intro b hb
   refine⟨(f2 b hb).2.2.2.1,(f2 b hb).2.1,(f2 b hb).2.2.2.2.1,(f2 b hb).2.2.2.2.2⟩
 have u5:∀s3:Shared,s3={s2 with heap:=n9,toks:=s2.toks}->
   codeAny (model X.prog X.w) X.A (.compLoop (.ListComp elt [⟨tg,iter,ifs,0⟩] scope pos) 0 (.ref it) (.ref s2.heap.objs.size) (compEnvC scope cE O.objs.size X.env)) (RR (.ref s2.heap.objs.size) O.objs.size) s3:=by
  rintro s3 rfl;refine JE (fun n s'=>∃i Y H',Inv X' [] Y H' s'/\tn i s'.heap/\(∀b∈fp,H' b=none)/\W i n Y H') ?_ m0 ⟨0,_,_,I4,st1,fpn,w0⟩;rintro n s5 ⟨i,r8,H5,I5,st5,fr5,w5⟩;rcases turn i n r8 H5 w5 with ⟨stop,qn⟩|⟨go,N,hN,step⟩
  ·have q:=T.done X' pX wX KX cX i [] s5 r8 H5 (fun _ _=>False) I5 (y6 fr5) st5 stop
   rw[AX] at q;refine Yi q fun r s6 ⟨hr,I6⟩=>?_;subst hr;obtain⟨m,hn,_⟩:=I6.loc;rw[o0] at hn;refine hRR _ _ s6 m H5 hn ?_ ?_ I3.sz ?_ ?_ qn fun h' sb=>back I6 sb
   ·exact bt I3.lt
   ·intro x c e
    obtain⟨v,q⟩:=I3.cell x c e;exact aB q.lt
   ·intro pp hpp
    exact aB (Zp (I3.pin pp hpp).1)
   ·have:=I6.free;rw[o0] at this;exact this
  ·have q:=T.item X' pX wX KX cX i [] s5 r8 H5 (fun _ _=>False) I5 (y6 fr5) st5 go
   rw[AX] at q;refine Yi q fun r s6 ⟨u,hr,h6⟩=>?_;subst hr;refine Yi h6 fun _ s7 ⟨x,H7,I7,r7,y7,y8,fr7⟩=>?_;have I7':=I7.pinned (y6 fr7) (T.obj _ _ y8);have q8:=hg' _ s7 r8 H7 x u _ I7' r7 (step x H7 y7);rw[pX,wX,AX,envX,xX] at q8;refine Yi q8 fun _ s8 ⟨r9,H8,I8,q8⟩=>?_;have q9:=ht' _ s8 r9 H8 _ I8 q8;rw[pX,wX,AX,envX,xX] at q9;have again:∀{Y:St}{H':Hp}{s':Shared},Inv X' ([]++Ub fp s7.heap) Y H' s'->N Y H'->∃m,m<n/\∃i Y H',Inv X' [] Y H' s'/\tn i s'.heap/\(∀b∈fp,H' b=none)/\W i m Y H':=fun {Y H' s'} I' n'=>by
    obtain⟨m',hm,w'⟩:=hN Y H' n';refine⟨m',hm,i+1,Y,H',I'.unpinned,T.keep _ _ _ y8 fun b hb o e=>(I'.pin (b,o) (aS _ (aS _ (Ji hb e)))).1,fun b hb=>?_,w'⟩;obtain⟨o,e,d⟩:=T.obj _ _ y8 b hb;exact (I'.pin (b,o) (aS _ (aS _ (Ji hb e)))).2.1
   refine Yi q9 fun ok s9 ⟨H9,I9,q9⟩=>?_;cases ok with
   |false=>
    simp only[dM,if_false] at q9 ⊢;exact again I9 q9
   |true=>
    simp only[if_true] at q9 ⊢;have t0:=he' _ s9 r9 H9 _ I9 q9;rw[pX,wX,AX,envX,xX] at t0;refine Yi t0 fun y s10 ⟨v,H10,I10,rv,xs,hxs,hz,t0⟩=>?_;have t5:=Z2 (X:=X') _ s10 r9 H10 (.ref s2.heap.objs.size) [v] (.ref s2.heap.objs.size) [y] (fun _ H'=>N r9 H') I10 rfl (.cons rv .nil) ⟨_,xs,v,rfl,rfl,hxs,hz,t0⟩;rw[pX,wX,AX,xX] at t5;exact Yi t5 fun _ s11 ⟨_,H11,I11,_,t5⟩=>again I11 t5
 exact codeAny_compStart_list (u5 _ rfl) (T.self _ 0 _ _ _ st1 (u5 _ rfl))
theorem Zjq {own:List Str}{j:List Nat}{N':List Str}{Y scope:cZ}{elt iter tg:Expr}{ifs:List Expr}{pos:Pos}{wi:TI}{g:TG}{tc:TT}{te:TE}
  (M:X.env.scope=Y) (S:Jd X.N Y own j N' scope) (hc:X.calm=true) (hi:PI X tg iter wi)
  (hg:∀U C s H ex,PG (YQ X scope U N' C s H ex) tg g) (ht:∀U C s H ex,PIf (YQ X scope U N' C s H ex) ifs tc) (he:∀U C s H ex,PE (YQ X scope U N' C s H ex) elt te)
  (hs:∀x,foldedSetIterable iter X.env x=pure x:=by intro _;rfl) :
  PE X (.ListComp elt [⟨tg,iter,ifs,0⟩] scope pos) (Zd0 own j wi g tc te):=by
 intro O s σ H Q I h;obtain⟨U,n8,n4,n6⟩:=UE (scope:=scope) (env:=X.env) fun y hy hf=>by
  have:=S.fr y hy hf;rw[<-M] at this;exact I.ok.has y.1 this
 rw[eval_ListComp];refine l6 (use:=none) rfl hs n8 S.kind S.uniq (Yi (hi O s σ H _ I h) fun v s1 h1=>Yi h1 fun o0 s2 h2=>?_);obtain⟨it,fp,tn,J,H2,e,I2,T,n9,f2,q⟩:=h2;subst e;refine Uw (RR:=fun ZG C=>compPost (model X.prog X.w) X.A X.xe none (EP X O σ Q) ZG C) M S hc n4 n6 hg ht he I2 T n9 f2 q ?_;intro D C s' m H' hn _ _ _ _ _ q' hb;exact⟨m,hn,fun h' sb=>⟨.ref D,H',hb h' sb,rfl,q'⟩⟩
theorem Zdn {own:List Str}{M:List Nat}{N':List Str}{n4 scope:cZ}{elt iter tg:Expr}{ifs:List Expr}{pos O py:Pos}{y:Str}{i:Nat}{wi:TI}{g:TG}{tc:TT}{te:TE}
  (U:X.env.scope=n4) (S:Jd X.N n4 own M N' scope) (hc:X.calm=true) (hi:PI X tg iter wi)
  (hg:∀cl C s H ex,PG (YQ X scope cl N' C s H ex) tg g) (ht:∀cl C s H ex,PIf (YQ X scope cl N' C s H ex) ifs tc) (he:∀cl C s H ex,PE (YQ X scope cl N' C s H ex) elt te)
  (hN:X.N.Nodup) (hy:X.N[i]?=some y) (hx:Loc X.env.scope y) (hf:X.fn y=true\/X.env.scope.names.lookup y=some .local)
  (o5:swapsWith (.ListComp elt [⟨tg,iter,ifs,0⟩] scope pos) (some (.Name y py)) O.line X.env=pure true)
  (hs:∀x,foldedSetIterable iter X.env x=pure x:=by intro _;rfl) :
  PS X (.Assign [.Name y py] (.ListComp elt [⟨tg,iter,ifs,0⟩] scope pos) O) (Zc5 (Zd0 own M wi g tc te) (Yy i)):=by
 intro j s σ H D0 I h;obtain⟨cl,o6,n6,n8⟩:=UE (scope:=scope) (env:=X.env) fun y hy hf=>by
  have:=S.fr y hy hf;rw[<-U] at this;exact I.ok.has y.1 this
 rw[exec_Assign_Name_used _ _ _ _ o5];refine Zl (lZ (Zl ?_));show wpAny _ X.A (do let _ <-comprehension (.ListComp elt [⟨tg,iter,ifs,0⟩] scope pos) scope X.env _ (newList []) false (eval iter X.env) (some (assign (.Name y py) X.env))) _ _ s
 refine Zl (cD (l6 (use:=some (assign (.Name y py) X.env)) (Q:=fun _ Y=>SP X j D0 .next Y) rfl hs o6 S.kind S.uniq
  (Yi (hi j s σ H _ I h) fun v s1 h1=>Yi h1 fun r6 s2 h2=>?_)) (fun _ Y hq=>Zm (Zm hq)) fun _ _ e=>e)
 obtain⟨it,fp,tn,J,H2,e,I2,T,o7,f2,q⟩:=h2;subst e;refine Uw (RR:=fun ZG C=>compPost (model X.prog X.w) X.A X.xe (some (assign (.Name y py) X.env)) (fun _ Y=>SP X j D0 .next Y) ZG C) U S hc n6 n8 hg ht he I2 T o7 f2 q ?_;intro D C Y m H' hn n9 o0 o8 o9 p3 q' hb;have I':Inv X j σ H' Y:=hb Y.heap (.refl ..);show wpAny _ X.A (assign (.Name y py) X.env (.ref D)) _ _ Y;refine wpAny_assign_Name (U2 I' hN hy hx (v:=.ref D) rfl (fun p4 p6 ⟨a,sb,ha⟩=>?_) hf);have p7:C≠a:=by
  rcases ha with rfl|ha
  ·exact n9
  ·exact fun z=>o0 y a ha z.symm
 refine⟨m,hn.sameBut sb p7,fun h' p8=>⟨_,H',?_,q'⟩⟩;exact p6.turned (t':=p4.toks) (fun b o hb e=>p8.extBut b o hb e) p3 n9 (.inr o8) o0 o9
end
section
variable {κ:Type} [DecidableEq κ]
noncomputable def W5 (kvs:List (κ×V))(k:κ):Option V:=(kvs.find? fun j=>decide (j.1=k)).map (·.2)
noncomputable def WF (kvs:List (κ×V))(k:κ)(v:V):List (κ×V):=
 if (kvs.any fun j=>decide (j.1=k))=true then kvs.map (fun j=>if j.1=k then (j.1,v) else j) else kvs++[(k,v)]
theorem VO {p:κ×V}{r:List (κ×V)}{k:κ}(e:p.1=k):W5 (p::r) k=some p.2:=by simp[W5,ff,e]
theorem VP {p:κ×V}{r:List (κ×V)}{k:κ}(e:¬p.1=k):W5 (p::r) k=W5 r k:=by simp[W5,ff,e]
theorem Ju (k:κ):∀kvs:List (κ×V),(kvs.any fun j=>decide (j.1=k))=(W5 kvs k).isSome
 | []=>rfl
 |p::r=>by
  rw[dU];by_cases e:p.1=k
  ·simp only[VO e,decide_eq_true e,Bool.true_or,Option.isSome_some]
  ·rw[VP e,decide_eq_false e,gJ];exact Ju k r
theorem JA (kvs:List (κ×V))(k:κ)(v:V):(WF kvs k v).length<=kvs.length+1:=by
 unfold WF;split
 ·rw[Za];omega
 ·rw[Zd,Zi,jI];omega
theorem Zhg {kvs:List (κ×V)}{k:κ}(v:V)(h:W5 kvs k=none):WF kvs k v=kvs++[(k,v)]:=by
 unfold WF;rw[Ju,h];exact if_neg (by decide)
theorem UK.isSome_eq {o:Option V}{u:Option Value}(r:UK o u):o.isSome=u.isSome:=by
 cases o with
 |none=>cases u with
  |none=>rfl
  |some _=>exact (show False from r).elim
 |some _=>cases u with
  |none=>exact (show False from r).elim
  |some _=>rfl
theorem KV.val {kvs:List (κ×V)}{vs:List (κ×Value)}(r:KV kvs vs)(k:κ):UK (W5 kvs k) (valueAt vs k):=by
 unfold KV at r;induction r with
 |nil=>exact di
 | @cons p q Y j h t O=>
  obtain⟨M,U⟩:=h;by_cases e:p.1=k
  ·have J:q.1=k:=M.symm.trans e
   have b:valueAt (q::j) k=some q.2:=by simp[valueAt,ff,J]
   rw[VO e,b];exact U
  ·have J:¬q.1=k:=fun z=>e (M.trans z)
   have b:valueAt (q::j) k=valueAt j k:=by simp[valueAt,ff,J]
   rw[VP e,b];exact O
theorem KV.any {kvs:List (κ×V)}{vs:List (κ×Value)}(r:KV kvs vs)(k:κ):(kvs.any fun j=>decide (j.1=k))=vs.any fun j=>decide (j.1=k):=by
 unfold KV at r;induction r with
 |nil=>rfl
 |cons h t q=>rw[dU,dU,q,h.1]
theorem KV.repl {kvs:List (κ×V)}{vs:List (κ×Value)}(r:KV kvs vs)(k:κ){y:V}{u:Value}(M:RelV y u) :
  KV (kvs.map fun j=>if j.1=k then (j.1,y) else j) (vs.map fun j=>if j.1=k then (j.1,u) else j):=by
 unfold KV at r ⊢;induction r with
 |nil=>exact .nil
 | @cons p q Y qs h t O=>
  rw[aL,aL];refine .cons ?_ O;obtain⟨J,U⟩:=h;by_cases e:p.1=k
  ·rw[if_pos e,if_pos (J.symm.trans e)];exact⟨J,M⟩
  ·rw[if_neg e,if_neg (fun z=>e (J.trans z))];exact⟨J,U⟩
theorem KV.put {kvs:List (κ×V)}{vs:List (κ×Value)}(r:KV kvs vs)(k:κ){y:V}{u:Value}(j:RelV y u):KV (WF kvs k y) (stored vs k u):=by
 unfold WF stored;rw[r.any k];by_cases e:(vs.any fun q=>decide (q.1=k))=true
 ·rw[if_pos e,if_pos e];exact r.repl k j
 ·rw[if_neg e,if_neg e];exact Paired.snoc r ⟨rfl,j⟩
theorem KV.keys {kvs:List (κ×V)}{vs:List (κ×Value)}(r:KV kvs vs):kvs.map (·.1)=vs.map (·.1):=by
 unfold KV at r;induction r with
 |nil=>rfl
 |cons h t j=>rw[aL,aL,j,h.1]
theorem KV.length {kvs:List (κ×V)}{vs:List (κ×Value)}(r:KV kvs vs):kvs.length=vs.length:=jZ r
end
theorem Zcy {P:Program}{w:World}{k:Yz}{u:Value}(r:RelV (kV k) u):(Ym P w).is k u=true:=by
 cases k with
 |inl i=>obtain⟨t,e⟩:=(show ∃t,u=gM i t from r);subst e;exact Zcm P w i t
 |inr x=>obtain⟨t,e⟩:=(show ∃t,u=ko x t from r);subst e;exact Zcl P w x t
theorem Zah {P:Program}{w:World}:∀{ks:List Yz}{us:List Value},ZK (ks.map kV) us->ItemsAre (Ym P w) ks us
 | [],_,r=>by rw[fv] at r;cases r;exact .nil
 |k::ks,_,r=>by
  rw[aL] at r;cases r with
  |cons h t=>exact .cons (Zcy h) (Zah t)
noncomputable abbrev KT (H:Hp):List (List Yz×V)->List (List Yz×Addr×Value)->Prop:=lD fun p q=>p.1=q.1/\H q.2.1=some (.tup (p.1.map kV))/\RelV p.2 q.2.2
theorem KT.val {H:Hp}{kvs:List (List Yz×V)}{xs:List (List Yz×Addr×Value)}(r:KT H kvs xs)(k:List Yz):UK (W5 kvs k) ((atKey xs k).map (·.2)):=by
 induction r with
 |nil=>exact di
 | @cons p q Y j h t O=>
  obtain⟨M,_,U⟩:=h;by_cases e:p.1=k
  ·have J:q.1=k:=M.symm.trans e
   have b:atKey (q::j) k=some q.2:=by simp[atKey,ff,J]
   rw[VO e,b];exact U
  ·have J:¬q.1=k:=fun z=>e (M.trans z)
   have b:atKey (q::j) k=atKey j k:=by simp[atKey,ff,J]
   rw[VP e,b];exact O
theorem KT.repl {H:Hp}{kvs:List (List Yz×V)}{xs:List (List Yz×Addr×Value)}(r:KT H kvs xs)(k:List Yz){y:V}{u:Value}(O:RelV y u) :
  KT H (kvs.map fun J=>if J.1=k then (J.1,y) else J) (xs.map (putAt k u)):=by
 induction r with
 |nil=>exact .nil
 | @cons p q ps qs h t U=>
  rw[aL,aL];refine .cons ?_ U;obtain⟨j,M,Y⟩:=h;unfold putAt;by_cases e:p.1=k
  ·rw[if_pos e,if_pos (j.symm.trans e)];exact⟨j,M,O⟩
  ·rw[if_neg e,if_neg (fun z=>e (j.trans z))];exact⟨j,M,Y⟩
theorem KT.put {H:Hp}{kvs:List (List Yz×V)}{xs:List (List Yz×Addr×Value)}(r:KT H kvs xs)(k:List Yz){b:Addr}{y:V}{u:Value}(hb:H b=some (.tup (k.map kV)))(j:RelV y u) :
  KT H (WF kvs k y) (storedH xs k b u):=by
 have e:(kvs.any fun J=>decide (J.1=k))=(atKey xs k).isSome:=by
  rw[Ju,(r.val k).isSome_eq,mm]
 unfold WF storedH;rw[e];by_cases q:(atKey xs k).isSome=true
 ·rw[if_pos q,if_pos q];exact r.repl k j
 ·rw[if_neg q,if_neg q];exact Paired.snoc r ⟨rfl,hb,j⟩
theorem KT.keeps {H j:Hp}{kvs:List (List Yz×V)}{xs:List (List Yz×Addr×Value)}(r:KT H kvs xs)(q:∀b ys,H b=some (.tup ys)->j b=some (.tup ys)):KT j kvs xs:=
 lD.mapP r fun _ _ z=>⟨z.1,q _ _ z.2.1,z.2.2⟩
section
variable {P:Program}{w:World}{H:Hp}{h:Heap}{a:Addr}
theorem Zk4 {u:HO}(ok:Xd P w H h)(e:Rd H a u):Z6 P w H h a u:=e.ok ok
theorem ZcJ {kvs:List (Yz×V)}(ok:Xd P w H h)(e:Rd H a (.dK kvs)):kvs.length<=sizeLine/\(a == sysModules)=false/\∃vs,KV kvs vs/\h.DictOf (Ym P w) a vs:=
 show Z6 P w H h a (.dK kvs) from Zk4 ok e
theorem ZcK {kvs:List (Yz×V)}(ok:Xd P w H h)(e:H a=some (.dK kvs)):kvs.length<=sizeLine/\(a == sysModules)=false/\∃vs,KV kvs vs/\h.DictOf (Ym P w) a vs:=ZcJ ok (.inl e)
theorem Zba {ks:List Yz}(ok:Xd P w H h)(e:H a=some (.tup (ks.map kV))):(tupleKind (Ym P w)).is h ks a:=by
 obtain⟨_,j,r,o,q,J,n,M⟩:=(show Z6 P w H h a (.tup (ks.map kV)) from ok a _ e);exact⟨o,j.toArray,n,q,J,M,by simpa using Zah r⟩
theorem ZcI {kvs:List (List Yz×V)}(ok:Xd P w H h)(e:Rd H a (.dT kvs)):kvs.length<=sizeLine/\(a == sysModules)=false/\
  ∃xs,KT H kvs xs/\h.DictOfH (tupleKind (Ym P w)) a xs:=by
 obtain⟨z,y,xs,r,o,M,O,U,Y,h3,h4,h5⟩:=(show Z6 P w H h a (.dT kvs) from Zk4 ok e);refine⟨z,y,xs,r,o,M,O,U,Y,h3,h4,fun x j=>?_,h5⟩;have all:∀{l:List (List Yz×V)}{m:List (List Yz×Addr×Value)},KT H l m->∀x∈m,(tupleKind (Ym P w)).is h x.1 x.2.1:=by
  intro l m q;induction q with
  |nil=>intro x j;exact nomatch j
  | @cons p q ps qs J t ih=>
   intro x j;rcases aF.mp j with e|j
   ·subst e
    exact Zba ok (by rw[<-J.1];exact J.2.1)
   ·exact ih x j
 exact all r x j
theorem ZoG {kvs:List (List Yz×V)}(ok:Xd P w H h)(e:H a=some (.dT kvs)):kvs.length<=sizeLine/\(a == sysModules)=false/\
  ∃xs,KT H kvs xs/\h.DictOfH (tupleKind (Ym P w)) a xs:=ZcI ok (.inl e)
end
noncomputable def Jt (H:Hp)(a:Addr)(y:V)(r:Option V):Prop:=
 (∃j k,Rd H a (.dK j)/\y=kV k/\r=W5 j k)\/∃j k b,Rd H a (.dT j)/\y=.ref b/\H b=some (.tup (k.map kV))/\r=W5 j k
noncomputable def Vi (H:Hp)(a:Addr)(y v:V)(q:Hp):Prop:=
 (∃j k,H a=some (.dK j)/\y=kV k/\j.length<sizeLine/\q=upd H a (.dK (WF j k v)))\/
 ∃j k b,H a=some (.dT j)/\y=.ref b/\H b=some (.tup (k.map kV))/\j.length<sizeLine/\q=upd H a (.dT (WF j k v))
theorem Jt.k {H:Hp}{a:Addr}{kvs:List (Yz×V)}{k:Yz}(e:H a=some (.dK kvs)):Jt H a (kV k) (W5 kvs k):=.inl ⟨kvs,k,.inl e,rfl,rfl⟩
theorem Jt.t {H:Hp}{a b:Addr}{kvs:List (List Yz×V)}{k:List Yz}(e:H a=some (.dT kvs))(j:H b=some (.tup (k.map kV))):Jt H a (.ref b) (W5 kvs k):=.inr ⟨kvs,k,b,.inl e,rfl,j,rfl⟩
theorem Vi.k {H:Hp}{a:Addr}{kvs:List (Yz×V)}{k:Yz}{v:V}(e:H a=some (.dK kvs))(j:kvs.length<sizeLine):Vi H a (kV k) v (upd H a (.dK (WF kvs k v))):=.inl ⟨kvs,k,e,rfl,j,rfl⟩
theorem Vi.t {H:Hp}{a b:Addr}{kvs:List (List Yz×V)}{k:List Yz}{v:V}(e:H a=some (.dT kvs))(j:H b=some (.tup (k.map kV)))(q:kvs.length<sizeLine) :
  Vi H a (.ref b) v (upd H a (.dT (WF kvs k v))):=.inr ⟨kvs,k,b,e,rfl,j,q,rfl⟩
section
variable {X:Cx}{pins:List (Addr×Obj)}{σ:St}{H:Hp}{s:Shared}{a:Addr}{y v:V}{u r:Value}{o:Option V}{A:Around}{E:Value->Shared->Prop}
theorem Inv.big (I:Inv X pins σ H s):sysModules<s.heap.objs.size:=by
 have h:mainGlobals<s.heap.objs.size:=(I.mod.glob.keeps I.bk).lt;exact jf (by decide) h
theorem Zf0 {Q:Value->Shared->Prop}(hu:A.units+1<cLine)(I:Inv X pins σ H s)(g:Jt H a y (some v))(ry:RelV y u)(h:∀q s',Inv X pins σ H s'->RelV v q->Q q s') :
  wpAny (model X.prog X.w) A (getItem (.ref a) u) Q E s:=by
 rcases g with ⟨J,k,e,M,l⟩|⟨J,k,b,e,M,eb,l⟩
 ·subst M
  obtain⟨z,hd,vs,rel,O⟩:=ZcJ I.hok e;obtain⟨q,U,j⟩:=UK.some_of (v:=v) (o:=valueAt vs k) (by rw[l];exact rel.val k);exact wpAny_getItem_of (Zcy ry) O.mapOf U (h q _ (I.tok _) j)
 ·subst M
  cases (show u=aI b from ry);obtain⟨z,hd,xs,rel,O⟩:=ZcI I.hok e;obtain⟨q,U,j⟩:=UK.some_of (v:=v) (o:=(atKey xs k).map (·.2)) (by rw[l];exact rel.val k);obtain⟨p,hp,Y⟩:=Option.map_eq_some_iff.mp U;refine wpAny_getItem_heap (jw hu) (Zba I.hok eb) O hp ?_;rw[Y];exact h q _ (I.tok _) j
theorem Zkm {Q:Value->Shared->Prop}(U:A.units+1<cLine)(I:Inv X pins σ H s)(g:Jt H a y o)(O:RelV y u)(h:∀s',Inv X pins σ H s'->Q (.bool (!o.isSome)) s') :
  wpAny (model X.prog X.w) A (compareOp .NotIn u (.ref a)) Q E s:=by
 rcases g with ⟨j,k,e,J,l⟩|⟨j,k,b,e,J,Y,l⟩
 ·subst J
  obtain⟨z,hd,vs,rel,M⟩:=ZcJ I.hok e;refine wpAny_notIn_of (Zcy O) hd M.mapOf ?_;rw[<-(rel.val k).isSome_eq,<-l];exact h _ (I.tok _)
 ·subst J
  cases (show u=aI b from O);obtain⟨z,hd,xs,rel,M⟩:=ZcI I.hok e;refine wpAny_notIn_heap (jw U) (Zba I.hok Y) hd M ?_;have q:=(rel.val k).isSome_eq;rw[mm] at q;rw[<-q,<-l];exact h _ (I.tok _)
theorem VL {h':Heap}{t':Nat}{j:HO}(I:Inv X pins σ H s)(M:Mut (H a))(O:bd a s.heap h')(U:∃q,h'.get? a=some q)(J:Z6 X.prog X.w (upd H a j) h' a j) :
  Inv X pins σ (upd H a j) {s with heap:=h',toks:=t'}:=
 I.write (x:=a) (e:=a) M (.inl rfl) (fun b q hb z=>(O.2 b hb).trans z) U J
theorem ZdI {P:Program}{w:World}{j:Hp}{h':Heap}{kvs:List (Yz×V)}{vs:List (Yz×Value)}(z:kvs.length<=sizeLine)(hd:(a == sysModules)=false)(rel:KV kvs vs)(q:h'.DictOf (Ym P w) a vs) :
  Z6 P w j h' a (.dK kvs):=⟨z,hd,vs,rel,q⟩
theorem ZfZ {H':Hp}{Q:Unit->Shared->Prop}(hu:A.units+1<cLine)(I:Inv X pins σ H s)(g:Vi H a y v H')(ry:RelV y u)(rv:RelV v r)(h:∀s',Inv X pins σ H' s'->Q () s') :
  wpAny (model X.prog X.w) A (setItem (.ref a) u r) Q E s:=by
 rcases g with ⟨j,k,e,O,l,U⟩|⟨j,k,b,e,O,eb,l,U⟩
 ·subst O U
  obtain⟨z,hd,vs,rel,Y⟩:=ZcK I.hok e;have hz:vs.length<=sizeLine:=by rw[<-rel.length];exact z
  have hl:(WF j k v).length<=sizeLine:=by have:=JA j k v;omega
  refine wpAny_setItem_pairs (hsz:=hz) (Zcy ry) Y fun h' J hs=>h _ ?_;have he:∃q,h'.get? a=some q:=by obtain⟨q,_,_,M,_⟩:=J;exact⟨q,M⟩
  exact VL I (by rw[e];exact di) hs he (ZdI hl hd (rel.put k rv) J)
 ·subst O U
  cases (show u=aI b from ry);obtain⟨z,hd,xs,rel,Y⟩:=ZoG I.hok e;have hz:xs.length<=sizeLine:=by rw[<-jZ rel];exact z
  have hl:(WF j k v).length<=sizeLine:=by have:=JA j k v;omega
  refine wpAny_setItem_heap (hsz:=hz) (jw hu) (Zba I.hok eb) Y fun h' J hs=>h _ ?_;obtain⟨q,es,ep,M,h2,h3,h4,_,h5⟩:=J;refine VL I (by rw[e];exact di) hs ⟨q,M⟩ ⟨hl,hd,_,(rel.put k eb rv).keeps fun c ys ec=>?_,q,es,ep,M,h2,h3,h4,h5⟩;rw[Zx (ZhN ec e (fun z=>nomatch z))];exact ec
end
section
variable {X:Cx}{pins:List (Addr×Obj)}{σ:St}{H:Hp}{s:Shared}{a:Addr}{kvs:List (Yz×V)}{k:Yz}{u:Value}{A:Around}{E:Value->Shared->Prop}
end
noncomputable def Zo2 (i:Expr):Prop:=∀j iv,subscripted i false j iv=operate [j,iv] (getItem j iv)
theorem ZiZ {prog:Program}{w:World}{A:Around}{E:Value->Shared->Prop}{s:Shared}{env:Env}{value j:Expr}{pos:Pos}{T id:String}{Q:Value->Shared->Prop}
  (hl:typeLookup (.type T) "__getitem__"=pure (some (.builtin id))) (hs:Zo2 j)
  (h:wpAny (model prog w) A (eval value env) (fun o M=>wpAny (model prog w) A (eval j env) (fun i q=>q.TypeIs o T/\wpAny (model prog w) A (getItem o i) Q E q) E M) E s) :
  wpAny (model prog w) A (eval (.Subscript value j pos) env) Q E s:=by
 refine Subscript_ (cD h (fun o M Y=>cD Y (fun i q J=>?_) fun _ _ x=>x) fun _ _ x=>x);obtain⟨hT,J⟩:=J;unfold subscriptTail;refine Zl ?_;rw[getitemInPython_of_ne hT.not_modules];refine Zl (wpAny_specialOf hT hl ?_);have U:wpAny (model prog w) A (subscripted j false o i) (fun r O=>wpAny (model prog w) A (letTemporaryGo value o r >>= fun _=>pure r) Q E O) E q:=by
  rw[hs o i];exact wpAny_operating (cD J (fun r O n4=>Zl (wpAny_letTemporaryGo (Zm n4))) fun _ _ x=>x)
 first
  |exact Zm (Zl U)
  |exact Zl (Zm (Zl U))
  |exact Zl U
theorem ZcM {X:Cx}{j:List (Addr×Obj)}{σ:St}{H:Hp}{s:Shared}{a:Addr}{y:V}{o:Option V}(I:Inv X j σ H s)(g:Jt H a y o):s.TypeIs (.ref a) "dict":=by
 rcases g with ⟨q,k,e,_,_⟩|⟨q,k,b,e,_,_,_⟩
 ·obtain⟨_,_,M,_,J⟩:=ZcJ I.hok e
  exact J.typeIs
 ·obtain⟨_,_,xs,_,J⟩:=ZcI I.hok e
  exact J.typeIs
noncomputable def ZnL (J M:TE):TE:=fun j H Q=>J j H fun x O=>M j O fun y q=>∃a v,x=.ref a/\Jt q a y (some v)/\Q v q
noncomputable def ZiX (J M:TE):TE:=fun j H Q=>J j H fun y O=>M j O fun x q=>∃a o,x=.ref a/\Jt q a y o/\Q (.bl (!o.isSome)) q
noncomputable def ZnV (J M O:TE):TS:=fun D j H=>O j H fun v U=>J j U fun x Y=>M j Y fun y H3=>∃a q,x=.ref a/\Vi H3 a y v q/\D.nx j q
section
variable {X:Cx}{o i e value:Expr}{pos pos' tpos:Pos}{td ty tv:TE}
theorem JO (O:X.A.units+1<cLine)(U:PE X o td)(Y:PE X i ty)(hs:Zo2 i):PE X (.Subscript o i pos) (ZnL td ty):=by
 intro j s J H Q I h;refine ZiZ PySem.F.slot_dict_getitem.lookup hs (Yi (U j s J H _ I h) fun u s1 ⟨x,H1,I1,rx,q1⟩=>Yi (Y j s1 J H1 _ I1 q1) fun iv s2 ⟨y,H2,M,ry,a,v,ex,g,q2⟩=>?_);subst ex;obtain rfl:u=aI a:=rx;exact⟨ZcM M g,Zf0 O M g ry fun w' s3 I3 q=>⟨v,H2,I3,q,q2⟩⟩
theorem U8 (J:X.A.units+1<cLine)(M:PE X i ty)(O:PE X o td):PC X .NotIn i o (ZiX ty td):=by
 intro j s q H Q I h;refine Yi (M j s q H _ I h) fun iv U ⟨y,Y,I1,ry,q1⟩=>Yi (O j U q Y _ I1 q1) fun u s2 ⟨x,H2,I2,rx,a,ov,ex,g,q2⟩=>?_;subst ex;obtain rfl:u=aI a:=rx;exact Zkm J I2 g ry fun s3 I3=>⟨.bl (!ov.isSome),H2,I3,rfl,q2⟩
theorem Xt (J:X.A.units+1<cLine)(M:PE X o td)(O:PE X i ty)(U:PE X value tv)(Y:swapsWith value (some (.Subscript o i pos')) pos.line X.env=pure false) :
  PS X (.Assign [.Subscript o i pos'] value pos) (ZnV td ty tv):=by
 intro j s q H D I h;refine wpAny_Assign_Subscript (Yi (U j s q H _ I h) fun r s1 ⟨v,H1,I1,rv,q1⟩=>Yi (M j s1 q H1 _ I1 q1) fun u s2 ⟨x,H2,I2,rx,q2⟩=>Yi (O j s2 q H2 _ I2 q2) fun iv s3 ⟨y,H3,I3,ry,a,H4,ex,g,q3⟩=>?_) Y;subst ex;obtain rfl:u=aI a:=rx;exact ZfZ J I3 g ry rv fun s4 I4=>⟨q,H4,I4,q3⟩
end
theorem ZcL {P:Program}{w:World}{H:Hp}(h:Heap)(hb:sysModules<h.objs.size):Z6 P w H (h.push {cls:=.type "dict",data:=.dict #[]}) h.objs.size (.dK []):=
 ⟨aX _,beq_eq_false_iff_ne.mpr (bJ (aB hb)),[],.nil,Heap.DictOf.new h⟩
theorem Zip {P:Program}{w:World}{H:Hp}(h:Heap)(hb:sysModules<h.objs.size):Z6 P w H (h.push {cls:=.type "dict",data:=.dict #[]}) h.objs.size (.dT []):=
 ⟨aX _,beq_eq_false_iff_ne.mpr (bJ (aB hb)),[],.nil,_,#[],0,Zo _ rfl,⟨rfl,rfl,rfl⟩,rfl,rfl,eE⟩
noncomputable def ZlD:TE:=fun _ H Q=>∀p,H p=none->Q (.ref p) (upd H p (.dK []))
noncomputable def ZlC:TE:=fun _ H Q=>∀p,H p=none->Q (.ref p) (upd H p (.dT []))
section
variable {X:Cx}{pos:Pos}
theorem Uc:PE X (.Dict [] [] pos) ZlD:=fun j s J H Q I h=>
 wpAny_Dict_empty ⟨.ref s.heap.objs.size,_,I.laid (a:=s.heap.objs.size) (o:=.dK []) (t':=s.toks) (fun _ _ q=>Zn _ q) (Zq _) (ZcL s.heap I.big),rfl,h _ (I.hok.fresh (Zq _))⟩
theorem Zhk:PE X (.Dict [] [] pos) ZlC:=fun j s J H Q I h=>
 wpAny_Dict_empty ⟨.ref s.heap.objs.size,_,I.laid (a:=s.heap.objs.size) (o:=.dT []) (t':=s.toks) (fun _ _ q=>Zn _ q) (Zq _) (Zip s.heap I.big),rfl,h _ (I.hok.fresh (Zq _))⟩
end
noncomputable def Zc4:List (TE×TE)->St->Hp->(List (V×V)->Hp->Prop)->Prop
 | [],_,H,Q=>Q [] H
 |(tk,j)::r,σ,H,Q=>tk σ H fun x q=>j σ q fun y J=>Zc4 r σ J fun M O=>Q ((x,y)::M) O
noncomputable abbrev VV:List (V×V)->List (Value×Value)->Prop:=lD fun p q=>RelV p.1 q.1/\RelV p.2 q.2
noncomputable def PPs (X:Cx)(pos:Pos)(keys:List (Option Expr))(j:List Expr)(J:List (TE×TE)):Prop:=
 ∀(q:List (Addr×Obj)) (s:Shared) (M:St) (H:Hp) (Q:List (V×V)->Hp->Prop),Inv X q M H s->Zc4 J M H Q->
  wpAny (model X.prog X.w) X.A (evalPairs (pairTrees keys j X.env pos)) (fun Y s'=>∃O U,Inv X q M U s'/\VV O Y/\Q O U) X.xe s
theorem Zji {X:Cx}{pos:Pos}:PPs X pos [] [] []:=fun j s q H Q I h=>pairTrees_nil_walk ⟨[],H,I,.nil,h⟩
theorem V9 {X:Cx}{pos:Pos}{k v:Expr}{ks:List (Option Expr)}{vs:List Expr}{tk M:TE}{q:List (TE×TE)}(O:PE X k tk)(U:PE X v M)(Y:PPs X pos ks vs q) :
  PPs X pos (some k::ks) (v::vs) ((tk,M)::q):=fun j s J H Q I h=>
 pairTrees_cons_walk (Yi (O j s J H _ I h) fun u s1 ⟨x,H1,I1,rx,q1⟩=>Yi (U j s1 J H1 _ I1 q1) fun w2 s2 ⟨y,H2,I2,ry,q2⟩=>
  Yi (Y j s2 J H2 _ I2 q2) fun ws s3 ⟨ps,H3,I3,rel,q3⟩=>⟨(x,y)::ps,H3,I3,.cons ⟨rx,ry⟩ rel,q3⟩)
noncomputable def We (kvs j:List (Yz×V)):List (Yz×V):=j.foldl (fun ZG q=>WF ZG q.1 q.2) kvs
theorem KV.merge:∀{more:List (Yz×V)}{rs:List (Yz×Value)}{kvs:List (Yz×V)}{vs:List (Yz×Value)},KV more rs->KV kvs vs->KV (We kvs more) (merged vs rs):=by
 intro more rs kvs vs r;unfold KV at r;induction r generalizing kvs vs with
 |nil=>intro q;exact q
 | @cons p q M O h t j=>
  intro J;have e:KV (WF kvs p.1 p.2) (stored vs q.1 q.2):=by
   have:=J.put p.1 h.2;rw[<-h.1];exact this
  exact j e
theorem WX:∀(j kvs:List (Yz×V)),(We kvs j).length<=kvs.length+j.length
 | [],kvs=>by show kvs.length<=kvs.length+0;omega
 |p::r,kvs=>by
  have q:=WX r (WF kvs p.1 p.2);have J:=JA kvs p.1 p.2;show (We (WF kvs p.1 p.2) r).length<=_;rw[Zi];omega
theorem UF {P:Program}{w:World}:∀{kvs:List (Yz×V)}{j:List (Value×Value)},VV (kvs.map fun J=>(kV J.1,J.2)) j->∃rs,Carries (Ym P w) j rs/\KV kvs rs
 | [],_,r=>by rw[fv] at r;cases r;exact⟨[],di,.nil⟩
 |p::kvs,_,r=>by
  rw[aL] at r;cases r with
  | @cons a b O bs h t=>
   obtain⟨rs,c,q⟩:=UF (P:=P) (w:=w) t;obtain⟨U,M⟩:=b;exact⟨(p.1,M)::rs,⟨Zcy h.1,rfl,c⟩,.cons ⟨rfl,h.2⟩ q⟩
noncomputable def ZnJ (q:List (TE×TE)):TE:=fun O H Q=>∀p,H p=none->Zc4 q O (upd H p (.dK [])) fun U J=>J p=some (.dK [])/\∃j:List (Yz×V),U=j.map (fun M=>(kV M.1,M.2))/\j.length<=15/\Q (.ref p) (upd J p (.dK (We [] j)))
theorem Zjp {X:Cx}{pos:Pos}{keys:List (Option Expr)}{values:List Expr}{j:List (TE×TE)}(h:PPs X pos keys values j)(J:keys.all (·.isSome)=true)(hl:keys.length=values.length)(h0:keys≠[])
  (Y:keys.length<=15):PE X (.Dict keys values pos) (ZnJ j):=by
 intro M s σ H Q I q;have hn:=I.hok.fresh (Zq s.heap.objs.size);have I1:=I.laid (a:=s.heap.objs.size) (o:=.dK []) (h':=s.heap.push {cls:=.type "dict",data:=.dict #[]}) (t':=s.toks) (fun _ _ q=>Zn _ q) (Zq _) (ZcL s.heap I.big);refine wpAny_Dict_walk (knd:=Ym X.prog X.w) J hl h0 Y (Yi (h M _ σ _ _ I1 (q _ hn)) fun ws s2 ⟨ps,H2,I2,rel,e,O,ep,lk,q2⟩=>?_);subst ep;obtain⟨rs,c,rk⟩:=UF (P:=X.prog) (w:=X.w) rel;obtain⟨z,hd,n6,r0,dd⟩:=ZcK I2.hok e;cases r0;refine⟨rs,c,dd,fun h' U hs=>⟨.ref s.heap.objs.size,_,?_,rfl,q2⟩⟩;have hz:(We [] O).length<=sizeLine:=by
  have h1:=WX O [];rw[jI] at h1;rw[fZ];omega
 have he:∃q,h'.get? s.heap.objs.size=some q:=by obtain⟨q,_,_,hq,_⟩:=U;exact⟨q,hq⟩
 exact VL I2 (by rw[e];exact di) hs he (ZdI hz hd (rk.merge .nil) U)
structure M1 (X:Cx)(o:Expr)(m:Str)(apos:Pos)(e:Expr)(cpos:Pos):Prop where
 base:attributeBase o m X.env (eval o X.env)=eval o X.env
 few:((backTo cpos (starEach [e] X.env)).all (fun x=>!x.1) && (backToKw cpos (keywordEach [] X.env)).all (fun x=>x.1.isSome)
  && decide (([e]:List Expr).length+([]:List Keyword).length+(if ([]:List Keyword).isEmpty then 0 else 1)<30))=true
 line:(apos.endLine == cpos.line)=true
 trees:backTo cpos (starEach [e] X.env)=[(false,eval e X.env)]
noncomputable def IsD (H:Hp)(a:Addr):Prop:=(∃j,Rd H a (.dK j))\/∃j,Rd H a (.dT j)
theorem ZmC {X:Cx}{J:List (Addr×Obj)}{σ:St}{H:Hp}{s:Shared}{a:Addr}(I:Inv X J σ H s)(d:IsD H a) :
  s.TypeIs (.ref a) "dict"/\(∀b,aI a=.ref b->∃j,s.heap.get? b=some j/\j.dict=none)/\(a == sysModules)=false:=by
 rcases d with ⟨O,e⟩|⟨O,e⟩
 ·obtain⟨_,hd,vs,_,M⟩:=ZcJ I.hok e
  refine⟨M.typeIs,fun b q=>?_,hd⟩;cases q;obtain⟨j,_,_,U,Y,_⟩:=M;exact⟨j,U,Y.2.1⟩
 ·obtain⟨_,hd,xs,_,M⟩:=ZcI I.hok e
  refine⟨M.typeIs,fun b q=>?_,hd⟩;cases q;obtain⟨j,_,_,U,Y,_⟩:=M;exact⟨j,U,Y.2.1⟩
section
variable {X:Cx}{pins:List (Addr×Obj)}{σ:St}{H:Hp}{s:Shared}{a:Addr}{y d:V}{u r:Value}{o:Option V}{A:Around}{E:Value->Shared->Prop}
end
section
variable {X:Cx}{o e f:Expr}{apos cpos:Pos}{td ty tx:TE}
end
section
variable {X:Cx}{pins:List (Addr×Obj)}{σ:St}{H:Hp}{s:Shared}{a:Addr}{kvs:List (Yz×V)}{A:Around}{E:Value->Shared->Prop}
end
section
variable {X:Cx}{pins:List (Addr×Obj)}{σ:St}{H:Hp}{s:Shared}{a:Addr}{y:V}{u:Value}{A:Around}{E:Value->Shared->Prop}
end
mutual
inductive UX (K:ab) (H:Hp):V->fk->Prop where
 |non:UX K H .non .none
 |bl (b:Bool):UX K H (.bl b) (.bool b)
 |int (i:Int):UX K H (.int i) (.int i)
 |str (x:Str):UX K H (.str x) (.str x)
 |lst {a:Addr}{xs:List V}{ds:List fk} (h:Wr K H a xs) (r:Wq K H xs ds):UX K H (.ref a) (.list ds)
 |tup {a:Addr}{xs:List V}{ds:List fk} (h:WM K H a xs) (r:Wq K H xs ds):UX K H (.ref a) (.tuple ds)
inductive Wq (K:ab) (H:Hp):List V->List fk->Prop where
 |nil:Wq K H [] []
 |cons {x:V}{xs:List V}{d:fk}{ds:List fk} (h:UX K H x d) (r:Wq K H xs ds):Wq K H (x::xs) (d::ds)
end
section
variable {K:ab}{H H':Hp}
theorem Same.tup {a:Addr}{xs:List V}(e:Same H H')(h:WM K H a xs):WM K H' a xs:=by
 rcases h with (h|⟨o,h⟩)|h
 ·exact .inl (.inl (e _ _ h))
 ·exact .inl (.inr ⟨o,e _ _ h⟩)
 ·exact .inr h
theorem Same.upd {p:Addr}{o:HO}(h:H p=none):Same H (upd H p o):=fun b u e=>by rw[Zx (Z1 e h)];exact e
theorem Same.updr {p:Addr}{o:HO}(s:Same H H')(h:H p=none):Same H (L2.upd H' p o):=fun b u e=>by rw[Zx (Z1 e h)];exact s b u e
mutual
theorem UX.mono (s:Same H H'):∀{v:V}{d:fk},UX K H v d->UX K H' v d
 |_,_,.non=>.non
 |_,_,.bl b=>.bl b
 |_,_,.int i=>.int i
 |_,_,.str x=>.str x
 |_,_,.lst h r=>.lst (s.seq h) (Wq.mono s r)
 |_,_,.tup h r=>.tup (s.tup h) (Wq.mono s r)
theorem Wq.mono (s:Same H H'):∀{v:List V}{d:List fk},Wq K H v d->Wq K H' v d
 |_,_,.nil=>.nil
 |_,_,.cons h r=>.cons (UX.mono s h) (Wq.mono s r)
end
theorem Wq.ints:∀ns:List Int,Wq K H (ns.map V.int) (ns.map aO)
 | []=>.nil
 |n::r=>.cons (.int n) (Wq.ints r)
end
section
variable {X:Cx}{pins:List (Addr×Obj)}{σ:St}{H:Hp}{s:Shared}
mutual
theorem Inv.reads (I:Inv X pins σ H s):∀{v:V}{d:fk}{u:Value},UX X.K H v d->RelV v u->∃as,Reads s.heap u d as
 |_,_,_,.non,r=>by cases (show _=bT from r);exact⟨_,.none⟩
 |_,_,_,.bl b,r=>by cases (show _=gU b from r);exact⟨_,.bool b⟩
 |_,_,_,.int i,r=>by obtain⟨t,rfl⟩:=r;exact⟨_,.int i t⟩
 |_,_,_,.str x,r=>by obtain⟨t,rfl⟩:=r;exact⟨_,.str x t⟩
 |_,_,_,.lst (a:=a) h q,r=>by
  cases (show _=aI a from r);obtain⟨j,J,⟨o,n,e,c,_,d⟩,_⟩:=I.list h;obtain⟨as,M⟩:=Inv.readsAll I q J;exact⟨_,.list e c d (by simpa using M)⟩
 |_,_,_,.tup (a:=a) h q,r=>by
  cases (show _=aI a from r);obtain⟨j,J,⟨o,e,c,n,d⟩,_⟩:=I.tuple h;obtain⟨as,M⟩:=Inv.readsAll I q J;exact⟨_,.tuple e c d (by simpa using M)⟩
theorem Inv.readsAll (I:Inv X pins σ H s):∀{v:List V}{d:List fk}{u:List Value},Wq X.K H v d->ZK v u->∃as,ReadsAll s.heap u d as
 |_,_,_,.nil,r=>by cases r;exact⟨_,.nil⟩
 |_,_,_,.cons h q,r=>by
  cases r with
  |cons r j=>
   obtain⟨O,J⟩:=Inv.reads I h r;obtain⟨U,M⟩:=Inv.readsAll I q j;exact⟨_,.cons J M⟩
end
end
structure ZkE (d:fk):Prop where
 sh:d.showable=true
 nd:d.hasDict=false
 dp:d.depth<=60
 sz:d.shown.length<=sizeLine
section
variable {X:Cx}
theorem Zl7 (O:X.A.units+64<cLine):Xb X (compareOp .NotEq) (fun x y H Q=>∃j J,UX X.K H x j/\UX X.K H y J/\cY j=true/\cY J=true/\Q (.bl (!eY j J)) H):=by
 intro M s σ H x y v u Q I U Y ⟨j,J,h1,h2,s1,s2,q⟩;obtain⟨as,r1⟩:=I.reads h1 U;obtain⟨bs,r2⟩:=I.reads h2 Y;exact SeqAt.compareNe_shaped r1 r2 s1 s2 O ⟨.bl _,H,I,rfl,q⟩
theorem Zgd {k:Nat}(hr:Jc k X.A):Yo X (.builtin "repr") (fun xs H Q=>∃x d,xs=[x]/\UX X.K H x d/\ZkE d/\Q (.str d.shown) H):=by
 intro M s σ H xs us Q I r h;obtain⟨x,d,rfl,hd,F,q⟩:=h;obtain⟨u,rfl,ru⟩:=vals1 r;obtain⟨as,rd⟩:=I.reads hd ru;have n4:X.A.units+61<cLine:=by have:=hr.units;omega
 have j:∀(J:Heap) (u:Tok) (tk:Nat),(∀b o,s.heap.get? b=some o->J.get? b=some o)->EP X M σ Q (.str d.shown u) {s with heap:=J,toks:=tk}:=fun J u tk k=>⟨.str d.shown,H,I.kept k,⟨u,rfl⟩,q⟩;cases rd with
 |none=>exact P.repr_of_none (j s.heap _ _ fun _ _ e=>e)
 |bool b=>exact P.repr_of_bool (by have:=j s.heap s.toks (s.toks+1) fun _ _ e=>e;simpa only[fV] using this)
 |int i t=>exact P.repr_of_int (by simpa only[jm,decide_eq_true_eq] using F.sh) (by have:=j s.heap s.toks (s.toks+1) fun _ _ e=>e;simpa only[fV] using this)
 |str y t=>exact P.repr_of_str (by have:=j s.heap s.toks (s.toks+1) fun _ _ e=>e;simpa only[fV] using this) (by simpa only[fV] using F.sz)
 |list O U Y h4=>exact repr_of_reads' (.list O U Y h4) F.sh (fun z=>by rw[F.nd] at z;cases z) hr.gd (by have:=F.dp;omega) (fun _ _ e=>e) (fun J u tk k=>j J u tk k) F.sz
 |tuple O U Y h4=>exact repr_of_reads' (.tuple O U Y h4) F.sh (fun z=>by rw[F.nd] at z;cases z) hr.gd (by have:=F.dp;omega) (fun _ _ e=>e) (fun J u tk k=>j J u tk k) F.sz
 |dict O U Y h4 h5=>cases hd
theorem ZiF:Yo X (.builtin "isinstance") (fun xs H Q=>∃x c t b,xs=[x,c]/\XM X.K H x t/\(∀j,RelV c j->jy X.K t j=some b)/\Q (.bl b) H):=by
 intro J s U H xs Y Q I r h;obtain⟨x,c,t,b,rfl,ty,e,q⟩:=h;cases r with
 |cons M r=>
  cases r with
  |cons O r=>
   cases r;exact ZfR I M ty (e _ O) fun tk=>⟨.bl b,H,I.tok _,rfl,q⟩
theorem Zlv {prog:Program}{w:World}{A:Around}{j:List Value}{bs:List Bool}(r:ZK (bs.map V.bl) j):TruthOf prog w A (fun i v=>j.toArray[i]?=some v) (fun i=>bs.getD i false):=by
 intro i v s Q E q M;rw[lK] at q;have Y:i<j.length:=(ae.mp q).1;have O:=r.length;rw[Za] at O;have hb:(bs.map V.bl)[i]?=some (.bl (bs.getD i false)):=by
  rw[Zc,Zb,Zf (by omega)];rfl
 obtain⟨u,J,U⟩:=r.get hb;rw[q] at J;cases J;cases (show v=gU _ from U);exact g9 M
theorem Zfs {bs:List Bool}:((ac bs.length).any fun i=>bs.getD i false)=bs.any id:=by
 have:(ac bs.length).map (fun i=>bs.getD i false)=bs:=by
  apply nC
  ·simp
  ·intro i j q;simp at j;simp[j]
 conv=>rhs;rw[<-this,dJ]
 rfl
theorem ZcR (Y:X.calm=true):Yo X (.builtin "any") (fun xs H Q=>∃(a:Addr) (bs:List Bool),xs=[.ref a]/\Wr X.K H a (bs.map V.bl)/\Q (.bl (bs.any id)) H):=by
 intro M s σ H xs us Q I r h;obtain⟨a,bs,rfl,hq,q⟩:=h;obtain⟨u,rfl,ru⟩:=vals1 r;cases ru;obtain⟨j,O,p,hz⟩:=I.list hq;have U:=O.length;rw[Za] at U;refine call_any_walk (fN p.isList ?_);have J:a≠s.heap.objs.size:=by obtain⟨o,n,e,_⟩:=p;exact aB (Zp e)
 refine⟨s.heap.objs.size,_,_,_,_,_,(fun i=>bs.getD i false),rfl,l9 (A:=X.A.in1) (I.ok.hd Y) _ a J j.toArray,⟨⟨_,Zo _ rfl,rfl,rfl⟩,p.isList.push _⟩,Zlv O,fun h' tk k=>?_⟩;rw[Zh,<-U,Zfs];refine⟨.bl _,H,I.kept (t':=tk) fun b o e=>k b o ?_ (Zn _ e),rfl,q⟩;simpa using aB (Zp e)
end
noncomputable abbrev Uf (ns:List Int)(n:Nat):List Int:=firstMet (fun i=>ns.getD i 0) n
section
variable {prog:Program}{w:World}{A:Around}{E:Value->Shared->Prop}{s:Shared}
end
theorem ZeU:∀{ns:List Int}{us:List Value},ZK (ns.map V.int) us->bP us ns
 | [],_,.nil=>.nil
 |n::r,_,.cons h t=>by
  obtain⟨k,rfl⟩:=(show ∃t,_=gM n t from h);exact .cons n k (ZeU t)
section
variable {X:Cx}
theorem ZcQ:Yo X (.type "range") (fun xs H Q=>∃j:Int,xs=[.int j]/\∀p,H p=none->Q (.ref p) (upd H p (.rng 0 j))):=by
 intro J s O H xs U Q I r h;obtain⟨j,rfl,q⟩:=h;obtain⟨u,rfl,M⟩:=vals1 r;obtain⟨t,rfl⟩:=M;exact call_range_1 ⟨.ref s.heap.objs.size,_,I.laid (a:=s.heap.objs.size) (o:=.rng 0 j) (fun b o e=>Zn _ e) (Zq _) ⟨_,_,_,Zo _ rfl⟩,rfl,q _ (I.hok.fresh (Zq _))⟩
noncomputable def YX (lo:Int)(n:Nat):List Int:=(ac n).map fun i:Nat=>lo+(i:Int)
theorem ZbY {lo:Int}{n i:Nat}(h:i<n):(YX lo n)[i]?=some (lo+i):=by unfold YX;rw[Zc,ao h];rfl
theorem Yx {lo:Int}{n:Nat}:(YX lo n).length=n:=by unfold YX;rw[Za,Zg]
theorem Zfk {lo:Int}{n:Nat}{ZG:Array Value}(h:hG (fun i v=>∃t,v=.int (lo+i*1) t) ZG n):ZK ((YX lo n).map V.int) ZG.toList:=by
 have go:∀(l:List Value) (k:Nat),(∀(j:Nat) v,l[j]?=some v->∃t,v=.int (lo+((k+j:Nat):Int)) t)->ZK (((dI k l.length).map fun i:Nat=>lo+(i:Int)).map V.int) l:=by
  intro l;induction l with
  |nil=>intro k _;exact .nil
  |cons x r M=>
   intro k J;rw[Zi,eO];refine .cons ?_ (M (k+1) fun j v q=>?_)
   ·obtain⟨t,e⟩:=J 0 x rfl
    exact⟨t,e⟩
   ·obtain⟨t,e⟩:=J (j+1) v q
    exact⟨t,by rw[e];congr 2;omega⟩
 have e:=go ZG.toList 0 fun j v q=>by
  rw[bM] at q;obtain⟨t,e⟩:=h.2 j v q;exact⟨t,by rw[e];congr 1 <;> omega⟩
 rw[Zr,h.1] at e;unfold YX;rw[eC];exact e
end
noncomputable def WW:List Str->Bool
 | []=>true
 |x::r=>!(r.contains x) && WW r
theorem Z0:∀{l:List Str},WW l=true->l.Nodup
 | [],_=>eE
 |x::r,h=>by
  unfold WW at h;simp only[ag,gC] at h;refine bG.mpr ⟨fun z=>?_,Z0 h.2⟩;have:=aA.mpr z;rw[h.1] at this;cases this
noncomputable def Zai (j:cZ)(x:Str):Bool:=match j.names.lookup x with
 |some .local=>true
 |some .cell=>true
 |_=>false
theorem YG {j:cZ}{x:Str}(h:Zai j x=true):Loc j x:=by
 unfold Zai at h;split at h
 ·rename_i e;exact .inl e
 ·rename_i e;exact .inr e
 ·cases h
noncomputable def Jk (j:cZ)(x:Str):Bool:=match j.names.lookup x with
 |some .local=>true
 |_=>false
theorem W0 {j:cZ}{x:Str}(h:Jk j x=true):j.names.lookup x=some .local:=by
 unfold Jk at h;split at h
 ·rename_i e;exact e
 ·cases h
noncomputable def Zh3 (j:cZ)(x:Str):Bool:=match j.names.lookup x with
 |some .local=>true
 |some .cell=>true
 |some .free=>true
 |_=>false
theorem Zh2 {j:cZ}{x:Str}(h:Zh3 j x=true):Vis j x:=by
 unfold Zh3 at h;split at h
 ·rename_i e;exact .inl e
 ·rename_i e;exact .inr (.inl e)
 ·rename_i e;exact .inr (.inr e)
 ·cases h
noncomputable def YO (j:cZ)(x:Str):Bool:=match j.names.lookup x with
 |some .globalImplicit=>true
 |_=>false
noncomputable def Wt:Expr->Bool
 | .Starred _ _=>false
 |_=>true
theorem W9 {e:Expr}{j:List Expr}{env:Env}(h:Wt e=true):starEach (e::j) env=(false,eval e env)::starEach j env:=by cases e <;> first|rfl|cases h
noncomputable def JQ:List Expr->Bool
 | []=>true
 |e::r=>Wt e && JQ r
theorem WQ {env:Env}{pos:Pos}:∀{j:List Expr},JQ j=true->(backTo pos (starEach j env)).any (·.1)=false
 | [],_=>rfl
 |e::r,h=>by
  unfold JQ at h;rw[ag] at h;rw[W9 h.1];exact WQ h.2
section
variable {X:Cx}
theorem pc {e:Expr}{j:List Expr}{q:TE}{t:TA}(J:PE X e q)(M:PA X j t)(O:Wt e=true:=by rfl):PA X (e::j) (ZbH q t):=Zjw J M (W9 O)
theorem JB {x:Str}(h:YO X.env.scope x=true):Gl X x:=by
 unfold YO at h;split at h
 ·rename_i e;exact e
 ·cases h
theorem vn (i:Nat){x:Str}{pos:Pos}(q:X.N[i]?=some x:=by rfl)(J:Zh3 X.env.scope x=true:=by kernel_rfl)(M:(x == ("__debug__":Str))=false:=by kernel_rfl)(j:(x == ("__classdict__":Str))=false:=by kernel_rfl) :
  PE X (.Name x pos) (Zlz i):=ZlY q (Zh2 J) M j
theorem gn (i:Nat){x:Str}{pos:Pos}(q:X.N[i]?=some x:=by rfl)(J:WW X.N=true:=by kernel_rfl)(j:Jk X.env.scope x=true:=by kernel_rfl):PG X (.Name x pos) (Yy i):=
 ZeE (Z0 J) q (.inl (W0 j)) (.inr (W0 j))
theorem gnf (i:Nat){x:Str}{pos:Pos}(j:X.fn x=true)(q:X.N[i]?=some x:=by rfl)(J:WW X.N=true:=by kernel_rfl)(M:Zai X.env.scope x=true:=by kernel_rfl):PG X (.Name x pos) (Yy i):=
 ZeE (Z0 J) q (YG M) (.inl j)
theorem ZH (i:Nat){x:Str}{e:Expr}{q:TE}{pos j:Pos}(J:X.fn x=true)(M:PE X e q)(O:X.N[i]?=some x:=by rfl)(U:WW X.N=true:=by kernel_rfl)(Y:Zai X.env.scope x=true:=by kernel_rfl)
  (hs:swapsWith e (some (.Name x j)) pos.line X.env=pure false:=by rfl):PS X (.Assign [.Name x j] e pos) (Zc5 q (Yy i)):=
 ZlV (Z0 U) O (YG Y) M hs (.inl J)
theorem cb {x:Str}{id:String}{r:List V->Hp->VK->Prop}{e:Expr}{j:List Expr}{t:TA}{p pos:Pos}(J:Yo X (.builtin id) r)(M:X.mg x=none)(O:PA X (e::j) t)(U:YO X.env.scope x=true:=by kernel_rfl)(Y:bootBuiltins x=some (.builtin id):=by kernel_rfl)
  (hn:x ≠ "__name__":=by decide) (hd:(x == ("__debug__":Str))=false:=by kernel_rfl) (he:Wt e=true:=by rfl) (q:JQ j=true:=by rfl) :
  PE X (.Call (.Name x p) (e::j) [] pos) (tCB r t):=Zhl J (JB U) M Y O hn hd (W9 he) (WQ q)
theorem ct {x:Str}{T:String}{r:List V->Hp->VK->Prop}{e:Expr}{j:List Expr}{t:TA}{p pos:Pos}(J:Yo X (.type T) r)(M:X.mg x=none)(O:PA X (e::j) t)(U:YO X.env.scope x=true:=by kernel_rfl)(Y:bootBuiltins x=some (.type T):=by kernel_rfl)
  (hn:x ≠ "__name__":=by decide) (hd:(x == ("__debug__":Str))=false:=by kernel_rfl) (he:Wt e=true:=by rfl) (q:JQ j=true:=by rfl) :
  PE X (.Call (.Name x p) (e::j) [] pos) (tCB r t):=Zfw J (JB U) M Y O hn hd (W9 he) (WQ q)
theorem tyv (T:String){x:Str}{pos:Pos}(j:X.mg x=none)(q:YO X.env.scope x=true:=by kernel_rfl)(J:bootBuiltins x=some (.type T):=by kernel_rfl)(M:x ≠ "__name__":=by decide)(O:(x == ("__debug__":Str))=false:=by kernel_rfl) :
  PE X (.Name x pos) (tC (.ty T)):=Zjs (JB q) j J rfl M O
theorem XV {q a:Expr}{j:TA}{p pos:Pos}(J:X.mg "range"=none)(M:PA X [a] j)(O:YO X.env.scope "range"=true:=by kernel_rfl)(U:starEach [a] X.env=[(false,eval a X.env)]:=by rfl):PI X q (.Call (.Name "range" p) [a] [] pos) (Zlf j):=Zfv (JB O) J M U
theorem ZpK {J a b:Expr}{q:TA}{p pos:Pos}(M:X.mg "range"=none)(O:PA X [a,b] q)(U:YO X.env.scope "range"=true:=by kernel_rfl)(Y:starEach [a,b] X.env=[(false,eval a X.env),(false,eval b X.env)]:=by rfl)(j:starEach [b] X.env=[(false,eval b X.env)]:=by rfl) :
  PI X J (.Call (.Name "range" p) [a,b] [] pos) (Zle q):=Zfu (JB U) M O Y j
end
noncomputable def Fn (P:Program)(w:World)(K:ab)(j:Str->Option Value)(base:Heap)(CX:CXT)(k:Nat)(x:Str)(q:List Str)(sp:Sp):Prop:=
 ∃f J,ZR P w K j base CX k f J q sp/\j x=some (.ref f)/\dY K (.ref f)=true/\Binds K J q []
section
variable {X:Cx}
theorem YC {CX:CXT}{k j:Nat}{x:Str}{M:List Str}{sp:Sp}{E:XK}{e:Expr}{q:List Expr}{t:TA}{p pos:Pos}(G:Fn X.prog X.w X.K X.mg X.base CX k x M sp)(O:Jc j X.A)(U:Zbv CX X E)(Y:PA X (e::q) t)(hk:k<=j:=by decide)
  (hg:YO X.env.scope x=true:=by kernel_rfl) (hd:(x == ("__debug__":Str))=false:=by kernel_rfl) (he:Wt e=true:=by rfl) (J:JQ q=true:=by rfl) :
  PE X (.Call (.Name x p) (e::q) [] pos) (ZkK sp [] E t):=by
 obtain⟨f,fd,F,hm,kp,b⟩:=G;exact Zjr F (O.mono hk) (JB hg) hm kp b .nil U Y hd (W9 he) (WQ J)
end
theorem Fn.mk {P:Program}{w:World}{K:ab}{mg:Str->Option Value}{base h:Heap}{CX:CXT}{k:Nat}{x:Str}{J:List Str}{sp:Sp}{st:Stmt}{f:Addr}{oc:Value}{od M:Option Addr}{O:Array (Option Value)}{kV q U j ct:Value}(X:K.In h)(G:h.Ns mainGlobals mg)
  (a:bh K mainGlobals x=some (some (.ref f))) (l:K.lookup f=some ⟨oc,od,.func (cr x x (Wj st) (Y2 st) (Z3 st) .none kV q U M j ct),O⟩) (c:fj K j x=true) (kp:dY K (.ref f)=true)
  (hok:∀Y,Y5 K x x st f Y->ZR P w K mg base CX k f Y J sp)
  (hb:∀(kV q U:Value) (M:Option Addr) (j ct:Value) (us:List Value),us.length=J.length->bindArgs (cr x x (Wj st) (Y2 st) (Z3 st) .none kV q U M j ct) ⟨us,[]⟩=pure (J.zip us)) :
  Fn P w K mg base CX k x J sp:=
 ⟨f,_,hok _ (ZdD l c kp),m9 X G a,kp,(ZdD l c kp).binds hb⟩
noncomputable def Zmz (n T:String):Bool:=n == T || (n == "bool" && T == "int")
noncomputable def Zdz:List String:=["NoneType", "bool", "int", "str", "list", "tuple", "dict"]
theorem Zp1 {K:ab}{n T:String}(j:n∈Zdz)(q:T∈["int", "bool", "tuple", "list", "str"]):jy K (.type n) (.type T)=some (Zmz n T):=by
 simp only[Zdz,aF,aQ,cQ,or_false] at j q;rcases j with rfl|rfl|rfl|rfl|rfl|rfl|rfl <;> rcases q with rfl|rfl|rfl|rfl|rfl <;> kernel_rfl
noncomputable def Kd (K:ab)(H:Hp)(x:V)(n:String):Prop:=XM K H x (.type n)/\n∈Zdz
noncomputable def Zn6 (K:ab)(T:String):List V->Hp->VK->Prop:=fun xs H Q=>∃x n,xs=[x,.ty T]/\Kd K H x n/\Q (.bl (Zmz n T)) H
theorem ZiG {X:Cx}{T:String}(J:T∈["int", "bool", "tuple", "list", "str"]):Yo X (.builtin "isinstance") (Zn6 X.K T):=by
 intro j s M H xs O Q I r h;obtain⟨x,n,rfl,⟨ty,U⟩,q⟩:=h;refine ZiF j s M H _ O Q I r ⟨x,.ty T,.type n,Zmz n T,rfl,ty,fun Y rc=>?_,q⟩;cases (show Y=db T from rc);exact Zp1 U J
section
variable {X:Cx}
theorem Jp (K:ab)(j:X.K=K:=by rfl):IxR X (Zn4 K):=j▸Zmx
theorem ixL (K:ab)(j:X.K=K:=by rfl):IxR X (Zn5 K):=j▸Zj6
theorem Zp3 (K:ab)(T:String)(j:T∈["int", "bool", "tuple", "list", "str"]:=by decide)(q:X.K=K:=by rfl):Yo X (.builtin "isinstance") (Zn6 K T):=q▸ZiG j
theorem inK (K:ab)(j:X.K=K:=by rfl):Xb X (compareOp .In) (rIn K false):=j▸Zfz
theorem ZpU (K:ab)(j:X.K=K:=by rfl):Xb X (compareOp .NotIn) (rIn K true):=j▸ZaZ
noncomputable def ZpQ (K:ab):List V->Hp->VK->Prop:=fun xs H Q=>∃p j,xs=[.ref p]/\(Wr K H p j\/WM K H p j)/\Q (.int j.length) H
theorem YB (K:ab)(j:X.K=K:=by rfl):Yo X (.builtin "len") (ZpQ K):=j▸Zbr
theorem itT (K:ab){q l:Expr}{j:TE}(J:PE X l j)(M:X.K=K:=by rfl):PI X q l (Zov K j):=M▸ZlW J
theorem itL (K:ab){q l:Expr}{j:TE}(J:PE X l j)(M:X.K=K:=by rfl):PI X q l (Zlg K j):=M▸Zjk J
end
noncomputable def Zbl (N:List Str)(M:cZ)(O:List Str)(q:List Nat)(U:List Str)(J:cZ):Bool:=
 (J.kind == .function) && WW (J.names.map (·.1)) && J.names.all (fun y=>y.2 != .local || Jk J y.1) && WW U && decide (U=O++q.map fun j=>N.getD j "") &&
  q.all (fun j=>decide (j<N.length) && (match J.names.lookup (N.getD j "") with|some .free=>true|_=>false)) &&
  J.names.all (fun y=>y.2 != .free || (match M.names.lookup y.1 with|some .cell=>true|some .free=>true|_=>false))
theorem Jd.of {N:List Str}{M:cZ}{own:List Str}{J:List Nat}{U:List Str}{Y:cZ}(h:Zbl N M own J U Y=true):Jd N M own J U Y:=by
 unfold Zbl at h;simp only[ag,aD,decide_eq_true_eq,beq_iff_eq,bne_iff_ne,ne_eq,aZ] at h;obtain⟨⟨⟨⟨⟨⟨h1,h2⟩,h3⟩,h4⟩,h5⟩,h6⟩,h7⟩:=h;refine⟨h1,Z0 h2,fun y O e=>?_,Z0 h4,h5,fun j hj=>⟨(h6 j hj).1,?_⟩,fun y O e=>?_⟩
 ·rcases h3 y O with z|z
  ·exact absurd e z
  ·exact W0 z
 ·have:=(h6 j hj).2
  split at this
  ·rename_i z;exact z
  ·cases this
 ·rcases h7 y O with z|z
  ·exact absurd e z
  ·split at z
   ·rename_i q;exact .inl q
   ·rename_i q;exact .inr q
   ·cases z
theorem cmp {X:Cx}(q:List Str)(j:List Nat)(M:List Str){scope:cZ}{elt iter O:Expr}{ifs:List Expr}{pos:Pos}{U:TI}{g:TG}{Y:TT}{te:TE}(hc:X.calm=true)(hi:PI X O iter U)
  (hg:∀J C s H ex,PG (YQ X scope J M C s H ex) O g) (ht:∀J C s H ex,PIf (YQ X scope J M C s H ex) ifs Y) (he:∀J C s H ex,PE (YQ X scope J M C s H ex) elt te)
  (hS:Zbl X.N X.env.scope q j M scope=true:=by kernel_rfl) (hs:∀x,foldedSetIterable iter X.env x=pure x:=by intro _;rfl) :
  PE X (.ListComp elt [⟨O,iter,ifs,0⟩] scope pos) (Zd0 q j U g Y te):=Zjq rfl (.of hS) hc hi hg ht he hs
section
variable {X:Cx}
noncomputable def Zn8:R2:=fun x y H Q=>∃(a b:Addr) (j q:List V),x=.ref a/\y=.ref b/\H a=some (.tup j)/\H b=some (.tup q)/\j.length+q.length<=sizeLine/\∀p J,Same H J->J p=some (.tup (j++q))->Q (.ref p) J
theorem Zjz:Xb X (binaryOp .Add) Zn8:=by
 intro j s σ H x y v u Q I rx ry h;obtain⟨a,b,xs,ys,rfl,rfl,U,hb,hz,q⟩:=h;by_cases hx:xs=[]
 ·subst hx
  cases rx;cases ry;obtain⟨n9,r1,p1,_⟩:=I.tuple (WM.of U);obtain⟨n6,r2,p2,_⟩:=I.tuple (WM.of hb);cases r1;obtain⟨⟨o0,dd,data,sl⟩,ho,hc,n,hd⟩:=id p1;obtain⟨⟨n8,Y,data2,n4⟩,J,M,n2,O⟩:=id p2;simp only at hc hd M O;subst hc hd M O;exact mL ⟨_,ho,rfl⟩ ⟨_,J,rfl⟩ ka l7 gP gw (gh _ _) (tuple_addW0 a b _ _ n n2 dd Y sl n4 rfl) ⟨ho,J,⟨.ref b,H,I,rfl,q b H (Same.refl H) hb⟩⟩
 ·refine ZjA j s σ H _ _ v u Q I rx ry ⟨a,b,xs,ys,rfl,rfl,.of U,.of hb,hx,hz,fun e=>?_,fun e p hp=>q p _ (Same.upd hp) Zt⟩
  subst e;exact q a H (Same.refl H) (by rw[fW];exact U)
end
theorem Yb {c:TT}{tb:TS}{D:Xc}{σ:St}{H:Hp}(Pv:Nat->St->Hp->Prop)(q:St->Hp->Prop)(hend:∀ σ H,q σ H->D.nx σ H)(h0:∃m,Pv m σ H)
  (turn:(∀ σ H,q σ H->D.nx σ H)->∀m σ H,Pv m σ H->c σ H fun b J=>if b=true then ∃N:St->Hp->Prop,(∀ j M,N j M->∃O,O<m/\Pv O j M)/\tb {D with nx:=N,ct:=N,bk:=D.nx} σ J else D.nx σ J) :
  Zgy c tb D σ H:=⟨Pv,h0,turn hend⟩
structure Wp (J:It)(H:Hp)(xs:List V):Prop where
 go:∀(i:Nat) H',Same H H'->i<xs.length->J.go i H'
 yld:∀(i:Nat) H' x H2,Same H H'->i<xs.length->J.yld i H' x H2->H2=H'/\xs[i]?=some x
 stop:∀H',Same H H'->J.stop xs.length H'
theorem Wp.mono {J:It}{H q:Hp}{xs:List V}(s:Same H q)(S:Wp J H xs):Wp J q xs:=
 ⟨fun i j e=>S.go i j (s.trans e),fun i j x M e=>S.yld i j x M (s.trans e),fun j e=>S.stop j (s.trans e)⟩
theorem Yu {K:ab}{H:Hp}{a:Addr}{xs:List V}(h:WM K H a xs):Wp (Itt K a) H xs:=
 ⟨fun i j s q=>⟨xs,_,s.tup h,Zf q⟩,fun i j x J s _ y=>⟨y.1,y.2 xs (s.tup h)⟩,fun j s=>⟨xs,s.tup h,Zq _⟩⟩
theorem YK {K:ab}{H:Hp}{a:Addr}{xs:List V}(h:Wr K H a xs):Wp (Itl K a) H xs:=
 ⟨fun i j s q=>⟨xs,_,s.seq h,Zf q⟩,fun i j x J s _ y=>⟨y.1,y.2 xs (s.seq h)⟩,fun j s=>⟨xs,s.seq h,Zq _⟩⟩
theorem Je {H:Hp}(lo:Int)(n:Nat):Wp (Itr lo n) H ((YX lo n).map V.int):=by
 have q:((YX lo n).map V.int).length=n:=by rw[Za,Yx]
 refine⟨fun i J s j=>by rw[q] at j;exact j,fun i J x M s j y=>?_,fun J s=>by show n<=_;rw[q];exact Zq _⟩;rw[q] at j;exact⟨y.1,by rw[y.2,Zc,ZbY j];rfl⟩
theorem ZcN {J:It}{own:List Str}{O:List Nat}{g:TG}{tc:TT}{te:TE}{σ:St}{H:Hp}{Q:VK}{xs:List V}(S:Wp J H xs)(Y:St)(n6:Js own O σ=none::Y)(f:V->Option V)(hz:xs.length<=1000000)
  (hs:∀(i:Nat) x v0 j,xs[i]?=some x->Same H j->∀(R:St->V->Hp->Prop) (R':St->Hp->Prop),(∀v H5,f x=some v->Same j H5->R (some x::Y) v H5)->(∀U,f x=none->Same j U->R' (some x::Y) U)->
   g x (v0::Y) j fun q H3=>tc q H3 fun b U=>if b=true then te q U (R q) else R' q U)
  (hd:∀D j,H D=none->Same H j->j D=some (.lst (xs.filterMap f))->Q (.ref D) j) :
  WL own O g tc te σ Q J H:=by
 intro D hD;refine⟨fun i m n4 j=>m=xs.length-i/\i<=xs.length/\(∃v0,n4=v0::Y)/\Same H j/\j D=some (.lst ((xs.take i).filterMap f)),⟨_,rfl,aX _,⟨none,n6⟩,Same.upd hD,by rw[Zt,gb];rfl⟩,?_⟩;rintro i m n4 j ⟨rfl,hi,⟨v0,rfl⟩,s,hl⟩;by_cases M:i<xs.length
 ·refine .inr ⟨S.go i j s M,_,fun n9 H2 z=>z,fun x H2 y=>?_⟩
  obtain⟨rfl,hx⟩:=S.yld i j x H2 s M y;have ht:xs.take (i+1)=xs.take i++[x]:=by rw[c8,hx];rfl
  have n8:((xs.take i).filterMap f).length<=i:=a5 (List.length_filterMap_le _ _) (by rw[bZ];omega);refine hs i x v0 H2 hx s _ _ (fun v H5 e s5=>?_) (fun U e s4=>?_)
  ·refine⟨_,s5 _ _ hl,?_,xs.length-(i+1),by omega,rfl,M,⟨_,rfl⟩,(s.trans s5).updr hD,?_⟩
   ·have:(16777216:Nat)=sizeLine:=by decide
    omega
   ·rw[Zt,ht,lL,bU,e];rfl
  ·refine⟨xs.length-(i+1),by omega,rfl,M,⟨_,rfl⟩,s.trans s4,?_⟩
   rw[s4 _ _ hl,ht,lL,bU,e];simp
 ·have e:i=xs.length:=by omega
  subst e;refine .inl ⟨S.stop j s,hd D j hD s ?_⟩;rw[hl,dz]
theorem Wy {J:It}{g:TG}{tb:TS}{D:Xc}{σ:St}{H0 H:Hp}{xs:List V}(S:Wp J H0 xs)(Pv:Nat->St->Hp->Prop)(h0:Pv 0 σ H)(hS:∀i σ H,Pv i σ H->Same H0 H)
  (hs:∀(i:Nat) x σ H,xs[i]?=some x->Pv i σ H->g x σ H fun q U=>tb {D with nx:=Pv (i+1),ct:=Pv (i+1),bk:=D.nx} q U) (hd:∀ σ H,Pv xs.length σ H->D.nx σ H) :
  ∃W:Nat->Nat->St->Hp->Prop,(∃m,W 0 m σ H)/\∀i m σ H,W i m σ H->
   (J.stop i H/\D.nx σ H)\/(J.go i H/\∃N:St->Hp->Prop,(∀ M j,N M j->∃Y,Y<m/\W (i+1) Y M j)/\∀x j,J.yld i H x j->g x σ j fun q U=>tb {D with nx:=N,ct:=N,bk:=D.nx} q U):=by
 refine⟨fun i m σ H=>m=xs.length-i/\i<=xs.length/\Pv i σ H,⟨_,rfl,aX _,h0⟩,?_⟩;rintro i m σ H ⟨rfl,hi,p⟩;have s:=hS i σ H p;by_cases O:i<xs.length
 ·refine .inr ⟨S.go i H s O,Pv (i+1),fun M j p'=>⟨xs.length-(i+1),by omega,rfl,O,p'⟩,fun x j y=>?_⟩
  obtain⟨rfl,hx⟩:=S.yld i H x j s O y;exact hs i x σ _ hx p
 ·have e:i=xs.length:=by omega
  subst e;exact .inl ⟨S.stop H s,hd σ H p⟩
theorem tT {A B:Hp->Prop}{σ:St}{H:Hp}(h:A H):Wv σ H fun b j=>if b=true then A j else B j:=by
 show if true=true then A H else B H
 rw[if_pos rfl];exact h
theorem ZeZ {α j:Type}(g:α->j):∀xs:List α,xs.filterMap (fun y=>some (g y))=xs.map g
 | []=>rfl
 |x::r=>by rw[bU,aL,ZeZ g r]
theorem Zll {α j:Type}(p:α->Bool)(g:α->j):∀xs:List α,xs.filterMap (fun y=>if p y=true then some (g y) else none)=(xs.filter p).map g
 | []=>rfl
 |x::r=>by
  rw[bU,ny,Zll p g r];by_cases h:p x=true
  ·rw[if_pos h,if_pos h];rfl
  ·rw[if_neg h,if_neg h]
theorem Zos {c A B:Prop} [Decidable c](j:c)(h:A):if c then A else B:=by rw[if_pos j];exact h
theorem ZcA {c A B:Prop} [Decidable c](j:¬c)(h:B):if c then A else B:=by rw[if_neg j];exact h
theorem Y3 {J:It}{own:List Str}{M:List Nat}{O:TE}{σ:St}{H:Hp}{Q:VK}{xs:List V}(S:Wp J H xs)(q:St)(n4:Js own M σ=none::q)(f:V->V)(hz:xs.length<=1000000)
  (hs:∀(i:Nat) x j,xs[i]?=some x->Same H j->∀R:VK,(∀U,Same j U->R (f x) U)->O (some x::q) j R)
  (hd:∀D j,H D=none->Same H j->j D=some (.lst (xs.map f))->Q (.ref D) j):WL own M (Yy 0) Wv O σ Q J H:=by
 refine ZcN S q n4 (fun x=>some (f x)) hz (fun i x v0 j hx s R R' h1 h2=>?_) fun D j hD s hl=>hd D j hD s (by rw[hl,ZeZ]);show Wv (some x::q) j fun b Y=>if b=true then O (some x::q) Y (R (some x::q)) else R' (some x::q) Y
 exact tT (A:=fun Y=>O (some x::q) Y (R (some x::q))) (hs i x j hx s _ fun U s5=>h1 _ U rfl s5)
theorem Zf6 {J:It}{own:List Str}{q:List Nat}{tc:TT}{te:TE}{σ:St}{H:Hp}{Q:VK}{xs:List V}(S:Wp J H xs)(O:St)(n4:Js own q σ=none::O)(p:V->Bool)(f:V->V)(hz:xs.length<=1000000)
  (hs:∀(i:Nat) x j,xs[i]?=some x->Same H j->∀(R:VK) (U:Hp->Prop),(p x=true->∀Y,Same j Y->R (f x) Y)->(p x=false->∀M,Same j M->U M)->tc (some x::O) j fun b M=>if b=true then te (some x::O) M R else U M)
  (hd:∀D j,H D=none->Same H j->j D=some (.lst ((xs.filter p).map f))->Q (.ref D) j):WL own q (Yy 0) tc te σ Q J H:=by
 refine ZcN S O n4 (fun x=>if p x=true then some (f x) else none) hz (fun i x v0 j hx s R U h1 h2=>?_) fun D j hD s hl=>hd D j hD s (by rw[hl,Zll])
 exact hs i x j hx s (R (some x::O)) (U (some x::O)) (fun e Y s5=>h1 _ Y (by rw[if_pos e]) s5) fun e M s4=>h2 M (by rw[if_neg (by rw[e];decide)]) s4
theorem Xm:∀{ns:List Int},(∀n∈ns,n.natAbs<2 ^ 200)->eX (ns.map aO)=true/\gf (ns.map aO)=false/\bO (ns.map aO)=0/\dQ 300 (ns.map aO)=true/\ip (ns.map aO)=ns.length/\cF (ns.map aO)=true
 | [],_=>⟨rfl,rfl,rfl,rfl,rfl,rfl⟩
 |n::r,h=>by
  obtain⟨U,M,Y,h4,h5,h6⟩:=Xm (ns:=r) fun m hm=>h m (aH _ hm);have O:=h n aE;have j:n.natAbs.log2<1920:=by
   by_cases q:n.natAbs=0
   ·rw[q];decide +kernel
   ·have:=(Nat.log2_lt q).mpr O
    omega
  have J:(fV (.int n)).length<=300:=by
   have M:n.natAbs.log2<200:=by
    by_cases q:n.natAbs=0
    ·rw[q];decide +kernel
    ·exact (Nat.log2_lt q).mpr O
   have:=int_text_length_le (k:=200) (by decide) M;simp only[fV];rw[PySem.ofString_length];omega
  refine⟨?_,?_,?_,?_,?_,?_⟩
  ·simp only[aL,eX,jm,U,dW,decide_eq_true_eq];exact j
  ·simp only[aL,gf,nh,M,gI]
  ·simp only[aL,bO,cW,Y];rfl
  ·simp only[aL,dQ,lS,h4,dW,decide_eq_true_eq];exact J
  ·simp only[aL,ip,PyData.bulk,h5,Zi];omega
  ·simp only[aL,cF,d0,h6,dW]
noncomputable def Zy (K:ab)(x:Str)(st:Stmt):Prop:=
 ∃(f:Addr) (M:Value) (O U:Option Addr) (q:Array (Option Value)) (kV J Y j ct:Value),bh K mainGlobals x=some (some (.ref f))/\
  K.lookup f=some ⟨M,O,.func (cr x x (Wj st) (Y2 st) (Z3 st) .none kV J Y U j ct),q⟩/\fj K j x=true/\dY K (.ref f)=true
theorem Zy.mk {K:ab}{x:Str}{st:Stmt}{f:Addr}{J:Value}{M an:Option Addr}{q:Array (Option Value)}{kV doc pm j ct:Value}(a:bh K mainGlobals x=some (some (.ref f)))
  (l:K.lookup f=some ⟨J,M,.func (cr x x (Wj st) (Y2 st) (Z3 st) .none kV doc pm an j ct),q⟩) (c:fj K j x=true) (k:dY K (.ref f)=true):Zy K x st:=
 ⟨f,J,M,an,q,kV,doc,pm,j,ct,a,l,c,k⟩
theorem Zy.fn {P:Program}{w:World}{K:ab}{mg:Str->Option Value}{base h:Heap}{CX:CXT}{k:Nat}{x:Str}{q:List Str}{sp:Sp}{st:Stmt}(D:Zy K x st)(X:K.In h)(G:h.Ns mainGlobals mg)
  (M:∀f J,Y5 K x x st f J->ZR P w K mg base CX k f J q sp)
  (hb:∀(kV doc pm:Value) (an:Option Addr) (j ct:Value) (us:List Value),us.length=q.length->bindArgs (cr x x (Wj st) (Y2 st) (Z3 st) .none kV doc pm an j ct) ⟨us,[]⟩=pure (q.zip us)) :
  Fn P w K mg base CX k x q sp:=by
 obtain⟨f,U,Y,an,O,kV,doc,pm,j,ct,a,l,c,kp⟩:=D;exact Fn.mk X G a l c kp (fun J F=>M f J F) hb
theorem Zy.law {P:Program}{w:World}{K:ab}{mg:Str->Option Value}{h:Heap}{CX:CXT}{k:Nat}{x:Str}{p:Str}{sp:Sp}{st:Stmt}{O:Addr}(D:Zy K x st)(X:K.In h)(G:h.Ns mainGlobals mg)(J:mg x=some (.ref O))
  (M:∀(base:Heap) f q,base.Ns mainGlobals mg->K.In base->Y5 K x x st f q->ZR P w K mg base CX k f q [p] sp)
  (hb:∀(kV doc pm:Value) (an:Option Addr) (j ct:Value) (s:Shared) (u:Value),i3 s (cr x x (Wj st) (Y2 st) (Z3 st) .none kV doc pm an j ct) ⟨[u],[]⟩ [(p,u)]) :
  ∃q:FuncData,(∀(s:Shared) (u:Value),i3 s q ⟨[u],[]⟩ [(p,u)])/\∀base:Heap,K.In base->base.Ns mainGlobals mg->ZR P w K mg base CX k O q [p] sp:=by
 obtain⟨f,oc,od,an,U,kV,doc,pm,j,ct,a,l,c,kp⟩:=D;have e:=J.symm.trans (m9 X G a);cases e;exact⟨_,fun s u=>hb kV doc pm an j ct s u,fun base Y nb=>M base _ _ nb Y (ZdD l c kp)⟩
theorem Yq {α:Type} [DecidableEq α]:∀(l j:List α),l.Nodup->(∀a∈l,a∈j)->l.length<=j.length
 | [],_,_,_=>aX _
 |a::r,j,nd,h=>by
  obtain⟨M,O⟩:=bG.mp nd;have J:a∈j:=h a aE;have:=Yq r (j.erase a) O fun b hb=>by
   have q:b≠a:=fun e=>M (e▸hb);exact (lX q).mpr (h b (aH _ hb))
  rw[List.length_erase_of_mem J] at this;have U:0<j.length:=List.length_pos_of_mem J;rw[Zi];omega
theorem X3 (val:Nat->Int):∀i,(firstMet val i).Nodup
 |0=>eE
 |i+1=>by
  have j:=X3 val i;rw[mj];unfold step_dedup;split
  ·exact j
  ·rename_i h
   refine mV.mpr ⟨j,bG.mpr ⟨by simp,eE⟩,?_⟩;intro a q b hb e;rw[aQ.mp hb] at e;apply h
   first
    |exact a6.mpr ⟨a,q,by simp[e]⟩
    |simpa [e] using q
theorem ZjX (val:Nat->Int)(i:Nat)(k:Int):k∈firstMet val i↔∃j,j<i/\val j=k:=by
 have h:=firstMet_any val i k;constructor
 ·intro M
  have:(firstMet val i).any (· == k)=true:=a6.mpr ⟨k,M,by simp⟩;rw[h] at this;obtain⟨x,q,e⟩:=a6.mp this;obtain⟨j,J,rfl⟩:=aN.mp q;exact⟨j,af.mp J,by simpa using e⟩
 ·rintro⟨j,J,rfl⟩
  have:((ac i).map val).any (· == val j)=true:=a6.mpr ⟨val j,aN.mpr ⟨j,af.mpr J,rfl⟩,by simp⟩;rw[<-h] at this;obtain⟨x,q,e⟩:=a6.mp this;have:x=val j:=by simpa using e
  exact this▸q
theorem ZhK:fillsNumberSlot (.type "tuple") "mul"=pure false:=
 PySem.fillsNumberSlot_seq (id:="tuple.__mul__") (r:=some (.builtin "tuple.__rmul__")) fc.lookup (by decide +kernel) j3.lookup (by decide +kernel)
theorem ZpL:seqRepeat? (.type "tuple")=pure (some (.builtin "tuple.__mul__")):=by
 unfold seqRepeat?;rw[mK (T:="tuple") (name:="__mul__") (id:="tuple.__mul__") fc.lookup (by decide +kernel),mK (T:="tuple") (name:="__rmul__") (id:="tuple.__rmul__") j3.lookup (by decide +kernel)];rfl
noncomputable abbrev tob (q:Option Addr)(j:Array Value)(n:Nat)(J:Array (Option Value)):Obj:={cls:=.type "tuple",dict:=q,data:=.seq j n,slots:=J}
theorem Zn1 (a:Int)(t:Tok)(l:Addr)(j:Array Value)(n:Nat)(J:Option Addr)(M:Array (Option Value)) :
  mC (cH.«int.__rmul__» ⟨[.int a t,.ref l],[]⟩) (fun _ R s=>s.heap.get? l=some (tob J j n M)/\R (.ok (.ret lz)) s):=.of_wp fun q w A R s h=>by
 obtain⟨O,g,d,tk,os⟩:=s;obtain⟨U,h⟩:=h
 wp_walk;exact⟨_,rfl,h⟩
theorem Zon (l:Addr)(j:Array Value)(n:Nat)(J:Option Addr)(M:Array (Option Value))(t:Tok) :
  mC (cH.«tuple.__mul__» ⟨[.ref l,.int 1 t],[]⟩) (fun _ R s=>s.heap.get? l=some (tob J j n M)/\R (.ok (.ret (.ref l))) s):=.of_wp fun q w A R s h=>by
 obtain⟨U,g,d,tk,os⟩:=s;obtain⟨O,h⟩:=h;have Y:=iS;have f2:=eL
 wp_walk using wpAny_loadPart' O
 exact⟨_,rfl,h⟩
theorem Zoo (l:Addr)(j:Array Value)(n:Nat)(J:Option Addr)(M:Array (Option Value))(t:Tok)(U:j.isEmpty=false) :
  mC (cH.«tuple.__mul__» ⟨[.ref l,.int 0 t],[]⟩) (fun _ R s=>s.heap.get? l=some (tob J j n M)/\R (.ok (.ret (.ref s.heap.objs.size))) {s with heap:=s.heap.push {cls:=.type "tuple",data:=.seq #[]}}):=.of_wp fun q w A R s h=>by
 obtain⟨Y,g,d,tk,os⟩:=s;obtain⟨O,h⟩:=h;have f1:=iS;have f2:=eL
 wp_walk using wpAny_loadPart' O
 exact⟨_,rfl,h⟩
theorem Zom (l:Addr)(items:Array Value)(n:Nat)(J:Option Addr)(M:Array (Option Value))(k:Int)(t:Tok)(O:¬(decide (k < -(2 ^ 63)) || decide (k ≥ 2 ^ 63))=true)(U:¬(items.isEmpty || k == 1)=true)(Y:¬(decide (k<=0) || items.isEmpty)=true)
  (h4:¬((items.size:Int)*k > (2 ^ 63-1) / 8)) (h5:¬iQ ((items.size:Int)*k)=true) (h6:((ak k.toNat items).foldl (· ++ ·) #[]).size<=sizeLine) :
  mC (cH.«tuple.__mul__» ⟨[.ref l,.int k t],[]⟩) (fun _ R s=>s.heap.get? l=some (tob J items n M)/\R (.ok (.ret (.ref s.heap.objs.size))) {s with heap:=s.heap.push {cls:=.type "tuple",data:=.seq ((ak k.toNat items).foldl (· ++ ·) #[])}}):=.of_wp fun q w A R s h=>by
 obtain⟨hp,g,d,tk,os⟩:=s;obtain⟨j,h⟩:=h;have f1:=iS;have f2:=eL
 wp_walk using wpAny_loadPart' j
 rw[if_neg O]
 wp_walk using wpAny_loadPart' j
 all_goals (try rw[if_neg U])
 all_goals (try wp_walk using wpAny_loadPart' j)
 all_goals (try rw[if_neg Y])
 all_goals (try wp_walk using wpAny_loadPart' j)
 all_goals (try rw[if_neg h4])
 all_goals (try wp_walk using wpAny_loadPart' j)
 all_goals (try rw[if_neg h5])
 all_goals (try wp_walk using wpAny_loadPart' j)
 all_goals first|exact⟨_,rfl,h⟩|exact h6
theorem Zaj (j:List Value):∀(m:Nat) (ZG:List Value),(ak m j.toArray).foldl (· ++ ·) ZG.toArray=(ZG++(ak m j).flatten).toArray
 |0,ZG=>by simp
 |m+1,ZG=>by
  rw[aW,jM,aW,bC,<-fz];have:ZG.toArray++j.toArray=(ZG++j).toArray:=by simp
  rw[this];exact Zaj j m (ZG++j)
section
variable {X:Cx}
theorem ZK.repl {xs:List V}{us:List Value}(r:ZK xs us):∀m:Nat,ZK (ak m xs).flatten (ak m us).flatten
 |0=>.nil
 |m+1=>by rw[aW,aW,bC,bC];exact r.append (ZK.repl r m)
noncomputable def Zn3:R2:=fun x y H Q=>∃(a:Addr) (j:List V) (k:Nat),x=.ref a/\y=.int k/\H a=some (.tup j)/\j≠[]/\j.length*k<=1000000/\k<=1000000/\∀p q,Same H q->q p=some (.tup (ak k j).flatten)->Q (.ref p) q
theorem Zjy:Xb X (binaryOp .Mult) Zn3:=by
 intro n6 s σ H x y v u Q I rx ry h;obtain⟨a,xs,k,rfl,rfl,ha,hx,hz,hk,q⟩:=h;cases rx;obtain⟨t,rfl⟩:=ry;obtain⟨j,r1,p1,_⟩:=I.tuple (WM.of ha);have hl:=r1.length;have n4:j≠[]:=fun e=>by rw[e] at r1;cases r1;exact hx rfl
 have M:j.toArray.isEmpty=false:=by cases j with|nil=>exact absurd rfl n4|cons _ _=>rfl
 obtain⟨⟨n8,Y,data,sl⟩,J,hc,n,hd⟩:=id p1;simp only at hc hd;subst hc hd;have sz:(16777216:Nat)=sizeLine:=by decide
 have fl:(ak ((k:Nat):Int).toNat j.toArray).foldl (· ++ ·) #[]=((ak k j).flatten).toArray:=by
  have:=Zaj j k [];rw[Zj];simpa using this
 have O:((ak k j).flatten).length=k*j.length:=Za9 j k;refine lO (T:="tuple") (U:="int") (by decide) ⟨_,J,rfl⟩ (fun s'=>jv s' k t) ZhK F.fills_int_mul iA ZpL F.slot_int_index.lookup
  (dC iA (jv s k t) F.entry_int_rmul (F.args_int_rmul_2 _ _) (Zn1 k t a j.toArray n Y sl) ⟨J,rfl,⟨_,J,rfl⟩,?_⟩)
 by_cases k0:k=0
 ·subst k0
  refine dC fc ⟨_,J,rfl⟩ jA (jd _ _) (Zoo a j.toArray n Y sl t M) ⟨J,?_⟩;exact⟨.ref s.heap.objs.size,_,I.laid (t':=s.toks) (o:=.tup []) (fun b ob q=>Zn _ q) (Zq _) ⟨aX _,[],.nil,gQ _ _⟩,rfl,q _ _ (Same.upd (I.hok.fresh (Zq _))) (by rw[Zt];rfl)⟩
 by_cases k1:k=1
 ·subst k1
  refine dC fc ⟨_,J,rfl⟩ jA (jd _ _) (Zon a j.toArray n Y sl t) ⟨J,?_⟩;exact⟨.ref a,H,I,rfl,q _ _ (Same.refl H) (by rw[ha];simp)⟩
 ·refine dC fc ⟨_,J,rfl⟩ jA (jd _ _) (Zom a j.toArray n Y sl k t ?_ ?_ ?_ ?_ ?_ ?_) ⟨J,?_⟩
  ·simp only[aZ,decide_eq_true_eq,not_or];omega
  ·rw[M];simp;omega
  ·rw[M];simp;omega
  ·rw[Zh,<-hl]
   have:((xs.length*k:Nat):Int)<=1000000:=by omega
   rw[aV] at this;omega
  ·unfold iQ
   rw[Zh,<-hl];have:((xs.length*k:Nat):Int)<=1000000:=by omega
   rw[aV] at this;simp only[decide_eq_true_eq];omega
  ·rw[fl,Zh,O,<-hl,dO];omega
  ·rw[fl]
   exact⟨.ref s.heap.objs.size,_,I.laid (t':=s.toks) (o:=.tup (ak k xs).flatten) (fun b ob q=>Zn _ q) (Zq _) ⟨by rw[Za9,dO];omega,_,ZK.repl r1 k,gQ _ _⟩,rfl,q _ _ (Same.upd (I.hok.fresh (Zq _))) Zt⟩
end
theorem gT {q:TE}{N:St->Hp->Prop}{J:St->V->Hp->Prop}{x:V}{O:Option V}{cs:St}{H:Hp}(h:q (some x::cs) H (J (some x::cs))):Yy 0 x (O::cs) H fun j U=>Wv j U fun b M=>if b=true then q j M (J j) else N j M:=by
 show if true=true then q (some x::cs) H (J (some x::cs)) else N (some x::cs) H
 rw[if_pos rfl];exact h
theorem Uv {J:It}{own:List Str}{q:List Nat}{te:TE}{σ:St}{H:Hp}{Q:VK}{xs:List V}(G:Addr->Nat->List V->Hp->Prop)(cs:St)(n4:Js own q σ=none::cs)(hz:xs.length<=1000000)
  (S:∀D i ys j,H D=none->j D=some (.lst ys)->G D i ys j->(i<xs.length->J.go i j/\∀x O,J.yld i j x O->O=j/\xs[i]?=some x)/\(i=xs.length->J.stop i j))
  (h0:∀D,H D=none->G D 0 [] (upd H D (.lst [])))
  (hs:∀D (i:Nat) x ys j,H D=none->j D=some (.lst ys)->xs[i]?=some x->G D i ys j->∀R:VK,(∀v Y,Y D=some (.lst ys)->G D (i+1) (ys++[v]) (upd Y D (.lst (ys++[v])))->R v Y)->te (some x::cs) j R)
  (hd:∀D ys j,H D=none->j D=some (.lst ys)->ys.length=xs.length->G D xs.length ys j->Q (.ref D) j):WL own q (Yy 0) Wv te σ Q J H:=by
 intro D hD;refine⟨fun i m U j=>m=xs.length-i/\i<=xs.length/\(∃v0,U=v0::cs)/\∃ys,j D=some (.lst ys)/\ys.length=i/\G D i ys j,⟨_,rfl,aX _,⟨none,n4⟩,[],Zt,rfl,h0 D hD⟩,?_⟩;rintro i m U j ⟨rfl,hi,⟨v0,rfl⟩,ys,hl,hy,g⟩;obtain⟨S1,S2⟩:=S D i ys j hD hl g;by_cases M:i<xs.length
 ·refine .inr ⟨(S1 M).1,_,fun n6 O z=>z,fun x O y=>?_⟩
  obtain⟨rfl,hx⟩:=(S1 M).2 x O y;refine gT ?_;refine hs D i x ys O hD hl hx g _ fun v Y h5 g5=>⟨ys,h5,?_,xs.length-(i+1),by omega,rfl,M,⟨_,rfl⟩,ys++[v],Zt,by rw[Zd];simp[hy],g5⟩;have:(16777216:Nat)=sizeLine:=by decide
  omega
 ·have e:i=xs.length:=by omega
  exact .inl ⟨S2 e,hd D ys j hD hl (by omega) (e▸g)⟩
theorem Zfp {X:Cx}(i:Nat)(J:List Str)(j:List Nat)(O:List Str){scope:cZ}{elt iter U:Expr}{ifs:List Expr}{pos q py:Pos}{y:Str}{wi:TI}{g:TG}{tc:TT}{te:TE}(hc:X.calm=true)(hf:X.fn y=true)(hi:PI X U iter wi)
  (hg:∀M C s H ex,PG (YQ X scope M O C s H ex) U g) (ht:∀M C s H ex,PIf (YQ X scope M O C s H ex) ifs tc) (he:∀M C s H ex,PE (YQ X scope M O C s H ex) elt te)
  (hS:Zbl X.N X.env.scope J j O scope=true:=by kernel_rfl) (hy:X.N[i]?=some y:=by rfl) (hN:WW X.N=true:=by kernel_rfl) (hx:Zai X.env.scope y=true:=by kernel_rfl)
  (Y:swapsWith (.ListComp elt [⟨U,iter,ifs,0⟩] scope pos) (some (.Name y py)) q.line X.env=pure true:=by rfl) (hs:∀x,foldedSetIterable iter X.env x=pure x:=by intro _;rfl) :
  PS X (.Assign [.Name y py] (.ListComp elt [⟨U,iter,ifs,0⟩] scope pos) q) (Zc5 (Zd0 J j wi g tc te) (Yy i)):=Zdn rfl (.of hS) hc hi hg ht he (Z0 hN) hy (YG hx) (.inl hf) Y hs
end L2
namespace HT
open PySem PyProof.Rows
section
variable {prog:Program}{w:World}{A:Around}{E:Value->Shared->Prop}{s:Shared}
end
end HT
namespace L2
open PySem PySem.Spec PyProof.Rows
section
variable {X:Cx}{e:Expr}{te ts:TE}{st:Expr}{pos p2:Pos}
end
end L2
namespace HT
open PySem PyProof.Rows
section
variable {prog:Program}{w:World}{A:Around}{E:Value->Shared->Prop}{s:Shared}
end
end HT
namespace L2
open PySem PySem.Spec PyProof.Rows
section
variable {X:Cx}
end
end L2
namespace PyS
open PySem PySem.SetTable
noncomputable def Vg (p:Array Nat):Prop:=p.toList.Pairwise (· < ·)
theorem Vg.lt {p:Array Nat}(h:Vg p){i j:Nat}{x y:Nat}(q:i<j)(J:p[i]?=some x)(M:p[j]?=some y):x<y:=by
 rw[<-bM] at J M;obtain⟨O,rfl⟩:=ae.mp J;obtain⟨U,rfl⟩:=ae.mp M;exact kh.mp h i j O U q
structure ZdV (p:Array Nat)(j k:Nat):Prop where
 le:k<=p.size
 lo:∀i x,i<k->p[i]?=some x->x<j
 hi:∀i x,k<=i->p[i]?=some x->j<=x
theorem ZdB {p:Array Nat}(h:Vg p)(j:Nat):∀(q lo hi:Nat),lo<=hi->hi<=p.size->hi-lo<=q->(∀i x,i<lo->p[i]?=some x->x<j)->(∀i x,hi<=i->p[i]?=some x->j<=x)->ZdV p j (below.go p j q lo hi)
 |0,lo,hi,h1,O,h3,U,Y=>by
  have:lo=hi:=by omega
  subst this;exact⟨O,U,Y⟩
 |q+1,lo,hi,h1,O,h3,U,Y=>by
  unfold below.go;by_cases J:lo<hi
  ·rw[if_pos J]
   dsimp only;have hm:(lo+hi) / 2<p.size:=by omega
   have M:p[(lo+hi) / 2]?=some p[(lo+hi) / 2]:=aP hm;have eg:p.getD ((lo+hi) / 2) j=p[(lo+hi) / 2]:=by rw[cL,M];rfl
   rw[eg];by_cases hc:p[(lo+hi) / 2]<j
   ·rw[if_pos hc]
    refine ZdB h j q _ _ (by omega) O (by omega) (fun i x n4 e=>?_) Y;by_cases e1:i=(lo+hi) / 2
    ·subst e1
     rw[M] at e;cases e;exact hc
    ·exact jf (h.lt (by omega) e M) hc
   ·rw[if_neg hc]
    refine ZdB h j q _ _ (by omega) (by omega) (by omega) U fun i x n4 e=>?_;by_cases e1:i=(lo+hi) / 2
    ·subst e1
     rw[M] at e;cases e;omega
    ·have:=h.lt (by omega) M e
     omega
  ·rw[if_neg J]
   have:lo=hi:=by omega
   subst this;exact⟨O,U,Y⟩
theorem Zau {p:Array Nat}(h:Vg p)(j:Nat):ZdV p j (below p j):=ZdB h j _ _ _ (aX _) (Zq _) (by omega) (fun i x q=>absurd q (fh _)) (fun i x q e=>by
 rw[cK q] at e;cases e)
theorem ZdV.uniq {p:Array Nat}{j k q:Nat}(a:ZdV p j k)(b:ZdV p j q):k=q:=by
 have J:∀{k q:Nat},ZdV p j k->ZdV p j q->¬k<q:=fun {k q} a b M=>by
  have O:k<p.size:=aC M b.le;have e:p[k]?=some p[k]:=aP O;have U:=b.lo k _ M e;have Y:=a.hi k _ (Zq _) e;omega
 have:=J a b;have:=J b a;omega
theorem Vg.insert {p:Array Nat}(h:Vg p){j:Nat}(M:p[below p j]?≠some j):Vg (insertAt p (below p j) j):=by
 have c:=Zau h j;generalize below p j=k at c M;unfold Vg;rw[toList_insertAt];have O:∀y∈p.toList.take k,y<j:=fun y q=>by
  obtain⟨i,hi,rfl⟩:=List.mem_take_iff_getElem.mp q;have:i<p.size:=by rw[<-Zr];omega
  exact c.lo i _ (by omega) (by rw[aP this];simp)
 have U:∀y∈p.toList.drop k,j<y:=fun y q=>by
  obtain⟨i,hi,rfl⟩:=List.mem_drop_iff_getElem.mp q;have J:k+i<p.size:=by rw[Zr] at hi;omega
  have h1:=c.hi (k+i) p[k+i] (by omega) (by rw[aP J]);have h2:p[k+i]≠j:=fun z=>by
   by_cases e:i=0
   ·subst e
    exact M (by rw[<-z];exact aP (by simpa using J))
   ·have Y:k<p.size:=by omega
    have h3:=h.lt (i:=k) (j:=k+i) (by omega) (aP Y) (aP J);have h4:=c.hi k _ (Zq _) (aP Y);omega
  show j<p.toList[k+i];rw[Array.getElem_toList];omega
 rw[iB];refine⟨dk (i4 k _) h,?_,fun a ha b hb=>?_⟩
 ·rw[mF]
  exact⟨U,dk (List.drop_sublist k _) h⟩
 ·rcases aF.mp hb with hb|hb
  ·rw[hb];exact O a ha
  ·exact jf (O a ha) (U b hb)
theorem Vk {t:SetTable}(U:t.dummies=#[]){hashAt:Nat->Int}{h:Int}:∀(q:Nat) (p:Probe),p.dummy=none->∀{j:Nat}{d:Option Nat},probe.go t hashAt h q p=some (.empty j d)->t.slot j=.empty/\d=none
 |0,p,_,j,d,e=>by
  unfold probe.go at e;cases e
 |q+1,p,M,j,d,e=>by
  unfold probe.go at e;cases J:t.slot p.j with
  |empty=>
   rw[J] at e;dsimp only at e;have e:=ay e;injection e with Y e2;subst Y;exact⟨J,by rw[<-e2];exact M⟩
  |dummy=>
   exfalso;unfold mP at J;dsimp only at J;split at J
   ·cases J
   ·split at J
    ·rename_i O
     unfold has at O;rw[U] at O;simp at O
    ·cases J
  |live i=>
   rw[J] at e;dsimp only at e;split at e
   ·cases e
   ·refine Vk U q _ ?_ e
    unfold advance;split
    ·exact M
    ·exact M
theorem ZfU {t:SetTable}(O:t.dummies=#[]){h:Int}{j:Nat}{b:Bool}(e:t.freeSlot h=some (j,b)):t.place[below t.place j]?≠some j:=by
 unfold SetTable.freeSlot at e;split at e
 ·rename_i U d' Y
  have e:=ay e;injection e with J e2;obtain⟨q,h2⟩:=Vk O _ _ rfl Y;subst h2;have J:U=j:=J;subst J;unfold mP at q;dsimp only at q;split at q
  ·cases q
  ·rename_i M
   intro z;exact M (by rw[z];simp)
 ·cases e
structure Wk (t:SetTable)(led:Bool):Prop where
 rise:Vg t.place
 dum:t.dummies=#[]
 led:t.led=led
theorem Zdk (n:Nat):Vg (Array.range n):=by
 unfold Vg;rw[Array.toList_range];exact ig
theorem Wk.standIn {t:SetTable}{led:Bool}(h:t.led=led)(n:Nat):Wk (t.standIn n) led:=⟨Zdk n,rfl,h⟩
theorem Wk.lay {t:SetTable}{led:Bool}(W:Wk t led)(J:Array (Int×Value))(h:Int)(x:Value):Wk (layNew t J h x).2.1 led:=by
 unfold layNew;split
 ·rename_i slot M e
  dsimp only;have j:=ZfU W.dum e;have q:Wk (t.put slot).1 led:=by
   unfold put;dsimp only;refine⟨W.rise.insert j,?_,W.led⟩;dsimp only;rw[W.dum];unfold has;simp
  unfold SetTable.orStandIn;split
  ·exact q
  ·exact .standIn q.led _
 ·exact .standIn W.led _
theorem Zjv {n:Nat}(g:Nat->Option Nat):(((ac n).filterMap fun j=>(g j).map (j,·)).map (·.1)).Pairwise (· < ·):=by
 have e:∀l:List Nat,(l.filterMap fun j=>(g j).map (j,·)).map (·.1)=l.filter fun j=>(g j).isSome:=fun l=>by
  induction l with
  |nil=>rfl
  |cons a l q=>
   rw[bU,ny];cases h:g a with
   |none=>rw[Option.map_none];dsimp only;rw[q];rfl
   |some b=>rw[gY];dsimp only;rw[aL,q];rfl
 rw[e];exact dk mo ig
theorem Wk.relay {t:SetTable}{led:Bool}(W:Wk t led)(M:Array (Int×Value))(j:Nat):Wk (relayAll t M j).2.1 led:=by
 unfold relayAll;split
 ·rename_i Y q e
  dsimp only;split
  ·dsimp only
   unfold relaid laid at e;cases O:layClean (sizeAbove j-1) (M.map (·.1)) with
   |none=>rw[O] at e;cases e
   |some J=>
    rw[O] at e;have e:=ay e;injection e with U e2;subst U;refine⟨?_,rfl,W.led⟩;unfold Vg;exact Zjv _
  ·exact .standIn W.led _
 ·exact .standIn W.led _
theorem Wk.plain {t:SetTable}{led:Bool}(W:Wk t led)(b:Bool):Wk {t with plain:=b} led:=⟨W.rise,W.dum,W.led⟩
theorem Wk.fresh (led:Bool):Wk (SetTable.fresh 0 0 led) led:=⟨fR,rfl,rfl⟩
theorem ZeH {p:Array Nat}(h:Vg p){i:Nat}{slot:Nat}(M:i<=p.size)(J:(i=0/\slot=0)\/(∃j x,i=j+1/\p[j]?=some x/\slot=x+1)):below p slot=i:=by
 refine (Zau h slot).uniq ⟨M,fun k x O e=>?_,fun k x O e=>?_⟩
 ·rcases J with ⟨rfl,_⟩|⟨j,y,rfl,q,rfl⟩
  ·omega
  ·by_cases U:k=j
   ·subst U
    rw[q] at e;cases e;omega
   ·have:=h.lt (by omega) e q
    omega
 ·rcases J with ⟨_,rfl⟩|⟨j,y,rfl,q,rfl⟩
  ·omega
  ·have:=h.lt (by omega) q e
   omega
theorem J8 {α:Type}:∀{l:List α}{i:Nat}{x:α},l[i]?=some x->bN (x::l.eraseIdx i) l
 | [],i,x,e=>by cases e
 |a::l,0,x,e=>by cases e;exact dh _
 |a::l,i+1,x,e=>by
  rw[List.getElem?_cons_succ] at e;rw[kQ];exact (jh a x _).trans ((J8 e).cons a)
theorem U7 {α:Type}(next:Nat->Nat):∀(j k:Nat) (left:List α) (out:Array α),left.length<=j->bN (jR next j k left out).toList (out.toList++left)
 |0,k,left,out,h=>by
  have:left=[]:=fo.mp (by omega);subst this;unfold jR;rw[fW]
 |j+1,k,left,out,h=>by
  unfold jR;split
  ·rename_i x e
   have q:=(ae.mp e).1;refine (U7 next j (k+1) _ _ (by rw[eF];split <;> omega)).trans ?_
   rw[mI,fz];refine j8 _ ?_;exact J8 e
  ·rename_i e
   have:left=[]:=by
    rcases left with _|⟨a,l⟩
    ·rfl
    ·exfalso
     rw[gv] at e;have:=cm (next k) (show 0<(a::l).length by rw[Zi];omega);omega
   subst this;rw[fW]
theorem WG {α:Type}(next:Nat->Nat)(xs:Array α):bN (pickOrder next xs).toList xs.toList:=by
 unfold pickOrder;have:=U7 next xs.size 0 xs.toList #[] (by rw[Zr];exact Zq _);simpa using this
end PyS
namespace PyS
open PySem
theorem ZY:Slot "set_iterator" "__next__" "set_iterator.__next__":=
 .of (owner:="set_iterator") (n:="__next__") (by rw[typeLookup_type,m8];kernel_rfl) (by decide +kernel) (by decide +kernel) (by decide +kernel)
  (by first|exact .inl (by decide +kernel)|exact .inr (by decide +kernel)) (by rw[lr];kernel_rfl)
theorem Wi:entryFor table "set_iterator.__next__"=some cH.«set_iterator.__next__»:=entryFor_of_tree (by kernel_rfl)
theorem Zb9:Manifest.owners.lookup (String.ofList ['r','o','t','a','r','e','t','i','_','t','e','s'].reverse)=some Manifest.sig_set_iterator:=by kernel_rfl
theorem WB (a:Value):argsOk "set_iterator.__next__" ⟨[a],[]⟩:=by
 unfold argsOk;rw[signature?_of (id:="set_iterator.__next__") (n:=['_','_','t','x','e','n','_','_']) (o:=['r','o','t','a','r','e','t','i','_','t','e','s']) (by kernel_rfl) Zb9];kernel_rfl
theorem Xl:Slot "set_iterator" "__iter__" "set_iterator.__iter__":=
 .of (owner:="set_iterator") (n:="__iter__") (by rw[typeLookup_type,m8];kernel_rfl) (by decide +kernel) (by decide +kernel) (by decide +kernel)
  (by first|exact .inl (by decide +kernel)|exact .inr (by decide +kernel)) (by rw[lr];kernel_rfl)
theorem UU:entryFor table "set_iterator.__iter__"=some cH.«dict_keyiterator.__iter__»:=entryFor_alias (id':="dict_keyiterator.__iter__") (by kernel_rfl) rfl (by decide +kernel) (by kernel_rfl)
theorem Zbt (a:Value):argsOk "set_iterator.__iter__" ⟨[a],[]⟩:=by
 unfold argsOk;rw[signature?_of (id:="set_iterator.__iter__") (n:=['_','_','r','e','t','i','_','_']) (o:=['r','o','t','a','r','e','t','i','_','t','e','s']) (by kernel_rfl) Zb9];kernel_rfl
theorem Um:entryFor table "set.__iter__"=some cH.«frozenset.__iter__»:=entryFor_alias (id':="frozenset.__iter__") (by kernel_rfl) rfl (by decide +kernel) (by kernel_rfl)
noncomputable def Jq (h:Heap)(a:Addr)(j:Array (Int×Value))(ep:Nat)(t:SetTable):Prop:=∃o,h.get? a=some o/\o.ExactSet/\o.data=.set j ep t/\t.fits j.size=true
noncomputable def YT (h:Heap)(I:Addr)(first:Value)(i:Nat)(a:Addr)(n ep:Nat):Prop:=∃o,h.get? I=some o/\o.cls=.type "set_iterator"/\o.data=.fields #[first,.int i 0,.ref a,.int n 0,.int ep 0]
theorem Jq.keep {h h':Heap}{a:Addr}{j:Array (Int×Value)}{ep:Nat}{t:SetTable}(S:Jq h a j ep t)(k:∀o,h.get? a=some o->h'.get? a=some o):Jq h' a j ep t:=let ⟨o,e,r⟩:=S;⟨o,k o e,r⟩
theorem YT.keep {h h':Heap}{I:Addr}{first:Value}{i:Nat}{a:Addr}{n ep:Nat}(S:YT h I first i a n ep)(k:∀o,h.get? I=some o->h'.get? I=some o):YT h' I first i a n ep:=let ⟨o,e,r⟩:=S;⟨o,k o e,r⟩
section
variable {prog:Program}{w:World}{A:Around}{E:Value->Shared->Prop}{s:Shared}{I a:Addr}{es:Array (Int×Value)}{ep:Nat}{t:SetTable}{first:Value}{i n:Nat}
theorem YT.typeIs (h:YT s.heap I first i a n ep):s.TypeIs (.ref I) "set_iterator":=let ⟨o,e,c,_⟩:=h;⟨o,e,c⟩
theorem Jq.typeIs (h:Jq s.heap a es ep t):s.TypeIs (.ref a) "set":=let ⟨o,e,c,_⟩:=h;⟨o,e,c.1⟩
theorem Jq.state (h:Jq s.heap a es ep t){Q:(Array (Int×Value)×Nat×SetTable)->Shared->Prop}(q:Q (es,ep,t) s):wpAny (model prog w) A (setState a) Q E s:=let ⟨_,e,_,d,f⟩:=h;wpAny_setState_of e d f q
theorem Jq.entries (h:Jq s.heap a es ep t){Q:Array (Int×Value)->Shared->Prop}(q:Q es s):wpAny (model prog w) A (setEntries a) Q E s:=by
 unfold setEntries;exact Zl (h.state (Zm q))
theorem Jq.epoch (h:Jq s.heap a es ep t){Q:Nat->Shared->Prop}(q:Q ep s):wpAny (model prog w) A (setEpoch a) Q E s:=by
 unfold setEpoch;exact Zl (h.state (Zm q))
theorem Zbs {Q:Bool->Shared->Prop}(q:Q (w.params.followText "set-order") s):wpAny (model prog w) A setsByText Q E s:=by
 unfold setsByText;exact Zl (j9 (Zm q))
theorem YT.turn {h:Heap}{o:Obj}(e:h.get? I=some o)(c:o.cls=.type "set_iterator")(d:o.data=.fields #[first,.int i 0,.ref a,.int n 0,.int ep 0])(next:Value) :
  YT ((h.update I (gN (·.setIfInBounds 0 next))).update I (gN (·.setIfInBounds 1 (rawInt ((i:Int)+1))))) I next (i+1) a n ep:=by
 have q:=bx (gN (·.setIfInBounds 0 next)) e (cV (bv d _));have j:=bv d (·.setIfInBounds 0 next);refine⟨_,bx _ q (cV (bv j _)),?_,?_⟩
 ·rw[gE,gE,c]
 ·rw[bv j]
  simp[rawInt]
theorem Zcj {slot:Nat}{Q:Option Value->Shared->Prop}(j:YT s.heap I (.int slot 0) i a n ep)(M:Jq s.heap a es ep t)(O:es.size=n){x:Value}{nx:Nat}
  (U:∀{R:Option (Value×Nat)->Shared->Prop}{Y:Around}{E':Value->Shared->Prop},R (some (x,nx)) s->wpAny (model prog w) Y (setNext a slot i ep) R E' s)
  (q:∀h',YT h' I (.int nx 0) (i+1) a n ep->bd I s.heap h'->Q (some x) {s with heap:=h'}):wpAny (model prog w) A (pyNext (.ref I)) Q E s:=by
 obtain⟨o,e,c,d⟩:=id j;unfold pyNext;refine Zl (eB (bb (name:=cN "__next__") j.typeIs ZY (bm ZY j.typeIs Wi ?_ (WB _))));unfold cH.«set_iterator.__next__»;refine Zl (Zm ?_);refine Zl (iY e d ?_);refine Zl (M.entries ?_);rw[O];rw[if_neg (by simp)];show wpAny _ _ (setNext a slot i ep >>= _) _ _ s;refine Zl (U ?_);dsimp only;refine Zl (dN e d (by simp) ?_);have h1:=bx (gN (·.setIfInBounds 0 (rawInt nx))) e (cV (bv d _));have d1:=bv d (·.setIfInBounds 0 (rawInt nx));refine Zl (dN h1 d1 (by simp) ?_);exact Zm ⟨_,rfl,Zm (q _ (YT.turn e c d _) ((bD ..).trans (bD ..)))⟩
theorem ZbJ {h:Heap}{Q:Option Value->Shared->Prop}{F:Fin->Shared->Prop}(j:A.handled=none)(q:∀h',(∀b o,h.get? b=some o->h'.get? b=some o)->Q none {s with heap:=h'}) :
  wpAny (model prog w) A.in1 (do let x <-newExc (.type "StopIteration") [];raiseNew (α:=Fin) x) F (fun e s'=>wpAny (model prog w) A (do let b <-isInstance e (.type "StopIteration");if b=true then pure none else throw e) Q E s') {s with heap:=h}:=by
 refine Zl ?_;unfold newExc newTuple;refine Zl (ba (Q:=_) ?_ (by size_fits));refine Zl (m:=firstArgMember _ _) (ki (a:=bT) (by first|rfl|(unfold firstArgMember;rfl)) ?_)
 refine ba (Q:=_) ?_ (by size_fits);unfold raiseNew;refine Zl (wpAny_handled ?_);rw[show A.in1.handled=none from j];refine Zl (Zm (wpAny_throw ?_));refine Zl (iu (T:="StopIteration") (b:=true) ⟨_,Zo _ rfl,rfl⟩ lu ?_);exact Zm (q _ fun b o e=>Zn _ (Zn _ e))
theorem Ze2 {slot:Nat}{Q:Option Value->Shared->Prop}(O:A.handled=none)(j:YT s.heap I (.int slot 0) i a n ep)(U:Jq s.heap a es ep t)(Y:es.size=n)
  (hN:∀{R:Option (Value×Nat)->Shared->Prop}{A':Around}{E':Value->Shared->Prop},R none s->wpAny (model prog w) A' (setNext a slot i ep) R E' s)
  (q:∀h',(∀b o,b≠I->s.heap.get? b=some o->h'.get? b=some o)->Q none {s with heap:=h'}):wpAny (model prog w) A (pyNext (.ref I)) Q E s:=by
 obtain⟨o,e,c,d⟩:=id j;unfold pyNext;refine Zl (eB (bb (name:=cN "__next__") j.typeIs ZY (bm ZY j.typeIs Wi ?_ (WB _))));unfold cH.«set_iterator.__next__»;refine Zl (Zm ?_);refine Zl (iY e d ?_);refine Zl (U.entries ?_);rw[Y];rw[if_neg (by simp)];show wpAny _ _ (setNext a slot i ep >>= _) _ _ s;refine Zl (hN ?_);dsimp only;refine Zl (dN e d (by simp) ?_);exact ZbJ O fun h' k=>q h' fun b M hb e'=>k b M ((bD s.heap I _).extBut b M hb e')
theorem ZeG (j:w.params.followText "set-order"=true)(J:Jq s.heap a es ep t){slot:Nat}{R:Option (Value×Nat)->Shared->Prop}
  (q:R (((pickOrder (w.params.setOrder a ep) es)[i]?).map fun e=>(e.2,slot)) s):wpAny (model prog w) A (setNext a slot i ep) R E s:=by
 unfold setNext;refine Zl (J.state ?_);dsimp only;refine Zl (Zbs ?_);rw[j,if_pos rfl,if_neg (by simp)];refine Zl ?_;unfold setWalk;refine Zl (J.state ?_);dsimp only;refine Zl (Zbs ?_);rw[j,if_pos rfl];exact Zl (j9 (Zm (Zm q)))
theorem Zcd (J:w.params.followText "set-order"=false)(M:Jq s.heap a es ep t)(hd:t.plain=true\/es.size<=1)(O:t.led=true){slot:Nat}{R:Option (Value×Nat)->Shared->Prop}
  (q:R (match es[mz t.place slot]?,t.place[mz t.place slot]? with|some (_,x),some j=>some (x,j+1)|_,_=>none) s):wpAny (model prog w) A (setNext a slot i ep) R E s:=by
 unfold setNext;refine Zl (M.state ?_);dsimp only;refine Zl (Zbs ?_);rw[J,if_neg (by decide)];show wpAny _ _ (if (!t.plain && decide (es.size > 1))=true then _ else _) _ _ s
 rw[if_neg (by
  rcases hd with hd|hd
  ·rw[hd];simp
  ·rw[decide_eq_false (by omega),Bool.and_false];decide)]
 show wpAny _ _ ((if (!t.led && !es.isEmpty)=true then _ else _) >>= _) _ _ s
 rw[O];exact Zl (Zm (Zm q))
theorem Zdt {T0:Addr}{J:Array Value}{pl:Nat}{Q:Option Value->Shared->Prop}(j:YT s.heap I (.ref T0) i a n ep)(U:∃o k,s.heap.get? T0=some o/\o.data=.seq J k)(M:Jq s.heap a es ep t)(Y:es.size=n)(hp:J[i]?=some (.int pl 0)){h:Int}{x:Value}(hx:es[pl]?=some (h,x))
  (q:∀h',YT h' I (.ref T0) (i+1) a n ep->bd I s.heap h'->Q (some x) {s with heap:=h'}):wpAny (model prog w) A (pyNext (.ref I)) Q E s:=by
 obtain⟨o,e,c,d⟩:=id j;obtain⟨ot,k,et,dt⟩:=U;unfold pyNext;refine Zl (eB (bb (name:=cN "__next__") j.typeIs ZY (bm ZY j.typeIs Wi ?_ (WB _))));unfold cH.«set_iterator.__next__»;refine Zl (Zm ?_);refine Zl (iY e d ?_);refine Zl (M.entries ?_);rw[Y];rw[if_neg (by simp)];show wpAny _ _ (seqItems? (.ref T0) >>= _) _ _ s;refine Zl (cp et dt ?_);dsimp only;rw[Zj,hp];show wpAny _ _ (setNextDrawn a pl ep >>= _) _ _ s;refine Zl ?_;unfold setNextDrawn;refine Zl (M.state ?_);dsimp only;rw[if_neg (by simp),hx];refine Zm ?_;refine Zl (dN e d (by simp) ?_);refine Zm ⟨_,rfl,Zm (q _ ⟨_,bx _ e (cV (bv d _)),?_,?_⟩ (bD ..))⟩
 ·rw[gE,c]
 ·rw[bv d]
  simp[rawInt]
theorem ZfX {T0:Addr}{J:Array Value}{Q:Option Value->Shared->Prop}(U:A.handled=none)(j:YT s.heap I (.ref T0) i a n ep)(Y:∃o k,s.heap.get? T0=some o/\o.data=.seq J k)(hS:Jq s.heap a es ep t)(hn:es.size=n)(hp:J[i]?=none)
  (q:∀h',(∀b o,b≠I->s.heap.get? b=some o->h'.get? b=some o)->Q none {s with heap:=h'}):wpAny (model prog w) A (pyNext (.ref I)) Q E s:=by
 obtain⟨o,e,c,d⟩:=id j;obtain⟨ot,k,et,dt⟩:=Y;unfold pyNext;refine Zl (eB (bb (name:=cN "__next__") j.typeIs ZY (bm ZY j.typeIs Wi ?_ (WB _))));unfold cH.«set_iterator.__next__»;refine Zl (Zm ?_);refine Zl (iY e d ?_);refine Zl (hS.entries ?_);rw[hn];rw[if_neg (by simp)];show wpAny _ _ (seqItems? (.ref T0) >>= _) _ _ s;refine Zl (cp et dt ?_);dsimp only;rw[Zj,hp];dsimp only;refine Zl (dN e d (by simp) ?_);have h1:=bx (gN (·.setIfInBounds 0 (rawInt 0))) e (cV (bv d _));have d1:=bv d (·.setIfInBounds 0 (rawInt 0));refine Zl (dN h1 d1 (by simp) ?_);exact ZbJ U fun h' k=>q h' fun b O hb e'=>k b O (((bD s.heap I _).trans (bD _ I _)).extBut b O hb e')
theorem Zf8 {src:Source}{m:Nat}{Q:Nat->Shared->Prop}(j:m≠0)(q:∀k J,k<m->Q k {s with drawn:=J}):wpAny (model prog w) A (choose src m) Q E s:=fun _ _ _=>⟨j,q _ _ (cm _ (by omega))⟩
theorem Zam {α:Type}:∀(m:Nat) (xs:List α) {s:Shared}{Q:List α->Shared->Prop},xs.length<=m->(∀ys M,bN ys xs->Q ys {s with drawn:=M})->wpAny (model prog w) A (drawOrder m xs) Q E s
 |0,xs,s,Q,h,q=>by
  have:xs=[]:=fo.mp (by omega);subst this;unfold drawOrder;exact Zm (q [] s.drawn (dh _))
 |m+1,[],s,Q,h,q=>by
  unfold drawOrder;exact Zm (q [] s.drawn (dh _))
 |m+1,x::xs,s,Q,h,q=>by
  unfold drawOrder;refine Zl (Zf8 (by rw[Zi];omega) fun k M j=>?_);rw[Zf j];dsimp only;refine Zl (Zam m _ (by rw[eF,if_pos j];omega) fun ys J O=>Zm ?_);exact q _ J ((O.cons _).trans (J8 (Zf j)))
end
section
variable {prog:Program}{w:World}{A:Around}{E:Value->Shared->Prop}{s:Shared}{I a:Addr}{es:Array (Int×Value)}{ep:Nat}{t:SetTable}{first:Value}{i n:Nat}
theorem ZaL {Q:Value->Shared->Prop}(j:YT s.heap I first i a n ep)(q:Q (.ref I) s):wpAny (model prog w) A (pyIter (.ref I)) Q E s:=by
 refine wpAny_pyIter_slot j.typeIs Xl (bm Xl j.typeIs UU ?_ (Zbt _));show wpAny _ _ (ret (.ref I)) _ _ s;exact Zm ⟨_,rfl, "set_iterator",_,j.typeIs,ZY.lookup,q⟩
noncomputable def Xe (es:Array (Int×Value)):List Value:=es.toList.map (·.2)
theorem Zfj (Y:A.handled=none)(O:w.params.followText "set-order"=true)(q:a≠I) :
  Walks prog w A I [I,a] [I] es.size (fun i v=>((pickOrder (w.params.setOrder a ep) es).toList.map (·.2))[i]?=some v) (fun i h=>YT h I (.int 0 0) i a es.size ep/\Jq h a es ep t) where
 sub:=fun b hb=>by simp at hb;simp[hb]
 frame:=fun _ _ _ st k=>⟨st.1.keep fun o e=>k I (by simp) o e,st.2.keep fun o e=>k a (by simp) o e⟩
 item:=fun i s Q E hi st j=>by
  have J:=WG (w.params.setOrder a ep) es;have hl:(pickOrder (w.params.setOrder a ep) es).size=es.size:=by rw[<-Zr,J.length_eq,Zr]
  have e:(pickOrder (w.params.setOrder a ep) es)[i]?=some ((pickOrder (w.params.setOrder a ep) es)[i]'(by omega)):=aP (by omega);generalize (pickOrder (w.params.setOrder a ep) es)[i]'(by omega)=y at e;refine Zcj (slot:=0) (x:=y.2) (nx:=0) st.1 st.2 rfl (fun {R A' E'} r=>ZeG O st.2 (by rw[e];exact r)) fun M i' U=>?_;refine j y.2 M s.toks ?_ ⟨i',st.2.keep fun o e=>U.extBut a o q e⟩ fun b o hb e=>U.extBut b o (fun z=>hb (by simp[z])) e;rw[Zc,bM,e];rfl
 done:=fun s Q E st j=>by
  have J:=WG (w.params.setOrder a ep) es;have hl:(pickOrder (w.params.setOrder a ep) es).size=es.size:=by rw[<-Zr,J.length_eq,Zr]
  refine Ze2 (slot:=0) Y st.1 st.2 rfl (fun {R A' E'} r=>ZeG O st.2 (by rw[cK (by omega)];exact r)) fun M k=>j M s.toks fun b o hb e=>k b o (fun z=>hb (by simp[z])) e
 self:=fun _ _ _ _ st j=>ZaL st.1 j
theorem ZcZ (hh:A.handled=none)(ht:w.params.followText "set-order"=false)(hd:t.plain=true\/es.size<=1)(W:Wk t true)(U:a≠I) :
  Walks prog w A I [I,a] [I] es.size (fun i v=>(Xe es)[i]?=some v) (fun i h=>∃slot:Nat,((i=0/\slot=0)\/(∃j x,i=j+1/\t.place[j]?=some x/\slot=x+1))/\YT h I (.int slot 0) i a es.size ep/\Jq h a es ep t) where
 sub:=fun b hb=>by simp at hb;simp[hb]
 frame:=fun _ _ _ st k=>by
  obtain⟨slot,M,J,q⟩:=st;exact⟨slot,M,J.keep fun o e=>k I (by simp) o e,q.keep fun o e=>k a (by simp) o e⟩
 item:=fun i s Q E hi st O=>by
  obtain⟨slot,M,J,q⟩:=st;have hf:t.place.size=es.size:=by
   obtain⟨_,_,_,_,f⟩:=q;simp only[mQ,ag,beq_iff_eq] at f;exact f.1
  have hb:=ZeH W.rise (i:=i) (slot:=slot) (by omega) M;have Y:es[i]?=some es[i]:=aP hi;have e2:t.place[i]?=some (t.place[i]'(by omega)):=aP (by omega);generalize es[i]=y at Y;generalize t.place[i]'(by omega)=j at e2;refine Zcj (slot:=slot) (x:=y.2) (nx:=j+1) J q rfl (fun {R A' E'} r=>Zcd ht q hd W.led (by rw[hb,Y,e2];exact r)) fun h' i' sb=>?_;refine O y.2 h' s.toks ?_ ⟨j+1,.inr ⟨i,j,rfl,e2,rfl⟩,i',q.keep fun o e=>sb.extBut a o U e⟩ fun b o hb e=>sb.extBut b o (fun z=>hb (by simp[z])) e;show (es.toList.map (·.2))[i]?=some y.2;rw[Zc,bM,Y];rfl
 done:=fun s Q E st O=>by
  obtain⟨slot,M,J,q⟩:=st;have hf:t.place.size=es.size:=by
   obtain⟨_,_,_,_,f⟩:=q;simp only[mQ,ag,beq_iff_eq] at f;exact f.1
  have hb:=ZeH W.rise (i:=es.size) (slot:=slot) (by omega) M;refine Ze2 (slot:=slot) hh J q rfl (fun {R A' E'} r=>Zcd ht q hd W.led (by rw[hb,cK (Zq _)];exact r)) fun h' k=>O h' s.toks fun b o hb e=>k b o (fun z=>hb (by simp[z])) e
 self:=fun _ _ _ _ st O=>by
  obtain⟨slot,M,J,q⟩:=st;exact ZaL J O
theorem Zc0 (hh:A.handled=none){T0:Addr}{j:List Nat}(M:bN j (ac es.size))(n4:a≠I)(n6:T0≠I) :
  Walks prog w A I [I,a,T0] [I] es.size (fun i v=>(j.filterMap fun p=>(es[p]?).map (·.2))[i]?=some v) (fun i h=>YT h I (.ref T0) i a es.size ep/\Jq h a es ep t/\∃o k,h.get? T0=some o/\o.data=.seq (j.map fun (p:Nat)=>rawInt p).toArray k) where
 sub:=fun b hb=>by simp at hb;simp[hb]
 frame:=fun _ _ _ st k=>by
  obtain⟨U,O,o,k0,J,h4⟩:=st;exact⟨U.keep fun o e=>k I (by simp) o e,O.keep fun o e=>k a (by simp) o e,o,k0,k T0 (by simp) o J,h4⟩
 item:=fun i s Q E hi st Y=>by
  obtain⟨U,O,J⟩:=st;have hl:j.length=es.size:=by rw[M.length_eq,Zg]
  have e0:j[i]?=some (j[i]'(by omega)):=Zf (by omega);have hm:j[i]'(by omega)<es.size:=af.mp (M.mem_iff.mp (bg _));generalize j[i]'(by omega)=pl at e0 hm;have e1:es[pl]?=some es[pl]:=aP hm;generalize es[pl]=y at e1;obtain⟨hv,x⟩:=y;refine Zdt (pl:=pl) U J O rfl (by simp[e0,rawInt]) e1 fun h' i' sb=>?_;obtain⟨o,k0,J,h4⟩:=J;refine Y x h' s.toks ?_ ⟨i',O.keep fun o e=>sb.extBut a o n4 e,o,k0,sb.extBut T0 o n6 J,h4⟩ fun b o hb e=>sb.extBut b o (fun z=>hb (by simp[z])) e;have all:∀(l:List Nat),(∀p∈l,p<es.size)->(l.filterMap fun p=>(es[p]?).map (·.2))=l.map fun p=>(es.getD p (0,.none)).2:=fun l=>by
   induction l with
   |nil=>intro _;rfl
   |cons p l ih=>
    intro h;have M:=h p aE;rw[bU,aP M,gY,aL,ih fun q hq=>h q (aH _ hq)];dsimp only;rw[cL,aP M];rfl
  rw[all j fun p hm=>af.mp (M.mem_iff.mp hm),Zc,e0,gY,cL,e1];rfl
 done:=fun s Q E st Y=>by
  obtain⟨U,O,J⟩:=st;have hl:j.length=es.size:=by rw[M.length_eq,Zg]
  refine ZfX hh U J O rfl (by rw[cK (by simp[hl])]) fun h' k=>Y h' s.toks fun b o hb e=>k b o (fun z=>hb (by simp[z])) e
 self:=fun _ _ _ _ st Y=>ZaL st.1 Y
theorem ZgM (hz:es.size<=sizeLine)(M:Jq s.heap a es ep t)(W:Wk t (!w.params.followText "set-order")){Q:Value->Shared->Prop}
  (q:∀(I:Addr) (fp:List Addr) (h':Heap) (dr:lG) (L:List Value) (St:Nat->Heap->Prop),s.heap.objs.size<=I->(∀b∈fp,b=a\/s.heap.objs.size<=b)->(∀b o,s.heap.get? b=some o->h'.get? b=some o)->bN L (Xe es)->
   (∀A':Around,A'.handled=none->Walks prog w A' I fp [I] es.size (fun i v=>L[i]?=some v) St)->St 0 h'->Q (.ref I) {s with heap:=h',drawn:=dr}) :
  wpAny (model prog w) A (pyIter (.ref a)) Q E s:=by
 have ha:a<s.heap.objs.size:=let ⟨o,e,_⟩:=M;Zp e;refine wpAny_pyIter_slot M.typeIs F.slot_set_iter (bm F.slot_set_iter M.typeIs Um ?_ (F.args_set_iter_1 _));unfold cH.«frozenset.__iter__»;show wpAny _ _ (pure a >>= _) _ _ s;refine Zl (Zm ?_);refine Zl ?_;unfold Builtin.Frozenset.sizeOf;refine Zl (M.entries (Zm ?_));refine Zl ?_;unfold setDrawn;refine Zl (M.state ?_);dsimp only;refine Zl (Zbs (Zm ?_));show wpAny _ _ (if (!w.params.followText "set-order" && (!t.plain && decide (es.size > 1)))=true then _ else _) _ _ s
 by_cases J:(!w.params.followText "set-order" && (!t.plain && decide (es.size > 1)))=true
 ·rw[if_pos J]
  refine Zl (Zam _ _ (by rw[Zg];exact Zq _) fun O dr hp=>?_);have hl:O.length=es.size:=by rw[hp.length_eq,Zg]
  unfold newTuple;refine Zl (ba ?_ (by show (i7 (fun (i:Nat)=>rawInt i) O).toArray.size<=sizeLine;rw[Zh,Za,hl];exact hz));have h1:(s.heap.push {cls:=.type "tuple",data:=.seq (i7 (fun (i:Nat)=>rawInt i) O).toArray}).get? s.heap.objs.size=some {cls:=.type "tuple",data:=.seq (i7 (fun (i:Nat)=>rawInt i) O).toArray}:=Zo _ rfl;have Y:∀b o,s.heap.get? b=some o->(s.heap.push {cls:=.type "tuple",data:=.seq (i7 (fun (i:Nat)=>rawInt i) O).toArray}).get? b=some o:=fun b o e=>Zn _ e;have n4:(s.heap.push {cls:=.type "tuple",data:=.seq (i7 (fun (i:Nat)=>rawInt i) O).toArray}).objs.size=s.heap.objs.size+1:=bo ..;generalize s.heap.push {cls:=.type "tuple",data:=.seq (i7 (fun (i:Nat)=>rawInt i) O).toArray}=g1 at h1 Y n4 ⊢;have n6:Jq g1 a es ep t:=M.keep fun o e=>Y a o e;refine Zl (Jq.epoch (s:={s with heap:=g1,drawn:=dr}) n6 ?_);refine Zl ?_;unfold newFields;refine ba (Zm ⟨_,rfl, "set_iterator",_,⟨_,Zo _ rfl,rfl⟩,ZY.lookup,?_⟩) (by size_fits);refine q g1.objs.size [g1.objs.size,a,s.heap.objs.size] _ dr _ (fun i h=>YT h g1.objs.size (.ref s.heap.objs.size) i a es.size ep/\Jq h a es ep t/\∃o k,h.get? s.heap.objs.size=some o/\o.data=.seq (O.map fun (p:Nat)=>rawInt p).toArray k) (by omega) (fun b hb=>?_) (fun b o e=>Zn _ (Y b o e)) ?_
   (fun A' hh=>Zc0 hh hp (aB (by rw[n4];exact fG ha)) (aB (by rw[n4];exact dE _))) ⟨⟨_,Zo _ rfl,rfl,rfl⟩,n6.keep fun o e=>Zn _ e,_,_,Zn _ h1,rfl⟩
  ·simp only[aF,cQ,or_false] at hb
   rcases hb with rfl|rfl|rfl
   ·right;omega
   ·left;rfl
   ·right;omega
  ·refine (hp.filterMap _).trans ?_
   have e:((ac es.size).filterMap fun p=>(es[p]?).map (·.2))=Xe es:=by
    unfold Xe;rw[<-filterMap_getElem?_range es,List.map_filterMap]
   rw[e]
 ·rw[if_neg J]
  refine Zl (Zm ?_);refine Zl (M.epoch ?_);refine Zl ?_;unfold newFields;refine ba (Zm ⟨_,rfl, "set_iterator",_,⟨_,Zo _ rfl,rfl⟩,ZY.lookup,?_⟩) (by size_fits);have U:∀b∈[s.heap.objs.size,a],b=a\/s.heap.objs.size<=b:=fun b hb=>by
   simp only[aF,cQ,or_false] at hb;rcases hb with rfl|rfl
   ·right;omega
   ·left;rfl
  cases ht:w.params.followText "set-order" with
  |true=>
   refine q s.heap.objs.size [s.heap.objs.size,a] _ s.drawn _ (fun i h=>YT h s.heap.objs.size (.int 0 0) i a es.size ep/\Jq h a es ep t) (Zq _) U (fun b o e=>Zn _ e) ?_
    (fun A' hh=>Zfj hh ht (aB ha)) ⟨⟨_,Zo _ rfl,rfl,rfl⟩,M.keep fun o e=>Zn _ e⟩
   exact (WG _ es).map _
  |false=>
   rw[ht] at W J;refine q s.heap.objs.size [s.heap.objs.size,a] _ s.drawn _ (fun i h=>∃slot:Nat,((i=0/\slot=0)\/(∃j x,i=j+1/\t.place[j]?=some x/\slot=x+1))/\YT h s.heap.objs.size (.int slot 0) i a es.size ep/\Jq h a es ep t) (Zq _) U (fun b o e=>Zn _ e) (dh _)
    (fun A' hh=>ZcZ hh ht ?_ W (aB ha)) ⟨0,.inl ⟨rfl,rfl⟩,⟨_,Zo _ rfl,rfl,rfl⟩,M.keep fun o e=>Zn _ e⟩
   cases hp:t.plain with
   |true=>exact .inl rfl
   |false=>
    rw[hp] at J;right;by_cases h1:es.size > 1
    ·exfalso
     apply J;simp[h1]
    ·omega
end
end PyS
namespace PyS
open PySem PySem.W PyProof.Rows PySem.Calls PyProof.V PySem.Spec
section
variable {prog:Program}{w:World}{A:Around}{E:Value->Shared->Prop}{s:Shared}{a:Addr}{es:Array (Int×Value)}{ep:Nat}{t:SetTable}
theorem Zh9 {r:Addr}{Q:Bool->Shared->Prop}(J:s.TypeIs (.ref r) "set")(h:Q false s):wpAny (model prog w) A (fI (.ref r)) Q E s:=by
 unfold fI;refine Zl (wpAny_specialOf J PySem.F.slot_set_len.lookup ?_);generalize q:("set.__len__":String)=M
 wp_delta
 rw[show splitId M=some ("set", "__len__") from by subst q;decide +kernel];subst q;refine Zl (iu (T:="set") (b:=true) J (by rw[lr];kernel_rfl) ?_);refine kH (fun j=>absurd j (by decide)) (fun _=>?_);refine kH (fun _=>?_) (fun j=>absurd (by decide +kernel) j);refine Zl (iE J ?_);exact Zm h
theorem Zh0 {L:List Value}{ZG:Array Value}{n:Nat}(q:L.length=n)(h:hG (fun i v=>L[i]?=some v) ZG n):ZG.toList=L:=by
 refine aY fun i=>?_;by_cases j:i<n
 ·have e:ZG[i]?=some (ZG[i]'(by rw[h.1];exact j)):=aP _
  rw[bM,e];exact (h.2 i _ e).symm
 ·rw[ah (by rw[Zr,h.1];omega),ah (by omega)]
structure Src (prog:Program)(w:World)(T:String)(a d:Addr)(n:Nat)(Good:(Nat->Value->Prop)->Prop)(OK:Heap->Prop):Prop where
 type:∀s:Shared,OK s.heap->s.TypeIs (.ref a) T
 there:∀s:Shared,OK s.heap->d<s.heap.objs.size
 keep:∀h h':Heap,OK h->(∀b o,h.get? b=some o->h'.get? b=some o)->OK h'
 notList:(db T == db "list")=false
 notTuple:(db T == db "tuple")=false
 hint:∀(A:Around) (E:Value->Shared->Prop) (s:Shared) (Q:Bool->Shared->Prop),OK s.heap->Q false s->wpAny (model prog w) A (fI (.ref a)) Q E s
 iter:∀(A:Around) (E:Value->Shared->Prop) (s:Shared) (Q:Value->Shared->Prop),OK s.heap->
  (∀(I:Addr) (fp:List Addr) (h':Heap) (dr:lG) (P:Nat->Value->Prop) (St:Nat->Heap->Prop),s.heap.objs.size<=I->(∀b∈fp,b=a\/b=d\/s.heap.objs.size<=b)->(∀b o,s.heap.get? b=some o->h'.get? b=some o)->Good P->
   (∀A':Around,A'.handled=none->Walks prog w A' I fp [I] n P St)->St 0 h'->Q (.ref I) {s with heap:=h',drawn:=dr})->wpAny (model prog w) A (pyIter (.ref a)) Q E s
section
variable {T:String}{d:Addr}{n:Nat}{Good:(Nat->Value->Prop)->Prop}{OK:Heap->Prop}
theorem Zc8 {R:Result->Shared->Prop}(C:Src prog w T a d n Good OK)(hh:A.handled=none)(hz:n<=sizeLine)(Y:OK s.heap)(S:Addr)(n6:S≠a)(o6:S≠d)(res:Value)(U:Nat)(hL:s.heap.get? S=some {cls:=.type "list",data:=.seq #[] U})
  (hR:∀h' dr tk (q:Array Value) c' P,(∀b o,b≠S->s.heap.get? b=some o->h'.get? b=some o)->h'.get? S=some {cls:=.type "list",dict:=none,data:=.seq q c',slots:=#[]}->Good P->hG P q n->R (.ok (.ret res)) {s with heap:=h',drawn:=dr,toks:=tk}) :
  wpAny (model prog w) A.in1 (dD (.ref S) (.ref a) res)
   (fun fin s'=>match fin with | .done f=>R (.ok f) s' | .again c'=>c'.quiet=true/\codeAny (model prog w) A c' R s') (fun e s'=>R (.error e) s') s:=by
 have o7:S<s.heap.objs.size:=Zp hL;unfold dD;refine Zl (iE (T:=T) (C.type s Y) ?_);have h1:i0 (.ref S) (.ref a)=false:=by simp[i0,n6]
 simp only[h1,C.notList,C.notTuple,gI,dM,if_false];refine Zl (C.iter _ _ _ _ Y fun I fp h' dr P St hI o8 hk hp n8 st=>?_);have n9:S∉fp:=fun z=>by
  rcases o8 S z with e|e|e
  ·exact n6 e
  ·exact o6 e
  ·exact absurd o7 (Nat.not_lt.mpr e)
 have key:∀(h:Heap) (J tk:Nat),St 0 h->(∀b o,b≠S->s.heap.get? b=some o->h.get? b=some o)->
   h.get? S=some {cls:=.type "list",data:=.seq #[] J}->codeAny (model prog w) A (.builtin "list.extend.loop" ⟨[.ref S,.ref I,res],[]⟩) R {s with heap:=h,drawn:=dr,toks:=tk}:=by
  intro h J tk o9 hk j;refine codeAny_extend_loopS (n8 A.in1 hh).toS hz S n9 res n 0 _ #[] J rfl (aX _) o9 j (ItemsOf.nil _) fun s' q c' hm p3 o0=>?_;rw[Moved.eq_with hm];refine hR s'.heap dr s'.toks q c' P (fun b o hb e=>hm.heap b o (fun M=>?_) (hk b o hb e)) p3 hp o0;rcases aF.mp M with e'|M
  ·exact hb e'
  ·exact absurd (Zp e) (by rw[aQ.mp M];exact Nat.not_lt.mpr hI)
 have j:=hk S _ hL;refine Zl (cG (C.hint _ _ {s with heap:=h',drawn:=dr} _ (C.keep _ _ Y fun b o e=>hk b o e) ?_));refine kH (fun _=>?_) (fun _=>Zm ⟨fq jF _,key _ U _ st (fun b o _ e=>hk b o e) j⟩);refine Zl (eV ?_);refine Zl ?_;show wpAny _ _ (updateSeq S (·.push .none) >>= fun _=>updateSeq S (·.pop)) _ _ _;refine Zl (wpAny_updateSeq j rfl ?_);have O:=bx (cT (·.push bT)) j rfl;refine wpAny_updateSeq (hz:=by seq_fits) O rfl ?_;have n4:=bx (cT (·.pop)) O rfl;refine Zm ⟨fq jF _,key _ _ _ ?_ (fun b o hb e=>?_) n4⟩
 ·refine (n8 A.in1 hh).frame 0 _ _ st fun b hb o e=>?_
  have o5:b≠S:=fun h=>n9 (h▸hb);exact (bR _ _ (bJ o5)).trans ((bR _ _ (bJ o5)).trans e)
 ·exact (bR _ _ (bJ hb)).trans ((bR _ _ (bJ hb)).trans (hk b o e))
theorem ZbK {R:List Value->Shared->Prop}(C:Src prog w T a d n Good OK)(hh:A.handled=none)(hz:n<=sizeLine)(O:OK s.heap)
  (h:∀(h':Heap) (dr:lG) (tk:Nat) (ZG:Array Value) (P:Nat->Value->Prop),s.heap.objs.size<h'.objs.size->(∀b o,s.heap.get? b=some o->h'.get? b=some o)->Good P->hG P ZG n->R ZG.toList {s with heap:=h',drawn:=dr,toks:=tk}) :
  wpAny (model prog w) A (collect (.ref a)) R E s:=by
 have ha:a<s.heap.objs.size:=let ⟨o,e,_⟩:=C.type s O;Zp e;unfold collect;refine Zl (lf (cM entry_proto_collect' ?_));rw[bX jp _];show wpAny _ A.in1 (newList [] >>= fun l=>again (.builtin "list.__iadd__" ⟨[l,.ref a],[]⟩)) _ _ s;refine Zl (ba ?_);refine Zm ⟨fq eZ _,cM entry_list_iadd' ?_⟩;rw[bX eZ _];have U:(s.heap.push {cls:=.type "list",data:=.seq ([]:List Value).toArray}).get? s.heap.objs.size=some {cls:=.type "list",data:=.seq #[]}:=Zo _ rfl;show wpAny _ A.in1 (dD (.ref s.heap.objs.size) (.ref a) (.ref s.heap.objs.size)) _ _ _;have n4:=Zc8 (prog:=prog) (w:=w) (A:=A) (s:={s with heap:=s.heap.push {cls:=.type "list",data:=.seq ([]:List Value).toArray}})
  (R:=fun (q:Result) (s':Shared)=>∃(h':Heap) (dr:lG) (tk:Nat) (j:Array Value) (Y:Nat) (P:Nat->Value->Prop),q=.ok (.ret (.ref s.heap.objs.size))/\s'={s with heap:=h',drawn:=dr,toks:=tk}/\
   (∀b o,s.heap.get? b=some o->h'.get? b=some o)/\h'.get? s.heap.objs.size=some {cls:=.type "list",dict:=none,data:=.seq j Y,slots:=#[]}/\Good P/\hG P j n)
  C hh hz (C.keep _ _ O fun b o e=>Zn _ e) s.heap.objs.size (bt ha) (bt (C.there _ O)) (.ref s.heap.objs.size) 0 U
  (fun h' dr tk j Y P hk M hg J=>⟨h',dr,tk,j,Y,P,rfl,rfl,fun b o e=>hk b o (aB (Zp e)) (Zn _ e),M,hg,J⟩)
 refine cD n4 (fun n6 s' x=>?_) fun e s' x=>?_
 ·cases n6 with
  |done f=>
   obtain⟨h',dr,tk,j,Y,P,e,rfl,hk,M,hg,J⟩:=x;cases e;show wpAny _ A (load s.heap.objs.size >>= _) _ _ _;refine Zl (jt M ?_);exact Zm (h h' dr tk j P (Zp M) hk hg J)
  |again n8=>
   refine⟨x.1,fO x.2 fun q n9 y=>?_⟩;obtain⟨h',dr,tk,j,Y,P,rfl,rfl,hk,M,hg,J⟩:=y;show wpAny _ A (load s.heap.objs.size >>= _) _ _ _;refine Zl (jt M ?_);exact Zm (h h' dr tk j P (Zp M) hk hg J)
 ·obtain⟨_,_,_,_,_,_,e',_⟩:=x
  cases e'
noncomputable def Zce:Value->Int
 | .int k _=>k
 |_=>0
theorem Zh6:∀{l:List Value}{ns:List Int},bP l ns->ns=l.map Zce
 |_,_,.nil=>rfl
 |_,_,.cons n t r=>by rw[aL,<-Zh6 r];rfl
theorem Zh5:∀{l:List Value}{ns:List Int},bP l ns->∀v∈l,∃k t,v=.int k t
 |_,_,.nil,v,h=>by cases h
 |_,_,.cons n t r,v,h=>by
  rcases aF.mp h with h|h
  ·exact⟨n,t,h⟩
  ·exact Zh5 r v h
theorem ZeV:∀{l:List Value},(∀v∈l,∃k t,v=.int k t)->bP l (l.map Zce)
 | [],_=>.nil
 |v::l,h=>by
  obtain⟨k,t,rfl⟩:=h v aE;exact .cons k t (ZeV fun u j=>h u (aH _ j))
theorem Zka {l j:List Value}{ns:List Int}(p:bN j l)(h:bP l ns):bP j (j.map Zce)/\bN (j.map Zce) ns:=
 ⟨ZeV fun v q=>Zh5 h v (p.mem_iff.mp q),by rw[Zh6 h];exact p.map _⟩
theorem VX {Q:Value->Shared->Prop}(C:Src prog w T a d n Good OK)(hh:A.handled=none)(n8:n<64)(U:OK s.heap){ns:List Int}(hi:∀P ZG,Good P->hG P ZG n->bP ZG.toList (ZG.toList.map Zce)/\bN (ZG.toList.map Zce) ns)
    (q:∀(D:Addr) (h':Heap) (Y:lG) (tk:Nat) (out:List Value) (j:List Int) (c:Nat),s.heap.objs.size<=D->(∀b o,s.heap.get? b=some o->h'.get? b=some o)->h'.get? D=some (seqObj "list" out.toArray c)->bP out j->bN j ns->j.Pairwise (· ≤ ·)->Q (.ref D) {s with heap:=h',drawn:=Y,toks:=tk}) :
    wpAny (model prog w) A (call (.builtin "sorted") [.ref a]) Q E s:=by
  have hz : n ≤ sizeLine := by have:(16777216:Nat)=sizeLine:=by decide
                               omega
  refine lV kind_sorted plain_sorted entry_sorted (args_sorted1 _) ?_;unfold cH.«sorted»;refine Zl (m:=checkCount "sorted" 1 1 _) (Zm ?_);refine Zl (ZbK (A:=A.in1) C hh hz U fun h' Y tk ZG P O hk hg J=>?_);obtain⟨i1,i2⟩:=hi P ZG hg J;have hl:ZG.toList.length=n:=by rw[Zr];exact J.1
  generalize ZG.toList=M at i1 i2 hl ⊢;refine Zl (l5 ?_ (by rw[hl];exact hz));have ho:(h'.push {cls:=.type "list",data:=.seq M.toArray}).get? h'.objs.size=some (seqObj "list" M.toArray 0):=Zo _ rfl;have n4:∀b o,s.heap.get? b=some o->(h'.push {cls:=.type "list",data:=.seq M.toArray}).get? b=some o:=fun b o e=>Zn _ (hk b o e);refine Zl (cG ?_);refine bm slot_list_sort ⟨_,ho,rfl⟩ entry_list_sort (list_sort_tree (n:=0) (vs:=M) ho i1 (by omega) fun out j hI n6 hP=>⟨.none,rfl,?_⟩) (args_list_sort _);refine Zm ⟨_,rfl,?_⟩;have o1:=kN ho (fun _=>(#[]:Array Value));have o2:=Zn (seqObj "tuple" M.toArray 0) o1;have o3:=Zn (seqObj "list" #[] 0) o2;have o4:=kN o3 (fun _=>out);refine q h'.objs.size _ Y tk out.toList j _ (eR O) (fun b o e=>?_) (by rw[lN];exact o4) hI (n6.trans i2) hP;have hb:b≠h'.objs.size:=aB (jf (Zp e) O);unfold sortedHeap;rw[bR _ _ (bJ hb)];refine Zn _ (Zn _ ?_);rw[bR _ _ (bJ hb)];exact n4 b o e
end
theorem Zi0 (hz:es.size<=sizeLine)(W:Wk t (!w.params.followText "set-order")):Src prog w "set" a a es.size (fun P=>∃L:List Value,bN L (Xe es)/\P=fun i v=>L[i]?=some v) (fun h=>Jq h a es ep t) where
 type:=fun s h=>Jq.typeIs h
 there:=fun s S=>let ⟨o,e,_⟩:=Jq.typeIs (s:=s) S;Zp e
 keep:=fun h M S k=>S.keep (k a)
 notList:=by decide
 notTuple:=by decide
 hint:=fun A E s Q S q=>Zh9 (Jq.typeIs S) q
 iter:=fun A E s Q S q=>ZgM hz S W fun I O M U L St Y j hk hp J st=>q I O M U _ St Y (fun b hb=>(j b hb).elim .inl fun z=>.inr (.inr z)) hk ⟨L,hp,rfl⟩ J st
theorem Zde {ns:List Int}{Q:Value->Shared->Prop}(U:A.handled=none)(M:es.size<64)(Y:Jq s.heap a es ep t)(W:Wk t (!w.params.followText "set-order"))(hi:bP (Xe es) ns)
    (q:∀(D:Addr) (h':Heap) (dr:lG) (tk:Nat) (out:List Value) (j:List Int) (c:Nat),s.heap.objs.size<=D->(∀b o,s.heap.get? b=some o->h'.get? b=some o)->h'.get? D=some (seqObj "list" out.toArray c)->bP out j->bN j ns->j.Pairwise (· ≤ ·)->Q (.ref D) {s with heap:=h',drawn:=dr,toks:=tk}) :
    wpAny (model prog w) A (call (.builtin "sorted") [.ref a]) Q E s:=by
  have hz : es.size ≤ sizeLine := by have:(16777216:Nat)=sizeLine:=by decide
                                     omega
  refine VX (Zi0 (ep:=ep) hz W) U M Y (ns:=ns) (fun P ZG hg J=>?_) q;obtain⟨L,O,rfl⟩:=hg;rw[Zh0 (by rw[O.length_eq];unfold Xe;rw[Za,Zr]) J];exact Zka O hi
section
variable {K:Type} [DecidableEq K]{knd:PySem.KeyKind prog w K}{kvs:List (K×Value)}
theorem ZgC (lo:(a == sysModules)=false):Src prog w "dict" a a kvs.length (fun P=>P=fun i v=>∃k x,kvs[i]?=some (k,x)/\knd.is k v=true) (fun h=>h.DictAt knd a kvs ep) where
 type:=fun _ hm=>hm.dictOf.typeIs
 there:=fun _ hm=>hm.lt_size
 keep:=fun _ _ hm j=>hm.at' (j a)
 notList:=by decide
 notTuple:=by decide
 hint:=fun _ _ _ _ hm J=>kdl_hint_dict hm.dictOf.typeIs J
 iter:=fun A E s Q hm q=>by
  refine wpAny_pyIter_dict lo hm ?_;refine q s.heap.objs.size [s.heap.objs.size,a] _ s.drawn _ (fun i h=>h.IsKeyIter s.heap.objs.size a i kvs.length ep/\h.DictAt knd a kvs ep) (Zq _) (fun b hb=>?_) (fun b o e=>Zn _ e) rfl
   (fun O M=>Walks.dictKeys M _ a (aB hm.lt_size) kvs ep) ⟨⟨_,Zo _ rfl,rfl,rfl⟩,hm.push _⟩
  simp only[aF,cQ,or_false] at hb;rcases hb with rfl|rfl
  ·right;right;exact Zq _
  ·left;rfl
end
end
structure SX (prog:Program)(w:World)(h:Heap)(a:Addr)(es:Array (Int×Value))(ep:Nat)(t:SetTable)(S:Int->Bool)(n:Nat):Prop where
 at_:Jq h a es ep t
 el:ElemsOf (intKind prog w) es.toList
 mem:∀k,S k=true↔∃e∈es.toList,(intKind prog w).is k e.2=true
 sb:es.size<scanBound
 sz:es.size=n
 wk:Wk t (!w.params.followText "set-order")
noncomputable def XN (prog:Program)(w:World)(h:Heap)(a:Addr)(S:Int->Bool)(n:Nat):Prop:=∃j q t,SX prog w h a j q t S n
section
variable {prog:Program}{w:World}{A:Around}{E:Value->Shared->Prop}{s:Shared}{a:Addr}
theorem XN.keep {h h':Heap}{S:Int->Bool}{n:Nat}(X:XN prog w h a S n)(k:∀o,h.get? a=some o->h'.get? a=some o):XN prog w h' a S n:=by
 obtain⟨j,q,t,X⟩:=X;exact⟨j,q,t,X.at_.keep k,X.el,X.mem,X.sb,X.sz,X.wk⟩
theorem XN.congr {h:Heap}{S j:Int->Bool}{n q:Nat}(X:XN prog w h a S n)(e:∀k,S k=j k)(J:n=q):XN prog w h a j q:=by
 have:S=j:=funext e;subst this;subst J;exact X
theorem stored {h:Heap}{q es':Array (Int×Value)}{ep:Nat}{t t':SetTable}(S:Jq h a q ep t)(hf:t'.fits es'.size=true):Jq (h.update a (iZ es' t')) a es' (ep+1) t':=by
 obtain⟨o,e,x,d,_⟩:=S;have j:=bx (iZ es' t') e (by rw[putSet_of es' t' d];rfl);rw[putSet_of es' t' d] at j;exact⟨_,j,x,rfl,hf⟩
theorem W6 {j es':Array (Int×Value)}{ep:Nat}{t t':SetTable}{Q:Unit->Shared->Prop}(S:Jq s.heap a j ep t)(hz:es'.size<=sizeLine)(q:Q () {s with heap:=s.heap.update a (iZ es' t')}):wpAny (model prog w) A (storeSet a es' t') Q E s:=by
 obtain⟨o,e,x,d,_⟩:=S;exact wpAny_storeSet_of e d q hz
theorem ZcU {g:Bool->Sem Unit}(hg:∀(b:Bool) (O:Shared) (Q':Unit->Shared->Prop),Q' () O->wpAny (model prog w) A (g b) Q' E O){es j:Array (Int×Value)}{ep:Nat}{t q:SetTable}{led:Bool}(S:Jq s.heap a es ep t)(hz:j.size<=sizeLine)(f2:q.fits j.size=true)(w2:Wk q led)
  {U:Bool}{R:Option Bool->Shared->Prop} (fin:∀(h':Heap) (es':Array (Int×Value)) (n9:Nat) (t':SetTable),bd a s.heap h'->Jq h' a es' n9 t'->bN es'.toList j.toList->Wk t' led->R (some true) {s with heap:=h'}) :
  wpAny (model prog w) A (do
    storeSet a j q
    if (!U && q.tooFull)=true then do
      g (relayAll q j (dX j.size)).2.2
      storeSet a (relayAll q j (dX j.size)).1 (relayAll q j (dX j.size)).2.1
      pure (some true)
     else pure (some true)) R E s:=by
 refine Zl (W6 S hz ?_);have S2:=stored S (es':=j) f2;have Y:=bD s.heap a (iZ j q);generalize s.heap.update a (iZ j q)=h2 at S2 Y ⊢;by_cases J:(!U && q.tooFull)=true
 ·rw[if_pos J]
  have M:=relayAll_perm q j (dX j.size);have n4:=relayAll_fits q j (dX j.size);have n6:=w2.relay j (dX j.size);generalize relayAll q j (dX j.size)=Rl at M n4 n6 ⊢;obtain⟨n8,t3,o0⟩:=Rl;dsimp only at M n4 n6 ⊢;have o5:n8.size=j.size:=by rw[<-Zr,M.length_eq,Zr]
  refine Zl (hg _ _ _ ?_);refine Zl (W6 (s:={s with heap:=h2}) S2 (by rw[o5];exact hz) ?_);exact Zm (fin _ n8 _ t3 (Y.trans (bD _ a _)) (stored S2 n4) M n6)
 ·rw[if_neg J]
  exact Zm (fin h2 j _ q Y S2 (dh _) w2)
theorem add_int {S:Int->Bool}{n:Nat}{k:Int}{x:Value}{Q:Bool->Shared->Prop}(n6:(intKind prog w).is k x=true)(o5:x.scannable=true)(X:XN prog w s.heap a S n)(o6:n+1<scanBound)
  (q:∀b h',bd a s.heap h'->XN prog w h' a (fun k'=>S k' || decide (k'=k)) (if S k then n else n+1)->Q b {s with heap:=h'}) :
  wpAny (model prog w) A (setAddHashed a x ((intKind prog w).hash k)) Q E s:=by
 obtain⟨es,ep,t,X⟩:=X;obtain⟨o,e1,e2,e3,e4⟩:=id X.at_;unfold setAddHashed setAddHashedIn;refine cG (Zl (X.at_.state ?_));dsimp only;rw[byScan_of o5 X.sb X.el];simp only[↓reduceIte];unfold setAddByScan;refine Zl (Zl (eV (Zl (wpAny_setScan_of n6 e1 e3 e4 X.el ?_))));cases hr:List.findIdx? (fun e=>(intKind prog w).is k e.2) es.toList with
 |some j=>
  obtain⟨hj,p6,_⟩:=List.findIdx?_eq_some_iff_getElem.mp hr;have o0:S k=true:=(X.mem k).mpr ⟨_,bg hj,p6⟩;refine Zm (Zm ?_);have:=q false s.heap (Heap.SameBut.refl a s.heap) ⟨es,ep,t,X.at_,X.el,fun k'=>?_,X.sb,by rw[o0];exact X.sz,X.wk⟩
  ·exact this
  ·rw[aZ,decide_eq_true_eq,<-X.mem k']
   exact⟨fun h=>h.elim id fun e=>by rw[e];exact o0,.inl⟩
 |none=>
  have o0:S k=false:=by
   cases hk:S k with
   |false=>rfl
   |true=>
    obtain⟨e,he,hp⟩:=(X.mem k).mp hk;have:=List.findIdx?_eq_none_iff.mp hr e he;rw[hp] at this;exact Bool.noConfusion this
  dsimp only;have J:=layNew_perm t es ((intKind prog w).hash k) x;have M:=layNew_fits t es ((intKind prog w).hash k) x;have n8:=X.wk.lay es ((intKind prog w).hash k) x;generalize layNew t es ((intKind prog w).hash k) x=L at J M n8 ⊢;obtain⟨n4,t1,r6,o8⟩:=L;dsimp only at J M n8 ⊢;rw[mI] at J;have p7:∀(b:Bool) {U:Shared}{Q':Unit->Shared->Prop},Q' () U->wpAny (model prog w) A (match b with|true=>rule "set.scan.the-table-gave-way" |false=>pure ()) Q' E U:=
   fun b U Q' hq=>by cases b <;> first|exact Zm hq|exact eV hq
  have o9:n4.size=n+1:=by rw[<-Zr,J.length_eq,Zd,Zr,X.sz];rfl
  have p8:ElemsOf (intKind prog w) n4.toList:=(X.el.push n6 o5).perm J;have p3:∀k',(S k' || decide (k'=k))=true↔∃e∈n4.toList,(intKind prog w).is k' e.2=true:=mem_push_iff n6 X.mem J;have o7:n4.size<scanBound:=by rw[o9];exact o6
  have zl:∀m,m<scanBound->m<=sizeLine:=fun m h=>fits_of_scanBound h;have p4:∀(h':Heap) (O:Array (Int×Value)) (Y:Nat) (t':SetTable),bd a s.heap h'->Jq h' a O Y t'->bN O.toList n4.toList->Wk t' (!w.params.followText "set-order")->Q true {s with heap:=h'}:=fun h' O Y t' sb at' hp n9=>by
   have hs:O.size=n4.size:=by rw[<-Zr,hp.length_eq,Zr]
   refine q true h' sb ⟨O,Y,t',at',p8.perm hp,fun k'=>?_,by rw[hs];exact o7,by rw[o0,hs];exact o9,n9⟩;rw[p3 k'];exact⟨fun ⟨e,he,r⟩=>⟨e,hp.mem_iff.mpr he,r⟩,fun ⟨e,he,r⟩=>⟨e,hp.mem_iff.mp he,r⟩⟩
  refine Zl (p7 o8 ?_);split
  ·refine Zl ?_
   rw[hashByValue_scannable 8 o5];refine Zm ?_;refine ZcU (fun b U Q' hq=>?_) X.at_ (zl _ o7) ?_ ?_ fun h' O Y t' sb at' hp n9=>Zm (p4 h' O Y t' sb at' hp n9)
   ·cases b <;> first|exact Zm hq|exact eV hq
   ·split
    ·exact M
    ·exact SetTable.fits_plain_off M
   ·split
    ·exact n8
    ·exact n8.plain false
  ·refine Zl (Zm ?_)
   simp only[↓reduceIte];refine ZcU (fun b U Q' hq=>?_) X.at_ (zl _ o7) M n8 fun h' O Y t' sb at' hp n9=>Zm (p4 h' O Y t' sb at' hp n9);cases b <;> first|exact Zm hq|exact eV hq
end
section
variable {prog:Program}{w:World}{A:Around}{R:Result->Shared->Prop}{I:Addr}{fp wr:List Addr}{G:Array GenState->Array GenState->Prop}{n:Nat}{P:Nat->Value->Prop}{St:Nat->Shared->Prop}
theorem Zgq (W:WalksS prog w A.in1 I fp wr G n P St)(S:Addr)(O:S∉fp)(val:Nat->Int)(U:∀i v,P i v->∃t,v=.int (val i) t)(hb:n+1<scanBound) :
  ∀(k i:Nat) (s:Shared),n-i=k->i<=n->St i s->XN prog w s.heap S (fun M=>(firstMet val i).any (· == M)) (firstMet val i).length->
   (∀s',Moved (S::wr) G s s'->XN prog w s'.heap S (fun M=>(firstMet val n).any (· == M)) (firstMet val n).length->R (.ok (.ret .none)) s')->
   codeAny (model prog w) A (.builtin "set.update.loop" ⟨[.ref S,.ref I],[]⟩) R s:=by
 have Y:S∉wr:=fun h=>O (W.sub _ h);have j:∀b∈wr,b∈S::wr:=fun b hb=>aH _ hb;intro k;induction k with
 |zero=>
  intro i s hk hi q hS hR;have o5:i=n:=by omega
  subst o5;refine cM gF ?_;rw[bX dS _];show wpAny _ A.in1 (pyNext (.ref I) >>= _) _ _ s;refine Zl (W.done s _ _ q fun s' hm=>?_);show wpAny _ A.in1 (ret bT) _ _ s';exact Zm (hR s' (hm.mono j) (hS.keep fun o e=>hm.heap S o Y e))
 |succ k ih=>
  intro i s hk hi q hS hR;have n4:i<n:=by omega
  refine cM gF ?_;rw[bX dS _];show wpAny _ A.in1 (pyNext (.ref I) >>= _) _ _ s;refine Zl (W.item i s _ _ n4 q fun v s' hP n6 hm=>?_);obtain⟨t,rfl⟩:=U i v hP;have o6:=hS.keep fun o e=>hm.heap S o Y e;show wpAny _ A.in1 (holding [gM (val i) t] (setAdd S (.int (val i) t)) >>= _) _ _ s';refine Zl (cG ?_);unfold setAdd;refine cG ?_;refine Zl ((intKind prog w).pyHash (k:=val i) (intKind_is _ _ _ _) ?_);have J:(firstMet val i).length+1<scanBound:=by have:=firstMet_length_le val i;omega
  refine add_int (s:={s' with toks:=s'.toks+1}) (intKind_is _ _ _ _) rfl o6 J fun _ h' n8 o7=>?_;have o8:XN prog w h' S (fun M=>(firstMet val (i+1)).any (· == M)) (firstMet val (i+1)).length:=
   o7.congr (fun M=>by rw[mj,step_any]) (by rw[mj,step_length])
  refine Zm ⟨fq dS _,ih (i+1) _ (by omega) n4 (W.frame _ s' _ _ n6 (gG _) fun b hb o e=>?_) o8 fun o9 n9 o0=>?_⟩
  ·rw[n8.2 b (fun h:b=S=>O (by rw[<-h];exact hb))];exact e
  ·refine hR o9 (Moved.trans W.gtrans ((hm.mono j).then_heap (gG _) fun b o hb e=>?_) n9) o0
   rw[n8.2 b (fun h:b=S=>hb (by rw[h];exact aE))];exact e
end
section
variable {prog:Program}{w:World}{A:Around}{E:Value->Shared->Prop}{s:Shared}
theorem Zi8 (a:Value){Q₁:Value->Shared->Prop}
  (h:Q₁ (.ref s.heap.objs.size) {s with heap:=s.heap.push {cls:=.type "set",dict:=none,data:=.set #[] 0 (.fresh 0 0 (!w.params.followText "set-order"))}}) :
  codeAny (model prog w) A (.call (.builtin "set.__new__") ⟨[.type "set",a],[]⟩) (wants Q₁ E) s:=by
 refine kI ?_;show wpAny _ A.in1 (do checkBuiltinCall "set.__new__" ⟨[.type "set",a],[]⟩;again (.builtin "set.__new__" ⟨[.type "set",a],[]⟩)) _ _ s
 refine Zl (ki (PySem.F.newCall_set_1 a) (Zm ⟨fq kx _,cM PySem.F.entry_set_new ?_⟩));rw[bX kx _];unfold cH.«set.__new__» Builtin.Frozenset.newClass;have j:=sub_set_self;obtain⟨q,g,d,tk,os⟩:=s;dsimp only
 wp_walk
 refine j9 (Zm ?_);dsimp only;simp only[newObj];refine Zl (wpAny_alloc (Zm ?_));exact Zm h
theorem Zkf {h:Heap}{a:Addr}(e:h.get? a=some {cls:=.type "set",dict:=none,data:=.set #[] 0 (.fresh 0 0 (!w.params.followText "set-order"))}):XN prog w h a (fun _=>false) 0:=
 ⟨#[],0,_,⟨_,e,⟨rfl,rfl,rfl⟩,rfl,rfl⟩,fun x j=>(by simp at j),fun k=>(by simp),by unfold scanBound;decide,rfl,Wk.fresh _⟩
noncomputable abbrev Zff (prog:Program)(w:World)(s:Shared)(ns:List Int)(n:Nat)(h':Heap):Prop:=
 XN prog w h' s.heap.objs.size (fun j=>(L2.Uf ns n).any (· == j)) (L2.Uf ns n).length/\∀b o,b<s.heap.objs.size->s.heap.get? b=some o->h'.get? b=some o
theorem ZbQ {l:Addr}{items:Array Value}{ns:List Int}{Q:Value->Shared->Prop}(hh:A.handled=none)(hl:s.heap.IsList l items)(hi:bP items.toList ns)(hb:items.size+1<scanBound)
  (h:∀(h':Heap) (tk:Nat),Zff prog w s ns items.size h'->Q (.ref s.heap.objs.size) {s with heap:=h',toks:=tk}):wpAny (model prog w) A (call (.type "set") [.ref l]) Q E s:=by
 obtain⟨c,tl,p8⟩:=cq.mro;have o6:=cq.made;have r6:=cq.sub;refine wpAny_call (kI ?_);show wpAny _ _ (callAny (.type "set") _) _ _ _;refine Zm ⟨Code.quiet_builtin _ (by decide +kernel),cM PySem.F.entry_type_call ?_⟩;rw[Around.under_plain (weight_type_call_type "set" [.ref l] []) rfl];have h1:=cq.notType;have h2:=cq.canCreate;have t6:=PySem.F.typeCall_set_1 (.ref l)
 repeat (any_goals (first|assumption|wp_step))
 let J:Obj:={cls:=.type "set",dict:=none,data:=.set #[] 0 (.fresh 0 0 (!w.params.followText "set-order"))}
 refine fO (Zi8 (.ref l) (E:=E) (Q₁:=fun obj M=>obj=.ref s.heap.objs.size/\M={s with heap:=s.heap.push J}) ⟨rfl,rfl⟩) fun r M hr=>?_;cases r with
 |error e=>exact hr
 |ok fl=>
  cases fl with
  |ret obj=>
   obtain⟨rfl,rfl⟩:=hr;have hS:(s.heap.push J).get? s.heap.objs.size=some J:=Zo _ rfl;have hT:Shared.TypeIs {s with heap:=s.heap.push J} (.ref s.heap.objs.size) "set":=⟨_,hS,rfl⟩;have t7:=cq.init.lookup;have t9:=cq.init.bind (.ref s.heap.objs.size)
   repeat (any_goals (first|assumption|wp_step))
   refine fO (codeAny_call_builtin (R:=wants (fun r O=>r=.none/\∃h' tk,O={s with heap:=h',toks:=tk}/\Zff prog w s ns items.size h') E) cq.init.plain PySem.F.entry_set_init (check_set_init_1 hT ?_)) fun n6 O j=>?_
   ·obtain⟨ol,US,n8,nl,n9⟩:=id hl
    obtain⟨r9,Y,o7,q⟩:=ol;simp only at n8 n9;subst n8;subst n9;have U:(s.heap.push J).get? l=some {cls:=.type "list",dict:=Y,data:=.seq items nl,slots:=q}:=Zn _ US;have t0:=PySem.F.sub_list_set;have t5:=PySem.F.sub_list_frozenset;have u5:(db "list" == db "dict")=false:=by decide
    have o8:(s.heap.push J).IsList l items:=⟨_,U,rfl,nl,rfl⟩;unfold cH.«set.__init__» noKeywords Builtin.Frozenset.updateFrom;generalize o9:pyIter=PI
    wp_walk
    subst o9;refine fN o8 ?_;refine Zl (lf ?_);have o0:l<s.heap.objs.size:=Zp US;have o5:l≠(s.heap.push J).objs.size:=by rw[bo];exact aB (fG o0)
    have p3:s.heap.objs.size∉[(s.heap.push J).objs.size,l]:=by
     rw[bo];intro z;rcases aF.mp z with z|z
     ·exact absurd z (aB (dE _))
     ·exact absurd (aQ.mp z) (bt o0)
    refine Zgq ((l9 (A:=A.in1.in1.in1) (by simp[hh]) _ l o5 items).toS) s.heap.objs.size p3 (fun i=>ns.getD i 0) (fun i v hv=>IntsAre.int_at hi i v (by rw[bM];exact hv)) hb (items.size-0) 0 _ (by omega) (aX _)
     ⟨⟨_,Zo _ rfl,rfl,rfl⟩,⟨_,Zn _ U,rfl,nl,rfl⟩⟩ ?hS0 ?hR
    case hS0=>exact (Zkf (Zn _ hS)).congr (fun _=>rfl) rfl
    case hR=>
     intro s' hm p4;obtain⟨h',g',d',p6,p7⟩:=s';obtain rfl:g'=s.gens:=hm.gens;obtain rfl:d'=s.drawn:=hm.drawn;obtain rfl:p7=s.os:=hm.os;show wpAny _ _ _ _ _ _;refine Zm ?_;show wpAny _ _ (ret bT) _ _ _;refine Zm ⟨rfl,h',p6,rfl,p4,fun b o hb e=>hm.heap b o (fun z=>?_) (Zn _ (Zn _ e))⟩;rcases aF.mp z with z|z
     ·exact absurd z (aB hb)
     ·refine absurd (aQ.mp z) (aB ?_);rw[bo];exact fG hb
   ·cases n6 with
    |error e=>exact j
    |ok n4=>
     cases n4 with
     |ret r=>
      obtain⟨rfl,h',tk,rfl,he⟩:=j
      repeat (any_goals (first|assumption|wp_step))
      exact h _ _ he
     |_=>exact j.elim
  |_=>exact hr.elim
end
end PyS
namespace L2
open PySem PySem.Spec PyProof.Rows
theorem Vl:∀{M L:List Int},M.Nodup->(∀x∈M,x∈L)->L.length=M.length->bN L M
 | [],L,_,_,h=>by
  have:L=[]:=fo.mp (by simpa using h);subst this;exact dh _
 |x::M,L,j,J,h=>by
  have Y:=J x aE;have O:=List.perm_cons_erase Y;rw[bG] at j;refine O.trans ((Vl j.2 (fun y U=>?_) ?_).cons x)
  ·have q:y≠x:=fun z=>j.1 (z▸U)
   exact (lX q).mpr (J y (aH _ U))
  ·have:=O.length_eq
   rw[Zi] at this;rw[Zi] at h;omega
theorem Zax:∀{out:List Value}{ns:List Int},bP out ns->ZK (ns.map V.int) out
 |_,_,.nil=>.nil
 |_,_,.cons n t r=>.cons ⟨t,rfl⟩ (Zax r)
noncomputable def ZgN (prog:Program)(w:World)(a:Addr)(M:List Int):HO:=.ext fun h=>PyS.XN prog w h a (fun k=>M.any (· == k)) M.length
section
variable {X:Cx}{pins:List (Addr×Obj)}{σ:L2.St}{H:Hp}{s:Shared}
theorem Inv.drawn (I:Inv X pins σ H s)(d:lG):Inv X pins σ H {s with drawn:=d}:=⟨I.ok,I.os,I.bare,I.base,I.loc,I.cell,I.free,I.freeC,I.pin,I.hok,I.len⟩
theorem Zgc (U:X.calm=true):Yo X (.type "set") (fun xs H Q=>∃(a:Addr) (ns:List Int),xs=[.ref a]/\Wr X.K H a (ns.map V.int)/\ns.length<1000/\∀p,H p=none->Q (.ref p) (upd H p (ZgN X.prog X.w p (Uf ns ns.length)))):=by
 intro pins s σ H xs us Q I r h;obtain⟨a,ns,rfl,Y,hn,q⟩:=h;obtain⟨u,rfl,ru⟩:=vals1 r;cases ru;obtain⟨j,M,p,hz⟩:=I.list Y;have O:j.toArray.size=ns.length:=by rw[Zh,<-M.length,Za]
 refine PyS.ZbQ (I.ok.hd U) p.isList (ns:=ns) (by simpa using ZeU M) (by rw[O];unfold scanBound;omega) fun h' tk ⟨J,e2⟩=>?_;rw[O] at J;refine⟨.ref _,_,I.laid (a:=s.heap.objs.size) (o:=ZgN X.prog X.w s.heap.objs.size (Uf ns ns.length)) (t':=tk) (fun b o e=>e2 b o (Zp e) e) (Zq _) ⟨J,?_,fun h1 h2 x k=>x.keep k⟩,rfl,q _ (I.hok.fresh (Zq _))⟩;obtain⟨es,ep,t,⟨o,e,_⟩,_⟩:=J;exact⟨o,e⟩
theorem ZdL (hc:X.calm=true):Yo X (.builtin "sorted") (fun xs H Q=>∃(a:Addr) (M:List Int),xs=[.ref a]/\H a=some (ZgN X.prog X.w a M)/\M.Nodup/\M.length<64/\∀l ns,H l=none->bN ns M->ns.Pairwise (· ≤ ·)->Q (.ref l) (upd H l (.lst (ns.map V.int)))):=by
 intro pins s σ H xs us Q I r h;obtain⟨a,M,rfl,ha,hn,Y,q⟩:=h;obtain⟨u,rfl,ru⟩:=vals1 r;cases ru;obtain⟨J,_,_⟩:=(show Z6 X.prog X.w H s.heap a (ZgN X.prog X.w a M) from I.hok a _ ha);obtain⟨es,ep,t,J⟩:=J;have O:∀v∈PyS.Xe es,∃k tk,v=.int k tk:=fun v hv=>by
  obtain⟨e,he,rfl⟩:=aN.mp hv;obtain⟨⟨k,hk,_⟩,_⟩:=J.el e he;obtain⟨tk,et⟩:=gq hk;exact⟨k,tk,et⟩
 have n4:=PyS.ZeV O;have hp:bN ((PyS.Xe es).map PyS.Zce) M:=by
  refine Vl hn (fun x hx=>?_) ?_
  ·have hS:M.any (· == x)=true:=a6.mpr ⟨x,hx,by simp⟩
   obtain⟨e,he,hk⟩:=(J.mem x).mp hS;obtain⟨tk,et⟩:=gq hk;refine aN.mpr ⟨e.2,aN.mpr ⟨e,he,rfl⟩,?_⟩;rw[et];rfl
  ·unfold PyS.Xe
   rw[Za,Za,Zr];exact J.sz
 refine PyS.Zde (I.ok.hd hc) (by rw[J.sz];exact Y) J.at_ J.wk n4 fun D h' dr tk out j c hD kp n6 hi U hP=>?_;have hl:ZK (j.map V.int) out:=Zax hi;have sz:(16777216:Nat)=sizeLine:=by decide
 have n8:j.length=M.length:=(U.trans hp).length_eq;refine⟨.ref D,_,(I.laid (a:=D) (o:=.lst (j.map V.int)) (t':=tk) kp hD ⟨by rw[Za];omega,out,c,hl,n6⟩).drawn dr,rfl,q _ j (I.hok.fresh hD) (U.trans hp) hP⟩
end
section
variable {X:Cx}{pins:List (Addr×Obj)}{σ:L2.St}{H:Hp}{s:Shared}
theorem ZdN (hc:X.calm=true):Yo X (.builtin "sorted") (fun xs H Q=>∃(a:Addr) (kvs:List (Yz×V)) (ks:List Int),xs=[.ref a]/\H a=some (.dK kvs)/\kvs.map (·.1)=ks.map fY/\ks.length<64/\∀l ns,H l=none->bN ns ks->ns.Pairwise (· ≤ ·)->Q (.ref l) (upd H l (.lst (ns.map V.int)))):=by
 intro pins s σ H xs us Q I r h;obtain⟨a,kvs,ks,rfl,ha,hk,o5,q⟩:=h;obtain⟨u,rfl,ru⟩:=vals1 r;cases ru;obtain⟨z,lo,vs,kv,hD⟩:=ZcK I.hok ha;obtain⟨ep,n6⟩:=hD.dictAt;have hl:vs.length=ks.length:=by rw[<-kv.length,<-Za (f:=fun p:Yz×V=>p.1),hk,Za]
 have n8:vs.map (·.1)=ks.map fY:=by rw[<-kv.keys];exact hk
 refine PyS.VX (PyS.ZgC (knd:=Ym X.prog X.w) (kvs:=vs) (ep:=ep) lo) (I.ok.hd hc) (by omega) n6 (ns:=ks) (fun P ZG hg J=>?_) fun D h' dr tk out M c U kp n9 hi Y hP=>?_
 ·subst hg
  have n4:∀i v,ZG.toList[i]?=some v->∃t,v=.int (ks.getD i 0) t/\i<ks.length:=fun i v e=>by
   rw[bM] at e;obtain⟨k,x,e1,e2⟩:=J.2 i v e;have e3:(vs.map (·.1))[i]?=some k:=by rw[Zc,e1];rfl
   rw[n8,Zc] at e3;cases O:ks[i]? with
   |none=>rw[O] at e3;cases e3
   |some j=>
    rw[O] at e3;cases e3;obtain⟨t,et⟩:=gq (show lA j v=true from e2);exact⟨t,by rw[et,Zb,O];rfl,(ae.mp O).1⟩
  have e:ZG.toList.map PyS.Zce=ks:=by
   refine aY fun i=>?_;rw[Zc];by_cases hi:i<ks.length
   ·have hs:i<ZG.toList.length:=by rw[Zr,J.1];omega
    obtain⟨t,e1,_⟩:=n4 i _ (Zf hs);rw[Zf hs,e1,gY,Zf hi,Zb,Zf hi];rfl
   ·rw[ah (by rw[Zr,J.1];omega),ah (by omega)]
    rfl
  refine⟨PyS.ZeV fun v hv=>?_,by rw[e]⟩;obtain⟨i,hi⟩:=b9 hv;obtain⟨t,e1,_⟩:=n4 i v hi;exact⟨_,t,e1⟩
 ·have o0:ZK (M.map V.int) out:=Zax hi
  have sz:(16777216:Nat)=sizeLine:=by decide
  have o7:M.length=ks.length:=Y.length_eq;exact⟨.ref D,_,(I.laid (a:=D) (o:=.lst (M.map V.int)) (t':=tk) kp U ⟨by rw[Za];omega,out,c,o0,n9⟩).drawn dr,rfl,q _ M (I.hok.fresh U) Y hP⟩
noncomputable def ZnK (O U:TE):TE:=fun σ H Q=>O σ H fun x M=>∃a,x=.ref a/\IsD M a/\U σ M fun y J=>∃b q j,y=.ref b/\a≠b/\J a=some (.dK q)/\J b=some (.dK j)/\q.length+j.length<=sizeLine/\Q .non (upd J a (.dK (We q j)))
theorem Zjo {o e:Expr}{j J:Pos}{td ty:TE}(ho:PE X o td)(he:PE X e ty)(m:M1 X o "update" j e J):PE X (.Call (.Attribute o "update" j) [e] [] J) (ZnK td ty):=by
 intro pins s σ H Q I h;refine wpAny_Call_method m.base m.few m.line PySem.F.plainAttrs_dict jU PySem.F.type_dict_update (Yi (ho pins s σ H _ I h) fun u s1 ⟨x,H1,I1,rx,a,ex,d,q1⟩=>?_);subst ex;obtain rfl:u=aI a:=rx;obtain⟨t1,t2,_⟩:=ZmC I1 d;refine⟨t1,t2,?_⟩;rw[m.trees];refine ft rfl (iw (mi (Yi (he pins s1 σ H1 _ I1 q1) fun iv s2 ⟨y,H2,O,ry,b,U,more,ey,Y,ha,hb,hz,q2⟩=>mD ?_)));subst ey;obtain rfl:iv=aI b:=ry;obtain⟨_,lo,vs,kv,hD⟩:=ZcK O.hok ha;obtain⟨_,n4,ws,M,n6⟩:=ZcK O.hok hb;refine call_meetsIn jU hD.typeIs PySem.F.entry_dict_update (PySem.F.args_dict_update_2 _ _) (meets_dict_update (Ym X.prog X.w) a b Y n4) ⟨vs,ws,hD,n6,by rw[<-kv.length,<-M.length];exact hz,fun h' d1 d2 sb=>?_⟩;have n8:∃q,h'.get? a=some q:=by obtain⟨q,_,_,hq,_⟩:=d1;exact⟨q,hq⟩
 exact⟨.non,_,VL (t':=s2.toks) O (by rw[ha];exact di) sb n8 (ZdI (a5 (WX more U) hz) lo (KV.merge M kv) d1),rfl,q2⟩
end
end L2
namespace C39
open PySem L2 PySem.Spec PyProof.Rows
noncomputable def top (i:Nat):Stmt:=fM.main.body.getD i (.Pass ⟨0,0,0,0⟩)
noncomputable abbrev ZkT:Stmt:=top 49
noncomputable abbrev ZgV:Stmt:=top 50
structure BlB (mg:Str->Option Value):Prop where
 list:mg "list"=none
 len:mg "len"=none
 range:mg "range"=none
 tuple:mg "tuple"=none
 max:mg "max"=none
 sorted:mg "sorted"=none
noncomputable def tpK (c l n:Int):List (Yz×V):=[(.inr "cell",.int c),(.inr "left",.int l),(.inr "turn",.int n)]
noncomputable def Wo (H:Hp)(p:Addr)(b:Nat):Prop:=∃c l n:Int,H p=some (.dK (tpK c l n))/\0<=l/\0<=n/\n<=b
theorem Wo.mono {H j:Hp}{p:Addr}{b:Nat}(s:Same H j)(h:Wo H p b):Wo j p b:=by
 obtain⟨c,l,n,q,J⟩:=h;exact⟨c,l,n,s _ _ q,J⟩
theorem Wo.le {H:Hp}{p:Addr}{b j:Nat}(h:Wo H p b)(hb:b<=j):Wo H p j:=by
 obtain⟨c,l,n,q,J,M,O⟩:=h;exact⟨c,l,n,q,J,M,by omega⟩
theorem ZmG {H:Hp}{p:Addr}{c l n:Int}(h:H p=some (.dK (tpK c l n))):Jt H p (.str "cell") (some (.int c)):=Jt.k (k:=.inr "cell") h
theorem ZdC {H:Hp}{p:Addr}{c l n:Int}(h:H p=some (.dK (tpK c l n))):Jt H p (.str "left") (some (.int l)):=Jt.k (k:=.inr "left") h
theorem ZmF {H:Hp}{p:Addr}{c l n:Int}(h:H p=some (.dK (tpK c l n))):Jt H p (.str "turn") (some (.int n)):=Jt.k (k:=.inr "turn") h
theorem Zl3 {H:Hp}{p:Addr}{c l n j:Int}(h:H p=some (.dK (tpK c l n))):Vi H p (.str "left") (.int j) (upd H p (.dK (tpK c j n))):=Vi.k (k:=.inr "left") h (by rw[fZ];show 3<_;omega)
theorem Zl2 {H:Hp}{p:Addr}{c l n j:Int}(h:H p=some (.dK (tpK c l n))):Vi H p (.str "turn") (.int j) (upd H p (.dK (tpK c l j))):=Vi.k (k:=.inr "turn") h (by rw[fZ];show 3<_;omega)
theorem _root_.L2.Same.upd2 {H:Hp}{p:Addr}{o j:HO}(h:H p=none):Same H (upd (upd H p o) p j):=fun b u e=>by
 have hb:b≠p:=fun z=>by rw[z,h] at e;cases e
 rw[Zx hb,Zx hb];exact e
noncomputable def Tk (p:Addr)(H j:Hp):Prop:=∀b o,H b=some o->b≠p->j b=some o
theorem Tk.of {p:Addr}{H j:Hp}(s:Same H j):Tk p H j:=fun b o e _=>s b o e
theorem Tk.trans {p:Addr}{H j q:Hp}(a:Tk p H j)(b:Tk p j q):Tk p H q:=fun c o e n=>b c o (a c o e n) n
theorem Wo.ne {H:Hp}{p a:Addr}{b:Nat}{o:HO}(h:Wo H p b)(e:H a=some o)(j:∀kvs,o≠.dK kvs):a≠p:=fun z=>by
 obtain⟨c,l,n,q,_⟩:=h;rw[z,q] at e;exact j _ (ay e).symm
theorem Wo.neN {H:Hp}{p a:Addr}{b:Nat}(h:Wo H p b)(e:H a=none):a≠p:=fun z=>by
 obtain⟨c,l,n,j,_⟩:=h;rw[z,j] at e;cases e
theorem Tk.tup {p a:Addr}{H j:Hp}{b:Nat}{xs:List V}(d:Tk p H j)(T:Wo H p b)(h:H a=some (.tup xs)):j a=some (.tup xs):=d a _ h (T.ne h fun _ z=>by cases z)
theorem Tk.lst {p a:Addr}{H j:Hp}{b:Nat}{xs:List V}(d:Tk p H j)(T:Wo H p b)(h:H a=some (.lst xs)):j a=some (.lst xs):=d a _ h (T.ne h fun _ z=>by cases z)
noncomputable def ZgD (K:ab):Sp:=fun J H Q _=>∃(a:Addr) (q:List Int) (i:Nat),J=[.ref a,.int i]/\Wr K H a (q.map V.int)/\q.length<=63/\∀p j,Same H j->H p=none->Wo j p 0->Q (.ref p) j
noncomputable def Zdc:Sp:=fun q H Q _=>∃(p:Addr) (m:Int) (b:Nat),q=[.ref p,.int m]/\Wo H p b/\b<2 ^ 60/\0<m/\m<1073741824/\∀r j,0<=r->r<m->Tk p H j->Wo j p (b+1)->Q (.int r) j
section
variable {P:Program}{w:World}{K:ab}{mg:Str->Option Value}{base:Heap}
theorem ZjG {f:Addr}{fd:FuncData}(F:Y5 K "_law_pick" "_law_pick" ZgV f fd):ZR P w K mg base ZT 1 f fd ["_law_tape_here", "_law_many"] Zdc:=by
 refine F.ok (FS (N:=["_law_tape_here", "_law_many", "_law_turn", "_law_found", "_law_stirred"])) (fun vs H Q E h=>?_) (fun M A O s H vs Q E hr h=>?_)
 ·obtain⟨p,m,b,rfl,_⟩:=h;rfl
 ·obtain⟨p,m,b,rfl,⟨c,l,n,Y,l0,n0,nb⟩,hb,m0,m1,q⟩:=h
  have j:(A.deeper (envOfC "_law_pick" (Z3 ZgV) s.heap.objs.size f M)).units+1<cLine:=by have:=hr.un;omega
  refine⟨_,Zu (ZH 2 rfl (Zz YN (JO j (vn 0) WV (fun _ _=>rfl)) Zw))
   (Zu (Xt j (vn 0) WV (vn 2) (by rfl))
   (Zu (Y9 (ZP Zhn (JO j (vn 0) WV (fun _ _=>rfl)) Zw (ZW _))
    (Zu (ZH 3 rfl (Zz Z5 (JO j (vn 0) WV (fun _ _=>rfl)) (vn 1)))
    (Zu (Xt j (vn 0) WV (Zz WO (JO j (vn 0) WV (fun _ _=>rfl)) (vn 1)) (by rfl))
    (Zv (ZD (vn 3))))) Yf)
   (Zu (ZH 4 rfl (Zz ZV (Zz YN (Zz YN (Zz Z5 (JO j (vn 0) WV (fun _ _=>rfl)) Zw) (Zz ZV (Zz ZV Zw (vn 2)) (vn 2))) Zw) Zw))
   (Zu (ZH 4 rfl (Zz ZV (Zz YN (Zz Z5 (vn 4) Zw) (Zz ZV Zw (vn 2))) Zw))
   (Zv (ZD (Zz Z5 (Zz WO (Zz Z5 (vn 4) Zw) Zw) (vn 1)))))))),?_⟩
  refine⟨_,rfl,p,_,rfl,ZmF Y,_,_,rfl,rfl,?_⟩;refine⟨_,rfl,_,rfl,p,_,rfl,Zl2 Y,?_⟩;have J:upd H p (.dK (tpK c l (n+1))) p=some (.dK (tpK c l (n+1))):=Zt;have U:Tk p H (upd H p (.dK (tpK c l (n+1)))):=fun b o e hb=>by rw[Zx hb];exact e
  generalize upd H p (.dK (tpK c l (n+1)))=H2 at J U ⊢;refine⟨_,rfl,p,_,rfl,ZdC J,_,_,rfl,rfl,_,rfl,?_⟩;refine Y0 (fun h=>?_) (fun h=>?_)
  ·refine⟨_,rfl,p,_,rfl,ZdC J,_,rfl,_,_,rfl,rfl,m0,?_⟩
   refine⟨_,rfl,p,_,rfl,ZdC J,_,rfl,_,_,rfl,rfl,⟨m0,m1⟩,_,rfl,p,_,rfl,Zl3 J,?_⟩;refine⟨_,rfl,q _ _ (cJ _ (by omega)) (cx _ m0) (U.trans fun b o e hb=>by rw[Zx hb];exact e) ⟨c,l / m,n+1,Zt,Int.ediv_nonneg l0 (by omega),by omega,by omega⟩⟩
  ·refine⟨_,rfl,p,_,rfl,ZmG J,_,_,rfl,rfl,(by show (0:Int)<_;decide),_,rfl,_,_,rfl,rfl,.inl ⟨by decide,by decide⟩,_,rfl,_,_,rfl,rfl,.inr ⟨by omega,by omega⟩,_,_,rfl,rfl,_,_,rfl,rfl,_,_,rfl,rfl,.inr ⟨by decide,by decide⟩,?_⟩
   refine⟨_,rfl,_,_,rfl,rfl,(by show (0:Int)<_;decide),_,rfl,_,_,rfl,rfl,.inl ⟨by decide,by decide⟩,_,_,rfl,rfl,_,_,rfl,rfl,.inr ⟨by decide,by decide⟩,?_⟩;refine⟨_,rfl,_,_,rfl,rfl,(by show (0:Int)<_;decide),_,_,rfl,rfl,⟨by decide,by decide⟩,_,rfl,_,_,rfl,rfl,m0,?_⟩;exact q _ _ (cJ _ (by omega)) (cx _ m0) U ⟨c,l,n+1,J,l0,by omega,by omega⟩
theorem ZjD {f:Addr}{fd:FuncData}(F:Y5 K "_law_tape" "_law_tape" ZkT f fd)(T:BlB mg):ZR P w K mg base ZT 1 f fd ["_law_script", "_law_at"] (ZgD K):=by
 refine F.ok (FS (N:=["_law_script", "_law_at", "_law_cell"])) (fun Y H Q E h=>?_) (fun n4 A O s H Y Q E hr h=>?_)
 ·obtain⟨a,ns,i,rfl,_⟩:=h;rfl
 ·obtain⟨a,ns,i,rfl,M,hn,q⟩:=h
  refine⟨_,Zu (ZH 2 rfl (vn 1))
   (Zu (Y9 (ZP Zhn (cb (YB K) T.len (pc (vn 0) Zs)) Zw (ZW _))
    (Zv (ZH 2 rfl (Zz YN (ZM (ixL K) (vn 0) (Zz Z5 (vn 1) (cb (YB K) T.len (pc (vn 0) Zs))) (fun _ _=>rfl)) (Zz WO (vn 1) (cb (YB K) T.len (pc (vn 0) Zs)))))) Yf)
   (Zv (ZD (Zjp (V9 WV (vn 2) (V9 WV (cb (Zge rfl) T.max (pc Zw (pc (Zz YU (vn 2) (Zz Zl6 Zw Zw)) Zs))) (V9 WV Zw Zji))) rfl rfl (by simp) (by decide))))),?_⟩
  have len:(ns.map V.int).length=ns.length:=jK ..;refine⟨_,rfl,_,rfl,a,_,rfl,.inl M,_,_,rfl,rfl,_,rfl,?_⟩;refine Y0 (fun h=>?_) (fun h=>?_)
  ·have h:(0:Int)<(ns.map V.int).length:=of_decide_eq_true h
   rw[len] at h;have m0:=cJ (i:Int) (show (ns.length:Int)≠0 by omega);have m1:=cx (i:Int) h;obtain⟨j,ej⟩:=bB m0;have hj:j<ns.length:=by omega
   have U:XO (ns.map V.int) (j:Int)=some (.int (ns[j])):=ZO (by rw[Zc,Zf hj];rfl);refine⟨_,rfl,_,rfl,_,rfl,a,_,rfl,.inl M,?_⟩;rw[len];refine⟨_,_,rfl,rfl,h,?_⟩;dsimp only;rw[ej];refine⟨a,_,_,_,rfl,rfl,M,U,_,rfl,_,rfl,a,_,rfl,.inl M,?_⟩;rw[len];refine⟨_,_,rfl,rfl,⟨h,by omega⟩,_,_,rfl,rfl,?_⟩;intro p J;refine⟨_,rfl,_,rfl,_,_,rfl,rfl,⟨by decide,by decide,by decide⟩,_,_,rfl,rfl,_,_,rfl,Zt,tpK (ns[j]+(i:Int) / (ns.length:Int)) (if (ns[j]+(i:Int) / (ns.length:Int))-10 ^ (18:Int).toNat > 0 then (ns[j]+(i:Int) / (ns.length:Int))-10 ^ (18:Int).toNat else 0) 0,rfl,(show 3<=15 by decide),?_⟩
   refine q p _ (Same.upd2 J) J ⟨_,_,0,Zt,?_,by decide,by decide⟩;split <;> omega
  ·generalize (i:Int)=c
   intro p J;refine⟨_,rfl,_,rfl,_,_,rfl,rfl,⟨by decide,by decide,by decide⟩,_,_,rfl,rfl,_,_,rfl,Zt,tpK c (if c-10 ^ (18:Int).toNat > 0 then c-10 ^ (18:Int).toNat else 0) 0,rfl,(show 3<=15 by decide),?_⟩
   refine q p _ (Same.upd2 J) J ⟨_,_,0,Zt,?_,by decide,by decide⟩;split <;> omega
end
end C39
namespace Tb
noncomputable def ZI (t:List (List Nat))(a b:Nat):Nat:=(t.getD a []).getD b 0
noncomputable def it (t:List (List Nat))(a:Nat):Nat->Nat
 |0=>0
 |k+1=>ZI t (it t a k) a
structure Rd (t:List (List Nat))(a r:Nat):Prop where
 r1:1<=r
 rn:r<=t.length
 dv:t.length % r=0
 z:it t a r=0
 nz:∀k,1<=k->k<r->it t a k≠0
 bk:ZI t a (it t a (r-1))=0
 un:∀b,b<t.length->ZI t a b=0->b=it t a (r-1)
structure PW (t:List (List Nat)):Prop where
 n1:1<=t.length
 n60:t.length<=60
 len:∀row∈t,row.length=t.length
 lt:∀a b,a<t.length->b<t.length->ZI t a b<t.length
 one:∀a,a<t.length->ZI t 0 a=a
 rd:∀a,a<t.length->∃r,Rd t a r
 oneR:∀a,a<t.length->ZI t a 0=a
 ass:∀a b c,a<t.length->b<t.length->c<t.length->ZI t (ZI t a b) c=ZI t a (ZI t b c)
section
variable {t:List (List Nat)}{a r:Nat}
theorem Wa (P:PW t)(j:a<t.length):∀k,it t a k<t.length
 |0=>P.n1
 |k+1=>P.lt _ _ (Wa P j k) j
theorem ZdA (P:PW t)(j:a<t.length):it t a 1=a:=P.one a j
theorem Zmy (R:Rd t a r)(k:Nat):it t a (r+k)=it t a k:=by
 induction k with
 |zero=>exact R.z
 |succ k j=>rw[Nat.add_succ,it,it,j]
theorem X5 (R:Rd t a r)(k:Nat):it t a k=it t a (k % r):=by
 have q:=R.r1;induction k using Nat.strongRecOn with
 |_ k j=>
  by_cases h:k<r
  ·rw[bK h]
  ·have e:k=r+(k-r):=by omega
   rw[mU (by omega),<-j (k-r) (by omega),<-Zmy R (k-r),<-e]
end
noncomputable def rdB (t:List (List Nat))(n a:Nat):Nat->Nat->Nat->Bool
 |0,_,_=>false
 |f+1,k,prev=>
  let x:=ZI t prev a
  match x with
  |0=>decide (n % (k+1)=0) && decide (k+1<=n) && decide (ZI t a prev=0) && ((ac n).all fun b=>decide (b=prev) || !decide (ZI t a b=0))
  |y+1=>rdB t n a f (k+1) (y+1)
noncomputable def fq1 {β:Type}(m:Nat)(k:Nat->β):β:=match m with
 |0=>k 0
 |m+1=>k (m+1)
theorem Zid {β:Type}(m:Nat)(k:Nat->β):fq1 m k=k m:=by cases m <;> rfl
noncomputable def fql {β:Type}:List Nat->(List Nat->β)->β
 | [],k=>k []
 |x::j,k=>fq1 x fun y=>fql j fun q=>k (y::q)
theorem Zbh {β:Type}:∀(a:List Nat) (k:List Nat->β),fql a k=k a
 | [],k=>rfl
 |x::j,k=>by rw[fql,Zid,Zbh j]
noncomputable def Zm4 (ZG:List Nat)(y:Nat):List Nat:=if ZG.contains y then ZG else ZG++[y]
noncomputable def Zgg (t:List (List Nat))(gens:List Nat):Nat->Nat->List Nat->List Nat
 |0,_,ZG=>ZG
 |f+1,i,ZG=>match ZG[i]? with
  |none=>ZG
  |some x=>fql (gens.foldl (fun ZG g=>fq1 (ZI t x g) fun y=>Zm4 ZG y) ZG) fun ZG=>Zgg t gens f (i+1) ZG
noncomputable def ZeW (t:List (List Nat)):Nat->Nat->List Nat->List Nat->List Nat
 |0,_,gens,_=>gens
 |f+1,a,gens,ZG=>if ZG.contains a then ZeW t f (a+1) gens ZG else fql (Zgg t (gens++[a]) t.length 0 [0]) fun ZG=>ZeW t f (a+1) (gens++[a]) ZG
noncomputable def liB (t:List (List Nat))(g:Nat):Bool:=decide (g<t.length) && t.all fun j=>(t.getD (j.getD g 0) [] == (t.getD g []).map fun c=>j.getD c 0)
noncomputable def asG (t:List (List Nat))(gens:List Nat):Bool:=gens.all (liB t) && fql (Zgg t gens t.length 0 [0]) fun ZG=>(ac t.length).all fun a=>ZG.contains a
noncomputable def asB (t:List (List Nat)):Bool:=fql (ZeW t t.length 0 [] [0]) (asG t)
noncomputable def Zoe (t:List (List Nat)):Bool:=decide (1<=t.length) && decide (t.length<=60) && (t.all fun row=>decide (row.length=t.length) && row.all fun x=>decide (x<t.length)) && ((ac t.length).all fun a=>decide (ZI t 0 a=a) && rdB t t.length a t.length 0 0)
noncomputable def pwB (t:List (List Nat)):Bool:=Zoe t && ((ac t.length).all fun a=>decide (ZI t a 0=a)) && asB t
noncomputable def Pr (t:List (List Nat))(a:Nat):Prop:=a<t.length/\∀x y,x<t.length->y<t.length->ZI t (ZI t x a) y=ZI t x (ZI t a y)
theorem Zoq {t:List (List Nat)}(U:∀row∈t,row.length=t.length){g:Nat}(h:liB t g=true):Pr t g:=by
 unfold liB at h;simp only[aD,ag,beq_iff_eq,decide_eq_true_eq] at h;obtain⟨q,h⟩:=h;refine⟨q,fun x y M hy=>?_⟩;have Y:t.getD x []∈t:=by
  rw[Zb,Zf M];exact bg M
 have J:t.getD g []∈t:=by
  rw[Zb,Zf q];exact bg q
 have h1:=h _ Y;unfold ZI;rw[h1];have n4:=U _ J;generalize t.getD g []=O at *;have j:y<O.length:=by omega
 rw[Zb,Zc,Zf j,Zb (l:=O),Zf j];rfl
theorem Pr.times {t:List (List Nat)}(lt:∀a b,a<t.length->b<t.length->ZI t a b<t.length){a g:Nat}(j:Pr t a)(q:Pr t g):Pr t (ZI t a g):=by
 refine⟨lt _ _ j.1 q.1,fun x y J M=>?_⟩;rw[<-j.2 x g J q.1,q.2 _ y (lt _ _ J j.1) M,j.2 x _ J (lt _ _ q.1 M),q.2 a y j.1 M]
theorem Zfb {t:List (List Nat)}(lt:∀a b,a<t.length->b<t.length->ZI t a b<t.length){gens:List Nat}(hg:∀g∈gens,Pr t g):∀(f i:Nat) (ZG:List Nat),(∀a∈ZG,Pr t a)->∀a∈Zgg t gens f i ZG,Pr t a
 |0,i,ZG,h=>by unfold Zgg;exact h
 |f+1,i,ZG,h=>by
  unfold Zgg;split
  ·exact h
  ·rename_i x hx
   rw[Zbh];refine Zfb lt hg f (i+1) _ ?_;have O:=h x (av hx);have U:∀(J ZG:List Nat),(∀g∈J,Pr t g)->(∀a∈ZG,Pr t a)->∀a∈J.foldl (fun ZG g=>fq1 (ZI t x g) fun y=>Zm4 ZG y) ZG,Pr t a:=fun J=>by
    induction J with
    |nil=>intro ZG _ h;exact h
    |cons g J ih=>
     intro ZG M q;rw[jM];refine ih _ (fun g' Y=>M g' (aH _ Y)) fun a j=>?_;rw[Zid] at j;unfold Zm4 at j;split at j
     ·exact q a j
     ·rcases bH.mp j with j|j
      ·exact q a j
      ·rw[aQ.mp j]
       exact O.times lt (M g aE)
   exact U gens ZG hg h
theorem Zm0 {t:List (List Nat)}(n1:1<=t.length)(O:∀row∈t,row.length=t.length)(lt:∀a b,a<t.length->b<t.length->ZI t a b<t.length)(one:∀a,a<t.length->ZI t 0 a=a)(j:∀a,a<t.length->ZI t a 0=a)(h:asB t=true):∀a b c,a<t.length->b<t.length->c<t.length->ZI t (ZI t a b) c=ZI t a (ZI t b c):=by
 intro a b c q hb U;unfold asB at h;rw[Zbh] at h;generalize ZeW t t.length 0 [] [0]=M at h;unfold asG at h;rw[Zbh,ag,aD,aD] at h;have Y:Pr t 0:=⟨by omega,fun x y hx hy=>by rw[j x hx,one y hy]⟩;have J:=Zfb lt (fun g hg=>Zoq O (h.1 g hg)) t.length 0 [0] (fun a q=>by rw[aQ.mp q];exact Y) b (aA.mp (h.2 b (af.mpr hb)));exact J.2 a c q U
theorem Zhc {t:List (List Nat)}{a:Nat}:∀(f k prev:Nat),prev=it t a k->(∀j,1<=j->j<=k->it t a j≠0)->rdB t t.length a f k prev=true->∃r,Rd t a r
 |0,k,prev,_,_,h=>by cases h
 |f+1,k,prev,e,M,h=>by
  unfold rdB at h;have ex:it t a (k+1)=ZI t prev a:=by rw[it,e]
  cases q:ZI t prev a with
  |zero=>
   simp only[q,ag,decide_eq_true_eq,aD,aZ,gC,decide_eq_false_iff_not] at h;obtain⟨⟨⟨O,U⟩,Y⟩,h4⟩:=h;refine⟨k+1,by omega,U,O,by rw[ex,q],fun j J jk=>M j J (by omega),by rw[dP,<-e];exact Y,fun b hb hm=>?_⟩;rw[dP,<-e];exact (h4 b (af.mpr hb)).resolve_right fun z=>z hm
  |succ y=>
   simp only[q] at h;refine Zhc f (k+1) (y+1) (by rw[ex,q]) (fun j J jk=>?_) h;by_cases ej:j=k+1
   ·rw[ej,ex,q]
    exact jB _
   ·exact M j J (by omega)
theorem ZlT {t:List (List Nat)}(h:pwB t=true):PW t:=by
 unfold pwB at h;rw[ag,ag] at h;obtain⟨⟨h,M⟩,O⟩:=h;unfold Zoe at h;simp only[ag,decide_eq_true_eq,aD] at h;obtain⟨⟨⟨h1,h2⟩,U⟩,h4⟩:=h;have lt:∀a b,a<t.length->b<t.length->ZI t a b<t.length:=fun a b q hb=>by
  unfold ZI;have hm:t.getD a []∈t:=by
   rw[Zb,Zf q];exact bg q
  obtain⟨hl,hx⟩:=U _ hm;generalize t.getD a []=row at *;have J:b<row.length:=by omega
  refine hx _ ?_;rw[Zb,Zf J];exact bg J
 have oneR:∀a,a<t.length->ZI t a 0=a:=fun a q=>of_decide_eq_true (aD.mp M a (af.mpr q));have one:∀a,a<t.length->ZI t 0 a=a:=fun a q=>(h4 a (af.mpr q)).1;refine⟨h1,h2,fun row Y=>(U row Y).1,lt,one,fun a q=>?_,oneR,Zm0 h1 (fun row Y=>(U row Y).1) lt one oneR O⟩
 ·exact Zhc _ 0 0 rfl (fun j j1 j0=>by omega) (h4 a (af.mpr q)).2
noncomputable def pos (o:List Nat)(v:Nat):Nat:=o.findIdx (· == v)
noncomputable def ren (t:List (List Nat))(o:List Nat):List (List Nat):=o.map fun a=>o.map fun b=>pos o (ZI t a b)
structure Ord (n:Nat)(o:List Nat):Prop where
 len:o.length=n
 nd:o.Nodup
 all:∀v,v<n->v∈o
 lt:∀v∈o,v<n
 z:o.getD 0 0=0
section
variable {t:List (List Nat)}{o:List Nat}
theorem Jl {o:List Nat}{i:Nat}(h:i<o.length):o[i]?=some (o.getD i 0):=by
 rw[Zb,Zf h];rfl
theorem YM {n v:Nat}(O:Ord n o)(q:v<n):pos o v<n/\o.getD (pos o v) 0=v:=by
 have hm:=O.all v q;have j:o.findIdx (· == v)<o.length:=ja ⟨v,hm,by simp⟩;refine⟨by rw[<-O.len];exact j,?_⟩;have J:=iD (w:=j);have M:o[o.findIdx (· == v)]=v:=by simpa using J
 unfold pos;rw[Zb,Zf j];exact M
theorem inj {n i j:Nat}(O:Ord n o)(q:i<n)(M:j<n)(e:o.getD i 0=o.getD j 0):i=j:=by
 have J:=Jl (o:=o) (i:=i) (by rw[O.len];exact q);have U:=Jl (o:=o) (i:=j) (by rw[O.len];exact M);rw[e] at J;exact (mW (by rw[O.len];exact q) O.nd).mp (J.trans U.symm)
theorem Yl {n i:Nat}(O:Ord n o)(j:i<n):o.getD i 0<n:=O.lt _ (av (Jl (by rw[O.len];exact j)))
theorem VD:(ren t o).length=o.length:=by unfold ren;rw[Za]
theorem Za2 {n i j:Nat}(O:Ord n o)(q:i<n)(J:j<n):ZI (ren t o) i j=pos o (ZI t (o.getD i 0) (o.getD j 0)):=by
 unfold ZI ren;have M:=Jl (o:=o) (i:=i) (by rw[O.len];exact q);have U:=Jl (o:=o) (i:=j) (by rw[O.len];exact J);rw[Zb (l:=o.map _),Zc,M];show (o.map fun b=>pos o ((t.getD (o.getD i 0) []).getD b 0)).getD j 0=_;rw[Zb,Zc,U];rfl
theorem Jf (P:PW t)(O:Ord t.length o):PW (ren t o):=by
 have L:(ren t o).length=t.length:=by rw[VD,O.len]
 have back:∀i j,i<t.length->j<t.length->o.getD (ZI (ren t o) i j) 0=ZI t (o.getD i 0) (o.getD j 0):=fun i j Y hj=>by
  rw[Za2 O Y hj];exact (YM O (P.lt _ _ (Yl O Y) (Yl O hj))).2
 have lt:∀i j,i<t.length->j<t.length->ZI (ren t o) i j<t.length:=fun i j Y hj=>by
  rw[Za2 O Y hj];exact (YM O (P.lt _ _ (Yl O Y) (Yl O hj))).1
 have n1:=P.n1;have M:∀a,a<t.length->∀k,it (ren t o) a k<t.length/\o.getD (it (ren t o) a k) 0=it t (o.getD a 0) k:=fun a ha k=>by
  induction k with
  |zero=>exact⟨n1,O.z⟩
  |succ k ih=>
   rw[it,it];exact⟨lt _ _ ih.1 ha,by rw[back _ _ ih.1 ha,ih.2]⟩
 have zz:∀i,i<t.length->(i=0↔o.getD i 0=0):=fun i Y=>by
  constructor
  ·intro e;rw[e,O.z]
  ·intro e;exact inj O Y n1 (by rw[e,O.z])
 refine⟨by omega,by have:=P.n60;omega,fun row hr=>?_,fun a b ha hb=>by rw[L];exact lt a b (by omega) (by omega),fun a ha=>?_,fun a ha=>?_,fun a ha=>?_,fun a b c ha hb hc=>?_⟩
 ·unfold ren at hr
  obtain⟨a,_,rfl⟩:=aN.mp hr;rw[Za,VD]
 ·refine inj O (lt 0 a n1 (by omega)) (by omega) ?_
  rw[back 0 a n1 (by omega),O.z,P.one _ (Yl O (by omega))]
 ·have q:a<t.length:=by omega
  obtain⟨r,R⟩:=P.rd _ (Yl O q);have n4:∀k,it (ren t o) a k=0↔it t (o.getD a 0) k=0:=fun k=>by
   rw[zz _ (M a q k).1,(M a q k).2]
  refine⟨r,R.r1,by rw[L];exact R.rn,by rw[L];exact R.dv,(n4 r).mpr R.z,fun k k1 kr z=>R.nz k k1 kr ((n4 k).mp z),?_,fun b hb hm=>?_⟩
  ·refine (zz _ (lt _ _ q (M a q _).1)).mpr ?_
   rw[back _ _ q (M a q _).1,(M a q _).2];exact R.bk
  ·have J:b<t.length:=by omega
   refine inj O J (M a q _).1 ?_;rw[(M a q _).2];refine R.un _ (Yl O J) ?_;rw[<-back a b q J,hm,O.z]
 ·refine inj O (lt a 0 (by omega) n1) (by omega) ?_
  rw[back a 0 (by omega) n1,O.z,P.oneR _ (Yl O (by omega))]
 ·have q:a<t.length:=by omega
  have J:b<t.length:=by omega
  have U:c<t.length:=by omega
  refine inj O (lt _ _ (lt _ _ q J) U) (lt _ _ q (lt _ _ J U)) ?_;rw[back _ _ (lt _ _ q J) U,back _ _ q J,back _ _ q (lt _ _ J U),back _ _ J U];exact P.ass _ _ _ (Yl O q) (Yl O J) (Yl O U)
end
noncomputable def upTo (r st:Nat):Nat->Nat->Nat
 |0,f=>f
 |k+1,f=>if f % r=0 then f else upTo r st k (f+st)
theorem U0 {r st B:Nat}(j:1<=st)(Y:B % r=0)(q:B % st=0):∀(k f:Nat),f % st=0->f<=B->B-f<k*st->(∀x,x % st=0->x % r=0->1<=x->x<f->False)->upTo r st k f % r=0/\upTo r st k f % st=0/\f<=upTo r st k f/\upTo r st k f<=B/\(∀x,x % st=0->x % r=0->1<=x->x<upTo r st k f->False)
 |0,f,J,M,O,_=>by rw[f7] at O;omega
 |k+1,f,J,M,O,h4=>by
  unfold upTo;by_cases h:f % r=0
  ·rw[if_pos h]
   exact⟨h,J,Zq _,M,h4⟩
  ·rw[if_neg h]
   have fB:f≠B:=fun z=>h (z▸Y);obtain⟨u,rfl⟩:=be J;obtain⟨v,rfl⟩:=be q;have uv:u<v:=kB (fm M fB);have h5:st*u+st<=st*v:=by
    have:=fX st (show u+1<=v by omega);rw[jG,iI] at this;exact this
   have:=U0 j Y q k (st*u+st) (by rw[no,Nat.mul_mod_right]) h5 (by rw[cy] at O;omega) fun x x1 U x3 x4=>?_
   ·exact⟨this.1,this.2.1,by omega,this.2.2.2.1,this.2.2.2.2⟩
   ·by_cases hx:x<st*u
    ·exact h4 x x1 U x3 hx
    ·obtain⟨y,rfl⟩:=be x1
     have y1:u<=y:=Nat.le_of_mul_le_mul_left (by omega) j;have y2:y<u+1:=kB (a:=st) (by rw[jG,iI];exact x4);have:y=u:=by omega
     rw[this] at U;exact h U
theorem Za3 {x d r:Nat}(q:x % r=0)(hd:d % r=0):x % d % r=0:=by
 have J:=Nat.mod_add_div x d;have M:(d*(x / d)) % r=0:=by rw[Nat.mul_mod,hd,f7,Nat.zero_mod]
 have j:(x % d+d*(x / d)) % r=0:=by rw[J];exact q
 rw[Nat.add_mod,M,ik,Nat.mod_mod] at j;exact j
structure Lc (rs:Nat->Nat)(i f:Nat):Prop where
 f1:1<=f
 dv:∀a,a<i->f % rs a=0
 mn:∀x,(∀a,a<i->x % rs a=0)->x % f=0
theorem Lc.step {rs:Nat->Nat}{i f B:Nat}(L:Lc rs i f)(hB:1<=B)(j:∀a,a<i+1->B % rs a=0){k:Nat}(hk:B<k):Lc rs (i+1) (upTo (rs i) f k f):=by
 have q:B % f=0:=L.mn B fun a J=>j a (by omega);have M:=L.f1;have fB:f<=B:=gR (by omega) (be q);obtain⟨O,U,h3,h4,h5⟩:=U0 (r:=rs i) M (j i (by omega)) q k f (Nat.mod_self f) fB (by
  have:k*1<=k*f:=fX k M;omega) fun x x1 x2 x3 x4=>by
   have:=gR (by omega) (be x1);omega
 refine⟨by omega,fun a J=>?_,fun x Y=>?_⟩
 ·by_cases e:a=i
  ·rw[e];exact O
  ·have:=L.dv a (by omega)
   obtain⟨u,hu⟩:=be U;rw[hu,Nat.mul_mod,this,f7,Nat.zero_mod]
 ·have xf:x % f=0:=L.mn x fun a J=>Y a (by omega)
  apply am;intro z;exact h5 (x % upTo (rs i) f k f) (Za3 xf U) (Za3 (Y i (by omega)) O) (by omega) (cm _ (by omega))
end Tb
namespace L2
open PySem PySem.Spec PyProof.Rows
section
variable {X:Cx}
noncomputable def Zn7 (K:ab)(neg:Bool):R2:=fun x y H Q=>∃p J q j,y=.ref p/\(Wr K H p J\/WM K H p J)/\Wq K H J q/\UX K H x j/\cF q=true/\j.canLay0=true/\j.depth<=60/\Q (.bl (if neg then !(q.any fun y=>y.eqv j) else q.any fun y=>y.eqv j)) H
theorem Zfy (hu:X.A.units+64<cLine):Xb X (compareOp .NotIn) (Zn7 X.K true):=by
 intro U s σ H x y v u Q I rx ry h;obtain⟨p,xs,ds,dx,rfl,j,Y,hd,M,c2,dp,q⟩:=h;cases ry;obtain⟨bs,r1⟩:=I.reads hd rx;rcases j with j|j
 ·obtain⟨O,r,pl,hz⟩:=I.list j
  obtain⟨as,J⟩:=I.readsAll Y r;refine mf _ pl.isList (mR (by simpa using J) r1 M c2 (by omega)) ⟨.bl _,H,I,rfl,?_⟩;rw[mB (by simpa using J) M];exact q
 ·obtain⟨O,r,pl,hz⟩:=I.tuple j
  obtain⟨as,J⟩:=I.readsAll Y r;refine lR _ pl (mR (by simpa using J) r1 M c2 (by omega)) ⟨.bl _,H,I,rfl,?_⟩;rw[mB (by simpa using J) M];exact q
theorem Zok (K:ab)(j:X.A.units+64<cLine)(q:X.K=K:=by rfl):Xb X (compareOp .NotIn) (Zn7 K true):=q▸Zfy j
end
theorem Vq:∀ns:List Int,cF (ns.map aO)=true
 | []=>rfl
 |n::ns=>by
  show (d0 (.int n) && cF (ns.map aO))=true;rw[Vq ns];rfl
theorem Jn (ns:List Int):d0 (.tuple (ns.map aO))=true:=Vq ns
theorem Ut:∀ns:List Int,bO (ns.map aO)<=1
 | []=>by decide
 |n::ns=>by
  have:=Ut ns;show max (cW (.int n)) (bO (ns.map aO))<=1;have e:cW (.int n)<=1:=by simp[cW]
  omega
end L2
namespace L2
open PySem
theorem JS (ns:List Int):cW (.tuple (ns.map aO))<=60:=by
 have:=Ut ns;show bO (ns.map aO)+1<=60;omega
end L2
namespace PyZ
open PySem
theorem UP (l:Addr)(q:Array Value)(x:Value)(e:Value->Bool)(j:Nat)(hj:j<q.size)(M:e q[j]=true)(O:∀(m:Nat) (hm:m<q.size),m<j->e q[m]=false) :
  mC (cH.«tuple.index» {pos:=[aI l,x]}) fun A R s=>
   s.heap.IsTuple l q/\(∀(y:Value),y∈q->lB A.in1 s y x (e y))/\
    R (Except.ok (Flow.ret (gM (↑j) s.toks))) {heap:=s.heap,gens:=s.gens,drawn:=s.drawn,toks:=s.toks+1,os:=s.os}:=by
 intro n6 w A R s h;obtain⟨hl,he,h⟩:=h;obtain⟨oa,ha,_,na,da⟩:=hl;unfold cH.«tuple.index»;refine Zl ?_;show wpAny _ _ (pure (aI l,[x])) _ _ s;refine Zm ?_;show wpAny _ _ (fJ (aI l) >>= _) _ _ s;refine Zl ?_;unfold fJ;refine Zl (cp ha da ?_);refine Zm ?_;show wpAny _ _ (pure 0 >>= _) _ _ s;refine Zl (Zm ?_);show wpAny _ _ (pure q.size >>= _) _ _ s;refine Zl (Zm ?_);refine Zl ?_;rw[lJ,Std.Legacy.Range.forIn_eq_forIn_range'];have U:(dI ([0:q.size]:iK).start ([0:q.size]:iK).size ([0:q.size]:iK).step)=dI 0 q.size:=by
  show dI 0 ((q.size-0+1-1) / 1) 1=_;rw[Nat.div_one,fF,dP]
 rw[U];refine wpAny_forIn_list _ (fun rest b Y=>Y=s/\b=(none,())/\∃k,rest=dI k (q.size-k)/\k<=j) _ ?_ ?_ _ _ ⟨rfl,rfl,0,rfl,aX _⟩
 ·rintro i rest b Y ⟨rfl,rfl,k,J,hk⟩
  have hs:q.size-k=(q.size-(k+1))+1:=by omega
  rw[hs,eO] at J;obtain⟨rfl,rfl⟩:=List.cons.inj J;have hi:i<q.size:=by omega
  rw[aP hi];show wpAny _ _ (eqBool q[i] x >>= _) _ _ _;refine Zl (he q[i] (Array.getElem_mem hi) _ _ _ _ ?_);by_cases n4:i=j
  ·subst n4
   rw[M,if_pos rfl];refine Zl ?_;unfold retInt;refine Zl (wpAny_mkInt ?_);refine Zm ?_;refine Zm ?_;show wpAny _ _ (pure _) _ _ _;exact Zm h
  ·rw[O i hi (by omega),if_neg aG]
   refine Zm ?_;exact⟨rfl,rfl,i+1,rfl,by omega⟩
 ·rintro b Y ⟨rfl,rfl,k,J,hk⟩
  have:q.size-k=0:=by
   have:=congrArg c9 J;rw[List.length_range'] at this;exact this.symm
  omega
end PyZ
namespace L2
open PySem PySem.Spec PyProof.Rows
section
variable {X:Cx}
noncomputable def Zk5 (K:ab):V->List V->Hp->VK->Prop:=fun x q H Q=>∃p xs y,∃j:Nat,x=.ref p/\q=[y]/\WM K H p xs/\WR y=true/\xs.all WR=true/\j<xs.length/\(∀z,xs[j]?=some z->eqV z y=true)/\(∀m z,m<j->xs[m]?=some z->eqV z y=false)/\Q (.int j) H
theorem ZfH:MtR X "tuple.index" (Zk5 X.K):=by
 intro o5 s σ H x vs v us Q I rx rv h;obtain⟨p,xs,y,j,rfl,rfl,hq,fy,fs,hj,h1,h2,q⟩:=h;cases rx;obtain⟨u,rfl,ru⟩:=rv.one;obtain⟨J,r,pl,hz⟩:=I.tuple hq;have hl:=r.length;have M:∀(m:Nat) (z:V),xs[m]?=some z->WR z=true:=fun m z hm=>aD.mp fs z (av hm);have eu:∀(m:Nat) (hm:m<J.toArray.size),∃z,xs[m]?=some z/\UT y J.toArray[m]=eqV z y:=fun m hm=>by
  have O:m<xs.length:=by rw[hl];simpa using hm
  obtain⟨w,hw,n6⟩:=r.get (Zf O);have n8:J.toArray[m]=w:=by
   have:=(ae.mp hw).2;simpa using this
  exact⟨_,Zf O,by rw[n8];exact Zbj n6 (M m _ (Zf O))⟩
 have n4:j<J.toArray.size:=by rw[Zh,<-hl];exact hj
 have n9:s.TypeIs (.ref p) "tuple":=ni pl;refine dC gX n9 F.entry_tuple_index (F.args_tuple_index_2 _ _) (PyZ.UP p J.toArray u (UT y) j n4 ?_ ?_) ⟨pl,fun w hw=>WJ ru fy r fs w (by simpa using hw),?_⟩
 ·obtain⟨z,U,Y⟩:=eu j n4
  rw[Y];exact h1 z U
 ·intro m hm o0
  obtain⟨z,U,Y⟩:=eu m hm;rw[Y];exact h2 m z o0 U
 ·exact⟨.int j,H,I.kept (t':=s.toks+1) fun b o e=>e,⟨_,rfl⟩,q⟩
theorem ZnC (K:ab)(j:X.K=K:=by rfl):MtR X "tuple.index" (Zk5 K):=j▸ZfH
end
end L2
namespace PyZ
open PySem PyProof PyProof.Rows
noncomputable def Vu (n:Nat)(cmp:Nat->Nat->Bool){α:Type}:jS α->Option α
 | .ret a=>some a
 | .ask i j k=>if i<n/\j<n then Vu n cmp (k (cmp i j)) else none
theorem Zag {α:Type}{n:Nat}{cmp:Nat->Nat->Bool}{ask:Nat->Nat->(Bool->Shared->Prop)->Shared->Prop}{s:Shared}(h:∀i j C,i<n->j<n->C (cmp i j) s->ask i j C s):∀(t:jS α) (a:α) (Q:α->Shared->Prop),Vu n cmp t=some a->Q a s->W.KasT.kasWp ask t Q s
 | .ret b,a,Q,e,q=>by
  cases (ay e);exact q
 | .ask i j k,a,Q,e,q=>by
  rw[Vu] at e;by_cases J:i<n/\j<n
  ·rw[if_pos J] at e
   exact h i j _ J.1 J.2 (Zag h (k (cmp i j)) a Q e q)
  ·rw[if_neg J] at e
   cases e
noncomputable def Zdy (fin:Bool):List Int->List Int->Bool
 | [],_=>fin
 |_::_,[]=>fin
 |x::j,y::q=>if x=y then Zdy fin j q else decide (x<y)
noncomputable def ltB (xs ys:List Int):Bool:=Zdy (decide (xs.length<ys.length)) xs ys
section
variable {prog:Program}{w:World}{A:Around}{E:Value->Shared->Prop}{s:Shared}
noncomputable def Zf2 (h:Heap)(L:Addr):Heap:={h with objs:=h.objs.extract 0 L}
theorem XF {h:Heap}{L b:Addr}(hb:b<L):(Zf2 h L).get? b=h.get? b:=by
 unfold Zf2 Heap.get?;have:(h.objs.extract 0 L)[b]?=h.objs[b]?:=by
  rw[Array.getElem?_extract];by_cases j:b<h.objs.size
  ·simp only[fF,je]
   rw[if_pos (show b<min L h.objs.size from Nat.lt_min.mpr ⟨hb,j⟩)]
  ·rw[cK (jC j)]
   split <;> simp_all
 simp only[this]
theorem Zan {h:Heap}{L b:Addr}(hb:L<=b):(Zf2 h L).get? b=none:=by
 unfold Zf2 Heap.get?;have:(h.objs.extract 0 L)[b]?=none:=by
  apply cK;rw[mv];exact a5 (by rw[fF];exact jX ..) hb
 simp only[this]
noncomputable def Ye (h:Heap)(L:Addr):List (Addr×Obj):=(ac h.objs.size).filterMap fun a=>if L<a then (h.get? a).map fun o=>(a,o) else none
theorem Jj {h:Heap}{L:Addr}{p:Addr×Obj}:p∈Ye h L↔L<p.1/\h.get? p.1=some p.2:=by
 unfold Ye;rw[iT];constructor
 ·rintro⟨a,J,e⟩
  by_cases j:L<a
  ·rw[if_pos j] at e
   cases q:h.get? a with
   |none=>rw[q] at e;cases e
   |some o=>
    rw[q] at e;cases (ay e);exact⟨j,q⟩
  ·rw[if_neg j] at e
   cases e
 ·rintro⟨j,e⟩
  refine⟨p.1,af.mpr (Zp e),?_⟩;rw[if_pos j,e];rfl
end
end PyZ
namespace L2
open PySem PySem.Spec PyProof.Rows
theorem Z6.there {P:Program}{w:World}{H:Hp}{h:Heap}{a:Addr}{o:HO}(x:Z6 P w H h a o):∃j,h.get? a=some j:=by
 cases o with
 |lst J=>obtain⟨_,_,_,_,e⟩:=x;exact⟨_,e⟩
 |tup J=>obtain⟨_,_,_,j,e,_⟩:=x;exact⟨_,e⟩
 |dK q=>obtain⟨_,_,_,_,o,_,_,e,_⟩:=x;exact⟨_,e⟩
 |dT q=>obtain⟨_,_,_,_,o,_,_,e,_⟩:=x;exact⟨_,e⟩
 |set S n=>obtain⟨o,_,_,_,e,_⟩:=x;exact⟨_,e⟩
 |ins C M fs=>obtain⟨_,_,_,e,_⟩:=x;exact⟨_,e⟩
 |own y=>obtain⟨_,e⟩:=x;exact⟨_,e⟩
 |xd fs=>obtain⟨_,⟨_,_,_,e,_⟩,_⟩:=x;exact⟨_,e⟩
 |rng lo O=>obtain⟨_,_,_,e⟩:=x;exact⟨_,e⟩
 |frz j u=>obtain⟨e,_⟩:=x;exact⟨_,e⟩
 |tbl U=>exact⟨_,(show h.get? a=some _ from x)⟩
 |met f y=>exact⟨_,(show h.get? a=some _ from x)⟩
 |ext Y=>obtain⟨_,⟨_,e⟩,_⟩:=x;exact⟨_,e⟩
section
variable {X:Cx}{pins:List (Addr×Obj)}{σ:St}{H:Hp}{s:Shared}
theorem Inv.newL {D:Addr}{c:Nat}{h':Heap}{m:Str->Option Value}{ys:List V}{U:List Value}(I:Inv X pins σ H s)(hm:s.heap.Ns X.env.locals m)
  (hl:∀(i:Nat) (x:Str) (v:V),X.N[i]?=some x->σ[i]?=some (some v)->Vis X.env.scope x->∃u,RelV v u/\Look X.env s.heap m x u)
  (dn:s.heap.get? D=none) (dL:D≠X.env.locals) (kept:∀b o,b≠X.env.locals->s.heap.get? b=some o->h'.get? b=some o) (n9:h'.Ns X.env.locals m) (hz:ys.length<=sizeLine) (hv:ZK ys U) (hD:h'.get? D=some {cls:=.type "list",data:=.seq U.toArray c}) :
  Inv X pins σ (upd H D (.lst ys)) {s with heap:=h'}/\H D=none:=by
 have n4:H D=none:=by
  cases e:H D with
  |none=>rfl
  |some o=>
   obtain⟨ob,e2⟩:=(I.hok D o e).there;rw[dn] at e2;cases e2
 have Y:∀{b:Addr}{o:Obj},s.heap.get? b=some o->b≠D:=fun {b o} e z=>by rw[z,dn] at e;cases e
 have M:∀{b:Addr}{o:HO},H b=some o->b≠D:=fun {b o} e z=>by rw[z,n4] at e;cases e
 have n6:∀{b:Addr}{o:HO},H b=some o->b≠X.env.locals:=fun {b o} e z=>by rw[z,I.free] at e;cases e
 have bL:∀{b:Addr}{o:Obj},X.s₀.heap.get? b=some o->b≠X.env.locals:=fun {b o} e=>aB (aC (Zp e) I.ok.above);refine⟨⟨I.ok,I.os,I.bare,⟨fun b o e n hb O=>?_,fun b o e n hb O=>?_,fun b o e n O=>?_,fun b o e O=>?_,fun b xs e=>?_,fun b o u e=>?_,fun b ps e=>?_⟩,⟨m,n9,fun j y v e1 e2 e3=>?_⟩,fun y J e=>?_,?_,fun y J e=>?_,fun p hp=>?_,fun b ob e=>?_,I.len⟩,n4⟩
 ·exact kept b o (bL e) (I.base.keep b o e n hb O)
 ·obtain⟨sl,e1⟩:=I.base.slot b o e n hb O
  exact⟨sl,kept b _ (bL e) e1⟩
 ·obtain⟨o',e1⟩:=I.base.there b o e O
  rw[Zx (Y e1)];exact I.base.free b o e n O
 ·obtain⟨o',e1⟩:=I.base.there b o e O
  exact⟨o',kept b _ (bL e) e1⟩
 ·have:=I.base.tups b xs e
  rw[Zx (M this)];exact this
 ·have:=I.base.frzs b o u e
  rw[Zx (M this)];exact this
 ·obtain⟨n8,this⟩:=I.base.tbls b ps e
  exact⟨n8,by rw[Zx (M this)];exact this⟩
 ·obtain⟨u,r,q⟩:=hl j y v e1 e2 e3
  refine⟨u,r,?_⟩;rcases q with ⟨k,e⟩|⟨k,J,e,z⟩
  ·exact .inl ⟨k,e⟩
  ·obtain⟨o,g,rest⟩:=z
   exact .inr ⟨k,J,e,o,kept J o (I.cne y J e) g,rest⟩
 ·obtain⟨w',o,g,rest⟩:=I.cell y J e
  exact⟨w',o,kept J o (I.cne y J e) g,rest⟩
 ·rw[Zx (bJ dL)]
  exact I.free
 ·obtain⟨w',o,g,rest⟩:=I.cell y J e
  rw[Zx (Y g)];exact I.freeC y J e
 ·obtain⟨e,n,ne,nf,d⟩:=I.pin p hp
  exact⟨kept p.1 _ ne e,by rw[Zx (Y e)];exact n,ne,nf,d⟩
 ·by_cases hb:b=D
  ·subst hb
   rw[Zt] at e;cases (ay e);exact⟨hz,U,c,hv,hD⟩
  ·rw[Zx hb] at e
   refine (I.hok b ob e).stay (fun J w' hc q=>kept J w' ?_ q) (fun J q=>?_) fun J xs q=>?_
   ·rcases hc with rfl|hc
    ·exact n6 e
    ·exact n6 hc
   ·rw[Zx (M q)]
    exact q
   ·rw[Zx (M q)]
    exact q
theorem JK:∀{as:List Addr}{us:List Value},ZK (as.map V.ref) us->us=as.map aI
 | [],_,h=>by cases h;rfl
 |a::as,_,h=>by
  cases h with
  |cons r t=>rw[show _=aI a from r,JK t];rfl
theorem VN:∀{ns:List Int}{us:List Value},ZK (ns.map V.int) us->bP us ns
 | [],_,h=>by cases h;exact .nil
 |n::ns,_,h=>by
  cases h with
  |cons r t=>
   obtain⟨k,rfl⟩:=r;exact .cons n k (VN t)
theorem XW:∀as:List Addr,ZK (as.map V.ref) (as.map aI)
 | []=>.nil
 |a::as=>.cons rfl (XW as)
end
section
variable {X:Cx}
noncomputable def Tz (H:Hp)(a:Addr)(ys:List V):Prop:=∃o:Obj,H a=some (.frz o (.tup ys))/\o.cls=.type "tuple"/\o.dict=none
theorem Tz.sq {K:ab}{H:Hp}{a:Addr}{ys:List V}(h:Tz H a ys):WM K H a ys:=by
 obtain⟨o,h,_⟩:=h;exact .inl (.inr ⟨o,h⟩)
theorem Tz.mono {H j:Hp}{a:Addr}{ys:List V}(s:Same H j)(h:Tz H a ys):Tz j a ys:=by
 obtain⟨o,h,r⟩:=h;exact⟨o,s _ _ h,r⟩
theorem ZcP:Yo X (.type "tuple") (fun xs H Q=>∃p ys,xs=[.ref p]/\Wr X.K H p ys/\∀l O,H l=none->Same H O->Tz O l ys->Q (.ref l) O):=by
 intro j s U H xs us Q I r h;obtain⟨p,ys,rfl,hq,q⟩:=h;obtain⟨u,rfl,rx⟩:=vals1 r;cases rx;obtain⟨J,Y,pl,hz⟩:=I.list hq;have n4:=Y.length;refine call_tuple_list pl.isList (fun M kp=>?_) (by simp only[Zh] <;> omega)
 have I1:Inv X j U H {s with heap:=M}:=I.kept (t':=s.toks) kp;have hf:=I1.hok.fresh (Zq _);have I2:Inv X j U (upd H M.objs.size (.frz {cls:=.type "tuple",data:=.seq J.toArray} (.tup ys))) {s with heap:=M.push {cls:=.type "tuple",data:=.seq J.toArray}}:=
  I1.laid (t':=s.toks) (fun b o e=>Zn _ e) (Zq _) ⟨Zo _ rfl,hz,J,Y,gQ _ _⟩
 exact⟨.ref M.objs.size,_,I2,rfl,q _ _ hf (Same.upd hf) ⟨_,Zt,rfl,rfl⟩⟩
variable {o e:Expr}{es:List Expr}{to:TE}{t:TA}{name:Str}{apos cpos:Pos}{id:String}{r:V->List V->Hp->VK->Prop}
noncomputable def ZpF (r:V->List V->Hp->VK->Prop)(to:TE)(t:TA):TE:=fun j H Q=>to j H fun x q=>(∃p J,x=.ref p/\Tz q p J)/\t j q fun M O=>r x M O Q
theorem Zhm (pa:lC "tuple")(slot:Slot "tuple" name id)(U:typeOf (.builtin id)=pure (.type "method_descriptor"))(hm:MtR X id r)(ho:PE X o to)(ha:PA X (e::es) t)
  (J:attributeBase o name X.env (eval o X.env)=eval o X.env:=by rfl)
  (O:((backTo cpos (starEach (e::es) X.env)).all (fun x=>!x.1) && (backToKw cpos (keywordEach [] X.env)).all (fun x=>x.1.isSome)
   && decide ((e::es).length+([]:List Keyword).length+(if ([]:List Keyword).isEmpty then 0 else 1)<30))=true:=by rfl)
  (M:(apos.endLine == cpos.line)=true:=by rfl) (hs:starEach (e::es) X.env=(false,eval e X.env)::starEach es X.env:=by rfl) (q:(backTo cpos (starEach es X.env)).any (·.1)=false:=by rfl) :
  PE X (.Call (.Attribute o name apos) (e::es) [] cpos) (ZpF r to t):=by
 intro j s Y H Q I h;refine mJ J O M rfl (Yi (ho j s Y H _ I h) fun v s1 ⟨x,H1,I1,r1,ty,q1⟩=>?_);obtain⟨p,ys,rfl,ob,n4,hc,hd⟩:=ty;cases r1;obtain⟨eo,_⟩:=I1.hok p _ n4;refine⟨"tuple",id,pa,slot,U,⟨ob,eo,hc⟩,fun a e=>?_,?_⟩
 ·cases e
  exact⟨ob,eo,hd⟩
 have hA:=ha cpos j s1 Y H1 _ I1 q1;rw[hs] at hA ⊢;refine ft (by show (false || (backTo cpos (starEach es X.env)).any (·.1))=false;rw[q] <;> rfl) (iw ?_)
 exact Yi hA fun us s2 ⟨vs,H2,I2,r2,q2⟩=>hm j s2 Y H2 (.ref p) vs (.ref p) us Q I2 rfl r2 q2
end
end L2
namespace PyZ
open PySem PySem.Spec PyProof.Rows
section
variable {prog:Program}{w:World}{A:Around}{E:Value->Shared->Prop}{s:Shared}
theorem UV {R:List Value->Shared->Prop}{r:Addr}{a b c:Int}{t u v:Tok}{n:Nat}(hh:A.handled=none)(hr:IsRange s.heap r a b c t u v)(O:cw a b c=true)
  (hn:bf a b c=n) (Y:n<=2 ^ 24)
  (h:∀(h':Heap) (tk:Nat) (ZG:Array Value),(∀b o,s.heap.get? b=some o->h'.get? b=some o)->hG (fun i v=>∃t,v=.int (a+i*c) t) ZG n->R ZG.toList {s with heap:=h',toks:=tk}) :
  wpAny (model prog w) A (collect (.ref r)) R E s:=by
 unfold collect;refine Zl (lf (cM PySem.F.entry_proto_collect ?_));rw[bX jp _];show wpAny _ A.in1 (newList [] >>= fun l=>again (.builtin "list.__iadd__" ⟨[l,.ref r],[]⟩)) _ _ s;refine Zl (ba ?_);refine Zm ⟨fq eZ _,cM PySem.F.entry_list_iadd ?_⟩;rw[bX eZ _];have U:(s.heap.push {cls:=.type "list",data:=.seq ([]:List Value).toArray}).get? s.heap.objs.size=some {cls:=.type "list",data:=.seq #[]}:=Zo _ rfl;show wpAny _ A.in1 (dD (.ref s.heap.objs.size) (.ref r) (.ref s.heap.objs.size)) _ _ _;have n4:=wpAny_extend_range (prog:=prog) (w:=w) (A:=A) (s:={s with heap:=s.heap.push {cls:=.type "list",data:=.seq ([]:List Value).toArray}})
  (R:=fun (q:Result) (s':Shared)=>∃(h':Heap) (tk:Nat) (j:Array Value) (c':Nat),q=.ok (.ret (.ref s.heap.objs.size))/\s'={s with heap:=h',toks:=tk}/\
   (∀b o,s.heap.get? b=some o->h'.get? b=some o)/\h'.get? s.heap.objs.size=some {cls:=.type "list",dict:=none,data:=.seq j c',slots:=#[]}/\hG (fun i v=>∃t,v=.int (a+i*c) t) j n)
  hh (Zn _ hr) O hn Y s.heap.objs.size (.ref s.heap.objs.size) 0 U
  (fun h' tk j c' hk M J=>⟨h',tk,j,c',rfl,rfl,fun b o e=>hk b o (aB (Zp e)) (Zn _ e),M,J⟩)
 refine cD n4 (fun n6 s' x=>?_) fun e s' x=>?_
 ·cases n6 with
  |done f=>
   obtain⟨h',tk,j,c',e,rfl,hk,M,J⟩:=x;cases e;show wpAny _ A (load s.heap.objs.size >>= _) _ _ _;refine Zl (jt M ?_);exact Zm (h h' tk j hk J)
  |again n8=>
   refine⟨x.1,fO x.2 fun q n9 y=>?_⟩;obtain⟨h',tk,j,c',rfl,rfl,hk,M,J⟩:=y;show wpAny _ A (load s.heap.objs.size >>= _) _ _ _;refine Zl (jt M ?_);exact Zm (h h' tk j hk J)
 ·obtain⟨_,_,_,_,e',_⟩:=x
  cases e'
theorem JD {Q₁:Value->Shared->Prop}{r:Addr}{a b c:Int}{t u v:Tok}{n:Nat}(hh:A.handled=none)(Y:IsRange s.heap r a b c t u v)(j:cw a b c=true)
  (hn:bf a b c=n) (J:n<=2 ^ 24)
  (h:∀(h':Heap) (tk:Nat) (ZG:Array Value),(∀b o,s.heap.get? b=some o->h'.get? b=some o)->hG (fun i v=>∃t,v=.int (a+i*c) t) ZG n->
   Q₁ (.ref h'.objs.size) {s with heap:=h'.push {cls:=.type "tuple",data:=.seq ZG},toks:=tk}) :
  codeAny (model prog w) A (.call (.builtin "tuple.__new__") ⟨[.type "tuple",.ref r],[]⟩) (wants Q₁ E) s:=by
 refine kI ?_;show wpAny _ A.in1 (do checkBuiltinCall "tuple.__new__" ⟨[.type "tuple",.ref r],[]⟩;again (.builtin "tuple.__new__" ⟨[.type "tuple",.ref r],[]⟩)) _ _ s
 refine Zl (ki (PySem.F.newCall_tuple_1 _) (Zm ⟨fq (show plainId "tuple.__new__"=true by decide +kernel) _,cM PySem.F.entry_tuple_new ?_⟩));rw[bX (show plainId "tuple.__new__"=true by decide +kernel) _];have n4:=sub_tuple_self;have M:=init_tuple_lookup;have n6:=madeHere_tuple;have O:s.TypeIs (.ref r) "range":=⟨_,Y,rfl⟩;have U:n<=sizeLine:=by
  have:(16777216:Nat)=sizeLine:=by decide
  omega
 wp_walk using iE O,UV (A:=A.in1) hh Y j hn J
 intro h' tk ZG hm q;show wpAny _ _ (ck ZG.toList.toArray >>= fun v=>ret v) _ _ _;unfold ck;refine Zl (ba ?_ (by show ZG.toList.toArray.size<=sizeLine;simp only[lN];rw[q.1];exact U));refine Zm ?_;have e:ZG.toList.toArray=ZG:=by simp
 rw[e];exact h h' tk ZG hm q
theorem Vb {Q:Value->Shared->Prop}{r:Addr}{a b c:Int}{t u v:Tok}{n:Nat}(Y:A.handled=none)(hr:IsRange s.heap r a b c t u v)(J:cw a b c=true)
  (hn:bf a b c=n) (M:n<=2 ^ 24)
  (h:∀(h':Heap) (tk:Nat) (ZG:Array Value),(∀b o,s.heap.get? b=some o->h'.get? b=some o)->hG (fun i v=>∃t,v=.int (a+i*c) t) ZG n->
   Q (.ref h'.objs.size) {s with heap:=h'.push {cls:=.type "tuple",data:=.seq ZG},toks:=tk}) :
  wpAny (model prog w) A (call (.type "tuple") [.ref r]) Q E s:=by
 refine callType_codes (Q₁:=fun obj j=>j.TypeIs obj "tuple"/\Q obj j) ii (PySem.F.typeCall_tuple_1 _) PySem.F.entry_object_init
  (JD (A:=A.in1) Y hr J hn M fun h' tk ZG hk O=>⟨⟨_,Zo _ rfl,rfl⟩,h h' tk ZG hk O⟩) fun obj j q=>?_
 exact⟨q.1,kL obj _,object_init_meets ii.init.lookup ii.made (by decide) prog w A.in1 _ j ⟨q.1,rfl,q.2⟩⟩
end
end PyZ
namespace L2
open PySem PySem.Spec PyProof.Rows
section
variable {X:Cx}
theorem UG (hc:X.calm=true):Yo X (.type "tuple") (fun xs H Q=>∃(a:Addr) (lo hi:Int),xs=[.ref a]/\H a=some (.rng lo hi)/\(-(2 ^ 62)<=lo/\lo<2 ^ 62/\-(2 ^ 62)<=hi/\hi<2 ^ 62)/\(hi-lo).toNat<=sizeLine/\
  ∀l,H l=none->Q (.ref l) (upd H l (.tup ((YX lo (hi-lo).toNat).map V.int)))):=by
 intro j s O H xs us Q I r h;obtain⟨a,lo,hi,rfl,ha,⟨b1,b2,b3,b4⟩,U,q⟩:=h;obtain⟨u,rfl,ru⟩:=vals1 r;cases ru;obtain⟨t,u,v,e⟩:=(show ∃t u v,s.heap.get? a=some {cls:=.type "range",data:=.fields #[.int lo t,.int hi u,.int 1 v]} from I.hok a _ ha);refine PyZ.Vb (n:=(hi-lo).toNat) (I.ok.hd hc) e (small_one b1 b2 b3 b4) (by rw[rangeSize_one];split <;> omega) U fun J tk ZG hk M=>?_
 have Y:Inv X j O H {s with heap:=J,toks:=tk}:=I.kept (t':=tk) hk;have I2:Inv X j O (upd H J.objs.size (.tup ((YX lo (hi-lo).toNat).map V.int))) {s with heap:=J.push {cls:=.type "tuple",data:=.seq ZG},toks:=tk}:=
  Y.laid (t':=tk) (fun b o e=>Zn _ e) (Zq _) (show Z6 X.prog X.w _ _ _ (.tup ((YX lo (hi-lo).toNat).map V.int)) from ⟨by rw[Za,Yx];exact U,ZG.toList,Zfk M,by simpa using gQ _ _⟩)
 exact⟨.ref J.objs.size,_,I2,rfl,q _ (Y.hok.fresh (Zq _))⟩
end
end L2
namespace PyY
open PySem
open AutoSeq1 (wpAny_loadPart')
section
variable {prog:Program}{w:World}{A:Around}{E:Value->Shared->Prop}{s:Shared}
theorem Ue {j a:Addr}{k:Nat}{us:Array Value}{y:Value}{Q:Value->Shared->Prop}(c:s.heap.IsTupleIter j a k)(d:s.heap.IsTuple a us)(e:us[k]?=some y)
  (q:∀g,g.IsTupleIter j a (k+1)->bd j s.heap g->Q y {s with heap:=g}):wpAny (model prog w) A (a7 (.ref j)) Q E s:=by
 obtain⟨Y,J,cj,dj⟩:=id c;obtain⟨oa,O,_,na,U⟩:=d;unfold a7;refine Zl (bb (name:=cN "__next__") c.typeIs eQ (bm eQ c.typeIs kA ?_ (ke _)));show wpAny _ _ (field (.ref j) 0 >>= _) _ _ s;refine Zl (bu J dj (x:=.ref a) rfl ?_);show wpAny _ _ (if (aI a == bT)=true then _ else _) _ _ s
 rw[if_neg (show ¬((aI a == bT)=true) from aG)];show wpAny _ _ (field (.ref j) 1 >>= _) _ _ s;refine Zl (bu J dj (x:=.int k 0) rfl ?_);show wpAny _ _ (seqItems? (.ref a) >>= _) _ _ s;refine Zl (cp O U ?_);simp only[Zj,e];refine Zl (dN J dj (by simp) (Zm ⟨y,rfl,Zm (q _ ?_ (bD ..))⟩));refine⟨_,bx _ J (cV (bv dj _)),(gE ..).trans cj,?_⟩;rw[bv dj];simp[rawInt]
theorem U9 {j a:Addr}{k:Nat}{us:Array Value}{Q:Value->Shared->Prop}(U:A.handled=none)(c:s.heap.IsTupleIter j a k)(d:s.heap.IsTuple a us)(e:us[k]?=none)
  (q:∀g x,ix j s.heap g->(∃o,g.get? x=some o/\o.cls=.type "StopIteration")->E (.ref x) {s with heap:=g}):wpAny (model prog w) A (a7 (.ref j)) Q E s:=by
 obtain⟨oj,J,cj,dj⟩:=id c;obtain⟨oa,Y,_,na,da⟩:=d;unfold a7;refine Zl (bb (name:=cN "__next__") c.typeIs eQ (bm eQ c.typeIs kA ?_ (ke _)));show wpAny _ _ (field (.ref j) 0 >>= _) _ _ s;refine Zl (bu J dj (x:=.ref a) rfl ?_);show wpAny _ _ (if (aI a == bT)=true then _ else _) _ _ s
 rw[if_neg (show ¬((aI a == bT)=true) from aG)];show wpAny _ _ (field (.ref j) 1 >>= _) _ _ s;refine Zl (bu J dj (x:=.int k 0) rfl ?_);show wpAny _ _ (seqItems? (.ref a) >>= _) _ _ s;refine Zl (cp Y da ?_);simp only[Zj,e];refine Zl (eV (Zl (dN J dj (by simp) ?_)));show wpAny _ _ (newExc (.type "StopIteration") [] >>= _) _ _ {s with heap:=_};refine Zl ?_;unfold newExc newTuple;refine Zl (ba (Q:=_) ?_ (by size_fits));refine Zl (m:=firstArgMember _ _) (ki (a:=bT) (by first|rfl|(unfold firstArgMember;rfl)) ?_)
 refine ba (Q:=_) ?_ (by size_fits);unfold raiseNew;refine Zl (wpAny_handled ?_);have M:A.in1.handled=none:=U;rw[M];refine Zl (Zm (wpAny_throw (E:=E) ?_));exact q _ _ (((bD ..).extBut.push _).push _) ⟨_,Zo _ rfl,rfl⟩
theorem ZdG {n j a:Addr}{k:Nat}{us:Array Value}{y J:Value}{Q:Option Value->Shared->Prop}(b:gO s.heap n j k J)(c:s.heap.IsTupleIter j a k)(d:s.heap.IsTuple a us)(e:us[k]?=some y)(nj:n≠j)
  (q:∀g,IsEnumOut g n j ((k:Int)+1) y s.heap.objs.size->g.IsTupleIter j a (k+1)->g.get? s.heap.objs.size=some {cls:=.type "tuple",data:=.seq #[.int k s.toks,y]}->g.objs.size=s.heap.objs.size+1->
   (∀x o,x≠n->x≠j->s.heap.get? x=some o->g.get? x=some o)->Q (some (.ref s.heap.objs.size)) {s with heap:=g,toks:=s.toks+1}):wpAny (model prog w) A (pyNext (.ref n)) Q E s:=by
 have tn:s.TypeIs (.ref n) "enumerate":=⟨_,b,rfl⟩;unfold pyNext;refine Zl (eB (bb (name:=cN "__next__") tn fQ (bm fQ tn mh ?_ (lU _))));obtain⟨M,O,dr,tk,os⟩:=s;show wpAny _ _ (field (.ref n) 2 >>= _) _ _ _;refine Zl (bu b rfl (x:=.ref j) rfl ?_);refine Zl (Ue c d e fun U c1 s1=>?_);replace s1:bd j M U:=s1;have b1:gO U n j k J:=(s1.2 n nj).trans b;show wpAny _ _ (field (.ref n) 3 >>= _) _ _ ⟨U,O,dr,tk,os⟩;refine Zl (bu b1 rfl (x:=rawInt k) rfl ?_);show wpAny _ _ (field (.ref n) 4 >>= _) _ _ ⟨U,O,dr,tk,os⟩;refine Zl (bu b1 rfl (x:=.none) rfl ?_);show wpAny _ _ (mkInt k >>= _) _ _ ⟨U,O,dr,tk,os⟩;refine Zl (wpAny_mkInt ?_);show wpAny _ _ (setField (.ref n) 3 (rawInt ((k:Int)+1)) >>= _) _ _ ⟨U,O,dr,tk+1,os⟩;refine Zl (bI b1 (by simp) fun g2 b2 s2=>?_);replace s2:bd n U g2:=s2;replace b2:gO g2 n j ((k:Int)+1) J:=b2;show wpAny _ _ (setField (.ref n) 4 .none >>= _) _ _ ⟨g2,O,dr,tk+1,os⟩;refine Zl (bI b2 (by simp) fun Y b3 s3=>?_);replace s3:bd n g2 Y:=s3;replace b3:gO Y n j ((k:Int)+1) J:=b3;show wpAny _ _ (newTuple [.int k tk,y] >>= _) _ _ ⟨Y,O,dr,tk+1,os⟩;refine Zl (lh ?_);have b4:gO (Y.push {cls:=.type "tuple",data:=.seq #[.int k tk,y]}) n j ((k:Int)+1) J:=Zn _ b3;generalize z4:Y.push {cls:=.type "tuple",data:=.seq #[.int k tk,y]}=g4 at b4;have sz:Y.objs.size=M.objs.size:=by rw[s3.1,s2.1,s1.1]
 have nl:n<M.objs.size:=Zp b;have t4:g4.get? M.objs.size=some {cls:=.type "tuple",data:=.seq #[.int k tk,y]}:=by
  rw[<-z4,<-sz];exact Zo _ rfl
 have w4:g4.objs.size=M.objs.size+1:=by
  rw[<-z4,bo,sz]
 have k4:∀x o,x≠n->x≠j->M.get? x=some o->g4.get? x=some o:=fun x o xn xj hx=>by
  rw[<-z4];exact Zn _ (s3.extBut x o xn (s2.extBut x o xn (s1.extBut x o xj hx)))
 have c4:g4.IsTupleIter j a (k+1):=by
  obtain⟨o,ho,r⟩:=(c1.extBut s2.extBut (bJ nj)).extBut s3.extBut (bJ nj);rw[<-z4];exact⟨o,Zn _ ho,r⟩
 show wpAny _ _ (bq (.ref n) >>= _) _ _ ⟨g4,O,dr,tk+1,os⟩;rw[sz];clear z4 b3 s3 b2 s2 b1 s1 c1 sz Y g2 U;refine Zl ?_;unfold bq;refine Zl (bu b4 rfl (x:=.none) rfl (Zm ?_));rw[if_pos rfl];refine Zl (eV (Zl (bu b4 rfl (x:=J) rfl ?_)));refine Zl (bI b4 (by simp) fun g5 b5 s5=>?_);replace s5:bd n g4 g5:=s5;replace b5:gO g5 n j ((k:Int)+1) y:=b5;show wpAny _ _ (cn (.ref n) (.ref M.objs.size) >>= _) _ _ ⟨g5,O,dr,tk+1,os⟩;refine Zl ?_;unfold cn;refine Zl (bI b5 (by simp) fun g6 b6 s6=>?_);replace s6:bd n g5 g6:=s6;replace b6:IsEnumOut g6 n j ((k:Int)+1) y M.objs.size:=b6;refine bI b6 (by simp) fun g7 b7 s7=>?_;replace s7:bd n g6 g7:=s7;replace b7:IsEnumOut g7 n j ((k:Int)+1) y M.objs.size:=b7;refine Zl (km (Zm ⟨_,rfl,Zm (q g7 b7 ?_ ?_ ?_ ?_)⟩))
 ·exact ((c4.extBut s5.extBut (bJ nj)).extBut s6.extBut (bJ nj)).extBut s7.extBut (bJ nj)
 ·exact s7.extBut _ _ (bt nl) (s6.extBut _ _ (bt nl) (s5.extBut _ _ (bt nl) t4))
 ·rw[s7.1,s6.1,s5.1,w4]
 ·exact fun x o xn xj hx=>s7.extBut x o xn (s6.extBut x o xn (s5.extBut x o xn (k4 x o xn xj hx)))
theorem ZfW {n j a:Addr}{k:Nat}{us:Array Value}{old:Value}{Q:Option Value->Shared->Prop}(O:A.handled=none)(b:gO s.heap n j k old)(c:s.heap.IsTupleIter j a k)(d:s.heap.IsTuple a us)(e:us[k]?=none)
  (q:∀g,ix j s.heap g->Q none {s with heap:=g}):wpAny (model prog w) A (pyNext (.ref n)) Q E s:=by
 have J:s.TypeIs (.ref n) "enumerate":=⟨_,b,rfl⟩;unfold pyNext;refine Zl (eB (bb (name:=cN "__next__") J fQ (bm fQ J mh ?_ (lU _))));show wpAny _ _ (field (.ref n) 2 >>= _) _ _ _;refine Zl (bu b rfl (x:=.ref j) rfl ?_);refine Zl (U9 O c d e fun g x U Y=>?_);obtain⟨o,ho,hc⟩:=Y;refine Zl (iu (T:="StopIteration") (b:=true) ⟨o,ho,hc⟩ lu ?_);exact Zm (q _ U)
theorem ZfV (a:Addr)(q:Array Value)(n:Nat)(M:Option Addr)(O:Array (Option Value)) :
  mC (cH.«enumerate.__new__» ⟨[.type "enumerate",.ref a],[]⟩) (fun _ R s=>s.heap.get? a=some {cls:=.type "tuple",dict:=M,data:=.seq q n,slots:=O}/\
   R (.ok (.ret (.ref (s.heap.push {cls:=.type "tuple_iterator",data:=.fields #[.ref a,.int 0 0]}).objs.size)))
    {s with heap:=(s.heap.push {cls:=.type "tuple_iterator",data:=.fields #[.ref a,.int 0 0]}).push {cls:=.type "enumerate",data:=.fields #[.none,.bool false,.ref s.heap.objs.size,rawInt 0,.none,.none]}}):=
 .of_wp fun prog w A R s h=>by
  obtain⟨U,Y,dr,tk,os⟩:=s;obtain⟨j,h⟩:=h;have sub:=sub_enumerate;have J:Heap.IsTuple (kR ⟨U,Y,dr,tk,os⟩) a q:=⟨_,j,rfl,n,rfl⟩
  wp_walk using wpAny_loadPart' j
  refine wpAny_stack_any fun st=>Zm ?_;split
  ·rename_i c1 _ _ _ _ _
   cases (c1 == db "enumerate") <;> (wp_walk using wpAny_loadPart' j,gK J) <;> exact⟨_,rfl,h⟩
  ·wp_walk using wpAny_loadPart' j,gK J
   exact⟨_,rfl,h⟩
theorem UH {a:Addr}{us:Array Value}{Q:Value->Shared->Prop}(M:s.heap.IsTuple a us)
  (h:∀g,gO g (s.heap.objs.size+1) s.heap.objs.size 0 .none->g.IsTupleIter s.heap.objs.size a 0->g.objs.size=s.heap.objs.size+2->(∀b o,s.heap.get? b=some o->g.get? b=some o)->Q (.ref (s.heap.objs.size+1)) {s with heap:=g}) :
  wpAny (model prog w) A (call (.type "enumerate") [.ref a]) Q E s:=by
 obtain⟨⟨O,U,Y,sl⟩,ha,hc,n,hd⟩:=M;have j:O=.type "tuple":=hc;have q:Y=.seq us n:=hd;subst j q;refine callType_new F.called_enumerate (by decide) (F.typeCall_enumerate_1 _) (F.newCall_enumerate_1 _) (fun obj=>kL obj _) F.entry_enumerate_new (ZfV a us n U sl) ⟨ha,?_⟩;have J:(s.heap.push {cls:=.type "tuple_iterator",data:=.fields #[.ref a,.int 0 0]}).objs.size=s.heap.objs.size+1:=bo ..;show _/\_;rw[J];have he:gO ((s.heap.push {cls:=.type "tuple_iterator",data:=.fields #[.ref a,.int 0 0]}).push {cls:=.type "enumerate",data:=.fields #[.none,.bool false,.ref s.heap.objs.size,rawInt 0,.none,.none]}) (s.heap.objs.size+1) s.heap.objs.size 0 .none:=by
  have z:=Zo (s.heap.push {cls:=.type "tuple_iterator",data:=.fields #[.ref a,.int 0 0]}) (o:={cls:=.type "enumerate",data:=.fields #[.none,.bool false,.ref s.heap.objs.size,rawInt 0,.none,.none]}) rfl;rw[J] at z;exact z
 exact⟨⟨_,he,rfl⟩,h _ he ⟨_,Zn _ (Zo _ rfl),rfl,rfl⟩ (by rw[bo,J]) fun b o y=>Zn _ (Zn _ y)⟩
end
end PyY
namespace L2
open PySem PySem.Spec PyProof.Rows
section
variable {X:Cx}{pins:List (Addr×Obj)}{σ:St}{H:Hp}{s:Shared}{h':Heap}
theorem Inv.turnLay {t':Nat}{ts:List Addr}{T:Addr}{o:HO}(I:Inv X pins σ H s)(k:∀b u,b∉ts->s.heap.get? b=some u->h'.get? b=some u)(ht:∀b∈ts,∃u,h'.get? b=some u)(O:∀b∈ts,UY X pins H b)(U:s.heap.objs.size<=T)
  (M:Z6 X.prog X.w (upd H T o) h' T o):Inv X pins σ (upd H T o) {s with heap:=h',toks:=t'}:=by
 have j:H T=none:=I.hok.fresh U;have J:∀b u,H b=some u->b∉ts:=fun b u e z=>by
  have:=(O b z).1;rw[e] at this;cases this
 refine I.call (ch:=ts) (g':=s.gens) (d':=s.drawn) ⟨fun b u e _ _ nx=>k b u nx e,fun b u e _ _ nx=>⟨u.slots,k b u nx e⟩,fun b u e n _=>?_,fun b u e nx=>⟨u,k b u nx e⟩,fun b Y q=>?_,fun b u v q=>?_,fun b ps q=>⟨#[],?_⟩⟩
  (fun b u e=>?_) I.bare fun b hb=>?_
 ·rw[Zx (aB (aC (Zp e) U))]
  exact n
 ·rw[Zx (Z1 q j)]
  exact q
 ·rw[Zx (Z1 q j)]
  exact q
 ·rw[Zx (Z1 q j),q]
  simp
 ·by_cases hb:b=T
  ·subst hb
   rw[Zt] at e;cases e;exact M
  ·rw[Zx hb] at e
   refine (I.hok b u e).stay (fun c v hc q=>k c v ?_ q) (fun c r=>by rw[Zx (Z1 r j)];exact r) fun c Y r=>by rw[Zx (Z1 r j)];exact r
   rcases hc with z|z
   ·rw[z]
    exact J b u e
   ·exact J c _ z
 ·obtain⟨f0,f1,f2,f3,f4,f5⟩:=O b hb
  exact⟨f3,f1,f4,f5⟩
theorem Inv.turnedL {t':Nat}{ts:List Addr}(I:Inv X pins σ H s)(k:∀b u,b∉ts->s.heap.get? b=some u->h'.get? b=some u)(J:∀b∈ts,UY X pins H b):Inv X pins σ H {s with heap:=h',toks:=t'}:=by
 have j:∀b u,H b=some u->b∉ts:=fun b u e z=>by
  have:=(J b z).1;rw[e] at this;cases this
 refine I.call (ch:=ts) (g':=s.gens) (d':=s.drawn) ⟨fun b u e _ _ nx=>k b u nx e,fun b u e _ _ nx=>⟨u.slots,k b u nx e⟩,fun b u e n _=>n,fun b u e nx=>⟨u,k b u nx e⟩,fun b M q=>q,fun b u v q=>q,fun b ps q=>⟨#[],by rw[q];simp⟩⟩
  (fun b u e=>?_) I.bare fun b hb=>?_
 ·refine (I.hok b u e).stay (fun c v O q=>k c v ?_ q) (fun c r=>r) fun c M r=>r
  rcases O with z|z
  ·rw[z]
   exact j b u e
  ·exact j c _ z
 ·obtain⟨f0,f1,f2,U,Y,f5⟩:=J b hb
  exact⟨U,f1,Y,f5⟩
end
noncomputable def ZkC (K:ab)(a:Addr):It:=
 ⟨fun i H=>∃j x,Wr K H a j/\j[i]?=some x,fun i H x q=>∃T y,x=.ref T/\H T=none/\q=upd H T (.tup [.int i,y])/\∀j,Wr K H a j->j[i]?=some y,fun i H=>∃j,Wr K H a j/\j.length<=i⟩
noncomputable def Zng (K:ab)(a:Addr):It:=
 ⟨fun i H=>∃j x,WM K H a j/\j[i]?=some x,fun i H x q=>∃T y,x=.ref T/\H T=none/\q=upd H T (.tup [.int i,y])/\∀j,WM K H a j->j[i]?=some y,fun i H=>∃j,WM K H a j/\j.length<=i⟩
theorem VR {P:Program}{w:World}{K:ab}{elts:List Expr}{x1}{pos:Pos}(a e it:Addr)(ne:e≠it) :
  UW P w K (.Tuple elts x1 pos) (ZkC K a) [e,it] e (fun i h=>(∃j,gO h e it i j)/\h.IsListIter it a i) where
 mem:=by simp
 obj:=fun i h st b hb=>by
  obtain⟨⟨j,J⟩,⟨o,U,c,d⟩⟩:=st;rcases aF.mp hb with rfl|hb
  ·exact⟨_,J,fun v z=>by
    have z':gA _=f6 v:=z;cases z'⟩
  ·have q:b=it:=by simpa using hb
   subst q;exact⟨o,U,fun v z=>by rw[d] at z;cases z⟩
 keep:=fun i h h' st k=>by
  obtain⟨⟨j,J⟩,M⟩:=st;exact⟨⟨j,k e (by simp) _ J⟩,M.at fun o q=>k it (by simp) o q⟩
 item:=by
  intro X hP hw hK hc i Y s σ H E I hf st hg;subst hP hw hK;obtain⟨⟨j,J⟩,M⟩:=st;obtain⟨xs,x,hq,hx⟩:=hg;obtain⟨n8,rv,p,hz⟩:=I.list hq;obtain⟨u,hu,ru⟩:=rv.get hx;refine wpAny_pyNext_enum_item J M p.isList (x:=u) (by simpa using hu) ne fun h1 ho n9 hT o7 hk=>?_;refine⟨_,rfl,lq ho fun h2 o0 o5=>?_⟩;have le:e<s.heap.objs.size:=Zp J;have O:bd e h1 h2:=o5;have o6:h2.get? s.heap.objs.size=some {cls:=.type "tuple",data:=.seq #[.int i s.toks,u]}:=(O.2 _ (bt le)).trans hT;have n4:h2.IsListIter it a (i+1):=n9.at fun o q=>(O.2 it (bJ ne)).trans q;have n6:gO h2 e it ((i+1:Nat):Int) u:=by
   have:=o0;simpa using this
  have nT:H s.heap.objs.size=none:=I.hok.fresh (Zq _);have I2:=I.turnLay (t':=s.toks+1) (h':=h2) (ts:=[e,it]) (T:=s.heap.objs.size) (o:=.tup [.int i,x]) (fun b v hb q=>?_) (fun b hb=>?_) hf (Zq _) ⟨by show 2<=sizeLine;decide,[.int i s.toks,u],.cons ⟨_,rfl⟩ (.cons ru .nil),_,o6,rfl,0,rfl⟩
  ·refine⟨.ref s.heap.objs.size,_,I2,rfl,⟨_,x,rfl,nT,rfl,fun ys hy=>by rw[I.list_inj hy hq];exact hx⟩,⟨⟨u,n6⟩,n4⟩,fun b hb=>?_⟩
   have fb:=(hf b hb).1;have lb:b<s.heap.objs.size:=by
    rcases aF.mp hb with rfl|hb
    ·exact le
    ·have q:b=it:=by simpa using hb
     subst q;obtain⟨o,U,_⟩:=M;exact Zp U
   rw[Zx (aB lb)];exact fb
  ·have q1:b≠e:=fun z=>hb (by simp[z])
   have q2:b≠it:=fun z=>hb (by simp[z]);exact (O.2 b q1).trans (hk b v q1 q2 q)
  ·rcases aF.mp hb with rfl|hb
   ·exact⟨_,n6⟩
   ·have q:b=it:=by simpa using hb
    subst q;obtain⟨o,U,_⟩:=n4;exact⟨o,U⟩
 done:=by
  intro X hP hw hK hc i Y s σ H E I hf st hg;subst hP hw hK;obtain⟨⟨j,J⟩,M⟩:=st;obtain⟨xs,hq,hx⟩:=hg;obtain⟨n8,rv,p,hz⟩:=I.list hq;have hl:=rv.length;exact wpAny_pyNext_enum_end (I.ok.hd hc) J M p.isList (by simp;omega) fun h1 eb=>⟨rfl,I.turnedL (t':=s.toks) (ts:=[e,it]) (fun b o hb q=>eb b o (fun z=>hb (by simp[z])) q) hf⟩
 self:=fun _ _ _ _ _ st h=>by
  obtain⟨⟨j,J⟩,M⟩:=st;exact eK J h
theorem VQ {P:Program}{w:World}{K:ab}{elts:List Expr}{x1}{pos:Pos}(a e it:Addr)(ne:e≠it) :
  UW P w K (.Tuple elts x1 pos) (Zng K a) [e,it] e (fun i h=>(∃j,gO h e it i j)/\h.IsTupleIter it a i) where
 mem:=by simp
 obj:=fun i h st b hb=>by
  obtain⟨⟨j,J⟩,⟨o,Y,c,d⟩⟩:=st;rcases aF.mp hb with rfl|hb
  ·exact⟨_,J,fun v z=>by
    have z':gA _=f6 v:=z;cases z'⟩
  ·have q:b=it:=by simpa using hb
   subst q;exact⟨o,Y,fun v z=>by rw[d] at z;cases z⟩
 keep:=fun i h h' st k=>by
  obtain⟨⟨j,J⟩,M⟩:=st;exact⟨⟨j,k e (by simp) _ J⟩,M.at fun o q=>k it (by simp) o q⟩
 item:=by
  intro X hP hw hK hc i n4 s σ H E I hf st hg;subst hP hw hK;obtain⟨⟨j,J⟩,M⟩:=st;obtain⟨xs,x,hq,hx⟩:=hg;obtain⟨O,rv,p,hz⟩:=I.tuple hq;obtain⟨u,hu,ru⟩:=rv.get hx;refine PyY.ZdG J M (show s.heap.IsTuple a O.toArray from p) (y:=u) (by simpa using hu) ne fun h1 ho n9 hT o7 hk=>?_;refine⟨_,rfl,lq ho fun h2 o0 o5=>?_⟩;have le:e<s.heap.objs.size:=Zp J;have U:bd e h1 h2:=o5;have o6:h2.get? s.heap.objs.size=some {cls:=.type "tuple",data:=.seq #[.int i s.toks,u]}:=(U.2 _ (bt le)).trans hT;have n6:h2.IsTupleIter it a (i+1):=n9.at fun o q=>(U.2 it (bJ ne)).trans q;have n8:gO h2 e it ((i+1:Nat):Int) u:=by
   have:=o0;simpa using this
  have nT:H s.heap.objs.size=none:=I.hok.fresh (Zq _);have I2:=I.turnLay (t':=s.toks+1) (h':=h2) (ts:=[e,it]) (T:=s.heap.objs.size) (o:=.tup [.int i,x]) (fun b v hb q=>?_) (fun b hb=>?_) hf (Zq _) ⟨by show 2<=sizeLine;decide,[.int i s.toks,u],.cons ⟨_,rfl⟩ (.cons ru .nil),_,o6,rfl,0,rfl⟩
  ·refine⟨.ref s.heap.objs.size,_,I2,rfl,⟨_,x,rfl,nT,rfl,fun ys hy=>by rw[I.tuple_inj hy hq];exact hx⟩,⟨⟨u,n8⟩,n6⟩,fun b hb=>?_⟩
   have fb:=(hf b hb).1;have lb:b<s.heap.objs.size:=by
    rcases aF.mp hb with rfl|hb
    ·exact le
    ·have q:b=it:=by simpa using hb
     subst q;obtain⟨o,Y,_⟩:=M;exact Zp Y
   rw[Zx (aB lb)];exact fb
  ·have q1:b≠e:=fun z=>hb (by simp[z])
   have q2:b≠it:=fun z=>hb (by simp[z]);exact (U.2 b q1).trans (hk b v q1 q2 q)
  ·rcases aF.mp hb with rfl|hb
   ·exact⟨_,n8⟩
   ·have q:b=it:=by simpa using hb
    subst q;obtain⟨o,Y,_⟩:=n6;exact⟨o,Y⟩
 done:=by
  intro X hP hw hK hc i n4 s σ H E I hf st hg;subst hP hw hK;obtain⟨⟨j,J⟩,M⟩:=st;obtain⟨xs,hq,hx⟩:=hg;obtain⟨O,rv,p,hz⟩:=I.tuple hq;have hl:=rv.length;exact PyY.ZfW (I.ok.hd hc) J M (show s.heap.IsTuple a O.toArray from p) (by simp;omega) fun h1 eb=>⟨rfl,I.turnedL (t':=s.toks) (ts:=[e,it]) (fun b o hb q=>eb b o (fun z=>hb (by simp[z])) q) hf⟩
 self:=fun _ _ _ _ _ st h=>by
  obtain⟨⟨j,J⟩,M⟩:=st;exact eK J h
section
variable {X:Cx}
noncomputable def Zlh (K:ab)(J:TA):TI:=fun M H R=>J M H fun O j=>∃a,O=[.ref a]/\(((∃q,Wr K j a q)/\R (ZkC K a) j)\/((∃q,WM K j a q)/\R (Zng K a) j))
theorem ZoE {elts:List Expr}{x1}{pt:Pos}{l:Expr}{ta:TA}{p pos:Pos}(hm:X.mg "enumerate"=none)(ha:PA X [l] ta)(hg:YO X.env.scope "enumerate"=true:=by kernel_rfl)(hs:starEach [l] X.env=[(false,eval l X.env)]:=by rfl) :
  PI X (.Tuple elts x1 pt) (.Call (.Name "enumerate" p) [l] [] pos) (Zlh X.K ta):=by
 intro J s σ H R I h;refine Call_ (WZ I (JB hg) hm (show bootBuiltins "enumerate"=some (.type "enumerate") by kernel_rfl) (bn (Yi (ha pos J s σ H _ I h) fun us s1 ⟨vs,H1,j,r1,q1⟩=>?_) hs rfl));obtain⟨a,e,q⟩:=q1;subst e;cases r1 with
 |cons r rr=>
  cases rr;cases (show _=aI a from r);have sz:∀b,b∈[s1.heap.objs.size+1,s1.heap.objs.size]->s1.heap.objs.size<=b:=fun b hb=>by
   rcases aF.mp hb with rfl|hb
   ·exact gG _
   ·have:b=s1.heap.objs.size:=by simpa using hb
    rw[this];exact Zq _
  rcases q with ⟨⟨xs,O⟩,q⟩|⟨⟨xs,O⟩,q⟩
  ·obtain⟨M,rv,p,hz⟩:=j.list O
   refine call_enumerate_list p.isList fun g ge U gs Y=>?_;refine eK ge ?_;exact⟨_,[s1.heap.objs.size+1,s1.heap.objs.size],_,_,H1,rfl,j.kept (t':=s1.toks) Y,VR a _ _ (bt (dE _)),⟨⟨_,ge⟩,U⟩,fun b hb=>j.fpOk (sz b hb) (j.hok.fresh (sz b hb)),q⟩
  ·obtain⟨M,rv,p,hz⟩:=j.tuple O
   refine PyY.UH (show s1.heap.IsTuple a M.toArray from p) fun g ge U gs Y=>?_;refine eK ge ?_;exact⟨_,[s1.heap.objs.size+1,s1.heap.objs.size],_,_,H1,rfl,j.kept (t':=s1.toks) Y,VQ a _ _ (bt (dE _)),⟨⟨_,ge⟩,U⟩,fun b hb=>j.fpOk (sz b hb) (j.hok.fresh (sz b hb)),q⟩
theorem Vo (K:ab){elts:List Expr}{q}{pt:Pos}{l:Expr}{j:TA}{p pos:Pos}(J:X.mg "enumerate"=none)(M:PA X [l] j)(O:X.K=K:=by rfl)(U:YO X.env.scope "enumerate"=true:=by kernel_rfl)(Y:starEach [l] X.env=[(false,eval l X.env)]:=by rfl) :
  PI X (.Tuple elts q pt) (.Call (.Name "enumerate" p) [l] [] pos) (Zlh K j):=O▸ZoE J M U Y
end
structure ZiO (J:It)(At:Hp->Prop)(xs:List V):Prop where
 go:∀i H,At H->i<xs.length->J.go i H
 yld:∀i H x H2,At H->J.yld i H x H2->∃T y,x=.ref T/\H T=none/\H2=upd H T (.tup [.int i,y])/\xs[i]?=some y
 stop:∀i H,At H->xs.length<=i->J.stop i H
theorem Uq {K:ab}{a:Addr}{xs:List V}:ZiO (ZkC K a) (fun H=>Wr K H a xs) xs:=
 ⟨fun i H h hi=>⟨xs,xs[i],h,by simp[hi]⟩,fun i H x O h j=>by
  obtain⟨T,y,e,J,M,q⟩:=j;exact⟨T,y,e,J,M,q xs h⟩,fun i H h hi=>⟨xs,h,hi⟩⟩
theorem Uo {K:ab}{a:Addr}{xs:List V}:ZiO (Zng K a) (fun H=>WM K H a xs) xs:=
 ⟨fun i H h hi=>⟨xs,xs[i],h,by simp[hi]⟩,fun i H x O h j=>by
  obtain⟨T,y,e,J,M,q⟩:=j;exact⟨T,y,e,J,M,q xs h⟩,fun i H h hi=>⟨xs,h,hi⟩⟩
theorem Y1 {J:It}{g:TG}{tb:TS}{D:Xc}{σ:St}{H:Hp}{Y:Hp->Prop}{xs:List V}(S:ZiO J Y xs)(Pv:Nat->St->Hp->Prop)(h0:Pv 0 σ H)(hS:∀i σ H,Pv i σ H->Y H)
  (hs:∀(i:Nat) y σ H T,xs[i]?=some y->Pv i σ H->H T=none->g (.ref T) σ (upd H T (.tup [.int i,y])) fun q U=>tb {D with nx:=Pv (i+1),ct:=Pv (i+1),bk:=D.nx} q U) (hd:∀ σ H,Pv xs.length σ H->D.nx σ H) :
  ∃W:Nat->Nat->St->Hp->Prop,(∃m,W 0 m σ H)/\∀i m σ H,W i m σ H->
   (J.stop i H/\D.nx σ H)\/(J.go i H/\∃N:St->Hp->Prop,(∀ M j,N M j->∃m',m'<m/\W (i+1) m' M j)/\∀x j,J.yld i H x j->g x σ j fun q U=>tb {D with nx:=N,ct:=N,bk:=D.nx} q U):=by
 refine⟨fun i m σ H=>m=xs.length-i/\i<=xs.length/\Pv i σ H,⟨_,rfl,aX _,h0⟩,?_⟩;rintro i m σ H ⟨rfl,hi,p⟩;have s:=hS i σ H p;by_cases O:i<xs.length
 ·refine .inr ⟨S.go i H s O,Pv (i+1),fun M j p'=>⟨xs.length-(i+1),by omega,rfl,O,p'⟩,fun x j hy=>?_⟩
  obtain⟨T,y,rfl,hT,rfl,hx⟩:=S.yld i H x j s hy;exact hs i y σ H T hx p hT
 ·have e:i=xs.length:=by omega
  subst e;exact .inl ⟨S.stop _ H s (Zq _),hd σ H p⟩
noncomputable def Itd (lo:Int)(n:Nat):It:=⟨fun i _=>i<n,fun i H x j=>j=H/\x=.int (lo-i),fun i _=>n<=i⟩
theorem Zfn {P:Program}{w:World}{K:ab}{tg:Expr}(it:Addr)(lo:Int)(n:Nat):UW P w K tg (Itd lo n) [it] it (fun i h=>hU h it (lo+(i:Nat)*(-1)) ((n:Int)-(i:Nat)) (-1)) where
 mem:=by simp
 obj:=fun i h st b hb=>by
  have e:b=it:=by simpa using hb
  subst e;exact⟨_,st,fun v z=>by
   have z':gA _=f6 v:=z;cases z'⟩
 keep:=fun i h J st k=>k it (by simp) _ st
 item:=by
  intro X O U Y hc i j s σ H E I M st hg;subst O U Y;obtain⟨f0,f1,f2,f3,f4,f5⟩:=M it (by simp);have W:=lx (prog:=X.prog) (w:=X.w) (I.ok.hd hc) it lo (-1) n;refine W.item i s _ _ hg st fun v J tk hv q kk=>?_;obtain⟨t,rfl⟩:=hv;have I1:Inv X j σ H {s with heap:=J,toks:=tk}:=I.turned (fun b o hb e=>kk b o (by simpa using hb) e) f0 f1 f3 f4 f5;refine⟨_,rfl,ZcB (s:={s with heap:=J,toks:=tk}) (n:="range_iterator") q rfl rfl (by decide) ⟨.int (lo-i),H,I1,⟨t,?_⟩,⟨rfl,rfl⟩,q,fun b hb=>(M b hb).1⟩⟩;rw[show lo-(i:Int)=lo+(i:Int)*(-1) by omega]
 done:=by
  intro X O U Y hc i j s σ H E I M st hg;subst O U Y;obtain⟨f0,f1,f2,f3,f4,f5⟩:=M it (by simp);exact iF (I.ok.hd hc) st (by have:n<=i:=hg;omega) fun J eb=>⟨rfl,I.turned (t':=s.toks) (fun b o hb e=>eb b o hb e) f0 f1 f3 f4 f5⟩
 self:=fun _ _ _ _ _ st h=>iG st h
theorem rangeSize_down (a b:Int):bf a b (-1)=if b<a then a-b else 0:=by
 unfold bf;rw[if_neg (by decide),Int.neg_neg,Int.ediv_one];by_cases h:b<a
 ·rw[if_pos h,if_pos h]
  omega
 ·rw[if_neg h,if_neg h]
theorem small_down {a b:Int}(j:-(2 ^ 62)<=a)(q:a<2 ^ 62)(J:-(2 ^ 62)<=b)(M:b<2 ^ 62):cw a b (-1)=true:=by
 unfold cw;rw[rangeSize_down];simp only[iN,ag,aZ,decide_eq_true_eq,beq_iff_eq,show ¬((-1:Int) > 0) by decide,if_false];split <;> omega
noncomputable def Zox (q:TA):TI:=fun J H R=>q J H fun M O=>∃i j:Int,M=[.int i,.int j,.int (-1)]/\(-(2 ^ 62)<=i/\i<2 ^ 62/\-(2 ^ 62)<=j/\j<2 ^ 62)/\R (Itd i (i-j).toNat) O
theorem ZnZ {X:Cx}{tg a b c:Expr}{ta:TA}{p pos:Pos}(hm:X.mg "range"=none)(ha:PA X [a,b,c] ta)(hg:YO X.env.scope "range"=true:=by kernel_rfl)(hs:starEach [a,b,c] X.env=(false,eval a X.env)::starEach [b,c] X.env:=by rfl)(Y:(backTo pos (starEach [b,c] X.env)).any (·.1)=false:=by rfl) :
  PI X tg (.Call (.Name "range" p) [a,b,c] [] pos) (Zox ta):=by
 intro M s σ H R I h;refine Call_ (WZ I (JB hg) hm lH (bn (Yi (ha pos M s σ H _ I h) fun us s1 ⟨vs,H1,I1,r1,q1⟩=>?_) hs Y));obtain⟨i,j,e,⟨q1,q2,q3,q4⟩,q⟩:=q1;subst e;cases r1 with
 |cons r O=>
  cases O with
  |cons r' O=>
   cases O with
   |cons n4 O=>
    cases O;obtain⟨t,rfl⟩:=r;obtain⟨U,rfl⟩:=r';obtain⟨J,rfl⟩:=n4;refine call_range_3 (by decide) ?_ (Or.inl (kf (by decide)));refine jr (kK ..) (small_down q1 q2 q3 q4) ?_;have I2:Inv X M σ H1 {s1 with heap:=s1.heap.push {cls:=.type "range",data:=.fields #[.int i t,.int j U,.int (-1) J]},toks:=s1.toks}:=I1.kept fun b o e=>Zn _ e;refine⟨(s1.heap.push {cls:=.type "range",data:=.fields #[.int i t,.int j U,.int (-1) J]}).objs.size,[(s1.heap.push {cls:=.type "range",data:=.fields #[.int i t,.int j U,.int (-1) J]}).objs.size],_,_,H1,rfl,
     I2.kept (t':=s1.toks) fun b o e=>Zn _ e,Zfn _ i (i-j).toNat,?_,fun b hb=>?_,q⟩
    ·have e1:i+((0:Nat):Int)*(-1)=i:=by simp
     have e2:(((i-j).toNat:Nat):Int)-((0:Nat):Int)=bf i j (-1):=by rw[rangeSize_down];split <;> omega
     show hU _ _ (i+((0:Nat):Int)*(-1)) ((((i-j).toNat:Nat):Int)-((0:Nat):Int)) (-1);rw[e1,e2];exact Zo _ rfl
    ·have e:b=(s1.heap.push {cls:=.type "range",data:=.fields #[.int i t,.int j U,.int (-1) J]}).objs.size:=by simpa using hb
     subst e;exact I2.fpOk (Zq _) (I2.hok.fresh (Zq _))
theorem ZcC {lo:Int}{n:Nat}{g:TG}{tb:TS}{D:Xc}{σ:St}{H:Hp}(Pv:Nat->St->Hp->Prop)(h0:Pv 0 σ H)
  (Y:∀i σ H,i<n->Pv i σ H->g (.int (lo-i)) σ H fun j O=>tb {D with nx:=Pv (i+1),ct:=Pv (i+1),bk:=D.nx} j O) (hd:∀ σ H,Pv n σ H->D.nx σ H) :
  ∃W:Nat->Nat->St->Hp->Prop,(∃m,W 0 m σ H)/\∀i m σ H,W i m σ H->
   ((Itd lo n).stop i H/\D.nx σ H)\/((Itd lo n).go i H/\∃N:St->Hp->Prop,(∀ q J,N q J->∃U,U<m/\W (i+1) U q J)/\∀x J,(Itd lo n).yld i H x J->g x σ J fun j O=>tb {D with nx:=N,ct:=N,bk:=D.nx} j O):=by
 refine⟨fun i m σ H=>m=n-i/\i<=n/\Pv i σ H,⟨n,by simp,aX _,h0⟩,?_⟩;rintro i m σ H ⟨rfl,hi,p⟩;by_cases M:i<n
 ·refine .inr ⟨M,Pv (i+1),fun q J p'=>⟨n-(i+1),by omega,rfl,M,p'⟩,fun x J hy=>?_⟩
  obtain⟨e,rfl⟩:=hy;subst e;exact Y i σ _ M p
 ·have e:i=n:=by omega
  subst e;exact .inl ⟨Zq _,hd σ H p⟩
theorem g2 (K:ab)(i j:Nat){X:Cx}{x y:Str}{k}{q J pos:Pos}(O:X.calm=true)(U:PG X (.Name x q) (Yy i))(Y:PG X (.Name y J) (Yy j))(hK:X.K=K:=by rfl)
  (hn:(assignEach [.Name x q,.Name y J] X.env).length=2:=by rfl) (M:(assignEach [.Name x q,.Name y J] X.env).findIdx? (·.1)=none:=by rfl) :
  PG X (.Tuple [.Name x q,.Name y J] k pos) (Zkc K 2 (Uk (Yy i) (Uk (Yy j) Zkd))):=hK▸ZlX O (Zb8 U (Zb8 Y Zjl)) hn M
theorem Zl0 {X:Cx}(K:ab){o e:Expr}{M:List Expr}{to:TE}{t:TA}{name:Str}{J j:Pos}{T id:String}{r:V->List V->Hp->VK->Prop}(pa:lC T)(slot:Slot T name id)(n4:typeOf (.builtin id)=pure (.type "method_descriptor"))(hm:MtR X id r)(ho:PE X o to)(ha:PA X (e::M) t)
  (hK:X.K=K:=by rfl) (O:attributeBase o name X.env (eval o X.env)=eval o X.env:=by rfl)
  (Y:((backTo j (starEach (e::M) X.env)).all (fun x=>!x.1) && (backToKw j (keywordEach [] X.env)).all (fun x=>x.1.isSome)
   && decide ((e::M).length+([]:List Keyword).length+(if ([]:List Keyword).isEmpty then 0 else 1)<30))=true:=by rfl)
  (U:(J.endLine == j.line)=true:=by rfl) (hs:starEach (e::M) X.env=(false,eval e X.env)::starEach M X.env:=by rfl) (q:(backTo j (starEach M X.env)).any (·.1)=false:=by rfl) :
  PE X (.Call (.Attribute o name J) (e::M) [] j) (tBM K T r to t):=hK▸Wm pa slot n4 hm ho ha O Y U hs q
structure Sml (k b:Nat)(d:fk):Prop where
 sh:d.showable=true
 nd:d.hasDict=false
 dp:d.depth<=k
 lv:d.leavesShort 300=true
 bl:d.bulk<=b
theorem Sml.all {k b:Nat}:∀{ds:List fk},(∀d∈ds,Sml k b d)->eX ds=true/\gf ds=false/\bO ds<=k/\dQ 300 ds=true/\ip ds<=ds.length*(b+1)
 | [],_=>⟨rfl,rfl,aX _,rfl,aX _⟩
 |d::ds,h=>by
  obtain⟨j,q,J,M,U⟩:=Sml.all (ds:=ds) fun e O=>h e (aH _ O);have hd:=h d aE;refine⟨?_,?_,?_,?_,?_⟩
  ·simp only[eX,hd.sh,j,Bool.and_self]
  ·simp only[gf,hd.nd,q,Bool.or_self]
  ·simp only[bO]
   exact Nat.max_le.mpr ⟨hd.dp,J⟩
  ·simp only[dQ,hd.lv,M,Bool.and_self]
  ·simp only[ip,Zi]
   have:=hd.bl;rw[cy];omega
theorem Sml.fit {k b:Nat}{d:fk}(h:Sml k b d)(j:k<=60)(hb:b<=50000):ZkE d:=by
 refine⟨h.sh,h.nd,a5 h.dp j,?_⟩;have:=PyData.shown_le_bulk 300 (by decide) d h.lv;have q:=h.bl;have e:(16777216:Nat)=sizeLine:=by decide
 omega
theorem Sml.tup {k b n:Nat}{ds:List fk}(j:ds.length<=n)(h:∀d∈ds,Sml k b d):Sml (k+1) (n*(b+1)) (.tuple ds):=by
 obtain⟨q,J,U,M,O⟩:=Sml.all h;refine⟨by simp only[jm];exact q,by simp only[nh];exact J,by simp only[cW];omega,by simp only[lS];exact M,?_⟩;simp only[PyData.bulk];exact a5 O (df _ j)
theorem Zi3 {k:Nat}(h:k<=1000):Sml 0 0 (.int (k:Int)):=by
 obtain⟨j,_,_,q,_,_⟩:=Xm (ns:=[(k:Int)]) (fun n J=>by
  rw[aQ.mp J,mX];exact Nat.lt_of_le_of_lt h (by decide))
 simp only[aL,fv,eX,dQ,dW] at j q;exact⟨j,rfl,aX _,q,aX _⟩
end L2
namespace Pm
open PySem L2 PySem.Spec PyProof.Rows
open Tb
noncomputable def nV (k:Nat):V:=.int (k:Int)
noncomputable def GT (H:Hp)(g:Addr)(t:List (List Nat)):Prop:=∃rs:List Addr,H g=some (.tup (rs.map V.ref))/\rs.length=t.length/\∀(i:Nat) r,rs[i]?=some r->Tz H r ((t.getD i []).map nV)
theorem GT.mono {H j:Hp}{g:Addr}{t:List (List Nat)}(s:Same H j)(G:GT H g t):GT j g t:=by
 obtain⟨q,J,M,O⟩:=G;exact⟨q,s _ _ J,M,fun i r U=>(O i r U).mono s⟩
theorem Xo {t:List (List Nat)}(P:PW t){a:Nat}(j:a<t.length):(t.getD a []).length=t.length:=by
 refine P.len _ ?_;rw[Zb,Zf j];exact bg j
theorem XU {t:List (List Nat)}(P:PW t){a b:Nat}(j:a<t.length)(hb:b<t.length):((t.getD a []).map nV)[b]?=some (.int (ZI t a b:Nat)):=by
 have q:=Xo P j;unfold ZI;generalize t.getD a []=row at *;rw[Zc,Zf (show b<row.length by omega),Zb,Zf (show b<row.length by omega)];rfl
theorem GT.at {H:Hp}{g:Addr}{t:List (List Nat)}(G:GT H g t)(P:PW t){a:Nat}(q:a<t.length):∃(rs:List Addr) (r:Addr),H g=some (.tup (rs.map V.ref))/\rs.length=t.length/\XO (rs.map V.ref) (a:Int)=some (.ref r)/\Tz H r ((t.getD a []).map nV)/\∀b,b<t.length->XO ((t.getD a []).map nV) (b:Int)=some (.int (ZI t a b:Nat)):=by
 obtain⟨rs,J,M,O⟩:=G;have j:rs[a]?=some (rs[a]'(by omega)):=Zf (by omega);exact⟨rs,_,J,M,ZO (by rw[Zc,j];rfl),O a _ j,fun b hb=>ZO (XU P q hb)⟩
noncomputable def Zqk (H:Hp)(L:Addr)(rs:List Addr)(f:Nat->List Nat):Prop:=H L=some (.lst (rs.map V.ref))/\∀(i:Nat) r,rs[i]?=some r->Tz H r ((f i).map nV)
theorem XB {n i:Nat}(h:i<n):ixN n (i:Int)=some i:=by
 unfold ixN;rw[if_pos (gm _),if_pos (by omega),Zj]
theorem ZcH {α:Type}:∀(l:List α) (i:Nat) (h:i<l.length),(l[i]::l.eraseIdx i).Perm l
 |x::l,0,h=>dh _
 |x::l,i+1,h=>by
  show ((l[i]'(cO h))::x::l.eraseIdx i).Perm (x::l);exact (jh x _ _).trans (List.Perm.cons x (ZcH l i (cO h)))
theorem Zl4 {n:Nat}{os:List Nat}(q:1<=n)(p:os.Perm (ac n))(h0:os[0]?=some 0):Ord n os:=by
 refine⟨by rw[p.length_eq,Zg],p.nodup_iff.mpr cu,fun v j=>p.mem_iff.mpr (af.mpr j),fun v j=>af.mp (p.mem_iff.mp j),?_⟩;rw[Zb,h0];rfl
theorem Zdu {xs:List Nat}{i:Nat}{y:V}(h:(xs.map nV)[i]?=some y):∃k,xs[i]?=some k/\y=.int (k:Nat):=by
 rw[Zc] at h;cases e:xs[i]? with
 |none=>rw[e] at h;cases h
 |some k=>rw[e] at h;exact⟨k,rfl,(ay h).symm⟩
noncomputable def J2 (f g:List Nat):List Nat:=g.map fun i=>f.getD i 0
noncomputable def nI (xs:List Nat):List Int:=xs.map fun k:Nat=>((k:Nat):Int)
theorem Zol (xs:List Nat):(nI xs).map V.int=xs.map nV:=by unfold nI;rw[aK];rfl
noncomputable def TupsAt (H:Hp)(L:Addr)(bs:List Addr)(yss:List (List Nat)):Prop:=H L=some (.lst (bs.map V.ref))/\bs.length=yss.length/\∀(i:Nat) b,bs[i]?=some b->H b=some (.tup ((yss.getD i []).map nV))
theorem TupsAt.mono {H j:Hp}{L:Addr}{bs:List Addr}{yss:List (List Nat)}(s:Same H j)(R:TupsAt H L bs yss):TupsAt j L bs yss:=⟨s _ _ R.1,R.2.1,fun i b hb=>s _ _ (R.2.2 i b hb)⟩
theorem TupsAt.push {H:Hp}{L:Addr}{bs:List Addr}{yss:List (List Nat)}{b:Addr}{ys:List Nat}(R:TupsAt H L bs yss)(h:H b=some (.tup (ys.map nV))):TupsAt (upd H L (.lst (bs.map V.ref++[.ref b]))) L (bs++[b]) (yss++[ys]):=by
 have ne:∀{b ys},H b=some (.tup ys)->upd H L (.lst (bs.map V.ref++[.ref b])) b=some (.tup ys):=fun {b ys} hb=>by
  rw[Zx (fun z=>by rw[z,R.1] at hb;cases hb)];exact hb
 refine⟨by rw[Zt,aU];rfl,by rw[Zd,Zd,R.2.1];rfl,fun i c j=>?_⟩;have q:c≠L->upd H L (.lst (bs.map V.ref++[.ref b])) c=H c:=fun z=>Zx z;by_cases J:i<bs.length
 ·rw[aw J] at j
  have:=R.2.2 i c j;rw[q (fun z=>by rw[z,R.1] at this;cases this),Zb,aw (by rw[<-R.2.1];exact J),<-Zb];exact this
 ·rw[ax (by omega)] at j
  have M:i-bs.length=0:=by
   apply am;intro z;rw[ah (by rw[Zk];omega)] at j;cases j
  rw[M] at j;cases j;have:i=yss.length:=by rw[<-R.2.1];omega
  rw[q (fun z=>by rw[z,R.1] at h;cases h),this,Zb,ax (Zq _),de];exact h
theorem ZaS {K:ab}{H:Hp}:∀(bs:List Addr) (yss:List (List Nat)),bs.length=yss.length->(∀(j:Nat) b,bs[j]?=some b->H b=some (.tup ((yss.getD j []).map nV)))->Wq K H (bs.map V.ref) (yss.map fun ns=>ce ((nI ns).map aO))
 | [],[],_,_=>.nil
 | [],_::_,h,_=>by cases h
 |_::_,[],h,_=>by cases h
 |b::bs,y::yss,h,g=>by
  have hb:=g 0 b rfl;have q:H b=some (.tup ((nI y).map V.int)):=by rw[Zol];exact hb
  exact .cons (.tup (.of q) (Wq.ints _)) (ZaS bs yss (dw h) fun j J M=>g (j+1) J M)
theorem Zmj {a b:List Nat}:nI a=nI b↔a=b:=by
 constructor
 ·intro h
  unfold nI at h;exact (mG (fun x y e=>by exact Int.ofNat.inj e)).mp h
 ·intro h;rw[h]
theorem ZoC (a b:List Nat):eY (.tuple ((nI a).map aO)) (.tuple ((nI b).map aO))=decide (a=b):=by
 have:eY (.tuple ((nI a).map aO)) (.tuple ((nI b).map aO))=decide (nI a=nI b):=by
  show gt _ _=_;exact ly _ _
 rw[this,decide_eq_decide];exact Zmj
theorem Zbu (yss:List (List Nat))(o:List Nat):((yss.map fun ns=>ce ((nI ns).map aO)).any fun y=>y.eqv (.tuple ((nI o).map aO)))=yss.contains o:=by
 rw[dJ,kF];congr 1;funext y;show eY _ _=(o == y);rw[ZoC];by_cases h:y=o
 ·rw[decide_eq_true h,h,beq_self_eq_true]
 ·rw[decide_eq_false h]
  exact (beq_eq_false_iff_ne.mpr (fun z=>h z.symm)).symm
noncomputable def ZmL (j:List Nat):V->V
 | .int z=>nV (j.getD z.toNat 0)
 |y=>y
theorem Zil (j g:List Nat):(g.map nV).map (ZmL j)=(J2 j g).map nV:=by
 unfold J2;rw[aK,aK];refine a8 fun b _=>?_;show nV (j.getD (b:Int).toNat 0)=nV (j.getD b 0);rw[Zj]
noncomputable def YW (j:List (List Nat)):List (List Nat):=j.map fun a=>j.map fun b=>j.findIdx (· == J2 a b)
noncomputable def Gk (k:Nat)(y:List Nat):Prop:=y.length=k/\∀x∈y,x<k
theorem ZiJ {k:Nat}{a g:List Nat}(j:Gk k a)(q:Gk k g):Gk k (J2 a g):=by
 unfold J2;refine⟨by rw[Za];exact q.1,fun x J=>?_⟩;obtain⟨i,hi,rfl⟩:=aN.mp J;have M:=q.2 i hi;have O:=j.1;rw[Zb,Zf (show i<a.length by omega)];exact j.2 _ (bg _)
theorem TupsAt.get {H:Hp}{L:Addr}{bs:List Addr}{yss:List (List Nat)}(R:TupsAt H L bs yss){i:Nat}(j:i<yss.length):∃b,bs[i]?=some b/\XO (bs.map V.ref) (i:Int)=some (.ref b)/\H b=some (.tup ((yss.getD i []).map nV)):=by
 have hb:i<bs.length:=by rw[R.2.1];exact j
 have e:bs[i]?=some bs[i]:=Zf hb;exact⟨_,e,ZO (by rw[Zc,e];rfl),R.2.2 i _ e⟩
theorem TupsAt.ref {H:Hp}{L:Addr}{bs:List Addr}{yss:List (List Nat)}(R:TupsAt H L bs yss){i:Nat}{y:V}(h:(bs.map V.ref)[i]?=some y):∃b,y=.ref b/\i<yss.length/\H b=some (.tup ((yss.getD i []).map nV)):=by
 rw[Zc] at h;cases e:bs[i]? with
 |none=>rw[e] at h;cases h
 |some b=>
  rw[e] at h;refine⟨b,(ay h).symm,?_,R.2.2 i b e⟩;rw[<-R.2.1];exact (ae.mp e).1
theorem getL {yss:List (List Nat)}{i:Nat}(h:i<yss.length):yss[i]?=some (yss.getD i []):=by
 rw[Zb,Zf h];rfl
theorem Zdv {yss:List (List Nat)}{i:Nat}(h:i<yss.length):yss.getD i []∈yss:=av (getL h)
theorem Zoj {xs:List Nat}{i:Nat}(h:i<xs.length):XO (xs.map nV) (i:Int)=some (nV (xs.getD i 0)):=ZO (by rw[Zc,Zf h,Zb,Zf h];rfl)
noncomputable def Zck:List (List Nat)->Hp->(List V->Hp->Prop)->Prop
 | [],H,Q=>Q [] H
 |x::r,H,Q=>(x.map nV).length<=sizeLine/\∀p,H p=none->Zck r (upd H p (.tup (x.map nV))) fun j q=>Q (.ref p::j) q
theorem Jz:∀(xss:List (List Nat)) (H:Hp) (Q:List V->Hp->Prop),(∀x∈xss,x.length<=1000)->
  (∀(bs:List Addr) (j:Hp),Same H j->bs.length=xss.length->(∀(i:Nat) b,bs[i]?=some b->j b=some (.tup ((xss.getD i []).map nV)))->Q (bs.map V.ref) j)->Zck xss H Q
 | [],H,Q,_,q=>q [] H (Same.refl _) rfl fun i b hb=>by cases hb
 |x::r,H,Q,M,q=>by
  have sz:(16777216:Nat)=sizeLine:=by decide
  refine⟨?_,fun p U=>Jz r _ _ (fun y Y=>M y (aH _ Y)) fun bs j O hb hi=>?_⟩
  ·have:=M x aE
   rw[Za];omega
  ·refine q (p::bs) j ((Same.upd U).trans O) (by rw[Zi,Zi,hb]) fun i b J=>?_
   cases i with
   |zero=>
    cases J;exact O _ _ Zt
   |succ i=>exact hi i b J
noncomputable def ZhL:List (List (List Nat))->Hp->(List V->Hp->Prop)->Prop
 | [],H,Q=>Q [] H
 |j::r,H,Q=>Zck j H fun q J=>q.length<=sizeLine/\∀p,J p=none->ZhL r (upd J p (.lst q)) fun M O=>Q (.ref p::M) O
theorem Vm:∀(j:List (List (List Nat))) (H:Hp) (Q:List V->Hp->Prop),(∀xss∈j,xss.length<=1000/\∀x∈xss,x.length<=1000)->
  (∀(ls:List Addr) (J:Hp),Same H J->ls.length=j.length->(∀(i:Nat) l,ls[i]?=some l->H l=none/\∃bs,TupsAt J l bs (j.getD i []))->Q (ls.map V.ref) J)->ZhL j H Q
 | [],H,Q,_,q=>q [] H (Same.refl _) rfl fun i b hb=>by cases hb
 |xss::r,H,Q,hl,q=>by
  have sz:(16777216:Nat)=sizeLine:=by decide
  obtain⟨h1,h2⟩:=hl xss aE;refine Jz xss H _ h2 fun bs H1 s1 hb hi=>⟨by rw[Za];omega,fun p O=>Vm r _ _ (fun y hy=>hl y (aH _ hy)) fun ls J s' U Y=>?_⟩;have s2:=s1.trans (Same.upd (o:=.lst (bs.map V.ref)) O);refine q (p::ls) J (s2.trans s') (by rw[Zi,Zi,U]) fun i l M=>?_;cases i with
  |zero=>
   cases M;refine⟨s1.free O,bs,TupsAt.mono s' ⟨Zt,hb,fun i b n4=>?_⟩⟩;exact Same.upd (o:=.lst (bs.map V.ref)) O _ _ (hi i b n4)
  |succ i=>
   obtain⟨h3,h4⟩:=Y i l M;exact⟨s2.free h3,h4⟩
section
variable {X:Cx}
noncomputable def teT (x:List Nat):TE:=fun _ H Q=>(x.map nV).length<=sizeLine/\∀p,H p=none->Q (.ref p) (upd H p (.tup (x.map nV)))
theorem Zjm (x:List Nat){j:List Expr}{t:TA}{q}{pos:Pos}(h:PA X j t)(e:t=fun _ H Q=>Q (x.map nV) H):PE X (.Tuple j q pos) (teT x):=by
 subst e;exact ZaY h
noncomputable def taN (xss:List (List Nat)):TA:=fun _ H Q=>Zck xss H Q
theorem Zjt:PA X [] (taN []):=Zs
theorem pan {e:Expr}{j:List Expr}{x:List Nat}{xss:List (List Nat)}(h:PE X e (teT x))(r:PA X j (taN xss))(q:Wt e=true:=by rfl):PA X (e::j) (taN (x::xss)):=pc h r q
noncomputable def teL (xss:List (List Nat)):TE:=fun _ H Q=>Zck xss H fun j q=>j.length<=sizeLine/\∀p,q p=none->Q (.ref p) (upd q p (.lst j))
theorem Zjn {j:List Expr}{xss:List (List Nat)}{pos:Pos}(h:PA X j (taN xss)):PE X (.List j pos) (teL xss):=ZS h
noncomputable def taL (j:List (List (List Nat))):TA:=fun _ H Q=>ZhL j H Q
theorem Zju:PA X [] (taL []):=Zs
theorem pal {e:Expr}{q:List Expr}{xss:List (List Nat)}{j:List (List (List Nat))}(h:PE X e (teL xss))(r:PA X q (taL j))(J:Wt e=true:=by rfl):PA X (e::q) (taL (xss::j)):=pc h r J
structure QE (X:Cx)(e:Expr)(t:TE):Prop where
 h:PE X e t
structure QA (X:Cx)(es:List Expr)(t:TA):Prop where
 h:PA X es t
structure QS (X:Cx)(st:Stmt)(t:TS):Prop where
 h:PS X st t
structure QSs (X:Cx)(sts:List Stmt)(t:TS):Prop where
 h:PSs X sts t
theorem qi {i:Int}{j}{pos:Pos}:QE X (.Constant (.int i) j pos) (tC (.int i)):=⟨Zw⟩
theorem YA:QA X [] ZiW:=⟨Zs⟩
theorem qa {e:Expr}{j:List Expr}{q:TE}{t:TA}(h:QE X e q)(r:QA X j t)(J:Wt e=true:=by rfl):QA X (e::j) (ZbH q t):=⟨pc h.h r.h J⟩
theorem Y8 (x:List Nat){j:List Expr}{t:TA}{q}{pos:Pos}(h:QA X j t)(e:t=fun _ H Q=>Q (x.map nV) H):QE X (.Tuple j q pos) (teT x):=⟨Zjm x h.h e⟩
theorem Wx:QA X [] (taN []):=⟨Zjt⟩
theorem qan {e:Expr}{j:List Expr}{x:List Nat}{xss:List (List Nat)}(h:QE X e (teT x))(r:QA X j (taN xss))(q:Wt e=true:=by rfl):QA X (e::j) (taN (x::xss)):=⟨pan h.h r.h q⟩
theorem Xs {j:List Expr}{xss:List (List Nat)}{pos:Pos}(h:QA X j (taN xss)):QE X (.List j pos) (teL xss):=⟨Zjn h.h⟩
theorem ZeB:QA X [] (taL []):=⟨Zju⟩
theorem qal {e:Expr}{q:List Expr}{xss:List (List Nat)}{j:List (List (List Nat))}(h:QE X e (teL xss))(r:QA X q (taL j))(J:Wt e=true:=by rfl):QA X (e::q) (taL (xss::j)):=⟨pal h.h r.h J⟩
theorem Zoa {j:List Expr}{t:TA}{pos:Pos}(h:QA X j t):QE X (.List j pos) (ZlB t):=⟨ZS h.h⟩
theorem Zk7 (i:Nat){x:Str}{e:Expr}{q:TE}{pos j:Pos}(J:X.fn x=true)(M:QE X e q)(O:X.N[i]?=some x:=by rfl)(U:WW X.N=true:=by kernel_rfl)(Y:Zai X.env.scope x=true:=by kernel_rfl)
  (hs:swapsWith e (some (.Name x j)) pos.line X.env=pure false:=by rfl):QS X (.Assign [.Name x j] e pos) (Zc5 q (Yy i)):=⟨ZH i J M.h O U Y hs⟩
theorem WT {st:Stmt}{rest:List Stmt}{t u:TS}(j:QS X st t)(q:QSs X rest u):QSs X (st::rest) (ZlA t u):=⟨Zu j.h q.h⟩
theorem QSs.out {j:List Stmt}{t:TS}(h:QSs X j t):PSs X j t:=h.h
theorem Zi9 {j:TE}{g:TG}{u:TS}{D:Xc}{σ:L2.St}{H:Hp}(h:j σ H fun x q=>g x σ q (u D)):ZlA (Zc5 j g) u D σ H:=h
theorem ZbG (j:List (List (List Nat))){σ:L2.St}{H:Hp}{Q:VK}(M:∀xss∈j,xss.length<=1000/\∀x∈xss,x.length<=1000)(hk:j.length<=1000)
  (q:∀(ls:List Addr) (J:Hp),Same H J->ls.length=j.length->(∀(i:Nat) l,ls[i]?=some l->H l=none/\∃bs,TupsAt J l bs (j.getD i []))->∀S,J S=none->Q (.ref S) (upd J S (.lst (ls.map V.ref)))):ZlB (taL j) σ H Q:=by
 have sz:(16777216:Nat)=sizeLine:=by decide
 exact Vm j H _ M fun ls J O U Y=>⟨by rw[Za];omega,q ls J O U Y⟩
theorem Zgz (xss:List (List Nat)){σ:L2.St}{H:Hp}{Q:VK}(J:∀x∈xss,x.length<=1000)(Y:xss.length<=1000)
  (q:∀(bs:List Addr) (j:Hp),Same H j->bs.length=xss.length->(∀(i:Nat) b,bs[i]?=some b->j b=some (.tup ((xss.getD i []).map nV)))->∀S,j S=none->Q (.ref S) (upd j S (.lst (bs.map V.ref)))):teL xss σ H Q:=by
 have sz:(16777216:Nat)=sizeLine:=by decide
 exact Jz xss H _ J fun bs j M O U=>⟨by rw[Za];omega,q bs j M O U⟩
end
theorem Zjc {bs:List Addr}{i:Nat}(h:i<bs.length):∃b,bs[i]?=some b/\XO (bs.map V.ref) (i:Int)=some (.ref b):=⟨_,Zf h,ZO (by rw[Zc,Zf h];rfl)⟩
noncomputable def CT (H:Hp)(c:Addr)(j:List (List Nat)):Prop:=∃rs:List Addr,H c=some (.tup (rs.map V.ref))/\rs.length=j.length/\∀(i:Nat) r,rs[i]?=some r->H r=some (.tup ((j.getD i []).map nV))
theorem CT.mono {H q:Hp}{c:Addr}{j:List (List Nat)}(s:Same H q)(h:CT H c j):CT q c j:=by
 obtain⟨J,M,O,U⟩:=h;exact⟨J,s _ _ M,O,fun i r Y=>s _ _ (U i r Y)⟩
noncomputable def Ya (n:Nat)(f:Nat->Nat):List Nat:=(ac n).map f
theorem Zb0 (n:Nat)(f:Nat->Nat):(Ya n f).length=n:=by unfold Ya;rw[Za,Zg]
theorem ZbZ {n a k:Nat}(f:Nat->Nat)(j:a<n):((Ya n f).map nV).set a (nV k)=(Ya n fun b=>if b=a then k else f b).map nV:=by
 unfold Ya;refine aY fun i=>?_;rw[i8];by_cases q:i<n
 ·by_cases e:a=i
  ·subst e
   rw[if_pos rfl,if_pos (by rw[Za,Za,Zg];exact j),Zc,Zc,ao j];show some (nV k)=some (nV (if a=a then k else f a))
   rw[if_pos rfl]
  ·rw[if_neg e,Zc,Zc,ao q,Zc,Zc,ao q]
   show some (nV (f i))=some (nV (if i=a then k else f i))
   rw[if_neg (fun z=>e z.symm)]
 ·have J:a≠i:=by omega
  rw[if_neg J,ah (by rw[Za,Za,Zg];omega),ah (by rw[Za,Za,Zg];omega)]
theorem Wd {n:Nat}{f g:Nat->Nat}(h:∀a,a<n->f a=g a):Ya n f=Ya n g:=a8 fun a j=>h a (af.mp j)
theorem CT.row {H:Hp}{c:Addr}{j:List (List Nat)}(h:CT H c j):∃rs:List Addr,H c=some (.tup (rs.map V.ref))/\rs.length=j.length/\∀(i:Nat) y,(rs.map V.ref)[i]?=some y->∃r,y=.ref r/\i<j.length/\H r=some (.tup ((j.getD i []).map nV)):=by
 obtain⟨rs,O,M,U⟩:=h;refine⟨rs,O,M,fun i y q=>?_⟩;rw[Zc] at q;cases J:rs[i]? with
 |none=>rw[J] at q;cases q
 |some r=>
  rw[J] at q;cases q;exact⟨r,rfl,by rw[<-M];exact (ae.mp J).1,U i r J⟩
theorem ZaN {j:List (List Nat)}{k:Nat}(q:k<j.length):j.getD k []∈j:=by
 rw[Zb,Zf q];exact bg q
theorem VC {n:Nat}{f:Nat->Nat}{a:Nat}(j:a<n):XO ((Ya n f).map nV) (a:Int)=some (.int (f a:Nat)):=ZO (by
 unfold Ya;rw[Zc,Zc,ao j];rfl)
theorem tupK {X:Cx}(K:ab)(j:X.K=K:=by rfl):Yo X (.type "tuple") (fun xs H Q=>∃p ys,xs=[.ref p]/\((Wr K H p ys/\∀l,H l=none->Q (.ref l) (upd H l (.tup ys)))\/(WM K H p ys/\Q (.ref p) H))):=j▸ZE
theorem Zb4 {m i:Nat}{a:Nat->Addr}(j:i<m):XO ((ac m).map fun i=>V.ref (a i)) (i:Int)=some (.ref (a i)):=ZO (by rw[Zc,ao j];rfl)
theorem Zb3 {m i:Nat}{a:Nat->Addr}{y:V}(h:((ac m).map fun i=>V.ref (a i))[i]?=some y):i<m/\y=.ref (a i):=by
 have j:i<m:=by
  have:=(ae.mp h).1;rw[Za,Zg] at this;exact this
 rw[Zc,ao j] at h;exact⟨j,(ay h).symm⟩
theorem ZhP {m i:Nat}{f:Nat->Nat}(j:i<m):((Ya m f).map nV)[i]?=some (.int (f i:Nat)):=by
 unfold Ya;rw[Zc,Zc,ao j];rfl
theorem Zjb (m:Nat):(YX 0 m).map V.int=(ac m).map nV:=by
 unfold YX;rw[aK];refine a8 fun i _=>?_;show V.int (0+(i:Int))=nV i;rw[cz];rfl
theorem ZaR {m i:Nat}{y:V}(h:((YX 0 m).map V.int)[i]?=some y):i<m/\y=.int (i:Nat):=by
 rw[Zjb] at h;have j:i<m:=by
  have:=(ae.mp h).1;rw[Za,Zg] at this;exact this
 rw[Zc,ao j] at h;exact⟨j,(ay h).symm⟩
noncomputable def cyc (m:Nat):List Nat:=(ac m).map fun i=>(i+1) % m
noncomputable def neg (m:Nat):List Nat:=(ac m).map fun i=>(m-i) % m
noncomputable def mn1:List (List (List Nat)):=[[[1,0,2,3],[0,1,3,2]],[[1,0,2,3,4,5],[0,1,3,4,5,2]]]
noncomputable def ma1:List (List Nat):=[[1,2,0,3],[1,0,3,2]]
noncomputable def ma2:List (List Nat):=[[1,2,3,0,5,6,7,4],[4,7,6,5,2,1,0,3]]
noncomputable def ma3:List (List Nat):=[[1,2,0,3,4,5,6],[0,2,1,4,5,6,3]]
noncomputable def ma4:List (List Nat):=[[1,2,0,3,4,5],[0,1,2,4,5,3]]
noncomputable def mn2:List (List (List Nat)):=[[[1,2,3,4,0],[0,2,4,1,3]],[[1,2,3,0],[1,0,2,3]]]
noncomputable def ma5:List (List Nat):=[[1,2,3,4,5,6,0],[0,2,4,6,1,3,5]]
noncomputable def mnS:List (List (List Nat)):=mn1++[ma1]++[ma2]++[ma3]++[ma4]
noncomputable def mnG:List (List (List Nat)):=mnS++mn2++[ma5]
noncomputable def Yw (j:List Nat)(q:List (List Nat))(s:List (List Nat)×List (List Nat)):List (List Nat)×List (List Nat):=q.foldl (fun s p=>if s.1.contains (J2 j p) then s else (s.1++[J2 j p],s.2++[J2 j p])) s
noncomputable def dfs (J:List (List Nat)):Nat->List (List Nat)->List (List Nat)->Option (List (List Nat))
 |f,fd,[]=>some fd
 |0,fd,_::_=>none
 |f+1,fd,x::M=>match Yw ((x::M).getLast?.getD []) J (fd,(x::M).dropLast) with
  |(j,q)=>dfs J f j q
structure Zm9 (ps:List (List Nat))(k:Nat)(fd:List (List Nat)):Prop where
 k1:1<=k
 k10:k<=10
 p1:1<=ps.length
 p9:ps.length<=9
 pl:∀g∈ps,Gk k g
 run:dfs ps 61 [ac k] [ac k]=some fd
 n60:fd.length<=60
 hd:fd[0]?=some (ac k)
 nd:fd.Nodup
 fg:∀g∈fd,Gk k g
 pw:PW (YW fd)
 cl:∀a∈fd,∀b∈fd,J2 a b∈fd
noncomputable def gkB (k:Nat)(y:List Nat):Bool:=decide (y.length=k) && y.all fun x=>decide (x<k)
theorem Zlj {k:Nat}{y:List Nat}(h:gkB k y=true):Gk k y:=by
 unfold gkB at h;rw[ag,decide_eq_true_eq,aD] at h;exact⟨h.1,fun x j=>of_decide_eq_true (h.2 x j)⟩
noncomputable def ndB:List (List Nat)->Bool
 | []=>true
 |x::r=>!r.contains x && ndB r
theorem Zk9:∀{xs:List (List Nat)},ndB xs=true->xs.Nodup
 | [],_=>eE
 |x::r,h=>by
  unfold ndB at h;rw[ag,gC] at h;refine bG.mpr ⟨fun j=>?_,Zk9 h.2⟩;rw[aA.mpr j] at h;cases h.1
noncomputable def psB (j:List (List Nat)):Bool:=
 let k:=(j.getD 0 []).length
 decide (1<=k) && decide (k<=10) && decide (1<=j.length) && decide (j.length<=9) && j.all (gkB k) && match dfs j 61 [ac k] [ac k] with
  |none=>false
  |some q=>decide (q.length<=60) && decide (q[0]?=some (ac k)) && ndB q && q.all (gkB k) && pwB (YW q)
theorem ZmD {q:List (List Nat)}(U:PW (YW q)):∀a∈q,∀b∈q,J2 a b∈q:=by
 intro a Y b hb;obtain⟨i,hi⟩:=b9 Y;obtain⟨j,O⟩:=b9 hb;have J:(YW q).length=q.length:=by unfold YW;rw[Za]
 have il:=(ae.mp hi).1;have jl:=(ae.mp O).1;have h:=U.lt i j (by rw[J];exact il) (by rw[J];exact jl);have e:ZI (YW q) i j=q.findIdx (· == J2 a b):=by
  unfold ZI YW;rw[Zb,Zb,Zc,hi];show (Option.getD (q.map _)[j]? 0)=_;rw[Zc,O];rfl
 rw[e,J] at h;obtain⟨x,hx,M⟩:=kZ.mp h;rw[<-eq_of_beq M];exact hx
theorem Zof {j:List (List Nat)}(h:psB j=true):∃J,Zm9 j (j.getD 0 []).length J:=by
 unfold psB at h;simp only[ag,decide_eq_true_eq,aD] at h;obtain⟨⟨⟨⟨⟨U,Y⟩,h3⟩,h4⟩,h5⟩,q⟩:=h;cases hd:dfs j 61 [ac (j.getD 0 []).length] [ac (j.getD 0 []).length] with
 |none=>rw[hd] at q;cases q
 |some J=>
  rw[hd] at q;simp only[ag,decide_eq_true_eq,aD] at q;obtain⟨⟨⟨⟨g1,g2⟩,g3⟩,g4⟩,g5⟩:=q;have O:=ZlT g5;exact⟨J,U,Y,h3,h4,fun g M=>Zlj (h5 g M),hd,g1,g2,Zk9 g3,fun g M=>Zlj (g4 g M),O,ZmD O⟩
theorem ZmQ:((ac 10).all fun j=>psB [cyc (j+1)])=true:=by decide +kernel
theorem Zmh:((ac 4).all fun j=>psB [cyc (j+3),neg (j+3)])=true:=by decide +kernel
theorem Zml:(mnG.all psB)=true:=by decide +kernel
noncomputable def UI:List (List (List Nat)):=((ac 10).map fun j=>[cyc (j+1)])++(((ac 4).map fun j=>[cyc (j+3),neg (j+3)])++mnG)
noncomputable def ZkD (j:List (List Nat)):Prop:=psB j=true/\j∈UI
theorem ZmB {j:Nat}(h:j<10):ZkD [cyc (j+1)]:=⟨aD.mp ZmQ j (af.mpr h),bY _ (aN.mpr ⟨j,af.mpr h,rfl⟩)⟩
theorem ZmA {j:Nat}(h:j<4):ZkD [cyc (j+3),neg (j+3)]:=⟨aD.mp Zmh j (af.mpr h),aS _ (bY _ (aN.mpr ⟨j,af.mpr h,rfl⟩))⟩
theorem Zot {j:List (List Nat)}(h:j∈mnG):ZkD j:=⟨aD.mp Zml j h,aS _ (aS _ h)⟩
noncomputable def MkG (t:List (List Nat)):Prop:=∃(q:List (List Nat)) (k:Nat) (j:List (List Nat)) (os:List Nat),q∈UI/\Zm9 q k j/\Ord (YW j).length os/\t=ren (YW j) os
end Pm
namespace Pm
open PySem L2 PySem.Spec PyProof.Rows
section
variable {X:Cx}
theorem Zb6 {o e:Expr}{to te:TE}{q j M:Pos}(ho:PE X o to)(he:QE X e te)(n4:Wt e=true:=by rfl)
  (O:attributeBase o "append" X.env (eval o X.env)=eval o X.env:=by rfl)
  (Y:((backTo j (starEach [e] X.env)).all (fun x=>!x.1) && (backToKw j (keywordEach [] X.env)).all (fun x=>x.1.isSome)
   && decide (([e]:List Expr).length+([]:List Keyword).length+(if ([]:List Keyword).isEmpty then 0 else 1)<30))=true:=by rfl)
  (U:(q.endLine == j.line)=true:=by rfl) (hs:starEach [e] X.env=(false,eval e X.env)::starEach [] X.env:=by rfl) (J:(backTo j (starEach [] X.env)).any (·.1)=false:=by rfl)
  (n6:swapsWith (.Call (.Attribute o "append" q) [e] [] j) none M.line X.env=pure false:=by rfl) :
  QS X (.Expr (.Call (.Attribute o "append" q) [e] [] j) M) (ZgA (tBM X.K "list" ZaT to (ZbH te ZiW))):=⟨Yv (Wm aM aR aT Z2 ho (pc he.h Zs n4) O Y U hs J) n6⟩
theorem Zod {c:Expr}{a b:List Stmt}{j:TT}{t u:TS}{pos:Pos}(q:PT X c j)(J:QSs X a t)(hb:PSs X b u):QS X (.If c a b pos) (ZnI j t u):=⟨Y9 q J.h hb⟩
theorem Zoc {st:Stmt}{t:TS}(j:QS X st t):QSs X [st] t:=⟨Zv j.h⟩
theorem Zob {op:lE}{r:R2}{a b:Expr}{j tb:TE}{pos:Pos}(q:Xb X (binaryOp op) r)(J:PE X a j)(hb:QE X b tb):QE X (.BinOp a op b pos) (tOp r j tb):=⟨Zz q J hb.h⟩
end
noncomputable def Wu (H:Hp)(M:Addr)(ls:List Addr)(j:List (List (List Nat))):Prop:=H M=some (.lst (ls.map V.ref))/\ls.length=j.length/\∀(i:Nat) l,ls[i]?=some l->l≠M/\∃bs,TupsAt H l bs (j.getD i [])
theorem Wu.mono {H j:Hp}{M:Addr}{ls:List Addr}{mn:List (List (List Nat))}(s:Same H j)(h:Wu H M ls mn):Wu j M ls mn:=
 ⟨s _ _ h.1,h.2.1,fun i l q=>let ⟨a,bs,b⟩:=h.2.2 i l q;⟨a,bs,b.mono s⟩⟩
theorem TupsAt.updM {H:Hp}{L M:Addr}{bs:List Addr}{yss:List (List Nat)}{vs:List V}{o:HO}(R:TupsAt H L bs yss)(j:H M=some (.lst vs))(q:L≠M):TupsAt (upd H M o) L bs yss:=
 ⟨by rw[Zx q];exact R.1,R.2.1,fun i b hb=>by
  have:=R.2.2 i b hb;rw[Zx (fun z=>by rw[z,j] at this;cases this)];exact this⟩
theorem Wu.push {H:Hp}{M S:Addr}{ls bs:List Addr}{mn:List (List (List Nat))}{xss:List (List Nat)}(h:Wu H M ls mn)(O:TupsAt H S bs xss)(q:S≠M):Wu (upd H M (.lst (ls.map V.ref++[.ref S]))) M (ls++[S]) (mn++[xss]):=by
 refine⟨by rw[Zt,aU];rfl,by rw[Zd,Zd,h.2.1];rfl,fun i l j=>?_⟩;by_cases J:i<ls.length
 ·rw[aw J] at j
  obtain⟨a,cs,b⟩:=h.2.2 i l j;refine⟨a,cs,?_⟩;rw[Zb,aw (by rw[<-h.2.1];exact J),<-Zb];exact b.updM h.1 a
 ·rw[ax (by omega)] at j
  have U:i-ls.length=0:=by
   apply am;intro z;rw[ah (by rw[Zk];omega)] at j;cases j
  rw[U] at j;cases j;have:i=mn.length:=by rw[<-h.2.1];omega
  refine⟨q,bs,?_⟩;rw[this,Zb,ax (Zq _),de];exact O.updM h.1 q
end Pm
namespace C39
open PySem L2 PySem.Spec PyProof.Rows
open Tb Pm
noncomputable abbrev ZnW:Stmt:=top 51
noncomputable abbrev ZgW:Stmt:=top 52
noncomputable abbrev Zg5:Stmt:=top 53
noncomputable def ZkR:Sp:=fun q H Q _=>∃(m:Nat),q=[.int m]/\1<=m/\m<=60/\∀r j,H r=none->Same H j->j r=some (.tup ((cyc m).map nV))->Q (.ref r) j
noncomputable def Zec:Sp:=fun J H Q _=>∃(p:Addr) (b:Nat) (M:Bool),J=[.ref p,.bl M]/\Wo H p b/\b+2<2 ^ 60/\∀L bs q j,Tk p H j->Wo j p (b+2)->ZkD q->TupsAt j L bs q->Q (.ref L) j
noncomputable def ZaE:Sp:=fun q H Q _=>∃(f g:Addr) (k:Nat) (x y:List Nat),q=[.ref f,.ref g]/\H f=some (.tup (x.map nV))/\H g=some (.tup (y.map nV))/\Gk k x/\Gk k y/\k<=1000/\∀r j,H r=none->Same H j->j r=some (.tup ((J2 x y).map nV))->Q (.ref r) j
noncomputable def ZmK (m:Nat):V->V
 | .int z=>nV ((z.toNat+1) % m)
 |y=>y
noncomputable def ZmJ (m:Nat):V->V
 | .int z=>nV ((m-z.toNat) % m)
 |y=>y
theorem TupsAt.tk {H j:Hp}{p L:Addr}{b:Nat}{bs:List Addr}{yss:List (List Nat)}(T:Wo H p b)(d:Tk p H j)(R:TupsAt H L bs yss):TupsAt j L bs yss:=⟨d.lst T R.1,R.2.1,fun i b hb=>d.tup T (R.2.2 i b hb)⟩
section
variable {P:Program}{w:World}{K:ab}{mg:Str->Option Value}{base:Heap}
theorem Zmg {f:Addr}{fd:FuncData}(F:Y5 K "_law_cycle" "_law_cycle" ZnW f fd)(T:BlB mg):ZR P w K mg base ZT 1 f fd ["_law_many"] ZkR:=by
 refine F.ok (FS (N:=["_law_many"])) (fun Y H Q E h=>?_) (fun n4 A j s H Y Q E hr h=>?_)
 ·obtain⟨m,rfl,_⟩:=h;rfl
 ·obtain⟨m,rfl,m1,n6,q⟩:=h
  refine⟨_,Zv (ZD (ct ZE T.tuple (pc (cmp ["_law_place"] [0] ["_law_place", "_law_many"] rfl (XV T.range (pc (vn 0) Zs)) (fun _ _ _ _ _=>gn 0) (fun _ _ _ _ _=>ZN)
   (fun _ _ _ _ _=>Zz Z5 (Zz YN (vn 0) Zw) (vn 1))) Zs))),?_⟩
  refine⟨_,rfl,_,rfl,by omega,by omega,?_⟩;rw[Zj];refine Y3 (Je 0 m) [some (.int (m:Nat))] rfl (ZmK m) (by rw[Za,Yx];omega) (fun i x M hx J R gg=>?_) (fun D M nD J O=>?_)
  ·obtain⟨hi,rfl⟩:=ZaR hx
   have fin:=gg M (Same.refl _);have e:ZmK m (.int (i:Nat))=V.int (((i:Int)+1) % (m:Int)):=by
    show V.int ((((i:Int).toNat+1) % m:Nat):Int)=_;rw[Zj,a9];rfl
   rw[e] at fin;exact⟨_,rfl,_,_,rfl,rfl,_,rfl,_,_,rfl,rfl,(by show (0:Int)<(m:Int);omega),fin⟩
  ·have e:((YX 0 m).map V.int).map (ZmK m)=(cyc m).map nV:=by
    rw[Zjb];unfold cyc;rw[aK,aK];refine a8 fun i _=>?_;show nV (((i:Int).toNat+1) % m)=nV ((i+1) % m);rw[Zj]
   rw[e] at O;exact⟨D,_,rfl,.inl ⟨.of O,fun r U=>q r _ (J.free U) (J.trans (Same.upd U)) Zt⟩⟩
theorem ZhG {f:Addr}{fd:FuncData}(F:Y5 K "_law_after" "_law_after" Zg5 f fd)(T:BlB mg):ZR P w K mg base ZT 1 f fd ["_law_one", "_law_other"] ZaE:=by
 refine F.ok (FS (N:=["_law_one", "_law_other"])) (fun vs H Q E h=>?_) (fun n4 A M s H vs Q E hr h=>?_)
 ·obtain⟨f,g,k,x,y,rfl,_⟩:=h;rfl
 ·obtain⟨f,g,k,x,y,rfl,hf,U,gx,Y,k10,q⟩:=h
  refine⟨_,Zv (ZD (ct ZE T.tuple (pc (cmp ["_law_place"] [0] ["_law_place", "_law_one"] rfl (itT K (vn 1)) (fun _ _ _ _ _=>gn 0) (fun _ _ _ _ _=>ZN)
   (fun _ _ _ _ _=>ZM (Jp K) (vn 1) (vn 0) (fun _ _=>rfl))) Zs))),?_⟩
  refine⟨_,rfl,g,rfl,⟨_,.of U⟩,?_⟩;refine Y3 (Yu (K:=K) (.of U)) [some (.ref f)] rfl (ZmL x) (by rw[Za,Y.1];omega) (fun i v H' hx J R gg=>?_) (fun D H' nD J hD=>?_)
  ·obtain⟨j,hj,rfl⟩:=Zdu hx
   have O:=Y.2 j (av hj);have fin:=gg H' (Same.refl _);have e:ZmL x (.int (j:Nat))=nV (x.getD j 0):=by
    show nV (x.getD (j:Int).toNat 0)=_;rw[Zj]
   rw[e] at fin;exact⟨_,rfl,_,rfl,f,_,_,_,rfl,rfl,.of (J _ _ hf),Zoj (by rw[gx.1];exact O),fin⟩
  ·rw[Zil] at hD
   exact⟨D,_,rfl,.inl ⟨.of hD,fun r nr=>q r _ (J.free nr) (J.trans (Same.upd nr)) Zt⟩⟩
end
section
variable {P:Program}{w:World}{K:ab}{mg:Str->Option Value}{base:Heap}
theorem VS {H:Hp}{L c:Addr}{x:List Nat}(h:H L=some (.lst [.ref c]))(j:H c=some (.tup (x.map nV))):TupsAt H L [c] [x]:=⟨h,rfl,fun i b hb=>by
 cases i with
 |zero=>cases hb;exact j
 |succ i=>cases hb⟩
theorem Zgt {H:Hp}{L c d:Addr}{x y:List Nat}(h:H L=some (.lst [.ref c,.ref d]))(j:H c=some (.tup (x.map nV)))(q:H d=some (.tup (y.map nV))):TupsAt H L [c,d] [x,y]:=⟨h,rfl,fun i b hb=>by
 cases i with
 |zero=>cases hb;exact j
 |succ i=>
  cases i with
  |zero=>cases hb;exact q
  |succ i=>cases hb⟩
theorem ZjU {m i:Nat}(h:i<m):(-(i:Int)) % (m:Int)=(((m-i) % m:Nat):Int):=by
 rw[a9,Int.ofNat_sub (by omega),show (m:Int)-(i:Int)=-(i:Int)+(m:Int)*1 by omega,Int.add_mul_emod_self_left]
theorem JF {K:ab}{i:Nat}{M:Addr}{σ:L2.St}{j H:Hp}{ls:List Addr}{mn:List (List (List Nat))}{xss:List (List Nat)}{D:Xc}(J:σ[i]?=some (some (.ref M)))(m:Wu H M ls mn)(s:Same j H)(nM:j M=none)(hx:∀x∈xss,x.length<=1000)(hk:xss.length<=1000)(hl:mn.length<=1000)
  (q:∀S O,Same j O->Wu O M (ls++[S]) (mn++[xss])->D.nx σ O):ZgA (tBM K "list" ZaT (Zlz i) (ZbH (teL xss) ZiW)) D σ H:=by
 have sz:(16777216:Nat)=sizeLine:=by decide
 refine⟨_,J,.inl ⟨rfl,_,.of m.1⟩,Zgz xss hx hk fun bs H1 s1 hb hi S U=>?_⟩;have s2:=s1.trans (Same.upd (o:=.lst (bs.map V.ref)) U);have m2:=m.mono s2;have nS:S≠M:=fun z=>by
  have:=s1 _ _ m.1;rw[<-z,U] at this;cases this
 have R:TupsAt (upd H1 S (.lst (bs.map V.ref))) S bs xss:=⟨Zt,hb,fun i b Y=>Same.upd (o:=.lst (bs.map V.ref)) U _ _ (hi i b Y)⟩;refine⟨M,_,_,rfl,rfl,m2.1,by rw[Za,m.2.1];omega,q S _ ((s.trans s2).updr nM) (m2.push R nS)⟩
theorem Zhx {f:Addr}{fd:FuncData}(F:Y5 K "_law_perms" "_law_perms" ZgW f fd)(T:BlB mg)(GP:Fn P w K mg base ZT 1 "_law_pick" ["_law_tape_here", "_law_many"] Zdc)(GC:Fn P w K mg base ZT 1 "_law_cycle" ["_law_many"] ZkR):ZR P w K mg base ZT 2 f fd ["_law_tape_here", "_law_great"] Zec:=by
 refine F.ok (FS (N:=["_law_tape_here", "_law_great", "_law_way", "_law_many", "_law_menu"])) (fun vs H Q E h=>?_) (fun p7 A o5 s H vs Q E hr h=>?_)
 ·obtain⟨p,b,gr,rfl,_⟩:=h;rfl
 ·obtain⟨p,b,gr,rfl,T0,hb,q⟩:=h
  refine⟨_,QSs.out (WT ⟨ZH 2 rfl (YC GP hr ZF (pc (vn 0) (pc Zw Zs)))⟩
   (WT ⟨Y9 (ZP ZeF (vn 2) Zw (ZW _)) (Zv (ZD (ZS (pc (YC GC hr ZF (pc (Zz YN Zw (YC GP hr ZF (pc (vn 0) (pc Zw Zs)))) Zs)) Zs)))) Yf⟩
   (WT ⟨Y9 (ZP ZeF (vn 2) Zw (ZW _))
    (Zu (ZH 3 rfl (Zz YN Zw (YC GP hr ZF (pc (vn 0) (pc Zw Zs)))))
    (Zv (ZD (ZS (pc (YC GC hr ZF (pc (vn 3) Zs)) (pc (ct ZE T.tuple (pc (cmp ["_law_place"] [3] ["_law_place", "_law_many"] rfl (XV T.range (pc (vn 3) Zs)) (fun _ _ _ _ _=>gn 0) (fun _ _ _ _ _=>ZN)
     (fun _ _ _ _ _=>Zz Z5 (J0 WS (vn 0)) (vn 1))) Zs)) Zs)))))) Yf⟩
   (WT (Zk7 4 rfl (Zoa (qal (Xs (qan (Y8 [1,0,2,3] (qa qi (qa qi (qa qi (qa qi YA)))) (by rfl)) (qan (Y8 [0,1,3,2] (qa qi (qa qi (qa qi (qa qi YA)))) (by rfl)) Wx))) (qal (Xs (qan (Y8 [1,0,2,3,4,5] (qa qi (qa qi (qa qi (qa qi (qa qi (qa qi YA)))))) (by rfl)) (qan (Y8 [0,1,3,4,5,2] (qa qi (qa qi (qa qi (qa qi (qa qi (qa qi YA)))))) (by rfl)) Wx))) ZeB))))
   (WT (Zb6 (vn 4) (Xs (qan (Y8 [1,2,0,3] (qa qi (qa qi (qa qi (qa qi YA)))) (by rfl)) (qan (Y8 [1,0,3,2] (qa qi (qa qi (qa qi (qa qi YA)))) (by rfl)) Wx)))) (WT (Zb6 (vn 4) (Xs (qan (Y8 [1,2,3,0,5,6,7,4] (qa qi (qa qi (qa qi (qa qi (qa qi (qa qi (qa qi (qa qi YA)))))))) (by rfl)) (qan (Y8 [4,7,6,5,2,1,0,3] (qa qi (qa qi (qa qi (qa qi (qa qi (qa qi (qa qi (qa qi YA)))))))) (by rfl)) Wx)))) (WT (Zb6 (vn 4) (Xs (qan (Y8 [1,2,0,3,4,5,6] (qa qi (qa qi (qa qi (qa qi (qa qi (qa qi (qa qi YA))))))) (by rfl)) (qan (Y8 [0,2,1,4,5,6,3] (qa qi (qa qi (qa qi (qa qi (qa qi (qa qi (qa qi YA))))))) (by rfl)) Wx)))) (WT (Zb6 (vn 4) (Xs (qan (Y8 [1,2,0,3,4,5] (qa qi (qa qi (qa qi (qa qi (qa qi (qa qi YA)))))) (by rfl)) (qan (Y8 [0,1,2,4,5,3] (qa qi (qa qi (qa qi (qa qi (qa qi (qa qi YA)))))) (by rfl)) Wx))))
   (WT (Zod (XY (vn 1)) (WT (Zk7 4 rfl (Zob Zho (vn 4) (Zoa (qal (Xs (qan (Y8 [1,2,3,4,0] (qa qi (qa qi (qa qi (qa qi (qa qi YA))))) (by rfl)) (qan (Y8 [0,2,4,1,3] (qa qi (qa qi (qa qi (qa qi (qa qi YA))))) (by rfl)) Wx))) (qal (Xs (qan (Y8 [1,2,3,0] (qa qi (qa qi (qa qi (qa qi YA)))) (by rfl)) (qan (Y8 [1,0,2,3] (qa qi (qa qi (qa qi (qa qi YA)))) (by rfl)) Wx))) ZeB))))) (Zoc (Zb6 (vn 4) (Xs (qan (Y8 [1,2,3,4,5,6,0] (qa qi (qa qi (qa qi (qa qi (qa qi (qa qi (qa qi YA))))))) (by rfl)) (qan (Y8 [0,2,4,6,1,3,5] (qa qi (qa qi (qa qi (qa qi (qa qi (qa qi (qa qi YA))))))) (by rfl)) Wx)))))) Yf)
   ⟨Zv (ZD (ZM (ixL K) (vn 4) (YC GP hr ZF (pc (vn 0) (pc (cb (YB K) T.len (pc (vn 4) Zs)) Zs))) (fun _ _=>rfl)))⟩))))))))),?_⟩
  have sz:(16777216:Nat)=sizeLine:=by decide
  refine⟨_,rfl,p,8,b,rfl,T0,by omega,by decide,by decide,fun r H1 a0 a1 k1 T1=>?_⟩;refine⟨_,rfl,_,_,rfl,rfl,_,rfl,Y0 (fun _=>?_) (fun _=>?_)⟩
  ·refine⟨_,rfl,p,10,b+1,rfl,T1,by omega,by decide,by decide,fun r2 U c0 c1 k2 T2=>?_⟩
   obtain⟨j,rfl⟩:=bB c0;have hj:j<10:=by omega
   refine⟨_,_,rfl,rfl,j+1,?_,by omega,by omega,fun c H3 nc s3 hc=>⟨(by show 1<=sizeLine;decide),fun L nL=>?_⟩⟩
   ·show [V.int (1+(j:Int))]=[V.int ((j+1:Nat):Int)]
    rw[show (1:Int)+(j:Int)=((j+1:Nat):Int) by omega]
   ·have s4:=s3.trans (Same.upd (o:=.lst [.ref c]) nL)
    exact q L [c] [cyc (j+1)] _ ((k1.trans k2).trans (Tk.of s4)) (T2.mono s4) (ZmB hj) (VS Zt (Same.upd nL _ _ hc))
  refine⟨_,rfl,_,_,rfl,rfl,_,rfl,Y0 (fun _=>?_) (fun _=>?_)⟩
  ·refine⟨_,rfl,p,4,b+1,rfl,T1,by omega,by decide,by decide,fun r2 U c0 c1 k2 T2=>⟨_,_,rfl,rfl,?_⟩⟩
   obtain⟨j,rfl⟩:=bB c0;have hj:j<4:=by omega
   have e3:(3:Int)+(j:Int)=((j+3:Nat):Int):=by omega
   dsimp only;rw[e3];refine⟨_,rfl,j+3,rfl,by omega,by omega,fun c H3 nc s3 hc=>?_⟩;refine⟨_,rfl,_,rfl,by omega,by omega,?_⟩;rw[Zj];refine Y3 (Je 0 (j+3)) [some (.int ((j+3:Nat):Int))] rfl (ZmJ (j+3)) (by rw[Za,Yx];omega) (fun i x H' hx s' R gg=>?_) (fun D H4 nD s4 hD=>?_)
   ·obtain⟨hi,rfl⟩:=ZaR hx
    have fin:=gg H' (Same.refl _);have e:ZmJ (j+3) (.int (i:Nat))=V.int ((-(i:Int)) % ((j+3:Nat):Int)):=by
     show V.int ((((j+3)-(i:Int).toNat) % (j+3):Nat):Int)=_;rw[Zj,ZjU hi]
    rw[e] at fin;exact⟨_,rfl,_,rfl,_,rfl,_,_,rfl,rfl,(by show (0:Int)<((j+3:Nat):Int);omega),fin⟩
   ·have e:((YX 0 (j+3)).map V.int).map (ZmJ (j+3))=(neg (j+3)).map nV:=by
     rw[Zjb];unfold neg;rw[aK,aK];refine a8 fun i _=>?_;show nV ((j+3-(i:Int).toNat) % (j+3))=nV ((j+3-i) % (j+3));rw[Zj]
    rw[e] at hD;refine⟨D,_,rfl,.inl ⟨.of hD,fun d nd=>⟨(by show 2<=sizeLine;decide),fun L nL=>?_⟩⟩⟩;have s5:=Same.upd (o:=.lst [.ref c,.ref d]) nL;have s6:=(s3.trans s4).trans ((Same.upd (o:=.tup ((neg (j+3)).map nV)) nd).trans s5);exact q L [c,d] [cyc (j+3),neg (j+3)] _ ((k1.trans k2).trans (Tk.of s6)) (T2.mono s6) (ZmA hj) (Zgt Zt (s5 _ _ (Same.upd nd _ _ (s4 _ _ hc))) (s5 _ _ Zt))
  have out:∀(M:Addr) (Y:List Addr) (mn:List (List (List Nat))) (H9 U:Hp) {j:Nat}{Gl:Prop},Same H1 H9->Wu H9 M Y mn->(∀ps∈mn,ps∈mnG)->Tk p H9 U->Wo U p (b+1+1)->(j:Int)<(mn.length:Nat)->(∀{l:Addr},U M=some (.lst (Y.map V.ref))->XO (Y.map V.ref) (j:Int)=some (.ref l)->Q (.ref l) U->Gl)->Gl:=fun M Y mn H9 U {j Gl} s9 m o6 k2 T2 hj fin=>by
   have o7:j<Y.length:=by rw[m.2.1];omega
   obtain⟨l,hl,n4⟩:=Zjc o7;obtain⟨_,bs,R⟩:=m.2.2 j l hl;have T9:=T1.mono s9;have hm:mn.getD j []∈mn:=by
    rw[Zb,Zf (show j<mn.length by omega)];exact bg _
   exact fin (k2.lst T9 m.1) n4 (q l bs _ U ((k1.trans (Tk.of s9)).trans k2) T2 (Zot (o6 _ hm)) (TupsAt.tk T9 k2 R))
  refine Zi9 (ZbG mn1 (by decide) (by decide) fun Y U s2 o8 o9 M hM=>?_);have s3:=s2.trans (Same.upd (H:=U) (o:=.lst (Y.map V.ref)) hM);have nM:H1 M=none:=s2.free hM;have m0:Wu (upd U M (.lst (Y.map V.ref))) M Y mn1:=⟨Zt,o8,fun i l hl=>by
   obtain⟨u1,bs,u2⟩:=o9 i l hl;refine⟨fun z=>?_,bs,u2.mono (Same.upd hM)⟩;have:=u2.1;rw[z,hM] at this;cases this⟩
  generalize upd U M (.lst (Y.map V.ref))=H3 at s3 m0 ⊢;refine JF (xss:=ma1) rfl m0 s3 nM (by decide) (by decide) (by decide) fun S1 H4 s4 m4=>?_;refine JF (xss:=ma2) rfl m4 s4 nM (by decide) (by decide) (by decide) fun S2 H5 s5 m5=>?_;refine JF (xss:=ma3) rfl m5 s5 nM (by decide) (by decide) (by decide) fun S3 H6 s6 m6=>?_;refine JF (xss:=ma4) rfl m6 s6 nM (by decide) (by decide) (by decide) fun S4 H7 s7 m7=>?_;replace m7:Wu H7 M (Y++[S1]++[S2]++[S3]++[S4]) mnS:=m7;generalize Y++[S1]++[S2]++[S3]++[S4]=L5 at m7;refine⟨_,rfl,gr,rfl,Y0 (fun _=>?_) (fun _=>?_)⟩
  ·refine⟨_,rfl,ZbG mn2 (by decide) (by decide) fun J H8 s8 n8 p3 M' p4=>?_⟩
   have s9:=Same.upd (H:=H8) (o:=.lst (J.map V.ref)) p4;have hA:=m7.mono (s8.trans s9);refine⟨M,M',_,_,rfl,rfl,hA.1,Zt,by rw[Za,Za,hA.2.1,n8];decide,fun N nN=>?_⟩;have sX:=Same.upd (o:=.lst (L5.map V.ref++J.map V.ref)) nN;have n9:=((s7.trans s8).trans s9).trans sX;have p6:H1 N=none:=((s7.trans s8).trans s9).free nN;have mN:Wu (upd (upd H8 M' (.lst (J.map V.ref))) N (.lst (L5.map V.ref++J.map V.ref))) N (L5++J) (mnS++mn2):=by
    have lm:L5.length=mnS.length:=hA.2.1;refine⟨by rw[Zt,aU],by rw[Zd,Zd,lm,n8],fun i l hl=>?_⟩;have go:∀{H':Hp}{l:Addr}{bs:List Addr}{O:List (List Nat)},TupsAt H' l bs O->Same H' (upd H8 M' (.lst (J.map V.ref)))->l≠N:=fun {H' l bs O} R s z=>by
     have:=s _ _ R.1;rw[z,nN] at this;cases this
    by_cases hi:i<L5.length
    ·rw[aw hi] at hl
     obtain⟨_,bs,u2⟩:=hA.2.2 i l hl;refine⟨go u2 (Same.refl _),bs,?_⟩;rw[Zb,aw (by rw[<-lm];exact hi),<-Zb];exact u2.mono sX
    ·rw[ax (by omega)] at hl
     obtain⟨_,bs,u2⟩:=p3 _ l hl;refine⟨go u2 s9,bs,?_⟩;rw[Zb,ax (by rw[<-lm];omega),<-lm,<-Zb];exact u2.mono (s9.trans sX)
   generalize upd (upd H8 M' (.lst (J.map V.ref))) N (.lst (L5.map V.ref++J.map V.ref))=HN at n9 mN ⊢;refine JF (xss:=ma5) rfl mN n9 p6 (by decide) (by decide) (by decide) fun S5 H9 o0 n6=>?_;refine⟨_,rfl,_,rfl,_,rfl,N,_,rfl,.inl (.of n6.1),?_⟩;rw[Za,n6.2.1];refine⟨p,_,b+1,rfl,T1.mono o0,by omega,by decide,by decide,fun r2 U c0 c1 k2 T2=>?_⟩;obtain⟨j,rfl⟩:=bB c0;exact out _ _ _ _ _ o0 n6 (by decide) k2 T2 c1 fun hM n4 R=>⟨N,_,_,_,rfl,rfl,.of hM,n4,R⟩
  ·refine⟨_,rfl,_,rfl,_,rfl,M,_,rfl,.inl (.of m7.1),?_⟩
   rw[Za,m7.2.1];refine⟨p,_,b+1,rfl,T1.mono s7,by omega,by decide,by decide,fun r2 U c0 c1 k2 T2=>?_⟩;obtain⟨j,rfl⟩:=bB c0;exact out _ _ _ _ _ s7 m7 (by decide) k2 T2 c1 fun hM n4 R=>⟨M,_,_,_,rfl,rfl,.of hM,n4,R⟩
end
end C39
namespace Pm
open PySem L2 PySem.Spec PyProof.Rows
open Tb
theorem neC {X:Cx}(K:ab)(J:X.A.units+64<cLine)(M:X.K=K:=by rfl):Xb X (compareOp .NotEq) (fun x y H Q=>∃j q,UX K H x j/\UX K H y q/\cY j=true/\cY q=true/\Q (.bl (!eY j q)) H):=M▸Zl7 J
theorem Zin (ds:List fk):eY (.list ds) (.list [])=ds.isEmpty:=by
 cases ds with
 |nil=>rfl
 |cons d r=>rfl
noncomputable def dT (x:List Nat):fk:=ce ((nI x).map aO)
theorem Zbk:∀yss:List (List Nat),cF (yss.map dT)=true
 | []=>rfl
 |y::yss=>by
  show (d0 (.tuple ((nI y).map aO)) && cF (yss.map dT))=true;rw[Zbk yss,Jn];rfl
theorem Zak:∀yss:List (List Nat),bO (yss.map dT)<=60
 | []=>aX _
 |y::yss=>by
  show max (cW (.tuple ((nI y).map aO))) (bO (yss.map dT))<=60;exact Nat.max_le.mpr ⟨JS _,Zak yss⟩
theorem ZbP (yss:List (List Nat)):cY (.list (yss.map dT))=true:=by
 unfold cY;have j:d0 (.list (yss.map dT))=true:=Zbk yss;have q:cW (.list (yss.map dT))<=64:=by
  have:=Zak yss;show bO (yss.map dT)+1<=64;omega
 simp only[j,kG,dW,decide_eq_true_eq];exact q
theorem TupsAt.rds {K:ab}{H:Hp}{L:Addr}{bs:List Addr}{yss:List (List Nat)}(R:TupsAt H L bs yss):Wq K H (bs.map V.ref) (yss.map dT):=ZaS bs yss R.2.1 R.2.2
theorem TupsAt.rd {K:ab}{H:Hp}{L:Addr}{bs:List Addr}{yss:List (List Nat)}(R:TupsAt H L bs yss):UX K H (.ref L) (.list (yss.map dT)):=.lst (.of R.1) R.rds
theorem TupsAt.pop {H:Hp}{L:Addr}{bs:List Addr}{yss:List (List Nat)}(R:TupsAt H L bs yss):TupsAt (upd H L (.lst (bs.map V.ref).dropLast)) L bs.dropLast yss.dropLast:=by
 refine⟨by rw[Zt,List.map_dropLast],by rw[eG,eG,R.2.1],fun i b hb=>?_⟩;have j:i<bs.length-1:=by
  have:=(ae.mp hb).1;rw[eG] at this;exact this
 rw[kW,if_pos j] at hb;have h:=R.2.2 i b hb;rw[Zx (fun z=>by rw[z,R.1] at h;cases h),h,Zb,Zb,kW,if_pos (by rw[<-R.2.1];exact j)]
theorem Zc6 (j:List Nat){q:List (List Nat)}{s:List (List Nat)×List (List Nat)}{i:Nat}{g:List Nat}(h:q[i]?=some g):Yw j (q.take (i+1)) s=if (Yw j (q.take i) s).1.contains (J2 j g) then Yw j (q.take i) s else ((Yw j (q.take i) s).1++[J2 j g],(Yw j (q.take i) s).2++[J2 j g]):=by
 unfold Yw;rw[c8,h,i9];rfl
theorem XS (j:List Nat):∀(q:List (List Nat)) (s:List (List Nat)×List (List Nat)),s.1.length<=(Yw j q s).1.length
 | [],s=>Zq _
 |p::q,s=>by
  show s.1.length<=(Yw j q (if s.1.contains (J2 j p) then s else (s.1++[J2 j p],s.2++[J2 j p]))).1.length
  refine a5 ?_ (XS j q _);split
  ·exact Zq _
  ·show s.1.length<=(s.1++[J2 j p]).length
   rw[Zd];omega
theorem Zc7 (j:List Nat)(q:List (List Nat))(s:List (List Nat)×List (List Nat))(i:Nat):(Yw j (q.take i) s).1.length<=(Yw j q s).1.length:=by
 have:Yw j q s=Yw j (q.drop i) (Yw j (q.take i) s):=by
  unfold Yw;rw[<-i9,List.take_append_drop]
 rw[this];exact XS _ _ _
theorem Ze3 (q:List (List Nat)):∀(f:Nat) (fd j r:List (List Nat)),dfs q f fd j=some r->fd.length<=r.length
 |f,fd,[],r,h=>by
  have:fd=r:=by cases f <;> exact ay h
  rw[this];exact Zq _
 |0,fd,_::_,r,h=>by cases h
 |f+1,fd,x::j,r,h=>by
  exact a5 (XS ((x::j).getLast?.getD []) q (fd,(x::j).dropLast)) (Ze3 q f (Yw ((x::j).getLast?.getD []) q (fd,(x::j).dropLast)).1 (Yw ((x::j).getLast?.getD []) q (fd,(x::j).dropLast)).2 r h)
theorem Zcv (x:List Nat)(r:List (List Nat)):(x::r).getD ((x::r).length-1) []=(x::r).getLast?.getD []:=by
 rw[List.getLast?_eq_getElem?,Zb]
end Pm
namespace C39
open PySem L2 PySem.Spec PyProof.Rows
open Tb Pm
noncomputable abbrev Zem:Stmt:=top 54
noncomputable def ZbM:Sp:=fun M H Q _=>∃(L:Addr) (bs:List Addr) (q:List (List Nat)) (k:Nat) (J:List (List Nat)),M=[.ref L]/\TupsAt H L bs q/\Zm9 q k J/\∀D O j,H D=none->Same H j->TupsAt j D O J->Q (.ref D) j
section
variable {P:Program}{w:World}{K:ab}{mg:Str->Option Value}{base:Heap}
theorem ZfA {f:Addr}{fd:FuncData}(F:Y5 K "_law_things" "_law_things" Zem f fd)(T:BlB mg)(GA:Fn P w K mg base ZT 1 "_law_after" ["_law_one", "_law_other"] ZaE):ZR P w K mg base ZT 2 f fd ["_law_perms_here"] ZbM:=by
 refine F.ok (FS (N:=["_law_perms_here", "_law_found", "_law_line", "_law_here", "_law_perm", "_law_later"])) (fun vs H Q E h=>?_) (fun cdv A x9 s H vs Q E hr h=>?_)
 ·obtain⟨L,bs,M,k,fd,rfl,_⟩:=h;rfl
 ·obtain⟨L,bs,M,k,o5,rfl,R0,B,q⟩:=h
  refine⟨_,Zu (ZH 1 rfl (ZS (pc (ct (UG rfl) T.tuple (pc (ct ZcQ T.range (pc (cb (YB K) T.len (pc (ZM (ixL K) (vn 0) Zw (fun _ _=>rfl)) Zs)) Zs)) Zs)) Zs)))
   (Zu (ZH 2 rfl (ct XJ T.list (pc (vn 1) Zs)))
   (Zu (Yk aq (ZP (neC K hr.units) (vn 2) (ZS Zs) (ZW _))
    (Zu (ZH 3 rfl (Zl1 aM f9 kw Zmk (vn 2)))
    (Zv (ZQ aq rfl (itL K (vn 0)) (gn 4)
     (Zu (ZH 5 rfl (YC GA hr ZF (pc (vn 3) (pc (vn 4) Zs))))
     (Zv (Y9 (ZP (Zok K hr.units) (vn 5) (vn 1) (by rfl))
      (Zu (Yv (Wm aM aR aT Z2 (vn 1) (pc (vn 5) Zs)))
      (Zv (Yv (Wm aM aR aT Z2 (vn 2) (pc (vn 5) Zs))))) Yf)))))))
   (Zv (ZD (vn 1))))),?_⟩
  have sz:(16777216:Nat)=sizeLine:=by decide
  have k1:=B.k1;have k10:=B.k10;have p1:=B.p1;have p9:=B.p9;have n60:=B.n60;obtain⟨b0,_,t0,y4⟩:=R0.get (i:=0) (by omega);have e0:((M.getD 0 []).map nV).length=k:=by rw[Za];exact (B.pl _ (Zdv (by omega))).1
  refine⟨_,rfl,L,_,_,_,rfl,rfl,.of R0.1,t0,b0,_,rfl,.inr (.of y4),_,rfl,fun r0 y6=>⟨r0,0,_,rfl,Zt,⟨by omega,by omega,by rw[e0];omega,by rw[e0];omega⟩,by rw[e0];omega,fun l hl=>?_⟩⟩;rw[e0] at hl ⊢;have ek:((k:Int)-0).toNat=k:=by omega
  rw[ek] at *;refine⟨(by show 1<=sizeLine;decide),fun D o6=>?_⟩;have s1:Same H (upd H r0 (.rng 0 (k:Int))):=Same.upd y6;have s2:=s1.trans (Same.upd (o:=.tup ((YX 0 k).map V.int)) hl);have s3:=s2.trans (Same.upd (o:=.lst [.ref l]) o6);have nD:H D=none:=s2.free o6;have R1:TupsAt (upd (upd (upd H r0 (.rng 0 (k:Int))) l (.tup ((YX 0 k).map V.int))) D (.lst [.ref l])) D [l] [ac k]:=VS Zt (by
   rw[Zx (fun z=>by rw[<-z,Zt] at o6;cases o6),Zt,Zjb])
  generalize upd (upd (upd H r0 (.rng 0 (k:Int))) l (.tup ((YX 0 k).map V.int))) D (.lst [.ref l])=H3 at s3 R1 ⊢;refine⟨_,rfl,D,[.ref l],rfl,.inl (.of R1.1),fun Ln p7=>?_⟩;have s4:=Same.upd (H:=H3) (o:=.lst [.ref l]) p7;have nL:H Ln=none:=s3.free p7;have p8:D≠Ln:=fun z=>by
   have:=R1.1;rw[z,p7] at this;cases this
  have R2:TupsAt (upd H3 Ln (.lst [.ref l])) Ln [l] [ac k]:=VS Zt (s4 _ _ (R1.2.2 0 l rfl));have t5:=R1.mono s4;have t6:=s3.trans s4;generalize upd H3 Ln (.lst [.ref l])=H4 at t6 t5 R2 ⊢;have g0:∀y∈[ac k],Gk k y:=fun y hy=>by
   rw[aQ.mp hy];exact⟨Zg,fun x hx=>af.mp hx⟩
  refine Yb (fun m n8 H'=>∃(cs U:List Addr) (j ln:List (List Nat)) (v3 v4 v5:Option V),n8=[some (.ref L),some (.ref D),some (.ref Ln),v3,v4,v5]/\Same H H'/\TupsAt H' D cs j/\TupsAt H' Ln U ln/\(∀y∈j,Gk k y)/\(∀y∈ln,Gk k y)/\ln.length<=j.length/\dfs M m j ln=some o5)
   (fun n8 H'=>∃(cs:List Addr) (v3 v4 v5:Option V),n8=[some (.ref L),some (.ref D),some (.ref Ln),v3,v4,v5]/\Same H H'/\TupsAt H' D cs o5) ?hend ⟨61,_,_,_,_,_,_,_,rfl,t6,t5,R2,g0,g0,Zq _,B.run⟩ ?turn
  case hend=>
   rintro n8 H' ⟨cs,v3,v4,v5,rfl,sm,R⟩;exact⟨_,rfl,q D cs H' nD sm R⟩
  case turn=>
   rintro p4 m n8 H' ⟨cs,U,j,ln,v3,v4,v5,rfl,sm,R,S,gd,gl,ll,run⟩;refine⟨_,rfl,(by show 0<=sizeLine;decide),fun e0 y8=>?_⟩;have sE:=Same.upd (H:=H') (o:=.lst []) y8;have RE:=R.mono sE;have SE:=S.mono sE;have r6:=sm.trans sE;refine⟨_,_,SE.rd,.lst (.of Zt) .nil,ZbP ln,rfl,_,rfl,?_⟩;generalize upd H' e0 (.lst [])=HE at RE SE r6 ⊢;rw[Zin];cases ln with
   |nil=>
    refine ZcA (by decide) (p4 _ _ ⟨cs,v3,v4,v5,rfl,r6,?_⟩);have:j=o5:=by cases m <;> exact ay run
    rw[<-this];exact RE
   |cons x r=>
    refine Zos rfl ?_;cases m with
    |zero=>cases run
    |succ m=>
     have run:dfs M m (Yw ((x::r).getLast?.getD []) M (j,(x::r).dropLast)).1 (Yw ((x::r).getLast?.getD []) M (j,(x::r).dropLast)).2=some o5:=run;have t7:U.length=(x::r).length:=SE.2.1;have t9:U.length-1<U.length:=by rw[t7,Zi];omega
     have Y:=SE.2.2 (U.length-1) _ (Zf t9);have r8:Gk k ((x::r).getLast?.getD []):=by
      rw[<-Zcv];exact gl _ (Zdv (by rw[Zi];omega))
     have el:(x::r).getD (U.length-1) []=(x::r).getLast?.getD []:=by rw[t7];exact Zcv x r
     rw[el] at Y;have p6:=Ze3 M m _ _ _ run;have u5:∀y∈(x::r).dropLast,Gk k y:=fun y hy=>gl y (List.dropLast_subset _ hy);have u9:(x::r).dropLast.length<=j.length:=by rw[eG];omega
     have y9:(U.map V.ref)[(U.map V.ref).length-1]?=some (.ref U[U.length-1]):=by rw[Za,Zc,Zf t9];rfl
     have SP:=SE.pop;have RP:=RE.updM (o:=.lst (U.map V.ref).dropLast) SE.1 p8;have r9:=r6.updr (o:=.lst (U.map V.ref).dropLast) nL;have o7:upd HE Ln (.lst (U.map V.ref).dropLast) U[U.length-1]=some (.tup (((x::r).getLast?.getD []).map nV)):=by
      rw[Zx (fun z=>by rw[z,SE.1] at Y;cases Y)];exact Y
     refine⟨_,fun _ _ z=>z,_,rfl,.inl ⟨rfl,_,.of SE.1⟩,Ln,_,_,rfl,rfl,SE.1,y9,?_⟩;generalize upd HE Ln (.lst (U.map V.ref).dropLast)=HP at SP RP r9 o7 ⊢;generalize U[U.length-1]=ea at o7 ⊢;generalize (x::r).getLast?.getD []=cur at o7 r8 run p6 ⊢;generalize (x::r).dropLast=O at SP run p6 u5 u9;have pll:(bs.map V.ref).length=M.length:=by rw[Za,R0.2.1]
     refine⟨_,rfl,L,rfl,⟨_,.of (r9 _ _ R0.1)⟩,?_⟩;refine Wy (H0:=H) (YK (K:=K) (.of R0.1)) (fun i τ HH=>∃(J n4:List Addr) (w4 w5:Option V),τ=[some (.ref L),some (.ref D),some (.ref Ln),some (.ref ea),w4,w5]/\Same H HH/\TupsAt HH D J (Yw cur (M.take i) (j,O)).1/\TupsAt HH Ln n4 (Yw cur (M.take i) (j,O)).2/\(∀y∈(Yw cur (M.take i) (j,O)).1,Gk k y)/\(∀y∈(Yw cur (M.take i) (j,O)).2,Gk k y)/\(Yw cur (M.take i) (j,O)).2.length<=(Yw cur (M.take i) (j,O)).1.length/\HH ea=some (.tup (cur.map nV)))
      ⟨_,_,_,_,rfl,r9,RP,SP,gd,u5,u9,o7⟩ (fun i τ HH h=>h.choose_spec.choose_spec.choose_spec.choose_spec.2.1) ?_ ?_
     ·rintro i y τ HH hy ⟨J,n4,w4,w5,rfl,sH,R',S',n9,o0,o8,o9⟩
      obtain⟨b,rfl,hi,w8⟩:=R0.ref hy;have hbH:=sH _ _ w8;have gg:Gk k (M.getD i []):=B.pl _ (Zdv hi);have pi:M[i]?=some (M.getD i []):=getL hi;generalize M.getD i []=gp at *;have hcl:(Yw cur (M.take i) (j,O)).1.length<=60:=a5 (Zc7 cur M (j,O) i) (by omega);have est:=Zc6 cur (s:=(j,O)) pi;rw[est];generalize Yw cur (M.take i) (j,O)=zs at *;refine⟨_,rfl,_,rfl,ea,b,k,cur,gp,rfl,o9,hbH,r8,gg,by omega,fun tp HF ntp sF hF=>?_⟩;have RF:=R'.mono sF;have SF:=S'.mono sF;have go:Gk k (J2 cur gp):=ZiJ r8 gg;refine⟨_,rfl,_,rfl,D,_,(zs.1.map fun ns=>ce ((nI ns).map aO)),.tuple ((nI (J2 cur gp)).map aO),rfl,.inl (.of RF.1),ZaS _ _ RF.2.1 RF.2.2,.tup (.of (by rw[Zol];exact hF)) (Wq.ints _),Zbk zs.1,Jn _,JS _,_,rfl,?_⟩;rw[if_pos rfl,Zbu];have zl:=RF.2.1;have wl:=SF.2.1;refine Y0 (fun h2=>?_) (fun h2=>?_)
      ·have h2:zs.1.contains (J2 cur gp)=false:=by simpa using h2
       rw[if_neg (by rw[h2];decide)];refine⟨_,rfl,.inl ⟨rfl,_,.of RF.1⟩,_,rfl,D,_,_,rfl,rfl,RF.1,by rw[Za];omega,?_⟩;have x0:=RF.push hF;have n6:=SF.updM (o:=.lst (J.map V.ref++[.ref tp])) RF.1 p8.symm;have x6:=(sH.trans sF).updr (o:=.lst (J.map V.ref++[.ref tp])) nD;have x8:upd HF D (.lst (J.map V.ref++[.ref tp])) tp=some (.tup ((J2 cur gp).map nV)):=by
        rw[Zx (fun z=>by rw[z,RF.1] at hF;cases hF)];exact hF
       have p3:upd HF D (.lst (J.map V.ref++[.ref tp])) ea=some (.tup (cur.map nV)):=by
        have:=sF _ _ o9;rw[Zx (fun z=>by rw[z,RF.1] at this;cases this)];exact this
       generalize upd HF D (.lst (J.map V.ref++[.ref tp]))=HG at x0 n6 x6 x8 p3 ⊢;refine⟨_,rfl,.inl ⟨rfl,_,.of n6.1⟩,_,rfl,Ln,_,_,rfl,rfl,n6.1,by rw[Za];omega,?_⟩;refine⟨J++[tp],n4++[tp],_,_,rfl,x6.updr nL,x0.updM n6.1 p8,n6.push x8,fun y hy=>?_,fun y hy=>?_,?_,?_⟩
       ·rcases bH.mp hy with z|z
        ·exact n9 y z
        ·rw[aQ.mp z];exact go
       ·rcases bH.mp hy with z|z
        ·exact o0 y z
        ·rw[aQ.mp z];exact go
       ·show (zs.2++[J2 cur gp]).length<=(zs.1++[J2 cur gp]).length
        rw[Zd,Zd];omega
       ·rw[Zx (fun z=>by rw[z,n6.1] at p3;cases p3)]
        exact p3
      ·have h2:zs.1.contains (J2 cur gp)=true:=by simpa using h2
       rw[if_pos h2];exact⟨J,n4,_,_,rfl,sH.trans sF,RF,SF,n9,o0,o8,sF _ _ o9⟩
     ·rintro τ HH ⟨J,n4,w4,w5,rfl,sH,R',S',n9,o0,o8,o9⟩
      rw[pll,dz] at R' S' n9 o0 o8;exact⟨m,by omega,J,n4,_,_,_,_,_,rfl,sH,R',S',n9,o0,o8,run⟩
end
end C39
namespace Pm
open PySem L2 PySem.Spec PyProof.Rows
open Tb
theorem YS {W:Type}(n8:W->Addr)(Pr:Nat->W->Hp->Prop)(U:W->Hp->Prop){J:It}{own:List Str}{n6:List Nat}{te:TE}{σ:L2.St}{H:Hp}{Q:VK}{xs:List V}(S:Wp J H xs)(cs:L2.St)(o5:Js own n6 σ=none::cs)(hn:xs.length<=1000)
  (mono:∀i w H q,Same H q->Pr i w H->Pr i w q) (o0:∀w H q,Same H q->U w q->U w H) (hu:∀i w H0 H1 D o ys o6,Pr i w H1->U w H0->H0 D=some (.lst o)->H1 D=some (.lst ys)->Pr i w (upd H1 D (.lst o6)))
  (hs:∀(i:Nat) y,xs[i]?=some y->∀q,Same H q->∀R:VK,(∀w Y,Same q Y->Pr i w Y->U w q->R (.ref (n8 w)) Y)->te (some y::cs) q R)
  (hd:∀D (M:List W) q,H D=none->Same H q->q D=some (.lst (M.map fun w=>V.ref (n8 w)))->M.length=xs.length->(∀(i:Nat) w,M[i]?=some w->Pr i w q/\U w H)->(∀(i j:Nat) w w',i<j->M[i]?=some w->M[j]?=some w'->∃Hm,Pr i w Hm/\U w' Hm)->Q (.ref D) q):WL own n6 (Yy 0) Wv te σ Q J H:=by
 refine Uv (xs:=xs) (fun D i ys q=>Same H q/\∃M:List W,ys=M.map (fun w=>V.ref (n8 w))/\M.length=i/\(∀(i:Nat) w,M[i]?=some w->Pr i w q/\U w H/\∃H0 o,H0 D=some (.lst o)/\U w H0)/\(∀(i j:Nat) w w',i<j->M[i]?=some w->M[j]?=some w'->∃Hm,Pr i w Hm/\U w' Hm)) cs o5 (by omega) ?_ ?_ ?_ ?_
 ·intro D i ys q hD O p
  have S':=S.mono p.1;exact⟨fun hi=>⟨S'.go i q (Same.refl _) hi,fun x H3 y=>S'.yld i q x H3 (Same.refl _) hi y⟩,fun e=>e▸S'.stop q (Same.refl _)⟩
 ·intro D hD
  exact⟨Same.upd hD,[],rfl,rfl,(fun i w hw=>by cases hw),(fun i j w w' _ h=>by cases h)⟩
 ·rintro D i y ys q hD O hy ⟨sm,M,rfl,wl,hw,hp⟩ R k
  refine hs i y hy q sm R fun w Y s5 p5 n5=>?_;have n9:=s5 _ _ O;have lst:∀(b:Nat) v,(M++[w])[b]?=some v->(b<M.length/\M[b]?=some v)\/(b=M.length/\v=w):=fun b v hb=>by
   by_cases n4:b<M.length
   ·rw[aw n4] at hb
    exact .inl ⟨n4,hb⟩
   ·rw[ax (by omega)] at hb
    have o7:b-M.length=0:=by
     apply am;intro z;rw[ah (by rw[Zk];omega)] at hb;cases hb
    rw[o7] at hb;cases hb;exact .inr ⟨by omega,rfl⟩
  refine k _ Y n9 ⟨(sm.trans s5).updr hD,M++[w],by rw[aU];rfl,by rw[Zd,wl];rfl,fun b v hv=>?_,fun a b v v' o8 ha hb=>?_⟩
  ·rcases lst b v hv with ⟨_,hv⟩|⟨hb,hv⟩
   ·obtain⟨h1,h2,H0,o,h3,h4⟩:=hw b v hv
    exact⟨hu b v H0 Y D o _ _ (mono b v _ _ s5 h1) h4 h3 n9,h2,H0,o,h3,h4⟩
   ·subst hv
    subst hb;rw[<-wl] at p5;exact⟨hu _ v q Y D _ _ _ p5 n5 O n9,o0 v _ _ sm n5,q,_,O,n5⟩
  ·rcases lst b v' hb with ⟨n4,hb⟩|⟨n4,hb⟩
   ·rw[aw (by omega)] at ha
    exact hp a b v v' o8 ha hb
   ·subst hb
    rw[aw (by omega)] at ha;exact⟨q,(hw a v ha).1,n5⟩
 ·rintro D ys Y hD O o9 ⟨sm,M,rfl,wl,hw,hp⟩
  exact hd D M Y hD sm O wl (fun i w h=>⟨(hw i w h).1,(hw i w h).2.1⟩) hp
theorem Wn {J:It}{own:List Str}{M:List Nat}{te:TE}{σ:L2.St}{H:Hp}{Q:VK}{xs:List V}(S:Wp J H xs)(cs:L2.St)(n4:Js own M σ=none::cs)(F:Nat->V)(hz:xs.length<=1000)
  (hs:∀(i:Nat) y,xs[i]?=some y->∀j,Same H j->∀R:VK,(∀O,Same j O->R (F i) O)->te (some y::cs) j R)
  (hd:∀D j,H D=none->Same H j->j D=some (.lst ((ac xs.length).map F))->Q (.ref D) j):WL own M (Yy 0) Wv te σ Q J H:=by
 refine Uv (xs:=xs) (fun D i Y j=>Same H j/\Y=(ac i).map F) cs n4 (by omega) ?_ ?_ ?_ ?_
 ·intro D i Y j U q p
  have S':=S.mono p.1;exact⟨fun hi=>⟨S'.go i j (Same.refl _) hi,fun x H3 y=>S'.yld i j x H3 (Same.refl _) hi y⟩,fun e=>e▸S'.stop j (Same.refl _)⟩
 ·intro D U
  exact⟨Same.upd U,rfl⟩
 ·rintro D i y Y j U q hy ⟨sm,rfl⟩ R k
  refine hs i y hy j sm R fun O s5=>k _ O (s5 _ _ q) ⟨(sm.trans s5).updr U,?_⟩;rw[c6,aU];rfl
 ·rintro D Y O U q n6 ⟨sm,rfl⟩
  exact hd D O U sm q
theorem ZnB {X:Cx}(K:ab)(q:X.K=K:=by rfl):Yo X (.type "tuple") (fun xs H Q=>∃p ys,xs=[.ref p]/\Wr K H p ys/\∀l j,H l=none->Same H j->Tz j l ys->Q (.ref l) j):=q▸ZcP
theorem Tz.updL {H:Hp}{a D:Addr}{ys q:List V}{o:HO}(h:Tz H a ys)(J:H D=some (.lst q)):Tz (upd H D o) a ys:=by
 obtain⟨u,j,M⟩:=h;exact⟨u,by rw[Zx (fun z=>by rw[z,J] at j;cases j)];exact j,M⟩
noncomputable def J7 (y:List Nat):List Yz:=y.map fun x:Nat=>fY (x:Int)
theorem ZhZ (y:List Nat):(J7 y).map kV=y.map nV:=by
 unfold J7;rw[aK];rfl
theorem Zcw {a b:List Nat}(h:J7 a=J7 b):a=b:=by
 unfold J7 at h;refine (mG (fun x y e=>?_)).mp h;injection e with e;omega
noncomputable def kvN (j:List (List Nat))(os:List Nat)(m:Nat):List (List Yz×V):=(ac m).map fun i=>(J7 (j.getD (os.getD i 0) []),.int (i:Nat))
section
variable {fd:List (List Nat)}{os:List Nat}
theorem Zih (J:fd.Nodup){a b:Nat}(j:a<fd.length)(hb:b<fd.length)(h:fd.getD a []=fd.getD b []):a=b:=by
 have q:=getL j;have M:=getL hb;rw[h,<-M] at q;exact (mW j J).mp q
theorem ZhY (q:fd.Nodup){n:Nat}(U:fd.length=n)(O:Ord n os){i c:Nat}(j:i<n)(J:c<n):J7 (fd.getD (os.getD i 0) [])=J7 (fd.getD c [])↔i=pos os c:=by
 have Y:=Yl O j;obtain⟨M,p2⟩:=YM O J;constructor
 ·intro h
  have:=Zih q (by omega) (by omega) (Zcw h);exact inj O j M (by rw[this,p2])
 ·rintro rfl
  rw[p2]
theorem Zj5 (M:fd.Nodup){n:Nat}(U:fd.length=n)(O:Ord n os){m:Nat}(q:m<n):WF (kvN fd os m) (J7 (fd.getD (os.getD m 0) [])) (.int (m:Nat))=kvN fd os (m+1):=by
 have:(kvN fd os m).any (fun J=>decide (J.1=J7 (fd.getD (os.getD m 0) [])))=false:=by
  rw[mY];intro h;rw[a6] at h;obtain⟨J,j,e⟩:=h;obtain⟨i,hi,rfl⟩:=aN.mp j;have hi:=af.mp hi;have e:=of_decide_eq_true e;have:=Zih M (by have:=Yl O (show i<n by omega);omega) (by have:=Yl O q;omega) (Zcw e);have:=inj O (by omega) q this;omega
 unfold WF;rw[this];unfold kvN;rw[c6,aU];rfl
theorem Zj4 (J:fd.Nodup){n:Nat}(M:fd.length=n)(O:Ord n os){c:Nat}(q:c<n):W5 (kvN fd os n) (J7 (fd.getD c []))=some (.int (pos os c:Nat)):=by
 obtain⟨U,p2⟩:=YM O q;unfold W5 kvN;rw[List.find?_map];have:(ac n).find? ((fun Y:List Yz×V=>decide (Y.1=J7 (fd.getD c []))) ∘ fun i:Nat=>((J7 (fd.getD (os.getD i 0) []),V.int (i:Nat)):List Yz×V))=some (pos os c):=by
  rw[kC];refine⟨decide_eq_true ((ZhY J M O U q).mpr rfl),af.mpr U,fun j hj=>?_⟩;rw[gC];refine decide_eq_false fun h=>?_;have:=(ZhY J M O (by omega) q).mp h;omega
 rw[this];rfl
theorem Zm3 (J:∀a∈fd,∀b∈fd,J2 a b∈fd){a b:Nat}(q:a<fd.length)(hb:b<fd.length):ZI (YW fd) a b<fd.length/\fd.getD (ZI (YW fd) a b) []=J2 (fd.getD a []) (fd.getD b []):=by
 have e:ZI (YW fd) a b=fd.findIdx (· == J2 (fd.getD a []) (fd.getD b [])):=by
  unfold ZI YW;rw[Zb (l:=fd.map _),Zc,getL q];show (fd.map fun b=>fd.findIdx (· == J2 (fd.getD a []) b)).getD b 0=_;rw[Zb,Zc,getL hb];rfl
 have hm:=J _ (Zdv q) _ (Zdv hb);have j:fd.findIdx (· == J2 (fd.getD a []) (fd.getD b []))<fd.length:=kZ.mpr ⟨_,hm,by exact beq_self_eq_true _⟩;rw[e];refine⟨j,?_⟩;have:=iD (w:=j);rw[Zb,Zf j];exact eq_of_beq this
theorem Zgx (fd:List (List Nat)):(YW fd).length=fd.length:=by unfold YW;rw[Za]
end
theorem VI {α q:Type}(f:α->q):∀(xs:List α) (j:Nat),(xs.map f).eraseIdx j=(xs.eraseIdx j).map f
 | [],j=>rfl
 |x::xs,0=>rfl
 |x::xs,j+1=>by
  show f x::(xs.map f).eraseIdx j=f x::(xs.eraseIdx j).map f;rw[VI f xs j]
theorem TupsAt.erase {H:Hp}{L:Addr}{bs:List Addr}{yss:List (List Nat)}(R:TupsAt H L bs yss)(j:Nat):TupsAt (upd H L (.lst ((bs.map V.ref).eraseIdx j))) L (bs.eraseIdx j) (yss.eraseIdx j):=by
 refine⟨by rw[Zt,VI],by rw[eF,eF,R.2.1],fun i b hb=>?_⟩;rw[kU] at hb;rw[Zb,kU];have q:∀J,bs[J]?=some b->upd H L (.lst ((bs.map V.ref).eraseIdx j)) b=some (.tup ((yss[J]?.getD []).map nV)):=fun J O=>by
  have h:=R.2.2 J b O;rw[Zx (fun z=>by rw[z,R.1] at h;cases h),h,Zb]
 by_cases M:i<j
 ·rw[if_pos M] at hb ⊢
  exact q _ hb
 ·rw[if_neg M] at hb ⊢
  exact q _ hb
theorem TupsAt.sub {H:Hp}{L A:Addr}{cs:List Addr}{fd:List (List Nat)}(R:TupsAt H L cs fd)(os:List Nat)(M:∀i∈os,i<fd.length)(O:H A=some (.lst ((os.map fun i=>cs.getD i 0).map V.ref))):TupsAt H A (os.map fun i=>cs.getD i 0) (os.map fun i=>fd.getD i []):=by
 refine⟨O,by rw[Za,Za],fun i b hb=>?_⟩;rw[Zc] at hb;cases e:os[i]? with
 |none=>rw[e] at hb;cases hb
 |some j=>
  rw[e] at hb;have U:=M j (av e);have q:j<cs.length:=by rw[R.2.1];exact U
  have J:cs[j]?=some b:=by
   rw[<-ay hb];show cs[j]?=some (cs.getD j 0);rw[Zb,Zf q];rfl
  rw[R.2.2 j b J,Zb (l:=os.map _),Zc,e];rfl
end Pm
namespace C39
open PySem L2 PySem.Spec PyProof.Rows
open Tb Pm
noncomputable abbrev Zdj:Stmt:=top 55
noncomputable def Zeh:Sp:=fun q H Q _=>∃(p:Addr) (b:Nat) (J:Bool),q=[.ref p,.bl J]/\Wo H p b/\b+100<2 ^ 60/\∀g t j,Tk p H j->Wo j p (b+70)->GT j g t->PW t->MkG t->Q (.ref g) j
theorem Ziv {xs:List V}(h:1<=xs.length):J9 xs (some 1) none=xs.drop 1:=by
 unfold J9;have j:HT.Y6 xs.length 0 (some 1)=1:=by
  have:=HT.ZaM xs.length 0 1;rw[show ((1:Nat):Int)=1 from rfl] at this;rw[this];omega
 rw[j,HT.ZbV];rw[ie (by rw[cR];omega)]
theorem ZmR {xs:List V}(h:1<=xs.length):J9 xs none (some 1)=xs.take 1:=by
 unfold J9;have j:HT.Y6 xs.length xs.length (some 1)=1:=by
  have:=HT.ZaM xs.length xs.length 1;rw[show ((1:Nat):Int)=1 from rfl] at this;rw[this];omega
 rw[j,HT.ZbV];rfl
theorem ZfY {cs:List Addr}{n:Nat}(h:cs.length=n):(cs.map V.ref).drop 1=(((ac (n-1)).map (· + 1)).map fun i=>cs.getD i 0).map V.ref:=by
 refine aY fun i=>?_;rw[List.getElem?_drop,Zc,Zc,Zc,Zc];by_cases j:i<n-1
 ·rw[ao j,Zf (show 1+i<cs.length by omega)]
  show some (V.ref cs[1+i])=some (V.ref (cs.getD (i+1) 0));rw[Zb,Zf (show i+1<cs.length by omega)];congr 3;omega
 ·rw[ah (by omega),ah (by rw[Zg];omega)]
  rfl
theorem Zfo {cs:List Addr}(h:1<=cs.length):(cs.map V.ref).take 1=(([0]:List Nat).map fun i=>cs.getD i 0).map V.ref:=by
 cases cs with
 |nil=>cases h
 |cons c r=>rfl
theorem Tk.updN {p l:Addr}{H j:Hp}{o:HO}(a:Tk p H j)(h:H l=none):Tk p H (upd j l o):=fun c u e n=>by
 rw[Zx (Z1 e h)];exact a c u e n
theorem Tk.same {p:Addr}{H j q:Hp}(a:Tk p H j)(s:Same j q):Tk p H q:=a.trans (Tk.of s)
theorem Wo.updN {p l:Addr}{H:Hp}{b:Nat}{o:HO}(h:Wo H p b)(j:l≠p):Wo (upd H l o) p b:=by
 obtain⟨c,q,n,J,M⟩:=h;exact⟨c,q,n,by rw[Zx j.symm];exact J,M⟩
theorem Zmn (os:List Nat)(g:Nat->Nat):(ac os.length).map (fun j=>g (os.getD j 0))=os.map g:=by
 refine aY fun i=>?_;rw[Zc,Zc];by_cases q:i<os.length
 ·rw[ao q,Zf q]
  show some (g (os.getD i 0))=some (g os[i]);rw[Zb,Zf q];rfl
 ·rw[ah (by rw[Zg];omega),ah (by omega)]
  rfl
theorem Za4 {os:List Nat}{fd:List (List Nat)}{i:Nat}(j:i<os.length):(os.map fun i=>fd.getD i []).getD i []=fd.getD (os.getD i 0) []:=by
 rw[Zb,Zc,Zf j,Zb (l:=os),Zf j];rfl
section
variable {P:Program}{w:World}{K:ab}{mg:Str->Option Value}{base:Heap}
theorem ZhD {f:Addr}{fd:FuncData}(F:Y5 K "_law_group" "_law_group" Zdj f fd)(T:BlB mg)(x6:Fn P w K mg base ZT 2 "_law_things" ["_law_perms_here"] ZbM)(GP:Fn P w K mg base ZT 2 "_law_perms" ["_law_tape_here", "_law_great"] Zec)(GK:Fn P w K mg base ZT 1 "_law_pick" ["_law_tape_here", "_law_many"] Zdc)(GA:Fn P w K mg base ZT 1 "_law_after" ["_law_one", "_law_other"] ZaE) :
  ZR P w K mg base ZT 3 f fd ["_law_tape_here", "_law_great"] Zeh:=by
 refine F.ok (FS (N:=["_law_tape_here", "_law_great", "_law_things_here", "_law_left", "_law_order", "_law_numbers", "_law_k"])) (fun vs H Q E h=>?_) (fun x8 A x9 s H vs Q E hr h=>?_)
 ·obtain⟨p,b,gr,rfl,_⟩:=h;rfl
 ·obtain⟨p,b,gr,rfl,T0,hb,q⟩:=h
  have hu:(A.deeper (envOfC "_law_group" (Z3 Zdj) s.heap.objs.size f x8)).units+1<cLine:=by have:=hr.un;omega
  refine⟨_,Zu (ZH 2 rfl (YC x6 hr ZF (pc (YC GP hr ZF (pc (vn 0) (pc (vn 1) Zs))) Zs)))
   (Zu (ZH 3 rfl (Jy VB (vn 2) (Xw Zw) Xx))
   (Zu (ZH 4 rfl (Jy VB (vn 2) Xx (Xw Zw)))
   (Zu (Yk aq (ZP (neC K hr.units) (vn 3) (ZS Zs) (ZW _))
    (Zv (Yv (Wm aM aR aT Z2 (vn 4)
     (pc (Wm aM f9 kw ZhR (vn 3) (pc (YC GK hr ZF (pc (vn 0) (pc (cb (YB K) T.len (pc (vn 3) Zs)) Zs))) Zs)) Zs)))))
   (Zu (ZH 5 rfl Zhk)
   (Zu (ZQ aq rfl (XV T.range (pc (cb (YB K) T.len (pc (vn 4) Zs)) Zs)) (gn 6)
    (Zv (Xt hu (vn 5) (ZM (ixL K) (vn 4) (vn 6) (fun _ _=>rfl)) (vn 6) (by rfl))))
   (Zv (ZD (ct ZE T.tuple (pc (cmp ["_law_one"] [5,4] ["_law_one", "_law_numbers", "_law_order"] rfl (itL K (vn 4)) (fun _ _ _ _ _=>gnf 0 rfl) (fun _ _ _ _ _=>ZN)
    (fun _ _ _ _ _=>ct (ZnB K) (by exact T.tuple) (pc (cmp ["_law_other"] [1,0] ["_law_other", "_law_numbers", "_law_one"] rfl (itL K (vn 2)) (fun _ _ _ _ _=>gn 0) (fun _ _ _ _ _=>ZN)
     (fun _ _ _ _ _=>JO hu (vn 1) (YC GA hr ZF (pc (vn 2) (pc (vn 0) Zs))) (fun _ _=>rfl))) Zs))) Zs))))))))),?_⟩
  have sz:(16777216:Nat)=sizeLine:=by decide
  refine⟨_,rfl,_,rfl,p,b,gr,rfl,T0,by omega,fun L bs ps H1 k1 T1 t0 R1=>?_⟩;obtain⟨J,B⟩:=Zof t0.1;generalize (ps.getD 0 []).length=k at B;have n60:=B.n60;have k10:=B.k10;have n1:1<=J.length:=(ae.mp B.hd).1;refine⟨L,bs,ps,k,J,rfl,R1,B,fun D M H2 nD s2 R2=>?_⟩;have t5:M.length=J.length:=R2.2.1;have cml:(M.map V.ref).length=J.length:=by rw[Za,t5]
  refine⟨_,rfl,_,rfl,D,_,rfl,.of R2.1,fun Lf p3=>?_⟩;rw[Ziv (by omega),ZfY t5];have s3:=Same.upd (H:=H2) (o:=.lst ((((ac (J.length-1)).map (· + 1)).map fun i=>M.getD i 0).map V.ref)) p3;have o0:upd H2 Lf (.lst ((((ac (J.length-1)).map (· + 1)).map fun i=>M.getD i 0).map V.ref)) Lf=some (.lst ((((ac (J.length-1)).map (· + 1)).map fun i=>M.getD i 0).map V.ref)):=Zt;generalize upd H2 Lf (.lst ((((ac (J.length-1)).map (· + 1)).map fun i=>M.getD i 0).map V.ref))=H3 at s3 o0 ⊢;refine⟨_,rfl,_,rfl,D,_,rfl,.of (s3 _ _ R2.1),fun Y p4=>?_⟩;rw[ZmR (by omega),Zfo (by omega)];have s4:=Same.upd (H:=H3) (o:=.lst ((([0]:List Nat).map fun i=>M.getD i 0).map V.ref)) p4;have t6:upd H3 Y (.lst ((([0]:List Nat).map fun i=>M.getD i 0).map V.ref)) Y=some (.lst ((([0]:List Nat).map fun i=>M.getD i 0).map V.ref)):=Zt;generalize upd H3 Y (.lst ((([0]:List Nat).map fun i=>M.getD i 0).map V.ref))=H4 at s4 t6 ⊢;have p6:=s3.trans s4;have R4:=R2.mono p6;have o8:H2 Y=none:=s3.free p4;have t7:Lf≠Y:=fun z=>by rw[z,p4] at o0;cases o0
  have T2:=T1.mono s2;have T4:=T2.mono p6;have y4:Lf≠p:=T2.neN p3;have y6:Y≠p:=T2.neN o8;have y8:=R4.sub ((ac (J.length-1)).map (· + 1)) (fun i hi=>by
   obtain⟨j,hj,rfl⟩:=aN.mp hi;have:=af.mp hj;omega) (s4 _ _ o0)
  have y9:=R4.sub [0] (fun i hi=>by rw[aQ.mp hi];omega) t6;have p0:([0]++(ac (J.length-1)).map (· + 1)).Perm (ac J.length):=by
   have:ac J.length=[0]++(ac (J.length-1)).map (· + 1):=by
    obtain⟨k,hk⟩:∃k,J.length=k+1:=⟨J.length-1,by omega⟩;rw[hk,kS];rfl
   rw[this]
  refine Yb (fun m U H'=>∃(ls os:List Nat),U=[some (.ref p),some (.bl gr),some (.ref D),some (.ref Lf),some (.ref Y),none,none]/\Tk p H2 H'/\Wo H' p (b+2+os.length)/\TupsAt H' Lf (ls.map fun i=>M.getD i 0) (ls.map fun i=>J.getD i [])/\TupsAt H' Y (os.map fun i=>M.getD i 0) (os.map fun i=>J.getD i [])/\(os++ls).Perm (ac J.length)/\os[0]?=some 0/\m=ls.length)
   (fun U H'=>∃(os:List Nat),U=[some (.ref p),some (.bl gr),some (.ref D),some (.ref Lf),some (.ref Y),none,none]/\Tk p H2 H'/\Wo H' p (b+2+os.length)/\TupsAt H' Y (os.map fun i=>M.getD i 0) (os.map fun i=>J.getD i [])/\os.Perm (ac J.length)/\os[0]?=some 0) ?hend ⟨_,_,_,rfl,Tk.of p6,T4.le (by omega),y8,y9,p0,rfl,rfl⟩ ?turn
  case turn=>
   rintro o9 m U H' ⟨ls,os,rfl,kk,Tp,RL,RO,pm,h0,hm⟩;have pl:=pm.length_eq;rw[Zd,Zg] at pl;refine⟨_,rfl,(by show 0<=sizeLine;decide),fun e0 ne0=>?_⟩;have sE:=Same.upd (H:=H') (o:=.lst []) ne0;have n8:=RL.mono sE;have o5:=RO.mono sE;have kE:=kk.same sE;have TE:=Tp.mono sE;refine⟨_,_,n8.rd,.lst (.of Zt) .nil,ZbP _,rfl,_,rfl,?_⟩;generalize upd H' e0 (.lst [])=HE at n8 o5 kE TE ⊢;rw[Zin];refine Y0 (fun hne=>?_) (fun he=>?_)
   ·have hpos:0<ls.length:=by
     cases ls with
     |nil=>cases hne
     |cons x r=>rw[Zi];omega
    refine⟨_,fun _ _ z=>z,_,rfl,.inl ⟨rfl,_,.of o5.1⟩,_,rfl,.inl ⟨rfl,_,.of n8.1⟩,_,rfl,_,rfl,Lf,_,rfl,.inl (.of n8.1),p,_,b+2+os.length,rfl,TE,by omega,?_,?_,fun r5 H5 c0 c1 k5 T5=>?_⟩
    ·rw[Za,Za];omega
    ·rw[Za,Za];omega
    rw[Za,Za] at c1;obtain⟨j,rfl⟩:=bB c0;have hj:j<ls.length:=by omega
    have n9:=TupsAt.tk TE k5 n8;have RO5:=TupsAt.tk TE k5 o5;have p7:((ls.map fun i=>M.getD i 0).map V.ref)[j]?=some (.ref (M.getD ls[j] 0)):=by rw[Zc,Zc,Zf hj];rfl
    obtain⟨sx,_⟩:=Zbb (XB (n:=((ls.map fun i=>M.getD i 0).map V.ref).length) (i:=j) (by rw[Za,Za];exact hj));have o6:=n9.2.2 j (M.getD ls[j] 0) (by rw[Zc,Zf hj];rfl);have ef:(ls.map fun i=>J.getD i []).getD j []=J.getD ls[j] []:=by
     rw[Zb,Zc,Zf hj];rfl
    rw[ef] at o6;have p8:=n9.erase j;have o7:=RO5.updM (o:=.lst (((ls.map fun i=>M.getD i 0).map V.ref).eraseIdx j)) n9.1 t7.symm;have T6:=T5.updN (o:=.lst (((ls.map fun i=>M.getD i 0).map V.ref).eraseIdx j)) y4;have k6:=(kE.trans k5).updN (o:=.lst (((ls.map fun i=>M.getD i 0).map V.ref).eraseIdx j)) p3;have t9:upd H5 Lf (.lst (((ls.map fun i=>M.getD i 0).map V.ref).eraseIdx j)) (M.getD ls[j] 0)=some (.tup ((J.getD ls[j] []).map nV)):=by
     rw[Zx (fun z=>by rw[z,n9.1] at o6;cases o6)];exact o6
    refine⟨Lf,_,j,j,_,rfl,rfl,n9.1,by omega,by omega,sx,p7,?_⟩;generalize upd H5 Lf (.lst (((ls.map fun i=>M.getD i 0).map V.ref).eraseIdx j))=H6 at p8 o7 T6 k6 t9 ⊢;refine⟨Y,_,_,rfl,rfl,o7.1,by rw[Za,Za];omega,?_⟩;rw[VI,VI] at p8;refine⟨(ls.eraseIdx j).length,by rw[eF,if_pos hj];omega,ls.eraseIdx j,os++[ls[j]],rfl,k6.updN o8,?_,p8.updM o7.1 t7,?_,?_,?_,rfl⟩
    ·rw[Zd]
     exact T6.updN y6
    ·rw[aU,aU]
     exact o7.push t9
    ·rw[fz]
     exact (j8 os (ZcH ls j hj)).trans pm
    ·rw[aw]
     ·exact h0
     ·exact (ae.mp h0).1
   ·have:ls=[]:=by
     cases ls with
     |nil=>rfl
     |cons x r=>exact absurd rfl he
    subst this;rw[fW] at pm;exact o9 _ _ ⟨os,rfl,kE,TE,o5,pm,h0⟩
  case hend=>
   rintro U H5 ⟨os,rfl,kk,Tp,RO,pm,h0⟩;have O:=Zl4 n1 pm h0;have n6:=O.len;have nd:=B.nd;refine fun Nd u5=>?_;have s6:=Same.upd (H:=H5) (o:=.dT []) u5;have u9:upd H5 Nd (.dT []) Nd=some (.dT []):=Zt;generalize upd H5 Nd (.dT [])=H6 at s6 u9 ⊢;have ol:((os.map fun i=>M.getD i 0).map V.ref).length=J.length:=by rw[Za,Za,n6]
   refine⟨_,rfl,Y,_,rfl,.inl (.of (s6 _ _ RO.1)),_,rfl,by rw[ol];omega,by rw[ol];omega,?_⟩;rw[ol,Zj];refine Wf (fun m U H'=>∃v6:Option V,U=[some (.ref p),some (.bl gr),some (.ref D),some (.ref Lf),some (.ref Y),some (.ref Nd),v6]/\Same H5 H'/\H' Nd=some (.dT (kvN J os m))) ⟨_,rfl,s6,u9⟩ ?_ ?_
   ·rintro m U H7 hm ⟨v6,rfl,s7,r6⟩
    rw[show (0:Int)+(m:Int)=(m:Int) by omega];have n4:=RO.mono s7;obtain⟨c,_,p7,hc⟩:=n4.get (i:=m) (by rw[Za,n6];exact hm);rw[Za4 (by omega)] at hc;refine⟨_,rfl,_,rfl,_,rfl,_,rfl,Y,_,_,_,rfl,rfl,.of n4.1,p7,Nd,_,rfl,Vi.t (k:=J7 (J.getD (os.getD m 0) [])) r6 (by rw[ZhZ];exact hc) (by unfold kvN;rw[Za,Zg];omega),?_⟩;rw[Zj5 nd rfl O hm];exact⟨_,rfl,s7.updr u5,Zt⟩
   ·rintro U H7 ⟨v6,rfl,s7,r6⟩
    have n4:=RO.mono s7;refine⟨_,rfl,Y,rfl,⟨_,.of n4.1⟩,?_⟩;have Ot:Ord (YW J).length os:=by rw[Zgx];exact O
    have Pt:PW (ren (YW J) os):=Jf B.pw Ot;have rl:(ren (YW J) os).length=J.length:=by rw[VD,n6]
    have rat:∀i,i<J.length->(ren (YW J) os).getD i []=os.map fun b=>pos os (ZI (YW J) (os.getD i 0) b):=fun i hi=>by
     unfold ren;rw[Zb,Zc,Jl (show i<os.length by omega)];rfl
    refine YS (W:=Addr) id (fun i w H=>Tz H w (((ren (YW J) os).getD i []).map nV)) (fun _ _=>True) (YK (K:=K) (.of n4.1)) [some (.ref Nd),some (.ref Y)] rfl (by rw[ol];omega) (fun i w H H' s h=>h.mono s) (fun w H H' s h=>trivial) (fun i w H0 H1 D o ys ys' h h0 h1 h2=>Tz.updL h h2) (fun i y hy H8 s8 R k8=>?_) (fun D8 ws H8 nD8 s8 hD8 wl hw hp=>?_)
    ·obtain⟨c,rfl,hi,hc⟩:=n4.ref hy
     rw[Za,n6] at hi;rw[Za4 (by omega)] at hc;have r8:=n4.mono s8;have w8:=Yl O hi;refine⟨_,rfl,Y,rfl,⟨_,.of r8.1⟩,?_⟩;refine Wn (YK (K:=K) (.of r8.1)) [some (.ref Nd),some (.ref c)] rfl (fun j=>nV (pos os (ZI (YW J) (os.getD i 0) (os.getD j 0)))) (by rw[ol];omega) (fun j y' hy' H9 s9 R' k9=>?_) (fun D9 H9 nD9 s9 r9=>?_)
     ·obtain⟨d,rfl,hj,hd⟩:=r8.ref hy'
      rw[Za,n6] at hj;rw[Za4 (by omega)] at hd;have x0:=Yl O hj;obtain⟨ml,me⟩:=Zm3 B.cl w8 x0;refine⟨_,rfl,_,rfl,_,rfl,c,d,k,_,_,rfl,(s8.trans s9) _ _ hc,s9 _ _ hd,B.fg _ (Zdv w8),B.fg _ (Zdv x0),by omega,fun r HA nr sA hr'=>?_⟩;have dg:=Jt.t (H:=HA) (k:=J7 (J2 (J.getD (os.getD i 0) []) (J.getD (os.getD j 0) []))) (((s8.trans s9).trans sA) _ _ r6) (by rw[ZhZ];exact hr');rw[<-me,Zj4 nd rfl O ml] at dg;exact⟨Nd,_,rfl,dg,k9 HA sA⟩
     ·rw[ol] at r9
      have e:(ac J.length).map (fun j=>nV (pos os (ZI (YW J) (os.getD i 0) (os.getD j 0))))=((ren (YW J) os).getD i []).map nV:=by
       rw[rat i hi,<-Zmn os,aK,n6];rfl
      rw[e] at r9;exact⟨D9,_,rfl,.of r9,fun z Hz nz sz' hz=>k8 z Hz (s9.trans sz') hz trivial⟩
    ·refine⟨D8,_,rfl,.inl ⟨.of hD8,fun g ng=>?_⟩⟩
     have s9:=Same.upd (H:=H8) (o:=.tup (ws.map fun w=>V.ref (id w))) ng;have sX:=(s7.trans s8).trans s9;refine q g (ren (YW J) os) _ (((k1.same s2).trans kk).same sX) ((Tp.mono sX).le (by omega)) ⟨ws,Zt,by rw[wl,ol,rl],fun i r hr=>((hw i r hr).1).mono s9⟩ Pt ⟨ps,k,J,os,t0.2,B,Ot,rfl⟩
end
structure Bl (mg:Str->Option Value):Prop where
 list:mg "list"=none
 len:mg "len"=none
 abs:mg "abs"=none
 range:mg "range"=none
 tuple:mg "tuple"=none
 isi:mg "isinstance"=none
 all:mg "all"=none
 set:mg "set"=none
 repr:mg "repr"=none
 any:mg "any"=none
 int:mg "int"=none
 bool:mg "bool"=none
noncomputable abbrev Zk2:Stmt:=top 3
noncomputable def ZaD (K:ab):Sp:=fun j H Q _=>∃(g:Addr) (t:List (List Nat)) (a r:Nat),j=[.ref g,.int a]/\GT H g t/\PW t/\a<t.length/\Rd t a r/\Q (.int (it t a (r-1):Nat)) H
section
variable {P:Program}{w:World}{K:ab}{mg:Str->Option Value}{base:Heap}
theorem ZjP {f:Addr}{fd:FuncData}(F:Y5 K "back" "back" Zk2 f fd):ZR P w K mg base ZT 1 f fd ["group", "a"] (ZaD K):=by
 refine F.ok (FS (N:=["group", "a"])) (fun vs H Q E h=>?_) (fun n4 A U s H vs Q E hr h=>?_)
 ·obtain⟨g,t,a,r,rfl,_⟩:=h;rfl
 ·obtain⟨g,t,a,r,rfl,G,J,M,R,q⟩:=h
  refine⟨_,Zv (ZD (Zhm jV gX jT (ZnC K) (ZM (Jp K) (vn 0) (vn 1) (fun _ _=>rfl)) (pc Zw Zs))),?_⟩;obtain⟨rs,r1,h1,_,h2,Y,h4⟩:=G.at J M;have hl:=Xo J M;have il:=Wa J M (r-1);refine⟨_,rfl,_,rfl,g,_,_,_,rfl,rfl,.of h1,h2,⟨_,_,rfl,Y⟩,r1,_,.int 0,it t a (r-1),rfl,rfl,Y.sq,rfl,?_,by rw[Za,hl];exact il,fun z j=>?_,fun m z hm j=>?_,q⟩
  ·rw[aD]
   intro z j;obtain⟨k,_,rfl⟩:=aN.mp j;rfl
  ·rw[XU J M il,R.bk] at j
   cases j;decide
  ·have O:m<t.length:=by omega
   rw[XU J M O] at j;cases j;have:ZI t a m≠0:=fun z=>by
    have:=R.un m O z;omega
   show decide ((ZI t a m:Int)=0)=false;exact decide_eq_false (by omega)
end
end C39
namespace Tb
section
variable {t:List (List Nat)}
noncomputable def YJ (t:List (List Nat))(a:Nat):Nat:=((ac t.length).find? fun b=>ZI t a b == 0).getD 0
theorem Yr (P:PW t){a:Nat}(j:a<t.length):YJ t a<t.length/\ZI t a (YJ t a)=0:=by
 obtain⟨r,R⟩:=P.rd a j;unfold YJ;cases h:(ac t.length).find? fun b=>ZI t a b == 0 with
 |none=>
  exfalso;rw[iW] at h;exact h _ (af.mpr (Wa P j (r-1))) (by rw[R.bk];rfl)
 |some b=>
  have q:=af.mp (gu h);have J:=jN h;exact⟨q,by simpa using J⟩
theorem ZdP (P:PW t){a r:Nat}(j:a<t.length)(R:Rd t a r):it t a (r-1)=YJ t a:=((R.un _ (Yr P j).1 (Yr P j).2)).symm
theorem Vf (P:PW t){a b:Nat}(j:a<t.length)(hb:b<t.length)(h:ZI t a b=0):b=YJ t a:=by
 obtain⟨r,R⟩:=P.rd a j;rw[<-ZdP P j R];exact R.un b hb h
theorem Zav (P:PW t){a:Nat}(j:a<t.length):ZI t (YJ t a) a=0:=by
 obtain⟨q,O⟩:=Yr P j;obtain⟨J,M⟩:=Yr P q;have e:a=YJ t (YJ t a):=by
  have:=P.ass a (YJ t a) (YJ t (YJ t a)) j q J;rw[O,M,P.one _ J,P.oneR a j] at this;exact this.symm
 conv=>lhs;rw[e]
 rw[<-e]
 conv=>lhs;rw[e]
 rw[<-e];rw[show ZI t (YJ t a) a=ZI t (YJ t a) (YJ t (YJ t a)) by rw[<-e]];exact M
noncomputable def tb (t:List (List Nat))(b x:Nat):Nat:=ZI t (ZI t x b) (YJ t x)
theorem Xf (P:PW t){b x:Nat}(hb:b<t.length)(j:x<t.length):tb t b x<t.length:=P.lt _ _ (P.lt _ _ j hb) (Yr P j).1
theorem Zay (P:PW t){b:Nat}(hb:b<t.length):tb t b 0=b:=by
 have j:=P.n1;have e:YJ t 0=0:=(Vf P (by omega) (by omega) (P.one 0 (by omega))).symm;unfold tb;rw[e,P.one b hb,P.oneR b hb]
theorem JM (P:PW t){b x:Nat}(hb:b<t.length)(j:x<t.length):ZI t (ZI t (YJ t x) (tb t b x)) x=b:=by
 obtain⟨q,_⟩:=Yr P j;have J:=Zav P j;unfold tb;rw[<-P.ass (YJ t x) (ZI t x b) (YJ t x) q (P.lt _ _ j hb) q,<-P.ass (YJ t x) x b q j hb,J,P.one b hb,P.ass b (YJ t x) x hb q j,J,P.oneR b hb]
theorem Zaz (P:PW t){b k x y:Nat}(hb:b<t.length)(Y:k<t.length)(q:x<t.length)(j:y<t.length)(h:tb t b x=tb t k y):∃z,z<t.length/\tb t b z=k:=by
 obtain⟨J,x2⟩:=Yr P q;obtain⟨M,y2⟩:=Yr P j;have yl:=Zav P j;have U:=P.lt _ _ M q;refine⟨ZI t (YJ t y) x,U,?_⟩;have e1:YJ t (ZI t (YJ t y) x)=ZI t (YJ t x) y:=by
  refine (Vf P U (P.lt _ _ J j) ?_).symm;rw[P.ass _ x _ M q (P.lt _ _ J j),<-P.ass x (YJ t x) y q J j,x2,P.one y j,yl]
 have O:=JM P Y j;rw[<-h] at O;unfold tb at O ⊢;rw[e1,P.ass (YJ t y) x b M q hb,<-P.ass (ZI t (YJ t y) (ZI t x b)) (YJ t x) y (P.lt _ _ M (P.lt _ _ q hb)) J j,P.ass (YJ t y) (ZI t x b) (YJ t x) M (P.lt _ _ q hb) J];exact O
noncomputable def Yt (t:List (List Nat))(b:Nat):List Nat:=(ac t.length).filter fun a=>(ac t.length).any fun x=>tb t b x == a
theorem Z7 (P:PW t){b a:Nat}(hb:b<t.length):a∈Yt t b↔∃x,x<t.length/\tb t b x=a:=by
 unfold Yt;rw[fe,a6];constructor
 ·rintro⟨_,x,j,e⟩
  exact⟨x,af.mp j,by simpa using e⟩
 ·rintro⟨x,j,e⟩
  exact⟨af.mpr (e▸Xf P hb j),x,af.mpr j,by simpa using e⟩
theorem UC {b a:Nat}(h:a∈Yt t b):a<t.length:=af.mp (fe.mp h).1
theorem UB (b:Nat):(Yt t b).Pairwise (· < ·):=dk mo ig
theorem Ze7 (b:Nat):(Yt t b).length<=t.length:=by
 have:=List.length_filter_le (fun a=>(ac t.length).any fun x=>tb t b x == a) (ac t.length);rw[Zg] at this;exact this
theorem Y4 (P:PW t){b:Nat}(hb:b<t.length):b∈Yt t b:=(Z7 P hb).mpr ⟨0,by have:=P.n1;omega,Zay P hb⟩
theorem YH (P:PW t){b k a:Nat}(hb:b<t.length)(j:k<t.length)(q:a∈Yt t b)(J:a∈Yt t k):k∈Yt t b:=by
 obtain⟨x,M,O⟩:=(Z7 P hb).mp q;obtain⟨y,U,Y⟩:=(Z7 P j).mp J;exact (Z7 P hb).mpr (Zaz P hb j M U (O.trans Y.symm))
noncomputable def ZC (t:List (List Nat)):Nat->List (List Nat)
 |0=>[]
 |k+1=>if (ZC t k).any (·.contains k) then ZC t k else ZC t k++[Yt t k]
noncomputable def YV (j:List (List Nat))(a:Nat):Bool:=j.any (·.contains a)
theorem Wl (P:PW t):∀k,k<=t.length->∀c∈ZC t k,∃b,b<k/\c=Yt t b
 |0,_,c,h=>by cases h
 |k+1,J,c,h=>by
  unfold ZC at h;split at h
  ·obtain⟨b,q,j⟩:=Wl P k (by omega) c h
   exact⟨b,by omega,j⟩
  ·rcases bH.mp h with h|h
   ·obtain⟨b,q,j⟩:=Wl P k (by omega) c h
    exact⟨b,by omega,j⟩
   ·exact⟨k,by omega,aQ.mp h⟩
theorem XH (P:PW t):∀k,k<=t.length->∀b,b<k->YV (ZC t k) b=true
 |0,_,b,h=>by omega
 |k+1,q,b,h=>by
  unfold YV ZC;split
  ·rename_i j
   by_cases e:b=k
   ·subst e;exact j
   ·exact XH P k (by omega) b (by omega)
  ·rw[jO,aZ]
   by_cases e:b=k
   ·subst e
    right;rw[dU,lc,gI];exact aA.mpr (Y4 P (by omega))
   ·left
    exact XH P k (by omega) b (by omega)
theorem UD (P:PW t):∀k,k<=t.length->∀(i j:Nat) (c d:List Nat) (a:Nat),(ZC t k)[i]?=some c->(ZC t k)[j]?=some d->a∈c->a∈d->i=j
 |0,_,i,j,c,d,a,h,_,_,_=>by cases h
 |k+1,hk,i,j,c,d,a,J,q,U,Y=>by
  have ih:=UD P k (by omega);unfold ZC at J q;split at J
  ·rename_i hc
   rw[if_pos hc] at q;exact ih i j c d a J q U Y
  ·rename_i hc
   rw[if_neg hc] at q;have O:∀c,c∈ZC t k->∀a,a∈c->a∈Yt t k->False:=fun c hm a ha n4=>by
    obtain⟨b,hb,rfl⟩:=Wl P k (by omega) c hm;have:=YH P (by omega) (by omega) ha n4;exact hc (a6.mpr ⟨_,hm,aA.mpr this⟩)
   by_cases hi:i<(ZC t k).length
   ·rw[aw hi] at J
    by_cases hj:j<(ZC t k).length
    ·rw[aw hj] at q
     exact ih i j c d a J q U Y
    ·rw[ax (by omega)] at q
     have hd:d=Yt t k:=by
      cases M:j-(ZC t k).length with
      |zero=>rw[M] at q;cases q;rfl
      |succ m=>rw[M] at q;cases q
     subst hd;exact (O c (av J) a U Y).elim
   ·rw[ax (by omega)] at J
    have n6:c=Yt t k/\i=(ZC t k).length:=by
     cases M:i-(ZC t k).length with
     |zero=>rw[M] at J;cases J;exact⟨rfl,by omega⟩
     |succ m=>rw[M] at J;cases J
    obtain⟨rfl,ei⟩:=n6;by_cases hj:j<(ZC t k).length
    ·rw[aw hj] at q
     exact (O d (av q) a Y U).elim
    ·rw[ax (by omega)] at q
     cases M:j-(ZC t k).length with
     |zero=>omega
     |succ m=>rw[M] at q;cases q
theorem YI:∀k,(ZC t k).length<=k
 |0=>Zq _
 |k+1=>by
  have:=YI k;unfold ZC;split
  ·omega
  ·rw[Zd,Zk];omega
end
end Tb
namespace C39
open PySem L2 PySem.Spec PyProof.Rows
open Tb Pm
noncomputable abbrev Xn:Stmt:=top 8
noncomputable abbrev U4:Stmt:=top 9
noncomputable abbrev V4:Stmt:=top 10
noncomputable abbrev ZgQ:Stmt:=top 12
noncomputable abbrev Zg1:Stmt:=top 58
noncomputable abbrev ZnT:Stmt:=top 59
structure Zbw (mg:Str->Option Value):Prop where
 sorted:mg "sorted"=none
 enumerate:mg "enumerate"=none
theorem Zek {ns M:List Int}{c:List Nat}(J:bN ns M)(O:ns.Pairwise (· ≤ ·))(U:M.Nodup)(Y:∀k:Int,k∈M↔∃a∈c,k=(a:Int))(q:c.Pairwise (· < ·)):ns.map V.int=c.map nV:=by
 have e:ns=c.map fun a:Nat=>(a:Int):=by
  refine PySem.W.lks_uniq (J.trans ?_) O ?_
  ·refine (bQ U ?_).mpr fun k=>?_
   ·refine im _ (fun a b (h:a<b)=>?_) q
    omega
   ·rw[Y k,aN]
    exact⟨fun ⟨a,j,e⟩=>⟨a,j,e.symm⟩,fun ⟨a,j,e⟩=>⟨a,j,e.symm⟩⟩
  ·refine im _ (fun a b (h:a<b)=>?_) q
   omega
 rw[e,aK];rfl
noncomputable def WE:Sp:=fun j H Q _=>∃(g:Addr) (t:List (List Nat)) (b x:Nat),j=[.ref g,.int b,.int x]/\GT H g t/\PW t/\b<t.length/\x<t.length/\Q (.int (tb t b x:Nat)) H
noncomputable def VY:Sp:=fun q H Q _=>∃(g:Addr) (t:List (List Nat)) (b:Nat),q=[.ref g,.int b]/\GT H g t/\PW t/\b<t.length/\∀r j,Same H j->j r=some (.tup ((Yt t b).map nV))->Q (.ref r) j
section
variable {P:Program}{w:World}{K:ab}{mg:Str->Option Value}{base:Heap}
theorem XZ {f:Addr}{fd:FuncData}(F:Y5 K "turned_by" "turned_by" Xn f fd)(O:Fn P w K mg base ZT 1 "back" ["group", "a"] (ZaD K)):ZR P w K mg base ZT 2 f fd ["group", "b", "t"] WE:=by
 refine F.ok (FS (N:=["group", "b", "t"])) (fun U H Q E h=>?_) (fun Y A M s H U Q E hr h=>?_)
 ·obtain⟨g,t,b,x,rfl,_⟩:=h;rfl
 ·obtain⟨g,t,b,x,rfl,G,j,hb,J,q⟩:=h
  refine⟨_,Zv (ZD (ZM (Jp K) (ZM (Jp K) (vn 0) (ZM (Jp K) (ZM (Jp K) (vn 0) (vn 2) (fun _ _=>rfl)) (vn 1) (fun _ _=>rfl)) (fun _ _=>rfl)) (YC O hr ZF (pc (vn 0) (pc (vn 2) Zs))) (fun _ _=>rfl))),?_⟩;obtain⟨r,R⟩:=j.rd x J;obtain⟨rs,r1,h1,_,h2,h3,h4⟩:=G.at j J;have ml:=j.lt _ _ J hb;obtain⟨n4,r2,g1,_,g2,g3,g4⟩:=G.at j ml;have q':Q (.int (ZI t (ZI t x b) (it t x (r-1)):Nat)) H:=by rw[ZdP j J R];exact q
  exact⟨_,rfl,_,rfl,_,rfl,g,_,_,_,rfl,rfl,.of h1,h2,_,rfl,r1,_,_,_,rfl,rfl,h3.sq,h4 b hb,g,_,_,_,rfl,rfl,.of g1,g2,_,rfl,_,rfl,g,t,x,r,rfl,G,j,J,R,r2,_,_,_,rfl,rfl,g3.sq,g4 _ (Wa j J (r-1)),q'⟩
noncomputable def fTb (t:List (List Nat))(b:Nat):V->V
 | .int z=>nV (tb t b z.toNat)
 |y=>y
theorem Zcb {f:Addr}{fd:FuncData}(F:Y5 K "turnings" "turnings" U4 f fd)(T:Bl mg)(T2:Zbw mg)(Y:Fn P w K mg base ZT 2 "turned_by" ["group", "b", "t"] WE):ZR P w K mg base ZT 3 f fd ["group", "b"] VY:=by
 refine F.ok (FS (N:=["group", "b"])) (fun vs H Q E h=>?_) (fun n6 A n4 s H vs Q E hr h=>?_)
 ·obtain⟨g,t,b,rfl,_⟩:=h;rfl
 ·obtain⟨g,t,b,rfl,G,U,hb,q⟩:=h
  refine⟨_,Zv (ZD (ct ZE T.tuple (pc (cb (ZdL rfl) T2.sorted (pc (ct (Zgc rfl) T.set (pc (cmp ["t"] [0,1] ["t", "group", "b"] rfl (XV T.range (pc (cb (YB K) T.len (pc (vn 0) Zs)) Zs)) (fun _ _ _ _ _=>gn 0) (fun _ _ _ _ _=>ZN)
   (fun _ _ _ _ _=>YC Y hr ZF (pc (vn 1) (pc (vn 2) (pc (vn 0) Zs))))) Zs)) Zs)) Zs))),?_⟩
  have n8:=U.n60;obtain⟨gs,u1,u2,_⟩:=id G;have el:(gs.map V.ref).length=t.length:=by rw[Za,u2]
  refine⟨_,rfl,g,_,rfl,.inr (.of u1),_,rfl,by rw[el];omega,by rw[el];omega,?_⟩;rw[el,Zj];refine Y3 (Je 0 t.length) [some (.ref g),some (.int b)] rfl (fTb t b) (by rw[Za,Yx];omega) (fun i x H' J sm R gg=>?_) (fun D H' hD sm M=>?_)
  ·have hi:i<t.length:=by
    have:=(ae.mp J).1;rw[Za,Yx] at this;exact this
   rw[Zc,ZbY hi] at J;have J:x=.int (i:Int):=by
    have:=ay J;rw[<-this,cz]
   subst J;have fin:=gg H' (Same.refl _);exact⟨_,rfl,_,rfl,_,rfl,g,t,b,i,rfl,G.mono sm,U,hb,hi,fin⟩
  ·have e1:((YX 0 t.length).map V.int).map (fTb t b)=((ac t.length).map fun x=>((tb t b x:Nat):Int)).map V.int:=by
    unfold YX;rw[aK,aK,aK];refine a8 fun i _=>?_;show nV (tb t b ((0:Int)+(i:Int)).toNat)=V.int _;rw[cz,Zj];rfl
   rw[e1] at M;generalize hN:((ac t.length).map fun x=>((tb t b x:Nat):Int))=N at M;have nl:N.length=t.length:=by rw[<-hN,Za,Zg]
   refine⟨D,N,rfl,.of M,by omega,fun p1 h1=>?_⟩;have s1:=Same.upd (o:=ZgN P w p1 (Uf N N.length)) h1;have ml:(Uf N N.length).length<=N.length:=firstMet_length_le _ _;refine⟨p1,Uf N N.length,rfl,Zt,X3 _ _,by omega,fun l ns h2 hp hs=>?_⟩;have s2:=Same.upd (o:=.lst (ns.map V.int)) h2;have e:=Zek (c:=Yt t b) hp hs (X3 _ _) (fun k=>?_) (UB b)
   ·refine⟨l,_,rfl,.inl ⟨.of Zt,fun r nr=>?_⟩⟩
    exact q r _ (((sm.trans s1).trans s2).trans (Same.upd nr)) (by rw[<-e];exact Zt)
   ·rw[ZjX]
    constructor
    ·rintro⟨j,hj,e⟩
     have O:j<t.length:=by omega
     refine⟨tb t b j,(Z7 U hb).mpr ⟨j,O,rfl⟩,?_⟩;rw[<-e,<-hN,Zb,Zc,ao O];rfl
    ·rintro⟨a,ha,rfl⟩
     obtain⟨x,J,e⟩:=(Z7 U hb).mp ha;refine⟨x,by omega,?_⟩;rw[<-e,<-hN,Zb,Zc,ao J];rfl
end
end C39
namespace L2
open PySem PySem.Spec PyProof.Rows
section
variable {X:Cx}
theorem Zgb (Y:X.calm=true):Yo X (.builtin "sum") (fun xs H Q=>∃(a:Addr) (ns:List Int),xs=[.ref a]/\Wr X.K H a (ns.map V.int)/\Q (.int ns.sum) H):=by
 intro M s σ H xs us Q I r h;obtain⟨a,ns,rfl,hq,q⟩:=h;obtain⟨u,rfl,ru⟩:=vals1 r;cases ru;obtain⟨j,rv,p,hz⟩:=I.list hq;have O:bP j ns:=intsAre_of rv;obtain⟨xs,U⟩:=O.allInts.items;have J:s.heap.IsList a (intItems xs):=U▸p.isList;refine sum_intListG (I.ok.hd Y) J fun h' tk t' hk=>?_;have e1:ns=xs.toList.map (·.1):=by
  rw[<-nums_intItems,<-U];exact (show numsOf j.toArray.toList=ns from O.numsOf).symm
 have e2:preSum (numAt xs) xs.size=ns.sum:=by
  rw[preSum_eq,ie (by simp),e1]
 rw[e2];exact⟨.int _,H,I.kept (t':=tk) hk,⟨_,rfl⟩,q⟩
theorem sumK (K:ab)(j:X.calm=true)(q:X.K=K:=by rfl):Yo X (.builtin "sum") (fun xs H Q=>∃(a:Addr) (ns:List Int),xs=[.ref a]/\Wr K H a (ns.map V.int)/\Q (.int ns.sum) H):=q▸Zgb j
end
section
variable {X:Cx}
theorem Zlu {prog:Program}{w:World}{A:Around}{j:List Value}{ns:List Int}(r:ZK (ns.map V.int) j):TruthOf prog w A (fun i v=>j.toArray[i]?=some v) (fun i=>ns.getD i 0 != 0):=by
 intro i v s Q E q M;rw[lK] at q;have Y:i<j.length:=(ae.mp q).1;have O:=r.length;rw[Za] at O;have hb:(ns.map V.int)[i]?=some (.int (ns.getD i 0)):=by
  rw[Zc,Zb,Zf (by omega)];rfl
 obtain⟨u,J,U⟩:=r.get hb;rw[q] at J;cases J;obtain⟨t,rfl⟩:=U;exact truthy_int M
theorem Zdl {ns:List Int}:((ac ns.length).any fun i=>ns.getD i 0 != 0)=ns.any (· != 0):=by
 have:(ac ns.length).map (fun i=>ns.getD i 0)=ns:=by
  apply nC
  ·simp
  ·intro i j q;simp at j;simp[j]
 conv=>rhs;rw[<-this,dJ]
 rfl
theorem Zgf (Y:X.calm=true):Yo X (.builtin "any") (fun xs H Q=>∃(a:Addr) (ns:List Int),xs=[.ref a]/\Wr X.K H a (ns.map V.int)/\Q (.bl (ns.any (· != 0))) H):=by
 intro M s σ H xs us Q I r h;obtain⟨a,ns,rfl,hq,q⟩:=h;obtain⟨u,rfl,ru⟩:=vals1 r;cases ru;obtain⟨j,O,p,hz⟩:=I.list hq;have U:=O.length;rw[Za] at U;refine call_any_walk (fN p.isList ?_);have J:a≠s.heap.objs.size:=by obtain⟨o,n,e,_⟩:=p;exact aB (Zp e)
 refine⟨s.heap.objs.size,_,_,_,_,_,(fun i=>ns.getD i 0 != 0),rfl,l9 (A:=X.A.in1) (I.ok.hd Y) _ a J j.toArray,⟨⟨_,Zo _ rfl,rfl,rfl⟩,p.isList.push _⟩,Zlu O,fun h' tk k=>?_⟩;rw[Zh,<-U,Zdl];refine⟨.bl _,H,I.kept (t':=tk) fun b o e=>k b o ?_ (Zn _ e),rfl,q⟩;simpa using aB (Zp e)
theorem ZoX (K:ab)(j:X.calm=true)(q:X.K=K:=by rfl):Yo X (.builtin "any") (fun xs H Q=>∃(a:Addr) (ns:List Int),xs=[.ref a]/\Wr K H a (ns.map V.int)/\Q (.bl (ns.any (· != 0))) H):=q▸Zgf j
end
noncomputable def Its (lo st:Int)(n:Nat):It:=⟨fun i _=>i<n,fun i H x j=>j=H/\x=.int (lo+(i:Int)*st),fun i _=>n<=i⟩
theorem Zfl {P:Program}{w:World}{K:ab}{tg:Expr}(it:Addr)(lo st:Int)(n:Nat):UW P w K tg (Its lo st n) [it] it (fun i h=>hU h it (lo+(i:Nat)*st) ((n:Int)-(i:Nat)) st) where
 mem:=by simp
 obj:=fun i h st b hb=>by
  have e:b=it:=by simpa using hb
  subst e;exact⟨_,st,fun v z=>by
   have z':gA _=f6 v:=z;cases z'⟩
 keep:=fun i h M st k=>k it (by simp) _ st
 item:=by
  intro X U Y hK hc i q s σ H E I O j hg;subst U Y hK;obtain⟨f0,f1,f2,f3,f4,f5⟩:=O it (by simp);have W:=lx (prog:=X.prog) (w:=X.w) (I.ok.hd hc) it lo st n;refine W.item i s _ _ hg j fun v M tk hv J kk=>?_;obtain⟨t,rfl⟩:=hv;have I1:Inv X q σ H {s with heap:=M,toks:=tk}:=I.turned (fun b o hb e=>kk b o (by simpa using hb) e) f0 f1 f3 f4 f5;refine⟨_,rfl,ZcB (s:={s with heap:=M,toks:=tk}) (n:="range_iterator") J rfl rfl (by decide) ⟨.int (lo+(i:Int)*st),H,I1,⟨t,rfl⟩,⟨rfl,rfl⟩,J,fun b hb=>(O b hb).1⟩⟩
 done:=by
  intro X U Y hK hc i q s σ H E I O j hg;subst U Y hK;obtain⟨f0,f1,f2,f3,f4,f5⟩:=O it (by simp);exact iF (I.ok.hd hc) j (by have:n<=i:=hg;omega) fun M eb=>⟨rfl,I.turned (t':=s.toks) (fun b o hb e=>eb b o hb e) f0 f1 f3 f4 f5⟩
 self:=fun _ _ _ _ _ j h=>iG j h
noncomputable def WD (n st:Nat):Nat:=(n+st-1) / st
theorem Jw (n st:Nat)(J:1<=st):bf 0 (n:Int) (st:Int)=(WD n st:Nat):=by
  unfold bf WD;rw[if_pos (by omega)];by_cases h:(0:Int)<(n:Int)
  · rw[if_pos h]
    have:((n+st-1:Nat):Int)=(n:Int)-0-1+(st:Int):=by omega
    first
    |(rw[jD,this];congr 1;omega)
    | (have j:(n+st-1) / st=(n-1) / st+1:=by
         rw[show n+st-1=(n-1)+st by omega,Nat.add_div_right _ (by omega)]
       rw[j];have q:(n:Int)-0-1=((n-1:Nat):Int):=by omega
       first
       |(rw[q,<-jD];omega)
       |(rw[show (n:Int)-1-0=((n-1:Nat):Int) by omega,<-jD];omega))
  · rw[if_neg h]
    have:n=0:=by omega
    subst this;rw[show 0+st-1=st-1 by omega,Nat.div_eq_of_lt (by omega)];rfl
theorem ZgB (n st:Nat)(j:1<=st):WD n st<=n:=by
 unfold WD;by_cases h:n=0
 ·subst h
  rw[show 0+st-1=st-1 by omega,Nat.div_eq_of_lt (by omega)];exact Zq _
 ·rw[Nat.div_le_iff_le_mul_add_pred (by omega)]
  have:n<=st*n:=Nat.le_mul_of_pos_left n (by omega);omega
theorem Zdh {n st:Nat}(q:1<=st)(J:n<=1000)(j:st<=1000):cw 0 (n:Int) (st:Int)=true:=by
 unfold cw;rw[Jw n st q];have:=ZgB n st q;have M:((WD n st:Nat):Int)*(st:Int)<=1000000:=by
  have:WD n st*st<=1000*1000:=kg (by omega) j;rw[<-aV];omega
 have O:0<=((WD n st:Nat):Int)*(st:Int):=by
  rw[<-aV];omega
 simp only[iN,ag,aZ,decide_eq_true_eq,beq_iff_eq];refine⟨by omega,.inr ?_⟩;rw[if_pos (by omega),ag,decide_eq_true_eq,decide_eq_true_eq];omega
noncomputable def Zow (j:TA):TI:=fun q H R=>j q H fun J M=>∃n st:Nat,J=[.int 0,.int n,.int st]/\1<=st/\n<=1000/\st<=1000/\R (Its 0 st (WD n st)) M
theorem ZpJ {X:Cx}{tg a b c:Expr}{ta:TA}{p pos:Pos}(hm:X.mg "range"=none)(ha:PA X [a,b,c] ta)(hg:YO X.env.scope "range"=true:=by kernel_rfl)(hs:starEach [a,b,c] X.env=(false,eval a X.env)::starEach [b,c] X.env:=by rfl)(Y:(backTo pos (starEach [b,c] X.env)).any (·.1)=false:=by rfl) :
  PI X tg (.Call (.Name "range" p) [a,b,c] [] pos) (Zow ta):=by
 intro J s σ H R I h;refine Call_ (WZ I (JB hg) hm lH (bn (Yi (ha pos J s σ H _ I h) fun us s1 ⟨vs,H1,I1,r1,q1⟩=>?_) hs Y));obtain⟨n,st,e,M,hn,n4,q⟩:=q1;subst e;cases r1 with
 |cons r O=>
  cases O with
  |cons r' O=>
   cases O with
   |cons n6 O=>
    cases O;obtain⟨t,rfl⟩:=r;obtain⟨U,rfl⟩:=r';obtain⟨j,rfl⟩:=n6;have lg:((st:Int)).natAbs.log2<9000:=by
     rw[mX];have h1:st.log2<=st:=Nat.log2_le_self st;omega
    refine call_range_3 (by omega) ?_ (Or.inl (PyProof.noPylong_of_log2 lg));refine jr (kK ..) (Zdh M hn n4) ?_;have I2:Inv X J σ H1 {s1 with heap:=s1.heap.push {cls:=.type "range",data:=.fields #[.int 0 t,.int (n:Int) U,.int (st:Int) j]},toks:=s1.toks}:=I1.kept fun b o e=>Zn _ e;refine⟨(s1.heap.push {cls:=.type "range",data:=.fields #[.int 0 t,.int (n:Int) U,.int (st:Int) j]}).objs.size,[(s1.heap.push {cls:=.type "range",data:=.fields #[.int 0 t,.int (n:Int) U,.int (st:Int) j]}).objs.size],_,_,H1,rfl,
     I2.kept (t':=s1.toks) fun b o e=>Zn _ e,Zfl _ 0 (st:Int) (WD n st),?_,fun b hb=>?_,q⟩
    ·have e1:(0:Int)+((0:Nat):Int)*(st:Int)=0:=by simp
     have e2:((WD n st:Nat):Int)-((0:Nat):Int)=bf 0 (n:Int) (st:Int):=by rw[Jw n st M];omega
     show hU _ _ ((0:Int)+((0:Nat):Int)*(st:Int)) (((WD n st:Nat):Int)-((0:Nat):Int)) (st:Int);rw[e1,e2];exact Zo _ rfl
    ·have e:b=(s1.heap.push {cls:=.type "range",data:=.fields #[.int 0 t,.int (n:Int) U,.int (st:Int) j]}).objs.size:=by simpa using hb
     subst e;exact I2.fpOk (Zq _) (I2.hok.fresh (Zq _))
theorem Zie {lo st:Int}{n:Nat}{g:TG}{tb:TS}{D:Xc}{σ:St}{H:Hp}(Pv:Nat->St->Hp->Prop)(h0:Pv 0 σ H)
  (Y:∀i σ H,i<n->Pv i σ H->g (.int (lo+(i:Int)*st)) σ H fun j O=>tb {D with nx:=Pv (i+1),ct:=Pv (i+1),bk:=D.nx} j O) (hd:∀ σ H,Pv n σ H->D.nx σ H) :
  ∃W:Nat->Nat->St->Hp->Prop,(∃m,W 0 m σ H)/\∀i m σ H,W i m σ H->
   ((Its lo st n).stop i H/\D.nx σ H)\/((Its lo st n).go i H/\∃N:St->Hp->Prop,(∀ q J,N q J->∃U,U<m/\W (i+1) U q J)/\∀x J,(Its lo st n).yld i H x J->g x σ J fun j O=>tb {D with nx:=N,ct:=N,bk:=D.nx} j O):=by
 refine⟨fun i m σ H=>m=n-i/\i<=n/\Pv i σ H,⟨n,by simp,aX _,h0⟩,?_⟩;rintro i m σ H ⟨rfl,hi,p⟩;by_cases M:i<n
 ·refine .inr ⟨M,Pv (i+1),fun q J p'=>⟨n-(i+1),by omega,rfl,M,p'⟩,fun x J hy=>?_⟩
  obtain⟨e,rfl⟩:=hy;subst e;exact Y i σ _ M p
 ·have e:i=n:=by omega
  subst e;exact .inl ⟨Zq _,hd σ H p⟩
end L2
namespace Tb
section
variable {t:List (List Nat)}
noncomputable def sm (n:Nat)(f:Nat->Nat):Nat:=((ac n).map f).sum
theorem Yc {n:Nat}{f g:Nat->Nat}(h:∀x,x<n->f x=g x):sm n f=sm n g:=by
 unfold sm;rw[a8 fun x j=>h x (af.mp j)]
theorem YD (n:Nat)(f:Nat->Nat):sm (n+1) f=sm n f+f n:=by
 unfold sm;rw[c6,aU,List.sum_append];simp
theorem Zi4 (n:Nat):sm n (fun _=>0)=0:=by
 induction n with
 |zero=>rfl
 |succ n j=>rw[YD,j]
theorem ZlE (n:Nat)(f g:Nat->Nat):sm n (fun x=>f x+g x)=sm n f+sm n g:=by
 induction n with
 |zero=>rfl
 |succ n j=>rw[YD,YD,YD,j];omega
theorem Zdi (n k:Nat)(f:Nat->Nat):sm n (fun x=>k*f x)=k*sm n f:=by
 induction n with
 |zero=>rfl
 |succ n j=>rw[YD,YD,j,jG]
theorem Zi5 (n m:Nat)(f:Nat->Nat->Nat):sm n (fun x=>sm m fun y=>f x y)=sm m (fun y=>sm n fun x=>f x y):=by
 induction n with
 |zero=>exact (Zi4 m).symm
 |succ n j=>
  rw[YD,j,<-ZlE];exact Yc fun y _=>(YD n fun x=>f x y).symm
theorem ZaH {n:Nat}{c d:Nat->Nat}(M:∀x,x<n->c x<n)(O:∀x,x<n->d x<n)(q:∀x,x<n->d (c x)=x)(U:∀x,x<n->c (d x)=x)(f:Nat->Nat):sm n (fun x=>f (c x))=sm n f:=by
 unfold sm;have Y:bN ((ac n).map c) (ac n):=by
  refine (bQ ?_ cu).mpr fun k=>?_
  ·unfold List.Nodup
   rw[i6];refine fS (fun {a b} ha hb j z=>j ?_) cu;rw[<-q a (af.mp ha),z,q b (af.mp hb)]
  ·rw[aN]
   constructor
   ·rintro⟨x,hx,rfl⟩
    exact af.mpr (M x (af.mp hx))
   ·intro J
    exact⟨d k,af.mpr (O k (af.mp J)),U k (af.mp J)⟩
 have:=(Y.map f).sum_nat;rw[aK] at this;exact this
theorem ZdZ (P:PW t){s:Nat}(q:s<t.length)(f:Nat->Nat):sm t.length (fun x=>f (tb t x s))=sm t.length f:=by
 obtain⟨J,O⟩:=Yr P q;have M:=Zav P q;have e:YJ t (YJ t s)=s:=(Vf P J q M).symm;refine ZaH (c:=fun x=>tb t x s) (d:=fun x=>tb t x (YJ t s)) (fun x j=>Xf P j q) (fun x j=>Xf P j J) (fun x j=>?_) (fun x j=>?_) f
 ·show tb t (tb t x s) (YJ t s)=x
  have:=JM P j q;unfold tb at this ⊢;rw[e];exact this
 ·show tb t (tb t x (YJ t s)) s=x
  have:=JM P j J;rw[e] at this;unfold tb at this ⊢;rw[e] at this ⊢;exact this
theorem VT (P:PW t){s x y:Nat}(j:s<t.length)(M:x<t.length)(J:y<t.length):tb t (ZI t x y) s=ZI t (tb t x s) (tb t y s):=by
 obtain⟨q,_⟩:=Yr P j;have Y:=Zav P j;have O:=P.lt _ _ j M;have U:=P.lt _ _ j J;unfold tb;rw[P.ass (ZI t s x) (YJ t s) (ZI t (ZI t s y) (YJ t s)) O q (P.lt _ _ U q),<-P.ass (YJ t s) (ZI t s y) (YJ t s) q U q,<-P.ass (YJ t s) s y q j J,Y,P.one y J,<-P.ass s x y j M J,P.ass (ZI t s x) y (YJ t s) O J q]
theorem JL (P:PW t){s:Nat}(j:s<t.length):tb t 0 s=0:=by
 have q:=P.n1;unfold tb;rw[P.oneR s j,(Yr P j).2]
theorem Zlx (P:PW t){s x:Nat}(j:s<t.length)(q:x<t.length):YJ t (tb t x s)=tb t (YJ t x) s:=by
 obtain⟨J,M⟩:=Yr P q;refine (Vf P (Xf P q j) (Xf P J j) ?_).symm;rw[<-VT P j q J,M,JL P j]
theorem ZhQ (P:PW t){x:Nat}(q:x<t.length)(F:Nat->Nat->Nat):sm t.length (fun y=>F y (ZI t x y))=sm t.length (fun w=>F (ZI t (YJ t x) w) w):=by
 obtain⟨J,O⟩:=Yr P q;have M:=Zav P q;have:=ZaH (c:=fun y=>ZI t x y) (d:=fun y=>ZI t (YJ t x) y) (fun y j=>P.lt _ _ q j) (fun y j=>P.lt _ _ J j) (fun y j=>by
  show ZI t (YJ t x) (ZI t x y)=y;rw[<-P.ass _ _ _ J q j,M,P.one y j]) (fun y j=>by
  show ZI t x (ZI t (YJ t x) y)=y;rw[<-P.ass _ _ _ q J j,O,P.one y j]) (fun w=>F (ZI t (YJ t x) w) w)
 rw[<-this];refine Yc fun y j=>?_;show F y (ZI t x y)=F (ZI t (YJ t x) (ZI t x y)) (ZI t x y);rw[<-P.ass _ _ _ J q j,M,P.one y j]
noncomputable def W2 (b:Bool):Nat:=if b then 1 else 0
theorem ZgK {n z:Nat}(hz:z<n)(f:Nat->Nat):sm n (fun w=>W2 (decide (w=z))*f w)=f z:=by
 have j:∀m,m<=n->sm m (fun w=>W2 (decide (w=z))*f w)=if z<m then f z else 0:=fun m=>by
  induction m with
  |zero=>intro _;rfl
  |succ m q=>
   intro J;rw[YD,q (by omega)];by_cases e:m=z
   ·subst e
    rw[if_neg (cg _),if_pos (dE _),decide_eq_true rfl];show 0+1*f m=f m;omega
   ·rw[decide_eq_false e]
    show _+0*f m=_;by_cases h:z<m
    ·rw[if_pos h,if_pos (by omega)];omega
    ·rw[if_neg h,if_neg (by omega)];omega
 rw[j n (Zq _),if_pos hz]
noncomputable def cnA (t:List (List Nat))(q:Nat->Nat)(i j z:Nat):Nat:=sm t.length fun x=>W2 (decide (q x=i))*W2 (decide (q (ZI t (YJ t x) z)=j))
section
variable {nu:Nat->Nat}
theorem Zf7 (P:PW t){i j z:Nat}(hz:z<t.length):sm t.length (fun x=>sm t.length fun y=>W2 (decide (nu x=i))*(W2 (decide (nu y=j))*W2 (decide (ZI t x y=z))))=cnA t nu i j z:=by
 unfold cnA;refine Yc fun x q=>?_;rw[Zdi,ZhQ P q (fun y w=>W2 (decide (nu y=j))*W2 (decide (w=z)))];congr 1;have:sm t.length (fun w=>W2 (decide (nu (ZI t (YJ t x) w)=j))*W2 (decide (w=z)))=sm t.length (fun w=>W2 (decide (w=z))*W2 (decide (nu (ZI t (YJ t x) w)=j))):=Yc fun w _=>dO _ _;rw[this,ZgK hz fun w=>W2 (decide (nu (ZI t (YJ t x) w)=j))]
end
end
structure Nus (t:List (List Nat))(nu rep:Nat->Nat)(N:Nat):Prop where
 lt:∀x,x<t.length->nu x<N
 con:∀x s,x<t.length->s<t.length->nu (tb t x s)=nu x
 tr:∀x y,x<t.length->y<t.length->nu x=nu y->∃s,s<t.length/\tb t x s=y
 rl:∀k,k<N->rep k<t.length
 rn:∀k,k<N->nu (rep k)=k
 z:∀x,x<t.length->(nu x=0↔x=0)
section
variable {t:List (List Nat)}{nu rep:Nat->Nat}{N:Nat}
end
section
variable {t1 t2 T:List (List Nat)}
end
section
variable {t:List (List Nat)}{On:Nat->List Nat}{n:Nat}
end
section
variable {t:List (List Nat)}{o:List Nat}
end
section
variable {t:List (List Nat)}{o o2:List Nat}
noncomputable def Yh (t:List (List Nat))(b:Nat):Nat:=(ZC t t.length).findIdx (·.contains b)
theorem UA (P:PW t){b:Nat}(hb:b<t.length):Yh t b<(ZC t t.length).length/\b∈(ZC t t.length).getD (Yh t b) []:=by
 have q:=XH P t.length (Zq _) b hb;unfold YV at q;obtain⟨c,J,hm⟩:=a6.mp q;have j:(ZC t t.length).findIdx (·.contains b)<(ZC t t.length).length:=ja ⟨c,J,hm⟩;refine⟨j,?_⟩;have M:=iD (w:=j);unfold Yh;rw[Zb,Zf j];exact aA.mp M
theorem X6 {α:Type}{l:List (List α)}{i:Nat}(h:i<l.length):l[i]?=some (l.getD i []):=by
 rw[Zb,Zf h];rfl
theorem Zbo (P:PW t){b i:Nat}(hb:b<t.length)(j:i<(ZC t t.length).length)(q:b∈(ZC t t.length).getD i []):Yh t b=i:=by
 obtain⟨J,M⟩:=UA P hb;exact UD P t.length (Zq _) _ _ _ _ b (X6 J) (X6 j) M q
theorem Zbq (P:PW t){i:Nat}(j:i<(ZC t t.length).length):∃b,b<t.length/\(ZC t t.length).getD i []=Yt t b:=Wl P t.length (Zq _) _ (av (X6 j))
theorem Ziz (P:PW t){b x:Nat}(hb:b<t.length)(j:x<t.length):Yh t (tb t b x)=Yh t b:=by
 have M:=Xf P hb j;obtain⟨q,J⟩:=UA P M;obtain⟨c,O,e⟩:=Zbq P q;have U:tb t b x∈Yt t b:=(Z7 P hb).mpr ⟨x,j,rfl⟩;rw[e] at J;have Y:=YH P O hb J U;exact (Zbo P hb q (by rw[e];exact Y)).symm
end
noncomputable def ZB (t:List (List Nat))(k:Nat):Nat:=((ZC t t.length).getD k []).getD 0 0
section
variable {t:List (List Nat)}
theorem Jm (P:PW t){k:Nat}(j:k<(ZC t t.length).length):∃b,b<t.length/\(ZC t t.length).getD k []=Yt t b:=by
 have q:(ZC t t.length).getD k []∈ZC t t.length:=by
  rw[Zb,Zf j];exact bg j
 exact Wl P t.length (Zq _) _ q
theorem Zex (P:PW t){k:Nat}(q:k<(ZC t t.length).length):ZB t k∈(ZC t t.length).getD k []:=by
 obtain⟨b,hb,e⟩:=Jm P q;unfold ZB;rw[e];have j:=Y4 P hb;cases h:Yt t b with
 |nil=>rw[h] at j;cases j
 |cons x r=>exact aE
theorem Zg9 (P:PW t){k:Nat}(j:k<(ZC t t.length).length):ZB t k<t.length:=by
 obtain⟨b,hb,e⟩:=Jm P j;have:=Zex P j;rw[e] at this;exact UC this
theorem ZbR (P:PW t){x y:Nat}(j:x<t.length)(M:y<t.length)(h:Yh t x=Yh t y):∃s,s<t.length/\tb t x s=y:=by
 obtain⟨hk,U⟩:=UA P j;obtain⟨_,O⟩:=UA P M;rw[<-h] at O;obtain⟨b,hb,e⟩:=Jm P hk;rw[e] at U O;obtain⟨u,hu,eu⟩:=(Z7 P hb).mp U;have Y:x∈Yt t x:=Y4 P j;have J:b∈Yt t x:=YH P j hb Y U;have:y∈Yt t x:=by
  obtain⟨v,hv,ev⟩:=(Z7 P hb).mp O;obtain⟨q,hq,eq⟩:=(Z7 P j).mp J;have n4:b∈Yt t y:=YH P M hb (Y4 P M) O;have n6:y∈Yt t x:=YH P j M J n4;exact n6
 exact (Z7 P j).mp this
theorem Zap:∀k,(ZC t (k+1))[0]?=some (Yt t 0)
 |0=>rfl
 |k+1=>by
  have j:=Zap k;show (if (ZC t (k+1)).any (·.contains (k+1)) then ZC t (k+1) else ZC t (k+1)++[Yt t (k+1)])[0]?=_
  split
  ·exact j
  ·rw[aw (ae.mp j).1]
   exact j
theorem Uz (P:PW t):Yh t 0=0:=by
 obtain⟨k,j⟩:∃k,t.length=k+1:=⟨t.length-1,by have:=P.n1;omega⟩;have h:=Zap (t:=t) k;rw[<-j] at h;have q:=(ae.mp h).1;refine Zbo P P.n1 q ?_;rw[Zb,h];exact Y4 P P.n1
theorem Yp (P:PW t):Nus t (Yh t) (ZB t) (ZC t t.length).length:=by
 have M:=Uz P;refine⟨fun x j=>(UA P j).1,fun x s j J=>Ziz P j J,fun x y j O h=>ZbR P j O h,fun k q=>Zg9 P q,fun k q=>Zbo P (Zg9 P q) q (Zex P q),fun x j=>⟨fun h=>?_,fun h=>by rw[h];exact M⟩⟩;obtain⟨s,J,e⟩:=ZbR P P.n1 j (M.trans h.symm);rw[JL P J] at e;exact e.symm
end
noncomputable def Ys (n:Nat)(f:Nat->Int):Int:=((ac n).map f).sum
theorem Yd (n:Nat)(f:Nat->Int):Ys (n+1) f=Ys n f+f n:=by
 unfold Ys;rw[c6,aU,List.sum_append];simp
theorem ZJ {n:Nat}{f g:Nat->Int}(h:∀x,x<n->f x=g x):Ys n f=Ys n g:=by
 unfold Ys;rw[a8 fun x j=>h x (af.mp j)]
theorem Jv (n:Nat):Ys n (fun _=>0)=0:=by
 induction n with
 |zero=>rfl
 |succ n j=>rw[Yd,j];rfl
theorem ZaJ (n:Nat)(f g:Nat->Int):Ys n (fun x=>f x+g x)=Ys n f+Ys n g:=by
 induction n with
 |zero=>rfl
 |succ n j=>rw[Yd,Yd,Yd,j];omega
theorem WN (n:Nat)(k:Int)(f:Nat->Int):Ys n (fun x=>k*f x)=k*Ys n f:=by
 induction n with
 |zero=>exact (cB k).symm
 |succ n j=>rw[Yd,Yd,j,Int.mul_add]
theorem V1 (n m:Nat)(f:Nat->Nat->Int):Ys n (fun x=>Ys m fun y=>f x y)=Ys m (fun y=>Ys n fun x=>f x y):=by
 induction n with
 |zero=>
  show (0:Int)=_;exact (Jv m).symm
 |succ n j=>
  rw[Yd,j,<-ZaJ];exact ZJ fun y _=>(Yd n _).symm
theorem Xk {n:Nat}{p:Int}{f g:Nat->Int}(h:∀x,x<n->f x % p=g x % p):Ys n f % p=Ys n g % p:=by
 induction n with
 |zero=>rfl
 |succ n j=>
  rw[Yd,Yd,Int.add_emod,j fun x q=>h x (by omega),h n (by omega),<-Int.add_emod]
theorem ZaI {n z:Nat}(hz:z<n)(f:Nat->Int):Ys n (fun w=>if w=z then f w else 0)=f z:=by
 induction n with
 |zero=>omega
 |succ n j=>
  rw[Yd];by_cases e:z=n
  ·subst e
   rw[if_pos rfl];have:Ys z (fun w=>if w=z then f w else 0)=Ys z (fun _=>0):=ZJ fun x q=>if_neg (by omega)
   rw[this,Jv,cz]
  ·rw[j (by omega),if_neg (fun x=>e x.symm),cC]
theorem VA (n:Nat)(f:Nat->Nat):Ys n (fun x=>(f x:Int))=(sm n f:Nat):=by
 induction n with
 |zero=>rfl
 |succ n j=>rw[Yd,YD,j];omega
noncomputable def cjB (t:List (List Nat))(u x:Nat):Bool:=(ac t.length).any fun y=>tb t u y == x
theorem X9 {t:List (List Nat)}{u x:Nat}:cjB t u x=true↔∃y,y<t.length/\tb t u y=x:=by
 unfold cjB;rw[a6];constructor
 ·rintro⟨y,j,e⟩;exact⟨y,af.mp j,eq_of_beq e⟩
 ·rintro⟨y,j,e⟩;exact⟨y,af.mpr j,beq_iff_eq.mpr e⟩
structure PrM (p:Nat):Prop where
 p2:2<=p
 nz:∀a b,0<a->a<p->0<b->b<p->a*b % p≠0
 iv:∀a,0<a->a<p->∃b,0<b/\b<p/\b*a % p=1
structure CD (t:List (List Nat))(p m:Nat)(e w f:Nat->Nat->Nat):Prop where
 pr:PrM p
 m1:1<=m
 mc:m=(ZC t t.length).length
 ec:∀s x y,s<m->x<t.length->y<t.length->e s (tb t x y)=e s x
 wc:∀s x y,s<m->x<t.length->y<t.length->w s (tb t x y)=w s x
 elt:∀s x,s<m->x<t.length->e s x<p
 wlt:∀s x,s<m->x<t.length->w s x<p
 eig:∀s u z,s<m->u<t.length->z<t.length->sm t.length (fun x=>W2 (cjB t u x)*e s (ZI t (YJ t x) z)) % p=w s u*e s z % p
 one:∀x,x<t.length->sm m (fun s=>e s x) % p=if x=0 then 1 else 0
 du:∀s s',s<m->s'<m->sm t.length (fun x=>f s x*e s' x) % p=if s=s' then 1 else 0
 sep:∀s s',s<m->s'<m->(∀u,u<t.length->w s u=w s' u)->s=s'
section
variable {t:List (List Nat)}{p m:Nat}{e w f:Nat->Nat->Nat}
theorem CD.p0 (C:CD t p m e w f):(p:Int)≠0:=by have:=C.pr.p2;omega
noncomputable def EC (t:List (List Nat))(e:Nat->Nat->Nat)(s c:Nat):Nat:=e s (ZB t c)
theorem CD.at (C:CD t p m e w f)(P:PW t){s x:Nat}(J:s<m)(q:x<t.length):e s x=EC t e s (Yh t x):=by
 have U:=Yp P;have j:=U.lt x q;obtain⟨y,M,h⟩:=U.tr (ZB t (Yh t x)) x (U.rl _ j) q (U.rn _ j);have:=C.ec s _ y J (U.rl _ j) M;rw[h] at this;exact this
theorem CD.wat (C:CD t p m e w f)(P:PW t){s x:Nat}(J:s<m)(q:x<t.length):w s x=w s (ZB t (Yh t x)):=by
 have U:=Yp P;have j:=U.lt x q;obtain⟨y,M,h⟩:=U.tr (ZB t (Yh t x)) x (U.rl _ j) q (U.rn _ j);have:=C.wc s _ y J (U.rl _ j) M;rw[h] at this;exact this
theorem ZiC (P:PW t){u x:Nat}(j:u<t.length)(J:x<t.length):cjB t u x=decide (Yh t x=Yh t u):=by
 have U:=Yp P;by_cases h:Yh t x=Yh t u
 ·rw[decide_eq_true h]
  exact X9.mpr (U.tr u x j J h.symm)
 ·rw[decide_eq_false h]
  cases q:cjB t u x with
  |false=>rfl
  |true=>
   obtain⟨y,M,e⟩:=X9.mp q;have:=U.con u y j M;rw[e] at this;exact absurd this h
theorem CD.LE (C:CD t p m e w f)(P:PW t){s i c:Nat}(J:s<m)(hi:i<m)(hc:c<m) :
  sm m (fun j=>EC t e s j*cnA t (Yh t) i j (ZB t c)) % p=w s (ZB t i)*EC t e s c % p:=by
 have U:=Yp P;have Y:=C.mc;have M:ZB t i<t.length:=U.rl i (by omega);have q:ZB t c<t.length:=U.rl c (by omega);rw[show w s (ZB t i)*EC t e s c=w s (ZB t i)*e s (ZB t c) from rfl,<-C.eig s _ _ J M q];congr 1;have h1:sm m (fun j=>EC t e s j*cnA t (Yh t) i j (ZB t c))=sm m (fun j=>sm t.length fun x=>W2 (decide (Yh t x=i))*(W2 (decide (Yh t (ZI t (YJ t x) (ZB t c))=j))*EC t e s j)):=Yc fun j _=>by
  unfold cnA;rw[<-Zdi];refine Yc fun x _=>?_;rw[dO (EC t e s j),kO]
 rw[h1,Zi5];refine Yc fun x O=>?_;rw[Zdi,ZiC P M O,U.rn i (by omega)];congr 1;have hb:=(Yr P O).1;have hl:Yh t (ZI t (YJ t x) (ZB t c))<m:=by rw[Y];exact U.lt _ (P.lt _ _ hb q)
 have:=ZgK hl (fun j=>EC t e s j);rw[C.at P J (P.lt _ _ hb q),<-this];refine Yc fun j _=>?_;congr 2;rw[decide_eq_decide];exact eq_comm
noncomputable def Vc (t:List (List Nat))(p m:Nat)(e:Nat->Nat->Nat)(α:Nat->Int)(c:Nat):Int:=Ys m (fun s=>α s*(EC t e s c:Int)) % (p:Int)
theorem JG {α j:Nat->Int}(h:∀s,s<m->α s % (p:Int)=j s % (p:Int))(c:Nat):Vc t p m e α c=Vc t p m e j c:=by
 unfold Vc;refine Xk fun s q=>?_;rw[bF,h s q,<-bF]
theorem ZiL (α:Nat->Int)(u:Int)(c:Nat):Vc t p m e α c*u % (p:Int)=Vc t p m e (fun s=>α s*u) c:=by
 unfold Vc;rw[bF,fU _ (ji _),<-bF,cP,<-WN];congr 1;refine ZJ fun s _=>?_;rw[<-ci,cP u]
theorem Zm5 (α j:Nat->Int)(c:Nat):(Vc t p m e α c-Vc t p m e j c) % (p:Int)=Vc t p m e (fun s=>α s - j s) c:=by
 unfold Vc;rw[<-io];congr 1;have:Ys m (fun s=>(α s - j s)*(EC t e s c:Int))=Ys m (fun s=>α s*(EC t e s c:Int)+(-1)*(j s*(EC t e s c:Int))):=ZJ fun s _=>by
  rw[mq];omega
 rw[this,ZaJ,WN];omega
theorem Zkw (C:CD t p m e w f)(P:PW t){i c:Nat}(q:i<m)(J:c<m)(α:Nat->Int)(k:Int) :
  (Ys m (fun j=>Vc t p m e α j*(cnA t (Yh t) i j (ZB t c):Int))-k*Vc t p m e α c) % (p:Int)=Vc t p m e (fun s=>α s*((w s (ZB t i):Int)-k)) c:=by
 have M:Ys m (fun j=>Vc t p m e α j*(cnA t (Yh t) i j (ZB t c):Int)) % (p:Int)=Ys m (fun s=>α s*((w s (ZB t i):Int)*(EC t e s c:Int))) % (p:Int):=by
  have O:Ys m (fun j=>Vc t p m e α j*(cnA t (Yh t) i j (ZB t c):Int)) % (p:Int)=Ys m (fun j=>Ys m (fun s=>α s*(EC t e s j:Int))*(cnA t (Yh t) i j (ZB t c):Int)) % (p:Int):=Xk fun j _=>by
   unfold Vc;rw[bF,fU _ (ji _),<-bF]
  rw[O];have U:Ys m (fun j=>Ys m (fun s=>α s*(EC t e s j:Int))*(cnA t (Yh t) i j (ZB t c):Int))=Ys m (fun s=>α s*Ys m (fun j=>((EC t e s j*cnA t (Yh t) i j (ZB t c):Nat):Int))):=by
   have Y:∀j,Ys m (fun s=>α s*(EC t e s j:Int))*(cnA t (Yh t) i j (ZB t c):Int)=Ys m (fun s=>α s*((EC t e s j*cnA t (Yh t) i j (ZB t c):Nat):Int)):=fun j=>by
    rw[cP,<-WN];refine ZJ fun s _=>?_;rw[aV,<-ci,cP _ (α s),ci,cP (cnA t (Yh t) i j (ZB t c):Int)]
   rw[ZJ fun j _=>Y j,V1];refine ZJ fun s _=>?_;rw[<-WN]
  rw[U];refine Xk fun s hs=>?_;rw[VA,bF];have:=C.LE P hs q J;have h2:((sm m (fun j=>EC t e s j*cnA t (Yh t) i j (ZB t c)):Nat):Int) % (p:Int)=((w s (ZB t i):Int)*(EC t e s c:Int)) % (p:Int):=by
   rw[<-aV,<-a9,<-a9,this]
  rw[h2,<-bF]
 rw[io,M,<-io];have h3:(k*Vc t p m e α c) % (p:Int)=(k*Ys m (fun s=>α s*(EC t e s c:Int))) % (p:Int):=by
  unfold Vc;rw[bF,fU _ (ji _),<-bF]
 rw[io,h3,<-io];unfold Vc;congr 1;have:Ys m (fun s=>α s*((w s (ZB t i):Int)-k)*(EC t e s c:Int))=Ys m (fun s=>α s*((w s (ZB t i):Int)*(EC t e s c:Int))+(-k)*(α s*(EC t e s c:Int))):=ZJ fun s _=>by
  rw[jQ,mq,ci,gH,cP (α s) k,ci k];omega
 rw[this,ZaJ,WN,gH];omega
theorem Zlp (C:CD t p m e w f)(P:PW t)(α:Nat->Int)(h:∀c,c<m->Vc t p m e α c=0):∀s,s<m->α s % (p:Int)=0:=by
 intro s O;have U:=Yp P;have mc:=C.mc;have M:Ys t.length (fun x=>(f s x:Int)*Ys m (fun j=>α j*(e j x:Int))) % (p:Int)=0:=by
  have:Ys t.length (fun x=>(f s x:Int)*Ys m (fun j=>α j*(e j x:Int))) % (p:Int)=Ys t.length (fun _=>0) % (p:Int):=Xk fun x Y=>by
   have hc:=U.lt x Y;have hv:=h (Yh t x) (by omega);unfold Vc at hv;have:Ys m (fun j=>α j*(e j x:Int))=Ys m (fun j=>α j*(EC t e j (Yh t x):Int)):=ZJ fun j J=>by rw[C.at P J Y]
   rw[this,bF,hv];simp
  rw[this,Jv];rfl
 have h2:Ys t.length (fun x=>(f s x:Int)*Ys m (fun j=>α j*(e j x:Int)))=Ys m (fun j=>α j*((sm t.length (fun x=>f s x*e j x):Nat):Int)):=by
  have e1:∀x,(f s x:Int)*Ys m (fun j=>α j*(e j x:Int))=Ys m (fun j=>α j*((f s x*e j x:Nat):Int)):=fun x=>by
   rw[<-WN];refine ZJ fun j _=>?_;rw[aV,<-ci,cP _ (α j),ci]
  rw[ZJ fun x _=>e1 x,V1];refine ZJ fun j _=>?_;rw[WN,VA]
 rw[h2] at M;have h3:Ys m (fun j=>α j*((sm t.length (fun x=>f s x*e j x):Nat):Int)) % (p:Int)=Ys m (fun j=>if j=s then α j else 0) % (p:Int):=Xk fun j J=>by
  have d:=C.du s j O J;have d2:((sm t.length (fun x=>f s x*e j x):Nat):Int) % (p:Int)=(if s=j then 1 else 0:Int):=by
   rw[<-a9,d];split <;> rfl
  rw[bF,d2];by_cases q:j=s
  ·rw[if_pos q,if_pos q.symm]
   simp
  ·rw[if_neg q,if_neg (fun z=>q z.symm)]
   simp
 rw[h3,ZaI O] at M;exact M
theorem ZoZ (C:CD t p m e w f)(P:PW t){s c:Nat}(j:s<m)(J:c<m):Vc t p m e (fun s'=>if s'=s then 1 else 0) c=(EC t e s c:Int):=by
 unfold Vc;have:Ys m (fun s'=>(if s'=s then (1:Int) else 0)*(EC t e s' c:Int))=Ys m (fun s'=>if s'=s then (EC t e s' c:Int) else 0):=ZJ fun s' _=>by
  split
  ·rw[jP]
  ·rw[bW]
 rw[this,ZaI j];have q:ZB t c<t.length:=(Yp P).rl c (by have:=C.mc;omega);have:=C.elt s _ j q;rw[fH (by omega)];unfold EC;omega
theorem Zm6 (C:CD t p m e w f)(P:PW t){c:Nat}(J:c<m):Vc t p m e (fun _=>1) c=if c=0 then 1 else 0:=by
 have U:=Yp P;have j:c<(ZC t t.length).length:=by have:=C.mc;omega
 have q:=U.rl c j;unfold Vc;have:Ys m (fun s=>1*(EC t e s c:Int))=((sm m (fun s=>e s (ZB t c)):Nat):Int):=by
  rw[<-VA];exact ZJ fun s _=>jP _
 rw[this,<-a9,C.one _ q];have:ZB t c=0↔c=0:=by
  rw[<-U.z _ q,U.rn c j]
 by_cases h:c=0
 ·rw[if_pos (this.mpr h),if_pos h];rfl
 ·rw[if_neg (fun z=>h (this.mp z)),if_neg h];rfl
end
noncomputable def ffI (w:Nat):Nat->Int
 |0=>1
 |k+1=>ffI w k*((w:Int)-(k:Int))
theorem Zbi {w:Nat}:∀{k:Nat},w<k->ffI w k=0
 |0,h=>by omega
 |k+1,h=>by
  rw[ffI];by_cases e:w=k
  ·subst e
   rw[Int.sub_self,cB]
  ·rw[Zbi (by omega),bW]
theorem PrM.nzI {p:Nat}(h:PrM p){a:Int}{b:Nat}(M:a % (p:Int)≠0)(hb:0<b)(j:b<p):a*(b:Int) % (p:Int)≠0:=by
 have O:=h.p2;have p0:(p:Int)≠0:=by omega
 obtain⟨r,q⟩:=bB (cJ a p0);have J:=cx a (show (0:Int)<p by omega);rw[bF,q,<-a9 b p,<-aV,<-a9,bK j];have:=h.nz r b (by omega) (by omega) hb j;omega
theorem Zig {p:Nat}(h:PrM p){w:Nat}(hw:w<p):∀{k:Nat},k<=w->ffI w k % (p:Int)≠0
 |0,_=>by
  have:=h.p2;rw[ffI,fH (by omega) (by omega)];decide
 |k+1,j=>by
  rw[ffI,show (w:Int)-(k:Int)=((w-k:Nat):Int) by omega];exact h.nzI (Zig h hw (by omega)) (by omega) (by omega)
noncomputable def fcI (p:Nat):Nat->Int
 |0=>1
 |k+1=>fcI p k*((k:Int)+1) % (p:Int)
theorem ZcE (w:Nat):∀k,ffI (w+1) (k+1)=((w:Int)+1)*ffI w k
 |0=>by
  show (1:Int)*(((w+1:Nat):Int)-0)=((w:Int)+1)*1;omega
 |k+1=>by
  rw[ffI,ZcE w k,ffI];have:((w+1:Nat):Int)-((k+1:Nat):Int)=(w:Int)-(k:Int):=by omega
  rw[this,ci]
theorem Zii (p:Nat):∀k,fcI p k % (p:Int)=ffI k k % (p:Int)
 |0=>rfl
 |k+1=>by
  rw[fcI,ZcE,fU _ (ji _),bF,Zii p k,<-bF,cP]
theorem Zlm {p:Nat}(j:2<=p):∀k,0<=fcI p k/\fcI p k<(p:Int)
 |0=>by unfold fcI;omega
 |k+1=>by
  rw[fcI];exact⟨cJ _ (by omega),cx _ (by omega)⟩
noncomputable def JX (S:Nat->Bool)(s:Nat):Int:=if S s then 1 else 0
theorem Zmm {m:Nat}{S:Nat->Bool}{g:Nat->Nat}(h:∃s,s<m/\S s=true):∃M,(∃s,s<m/\S s=true/\g s=M)/\∀s,s<m->S s=true->g s<=M:=by
 induction m with
 |zero=>obtain⟨s,U,_⟩:=h;omega
 |succ m ih=>
  by_cases O:∃s,s<m/\S s=true
  ·obtain⟨M,⟨s,U,h1,h2⟩,Y⟩:=ih O
   by_cases hq:S m=true/\M<g m
   ·refine⟨g m,⟨m,by omega,hq.1,rfl⟩,fun j J q=>?_⟩
    by_cases z:j=m
    ·rw[z];exact Zq _
    ·have:=Y j (by omega) q
     omega
   ·refine⟨M,⟨s,by omega,h1,h2⟩,fun j J q=>?_⟩
    by_cases z:j=m
    ·subst z
     by_cases zz:M<g j
     ·exact absurd ⟨q,zz⟩ hq
     ·omega
    ·exact Y j (by omega) q
  ·obtain⟨s,U,q⟩:=h
   have:s=m:=by
    by_cases z:s=m
    ·exact z
    ·exact absurd ⟨s,by omega,q⟩ O
   subst this;refine⟨g s,⟨s,by omega,q,rfl⟩,fun j J q'=>?_⟩;by_cases z:j=s
   ·rw[z];exact Zq _
   ·exact absurd ⟨j,by omega,q'⟩ O
section
variable {t:List (List Nat)}{p m:Nat}{e w f:Nat->Nat->Nat}
noncomputable def lpA (S:Nat->Bool)(g:Nat->Nat)(k s:Nat):Int:=JX S s*ffI (g s) k
theorem Zj1 (S:Nat->Bool)(g:Nat->Nat)(k:Nat):(fun s=>lpA S g k s*((g s:Int)-(k:Int)))=lpA S g (k+1):=by
 funext s;unfold lpA;rw[ffI,ci]
theorem Zj0 (S:Nat->Bool)(g:Nat->Nat):lpA S g 0=JX S:=by
 funext s;unfold lpA;rw[ffI,iJ]
theorem Zmp (C:CD t p m e w f)(P:PW t){S:Nat->Bool}{g:Nat->Nat}(O:∀s,s<m->g s<p){M:Nat}(U:∃s,s<m/\S s=true/\g s=M)(Y:∀s,s<m->S s=true->g s<=M)(k:Nat) :
  (∃c,c<m/\Vc t p m e (lpA S g k) c≠0)↔k<=M:=by
 constructor
 ·rintro⟨c,J,h⟩
  by_cases z:k<=M
  ·exact z
  ·refine absurd ?_ h
   have:Vc t p m e (lpA S g k) c=Vc t p m e (fun _=>0) c:=JG (fun s j=>by
    unfold lpA JX;by_cases q:S s=true
    ·have:=Y s j q
     rw[Zbi (show g s<k by omega),cB]
    ·rw[if_neg q,bW]) c
   rw[this];unfold Vc;rw[ZJ (g:=fun _=>0) fun s _=>bW _,Jv];rfl
 ·intro hk
  obtain⟨s,j,q1,q2⟩:=U;refine am fun hn=>?_;have hz:∀c,c<m->Vc t p m e (lpA S g k) c=0:=fun c J=>am fun z=>hn ⟨c,J,z⟩;have:=Zlp C P _ hz s j;unfold lpA JX at this;rw[if_pos q1,jP] at this;exact Zig C.pr (O s j) (by omega) this
noncomputable def JV (S:Nat->Bool)(g:Nat->Nat)(M:Nat)(s:Nat):Bool:=S s && decide (g s=M)
theorem Zmo (C:CD t p m e w f){S:Nat->Bool}{g:Nat->Nat}{M:Nat}(j:∀s,s<m->S s=true->g s<=M){u:Int}(J:u*fcI p M % (p:Int)=1)(c:Nat) :
  Vc t p m e (lpA S g M) c*u % (p:Int)=Vc t p m e (JX (JV S g M)) c:=by
 rw[ZiL];refine JG (fun s O=>?_) c;unfold lpA JX JV;by_cases q:S s=true
 ·rw[q,if_pos rfl,jP]
  by_cases z:g s=M
  ·rw[decide_eq_true z,z]
   show ffI M M*u % (p:Int)=1 % (p:Int);rw[bF,<-Zii,<-bF,cP,J,fH (by omega) (by have:=C.pr.p2;omega)]
  ·have:=j s O q
   rw[decide_eq_false z,Zbi (show g s<M by omega),bW];rfl
 ·rw[if_neg q,bW,bW]
  have:S s=false:=by cases U:S s with|true=>exact absurd U q|false=>rfl
  rw[this];rfl
noncomputable def Za7 (S:Nat->Bool)(g:Nat->Nat)(M:Nat)(s:Nat):Bool:=S s && decide (g s<M)
theorem Zmq {S:Nat->Bool}{g:Nat->Nat}{M:Nat}(j:∀s,s<m->S s=true->g s<=M)(c:Nat) :
  (Vc t p m e (JX S) c-Vc t p m e (JX (JV S g M)) c) % (p:Int)=Vc t p m e (JX (Za7 S g M)) c:=by
 rw[Zm5];refine JG (fun s J=>?_) c;congr 1;unfold JX JV Za7;cases q:S s with
 |false=>rfl
 |true=>
  have:=j s J q;by_cases z:g s=M
  ·rw[decide_eq_true z,decide_eq_false (by omega)];rfl
  ·rw[decide_eq_false z,decide_eq_true (by omega)];rfl
theorem Zfd (C:CD t p m e w f)(P:PW t)(S:Nat->Bool):(∃c,c<m/\Vc t p m e (JX S) c≠0)↔∃s,s<m/\S s=true:=by
 constructor
 ·rintro⟨c,M,h⟩
  refine am fun j=>h ?_;have:Vc t p m e (JX S) c=Vc t p m e (fun _=>0) c:=JG (fun s J=>by
   unfold JX;rw[if_neg (fun z=>j ⟨s,J,z⟩)]) c
  rw[this];unfold Vc;rw[ZJ (g:=fun _=>0) fun s _=>bW _,Jv];rfl
 ·rintro⟨s,J,q⟩
  refine am fun j=>?_;have:=Zlp C P _ (fun c M=>am fun z=>j ⟨c,M,z⟩) s J;unfold JX at this;rw[if_pos q,fH (by omega) (by have:=C.pr.p2;omega)] at this;cases this
end
structure PtS (m:Nat)(S:Nat->Bool)(g:Nat->Nat)(Ss:List (Nat->Bool)):Prop where
 ne:∀T∈Ss,∃s,s<m/\T s=true
 sub:∀T∈Ss,∀s,s<m->T s=true->S s=true
 cov:∀s,s<m->S s=true->∃T∈Ss,T s=true
 dj:Ss.Pairwise fun T T'=>∀s,s<m->T s=true->T' s=true->False
 eq:∀T∈Ss,∀s s',s<m->s'<m->T s=true->T s'=true->g s=g s'
structure PtW (m:Nat)(S:Nat->Bool)(g:Nat->Nat)(Ss:List (Nat->Bool))(R:Nat->Bool):Prop where
 ne:∀T∈Ss,∃s,s<m/\T s=true
 sub:∀T∈Ss,∀s,s<m->T s=true->S s=true
 rs:∀s,s<m->R s=true->S s=true
 cov:∀s,s<m->S s=true->R s=true\/∃T∈Ss,T s=true
 dj:Ss.Pairwise fun T T'=>∀s,s<m->T s=true->T' s=true->False
 dr:∀T∈Ss,∀s,s<m->T s=true->R s=true->False
 eq:∀T∈Ss,∀s s',s<m->s'<m->T s=true->T s'=true->g s=g s'
theorem PtW.zero {m:Nat}{S:Nat->Bool}{g:Nat->Nat}:PtW m S g [] S:=
 ⟨fun _ h=>(by cases h),fun _ h=>(by cases h),fun s _ h=>h,fun s _ h=>.inl h,.nil,fun _ h=>(by cases h),fun _ h=>(by cases h)⟩
theorem PtW.step {m:Nat}{S R:Nat->Bool}{g:Nat->Nat}{Ss:List (Nat->Bool)}(W:PtW m S g Ss R){M:Nat}(h1:∃s,s<m/\R s=true/\g s=M)(h2:∀s,s<m->R s=true->g s<=M):PtW m S g (Ss++[JV R g M]) (Za7 R g M):=by
 have U:∀s,JV R g M s=true->R s=true/\g s=M:=fun s h=>by
  unfold JV at h;rw[ag,decide_eq_true_eq] at h;exact h
 have lw:∀s,Za7 R g M s=true->R s=true/\g s<M:=fun s h=>by
  unfold Za7 at h;rw[ag,decide_eq_true_eq] at h;exact h
 have O:∀{T:Nat->Bool},T∈Ss++[JV R g M]->T∈Ss\/T=JV R g M:=fun {T} h=>by
  rcases bH.mp h with h|h
  ·exact .inl h
  ·exact .inr (aQ.mp h)
 refine⟨fun T J=>?_,fun T J s j q=>?_,fun s j q=>W.rs s j (lw s q).1,fun s j q=>?_,?_,fun T J s j q1 q2=>?_,fun T J s s' j n4 q Y=>?_⟩
 ·rcases O J with h|rfl
  ·exact W.ne T h
  ·obtain⟨s,j,a,b⟩:=h1
   exact⟨s,j,by unfold JV;rw[a,decide_eq_true b];rfl⟩
 ·rcases O J with h|rfl
  ·exact W.sub T h s j q
  ·exact W.rs s j (U s q).1
 ·rcases W.cov s j q with h|⟨T,J,h⟩
  ·have:=h2 s j h
   by_cases z:g s=M
   ·exact .inr ⟨_,aS _ aE,by unfold JV;rw[h,decide_eq_true z];rfl⟩
   ·exact .inl (by unfold Za7;rw[h,decide_eq_true (by omega)];rfl)
  ·exact .inr ⟨T,bY _ J,h⟩
 ·rw[iB]
  refine⟨W.dj,gS _ _,fun T J T' n6 s j q Y=>?_⟩;rw[aQ.mp n6] at Y;exact W.dr T J s j q (U s Y).1
 ·rcases O J with h|rfl
  ·exact W.dr T h s j q1 (lw s q2).1
  ·have a:=(U s q1).2
   have b:=(lw s q2).2;omega
 ·rcases O J with h|rfl
  ·exact W.eq T h s s' j n4 q Y
  ·rw[(U s q).2,(U s' Y).2]
theorem PtW.end {m:Nat}{S R:Nat->Bool}{g:Nat->Nat}{j:List (Nat->Bool)}(W:PtW m S g j R)(h:¬ ∃s,s<m/\R s=true):PtS m S g j:=
 ⟨W.ne,W.sub,fun s J q=>by
  rcases W.cov s J q with z|z
  ·exact absurd ⟨s,J,z⟩ h
  ·exact z,W.dj,W.eq⟩
structure JY (m:Nat)(w:Nat->Nat->Nat)(i:Nat)(Ss:List (Nat->Bool)):Prop where
 ne:∀T∈Ss,∃s,s<m/\T s=true
 cov:∀s,s<m->∃T∈Ss,T s=true
 dj:Ss.Pairwise fun T T'=>∀s,s<m->T s=true->T' s=true->False
 eq:∀T∈Ss,∀s s',s<m->s'<m->T s=true->T s'=true->∀j,j<i->w s j=w s' j
theorem JY.zero {m:Nat}(m1:1<=m)(w:Nat->Nat->Nat):JY m w 0 [fun _=>true]:=
 ⟨fun T q=>⟨0,m1,by rw[aQ.mp q]⟩,fun s _=>⟨_,aE,rfl⟩,gS _ _,fun _ _ _ _ _ _ _ _ j J=>by omega⟩
inductive FiS (m:Nat) (g:Nat->Nat):List (Nat->Bool)->List (Nat->Bool)->Prop
 |nil:FiS m g [] []
 |snoc {Ss Fs Ts:List (Nat->Bool)}{S:Nat->Bool}:FiS m g Ss Fs->PtS m S g Ts->FiS m g (Ss++[S]) (Fs++Ts)
theorem FiS.out {m:Nat}{g:Nat->Nat}{M O:List (Nat->Bool)}(h:FiS m g M O):(∀T∈O,(∃s,s<m/\T s=true)/\(∃S∈M,∀s,s<m->T s=true->S s=true)/\∀s s',s<m->s'<m->T s=true->T s'=true->g s=g s')/\(∀S∈M,∀s,s<m->S s=true->∃T∈O,T s=true):=by
 induction h with
 |nil=>exact⟨fun _ h=>(by cases h),fun _ h=>(by cases h)⟩
 |snoc h p U=>
  refine⟨fun T j=>?_,fun S J s Y q=>?_⟩
  ·rcases bH.mp j with j|j
   ·obtain⟨a,⟨S,J,b⟩,c⟩:=U.1 T j
    exact⟨a,⟨S,bY _ J,b⟩,c⟩
   ·exact⟨p.ne T j,⟨_,aS _ aE,p.sub T j⟩,p.eq T j⟩
  ·rcases bH.mp J with J|J
   ·obtain⟨T,j,z⟩:=U.2 S J s Y q
    exact⟨T,bY _ j,z⟩
   ·rw[aQ.mp J] at q
    obtain⟨T,j,z⟩:=p.cov s Y q;exact⟨T,aS _ j,z⟩
theorem FiS.dj {m:Nat}{g:Nat->Nat}{U Y:List (Nat->Bool)}(h:FiS m g U Y)(J:U.Pairwise fun T j=>∀s,s<m->T s=true->j s=true->False):Y.Pairwise fun T j=>∀s,s<m->T s=true->j s=true->False:=by
 induction h with
 |nil=>exact .nil
 |snoc h p ih=>
  rw[iB] at J ⊢;refine⟨ih J.1,p.dj,fun T hT j M s O q q'=>?_⟩;obtain⟨_,⟨S,hS,b⟩,_⟩:=h.out.1 T hT;exact J.2.2 S hS _ aE s O (b s O q) (p.sub j M s O q')
theorem JY.step {m i:Nat}{w:Nat->Nat->Nat}{Ss Fs:List (Nat->Bool)}(A:JY m w i Ss)(h:FiS m (fun s=>w s i) Ss Fs):JY m w (i+1) Fs:=by
 refine⟨fun T O=>(h.out.1 T O).1,fun s M=>?_,h.dj A.dj,fun T O s U M J q q' j hj=>?_⟩
 ·obtain⟨S,Y,q⟩:=A.cov s M
  exact h.out.2 S Y s M q
 ·obtain⟨_,⟨S,Y,b⟩,c⟩:=h.out.1 T O
  by_cases z:j=i
  ·rw[z];exact c s U M J q q'
  ·exact A.eq S Y s U M J (b s M q) (b U J q') j (by omega)
noncomputable def pkS (m:Nat)(T:Nat->Bool):Nat:=((ac m).find? T).getD 0
theorem JZ {m:Nat}{T:Nat->Bool}(h:∃s,s<m/\T s=true):pkS m T<m/\T (pkS m T)=true:=by
 obtain⟨s,j,q⟩:=h;unfold pkS;cases z:(ac m).find? T with
 |none=>
  have:=iW.mp z s (af.mpr j);exact absurd q this
 |some x=>exact⟨af.mp (gu z),jN z⟩
theorem U6 {m:Nat}:∀{J:List (Nat->Bool)},(∀T∈J,∃s,s<m/\T s=true)->(J.Pairwise fun T j=>∀s,s<m->T s=true->j s=true->False)->(J.map (pkS m)).Nodup
 | [],_,_=>eE
 |T::J,M,hd=>by
  rw[mF] at hd;rw[aL,bG];refine⟨fun h=>?_,U6 (fun j O=>M j (aH _ O)) hd.2⟩;obtain⟨j,q,z⟩:=aN.mp h;have a:=JZ (M T aE);have b:=JZ (M j (aH _ q));rw[z] at b;exact hd.1 j q _ a.1 a.2 b.2
theorem JY.len {m i:Nat}{w:Nat->Nat->Nat}{j:List (Nat->Bool)}(A:JY m w i j):j.length<=m:=by
 have:=L2.Yq (j.map (pkS m)) (ac m) (U6 A.ne A.dj) (fun x q=>by
  obtain⟨T,J,rfl⟩:=aN.mp q;exact af.mpr (JZ (A.ne T J)).1)
 rwa [Za,Zg] at this
theorem ZjW {l:List Nat}{m:Nat}(nd:l.Nodup)(q:∀x∈l,x<m)(len:l.length=m):l.Perm (ac m):=by
 have J:∀x,x<m->x∈l:=fun x M=>by
  refine am fun O=>?_;have:=L2.Yq (x::l) (ac m) (bG.mpr ⟨O,nd⟩) (fun y j=>by
   rcases aF.mp j with rfl|j
   ·exact af.mpr M
   ·exact af.mpr (q y j))
  rw[Zi,Zg] at this;omega
 exact (bQ nd cu).mpr fun x=>⟨fun h=>af.mpr (q x h),fun h=>J x (af.mp h)⟩
theorem ZoH {m:Nat}{J:List (Nat->Bool)}(hd:J.Pairwise fun T j=>∀s,s<m->T s=true->j s=true->False){T j:Nat->Bool}(h:T∈J)(h':j∈J){s:Nat}(Y:s<m)(q:T s=true)(M:j s=true):T=j:=by
 induction hd with
 |nil=>cases h
 |cons a _ ih=>
  rcases aF.mp h with e1|h1
  ·rcases aF.mp h' with O|U
   ·rw[e1,O]
   ·rw[e1] at q
    exact (a _ U s Y q M).elim
  ·rcases aF.mp h' with O|U
   ·rw[O] at M
    exact (a _ h1 s Y M q).elim
   ·exact ih h1 U
theorem JY.full {m i:Nat}{w:Nat->Nat->Nat}{J:List (Nat->Bool)}(A:JY m w i J)(h:m<=J.length):∀T∈J,∀s s',s<m->s'<m->T s=true->T s'=true->s=s':=by
 have Y:(J.map (pkS m)).Perm (ac m):=ZjW (U6 A.ne A.dj) (fun x hx=>by
  obtain⟨T,j,rfl⟩:=aN.mp hx;exact (JZ (A.ne T j)).1) (by rw[Za];have:=A.len;omega)
 have key:∀T∈J,∀s,s<m->T s=true->s=pkS m T:=fun T j s O q=>by
  obtain⟨T',M,z⟩:=aN.mp (Y.mem_iff.mpr (af.mpr O));have b:=JZ (A.ne T' M);rw[z] at b;rw[ZoH A.dj j M O q b.2,z]
 intro T j s s' O U q q';rw[key T j s O q,key T j s' U q']
theorem JY.skip {m i:Nat}{w:Nat->Nat->Nat}{J:List (Nat->Bool)}(A:JY m w i J)(h:m<=J.length):JY m w (i+1) J:=
 ⟨A.ne,A.cov,A.dj,fun T O s U Y M q q' j _=>by rw[A.full h T O s U Y M q q']⟩
theorem JY.end {m:Nat}{w:Nat->Nat->Nat}{M:List (Nat->Bool)}(A:JY m w m M)(O:∀s s',s<m->s'<m->(∀j,j<m->w s j=w s' j)->s=s'):(M.map (pkS m)).Perm (ac m)/\∀T∈M,∀s,s<m->T s=decide (s=pkS m T):=by
 have one:∀T∈M,∀s,s<m->T s=decide (s=pkS m T):=fun T J s U=>by
  have a:=JZ (A.ne T J);cases q:T s with
  |true=>exact (decide_eq_true (O s _ U a.1 (A.eq T J s _ U a.1 q a.2))).symm
  |false=>
   refine (decide_eq_false fun z=>?_).symm;rw[z,a.2] at q;cases q
 refine⟨?_,one⟩;refine (bQ (U6 A.ne A.dj) cu).mpr fun x=>⟨fun h=>?_,fun h=>?_⟩
 ·obtain⟨T,J,rfl⟩:=aN.mp h
  exact af.mpr (JZ (A.ne T J)).1
 ·have Y:=af.mp h
  obtain⟨T,J,q⟩:=A.cov x Y;rw[one T J x Y] at q;rw[of_decide_eq_true q];exact aN.mpr ⟨T,J,rfl⟩
noncomputable def Vy (count p:Nat):Bool:=decide (p*p<=4*count) || (ac (p-2)).any fun k=>p % (k+2) == 0
structure Zo7 (n count p:Nat):Prop where
 st:∃J,p=(n+1)+J*n/\∀j,j<J->Vy count ((n+1)+j*n)=true
 ok:Vy count p=false
 p2:2<=p
 lt:p<=100000
structure Zo1 (p z r:Nat):Prop where
 r1:1<=r
 rp:r<=p
 one:z ^ r % p=1
 nz:∀k,1<=k->k<r->z ^ k % p≠1
noncomputable def RtP (n p j:Nat):Prop:=(j=1/\n=1)\/(2<=j/\j<p/\n≠1/\∃r:Nat->Nat,(∀z,2<=z->z<=j->Zo1 p z (r z))/\(∀z,2<=z->z<j->r z≠n)/\r j=n)
structure TD (t:List (List Nat))(n p m:Nat)(e ω φ:Nat->Nat->Nat)(z:Nat)(dg:Nat->Nat):Prop where
 cd:CD t p m e ω φ
 n1:1<=n
 n60:n<=60
 all:∀a,a<t.length->it t a n=0
 mn:∀x,(∀a,a<t.length->it t a x=0)->x % n=0
 fit:Zo7 n t.length p
 rt:RtP n p z
 d1:∀s,s<m->1<=dg s
 dp:∀s,s<m->dg s<p
 dl:∀s,s<m->dg s<=1000
 dq:∀s,s<m->((dg s:Int)*(dg s:Int)-(e s 0:Int)*(t.length:Int)) % (p:Int)=0
 dm:∀s d',s<m->1<=d'->d'<dg s->((d':Int)*(d':Int)-(e s 0:Int)*(t.length:Int)) % (p:Int)≠0
structure Dt where
 n:Nat
 p:Nat
 z:Nat
 cl:List Nat
 rp:List Nat
 E:List (List Nat)
 W:List (List Nat)
 F:List (List Nat)
 dg:List Nat
noncomputable def Vr (M:List (List Nat))(i j:Nat):Nat:=(M.getD i []).getD j 0
noncomputable def fA (n:Nat)(f:Nat->Bool):Bool:=(ac n).all f
theorem Z8 {n:Nat}{f:Nat->Bool}(h:fA n f=true){i:Nat}(j:i<n):f i=true:=aD.mp h i (af.mpr j)
noncomputable def fE (n:Nat)(f:Nat->Bool):Bool:=(ac n).any f
theorem ZcG {n:Nat}{f:Nat->Bool}(h:fE n f=true):∃i,i<n/\f i=true:=by
 obtain⟨i,hi,q⟩:=a6.mp h;exact⟨i,af.mp hi,q⟩
noncomputable def prB (p:Nat):Bool:=decide (2<=p) && (fA (p-1) fun a=>fA (p-1) fun b=>(a+1)*(b+1) % p != 0) && fA (p-1) fun a=>fE (p-1) fun b=>(b+1)*(a+1) % p == 1
theorem Zog {p:Nat}(h:prB p=true):PrM p:=by
 unfold prB at h;rw[ag,ag,decide_eq_true_eq] at h;obtain⟨⟨j,J⟩,M⟩:=h;refine⟨j,fun a b O U Y bp=>?_,fun a O U=>?_⟩
 ·have:=Z8 (Z8 J (i:=a-1) (by omega)) (i:=b-1) (by omega)
  rw[show a-1+1=a by omega,show b-1+1=b by omega] at this;simpa using this
 ·obtain⟨b,hb,q⟩:=ZcG (Z8 M (i:=a-1) (by omega))
  rw[show a-1+1=a by omega] at q;exact⟨b+1,by omega,by omega,eq_of_beq q⟩
noncomputable def Zif (n count p:Nat):Nat->Nat->Bool
 |0,q=>decide (q=p) && !Vy count q
 |f+1,q=>if q=p then !Vy count q else Vy count q && Zif n count p f (q+n)
theorem Ze0 {n count p:Nat}:∀{f q:Nat},Zif n count p f q=true->(∃J,p=q+J*n/\∀j,j<J->Vy count (q+j*n)=true)/\Vy count p=false
 |0,q,h=>by
  rw[Zif,ag,decide_eq_true_eq] at h;obtain⟨e,h⟩:=h;subst e;exact⟨⟨0,by omega,fun j M=>by omega⟩,by simpa using h⟩
 |f+1,q,h=>by
  rw[Zif] at h;by_cases e:q=p
  ·rw[if_pos e] at h
   subst e;exact⟨⟨0,by omega,fun j M=>by omega⟩,by simpa using h⟩
  ·rw[if_neg e,ag] at h
   obtain⟨⟨J,O,U⟩,Y⟩:=Ze0 h.2;refine⟨⟨J+1,by rw[O,cy];omega,fun j M=>?_⟩,Y⟩;cases j with
   |zero=>rw[f7,ik];exact h.1
   |succ j=>
    have:=U j (by omega);rw[cy];rw[show q+(j*n+n)=q+n+j*n by omega];exact this
noncomputable def Zl5 (p z r:Nat):Bool:=decide (1<=r) && decide (r<=p) && (z ^ r % p == 1) && fA r fun k=>k == 0 || z ^ k % p != 1
theorem Zjx {p z r:Nat}(h:Zl5 p z r=true):Zo1 p z r:=by
 unfold Zl5 at h;rw[ag,ag,ag,decide_eq_true_eq,decide_eq_true_eq] at h;obtain⟨⟨⟨j,J⟩,M⟩,O⟩:=h;refine⟨j,J,eq_of_beq M,fun k Y U=>?_⟩;have:=Z8 O U;rw[aZ] at this;rcases this with q|q
 ·have:=eq_of_beq q
  omega
 ·simpa using q
noncomputable def rdZ (p z:Nat):Nat:=(((ac p).find? fun r=>z ^ (r+1) % p == 1).getD 0)+1
noncomputable def rtB (n p j:Nat):Bool:=(j == 1 && n == 1) || (decide (2<=j) && decide (j<p) && n != 1 && (fA (j+1) fun z=>decide (z<2) || (Zl5 p z (rdZ p z) && (z == j || rdZ p z != n))) && rdZ p j == n)
theorem ZnX {n p j:Nat}(h:rtB n p j=true):RtP n p j:=by
 unfold rtB at h;rw[aZ] at h;rcases h with h|h
 ·rw[ag] at h
  exact .inl ⟨eq_of_beq h.1,eq_of_beq h.2⟩
 ·rw[ag,ag,ag,ag,decide_eq_true_eq,decide_eq_true_eq] at h
  obtain⟨⟨⟨⟨M,O⟩,U⟩,J⟩,Y⟩:=h;refine .inr ⟨M,O,by simpa using U,rdZ p,fun z z2 zz=>?_,fun z z2 zz=>?_,eq_of_beq Y⟩
  ·have:=Z8 J (i:=z) (by omega)
   rw[decide_eq_false (by omega),gJ,ag] at this;exact Zjx this.1
  ·have:=Z8 J (i:=z) (by omega)
   rw[decide_eq_false (by omega),gJ,ag,aZ] at this;rcases this.2 with q|q
   ·have:=eq_of_beq q
    omega
   ·simpa using q
noncomputable def itB (t:List (List Nat))(n:Nat):Bool:=(fA t.length fun a=>it t a n == 0) && fA n fun x=>x == 0 || fE t.length fun a=>it t a x != 0
noncomputable def Zks (t:List (List Nat))(bs:List Nat):Bool:=fA t.length fun a=>decide (bs.getD a 0<t.length) && ZI t a (bs.getD a 0) == 0
noncomputable def tbL (t:List (List Nat))(bs:List Nat)(b x:Nat):Nat:=ZI t (ZI t x b) (bs.getD x 0)
noncomputable def clB (t:List (List Nat))(bs:List Nat)(D:Dt):Bool:=
 (fA t.length fun x=>decide (D.cl.getD x 0<D.rp.length) && ((D.cl.getD x 0 == 0) == (x == 0)) && (fA t.length fun s=>D.cl.getD (tbL t bs x s) 0 == D.cl.getD x 0) && fE t.length fun s=>tbL t bs (D.rp.getD (D.cl.getD x 0) 0) s == x) &&
 fA D.rp.length fun k=>decide (D.rp.getD k 0<t.length) && D.cl.getD (D.rp.getD k 0) 0 == k
noncomputable def Zp7 (t:List (List Nat))(bs:List Nat)(D:Dt):Bool:=fA D.rp.length fun s=>fA D.rp.length fun i=>fA D.rp.length fun c=>
 sm t.length (fun x=>W2 (decide (D.cl.getD x 0=i))*Vr D.E s (D.cl.getD (ZI t (bs.getD x 0) (D.rp.getD c 0)) 0)) % D.p == Vr D.W s i*Vr D.E s c % D.p
noncomputable def tdB (t:List (List Nat))(bs:List Nat)(D:Dt):Bool:=
 prB D.p && decide (D.p<=1000) && decide (1<=D.rp.length) && decide (1<=D.n) && decide (D.n<=60) && itB t D.n && Zif D.n t.length D.p 60 (D.n+1) && rtB D.n D.p D.z && Zks t bs && clB t bs D && Zp7 t bs D &&
 (fA D.rp.length fun s=>fA D.rp.length fun c=>decide (Vr D.E s c<D.p) && decide (Vr D.W s c<D.p)) &&
 (fA D.rp.length fun c=>sm D.rp.length (fun s=>Vr D.E s c) % D.p == if c=0 then 1 else 0) &&
 (fA D.rp.length fun s=>fA D.rp.length fun j=>sm t.length (fun x=>Vr D.F s (D.cl.getD x 0)*Vr D.E j (D.cl.getD x 0)) % D.p == if s=j then 1 else 0) &&
 (fA D.rp.length fun s=>fA D.rp.length fun j=>s == j || fE D.rp.length fun i=>Vr D.W s i != Vr D.W j i) &&
 fA D.rp.length fun s=>decide (1<=D.dg.getD s 0) && decide (D.dg.getD s 0<D.p) && (((D.dg.getD s 0:Int)*(D.dg.getD s 0:Int)-(Vr D.E s 0:Int)*(t.length:Int)) % (D.p:Int) == 0) && fA (D.dg.getD s 0) fun d=>d == 0 || ((d:Int)*(d:Int)-(Vr D.E s 0:Int)*(t.length:Int)) % (D.p:Int) != 0
section
variable {t:List (List Nat)}{bs:List Nat}{D:Dt}
noncomputable def eD (D:Dt)(s x:Nat):Nat:=Vr D.E s (D.cl.getD x 0)
noncomputable def wD (D:Dt)(s x:Nat):Nat:=Vr D.W s (D.cl.getD x 0)
noncomputable def fD (D:Dt)(s x:Nat):Nat:=Vr D.F s (D.cl.getD x 0)
theorem ZiH (P:PW t)(h:Zks t bs=true){a:Nat}(j:a<t.length):bs.getD a 0=YJ t a:=by
 have:=Z8 h j;rw[ag,decide_eq_true_eq] at this;exact Vf P j this.1 (eq_of_beq this.2)
theorem Zgw (P:PW t)(h:Zks t bs=true){b x:Nat}(j:x<t.length):tbL t bs b x=tb t b x:=by
 unfold tbL tb;rw[ZiH P h j]
structure ClW (t:List (List Nat))(cl rp:Nat->Nat)(m:Nat):Prop where
 lt:∀x,x<t.length->cl x<m
 z:∀x,x<t.length->(cl x=0↔x=0)
 con:∀x s,x<t.length->s<t.length->cl (tb t x s)=cl x
 tr:∀x,x<t.length->∃s,s<t.length/\tb t (rp (cl x)) s=x
 rl:∀k,k<m->rp k<t.length
 rn:∀k,k<m->cl (rp k)=k
theorem ZiB (P:PW t)(hb:Zks t bs=true)(h:clB t bs D=true):ClW t (fun x=>D.cl.getD x 0) (fun k=>D.rp.getD k 0) D.rp.length:=by
 unfold clB at h;rw[ag] at h;have g:∀{x},x<t.length->D.cl.getD x 0<D.rp.length/\((D.cl.getD x 0 == 0) == (x == 0))=true/\(fA t.length fun s=>D.cl.getD (tbL t bs x s) 0 == D.cl.getD x 0)=true/\(fE t.length fun s=>tbL t bs (D.rp.getD (D.cl.getD x 0) 0) s == x)=true:=fun {x} j=>by
  have:=Z8 h.1 j;rw[ag,ag,ag,decide_eq_true_eq] at this;exact⟨this.1.1.1,this.1.1.2,this.1.2,this.2⟩
 have g2:∀{k},k<D.rp.length->D.rp.getD k 0<t.length/\D.cl.getD (D.rp.getD k 0) 0=k:=fun {k} J=>by
  have:=Z8 h.2 J;rw[ag,decide_eq_true_eq] at this;exact⟨this.1,eq_of_beq this.2⟩
 refine⟨fun x j=>(g j).1,fun x j=>?_,fun x s j M=>?_,fun x j=>?_,fun k J=>(g2 J).1,fun k J=>(g2 J).2⟩
 ·have:=eq_of_beq (g j).2.1
  constructor
  ·intro q
   have q:D.cl.getD x 0=0:=q;rw[q] at this;exact eq_of_beq this.symm
  ·intro q
   rw[q] at this ⊢;exact eq_of_beq this
 ·have:=eq_of_beq (Z8 (g j).2.2.1 M)
  rw[Zgw P hb M] at this;exact this
 ·obtain⟨s,M,q⟩:=ZcG (g j).2.2.2
  have:=eq_of_beq q;rw[Zgw P hb M] at this;exact⟨s,M,this⟩
variable {cl rp:Nat->Nat}{m:Nat}
theorem ClW.cj (P:PW t)(C:ClW t cl rp m){u x:Nat}(j:u<t.length)(J:x<t.length):cjB t u x=decide (cl x=cl u):=by
 by_cases h:cl x=cl u
 ·rw[decide_eq_true h]
  obtain⟨s1,h1,e1⟩:=C.tr u j;obtain⟨O,h2,U⟩:=C.tr x J;rw[h] at U;have M:=C.rl (cl u) (C.lt u j);have n1:=P.n1;have:tb t u 0=tb t (rp (cl u)) s1:=by rw[Zay P j];exact e1.symm
  obtain⟨z,hz,ez⟩:=Zaz P j M n1 h1 this;have e3:tb t (rp (cl u)) O=tb t x 0:=by rw[Zay P J];exact U
  have m1:u∈Yt t (rp (cl u)):=(Z7 P M).mpr ⟨s1,h1,e1⟩;have m2:x∈Yt t (rp (cl u)):=(Z7 P M).mpr ⟨O,h2,U⟩;have m3:rp (cl u)∈Yt t u:=(Z7 P j).mpr ⟨z,hz,ez⟩;have m4:x∈Yt t u:=YH P j J m3 (by
   have:tb t x 0=tb t (rp (cl u)) O:=e3.symm;obtain⟨z2,Y,n4⟩:=Zaz P J M n1 h2 this;exact (Z7 P J).mpr ⟨z2,Y,n4⟩)
  exact X9.mpr ((Z7 P j).mp m4)
 ·rw[decide_eq_false h]
  cases q:cjB t u x with
  |false=>rfl
  |true=>
   obtain⟨y,hy,e⟩:=X9.mp q;have:=C.con u y j hy;rw[e] at this;exact absurd this h
theorem ZhO {n:Nat}{f:Nat->Nat}(h:∀a b,a<n->b<n->f a=f b->a=b):((ac n).map f).Nodup:=by
 rw[List.Nodup,i6];exact fS (fun {a b} j hb ne e=>ne (h a b (af.mp j) (af.mp hb) e)) cu
theorem ClW.count (P:PW t)(C:ClW t cl rp m):m=(ZC t t.length).length:=by
 have U:=Yp P;have q:∀x y,x<t.length->y<t.length->(cl x=cl y↔Yh t x=Yh t y):=fun x y j O=>by
  have a:=C.cj P O j;rw[ZiC P O j] at a;exact⟨fun h=>by
   rw[decide_eq_true h] at a;exact of_decide_eq_true a,fun h=>by
   rw[decide_eq_true h] at a;exact of_decide_eq_true a.symm⟩
 have Y:=L2.Yq ((ac m).map fun k=>Yh t (rp k)) (ac (ZC t t.length).length) (by
  refine ZhO fun a b J hb e=>?_;have:=(q _ _ (C.rl a J) (C.rl b hb)).mpr e;rw[C.rn a J,C.rn b hb] at this;exact this) (fun x j=>by
  obtain⟨k,M,rfl⟩:=aN.mp j;exact af.mpr (U.lt _ (C.rl k (af.mp M))))
 have l2:=L2.Yq ((ac (ZC t t.length).length).map fun k=>cl (ZB t k)) (ac m) (by
  refine ZhO fun a b J hb e=>?_;have:=(q _ _ (U.rl a J) (U.rl b hb)).mp e;rw[U.rn a J,U.rn b hb] at this;exact this) (fun x j=>by
  obtain⟨k,M,rfl⟩:=aN.mp j;exact af.mpr (C.lt _ (U.rl k (af.mp M))))
 rw[Za,Zg,Zg] at Y l2;omega
theorem ClW.turn (P:PW t)(C:ClW t cl rp m)(E:Nat->Nat)(i:Nat){z y:Nat}(hz:z<t.length)(j:y<t.length):sm t.length (fun x=>W2 (decide (cl x=i))*E (cl (ZI t (YJ t x) (tb t z y))))=sm t.length (fun x=>W2 (decide (cl x=i))*E (cl (ZI t (YJ t x) z))):=by
 rw[<-ZdZ P j (fun x=>W2 (decide (cl x=i))*E (cl (ZI t (YJ t x) (tb t z y))))];refine Yc fun x q=>?_;rw[C.con x y q j,Zlx P j q,<-VT P j (Yr P q).1 hz,C.con _ y (P.lt _ _ (Yr P q).1 hz) j]
theorem ZkI (P:PW t)(h:tdB t bs D=true):TD t D.n D.p D.rp.length (eD D) (wD D) (fD D) D.z (fun s=>D.dg.getD s 0):=by
 unfold tdB at h;simp only[ag] at h;obtain⟨⟨⟨⟨⟨⟨⟨⟨⟨⟨⟨⟨⟨⟨⟨h1,h2⟩,h3⟩,h4⟩,h5⟩,h6⟩,h7⟩,h8⟩,h9⟩,n6⟩,n8⟩,n9⟩,o0⟩,o5⟩,o6⟩,o7⟩:=h;have o8:=of_decide_eq_true h2;have m1:=of_decide_eq_true h3;have n1:=of_decide_eq_true h4;have n60:=of_decide_eq_true h5;have C:=ZiB P h9 n6;have N1:=P.n1;have pr:=Zog h1;have O:∀{s c},s<D.rp.length->c<D.rp.length->Vr D.E s c<D.p/\Vr D.W s c<D.p:=fun {s c} j hc=>by
  have:=Z8 (Z8 n9 j) hc;rw[ag,decide_eq_true_eq,decide_eq_true_eq] at this;exact this
 have o9:D.cl.getD 0 0=0:=(C.z 0 N1).mpr rfl;have M:∀{s},s<D.rp.length->1<=D.dg.getD s 0/\D.dg.getD s 0<D.p/\((D.dg.getD s 0:Int)*(D.dg.getD s 0:Int)-(Vr D.E s 0:Int)*(t.length:Int)) % (D.p:Int)=0/\∀d,1<=d->d<D.dg.getD s 0->((d:Int)*(d:Int)-(Vr D.E s 0:Int)*(t.length:Int)) % (D.p:Int)≠0:=fun {s} j=>by
  have:=Z8 o7 j;simp only[ag,decide_eq_true_eq] at this;obtain⟨⟨⟨a,b⟩,c⟩,d⟩:=this;refine⟨a,b,eq_of_beq c,fun k k1 kd=>?_⟩;have:=Z8 d kd;rw[aZ] at this;rcases this with q|q
  ·have:=eq_of_beq q
   omega
  ·simpa using q
 have e0:∀s,eD D s 0=Vr D.E s 0:=fun s=>by unfold eD;rw[o9]
 unfold itB at h6;rw[ag] at h6;have U:∀a,a<t.length->it t a D.n=0:=fun a Y=>eq_of_beq (Z8 h6.1 Y);obtain⟨f1,f2⟩:=Ze0 h7;refine⟨?_,n1,n60,U,fun x J=>?_,⟨f1,f2,pr.p2,by omega⟩,ZnX h8,fun s j=>(M j).1,fun s j=>(M j).2.1,fun s j=>by have:=(M j).2.1;omega,fun s j=>by rw[e0];exact (M j).2.2.1,fun s d' j a b=>by rw[e0];exact (M j).2.2.2 d' a b⟩
 ·refine⟨pr,m1,C.count P,fun s x y j J hy=>?_,fun s x y j J hy=>?_,fun s x j J=>(O j (C.lt x J)).1,fun s x j J=>(O j (C.lt x J)).2,fun s u z j hu hz=>?_,fun x J=>?_,fun s s' j n4=>?_,fun s s' j n4 h=>?_⟩
  ·unfold eD
   have:=C.con x y J hy;rw[this]
  ·unfold wD
   have:=C.con x y J hy;rw[this]
  ·obtain⟨y,hy,ey⟩:=C.tr z hz
   have p3:=C.rl _ (C.lt z hz);have a1:sm t.length (fun x=>W2 (cjB t u x)*eD D s (ZI t (YJ t x) z))=sm t.length (fun x=>W2 (decide (D.cl.getD x 0=D.cl.getD u 0))*Vr D.E s (D.cl.getD (ZI t (YJ t x) z) 0)):=Yc fun x J=>by rw[C.cj P hu J];rfl
   have a2:=C.turn P (Vr D.E s) (D.cl.getD u 0) p3 hy;rw[ey] at a2;rw[a1,a2];have a3:=eq_of_beq (Z8 (Z8 (Z8 n8 j) (C.lt u hu)) (C.lt z hz));have a4:sm t.length (fun x=>W2 (decide (D.cl.getD x 0=D.cl.getD u 0))*Vr D.E s (D.cl.getD (ZI t (bs.getD x 0) (D.rp.getD (D.cl.getD z 0) 0)) 0))=sm t.length (fun x=>W2 (decide (D.cl.getD x 0=D.cl.getD u 0))*Vr D.E s (D.cl.getD (ZI t (YJ t x) (D.rp.getD (D.cl.getD z 0) 0)) 0)):=Yc fun x J=>by rw[ZiH P h9 J]
   rw[a4] at a3;exact a3
  ·have:=eq_of_beq (Z8 o0 (C.lt x J))
   have e1:sm D.rp.length (fun s=>eD D s x)=sm D.rp.length (fun s=>Vr D.E s (D.cl.getD x 0)):=rfl;rw[e1,this];by_cases q:x=0
   ·rw[if_pos q,if_pos ((C.z x J).mpr q)]
   ·rw[if_neg q,if_neg (fun zz=>q ((C.z x J).mp zz))]
  ·exact eq_of_beq (Z8 (Z8 o5 j) n4)
  ·have:=Z8 (Z8 o6 j) n4
   rw[aZ] at this;rcases this with q|q
   ·exact eq_of_beq q
   ·obtain⟨i,hi,q⟩:=ZcG q
    have:=h (D.rp.getD i 0) (C.rl i hi);unfold wD at this;rw[C.rn i hi] at this;rw[this] at q;simp at q
 ·have p4:∀a,a<t.length->it t a (x % D.n)=0:=fun a Y=>by
   obtain⟨r,R⟩:=P.rd a Y;have p6:x % r=0:=by
    have:=J a Y;rw[X5 R] at this;apply am;intro zz;exact R.nz _ (by omega) (cm _ R.r1) this
   have p7:D.n % r=0:=by
    have:=U a Y;rw[X5 R] at this;apply am;intro zz;exact R.nz _ (by omega) (cm _ R.r1) this
   rw[X5 R,Za3 p6 p7];rfl
  apply am;intro zz;have p8:=cm x (show 0<D.n by omega);have:=Z8 h6.2 p8;rw[aZ] at this;rcases this with q|q
  ·exact zz (eq_of_beq q)
  ·obtain⟨a,Y,q⟩:=ZcG q
   rw[p4 a Y] at q;simp at q
end
end Tb
namespace C39
open PySem L2 PySem.Spec PyProof.Rows
open Tb Pm
noncomputable abbrev ZnU:Stmt:=top 35
noncomputable abbrev ZgT:Stmt:=top 36
noncomputable abbrev Zes:Stmt:=top 37
noncomputable abbrev Zg3:Stmt:=top 43
structure BlT (mg:Str->Option Value):Prop where
 zip:mg "zip"=none
 sum:mg "sum"=none
noncomputable def Xj:Sp:=fun j H Q _=>∃(p:Nat) (x:Int),j=[.int p,.int x]/\2<=p/\p<=100000/\(∃y:Nat,1<=y/\y<p/\(y:Int)*x % (p:Int)=1)/\∀y:Nat,1<=y->y<p->(y:Int)*x % (p:Int)=1->Q (.int (y:Nat)) H
noncomputable def Zei (K:ab):Sp:=fun J H Q _=>∃(a:Addr) (q:List Int) (e N p d:Nat),J=[.ref a,.int N,.int p]/\Wr K H a (q.map V.int)/\q[0]?=some (e:Int)/\e<=100000/\N<=60/\2<=p/\p<=100000/\1<=d/\d<=1000/\((d:Int)*d-e*N) % (p:Int)=0/\(∀j:Nat,1<=j->j<d->((j:Int)*j-e*N) % (p:Int)≠0)/\Q (.int (d:Nat)) H
noncomputable def ZkQ:Sp:=fun q H Q _=>∃(n count p:Nat),q=[.int n,.int count]/\1<=n/\n<=60/\count<=4000/\Zo7 n count p/\∀j,Same H j->Q (.int p) j
theorem Zg6 {lo:Int}{n i:Nat}{y:V}(h:((YX lo n).map V.int)[i]?=some y):i<n/\y=.int (lo+(i:Int)):=by
 unfold YX at h;rw[Zc,Zc] at h;by_cases j:i<n
 ·rw[ao j] at h
  exact⟨j,(ay h).symm⟩
 ·rw[ah (by rw[Zg];omega)] at h
  cases h
section
variable {P:Program}{w:World}{K:ab}{mg:Str->Option Value}{base:Heap}
theorem ZfF {f:Addr}{fd:FuncData}(F:Y5 K "back_by" "back_by" Zes f fd):ZR P w K mg base ZT 1 f fd ["p", "x"] Xj:=by
 refine F.ok (FS (N:=["p", "x", "found"])) (fun Y H Q E h=>?_) (fun n4 A U s H Y Q E hr h=>?_)
 ·obtain⟨p,x,rfl,_⟩:=h;rfl
 ·obtain⟨p,x,rfl,p2,pl,⟨y,y1,yp,hy⟩,q⟩:=h
  refine⟨_,Zu (ZH 2 rfl Zw)
   (Zu (Yk aq (ZP Jo (Zz Z5 (Zz ZV (vn 2) (vn 1)) (vn 0)) Zw (ZW _)) (Zv (Jx (i:=2) (Z0 (by kernel_rfl)) rfl (YG (by kernel_rfl)) Zw WK (.inl rfl))))
   (Zv (ZD (vn 2)))),?_⟩
  refine Yb (fun m j O=>∃k:Nat,j=[some (.int p),some (.int x),some (.int (k:Nat))]/\O=H/\1<=k/\k<=y/\m=y-k)
   (fun j O=>∃k:Nat,j=[some (.int p),some (.int x),some (.int (k:Nat))]/\O=H/\1<=k/\k<p/\(k:Int)*x % (p:Int)=1) ?hend ⟨y-1,1,rfl,rfl,Zq _,y1,rfl⟩ ?turn
  case hend=>
   rintro j O ⟨k,rfl,rfl,k1,kp,hk⟩;exact⟨_,rfl,q k k1 kp hk⟩
  case turn=>
   rintro M m j O ⟨k,rfl,rfl,k1,ky,rfl⟩;refine⟨_,rfl,_,rfl,_,_,rfl,rfl,.inl ⟨by omega,by omega⟩,_,rfl,_,_,rfl,rfl,(by show (0:Int)<(p:Int);omega),rfl,_,rfl,?_⟩;refine Y0 (fun J=>?_) (fun J=>?_)
   ·have J:(k:Int)*x % (p:Int)≠1:=fun z=>by
     rw[Yg,z] at J;simp at J
    have:k≠y:=fun z=>by rw[z] at J;exact J hy
    exact⟨_,fun _ _ z=>z,_,rfl,_,_,rfl,rfl,y-(k+1),by omega,k+1,rfl,rfl,by omega,by omega,rfl⟩
   ·have J:(k:Int)*x % (p:Int)=1:=by
     apply am;intro z;apply J;rw[Yg];simpa using z
    exact M _ _ ⟨k,rfl,rfl,k1,by omega,J⟩
theorem ZhE {f:Addr}{fd:FuncData}(F:Y5 K "first_of" "first_of" Zg3 f fd):ZR P w K mg base ZT 1 f fd ["one", "count", "p"] (Zei K):=by
 refine F.ok (FS (N:=["one", "count", "p", "d"])) (fun vs H Q E h=>?_) (fun n6 A Y s H vs Q E hr h=>?_)
 ·obtain⟨a,xs,e,N,p,d,rfl,_⟩:=h;rfl
 ·obtain⟨a,xs,e,N,p,d,rfl,ha,he,e5,n8,p2,pl,d1,dl,hd,hm,q⟩:=h
  refine⟨_,Zu (ZH 3 rfl Zw)
   (Zu (Yk aq (ZP Jo (Zz Z5 (Zz YU (Zz ZV (vn 3) (vn 3)) (Zz ZV (ZM (ixL K) (vn 0) Zw (fun _ _=>rfl)) (vn 1))) (vn 2)) Zw (ZW _)) (Zv (Jx (i:=3) (Z0 (by kernel_rfl)) rfl (YG (by kernel_rfl)) Zw WK (.inl rfl))))
   (Zv (ZD (vn 3)))),?_⟩
  have h0:(xs.map V.int)[0]?=some (.int (e:Int)):=by rw[Zc,he];rfl
  have n4:XO (xs.map V.int) 0=some (.int (e:Int)):=by
   show XO (xs.map V.int) ((0:Nat):Int)=_
   first
   |(rw[O];exact h0)
   |(rw[ZO];exact h0)
   |simpa [XO] using h0
  refine Yb (fun m j U=>∃k:Nat,j=[some (.ref a),some (.int (N:Nat)),some (.int (p:Nat)),some (.int (k:Nat))]/\U=H/\1<=k/\k<=d/\m=d-k)
   (fun j U=>j=[some (.ref a),some (.int (N:Nat)),some (.int (p:Nat)),some (.int (d:Nat))]/\U=H) ?hend ⟨d-1,1,rfl,rfl,Zq _,d1,rfl⟩ ?turn
  case hend=>
   rintro j U ⟨rfl,rfl⟩;exact⟨_,rfl,q⟩
  case turn=>
   rintro M m j U ⟨k,rfl,rfl,k1,ky,rfl⟩;refine⟨_,rfl,_,rfl,_,_,rfl,rfl,.inl ⟨by omega,by omega⟩,_,rfl,a,_,_,_,rfl,rfl,ha,n4,_,rfl,_,_,rfl,rfl,.inl ⟨by omega,by omega⟩,_,_,rfl,rfl,_,rfl,_,_,rfl,rfl,(by show (0:Int)<(p:Int);omega),rfl,_,rfl,?_⟩;refine Y0 (fun J=>?_) (fun J=>?_)
   ·have J:((k:Int)*k-e*N) % (p:Int)≠0:=fun z=>by
     rw[Yg,z] at J;simp at J
    have:k≠d:=fun z=>by rw[z] at J;exact J hd
    exact⟨_,fun _ _ z=>z,_,rfl,_,_,rfl,rfl,d-(k+1),by omega,k+1,rfl,rfl,by omega,by omega,rfl⟩
   ·have J:((k:Int)*k-e*N) % (p:Int)=0:=by
     apply am;intro z;apply J;rw[Yg];simpa using z
    have:k=d:=by
     apply am;intro z;exact hm k k1 (by omega) J
    subst this;exact M _ _ ⟨rfl,rfl⟩
theorem Zmf {f:Addr}{fd:FuncData}(F:Y5 K "fit_prime" "fit_prime" ZnU f fd)(T:Bl mg):ZR P w K mg base ZT 1 f fd ["n", "count"] ZkQ:=by
 refine F.ok (FS (N:=["n", "count", "p"])) (fun vs H Q E h=>?_) (fun o6 A n9 s H vs Q E hr h=>?_)
 ·obtain⟨n,count,p,rfl,_⟩:=h;rfl
 ·obtain⟨n,count,p,rfl,n1,n60,cl,Fp,q⟩:=h
  refine⟨_,Zu (ZH 2 rfl (Zz YN (vn 0) Zw))
   (Zu (Yk aq (Zk8 (ZP Zoh (Zz ZV (vn 2) (vn 2)) (Zz ZV Zw (vn 1)) (ZW _)) (Zhe (XY (cb (ZcR rfl) T.any (pc (cmp ["k"] [2] ["k", "p"] rfl (ZpK T.range (pc Zw (pc (vn 2) Zs))) (fun _ _ _ _ _=>gn 0) (fun _ _ _ _ _=>ZN) (fun _ _ _ _ _=>Xy Zca (Zz Z5 (vn 1) (vn 0)) Zw (ZW _))) Zs))))).pt
    (Zv (Jx (i:=2) (Z0 (by kernel_rfl)) rfl (YG (by kernel_rfl)) (vn 0) WK (.inl rfl))))
   (Zv (ZD (vn 2)))),?_⟩
  obtain⟨J,eJ,hJ⟩:=Fp.st;have pl:=Fp.lt;have p2:=Fp.p2;refine⟨_,rfl,_,_,rfl,rfl,?_⟩;refine Yb (fun m M H'=>∃j:Nat,M=[some (.int (n:Nat)),some (.int (count:Nat)),some (.int (((n+1)+j*n:Nat):Int))]/\Same H H'/\j<=J/\m=J-j)
   (fun M H'=>M=[some (.int (n:Nat)),some (.int (count:Nat)),some (.int (p:Nat))]/\Same H H') ?hend ⟨J,0,by rw[f7,ik];rfl,Same.refl _,aX _,rfl⟩ ?turn
  case hend=>
   rintro M H' ⟨rfl,sm⟩;exact⟨_,rfl,q H' sm⟩
  case turn=>
   rintro O m M H' ⟨j,rfl,sm,jJ,rfl⟩;have jn:(n+1)+j*n<=p:=by rw[eJ];have:=df n jJ;omega
   have o0:Vy count ((n+1)+j*n)=true\/(n+1)+j*n=p:=by
    by_cases z:j=J
    ·exact .inr (by rw[eJ,z])
    ·exact .inl (hJ j (by omega))
   have ok:=Fp.ok;have o7:2<=(n+1)+j*n:=by omega
   have U:(n+1)+j*n≠p->j<J:=fun z=>by
    by_cases e:j=J
    ·exact absurd (by rw[eJ,e]) z
    ·omega
   have n4:(((n+1)+j*n:Nat):Int)+(n:Int)=(((n+1)+(j+1)*n:Nat):Int):=by
    rw[cy];omega
   generalize hx:(n+1)+j*n=x at *;refine⟨_,rfl,_,rfl,_,_,rfl,rfl,.inl ⟨by omega,by omega⟩,_,rfl,_,_,rfl,rfl,.inl ⟨by omega,by omega⟩,_,_,rfl,rfl,_,rfl,?_⟩;refine Y0 (fun Y=>?_) (fun Y=>?_)
   ·have Y:x*x<=4*count:=by have:=of_decide_eq_true Y;rw[<-aV] at this;omega
    have hb:Vy count x=true:=by unfold Vy;rw[decide_eq_true Y];rfl
    have:=U (fun z=>by rw[z,ok] at hb;cases hb);refine (Y0 (fun _=>?_) (fun h=>absurd rfl h));exact⟨_,fun _ _ z=>z,_,rfl,_,rfl,_,_,rfl,rfl,J-(j+1),by omega,j+1,by rw[<-n4];rfl,sm,by omega,rfl⟩
   ·have Y:¬x*x<=4*count:=fun z=>Y (decide_eq_true (by rw[<-aV];omega))
    refine⟨_,rfl,_,_,rfl,⟨by omega,by omega,by omega,by omega⟩,?_⟩;rw[show ((x:Nat):Int)-2=((x-2:Nat):Int) by omega,Zj];refine Y3 (Je 2 (x-2)) [some (.int (x:Nat))] rfl (fun y=>match y with | .int z=>.bl ((x:Int) % z == 0)|y=>y) (by rw[Za,Yx];omega) (fun i y H2 hy s2 R gg=>?_) (fun D H2 hD s2 o5=>?_)
    ·obtain⟨hi,rfl⟩:=Zg6 hy
     have n6:=gg H2 (Same.refl _);dsimp only at n6;refine⟨_,rfl,_,rfl,_,_,rfl,rfl,(by show (0:Int)<2+(i:Int);omega),rfl,?_⟩;have e:decide (V.int ((x:Int) % (2+(i:Int)))=V.int 0)=((x:Int) % (2+(i:Int)) == 0):=by
      by_cases h:(x:Int) % (2+(i:Int))=0
      ·rw[h];rfl
      ·rw[decide_eq_false (fun z=>h (by injection z)),beq_eq_false_iff_ne.mpr h]
     rw[e];exact n6
    ·refine⟨D,(ac (x-2)).map fun k=>x % (k+2) == 0,rfl,.of ?_,?_⟩
     ·rw[o5]
      unfold YX;rw[aK,aK,aK];congr 2;refine a8 fun i _=>?_;show V.bl ((x:Int) % (2+(i:Int)) == 0)=V.bl (x % (i+2) == 0);congr 1;have:(x:Int) % (2+(i:Int))=((x % (i+2):Nat):Int):=by
       rw[show (2:Int)+(i:Int)=((i+2:Nat):Int) by omega];rfl
      rw[this];cases hq:(x % (i+2) == 0) with
      |true=>rw[eq_of_beq hq];rfl
      |false=>
       have:=ne_of_beq_false hq;exact beq_eq_false_iff_ne.mpr (by omega)
     ·have ea:((ac (x-2)).map fun k=>x % (k+2) == 0).any id=(ac (x-2)).any fun k=>x % (k+2) == 0:=by rw[dJ];rfl
      rw[ea];have eb:Vy count x=((ac (x-2)).any fun k=>x % (k+2) == 0):=by unfold Vy;rw[decide_eq_false Y,gJ]
      rw[<-eb];have n8:=sm.trans s2;refine⟨_,rfl,Y0 (fun h2=>?_) (fun h2=>?_)⟩
      ·have:=U (fun z=>by rw[z,ok] at h2;cases h2)
       exact⟨_,fun _ _ z=>z,_,rfl,_,rfl,_,_,rfl,rfl,J-(j+1),by omega,j+1,by rw[<-n4];rfl,n8,by omega,rfl⟩
      ·have:x=p:=by
        rcases o0 with z|z
        ·exact absurd z h2
        ·exact z
       subst this;exact O _ _ ⟨rfl,n8⟩
end
theorem ZpV {a b:Int}(h:(!decide (V.int a=V.int b))=true):a≠b:=fun e=>by rw[e,decide_eq_true rfl] at h;cases h
theorem ZpW {a b:Int}(h:¬(!decide (V.int a=V.int b))=true):a=b:=by
 apply am;intro e;exact h (by rw[decide_eq_false (fun z=>e (by injection z))];rfl)
noncomputable def WU (p z n:Nat):List V:=(ac n).map fun j=>V.int ((z ^ j % p:Nat):Int)
theorem Zb7 (p z n:Nat):WU p z (n+1)=WU p z n++[V.int ((z ^ n % p:Nat):Int)]:=by
 unfold WU;rw[c6,aU];rfl
theorem VE (p z n:Nat):(WU p z n).length=n:=by unfold WU;rw[Za,Zg]
theorem Zjh (p z k:Nat):((z ^ k % p:Nat):Int)*(z:Int) % (p:Int)=((z ^ (k+1) % p:Nat):Int):=by
 rw[<-aV,<-a9,Nat.pow_succ,Nat.mod_mul_mod]
noncomputable def Zea:Sp:=fun J H Q _=>∃(n p q:Nat),J=[.int n,.int p]/\1<=n/\n<=60/\2<=p/\p<=100000/\RtP n p q/\∀L j,H L=none->Same H j->j L=some (.lst (WU p q n))->Q (.ref L) j
section
variable {P:Program}{w:World}{K:ab}{mg:Str->Option Value}{base:Heap}
theorem Zhv {f:Addr}{fd:FuncData}(F:Y5 K "root_powers" "root_powers" ZgT f fd)(T:Bl mg):ZR P w K mg base ZT 1 f fd ["n", "p"] Zea:=by
 refine F.ok (FS (N:=["n", "p", "z", "powers"])) (fun vs H Q E h=>?_) (fun r6 A o9 s H vs Q E hr h=>?_)
 ·obtain⟨n,p,z0,rfl,_⟩:=h;rfl
 ·obtain⟨n,p,z0,rfl,n1,n60,p2,pl,R,q⟩:=h
  refine⟨_,Zu (ZH 2 rfl Zw)
   (Zu (ZH 3 rfl (ZS (pc Zw Zs)))
   (Zu (Yk aq (ZP Jo (cb (YB K) T.len (pc (vn 3) Zs)) (vn 0) (ZW _))
    (Zu (Jx (i:=2) (Z0 (by kernel_rfl)) rfl (YG (by kernel_rfl)) Zw WK (.inl rfl))
    (Zu (ZH 3 rfl (ZS (pc Zw Zs)))
    (Zv (Yk aq (ZP Jo (Zz Z5 (Zz ZV (ZM (ixL K) (vn 3) (J0 WS Zw) (fun _ _=>rfl)) (vn 2)) (vn 1)) Zw (ZW _))
     (Zv (Yv (Wm aM aR aT Z2 (vn 3) (pc (Zz Z5 (Zz ZV (ZM (ixL K) (vn 3) (J0 WS Zw) (fun _ _=>rfl)) (vn 2)) (vn 1)) Zs)))))))))
   (Zv (ZD (vn 3))))),?_⟩
  have p8:(1:Int)=((1 ^ 0 % p:Nat):Int):=by rw[Nat.pow_zero,bK (by omega)];rfl
  have n6:∀z:Nat,V.int 1=V.int ((z ^ 0 % p:Nat):Int):=fun z=>by rw[Nat.pow_zero,bK (by omega)];rfl
  have sz:(16777216:Nat)=sizeLine:=by decide
  refine⟨(by show 1<=sizeLine;decide),fun L0 o0=>?_⟩;have s0:=Same.upd (H:=H) (o:=.lst [.int 1]) o0;have h0:upd H L0 (.lst [.int 1]) L0=some (.lst (WU p 1 1)):=by
   rw[Zt];show some (HO.lst [V.int 1])=some (HO.lst [V.int ((1 ^ 0 % p:Nat):Int)]);rw[n6 1]
  generalize upd H L0 (.lst [.int 1])=H0 at s0 h0 ⊢;refine Yb (fun m j J=>∃(z k:Nat) (L:Addr),j=[some (.int (n:Nat)),some (.int (p:Nat)),some (.int (z:Nat)),some (.ref L)]/\Same H J/\H L=none/\J L=some (.lst (WU p z k))/\1<=z/\k<=p/\z<=z0/\m=z0-z/\(k=n->z=z0)/\(k≠n->z<z0))
   (fun j J=>∃(L:Addr),j=[some (.int (n:Nat)),some (.int (p:Nat)),some (.int (z0:Nat)),some (.ref L)]/\Same H J/\H L=none/\J L=some (.lst (WU p z0 n))) ?hend ⟨z0-1,1,1,L0,rfl,s0,o0,h0,Zq _,by omega,?_,rfl,?_,?_⟩ ?turn
  case hend=>
   rintro j J ⟨L,rfl,sm,nL,hL⟩;exact⟨_,rfl,q L J nL sm hL⟩
  ·rcases R with ⟨a,b⟩|⟨a,_⟩ <;> omega
  ·rcases R with ⟨a,b⟩|⟨a,_,b,_⟩ <;> omega
  ·rcases R with ⟨a,b⟩|⟨a,_,b,_⟩ <;> omega
  case turn=>
   rintro n8 m j J ⟨z,k,L,rfl,sm,nL,hL,z1,kp,zz,rfl,c1,c2⟩;refine⟨_,rfl,L,_,rfl,.inl (.of hL),_,rfl,rfl,_,rfl,?_⟩;rw[VE];refine Y0 (fun h1=>?_) (fun h1=>?_)
   ·have h1:k≠n:=fun e=>by
     rw[e,Yg] at h1;simp at h1
    have zl:=c2 h1;rcases R with ⟨a,b⟩|⟨a,ap,b,r,p3,p4,p6⟩
    ·omega
    ·have O:=p3 (z+1) (by omega) (by omega)
     have r1:=O.r1;have rp:=O.rp;refine⟨_,fun _ _ z=>z,_,rfl,_,_,rfl,rfl,(by show 1<=sizeLine;decide),fun U o5=>?_⟩;have s1:=Same.upd (H:=J) (o:=.lst [.int 1]) o5;have o6:upd J U (.lst [.int 1]) U=some (.lst (WU p (z+1) 1)):=by
      rw[Zt];show some (HO.lst [V.int 1])=some (HO.lst [V.int (((z+1) ^ 0 % p:Nat):Int)]);rw[n6 (z+1)]
     have n9:H U=none:=sm.free o5;have o7:=sm.trans s1;generalize upd J U (.lst [.int 1])=H1 at s1 o6 o7 ⊢;have ez:(z:Int)+1=((z+1:Nat):Int):=by omega
     refine Yb (fun m j J=>∃k:Nat,j=[some (.int (n:Nat)),some (.int (p:Nat)),some (.int ((z+1:Nat):Int)),some (.ref U)]/\Same H J/\J U=some (.lst (WU p (z+1) k))/\1<=k/\k<=r (z+1)/\m=r (z+1)-k)
      (fun j J=>j=[some (.int (n:Nat)),some (.int (p:Nat)),some (.int ((z+1:Nat):Int)),some (.ref U)]/\Same H J/\J U=some (.lst (WU p (z+1) (r (z+1))))) ?hend2 ⟨r (z+1)-1,1,by rw[<-ez];rfl,o7,o6,Zq _,r1,rfl⟩ ?turn2
     case hend2=>
      rintro j H2 ⟨rfl,n4,h2⟩;refine⟨z0-(z+1),by omega,z+1,r (z+1),U,rfl,n4,n9,h2,by omega,rp,by omega,rfl,fun e=>?_,fun e=>?_⟩
      ·apply am
       intro ne;exact p4 (z+1) (by omega) (by omega) e
      ·apply am
       intro ne;have:z+1=z0:=by omega
       rw[this] at e;exact e p6
     case turn2=>
      rintro Y m j H2 ⟨k,rfl,n4,h2,k1,kr,rfl⟩;obtain⟨M,rfl⟩:∃M,k=M+1:=⟨k-1,by omega⟩;have o8:XO (WU p (z+1) (M+1)) (-1)=some (V.int (((z+1) ^ M % p:Nat):Int)):=by rw[Zb7];exact ZcT _ _
      have nx:=Zjh p (z+1) M;refine⟨_,rfl,_,rfl,U,_,_,_,rfl,rfl,.of h2,o8,_,rfl,_,_,rfl,rfl,.inr ⟨by omega,by omega⟩,_,rfl,_,_,rfl,rfl,(by show (0:Int)<(p:Int);omega),rfl,_,rfl,?_⟩;refine Y0 (fun h3=>?_) (fun h3=>?_)
      ·have h3:(z+1) ^ (M+1) % p≠1:=fun e=>by
        rw[Yg,nx,e] at h3;simp at h3
       have:M+1≠r (z+1):=fun e=>by rw[e] at h3;exact h3 O.one
       refine⟨_,fun _ _ z=>z,_,rfl,.inl ⟨rfl,_,.of h2⟩,_,rfl,_,rfl,U,_,_,_,rfl,rfl,.of h2,o8,_,rfl,_,_,rfl,rfl,.inr ⟨by omega,by omega⟩,_,rfl,_,_,rfl,rfl,(by show (0:Int)<(p:Int);omega),U,_,_,rfl,rfl,h2,by rw[VE];omega,?_⟩;have e5:WU p (z+1) (M+1)++[V.int (((((z+1) ^ M % p:Nat):Int))*((z+1:Nat):Int) % (p:Int))]=WU p (z+1) (M+2):=by rw[nx,Zb7 p (z+1) (M+1)]
       rw[e5];exact⟨r (z+1)-(M+2),by omega,M+2,rfl,n4.updr n9,Zt,by omega,by omega,rfl⟩
      ·have h3:(z+1) ^ (M+1) % p=1:=by
        apply am;intro e;apply h3;rw[Yg,nx,beq_eq_false_iff_ne.mpr (fun q=>e (by exact_mod_cast q))];rfl
       have:M+1=r (z+1):=by
        apply am;intro e;exact O.nz (M+1) (by omega) (by omega) h3
       rw[this] at h2;exact Y _ _ ⟨rfl,n4,h2⟩
   ·have h1:k=n:=by
     apply am;intro e;apply h1;rw[Yg];simp;omega
    subst h1;rw[c1 rfl] at hL ⊢;exact n8 _ _ ⟨L,rfl,sm,nL,hL⟩
end
end C39
namespace PyY
open PySem
open AutoSeq1 (wpAny_loadPart')
noncomputable def Vt (b:Bool)(h:Heap)(j a:Addr)(k:Nat):Prop:=match b with
 |true=>h.IsTupleIter j a k
 |false=>h.IsListIter j a k
noncomputable def Vs (b:Bool)(h:Heap)(a:Addr)(j:Array Value):Prop:=match b with
 |true=>h.IsTuple a j
 |false=>h.IsList a j
theorem Vt.ext {b:Bool}{h h':Heap}{c j a:Addr}{k:Nat}(x:Vt b h j a k)(e:ix c h h')(n:j≠c):Vt b h' j a k:=by
 cases b
 ·exact Heap.IsListIter.extBut x e n
 ·exact Heap.IsTupleIter.extBut x e n
theorem Vs.ext {b:Bool}{h h':Heap}{c a:Addr}{us:Array Value}(x:Vs b h a us)(e:ix c h h')(n:a≠c):Vs b h' a us:=by
 cases b
 ·exact Heap.IsList.extBut x e n
 ·exact Heap.IsTuple.extBut x e n
theorem Vt.at {b:Bool}{h h':Heap}{j a:Addr}{k:Nat}(x:Vt b h j a k)(e:∀o,h.get? j=some o->h'.get? j=some o):Vt b h' j a k:=by
 cases b
 ·exact Heap.IsListIter.at x e
 ·obtain⟨o,q,r⟩:=(show h.IsTupleIter j a k from x)
  exact⟨o,e o q,r⟩
theorem Vs.at {b:Bool}{h h':Heap}{a:Addr}{us:Array Value}(x:Vs b h a us)(e:∀o,h.get? a=some o->h'.get? a=some o):Vs b h' a us:=by
 cases b
 ·exact Heap.IsList.at x e
 ·obtain⟨o,j,r⟩:=(show h.IsTuple a us from x)
  exact⟨o,e o j,r⟩
theorem Vt.obj {b:Bool}{h:Heap}{j a:Addr}{k:Nat}(x:Vt b h j a k):∃o,h.get? j=some o/\∀v,o.data≠.cell v:=by
 cases b
 ·obtain⟨o,q,_,d⟩:=(show h.IsListIter j a k from x)
  exact⟨o,q,fun v z=>by rw[d] at z;cases z⟩
 ·obtain⟨o,q,_,d⟩:=(show h.IsTupleIter j a k from x)
  exact⟨o,q,fun v z=>by rw[d] at z;cases z⟩
section
variable {prog:Program}{w:World}{A:Around}{E:Value->Shared->Prop}{s:Shared}
theorem J5 {b:Bool}{j a:Addr}{k:Nat}{us:Array Value}{y:Value}{Q:Value->Shared->Prop}(c:Vt b s.heap j a k)(d:Vs b s.heap a us)(e:us[k]?=some y)
  (q:∀g,Vt b g j a (k+1)->bd j s.heap g->Q y {s with heap:=g}):wpAny (model prog w) A (a7 (.ref j)) Q E s:=by
 cases b
 ·exact wpAny_nextOf_list_item c d e q
 ·exact Ue c d e q
theorem Zaa {b:Bool}{j a:Addr}{k:Nat}{us:Array Value}{Q:Value->Shared->Prop}(J:A.handled=none)(c:Vt b s.heap j a k)(d:Vs b s.heap a us)(e:us[k]?=none)
  (q:∀g x,ix j s.heap g->(∃o,g.get? x=some o/\o.cls=.type "StopIteration")->E (.ref x) {s with heap:=g}):wpAny (model prog w) A (a7 (.ref j)) Q E s:=by
 cases b
 ·exact wpAny_nextOf_list_end J c d e q
 ·exact U9 J c d e q
structure ZA (z p r i j a b:Addr):Prop where
 pz:p≠z
 rz:r≠z
 iz:i≠z
 jz:j≠z
 pr:p≠r
 pi:p≠i
 pj:p≠j
 ri:r≠i
 rj:r≠j
 ij:i≠j
 az:a≠z
 ar:a≠r
 ai:a≠i
 aj:a≠j
 bz:b≠z
 br:b≠r
 bi:b≠i
 bj:b≠j
theorem Zfh {u v:Bool}{z p r i j a b:Addr}{k:Nat}{us vs:Array Value}{x y o1 o2:Value}{Q:Option Value->Shared->Prop}(D:ZA z p r i j a b)
  (hz:iM s.heap z p r .none) (hp:dZ s.heap p (.ref i) (.ref j)) (hr:dZ s.heap r o1 o2) (hi:Vt u s.heap i a k) (hj:Vt v s.heap j b k) (ha:Vs u s.heap a us) (hb:Vs v s.heap b vs) (ex:us[k]?=some x) (ey:vs[k]?=some y)
  (q:∀g,iM g z p r (rawInt s.heap.objs.size)->dZ g r x y->Vt u g i a (k+1)->Vt v g j b (k+1)->dZ g s.heap.objs.size x y->g.objs.size=s.heap.objs.size+1->
   (∀c o,c≠z->c≠r->c≠i->c≠j->s.heap.get? c=some o->g.get? c=some o)->Q (some (.ref s.heap.objs.size)) {s with heap:=g}):wpAny (model prog w) A (pyNext (.ref z)) Q E s:=by
 have tz:s.TypeIs (.ref z) "zip":=⟨_,hz,rfl⟩;unfold pyNext;refine Zl (eB (bb (name:=cN "__next__") tz iy (bm iy tz F.entry_zip_next ?_ (F.args_zip_next_1 _))));show wpAny _ _ (field (.ref z) 2 >>= _) _ _ s;refine Zl (bu hz rfl (x:=.bool false) rfl ?_);show wpAny _ _ (field (.ref z) 3 >>= _) _ _ s;refine Zl (bu hz rfl (x:=.ref p) rfl ?_);refine Zl (cp hp rfl ?_);show wpAny _ _ (bq (.ref z) >>= _) _ _ s;refine Zl ?_;unfold bq;refine Zl (bu hz rfl (x:=.none) rfl (Zm ?_));rw[if_pos rfl];refine Zl (eV (Zl (bu hz rfl (x:=.ref r) rfl ?_)));refine Zl (bI hz (by simp) fun g1 z1 s1=>?_);replace z1:iM g1 z p r .ellipsis:=z1;refine Zl ?_;simp only[nq,List.zipIdx_nil,jL,j7];refine Zl (Zl (jj ?_));show wpAny _ _ (a7 (.ref i) >>= _) _ _ _;refine Zl (J5 (hi.ext s1.extBut D.iz) (ha.ext s1.extBut D.az) ex fun g2 i2 s2=>Zm ?_);have r2:dZ g2 r o1 o2:=s2.extBut _ _ D.ri (s1.extBut _ _ D.rz hr);refine Zl (cp r2 rfl ?_);refine Zl (iX r2 fun g3 r3 O=>?_);replace r3:dZ g3 r x o2:=r3;refine Zl (km (Zm ?_));refine Zl (Zl (jj ?_));show wpAny _ _ (a7 (.ref j) >>= _) _ _ _;refine Zl (J5 (((hj.ext s1.extBut D.jz).ext s2.extBut D.ij.symm).ext O.extBut D.rj.symm) (((hb.ext s1.extBut D.bz).ext s2.extBut D.bi).ext O.extBut D.br) ey fun g4 j4 U=>Zm ?_);have r4:dZ g4 r x o2:=U.extBut _ _ D.rj r3;refine Zl (cp r4 rfl ?_);refine Zl (iX r4 fun J r5 Y=>?_);replace r5:dZ J r x y:=r5;refine Zl (km (Zm (Zm ?_)));refine Zl (cp r5 rfl ?_);refine Zl (lh ?_);have sz:J.objs.size=s.heap.objs.size:=by rw[Y.1,U.1,O.1,s2.1,s1.1]
 have z5:iM J z p r .ellipsis:=Y.extBut _ _ D.rz.symm (U.extBut _ _ D.jz.symm (O.extBut _ _ D.rz.symm (s2.extBut _ _ D.iz.symm z1)));have k5:∀c o,c≠z->c≠r->c≠i->c≠j->s.heap.get? c=some o->J.get? c=some o:=fun c o M c2 c3 c4 e=>Y.extBut _ _ c2 (U.extBut _ _ c4 (O.extBut _ _ c2 (s2.extBut _ _ c3 (s1.extBut _ _ M e))));have i5:Vt u J i a (k+1):=((i2.ext O.extBut D.ri.symm).ext U.extBut D.ij).ext Y.extBut D.ri.symm;have j5:Vt v J j b (k+1):=j4.ext Y.extBut D.rj.symm;have zl:z<J.objs.size:=Zp z5;show wpAny _ _ (cn (.ref z) (.ref J.objs.size) >>= _) _ _ _;refine Zl ?_;unfold cn;have z6:iM (J.push {cls:=.type "tuple",data:=.seq #[x,y]}) z p r .ellipsis:=Zn _ z5;refine Zl (bI z6 (by simp) fun g7 z7 s7=>?_);replace z7:iM g7 z p r (rawInt J.objs.size):=z7;refine bI z7 (by simp) fun g8 z8 s8=>?_;replace z8:iM g8 z p r (rawInt J.objs.size):=z8;have up:∀c o,c≠z->J.get? c=some o->g8.get? c=some o:=fun c o M e=>s8.extBut _ _ M (s7.extBut _ _ M (Zn _ e));have t8:dZ g8 J.objs.size x y:=s8.extBut _ _ (bt zl) (s7.extBut _ _ (bt zl) (Zo _ rfl));have e8:g8.objs.size=J.objs.size+1:=by rw[s8.1,s7.1,bo]
 rw[sz] at z8 t8 e8;refine Zm ⟨_,rfl,Zm ?_⟩;show Q (some (.ref J.objs.size)) _;rw[sz];exact q g8 z8 (up _ _ D.rz r5) (i5.at fun o e=>up _ o D.iz e) (j5.at fun o e=>up _ o D.jz e) t8 e8 fun c o M c2 c3 c4 e=>up c o M (k5 c o M c2 c3 c4 e)
theorem Zfg {u v:Bool}{z p r i j a b:Addr}{k:Nat}{us vs:Array Value}{o1 o2:Value}{Q:PySem.Fin->Shared->Prop}(hn:A.handled=none)(D:ZA z p r i j a b)
  (hz:iM s.heap z p r .none) (hp:dZ s.heap p (.ref i) (.ref j)) (hr:dZ s.heap r o1 o2) (hi:Vt u s.heap i a k) (hj:Vt v s.heap j b k) (ha:Vs u s.heap a us) (hb:Vs v s.heap b vs) (en:us[k]?=none\/vs[k]?=none)
  (q:∀g e,(∀c o,c≠z->c≠r->c≠i->c≠j->s.heap.get? c=some o->g.get? c=some o)->(∃o,g.get? e=some o/\o.cls=.type "StopIteration")->E (.ref e) {s with heap:=g}) :
  wpAny (model prog w) A (cH.«zip.__next__» ⟨[.ref z],[]⟩) Q E s:=by
 show wpAny _ _ (field (.ref z) 2 >>= _) _ _ s;refine Zl (bu hz rfl (x:=.bool false) rfl ?_);show wpAny _ _ (field (.ref z) 3 >>= _) _ _ s;refine Zl (bu hz rfl (x:=.ref p) rfl ?_);refine Zl (cp hp rfl ?_);show wpAny _ _ (bq (.ref z) >>= _) _ _ s;refine Zl ?_;unfold bq;refine Zl (bu hz rfl (x:=.none) rfl (Zm ?_));rw[if_pos rfl];refine Zl (eV (Zl (bu hz rfl (x:=.ref r) rfl ?_)));refine Zl (bI hz (by simp) fun g1 z1 O=>?_);replace z1:iM g1 z p r .ellipsis:=z1;refine Zl ?_;simp only[nq,List.zipIdx_nil,jL,j7];refine Zl (Zl (jj ?_));show wpAny _ _ (a7 (.ref i) >>= _) _ _ _;cases ex:us[k]? with
 |none=>
  refine Zl (Zaa hn (hi.ext O.extBut D.iz) (ha.ext O.extBut D.az) ex fun g2 e U he=>?_);obtain⟨oe,J,M⟩:=he;have z2:iM g2 z p r .ellipsis:=U _ _ D.iz.symm z1;have Y:e≠z:=fun x=>by
   subst x;rw[z2] at J;cases J;simp at M
  exact bI z2 (by simp) fun g3 _ s3=>q g3 e (fun c o c1 _ c3 _ x=>s3.extBut _ _ c1 (U _ _ c3 (O.extBut _ _ c1 x))) ⟨oe,s3.extBut _ _ Y J,M⟩
 |some x=>
  have ey:vs[k]?=none:=by
   rcases en with h|h
   ·rw[ex] at h;cases h
   ·exact h
  refine Zl (J5 (hi.ext O.extBut D.iz) (ha.ext O.extBut D.az) ex fun g2 i2 U=>Zm ?_);have r2:dZ g2 r o1 o2:=U.extBut _ _ D.ri (O.extBut _ _ D.rz hr);refine Zl (cp r2 rfl ?_);refine Zl (iX r2 fun g3 r3 s3=>?_);refine Zl (km (Zm ?_));refine Zl (Zl (jj ?_));show wpAny _ _ (a7 (.ref j) >>= _) _ _ _;refine Zl (Zaa hn (((hj.ext O.extBut D.jz).ext U.extBut D.ij.symm).ext s3.extBut D.rj.symm) (((hb.ext O.extBut D.bz).ext U.extBut D.bi).ext s3.extBut D.br) ey fun g4 e s4 he=>?_);obtain⟨oe,J,M⟩:=he;have z4:iM g4 z p r .ellipsis:=s4 _ _ D.jz.symm (s3.extBut _ _ D.rz.symm (U.extBut _ _ D.iz.symm z1));have Y:e≠z:=fun x=>by
   subst x;rw[z4] at J;cases J;simp at M
  exact bI z4 (by simp) fun g5 _ s5=>q g5 e (fun c o c1 c2 c3 c4 x=>s5.extBut _ _ c1 (s4 _ _ c4 (s3.extBut _ _ c2 (U.extBut _ _ c3 (O.extBut _ _ c1 x))))) ⟨oe,s5.extBut _ _ Y J,M⟩
theorem Zgn {u v:Bool}{z p r i j a b:Addr}{k:Nat}{us vs:Array Value}{O U:Value}{Q:Option Value->Shared->Prop}(Y:A.handled=none)(D:ZA z p r i j a b)
  (hz:iM s.heap z p r .none) (hp:dZ s.heap p (.ref i) (.ref j)) (hr:dZ s.heap r O U) (hi:Vt u s.heap i a k) (hj:Vt v s.heap j b k) (ha:Vs u s.heap a us) (hb:Vs v s.heap b vs) (en:us[k]?=none\/vs[k]?=none)
  (q:∀g,(∀c o,c≠z->c≠r->c≠i->c≠j->s.heap.get? c=some o->g.get? c=some o)->Q none {s with heap:=g}):wpAny (model prog w) A (pyNext (.ref z)) Q E s:=by
 have J:s.TypeIs (.ref z) "zip":=⟨_,hz,rfl⟩;unfold pyNext;refine Zl (eB (bb (name:=cN "__next__") J iy (bm iy J F.entry_zip_next (Zfg Y D hz hp hr hi hj ha hb en fun g e hk he=>?_) (F.args_zip_next_1 _))));obtain⟨o,ho,hc⟩:=he;refine Zl (iu (T:="StopIteration") (b:=true) ⟨o,ho,hc⟩ lu ?_);exact Zm (q _ hk)
noncomputable def Zeq (b:Bool):String:=match b with
 |true => "tuple_iterator"
 |false => "list_iterator"
theorem Zld {b:Bool}{a:Addr}{us:Array Value}{Q:Value->Shared->Prop}(h:Vs b s.heap a us)(q:Q (.ref s.heap.objs.size) {s with heap:=s.heap.push {cls:=.type (Zeq b),data:=.fields #[.ref a,.int 0 0]}}):wpAny (model prog w) A (pyIter (.ref a)) Q E s:=by
 cases b
 ·exact fN h q
 ·exact gK h q
noncomputable abbrev zh1 (h:Heap)(u:Bool)(a:Addr):Heap:=h.push {cls:=.type (Zeq u),data:=.fields #[.ref a,.int 0 0]}
noncomputable abbrev zh2 (h:Heap)(u v:Bool)(a b:Addr):Heap:=(zh1 h u a).push {cls:=.type (Zeq v),data:=.fields #[.ref b,.int 0 0]}
noncomputable abbrev zh3 (h:Heap)(u v:Bool)(a b:Addr):Heap:=(zh2 h u v a b).push {cls:=.type "tuple",data:=.seq #[.ref h.objs.size,.ref (zh1 h u a).objs.size]}
noncomputable abbrev zh4 (h:Heap)(u v:Bool)(a b:Addr):Heap:=(zh3 h u v a b).push {cls:=.type "tuple",data:=.seq #[.none,.none]}
noncomputable abbrev zh5 (h:Heap)(u v:Bool)(a b:Addr):Heap:=(zh4 h u v a b).push {cls:=.type "zip",data:=.fields #[.none,.bool false,.bool false,.ref (zh2 h u v a b).objs.size,.ref (zh3 h u v a b).objs.size]}
theorem Vs.push {b:Bool}{h:Heap}{a:Addr}{us:Array Value}(x:Vs b h a us)(o:Obj):Vs b (h.push o) a us:=x.at fun _ e=>Zn _ e
theorem Zgm (u v:Bool)(a b:Addr)(j vs:Array Value) :
  mC (cH.«zip.__new__» ⟨[.type "zip",.ref a,.ref b],[]⟩) (fun _ R s=>Vs u s.heap a j/\Vs v s.heap b vs/\R (.ok (.ret (.ref (zh4 s.heap u v a b).objs.size))) {s with heap:=zh5 s.heap u v a b}):=
 .of_wp fun prog w A R s h=>by
  obtain⟨q,J,dr,tk,os⟩:=s;obtain⟨M,hb,h⟩:=h;have sub:=sub_zip;have O:Vs u (kR ⟨q,J,dr,tk,os⟩) a j:=M;have U:Vs v (kR ⟨zh1 q u a,J,dr,tk,os⟩) b vs:=Vs.push hb _
  wp_walk using Zld O,Zld U
  exact⟨_,rfl,h⟩
theorem Zga {u v:Bool}{a b:Addr}{us vs:Array Value}{Q:Value->Shared->Prop}(ha:Vs u s.heap a us)(hb:Vs v s.heap b vs)
  (q:∀g,iM g (s.heap.objs.size+4) (s.heap.objs.size+2) (s.heap.objs.size+3) .none->dZ g (s.heap.objs.size+2) (.ref s.heap.objs.size) (.ref (s.heap.objs.size+1))->dZ g (s.heap.objs.size+3) .none .none->
   Vt u g s.heap.objs.size a 0->Vt v g (s.heap.objs.size+1) b 0->(∀c o,s.heap.get? c=some o->g.get? c=some o)->Q (.ref (s.heap.objs.size+4)) {s with heap:=g}) :
  wpAny (model prog w) A (call (.type "zip") [.ref a,.ref b]) Q E s:=by
 refine callType_new F.called_zip (by decide) (F.typeCall_zip_2 _ _) (F.newCall_zip_2 _ _) (fun obj=>F.args_object_init_3 obj _ _) F.entry_zip_new (Zgm u v a b us vs) ⟨ha,hb,?_⟩;have J:(zh1 s.heap u a).objs.size=s.heap.objs.size+1:=bo ..;have M:(zh2 s.heap u v a b).objs.size=s.heap.objs.size+2:=by rw[bo,J]
 have O:(zh3 s.heap u v a b).objs.size=s.heap.objs.size+3:=by rw[bo,M]
 have Y:(zh4 s.heap u v a b).objs.size=s.heap.objs.size+4:=by rw[bo,O]
 have U:(zh5 s.heap u v a b).get? (zh4 s.heap u v a b).objs.size=some _:=Zo _ rfl;have w4:(zh5 s.heap u v a b).get? (zh3 s.heap u v a b).objs.size=some _:=Zn _ (Zo _ rfl);have w3:(zh5 s.heap u v a b).get? (zh2 s.heap u v a b).objs.size=some _:=Zn _ (Zn _ (Zo _ rfl));have w2:(zh5 s.heap u v a b).get? (zh1 s.heap u a).objs.size=some _:=Zn _ (Zn _ (Zn _ (Zo _ rfl)));have w1:(zh5 s.heap u v a b).get? s.heap.objs.size=some _:=Zn _ (Zn _ (Zn _ (Zn _ (Zo _ rfl))));have it:∀(x:Bool) (g:Heap) (j c:Addr),g.get? j=some {cls:=.type (Zeq x),data:=.fields #[.ref c,.int 0 0]}->Vt x g j c 0:=fun x g j c e=>by
  cases x <;> exact⟨_,e,rfl,rfl⟩
 show _/\_;rw[M,O,Y] at U;rw[J,M] at w3;rw[O] at w4;rw[J] at w2;rw[Y];exact⟨⟨_,U,rfl⟩,q _ U w3 w4 (it u _ _ _ w1) (it v _ _ _ w2) fun c o x=>Zn _ (Zn _ (Zn _ (Zn _ (Zn _ x))))⟩
end
end PyY
namespace L2
open PySem PySem.Spec PyProof.Rows
noncomputable def UJ (b:Bool)(K:ab)(H:Hp)(a:Addr)(xs:List V):Prop:=match b with
 |true=>WM K H a xs
 |false=>Wr K H a xs
theorem UJ.mono {b:Bool}{K:ab}{H j:Hp}{a:Addr}{xs:List V}(h:UJ b K H a xs)(s:Same H j):UJ b K j a xs:=by
 cases b
 ·exact s.seq h
 ·exact s.tup h
theorem UJ.lst {K:ab}{H:Hp}{a:Addr}{xs:List V}(h:Wr K H a xs):UJ false K H a xs:=h
theorem UJ.tup {K:ab}{H:Hp}{a:Addr}{xs:List V}(h:WM K H a xs):UJ true K H a xs:=h
section
variable {X:Cx}{pins:List (Addr×Obj)}{σ:St}{H:Hp}{s:Shared}
theorem Inv.sqB {b:Bool}{a:Addr}{xs:List V}(I:Inv X pins σ H s)(h:UJ b X.K H a xs):∃j,ZK xs j/\PyY.Vs b s.heap a j.toArray:=by
 cases b
 ·obtain⟨j,q,p,_⟩:=I.list h
  exact⟨j,q,p.isList⟩
 ·obtain⟨j,q,p,_⟩:=I.tuple h
  exact⟨j,q,p⟩
theorem Inv.sqB_inj {b:Bool}{a:Addr}{xs ys:List V}(I:Inv X pins σ H s)(h:UJ b X.K H a xs)(h':UJ b X.K H a ys):xs=ys:=by
 cases b
 ·exact I.list_inj h h'
 ·exact I.tuple_inj h h'
end
noncomputable def Itz (K:ab)(u v:Bool)(a b:Addr):It:=
  ⟨fun i H=>∃j q x y,UJ u K H a j/\UJ v K H b q/\j[i]?=some x/\q[i]?=some y,
   fun i H x O=>∃T J M,x=.ref T/\H T=none/\O=upd H T (.tup [J,M])/\(∀j,UJ u K H a j->j[i]?=some J)/\∀q,UJ v K H b q->q[i]?=some M,
   fun i H=>∃j q,UJ u K H a j/\UJ v K H b q/\(j.length<=i\/q.length<=i)⟩
theorem Zgs {P:Program}{w:World}{K:ab}{elts:List Expr}{x1}{pos:Pos}(u v:Bool)(a b z p r i j:Addr)(D:PyY.ZA z p r i j a b) :
  UW P w K (.Tuple elts x1 pos) (Itz K u v a b) [z,p,r,i,j] z (fun k h=>iM h z p r .none/\dZ h p (.ref i) (.ref j)/\(∃o1 o2,dZ h r o1 o2)/\PyY.Vt u h i a k/\PyY.Vt v h j b k) where
 mem:=by simp
 obj:=fun k h st c hc=>by
  obtain⟨O,M,⟨o1,o2,U⟩,hi,Y⟩:=st;simp only[aF,cQ,or_false] at hc;rcases hc with rfl|rfl|rfl|rfl|rfl
  ·exact⟨_,O,fun v z=>by
    have z':gA _=f6 v:=z;cases z'⟩
  ·exact⟨_,M,fun v z=>by
    have z':Data.seq _ _=f6 v:=z;cases z'⟩
  ·exact⟨_,U,fun v z=>by
    have z':Data.seq _ _=f6 v:=z;cases z'⟩
  ·exact hi.obj
  ·exact Y.obj
 keep:=fun k h h' st kk=>by
  obtain⟨O,M,⟨o1,o2,U⟩,hi,Y⟩:=st;exact⟨kk z (by simp) _ O,kk p (by simp) _ M,⟨o1,o2,kk r (by simp) _ U⟩,hi.at fun o q=>kk i (by simp) o q,Y.at fun o q=>kk j (by simp) o q⟩
 item:=by
  intro X hP hw hK hc k n8 s σ H E I hf st hg;subst hP hw hK;obtain⟨O,M,⟨o1,o2,U⟩,hi,Y⟩:=st;obtain⟨xs,ys,x,y,hA,hB,hx,hy⟩:=hg;obtain⟨n9,rv,pa⟩:=I.sqB hA;obtain⟨o0,n4,pb⟩:=I.sqB hB;obtain⟨ux,o5,o6⟩:=rv.get hx;obtain⟨uy,o7,o8⟩:=n4.get hy;refine PyY.Zfh D O M U hi Y pa pb (x:=ux) (y:=uy) (by simpa using o5) (by simpa using o7) fun h1 z1 r1 i1 j1 t1 o9 k1=>?_;refine⟨_,rfl,wpAny_letOwnedTupleGo_zip z1 fun h2 z2 s2=>?_⟩;have lt:∀c∈[z,p,r,i,j],c<s.heap.objs.size:=fun c J=>by
   simp only[aF,cQ,or_false] at J;rcases J with rfl|rfl|rfl|rfl|rfl
   ·exact Zp O
   ·exact Zp M
   ·exact Zp U
   ·obtain⟨o,e,_⟩:=hi.obj;exact Zp e
   ·obtain⟨o,e,_⟩:=Y.obj;exact Zp e
  have s3:bd z h1 h2:=s2;have t2:dZ h2 s.heap.objs.size ux uy:=(s3.2 _ (bt (lt z (by simp)))).trans t1;have nT:H s.heap.objs.size=none:=I.hok.fresh (Zq _);have p2:dZ h2 p (.ref i) (.ref j):=(s3.2 _ D.pz).trans (k1 _ _ D.pz D.pr D.pi D.pj M);have r2:dZ h2 r ux uy:=(s3.2 _ D.rz).trans r1;have i2:=i1.ext s3.extBut D.iz;have j2:=j1.ext s3.extBut D.jz;have I2:=I.turnLay (t':=s.toks) (h':=h2) (ts:=[z,p,r,i,j]) (T:=s.heap.objs.size) (o:=.tup [x,y]) (fun c o J q=>?_) (fun c J=>?_) hf (Zq _) ⟨by show 2<=sizeLine;decide,[ux,uy],.cons o6 (.cons o8 .nil),_,t2,rfl,0,rfl⟩
  ·refine⟨.ref s.heap.objs.size,_,I2,rfl,⟨_,x,y,rfl,nT,rfl,fun zs n6=>by rw[I.sqB_inj n6 hA];exact hx,fun zs n6=>by rw[I.sqB_inj n6 hB];exact hy⟩,⟨z2,p2,⟨_,_,r2⟩,i2,j2⟩,fun c J=>?_⟩
   rw[Zx (aB (lt c J))];exact (hf c J).1
  ·have q1:c≠z:=fun e=>J (by simp[e])
   have q2:c≠r:=fun e=>J (by simp[e]);have q3:c≠i:=fun e=>J (by simp[e]);have q4:c≠j:=fun e=>J (by simp[e]);exact (s3.2 c q1).trans (k1 c o q1 q2 q3 q4 q)
  ·simp only[aF,cQ,or_false] at J
   rcases J with rfl|rfl|rfl|rfl|rfl
   ·exact⟨_,z2⟩
   ·exact⟨_,p2⟩
   ·exact⟨_,r2⟩
   ·obtain⟨o,e,_⟩:=i2.obj;exact⟨o,e⟩
   ·obtain⟨o,e,_⟩:=j2.obj;exact⟨o,e⟩
 done:=by
  intro X hP hw hK hc k n8 s σ H E I hf st hg;subst hP hw hK;obtain⟨O,M,⟨o1,o2,U⟩,hi,Y⟩:=st;obtain⟨xs,ys,hA,hB,hl⟩:=hg;obtain⟨n9,rv,pa⟩:=I.sqB hA;obtain⟨o0,n4,pb⟩:=I.sqB hB;have l1:=rv.length;have l2:=n4.length;refine PyY.Zgn (I.ok.hd hc) D O M U hi Y pa pb ?_ fun h1 k1=>⟨rfl,I.turnedL (t':=s.toks) (ts:=[z,p,r,i,j]) (fun c o J q=>?_) hf⟩
  ·rcases hl with h|h
   ·exact .inl (by simp;omega)
   ·exact .inr (by simp;omega)
  ·exact k1 c o (fun e=>J (by simp[e])) (fun e=>J (by simp[e])) (fun e=>J (by simp[e])) (fun e=>J (by simp[e])) q
 self:=fun _ _ _ _ _ st h=>wpAny_pyIter_zip st.1 h
structure ZdS (J:It)(At:Hp->Prop)(ps:List (V×V)):Prop where
 go:∀i H,At H->i<ps.length->J.go i H
 yld:∀i H x H2,At H->J.yld i H x H2->∃T y z,x=.ref T/\H T=none/\H2=upd H T (.tup [y,z])/\ps[i]?=some (y,z)
 stop:∀i H,At H->ps.length<=i->J.stop i H
theorem Znz {K:ab}{u v:Bool}{a b:Addr}{xs ys:List V}:ZdS (Itz K u v a b) (fun H=>UJ u K H a xs/\UJ v K H b ys) (xs.zip ys) where
 go:=fun i H h j=>by
  rw[cI] at j;exact⟨xs,ys,xs[i]'(by omega),ys[i]'(by omega),h.1,h.2,by simp,by simp⟩
 yld:=fun i H x Y h q=>by
  obtain⟨T,y,z,e,J,M,O,U⟩:=q;refine⟨T,y,z,e,J,M,?_⟩;rw[bE];exact⟨O xs h.1,U ys h.2⟩
 stop:=fun i H h j=>by
  rw[cI] at j;exact⟨xs,ys,h.1,h.2,by omega⟩
noncomputable def Zou (K:ab)(ta:TA):TI:=fun σ H R=>ta σ H fun vs q=>∃a b u v M O j,vs=[.ref a,.ref b]/\UJ u K j a M/\UJ v K j b O/\Same j q/\∀J U,ZdS J U (M.zip O)->(∀Y,Same j Y->U Y)->R J q
theorem Zpz {X:Cx}{elts:List Expr}{x1}{pt:Pos}{l m:Expr}{ta:TA}{p pos:Pos}(hm:X.mg "zip"=none)(ha:PA X [l,m] ta)(hg:YO X.env.scope "zip"=true:=by kernel_rfl)(hs:starEach [l,m] X.env=(false,eval l X.env)::starEach [m] X.env:=by rfl)(O:(backTo pos (starEach [m] X.env)).any (·.1)=false:=by rfl) :
  PI X (.Tuple elts x1 pt) (.Call (.Name "zip" p) [l,m] [] pos) (Zou X.K ta):=by
 intro j s σ H R I h;refine Call_ (WZ I (JB hg) hm (show bootBuiltins "zip"=some (.type "zip") by kernel_rfl) (bn (Yi (ha pos j s σ H _ I h) fun us s1 ⟨vs,H1,J,r1,q1⟩=>?_) hs O));obtain⟨a,b,u,v,xs,ys,Hx,e,hA,hB,sm,q⟩:=q1;subst e;cases r1 with
 |cons r U=>
  cases U with
  |cons r' U=>
   cases U;cases (show _=aI a from r);cases (show _=aI b from r');obtain⟨n4,rv,Y⟩:=J.sqB (hA.mono sm);obtain⟨n6,n8,pb⟩:=J.sqB (hB.mono sm);have la:a<s1.heap.objs.size:=by
    cases u
    ·obtain⟨o,e,_⟩:=(show s1.heap.IsList a _ from Y);exact Zp e
    ·obtain⟨o,e,_⟩:=(show s1.heap.IsTuple a _ from Y);exact Zp e
   have lb:b<s1.heap.objs.size:=by
    cases v
    ·obtain⟨o,e,_⟩:=(show s1.heap.IsList b _ from pb);exact Zp e
    ·obtain⟨o,e,_⟩:=(show s1.heap.IsTuple b _ from pb);exact Zp e
   have nn:∀{c d:Nat},c<d->(c:Addr)≠d:=fun h=>aB h;have D:PyY.ZA (s1.heap.objs.size+4) (s1.heap.objs.size+2) (s1.heap.objs.size+3) s1.heap.objs.size (s1.heap.objs.size+1) a b:=by
    have n9:(a:Nat)<s1.heap.objs.size:=la;have o0:(b:Nat)<s1.heap.objs.size:=lb;constructor <;> first|exact aB (aC la (eS _ _))|exact aB (aC lb (eS _ _))|exact aB la|exact aB lb|exact aB (by omega)|exact bt (by omega)
   refine PyY.Zga Y pb fun g gz gp gr gi gj gk=>wpAny_pyIter_zip gz ?_;have sz:∀c∈[s1.heap.objs.size+4,s1.heap.objs.size+2,s1.heap.objs.size+3,s1.heap.objs.size,s1.heap.objs.size+1],s1.heap.objs.size<=c:=fun c M=>by
    simp only[aF,cQ,or_false] at M;rcases M with rfl|rfl|rfl|rfl|rfl
    ·exact eS _ _
    ·exact eS _ _
    ·exact eS _ _
    ·exact Zq _
    ·exact eS _ _
   exact⟨_,[s1.heap.objs.size+4,s1.heap.objs.size+2,s1.heap.objs.size+3,s1.heap.objs.size,s1.heap.objs.size+1],_,_,H1,rfl,J.kept (t':=s1.toks) gk,Zgs u v a b _ _ _ _ _ D,⟨gz,gp,⟨_,_,gr⟩,gi,gj⟩,fun c M=>J.fpOk (sz c M) (J.hok.fresh (sz c M)),q _ _ Znz fun H' s'=>⟨hA.mono s',hB.mono s'⟩⟩
theorem Zfi (K:ab){X:Cx}{elts:List Expr}{J}{pt:Pos}{l m:Expr}{q:TA}{p pos:Pos}(M:X.mg "zip"=none)(O:PA X [l,m] q)(U:X.K=K:=by rfl)(Y:YO X.env.scope "zip"=true:=by kernel_rfl)(hs:starEach [l,m] X.env=(false,eval l X.env)::starEach [m] X.env:=by rfl)(j:(backTo pos (starEach [m] X.env)).any (·.1)=false:=by rfl) :
  PI X (.Tuple elts J pt) (.Call (.Name "zip" p) [l,m] [] pos) (Zou K q):=U▸Zpz M O Y hs j
theorem Uu {K:ab}{J:It}{At:Hp->Prop}{own:List Str}{M:List Nat}{te:TE}{σ:St}{H Hx:Hp}{Q:VK}{q:List (V×V)}(S:ZdS J At q)(n9:∀j,Same Hx j->At j)(sx:Same Hx H)(O:St)(o0:Js own M σ=none::none::O)(f:V->V->V)(hz:q.length<=1000000)
  (hs:∀(i:Nat) x y j,q[i]?=some (x,y)->Same H j->∀R:VK,(∀U,Same j U->R (f x y) U)->te (some x::some y::O) j R)
  (hd:∀D j,H D=none->Same H j->j D=some (.lst (q.map fun p=>f p.1 p.2))->Q (.ref D) j):WL own M (Zkc K 2 (Uk (Yy 0) (Uk (Yy 1) Zkd))) Wv te σ Q J H:=by
 intro D hD;refine⟨fun i m n4 j=>m=q.length-i/\i<=q.length/\(∃v0 v1,n4=v0::v1::O)/\Same H j/\j D=some (.lst ((q.take i).map fun p=>f p.1 p.2)),⟨_,rfl,aX _,⟨none,none,o0⟩,Same.upd hD,by rw[Zt,gb];rfl⟩,?_⟩;rintro i m n4 j ⟨rfl,hi,⟨v0,v1,rfl⟩,s,hl⟩;have Y:=n9 j (sx.trans s);by_cases n6:i<q.length
 ·refine .inr ⟨S.go i j Y n6,fun n8 H2=>(∃v0 v1,n8=v0::v1::O)/\Same H H2/\H2 D=some (.lst ((q.take (i+1)).map fun p=>f p.1 p.2)),fun n8 H2 z=>⟨q.length-(i+1),by omega,rfl,n6,z.1,z.2.1,z.2.2⟩,fun x H2 hy=>?_⟩
  obtain⟨T,y,z,rfl,hT,rfl,hx⟩:=S.yld i j x H2 Y hy;have ht:q.take (i+1)=q.take i++[(y,z)]:=by rw[c8,hx];rfl
  refine⟨T,_,rfl,.of Zt,rfl,_,_,rfl,_,_,rfl,rfl,?_⟩;refine tT (A:=fun H4=>te (some y::some z::O) H4 fun v U=>∃xs,U D=some (.lst xs)/\xs.length<sizeLine/\(∃v0 v1,(some y::some z::O:St)=v0::v1::O)/\Same H (upd U D (.lst (xs++[v])))/\(upd U D (.lst (xs++[v]))) D=some (.lst ((q.take (i+1)).map fun p=>f p.1 p.2))) ?_;refine hs i y z _ hx (s.trans (Same.upd hT)) _ fun U s5=>⟨_,s5 _ _ (Same.upd hT _ _ hl),?_,⟨_,_,rfl⟩,((s.trans (Same.upd hT)).trans s5).updr hD,?_⟩
  ·rw[Za,bZ]
   have:(16777216:Nat)=sizeLine:=by decide
   omega
  ·rw[Zt,ht,aU]
   rfl
 ·have e:i=q.length:=by omega
  subst e;refine .inl ⟨S.stop _ j Y (Zq _),hd D j hD s ?_⟩;rw[hl,dz]
end L2
namespace C39
open PySem L2 PySem.Spec PyProof.Rows
open Tb Pm
noncomputable abbrev ZgX:Stmt:=top 40
noncomputable abbrev ZkX:Stmt:=top 41
noncomputable abbrev ZkW:Stmt:=top 42
noncomputable def ZL (m:Nat)(v:Nat->Int):List V:=(ac m).map fun c=>V.int (v c)
theorem Yj (m:Nat)(v:Nat->Int):(ZL m v).length=m:=by unfold ZL;rw[Za,Zg]
theorem JJ {m c:Nat}(v:Nat->Int)(h:c<m):(ZL m v)[c]?=some (V.int (v c)):=by
 unfold ZL;rw[Zc,ao h];rfl
theorem Wb {m:Nat}{v u:Nat->Int}(h:∀c,c<m->v c=u c):ZL m v=ZL m u:=by
 unfold ZL;exact a8 fun c j=>by rw[h c (af.mp j)]
theorem W3 (m:Nat)(v:Nat->Int):ZL m v=((ac m).map v).map V.int:=by
 unfold ZL;rw[aK];rfl
theorem ZbC (m:Nat)(v:Nat->Int):ZL (m+1) v=ZL m v++[V.int (v m)]:=by
 unfold ZL;rw[c6,aU];rfl
theorem Vz (m:Nat)(v:Nat->Int):((ac m).map v).any (· != 0)=true↔∃c,c<m/\v c≠0:=by
 rw[a6];constructor
 ·rintro⟨x,q,h⟩
  obtain⟨c,j,rfl⟩:=aN.mp q;exact⟨c,af.mp j,by simpa using h⟩
 ·rintro⟨c,j,h⟩
  exact⟨v c,aN.mpr ⟨c,af.mpr j,rfl⟩,by simpa using h⟩
noncomputable def fI2 (g:Int->Int->Int):V->V->V:=fun x y=>match x,y with
 | .int a,.int b=>.int (g a b)
 |_,_=>.non
theorem ZdW {m:Nat}{v u:Nat->Int}:(ZL m v).zip (ZL m u)=(ac m).map fun c=>(V.int (v c),V.int (u c)):=by
 unfold ZL;rw[List.zip_map']
theorem X8 {K:ab}{J:It}{At:Hp->Prop}{own:List Str}{M:List Nat}{te:TE}{σ:L2.St}{H Hx:Hp}{Q:VK}{m:Nat}{v u:Nat->Int}(S:ZdS J At ((ZL m v).zip (ZL m u)))(O:∀j,Same Hx j->At j)(sx:Same Hx H)(U:L2.St)(Y:Js own M σ=none::none::U)(g:Int->Int->Int)(hz:m<=1000)
  (hs:∀(i:Nat) j,i<m->Same H j->∀R:VK,R (.int (g (v i) (u i))) j->te (some (.int (v i))::some (.int (u i))::U) j R)
  (hd:∀D j,H D=none->Same H j->j D=some (.lst (ZL m fun i=>g (v i) (u i)))->Q (.ref D) j):WL own M (Zkc K 2 (Uk (Yy 0) (Uk (Yy 1) Zkd))) Wv te σ Q J H:=by
 refine Uu S O sx U Y (fI2 g) (by rw[cI,Yj,Yj];omega) (fun i x y j q s R gg=>?_) (fun D j nD s hD=>hd D j nD s ?_)
 ·rw[ZdW] at q
  have hi:i<m:=by
   have:=(ae.mp q).1;rw[Za,Zg] at this;exact this
  rw[Zc,ao hi] at q;cases q;exact hs i j hi s R (gg j (Same.refl _))
 ·rw[hD,ZdW,aK]
  rfl
noncomputable def LLs (H:Hp)(a:Addr)(m:Nat)(F:Nat->Nat->Int):Prop:=∃cs:List Addr,H a=some (.lst (cs.map V.ref))/\cs.length=m/\∀(c:Nat) b,cs[c]?=some b->H b=some (.lst (ZL m (F c)))
theorem LLs.mono {H j:Hp}{a:Addr}{m:Nat}{F:Nat->Nat->Int}(h:LLs H a m F)(s:Same H j):LLs j a m F:=by
 obtain⟨q,J,M,O⟩:=h;exact⟨q,s _ _ J,M,fun c b hb=>s _ _ (O c b hb)⟩
noncomputable def Uj (m p:Nat)(F:Nat->Nat->Int)(v:Nat->Int)(k:Int)(c:Nat):Int:=(Ys m (fun j=>v j*F c j)-k*v c) % (p:Int)
structure ZiK (m p:Nat)(v:Nat->Int):Prop where
 ge:∀c,c<m->0<=v c
 lt:∀c,c<m->v c<(p:Int)
noncomputable def ZgE:Sp:=fun M H Q _=>∃(q J:Addr) (m k p:Nat) (F:Nat->Nat->Int) (v:Nat->Int),M=[.ref q,.ref J,.int k,.int p]/\LLs H q m F/\H J=some (.lst (ZL m v))/\2<=p/\p<=100000/\m<=60/\k<=100000/\ZiK m p v/\∀L j,H L=none->Same H j->j L=some (.lst (ZL m (Uj m p F v k)))->Q (.ref L) j
section
variable {P:Program}{w:World}{K:ab}{mg:Str->Option Value}{base:Heap}
theorem ZeX {J:It}{g:TG}{tb:TS}{D:Xc}{σ:L2.St}{H:Hp}{At:Hp->Prop}{j:List (V×V)}(S:ZdS J At j)(Pv:Nat->L2.St->Hp->Prop)(h0:Pv 0 σ H)(hS:∀i σ H,Pv i σ H->At H)
  (hs:∀(i:Nat) y z σ H T,j[i]?=some (y,z)->Pv i σ H->H T=none->g (.ref T) σ (upd H T (.tup [y,z])) fun M Y=>tb {D with nx:=Pv (i+1),ct:=Pv (i+1),bk:=D.nx} M Y) (hd:∀ σ H,Pv j.length σ H->D.nx σ H) :
  ∃W:Nat->Nat->L2.St->Hp->Prop,(∃m,W 0 m σ H)/\∀i m σ H,W i m σ H->
   (J.stop i H/\D.nx σ H)\/(J.go i H/\∃N:L2.St->Hp->Prop,(∀ O q,N O q->∃m',m'<m/\W (i+1) m' O q)/\∀x q,J.yld i H x q->g x σ q fun M Y=>tb {D with nx:=N,ct:=N,bk:=D.nx} M Y):=by
 refine⟨fun i m σ H=>m=j.length-i/\i<=j.length/\Pv i σ H,⟨_,rfl,aX _,h0⟩,?_⟩;rintro i m σ H ⟨rfl,hi,p⟩;have s:=hS i σ H p;by_cases U:i<j.length
 ·refine .inr ⟨S.go i H s U,Pv (i+1),fun O q p'=>⟨j.length-(i+1),by omega,rfl,U,p'⟩,fun x q hy=>?_⟩
  obtain⟨T,y,z,rfl,hT,rfl,hx⟩:=S.yld i H x q s hy;exact hs i y z σ H T hx p hT
 ·have e:i=j.length:=by omega
  subst e;exact .inl ⟨S.stop _ H s (Zq _),hd σ H p⟩
theorem ZjI {f:Addr}{fd:FuncData}(F:Y5 K "less_often" "less_often" ZkW f fd)(T5:BlT mg):ZR P w K mg base ZT 1 f fd ["columns", "one", "k", "p"] ZgE:=by
 refine F.ok (FS (N:=["columns", "one", "k", "p", "found", "column", "x"])) (fun vs H Q E h=>?_) (fun n9 A n4 s H vs Q E hr h=>?_)
 ·obtain⟨ca,oa,m,k,p,G,v,rfl,_⟩:=h;rfl
 ·obtain⟨ca,oa,m,k,p,G,v,rfl,hC,hO,p2,pl,o0,kl,vo,q⟩:=h
  refine⟨_,Zu (ZH 4 rfl (ZS Zs))
   (Zu (ZQ aq rfl (Zfi K T5.zip (pc (vn 0) (pc (vn 1) Zs))) (g2 K 5 6 rfl (gn 5) (gn 6))
    (Zv (Yv (Wm aM aR aT Z2 (vn 4)
     (pc (Zz Z5 (Zz YU (cb (sumK K rfl) T5.sum (pc (cmp ["y", "often"] [] ["y", "often"] rfl (Zfi K T5.zip (pc (vn 1) (pc (vn 5) Zs))) (fun _ _ _ _ _=>g2 K 0 1 rfl (gn 0) (gn 1)) (fun _ _ _ _ _=>ZN)
      (fun _ _ _ _ _=>Zz ZV (vn 0) (vn 1))) Zs)) (Zz ZV (vn 2) (vn 6))) (vn 3)) Zs)))))
   (Zv (ZD (vn 4)))),?_⟩
  have sz:(16777216:Nat)=sizeLine:=by decide
  obtain⟨cs,c1,c2,c3⟩:=id hC;refine⟨(by show 0<=sizeLine;decide),fun L nL=>?_⟩;have s0:=Same.upd (H:=H) (o:=.lst []) nL;have h0:upd H L (.lst []) L=some (.lst (ZL 0 (Uj m p G v k))):=Zt;generalize upd H L (.lst [])=H0 at s0 h0 ⊢;refine⟨_,rfl,_,rfl,ca,oa,false,false,_,_,H,rfl,.lst (.of c1),.lst (.of hO),s0,fun J At S n6=>?_⟩;have n8:((cs.map V.ref).zip (ZL m v)).length=m:=by rw[cI,Za,Yj,c2];omega
  refine ZeX S (fun i M H'=>∃(v5 v6:Option V),M=[some (.ref ca),some (.ref oa),some (.int (k:Nat)),some (.int (p:Nat)),some (.ref L),v5,v6]/\Same H H'/\H' L=some (.lst (ZL i (Uj m p G v k))))
   ⟨_,_,rfl,s0,h0⟩ (fun i M H' h=>?_) ?_ ?_
  ·obtain⟨_,_,_,sm,_⟩:=h
   exact n6 H' sm
  ·rintro i y z M H1 T' U ⟨v5,v6,rfl,s1,h1⟩ nT
   have hi:i<m:=by
    have:=(ae.mp U).1;omega
   rw[bE,JJ v hi,Zc,Zf (by omega)] at U;obtain⟨e1,e2⟩:=U;cases e1;cases e2;have hb:=c3 i (cs[i]'(by omega)) (Zf (by omega));generalize cs[i]'(by omega)=b at hb ⊢;have s2:=Same.upd (H:=H1) (o:=.tup [.ref b,.int (v i)]) nT;refine⟨T',_,rfl,.of Zt,rfl,_,_,rfl,_,_,rfl,rfl,?_⟩;have O:=s1.trans s2;have h2:=s2 _ _ h1;generalize upd H1 T' (.tup [.ref b,.int (v i)])=H2 at O h2 ⊢;refine⟨_,rfl,.inl ⟨rfl,_,.of h2⟩,_,rfl,_,rfl,oa,b,false,false,_,_,H,rfl,.lst (.of hO),.lst (.of hb),O,fun J' o5 S' Y=>?_⟩;refine X8 S' Y O [] rfl (fun x y=>x*y) (by omega) (fun j H3 hj s3 R g=>?_) (fun D H3 nD s3 hD=>?_)
   ·have a1:=vo.ge j hj
    have a2:=vo.lt j hj;exact⟨_,rfl,_,rfl,_,_,rfl,rfl,.inl ⟨by omega,by omega⟩,g⟩
   ·rw[W3] at hD
    refine⟨D,_,rfl,.of hD,_,rfl,_,rfl,_,_,rfl,rfl,.inl ⟨by omega,by omega⟩,_,_,rfl,rfl,_,rfl,_,_,rfl,rfl,(by show (0:Int)<(p:Int);omega),L,_,_,rfl,rfl,s3 _ _ h2,by rw[Yj];omega,?_⟩;have e5:ZL i (Uj m p G v k)++[V.int ((((ac m).map fun j=>v j*G i j).sum-(k:Int)*v i) % (p:Int))]=ZL (i+1) (Uj m p G v k):=by
     rw[ZbC];rfl
    rw[e5];exact⟨_,_,rfl,(O.trans s3).updr nL,Zt⟩
  ·rintro M H1 ⟨v5,v6,rfl,s1,h1⟩
   rw[n8] at h1;exact⟨_,rfl,q L H1 nL s1 h1⟩
end
noncomputable def Vx (t:List (List Nat))(i c j:Nat):Int:=(cnA t (Yh t) i j (ZB t c):Nat)
noncomputable def gW (t:List (List Nat))(j:Nat->Nat->Nat)(i s:Nat):Nat:=j s (ZB t i)
section
variable {t:List (List Nat)}{p m:Nat}{e ω φ:Nat->Nat->Nat}
theorem ZkH (C:CD t p m e ω φ)(α:Nat->Int):ZiK m p (Vc t p m e α):=
 ⟨fun c _=>cJ _ C.p0,fun c _=>cx _ (by have:=C.pr.p2;omega)⟩
theorem ZeR (C:CD t p m e ω φ)(j:PW t){i:Nat}(q:i<m)(S:Nat->Bool)(k:Nat):ZL m (Uj m p (Vx t i) (Vc t p m e (lpA S (gW t ω i) k)) (k:Int))=ZL m (Vc t p m e (lpA S (gW t ω i) (k+1))):=by
 refine Wb fun c J=>?_;unfold Uj Vx;rw[Zkw C j q J,<-Zj1];rfl
theorem Zlk (C:CD t p m e ω φ)(j:PW t){i:Nat}(J:i<m):∀s,s<m->gW t ω i s<p:=fun s q=>C.wlt s _ q ((Yp j).rl i (by have:=C.mc;omega))
theorem Zkh (C:CD t p m e ω φ){M:Nat}(O:M<p):∃y:Nat,1<=y/\y<p/\(y:Int)*fcI p M % (p:Int)=1:=by
 have U:=C.pr.p2;obtain⟨j,q⟩:=Zlm U M;have J:=Zig C.pr O (Zq M);rw[<-Zii,fH j q] at J;obtain⟨a,Y⟩:=bB j;rw[Y] at J q ⊢;obtain⟨b,b1,b2,b3⟩:=C.pr.iv a (by omega) (by omega);exact⟨b,b1,b2,by rw[<-aV,<-a9,b3];rfl⟩
end
noncomputable def ZgF:Sp:=fun U H Q _=>∃(J O:Addr) (t:List (List Nat)) (p m:Nat) (e j Y:Nat->Nat->Nat) (S:Nat->Bool) (i:Nat),U=[.ref J,.ref O,.int p]/\CD t p m e j Y/\PW t/\i<m/\p<=100000/\LLs H J m (Vx t i)/\H O=some (.lst (ZL m (Vc t p m e (JX S))))/\(∃s,s<m/\S s=true)/\
 ∀L M q,H L=none->Same H q->(∃s,s<m/\S s=true/\gW t j i s=M)->(∀s,s<m->S s=true->gW t j i s<=M)->q L=some (.lst (ZL m (Vc t p m e (JX (JV S (gW t j i) M)))))->Q (.ref L) q
section
variable {P:Program}{w:World}{K:ab}{mg:Str->Option Value}{base:Heap}
theorem ZiE {t:List (List Nat)}{p m:Nat}{e j q:Nat->Nat->Nat}(C:CD t p m e j q)(J:PW t):m<=60:=by
 have M:=C.mc;have O:=YI (t:=t) t.length;have U:=J.n60;omega
theorem ZjK {f:Addr}{fd:FuncData}(F:Y5 K "last_part" "last_part" ZkX f fd)(T:Bl mg)(GL:Fn P w K mg base ZT 1 "less_often" ["columns", "one", "k", "p"] ZgE)(GB:Fn P w K mg base ZT 1 "back_by" ["p", "x"] Xj):ZR P w K mg base ZT 2 f fd ["columns", "one", "p"] ZgF:=by
 refine F.ok (FS (N:=["columns", "one", "p", "k", "factor", "left", "after", "undo"])) (fun vs H Q E h=>?_) (fun o9 A o7 s H vs Q E hr h=>?_)
 ·obtain⟨ca,oa,t,p,m,e,U,φ,S,i,rfl,_⟩:=h;rfl
 ·obtain⟨ca,oa,t,p,m,e,U,φ,S,i,rfl,C,Pt,hi,pl,hC,hO,hS,q⟩:=h
  refine⟨_,Zu (ZH 3 rfl Zw)
   (Zu (ZH 4 rfl Zw)
   (Zu (ZH 5 rfl (vn 1))
   (Zu (ZH 6 rfl (YC GL hr ZF (pc (vn 0) (pc (vn 5) (pc (vn 3) (pc (vn 2) Zs))))))
   (Zu (Yk aq (XY (cb (ZoX K rfl) T.any (pc (vn 6) Zs)))
    (Zu (ZH 5 rfl (vn 6))
    (Zu (Jx (i:=3) (Z0 (by kernel_rfl)) rfl (YG (by kernel_rfl)) Zw WK (.inl rfl))
    (Zu (ZH 4 rfl (Zz Z5 (Zz ZV (vn 4) (vn 3)) (vn 2)))
    (Zv (ZH 6 rfl (YC GL hr ZF (pc (vn 0) (pc (vn 5) (pc (vn 3) (pc (vn 2) Zs)))))))))))
   (Zu (ZH 7 rfl (YC GB hr ZF (pc (vn 2) (pc (vn 4) Zs))))
   (Zv (ZD (cmp ["x"] [7,2] ["x", "undo", "p"] rfl (itL K (vn 5)) (fun _ _ _ _ _=>gn 0) (fun _ _ _ _ _=>ZN) (fun _ _ _ _ _=>Zz Z5 (Zz ZV (vn 0) (vn 1)) (vn 2)))))))))),?_⟩
  have p2:=C.pr.p2;have n6:=ZiE C Pt;obtain⟨M,Y,n4⟩:=Zmm (g:=gW t U i) hS;have n8:=Zlk C Pt hi;have Mp:M<p:=by obtain⟨s',o8,_,e'⟩:=Y;rw[<-e'];exact n8 s' o8
  have any:=Zmp C Pt n8 Y n4;have n9:H oa=some (.lst (ZL m (Vc t p m e (lpA S (gW t U i) 0)))):=by rw[Zj0];exact hO
  refine⟨_,rfl,_,rfl,_,rfl,_,rfl,_,rfl,ca,oa,m,0,p,Vx t i,_,rfl,hC,n9,p2,pl,n6,by omega,ZkH C _,fun L1 H1 p3 s1 h1=>?_⟩;rw[ZeR C Pt hi] at h1;refine Yb (fun x j J=>∃(k:Nat) (l a:Addr),j=[some (.ref ca),some (.ref oa),some (.int (p:Nat)),some (.int (k:Nat)),some (.int (fcI p k)),some (.ref l),some (.ref a),none]/\Same H J/\J l=some (.lst (ZL m (Vc t p m e (lpA S (gW t U i) k))))/\J a=some (.lst (ZL m (Vc t p m e (lpA S (gW t U i) (k+1)))))/\k<=M/\x=M-k)
   (fun j J=>∃(l a:Addr),j=[some (.ref ca),some (.ref oa),some (.int (p:Nat)),some (.int (M:Nat)),some (.int (fcI p M)),some (.ref l),some (.ref a),none]/\Same H J/\J l=some (.lst (ZL m (Vc t p m e (lpA S (gW t U i) M))))) ?hend ⟨M,0,oa,L1,rfl,s1,s1 _ _ n9,h1,aX _,rfl⟩ ?turn
  case hend=>
   rintro j J ⟨l,a,rfl,sm,hl⟩;obtain⟨y0,y1,y2,y3⟩:=Zkh C Mp;refine⟨_,rfl,_,rfl,p,_,rfl,p2,pl,⟨y0,y1,y2,y3⟩,fun y a1 a2 a3=>?_⟩;refine⟨_,rfl,l,rfl,⟨_,.of hl⟩,?_⟩;refine Wn (YK (K:=K) (.of hl)) [some (.int (y:Nat)),some (.int (p:Nat))] rfl (fun c=>V.int (Vc t p m e (JX (JV S (gW t U i) M)) c)) (by rw[Yj];omega) (fun c z hz H2 s2 R k2=>?_) (fun D H2 nD s2 hD=>?_)
   ·have hc:c<m:=by
     have:=(ae.mp hz).1;rw[Yj] at this;exact this
    rw[JJ _ hc] at hz;cases hz;refine⟨_,rfl,_,rfl,_,_,rfl,rfl,.inr ⟨by omega,by omega⟩,_,rfl,_,_,rfl,rfl,(by show (0:Int)<(p:Int);omega),?_⟩;have o0:=k2 H2 (Same.refl _);rw[<-Zmo C n4 a3 c] at o0;exact o0
   ·rw[Yj] at hD
    exact q D M H2 (sm.free nD) (sm.trans s2) Y n4 hD
  case turn=>
   rintro O x j J ⟨k,l,a,rfl,sm,hl,ha,kM,rfl⟩;have o5:=ha;rw[W3] at o5;refine⟨_,rfl,a,_,rfl,.of o5,_,rfl,?_⟩;refine Y0 (fun h2=>?_) (fun h2=>?_)
   ·have:k+1<=M:=(any (k+1)).mp ((Vz _ _).mp h2)
    have ek:(k:Int)+1=((k+1:Nat):Int):=by omega
    obtain⟨f0,f1⟩:=Zlm p2 k;refine⟨_,fun _ _ z=>z,_,rfl,_,rfl,_,_,rfl,rfl,_,rfl,_,rfl,_,_,rfl,rfl,.inl ⟨by omega,by omega⟩,_,rfl,_,_,rfl,rfl,(by show (0:Int)<(p:Int);omega),_,rfl,_,rfl,_,rfl,_,rfl,ca,a,m,k+1,p,Vx t i,_,by rw[<-ek];rfl,hC.mono sm,ha,p2,pl,n6,by omega,ZkH C _,fun L2 H2 p4 s2 o6=>?_⟩;rw[ZeR C Pt hi] at o6;exact⟨M-(k+1),by omega,k+1,a,L2,by rw[<-ek];rfl,sm.trans s2,s2 _ _ ha,o6,this,rfl⟩
   ·have:¬k+1<=M:=fun z=>h2 ((Vz _ _).mpr ((any (k+1)).mpr z))
    have e2:k=M:=by omega
    subst e2;exact O _ _ ⟨l,a,rfl,sm,hl⟩
end
noncomputable def Ww (H:Hp)(a:Addr)(t:List (List Nat))(p m:Nat)(e:Nat->Nat->Nat)(cs:List Addr)(q:List (Nat->Bool)):Prop:=H a=some (.lst (cs.map V.ref))/\cs.length=q.length/\∀(j:Nat) b,cs[j]?=some b->∃S,q[j]?=some S/\H b=some (.lst (ZL m (Vc t p m e (JX S))))
section
variable {t:List (List Nat)}{p m:Nat}{e ω φ:Nat->Nat->Nat}
theorem Ww.mono {H q:Hp}{a:Addr}{cs:List Addr}{J:List (Nat->Bool)}(h:Ww H a t p m e cs J)(s:Same H q):Ww q a t p m e cs J:=
 ⟨s _ _ h.1,h.2.1,fun j b hb=>by
  obtain⟨S,M,O⟩:=h.2.2 j b hb;exact⟨S,M,s _ _ O⟩⟩
theorem Ww.push {H:Hp}{a c:Addr}{cs:List Addr}{q:List (Nat->Bool)}{S:Nat->Bool}(h:Ww H a t p m e cs q)(U:H c=some (.lst (ZL m (Vc t p m e (JX S)))))(Y:∀(j:Nat) b,(cs++[c])[j]?=some b->b≠a):Ww (upd H a (.lst (cs.map V.ref++[.ref c]))) a t p m e (cs++[c]) (q++[S]):=by
 refine⟨by rw[Zt,aU];rfl,by rw[Zd,Zd,h.2.1];rfl,fun j b hb=>?_⟩;have J:=Y j b hb;by_cases M:j<cs.length
 ·rw[aw M] at hb
  obtain⟨S',h1,h2⟩:=h.2.2 j b hb;exact⟨S',by rw[aw (by rw[<-h.2.1];exact M)];exact h1,by rw[Zx J];exact h2⟩
 ·have hl:=(ae.mp hb).1
  rw[Zd,Zk] at hl;have O:j=cs.length:=by omega
  rw[ax (by omega),O,de] at hb;cases hb;refine⟨S,?_,by rw[Zx J];exact U⟩;rw[O,h.2.1,ax (Zq _),de];rfl
end
theorem Za1 {H:Hp}{a b:Addr}{xs:List V}{ys:List V}(j:H a=some (.lst xs))(q:H b=some (.lst ys))(h:xs≠ys):a≠b:=fun z=>by
 rw[z,q] at j;injection j with j;injection j with j;exact h j.symm
theorem V8 {cs:List Addr}{m:Nat}{v:Nat->Int}(q:1<=m):cs.map V.ref≠ZL m v:=fun z=>by
 have h:=congrArg (fun l=>l[0]?) z;simp only[JJ v (show 0<m by omega),Zc] at h;cases j:cs[0]? with
 |none=>rw[j] at h;cases h
 |some c=>rw[j] at h;cases h
noncomputable def Zed:Sp:=fun U H Q _=>∃(q J:Addr) (t:List (List Nat)) (p m:Nat) (e M Y:Nat->Nat->Nat) (S:Nat->Bool) (i:Nat),U=[.ref q,.ref J,.int p]/\CD t p m e M Y/\PW t/\i<m/\p<=100000/\LLs H q m (Vx t i)/\H J=some (.lst (ZL m (Vc t p m e (JX S))))/\
 ∀L cs O j,H L=none->Same H j->PtS m S (gW t M i) O->Ww j L t p m e cs O->Q (.ref L) j
theorem ZiU {m:Nat}{S:Nat->Bool}{g:Nat->Nat}{j:List (Nat->Bool)}{R:Nat->Bool}(W:PtW m S g j R):j.length<=m:=by
 have:=L2.Yq (j.map (pkS m)) (ac m) (U6 W.ne W.dj) (fun x q=>by
  obtain⟨T,J,rfl⟩:=aN.mp q;exact af.mpr (JZ (W.ne T J)).1)
 rwa [Za,Zg] at this
section
variable {P:Program}{w:World}{K:ab}{mg:Str->Option Value}{base:Heap}
theorem Zhy {f:Addr}{fd:FuncData}(F:Y5 K "parts_by" "parts_by" ZgX f fd)(T:Bl mg)(T5:BlT mg)(GL:Fn P w K mg base ZT 2 "last_part" ["columns", "one", "p"] ZgF):ZR P w K mg base ZT 3 f fd ["columns", "one", "p"] Zed:=by
 refine F.ok (FS (N:=["columns", "one", "p", "parts", "rest", "part"])) (fun vs H Q E h=>?_) (fun t0 A p4 s H vs Q E hr h=>?_)
 ·obtain⟨ca,oa,t,p,m,e,Y,φ,S,i,rfl,_⟩:=h;rfl
 ·obtain⟨ca,oa,t,p,m,e,Y,φ,S,i,rfl,C,Pt,hi,pl,hC,hO,q⟩:=h
  refine⟨_,Zu (ZH 3 rfl (ZS Zs))
   (Zu (ZH 4 rfl (vn 1))
   (Zu (Yk aq (XY (cb (ZoX K rfl) T.any (pc (vn 4) Zs)))
    (Zu (ZH 5 rfl (YC GL hr ZF (pc (vn 0) (pc (vn 4) (pc (vn 2) Zs)))))
    (Zu (Yv (Wm aM aR aT Z2 (vn 3) (pc (vn 5) Zs)))
    (Zv (Zfp 4 ["x", "y"] [2] ["x", "y", "p"] rfl rfl (Zfi K T5.zip (pc (vn 4) (pc (vn 5) Zs))) (fun _ _ _ _ _=>g2 K 0 1 rfl (gn 0) (gn 1)) (fun _ _ _ _ _=>ZN) (fun _ _ _ _ _=>Zz Z5 (Zz YU (vn 0) (vn 1)) (vn 2)))))))
   (Zv (ZD (vn 3))))),?_⟩
  have p2:=C.pr.p2;have t5:=ZiE C Pt;have m1:=C.m1;have sz:(16777216:Nat)=sizeLine:=by decide
  have p6:=Zlk C Pt hi;refine⟨(by show 0<=sizeLine;decide),fun L nL=>?_⟩;have s0:=Same.upd (H:=H) (o:=.lst []) nL;have h0:upd H L (.lst []) L=some (.lst ([]:List V)):=Zt;generalize upd H L (.lst [])=H0 at s0 h0 ⊢;refine⟨_,rfl,?_⟩;refine Yb (fun x U H'=>∃(cs:List Addr) (Ss:List (Nat->Bool)) (R:Nat->Bool) (r:Addr) (v5:Option V),U=[some (.ref ca),some (.ref oa),some (.int (p:Nat)),some (.ref L),some (.ref r),v5]/\Same H H'/\Ww H' L t p m e cs Ss/\PtW m S (gW t Y i) Ss R/\H' r=some (.lst (ZL m (Vc t p m e (JX R))))/\∀s,s<m->R s=true->gW t Y i s<x)
   (fun U H'=>∃(cs:List Addr) (Ss:List (Nat->Bool)) (r:Addr) (v5:Option V),U=[some (.ref ca),some (.ref oa),some (.int (p:Nat)),some (.ref L),some (.ref r),v5]/\Same H H'/\Ww H' L t p m e cs Ss/\PtS m S (gW t Y i) Ss) ?hend
   ⟨p,[],[],S,oa,none,rfl,s0,⟨h0,rfl,fun j b hb=>by simp at hb⟩,.zero,s0 _ _ hO,fun s hs _=>p6 s hs⟩ ?turn
  case hend=>
   rintro U H' ⟨cs,Ss,r,v5,rfl,sm,hP,hS⟩;exact⟨_,rfl,q L cs Ss H' nL sm hS hP⟩
  case turn=>
   rintro n8 x U H' ⟨cs,Ss,R,r,v5,rfl,sm,hP,hW,hR,hx⟩;have n9:=hR;rw[W3] at n9;refine⟨_,rfl,r,_,rfl,.of n9,_,rfl,?_⟩;refine Y0 (fun h2=>?_) (fun h2=>?_)
   ·have p7:=(Zfd C Pt R).mp ((Vz _ _).mp h2)
    refine⟨_,fun _ _ z=>z,_,rfl,_,rfl,_,rfl,ca,r,t,p,m,e,Y,φ,R,i,rfl,C,Pt,hi,pl,hC.mono sm,hR,p7,fun L2 M H2 t6 s2 g1 o0 n4=>?_⟩;have O:=hP.mono s2;have o5:=s2 _ _ hR;have sl:=ZiU hW;have n6:∀{b:Addr}{v:Nat->Int},H2 b=some (.lst (ZL m v))->b≠L:=fun {b v} hb=>Za1 hb O.1 (V8 m1).symm;have o6:=O.push n4 (fun j b hb=>by
     rcases bH.mp (av hb) with z|z
     ·obtain⟨j',p8⟩:=b9 z
      obtain⟨S',_,r6⟩:=O.2.2 j' b p8;exact n6 r6
     ·rw[aQ.mp z]
      exact n6 n4)
    refine⟨_,rfl,.inl ⟨rfl,_,.of O.1⟩,_,rfl,L,_,_,rfl,rfl,O.1,by rw[Za,O.2.1];omega,?_⟩;have o7:Same H (upd H2 L (.lst (cs.map V.ref++[.ref L2]))):=(sm.trans s2).updr nL;have o8:upd H2 L (.lst (cs.map V.ref++[.ref L2])) r=some (.lst (ZL m (Vc t p m e (JX R)))):=by rw[Zx (n6 o5)];exact o5
    have o9:upd H2 L (.lst (cs.map V.ref++[.ref L2])) L2=some (.lst (ZL m (Vc t p m e (JX (JV R (gW t Y i) M))))):=by rw[Zx (n6 n4)];exact n4
    generalize upd H2 L (.lst (cs.map V.ref++[.ref L2]))=H3 at o6 o7 o8 o9 ⊢;refine⟨_,rfl,_,rfl,r,L2,false,false,_,_,H3,rfl,.lst (.of o8),.lst (.of o9),Same.refl _,fun J At S' r8=>?_⟩;refine X8 S' r8 (Same.refl _) [some (.int (p:Nat))] rfl (fun a b=>(a-b) % (p:Int)) (by omega) (fun j H4 hj s4 R' g=>?_) (fun D H4 nD s4 hD=>?_)
    ·exact⟨_,rfl,_,rfl,_,_,rfl,rfl,_,rfl,_,_,rfl,rfl,(by show (0:Int)<(p:Int);omega),g⟩
    ·have e5:(ZL m fun j=>(Vc t p m e (JX R) j-Vc t p m e (JX (JV R (gW t Y i) M)) j) % (p:Int))=ZL m (Vc t p m e (JX (Za7 R (gW t Y i) M))):=Wb fun c _=>Zmq o0 c
     rw[e5] at hD;refine⟨M,?_,cs++[L2],Ss++[JV R (gW t Y i) M],Za7 R (gW t Y i) M,D,_,rfl,o7.trans s4,o6.mono s4,hW.step g1 o0,hD,fun s' p3 q'=>?_⟩
     ·obtain⟨s',p3,a,b⟩:=g1
      rw[<-b];exact hx s' p3 a
     ·unfold Za7 at q'
      rw[ag,decide_eq_true_eq] at q';exact q'.2
   ·have r9:¬ ∃s,s<m/\R s=true:=fun z=>h2 ((Vz _ _).mpr ((Zfd C Pt R).mpr z))
    exact n8 _ _ ⟨cs,Ss,r,v5,rfl,sm,hP,hW.end r9⟩
end
structure KS (kvs:List (Yz×V))(ks:List Nat):Prop where
 keys:kvs.map (·.1)=ks.map fun a:Nat=>(fY (a:Int):Yz)
 nd:ks.Nodup
theorem KS.nil:KS [] []:=⟨rfl,eE⟩
theorem KS.len {kvs:List (Yz×V)}{ks:List Nat}(h:KS kvs ks):kvs.length=ks.length:=by
 have:=congrArg c9 h.keys;rwa [Za,Za] at this
theorem KS.some {kvs:List (Yz×V)}{ks:List Nat}(h:KS kvs ks)(a:Nat):(W5 kvs (.inl (a:Int))).isSome=ks.contains a:=by
 rw[<-Ju];have e:(kvs.any fun q=>decide (q.1=(.inl (a:Int):Yz)))=(kvs.map (·.1)).any fun k=>decide (k=(.inl (a:Int):Yz)):=by rw[dJ];rfl
 rw[e,h.keys,dJ];by_cases hm:a∈ks
 ·rw[aA.mpr hm,a6]
  exact⟨a,hm,by simp⟩
 ·have j:ks.contains a=false:=by
   cases j:ks.contains a with
   |false=>rfl
   |true=>exact absurd (aA.mp j) hm
  rw[j,gB];intro b hb z;have z:=of_decide_eq_true z;injection z with z;have:b=a:=by omega
  exact hm (this▸hb)
theorem KS.put {kvs:List (Yz×V)}{ks:List Nat}(h:KS kvs ks)(a:Nat)(v:V):KS (WF kvs (.inl (a:Int)) v) (if ks.contains a then ks else ks++[a]):=by
 have q:=h.some a;by_cases j:ks.contains a=true
 ·rw[if_pos j]
  rw[j] at q;refine⟨?_,h.nd⟩;unfold WF;rw[if_pos (by rw[Ju];exact q),aK,<-h.keys];refine a8 fun J _=>?_;show (if J.1=_ then (J.1,v) else J).1=J.1
  split <;> rfl
 ·rw[if_neg j]
  have M:W5 kvs (.inl (a:Int))=none:=by
   cases O:W5 kvs (.inl (a:Int)) with
   |none=>rfl
   |some x=>rw[O] at q;exact absurd q.symm j
  rw[Zhg v M];refine⟨by rw[aU,aU,h.keys];rfl,?_⟩;rw[mV];refine⟨h.nd,by simp,fun b hb c U z=>j ?_⟩;rw[aQ.mp U] at z;exact aA.mpr (z▸hb)
theorem ZaU {ks:List Nat}{a b:Nat}:b∈(if ks.contains a then ks else ks++[a])↔b∈ks\/b=a:=by
 split
 ·rename_i h
  exact⟨.inl,fun z=>z.elim id fun e=>by rw[e];exact aA.mp h⟩
 ·rw[bH,aQ]
theorem ZaV (ks:List Nat)(a:Nat):(if ks.contains a then ks else ks++[a]).length<=ks.length+1:=by
 split
 ·omega
 ·rw[Zd,Zk];exact Zq _
theorem KS.merge {kvs:List (Yz×V)}{ks:List Nat}(h:KS kvs ks):∀{more:List (Yz×V)}{ms:List Nat},KS more ms->∃j,KS (We kvs more) j/\(∀a,a∈j↔a∈ks\/a∈ms)/\j.length<=ks.length+ms.length:=by
 intro more;induction more generalizing kvs ks with
 |nil=>
  intro ms q;have:ms=[]:=fo.mp (by have:=q.len;simpa using this.symm);subst this;exact⟨ks,h,fun a=>by simp,by simp⟩
 |cons p M U=>
  intro ms q;cases ms with
  |nil=>exact absurd q.len (by simp)
  |cons m ms=>
   have O:=q.keys;rw[aL,aL] at O;injection O with Y h2;have J:KS M ms:=⟨h2,(bG.mp q.nd).2⟩;have hp:=h.put m p.2;obtain⟨j,k1,k2,k3⟩:=U hp J;refine⟨j,?_,fun a=>?_,?_⟩
   ·show KS (We (WF kvs p.1 p.2) M) j
    rw[Y];exact k1
   ·rw[k2,ZaU,aF]
    exact⟨fun z=>z.elim (fun z=>z.elim .inl fun e=>.inr (.inl e)) fun z=>.inr (.inr z),fun z=>z.elim (fun z=>.inl (.inl z)) fun z=>z.elim (fun e=>.inl (.inr e)) .inr⟩
   ·have:=ZaV ks m
    rw[Zi];omega
noncomputable def WC:Sp:=fun q H Q _=>∃(g:Addr) (t:List (List Nat)),q=[.ref g]/\GT H g t/\PW t/\∀c j,Same H j->CT j c (ZC t t.length)->Q (.ref c) j
theorem _root_.Pm.TupsAt.updD {H:Hp}{L D:Addr}{bs:List Addr}{yss:List (List Nat)}{kvs:List (Yz×V)}{o:HO}(j:H D=some (.dK kvs))(R:TupsAt H L bs yss):TupsAt (upd H D o) L bs yss:=by
 refine⟨?_,R.2.1,fun i b hb=>?_⟩
 ·rw[Zx fun z=>by have:=R.1;rw[z,j] at this;cases this]
  exact R.1
 ·rw[Zx fun z=>by have:=R.2.2 i b hb;rw[z,j] at this;cases this]
  exact R.2.2 i b hb
theorem _root_.Pm.TupsAt.last {H:Hp}{L r:Addr}{bs:List Addr}{yss:List (List Nat)}{ys:List Nat}(R:TupsAt H L (bs++[r]) (yss++[ys])):H r=some (.tup (ys.map nV)):=by
 have j:=R.2.1;rw[Zd,Zd,Zk,Zk] at j;have:=R.2.2 bs.length r (by rw[ax (Zq _),de];rfl);rw[Zb,ax (by omega),show bs.length-yss.length=0 by omega] at this;exact this
theorem ZoJ {H:Hp}{L c:Addr}{bs:List Addr}{yss:List (List Nat)}(R:TupsAt H L bs yss)(j:H c=none):CT (upd H c (.tup (bs.map V.ref))) c yss:=⟨bs,Zt,R.2.1,fun i r q=>Same.upd j _ _ (R.2.2 i r q)⟩
section
variable {P:Program}{w:World}{K:ab}{mg:Str->Option Value}{base:Heap}
theorem Zdr {f:Addr}{fd:FuncData}(F:Y5 K "classes_of" "classes_of" V4 f fd)(T:Bl mg)(GN:Fn P w K mg base ZT 3 "turnings" ["group", "b"] VY):ZR P w K mg base ZT 4 f fd ["group"] WC:=by
 refine F.ok (FS (N:=["group", "found", "seen", "b", "a"])) (fun vs H Q E h=>?_) (fun o6 A o7 s H vs Q E hr h=>?_)
 ·obtain⟨g,t,rfl,_⟩:=h;rfl
 ·obtain⟨g,t,rfl,G,Pt,q⟩:=h
  have hu:(A.deeper (envOfC "classes_of" (Z3 V4) s.heap.objs.size f o6)).units+1<cLine:=by have:=hr.un;omega
  refine⟨_,Zu (ZH 1 rfl (ZS Zs))
   (Zu (ZH 2 rfl Uc)
   (Zu (ZQ aq rfl (XV T.range (pc (cb (YB K) T.len (pc (vn 0) Zs)) Zs)) (gn 3)
    (Zv (Y9 (Zhh (U8 hu (vn 3) (vn 2)))
     (Zu (Yv (Wm aM aR aT Z2 (vn 1) (pc (YC GN hr ZF (pc (vn 0) (pc (vn 3) Zs))) Zs)))
     (Zv (ZQ aq rfl (itT K (ZM (ixL K) (vn 1) (J0 WS Zw) (fun _ _=>rfl))) (gn 4) (Zv (Xt hu (vn 2) (vn 4) Ud (by rfl)))))) Yf)))
   (Zv (ZD (ct ZE T.tuple (pc (vn 1) Zs)))))),?_⟩
  have sz:(16777216:Nat)=sizeLine:=by decide
  have p6:=Pt.n60;refine⟨(by show 0<=sizeLine;decide),fun L nL=>fun D nD=>?_⟩;have s1:=Same.upd (H:=H) (o:=.lst []) nL;have s2:=s1.trans (Same.upd (o:=.dK []) nD);have o8:H D=none:=s1.free nD;obtain⟨gs,u1,u2,_⟩:=id (G.mono s2);have el:(gs.map V.ref).length=t.length:=by rw[Za,u2]
  refine⟨_,rfl,g,_,rfl,.inr (.of u1),_,rfl,by rw[el];omega,by rw[el];omega,?_⟩;rw[el,Zj];refine Wf (fun i M H'=>∃(w3 w4:Option V) (bs:List Addr) (J:List (Yz×V)) (ks:List Nat),M=[some (.ref g),some (.ref L),some (.ref D),w3,w4]/\Same H H'/\TupsAt H' L bs (ZC t i)/\H' D=some (.dK J)/\KS J ks/\(∀a,a∈ks↔YV (ZC t i) a=true)/\ks.length<=60*i)
   ⟨_,_,[],[],[],rfl,s2,⟨Same.upd nD _ _ Zt,rfl,fun i b hb=>by cases hb⟩,Zt,.nil,fun a=>⟨fun z=>(by cases z),fun z=>(by cases z)⟩,Zq _⟩ ?_ ?_
  ·rintro i M H3 hi ⟨w3,w4,bs,J,ks,rfl,s3,R,hD,hK,Y,kl⟩
   rw[show (0:Int)+(i:Int)=(i:Int) by omega];refine⟨_,rfl,_,rfl,D,_,rfl,Jt.k (k:=.inl (i:Int)) hD,_,rfl,?_⟩;have n9:(W5 J (.inl (i:Int))).isSome=YV (ZC t i) i:=by
    rw[hK.some];cases hc:YV (ZC t i) i with
    |true=>exact aA.mpr ((Y i).mpr hc)
    |false=>
     cases o9:ks.contains i with
     |false=>rfl
     |true=>rw[(Y i).mp (aA.mp o9)] at hc;cases hc
   rw[n9];refine Y0 (fun h=>?_) (fun h=>?_)
   ·have h:YV (ZC t i) i=false:=by simpa using h
    have eU:ZC t (i+1)=ZC t i++[Yt t i]:=by
     rw[ZC,if_neg (by unfold YV at h;rw[h];decide)]
    refine⟨_,rfl,.inl ⟨rfl,_,.of R.1⟩,_,rfl,_,rfl,g,t,i,rfl,G.mono s3,Pt,hi,fun r H4 s4 p3=>?_⟩;have R4:=R.mono s4;have bl:=R4.2.1;have ul:=YI (t:=t) i;refine⟨L,_,_,rfl,rfl,R4.1,by rw[Za];omega,?_⟩;have R5:=R4.push p3;have o0:upd H4 L (.lst (bs.map V.ref++[.ref r])) D=some (.dK J):=by
     rw[Zx fun z=>by have:=s4 _ _ hD;rw[z,R4.1] at this;cases this];exact s4 _ _ hD
    have s5:Same H (upd H4 L (.lst (bs.map V.ref++[.ref r]))):=(s3.trans s4).updr nL;refine⟨_,rfl,_,rfl,L,_,_,_,rfl,rfl,.of Zt,ZcT _ _,r,rfl,⟨_,.of R5.last⟩,?_⟩;generalize upd H4 L (.lst (bs.map V.ref++[.ref r]))=H5 at R5 o0 s5 ⊢;have cl:=Ze7 (t:=t) i;refine ZeY (K:=K) (a:=r) (xs:=(Yt t i).map nV) (fun j M H'=>∃(w4:Option V) (J:List (Yz×V)) (O:List Nat),M=[some (.ref g),some (.ref L),some (.ref D),some (.int (i:Nat)),w4]/\Same H H'/\TupsAt H' L (bs++[r]) (ZC t i++[Yt t i])/\H' D=some (.dK J)/\KS J O/\(∀a,a∈O↔a∈ks\/a∈(Yt t i).take j)/\O.length<=60*i+j)
     ⟨_,J,ks,rfl,s5,R5,o0,hK,fun a=>⟨.inl,fun z=>z.elim id fun z=>by rw[gb] at z;cases z⟩,kl⟩ (fun j M H' _ h=>by
      obtain⟨_,_,_,_,_,R',_⟩:=h;exact .of R'.last) ?_ ?_
    ·rintro j y M H6 hy ⟨p4,n8,O,rfl,s6,R6,n4,n6,U,o5⟩
     obtain⟨k,hk,rfl⟩:=Zdu hy;have hj:j<(Yt t i).length:=(ae.mp hk).1;refine⟨_,rfl,_,rfl,D,_,rfl,Vi.k (k:=.inl (k:Int)) n4 (by rw[n6.len];omega),?_⟩;refine⟨_,_,_,rfl,s6.updr o8,R6.updD n4,Zt,n6.put k (.bl true),fun a=>?_,?_⟩
     ·rw[ZaU,U,c8,hk,bH]
      show _↔a∈ks\/a∈(Yt t i).take j\/a∈[k];rw[aQ];exact⟨fun z=>z.elim (fun z=>z.elim .inl fun z=>.inr (.inl z)) fun z=>.inr (.inr z),fun z=>z.elim (fun z=>.inl (.inl z)) fun z=>z.elim (fun z=>.inl (.inr z)) .inr⟩
     ·have:=ZaV O k
      omega
    ·rintro M H6 ⟨p4,n8,O,rfl,s6,R6,n4,n6,U,o5⟩
     rw[Za] at U o5;refine⟨_,_,bs++[r],n8,O,rfl,s6,by rw[eU];exact R6,n4,n6,fun a=>?_,by omega⟩;rw[U,dz,Y a,eU];unfold YV;rw[jO,aZ,dU,lc,gI,aA]
   ·have h:YV (ZC t i) i=true:=by simpa using h
    have eU:ZC t (i+1)=ZC t i:=by
     rw[ZC,if_pos (by unfold YV at h;rw[h])]
    exact⟨_,_,bs,J,ks,rfl,s3,by rw[eU];exact R,hD,hK,fun a=>by rw[eU];exact Y a,by omega⟩
  ·rintro M H3 ⟨w3,w4,bs,J,ks,rfl,s3,R,hD,hK,Y,kl⟩
   exact⟨_,rfl,L,_,rfl,.inl ⟨.of R.1,fun c nc=>q c _ (s3.trans (Same.upd nc)) (ZoJ R nc)⟩⟩
end
noncomputable abbrev ZkY:Stmt:=top 1
noncomputable abbrev ZbT:Stmt:=top 11
noncomputable def US (j:List (List Nat)):Nat->Nat->Nat
 |0,_=>0
 |k+1,a=>if (j.getD k []).contains a then k else US j k a
noncomputable def ZgG:Sp:=fun J H Q _=>∃(c:Addr) (j:List (List Nat)) (n:Nat),J=[.ref c,.int n]/\CT H c j/\(∀row∈j,∀a∈row,a<n)/\n<=60/\j.length<=60/\∀r q,Same H q->q r=some (.tup ((Ya n (US j j.length)).map nV))->Q (.ref r) q
noncomputable def ZaB:Sp:=fun q H Q _=>∃(g:Addr) (t:List (List Nat)),q=[.ref g]/\GT H g t/\PW t/\∀r j,Same H j->j r=some (.tup ((Ya t.length (US (ZC t t.length) (ZC t t.length).length)).map nV))->Q (.ref r) j
noncomputable def Zd7:Sp:=fun q H Q _=>∃(g:Addr) (t:List (List Nat)),q=[.ref g]/\GT H g t/\PW t/\∀r j,Same H j->j r=some (.tup (((ZC t t.length).map c9).map nV))->Q (.ref r) j
noncomputable def Zcu (H:Hp):V->V
 | .ref r=>match H r with
  |some (.tup j)=>.int (j.length:Nat)
  |_=>.non
 |_=>.non
section
variable {P:Program}{w:World}{K:ab}{mg:Str->Option Value}{base:Heap}
theorem ZjL {f:Addr}{fd:FuncData}(F:Y5 K "holders" "holders" ZkY f fd)(T:Bl mg)(T2:Zbw mg):ZR P w K mg base ZT 1 f fd ["bundles", "count"] ZgG:=by
 refine F.ok (FS (N:=["bundles", "count", "numbers", "k", "members", "a"])) (fun vs H Q E h=>?_) (fun o9 A o0 s H vs Q E hr h=>?_)
 ·obtain⟨c,J,n,rfl,_⟩:=h;rfl
 ·obtain⟨c,J,n,rfl,C,o5,n60,p3,q⟩:=h
  refine⟨_,Zu (ZH 2 rfl (Zz Jg (ZS (pc Zw Zs)) (vn 1)))
   (Zu (ZQ aq rfl (Vo K T2.enumerate (pc (vn 0) Zs)) (g2 K 3 4 rfl (gn 3) (gn 4))
    (Zv (ZQ aq rfl (itT K (vn 4)) (gn 5) (Zv (ZaW (vn 3) (ZaX (vn 2) (vn 5) YY))))))
   (Zv (ZD (ct ZE T.tuple (pc (vn 2) Zs))))),?_⟩
  have sz:(16777216:Nat)=sizeLine:=by decide
  obtain⟨rs,c1,c2,c3⟩:=C.row;refine⟨(by show 1<=sizeLine;decide),fun l0 o6=>⟨_,rfl,l0,_,_,rfl,rfl,Zt,by omega,by omega,by show 1*((n:Int)).toNat<=sizeLine;omega,fun L nL=>?_⟩⟩;rw[Zj];have s1:=Same.upd (H:=H) (o:=.lst [.int 0]) o6;have o7:H L=none:=s1.free nL;have e0:(ak n [V.int 0]).flatten=(Ya n (US J 0)).map nV:=by
   unfold Ya;rw[aK];have:∀m k,(ak m [V.int 0]).flatten=(dI k m).map fun _=>nV 0:=fun m=>by
    induction m with
    |zero=>intro k;rfl
    |succ m ih=>intro k;rw[aW,bC,ih (k+1),eO,aL];rfl
   rw[this n 0,<-eC];rfl
  rw[e0];have s2:=s1.trans (Same.upd (o:=.lst ((Ya n (US J 0)).map nV)) nL);refine⟨_,rfl,c,rfl,.inr ⟨⟨_,.of (s2 _ _ c1)⟩,?_⟩⟩;refine Y1 (Uo (K:=K) (xs:=rs.map V.ref)) (fun i M H'=>∃v3 v4 v5:Option V,M=[some (.ref c),some (.int (n:Nat)),some (.ref L),v3,v4,v5]/\Same H H'/\H' L=some (.lst ((Ya n (US J i)).map nV)))
   ⟨_,_,_,rfl,s2,Zt⟩ (fun i M H' h=>by
    obtain⟨_,_,_,_,sm,_⟩:=h;exact sm.tup (.of c1)) ?_ ?_
  ·rintro i y M H3 T' hy ⟨v3,v4,v5,rfl,s3,O⟩ nT
   obtain⟨r,rfl,hi,U⟩:=c3 i y hy;have s4:=Same.upd (H:=H3) (o:=.tup [.int (i:Nat),.ref r]) nT;refine⟨T',_,rfl,.of Zt,rfl,_,_,rfl,_,_,rfl,rfl,?_⟩;generalize upd H3 T' (.tup [.int (i:Nat),.ref r])=H4 at s4 ⊢;have n6:=(s3.trans s4) _ _ U;have hm:J.getD i []∈J:=by
    rw[Zb,Zf hi];exact bg hi
   have n4:=o5 _ hm;generalize n8:J.getD i []=row at U n6 n4;refine⟨_,rfl,r,rfl,⟨_,.of n6⟩,?_⟩;refine ZeY (K:=K) (a:=r) (xs:=row.map nV) (fun j M H'=>∃v5:Option V,M=[some (.ref c),some (.int (n:Nat)),some (.ref L),some (.int (i:Nat)),some (.ref r),v5]/\Same H H'/\H' L=some (.lst ((Ya n fun a=>if (row.take j).contains a then i else US J i a).map nV)))
    ⟨_,rfl,s3.trans s4,by
     have e:(Ya n fun a=>if ((row.take 0).contains a)=true then i else US J i a)=Ya n (US J i):=Wd fun a _=>by rw[gb];rfl
     rw[e];exact s4 _ _ O⟩ (fun j M H' _ h=>by
     obtain⟨_,_,sm,_⟩:=h;exact .of (sm _ _ (by rw[<-n8] at U ⊢;exact U))) ?_ ?_
   ·rintro j y M H5 hy ⟨o8,rfl,s5,Y⟩
    obtain⟨k,hk,rfl⟩:=Zdu hy;have n9:k<n:=n4 k (av hk);refine⟨_,rfl,_,rfl,_,rfl,L,_,_,k,rfl,rfl,Y,XB (by rw[Za,Zb0];exact n9),?_⟩;refine⟨_,rfl,s5.updr o7,?_⟩;rw[Zt];have e:=ZbZ (k:=i) (fun a=>if ((row.take j).contains a)=true then i else US J i a) n9
    have e2:(Ya n fun b=>if b=k then i else if ((row.take j).contains b)=true then i else US J i b)=Ya n fun a=>if ((row.take (j+1)).contains a)=true then i else US J i a:=Wd fun a _=>by
     rw[c8,hk];by_cases h1:a=k
     ·subst h1
      rw[if_pos rfl,if_pos (aA.mpr (aS _ (by simp)))]
     ·rw[if_neg h1]
      by_cases h2:a∈row.take j
      ·rw[if_pos (aA.mpr h2),if_pos (aA.mpr (bY _ h2))]
      ·rw[if_neg (fun z=>h2 (aA.mp z)),if_neg (fun z=>?_)]
       rcases bH.mp (aA.mp z) with z|z
       ·exact h2 z
       ·exact h1 (by simpa using z)
    rw[e2] at e;exact congrArg (fun xs=>some (HO.lst xs)) e
   ·rintro M H5 ⟨o8,rfl,s5,Y⟩
    refine⟨_,_,_,rfl,s5,?_⟩;rw[Za] at Y;rw[Y];have e:(Ya n fun a=>if ((row.take row.length).contains a)=true then i else US J i a)=Ya n (US J (i+1)):=Wd fun a _=>by
     rw[dz,US,n8]
    rw[e]
  ·rintro M H3 ⟨v3,v4,v5,rfl,s3,O⟩
   rw[Za,c2] at O;exact⟨_,rfl,L,_,rfl,.inl ⟨.of O,fun r nr=>q r _ (s3.trans (Same.upd nr)) Zt⟩⟩
theorem Zkq {t:List (List Nat)}(j:PW t):∀row∈ZC t t.length,∀a∈row,a<t.length:=fun row q a J=>by
 obtain⟨b,_,rfl⟩:=Wl j t.length (Zq _) row q;exact UC J
theorem ZjH {f:Addr}{fd:FuncData}(F:Y5 K "class_numbers" "class_numbers" ZbT f fd)(T:Bl mg)(Y:Fn P w K mg base ZT 4 "classes_of" ["group"] WC)(GH:Fn P w K mg base ZT 1 "holders" ["bundles", "count"] ZgG):ZR P w K mg base ZT 5 f fd ["group"] ZaB:=by
 refine F.ok (FS (N:=["group"])) (fun vs H Q E h=>?_) (fun n4 A j s H vs Q E O h=>?_)
 ·obtain⟨g,t,rfl,_⟩:=h;rfl
 ·obtain⟨g,t,rfl,G,J,q⟩:=h
  refine⟨_,Zv (ZD (YC GH O ZF (pc (YC Y O ZF (pc (vn 0) Zs)) (pc (cb (YB K) T.len (pc (vn 0) Zs)) Zs)))),?_⟩;have n60:=J.n60;refine⟨_,rfl,g,t,rfl,G,J,fun c H' U C=>?_⟩;obtain⟨gs,u1,u2,_⟩:=id (G.mono U);have el:(gs.map V.ref).length=t.length:=by rw[Za,u2]
  refine⟨_,rfl,g,_,rfl,.inr (.of u1),?_⟩;rw[el];exact⟨c,_,t.length,rfl,C,Zkq J,n60,a5 (YI _) n60,fun r H2 s2 M=>q r H2 (U.trans s2) M⟩
theorem Zj2 {H:Hp}{rs:List Addr}{j:List (List Nat)}(O:rs.length=j.length)(h:∀(i:Nat) y,(rs.map V.ref)[i]?=some y->∃r,y=.ref r/\i<j.length/\H r=some (.tup ((j.getD i []).map nV))):(rs.map V.ref).map (Zcu H)=(j.map c9).map nV:=by
 refine aY fun i=>?_;rw[Zc];by_cases q:i<j.length
 ·obtain⟨r,J,_,M⟩:=h i _ (Zf (show i<(rs.map V.ref).length by rw[Za];omega))
  rw[Zf (show i<(rs.map V.ref).length by rw[Za];omega),J,Zc,Zc,Zf q];show some (Zcu H (.ref r))=some (nV j[i].length);unfold Zcu;dsimp only;rw[M];dsimp only;rw[Za,Zb,Zf q];rfl
 ·rw[ah (by rw[Za];omega),ah (by rw[Za,Za];omega)]
  rfl
end
end C39
namespace Tb
noncomputable def rdT (t:List (List Nat))(a:Nat):Nat:=(((ac t.length).find? fun r=>it t a (r+1) == 0).getD 0)+1
theorem XX {t:List (List Nat)}{a r:Nat}(R:Rd t a r):rdT t a=r:=by
 have q:=R.r1;have:(ac t.length).find? (fun r=>it t a (r+1) == 0)=some (r-1):=by
  rw[kC];refine⟨by rw[show r-1+1=r by omega,R.z];rfl,af.mpr (by have:=R.rn;omega),fun j J=>?_⟩;have:=R.nz (j+1) (by omega) (by omega);simpa using this
 unfold rdT;rw[this];show r-1+1=r;omega
noncomputable def pwk (t:List (List Nat))(a:Nat)(k:Int):Nat:=it t a (k % (rdT t a:Int)).toNat
section
variable {t:List (List Nat)}
theorem Zh1 (P:PW t){a s:Nat}(j:a<t.length)(q:s<t.length):∀k,it t (tb t a s) k=tb t (it t a k) s
 |0=>(JL P q).symm
 |k+1=>by
  rw[it,it,Zh1 P j q k,VT P q (Wa P j k) j]
theorem ZpB (P:PW t){x s:Nat}(J:x<t.length)(j:s<t.length):tb t x s=0↔x=0:=by
 have M:=P.n1;constructor
 ·intro h
  have q:=JM P J j;rw[h,P.oneR _ (Yr P j).1,Zav P j] at q;exact q.symm
 ·rintro rfl
  exact JL P j
theorem ZlO (P:PW t){a s:Nat}(q:a<t.length)(J:s<t.length):rdT t (tb t a s)=rdT t a:=by
 unfold rdT;have j:(fun r=>it t (tb t a s) (r+1) == 0)=fun r=>it t a (r+1) == 0:=funext fun r=>?_
 ·rw[j]
 have h:=Zh1 P q J (r+1);have M:=ZpB P (Wa P q (r+1)) J;rw[h];cases O:(it t a (r+1) == 0) with
 |true=>
  have:it t a (r+1)=0:=by simpa using O
  simpa using M.mpr this
 |false=>
  have:it t a (r+1)≠0:=by simpa using O
  have:tb t (it t a (r+1)) s≠0:=fun z=>this (M.mp z);simpa using this
theorem ZlS (P:PW t){a:Nat}(j:a<t.length)(k:Int):pwk t a k<t.length:=Wa P j _
end
end Tb
namespace C39
open PySem L2 PySem.Spec PyProof.Rows
open Tb Pm
theorem Zh8 {j:List (List Nat)}{a q:Nat}(M:(j.getD q []).contains a=true)(O:∀k,k<j.length->(j.getD k []).contains a=true->k=q):∀m,m<=j.length->q<m->US j m a=q
 |0,_,h=>by omega
 |m+1,hm,h=>by
  unfold US;split
  ·rename_i J
   exact O m (by omega) J
  ·rename_i J
   refine Zh8 M O m (by omega) ?_;by_cases e:q=m
   ·subst e;exact absurd M J
   ·omega
theorem ZiA {t:List (List Nat)}(U:PW t){a:Nat}(Y:a<t.length):∃j,j<(ZC t t.length).length/\((ZC t t.length).getD j []).contains a=true/\∀k,k<(ZC t t.length).length->((ZC t t.length).getD k []).contains a=true->k=j:=by
 have h:=XH U t.length (Zq _) a Y;unfold YV at h;obtain⟨c,hc,q⟩:=a6.mp h;obtain⟨j,J⟩:=b9 hc;have hl:=(ae.mp J).1;have e:(ZC t t.length).getD j []=c:=by rw[Zb,J];rfl
 refine⟨j,hl,by rw[e];exact q,fun k M O=>?_⟩;have e2:(ZC t t.length)[k]?=some ((ZC t t.length).getD k []):=by rw[Zb,Zf M];rfl
 exact UD U t.length (Zq _) k j _ c a e2 J (aA.mp O) (aA.mp q)
noncomputable abbrev Zer:Stmt:=top 14
noncomputable def WP (t:List (List Nat))(a:Nat):Nat:=US (ZC t t.length) (ZC t t.length).length a
theorem J4 {t:List (List Nat)}(M:PW t){a:Nat}(O:a<t.length):WP t a<(ZC t t.length).length/\a∈(ZC t t.length).getD (WP t a) []/\∀k,k<(ZC t t.length).length->a∈(ZC t t.length).getD k []->k=WP t a:=by
 obtain⟨U,j,q,J⟩:=ZiA M O;have e:WP t a=U:=Zh8 q J _ (Zq _) j;rw[e];exact⟨j,aA.mp q,fun k Y hm=>J k Y (aA.mpr hm)⟩
theorem ZaO {t:List (List Nat)}(J:PW t){k a:Nat}(U:k<(ZC t t.length).length)(M:a∈(ZC t t.length).getD k []):a<t.length/\WP t a=k/\∀x,x∈(ZC t t.length).getD k []↔x∈Yt t a:=by
 obtain⟨b,hb,e⟩:=Wl J t.length (Zq _) _ (ZaN U);rw[e] at M ⊢;have q:=UC M;refine⟨q,((J4 J q).2.2 k U (by rw[e];exact M)).symm,fun x=>⟨fun O=>?_,fun O=>?_⟩⟩
 ·have j:=UC O
  exact YH J q j (YH J q hb (Y4 J q) M) (YH J j hb (Y4 J j) O)
 ·have j:=UC O
  exact YH J hb j M (YH J j q (Y4 J j) O)
theorem Xp {t:List (List Nat)}(j:PW t){k:Nat}(J:k<(ZC t t.length).length):∃a r,(ZC t t.length).getD k []=a::r:=by
 obtain⟨b,hb,e⟩:=Wl j t.length (Zq _) _ (ZaN J);have q:=Y4 j hb;rw[e];cases h:Yt t b with
 |nil=>rw[h] at q;cases q
 |cons a r=>exact⟨a,r,rfl⟩
end C39
namespace C39
open PySem L2 PySem.Spec PyProof.Rows
open Tb
open Pm
theorem Zic {X:Cx}:Znb X (fun x y H Q=>∃(p:Addr) (xs:List V) (i:Nat) (v:V),x=.ref p/\y=.int i/\H p=some (.lst xs)/\xs[i]?=some v/\Q v H):=by
 intro J s σ H x y O iv Q I U Y h;obtain⟨p,xs,i,v,rfl,rfl,hp,M,q⟩:=h;cases (show O=aI p from U);obtain⟨t,rfl⟩:=Y;obtain⟨n4,r,pl,hz⟩:=I.list (.of hp);obtain⟨w,ew,j⟩:=r.get M;have hl:=r.length;have hn:=X4;have hi:i<xs.length:=(ae.mp M).1;exact wpAny_getItem_list pl.isList (gm _) (by omega) (by simpa using ew) ⟨v,H,I,j,q⟩
theorem YS {W:Type}(n8:W->Addr)(Pr:Nat->W->Hp->Prop)(U:W->Hp->Prop){J:It}{own:List Str}{n6:List Nat}{te:TE}{σ:L2.St}{H:Hp}{Q:VK}{xs:List V}(S:Wp J H xs)(cs:L2.St)(o5:Js own n6 σ=none::cs)(hn:xs.length<=1000)
  (mono:∀i w H q,Same H q->Pr i w H->Pr i w q) (o0:∀w H q,Same H q->U w q->U w H) (hu:∀i w H0 H1 D o ys o6,Pr i w H1->U w H0->H0 D=some (.lst o)->H1 D=some (.lst ys)->Pr i w (upd H1 D (.lst o6)))
  (hs:∀(i:Nat) y,xs[i]?=some y->∀q,Same H q->∀R:VK,(∀w Y,Same q Y->Pr i w Y->U w q->R (.ref (n8 w)) Y)->te (some y::cs) q R)
  (hd:∀D (M:List W) q,H D=none->Same H q->q D=some (.lst (M.map fun w=>V.ref (n8 w)))->M.length=xs.length->(∀(i:Nat) w,M[i]?=some w->Pr i w q/\U w H)->(∀(i j:Nat) w w',i<j->M[i]?=some w->M[j]?=some w'->∃Hm,Pr i w Hm/\U w' Hm)->Q (.ref D) q):WL own n6 (Yy 0) Wv te σ Q J H:=by
 refine Uv (xs:=xs) (fun D i ys q=>Same H q/\∃M:List W,ys=M.map (fun w=>V.ref (n8 w))/\M.length=i/\(∀(i:Nat) w,M[i]?=some w->Pr i w q/\U w H/\∃H0 o,H0 D=some (.lst o)/\U w H0)/\(∀(i j:Nat) w w',i<j->M[i]?=some w->M[j]?=some w'->∃Hm,Pr i w Hm/\U w' Hm)) cs o5 (by omega) ?_ ?_ ?_ ?_
 ·intro D i ys q hD O p
  have S':=S.mono p.1;exact⟨fun hi=>⟨S'.go i q (Same.refl _) hi,fun x H3 y=>S'.yld i q x H3 (Same.refl _) hi y⟩,fun e=>e▸S'.stop q (Same.refl _)⟩
 ·intro D hD
  exact⟨Same.upd hD,[],rfl,rfl,(fun i w hw=>by cases hw),(fun i j w w' _ h=>by cases h)⟩
 ·rintro D i y ys q hD O hy ⟨sm,M,rfl,wl,hw,hp⟩ R k
  refine hs i y hy q sm R fun w Y s5 p5 n5=>?_;have n9:=s5 _ _ O;have lst:∀(b:Nat) v,(M++[w])[b]?=some v->(b<M.length/\M[b]?=some v)\/(b=M.length/\v=w):=fun b v hb=>by
   by_cases n4:b<M.length
   ·rw[aw n4] at hb
    exact .inl ⟨n4,hb⟩
   ·rw[ax (by omega)] at hb
    have o7:b-M.length=0:=by
     apply am;intro z;rw[ah (by rw[Zk];omega)] at hb;cases hb
    rw[o7] at hb;cases hb;exact .inr ⟨by omega,rfl⟩
  refine k _ Y n9 ⟨(sm.trans s5).updr hD,M++[w],by rw[aU];rfl,by rw[Zd,wl];rfl,fun b v hv=>?_,fun a b v v' o8 ha hb=>?_⟩
  ·rcases lst b v hv with ⟨_,hv⟩|⟨hb,hv⟩
   ·obtain⟨h1,h2,H0,o,h3,h4⟩:=hw b v hv
    exact⟨hu b v H0 Y D o _ _ (mono b v _ _ s5 h1) h4 h3 n9,h2,H0,o,h3,h4⟩
   ·subst hv
    subst hb;rw[<-wl] at p5;exact⟨hu _ v q Y D _ _ _ p5 n5 O n9,o0 v _ _ sm n5,q,_,O,n5⟩
  ·rcases lst b v' hb with ⟨n4,hb⟩|⟨n4,hb⟩
   ·rw[aw (by omega)] at ha
    exact hp a b v v' o8 ha hb
   ·subst hb
    rw[aw (by omega)] at ha;exact⟨q,(hw a v ha).1,n5⟩
 ·rintro D ys Y hD O o9 ⟨sm,M,rfl,wl,hw,hp⟩
  exact hd D M Y hD sm O wl (fun i w h=>⟨(hw i w h).1,(hw i w h).2.1⟩) hp
structure N3 (Hb H:Hp)(L:Addr)(m:Nat)(A:Nat->Addr)(B:Nat->Nat->Addr)(f:Nat->Nat->Nat->Nat):Prop where
 sm:Same Hb H
 m1:1<=m
 top:H L=some (.lst ((ac m).map fun i=>V.ref (A i)))
 mid:∀i,i<m->H (A i)=some (.lst ((ac m).map fun j=>V.ref (B i j)))
 low:∀i j,i<m->j<m->H (B i j)=some (.lst ((Ya m (f i j)).map nV))
 inj:∀i j i' j',i<m->j<m->i'<m->j'<m->B i j=B i' j'->i=i'/\j=j'
 nw:∀i j,i<m->j<m->Hb (B i j)=none
section
variable {Hb H H':Hp}{L:Addr}{m:Nat}{A:Nat->Addr}{B:Nat->Nat->Addr}{f:Nat->Nat->Nat->Nat}
theorem N3.mono (N:N3 Hb H L m A B f)(s:Same H H'):N3 Hb H' L m A B f:=⟨N.sm.trans s,N.m1,s _ _ N.top,fun i q=>s _ _ (N.mid i q),fun i j q J=>s _ _ (N.low i j q J),N.inj,N.nw⟩
theorem Zey {m:Nat}(q:1<=m){a:Nat->Addr}{f:Nat->Nat}:(HO.lst ((ac m).map fun i=>V.ref (a i)))≠.lst ((Ya m f).map nV):=fun z=>by
 injection z with z;have:=congrArg (fun j:List V=>j[0]?) z;unfold Ya at this;rw[Zc,Zc,Zc,ao (show 0<m by omega)] at this;cases this
theorem N3.put (N:N3 Hb H L m A B f){i j k v:Nat}(Y:i<m)(hj:j<m)(hk:k<m):N3 Hb (upd H (B i j) (.lst (((Ya m (f i j)).map nV).set k (nV v)))) L m A B (fun q M O=>if q=i/\M=j/\O=k then v else f q M O):=by
 have nL:L≠B i j:=ZhN N.top (N.low i j Y hj) (Zey N.m1);have nA:∀q,q<m->A q≠B i j:=fun q J=>ZhN (N.mid q J) (N.low i j Y hj) (Zey N.m1);refine⟨N.sm.updr (N.nw i j Y hj),N.m1,by rw[Zx nL];exact N.top,fun q J=>by rw[Zx (nA q J)];exact N.mid q J,fun q M J U=>?_,N.inj,N.nw⟩;by_cases e:q=i/\M=j
 ·obtain⟨rfl,rfl⟩:=e
  rw[Zt,ZbZ _ hk];have:(Ya m fun b=>if b=k then v else f q M b)=Ya m fun O=>if q=q/\M=M/\O=k then v else f q M O:=Wd fun b _=>by
   by_cases h:b=k
   ·rw[if_pos h,if_pos ⟨rfl,rfl,h⟩]
   ·rw[if_neg h,if_neg (fun z=>h z.2.2)]
  rw[this]
 ·rw[Zx fun z=>e (N.inj q M i j J U Y hj z),N.low q M J U]
  have:(Ya m (f q M))=Ya m fun O=>if q=i/\M=j/\O=k then v else f q M O:=Wd fun b _=>by rw[if_neg (fun z=>e ⟨z.1,z.2.1⟩)]
  rw[<-this]
theorem N3.congr (N:N3 Hb H L m A B f){g:Nat->Nat->Nat->Nat}(h:∀i j k,i<m->j<m->k<m->f i j k=g i j k):N3 Hb H L m A B g:=⟨N.sm,N.m1,N.top,N.mid,fun i j q J=>by rw[N.low i j q J,Wd fun k M=>h i j k q J M],N.inj,N.nw⟩
end
noncomputable def ZkB (m:Nat)(b:Addr)(H:Hp):Prop:=H b=some (.lst ((Ya m fun _=>0).map nV))
structure Zne (m:Nat)(w:Addr×List Addr)(H:Hp):Prop where
 top:H w.1=some (.lst (w.2.map V.ref))
 len:w.2.length=m
 low:∀b∈w.2,ZkB m b H
 nd:∀(i j:Nat) b b',i<j->w.2[i]?=some b->w.2[j]?=some b'->b≠b'
noncomputable def NwM (w:Addr×List Addr)(H:Hp):Prop:=H w.1=none/\∀b∈w.2,H b=none
theorem Zf5 {m:Nat}{J:It}{own:List Str}{M:List Nat}{te:TE}{σ:L2.St}{H:Hp}{Q:VK}{xs:List V}(S:Wp J H xs)(U:L2.St)(Y:Js own M σ=none::U)(hn:xs.length<=1000)(hm:xs.length=m)
  (hs:∀(i:Nat) y,xs[i]?=some y->∀q,Same H q->∀R:VK,(∀b H5,Same q H5->ZkB m b H5->q b=none->R (.ref b) H5)->te (some y::U) q R)
  (hd:∀w q,Same H q->Zne m w q->NwM w H->Q (.ref w.1) q):WL own M (Yy 0) Wv te σ Q J H:=by
 refine YS (W:=Addr) id (fun _ b H=>ZkB m b H) (fun b H=>H b=none) S U Y hn (fun i w H q s h=>s _ _ h) (fun w H q s h=>s.free h) (fun i w H0 H1 D o ys n6 h h0 O _=>?_) (fun i y hy q s R k=>hs i y hy q s R k) (fun D ws q nD s hD wl hw hp=>?_)
 ·have:w≠D:=fun z=>by rw[z,O] at h0;cases h0
  show upd H1 D _ w=_;rw[Zx this];exact h
 ·refine hd (D,ws) q s ⟨hD,by rw[<-hm];exact wl,fun b hb=>?_,fun i j b b' n4 hi hj z=>?_⟩ ⟨nD,fun b hb=>?_⟩
  ·obtain⟨i,hi⟩:=b9 hb
   exact (hw i b hi).1
  ·obtain⟨Hm,O,h2⟩:=hp i j b b' n4 hi hj
   have O:Hm b=some _:=O;rw[z,h2] at O;cases O
  ·obtain⟨i,hi⟩:=b9 hb
   exact (hw i b hi).2
theorem Zf4 {m:Nat}{J:It}{own:List Str}{n8:List Nat}{te:TE}{σ:L2.St}{H:Hp}{Q:VK}{xs:List V}(S:Wp J H xs)(cs:L2.St)(o0:Js own n8 σ=none::cs)(hn:xs.length<=1000)(hm:xs.length=m)(m1:1<=m)
  (hs:∀(i:Nat) y,xs[i]?=some y->∀Y,Same H Y->∀R:VK,(∀w H5,Same Y H5->Zne m w H5->NwM w Y->R (.ref w.1) H5)->te (some y::cs) Y R)
  (hd:∀D A B Y,H D=none->N3 H Y D m A B (fun _ _ _=>0)->Q (.ref D) Y):WL own n8 (Yy 0) Wv te σ Q J H:=by
 refine YS (W:=Addr×List Addr) lW (fun _ w H=>Zne m w H) NwM S cs o0 hn (fun i w H Y s h=>⟨s _ _ h.top,h.len,fun b hb=>s _ _ (h.low b hb),h.nd⟩) (fun w H Y s h=>⟨s.free h.1,fun b hb=>s.free (h.2 b hb)⟩) (fun i w H0 H1 D o ys o6 h h0 h1 _=>?_) (fun i y hy Y s R k=>hs i y hy Y s R k) (fun D ws Y nD s hD wl hw hp=>?_)
 ·have n1:w.1≠D:=fun z=>by have:=h0.1;rw[z,h1] at this;cases this
  have n2:∀b∈w.2,b≠D:=fun b hb z=>by have:=h0.2 b hb;rw[z,h1] at this;cases this
  exact⟨by rw[Zx n1];exact h.top,h.len,fun b hb=>by show upd H1 D _ b=_;rw[Zx (n2 b hb)];exact h.low b hb,h.nd⟩
 ·rw[hm] at wl
  have wat:∀i,i<m->ws[i]?=some (ws.getD i (0,[])):=fun i q=>by rw[Zb,Zf (by omega)];rfl
  have O:∀i j,i<m->j<m->(ws.getD i (0,[])).2[j]?=some ((ws.getD i (0,[])).2.getD j 0):=fun i j q U=>by
   have:=(hw i _ (wat i q)).1.len;rw[Zb (l:=(ws.getD i (0,[])).2),Zf (by omega)];rfl
  refine hd D (fun i=>(ws.getD i (0,[])).1) (fun i j=>(ws.getD i (0,[])).2.getD j 0) Y nD ⟨s,m1,?_,fun i q=>?_,fun i j q U=>?_,fun i j i' j' q U n6 n4 z=>?_,fun i j q U=>?_⟩
  ·rw[hD]
   congr 2;refine aY fun i=>?_;rw[Zc,Zc];by_cases q:i<m
   ·rw[wat i q,ao q]
    rfl
   ·rw[ah (by omega),ah (by rw[Zg];omega)]
    rfl
  ·have M:=(hw i _ (wat i q)).1
   have ml:=M.len;rw[M.top];congr 2;refine aY fun j=>?_;rw[Zc,Zc];by_cases U:j<m
   ·rw[O i j q U,ao U]
    rfl
   ·rw[ah (by omega),ah (by rw[Zg];omega)]
    rfl
  ·exact (hw i _ (wat i q)).1.low _ (av (O i j q U))
  ·have n9:∀i j i' j',i<m->j<m->i'<m->j'<m->i<i'->(ws.getD i (0,[])).2.getD j 0≠(ws.getD i' (0,[])).2.getD j' 0:=fun i j i' j' q U n6 n4 o5 z=>by
    obtain⟨Hm,h1,h2⟩:=hp i i' _ _ o5 (wat i q) (wat i' n6);have a1:=h1.low _ (av (O i j q U));have a2:=h2.2 _ (av (O i' j' n6 n4));unfold ZkB at a1;rw[z,a2] at a1;cases a1
   have ei:i=i':=by
    rcases nk i i' with h|h|h
    ·exact absurd z (n9 i j i' j' q U n6 n4 h)
    ·exact h
    ·exact absurd z.symm (n9 i' j' i j n6 n4 q U h)
   subst ei;refine⟨rfl,?_⟩;have nd:=(hw i _ (wat i q)).1.nd;rcases nk j j' with h|h|h
   ·exact absurd z (nd j j' _ _ h (O i j q U) (O i j' q n4))
   ·exact h
   ·exact absurd z.symm (nd j' j _ _ h (O i j' q n4) (O i j q U))
  ·exact (hw i _ (wat i q)).2.2 _ (av (O i j q U))
noncomputable def C3 (H:Hp)(r:Addr)(m:Nat)(F:Nat->Nat->Nat->Nat):Prop:=∃cs:List Addr,H r=some (.tup (cs.map V.ref))/\cs.length=m/\∀(i:Nat) c,cs[i]?=some c->CT H c ((ac m).map fun j=>Ya m (F i j))
noncomputable def PrT (m:Nat)(F:Nat->Nat->Nat)(w:Addr×List Addr)(H:Hp):Prop:=H w.1=some (.tup (w.2.map V.ref))/\w.2.length=m/\∀(j:Nat) r,w.2[j]?=some r->H r=some (.tup ((Ya m (F j)).map nV))
theorem PrT.mono {m:Nat}{F:Nat->Nat->Nat}{w:Addr×List Addr}{H q:Hp}(h:PrT m F w H)(s:Same H q):PrT m F w q:=⟨s _ _ h.1,h.2.1,fun j r J=>s _ _ (h.2.2 j r J)⟩
theorem PrT.upd {m:Nat}{F:Nat->Nat->Nat}{w:Addr×List Addr}{H:Hp}{D:Addr}{ys:List V}{o:HO}(h:PrT m F w H)(q:H D=some (.lst ys)):PrT m F w (upd H D o):=
 ⟨by rw[Zx fun z=>by have:=h.1;rw[z,q] at this;cases this];exact h.1,h.2.1,fun j r J=>by rw[Zx fun z=>by have:=h.2.2 j r J;rw[z,q] at this;cases this];exact h.2.2 j r J⟩
theorem PrT.ct {m:Nat}{F:Nat->Nat->Nat}{w:Addr×List Addr}{H:Hp}(h:PrT m F w H):CT H w.1 ((ac m).map fun j=>Ya m (F j)):=by
 refine⟨w.2,h.1,by rw[Za,Zg];exact h.2.1,fun i r q=>?_⟩;have J:i<m:=by rw[<-h.2.1];exact (ae.mp q).1
 rw[h.2.2 i r q,Zb,Zc,ao J];rfl
theorem Zf3 {m:Nat}{F:Nat->Nat->Nat}{J:It}{own:List Str}{M:List Nat}{te:TE}{σ:L2.St}{H:Hp}{Q:VK}{xs:List V}(S:Wp J H xs)(Y:L2.St)(n4:Js own M σ=none::Y)(hn:xs.length<=1000)(hm:xs.length=m)
  (hs:∀(i:Nat) y,xs[i]?=some y->∀q,Same H q->∀R:VK,(∀b O,Same q O->O b=some (.tup ((Ya m (F i)).map nV))->R (.ref b) O)->te (some y::Y) q R)
  (hd:∀D (rs:List Addr) q,H D=none->Same H q->q D=some (.lst (rs.map V.ref))->(∀r U,U r=some (.tup (rs.map V.ref))->Same q U->PrT m F (r,rs) U)->Q (.ref D) q):WL own M (Yy 0) Wv te σ Q J H:=by
 refine YS (W:=Addr) id (fun i b H=>H b=some (.tup ((Ya m (F i)).map nV))) (fun _ _=>True) S Y n4 hn (fun i w H q s h=>s _ _ h) (fun w H q s h=>trivial) (fun i w H0 H1 D o ys n6 h h0 h1 h2=>?_) (fun i y hy q s R k=>hs i y hy q s R fun b O s5 h5=>k b O s5 h5 trivial) (fun D ws q nD s hD wl hw hp=>?_)
 ·rw[Zx fun z=>by rw[z,h2] at h;cases h]
  exact h
 ·exact hd D ws q nD s hD fun r U hr s2=>⟨hr,by rw[<-hm];exact wl,fun j b hb=>s2 _ _ (hw j b hb).1⟩
theorem Zkn {m:Nat}{F:Nat->Nat->Nat->Nat}{J:It}{own:List Str}{q:List Nat}{te:TE}{σ:L2.St}{H:Hp}{Q:VK}{xs:List V}(S:Wp J H xs)(Y:L2.St)(n4:Js own q σ=none::Y)(hn:xs.length<=1000)(hm:xs.length=m)
  (hs:∀(i:Nat) y,xs[i]?=some y->∀j,Same H j->∀R:VK,(∀w M,Same j M->PrT m (F i) w M->R (.ref w.1) M)->te (some y::Y) j R)
  (hd:∀D (ys:List V) j,H D=none->Same H j->j D=some (.lst ys)->(∀r U,U r=some (.tup ys)->Same j U->C3 U r m F)->Q (.ref D) j):WL own q (Yy 0) Wv te σ Q J H:=by
 refine YS (W:=Addr×List Addr) lW (fun i w H=>PrT m (F i) w H) (fun _ _=>True) S Y n4 hn (fun i w H j s h=>h.mono s) (fun w H j s h=>trivial) (fun i w H0 H1 D o ys n6 h h0 h1 h2=>h.upd h2) (fun i y hy j s R k=>hs i y hy j s R fun b M s5 h5=>k b M s5 h5 trivial) (fun D ws j nD s hD wl hw hp=>?_);refine hd D _ j nD s hD fun r U hr s2=>⟨ws.map lW,by rw[hr,aK];rfl,by rw[Za,<-hm];exact wl,fun i c O=>?_⟩;rw[Zc] at O;cases hx:ws[i]? with
 |none=>rw[hx] at O;cases O
 |some w=>
  rw[hx] at O;cases O;exact ((hw i w hx).1.mono s2).ct
noncomputable def one (q:Nat->Nat)(C:Nat->Nat->Nat->Bool)(i j k x y:Nat):Nat:=W2 (decide (q x=i))*(W2 (decide (q y=j))*W2 (C x y k))
noncomputable def ZG (n:Nat)(q:Nat->Nat)(C:Nat->Nat->Nat->Bool)(X Y i j k:Nat):Nat:=sm X (fun x=>sm n fun y=>one q C i j k x y)+sm Y fun y=>one q C i j k X y
theorem acc_zero (n:Nat)(q:Nat->Nat)(C:Nat->Nat->Nat->Bool)(i j k:Nat):ZG n q C 0 0 i j k=0:=rfl
theorem Zkv (n:Nat)(q:Nat->Nat)(C:Nat->Nat->Nat->Bool)(X i j k:Nat):ZG n q C X n i j k=ZG n q C (X+1) 0 i j k:=by
 unfold ZG;rw[YD];rfl
theorem acc_step (n:Nat)(q:Nat->Nat)(C:Nat->Nat->Nat->Bool)(X Y i j k:Nat):ZG n q C X (Y+1) i j k=ZG n q C X Y i j k+one q C i j k X Y:=by
 unfold ZG;rw[YD];omega
noncomputable def hdT (t:List (List Nat))(k:Nat):Nat:=((ZC t t.length).getD k []).getD 0 0
theorem Zbd {t:List (List Nat)}(j:PW t){k:Nat}(q:k<(ZC t t.length).length):hdT t k<t.length/\WP t (hdT t k)=k/\((ZC t t.length).getD k [])[0]?=some (hdT t k):=by
 obtain⟨a,r,e⟩:=Xp j q;have J:hdT t k=a:=by unfold hdT;rw[e];rfl
 have h:=ZaO j q (by rw[e];exact aE);rw[J,e];exact⟨h.1,h.2.1,rfl⟩
noncomputable def Cg (t:List (List Nat))(x y k:Nat):Bool:=decide (ZI t x y=hdT t k)
noncomputable def cnG (t:List (List Nat)):Nat->Nat->Nat->Nat:=ZG t.length (WP t) (Cg t) t.length 0
theorem Zhp (q:Nat->Nat)(C:Nat->Nat->Nat->Bool)(i j k x y:Nat):one q C i j k x y=if i=q x/\j=q y/\C x y k=true then 1 else 0:=by
 unfold one;by_cases J:q x=i
 ·rw[decide_eq_true J]
  by_cases M:q y=j
  ·rw[decide_eq_true M]
   cases O:C x y k with
   |true=>rw[if_pos ⟨J.symm,M.symm,rfl⟩];rfl
   |false=>rw[if_neg (fun z=>by cases z.2.2)];rfl
  ·rw[decide_eq_false M,if_neg (fun z=>M z.2.1.symm)]
   show 1*(0*_)=0;omega
 ·rw[decide_eq_false J,if_neg (fun z=>J z.1.symm)]
  show 0*_=0;omega
noncomputable def ZbO:Sp:=fun q H Q _=>∃(g:Addr) (t:List (List Nat)),q=[.ref g]/\GT H g t/\PW t/\∀r j,Same H j->C3 j r (ZC t t.length).length (cnG t)->Q (.ref r) j
section
variable {P:Program}{w:World}{K:ab}{mg:Str->Option Value}{base:Heap}
theorem ZfE {f:Addr}{fd:FuncData}(F:Y5 K "counts_of" "counts_of" Zer f fd)(T:Bl mg)(T2:Zbw mg)(GC:Fn P w K mg base ZT 4 "classes_of" ["group"] WC)(GN:Fn P w K mg base ZT 5 "class_numbers" ["group"] ZaB):ZR P w K mg base ZT 6 f fd ["group"] ZbO:=by
 refine F.ok (FS (N:=["group", "classes", "numbers", "counts", "x", "row", "y", "z", "k"])) (fun vs H Q E h=>?_) (fun t0 A o7 s H vs Q E hr h=>?_)
 ·obtain⟨g,t,rfl,_⟩:=h;rfl
 ·obtain⟨g,t,rfl,G,O,q⟩:=h
  refine⟨_,Zu (ZH 1 rfl (YC GC hr ZF (pc (vn 0) Zs)))
   (Zu (ZH 2 rfl (YC GN hr ZF (pc (vn 0) Zs)))
   (Zu (Zfp 3 ["i"] [1] ["i", "classes"] rfl rfl (itT K (vn 1)) (fun _ _ _ _ _=>gn 0) (fun _ _ _ _ _=>ZN)
    (fun _ _ _ _ _=>cmp ["j"] [1] ["j", "classes"] rfl (itT K (vn 1)) (fun _ _ _ _ _=>gn 0) (fun _ _ _ _ _=>ZN)
     (fun _ _ _ _ _=>Zz Jg (ZS (pc Zw Zs)) (cb (YB K) (by exact T.len) (pc (vn 1) Zs)))))
   (Zu (ZQ aq rfl (Vo K T2.enumerate (pc (vn 0) Zs)) (g2 K 4 5 rfl (gn 4) (gn 5))
    (Zv (ZQ aq rfl (Vo K T2.enumerate (pc (vn 5) Zs)) (g2 K 6 7 rfl (gn 6) (gn 7))
     (Zu (ZH 8 rfl (ZM (Jp K) (vn 2) (vn 7) (fun _ _=>rfl)))
     (Zv (Y9 (ZP Zca (ZM (Jp K) (ZM (Jp K) (vn 1) (vn 8) (fun _ _=>rfl)) Zw (fun _ _=>rfl)) (vn 7) (ZW _))
      (Zv (Xu (ZM (ixL K) (ZM (ixL K) (vn 3) (ZM (Jp K) (vn 2) (vn 4) (fun _ _=>rfl)) (fun _ _=>rfl)) (ZM (Jp K) (vn 2) (vn 6) (fun _ _=>rfl)) (fun _ _=>rfl)) (vn 8) Zic Zw WK YY)) Yf))))))
   (Zv (ZD (ct ZE T.tuple (pc (cmp ["seconds"] [] ["seconds"] rfl (itL K (vn 3)) (fun _ _ _ _ _=>gn 0) (fun _ _ _ _ _=>ZN)
    (fun _ _ _ _ _=>ct (tupK K) (by exact T.tuple) (pc (cmp ["ends"] [] ["ends"] rfl (itL K (vn 0)) (fun _ _ _ _ _=>gn 0) (fun _ _ _ _ _=>ZN)
     (fun _ _ _ _ _=>ct (tupK K) (by exact T.tuple) (pc (vn 0) Zs))) Zs))) Zs))))))),?_⟩
  have sz:(16777216:Nat)=sizeLine:=by decide
  have t5:=O.n60;have ul:=YI (t:=t) t.length;have m1:1<=(ZC t t.length).length:=by
   have:=(J4 O (show 0<t.length from O.n1)).1;omega
  refine⟨_,rfl,g,t,rfl,G,O,fun c H1 s1 C1=>?_⟩;refine⟨_,rfl,g,t,rfl,G.mono s1,O,fun r0 H2 s2 n4=>?_⟩;have C2:=C1.mono s2;obtain⟨rs,c1,c2,c3⟩:=C2.row;have cl:(rs.map V.ref).length=(ZC t t.length).length:=by rw[Za,c2]
  replace n4:H2 r0=some (.tup ((Ya t.length (WP t)).map nV)):=n4;generalize hm:(ZC t t.length).length=m at *;refine⟨_,rfl,c,rfl,⟨_,.of c1⟩,?_⟩;refine Zf4 (Yu (K:=K) (.of c1)) [some (.ref c)] rfl (by omega) cl m1 (fun i y hy H3 s3 R k=>?_) (fun L A B H3 nL N=>?_)
  ·have n6:=s3 _ _ c1
   refine⟨_,rfl,c,rfl,⟨_,.of n6⟩,?_⟩;refine Zf5 (Yu (K:=K) (.of n6)) [some (.ref c)] rfl (by omega) cl (fun j y' n9 H4 s4 R' k'=>?_) (fun w' H4 s4 M o8=>k w' H4 s4 M o8);refine⟨(by show 1<=sizeLine;decide),fun l0 o9=>?_⟩;have U:=Same.upd (H:=H4) (o:=.lst [.int 0]) o9;refine⟨_,rfl,c,_,rfl,.inr (.of (U _ _ (s4 _ _ n6))),l0,_,_,rfl,rfl,Zt,by rw[cl];omega,by rw[cl];omega,by rw[cl];show 1*((m:Int)).toNat<=sizeLine;omega,fun b nb=>?_⟩;rw[cl,Zj];have e0:(ak m [V.int 0]).flatten=(Ya m fun _=>0).map nV:=by
    unfold Ya;rw[aK];have:∀m k,(ak m [V.int 0]).flatten=(dI k m).map fun _=>nV 0:=fun m=>by
     induction m with
     |zero=>intro k;rfl
     |succ m ih=>intro k;rw[aW,bC,ih (k+1),eO,aL];rfl
    rw[this m 0,<-eC];rfl
   rw[e0];exact k' b _ (U.trans (Same.upd nb)) Zt (U.free nb)
  have G2:=G.mono (s1.trans s2);obtain⟨gs,u1,u2,u3⟩:=id G2;have el:(gs.map V.ref).length=t.length:=by rw[Za,u2]
  refine⟨_,rfl,g,rfl,.inr ⟨⟨_,.of (N.sm _ _ u1)⟩,?_⟩⟩;refine Y1 (Uo (K:=K) (xs:=gs.map V.ref)) (fun X J H'=>∃v4 v5 v6 v7 v8:Option V,J=[some (.ref g),some (.ref c),some (.ref r0),some (.ref L),v4,v5,v6,v7,v8]/\N3 H2 H' L m A B (ZG t.length (WP t) (Cg t) X 0))
   ⟨_,_,_,_,_,rfl,N.congr fun i j k _ _ _=>(acc_zero _ _ _ _ _ _).symm⟩ (fun i J H' h=>by
    obtain⟨_,_,_,_,_,_,N'⟩:=h;exact N'.sm.tup (.of u1)) ?_ ?_
  ·rintro X y J H4 T' hy ⟨v4,v5,v6,v7,v8,rfl,N4⟩ nT
   have hX:X<t.length:=by
    have:=(ae.mp hy).1;rw[el] at this;exact this
   have o0:gs[X]?=some (gs[X]'(by omega)):=Zf (by omega);rw[Zc,o0] at hy;cases hy;have row:=u3 X _ o0;generalize gs[X]'(by omega)=r at row;have U:=Same.upd (H:=H4) (o:=.tup [.int (X:Nat),.ref r]) nT;refine⟨T',_,rfl,.of Zt,rfl,_,_,rfl,_,_,rfl,rfl,?_⟩;have N5:=N4.mono U;generalize upd H4 T' (.tup [.int (X:Nat),.ref r])=H5 at U N5 ⊢;refine⟨_,rfl,r,rfl,.inr ⟨⟨_,(row.mono N5.sm).sq⟩,?_⟩⟩;refine Y1 (Uo (K:=K) (xs:=(t.getD X []).map nV)) (fun Y J H'=>∃v6 v7 v8:Option V,J=[some (.ref g),some (.ref c),some (.ref r0),some (.ref L),some (.int (X:Nat)),some (.ref r),v6,v7,v8]/\N3 H2 H' L m A B (ZG t.length (WP t) (Cg t) X Y))
    ⟨_,_,_,rfl,N5⟩ (fun i J H' h=>by
     obtain⟨_,_,_,_,N'⟩:=h;exact (row.mono N'.sm).sq) ?_ ?_
   ·rintro Y y J H6 o5 hy ⟨p3,p4,p6,rfl,N6⟩ p7
    have hY:Y<t.length:=by
     have:=(ae.mp hy).1;rw[Za,Xo O hX] at this;exact this
    rw[XU O hX hY] at hy;cases hy;have s7:=Same.upd (H:=H6) (o:=.tup [.int (Y:Nat),.int (ZI t X Y:Nat)]) p7;refine⟨o5,_,rfl,.of Zt,rfl,_,_,rfl,_,_,rfl,rfl,?_⟩;have N7:=N6.mono s7;generalize upd H6 o5 (.tup [.int (Y:Nat),.int (ZI t X Y:Nat)])=H7 at s7 N7 ⊢;have hz:ZI t X Y<t.length:=O.lt _ _ hX hY;obtain⟨kz,t6,p8⟩:=J4 O hz;rw[hm] at kz p8;have kX:=(J4 O hX).1;have kY:=(J4 O hY).1;rw[hm] at kX kY;have n8:=N7.sm _ _ n4;have r6:=N7.sm _ _ c1;obtain⟨h1,h2,h3⟩:=Zbd O (by rw[hm];exact kz);have o6:WP t (ZI t X Y)<(rs.map V.ref).length:=by omega
    obtain⟨rk,e1,_,e2⟩:=c3 _ _ (Zf o6);have r8:XO (rs.map V.ref) (WP t (ZI t X Y):Int)=some (.ref rk):=ZO (by rw[Zf o6,e1]);refine⟨_,rfl,_,rfl,r0,_,_,_,rfl,rfl,.of n8,VC hz,?_⟩;refine⟨_,rfl,_,rfl,c,_,_,_,rfl,rfl,.of r6,r8,rk,_,_,_,rfl,rfl,.of (N7.sm _ _ e2),ZO (j:=0) (by rw[Zc,h3];rfl),_,rfl,rfl,_,rfl,?_⟩;refine Y0 (fun h=>?_) (fun h=>?_)
    ·have he:hdT t (WP t (ZI t X Y))=ZI t X Y:=by
      have h:V.int (hdT t (WP t (ZI t X Y)):Nat)=V.int (ZI t X Y:Nat):=of_decide_eq_true h;injection h with h;omega
     refine⟨_,rfl,_,rfl,_,rfl,r0,_,_,_,rfl,rfl,.of n8,VC hX,L,_,_,_,rfl,rfl,.of N7.top,Zb4 kX,_,rfl,_,rfl,r0,_,_,_,rfl,rfl,.of n8,VC hY,A (WP t X),_,_,_,rfl,rfl,.of (N7.mid _ kX),Zb4 kY,_,rfl,B (WP t X) (WP t Y),_,WP t (ZI t X Y),_,rfl,rfl,N7.low _ _ kX kY,ZhP kz,_,_,rfl,rfl,B (WP t X) (WP t Y),_,_,WP t (ZI t X Y),rfl,rfl,N7.low _ _ kX kY,XB (by rw[Za,Zb0];exact kz),?_⟩;refine⟨_,_,_,rfl,(N7.put (v:=ZG t.length (WP t) (Cg t) X Y (WP t X) (WP t Y) (WP t (ZI t X Y))+1) kX kY kz).congr fun i j k hi hj hk=>?_⟩;rw[acc_step,Zhp];by_cases e:i=WP t X/\j=WP t Y/\k=WP t (ZI t X Y)
     ·obtain⟨rfl,rfl,rfl⟩:=e
      rw[if_pos ⟨rfl,rfl,rfl⟩,if_pos ⟨rfl,rfl,decide_eq_true he.symm⟩]
     ·rw[if_neg e,if_neg,ik]
      rintro⟨z1,z2,z3⟩;have z3:ZI t X Y=hdT t k:=of_decide_eq_true z3;refine e ⟨z1,z2,?_⟩;rw[z3];exact (Zbd O (by rw[hm];exact hk)).2.1.symm
    ·have he:hdT t (WP t (ZI t X Y))≠ZI t X Y:=fun z=>h (by rw[z];exact decide_eq_true rfl)
     refine⟨_,_,_,rfl,N7.congr fun i j k hi hj hk=>?_⟩;rw[acc_step,Zhp,if_neg,ik];rintro⟨z1,z2,z3⟩;have z3:ZI t X Y=hdT t k:=of_decide_eq_true z3;have:=(Zbd O (by rw[hm];exact hk)).2.1;rw[<-z3] at this;rw[this] at he;exact he z3.symm
   ·rintro J H6 ⟨p3,p4,p6,rfl,N6⟩
    rw[Za,Xo O hX] at N6;exact⟨_,_,_,_,_,rfl,N6.congr fun i j k _ _ _=>Zkv _ _ _ _ _ _ _⟩
  ·rintro J H4 ⟨v4,v5,v6,v7,v8,rfl,N4⟩
   rw[el] at N4;have tl:((ac m).map fun i=>V.ref (A i)).length=m:=by rw[Za,Zg]
   refine⟨_,rfl,L,rfl,⟨_,.of N4.top⟩,?_⟩;refine Zkn (m:=m) (F:=cnG t) (YK (K:=K) (.of N4.top)) [] rfl (by rw[tl];omega) tl (fun i y hy H5 U R k=>?_) (fun D ys H5 nD U hD k=>?_)
   ·obtain⟨hi,rfl⟩:=Zb3 hy
    have ml:((ac m).map fun j=>V.ref (B i j)).length=m:=by rw[Za,Zg]
    have hA:=U _ _ (N4.mid i hi);refine⟨_,rfl,A i,rfl,⟨_,.of hA⟩,?_⟩;refine Zf3 (m:=m) (F:=cnG t i) (YK (K:=K) (.of hA)) [] rfl (by rw[ml];omega) ml (fun j y' n9 H6 s6 R' k'=>?_) (fun D r9 H6 nD s6 hD k'=>?_)
    ·obtain⟨hj,rfl⟩:=Zb3 n9
     refine⟨_,rfl,B i j,_,rfl,.inl ⟨.of ((U.trans s6) _ _ (N4.low i j hi hj)),fun b nb=>?_⟩⟩;exact k' b _ (Same.upd nb) Zt
    ·refine⟨D,_,rfl,.inl ⟨.of hD,fun r nr=>?_⟩⟩
     exact k (r,r9) _ (s6.trans (Same.upd nr)) (k' r _ Zt (Same.upd nr))
   ·refine⟨D,_,rfl,.inl ⟨.of hD,fun r nr=>?_⟩⟩
    exact q r _ ((((s1.trans s2).trans N4.sm).trans U).trans (Same.upd nr)) (k r _ Zt (Same.upd nr))
end
end C39
namespace C39
open PySem L2 PySem.Spec PyProof.Rows
open Tb Pm
noncomputable abbrev Zg4:Stmt:=top 39
section
variable {t:List (List Nat)}{p m:Nat}{e ω φ:Nat->Nat->Nat}
theorem JP (P:PW t){x:Nat}(j:x<t.length):WP t x=Yh t x:=by
 obtain⟨q,J,M⟩:=J4 P j;exact (Zbo P j q J).symm
theorem ZmT (P:PW t){i j k:Nat}(M:k<(ZC t t.length).length):cnG t i j k=cnA t (Yh t) i j (ZB t k):=by
 have q:ZB t k<t.length:=(Yp P).rl k M;have O:cnG t i j k=cnA t (WP t) i j (ZB t k):=by
  rw[<-Zf7 P q];show ZG t.length (WP t) (Cg t) t.length 0 i j k=_;unfold ZG one Cg;rfl
 rw[O];unfold cnA;refine Yc fun x J=>?_;rw[JP P J,JP P (P.lt _ _ (Yr P J).1 q)]
theorem Ww.ext {H:Hp}{a b:Addr}{cs ds:List Addr}{U Y:List (Nat->Bool)}(m1:1<=m)(h:Ww H a t p m e cs U)(g:Ww H b t p m e ds Y):Ww (upd H a (.lst (cs.map V.ref++ds.map V.ref))) a t p m e (cs++ds) (U++Y):=by
 have ne:∀{x:Addr}{v:Nat->Int},H x=some (.lst (ZL m v))->x≠a:=fun {x v} q=>Za1 q h.1 (V8 m1).symm;refine⟨by rw[Zt,aU],by rw[Zd,Zd,h.2.1,g.2.1],fun j x q=>?_⟩;by_cases hj:j<cs.length
 ·rw[aw hj] at q
  obtain⟨M,O,J⟩:=h.2.2 j x q;exact⟨M,by rw[aw (by rw[<-h.2.1];exact hj)];exact O,by rw[Zx (ne J)];exact J⟩
 ·rw[ax (by omega)] at q
  obtain⟨M,O,J⟩:=g.2.2 _ x q;exact⟨M,by rw[ax (by rw[<-h.2.1];omega),<-h.2.1];exact O,by rw[Zx (ne J)];exact J⟩
end
theorem ZdX {t:List (List Nat)}{p m:Nat}{e j q:Nat->Nat->Nat}(C:CD t p m e j q)(J:PW t):[V.int 1]++(ak (m-1) [V.int 0]).flatten=ZL m (Vc t p m e (JX fun _=>true)):=by
 have Y:=C.m1;have M:ZL m (Vc t p m e (JX fun _=>true))=ZL m (fun c=>if c=0 then 1 else 0):=Wb fun c O=>Zm6 C J O
 rw[M];obtain⟨k,rfl⟩:∃k,m=k+1:=⟨m-1,by omega⟩;unfold ZL;rw[kS,aL,aK,dP];have:∀k a,(ak k [V.int 0]).flatten=(dI a k).map fun _=>V.int 0:=fun k=>by
  induction k with
  |zero=>intro a;rfl
  |succ k U=>intro a;rw[aW,bC,U (a+1),eO,aL];rfl
 rw[this k 0,<-eC];rfl
structure Zqh (H:Hp)(L:Addr)(t:List (List Nat))(m:Nat)(e:Nat->Nat->Nat)(cs:List Addr)(ss:List Nat):Prop where
 at':H L=some (.lst (cs.map V.ref))
 len:cs.length=ss.length
 pm:ss.Perm (ac m)
 it:∀(j:Nat) b,cs[j]?=some b->H b=some (.lst (ZL m fun c=>(EC t e (ss.getD j 0) c:Int)))
noncomputable def Zej:Sp:=fun J H Q _=>∃(q:Addr) (t:List (List Nat)) (p m:Nat) (e M O:Nat->Nat->Nat),J=[.ref q,.int p]/\CD t p m e M O/\PW t/\p<=100000/\C3 H q m (cnG t)/\∀L U Y j,Same H j->Zqh j L t m e U Y->Q (.ref L) j
section
variable {P:Program}{w:World}{K:ab}{mg:Str->Option Value}{base:Heap}
theorem ZhF {f:Addr}{fd:FuncData}(F:Y5 K "taken_apart" "taken_apart" Zg4 f fd)(T:Bl mg)(GP:Fn P w K mg base ZT 3 "parts_by" ["columns", "one", "p"] Zed):ZR P w K mg base ZT 4 f fd ["counts", "p"] Zej:=by
 refine F.ok (FS (N:=["counts", "p", "found", "seconds", "columns", "finer", "one"])) (fun vs H Q E h=>?_) (fun t7 A p6 s H vs Q E hr h=>?_)
 ·obtain⟨ra,t,p,m,e,ω,φ,rfl,_⟩:=h;rfl
 ·obtain⟨ra,t,p,m,e,ω,φ,rfl,C,Y,pl,p7,q⟩:=h
  refine⟨_,Zu (ZH 2 rfl (ZS (pc (Zz Zho (ZS (pc Zw Zs)) (Zz Jg (ZS (pc Zw Zs)) (Zz YU (cb (YB K) T.len (pc (vn 0) Zs)) Zw))) Zs)))
   (Zu (ZQ aq rfl (itT K (vn 0)) (gnf 3 rfl)
    (Zv (Y9 (ZP ZeF (cb (YB K) T.len (pc (vn 2) Zs)) (cb (YB K) T.len (pc (vn 0) Zs)) (ZW _))
     (Zu (Zfp 4 ["k"] [3] ["k", "seconds"] rfl rfl (XV T.range (pc (cb (YB K) T.len (pc (vn 0) Zs)) Zs)) (fun _ _ _ _ _=>gnf 0 rfl) (fun _ _ _ _ _=>ZN)
      (fun _ _ _ _ _=>cmp ["ends"] [0] ["ends", "k"] rfl (itT K (vn 1)) (fun _ _ _ _ _=>gn 0) (fun _ _ _ _ _=>ZN) (fun _ _ _ _ _=>ZM (Jp K) (vn 0) (vn 1) (fun _ _=>rfl))))
     (Zu (ZH 5 rfl (ZS Zs))
     (Zu (ZQ aq rfl (itL K (vn 2)) (gn 6)
      (Zv (Yv (Wm aM lF PySem.F.type_list_extend ZfJ (vn 5) (pc (YC GP hr ZF (pc (vn 4) (pc (vn 6) (pc (vn 1) Zs)))) Zs)))))
     (Zv (ZH 2 rfl (vn 5)))))) Yf)))
   (Zv (ZD (vn 2)))),?_⟩
  have p2:=C.pr.p2;have t9:=ZiE C Y;have m1:=C.m1;have mc:=C.mc;have sz:(16777216:Nat)=sizeLine:=by decide
  obtain⟨rs,c1,c2,c3⟩:=id p7;have cl:(rs.map V.ref).length=m:=by rw[Za,c2]
  refine⟨(by show 1<=sizeLine;decide),fun a1 p8=>(?_:_)⟩;have s1:=Same.upd (H:=H) (o:=.lst [.int 1]) p8;have h1:upd H a1 (.lst [.int 1]) a1=some (.lst [.int 1]):=Zt;generalize upd H a1 (.lst [.int 1])=H1 at s1 h1 ⊢;refine⟨(by show 1<=sizeLine;decide),fun a2 r6=>?_⟩;have s2:=Same.upd (H:=H1) (o:=.lst [.int 0]) r6;have h2:upd H1 a2 (.lst [.int 0]) a2=some (.lst [.int 0]):=Zt;generalize upd H1 a2 (.lst [.int 0])=H2 at s2 h2 ⊢;have o0:=s1.trans s2;refine⟨_,rfl,ra,_,rfl,.inr (.of (o0 _ _ c1)),_,_,rfl,rfl,a2,_,_,rfl,rfl,h2,by rw[cl];omega,by rw[cl];omega,by rw[cl];show 1*((m:Int)-1).toNat<=sizeLine;omega,fun a3 r8=>?_⟩;have et:(((rs.map V.ref).length:Int)-1).toNat=m-1:=by rw[cl];omega
  rw[et];have s3:=Same.upd (H:=H2) (o:=.lst (ak (m-1) [V.int 0]).flatten) r8;have h3:upd H2 a3 (.lst (ak (m-1) [V.int 0]).flatten) a3=some (.lst (ak (m-1) [V.int 0]).flatten):=Zt;generalize upd H2 a3 (.lst (ak (m-1) [V.int 0]).flatten)=H3 at s3 h3 ⊢;have fl:(ak (m-1) [V.int 0]).flatten.length<=60:=by
   have:=congrArg c9 (ZdX C Y);rw[Yj,Zd] at this;omega
  refine⟨a1,a3,_,_,rfl,rfl,(s2.trans s3) _ _ h1,h3,by show 1+_<=sizeLine;omega,fun a4 r9=>?_⟩;rw[ZdX C Y];have s4:=Same.upd (H:=H3) (o:=.lst (ZL m (Vc t p m e (JX fun _=>true)))) r9;have h4:upd H3 a4 (.lst (ZL m (Vc t p m e (JX fun _=>true)))) a4=some (.lst (ZL m (Vc t p m e (JX fun _=>true)))):=Zt;generalize upd H3 a4 (.lst (ZL m (Vc t p m e (JX fun _=>true))))=H4 at s4 h4 ⊢;refine⟨(by show 1<=sizeLine;decide),fun L nL=>?_⟩;have s5:=Same.upd (H:=H4) (o:=.lst [.ref a4]) nL;have h5:upd H4 L (.lst [.ref a4]) L=some (.lst [.ref a4]):=Zt;generalize upd H4 L (.lst [.ref a4])=H5 at s5 h5 ⊢;have o5:Same H H5:=((o0.trans s3).trans s4).trans s5;have P5:Ww H5 L t p m e [a4] [fun _=>true]:=⟨h5,rfl,fun j b hb=>by
   cases j with
   |zero=>cases hb;exact⟨_,rfl,s5 _ _ h4⟩
   |succ j=>cases hb⟩
  refine⟨_,rfl,ra,rfl,⟨_,.of (o5 _ _ c1)⟩,?_⟩;have wj:∀s s',s<m->s'<m->(∀j,j<m->gW t ω j s=gW t ω j s')->s=s':=fun s s' hs o6 h=>C.sep s s' hs o6 fun u hu=>by
   have hc:=(Yp Y).lt u hu;rw[C.wat Y hs hu,C.wat Y o6 hu];exact h (Yh t u) (by omega)
  refine Wy (H0:=H) (Yu (K:=K) (.of c1)) (fun i J H'=>∃(l:Addr) (cs:List Addr) (M:List (Nat->Bool)) (v3 v4 v5 v6:Option V),J=[some (.ref ra),some (.int (p:Nat)),some (.ref l),v3,v4,v5,v6]/\Same H H'/\Ww H' l t p m e cs M/\JY m (fun s j=>gW t ω j s) i M)
   ⟨L,_,_,_,_,_,_,rfl,o5,P5,JY.zero m1 _⟩ (fun i J H' h=>by
    obtain⟨_,_,_,_,_,_,_,_,sm,_⟩:=h;exact sm) ?_ ?_
  ·rintro i y J H6 hy ⟨l,cs,M,v3,v4,v5,v6,rfl,s6,O,A6⟩
   have hi:i<m:=by
    have:=(ae.mp hy).1;rw[cl] at this;exact this
   rw[Zc,Zf (show i<rs.length by omega)] at hy;cases hy;obtain⟨es,e1,e2,e3⟩:=c3 i _ (Zf (show i<rs.length by omega));generalize rs[i]'(by omega)=sa at e1 ⊢;rw[Za,Zg] at e2;have el:(es.map V.ref).length=m:=by rw[Za,e2]
   have n6:(cs.map V.ref).length=M.length:=by rw[Za,O.2.1]
   refine⟨_,rfl,l,_,rfl,.inl (.of O.1),_,rfl,ra,_,rfl,.inr (.of (s6 _ _ c1)),_,_,rfl,rfl,_,rfl,?_⟩;rw[n6,cl];refine Y0 (fun o7=>?_) (fun o7=>?_)
   ·refine⟨_,rfl,ra,_,rfl,.inr (.of (s6 _ _ c1)),_,rfl,by rw[cl];omega,by rw[cl];omega,?_⟩
    rw[cl,Zj];refine Pm.YS (W:=Addr) id (fun k a H=>H a=some (.lst (ZL m (Vx t i k)))) (fun a H=>H a=none) (Je 0 m) [some (.ref sa)] rfl (by rw[Za,Yx];omega) (fun k a H H' sm h=>sm _ _ h) (fun a H H' sm h=>sm.free h) (fun k a u5 u9 D o ys w8 h1 h2 h3 h4=>by rw[Zx (fun z=>by rw[z,h3] at h2;cases h2)];exact h1) (fun k y hy H7 s7 R k7=>?_) (fun D ws H7 nD s7 hD wl hw _=>?_)
    ·obtain⟨hk,rfl⟩:=ZaR hy
     have U:=s6.trans s7;refine⟨_,rfl,sa,rfl,⟨_,.of (U _ _ e1)⟩,?_⟩;refine Pm.Wn (Yu (K:=K) (.of (U _ _ e1))) [some (.int (k:Nat))] rfl (fun j=>V.int (Vx t i k j)) (by rw[el];omega) (fun j z hz H8 s8 R' k8=>?_) (fun D8 H8 t0 s8 o8=>?_)
     ·have hj:j<m:=by
       have:=(ae.mp hz).1;rw[el] at this;exact this
      rw[Zc,Zf (show j<es.length by omega)] at hz;cases hz;have hE:=e3 j _ (Zf (show j<es.length by omega));generalize es[j]'(by omega)=ea at hE ⊢;have row:((ac m).map fun j=>Ya m (cnG t i j)).getD j []=Ya m (cnG t i j):=by rw[Zb,Zc,ao hj];rfl
      rw[row] at hE;have t5:XO ((Ya m (cnG t i j)).map nV) (k:Int)=some (V.int (Vx t i k j)):=by
       refine ZO ?_;unfold Ya;rw[Zc,Zc,ao hk];show some (V.int ((cnG t i j k:Nat):Int))=some (V.int (Vx t i k j));unfold Vx;rw[ZmT Y (by omega)]
      exact⟨_,rfl,_,rfl,ea,_,_,_,rfl,rfl,.of ((U.trans s8) _ _ hE),t5,k8 H8 (Same.refl _)⟩
     ·rw[el] at o8
      exact k7 D8 H8 s8 o8 t0
    ·have hL:LLs H7 D m (Vx t i):=⟨ws,hD,by rw[wl,Za,Yx],fun c b hb=>(hw c b hb).1⟩
     have U:=s6.trans s7;have P7:=O.mono s7;refine⟨(by show 0<=sizeLine;decide),fun Fn o9=>?_⟩;have s8:=Same.upd (H:=H7) (o:=.lst []) o9;have h8:upd H7 Fn (.lst []) Fn=some (.lst ([]:List V)):=Zt;generalize upd H7 Fn (.lst [])=H8 at s8 h8 ⊢;have P8:=P7.mono s8;refine⟨_,rfl,l,rfl,⟨_,.of P8.1⟩,?_⟩;refine Wy (H0:=H7) (YK (K:=K) (.of P7.1)) (fun j J H'=>∃(ds:List Addr) (Fs:List (Nat->Bool)) (v6:Option V),J=[some (.ref ra),some (.int (p:Nat)),some (.ref l),some (.ref sa),some (.ref D),some (.ref Fn),v6]/\Same H7 H'/\Ww H' Fn t p m e ds Fs/\FiS m (gW t ω i) (M.take j) Fs)
      ⟨[],[],_,rfl,s8,⟨h8,rfl,fun j b hb=>by simp at hb⟩,by rw[gb];exact .nil⟩ (fun j J H' h=>by
       obtain⟨_,_,_,_,sm,_⟩:=h;exact sm) ?_ ?_
     ·rintro j y J H9 hy ⟨ds,Fs,v6,rfl,s9,P9,F9⟩
      have hj:j<M.length:=by
       have:=(ae.mp hy).1;rw[n6] at this;exact this
      rw[Zc,Zf (show j<cs.length by rw[O.2.1];exact hj)] at hy;cases hy;obtain⟨S,hS,hb⟩:=P7.2.2 j _ (Zf (show j<cs.length by rw[O.2.1];exact hj));generalize cs[j]'(by rw[O.2.1];exact hj)=b at hb ⊢;refine⟨_,rfl,.inl ⟨rfl,_,.of P9.1⟩,_,rfl,_,rfl,_,rfl,D,b,t,p,m,e,ω,φ,S,i,rfl,C,Y,hi,pl,hL.mono s9,s9 _ _ hb,fun B bs Ts x0 nB p3 pS pA=>?_⟩;have n8:=P9.mono p3;have n4:FiS m (gW t ω i) (M.take (j+1)) (Fs++Ts):=by
       rw[c8,hS];exact .snoc F9 pS
      have x6:Fs.length+Ts.length<=m:=by
       have hd:=n4.dj (dk (i4 _ _) A6.dj);have:=L2.Yq ((Fs++Ts).map (pkS m)) (ac m) (U6 (fun T' n9=>(n4.out.1 T' n9).1) hd) (fun x hx=>by
        obtain⟨T',n9,rfl⟩:=aN.mp hx;exact af.mpr (JZ (n4.out.1 T' n9).1).1)
       rwa [Za,Zd,Zg] at this
      refine⟨Fn,B,_,_,rfl,rfl,n8.1,pA.1,by rw[Za,Za,n8.2.1,pA.2.1];omega,?_⟩;refine⟨ds++bs,Fs++Ts,_,rfl,(s9.trans p3).updr o9,?_,n4⟩;exact n8.ext m1 pA
     ·rintro J H9 ⟨ds,Fs,v6,rfl,s9,P9,F9⟩
      rw[n6,dz] at F9;exact⟨_,rfl,Fn,ds,Fs,_,_,_,_,rfl,U.trans s9,P9,A6.step F9⟩
   ·have t6:m<=M.length:=by
     apply am;intro z;exact o7 (decide_eq_true (by omega))
    exact⟨l,cs,M,_,_,_,_,rfl,s6,O,A6.skip t6⟩
  ·rintro J H6 ⟨l,cs,M,v3,v4,v5,v6,rfl,s6,O,A6⟩
   rw[cl] at A6;obtain⟨hp,p4⟩:=A6.end wj;refine⟨_,rfl,q l cs (M.map (pkS m)) H6 s6 ⟨O.1,by rw[Za];exact O.2.1,hp,fun j b hb=>?_⟩⟩;obtain⟨S,h1,h2⟩:=O.2.2 j b hb;rw[h2];congr 2;have hS:S∈M:=av h1;have e6:(M.map (pkS m)).getD j 0=pkS m S:=by rw[Zb,Zc,h1];rfl
   have pk:=(JZ (A6.ne S hS)).1;refine Wb fun c hc=>?_;rw[e6,<-ZoZ C Y pk hc];refine JG (fun s hs=>?_) c;unfold JX;rw[p4 S hS s hs];by_cases z:s=pkS m S
   ·rw[if_pos z,if_pos (decide_eq_true z)]
   ·rw[if_neg z,if_neg (by rw[decide_eq_false z];decide)]
end
noncomputable abbrev ZgO:Stmt:=top 38
noncomputable def wkF (t:List (List Nat))(a k:Nat):Int:=(Yh t (it t a k):Nat)
structure ZoY (H:Hp)(L:Addr)(t:List (List Nat))(n:Nat)(cs:List Addr):Prop where
 at':H L=some (.lst (cs.map V.ref))
 len:cs.length=n
 it:∀(c:Nat) b,cs[c]?=some b->H b=some (.lst (ZL (rdT t (ZB t c)) (wkF t (ZB t c))))
noncomputable def Zd5:Sp:=fun q H Q _=>∃(g:Addr) (t:List (List Nat)),q=[.ref g]/\GT H g t/\PW t/\∀L J j,Same H j->ZoY j L t (ZC t t.length).length J->Q (.ref L) j
noncomputable def but (H:Hp)(W:Addr):Hp:=fun b=>if b=W then none else H b
theorem Vd {H:Hp}{W b:Addr}{o:HO}(h:H b=some o)(hb:b≠W):but H W b=some o:=by unfold but;rw[if_neg hb];exact h
theorem Za0 {H:Hp}{W b:Addr}{o:HO}(h:but H W b=some o):b≠W/\H b=some o:=by
 unfold but at h;by_cases z:b=W
 ·rw[if_pos z] at h;cases h
 ·rw[if_neg z] at h;exact⟨z,h⟩
theorem ZbD {cs:List Addr}{m:Nat}{v:Nat->Int}(j:1<=m):ZL m v≠cs.map V.ref:=(V8 j).symm
section
variable {P:Program}{w:World}{K:ab}{mg:Str->Option Value}{base:Heap}
theorem Zhq {f:Addr}{fd:FuncData}(F:Y5 K "power_walks" "power_walks" ZgO f fd)(GN:Fn P w K mg base ZT 5 "class_numbers" ["group"] ZaB)(GC:Fn P w K mg base ZT 4 "classes_of" ["group"] WC):ZR P w K mg base ZT 6 f fd ["group"] Zd5:=by
 refine F.ok (FS (N:=["group", "numbers", "walks", "members", "walk", "a"])) (fun vs H Q E h=>?_) (fun x0 A p8 s H vs Q E hr h=>?_)
 ·obtain⟨g,t,rfl,_⟩:=h;rfl
 ·obtain⟨g,t,rfl,G,M,q⟩:=h
  refine⟨_,Zu (ZH 1 rfl (YC GN hr ZF (pc (vn 0) Zs)))
   (Zu (ZH 2 rfl (ZS Zs))
   (Zu (ZQ aq rfl (itT K (YC GC hr ZF (pc (vn 0) Zs))) (gn 3)
    (Zu (ZH 4 rfl (ZS (pc Zw Zs)))
    (Zu (ZH 5 rfl (ZM (Jp K) (vn 3) Zw (fun _ _=>rfl)))
    (Zu (Yk aq (ZP Jo (vn 5) Zw (ZW _))
     (Zu (Yv (Wm aM aR aT Z2 (vn 4) (pc (ZM (Jp K) (vn 1) (vn 5) (fun _ _=>rfl)) Zs)))
     (Zv (ZH 5 rfl (ZM (Jp K) (ZM (Jp K) (vn 0) (vn 5) (fun _ _=>rfl)) (ZM (Jp K) (vn 3) Zw (fun _ _=>rfl)) (fun _ _=>rfl))))))
    (Zv (Yv (Wm aM aR aT Z2 (vn 2) (pc (vn 4) Zs))))))))
   (Zv (ZD (vn 2))))),?_⟩
  have sz:(16777216:Nat)=sizeLine:=by decide
  have x6:=M.n60;have ul:=YI (t:=t) t.length;have U:=Yp M;refine⟨_,rfl,g,t,rfl,G,M,fun r0 H1 s1 n9=>?_⟩;replace n9:H1 r0=some (.tup ((Ya t.length (WP t)).map nV)):=n9;refine⟨(by show 0<=sizeLine;decide),fun W nW=>?_⟩;have s2:=Same.upd (H:=H1) (o:=.lst []) nW;have h2:upd H1 W (.lst []) W=some (.lst ([]:List V)):=Zt;generalize upd H1 W (.lst [])=H2 at s2 h2 ⊢;have o7:=s1.trans s2;refine⟨_,rfl,g,t,rfl,G.mono o7,M,fun c H3 s3 r6=>?_⟩;have o8:=o7.trans s3;have r8:H W=none:=s1.free nW;obtain⟨rs,c1,c2,c3⟩:=r6.row;have cl:(rs.map V.ref).length=(ZC t t.length).length:=by rw[Za,c2]
  have h3:=s3 _ _ h2;have o0:=(s2.trans s3) _ _ n9;generalize hm:(ZC t t.length).length=m at *;refine⟨c,rfl,⟨_,.of c1⟩,?_⟩;refine Wy (H0:=but H3 W) (Yu (K:=K) (.of (Vd c1 (fun z=>by rw[z,h3] at c1;cases c1)))) (fun i J H'=>∃(cs:List Addr) (v3 v4 v5:Option V),J=[some (.ref g),some (.ref r0),some (.ref W),v3,v4,v5]/\Same (but H3 W) H'/\ZoY H' W t i cs)
   ⟨[],_,_,_,rfl,fun b o hb=>(Za0 hb).2,h3,rfl,fun c b hb=>by simp at hb⟩ (fun i J H' h=>by
    obtain⟨_,_,_,_,_,sm,_⟩:=h;exact sm) ?_ ?_
  ·rintro i y J O hy ⟨cs,v3,v4,v5,rfl,s4,W4⟩
   obtain⟨r,rfl,hi,Y⟩:=c3 i y hy;have k4:∀{b:Addr}{o:HO},H3 b=some o->b≠W->O b=some o:=fun {b o} hb z=>s4 b o (Vd hb z);have hR:=U.rl i (by omega);obtain⟨n4,r9,o9⟩:=Zbd M (k:=i) (by omega);have t0:hdT t i=ZB t i:=rfl;rw[t0] at n4 r9 o9;generalize ha:ZB t i=a at *;obtain⟨rd,R⟩:=M.rd a n4;have t5:=XX R;have r1:=R.r1;have rn:=R.rn;have p3:=k4 Y (fun z=>by rw[z,h3] at Y;cases Y);have t6:=k4 o0 (fun z=>by rw[z,h3] at o0;cases o0);have G3:=G.mono o8;have G4:GT O g t:=by
    obtain⟨gs,g1,g2,g3⟩:=G3;refine⟨gs,k4 g1 (fun z=>by rw[z,h3] at g1;cases g1),g2,fun j b hb=>?_⟩;obtain⟨o,ho,t7⟩:=g3 j b hb;exact⟨o,k4 ho (fun z=>by rw[z,h3] at ho;cases ho),t7⟩
   refine⟨(by show 1<=sizeLine;decide),fun wk o5=>?_⟩;have s5:=Same.upd (H:=O) (o:=.lst [.int 0]) o5;have h5:upd O wk (.lst [.int 0]) wk=some (.lst (ZL 1 (wkF t a))):=by
    rw[Zt];show some (HO.lst [V.int 0])=some (HO.lst [V.int ((Yh t (it t a 0):Nat):Int)]);rw[show it t a 0=0 from rfl,Uz M];rfl
   generalize upd O wk (.lst [.int 0])=H5 at s5 h5 ⊢;have n6:XO (((ZC t t.length).getD i []).map nV) 0=some (V.int (a:Nat)):=by
    refine ZO (j:=0) ?_;rw[Zc,o9];rfl
   have t9:=s5 _ _ p3;refine⟨_,rfl,r,_,_,_,rfl,rfl,.of t9,n6,?_⟩;have w8:∀{b:Addr}{o:HO},O b=some o->b≠wk:=fun {b o} hb z=>by rw[z,o5] at hb;cases hb
   refine Yb (fun x J H'=>∃k:Nat,J=[some (.ref g),some (.ref r0),some (.ref W),some (.ref r),some (.ref wk),some (.int ((it t a k:Nat):Int))]/\Same O H'/\H' wk=some (.lst (ZL k (wkF t a)))/\1<=k/\k<=rd/\x=rd-k)
    (fun J H'=>∃v5:Option V,J=[some (.ref g),some (.ref r0),some (.ref W),some (.ref r),some (.ref wk),v5]/\Same O H'/\H' wk=some (.lst (ZL rd (wkF t a)))) ?hend ⟨rd-1,1,by rw[ZdA M n4];rfl,s5,h5,Zq _,r1,rfl⟩ ?turn
   case hend=>
    rintro J H6 ⟨x8,rfl,s6,h6⟩;have o6:=s6 _ _ W4.at';have p4:∀{b:Addr}{v:Nat->Int}{n:Nat},1<=n->H6 b=some (.lst (ZL n v))->b≠W:=fun {b v n} hn hb=>Za1 hb o6 (ZbD hn);refine⟨_,rfl,.inl ⟨rfl,_,.of o6⟩,_,rfl,W,_,_,rfl,rfl,o6,by rw[Za,W4.len];omega,?_⟩;refine⟨cs++[wk],_,_,_,rfl,fun b o hb=>?_,⟨by rw[Zt,aU];rfl,by rw[Zd,W4.len];rfl,fun c' b hb=>?_⟩⟩
    ·rw[Zx (Za0 hb).1]
     exact (s4.trans s6) b o hb
    ·by_cases u5:c'<cs.length
     ·rw[aw u5] at hb
      have p6:=s6 _ _ (W4.it c' b hb);obtain⟨x9,R'⟩:=M.rd (ZB t c') (U.rl c' (by have:=W4.len;omega));rw[Zx (p4 (by rw[XX R'];exact R'.r1) p6)];exact p6
     ·have hl:=(ae.mp hb).1
      rw[Zd,Zk] at hl;have ec:c'=cs.length:=by omega
      rw[ax (by omega),ec,de] at hb;cases hb;rw[ec,W4.len,ha,t5,Zx (p4 r1 h6)];exact h6
   case turn=>
    rintro n8 x J H6 ⟨k,rfl,s6,h6,k1,kr,rfl⟩;have il:=Wa M n4 k;refine⟨_,rfl,rfl,_,rfl,?_⟩;refine Y0 (fun q1=>?_) (fun q1=>?_)
    ·have q1:=ZpV q1
     have kn:k≠rd:=fun z=>by rw[z,R.z] at q1;exact q1 rfl
     have u9:=s6 _ _ t6;have p7:XO ((Ya t.length (WP t)).map nV) ((it t a k:Nat):Int)=some (V.int (wkF t a k)):=by
      refine ZO ?_;unfold Ya;rw[Zc,Zc,ao il];show some (V.int ((WP t (it t a k):Nat):Int))=_;rw[JP M il];rfl
     refine⟨_,fun _ _ z=>z,_,rfl,.inl ⟨rfl,_,.of h6⟩,_,rfl,_,rfl,r0,_,_,_,rfl,rfl,.of u9,p7,wk,_,_,rfl,rfl,h6,by rw[Yj];omega,?_⟩;rw[<-ZbC];have s7:Same O (upd H6 wk (.lst (ZL (k+1) (wkF t a)))):=s6.updr o5;have h7:upd H6 wk (.lst (ZL (k+1) (wkF t a))) wk=some (.lst (ZL (k+1) (wkF t a))):=Zt;generalize upd H6 wk (.lst (ZL (k+1) (wkF t a)))=H7 at s7 h7 ⊢;obtain⟨gr,ga,u1,_,u2,u3,u4⟩:=(G4.mono s7).at M il;refine⟨_,rfl,_,rfl,g,_,_,_,rfl,rfl,.of u1,u2,_,rfl,r,_,_,_,rfl,rfl,.of (s7 _ _ p3),n6,ga,_,_,_,rfl,rfl,u3.sq,u4 a n4,?_⟩;exact⟨rd-(k+1),by omega,k+1,rfl,s7,h7,by omega,by omega,rfl⟩
    ·have q1:=ZpW q1
     have:k=rd:=by
      apply am;intro z;exact R.nz k k1 (by omega) (by omega)
     rw[this] at h6;exact n8 _ _ ⟨_,rfl,s6,h6⟩
  ·rintro J O ⟨cs,v3,v4,v5,rfl,s4,W4⟩
   rw[cl] at W4;exact⟨_,rfl,q W cs O (fun b o hb=>s4 b o (Vd (o8 _ _ hb) (fun z=>by rw[z,r8] at hb;cases hb))) W4⟩
end
end C39
namespace N39
open PySem L2 PySem.Spec PyProof.Rows
noncomputable def top (i:Nat):Stmt:=fM.main.body.getD i (.Pass ⟨0,0,0,0⟩)
structure Bl (mg:Str->Option Value):Prop where
 list:mg "list"=none
 len:mg "len"=none
 abs:mg "abs"=none
 range:mg "range"=none
 tuple:mg "tuple"=none
 isi:mg "isinstance"=none
 all:mg "all"=none
 set:mg "set"=none
 repr:mg "repr"=none
 any:mg "any"=none
 int:mg "int"=none
 bool:mg "bool"=none
section
variable {P:Program}{w:World}{K:ab}{mg:Str->Option Value}{base:Heap}
end
section
variable {P:Program}{w:World}{K:ab}{mg:Str->Option Value}{base:Heap}
end
noncomputable abbrev Zeo:Stmt:=top 16
noncomputable abbrev Zep:Stmt:=top 17
noncomputable abbrev ZnP:Stmt:=top 22
noncomputable def strip:Nat->Int->Int->Int
 |0,r,_=>r
 |g+1,r,p=>if r % p=0 then strip g (r / p) p else r
noncomputable def pr:Nat->Int->Int->List Int->List Int
 |0,_,_,ZG=>ZG
 |f+1,r,p,ZG=>if 1<r then pr f (strip 6 r p) (p+1) (if r % p=0 then ZG++[p] else ZG) else ZG
noncomputable def ZdH:Nat->Int->Int->Bool
 |0,r,_=>decide (r<=1)
 |f+1,r,p=>if 1<r then ZdH f (strip 6 r p) (p+1) else true
noncomputable def Z4 (n:Int):List Int:=pr 100 n 2 []
noncomputable def Vv (n:Int):Int:=(Z4 n).foldl (fun f p=>f / p*(p-1)) n
noncomputable def Zoy:Nat->Int->Int->Int
 |0,a,_=>a
 |f+1,a,b=>if 0<b then Zoy f b (a % b) else a
noncomputable def Zp4 (a b:Int):Int:=Zoy 100 a b
noncomputable def Zlb (n:Int):Int:=(((YX 1 n.toNat).filter fun k=>decide (Zp4 k n=1)).length:Nat)
noncomputable def okN (n:Nat):Bool:=ZdH 100 n 2 && (Z4 n).all (fun p=>decide (2<=p) && decide (p<=60)) && decide (Vv n=Zlb n) && decide (1<=Vv n) && decide (Vv n<=60)
theorem ZjQ:((ac 61).all fun n=>n == 0 || okN n)=true:=by decide +kernel
theorem Zds {n:Nat}(q:1<=n)(J:n<=60):ZdH 100 n 2=true/\(∀p∈Z4 n,2<=p/\p<=60)/\Vv n=Zlb n/\1<=Vv n/\Vv n<=60:=by
 have h:=aD.mp ZjQ n (af.mpr (by omega));have j:(n == 0)=false:=by simp;omega
 rw[j,gJ] at h;unfold okN at h;simp only[ag,decide_eq_true_eq,aD] at h;exact⟨h.1.1.1.1,h.1.1.1.2,h.1.1.2,h.1.2,h.2⟩
theorem Ur {r p:Int}(J:1<=r)(j:2<=p)(h:r % p=0):1<=r / p/\2*(r / p)<=r:=by
 have e:p*(r / p)=r:=Int.mul_ediv_cancel' (Int.dvd_of_emod_eq_zero h);generalize r / p=q at e;have M:1<=q:=by
  apply am;intro O;have:p*q<=p*0:=Int.mul_le_mul_of_nonneg_left (by omega) (by omega);omega
 have:2*q<=p*q:=dF j (by omega);omega
theorem Xi:∀(g:Nat) {r p:Int},1<=r->2<=p->1<=strip g r p/\strip g r p<=r
 |0,r,p,j,_=>⟨j,Int.le_refl _⟩
 |g+1,r,p,j,q=>by
  unfold strip;by_cases h:r % p=0
  ·rw[if_pos h]
   obtain⟨a,b⟩:=Ur j q h;have:=Xi g (r:=r / p) (p:=p) a q;omega
  ·rw[if_neg h];omega
theorem VU {g:Nat}{r p:Int}(h:¬r % p=0):strip g r p=r:=by
 cases g with
 |zero=>rfl
 |succ g=>unfold strip;rw[if_neg h]
noncomputable def VZ:Sp:=fun q H Q _=>∃n:Nat,q=[.int n]/\1<=n/\n<=60/\∀l j,Same H j->j l=some (.lst ((Z4 n).map V.int))->Q (.ref l) j
noncomputable def ZbN:Sp:=fun q H Q _=>∃n:Nat,q=[.int n]/\1<=n/\n<=60/\∀j,Same H j->Q (.int (Vv n)) j
section
variable {P:Program}{w:World}{K:ab}{mg:Str->Option Value}{base:Heap}
theorem ZfC {f:Addr}{fd:FuncData}(F:Y5 K "primes_of" "primes_of" Zeo f fd)(T:Bl mg):ZR P w K mg base ZT 1 f fd ["n"] VZ:=by
 refine F.ok (FS (N:=["n", "primes", "rest", "p"])) (fun vs H Q E h=>?_) (fun p3 A o5 s H vs Q E hr h=>?_)
 ·obtain⟨n,rfl,_⟩:=h;rfl
 ·obtain⟨n,rfl,n1,n60,q⟩:=h
  obtain⟨n9,p4,_⟩:=Zds n1 n60;refine⟨_,Zu (ZH 1 rfl (ZS Zs)) (Zu (ZH 2 rfl (vn 0)) (Zu (ZH 3 rfl Zw)
   (Zu (Yk aq (ZP Zhn (vn 2) Zw (ZW _))
    (Zu (Y9 (ZP Zca (Zz Z5 (vn 2) (vn 3)) Zw (ZW _)) (Zv (Yv (Wm aM aR aT Z2 (vn 1) (pc (vn 3) Zs)))) Yf)
    (Zu (Yk aq (ZP Zca (Zz Z5 (vn 2) (vn 3)) Zw (ZW _)) (Zv (ZH 2 rfl (Zz WO (vn 2) (vn 3)))))
    (Zv (Jx (i:=3) (Z0 (by kernel_rfl)) rfl (YG (by kernel_rfl)) Zw WK (.inl rfl))))))
   (Zv (ZD (vn 1)))))),?_⟩
  refine⟨by decide,fun l hl=>⟨_,rfl,?_⟩⟩;have s1:Same H (upd H l (.lst [])):=Same.upd hl;refine Yb (fun f O H'=>∃(r p:Int) (ZG:List Int),O=[some (.int n),some (.ref l),some (.int r),some (.int p)]/\H'=upd H l (.lst (ZG.map V.int))/\1<=r/\r<=60/\2<=p/\p+f=102/\ZG.length+f<=100/\ZdH f r p=true/\pr f r p ZG=Z4 n)
   (fun O H'=>∃r p:Option V,O=[some (.int n),some (.ref l),r,p]/\H'=upd H l (.lst ((Z4 n).map V.int))) ?hend ⟨100,n,2,[],rfl,rfl,by omega,by omega,by omega,by omega,by decide,n9,rfl⟩ ?turn
  case hend=>
   rintro O H' ⟨r,p,rfl,rfl⟩;exact⟨_,rfl,q l _ (Same.upd hl) Zt⟩
  case turn=>
   rintro n6 f O H' ⟨r,p,ZG,rfl,rfl,r1,o6,p2,pf,al,he,hp⟩;refine⟨_,rfl,_,_,rfl,rfl,_,rfl,?_⟩;refine Y0 (fun h1=>?_) (fun h1=>?_)
   rotate_left
   ·have h1:¬ 1<r:=fun z=>h1 (decide_eq_true z)
    refine n6 _ _ ⟨_,_,rfl,?_⟩;have:pr f r p ZG=ZG:=by cases f with|zero=>rfl|succ f=>unfold pr;rw[if_neg h1]
    rw[<-hp,this]
   have h1:1<r:=of_decide_eq_true h1;obtain⟨g,rfl⟩:∃g,f=g+1:=by
    cases f with
    |zero=>unfold ZdH at he;have:=of_decide_eq_true he;omega
    |succ g=>exact⟨g,rfl⟩
   refine⟨_,fun _ _ z=>z,?_⟩;unfold ZdH at he;unfold pr at hp;rw[if_pos h1] at he hp;have sz:(16777216:Nat)=sizeLine:=by decide
   refine⟨_,rfl,_,rfl,_,_,rfl,rfl,(by show (0:Int)<p;omega),rfl,_,rfl,?_⟩;obtain⟨j,n8,o0,hA⟩:∃j:List Int,j=(if r % p=0 then ZG++[p] else ZG)/\pr g (strip 6 r p) (p+1) j=Z4 n/\j.length<=ZG.length+1:=⟨_,rfl,hp,by split <;> simp⟩
   obtain⟨o7,p6⟩:=Xi 6 (r:=r) (p:=p) r1 p2;refine Y0 (fun h2=>?_) (fun h2=>?_)
   ·have h2:r % p=0:=V.int.inj (of_decide_eq_true h2)
    refine⟨_,rfl,.inl ⟨rfl,_,.of Zt⟩,_,rfl,l,_,_,rfl,rfl,Zt,by rw[Za];omega,?_⟩;have e1:upd (upd H l (.lst (ZG.map V.int))) l (.lst (ZG.map V.int++[.int p]))=upd H l (.lst (j.map V.int)):=by
     rw[ZiT,n8,if_pos h2,aU];rfl
    rw[e1];refine Yb (fun m J M=>∃(U:Int) (g':Nat),J=[some (.int n),some (.ref l),some (.int U),some (.int p)]/\M=upd H l (.lst (j.map V.int))/\1<=U/\U<=60/\U<2 ^ g'/\strip g' U p=strip 6 r p/\m=U.toNat)
     (fun J M=>J=[some (.int n),some (.ref l),some (.int (strip 6 r p)),some (.int p)]/\M=upd H l (.lst (j.map V.int))) ?hend2 ⟨_,r,6,rfl,rfl,r1,o6,by omega,rfl,rfl⟩ ?turn2
    case hend2=>
     rintro J M ⟨rfl,rfl⟩;exact⟨_,rfl,_,_,rfl,rfl,g,by omega,strip 6 r p,p+1,j,rfl,rfl,o7,by omega,by omega,by omega,by omega,he,o0⟩
    case turn2=>
     rintro Y m J M ⟨U,g',rfl,rfl,a1,a2,a3,a4,rfl⟩;refine⟨_,rfl,_,rfl,_,_,rfl,rfl,(by show (0:Int)<p;omega),rfl,_,rfl,?_⟩;refine Y0 (fun h3=>?_) (fun h3=>?_)
     ·have h3:U % p=0:=V.int.inj (of_decide_eq_true h3)
      obtain⟨b1,b2⟩:=Ur a1 p2 h3;obtain⟨g2,rfl⟩:∃g2,g'=g2+1:=by
       cases g' with
       |zero=>simp at a3;omega
       |succ g2=>exact⟨g2,rfl⟩
      unfold strip at a4;rw[if_pos h3] at a4;refine⟨_,fun _ _ z=>z,_,rfl,_,rfl,_,_,rfl,rfl,⟨by omega,by omega⟩,(U / p).toNat,by omega,U / p,g2,rfl,rfl,b1,by omega,?_,a4,rfl⟩;rw[Int.pow_succ] at a3;omega
     ·have h3:¬U % p=0:=fun z=>h3 (decide_eq_true (congrArg V.int z))
      rw[VU h3] at a4;exact Y _ _ ⟨by rw[a4],rfl⟩
   ·have h2:¬r % p=0:=fun z=>h2 (decide_eq_true (congrArg V.int z))
    have e1:upd H l (.lst (ZG.map V.int))=upd H l (.lst (j.map V.int)):=by rw[n8,if_neg h2]
    rw[e1];have e2:strip 6 r p=r:=VU h2;refine Yb (fun m J M=>J=[some (.int n),some (.ref l),some (.int r),some (.int p)]/\M=upd H l (.lst (j.map V.int)))
     (fun J M=>J=[some (.int n),some (.ref l),some (.int r),some (.int p)]/\M=upd H l (.lst (j.map V.int))) ?hend3 ⟨0,rfl,rfl⟩ ?turn3
    case hend3=>
     rintro J M ⟨rfl,rfl⟩;exact⟨_,rfl,_,_,rfl,rfl,g,by omega,r,p+1,j,rfl,rfl,r1,by omega,by omega,by omega,by omega,e2▸he,e2▸o0⟩
    case turn3=>
     rintro n4 m J M ⟨rfl,rfl⟩;refine⟨_,rfl,_,rfl,_,_,rfl,rfl,(by show (0:Int)<p;omega),rfl,_,rfl,?_⟩;exact ZcA (fun z=>h2 (V.int.inj (of_decide_eq_true z))) (n4 _ _ ⟨rfl,rfl⟩)
theorem ZfD {f:Addr}{fd:FuncData}(F:Y5 K "places" "places" Zep f fd)(T:Bl mg)(GP:Fn P w K mg base ZT 1 "primes_of" ["n"] VZ):ZR P w K mg base ZT 2 f fd ["n"] ZbN:=by
 refine F.ok (FS (N:=["n", "found", "p"])) (fun vs H Q E h=>?_) (fun n4 A O s H vs Q E hr h=>?_)
 ·obtain⟨n,rfl,_⟩:=h;rfl
 ·obtain⟨n,rfl,n1,n60,q⟩:=h
  obtain⟨_,U,_⟩:=Zds n1 n60;refine⟨_,Zu (ZH 1 rfl (vn 0)) (Zu (ZQ aq rfl (itL K (YC GP hr ZF (pc (vn 0) Zs))) (gn 2)
   (Zv (ZH 1 rfl (Zz ZV (Zz WO (vn 1) (vn 2)) (Zz YU (vn 2) Zw)))))
   (Zv (ZD (vn 1)))),?_⟩
  refine⟨_,rfl,_,rfl,n,rfl,n1,n60,fun l H1 s1 Y=>⟨l,rfl,⟨_,.of Y⟩,?_⟩⟩;refine Wy (YK (Wr.of Y)) (fun i j M=>∃v2:Option V,j=[some (.int n),some (.int (((Z4 n).take i).foldl (fun f p=>f / p*(p-1)) n)),v2]/\M=H1) ⟨none,rfl,rfl⟩ (fun _ _ _ ⟨_,_,e⟩=>e▸Same.refl _) ?_ ?_
  ·rintro i x j M J ⟨v2,rfl,rfl⟩
   rw[Zc] at J;cases e:(Z4 n)[i]? with
   |none=>rw[e] at J;cases J
   |some p=>
    rw[e] at J;cases J;obtain⟨a1,a2⟩:=U p (av e);refine⟨_,rfl,_,rfl,_,_,rfl,rfl,⟨by omega,by omega⟩,_,rfl,_,_,rfl,rfl,_,_,rfl,rfl,.inr ⟨by omega,by omega⟩,?_⟩;refine⟨some (.int p),?_,rfl⟩;have ht:(Z4 n).take (i+1)=(Z4 n).take i++[p]:=by rw[c8,e];rfl
    rw[ht,i9];rfl
  ·rintro j M ⟨v2,rfl,rfl⟩
   refine⟨_,rfl,?_⟩;rw[Za,dz];exact q M s1
end
noncomputable def ZkL:Sp:=fun q H Q _=>∃(n:Nat) (k:Int),q=[.int n,.int k]/\1<=n/\n<=60/\∀p j,Same H j->j p=some (.tup ((k::ak (Vv n-1).toNat 0).map V.int))->Q (.ref p) j
noncomputable def Zda:Sp:=fun q H Q _=>∃(a:Addr) (z:Int) (r:List Int),q=[.ref a]/\H a=some (.tup ((z::r).map V.int))/\r.length<=1000/\∀j,Same H j->Q (if r.any (fun y=>decide (y≠0))=true then .non else .int z) j
section
variable {P:Program}{w:World}{K:ab}{mg:Str->Option Value}{base:Heap}
theorem Xr (m:Nat):(ak m [V.int 0]).flatten=(ak m (0:Int)).map V.int:=by
 induction m with
 |zero=>rfl
 |succ m j=>rw[aW,bC,j,aW];rfl
theorem Zma {f:Addr}{fd:FuncData}(F:Y5 K "whole" "whole" ZnP f fd)(Y:Fn P w K mg base ZT 2 "places" ["n"] ZbN):ZR P w K mg base ZT 3 f fd ["n", "k"] ZkL:=by
 refine F.ok (FS (N:=["n", "k"])) (fun vs H Q E h=>?_) (fun n4 A J s H vs Q E hr h=>?_)
 ·obtain⟨n,k,rfl,_⟩:=h;rfl
 ·obtain⟨n,k,rfl,n1,n60,q⟩:=h
  obtain⟨_,_,_,p1,n6⟩:=Zds n1 n60;refine⟨_,Zv (ZD (Zz Zjz (ZaY (pc (vn 1) Zs)) (Zz Zjy (ZaY (pc Zw Zs)) (Zz YU (YC Y hr ZF (pc (vn 0) Zs)) Zw)))),?_⟩;refine⟨_,rfl,(by show 1<=sizeLine;decide),fun O h1=>⟨(by show 1<=sizeLine;decide),fun t2 h2=>⟨_,rfl,n,rfl,n1,n60,fun H1 s1=>⟨_,_,rfl,rfl,?_⟩⟩⟩⟩;have M:Same H (upd H O (.tup [.int k])):=Same.upd h1;have j:=Same.upd (o:=.tup [.int 0]) h2;obtain⟨m,hm⟩:=bB (show 0<=Vv n-1 by omega);refine⟨t2,_,m,rfl,congrArg V.int hm,s1 _ _ Zt,by simp,by simp;omega,by omega,fun t3 H3 U h3=>?_⟩;refine⟨O,t3,_,_,rfl,rfl,U _ _ (s1 _ _ (j _ _ Zt)),h3,?_,fun t4 H4 s4 h4=>?_⟩
  ·rw[Xr,Za,Ze]
   have:(16777216:Nat)=sizeLine:=by decide
   simp;omega
  ·refine q t4 H4 ((((M.trans j).trans s1).trans U).trans s4) ?_
   rw[h4,Xr,hm,Zj];rfl
end
section
variable {P:Program}{w:World}{K:ab}{mg:Str->Option Value}{base:Heap}
end
end N39
namespace L2
open PySem PySem.Spec PyProof.Rows
end L2
namespace N39
open PySem L2 PySem.Spec PyProof.Rows
section
variable {P:Program}{w:World}{K:ab}{mg:Str->Option Value}{base:Heap}
end
end N39
set_option maxHeartbeats 1000000
namespace Num
noncomputable def co (a:List Int)(i:Nat):Int:=a.getD i 0
theorem YR (i:Nat):co [] i=0:=by simp[co]
theorem YL (x:Int)(r:List Int):co (x::r) 0=x:=by simp[co]
theorem Wz (x:Int)(r:List Int)(i:Nat):co (x::r) (i+1)=co r i:=by simp[co]
theorem J1 {a:List Int}{i:Nat}(h:a.length<=i):co a i=0:=by
 unfold co;rw[Zb,ah h];rfl
theorem Wg {a:List Int}{i:Nat}(h:i<a.length):a[i]?=some (co a i):=by
 unfold co;rw[Zb,Zf h];rfl
noncomputable def UO:List Int->List Int->List Int
 | [],b=>b
 |a,[]=>a
 |x::a,y::b=>(x+y)::UO a b
noncomputable def vsc (c:Int)(a:List Int):List Int:=a.map (c * ·)
theorem XG:∀(a b:List Int) (i:Nat),co (UO a b) i=co a i+co b i
 | [],b,i=>by rw[UO,YR,cz]
 |x::a,[],i=>by rw[UO,YR,cC];intro z;cases z
 |x::a,y::b,0=>by rw[UO,YL,YL,YL]
 |x::a,y::b,i+1=>by rw[UO,Wz,Wz,Wz,XG a b i]
theorem ZdJ (c:Int):∀(a:List Int) (i:Nat),co (vsc c a) i=c*co a i
 | [],i=>by unfold vsc;rw[fv,YR,cB]
 |x::a,0=>by unfold vsc;rw[aL,YL,YL]
 |x::a,i+1=>by
  have:=ZdJ c a i;unfold vsc at this ⊢;rw[aL,Wz,Wz,this]
noncomputable def W1:List Int->List (List Int)->List Int
 |_,[]=>[]
 |a,r::j=>UO (vsc (co a 0) r) (W1 a.tail j)
theorem Zko (a:List Int)(i:Nat):co a.tail i=co a (i+1):=by
 cases a with
 |nil=>rw[List.tail_nil,YR,YR]
 |cons x r=>rw[dA,Wz]
theorem ZU (a:List Int)(r:List Int)(rs:List (List Int))(j:Nat):co (W1 a (r::rs)) j=co a 0*co r j+co (W1 a.tail rs) j:=by
 rw[W1,XG,ZdJ]
noncomputable def ro (R:List (List Int))(i:Nat):List Int:=R.getD i []
theorem ZaP (r:List Int)(rs:List (List Int)):ro (r::rs) 0=r:=by simp[ro]
theorem ZaQ (r:List Int)(rs:List (List Int))(i:Nat):ro (r::rs) (i+1)=ro rs i:=by simp[ro]
theorem ZlK (i:Nat):ro [] i=[]:=by simp[ro]
theorem Za8 (j:Nat)(v:Int):∀(a:List Int) (i:Nat) (R:List (List Int)),i<a.length->co (W1 (a.set i v) R) j=co (W1 a R) j+(v-co a i)*co (ro R i) j
 |a,i,[],h=>by rw[ZlK,YR,cB,cC];unfold W1;rfl
 | [],i,r::q,h=>by cases h
 |x::a,0,r::q,h=>by
  rw[List.set_cons_zero,ZU,ZU,YL,YL,ZaP,dA,dA,mq];omega
 |x::a,i+1,r::q,h=>by
  rw[List.set_cons_succ,ZU,ZU,YL,YL,Wz,ZaQ,dA,dA,Za8 j v a i q (cO h)];omega
theorem XA:∀(R:List (List Int)) (j:Nat),co (W1 [] R) j=0
 | [],j=>by unfold W1;exact YR j
 |r::q,j=>by rw[ZU,YR,List.tail_nil,XA q j,bW,cC]
theorem Zad:∀(m:Nat) (R:List (List Int)) (j:Nat),co (W1 (ak m 0) R) j=0
 |0,R,j=>XA R j
 |m+1,[],j=>by unfold W1;exact YR j
 |m+1,r::q,j=>by rw[ZU,aW,YL,dA,Zad m q j,bW,cC]
noncomputable def sig (n:Nat)(R:List (List Int))(j:Nat):List Int->Nat->Int
 | [],_=>0
 |x::q,k=>x*co (ro R (k % n)) j+sig n R j q (k+1)
noncomputable def Vn (n:Nat):List Int->Nat->List Int->List Int
 | [],_,ZG=>ZG
 |x::j,k,ZG=>Vn n j (k+1) (ZG.set (k % n) (co ZG (k % n)+x))
noncomputable def ZcD (n:Nat)(j:List Int):List Int:=Vn n j 0 (ak n 0)
theorem Zct (n:Nat)(q:0<n)(R:List (List Int))(j:Nat):∀(J:List Int) (k:Nat) (ZG:List Int),ZG.length=n->co (W1 (Vn n J k ZG) R) j=co (W1 ZG R) j+sig n R j J k
 | [],k,ZG,h=>by rw[Vn,sig,cC]
 |x::M,k,ZG,h=>by
  rw[Vn,Zct n q R j M (k+1) _ (by rw[bA,h]),Za8 j _ ZG (k % n) R (by rw[h];exact cm _ q),sig];have e:co ZG (k % n)+x-co ZG (k % n)=x:=by omega
  rw[e];omega
theorem ZfL (n:Nat)(J:0<n)(R:List (List Int))(q:List Int)(j:Nat):co (W1 (ZcD n q) R) j=sig n R j q 0:=by
 unfold ZcD;rw[Zct n J R j q 0 _ (cU ..),Zad,cz]
noncomputable def lk (n:Nat)(s:Nat)(g:Nat->Int):Nat->Int:=fun k=>g k-g ((k+(n-s)) % n)
noncomputable def UN (n:Nat)(j:List Nat)(g:Nat->Int):Nat->Int:=j.foldl (fun g s=>lk n s g) g
theorem ZeN (n:Nat):∀(j:List Nat) (g h:Nat->Int) (k:Nat),UN n j (fun t=>g t+h t) k=UN n j g k+UN n j h k
 | [],g,h,k=>rfl
 |s::j,g,h,k=>by
  show UN n j (lk n s fun t=>g t+h t) k=UN n j (lk n s g) k+UN n j (lk n s h) k;rw[<-ZeN n j (lk n s g) (lk n s h) k];congr 1;funext t;unfold lk;show g t+h t-(g ((t+(n-s)) % n)+h ((t+(n-s)) % n))=_;omega
theorem ZhT (n:Nat)(c:Int):∀(j:List Nat) (g:Nat->Int) (k:Nat),UN n j (fun t=>c*g t) k=c*UN n j g k
 | [],g,k=>rfl
 |s::j,g,k=>by
  show UN n j (lk n s fun t=>c*g t) k=c*UN n j (lk n s g) k;rw[<-ZhT n c j (lk n s g) k];congr 1;funext t;unfold lk;rw[jQ]
theorem Zcr (n:Nat):∀(j:List Nat) (k:Nat),UN n j (fun _=>0) k=0
 | [],k=>rfl
 |s::j,k=>by
  show UN n j (lk n s fun _=>0) k=0;have:(lk n s fun _=>(0:Int))=fun _=>0:=by funext t;unfold lk;rfl
  rw[this];exact Zcr n j k
theorem Jb (n:Nat)(J:0<n):∀(j:List Nat) (g h:Nat->Int),(∀t,t<n->g t=h t)->∀k,k<n->UN n j g k=UN n j h k
 | [],g,h,e,k,q=>e k q
 |s::j,g,h,e,k,q=>by
  refine Jb n J j (lk n s g) (lk n s h) (fun t M=>?_) k q;unfold lk;rw[e t M,e _ (cm _ J)]
noncomputable def lkL (n s:Nat)(a:List Int):List Int:=ic (· - ·) a (a.drop s++a.take s)
theorem ZeO {n s:Nat}{a:List Int}(h:a.length=n):(lkL n s a).length=n:=by
 unfold lkL;rw[iO,Zd,cR,bZ];omega
theorem ZmS {n s k:Nat}{a:List Int}(h:a.length=n)(Y:s<=n)(J:k<n):co (lkL n s a) k=co a k-co a ((k+s) % n):=by
 have hl:(a.drop s++a.take s).length=n:=by
  rw[Zd,cR,bZ];omega
 have M:(lkL n s a)[k]?=some (a[k]'(by omega)-(a.drop s++a.take s)[k]'(by omega)):=by
  unfold lkL;rw[ir,Zf (by omega),Zf (by omega)]
 have g2:=Wg (a:=lkL n s a) (i:=k) (by rw[ZeO h];exact J);rw[M] at g2;have O:co a k=a[k]'(by omega):=by
  have:=Wg (a:=a) (i:=k) (by omega);rw[Zf (by omega)] at this;exact (ay this).symm
 have U:co a ((k+s) % n)=(a.drop s++a.take s)[k]'(by omega):=by
  have j:(k+s) % n<a.length:=by rw[h];exact cm _ (by omega)
  have:=Wg (a:=a) j;rw[Zf j] at this;rw[<-ay this];by_cases hc:k<n-s
  ·have q:(k+s) % n=k+s:=bK (by omega)
   rw[List.getElem_append_left (by rw[cR];omega),List.getElem_drop];congr 1;omega
  ·have q:(k+s) % n=k+s-n:=by
    rw[mU (by omega),bK (by omega)]
   rw[List.getElem_append_right (by rw[cR];omega),List.getElem_take];congr 1;rw[cR];omega
 rw[O,U];exact (ay g2).symm
noncomputable def Zmr (n:Nat)(j:List Nat)(a:List Int):List Int:=j.foldl (fun a s=>lkL n (n-s) a) a
theorem Ze6 {n:Nat}:∀(j:List Nat) (a:List Int),a.length=n->∀k,k<n->co (Zmr n j a) k=UN n j (co a) k
 | [],a,h,k,q=>rfl
 |s::j,a,h,k,q=>by
  show co (Zmr n j (lkL n (n-s) a)) k=UN n j (lk n s (co a)) k;rw[Ze6 j _ (ZeO h) k q];exact Jb n (by omega) j _ _ (fun t J=>ZmS h (Nat.sub_le _ _) J) k q
noncomputable def YF:Nat->(Nat->Int)->Int
 |0,_=>0
 |n+1,f=>f 0+YF n fun t=>f (t+1)
theorem Wc:∀(n:Nat) (f g:Nat->Int),(∀t,t<n->f t=g t)->YF n f=YF n g
 |0,f,g,h=>rfl
 |n+1,f,g,h=>by rw[YF,YF,h 0 (lI _),Wc n _ _ fun t j=>h (t+1) (gZ j)]
theorem XR:∀(n:Nat) (f:Nat->Int),(∀t,t<n->f t=0)->YF n f=0
 |0,f,h=>rfl
 |n+1,f,h=>by rw[YF,h 0 (lI _),XR n _ fun t j=>h (t+1) (gZ j),cC]
theorem ZbI:∀(n j:Nat) (f:Nat->Int),j<n->(∀t,t<n->t≠j->f t=0)->YF n f=f j
 |0,j,f,q,h=>absurd q (fh _)
 |n+1,0,f,q,h=>by rw[YF,XR n _ fun t J=>h (t+1) (gZ J) (jB _),cC]
 |n+1,j+1,f,q,h=>by
  rw[YF,h 0 (lI _) (jB _).symm,cz];exact ZbI n j (fun t=>f (t+1)) (cO q) fun t J M=>h (t+1) (gZ J) fun z=>M (dw z)
theorem ZeP (j:Nat):∀(R:List (List Int)) (a:List Int),co (W1 a R) j=YF R.length fun t=>co a t*co (ro R t) j
 | [],a=>by rw[W1,YR];rfl
 |r::q,a=>by
  rw[ZU,ZeP j q a.tail,Zi,YF,ZaP];congr 1;refine Wc _ _ _ fun t J=>?_;rw[Zko,ZaQ]
noncomputable def YE (n k:Nat):List Int:=(ac n).map fun t=>if t=k then 1 else 0
theorem Zbm {n k t:Nat}(h:t<n):co (YE n k) t=if t=k then 1 else 0:=by
 unfold YE co;rw[Zb,Zc,ao h];rfl
noncomputable def stN (step:Nat):List Int->Nat->List Int->List Int
 | [],_,ZG=>ZG
 |x::j,k,ZG=>stN step j (k+1) (ZG.set (k*step) x)
noncomputable def stM (j:List Int)(step:Nat):List Int:=stN step j 0 (ak ((j.length-1)*step+1) 0)
theorem Zd3 (step:Nat):∀(j:List Int) (k:Nat) (ZG:List Int),(stN step j k ZG).length=ZG.length
 | [],k,ZG=>rfl
 |x::q,k,ZG=>by rw[stN,Zd3 step q,bA]
theorem Zd4 (j:List Int)(step:Nat):(stM j step).length=(j.length-1)*step+1:=by unfold stM;rw[Zd3,Ze]
noncomputable def UM:List Int->Nat->Int->List Int->List Int
 | [],_,_,rest=>rest
 |d::j,b,c,rest=>UM j (b+1) c (rest.set b (co rest b-c*d))
theorem ZeC:∀(ds:List Int) (b:Nat) (c:Int) (rest:List Int),(UM ds b c rest).length=rest.length
 | [],b,c,rest=>rfl
 |d::ds,b,c,rest=>by rw[UM,ZeC ds,bA]
noncomputable def Zhd (ds:List Int)(top:Nat):Nat->List Int->List Int->List Int
 |0,found,_=>found
 |k+1,found,rest=>Zhd ds top k (found.set k (co rest (k+top))) (UM ds k (co rest (k+top)) rest)
noncomputable def ZeA (j ds:List Int):List Int:=Zhd ds (ds.length-1) (j.length-(ds.length-1)) (ak (j.length-(ds.length-1)) 0) j
theorem Zix {a:List Int}{i k:Nat}{v:Int}:co (a.set i v) k=if i=k/\i<a.length then v else co a k:=by
 unfold co;rw[Zb,i8,Zb];by_cases h:i=k
 ·subst h
  by_cases j:i<a.length
  ·rw[if_pos rfl,if_pos j,if_pos ⟨rfl,j⟩];rfl
  ·rw[if_pos rfl,if_neg j,if_neg fun z=>j z.2,ah (by omega)]
 ·rw[if_neg h,if_neg fun z=>h z.1]
theorem Zdm (c:Int):∀(ds:List Int) (b:Nat) (rest:List Int) (i:Nat),b+ds.length<=rest.length->co (UM ds b c rest) i=if b<=i/\i<b+ds.length then co rest i-c*co ds (i-b) else co rest i
 | [],b,rest,i,h=>by rw[UM,if_neg (by rw[jI];omega)]
 |d::ds,b,rest,i,h=>by
  rw[Zi] at h ⊢;rw[UM,Zdm c ds (b+1) _ i (by rw[bA];omega),Zix];by_cases j:i=b
  ·subst j
   rw[if_neg (by omega),if_pos ⟨rfl,by omega⟩,if_pos ⟨Zq _,by omega⟩,de,YL]
  ·rw[if_neg (show ¬(b=i/\b<rest.length) from fun z=>j z.1.symm)]
   by_cases q:b+1<=i/\i<b+1+ds.length
   ·rw[if_pos q,if_pos ⟨by omega,by omega⟩,show i-b=(i-(b+1))+1 by omega,Wz]
   ·rw[if_neg q,if_neg (by omega)]
theorem ZhU (d:Int)(ds:List Int)(R:List (List Int))(b j:Nat):co (W1 (d::ds) (R.drop b)) j=d*co (ro R b) j+co (W1 ds (R.drop (b+1))) j:=by
 by_cases h:b<R.length
 ·rw[bS h,ZU,YL,dA]
  congr 2;unfold ro;rw[Zb,Zf h];rfl
 ·rw[fw (by omega),fw (by omega)]
  unfold ro;rw[Zb,ah (by omega)];show co (W1 (d::ds) []) j=d*co [] j+co (W1 ds []) j;rw[W1,W1,YR,cB,cC]
theorem ZeQ (c:Int)(R:List (List Int))(j:Nat):∀(ds:List Int) (b:Nat) (rest:List Int),b+ds.length<=rest.length->co (W1 (UM ds b c rest) R) j=co (W1 rest R) j-c*co (W1 ds (R.drop b)) j
 | [],b,rest,h=>by rw[UM,XA,cB,lM]
 |d::ds,b,rest,h=>by
  rw[Zi] at h;rw[UM,ZeQ c R j ds (b+1) _ (by rw[bA];omega),Za8 j _ rest b R (by omega),ZhU,Int.mul_add];have e:(co rest b-c*d-co rest b)*co (ro R b) j=- (c*(d*co (ro R b) j)):=by
   rw[show co rest b-c*d-co rest b=-(c*d) by omega,gH,ci]
  rw[e];omega
noncomputable def J6 (s:List Int×Int)(p:Int):List Int×Int:=(ZeA (stM s.1 p.toNat) s.1,s.2*p)
noncomputable def WY (n:Nat)(j:List Int):List Int:=stM (j.foldl J6 ([-1,1],1)).1 ((n:Int) / (j.foldl J6 ([-1,1],1)).2).toNat
noncomputable def small (a:List Int):Bool:=a.all fun x=>decide (x.natAbs<=100)
noncomputable def ZjZ (s:List Int×Int):Bool:=small s.1 && decide (2<=s.1.length) && decide (s.1.length<=61) && decide (1<=s.2) && decide (s.2<=60)
noncomputable def Xz (s:List Int×Int):List Int->Bool
 | []=>ZjZ s
 |p::j=>ZjZ s && decide (2<=p) && decide (p<=60) && Xz (J6 s p) j
noncomputable def WH (j:List Int)(top:Nat)(r:List Int):List Int:=UO (0::r.take (top-1)) (vsc (- co r (top-1)) (j.take top))
noncomputable def Z9 (j:List Int)(top:Nat):Nat->List Int->List (List Int)
 |0,_=>[]
 |m+1,r=>r::Z9 j top m (WH j top r)
noncomputable def RT (n:Nat)(j:List Int):List (List Int):=Z9 (WY n j) ((WY n j).length-1) n (YE ((WY n j).length-1) 0)
noncomputable def Zku (a:List Int):Bool:=a.all fun x=>x == 0
noncomputable def VW (n:Nat)(j:List Int):List Nat:=j.map fun p=>n / p.toNat
noncomputable def Xg (n:Nat)(R:List (List Int))(j s:Nat):Nat->List Int
 |0=>[]
 |m+1=>UO (Xg n R j s m) (ro R ((j+m*s) % n))
theorem Zbn {a:List Int}(h:Zku a=true)(i:Nat):co a i=0:=by
 by_cases j:i<a.length
 ·have:=Wg j
  have q:=aD.mp h _ (av this);simpa using q
 ·exact J1 (by omega)
theorem Uy {a:List Int}(h:small a=true)(i:Nat):(co a i).natAbs<=100:=by
 by_cases j:i<a.length
 ·have:=Wg j
  have q:=aD.mp h _ (av this);simpa using q
 ·rw[J1 (by omega)];decide
structure Good (n:Nat)(ps least:List Int)(top:Nat)(R:List (List Int)):Prop where
 n1:1<=n
 ls:Xz ([-1,1],1) ps=true
 l2:least.length=top+1
 t1:1<=top
 tn:top<=n
 sm:small least=true
 mon:co least top=1
 len:R.length=n
 rsm:∀i j,(co (ro R i) j).natAbs<=100
 rlen:∀i,i<n->(ro R i).length=top
 un:∀k,k<top->ro R k=YE top k
 tails:∀m,m<n-top->∀j,co (W1 least (R.drop m)) j=0
 look:∀k,k<n->∀t,t<n->UN n (VW n ps) (fun t=>co (ro R k) t-if t=k then 1 else 0) t=0
 row:∀p∈ps,∀a,a<n->∀j,co (Xg n R a (n / p.toNat) p.toNat) j=0
 nz:∀k,k<n->∃j,j<top/\co (ro R k) j≠0
 div:∀p∈ps,p.toNat*(n / p.toNat)=n
theorem ZnY {R:List (List Int)}{i:Nat}(h:R.length<=i):ro R i=[]:=by
 unfold ro;rw[Zb,ah h];rfl
noncomputable def ZoB {β:Type}(x:Int)(k:Int->β):β:=match x with
 | .ofNat m=>(match m with
  |0=>k (.ofNat 0)
  |m+1=>k (.ofNat (m+1)))
 | .negSucc m=>(match m with
  |0=>k (.negSucc 0)
  |m+1=>k (.negSucc (m+1)))
theorem Zki {β:Type}(x:Int)(k:Int->β):ZoB x k=k x:=by
 cases x with
 |ofNat m=>cases m <;> rfl
 |negSucc m=>cases m <;> rfl
noncomputable def fL {β:Type}:List Int->(List Int->β)->β
 | [],k=>k []
 |x::j,k=>ZoB x fun y=>fL j fun q=>k (y::q)
theorem ZcF {β:Type}:∀(a:List Int) (k:List Int->β),fL a k=k a
 | [],k=>rfl
 |x::j,k=>by rw[fL,Zki,ZcF j]
noncomputable def nx (j:List Int)(top:Nat):Nat->List Int->List Int
 |0,r=>r
 |m+1,r=>nx j top m (WH j top r)
noncomputable def nxB (j:List Int)(top:Nat):Nat->List Int->(List Int->Bool)->Bool
 |0,r,k=>k r
 |m+1,r,k=>fL (WH j top r) fun q=>nxB j top m q k
theorem ZhI (j:List Int)(top:Nat):∀(m:Nat) (r:List Int) (k:List Int->Bool),nxB j top m r k=k (nx j top m r)
 |0,r,k=>rfl
 |m+1,r,k=>by rw[nxB,ZcF,ZhI j top m,nx]
noncomputable def Zet (j:List Int)(top:Nat):Nat->Nat->List Int->Bool
 |0,_,r=>decide (r=YE top 0)
 |m+1,k,r=>small r && decide (r.length=top) && (decide (top<=k) || decide (r=YE top k)) && fL (WH j top r) (Zet j top m (k+1))
noncomputable def ZiY (q:List Int)(top s:Nat):Nat->List Int->List Int->Bool
 |0,_,ZG=>Zku ZG
 |j+1,r,ZG=>fL (UO ZG r) fun J=>nxB q top s r fun M=>ZiY q top s j M J
noncomputable def ZoU (n:Nat)(q:List Int)(j:List Int)(top:Nat):Bool:=
 decide (2<=j.length) && decide (top+1<=n\/(n=1/\top=1)) && small j && decide (co j top=1) && Zet j top n 0 (YE top 0) && Zku (W1 j (Z9 j top (top+1) (YE top 0))) &&
  (decide (n=1) || Zku (Zmr n (VW n q) (j++ak (n-(top+1)) 0))) && q.all (fun p=>decide (p.toNat*(n / p.toNat)=n) && ZiY j top (n / p.toNat) p.toNat (YE top 0) [])
noncomputable def chk (n:Nat)(q:List Int):Bool:=Xz ([-1,1],1) q && fL (WY n q) fun j=>ZoU n q j (j.length-1)
theorem V6 (j:List Int)(top:Nat):∀(m:Nat) (r:List Int),(Z9 j top m r).length=m
 |0,r=>rfl
 |m+1,r=>by rw[Z9,Zi,V6 j top m]
theorem Jh (j:List Int)(top:Nat):∀(m:Nat) (r:List Int),nx j top (m+1) r=WH j top (nx j top m r)
 |0,r=>rfl
 |m+1,r=>by rw[nx,Jh j top m (WH j top r),nx]
theorem ZhH (j:List Int)(top a:Nat):∀(b:Nat) (r:List Int),nx j top (a+b) r=nx j top b (nx j top a r)
 |0,r=>rfl
 |b+1,r=>by rw[Nat.add_succ,Jh,Jh,ZhH j top a b r]
theorem Zev (j:List Int)(top:Nat):∀(m:Nat) (r:List Int) (k:Nat),k<m->ro (Z9 j top m r) k=nx j top k r
 |0,r,k,h=>absurd h (fh _)
 |m+1,r,0,h=>by rw[Z9,ZaP,nx]
 |m+1,r,k+1,h=>by rw[Z9,ZaQ,Zev j top m _ k (cO h),nx]
theorem ZbX (j:List Int)(top:Nat):∀(m k:Nat) (r:List Int),Zet j top m k r=true->
  nx j top m r=YE top 0/\∀i,i<m->small (nx j top i r)=true/\(nx j top i r).length=top/\(k+i<top->nx j top i r=YE top (k+i))
 |0,k,r,h=>⟨of_decide_eq_true h,fun i J=>absurd J (fh _)⟩
 |m+1,k,r,h=>by
  rw[Zet,ZcF] at h;simp only[ag,decide_eq_true_eq,aZ] at h;obtain⟨⟨⟨M,O⟩,q⟩,U⟩:=h;obtain⟨Y,g2⟩:=ZbX j top m (k+1) _ U;refine⟨by rw[nx];exact Y,fun i J=>?_⟩;cases i with
  |zero=>
   refine⟨M,O,fun z=>?_⟩;rcases q with q|q
   ·omega
   ·exact q
  |succ i=>
   obtain⟨q1,q2,q3⟩:=g2 i (cO J);rw[nx];exact⟨q1,q2,fun z=>by rw[q3 (by omega)];congr 1;omega⟩
theorem JT (j:List Int)(top:Nat)(r:List Int)(i:Nat):co (WH j top r) i=(if i=0\/top<=i then 0 else co r (i-1))-co r (top-1)*co (j.take top) i:=by
 have e:co (0::r.take (top-1)) i=if i=0\/top<=i then 0 else co r (i-1):=by
  cases i with
  |zero=>rw[YL,if_pos (.inl rfl)]
  |succ i=>
   rw[Wz,dP];by_cases h:i<top-1
   ·rw[if_neg (by omega)]
    unfold co;rw[Zb,Zb,iV,if_pos h]
   ·rw[if_pos (by omega)]
    exact J1 (by rw[bZ];omega)
 unfold WH;rw[XG,ZdJ,e,gH];omega
theorem X1 (j:List Int)(top:Nat){r:List Int}(h:∀i,co r i=0)(i:Nat):co (WH j top r) i=0:=by
 rw[JT,h,h,bW];split <;> rfl
theorem Zci (j:List Int)(top:Nat)(i:Nat):∀(Q:List (List Int)) (a:List Int),co (WH j top (W1 a Q)) i=co (W1 a (Q.map (WH j top))) i
 | [],a=>by
  rw[fv];refine (X1 j top (fun t=>?_) i).trans ?_
  ·rw[W1];exact YR t
  ·rw[W1];exact (YR i).symm
 |q::J,a=>by
  rw[aL,ZU,<-Zci j top i J a.tail,JT,JT,JT,ZU,ZU];by_cases h:i=0\/top<=i
  ·rw[if_pos h,if_pos h,if_pos h,mr,jQ,ci]
   omega
  ·rw[if_neg h,if_neg h,if_neg h,mr,jQ,ci]
   omega
theorem ZbW (j:List Int)(top:Nat):∀(m:Nat) (r:List Int),(Z9 j top m r).map (WH j top)=Z9 j top m (WH j top r)
 |0,r=>rfl
 |m+1,r=>by rw[Z9,aL,ZbW j top m,Z9]
theorem Zcs (q:List Int)(top j:Nat):∀(a:List Int) (m:Nat) (r:List Int),a.length<=m->co (W1 a (Z9 q top m r)) j=co (W1 a (Z9 q top a.length r)) j
 | [],m,r,h=>by rw[XA,XA]
 |x::a,0,r,h=>absurd h (Nat.not_succ_le_zero _)
 |x::a,m+1,r,h=>by
  rw[Zi,Z9,Z9,ZU,ZU,dA,Zcs q top j a m _ (Nat.le_of_succ_le_succ h)]
theorem Zal (j:List Int)(top:Nat):∀(b m:Nat) (r:List Int),(Z9 j top m r).drop b=Z9 j top (m-b) (nx j top b r)
 |0,m,r=>by rw[List.drop_zero,fF,nx]
 |b+1,0,r=>by rw[Nat.zero_sub,Z9,Z9,List.drop_nil]
 |b+1,m+1,r=>by rw[Z9,List.drop_succ_cons,Zal j top b m,nx,Nat.add_sub_add_right]
theorem ZbE (q:List Int)(top:Nat){r:List Int}(h:∀j,co (W1 q (Z9 q top q.length r)) j=0):∀(m j:Nat),co (W1 q (Z9 q top q.length (nx q top m r))) j=0
 |0,j=>h j
 |m+1,j=>by
  rw[Jh,<-ZbW,<-Zci];exact X1 q top (fun i=>ZbE q top h m i) j
theorem Zd2 (q:List Int)(top s:Nat):∀(j:Nat) (r ZG:List Int),ZiY q top s j r ZG=true->∀i,co ZG i+YF j (fun t=>co (nx q top (t*s) r) i)=0
 |0,r,ZG,h,i=>by rw[YF,cC];exact Zbn h i
 |j+1,r,ZG,h,i=>by
  rw[ZiY,ZcF,ZhI] at h;have:=Zd2 q top s j _ _ h i;rw[XG] at this;rw[YF,f7,nx];have e:(YF j fun t=>co (nx q top ((t+1)*s) r) i)=YF j fun t=>co (nx q top (t*s) (nx q top s r)) i:=by
   refine Wc _ _ _ fun t _=>?_;rw[<-ZhH,cy,Nat.add_comm]
  rw[e];omega
theorem Ux (n:Nat)(R:List (List Int))(a s i:Nat):∀m:Nat,co (Xg n R a s m) i=YF m fun t=>co (ro R ((a+t*s) % n)) i
 |0=>by rw[Xg,YR];rfl
 |m+1=>by
  have j:∀(m:Nat) (f:Nat->Int),YF (m+1) f=YF m f+f m:=by
   intro m;induction m with
   |zero=>intro f;rw[YF,YF,YF];omega
   |succ m q=>
    intro f;rw[YF,q,YF];omega
  rw[Xg,XG,Ux n R a s i m,j]
theorem Zms (n s:Nat)(j:0<n)(g:Nat->Int)(t:Nat):lk n s (fun t=>g ((t+(n-1)) % n)) t=lk n s g ((t+(n-1)) % n):=by
 unfold lk;have e:((t+(n-s)) % n+(n-1)) % n=((t+(n-1)) % n+(n-s)) % n:=by
  rw[iq,iq];congr 1;omega
 show g ((t+(n-1)) % n)-g (((t+(n-s)) % n+(n-1)) % n)=_;rw[e]
theorem ZeM (n:Nat)(q:0<n):∀(j:List Nat) (g:Nat->Int) (t:Nat),UN n j (fun t=>g ((t+(n-1)) % n)) t=UN n j g ((t+(n-1)) % n)
 | [],g,t=>rfl
 |s::j,g,t=>by
  show UN n j (lk n s fun t=>g ((t+(n-1)) % n)) t=UN n j (lk n s g) ((t+(n-1)) % n);rw[<-ZeM n q j (lk n s g) t];congr 1;funext u;exact Zms n s q g u
theorem Zkb {n:Nat}{U:List Int}(n1:1<=n)(h:chk n U=true):Good n U (WY n U) ((WY n U).length-1) (RT n U):=by
 unfold chk at h;rw[ag,ZcF] at h;obtain⟨a1,h⟩:=h;unfold RT;generalize WY n U=q at h ⊢;generalize M:q.length-1=top at h ⊢;unfold ZoU at h;simp only[ag,aZ,decide_eq_true_eq,aD] at h;obtain⟨⟨⟨⟨⟨⟨⟨h1,h2⟩,h3⟩,h4⟩,h5⟩,h6⟩,h7⟩,h8⟩:=h;have ll:q.length=top+1:=by omega
 obtain⟨n4,rr⟩:=ZbX q top n 0 _ h5;have J:∀k,k<n->ro (Z9 q top n (YE top 0)) k=nx q top k (YE top 0):=fun k O=>Zev q top n _ k O;have tl:∀m j,co (W1 q (Z9 q top q.length (nx q top m (YE top 0)))) j=0:=fun m j=>ZbE q top (fun j=>by rw[ll];exact Zbn h6 j) m j;have t1:1<=top:=by omega
 have tn:top<=n:=by omega
 have u0:∀i,co (YE top 0) i=if i=0 then 1 else 0:=fun i=>by
  by_cases Y:i<top
  ·exact Zbm Y
  ·rw[J1 (by unfold YE;rw[Za,Zg];omega),if_neg (by omega)]
 have o0:∀k,nx q top ((k+1) % n) (YE top 0)=WH q top (nx q top (k % n) (YE top 0)):=fun k=>by
  rw[<-Jh];have O:=cm k (show n > 0 by omega);by_cases hc:k % n+1<n
  ·rw[<-iq,bK hc]
  ·have e:k % n+1=n:=by omega
   rw[<-iq,e,Nat.mod_self,n4,nx]
 refine⟨n1,a1,ll,t1,tn,h3,h4,V6 ..,fun i j=>?_,fun i Y=>by rw[J i Y];exact (rr i Y).2.1,fun k O=>?_,fun m hm j=>?_,?_,fun p hp a ha j=>?_,fun k O=>?_,fun p hp=>(h8 p hp).1⟩
 ·by_cases Y:i<n
  ·rw[J i Y]
   exact Uy (rr i Y).1 j
  ·rw[ZnY (by rw[V6];omega),YR];decide
 ·rw[J k (by omega)]
  have:=(rr k (by omega)).2.2 (by omega);rw[this,je]
 ·rw[Zal,Zcs q top j q _ _ (by omega)]
  exact tl m j
 ·
  have base:∀t,t<n->top+1<=n->UN n (VW n U) (co q) t=0:=fun t M h2=>by
   have h7:=h7.resolve_left (by omega);have e:=Ze6 (n:=n) (VW n U) (q++ak (n-(top+1)) 0) (by rw[Zd,Ze];omega) t M;rw[Zbn h7 t] at e;refine Eq.trans (Jb n (by omega) _ _ _ (fun s hs=>?_) t M) e.symm;unfold co;rw[Zb,Zb,List.getElem?_append];by_cases n6:s<q.length
   ·rw[if_pos n6]
   ·rw[if_neg n6,ah (by omega),b8]
    split <;> rfl
  intro k;induction k with
  |zero=>
   intro O t M;refine Eq.trans (Jb n (by omega) _ _ (fun _=>0) (fun s hs=>?_) t M) (Zcr n _ t);rw[J 0 O,nx,u0];split <;> rfl
  |succ k ih=>
   intro O t M;have o5:top+1<=n:=by omega
   have o6:=ih (by omega);have hl:(nx q top k (YE top 0)).length=top:=(rr k (by omega)).2.1;have e:∀s,s<n->co (ro (Z9 q top n (YE top 0)) (k+1)) s-(if s=k+1 then 1 else 0) =
     (fun s=>(fun t=>co (ro (Z9 q top n (YE top 0)) k) t-if t=k then 1 else 0) ((s+(n-1)) % n)) s+(- co (nx q top k (YE top 0)) (top-1))*co q s:=fun s hs=>by
    rw[J (k+1) O,J k (by omega),Jh,JT];have ct:co (q.take top) s=if s<top then co q s else 0:=by
     by_cases h:s<top
     ·rw[if_pos h]
      unfold co;rw[Zb,Zb,iV,if_pos h]
     ·rw[if_neg h]
      exact J1 (by rw[bZ];omega)
    rw[ct];show _=co (nx q top k (YE top 0)) ((s+(n-1)) % n)-(if (s+(n-1)) % n=k then 1 else 0)+(- co (nx q top k (YE top 0)) (top-1))*co q s
    cases s with
    |zero=>
     have e0:(0+(n-1)) % n=n-1:=by rw[je];exact bK (by omega)
     have c1:¬(0=k+1):=by omega
     have c2:¬(n-1=k):=by omega
     have c3:0<top:=t1;rw[e0,if_pos (.inl rfl),if_pos c3,if_neg c1,if_neg c2,J1 (a:=nx q top k (YE top 0)) (i:=n-1) (by omega),gH];omega
    |succ s=>
     have e1:(s+1+(n-1)) % n=s:=by
      rw[show s+1+(n-1)=s+n by omega,no,bK (by omega)]
     rw[e1,dP];have ei:(if s+1=k+1 then (1:Int) else 0)=if s=k then 1 else 0:=by
      by_cases z:s=k
      ·rw[if_pos z,if_pos (by omega)]
      ·rw[if_neg z,if_neg (by omega)]
     rw[ei,gH];by_cases c1:s+1<top
     ·rw[if_neg (by omega),if_pos c1]
      omega
     ·rw[if_pos (.inr (by omega)),if_neg c1,cB]
      by_cases c2:s+1=top
      ·have:co q (s+1)=1:=by rw[c2];exact h4
       rw[this,show top-1=s by omega,iJ];omega
      ·rw[J1 (a:=q) (by omega),J1 (a:=nx q top k (YE top 0)) (i:=s) (by omega),cB]
       omega
   rw[Jb n (by omega) _ _ _ e t M,ZeN n _ (fun s=>(fun t=>co (ro (Z9 q top n (YE top 0)) k) t-if t=k then 1 else 0) ((s+(n-1)) % n)) (fun s=>(- co (nx q top k (YE top 0)) (top-1))*co q s) t,ZeM n (by omega) _ (fun t=>co (ro (Z9 q top n (YE top 0)) k) t-if t=k then 1 else 0) t,ZhT,base t M o5,
    o6 _ (cm _ (by omega)),cB,cC]
 ·
  rw[Ux];have hb:=Zd2 q top (n / p.toNat) p.toNat _ _ (h8 p hp).2;have hd:=(h8 p hp).1;have o7:∀a,a<n->∀i,(YF p.toNat fun t=>co (nx q top ((a+t*(n / p.toNat)) % n) (YE top 0)) i)=0:=by
   intro a;induction a with
   |zero=>
    intro _ i;have:=hb i;rw[YR,cz] at this;rw[<-this];refine Wc _ _ _ fun t M=>?_;have:t*(n / p.toNat)<n:=by
     have:t*(n / p.toNat)+(n / p.toNat)<=p.toNat*(n / p.toNat):=by
      rw[<-cy];exact df _ M
     have o9:0<n / p.toNat:=by
      rcases Nat.eq_zero_or_pos (n / p.toNat) with z|z
      ·rw[z,Nat.mul_zero] at hd;omega
      ·exact z
     omega
    rw[je,bK this]
   |succ a ih=>
    intro ha i;have n8:=ih (by omega);have e:(YF p.toNat fun t=>co (nx q top ((a+1+t*(n / p.toNat)) % n) (YE top 0)) i)=YF p.toNat fun t=>co (WH q top (nx q top ((a+t*(n / p.toNat)) % n) (YE top 0))) i:=by
     refine Wc _ _ _ fun t _=>?_;rw[show a+1+t*(n / p.toNat)=a+t*(n / p.toNat)+1 by omega,o0]
    have n9:∀(m:Nat) (f g:Nat->Int) (c:Int),YF m (fun t=>f t-g t*c)=YF m f-YF m g*c:=by
     intro m;induction m with
     |zero=>intro f g c;simp[YF]
     |succ m ih=>intro f g c;rw[YF,YF,YF,ih (fun t=>f (t+1)) (fun t=>g (t+1)) c,mr];omega
    rw[e];simp only[JT];rw[n9 _ (fun t=>if i=0\/top<=i then 0 else co (nx q top ((a+t*(n / p.toNat)) % n) (YE top 0)) (i-1)) (fun t=>co (nx q top ((a+t*(n / p.toNat)) % n) (YE top 0)) (top-1)),n8 (top-1),bW,lM]
    by_cases hc:i=0\/top<=i
    ·simp only[if_pos hc]
     exact XR _ _ fun _ _=>rfl
    ·simp only[if_neg hc]
     exact n8 (i-1)
  rw[<-o7 a ha j];refine Wc _ _ _ fun t M=>?_;rw[J _ (cm _ (by omega))]
 ·
  apply am;intro hz;have z0:∀j,co (nx q top k (YE top 0)) j=0:=fun j=>by
   by_cases hj:j<top
   ·apply am
    intro o8;exact hz ⟨j,hj,by rw[J k O];exact o8⟩
   ·exact J1 (by rw[(rr k O).2.1];omega)
  have all:∀d j,co (nx q top (k+d) (YE top 0)) j=0:=by
   intro d;induction d with
   |zero=>exact z0
   |succ d ih=>intro j;rw[<-Nat.add_assoc,Jh];exact X1 q top ih j
  have:=all (n-k) 0;rw[show k+(n-k)=n by omega,n4,u0,if_pos rfl] at this;cases this
noncomputable def Ja (n top:Nat)(R:List (List Int))(q:List Int):List Int:=(ac top).map fun j=>sig n R j q 0
theorem Zcf (n top:Nat)(R:List (List Int))(j:List Int):(Ja n top R j).length=top:=by unfold Ja;rw[Za,Zg]
theorem Zkp {n top:Nat}{R:List (List Int)}{q:List Int}{j:Nat}(h:j<top):co (Ja n top R q) j=sig n R j q 0:=by
 unfold Ja co;rw[Zb,Zc,ao h];rfl
theorem Zim {a b:List Int}(h:a.length=b.length)(e:∀j,j<a.length->co a j=co b j):a=b:=by
 refine aY fun i=>?_;by_cases q:i<a.length
 ·rw[Wg q,Wg (by omega),e i q]
 ·rw[ah (by omega),ah (by omega)]
section
variable {n:Nat}{ps least:List Int}{top:Nat}{R:List (List Int)}(G:Good n ps least top R)
include G
theorem Zha {cur:List Int}{k:Nat}(q:cur.length=n)(J:k<n)(M:top<=k):(UM least (k-top) (co cur k) cur).length=n/\(∀j,co (W1 (UM least (k-top) (co cur k) cur) R) j=co (W1 cur R) j)/\
  co (UM least (k-top) (co cur k) cur) k=0/\∀t,k<t->co (UM least (k-top) (co cur k) cur) t=co cur t:=by
 have hb:k-top+least.length<=cur.length:=by rw[G.l2,q];omega
 have O:=G.l2;refine⟨by rw[ZeC,q],fun j=>?_,?_,fun t U=>?_⟩
 ·rw[ZeQ _ _ _ _ _ _ hb,G.tails (k-top) (by omega) j,cB,lM]
 ·rw[Zdm _ _ _ _ _ hb,if_pos ⟨by omega,by omega⟩,show k-(k-top)=top by omega,G.mon,iJ,Int.sub_self]
 ·rw[Zdm _ _ _ _ _ hb,if_neg (by omega)]
theorem Zjd {cur f:List Int}(hl:cur.length=n)(hz:∀t,top<=t->co cur t=0)(hP:∀j,co (W1 cur R) j=co (W1 f R) j)(Y:List Int)(hf:f=ZcD n Y):cur.take top=Ja n top R Y:=by
 have q:(cur.take top).length=top:=by rw[bZ,hl];have:=G.tn;omega
 refine Zim (by rw[q,Zcf]) fun j J=>?_;rw[q] at J;have M:0<n:=G.n1;rw[Zkp J,<-ZfL n M,<-hf,<-hP j,ZeP];have O:j<n:=aC J G.tn;rw[ZbI _ j _ (by rw[G.len];exact O) fun t ht U=>?_]
 ·rw[G.un j J,Zbm J,if_pos rfl,iJ]
  unfold co;rw[Zb,Zb,iV,if_pos J]
 ·by_cases h:t<top
  ·rw[G.un t h,Zbm J,if_neg (bJ U),cB]
  ·rw[hz t (by omega),bW]
end
section
variable {n:Nat}{ps least:List Int}{top:Nat}{R:List (List Int)}(G:Good n ps least top R)
include G
end
end Num
set_option maxHeartbeats 4000000
namespace N39
open PySem L2 PySem.Spec PyProof.Rows
open Num
noncomputable abbrev ZnQ:Stmt:=top 18
noncomputable abbrev ZnR:Stmt:=top 19
noncomputable abbrev Zg0:Stmt:=top 20
noncomputable abbrev ZgY:Stmt:=top 21
structure Bl2 (mg:Str->Option Value):Prop where
 enumerate:mg "enumerate"=none
 max:mg "max"=none
theorem Zbe {a:List Int}{i:Nat}(h:i<a.length):XO (a.map V.int) (i:Int)=some (.int (co a i)):=ZO (by rw[Zc,Wg h];rfl)
theorem JN (a:List Int)(i:Nat)(v:Int):(a.map V.int).set i (V.int v)=(a.set i v).map V.int:=by rw[List.map_set]
theorem Wh {a:List Int}{i:Nat}{y:V}(h:(a.map V.int)[i]?=some y):i<a.length/\y=.int (co a i):=by
 rw[Zc] at h;by_cases j:i<a.length
 ·rw[Wg j] at h
  exact⟨j,(ay h).symm⟩
 ·rw[ah (by omega)] at h
  cases h
theorem JR {n i:Nat}(h:i<n):ixN n (i:Int)=some i:=by
 unfold ixN;rw[if_pos (gm _),if_pos (by omega),Zj]
theorem Zfr (m:Nat):(ak m [V.int 0]).flatten=(ak m (0:Int)).map V.int:=Xr m
theorem VH {X:Cx}:Znb X (fun x y H Q=>∃(p:Addr) (xs:List V) (i:Nat) (v:V),x=.ref p/\y=.int i/\H p=some (.lst xs)/\xs[i]?=some v/\Q v H):=by
 intro J s σ H x y O iv Q I U Y h;obtain⟨p,xs,i,v,rfl,rfl,hp,M,q⟩:=h;cases (show O=aI p from U);obtain⟨t,rfl⟩:=Y;obtain⟨n4,r,pl,hz⟩:=I.list (.of hp);obtain⟨w,ew,j⟩:=r.get M;have hl:=r.length;have hn:=X4;have hi:i<xs.length:=(ae.mp M).1;exact wpAny_getItem_list pl.isList (gm _) (by omega) (by simpa using ew) ⟨v,H,I,j,q⟩
noncomputable def ZkN (K:ab):Sp:=fun J H Q _=>∃(a:Addr) (j:List Int) (st:Nat),J=[.ref a,.int st]/\Wr K H a (j.map V.int)/\1<=j.length/\(j.length-1)*st<=100000/\j.length<=1000/\st<=1000/\∀l q,Same H q->q l=some (.lst ((stM j st).map V.int))->Q (.ref l) q
section
variable {P:Program}{w:World}{K:ab}{mg:Str->Option Value}{base:Heap}
theorem Zmb {f:Addr}{fd:FuncData}(F:Y5 K "stretched" "stretched" ZnQ f fd)(T:Bl mg)(T2:Bl2 mg):ZR P w K mg base ZT 1 f fd ["powers", "step"] (ZkN K):=by
 refine F.ok (FS (N:=["powers", "step", "wide", "k", "x"])) (fun vs H Q E h=>?_) (fun n8 A n4 s H vs Q E hr h=>?_)
 ·obtain⟨a,j,st,rfl,_⟩:=h;rfl
 ·obtain⟨a,j,st,rfl,hS,hl,hb,n9,o0,q⟩:=h
  refine⟨_,Zu (ZH 2 rfl (Zz Jg (ZS (pc Zw Zs)) (Zz YN (Zz ZV (Zz YU (cb (YB K) T.len (pc (vn 0) Zs)) Zw) (vn 1)) Zw)))
   (Zu (ZQ aq rfl (Vo K T2.enumerate (pc (vn 0) Zs)) (g2 K 3 4 rfl (gn 3) (gn 4))
    (Zv (ZaW (vn 4) (ZaX (vn 2) (Zz ZV (vn 3) (vn 1)) YY))))
   (Zv (ZD (vn 2)))),?_⟩
  refine⟨(by show 1<=sizeLine;decide),fun l0 n0=>?_⟩;have s0:Same H (upd H l0 (.lst [.int 0])):=Same.upd n0;refine⟨_,rfl,a,_,rfl,.inl (s0.seq hS),_,_,rfl,rfl,_,rfl,_,_,rfl,rfl,.inl ⟨?_,?_⟩,_,_,rfl,rfl,l0,_,_,rfl,rfl,Zt,?_,?_,?_,fun l nl=>?_⟩
  ·rw[Za];omega
  ·rw[Za];omega
  ·rw[Za];have:(0:Int)<=((j.length:Int)-1)*st:=Int.mul_nonneg (by omega) (by omega);omega
  ·rw[Za]
   have:((j.length:Int)-1)*st=(((j.length-1)*st:Nat):Int):=by rw[aV];congr 1;omega
   omega
  ·rw[Za]
   have:((j.length:Int)-1)*st=(((j.length-1)*st:Nat):Int):=by rw[aV];congr 1;omega
   rw[this];show 1*_<=sizeLine;have e:(16777216:Nat)=sizeLine:=by decide
   omega
  have eN:(((j.map V.int).length:Int)-1)*st+1=(((j.length-1)*st+1:Nat):Int):=by
   rw[Za,Int.natCast_add,aV];congr 2;omega
  rw[eN,Zj,Zfr];have n6:H l=none:=s0.free nl;have s1:=s0.trans (Same.upd (o:=.lst ((ak ((j.length-1)*st+1) (0:Int)).map V.int)) nl);refine⟨_,rfl,a,rfl,.inl ⟨⟨_,s1.seq hS⟩,?_⟩⟩;refine Y1 Uq (fun i O Y=>∃(J:List Int) (v3 v4:Option V),O=[some (.ref a),some (.int st),some (.ref l),v3,v4]/\Same H Y/\Y l=some (.lst (J.map V.int))/\J.length=(j.length-1)*st+1/\stN st (j.drop i) i J=stM j st)
   ⟨_,_,_,rfl,s1,Zt,cU ..,rfl⟩ (fun i O Y h=>h.choose_spec.choose_spec.choose_spec.2.1.seq hS) ?_ ?_
  ·rintro i y O Y T' hy ⟨J,v3,v4,rfl,sm,U,hlen,M⟩ nT
   obtain⟨hi,rfl⟩:=Wh hy;refine⟨T',_,rfl,.of Zt,rfl,_,_,rfl,_,_,rfl,rfl,_,rfl,_,rfl,_,rfl,_,rfl,_,_,rfl,rfl,.inl ⟨by omega,by omega⟩,l,_,_,i*st,rfl,rfl,Same.upd nT _ _ U,?_,?_⟩
   rotate_left
   ·have o5:i*st<J.length:=by
     rw[hlen];have:i*st<=(j.length-1)*st:=df _ (by omega);omega
    refine⟨J.set (i*st) (co j i),_,_,rfl,(sm.trans (Same.upd nT)).updr n6,?_,?_,?_⟩
    ·rw[Zt,JN]
    ·rw[bA];exact hlen
    ·rw[<-M]
     have:j.drop i=co j i::j.drop (i+1):=by
      rw[bS hi];congr 1;have:=Wg hi;rw[Zf hi] at this;exact ay this
     rw[this,Num.stN]
   ·rw[Za]
    have:((i:Int)*(st:Int))=((i*st:Nat):Int):=by rw[aV]
    rw[this];refine JR ?_;rw[hlen];have:i*st<=(j.length-1)*st:=df _ (by omega);omega
  ·rintro O Y ⟨J,v3,v4,rfl,sm,U,hlen,M⟩
   rw[Za,eP,Num.stN] at M;rw[M] at U;exact⟨_,rfl,q l Y sm U⟩
end
noncomputable def ZkO (K:ab):Sp:=fun M H Q _=>∃(a b:Addr) (q j:List Int),M=[.ref a,.ref b]/\Wr K H a (q.map V.int)/\Wr K H b (j.map V.int)/\1<=j.length/\j.length<=q.length/\q.length<=100000/\small j=true/\
 ∀l J,Same H J->J l=some (.lst ((ZeA q j).map V.int))->Q (.ref l) J
theorem XE {j:List Int}{i:Nat}(q:i<j.length):j.drop i=co j i::j.drop (i+1):=by
 rw[bS q];congr 1;have:=Wg q;rw[Zf q] at this;exact ay this
theorem Zbf {a:List Int}{i:Nat}(h:i<a.length):(a.map V.int)[i]?=some (.int (co a i)):=by rw[Zc,Wg h];rfl
section
variable {P:Program}{w:World}{K:ab}{mg:Str->Option Value}{base:Heap}
theorem Zmc {f:Addr}{fd:FuncData}(F:Y5 K "quotient" "quotient" ZnR f fd)(T:Bl mg)(T2:Bl2 mg):ZR P w K mg base ZT 1 f fd ["powers", "divisor"] (ZkO K):=by
 refine F.ok (FS (N:=["powers", "divisor", "rest", "top", "found", "k", "j", "x"])) (fun vs H Q E h=>?_) (fun t9 A p8 s H vs Q E hr h=>?_)
 ·obtain⟨a,b,U,ds,rfl,_⟩:=h;rfl
 ·obtain⟨a,b,U,ds,rfl,hA,hB,u5,u9,w8,r6,q⟩:=h
  refine⟨_,Zu (ZH 2 rfl (ct XJ T.list (pc (vn 0) Zs)))
   (Zu (ZH 3 rfl (Zz YU (cb (YB K) T.len (pc (vn 1) Zs)) Zw))
   (Zu (ZH 4 rfl (Zz Jg (ZS (pc Zw Zs)) (Zz YU (cb (YB K) T.len (pc (vn 2) Zs)) (vn 3))))
   (Zu (ZQ aq rfl (ZnZ T.range (pc (Zz YU (cb (YB K) T.len (pc (vn 4) Zs)) Zw) (pc (J0 WS Zw) (pc (J0 WS Zw) Zs)))) (gn 5)
    (Zu (ZaW (ZM (ixL K) (vn 2) (Zz YN (vn 5) (vn 3)) (fun _ _=>rfl)) (ZaX (vn 4) (vn 5) YY))
    (Zv (ZQ aq rfl (Vo K T2.enumerate (pc (vn 1) Zs)) (g2 K 6 7 rfl (gn 6) (gn 7))
     (Zv (Xu (vn 2) (Zz YN (vn 5) (vn 6)) VH (Zz ZV (ZM (ixL K) (vn 4) (vn 5) (fun _ _=>rfl)) (vn 7)) Zh4 YY))))))
   (Zv (ZD (vn 4)))))),?_⟩
  refine⟨_,rfl,a,_,rfl,.inl hA,fun r nr=>?_⟩;have s1:Same H (upd H r (.lst (U.map V.int))):=Same.upd nr;refine⟨_,rfl,b,_,rfl,.inl (s1.seq hB),_,_,rfl,rfl,?_⟩;refine⟨(by show 1<=sizeLine;decide),fun l0 n0=>?_⟩;have s2:=s1.trans (Same.upd (o:=.lst [.int 0]) n0);refine⟨_,rfl,r,_,rfl,.inl (.of (Same.upd n0 _ _ Zt)),_,rfl,_,_,rfl,rfl,l0,_,_,rfl,rfl,Zt,?_,?_,?_,fun l nl=>?_⟩
  ·rw[Za,Za];omega
  ·rw[Za,Za];omega
  ·rw[Za,Za]
   show 1*_<=sizeLine;have e:(16777216:Nat)=sizeLine:=by decide
   omega
  have eN:(((U.map V.int).length:Int)-(((ds.map V.int).length:Int)-1)).toNat=U.length-(ds.length-1):=by rw[Za,Za];omega
  rw[eN,Zfr];have r8:H r=none:=nr;have r9:H l=none:=s2.free nl;have o7:l≠r:=fun z=>by
   rw[z,Zx (fun z2=>by rw[z2,Zt] at n0;cases n0),Zt] at nl;cases nl
  have s3:=s2.trans (Same.upd (o:=.lst ((ak (U.length-(ds.length-1)) (0:Int)).map V.int)) nl);generalize hN:U.length-(ds.length-1)=N at *;have t0:(upd (upd (upd H r (.lst (U.map V.int))) l0 (.lst [.int 0])) l (.lst ((ak N (0:Int)).map V.int))) r=some (.lst (U.map V.int)):=Same.upd nl _ _ (Same.upd n0 _ _ Zt);refine⟨_,rfl,l,_,rfl,.inl (.of Zt),_,_,rfl,rfl,_,rfl,_,rfl,_,_,rfl,⟨by rw[Za,Ze];omega,by rw[Za,Ze];omega,by decide,by decide⟩,?_⟩;rw[Za,Za,Ze];have e2:(((N:Int)-1)-(-1)).toNat=N:=by omega
  rw[e2];refine ZcC (fun i n8 H'=>∃(J rest:List Int) (v5 v6 v7:Option V),n8=[some (.ref a),some (.ref b),some (.ref r),some (.int ((ds.length:Int)-1)),some (.ref l),v5,v6,v7]/\Same H H'/\H' l=some (.lst (J.map V.int))/\H' r=some (.lst (rest.map V.int))/\
    J.length=N/\rest.length=U.length/\Zhd ds (ds.length-1) (N-i) J rest=ZeA U ds)
   ⟨_,_,_,_,_,rfl,s3,Zt,t0,cU ..,rfl,by rw[fF,ZeA,hN]⟩ ?_ ?_
  ·rintro i n8 H' hi ⟨J,rest,v5,v6,v7,rfl,sm,n4,n9,o8,o9,hq⟩
   generalize hk:N-1-i=k;have ek:(N:Int)-1-(i:Int)=(k:Int):=by omega
   rw[ek];have x0:k<N:=by omega
   have t5:N-i=k+1:=by omega
   rw[t5,Zhd] at hq;have p3:k+(ds.length-1)<rest.length:=by omega
   refine⟨_,rfl,_,rfl,_,rfl,_,_,rfl,rfl,r,_,_,.int (co rest (k+(ds.length-1))),rfl,rfl,.of n9,?_,_,rfl,_,rfl,l,_,_,k,rfl,rfl,n4,?_,?_⟩
   ·have:(k:Int)+((ds.length:Int)-1)=((k+(ds.length-1):Nat):Int):=by omega
    rw[this];exact Zbe p3
   ·rw[Za];exact JR (by omega)
   generalize hc:co rest (k+(ds.length-1))=c at hq ⊢;rw[JN];have p4:Same H (upd H' l (.lst ((J.set k c).map V.int))):=sm.updr r9;have t6:(upd H' l (.lst ((J.set k c).map V.int))) r=some (.lst (rest.map V.int)):=by rw[Zx (bJ o7)];exact n9
   have t7:co (J.set k c) k=c:=by rw[Zix,if_pos ⟨rfl,by omega⟩]
   refine⟨_,rfl,b,rfl,.inl ⟨⟨_,p4.seq hB⟩,?_⟩⟩;refine Y1 Uq (fun j M O=>∃(cur:List Int) (u6 u7:Option V),M=[some (.ref a),some (.ref b),some (.ref r),some (.int ((ds.length:Int)-1)),some (.ref l),some (.int k),u6,u7]/\Same H O/\O l=some (.lst ((J.set k c).map V.int))/\O r=some (.lst (cur.map V.int))/\
     cur.length=U.length/\UM (ds.drop j) (k+j) c cur=UM ds k c rest)
    ⟨_,_,_,rfl,p4,Zt,t6,o9,rfl⟩ (fun j M O h=>h.choose_spec.choose_spec.choose_spec.2.1.seq hB) ?_ ?_
   ·rintro j y M O T' hy ⟨cur,u6,u7,rfl,o0,Y,o5,o6,n6⟩ nT
    obtain⟨hj,rfl⟩:=Wh hy;have kj:k+j<cur.length:=by omega
    have p6:=Same.upd (o:=.tup [.int j,.int (co ds j)]) nT _ _ o5;have p7:=Same.upd (o:=.tup [.int j,.int (co ds j)]) nT _ _ Y;have cb:=Uy r6 j;refine⟨T',_,rfl,.of Zt,rfl,_,_,rfl,_,_,rfl,rfl,_,rfl,_,rfl,_,rfl,_,_,rfl,rfl,r,_,k+j,.int (co cur (k+j)),rfl,congrArg V.int (by omega),p6,Zbf kj,
     _,rfl,_,rfl,l,_,_,.int c,rfl,rfl,.of p7,?_,_,rfl,_,_,rfl,rfl,.inr ⟨by omega,by omega⟩,_,_,rfl,rfl,r,_,_,k+j,rfl,congrArg V.int (show (k:Int)+(j:Int)=((k+j:Nat):Int) by omega),p6,?_,?_⟩
    ·have:=Zbe (a:=J.set k c) (i:=k) (by rw[bA];omega)
     rw[t7] at this;exact this
    ·rw[Za];exact JR kj
    ·refine⟨cur.set (k+j) (co cur (k+j)-c*co ds j),_,_,rfl,(o0.trans (Same.upd nT)).updr r8,?_,?_,?_,?_⟩
     ·rw[Zx o7];exact p7
     ·rw[Zt,JN]
     ·rw[bA];exact o6
     ·rw[<-n6,XE hj,Num.UM]
      rfl
   ·rintro M O ⟨cur,u6,u7,rfl,o0,Y,o5,o6,n6⟩
    rw[Za,eP,Num.UM] at n6;refine⟨J.set k c,cur,_,_,_,rfl,o0,Y,o5,by rw[bA];exact o8,o6,?_⟩;rw[show N-(i+1)=k by omega,n6];exact hq
  ·rintro n8 H' ⟨J,rest,v5,v6,v7,rfl,sm,n4,n9,o8,o9,hq⟩
   rw[de,Num.Zhd] at hq;rw[hq] at n4;exact⟨_,rfl,q l H' sm n4⟩
end
end N39
namespace L2
open PySem PySem.Spec PyProof.Rows
section
variable {X:Cx}
noncomputable def Zh7 (K:ab)(Y:TA):TI:=fun σ H R=>Y σ H fun vs M=>∃a q j,vs=[.ref a]/\(Wr K j a q\/WM K j a q)/\Same j M/\∀J O,ZiO J O q->(∀U,Same j U->O U)->R J M
theorem ZmN {elts:List Expr}{x1}{pt:Pos}{l:Expr}{ta:TA}{p pos:Pos}(hm:X.mg "enumerate"=none)(ha:PA X [l] ta)(hg:YO X.env.scope "enumerate"=true:=by kernel_rfl)(hs:starEach [l] X.env=[(false,eval l X.env)]:=by rfl) :
  PI X (.Tuple elts x1 pt) (.Call (.Name "enumerate" p) [l] [] pos) (Zh7 X.K ta):=by
 intro M s σ H R I h;refine Call_ (WZ I (JB hg) hm (show bootBuiltins "enumerate"=some (.type "enumerate") by kernel_rfl) (bn (Yi (ha pos M s σ H _ I h) fun us s1 ⟨vs,H1,j,r1,q1⟩=>?_) hs rfl));obtain⟨a,xs,Hx,e,J,sm,q⟩:=q1;subst e;cases r1 with
 |cons r rr=>
  cases rr;cases (show _=aI a from r);have sz:∀b,b∈[s1.heap.objs.size+1,s1.heap.objs.size]->s1.heap.objs.size<=b:=fun b hb=>by
   rcases aF.mp hb with rfl|hb
   ·exact gG _
   ·have:b=s1.heap.objs.size:=by simpa using hb
    rw[this];exact Zq _
  rcases J with J|J
  ·obtain⟨O,rv,p,hz⟩:=j.list (sm.seq J)
   refine call_enumerate_list p.isList fun g ge U gs Y=>eK ge ?_;exact⟨_,[s1.heap.objs.size+1,s1.heap.objs.size],_,_,H1,rfl,j.kept (t':=s1.toks) Y,VR a _ _ (bt (dE _)),⟨⟨_,ge⟩,U⟩,fun b hb=>j.fpOk (sz b hb) (j.hok.fresh (sz b hb)),q _ _ Uq fun H' s'=>s'.seq J⟩
  ·obtain⟨O,rv,p,hz⟩:=j.tuple (sm.tup J)
   refine PyY.UH (show s1.heap.IsTuple a O.toArray from p) fun g ge U gs Y=>eK ge ?_;exact⟨_,[s1.heap.objs.size+1,s1.heap.objs.size],_,_,H1,rfl,j.kept (t':=s1.toks) Y,VQ a _ _ (bt (dE _)),⟨⟨_,ge⟩,U⟩,fun b hb=>j.fpOk (sz b hb) (j.hok.fresh (sz b hb)),q _ _ Uo fun H' s'=>s'.tup J⟩
theorem Zio (K:ab){elts:List Expr}{q}{pt:Pos}{l:Expr}{j:TA}{p pos:Pos}(J:X.mg "enumerate"=none)(M:PA X [l] j)(O:X.K=K:=by rfl)(U:YO X.env.scope "enumerate"=true:=by kernel_rfl)(Y:starEach [l] X.env=[(false,eval l X.env)]:=by rfl) :
  PI X (.Tuple elts q pt) (.Call (.Name "enumerate" p) [l] [] pos) (Zh7 K j):=O▸ZmN J M U Y
end
end L2
namespace N39
open PySem L2 PySem.Spec PyProof.Rows
open Num
noncomputable def lsN (n:Nat):List Int:=WY n (Z4 n)
noncomputable def ZZ (n:Nat):Nat:=(lsN n).length-1
noncomputable def RN (n:Nat):List (List Int):=RT n (Z4 n)
noncomputable def XI (n:Nat):Bool:=Num.chk n (Z4 n) && decide (((Num.WY n (Z4 n)).length:Int)=Vv n+1)
theorem ZoT:([1,2,3,4,5,6,7,8,9,10,11,12,13,14,15,16].all XI)=true:=by decide +kernel
theorem ZoS:([17,18,19,20,21,22,23,24].all XI)=true:=by decide +kernel
theorem ZoR:([25,26,27,28,29,30].all XI)=true:=by decide +kernel
theorem ZoQ:([31,32,33,34,35].all XI)=true:=by decide +kernel
theorem ZoP:([36,37,38,39,40].all XI)=true:=by decide +kernel
theorem ZoO:([41,42,43,44].all XI)=true:=by decide +kernel
theorem ZoN:([45,46,47].all XI)=true:=by decide +kernel
theorem ZoM:([48,49,50].all XI)=true:=by decide +kernel
theorem ZoL:([51,52,53].all XI)=true:=by decide +kernel
theorem ZoK:([54,55,56].all XI)=true:=by decide +kernel
theorem ZmY:([57,58].all XI)=true:=by decide +kernel
theorem ZmX:([59,60].all XI)=true:=by decide +kernel
theorem all2 {p:Nat->Bool}{a b:List Nat}(h:a.all p=true)(g:b.all p=true):(a++b).all p=true:=by rw[List.all_append,h,g];rfl
theorem ZmW {n:Nat}(j:1<=n)(q:n<=60):XI n=true:=aD.mp (all2 ZoT (all2 ZoS (all2 ZoR (all2 ZoQ (all2 ZoP (all2 ZoO (all2 ZoN (all2 ZoM (all2 ZoL (all2 ZoK (all2 ZmY ZmX))))))))))) n (by
 show n∈dI 1 60;exact List.mem_range'_1.mpr ⟨j,by omega⟩)
theorem Zib {n:Nat}(j:1<=n)(q:n<=60):Good n (Z4 n) (lsN n) (ZZ n) (RN n)/\(ZZ n:Int)=Vv n:=by
 have h:=ZmW j q;unfold XI at h;rw[ag] at h;have g:=Zkb j h.1;refine⟨g,?_⟩;have e:=of_decide_eq_true h.2;have:=g.l2;unfold ZZ lsN;omega
noncomputable def Zef:Sp:=fun q H Q _=>∃n:Nat,q=[.int n]/\1<=n/\n<=60/\∀l j,Same H j->j l=some (.lst ((lsN n).map V.int))->Q (.ref l) j
noncomputable def ZaC (K:ab):Sp:=fun M H Q _=>∃(n:Nat) (a:Addr) (j:List Int),M=[.int n,.ref a]/\1<=n/\n<=60/\(Wr K H a (j.map V.int)\/WM K H a (j.map V.int))/\j.length<=100000/\
 ∀q J,Same H J->J q=some (.tup ((Ja n (ZZ n) (RN n) j).map V.int))->Q (.ref q) J
theorem Ziu (xs:List V){k:Nat}(h:k<=xs.length):J9 xs none (some (k:Int))=xs.take k:=by
 unfold J9;rw[HT.ZaM];have e:HT.Y6 xs.length 0 none=0:=rfl;rw[e,List.drop_zero,fF,Nat.min_eq_left h]
theorem Ui {s:List Int×Int}{j:List Int}(h:Xz s j=true):small s.1=true/\2<=s.1.length/\s.1.length<=61/\1<=s.2/\s.2<=60:=by
 have g:ZjZ s=true:=by
  cases j with
  |nil=>exact h
  |cons p j=>
   rw[Num.Xz] at h;simp only[ag] at h;exact h.1.1.1
 unfold ZjZ at g;simp only[ag,decide_eq_true_eq] at g;exact⟨g.1.1.1.1,g.1.1.1.2,g.1.1.2,g.1.2,g.2⟩
theorem Zdx {s:List Int×Int}{p:Int}{j:List Int}(h:Xz s (p::j)=true):2<=p/\p<=60/\Xz (J6 s p) j=true:=by
 rw[Num.Xz] at h;simp only[ag,decide_eq_true_eq] at h;exact⟨h.1.1.2,h.1.2,h.2⟩
section
variable {P:Program}{w:World}{K:ab}{mg:Str->Option Value}{base:Heap}
theorem ZhB {f:Addr}{fd:FuncData}(F:Y5 K "least_sum" "least_sum" Zg0 f fd)(GP:Fn P w K mg base ZT 1 "primes_of" ["n"] VZ)(GS:Fn P w K mg base ZT 1 "stretched" ["powers", "step"] (ZkN K))(GQ:Fn P w K mg base ZT 1 "quotient" ["powers", "divisor"] (ZkO K)) :
  ZR P w K mg base ZT 2 f fd ["n"] Zef:=by
 refine F.ok (FS (N:=["n", "found", "built", "p"])) (fun vs H Q E h=>?_) (fun n8 A n6 s H vs Q E hr h=>?_)
 ·obtain⟨n,rfl,_⟩:=h;rfl
 ·obtain⟨n,rfl,n1,n60,q⟩:=h
  obtain⟨G,_⟩:=Zib n1 n60;refine⟨_,Zu (ZH 1 rfl (ZS (pc (J0 WS Zw) (pc Zw Zs))))
   (Zu (ZH 2 rfl Zw)
   (Zu (ZQ aq rfl (itL K (YC GP hr ZF (pc (vn 0) Zs))) (gn 3)
    (Zu (ZH 1 rfl (YC GQ hr ZF (pc (YC GS hr ZF (pc (vn 1) (pc (vn 3) Zs))) (pc (vn 1) Zs))))
    (Zv (ZH 2 rfl (Zz ZV (vn 2) (vn 3))))))
   (Zv (ZD (YC GS hr ZF (pc (vn 1) (pc (Zz WO (vn 0) (vn 2)) Zs))))))),?_⟩
  refine⟨_,rfl,(by show 2<=sizeLine;decide),fun l0 n0=>?_⟩;have s0:Same H (upd H l0 (.lst [.int (-1),.int 1])):=Same.upd n0;refine⟨_,rfl,n,rfl,n1,n60,fun lp H1 s1 hp=>⟨lp,rfl,⟨_,.of hp⟩,?_⟩⟩;refine Wy (YK (K:=K) (.of hp)) (fun i M U=>∃(st:List Int×Int) (O:Addr) (v3:Option V),M=[some (.int n),some (.ref O),some (.int st.2),v3]/\Same H1 U/\U O=some (.lst (st.1.map V.int))/\Xz st ((Z4 n).drop i)=true/\
    ((Z4 n).drop i).foldl J6 st=(Z4 n).foldl J6 ([-1,1],1))
   ⟨([-1,1],1),l0,_,rfl,Same.refl _,s1 _ _ Zt,G.ls,rfl⟩ (fun i M U h=>h.choose_spec.choose_spec.choose_spec.2.1) ?_ ?_
  ·rintro i x M U hx ⟨st,O,v3,rfl,sm,hf,J,j⟩
   obtain⟨hi,rfl⟩:=Wh hx;rw[XE hi] at J j;obtain⟨p2,n9,Y⟩:=Zdx J;obtain⟨c1,c2,c3,c4,c5⟩:=Ui J;generalize o0:co (Z4 n) i=p at *;have ep:(p.toNat:Int)=p:=by omega
   have n4:(st.1.length-1)*p.toNat<=60*60:=kg (by omega) (by omega);refine⟨_,rfl,_,rfl,O,st.1,p.toNat,by rw[ep];rfl,.of hf,by omega,by omega,by omega,by omega,fun l2 H2 s2 h2=>?_⟩;have o5:st.1.length-1<=(st.1.length-1)*p.toNat:=Nat.le_mul_of_pos_right _ (by omega);refine⟨_,rfl,l2,O,_,_,rfl,.of h2,.of (s2 _ _ hf),by omega,by rw[Zd4];omega,by rw[Zd4];omega,c1,fun l3 H3 s3 h3=>?_⟩;refine⟨_,rfl,_,rfl,_,_,rfl,rfl,.inl ⟨by omega,by omega⟩,?_⟩;exact⟨J6 st p,l3,_,rfl,(sm.trans s2).trans s3,h3,Y,j⟩
  ·rintro M U ⟨st,O,v3,rfl,sm,hf,J,j⟩
   rw[Za,eP] at J j;obtain⟨c1,c2,c3,c4,c5⟩:=Ui J;have hd:0<=(n:Int) / st.2/\(n:Int) / st.2<=n:=⟨Int.ediv_nonneg (by omega) (by omega),Int.ediv_le_self _ (by omega)⟩;have n4:(st.1.length-1)*((n:Int) / st.2).toNat<=60*60:=kg (by omega) (by omega);refine⟨_,rfl,_,rfl,_,rfl,_,_,rfl,rfl,⟨by omega,by omega⟩,O,st.1,((n:Int) / st.2).toNat,by rw[Int.toNat_of_nonneg hd.1];rfl,.of hf,by omega,by omega,by omega,by omega,fun l4 H4 s4 h4=>?_⟩;refine q l4 H4 (((s0.trans s1).trans sm).trans s4) ?_;rw[h4];unfold lsN WY;rw[<-j];rfl
theorem Zhz {f:Addr}{fd:FuncData}(F:Y5 K "number_of" "number_of" ZgY f fd)(T:Bl mg)(T2:Bl2 mg)(GL:Fn P w K mg base ZT 2 "least_sum" ["n"] Zef):ZR P w K mg base ZT 3 f fd ["n", "powers"] (ZaC K):=by
 refine F.ok (FS (N:=["n", "powers", "least", "top", "rest", "k", "x", "high", "j"])) (fun vs H Q E h=>?_) (fun x8 A t0 s H vs Q E hr h=>?_)
 ·obtain⟨n,a,ws,rfl,_⟩:=h;rfl
 ·obtain⟨n,a,ws,rfl,n1,n60,hS,x9,q⟩:=h
  obtain⟨G,_⟩:=Zib n1 n60;refine⟨_,Zu (ZH 2 rfl (YC GL hr ZF (pc (vn 0) Zs)))
   (Zu (ZH 3 rfl (Zz YU (cb (YB K) T.len (pc (vn 2) Zs)) Zw))
   (Zu (ZH 4 rfl (Zz Jg (ZS (pc Zw Zs)) (vn 0)))
   (Zu (ZQ aq rfl (Zio K T2.enumerate (pc (vn 1) Zs)) (g2 K 5 6 rfl (gn 5) (gn 6))
    (Zv (Xu (vn 4) (Zz Z5 (vn 5) (vn 0)) VH (vn 6) WK YY)))
   (Zu (ZQ aq rfl (ZnZ T.range (pc (Zz YU (vn 0) Zw) (pc (Zz YU (vn 3) Zw) (pc (J0 WS Zw) Zs)))) (gn 5)
    (Zu (ZH 7 rfl (ZM (ixL K) (vn 4) (vn 5) (fun _ _=>rfl)))
    (Zv (Y9 (ZP Jo (vn 7) Zw (ZW _))
     (Zv (ZQ aq rfl (Vo K T2.enumerate (pc (vn 2) Zs)) (g2 K 8 6 rfl (gn 8) (gn 6))
      (Zv (Xu (vn 4) (Zz YN (Zz YU (vn 5) (vn 3)) (vn 8)) VH (Zz ZV (vn 7) (vn 6)) Zh4 YY)))) Yf))))
   (Zv (ZD (ct ZE T.tuple (pc (Jy VB (vn 4) Xx (Xw (vn 3))) Zs)))))))),?_⟩
  refine⟨_,rfl,n,rfl,n1,n60,fun ll H1 s1 o5=>?_⟩;have o9:(((lsN n).map V.int).length:Int)-1=(ZZ n:Int):=by
   rw[Za,G.l2];omega
  have tn:=G.tn;have t1:=G.t1;refine⟨_,rfl,ll,_,rfl,.inl (.of o5),_,_,rfl,rfl,?_⟩;refine⟨(by show 1<=sizeLine;decide),fun l0 n0=>?_⟩;have s2:=s1.trans (Same.upd (o:=.lst [.int 0]) n0);refine⟨_,rfl,l0,_,_,rfl,rfl,Zt,by omega,by omega,?_,fun l nl=>?_⟩
  ·rw[Zj]
   show 1*n<=sizeLine;have e:(16777216:Nat)=sizeLine:=by decide
   omega
  rw[Zj,Zfr];have p3:H l=none:=s2.free nl;have p4:=Same.upd (o:=.lst ((ak n (0:Int)).map V.int)) nl _ _ (Same.upd (o:=.lst [.int 0]) n0 _ _ o5);have p6:l≠ll:=fun z=>by
   rw[z,Same.upd (o:=.lst [.int 0]) n0 _ _ o5] at nl;cases nl
  have s3:=s2.trans (Same.upd (o:=.lst ((ak n (0:Int)).map V.int)) nl);refine⟨_,rfl,a,_,H,rfl,hS,s3,fun J At S t5=>?_⟩;refine Y1 S (fun i n4 H'=>∃(M:List Int) (v5 v6:Option V),n4=[some (.int n),some (.ref a),some (.ref ll),some (.int ((((lsN n).map V.int).length:Int)-1)),some (.ref l),v5,v6,none,none]/\Same H H'/\H' ll=some (.lst ((lsN n).map V.int))/\H' l=some (.lst (M.map V.int))/\M.length=n/\
    Vn n (ws.drop i) i M=ZcD n ws)
   ⟨_,_,_,rfl,s3,p4,Zt,cU ..,rfl⟩ (fun i n4 H' h=>t5 _ h.choose_spec.choose_spec.choose_spec.2.1) ?_ ?_
  ·rintro i y n4 H' T' hy ⟨M,v5,v6,rfl,sm,o6,o7,n6,n8⟩ nT
   obtain⟨hi,rfl⟩:=Wh hy;have p7:i % n<M.length:=by rw[n6];exact cm _ n1
   have eM:V.int ((i:Int) % (n:Int))=V.int ((i % n:Nat):Int):=congrArg V.int (by omega);have p8:=Same.upd (o:=.tup [.int i,.int (co ws i)]) nT _ _ o7;refine⟨T',_,rfl,.of Zt,rfl,_,_,rfl,_,_,rfl,rfl,_,rfl,_,rfl,_,rfl,_,_,rfl,rfl,(by show (0:Int)<n;omega),l,_,i % n,.int (co M (i % n)),rfl,eM,p8,Zbf p7,_,rfl,_,_,rfl,rfl,l,_,_,i % n,rfl,eM,p8,?_,?_⟩
   ·rw[Za];exact JR p7
   ·refine⟨M.set (i % n) (co M (i % n)+co ws i),_,_,rfl,(sm.trans (Same.upd nT)).updr p3,?_,?_,?_,?_⟩
    ·rw[Zx (bJ p6)];exact Same.upd nT _ _ o6
    ·rw[Zt,JN]
    ·rw[bA];exact n6
    ·rw[<-n8,XE hi,Num.Vn]
  ·rintro n4 H' ⟨M,v5,v6,rfl,sm,o6,o7,n6,n8⟩
   rw[Za,eP,Num.Vn] at n8;refine⟨_,rfl,_,_,rfl,rfl,_,rfl,_,_,rfl,rfl,_,rfl,_,_,rfl,⟨by omega,by omega,by omega,by omega⟩,?_⟩;rw[show (((n:Int)-1)-((((lsN n).map V.int).length:Int)-1-1)).toNat=n-ZZ n by omega];refine ZcC (fun i n4 H'=>∃(M:List Int) (v5 v6 v7 v8:Option V),n4=[some (.int n),some (.ref a),some (.ref ll),some (.int ((((lsN n).map V.int).length:Int)-1)),some (.ref l),v5,v6,v7,v8]/\Same H H'/\H' ll=some (.lst ((lsN n).map V.int))/\H' l=some (.lst (M.map V.int))/\M.length=n/\
     (∀j,co (W1 M (RN n)) j=co (W1 (ZcD n ws) (RN n)) j)/\∀t,n-i<=t->co M t=0)
    ⟨M,_,_,_,_,rfl,sm,o6,o7,n6,fun j=>by rw[n8],fun t ht=>J1 (by omega)⟩ ?_ ?_
   ·rintro i r6 t6 hi ⟨c2,t7,t9,u5,u9,rfl,n9,Y,O,U,hP,hz⟩
    generalize hk:n-1-i=k;have ek:(n:Int)-1-(i:Int)=(k:Int):=by omega
    rw[ek];have w8:k<n:=by omega
    have x0:ZZ n<=k:=by omega
    refine⟨_,rfl,_,rfl,l,_,_,.int (co c2 k),rfl,rfl,.of O,Zbe (by omega),?_⟩;refine⟨_,rfl,rfl,_,rfl,Y0 (fun hh=>?_) (fun hh=>?_)⟩
    ·refine⟨_,rfl,ll,rfl,.inl ⟨⟨_,.of Y⟩,?_⟩⟩
     obtain⟨r1,r2,r3,r4⟩:=Zha G U w8 x0;refine Y1 Uq (fun j o0 H3=>∃(c3:List Int) (u6 u8:Option V),o0=[some (.int n),some (.ref a),some (.ref ll),some (.int ((((lsN n).map V.int).length:Int)-1)),some (.ref l),some (.int k),u6,some (.int (co c2 k)),u8]/\Same H H3/\H3 ll=some (.lst ((lsN n).map V.int))/\H3 l=some (.lst (c3.map V.int))/\c3.length=n/\
       UM ((lsN n).drop j) (k-ZZ n+j) (co c2 k) c3=UM (lsN n) (k-ZZ n) (co c2 k) c2)
      ⟨c2,_,_,rfl,n9,Y,O,U,rfl⟩ (fun j o0 H3 h=>.of h.choose_spec.choose_spec.choose_spec.2.2.1) ?_ ?_
     ·rintro j y o0 H3 T' hy ⟨c3,u6,u8,rfl,o8,g1,g2,g3,g4⟩ nT
      obtain⟨hj,rfl⟩:=Wh hy;have y4:=G.l2;have kj:k-ZZ n+j<c3.length:=by omega
      have eI:V.int ((k:Int)-((((lsN n).map V.int).length:Int)-1)+(j:Int))=V.int ((k-ZZ n+j:Nat):Int):=congrArg V.int (by omega);have r8:=Same.upd (o:=.tup [.int j,.int (co (lsN n) j)]) nT _ _ g2;have cb:=Uy G.sm j;refine⟨T',_,rfl,.of Zt,rfl,_,_,rfl,_,_,rfl,rfl,_,rfl,_,rfl,_,rfl,_,_,rfl,rfl,_,rfl,_,_,rfl,rfl,l,_,k-ZZ n+j,.int (co c3 (k-ZZ n+j)),rfl,eI,r8,Zbf kj,_,rfl,_,rfl,_,_,rfl,rfl,.inr ⟨by omega,by omega⟩,_,_,rfl,rfl,l,_,_,k-ZZ n+j,rfl,eI,r8,?_,?_⟩
      ·rw[Za];exact JR kj
      ·refine⟨c3.set (k-ZZ n+j) (co c3 (k-ZZ n+j)-co c2 k*co (lsN n) j),_,_,rfl,(o8.trans (Same.upd nT)).updr p3,?_,?_,?_,?_⟩
       ·rw[Zx (bJ p6)];exact Same.upd nT _ _ g1
       ·rw[Zt,JN]
       ·rw[bA];exact g3
       ·rw[<-g4,XE hj,Num.UM]
        rfl
     ·rintro o0 H3 ⟨c3,u6,u8,rfl,o8,g1,g2,g3,g4⟩
      rw[Za,eP,Num.UM] at g4;refine⟨c3,_,_,_,_,rfl,o8,g1,g2,g3,fun j=>?_,fun t ht=>?_⟩
      ·rw[g4,r2 j];exact hP j
      ·rw[g4]
       by_cases e:t=k
       ·rw[e];exact r3
       ·rw[r4 t (by omega)];exact hz t (by omega)
    ·have h0:co c2 k=0:=by
      apply am;intro x6;apply hh;rw[Yg];simp[x6]
     refine⟨c2,_,_,_,_,rfl,n9,Y,O,U,hP,fun t ht=>?_⟩;by_cases e:t=k
     ·rw[e];exact h0
     ·exact hz t (by omega)
   ·rintro r6 t6 ⟨c2,t7,t9,u5,u9,rfl,n9,Y,O,U,hP,hz⟩
    refine⟨_,rfl,_,rfl,_,rfl,l,_,rfl,.of O,fun p1 h1=>⟨p1,_,rfl,.inl ⟨.of Zt,fun qq r9=>?_⟩⟩⟩;rw[o9,Ziu _ (by rw[Za];omega),<-List.map_take] at r9 ⊢;refine q qq _ ((n9.trans (Same.upd h1)).trans (Same.upd r9)) ?_;rw[Zt,Zjd G U (fun t ht=>hz t (by omega)) hP ws rfl]
end
end N39
namespace C39
open PySem L2 PySem.Spec PyProof.Rows
open Tb Pm
noncomputable abbrev ZgZ:Stmt:=top 44
noncomputable def bkM (p x:Nat):Nat:=((ac p).find? fun y=>y*x % p == 1).getD 0
theorem ZoV {p x y j:Nat}(M:y<p)(q:j<p)(h:y*x % p=1)(h':j*x % p=1):y=j:=by
 have J:y*(j*x) % p=y % p:=by rw[<-Nat.mul_mod_mod,h',iI]
 have O:j*(y*x) % p=j % p:=by rw[<-Nat.mul_mod_mod,h,iI]
 have U:y*(j*x)=j*(y*x):=by rw[<-kO,dO y j,kO]
 rw[U,O,bK M,bK q] at J;exact J.symm
theorem Zlo {p x y:Nat}(j:y<p)(h:y*x % p=1):bkM p x=y:=by
 unfold bkM;cases q:(ac p).find? fun y=>y*x % p == 1 with
 |none=>
  have:=iW.mp q y (af.mpr j);rw[h] at this;exact absurd rfl this
 |some z=>
  have J:=af.mp (gu q);have M:z*x % p=1:=eq_of_beq (jN (p:=fun y=>y*x % p == 1) q);exact ZoV J j M h
noncomputable def ofF (n r p:Nat)(q:Int)(z:Nat)(o:Nat->Int)(j:Nat):Int:=if j % (n / r)=0 then q*(bkM p r:Int)*Ys r (fun k=>o k*((z ^ (j*k % n) % p:Nat):Int)) % (p:Int) else 0
noncomputable def ZhJ (n:Nat)(v:Nat->Int):List Int:=Num.Ja n (N39.ZZ n) (N39.RN n) ((ac n).map v)
noncomputable def Zee:Sp:=fun vs H Q _=>∃(O U Y:Addr) (r m n p z:Nat) (j:Int) (J one:Nat->Int),vs=[.ref O,.ref U,.int j,.ref Y,.int p]/\H O=some (.lst (ZL r J))/\H U=some (.lst (ZL m one))/\H Y=some (.lst (WU p z n))/\
 1<=n/\n<=60/\m<=60/\1<=r/\r<=n/\r<p/\p<=100000/\PrM p/\ZiK m p one/\(∀k,k<r->∃c:Nat,c<m/\J k=(c:Int))/\-(2 ^ 40)<j/\j<2 ^ 40/\
 ∀q M,Same H M->M q=some (.tup ((ZhJ n (ofF n r p j z fun k=>one (J k).toNat)).map V.int))->Q (.ref q) M
theorem ZoF {J:It}{q:Hp->Prop}{xs:List V}(S:ZiO J q xs):ZdS J q (((ac xs.length).map nV).zip xs) where
 go:=fun i H h j=>S.go i H h (by rw[cI,Za,Zg,lJ] at j;exact j)
 yld:=fun i H x M h O=>by
  obtain⟨T,y,rfl,U,rfl,e⟩:=S.yld i H x M h O;have j:=(ae.mp e).1;refine⟨T,.int i,y,rfl,U,rfl,?_⟩;rw[bE,Zc,ao j];exact⟨rfl,e⟩
 stop:=fun i H h j=>S.stop i H h (by rw[cI,Za,Zg,lJ] at j;exact j)
theorem Zjg {p z n k:Nat}(h:k<n):XO (WU p z n) (k:Int)=some (V.int ((z ^ k % p:Nat):Int)):=by
 refine ZO ?_;unfold WU;rw[Zc,ao h];rfl
theorem ZiS {n j:Nat}(v:Nat->Int)(x:Int)(h:j<n):(ZL n v).set j (V.int x)=ZL n fun i=>if i=j then x else v i:=by
 refine aY fun i=>?_;by_cases q:i<n
 ·rw[JJ _ q,i8]
  by_cases e:j=i
  ·subst e
   rw[if_pos rfl,if_pos (by rw[Yj];exact q),if_pos rfl]
  ·rw[if_neg e,JJ _ q,if_neg (fun z=>e z.symm)]
 ·rw[ah (by rw[bA,Yj];omega),ah (by rw[Yj];omega)]
theorem Zc1 (n:Nat):(ak n [V.int 0]).flatten=ZL n fun _=>0:=by
 have:∀k a,(ak k [V.int 0]).flatten=(dI a k).map fun _=>V.int 0:=fun k=>by
  induction k with
  |zero=>intro a;rfl
  |succ k j=>intro a;rw[aW,bC,j (a+1),eO,aL];rfl
 unfold ZL;rw[this n 0,<-eC]
section
variable {P:Program}{w:World}{K:ab}{mg:Str->Option Value}{base:Heap}
theorem ZhA {f:Addr}{fd:FuncData}(F:Y5 K "number_at" "number_at" ZgZ f fd)(T:Bl mg)(T2:Zbw mg)(T5:BlT mg)(GB:Fn P w K mg base ZT 1 "back_by" ["p", "x"] Xj)(GN:Fn P w K mg base ZT 3 "number_of" ["n", "powers"] (N39.ZaC K)):ZR P w K mg base ZT 4 f fd ["walk", "one", "share", "roots", "p"] Zee:=by
 refine F.ok (FS (N:=["walk", "one", "share", "roots", "p", "n", "step", "part", "often", "j"])) (fun vs H Q E h=>?_) (fun o9 A n9 s H vs Q E hr h=>?_)
 ·obtain⟨M,oa,ra,r,m,n,p,z,share,wk,one,rfl,_⟩:=h;rfl
 ·obtain⟨M,oa,ra,r,m,n,p,z,share,wk,one,rfl,hW,hO,hR,n1,n60,p3,r1,rn,rp,pl,pr,vo,o0,p4,p6,q⟩:=h
  refine⟨_,Zu (ZH 5 rfl (cb (YB K) T.len (pc (vn 3) Zs)))
   (Zu (ZH 6 rfl (Zz WO (vn 5) (cb (YB K) T.len (pc (vn 0) Zs))))
   (Zu (ZH 7 rfl (Zz ZV (vn 2) (YC GB hr ZF (pc (vn 4) (pc (cb (YB K) T.len (pc (vn 0) Zs)) Zs)))))
   (Zu (ZH 8 rfl (Zz Jg (ZS (pc Zw Zs)) (vn 5)))
   (Zu (ZQ aq rfl (ZpJ T.range (pc Zw (pc (vn 5) (pc (vn 6) Zs)))) (gnf 9 rfl)
    (Zv (ZaW (Zz Z5 (Zz ZV (vn 7) (cb (sumK K rfl) T5.sum (pc (cmp ["k", "c"] [1,3,9,5] ["k", "c", "one", "roots", "j", "n"] rfl (Vo K T2.enumerate (pc (vn 0) Zs)) (fun _ _ _ _ _=>g2 K 0 1 rfl (gn 0) (gn 1)) (fun _ _ _ _ _=>ZN)
     (fun _ _ _ _ _=>Zz ZV (ZM (ixL K) (vn 2) (vn 1) (fun _ _=>rfl)) (ZM (ixL K) (vn 3) (Zz Z5 (Zz ZV (vn 4) (vn 0)) (vn 5)) (fun _ _=>rfl)))) Zs))) (vn 4)) (ZaX (vn 8) (vn 9) YY))))
   (Zv (ZD (YC GN hr ZF (pc (vn 5) (pc (vn 8) Zs))))))))),?_⟩
  have p2:=pr.p2;have sz:(16777216:Nat)=sizeLine:=by decide
  have o5:1<=n / r:=Nat.div_pos rn (by omega);have p7:n / r<=n:=Nat.div_le_self _ _;have p8:((n:Nat):Int) / ((r:Nat):Int)=((n / r:Nat):Int):=rfl;refine⟨_,rfl,ra,_,rfl,.inl (.of hR),?_⟩;rw[VE];refine⟨_,rfl,_,rfl,M,_,rfl,.inl (.of hW),?_⟩;rw[Yj];refine⟨_,_,rfl,rfl,⟨by omega,by omega⟩,_,rfl,_,rfl,_,rfl,M,_,rfl,.inl (.of hW),?_⟩;rw[Yj];obtain⟨y0,y1,y2,y3⟩:=pr.iv r (by omega) rp;refine⟨p,_,rfl,p2,pl,⟨y0,y1,y2,by rw[<-aV,<-a9,y3];rfl⟩,fun y a1 a2 a3=>?_⟩;have hy:y*r % p=1:=by
   have:((y*r % p:Nat):Int)=1:=by rw[a9,aV];exact a3
   omega
  have eb:=Zlo a2 hy;refine⟨_,_,rfl,rfl,.inl ⟨by omega,by omega⟩,?_⟩;refine⟨(by show 1<=sizeLine;decide),fun l0 o6=>⟨_,rfl,l0,_,_,rfl,rfl,Zt,by omega,by omega,by show 1*((n:Int)).toNat<=sizeLine;omega,fun L nL=>?_⟩⟩;rw[Zj,Zc1];have s1:=Same.upd (H:=H) (o:=.lst [.int 0]) o6;have o7:H L=none:=s1.free nL;have s2:=s1.trans (Same.upd (o:=.lst (ZL n fun _=>0)) nL);have h2:upd (upd H l0 (.lst [.int 0])) L (.lst (ZL n fun _=>0)) L=some (.lst (ZL n fun _=>0)):=Zt;generalize upd (upd H l0 (.lst [.int 0])) L (.lst (ZL n fun _=>0))=H2 at s2 h2 ⊢;refine⟨_,rfl,_,rfl,n,n / r,rfl,o5,by omega,by omega,?_⟩;refine Zie (fun i Y H'=>∃v9:Option V,Y=[some (.ref M),some (.ref oa),some (.int share),some (.ref ra),some (.int (p:Nat)),some (.int (n:Nat)),some (.int ((n / r:Nat):Int)),some (.int (share*(y:Int))),some (.ref L),v9]/\Same H H'/\H' L=some (.lst (ZL n fun j=>if j<i*(n / r) then ofF n r p share z (fun k=>one (wk k).toNat) j else 0)))
   ⟨_,rfl,s2,by rw[h2];congr 2;exact Wb fun j _=>by rw[if_neg (by omega)]⟩ ?_ ?_
  ·rintro i Y H3 hi ⟨v9,rfl,s3,h3⟩
   have hj:i*(n / r)<n:=by
    unfold WD at hi;have:(i+1)*(n / r)<=n+n / r-1:=a5 (df _ hi) (Nat.div_mul_le_self _ _);rw[cy] at this;omega
   have ej:(0:Int)+(i:Int)*((n / r:Nat):Int)=((i*(n / r):Nat):Int):=by rw[aV];omega
   rw[ej];generalize O:i*(n / r)=j at hj;have n4:=s3 _ _ hW;refine⟨_,rfl,_,rfl,M,rfl,.inl ⟨⟨_,.of n4⟩,?_⟩⟩;have zi:ZdS (ZkC K M) (fun H=>Wr K H M (ZL r wk)) ((ZL r fun k=>(k:Int)).zip (ZL r wk)):=by
    have:=ZoF (Uq (K:=K) (a:=M) (xs:=ZL r wk));rw[Yj] at this;exact this
   refine X8 zi (fun H' sm=>.of (sm _ _ n4)) (Same.refl H3) [some (.ref oa),some (.ref ra),some (.int (j:Nat)),some (.int (n:Nat))] rfl (fun k c=>one c.toNat*((z ^ (j*k.toNat % n) % p:Nat):Int)) (by omega) (fun k H4 hk s4 R g=>?_) (fun D H4 nD s4 hD=>?_)
   ·obtain⟨c,hc,ec⟩:=o0 k hk
    have J:=s3.trans s4;have g1:=vo.ge c hc;have r6:=vo.lt c hc;rw[ec] at g ⊢;rw[Zj,Zj] at g;have n6:((j:Nat):Int)*((k:Nat):Int) % ((n:Nat):Int)=((j*k % n:Nat):Int):=by rw[a9,aV]
    have o8:XO (WU p z n) (((j:Nat):Int)*((k:Nat):Int) % ((n:Nat):Int))=some (V.int ((z ^ (j*k % n) % p:Nat):Int)):=by
     rw[n6];exact Zjg (cm _ (by omega))
    refine⟨_,rfl,_,rfl,oa,_,_,_,rfl,rfl,.of (J _ _ hO),ZO (JJ one hc),_,rfl,_,rfl,_,rfl,_,_,rfl,rfl,.inl ⟨by omega,by omega⟩,_,rfl,_,_,rfl,rfl,(by show (0:Int)<(n:Int);omega),ra,_,_,_,rfl,rfl,.of (J _ _ hR),o8,_,_,rfl,rfl,.inl ⟨by omega,by omega⟩,g⟩
   ·rw[W3] at hD
    have yb:(y:Int)<100000:=by omega
    have mb:-(2 ^ 64)<share*(y:Int)/\share*(y:Int)<2 ^ 64:=by
     have h1:(y:Int) ≥ 1:=by omega
     constructor
     ·have:share*(y:Int) ≥ -(2 ^ 40)*100000:=by
       have a:share*(y:Int) ≥ (-(2 ^ 40))*(y:Int):=dF (by omega) (by omega);have b:(-(2 ^ 40):Int)*(y:Int) ≥ -(2 ^ 40)*100000:=by omega
       omega
      omega
     ·have:share*(y:Int)<=(2 ^ 40)*(y:Int):=dF (by omega) (by omega)
      omega
    have J:=s3.trans s4;refine⟨D,_,rfl,.of hD,_,_,rfl,rfl,.inl mb,_,rfl,_,_,rfl,rfl,(by show (0:Int)<(p:Int);omega),_,rfl,_,rfl,L,_,_,j,rfl,rfl,s4 _ _ h3,XB (by rw[Yj];exact hj),?_⟩;refine⟨_,rfl,J.updr o7,?_⟩;rw[Zt,ZiS _ _ hj];congr 2;refine Wb fun a ha=>?_;have U:j % (n / r)=0:=by rw[<-O];exact Nat.mul_mod_left _ _
    by_cases e1:a=j
    ·rw[if_pos e1,if_pos (by rw[e1,<-O,cy];omega),e1]
     unfold ofF;rw[if_pos U,eb];rfl
    ·rw[if_neg e1]
     by_cases e2:a<j
     ·rw[if_pos (by rw[O];exact e2),if_pos (by rw[cy,O];omega)]
     ·rw[if_neg (by rw[O];exact e2)]
      by_cases e3:a<(i+1)*(n / r)
      ·rw[if_pos e3]
       unfold ofF;rw[if_neg];intro hz;rw[cy,O] at e3;obtain⟨q1,n8⟩:=be hz;obtain⟨q2,r8⟩:=be U;have:i<q1:=by
        apply am;intro zz;have h4:(n / r)*q1<=(n / r)*i:=fX _ (by omega);rw[<-n8,dO,O] at h4;omega
       have h5:(n / r)*(i+1)<=(n / r)*q1:=fX _ (by omega);rw[<-n8,jG,iI,dO,O] at h5;omega
      ·rw[if_neg e3]
  ·rintro Y H3 ⟨v9,rfl,s3,h3⟩
   have big:n<=WD n (n / r)*(n / r):=by
    unfold WD;have h1:=Nat.div_add_mod (n+n / r-1) (n / r);have h2:=cm (n+n / r-1) (show 0<n / r by omega);rw[dO] at h1;omega
   have e3:(ZL n fun j=>if j<WD n (n / r)*(n / r) then ofF n r p share z (fun k=>one (wk k).toNat) j else 0)=ZL n (ofF n r p share z fun k=>one (wk k).toNat):=Wb fun j hj=>if_pos (by omega)
   rw[e3,W3] at h3;refine⟨_,rfl,_,rfl,n,L,_,rfl,n1,n60,.inl (.of h3),by rw[Za,Zg];omega,fun q' H4 s4 h4=>?_⟩;exact q q' H4 (s3.trans s4) h4
end
noncomputable abbrev ZgS:Stmt:=top 5
noncomputable abbrev Zk0:Stmt:=top 6
noncomputable def ZaA:Sp:=fun j H Q _=>∃(g:Addr) (t:List (List Nat)) (a r:Nat),j=[.ref g,.int a]/\GT H g t/\PW t/\a<t.length/\Rd t a r/\Q (.int r) H
noncomputable def Zdd:Sp:=fun J H Q _=>∃(g:Addr) (t:List (List Nat)) (j:Nat->Nat),J=[.ref g]/\GT H g t/\PW t/\(∀a,a<t.length->Rd t a (j a))/\∀(f:Nat) q,Same H q->Lc j t.length f->Q (.int f) q
section
variable {P:Program}{w:World}{K:ab}{mg:Str->Option Value}{base:Heap}
theorem Zhu {f:Addr}{fd:FuncData}(F:Y5 K "round_of" "round_of" ZgS f fd):ZR P w K mg base ZT 1 f fd ["group", "a"] ZaA:=by
 refine F.ok (FS (N:=["group", "a", "k", "found"])) (fun vs H Q E h=>?_) (fun n4 A U s H vs Q E hr h=>?_)
 ·obtain⟨g,t,a,r,rfl,_⟩:=h;rfl
 ·obtain⟨g,t,a,r,rfl,G,Y,ha,R,q⟩:=h
  refine⟨_,Zu (ZH 2 rfl Zw) (Zu (ZH 3 rfl (vn 1))
   (Zu (Yk aq (ZP Jo (vn 3) Zw (ZW _))
    (Zu (ZH 3 rfl (ZM (Jp K) (ZM (Jp K) (vn 0) (vn 3) (fun _ _=>rfl)) (vn 1) (fun _ _=>rfl)))
    (Zv (Jx (i:=2) (Z0 (by kernel_rfl)) rfl (YG (by kernel_rfl)) Zw WK (.inl rfl)))))
   (Zv (ZD (vn 2))))),?_⟩
  have r1:=R.r1;refine⟨_,rfl,?_⟩;refine Yb (fun m j O=>∃k:Nat,j=[some (.ref g),some (.int a),some (.int k),some (.int (it t a k:Nat))]/\O=H/\1<=k/\k<=r/\m=r-k)
   (fun j O=>∃v3:Option V,j=[some (.ref g),some (.int a),some (.int r),v3]/\O=H) ?hend ⟨r-1,1,by rw[ZdA Y ha];rfl,rfl,Zq _,r1,rfl⟩ ?turn
  case hend=>
   rintro j O ⟨v3,rfl,rfl⟩;exact⟨_,rfl,q⟩
  case turn=>
   rintro J m j O ⟨k,rfl,rfl,k1,kr,hm⟩;refine⟨_,rfl,rfl,_,rfl,?_⟩;refine Y0 (fun M=>?_) (fun M=>?_)
   ·have M:it t a k≠0:=fun z=>by
     rw[Yg,z] at M;simp at M
    have n6:k<r:=fm kr fun z=>M (z▸R.z);obtain⟨rs,r2,g1,_,g2,g3,g4⟩:=G.at Y (Wa Y ha k);refine⟨_,fun _ _ z=>z,_,rfl,_,rfl,g,_,_,_,rfl,rfl,.of g1,g2,_,rfl,r2,_,_,_,rfl,rfl,g3.sq,g4 a ha,_,rfl,_,_,rfl,rfl,r-(k+1),by omega,k+1,?_,rfl,by omega,by omega,rfl⟩;rfl
   ·have M:it t a k=0:=by
     apply am;intro z;apply M;rw[Yg];simp[z]
    have:k=r:=by
     apply am;intro z;exact R.nz k k1 (by omega) M
    exact J _ _ ⟨_,by rw[this],rfl⟩
theorem ZjN {f:Addr}{fd:FuncData}(F:Y5 K "full_round" "full_round" Zk0 f fd)(T:Bl mg)(GR:Fn P w K mg base ZT 1 "round_of" ["group", "a"] ZaA):ZR P w K mg base ZT 2 f fd ["group"] Zdd:=by
 refine F.ok (FS (N:=["group", "found", "a", "step"])) (fun vs H Q E h=>?_) (fun n8 A n6 s H vs Q E hr h=>?_)
 ·obtain⟨g,t,rs,rfl,_⟩:=h;rfl
 ·obtain⟨g,t,rs,rfl,G,Pt,R,q⟩:=h
  refine⟨_,Zu (ZH 1 rfl Zw) (Zu (ZQ aq rfl (XV T.range (pc (cb (YB K) T.len (pc (vn 0) Zs)) Zs)) (gn 2)
    (Zu (ZH 3 rfl (vn 1))
    (Zv (Yk aq (ZP Jo (Zz Z5 (vn 1) (YC GR hr ZF (pc (vn 0) (pc (vn 2) Zs)))) Zw (ZW _)) (Zv (Jx (i:=1) (Z0 (by kernel_rfl)) rfl (YG (by kernel_rfl)) (vn 3) WK (.inl rfl)))))))
   (Zv (ZD (vn 1)))),?_⟩
  have n1:=Pt.n1;have n9:=Pt.n60;obtain⟨gs,g1,g2,_⟩:=id G;have el:(gs.map V.ref).length=t.length:=by rw[Za,g2]
  refine⟨_,rfl,g,_,rfl,.inr (.of g1),_,rfl,by omega,by rw[el];omega,?_⟩;rw[Zj,el];refine Wf (fun i Y H'=>∃(f:Nat) (v2 v3:Option V),Y=[some (.ref g),some (.int f),v2,v3]/\Same H H'/\Lc rs i f) ⟨1,_,_,rfl,Same.refl _,⟨Zq _,fun a ha=>absurd ha (fh _),fun x _=>Nat.mod_one x⟩⟩ ?_ ?_
  ·rintro i Y H' hi ⟨f,v2,v3,rfl,sm,L⟩
   rw[show (0:Int)+(i:Int)=(i:Int) by omega];have Ri:=R i hi;have o0:=Ri.r1;have L2:Lc rs (i+1) (upTo (rs i) f 61 f):=L.step (B:=t.length) n1 (fun a ha=>(R a (by omega)).dv) (by omega);have n4:=L2.dv i (by omega);refine⟨_,rfl,?_⟩;refine Yb (fun m j J=>∃x:Nat,j=[some (.ref g),some (.int x),some (.int i),some (.int f)]/\J=H'/\upTo (rs i) f m x=upTo (rs i) f 61 f)
    (fun j J=>j=[some (.ref g),some (.int (upTo (rs i) f 61 f:Nat)),some (.int i),some (.int f)]/\J=H') ?hend ⟨61,f,rfl,rfl,rfl⟩ ?turn
   case hend=>
    rintro j J ⟨rfl,rfl⟩;exact⟨_,_,_,rfl,sm,L2⟩
   case turn=>
    rintro O m j J ⟨x,rfl,rfl,U⟩;have eT:(x:Int) % ((rs i:Nat):Int)=((x % rs i:Nat):Int):=by push_cast;rfl
    refine⟨_,rfl,_,rfl,_,rfl,g,t,i,rs i,rfl,G.mono sm,Pt,hi,Ri,_,_,rfl,rfl,(by show (0:Int)<(rs i:Nat);omega),rfl,_,rfl,?_⟩;refine Y0 (fun M=>?_) (fun M=>?_)
    ·have M:x % rs i≠0:=fun z=>by
      rw[Yg,eT,z] at M;simp at M
     cases m with
     |zero=>
      have U:x=upTo (rs i) f 61 f:=U;rw[<-U] at n4;exact absurd n4 M
     |succ m=>
      rw[Tb.upTo,if_neg M] at U;exact⟨_,fun _ _ z=>z,_,rfl,_,rfl,_,_,rfl,rfl,m,by omega,x+f,rfl,rfl,U⟩
    ·have M:x % rs i=0:=by
      apply am;intro z;apply M;rw[Yg,eT];simp;omega
     have:x=upTo (rs i) f 61 f:=by
      cases m with
      |zero=>exact U
      |succ m=>rw[Tb.upTo,if_pos M] at U;exact U
     exact O _ _ ⟨by rw[this],rfl⟩
  ·rintro Y H' ⟨f,v2,v3,rfl,sm,L⟩
   exact⟨_,rfl,q f H' sm L⟩
end
end C39
namespace PyZ
open PySem PyProof PyProof.Rows
noncomputable def Runs (n:Nat)(cmp:Nat->Nat->Bool){α:Type}:jS α->(α->Prop)->Prop
 | .ret a,Q=>Q a
 | .ask i j k,Q=>i<n/\j<n/\Runs n cmp (k (cmp i j)) Q
theorem Runs.run {n:Nat}{cmp:Nat->Nat->Bool}{α:Type}{Q:α->Prop}:∀{t:jS α},Runs n cmp t Q->∃a,Vu n cmp t=some a/\Q a
 | .ret a,h=>⟨a,rfl,h⟩
 | .ask i j k,h=>by
  obtain⟨J,M,O⟩:=h;obtain⟨a,e,q⟩:=O.run;exact⟨a,by rw[Vu,if_pos ⟨J,M⟩];exact e,q⟩
theorem Runs.bind {n:Nat}{cmp:Nat->Nat->Bool}{α q:Type}{f:α->jS q}{Q:q->Prop}:∀{t:jS α},Runs n cmp t (fun a=>Runs n cmp (f a) Q)->Runs n cmp (t.bind f) Q
 | .ret a,h=>h
 | .ask i j k,h=>⟨h.1,h.2.1,h.2.2.bind⟩
theorem Runs.mono {n:Nat}{cmp:Nat->Nat->Bool}{α:Type}{Q q:α->Prop}(J:∀a,Q a->q a):∀{t:jS α},Runs n cmp t Q->Runs n cmp t q
 | .ret a,h=>J a h
 | .ask i j k,h=>⟨h.1,h.2.1,h.2.2.mono J⟩
section
variable {n:Nat}{rank:Nat->Nat}
noncomputable abbrev WA (rank:Nat->Nat):Nat->Nat->Bool:=fun i j=>decide (rank i<rank j)
noncomputable def RK (rank:Nat->Nat)(p:Array Nat)(i:Nat):Nat:=rank (p.getD i 0)
structure UL (n:Nat)(p:Array Nat):Prop where
 pm:p.Perm (ac n).toArray
theorem UL.size {p:Array Nat}(h:UL n p):p.size=n:=by
 have:=h.pm.size_eq;simpa using this
theorem UL.lt {p:Array Nat}(h:UL n p){i:Nat}(hi:i<n):p.getD i 0<n:=by
 have j:=h.size;have q:p.toList.Perm (ac n):=by have:=h.pm;rw[jY] at this;simpa using this
 have e:p.getD i 0=p[i]'(by omega):=by simp[mw,j,hi]
 rw[e];have J:p[i]'(by omega)∈p.toList:=by simp
 exact af.mp (q.mem_iff.mp J)
theorem JI {p q:Array Nat}{i j:Nat}(h:p[i]?=q[j]?):RK rank p i=RK rank q j:=by
 unfold RK;rw[cL,cL,h]
theorem Zgh {xs:Array Nat}{src d:Nat}(J:src<xs.size)(M:d<=src)(k:Nat) :
  RK rank (bubble xs src d) k=if k=src-d then RK rank xs src else if src-d<k/\k<=src then RK rank xs (k-1) else RK rank xs k:=by
 have e:=getElem?_bubble J d M k;by_cases j:k=src-d
 ·rw[if_pos j] at e ⊢;exact JI e
 ·rw[if_neg j] at e ⊢
  by_cases q:src-d<k/\k<=src
  ·rw[if_pos q] at e ⊢;exact JI e
  ·rw[if_neg q] at e ⊢;exact JI e
theorem ZdU {xs:Array Nat}{i j:Nat}(J:j<=xs.size)(k:Nat):RK rank (fu xs i j) k=if i<=k/\k<j then RK rank xs (i+j-1-k) else RK rank xs k:=by
 have e:=getElem?_mirror_all (i:=i) J k;unfold fu;by_cases q:i<=k/\k<j
 ·rw[if_pos q] at e ⊢;exact JI e
 ·rw[if_neg q] at e ⊢;exact JI e
theorem Vh {xs:Array Nat}{i j:Nat}(q:j<=xs.size)(heq:∀k,i<=k->k<j->RK rank xs k=RK rank xs (j-1))(k:Nat):RK rank (fu xs i j) k=RK rank xs k:=by
 rw[ZdU q];split
 ·rw[heq _ (by omega) (by omega),heq k (by omega) (by omega)]
 ·rfl
theorem UL.rev {p:Array Nat}(h:UL n p)(i j:Nat):UL n (fu p i j):=⟨(mirror_perm p i j _).trans h.pm⟩
theorem UL.bub {p:Array Nat}(h:UL n p)(k d:Nat):UL n (bubble p k d):=⟨(bubble_perm p k d).trans h.pm⟩
noncomputable def Up (rank:Nat->Nat)(p:Array Nat)(k:Nat):Prop:=∀i j,i<=j->j<k->RK rank p i<=RK rank p j
noncomputable def Dn (rank:Nat->Nat)(p:Array Nat)(k:Nat):Prop:=∀i j,i<=j->j<k->RK rank p j<=RK rank p i
theorem Up.snoc {p:Array Nat}{k:Nat}(O:1<=k)(h:Up rank p k)(J:RK rank p (k-1)<=RK rank p k):Up rank p (k+1):=fun i j q U=>by
 by_cases e:j=k
 ·subst e
  by_cases M:i=j
  ·rw[M];exact Zq _
  ·exact a5 (h i (j-1) (by omega) (by omega)) J
 ·exact h i j q (by omega)
theorem Dn.snoc {p:Array Nat}{k:Nat}(O:1<=k)(h:Dn rank p k)(J:RK rank p k<=RK rank p (k-1)):Dn rank p (k+1):=fun i j q U=>by
 by_cases e:j=k
 ·subst e
  by_cases M:i=j
  ·rw[M];exact Zq _
  ·exact a5 J (h i (j-1) (by omega) (by omega))
 ·exact h i j q (by omega)
theorem ZdQ {p:Array Nat}(q:UL n p):∀(f k:Nat),1<=k->k+f<=n->Up rank p k->Runs n (WA rank) (W.kas_asc p f k) fun m=>k<=m/\m<=k+f/\Up rank p m/\(m<k+f->RK rank p m<RK rank p (m-1))
 |0,k,J,M,j=>⟨Zq _,Zq _,j,fun z=>absurd z (by omega)⟩
 |f+1,k,J,M,j=>by
  refine⟨q.lt (by omega),q.lt (by omega),?_⟩;by_cases c:rank (p.getD k 0)<rank (p.getD (k-1) 0)
  ·rw[show WA rank _ _=true from decide_eq_true c]
   exact⟨Zq _,by omega,j,fun _=>c⟩
  ·rw[show WA rank _ _=false from decide_eq_false c]
   refine (ZdQ q f (k+1) (by omega) (by omega) (j.snoc J (by unfold RK;omega))).mono fun m ⟨a,b,u,d⟩=>⟨by omega,by omega,u,fun z=>d (by omega)⟩
theorem VJ:∀(f:Nat) (p:Array Nat) (k q:Nat),UL n p->1<=k->k+f<=n->q+1<=k->Dn rank p k->(∀j,k-1-q<=j->j<k->RK rank p j=RK rank p (k-1))->
  Runs n (WA rank) (W.kas_desc f p k q) fun r=>UL n r.1/\1<=r.2.1/\r.2.1<=k+f/\r.2.2+1<=r.2.1/\Dn rank r.1 r.2.1/\∀j,r.2.1-1-r.2.2<=j->j<r.2.1->RK rank r.1 j=RK rank r.1 (r.2.1-1)
 |0,p,k,q,J,M,hk,U,hd,he=>⟨J,M,Zq _,U,hd,he⟩
 |f+1,p,k,q,J,M,hk,U,hd,he=>by
  refine⟨J.lt (by omega),J.lt (by omega),?_⟩;by_cases c:rank (p.getD k 0)<rank (p.getD (k-1) 0)
  ·rw[show WA rank _ _=true from decide_eq_true c]
   show Runs n (WA rank) (if q > 0 then W.kas_desc f (fu p (k-(q+1)) k) (k+1) 0 else W.kas_desc f p (k+1) 0) _
   have O:=hd.snoc M (eR c);have sz:=J.size;split
   ·have Y:∀j,RK rank (fu p (k-(q+1)) k) j=RK rank p j:=fun j=>Vh (by omega) (fun i a b=>he i (by omega) b) j
    refine (VJ f _ (k+1) 0 (J.rev _ _) (by omega) (by omega) (by omega) (fun i j a b=>?_) (fun j a b=>?_)).mono fun r ⟨a,b,c,d⟩=>⟨a,b,by omega,d⟩
    ·rw[Y,Y];exact O i j a b
    ·rw[show j=k+1-1 by omega]
   ·refine (VJ f _ (k+1) 0 J (by omega) (by omega) (by omega) O (fun j a b=>?_)).mono fun r ⟨a,b,c,d⟩=>⟨a,b,by omega,d⟩
    rw[show j=k+1-1 by omega]
  ·rw[show WA rank _ _=false from decide_eq_false c]
   refine⟨J.lt (by omega),J.lt (by omega),?_⟩;by_cases d:rank (p.getD (k-1) 0)<rank (p.getD k 0)
   ·rw[show WA rank _ _=true from decide_eq_true d]
    exact⟨J,M,(show k<=k+(f+1) by omega),U,hd,he⟩
   ·rw[show WA rank _ _=false from decide_eq_false d]
    have e:RK rank p k=RK rank p (k-1):=by unfold RK;omega
    refine (VJ f _ (k+1) (q+1) J (by omega) (by omega) (by omega) (hd.snoc M (by omega)) (fun j a b=>?_)).mono fun r ⟨a,b,c,d⟩=>⟨a,b,by omega,d⟩;rw[show k+1-1=k by omega];by_cases ej:j=k
    ·rw[ej]
    ·rw[he j (by omega) (by omega),e]
theorem ZbF {p:Array Nat}{k:Nat}(q:UL n p)(J:1<=k)(U:k<=n)(M:Dn rank p k):Runs n (WA rank) (mM k n p) fun r=>1<=r.1/\r.1<=n/\UL n r.2/\Up rank r.2 r.1:=by
 have sz:=q.size;have O:Up rank (fu p 0 k) k:=fun i j a b=>by
  rw[ZdU (by omega),ZdU (by omega),if_pos ⟨aX _,by omega⟩,if_pos ⟨aX _,b⟩];exact M _ _ (by omega) (by omega)
 exact Runs.bind ((ZdQ (q.rev 0 k) (n-k) k J (by omega) O).mono fun m ⟨a,b,c,_⟩=>⟨a5 J a,by show m<=n;omega,q.rev 0 k,c⟩)
theorem Vp {p:Array Nat}{k:Nat}(J:UL n p)(O:k+1<=n)(M:Dn rank p (k+1)):Runs n (WA rank) (W.kas_descPart k n p) fun r=>1<=r.1/\r.1<=n/\UL n r.2/\Up rank r.2 r.1:=by
 refine Runs.bind ((VJ (n-(k+1)) p (k+1) 0 J (by omega) (by omega) (by omega) M (fun j a b=>by rw[show j=k+1-1 by omega])).mono fun r ⟨a,b,c,d,e,g⟩=>?_);have sz:=a.size;show Runs n (WA rank) (if r.2.2 > 0 then mM r.2.1 n (fu r.1 (r.2.1-(r.2.2+1)) r.2.1) else mM r.2.1 n r.1) _
 split
 ·have q:∀j,RK rank (fu r.1 (r.2.1-(r.2.2+1)) r.2.1) j=RK rank r.1 j:=fun j=>Vh (by omega) (fun i x y=>g i (by omega) y) j
  exact ZbF (a.rev _ _) b (by omega) fun i j x y=>by rw[q,q];exact e i j x y
 ·exact ZbF a b (by omega) e
theorem Ziw {p:Array Nat}(q:UL n p)(h1:1<=n):Runs n (WA rank) (W.kas_count n p) fun r=>1<=r.1/\r.1<=n/\UL n r.2/\Up rank r.2 r.1:=by
 refine Runs.bind ((ZdQ q (n-1) 1 (Zq _) (by omega) (fun i j a b=>by rw[show i=0 by omega,show j=0 by omega];exact Zq _)).mono fun m ⟨a,b,c,d⟩=>?_);have sz:=q.size;show Runs n (WA rank) (if (m == n)=true then _ else _) _
 by_cases e:m=n
 ·rw[if_pos (by rw[e];exact beq_self_eq_true n)]
  exact⟨a,by show m<=n;omega,q,c⟩
 ·rw[if_neg (by simpa using e)]
  have O:=d (by omega);have J:Dn rank p m->Dn rank p (m+1):=fun h=>h.snoc a (eR O);split
  ·refine⟨q.lt (by omega),q.lt (by omega),?_⟩
   by_cases g:rank (p.getD 0 0)<rank (p.getD (m-1) 0)
   ·rw[show WA rank _ _=true from decide_eq_true g]
    exact⟨a,by show m<=n;omega,q,c⟩
   ·rw[show WA rank _ _=false from decide_eq_false g]
    have all:∀j,j<m->RK rank p j=RK rank p (m-1):=fun j U=>by
     have x:=c 0 j (by omega) U;have y:=c j (m-1) (by omega) (by omega);unfold RK at x y ⊢;omega
    have M:∀j,RK rank (fu p 0 m) j=RK rank p j:=fun j=>Vh (by omega) (fun i _ y=>all i y) j;refine Vp (q.rev 0 m) (by omega) fun i j x y=>?_;rw[M,M];exact J (fun i j x y=>by rw[all i (by omega),all j y];exact Zq _) i j x y
  ·have Y:m=1:=by omega
   subst Y;exact Vp q (by omega) (J fun i j x y=>by rw[show i=0 by omega,show j=0 by omega];exact Zq _)
theorem Ua {p:Array Nat}{k:Nat}(j:UL n p)(U:k<n)(q:Up rank p k):∀(f l r:Nat),r-l<=f->l<=r->r<=k->(∀i,i<l->RK rank p i<=RK rank p k)->(∀i,r<=i->i<k->RK rank p k<RK rank p i)->
  Runs n (WA rank) (W.kas_place p k f l r) fun m=>m<=k/\(∀i,i<m->RK rank p i<=RK rank p k)/\∀i,m<=i->i<k->RK rank p k<RK rank p i
 |0,l,r,hf,Y,J,M,O=>by
  have e:l=r:=by omega
  subst e;exact⟨J,M,O⟩
 |f+1,l,r,hf,Y,J,M,O=>by
  show Runs n (WA rank) (if l ≥ r then _ else _) _
  split
  ·have e:l=r:=by omega
   subst e;exact⟨J,M,O⟩
  ·refine⟨j.lt U,j.lt (by omega),?_⟩
   by_cases c:rank (p.getD k 0)<rank (p.getD ((l+r) / 2) 0)
   ·rw[show WA rank _ _=true from decide_eq_true c]
    refine Ua j U q f l ((l+r) / 2) (by omega) (by omega) (by omega) M fun i a b=>?_;exact aC c (q _ _ a b)
   ·rw[show WA rank _ _=false from decide_eq_false c]
    refine Ua j U q f ((l+r) / 2+1) r (by omega) (by omega) J (fun i a=>?_) O;have:=q i ((l+r) / 2) (by omega) (by omega);unfold RK at this ⊢;omega
theorem ZiI:∀(f:Nat) (p:Array Nat) (k:Nat),UL n p->k+f=n->Up rank p k->Runs n (WA rank) (W.kas_bin f p k) fun r=>UL n r/\Up rank r n
 |0,p,k,J,U,q=>⟨J,by rw[<-U];exact q⟩
 |f+1,p,k,J,U,q=>by
  have sz:=J.size;refine Runs.bind ((Ua J (by omega) q k 0 k (by omega) (by omega) (Zq _) (fun i h=>by omega) (fun i a b=>by omega)).mono fun l ⟨a,b,c⟩=>?_);refine ZiI f _ (k+1) (J.bub _ _) (by omega) fun i j O hj=>?_;have hb:=fun x=>Zgh (rank:=rank) (xs:=p) (src:=k) (d:=k-l) (by omega) (by omega) x;rw[hb i,hb j];have el:k-(k-l)=l:=by omega
  rw[el];have n6:=q;by_cases Y:i=l
  ·rw[if_pos Y]
   by_cases M:j=l
   ·rw[if_pos M];exact Zq _
   ·rw[if_neg M,if_pos ⟨by omega,by omega⟩]
    exact eR (c (j-1) (by omega) (by omega))
  ·rw[if_neg Y]
   by_cases i2:l<i/\i<=k
   ·rw[if_pos i2,if_neg (by omega),if_pos ⟨by omega,by omega⟩]
    exact q _ _ (by omega) (by omega)
   ·rw[if_neg i2]
    have il:i<l:=by omega
    by_cases M:j=l
    ·rw[if_pos M];exact b i il
    ·rw[if_neg M]
     by_cases j2:l<j/\j<=k
     ·rw[if_pos j2];exact q _ _ (by omega) (by omega)
     ·rw[if_neg j2];exact q _ _ O (by omega)
theorem Zi2 (O:1<=n)(rank:Nat->Nat):∃p,Vu n (WA rank) (kJ n)=some p/\p.toList.Perm (ac n)/\(p.toList.map rank).Pairwise (· ≤ ·):=by
 have:Runs n (WA rank) (kJ n) fun p=>UL n p/\Up rank p n:=by
  refine Runs.bind ((Ziw (rank:=rank) ⟨Array.Perm.refl _⟩ O).mono fun r ⟨a,b,c,d⟩=>?_);show Runs n (WA rank) (if r.1<n then _ else _) _
  split
  ·have e:max r.1 1=r.1:=by omega
   rw[e];exact ZiI _ _ _ c (by omega) d
  ·exact⟨c,by rw[show n=r.1 by omega];exact d⟩
 obtain⟨p,e,M,U⟩:=this.run;refine⟨p,e,?_,?_⟩
 ·have:=M.pm
  rw[jY] at this;simpa using this
 ·have sz:=M.size
  rw[kh];intro i j q J Y;rw[Za] at q J;have li:i<p.size:=by simpa using q
  have lj:j<p.size:=by simpa using J
  have:=U i j (by omega) (by omega);unfold RK at this;rw[nv,nv];have ei:p.getD i 0=p.toList[i]'q:=by simp[mw,li]
  have ej:p.getD j 0=p.toList[j]'J:=by simp[mw,lj]
  rw[ei,ej] at this;exact this
end
end PyZ
namespace PyZ
open PySem PyProof PyProof.Rows SeqAt
open AutoSeq1 (wpAny_loadPart')
theorem VG {vs:List Value}{ns:List Int}(h:bP vs ns):∀{i:Nat}{v:Value},vs[i]?=some v->∃n t,ns[i]?=some n/\v=.int n t:=by
 induction h with
 |nil=>intro i v e;simp at e
 |cons n t _ j=>
  intro i v e
  match i,e with
  |0,e=>cases e;exact⟨_,_,rfl,rfl⟩
  |i+1,e=>exact j (i:=i) (by simpa using e)
theorem XC {vs:List Value}{ns:List Int}(h:bP vs ns):vs.length=ns.length:=by
 induction h with
 |nil=>rfl
 |cons _ _ _ j=>rw[Zi,Zi,j]
theorem ZfM {fin:Bool}{xs ys:List Int}{i:Nat}{x y:Int}(j:xs[i]?=some x)(q:ys[i]?=some y):Zdy fin (xs.drop i) (ys.drop i)=if x=y then Zdy fin (xs.drop (i+1)) (ys.drop (i+1)) else decide (x<y):=by
 have J:=(ae.mp j);have M:=(ae.mp q);obtain⟨O,U⟩:=J;obtain⟨Y,e2⟩:=M;rw[bS O,bS Y,U,e2];rfl
theorem ZhW {fin:Bool}{xs ys:List Int}{i:Nat}(h:xs[i]?=none\/ys[i]?=none):Zdy fin (xs.drop i) (ys.drop i)=fin:=by
 rcases h with h|h
 ·rw[fw (gv.mp h)]
  rfl
 ·rw[fw (as:=ys) (gv.mp h)]
  cases xs.drop i with
  |nil=>rfl
  |cons _ _=>rfl
section
variable {prog:Program}{w:World}{A:Around}{E:Value->Shared->Prop}{s:Shared}
end
end PyZ
namespace PyZ
open PySem PyProof PyProof.Rows
theorem Za6 (ys:List Int):ltB [] ys=decide (0<ys.length):=rfl
theorem Zcp (xs:List Int):ltB xs []=false:=by
 cases xs with
 |nil=>rfl
 |cons x xs=>
  show decide ((x::xs).length<([]:List Int).length)=false;exact decide_eq_false (by simp)
theorem Uh (x y:Int)(xs ys:List Int):ltB (x::xs) (y::ys)=if x=y then ltB xs ys else decide (x<y):=by
 unfold ltB;show (if x=y then Zdy _ xs ys else _)=_
 have e:decide ((x::xs).length<(y::ys).length)=decide (xs.length<ys.length):=by
  simp only[Zi,kP]
 rw[e]
theorem ZeL:∀xs:List Int,ltB xs xs=false
 | []=>rfl
 |x::xs=>by rw[Uh,if_pos rfl];exact ZeL xs
theorem ZeK:∀{xs ys:List Int},ltB xs ys=false->ltB ys xs=false->xs=ys
 | [],[],_,_=>rfl
 | [],_::_,h,_=>by rw[Za6] at h;simp at h
 |_::_,[],_,h=>by rw[Za6] at h;simp at h
 |x::xs,y::ys,j,q=>by
  rw[Uh] at j q;by_cases e:x=y
  ·rw[if_pos e] at j
   rw[if_pos e.symm] at q;rw[e,ZeK j q]
  ·rw[if_neg e] at j
   rw[if_neg (bJ e)] at q;have a:=of_decide_eq_false j;have b:=of_decide_eq_false q;omega
theorem Zac:∀{xs ys q:List Int},ltB xs ys=true->ltB ys q=true->ltB xs q=true
 |xs,ys,[],_,h=>by rw[Zcp] at h;cases h
 |xs,[],z::q,h,_=>by rw[Zcp] at h;cases h
 | [],y::ys,z::q,_,_=>by rw[Za6];exact decide_eq_true (by simp)
 |x::xs,y::ys,z::q,J,j=>by
  rw[Uh] at J j ⊢;by_cases O:x=y
  ·rw[if_pos O] at J
   by_cases M:y=z
   ·rw[if_pos M] at j
    rw[if_pos (O.trans M)];exact Zac J j
   ·rw[if_neg M] at j
    have:=of_decide_eq_true j;rw[if_neg (by omega)];exact decide_eq_true (by omega)
  ·rw[if_neg O] at J
   have a:=of_decide_eq_true J;by_cases M:y=z
   ·rw[if_neg (by omega)]
    exact decide_eq_true (by omega)
   ·rw[if_neg M] at j
    have:=of_decide_eq_true j;rw[if_neg (by omega)];exact decide_eq_true (by omega)
theorem V5 {n:Nat}{cmp q:Nat->Nat->Bool}(h:∀i j,i<n->j<n->cmp i j=q i j){α:Type}:∀t:jS α,Vu n cmp t=Vu n q t
 | .ret a=>rfl
 | .ask i j k=>by
  rw[Vu,Vu];by_cases J:i<n/\j<n
  ·rw[if_pos J,if_pos J,h i j J.1 J.2]
   exact V5 h _
  ·rw[if_neg J,if_neg J]
theorem Zao {α:Type}{p q:α->Bool}:∀{l:List α},(∀x∈l,p x=true->q x=true)->(∃x∈l,p x=false/\q x=true)->l.countP p<l.countP q
 | [],_,⟨x,j,_⟩=>by cases j
 |y::l,h,⟨x,j,J,M⟩=>by
  have le:∀{l:List α},(∀x∈l,p x=true->q x=true)->l.countP p<=l.countP q:=fun {l} h=>List.countP_mono_left h;rw[jq,jq];have O:∀x∈l,p x=true->q x=true:=fun z U=>h z (aH _ U);rcases aF.mp j with e|j
  ·rw[<-e,J,M]
   have:=le O;simp only[dM,if_false,if_true];omega
  ·have:=Zao O ⟨x,j,J,M⟩
   have Y:=h y aE;cases e1:p y with
   |true=>rw[Y e1];omega
   |false=>
    simp only[dM,if_false];split <;> omega
section
variable {prog:Program}{w:World}{A:Around}{E:Value->Shared->Prop}{s:Shared}
theorem ZiR (vs:List Value)(h:vs.length<2):(vs.toArray.zip vs.toArray).map (·.2)=vs.toArray:=by
 cases vs with
 |nil=>simp
 |cons v r=>
  cases r with
  |nil=>simp
  |cons a b=>exact absurd h (by rw[Zi,Zi];omega)
theorem Zdf {a:Addr}{vs:List Value}{n:Nat}{P:Fin->Shared->Prop}(M:s.heap.get? a=some (seqObj "list" vs.toArray n))(h2:vs.length<2)
  (h:P (.done (.ret .none)) {s with heap:=sortedHeap s.heap a vs vs.toArray}):wpAny (model prog w) A (cH.«list.sort» ⟨[.ref a],[]⟩) P E s:=by
 rw[list_sort_plain];have U:a<s.heap.objs.size:=Zp M;refine Zl (listItems_at M rfl ?_);refine Zl (listUpdate_at M rfl ?_);obtain⟨O,j⟩:∃O,(s.heap.update a (cT fun _=>#[])).get? a=some (seqObj "list" #[] O):=⟨_,kN M (fun _=>#[])⟩;refine Zl (seqEpoch_at j rfl ?_);refine Zl (lh ?_);refine Zl (l5 ?_);refine cG ?_;have q:(((s.heap.update a (cT fun _=>#[])).push (seqObj "tuple" vs.toArray 0)).push (seqObj "list" #[] 0)).get? a=some (seqObj "list" #[] O):=by
  rw[mS _ _ _ (by rw[size_push',jo];exact aB (fG U)),mS _ _ _ (by rw[jo];exact aB U)];exact j
 show wpAny (model prog w) A _ P E {s with heap:=((s.heap.update a (cT fun _=>#[])).push (seqObj "tuple" vs.toArray 0)).push (seqObj "list" #[] 0)};dsimp only;have n4:vs.toArray.size=vs.length:=by simp
 have J:vs.toArray.size<2:=by omega
 rw[if_pos J,if_pos J];refine Zl (Zm ?_);rw[StateT.run_pure];refine Zl (Zm ?_);dsimp only;have eo:(arrOf (SortSt.mk' general' (vs.toArray.zip vs.toArray) #[] 7 none)).map (·.2)=vs.toArray:=by
  exact ZiR _ h2
 refine Zl (seqEpoch_at q rfl ?_);refine Zl (listUpdate_at q rfl ?_ (hsz2:=by rw[Array.size_map];show (pairsOf vs).size<=_;rw[pairsOf_size,fZ];omega));simp only[bne_self_eq_false,dM,if_false];refine Zm ?_;rw[eo];exact h
theorem ZaG {l:Addr}{vs:List Value}{Q:Value->Shared->Prop}(J:s.heap.IsList l vs.toArray)(M:vs.length<2)
  (h:Q (.ref (s.heap.objs.size+1)) {s with heap:=sortedAll s.heap vs vs.toArray}):wpAny (model prog w) A (call (.builtin "sorted") [.ref l]) Q E s:=by
 refine lV kind_sorted plain_sorted entry_sorted (args_sorted1 _) ?_;unfold cH.«sorted»;refine Zl (m:=checkCount "sorted" 1 1 _) (Zm ?_);refine Zl (collect_list J ?_ (by rw[fZ];omega));refine Zl (l5 ?_ (by rw[fZ];omega));have j:((s.heap.push (seqObj "list" #[] 0)).update s.heap.objs.size (cT (· ++ vs.toArray))).objs.size=s.heap.objs.size+1:=by
  rw[jo,size_push']
 have q:(((s.heap.push (seqObj "list" #[] 0)).update s.heap.objs.size (cT (· ++ vs.toArray))).push (seqObj "list" vs.toArray 0)).get? (s.heap.objs.size+1)=some (seqObj "list" vs.toArray 0):=by
  rw[<-j];exact Zo _ rfl
 show wpAny _ _ _ _ _ {s with heap:=((s.heap.push (seqObj "list" #[] 0)).update s.heap.objs.size (cT (· ++ vs.toArray))).push (seqObj "list" vs.toArray 0)};rw[j];refine Zl (cG (bm slot_list_sort ⟨_,q,rfl⟩ entry_list_sort (Zdf q M ⟨_,rfl,?_⟩) (args_list_sort _)));exact Zm ⟨_,rfl,h⟩
end
section
variable {prog:Program}{w:World}{A:Around}{E:Value->Shared->Prop}{s:Shared}
end
end PyZ
namespace L2
open PySem PySem.Spec PyProof.Rows
section
variable {X:Cx}{pins:List (Addr×Obj)}{σ:St}{H:Hp}{s:Shared}
theorem ZjB:∀{as:List Addr},as.length<2->((ac as.length).map fun i=>as.getD i 0)=as
 | [],_=>rfl
 | [_],_=>rfl
theorem Zl9 {β:Type}:∀{n:Nat},n<2->∀(f:Nat->β) (R:β->β->Prop),((ac n).map f).Pairwise R
 |0,_,_,_=>fR
 |1,_,_,_=>gS _ _
end
end L2
namespace PyZ
open PySem PyProof PyProof.Rows SeqAt
open AutoSeq1 (wpAny_loadPart')
theorem Zgu (l b:Addr)(J j:Array Value)(n n2:Nat)(dd o0:Option Addr)(sl o5:Array (Option Value)){xs ys:List Int}(hx:bP J.toList xs)(hy:bP j.toList ys) :
  mC (cH.«tuple.__lt__» ⟨[.ref l,.ref b],[]⟩)
   (fun A R s=>s.heap.get? l=some {cls:=.type "tuple",dict:=dd,data:=.seq J n,slots:=sl}/\s.heap.get? b=some {cls:=.type "tuple",dict:=o0,data:=.seq j n2,slots:=o5}/\
    R (.ok (.ret (.bool (ltB xs ys)))) s):=
 .of_wp fun n6 w A R s h=>by
  obtain⟨hp,g,d,tk,os⟩:=s;obtain⟨hl,hb,h⟩:=h;have f2:=eL;have sx:J.size=xs.length:=by rw[<-XC hx,Zr]
  have sy:j.size=ys.length:=by rw[<-XC hy,Zr]
  have hZ:(J.toList.zip j.toList).length=min J.size j.size:=by simp
  wp_walk using wpAny_loadPart' hl,wpAny_loadPart' hb,wpAny_forIn_list _ (fun rest b s'=>b.1=none/\s'=⟨hp,g,d,tk,os⟩/\∃i,rest=(J.toList.zip j.toList).drop i/\
   R (.ok (.ret (.bool (Zdy (decide (xs.length<ys.length)) (xs.drop i) (ys.drop i))))) ⟨hp,g,d,tk,os⟩) _
  case turn=>
   rintro⟨y,x⟩ rest b s' ⟨O,rfl,i,U,M⟩;have n8:i<(J.toList.zip j.toList).length:=by
    rcases f8 i (J.toList.zip j.toList).length with Y|Y
    ·exact Y
    ·rw[List.drop_of_length_le Y] at U;cases U
   have hm:i<min J.size j.size:=hZ▸n8;have h1:i<J.size:=aC hm (jX _ _);have h2:i<j.size:=aC hm (Nat.min_le_right _ _);rw[bS n8] at U;injection U with n9 n4;have o6:y=J[i]:=by have:=congrArg lW n9;simpa using this
   have o7:x=j[i]:=by have:=congrArg Prod.snd n9;simpa using this
   subst o6 o7;obtain⟨a,ta,ex,vx⟩:=VG hx (i:=i) (v:=J[i]) (by simp[h1]);obtain⟨c,tc,ey,vy⟩:=VG hy (i:=i) (v:=j[i]) (by simp[h2]);rw[ZfM ex ey] at M;rw[vx,vy];refine Zl (jE _ _ _ _ n6 w _ _ ?_);by_cases e:a=c
   ·rw[if_pos e] at M
    rw[show (a == c)=true from beq_iff_eq.mpr e]
    wp_walk
    exact⟨rfl,rfl,i+1,n4,M⟩
   ·rw[if_neg e] at M
    rw[show (a == c)=false from beq_eq_false_iff_ne.mpr e];simp only[Bool.not_false,if_true];refine Zl (eV ?_);refine Zl (show wpAny _ _ (compareOp .Lt (.int a ta) (.int c tc)) _ _ _ from lt_int ?_)
    wp_walk
    exact⟨_,rfl,M⟩
  case fin=>
   rintro⟨b1,b2⟩ s' ⟨O,rfl,i,U,M⟩;simp only at O;subst O;have o9:min J.size j.size<=i:=by
    rcases f8 i (J.toList.zip j.toList).length with Y|Y
    ·rw[bS Y] at U;cases U
    ·exact hZ▸Y
   rw[ZhW (by
    rcases f8 i xs.length with q|q
    ·exact .inr (ah (by omega))
    ·exact .inl (ah q))] at M
   wp_walk
   refine⟨_,rfl,?_⟩;rw[sx,sy];exact M
  case h=>
   exact⟨rfl,rfl,0,rfl,h⟩
noncomputable def ZhV (fin:Bool):List (List Int)->List (List Int)->Bool
 | [],_=>fin
 |_::_,[]=>fin
 |x::j,y::q=>if x=y then ZhV fin j q else ltB x y
noncomputable def VF (xs ys:List (List Int)):Bool:=ZhV (decide (xs.length<ys.length)) xs ys
noncomputable def JH (h:Heap):List Value->List (List Int)->Prop
 | [],[]=>True
 |v::q,x::J=>(∃a j,v=.ref a/\h.IsTuple a j/\bP j.toList x)/\JH h q J
 |_,_=>False
section
variable {prog:Program}{w:World}{A:Around}{E:Value->Shared->Prop}{s:Shared}
theorem Zj7 {us vs:List Value}{xs ys:List Int}(q:bP us xs)(j:bP vs ys)(h:us=vs):xs=ys:=by
 subst h;induction q generalizing ys with
 |nil=>cases j;rfl
 |cons _ _ _ J=>cases j with|cons _ _ r=>rw[J r]
theorem Zm2 {xs ys:List Int}:((ac (min xs.length ys.length)).all (fun j=>xs.getD j 0 == ys.getD j 0) && xs.length == ys.length)=decide (xs=ys):=by
 by_cases e:xs=ys
 ·subst e
  rw[decide_eq_true rfl,beq_self_eq_true,dW,aD];intro j _;exact beq_self_eq_true _
 ·rw[decide_eq_false e]
  cases q:((ac (min xs.length ys.length)).all (fun j=>xs.getD j 0 == ys.getD j 0) && xs.length == ys.length) with
  |false=>rfl
  |true=>
   refine absurd ?_ e;rw[ag,aD] at q;have M:xs.length=ys.length:=eq_of_beq q.2;refine aY fun i=>?_;by_cases J:i<xs.length
   ·have:=eq_of_beq (q.1 i (af.mpr (by omega)))
    rw[Zf J,Zf (by omega)];rw[Zb,Zb,Zf J,Zf (by omega)] at this;exact congrArg some this
   ·rw[ah (by omega),ah (by omega)]
theorem Zgi {a b:Addr}{us vs:Array Value}{xs ys:List Int}(U:A.units<cLine)(O:s.heap.IsTuple a us)(hb:s.heap.IsTuple b vs)(J:bP us.toList xs)(M:bP vs.toList ys):lB A s (.ref a) (.ref b) (decide (xs=ys)):=by
 by_cases e:a=b
 ·subst e
  obtain⟨o,Y,_,n1,d1⟩:=O;obtain⟨o2,k1,_,n2,q⟩:=hb;rw[Y] at k1;cases k1;rw[d1] at q;injection q with q _;subst q;rw[Zj7 J M rfl,decide_eq_true rfl];exact EqAt.same _
 ·have sx:us.size=xs.length:=by rw[<-XC J,Zr]
  have sy:vs.size=ys.length:=by rw[<-XC M,Zr]
  have:=RcAt.tuples (A:=A) (s:=s) (e:=fun j=>xs.getD j 0 == ys.getD j 0) O hb U (fun j h1 h2=>by
   obtain⟨x,tx,ex,vx⟩:=VG J (i:=j) (v:=us[j]) (by simp[h1]);obtain⟨y,ty,ey,vy⟩:=VG M (i:=j) (v:=vs[j]) (by simp[h2]);rw[vx,vy,Zb,Zb,ex,ey];exact jE _ _ _ _)
  rw[sx,sy,Zm2] at this;exact EqAt.of_refs e this
theorem ZjY {a b:Addr}{us vs:Array Value}{xs ys:List Int}{Q:Value->Shared->Prop}(hu:A.units<cLine)(ha:s.heap.IsTuple a us)(hb:s.heap.IsTuple b vs)(hx:bP us.toList xs)(hy:bP vs.toList ys)(h:Q (.bool (ltB xs ys)) s):wpAny (model prog w) A (compareOp .Lt (.ref a) (.ref b)) Q E s:=by
 obtain⟨⟨n6,dd,data,sl⟩,U,Y,n,hd⟩:=id ha;obtain⟨⟨n4,M,data2,O⟩,j,q,n2,J⟩:=id hb;simp only at Y hd q J;subst Y hd q J;exact richCompare_meets_room (op:=.Lt) ⟨_,U,rfl⟩ ⟨_,j,rfl⟩ F.slot_tuple_lt F.entry_tuple_lt (F.args_tuple_lt_2 _ _) (Zgu a b us vs n n2 dd M sl O hx hy)
  ⟨U,j,show gU (ltB xs ys)≠lz/\Q (.bool (ltB xs ys)) s from ⟨(fun x=>nomatch x),h⟩⟩ hu
theorem ZeT {fin:Bool}{Q:Bool->Shared->Prop}(O:A.units<cLine):∀(M vs:List Value) (xs ys:List (List Int)) (i:Nat),JH s.heap M xs->JH s.heap vs ys->Q (ZhV fin xs ys) s->W.KatLex prog w A false fin Q (M.zip vs) i s
 | [],vs,xs,ys,i,j,J,q=>by
  cases xs with
  |nil=>exact W.kat_nil q
  |cons _ _=>exact j.elim
 |_::_,[],xs,ys,i,j,J,q=>by
  cases ys with
  |cons _ _=>exact J.elim
  |nil=>
   cases xs with
   |nil=>exact W.kat_nil q
   |cons x xs=>exact W.kat_nil q
 |u::M,v::vs,xs,ys,i,j,J,q=>by
  cases xs with
  |nil=>exact j.elim
  |cons x xs=>
   cases ys with
   |nil=>exact J.elim
   |cons y ys=>
    obtain⟨⟨a,ua,rfl,U,Y⟩,r1⟩:=j;obtain⟨⟨b,ub,rfl,tb,ib⟩,r2⟩:=J;rw[List.zip_cons_cons];refine W.kat_cons ?_;refine Zgi O U tb Y ib prog w _ _ ?_;rw[ZhV] at q;by_cases e:x=y
    ·rw[if_pos e] at q
     rw[decide_eq_true e];exact W.kat_yes (ZeT O M vs xs ys (i+1) r1 r2 q)
    ·rw[if_neg e] at q
     rw[decide_eq_false e];refine W.kat_no ?_;rw[Bool.false_and];exact W.kat_one _ _ (ZjY O U tb Y ib q)
end
end PyZ
namespace PyZ
open PySem PyProof PyProof.Rows SeqAt
theorem Za5 (ys:List (List Int)):VF [] ys=decide (0<ys.length):=rfl
theorem Zco (xs:List (List Int)):VF xs []=false:=by
 cases xs with
 |nil=>rfl
 |cons x xs=>
  show decide ((x::xs).length<([]:List (List Int)).length)=false;exact decide_eq_false (by simp)
theorem Ug (x y:List Int)(xs ys:List (List Int)):VF (x::xs) (y::ys)=if x=y then VF xs ys else ltB x y:=by
 unfold VF;show (if x=y then ZhV _ xs ys else _)=_
 have e:decide ((x::xs).length<(y::ys).length)=decide (xs.length<ys.length):=by
  simp only[Zi,kP]
 rw[e]
theorem ZeJ:∀xs:List (List Int),VF xs xs=false
 | []=>rfl
 |x::xs=>by rw[Ug,if_pos rfl];exact ZeJ xs
theorem ZeI:∀{xs ys:List (List Int)},VF xs ys=false->VF ys xs=false->xs=ys
 | [],[],_,_=>rfl
 | [],_::_,h,_=>by rw[Za5] at h;simp at h
 |_::_,[],_,h=>by rw[Za5] at h;simp at h
 |x::xs,y::ys,j,q=>by
  rw[Ug] at j q;by_cases e:x=y
  ·rw[if_pos e] at j
   rw[if_pos e.symm] at q;rw[e,ZeI j q]
  ·rw[if_neg e] at j
   rw[if_neg (bJ e)] at q;exact absurd (ZeK j q) e
theorem Zab:∀{xs ys O:List (List Int)},VF xs ys=true->VF ys O=true->VF xs O=true
 |xs,ys,[],_,h=>by rw[Zco] at h;cases h
 |xs,[],z::O,h,_=>by rw[Zco] at h;cases h
 | [],y::ys,z::O,_,_=>by rw[Za5];exact decide_eq_true (by simp)
 |x::xs,y::ys,z::O,J,q=>by
  rw[Ug] at J q ⊢;by_cases M:x=y
  ·rw[if_pos M] at J
   by_cases j:y=z
   ·rw[if_pos j] at q
    rw[if_pos (M.trans j)];exact Zab J q
   ·rw[if_neg j] at q
    rw[if_neg (by rw[M];exact j),M];exact q
  ·rw[if_neg M] at J
   by_cases j:y=z
   ·rw[if_neg (by rw[<-j];exact M),<-j]
    exact J
   ·rw[if_neg j] at q
    have U:=Zac J q;rw[if_neg (fun e=>by rw[e,ZeL] at U;cases U)];exact U
noncomputable def rkR (yss:List (List (List Int)))(i:Nat):Nat:=(ac yss.length).countP fun k=>VF (yss.getD k []) (yss.getD i [])
theorem Zew {yss:List (List (List Int))}{i j:Nat}(q:i<yss.length)(O:j<yss.length):VF (yss.getD i []) (yss.getD j [])=decide (rkR yss i<rkR yss j):=by
 have J:∀{i j:Nat},i<yss.length->VF (yss.getD i []) (yss.getD j [])=true->rkR yss i<rkR yss j:=fun {i j} q h=>by
  refine Zao (fun k _ U=>Zab U h) ⟨i,af.mpr q,ZeJ _,h⟩
 cases e:VF (yss.getD i []) (yss.getD j []) with
 |true=>rw[decide_eq_true (J q e)]
 |false=>
  cases M:VF (yss.getD j []) (yss.getD i []) with
  |true=>
   have:=J O M;rw[decide_eq_false (by omega)]
  |false=>
   have:=ZeI e M;unfold rkR;rw[this];exact (decide_eq_false (by omega)).symm
theorem Zdg {yss:List (List (List Int))}(M:1<=yss.length):∃p,Vu yss.length (fun i j=>VF (yss.getD i []) (yss.getD j [])) (kJ yss.length)=some p/\p.toList.Perm (ac yss.length)/\(p.toList.map fun i=>yss.getD i []).Pairwise fun a b=>VF b a=false:=by
 obtain⟨p,e,q,J⟩:=Zi2 M (rkR yss);refine⟨p,(V5 (fun i j O U=>Zew O U) _).trans e,q,?_⟩;rw[i6] at J ⊢;refine fS (fun {a b} Y hb n4=>?_) J;have la:=af.mp (q.mem_iff.mp Y);have lb:=af.mp (q.mem_iff.mp hb);rw[Zew lb la];exact decide_eq_false (by omega)
theorem JH.len {h:Heap}:∀{us:List Value}{xs:List (List Int)},JH h us xs->us.length=xs.length
 | [],[],_=>rfl
 | [],_::_,h=>h.elim
 |_::_,[],h=>h.elim
 |_::_,_::_,h=>by rw[Zi,Zi,h.2.len]
theorem Zcx {h:Heap}:∀(as:List Addr) (yss:List (List (List Int))),as.length=yss.length->(∀(i:Nat) a,as[i]?=some a->∃(j:List Value) (ys:List (List Int)),yss[i]?=some ys/\h.IsTuple a j.toArray/\JH h j ys/\ys≠[])->
  ∃fs:List Value,W.KatTups h (as.map aI) fs/\fs.length=as.length/\∀v∈fs,∃a j,v=aI a/\h.IsTuple a j
 | [],[],_,_=>⟨[],W.KatTups.nil,rfl,fun v q=>by cases q⟩
 | [],_::_,h,_=>by cases h
 |_::_,[],h,_=>by cases h
 |a::as,ys::yss,M,g=>by
  obtain⟨j,O,e,⟨o,U,c,n,d⟩,J,ne⟩:=g 0 a rfl;cases e;obtain⟨fs,k,l,f⟩:=Zcx as yss (dw M) fun i Y hi=>g (i+1) Y hi
  match j,ys,J,ne with
  |_,[],_,ne=>exact absurd rfl ne
  | [],_::_,J,_=>exact J.elim
  |u::j,y::ys,J,_=>
   obtain⟨⟨b,ub,rfl,tb,_⟩,_⟩:=J;refine⟨aI b::fs,W.KatTups.cons U c d (by simp) k,by rw[Zi,Zi,l],fun v q=>?_⟩;rcases aF.mp q with rfl|q
   ·exact⟨b,ub,rfl,tb⟩
   ·exact f v q
section
variable {prog:Program}{w:World}{A:Around}{E:Value->Shared->Prop}{s:Shared}
theorem ZaF {l L:Addr}{m:Str->Option Value}{as:List Addr}{yss:List (List (List Int))}{p:Array Nat}{Q:Value->Shared->Prop}(hu:A.units+2<cLine)(n9:s.heap.Ns L m)(hl:s.heap.IsList l (as.map aI).toArray)(n2:2<=as.length)(o0:as.length<64)(hy:as.length=yss.length)
  (ht:∀h':Heap,(∀b o,b≠L->s.heap.get? b=some o->h'.get? b=some o)->∀(i:Nat) a,as[i]?=some a->∃(us:List Value) (ys:List (List Int)),yss[i]?=some ys/\h'.IsTuple a us.toArray/\JH h' us ys/\ys≠[])
  (hp:Vu as.length (fun i j=>VF (yss.getD i []) (yss.getD j [])) (kJ as.length)=some p)
  (q:∀D c h',s.heap.get? D=none->D≠L->(∀b o,b≠L->s.heap.get? b=some o->h'.get? b=some o)->h'.Ns L m->h'.get? D=some (W.listOf (p.toList.map fun i=>(as.map aI).getD i bT).toArray c)->Q (.ref D) {s with heap:=h'}) :
  wpAny (model prog w) A (call (.builtin "sorted") [.ref l]) Q E s:=by
 have fr:Fr (Zf2 s.heap L) L s.heap m:=by
  refine⟨n9,fun b o e=>?_,?_⟩
  ·by_cases hb:b<L
   ·rw[XF hb] at e;exact e
   ·rw[Zan (jC hb)] at e
    cases e
  ·show (s.heap.objs.extract 0 L).size<=L
   rw[mv,fF];exact jX ..
 have nw:News (Zf2 s.heap L) L s.heap (Ye s.heap L):=fun x hx=>by
  obtain⟨J,h2⟩:=Jj.mp hx;exact⟨h2,bt J,Zan (eR J)⟩
 have lv:(as.map aI).length=as.length:=jK ..;refine W.kat_sorted fr nw hl (by rw[lv];exact n2) (by rw[lv];exact o0) fun D e1 h' n4 M big=>?_;have kept:∀b o,b≠L->s.heap.get? b=some o->h'.get? b=some o:=fun b o hb e=>by
  rcases f8 b L with J|J
  ·exact n4.keep b o (by rw[XF J];exact e)
  ·exact (M (b,o) (aH _ (Jj.mpr ⟨fm J (bJ hb),e⟩))).1
 have dn:s.heap.get? D=none:=by
  cases e:s.heap.get? D with
  |none=>rfl
  |some o=>
   obtain⟨_,dL,dc⟩:=M _ (aE ..);rcases f8 D L with J|J
   ·rw[XF J] at dc
    rw[dc] at e;cases e
   ·exact absurd (big (D,o) (Jj.mpr ⟨fm J (bJ dL),e⟩)) (cg _)
 have dL:D≠L:=(M _ (aE ..)).2.1;have Y:=ht h' kept;obtain⟨fs,kt,fl,fi⟩:=Zcx as yss hy Y;refine W.kat_kind (T:=db "tuple") kt (by omega) (fun v hv=>?_) (by decide +kernel) ?_
 ·obtain⟨a,us,rfl,⟨o,g1,g2,_⟩⟩:=fi v hv
  intro A Q E s' hk q;refine iE (T:="tuple") ⟨o,hk _ _ g1,g2⟩ q
 ·rw[lv]
  have kb:(db "tuple" != db "tuple")=false:=by decide +kernel
  rw[kb];refine Zag (cmp:=fun i j=>VF (yss.getD i []) (yss.getD j [])) (fun i j C hi hj c=>?_) _ p _ hp ?_
  ·unfold W.kas_ask
   obtain⟨us,ys,e,⟨o,g1,g2,n1,g3⟩,ia,_⟩:=Y i as[i] (Zf hi);obtain⟨o5,n6,e2,⟨o2,k1,k2,o7,k3⟩,n8,_⟩:=Y j as[j] (Zf hj);have v1:(as.map aI).getD i bT=.ref as[i]:=by
    rw[Zb,Zc,Zf hi];rfl
   have v2:(as.map aI).getD j bT=.ref as[j]:=by
    rw[Zb,Zc,Zf hj];rfl
   have w1:yss.getD i []=ys:=by rw[Zb,e];rfl
   have w2:yss.getD j []=n6:=by rw[Zb,e2];rfl
   rw[v1,v2];refine W.kat_lt g1 g3 k1 k3 ?_;refine ZeT (by show A.units+1+1<cLine;omega) us o5 ys n6 0 ia n8 ?_;rw[w1,w2] at c;unfold VF at c;rw[Zh,Zh,ia.len,n8.len];exact c
  ·refine⟨_,_,n4,M,W.UpdF.head (fun x hx=>aB (big x hx)),fun o6 c O U=>?_⟩
   refine q D c o6 dn dL (fun b o hb e=>?_) O.ns (U _ (aE ..)).1;rcases f8 b L with J|J
   ·exact O.keep b o (by rw[XF J];exact e)
   ·exact (U (b,o) (aH _ (Jj.mpr ⟨fm J (bJ hb),e⟩))).1
end
end PyZ
namespace L2
open PySem PySem.Spec PyProof.Rows
noncomputable def RowT (H:Hp)(a:Addr)(ys:List (List Int)):Prop:=∃cs:List Addr,H a=some (.tup (cs.map V.ref))/\cs.length=ys.length/\∀(i:Nat) c,cs[i]?=some c->∃y,ys[i]?=some y/\H c=some (.tup (y.map V.int))
section
variable {X:Cx}{pins:List (Addr×Obj)}{σ:St}{H:Hp}{s:Shared}
noncomputable def ZlP:List V->Hp->VK->Prop:=fun xs H Q=>∃(l:Addr) (q:List Addr) (j:List (List (List Int))),xs=[.ref l]/\H l=some (.lst (q.map V.ref))/\q.length=j.length/\q.length<64/\
 (∀(i:Nat) a,q[i]?=some a->∃J,j[i]?=some J/\J≠[]/\RowT H a J)/\
 ∀D M,H D=none->bN M (ac q.length)->(M.map fun i=>j.getD i []).Pairwise (fun a b=>PyZ.VF b a=false)->Q (.ref D) (upd H D (.lst ((M.map fun i=>q.getD i 0).map V.ref)))
theorem U1 (I:Inv X pins σ H s){h':Heap}(kept:∀b o,b≠X.env.locals->s.heap.get? b=some o->h'.get? b=some o):∀(cs:List Addr) (ys:List (List Int)),cs.length=ys.length->(∀(i:Nat) c,cs[i]?=some c->∃y,ys[i]?=some y/\H c=some (.tup (y.map V.int)))->PyZ.JH h' (cs.map aI) ys
 | [],[],_,_=>trivial
 | [],_::_,h,_=>by cases h
 |_::_,[],h,_=>by cases h
 |c::cs,y::ys,J,g=>by
  obtain⟨y',e,j⟩:=g 0 c rfl;cases e;obtain⟨us,M,⟨o,O,g2⟩,_⟩:=I.tuple (.of j);have q:c≠X.env.locals:=fun z=>by rw[z,I.free] at j;cases j
  exact⟨⟨c,us.toArray,rfl,⟨o,kept c o q O,g2⟩,by simpa using VN M⟩,U1 I kept cs ys (dw J) fun i U Y=>g (i+1) U Y⟩
theorem ZdM (hu:X.A.units+64<cLine):Yo X (.builtin "sorted") ZlP:=by
 intro pins s σ H xs us Q I r h;obtain⟨l,j,J,rfl,hl,hy,n6,ht,q⟩:=h;obtain⟨u,rfl,ru⟩:=r.one;cases ru;obtain⟨m,hm,n8⟩:=id I.loc;obtain⟨z,o9,n,rv,hlen,e⟩:=I.lstM hl;have ei:=JK rv;subst ei;have Y:s.heap.IsList l (j.map aI).toArray:=(I.list (.of hl)).elim fun o8 hh=>by
  obtain⟨O,pl,_⟩:=hh;have:=JK O;rw[this] at pl;exact pl.isList
 have p3:(16777216:Nat)=sizeLine:=by decide
 have n9:∀{a:Addr}{o:HO},H a=some o->a≠X.env.locals:=fun {a o} e z=>by rw[z,I.free] at e;cases e
 by_cases n2:j.length<2
 ·refine PyZ.ZaG Y (by rw[Za];exact n2) ?_
  obtain⟨e1,he⟩:=sortedAll_at s.heap (j.map aI) (j.map aI).toArray;have n4:∀b o,s.heap.get? b=some o->(sortedAll s.heap (j.map aI) (j.map aI).toArray).get? b=some o:=fun b o e=>sortedAll_old e;generalize sortedAll s.heap (j.map aI) (j.map aI).toArray=h' at he n4 ⊢;have U:s.heap.objs.size<=s.heap.objs.size+1:=gG _;generalize s.heap.objs.size+1=D at he U ⊢;have em:=ZjB n2;have o0:=Zl9 n2 (fun i=>J.getD i []) fun a b=>PyZ.VF b a=false;have fin:=q D (ac j.length) (I.hok.fresh U) (dh _) o0;rw[em] at fin;have I':Inv X pins σ (upd H D (.lst (j.map V.ref))) {s with heap:=h',toks:=s.toks}:=I.laid (a:=D) (o:=.lst (j.map V.ref)) (t':=s.toks) n4 U ⟨by rw[Za];omega,j.map aI,e1,XW j,he⟩;exact⟨.ref D,_,I',rfl,fin⟩
 ·obtain⟨p,hp,M,o5⟩:=PyZ.Zdg (yss:=J) (by omega)
  rw[<-hy] at hp M;have o6:∀i∈p.toList,i<j.length:=fun i hi=>af.mp (M.mem_iff.mp hi);have pl:p.toList.length=j.length:=by rw[M.length_eq,Zg]
  have es:(p.toList.map fun i=>(j.map aI).getD i bT)=(p.toList.map fun i=>j.getD i 0).map aI:=by
   rw[aK];refine a8 fun i hi=>?_;have:=o6 i hi;show (j.map aI).getD i bT=aI (j.getD i 0);rw[Zb,Zc,Zf this,Zb,Zf this];rfl
  refine PyZ.ZaF (yss:=J) (p:=p) (by omega) hm Y (by omega) n6 hy (fun h' kept i a hi=>?_) hp (fun D c h' dn dL kept o7 hD=>?_)
  ·obtain⟨ys,e1,ne,cs,ha,cl,hc⟩:=ht i a hi
   obtain⟨us,O,⟨o,g1,g2⟩,_⟩:=I.tuple (.of ha);have eu:=JK O;subst eu;exact⟨_,ys,e1,⟨o,kept a o (n9 ha) g1,g2⟩,U1 I kept cs ys cl hc,ne⟩
  ·rw[es] at hD
   obtain⟨I',hH⟩:=I.newL (ys:=(p.toList.map fun i=>j.getD i 0).map V.ref) hm n8 dn dL kept o7 (by rw[Za,Za];omega) (XW _) hD;exact⟨.ref D,_,I',rfl,q D _ hH M o5⟩
end
end L2
namespace C39
open PySem L2 PySem.Spec PyProof.Rows
open Tb Pm
noncomputable abbrev ZgP:Stmt:=top 34
noncomputable def Xv (t:List (List Nat))(n p:Nat)(e:Nat->Nat->Nat)(z:Nat)(j:Nat->Nat)(s x:Nat):List Int:=ZhJ n (ofF n (rdT t x) p ((t.length:Int)*(bkM p (j s):Int)) z fun k=>(e s (it t x k):Int))
noncomputable def JW (t:List (List Nat))(n p m:Nat)(e:Nat->Nat->Nat)(z:Nat)(j:Nat->Nat)(s:Nat):List (List Int):=(ac m).map fun c=>Xv t n p e z j s (ZB t c)
noncomputable def ZdT (H:Hp)(r:Addr)(yss:List (List (List Int))):Prop:=∃cs:List Addr,H r=some (.tup (cs.map V.ref))/\cs.length=yss.length/\∀(i:Nat) c,cs[i]?=some c->∃j,yss[i]?=some j/\RowT H c j
noncomputable def Zd6:Sp:=fun M H Q _=>∃(g:Addr) (t:List (List Nat)) (n p m:Nat) (e O U:Nat->Nat->Nat) (z:Nat) (J:Nat->Nat),M=[.ref g]/\GT H g t/\PW t/\TD t n p m e O U z J/\
 ∀r j q,Same H q->ZdT q r j->j.Perm ((ac m).map (JW t n p m e z J))->j.Pairwise (fun a b=>PyZ.VF b a=false)->Q (.ref r) q
theorem _root_.L2.RowT.mono {H j:Hp}{a:Addr}{ys:List (List Int)}(h:RowT H a ys)(s:Same H j):RowT j a ys:=by
 obtain⟨q,J,M,O⟩:=h;refine⟨q,s _ _ J,M,fun i c U=>?_⟩;obtain⟨y,Y,g2⟩:=O i c U;exact⟨y,Y,s _ _ g2⟩
section
variable {t:List (List Nat)}{n p m:Nat}{e ω φ:Nat->Nat->Nat}{z:Nat}{dg:Nat->Nat}
theorem Zhb {a r:Nat}(R:Rd t a r){x:Nat}(h:it t a x=0):x % r=0:=by
 rw[X5 R] at h;apply am;intro z;exact R.nz (x % r) (by omega) (cm _ R.r1) h
theorem ZmP {a r:Nat}(R:Rd t a r){x:Nat}(h:x % r=0):it t a x=0:=by
 rw[X5 R,h];rfl
theorem _root_.Tb.TD.round (D:TD t n p m e ω φ z dg){rs:Nat->Nat}(R:∀a,a<t.length->Rd t a (rs a)){f:Nat}(L:Lc rs t.length f):f=n:=by
 have q:n % f=0:=L.mn n fun a j=>Zhb (R a j) (D.all a j);have J:f % n=0:=D.mn f fun a j=>ZmP (R a j) (L.dv a j);have M:=L.f1;have O:=D.n1;have U:=gR (by omega) (be q);have Y:=gR (by omega) (be J);omega
theorem _root_.Tb.TD.rd (D:TD t n p m e ω φ z dg){a r:Nat}(j:a<t.length)(R:Rd t a r):r<=n/\r<p:=by
 have h:=Zhb R (D.all a j);have M:=D.n1;have q:=gR (by omega) (be h);obtain⟨J,O,_⟩:=D.fit.st;exact⟨q,by omega⟩
end
section
variable {P:Program}{w:World}{K:ab}{mg:Str->Option Value}{base:Heap}
theorem Zhr {f:Addr}{fd:FuncData}(F:Y5 K "table_of" "table_of" ZgP f fd)(T:Bl mg)(T2:Zbw mg)(GR:Fn P w K mg base ZT 2 "full_round" ["group"] Zdd)(GF:Fn P w K mg base ZT 1 "fit_prime" ["n", "count"] ZkQ)(u9:Fn P w K mg base ZT 1 "root_powers" ["n", "p"] Zea)(GW:Fn P w K mg base ZT 6 "power_walks" ["group"] Zd5)(GC:Fn P w K mg base ZT 6 "counts_of" ["group"] ZbO)(GA:Fn P w K mg base ZT 4 "taken_apart" ["counts", "p"] Zej)(GB:Fn P w K mg base ZT 1 "back_by" ["p", "x"] Xj)(G1:Fn P w K mg base ZT 1 "first_of" ["one", "count", "p"] (Zei K))(GN:Fn P w K mg base ZT 4 "number_at" ["walk", "one", "share", "roots", "p"] Zee):ZR P w K mg base ZT 7 f fd ["group"] Zd6:=by
 refine F.ok (FS (N:=["group", "n", "p", "roots", "walks", "rows", "one", "share"])) (fun vs H Q E h=>?_) (fun cdv A w8 s H vs Q E hr h=>?_)
 ·obtain⟨g,t,n,p,m,e,ω,φ,z,dg,rfl,_⟩:=h;rfl
 ·obtain⟨g,t,n,p,m,e,ω,φ,z,dg,rfl,G,Pt,D,q⟩:=h
  refine⟨_,Zu (ZH 1 rfl (YC GR hr ZF (pc (vn 0) Zs)))
   (Zu (ZH 2 rfl (YC GF hr ZF (pc (vn 1) (pc (cb (YB K) T.len (pc (vn 0) Zs)) Zs))))
   (Zu (ZH 3 rfl (YC u9 hr ZF (pc (vn 1) (pc (vn 2) Zs))))
   (Zu (ZH 4 rfl (YC GW hr ZF (pc (vn 0) Zs)))
   (Zu (ZH 5 rfl (ZS Zs))
   (Zu (ZQ aq rfl (itL K (YC GA hr ZF (pc (YC GC hr ZF (pc (vn 0) Zs)) (pc (vn 2) Zs)))) (gnf 6 rfl)
    (Zu (ZH 7 rfl (Zz ZV (cb (YB K) T.len (pc (vn 0) Zs)) (YC GB hr ZF (pc (vn 2) (pc (YC G1 hr ZF (pc (vn 6) (pc (cb (YB K) T.len (pc (vn 0) Zs)) (pc (vn 2) Zs)))) Zs)))))
    (Zv (Yv (Wm aM aR aT Z2 (vn 5)
     (pc (ct ZE T.tuple (pc (cmp ["walk"] [6,7,3,2] ["walk", "one", "share", "roots", "p"] rfl (itL K (vn 4)) (fun _ _ _ _ _=>gn 0) (fun _ _ _ _ _=>ZN)
      (fun _ _ _ _ _=>YC GN hr ZF (pc (vn 0) (pc (vn 1) (pc (vn 2) (pc (vn 3) (pc (vn 4) Zs))))))) Zs)) Zs))))))
   (Zv (ZD (ct ZE T.tuple (pc (cb (ZdM hr.units) T2.sorted (pc (vn 5) Zs)) Zs))))))))),?_⟩
  have sz:(16777216:Nat)=sizeLine:=by decide
  have n60:=D.n60;have x0:=Pt.n60;have N1:=Pt.n1;have C:=D.cd;have p2:=C.pr.p2;have pl:=D.fit.lt;have m1:=C.m1;have x6:=ZiE C Pt;have mc:=C.mc;have U:=Yp Pt;obtain⟨gs,u1,u2,_⟩:=id G;have el:(gs.map V.ref).length=t.length:=by rw[Za,u2]
  have p6:∀a,a<t.length->Rd t a (rdT t a):=fun a ha=>by
   obtain⟨r,R⟩:=Pt.rd a ha;rw[XX R];exact R
  refine⟨_,rfl,g,t,rdT t,rfl,G,Pt,p6,fun fr H1 s1 L=>?_⟩;have x8:=D.round p6 L;subst x8;refine⟨_,rfl,_,rfl,g,_,rfl,.inr (.of (s1 _ _ u1)),fr,t.length,p,by rw[el];rfl,D.n1,n60,by omega,D.fit,fun H2 s2=>?_⟩;refine⟨_,rfl,_,rfl,fr,p,z,rfl,D.n1,n60,p2,pl,D.rt,fun Ro H3 nRo s3 x9=>?_⟩;have p7:=(s1.trans s2).trans s3;refine⟨_,rfl,g,t,rfl,G.mono p7,Pt,fun Wk ws H4 s4 W4=>?_⟩;rw[<-mc] at W4;refine⟨(by show 0<=sizeLine;decide),fun L nL=>?_⟩;have s5:=Same.upd (H:=H4) (o:=.lst []) nL;have h5:upd H4 L (.lst []) L=some (.lst ([]:List V)):=Zt;generalize upd H4 L (.lst [])=H5 at s5 h5 ⊢;have r9:=(p7.trans s4).trans s5;have y4:H L=none:=(p7.trans s4).free nL;refine⟨_,rfl,g,t,rfl,G.mono r9,Pt,fun Cn H6 s6 C6=>?_⟩;rw[<-mc] at C6;refine⟨_,rfl,Cn,t,p,m,e,ω,φ,rfl,C,Pt,pl,C6,fun Sm cs ss H7 s7 S7=>?_⟩;have p8:=(r9.trans s6).trans s7;have h7:=(s6.trans s7) _ _ h5;obtain⟨S1,S2,S3,S4⟩:=S7;have o6:ss.length=m:=by rw[S3.length_eq,Zg]
  have n6:∀{b:Addr}{xs:List V},xs≠[]->H7 b=some (.lst xs)->b≠L:=fun {b xs} hx hb=>Za1 hb h7 hx;have neT:∀{b:Addr}{xs:List V},H7 b=some (.tup xs)->b≠L:=fun {b xs} hb z=>by rw[z,h7] at hb;cases hb
  have t0:cs.map V.ref≠[]:=fun z=>by
   have:=congrArg c9 z;rw[Za,S2,o6] at this;simp at this;omega
  have t5:∀{k:Nat}{v:Nat->Int},1<=k->ZL k v≠[]:=fun {k v} hk z=>by
   have:=congrArg c9 z;rw[Yj] at this;simp at this;omega
  have y6:=Vd S1 (n6 t0 S1);refine⟨Sm,rfl,⟨_,.of S1⟩,?_⟩;have W7:H7 Wk=some (.lst (ws.map V.ref)):=(s5.trans (s6.trans s7)) _ _ W4.at';have R7:H7 Ro=some (.lst (WU p z fr)):=(s4.trans (s5.trans (s6.trans s7))) _ _ x9;have n8:(ws.map V.ref).length=m:=by rw[Za,W4.len]
  refine Wy (H0:=but H7 L) (YK (K:=K) (.of y6)) (fun i o7 H'=>∃(rs:List Addr) (v6 v7:Option V),o7=[some (.ref g),some (.int (fr:Nat)),some (.int (p:Nat)),some (.ref Ro),some (.ref Wk),some (.ref L),v6,v7]/\Same (but H7 L) H'/\H' L=some (.lst (rs.map V.ref))/\rs.length=i/\∀(j:Nat) c,rs[j]?=some c->RowT H' c (JW t fr p m e z dg (ss.getD j 0)))
   ⟨[],_,_,rfl,fun b o hb=>(Za0 hb).2,h7,rfl,fun j c O=>by simp at O⟩ (fun i o7 H' h=>by
    obtain⟨_,_,_,_,sm,_⟩:=h;exact sm) ?_ ?_
  ·rintro i y o7 H8 hy ⟨rs,v6,v7,rfl,s8,h8,rl,o8⟩
   have hi:i<m:=by
    have:=(ae.mp hy).1;rw[Za,S2,o6] at this;exact this
   rw[Zc,Zf (show i<cs.length by omega)] at hy;cases hy;have ho:=S4 i _ (Zf (show i<cs.length by omega));generalize cs[i]'(by omega)=oa at ho ⊢;have J:ss.getD i 0<m:=by
    have:ss.getD i 0∈ss:=by rw[Zb,Zf (by omega)];exact bg _
    exact af.mp (S3.mem_iff.mp this)
   generalize y8:ss.getD i 0=M at ho J;have k8:∀{b:Addr}{o:HO},H7 b=some o->b≠L->H8 b=some o:=fun {b o} hb Y=>s8 b o (Vd hb Y);have t6:=k8 ho (n6 (t5 m1) ho);have u8:=k8 (p8 _ _ u1) (neT (p8 _ _ u1));have W8:=k8 W7 (n6 (fun Y=>by rw[Y] at n8;simp at n8;omega) W7);have t7:WU p z fr≠[]:=fun Y=>by
    have:=congrArg c9 Y;rw[VE] at this;have:=D.n1;simp at *;omega
   have R8:=k8 R7 (n6 t7 R7);have Zfr:ZB t 0=0:=by
    have h0:0<(ZC t t.length).length:=by omega
    exact ((U.z _ (U.rl 0 h0)).mp (U.rn 0 h0))
   have e0:EC t e M 0=e M 0:=by unfold EC;rw[Zfr]
   have elt:=C.elt M 0 J (by omega);refine⟨_,rfl,g,_,rfl,.inr (.of u8),_,rfl,_,rfl,_,rfl,g,_,rfl,.inr (.of u8),_,rfl,oa,(ac m).map fun c=>((EC t e M c:Nat):Int),e M 0,t.length,p,dg M,by rw[el];rfl,.of (by rw[t6,W3]),?_,by omega,x0,p2,pl,D.d1 M J,D.dl M J,D.dq M J,fun d' a b=>D.dm M d' J a b,?_⟩
   ·rw[Zc,ao (by omega)]
    show some ((EC t e M 0:Nat):Int)=_;rw[e0]
   have y9:=D.dp M J;have dg1:=D.d1 M J;obtain⟨y0,y1,y2,y3⟩:=C.pr.iv (dg M) (by omega) y9;refine⟨p,_,rfl,p2,pl,⟨y0,y1,y2,by rw[<-aV,<-a9,y3];rfl⟩,fun y a1 a2 a3=>?_⟩;have hy:y*dg M % p=1:=by
    have:((y*dg M % p:Nat):Int)=1:=by rw[a9,aV];exact a3
    omega
   have eb:=Zlo a2 hy;refine⟨_,_,rfl,rfl,.inr ⟨by omega,by omega⟩,?_⟩;rw[el];refine⟨_,rfl,.inl ⟨rfl,_,.of h8⟩,_,rfl,Wk,rfl,⟨_,.of W8⟩,?_⟩;refine Pm.YS (W:=Addr) id (fun c a H=>H a=some (.tup ((Xv t fr p e z dg M (ZB t c)).map V.int))) (fun _ _=>True) (YK (K:=K) (.of W8)) [some (.ref oa),some (.int ((t.length:Int)*(y:Int))),some (.ref Ro),some (.int (p:Nat))] rfl (by rw[n8];omega) (fun k a H H' sm h=>sm _ _ h) (fun a H H' sm h=>trivial) (fun k a H0' H1' D' o ys ys' h1 h2 h3 h4=>by rw[Zx (fun Y=>by rw[Y,h4] at h1;cases h1)];exact h1) (fun c x hx H9 s9 R k9=>?_) (fun D9 as H9 nD9 s9 hD9 t9 has _=>?_)
   ·have O:c<m:=by
     have:=(ae.mp hx).1;rw[n8] at this;exact this
    rw[Zc,Zf (show c<ws.length by have:=W4.len;omega)] at hx;cases hx;have hw:=W4.it c _ (Zf (show c<ws.length by have:=W4.len;omega));generalize ws[c]'(by have:=W4.len;omega)=wa at hw ⊢;have o9:=U.rl c (by omega);have Rr:=p6 _ o9;have rr:=D.rd o9 Rr;have u5:=(s5.trans (s6.trans s7)) _ _ hw;have hw8:=k8 u5 (n6 (t5 Rr.r1) u5);have tl:(t.length:Int)<=60:=by omega
    have shb:(t.length:Int)*(y:Int)<2 ^ 40:=by
     have:(t.length:Int)*(y:Int)<=60*(y:Int):=dF tl (by omega);omega
    have sha:0<=(t.length:Int)*(y:Int):=Int.mul_nonneg (by omega) (by omega);refine⟨_,rfl,_,rfl,_,rfl,_,rfl,_,rfl,wa,oa,Ro,rdT t (ZB t c),m,fr,p,z,_,_,_,rfl,s9 _ _ hw8,s9 _ _ t6,s9 _ _ R8,D.n1,n60,x6,Rr.r1,rr.1,rr.2,pl,C.pr,⟨fun c _=>by omega,fun c O=>?_⟩,fun k hk=>?_,by omega,shb,fun q' n4 n9 p3=>?_⟩
    ·have:=C.elt M (ZB t c) J (U.rl c (by omega))
     show ((e M (ZB t c):Nat):Int)<(p:Int);omega
    ·exact⟨Yh t (it t (ZB t c) k),by have:=U.lt _ (Wa Pt o9 k);omega,rfl⟩
    ·refine k9 q' n4 n9 ?_ trivial
     rw[p3];show some (HO.tup ((ZhJ fr (ofF fr (rdT t (ZB t c)) p ((t.length:Int)*(y:Int)) z fun k=>((EC t e M (wkF t (ZB t c) k).toNat:Nat):Int))).map V.int))=_;unfold Xv;rw[eb];congr 3;congr 2;funext k;unfold wkF;rw[Zj,<-C.at Pt J (Wa Pt o9 k)]
   ·refine⟨D9,_,rfl,.inl ⟨.of hD9,fun tp r6=>?_⟩⟩
    have n9:=Same.upd (H:=H9) (o:=.tup (as.map fun w=>V.ref (id w))) r6;have hT:upd H9 tp (.tup (as.map fun w=>V.ref (id w))) tp=some (.tup (as.map V.ref)):=Zt;generalize upd H9 tp (.tup (as.map fun w=>V.ref (id w)))=n4 at n9 hT ⊢;have o0:=s9.trans n9;have p3:=o0 _ _ h8;refine⟨L,_,_,rfl,rfl,p3,by rw[Za,rl];omega,?_⟩;have keep:∀{b:Addr}{xs:List V},n4 b=some (.tup xs)->upd n4 L (.lst (rs.map V.ref++[.ref tp])) b=some (.tup xs):=fun {b xs} hb=>by
     rw[Zx (fun Y=>by rw[Y,p3] at hb;cases hb)];exact hb
    have o5:∀{b:Addr}{ys:List (List Int)},RowT n4 b ys->RowT (upd n4 L (.lst (rs.map V.ref++[.ref tp]))) b ys:=fun {b ys} hb=>by
     obtain⟨bs,b1,b2,b3⟩:=hb;refine⟨bs,keep b1,b2,fun j c O=>?_⟩;obtain⟨yy,c1,c2⟩:=b3 j c O;exact⟨yy,c1,keep c2⟩
    rw[n8] at t9;refine⟨rs++[tp],_,_,rfl,fun b o hb=>?_,by rw[Zt,aU];rfl,by rw[Zd,rl];rfl,fun j c O=>?_⟩
    ·rw[Zx (Za0 hb).1]
     exact (s8.trans o0) b o hb
    ·by_cases hj:j<rs.length
     ·rw[aw hj] at O
      exact o5 ((o8 j c O).mono o0)
     ·have hl:=(ae.mp O).1
      rw[Zd,Zk] at hl;have ec:j=rs.length:=by omega
      rw[ax (by omega),ec,de] at O;cases O;rw[ec,rl,y8];refine o5 ⟨as,hT,by unfold JW;rw[Za,Zg,t9],fun c a ha=>?_⟩;have hcm:c<m:=by
       have:=(ae.mp ha).1;omega
      refine⟨Xv t fr p e z dg M (ZB t c),by unfold JW;rw[Zc,ao hcm];rfl,n9 _ _ (has c a ha).1⟩
  ·rintro o7 H8 ⟨rs,v6,v7,rfl,s8,h8,rl,o8⟩
   rw[Za,S2,o6] at rl;have yl:(ss.map (JW t fr p m e z dg)).length=m:=by rw[Za,o6]
   have p4:∀j,j<m->(ss.map (JW t fr p m e z dg))[j]?=some (JW t fr p m e z dg (ss.getD j 0)):=fun j hj=>by
    rw[Zc,Zf (by omega),Zb,Zf (by omega)];rfl
   refine⟨_,rfl,L,rs,ss.map (JW t fr p m e z dg),rfl,h8,by omega,by omega,fun j a ha=>?_,fun Ls js nLs pm pw=>?_⟩
   ·have hj:j<m:=by
     have:=(ae.mp ha).1;omega
    exact⟨_,p4 j hj,fun Y=>by
     have:=congrArg c9 Y;unfold JW at this;rw[Za,Zg] at this;simp at this;omega,o8 j a ha⟩
   ·refine⟨Ls,_,rfl,.inl ⟨.of Zt,fun tp r6=>?_⟩⟩
    have sA:=Same.upd (H:=H8) (o:=.lst ((js.map fun i=>rs.getD i 0).map V.ref)) nLs;have sB:=Same.upd (H:=upd H8 Ls (.lst ((js.map fun i=>rs.getD i 0).map V.ref))) (o:=.tup ((js.map fun i=>rs.getD i 0).map V.ref)) r6;have r8:=sA.trans sB;have hT:upd (upd H8 Ls (.lst ((js.map fun i=>rs.getD i 0).map V.ref))) tp (.tup ((js.map fun i=>rs.getD i 0).map V.ref)) tp=some (.tup ((js.map fun i=>rs.getD i 0).map V.ref)):=Zt;generalize upd (upd H8 Ls (.lst ((js.map fun i=>rs.getD i 0).map V.ref))) tp (.tup ((js.map fun i=>rs.getD i 0).map V.ref))=H9 at r8 hT ⊢;rw[rl] at pm;have jl:js.length=m:=by rw[pm.length_eq,Zg]
    refine q tp (js.map fun i=>(ss.map (JW t fr p m e z dg)).getD i []) H9 (fun b o hb=>r8 _ _ (s8 b o (Vd (p8 _ _ hb) (fun Y=>by rw[Y,y4] at hb;cases hb)))) ⟨js.map fun i=>rs.getD i 0,hT,by rw[Za,Za],fun i c O=>?_⟩ ?_ pw
    ·rw[Zc] at O
     cases hj:js[i]? with
     |none=>rw[hj] at O;cases O
     |some j=>
      rw[hj] at O;have hjm:j<m:=af.mp (pm.mem_iff.mp (av hj));have ec:c=rs.getD j 0:=(ay O).symm;have hrj:rs[j]?=some c:=by rw[ec,Zb,Zf (by omega)];rfl
      refine⟨_,by rw[Zc,hj];rfl,?_⟩;have:=(o8 j c hrj).mono r8;show RowT H9 c ((ss.map (JW t fr p m e z dg)).getD j []);rw[Zb,p4 j hjm];exact this
    ·have h1:(js.map fun i=>(ss.map (JW t fr p m e z dg)).getD i []).Perm ((ac m).map fun i=>(ss.map (JW t fr p m e z dg)).getD i []):=pm.map _
     have h2:((ac m).map fun i=>(ss.map (JW t fr p m e z dg)).getD i [])=ss.map (JW t fr p m e z dg):=by
      refine aY fun j=>?_;by_cases hj:j<m
      ·rw[p4 j hj,Zc,ao hj]
       show some ((ss.map (JW t fr p m e z dg)).getD j [])=_;rw[Zb,p4 j hj];rfl
      ·rw[ah (by rw[Za,Zg];omega),ah (by omega)]
     rw[h2] at h1;exact h1.trans (S3.map _)
end
end C39
namespace Tb
noncomputable def Ziq:Nat->Nat->List Nat
 |0,_=>[]
 |k+1,x=>x % 64::Ziq k (x / 64)
noncomputable def dgZ (k x:Nat):List Int:=(Ziq k x).map fun (v:Nat)=>(v:Int)-32
noncomputable def rwL {α:Type}(k:Nat):Nat->List α->List (List α)
 |0,_=>[]
 |r+1,l=>l.take k::rwL k r (l.drop k)
noncomputable def Zqa (N m n p z:Nat)(r:List Nat):List Nat×Dt:=(r.take N,⟨n,p,z,(r.drop N).take N,(r.drop (2*N)).take m,rwL m m (r.drop (2*N+m)),rwL m m (r.drop (2*N+m+m*m)),rwL m m (r.drop (2*N+m+2*(m*m))),r.drop (2*N+m+3*(m*m))⟩)
noncomputable def Zqb (x:Nat):List Nat×Dt:=match Ziq 5 x with
 | [N,m,n,p,z]=>Zqa N m n p z (Ziq (2*N+2*m+3*(m*m)) (x / 1073741824))
 |_=>([],⟨0,0,0,[],[],[],[],[],[]⟩)
end Tb
namespace Pm
open Tb
noncomputable def X7:List (List Nat×Dt):=[
 74958193672948813889,
 22654726610275057271743917719323924922900610,
 470520235651324442516722702708972472075610065237079580597127626469136106533059,
 671548920675812908269201013745086598906609992675962713754461672633672397241643125713124214135357904845040480669968729653508,
 65865326490174491577293164600344391787781986575068458264711636195561507956567430301125815248942623232058599469804307085995291702311287804950732617122352848651016545646353142534469,
 443931422347392131765203164942621389840737188339947676863033804941669787941070248738583808213458506855886471474171171653097002294788146586638813492510746247776076972879197173300962739607038113013918094051889227896075226891923065884323062866534790,
 205614987486791739278725685231922790134907067017417654090587776051818907530571770989055504292857354618253788939116177651832965803262109806077453319067210426991555822324675453400829537426731862566011080381440575792939106555543765206647782661379805204834319420982982621088182230739597424000437175237470584462302331509530718663,
 6544455106002499221452631219438792424135781083159046737248373836237955959433348638745845174138163195971039043395414650979545422482635340638878393767670448167094516017591007312972679279773297748421184374421040522624261826923587504072498166344569192676922193445158581345357863464492419723552641216320587995643237687954310079559127350602501736722209036444313830738235369972213840435321595744036560048173706794795528,
 14314364173913849554452168931421263128625881906072433032542854948069769056430823684885941650374895111343714050581495728377451372962578956327732942313885582796737145524782975163563980970030598606506758330100301789086047417503274514710263775447607608136871965827503919389571146150790074230980457241915786711620388296769009432413891891809120658100850541502189623024421610704374014174891186442185648177741430448847781972329711122507243989132725954617784793626998812860633016039677075325322852610762781229032181371465,
 2151545203697207034371708097695160868137957280926268974953292035661955472296345559221500713553818044430932977533232318316585656698620813177616928007700771004221375646756065270611994080812274922465279672675364675100355414677723746271618290605516342480812878752559053114166458126427279563569919336965729846538357271022977603304791937915181242758966005805514446833372498982604022472256398089446244639693393018874126483762152470672726762828249780614644734522550199176593097821603243608157828033825575920836338114205293886548391937810672410503333910665768733428446070921838453948348526874710042824924577899493185811188430971530,
 32341675064146426898433440550268303209089261711017055329765379839344317663882050860245190,
 8981739232676071695345000050400030511179543844473094329910678622744271980713908982241538399770416112889094362786851655414650061965568977526853612514959754503361933264090810577862278759334216,
 3172074168774549675946494179548379004823920649098019547497162494033329466646657245581248983189490760507075211916692581617468283545943095873675530,
 4160057383907671211983172979422200388663128399877995222212614884929499438475070247242638837995709613921103094661353069163428815013467167347657876143754452490901067958065031328397325791150760367726050578658503893044193370548519166086142783428331226096000648479552332172,
 671548920675815256238682574072547074539867525222243527054207783062697492233023158716975692606269288505226380144401456570628,
 6544455106002499221452631219351067146334458438073729979698596334140825730315751975073019026677788408004922576851623382866513246039820720448445242964599635169245794588892177828990745835941578375916492401264423857017829832807801463146975474893600637145990609690200507977976900321002456706365666052000127843264524644753592296916744807669268885068727100196198266183062198571878059693356708367957337021845376184107528,
 157954083402525457760648152156035519462338608851787977671750314509270986474811811475195388657609931159245753960005439891686018841030877727065772358656268,
 8981739232676071695345000050400030511179543844473094329910678622744271980713908982241538399770416112889094362786851655414650061965568977526853608233216675035495248074960360033966631798718792,
 2096406994726506225523315948024691895129869129089809915077409517520593551478529918150457767759596999861841787455210698476332866762926051552933053993208886967563763455211336240565521796009233027251420838810420455923973530937728500509784005916310446883860048412480422284,
 14314364173913849554452168931421129399055863238166020192260238590232491038168133857549692440467441717079092288823254774493977375636347249982209695255481239380148190021195479862356581468290207647858353217567851393600516830014351005944909392611480094198019261424624810012815137338589245487002903313339340615581125043913961519288005944769392552103236684803757767361041876026875499795352213882705882089349794478443806057159587888219236693685477898503509391729242733948949435705724835878294798565358817810202255700553,
 100938339836254497846731997318828455711809879361203325291776926100276704468693233114124201156474462830879674189225614565565021616037434752237865669953571636537809362075168450015823205429280226385674224153652124468884502054523663368532,
 57253283961900903544574867413818401712928162941009568913891553352159852524194508210938145379741408218163074214604740486318225383747397569466288532345591103165507259823970085206931497941236474515460835465876695501097618341437050349469671862119481688,
 413446508765659601053943298961590153493126343125357580931769804732067728303703444065369303038931678520628785814243701923591197515294746542011552311370624617893091588269458611400611737571850994355770476901379602152266406744929347002257749].map Zqb
noncomputable def ZoI (x:List (List Nat)×(List Nat×Dt)):Bool:=match dfs x.1 61 [ac (x.1.getD 0 []).length] [ac (x.1.getD 0 []).length] with
 |none=>false
 |some j=>tdB (YW j) x.2.1 x.2.2
theorem Zkl:(UI.zip X7).all ZoI=true:=by decide +kernel
theorem Zis:UI.length=X7.length:=by decide +kernel
end Pm
namespace Tb
section
variable {t:List (List Nat)}{o:List Nat}
theorem J3 (P:PW t)(O:Ord t.length o){i j:Nat}(q:i<t.length)(J:j<t.length):o.getD (ZI (ren t o) i j) 0=ZI t (o.getD i 0) (o.getD j 0):=by
 rw[Za2 O q J];exact (YM O (P.lt _ _ (Yl O q) (Yl O J))).2
theorem Ws (O:Ord t.length o):(ren t o).length=t.length:=by rw[VD,O.len]
theorem Zb2 (P:PW t)(O:Ord t.length o){a:Nat}(j:a<t.length):∀k,o.getD (it (ren t o) a k) 0=it t (o.getD a 0) k
 |0=>O.z
 |k+1=>by
  have q:=Jf P O;have:=Wa q (a:=a) (by rw[Ws O];exact j) k;rw[Ws O] at this;rw[it,J3 P O this j,Zb2 P O j k];rfl
theorem Zg8 (P:PW t)(O:Ord t.length o){a:Nat}(j:a<t.length):o.getD (YJ (ren t o) a) 0=YJ t (o.getD a 0):=by
 have M:=Jf P O;have J:=Ws O;obtain⟨q,U⟩:=Yr M (a:=a) (by rw[J];exact j);rw[J] at q;refine Vf P (Yl O j) (Yl O q) ?_;rw[<-J3 P O j q,U];exact O.z
theorem V7 (P:PW t)(O:Ord t.length o){b x:Nat}(hb:b<t.length)(j:x<t.length):o.getD (tb (ren t o) b x) 0=tb t (o.getD b 0) (o.getD x 0):=by
 have J:=Jf P O;have q:=Ws O;have M:=(Yr J (a:=x) (by rw[q];exact j)).1;have U:=J.lt x b (by rw[q];exact j) (by rw[q];exact hb);rw[q] at M U;unfold tb;rw[J3 P O U M,J3 P O j hb,Zg8 P O j]
theorem ZlM (O:Ord t.length o){x:Nat}(j:x<t.length):pos o (o.getD x 0)=x:=by
 have h:=YM O (Yl O j);exact inj O h.1 j h.2
theorem Zg7 (O:Ord t.length o)(F:Nat->Nat):sm t.length (fun x=>F (o.getD x 0))=sm t.length F:=
 ZaH (c:=fun x=>o.getD x 0) (d:=fun x=>pos o x) (fun x j=>Yl O j) (fun x j=>(YM O j).1) (fun x j=>ZlM O j) (fun x j=>(YM O j).2) F
theorem Zn0 (P:PW t)(O:Ord t.length o){u x:Nat}(M:u<t.length)(Y:x<t.length):cjB (ren t o) u x=cjB t (o.getD u 0) (o.getD x 0):=by
 have P':=Jf P O;have j:=Ws O;rw[c7,X9,X9,j];constructor
 ·rintro⟨y,q,e⟩
  exact⟨o.getD y 0,Yl O q,by rw[<-V7 P O M q,e]⟩
 ·rintro⟨y,q,e⟩
  have J:=YM O q;refine⟨pos o y,J.1,?_⟩;have U:=Xf P' (b:=u) (x:=pos o y) (by rw[j];exact M) (by rw[j];exact J.1);rw[j] at U;refine inj O U Y ?_;rw[V7 P O M J.1,J.2,e]
variable {n p m:Nat}{e ω φ:Nat->Nat->Nat}{z:Nat}{dg:Nat->Nat}
theorem ZlN (P:PW t)(O:Ord t.length o):ClW (ren t o) (fun x=>Yh t (o.getD x 0)) (fun k=>pos o (ZB t k)) (ZC t t.length).length:=by
 have P':=Jf P O;have q:=Ws O;have U:=Yp P;refine⟨fun x j=>?_,fun x j=>?_,fun x s j M=>?_,fun x j=>?_,fun k Y=>?_,fun k Y=>?_⟩
 ·rw[q] at j;exact U.lt _ (Yl O j)
 ·rw[q] at j
  rw[U.z _ (Yl O j)];constructor
  ·intro h
   exact inj O j P.n1 (h.trans O.z.symm)
  ·intro h
   rw[h];exact O.z
 ·rw[q] at j M
  show Yh t (o.getD (tb (ren t o) x s) 0)=_;rw[V7 P O j M];exact U.con _ _ (Yl O j) (Yl O M)
 ·rw[q] at j ⊢
  have hc:=U.lt _ (Yl O j);have hr:=U.rl _ hc;obtain⟨s,M,es⟩:=U.tr (ZB t (Yh t (o.getD x 0))) (o.getD x 0) hr (Yl O j) (U.rn _ hc);have hp:=YM O M;have J:=YM O hr;refine⟨pos o s,hp.1,?_⟩;have h1:=Xf P' (b:=pos o (ZB t (Yh t (o.getD x 0)))) (x:=pos o s) (by rw[q];exact J.1) (by rw[q];exact hp.1);rw[q] at h1;refine inj O h1 j ?_;rw[V7 P O J.1 hp.1,hp.2,J.2,es]
 ·rw[q];exact (YM O (U.rl k Y)).1
 ·show Yh t (o.getD (pos o (ZB t k)) 0)=k
  rw[(YM O (U.rl k Y)).2];exact U.rn k Y
theorem TD.ren (P:PW t)(O:Ord t.length o)(D:TD t n p m e ω φ z dg):TD (ren t o) n p m (fun s x=>e s (o.getD x 0)) (fun s x=>ω s (o.getD x 0)) (fun s x=>φ s (o.getD x 0)) z dg:=by
 have P':=Jf P O;have M:=Ws O;have C:=D.cd;have lt:∀{x},x<(Tb.ren t o).length->x<t.length:=fun {x} h=>by rw[M] at h;exact h
 have e0:∀s,e s (o.getD 0 0)=e s 0:=fun s=>by rw[O.z]
 refine⟨⟨C.pr,C.m1,C.mc.trans ((ZlN P O).count P'),fun s x y J j hy=>?_,fun s x y J j hy=>?_,fun s x J j=>C.elt s _ J (Yl O (lt j)),fun s x J j=>C.wlt s _ J (Yl O (lt j)),fun s u z J hu hz=>?_,fun x j=>?_,fun s s' J U=>?_,fun s s' J U h=>?_⟩,D.n1,D.n60,fun a ha=>?_,fun x j=>?_,by rw[M];exact D.fit,D.rt,D.d1,D.dp,D.dl,fun s J=>by rw[M];show ((dg s:Int)*(dg s:Int)-(e s (o.getD 0 0):Int)*(t.length:Int)) % (p:Int)=0;rw[e0];exact D.dq s J,fun s d' J a b=>by rw[M];show ((d':Int)*(d':Int)-(e s (o.getD 0 0):Int)*(t.length:Int)) % (p:Int)≠0;rw[e0];exact D.dm s d' J a b⟩
 ·show e s (o.getD (tb (Tb.ren t o) x y) 0)=_
  rw[V7 P O (lt j) (lt hy)];exact C.ec s _ _ J (Yl O (lt j)) (Yl O (lt hy))
 ·show ω s (o.getD (tb (Tb.ren t o) x y) 0)=_
  rw[V7 P O (lt j) (lt hy)];exact C.wc s _ _ J (Yl O (lt j)) (Yl O (lt hy))
 ·rw[M]
  have h1:sm t.length (fun x=>W2 (cjB (Tb.ren t o) u x)*e s (o.getD (ZI (Tb.ren t o) (YJ (Tb.ren t o) x) z) 0))=sm t.length (fun x=>(fun y=>W2 (cjB t (o.getD u 0) y)*e s (ZI t (YJ t y) (o.getD z 0))) (o.getD x 0)):=Yc fun x j=>by
   have hb:=(Yr P' (a:=x) (by rw[M];exact j)).1;rw[M] at hb;show _=W2 (cjB t (o.getD u 0) (o.getD x 0))*e s (ZI t (YJ t (o.getD x 0)) (o.getD z 0));rw[Zn0 P O (lt hu) j,J3 P O hb (lt hz),Zg8 P O j]
  rw[h1,Zg7 O (fun y=>W2 (cjB t (o.getD u 0) y)*e s (ZI t (YJ t y) (o.getD z 0)))];exact C.eig s _ _ J (Yl O (lt hu)) (Yl O (lt hz))
 ·have:=C.one _ (Yl O (lt j))
  rw[this];by_cases h:x=0
  ·rw[if_pos h,h,O.z,if_pos rfl]
  ·rw[if_neg h,if_neg]
   intro q;exact h (inj O (lt j) P.n1 (q.trans O.z.symm))
 ·rw[M,Zg7 O (fun y=>φ s y*e s' y)]
  exact C.du s s' J U
 ·refine C.sep s s' J U fun u hu=>?_
  have Y:=YM O hu;have:=h (pos o u) (by rw[M];exact Y.1);rw[Y.2] at this;exact this
 ·have hi:=Wa P' ha n
  rw[M] at hi;refine inj O hi P.n1 ?_;rw[Zb2 P O (lt ha),O.z];exact D.all _ (Yl O (lt ha))
 ·refine D.mn x fun a ha=>?_
  have Y:=YM O ha;have:=j (pos o a) (by rw[M];exact Y.1);have h2:=Zb2 P O Y.1 x;rw[this,Y.2,O.z] at h2;exact h2.symm
end
end Tb
namespace Num
noncomputable def Zop (x:Int):List Int->Nat->List Int->List Int
 | [],_,ZG=>ZG
 |y::j,k,ZG=>Zop x j (k+1) (ZG.set k (co ZG k+x*y))
noncomputable def ti (n:Nat)(u:Int)(j:Nat):Nat:=((j:Int)*u % (n:Int)).toNat
theorem ZnD {n:Nat}(q:0<n)(u:Int)(j:Nat):ti n u j<n:=by
 have J:=cJ ((j:Int)*u) (show (n:Int)≠0 by omega);have M:=cx ((j:Int)*u) (show (0:Int)<n by omega);unfold ti;omega
theorem Zlw {n:Nat}(q:0<n)(u:Int)(j:Nat):((ti n u j:Nat):Int)=(j:Int)*u % (n:Int):=by
 have J:=cJ ((j:Int)*u) (show (n:Int)≠0 by omega);unfold ti;omega
noncomputable def Zgv (n:Nat)(u:Int):List Int->Nat->List Int->List Int
 | [],_,ZG=>ZG
 |x::q,j,ZG=>Zgv n u q (j+1) (ZG.set (ti n u j) (co ZG (ti n u j)+x))
noncomputable def XQ (n:Nat)(u:Int)(xs:List Int):List Int:=Zgv n u xs 0 (ak n 0)
end Num
namespace C39
open PySem L2 PySem.Spec PyProof.Rows
open Tb Pm
noncomputable def flp (n:Nat)(xs:List Int):List Int:=Num.Ja n (N39.ZZ n) (N39.RN n) (Num.XQ n (-1) xs)
structure Dx where
 top:Nat
 R:List (List Int)
 X:List (List (List Int))
 nu:List Int
noncomputable def Zp9 (top n m:Nat)(r:List Int):Dx:=⟨top,rwL top n r,(rwL (m*top) m (r.drop (n*top))).map (rwL top m),r.drop ((n+m*m)*top)⟩
noncomputable def Zp8 (x:Nat):Dx:=match Ziq 3 x with
 | [top,n,m]=>Zp9 top n m (dgZ ((n+m*m)*top+m) (x / 262144))
 |_=>⟨0,[],[],[]⟩
noncomputable def dxs:List Dx:=[
 35995783233,
 38650320778871185537,
 802355677709315317831139365437416923771817994643321026,
 4068427081821655303620711046118623210679014557606885025944261417023519791878160793858,
 812838713503669868448811752816440867918084550736600922274701077039404656740414709308172782953528907448841437695659037089696874230005292481656006348108646958994603845140187474280375811992450439796084778544101297169035557395683889476,
 493975364522554487933420272679428982311173474126809401705716950292516563708985623652864048261317685515111852314080271955208931088909538875021443338944578709998985830786,
 4541911925004804049558704497501866849761880200798225958769151319803156703896541822811497437221963029394300896252766483549266517846199479161567458091063198280355036510391801827493752008874146144061726150950779364445739792951015237750557023354197135430132418472148682306618587650390135286863307405660729960329613143217188185490186428472104584652397265940594804119371831062038841033077485921226293051541476742265888956591350685789339481653073344720422903350932799557810840929507550330224319751934708690286983246995335132697281717348034121134873866026828998074049636578365724159458627884389392115017238844757083379622413206843846,
 584493830006349567962971914344968004207944764589795237169034478528841696074167601243484013881340228537999317798566585981987213858697560821145958373094865645877248841056076538734435793941789805863457491683653555102354926709377013117888556286261502146080294968044613072342588552793221729270353350721933695995533377921100148183774161416828192801886193703770239375549965823512784885964384181867971327816689208801734628766472501525400843021919297771352686969049553533762079473230185549456384409884246974600646729316395152461441481334477929349636,
 5374194114391190826747993716164585160949132813261037877099446003379137052758553032183359607296724459263690967715831427798997356719952545975798868838228559161675382777644835117781480756914489132193682932229819536950901463835006740497940320199002865614053134646725156002491786845370872092048478644742578180449550227834024741688971898407378253846733394028262504096630686630194959228329005474836289134326701033914129898872176368201247069373597763362559250971939569766270677776746705880548197615638718601121016364430247122762605959201618044441482372418083159337876443296040729682878307683197024896785164773177917242860573641930943961888687255864850004060988567021141331965917145059450172845536129741856490180687823292847776856132604805570893072366725974043719879851774367828775624589984138376164525874999891029438295430370429660258169237268361450323694098574213873384700680159039016591122396163179411813738666509677450453126520267917355010910770675458695301669731135059490531035396086497117978004591174,
 82888813793218127333557894240986169260794973573878456840865255286076457347578087631182265683780028161266957627352410097887306665608223256657740031613749200854949976899249122151620438165656435084186514664297460752726480006699394757936797819538942839019622809064192770056212745504460773246745721189333633604026801685028961627136140461739797558115891360349283297898190889057457863040220549154540849554053391708054650976459984400133879914290614215080438304982997899393949945392162023190596674103498003425415693137116860269952360457474350384513898233804903424769948551513824405338806684476718116895984284592776200147628488994891902671168049012623122024079009150604076853194056729843821154804301866896935966375427647761206570395015749706775915539175392997228527485722066038647203619086626775680874525484426902439662333502084,
 55163575071562016437484884519348643978943748287317631453928632706,
 84537942434909818216793206316389549647748910728340066729174950317285208791188816789658677701102050835563481580112728322,
 160380108094937695797914769024062217346984446121372589179529210287832700850941228767314775184122544850152774289348252268626274540735234674310978579686222860589687512995422794458754471369243665711252100,
 494209365154977208939156647750809317490872523904536059019269467694668819754570763354478973313898559189201411029236711884420982002730705678275374239629890319426252988802,
 747605934274550252955459048906720223911231617,
 16882001546436871606628584928625165183909545651031261958875595214758079915405467136729926700115037361196874372171554312044238935001156207680084703310496844002138654418905607738149740295859538762380153359283096586166662640522274892185660941204712633529416394849157378,
 68256879930073520466589166047183262438988773499863904947998242878041240153231820659662012802,
 79494485641771324877621489183571167080698704101720489555677568761541756404437173831397651620476781633540233197353455874,
 560010480413755113293338210676842179109495930573059728904108929179903066682948363235820901557493814183116751903428359117551222873924955081671428563359544823445551595948998081795092920872324907133146458174010706232329351282510878179907641127086497464266593026221795857940297920192437132641582952278177724278603469967761893844091209368147859917947330430470002598660,
 6782081852884646275447307998530198937703696648034801032198988905732901650295590537772933923742360098102309556792579266466695183400611978146535898632335190803916079983406226802763985550821095839977085303624085862360331355805035866522707765295519875419736533713743521388267525587433270394193296373997611870222840459611659866306,
 24002241995790942418496927629488977064428758418145076155718511504174395657024929735664665873633945903411882505267719400385139203248135463072761960994857421280700014874389276042042227464212692038878345084145891143888062217659970245535918750777308332037821661204132659656077256768256742303342312557799340323216368484291199272119802835571064210954622882770818853650499363331128364760221135740990794573028420093503125509125195121491131165467635561337373918760993283102023147861235397424142391737928196292165795720831075218446075588471304356572570695628215868839573256965498420925988698762066967446858801727511731560171533970387815767453931871623742683138535889695954184,
 304263132306435758044606001370324628825669382821157672157894860301573152089562528085105958946767172153278716535900704389389516315390178413000340709462764882505487513607532264946415189585099163243077936158096183353022486566239731447534761313804948146069022347427051136047826579247876,
 1512701163186804985127097795145650223018087402865355200863357826797795992905361617052377117568482436042737761815302491005201063408939548813077091218049487545291866098721014206242606112018769805018246498845951100137804542816090548552379075128107140024721533417803811435882320287303093909709045415768160020679950402967918558134613536619724377739177734718196380589059821341823008279363335176502478097704421123973454632793177341664912017683277439834085923521127898852554045258352735295828871648292567409804860920739930989277366290977735613937941304328444814342735782352989322982501878011699165640716769157242844074839046423758146035635050804637975857808371609561192923543475997734760242904643081947687784716106422935911983416640901055645209422011236788692089306451863952327390268690187788674427781129105668831620344616181505410231598880796189262350261154058454086203409818107880431676375700174026706682451169070131058136785616192333327257442520296262048557502486947676448132443372191746862205799606469259452796392780].map Zp8
noncomputable def at3 (M:List (List (List Int)))(s c:Nat):List Int:=(M.getD s []).getD c []
noncomputable def xvB (t:List (List Nat))(D:Dt)(Y:Dx):Bool:=
 decide (N39.ZZ D.n=Y.top) && (N39.RN D.n == Y.R) && fA D.rp.length fun s=>fA D.rp.length fun c=>
  Num.Ja D.n Y.top Y.R ((ac D.n).map (ofF D.n (rdT t (D.rp.getD c 0)) D.p ((t.length:Int)*(bkM D.p (D.dg.getD s 0):Int)) D.z fun k=>(Vr D.E s (D.cl.getD (it t (D.rp.getD c 0) k) 0):Int))) == at3 Y.X s c
noncomputable def fsB (t:List (List Nat))(D:Dt)(Y:Dx):Bool:=decide (1<=Y.top) && decide (Y.top<=60) &&
 (fA D.rp.length fun s=>(Y.nu.getD s 0 == 1 || (Y.nu.getD s 0 == 0 || Y.nu.getD s 0 == -1)) && (fA Y.top fun q=>Ys t.length (fun x=>Num.co (at3 Y.X s (D.cl.getD (ZI t x x) 0)) q) == if q=0 then Y.nu.getD s 0*(t.length:Int) else 0) &&
  ((Y.nu.getD s 0 == 0) == fE D.rp.length fun c=>Num.Ja D.n Y.top Y.R (Num.XQ D.n (-1) (at3 Y.X s c)) != at3 Y.X s c)) &&
 (fA D.rp.length fun c=>fA Y.top fun q=>Ys D.rp.length (fun s=>Y.nu.getD s 0*Num.co (at3 Y.X s c) q) == if q=0 then ((sm t.length fun a=>W2 (decide (ZI t a a=D.rp.getD c 0)):Nat):Int) else 0) &&
 fA D.rp.length fun s=>fA D.rp.length fun c=>(at3 Y.X s c).all fun x=>decide (-(2 ^ 20)<x) && decide (x<2 ^ 20)
noncomputable def dxB (x:List (List Nat)×((List Nat×Dt)×Dx)):Bool:=match dfs x.1 61 [ac (x.1.getD 0 []).length] [ac (x.1.getD 0 []).length] with
 |none=>false
 |some j=>xvB (YW j) x.2.1.2 x.2.2 && fsB (YW j) x.2.1.2 x.2.2
theorem ZmO:(UI.zip (X7.zip dxs)).all dxB=true:=by decide +kernel
theorem Zkj:X7.length=dxs.length:=by decide +kernel
section
variable {t:List (List Nat)}{n p m:Nat}{e ω φ:Nat->Nat->Nat}{z:Nat}{dg:Nat->Nat}{o:List Nat}
theorem Zlt (P:PW t){s x y:Nat}(ec:∀x y,x<t.length->y<t.length->e s (tb t x y)=e s x)(j:x<t.length)(q:y<t.length):Xv t n p e z dg s (tb t x y)=Xv t n p e z dg s x:=by
 unfold Xv;rw[ZlO P j q];congr 2;funext k;rw[Zh1 P j q,ec _ _ (Wa P j k) q]
theorem Zje (P:PW t)(O:Ord t.length o){x:Nat}(J:x<t.length):rdT (ren t o) x=rdT t (o.getD x 0):=by
 unfold rdT;rw[Ws O];have j:(fun r=>it (ren t o) x (r+1) == 0)=fun r=>it t (o.getD x 0) (r+1) == 0:=funext fun r=>by
  have U:=Zb2 P O J (r+1);have M:=Wa (Jf P O) (a:=x) (by rw[Ws O];exact J) (r+1);rw[Ws O] at M;rw[<-U];by_cases q:it (ren t o) x (r+1)=0
  ·rw[q,O.z]
  ·have Y:o.getD (it (ren t o) x (r+1)) 0≠0:=fun w=>q (inj O M P.n1 (w.trans O.z.symm))
   rw[beq_eq_false_iff_ne.mpr q,beq_eq_false_iff_ne.mpr Y]
 rw[j]
theorem Zls (P:PW t)(O:Ord t.length o){s x:Nat}(j:x<t.length):Xv (ren t o) n p (fun s x=>e s (o.getD x 0)) z dg s x=Xv t n p e z dg s (o.getD x 0):=by
 unfold Xv;rw[Zje P O j,Ws O];congr 2;funext k;show ((e s (o.getD (it (ren t o) x k) 0):Nat):Int)=_;rw[Zb2 P O j]
end
structure FSo (t:List (List Nat))(n m:Nat)(X:Nat->Nat->List Int)(ν:Nat->Int):Prop where
 t1:1<=N39.ZZ n
 t60:N39.ZZ n<=60
 len:∀s x,(X s x).length=N39.ZZ n
 cls:∀s x y,s<m->x<t.length->y<t.length->X s (tb t x y)=X s x
 a:∀s,s<m->ν s=1\/(ν s=0\/ν s=-1)
 A:∀s q,s<m->q<N39.ZZ n->Ys t.length (fun x=>Num.co (X s (ZI t x x)) q)=if q=0 then ν s*(t.length:Int) else 0
 B:∀s,s<m->(ν s=0↔∃x,x<t.length/\flp n (X s x)≠X s x)
 C:∀x q,x<t.length->q<N39.ZZ n->Ys m (fun s=>ν s*Num.co (X s x) q)=if q=0 then ((sm t.length fun a=>W2 (decide (ZI t a a=x)):Nat):Int) else 0
 sm:∀s x v,s<m->x<t.length->v∈X s x->-(2 ^ 20)<v/\v<2 ^ 20
theorem ZlL {t:List (List Nat)}{o:List Nat}(O:Ord t.length o)(F:Nat->Int):Ys t.length (fun x=>F (o.getD x 0))=Ys t.length F:=by
 have J:((ac t.length).map fun x=>o.getD x 0).Perm (ac t.length):=by
  have:(ac t.length).map (fun x=>o.getD x 0)=o:=by
   refine aY fun i=>?_;by_cases q:i<t.length
   ·rw[Zc,ao q,Jl (by rw[O.len];exact q)]
    rfl
   ·rw[ah (by rw[Za,Zg];omega),ah (by rw[O.len];omega)]
  rw[this];exact (bQ O.nd cu).mpr fun x=>⟨fun h=>af.mpr (O.lt x h),fun h=>O.all x (af.mp h)⟩
 unfold Ys;have M:(ac t.length).map (fun x=>F (o.getD x 0))=((ac t.length).map fun x=>o.getD x 0).map F:=by rw[aK];rfl
 rw[M];have j:=J.map F;generalize ((ac t.length).map fun x=>o.getD x 0).map F=Y at j;generalize (ac t.length).map F=l2 at j ⊢;induction j with
 |nil=>rfl
 |cons x _ U=>rw[cf,cf,U]
 |swap x y l=>rw[cf,cf,cf,cf];omega
 |trans _ _ a b=>rw[a,b]
theorem FSo.ren {t:List (List Nat)}{o:List Nat}{n m:Nat}{X:Nat->Nat->List Int}{Y:Nat->Int}(P:PW t)(O:Ord t.length o)(S:FSo t n m X Y){X':Nat->Nat->List Int}(hl:∀s x,(X' s x).length=N39.ZZ n)(J:∀s x,x<t.length->X' s x=X s (o.getD x 0)):FSo (ren t o) n m X' Y:=by
 have P':=Jf P O;have len:=Ws O;have lt:∀{x},x<(Tb.ren t o).length->x<t.length:=fun {x} h=>by rw[len] at h;exact h
 refine⟨S.t1,S.t60,hl,fun s x y M j hy=>?_,S.a,fun s q M hq=>?_,fun s M=>?_,fun x q j hq=>?_,fun s x v M j hv=>?_⟩
 ·have U:=Xf P' j hy
  rw[J s _ (lt U),J s x (lt j),V7 P O (lt j) (lt hy)];exact S.cls s _ _ M (Yl O (lt j)) (Yl O (lt hy))
 ·rw[len,<-S.A s q M hq,<-ZlL O (fun x=>Num.co (X s (ZI t x x)) q)]
  refine ZJ fun x j=>?_;have U:=P'.lt x x (by rw[len];exact j) (by rw[len];exact j);rw[J s _ (lt U),J3 P O j j]
 ·rw[S.B s M,len]
  constructor
  ·rintro⟨x,j,h⟩
   have hp:=YM O j;exact⟨pos o x,hp.1,by rw[J s _ hp.1,hp.2];exact h⟩
  ·rintro⟨x,j,h⟩
   rw[J s x j] at h;exact⟨_,Yl O j,h⟩
 ·have:=S.C (o.getD x 0) q (Yl O (lt j)) hq
  have U:Ys m (fun s=>Y s*Num.co (X' s x) q)=Ys m (fun s=>Y s*Num.co (X s (o.getD x 0)) q):=ZJ fun s _=>by rw[J s x (lt j)]
  rw[U,this,len,<-Zg7 O (fun a=>W2 (decide (ZI t a a=o.getD x 0)))];by_cases q0:q=0
  ·rw[if_pos q0,if_pos q0]
   congr 1;refine Yc fun a ha=>?_;congr 1;rw[decide_eq_decide];have h2:=P'.lt a a (by rw[len];exact ha) (by rw[len];exact ha);rw[<-J3 P O ha ha];exact⟨fun h=>inj O (lt h2) (lt j) h,fun h=>by rw[h]⟩
  ·rw[if_neg q0,if_neg q0]
 ·rw[J s x (lt j)] at hv
  exact S.sm s _ v M (Yl O (lt j)) hv
theorem Zgo {t:List (List Nat)}{n p:Nat}{e:Nat->Nat->Nat}{z:Nat}{dg:Nat->Nat}(s x:Nat):(Xv t n p e z dg s x).length=N39.ZZ n:=by unfold Xv ZhJ;exact Num.Zcf _ _ _ _
theorem ZmV {t:List (List Nat)}{bs:List Nat}{D:Dt}(P:PW t)(h:tdB t bs D=true):ClW t (fun x=>D.cl.getD x 0) (fun k=>D.rp.getD k 0) D.rp.length:=by
 unfold tdB at h;simp only[ag] at h;obtain⟨⟨⟨⟨⟨⟨⟨⟨⟨⟨⟨⟨⟨⟨⟨h1,h2⟩,h3⟩,h4⟩,h5⟩,h6⟩,h7⟩,h8⟩,q⟩,j⟩,J⟩,M⟩,O⟩,U⟩,Y⟩,n4⟩:=h;exact ZiB P q j
theorem Zke {t:List (List Nat)}{bs:List Nat}{D:Dt}{Y:Dx}(P:PW t)(h:tdB t bs D=true)(j:xvB t D Y=true)(hf:fsB t D Y=true):FSo t D.n D.rp.length (Xv t D.n D.p (eD D) D.z fun s=>D.dg.getD s 0) (fun s=>Y.nu.getD s 0):=by
 have C:=ZmV P h;have T:=ZkI P h;unfold xvB at j;rw[ag,ag,decide_eq_true_eq] at j;obtain⟨⟨M,U⟩,n6⟩:=j;have U:=eq_of_beq U;unfold fsB at hf;simp only[ag,decide_eq_true_eq] at hf;obtain⟨⟨⟨⟨t1,t60⟩,f1⟩,f2⟩,f3⟩:=hf;have cls:∀s x y,s<D.rp.length->x<t.length->y<t.length->Xv t D.n D.p (eD D) D.z (fun s=>D.dg.getD s 0) s (tb t x y)=Xv t D.n D.p (eD D) D.z (fun s=>D.dg.getD s 0) s x:=fun s x y J j hy=>Zlt P (fun a b ha hb=>T.cd.ec s a b J ha hb) j hy;have rep:∀s c,s<D.rp.length->c<D.rp.length->Xv t D.n D.p (eD D) D.z (fun s=>D.dg.getD s 0) s (D.rp.getD c 0)=at3 Y.X s c:=fun s c J O=>by
  have:=eq_of_beq (Z8 (Z8 n6 J) O);rw[<-this];unfold Xv ZhJ;rw[M,U];rfl
 have n4:∀s x,s<D.rp.length->x<t.length->Xv t D.n D.p (eD D) D.z (fun s=>D.dg.getD s 0) s x=at3 Y.X s (D.cl.getD x 0):=fun s x J j=>by
  have O:=C.lt x j;obtain⟨y,hy,ey⟩:=C.tr x j;have h1:=cls s _ y J (C.rl _ O) hy;rw[ey] at h1;rw[h1];exact rep s _ J O
 have g1:∀{s},s<D.rp.length->(Y.nu.getD s 0 == 1 || (Y.nu.getD s 0 == 0 || Y.nu.getD s 0 == -1))=true/\(fA Y.top fun q=>Ys t.length (fun x=>Num.co (at3 Y.X s (D.cl.getD (ZI t x x) 0)) q) == if q=0 then Y.nu.getD s 0*(t.length:Int) else 0)=true/\((Y.nu.getD s 0 == 0) == fE D.rp.length fun c=>Num.Ja D.n Y.top Y.R (Num.XQ D.n (-1) (at3 Y.X s c)) != at3 Y.X s c)=true:=fun {s} J=>by
  have:=Z8 f1 J;rw[ag,ag] at this;exact⟨this.1.1,this.1.2,this.2⟩
 refine⟨by rw[M];exact t1,by rw[M];exact t60,Zgo,cls,fun s J=>?_,fun s q J hq=>?_,fun s J=>?_,fun x q j hq=>?_,fun s x v J j hv=>?_⟩
 ·have:=(g1 J).1
  rw[aZ,aZ] at this;rcases this with a|a|a
  ·exact .inl (eq_of_beq a)
  ·exact .inr (.inl (eq_of_beq a))
  ·exact .inr (.inr (eq_of_beq a))
 ·rw[M] at hq
  have:=eq_of_beq (Z8 (g1 J).2.1 hq);rw[<-this];exact ZJ fun x j=>by rw[n4 s _ J (P.lt x x j j)]
 ·have:=eq_of_beq (g1 J).2.2
  have fl:∀c,c<D.rp.length->flp D.n (at3 Y.X s c)=Num.Ja D.n Y.top Y.R (Num.XQ D.n (-1) (at3 Y.X s c)):=fun c _=>by unfold flp;rw[M,U]
  constructor
  ·intro q
   have q:Y.nu.getD s 0=0:=q;rw[q,beq_self_eq_true] at this;obtain⟨c,O,w⟩:=ZcG this.symm;refine⟨D.rp.getD c 0,C.rl c O,?_⟩;rw[rep s c J O,fl c O];simpa using w
  ·rintro⟨x,j,w⟩
   rw[n4 s x J j,fl _ (C.lt x j)] at w;have w2:(fE D.rp.length fun c=>Num.Ja D.n Y.top Y.R (Num.XQ D.n (-1) (at3 Y.X s c)) != at3 Y.X s c)=true:=a6.mpr ⟨_,af.mpr (C.lt x j),by simpa using w⟩;rw[w2] at this;exact eq_of_beq this
 ·rw[M] at hq
  have O:=C.lt x j;obtain⟨y,hy,ey⟩:=C.tr x j;have h1:=eq_of_beq (Z8 (Z8 f2 O) hq);have h2:Ys D.rp.length (fun s=>Y.nu.getD s 0*Num.co (Xv t D.n D.p (eD D) D.z (fun s=>D.dg.getD s 0) s x) q)=Ys D.rp.length (fun s=>Y.nu.getD s 0*Num.co (at3 Y.X s (D.cl.getD x 0)) q):=ZJ fun s J=>by rw[n4 s x J j]
  rw[h2,h1];by_cases q0:q=0
  ·rw[if_pos q0,if_pos q0]
   congr 1;have hr:=C.rl _ O;rw[<-ZdZ P hy (fun a=>W2 (decide (ZI t a a=x)))];refine Yc fun a ha=>?_;congr 1;rw[decide_eq_decide,<-VT P hy ha ha];constructor
   ·intro w
    rw[w,ey]
   ·intro w
    have h3:=JM P (P.lt a a ha ha) hy;have h4:=JM P hr hy;rw[w,<-ey,h4] at h3;exact h3.symm
  ·rw[if_neg q0,if_neg q0]
 ·rw[n4 s x J j] at hv
  have:=aD.mp (Z8 (Z8 f3 J) (C.lt x j)) v hv;rw[ag,decide_eq_true_eq,decide_eq_true_eq] at this;exact this
theorem Zm1 {t:List (List Nat)}(h:MkG t):∃(n p m:Nat) (e ω φ:Nat->Nat->Nat) (z:Nat) (dg:Nat->Nat) (ν:Nat->Int),TD t n p m e ω φ z dg/\FSo t n m (Xv t n p e z dg) ν:=by
 obtain⟨j,k,fd,os,U,B,O,rfl⟩:=h;obtain⟨i,hi⟩:=b9 U;have il:=(ae.mp hi).1;have q:i<X7.length:=by rw[<-Zis];exact il
 have Y:i<dxs.length:=by rw[<-Zkj];exact q
 have hz:(UI.zip X7)[i]?=some (j,X7[i]):=by
  rw[bE];exact⟨hi,Zf q⟩
 have n4:(UI.zip (X7.zip dxs))[i]?=some (j,(X7[i],dxs[i])):=by
  rw[bE,bE];exact⟨hi,Zf q,Zf Y⟩
 have ek:(j.getD 0 []).length=k:=by
  have h0:j[0]?=some (j.getD 0 []):=by rw[Zb,Zf (show 0<j.length from B.p1)];rfl
  exact (B.pl _ (av h0)).1
 have M:=aD.mp Zkl _ (av hz);unfold ZoI at M;rw[show ((j,X7[i]):List (List Nat)×(List Nat×Dt)).1=j from rfl,ek,B.run] at M;have J:=aD.mp ZmO _ (av n4);unfold dxB at J;rw[show ((j,(X7[i],dxs[i])):List (List Nat)×((List Nat×Dt)×Dx)).1=j from rfl,ek,B.run] at J;have J:xvB (YW fd) X7[i].2 dxs[i]=true/\fsB (YW fd) X7[i].2 dxs[i]=true:=by
  rw[<-ag];exact J
 have S:=Zke B.pw M J.1 J.2;have D:=ZkI B.pw M;exact⟨_,_,_,_,_,_,_,_,_,D.ren B.pw O,S.ren B.pw O Zgo fun s x hx=>Zls B.pw O hx⟩
end C39
namespace L2
open PySem PySem.Spec PyProof.Rows
end L2
namespace N39
open PySem L2 PySem.Spec PyProof.Rows
open Num
noncomputable abbrev Zk1:Stmt:=top 26
noncomputable abbrev Xn:Stmt:=top 27
noncomputable def WE (K:ab):Sp:=fun M H Q _=>∃(n:Nat) (a:Addr) (u:Int) (j:List Int),M=[.int n,.ref a,.int u]/\1<=n/\n<=60/\WM K H a (j.map V.int)/\j.length<=60/\
 ∀q J,Same H J->J q=some (.tup ((Ja n (ZZ n) (RN n) (XQ n u j)).map V.int))->Q (.ref q) J
noncomputable def ZgI (K:ab):Sp:=fun M H Q _=>∃(n:Nat) (a:Addr) (j:List Int),M=[.int n,.ref a]/\1<=n/\n<=60/\WM K H a (j.map V.int)/\j.length<=60/\
 ∀q J,Same H J->J q=some (.tup ((Ja n (ZZ n) (RN n) (XQ n (-1) j)).map V.int))->Q (.ref q) J
section
variable {P:Program}{w:World}{K:ab}{mg:Str->Option Value}{base:Heap}
theorem XZ {f:Addr}{fd:FuncData}(F:Y5 K "turned" "turned" Xn f fd)(T:Bl mg)(T2:Bl2 mg)(GN:Fn P w K mg base ZT 3 "number_of" ["n", "powers"] (ZaC K)):ZR P w K mg base ZT 4 f fd ["n", "one", "k"] (WE K):=by
 refine F.ok (FS (N:=["n", "one", "k", "powers", "j", "x"])) (fun vs H Q E h=>?_) (fun o5 A n8 s H vs Q E hr h=>?_)
 ·obtain⟨n,a,u,xs,rfl,_⟩:=h;rfl
 ·obtain⟨n,a,u,xs,rfl,n1,n60,hS,o6,q⟩:=h
  refine⟨_,Zu (ZH 3 rfl (Zz Jg (ZS (pc Zw Zs)) (vn 0)))
   (Zu (ZQ aq rfl (Zio K T2.enumerate (pc (vn 1) Zs)) (g2 K 4 5 rfl (gn 4) (gn 5))
    (Zv (Xu (vn 3) (Zz Z5 (Zz ZV (vn 4) (vn 2)) (vn 0)) VH (vn 5) WK YY)))
   (Zv (ZD (YC GN hr ZF (pc (vn 0) (pc (vn 3) Zs)))))),?_⟩
  refine⟨(by show 1<=sizeLine;decide),fun l0 n0=>?_⟩;have s2:Same H _:=Same.upd (o:=.lst [.int 0]) n0;refine⟨_,rfl,l0,_,_,rfl,rfl,Zt,by omega,by omega,?_,fun l nl=>?_⟩
  ·rw[Zj]
   show 1*n<=sizeLine;have e:(16777216:Nat)=sizeLine:=by decide
   omega
  rw[Zj,Zfr];have n9:H l=none:=s2.free nl;have s3:=s2.trans (Same.upd (o:=.lst ((ak n (0:Int)).map V.int)) nl);refine⟨_,rfl,a,_,H,rfl,.inr hS,s3,fun J At S o0=>?_⟩;refine Y1 S (fun i M H'=>∃(j:List Int) (v4 v5:Option V),M=[some (.int n),some (.ref a),some (.int u),some (.ref l),v4,v5]/\Same H H'/\H' l=some (.lst (j.map V.int))/\j.length=n/\
    Zgv n u (xs.drop i) i j=XQ n u xs)
   ⟨_,_,_,rfl,s3,Zt,cU ..,rfl⟩ (fun i M H' h=>o0 _ h.choose_spec.choose_spec.choose_spec.2.1) ?_ ?_
  ·rintro i y M H' T' hy ⟨j,v4,v5,rfl,sm,U,Y,O⟩ nT
   obtain⟨hi,rfl⟩:=Wh hy;have n4:ti n u i<j.length:=by rw[Y];exact ZnD n1 u i
   have eM:V.int ((i:Int)*u % (n:Int))=V.int ((ti n u i:Nat):Int):=by rw[Zlw n1]
   have n6:=Same.upd (o:=.tup [.int i,.int (co xs i)]) nT _ _ U;refine⟨T',_,rfl,.of Zt,rfl,_,_,rfl,_,_,rfl,rfl,_,rfl,_,rfl,_,rfl,_,_,rfl,rfl,.inl ⟨by omega,by omega⟩,_,rfl,_,_,rfl,rfl,(by show (0:Int)<n;omega),l,_,ti n u i,.int (co j (ti n u i)),rfl,eM,n6,Zbf n4,_,rfl,_,_,rfl,rfl,l,_,_,ti n u i,rfl,eM,n6,?_,?_⟩
   ·rw[Za];exact JR n4
   ·refine⟨j.set (ti n u i) (co j (ti n u i)+co xs i),_,_,rfl,(sm.trans (Same.upd nT)).updr n9,?_,?_,?_⟩
    ·rw[Zt,JN]
    ·rw[bA];exact Y
    ·rw[<-O,XE hi,Num.Zgv]
  ·rintro M H' ⟨j,v4,v5,rfl,sm,U,Y,O⟩
   rw[Za,eP,Num.Zgv] at O;subst O;refine⟨_,rfl,_,rfl,n,l,_,rfl,n1,n60,.inl (.of U),by omega,fun qq H2 sq hq=>q qq H2 (sm.trans sq) hq⟩
theorem ZjO {f:Addr}{fd:FuncData}(F:Y5 K "flipped" "flipped" Zk1 f fd)(GT:Fn P w K mg base ZT 4 "turned" ["n", "one", "k"] (WE K)):ZR P w K mg base ZT 5 f fd ["n", "one"] (ZgI K):=by
 refine F.ok (FS (N:=["n", "one"])) (fun M H Q E h=>?_) (fun O A j s H M Q E U h=>?_)
 ·obtain⟨n,a,xs,rfl,_⟩:=h;rfl
 ·obtain⟨n,a,xs,rfl,n1,n60,Y,J,q⟩:=h
  refine⟨_,Zv (ZD (YC GT U ZF (pc (vn 0) (pc (vn 1) (pc (J0 WS Zw) Zs))))),?_⟩;exact⟨_,rfl,_,rfl,_,rfl,n,a,-1,xs,rfl,n1,n60,Y,J,q⟩
end
noncomputable abbrev ZkV:Stmt:=top 23
noncomputable abbrev Zen:Stmt:=top 24
structure Bl3 (mg:Str->Option Value):Prop where
 zip:mg "zip"=none
noncomputable def ZkM (K:ab)(g:Int->Int->Int):Sp:=fun O H Q _=>∃(a b:Addr) (j M:List Int),O=[.ref a,.ref b]/\WM K H a (j.map V.int)/\WM K H b (M.map V.int)/\j.length<=100000/\
 ∀q J,Same H J->J q=some (.tup ((ic g j M).map V.int))->Q (.ref q) J
noncomputable def Zd8 (K:ab):Sp:=fun M H Q _=>∃(a:Addr) (k:Int) (j:List Int),M=[.ref a,.int k]/\WM K H a (j.map V.int)/\j.length<=100000/\(-(2 ^ 64)<k/\k<2 ^ 64)/\
 ∀q J,Same H J->J q=some (.tup ((j.map (· * k)).map V.int))->Q (.ref q) J
noncomputable def ZmI (g:Int->Int->Int):V->V->V
 | .int x,.int y=>.int (g x y)
 |x,_=>x
theorem Ul (g:Int->Int->Int):∀xs ys:List Int,((xs.map V.int).zip (ys.map V.int)).map (fun p=>ZmI g p.1 p.2)=(ic g xs ys).map V.int
 | [],_=>rfl
 |_::_,[]=>rfl
 |x::xs,y::ys=>by
  exact congrArg (V.int (g x y) :: ·) (Ul g xs ys)
theorem zip_get {xs ys:List Int}{i:Nat}{x y:V}(h:((xs.map V.int).zip (ys.map V.int))[i]?=some (x,y)):∃u v,x=.int u/\y=.int v:=by
 rw[bE] at h;obtain⟨j,q⟩:=h;obtain⟨_,J⟩:=Wh j;obtain⟨_,M⟩:=Wh q;exact⟨_,_,J,M⟩
noncomputable def ZoA (k:Int):V->V
 | .int x=>.int (x*k)
 |x=>x
theorem Zik (k:Int)(xs:List Int):(xs.map V.int).map (ZoA k)=(xs.map (· * k)).map V.int:=by
 rw[aK,aK];rfl
section
variable {P:Program}{w:World}{K:ab}{mg:Str->Option Value}{base:Heap}
theorem ZjF {f:Addr}{fd:FuncData}(F:Y5 K "plus" "plus" ZkV f fd)(T:Bl mg)(T3:Bl3 mg):ZR P w K mg base ZT 1 f fd ["one", "other"] (ZkM K (· + ·)):=by
 refine F.ok (FS (N:=["one", "other"])) (fun vs H Q E h=>?_) (fun n4 A j s H vs Q E hr h=>?_)
 ·obtain⟨a,b,xs,ys,rfl,_⟩:=h;rfl
 ·obtain⟨a,b,xs,ys,rfl,ha,hb,hx,q⟩:=h
  refine⟨_,Zv (ZD (ct ZE T.tuple (pc (cmp ["x", "y"] [] ["x", "y"] rfl (Zfi K T3.zip (pc (vn 0) (pc (vn 1) Zs))) (fun _ _ _ _ _=>g2 K 0 1 rfl (gn 0) (gn 1)) (fun _ _ _ _ _=>ZN)
   (fun _ _ _ _ _=>Zz YN (vn 0) (vn 1))) Zs))),?_⟩
  refine⟨_,rfl,_,rfl,a,b,true,true,_,_,H,rfl,.tup ha,.tup hb,Same.refl _,fun J At S M=>?_⟩;refine Uu S M (Same.refl _) [] rfl (ZmI (· + ·)) (by rw[cI,Za,Za];omega) (fun i x y Y O s' R g=>?_) (fun D Y nD s' hD=>?_)
  ·obtain⟨u,v,rfl,rfl⟩:=zip_get O
   exact⟨_,rfl,_,rfl,_,_,rfl,rfl,g Y (Same.refl _)⟩
  ·rw[Ul] at hD
   refine⟨D,_,rfl,.inl ⟨.of hD,fun qq U=>?_⟩⟩;exact q qq _ (s'.trans (Same.upd U)) Zt
theorem ZfB {f:Addr}{fd:FuncData}(F:Y5 K "scaled" "scaled" Zen f fd)(T:Bl mg):ZR P w K mg base ZT 1 f fd ["one", "k"] (Zd8 K):=by
 refine F.ok (FS (N:=["one", "k"])) (fun vs H Q E h=>?_) (fun n4 A j s H vs Q E hr h=>?_)
 ·obtain⟨a,k,xs,rfl,_⟩:=h;rfl
 ·obtain⟨a,k,xs,rfl,O,hx,hk,q⟩:=h
  refine⟨_,Zv (ZD (ct ZE T.tuple (pc (cmp ["x"] [1] ["x", "k"] rfl (itT K (vn 0)) (fun _ _ _ _ _=>gn 0) (fun _ _ _ _ _=>ZN)
   (fun _ _ _ _ _=>Zz ZV (vn 0) (vn 1))) Zs))),?_⟩
  refine⟨_,rfl,a,rfl,⟨_,O⟩,?_⟩;refine Y3 (Yu O) [some (.int k)] rfl (ZoA k) (by rw[Za];omega) (fun i x U J Y R g=>?_) (fun D U nD Y hD=>?_)
  ·obtain⟨_,rfl⟩:=Wh J
   exact⟨_,rfl,_,rfl,_,_,rfl,rfl,.inr hk,g U (Same.refl _)⟩
  ·rw[Zik] at hD
   refine⟨D,_,rfl,.inl ⟨.of hD,fun qq M=>?_⟩⟩;exact q qq _ (Y.trans (Same.upd M)) Zt
end
end N39
namespace C39
open PySem L2 PySem.Spec PyProof.Rows
open Tb Pm
noncomputable abbrev Zg2:Stmt:=top 56
noncomputable abbrev ZbU:Stmt:=top 57
section
variable {P:Program}{w:World}{K:ab}{mg:Str->Option Value}{base:Heap}
theorem ZhC {f:Addr}{fd:FuncData}(F:Y5 K "_law_back" "_law_back" Zg2 f fd):ZR P w K mg base ZT 1 f fd ["_law_group_here", "_law_a"] (ZaD K):=by
 refine F.ok (FS (N:=["_law_group_here", "_law_a"])) (fun vs H Q E h=>?_) (fun n4 A U s H vs Q E hr h=>?_)
 ·obtain⟨g,t,a,r,rfl,_⟩:=h;rfl
 ·obtain⟨g,t,a,r,rfl,G,J,M,R,q⟩:=h
  refine⟨_,Zv (ZD (Zhm jV gX jT (ZnC K) (ZM (Jp K) (vn 0) (vn 1) (fun _ _=>rfl)) (pc Zw Zs))),?_⟩;obtain⟨rs,r1,h1,_,h2,Y,h4⟩:=G.at J M;have hl:=Xo J M;have il:=Wa J M (r-1);refine⟨_,rfl,_,rfl,g,_,_,_,rfl,rfl,.of h1,h2,⟨_,_,rfl,Y⟩,r1,_,.int 0,it t a (r-1),rfl,rfl,Y.sq,rfl,?_,by rw[Za,hl];exact il,fun z j=>?_,fun m z hm j=>?_,q⟩
  ·rw[aD]
   intro z j;obtain⟨k,_,rfl⟩:=aN.mp j;rfl
  ·rw[XU J M il,R.bk] at j
   cases j;decide
  ·have O:m<t.length:=by omega
   rw[XU J M O] at j;cases j;have:ZI t a m≠0:=fun z=>by
    have:=R.un m O z;omega
   show decide ((ZI t a m:Int)=0)=false;exact decide_eq_false (by omega)
theorem Zdq {f:Addr}{fd:FuncData}(F:Y5 K "_law_turned" "_law_turned" ZbU f fd)(O:Fn P w K mg base ZT 1 "_law_back" ["_law_group_here", "_law_a"] (ZaD K)):ZR P w K mg base ZT 2 f fd ["_law_group_here", "_law_thing", "_law_t"] WE:=by
 refine F.ok (FS (N:=["_law_group_here", "_law_thing", "_law_t"])) (fun U H Q E h=>?_) (fun Y A M s H U Q E hr h=>?_)
 ·obtain⟨g,t,b,x,rfl,_⟩:=h;rfl
 ·obtain⟨g,t,b,x,rfl,G,j,hb,J,q⟩:=h
  refine⟨_,Zv (ZD (ZM (Jp K) (ZM (Jp K) (vn 0) (ZM (Jp K) (ZM (Jp K) (vn 0) (vn 2) (fun _ _=>rfl)) (vn 1) (fun _ _=>rfl)) (fun _ _=>rfl)) (YC O hr ZF (pc (vn 0) (pc (vn 2) Zs))) (fun _ _=>rfl))),?_⟩;obtain⟨r,R⟩:=j.rd x J;obtain⟨rs,r1,h1,_,h2,h3,h4⟩:=G.at j J;have ml:=j.lt _ _ J hb;obtain⟨n4,r2,g1,_,g2,g3,g4⟩:=G.at j ml;have q':Q (.int (ZI t (ZI t x b) (it t x (r-1)):Nat)) H:=by rw[ZdP j J R];exact q
  exact⟨_,rfl,_,rfl,_,rfl,g,_,_,_,rfl,rfl,.of h1,h2,_,rfl,r1,_,_,_,rfl,rfl,h3.sq,h4 b hb,g,_,_,_,rfl,rfl,.of g1,g2,_,rfl,_,rfl,g,t,x,r,rfl,G,j,J,R,r2,_,_,_,rfl,rfl,g3.sq,g4 _ (Wa j J (r-1)),q'⟩
noncomputable def ZgJ:Sp:=fun q H Q _=>∃(g:Addr) (t:List (List Nat)),q=[.ref g]/\GT H g t/\PW t/\∀L bs j,H L=none->Same H j->TupsAt j L bs (ZC t t.length)->Q (.ref L) j
theorem ZjJ {f:Addr}{fd:FuncData}(F:Y5 K "_law_classes" "_law_classes" Zg1 f fd)(T:Bl mg)(T2:Zbw mg)(GU:Fn P w K mg base ZT 2 "_law_turned" ["_law_group_here", "_law_thing", "_law_t"] WE):ZR P w K mg base ZT 3 f fd ["_law_group_here"] ZgJ:=by
 refine F.ok (FS (N:=["_law_group_here", "_law_found", "_law_met", "_law_thing", "_law_row", "_law_t"])) (fun vs H Q E h=>?_) (fun t0 A t5 s H vs Q E hr h=>?_)
 ·obtain⟨g,t,rfl,_⟩:=h;rfl
 ·obtain⟨g,t,rfl,G,Pt,q⟩:=h
  have hu:(A.deeper (envOfC "_law_classes" (Z3 Zg1) s.heap.objs.size f t0)).units+1<cLine:=by have:=hr.un;omega
  refine⟨_,Zu (ZH 1 rfl (ZS Zs))
   (Zu (ZH 2 rfl Uc)
   (Zu (ZQ aq rfl (XV T.range (pc (cb (YB K) T.len (pc (vn 0) Zs)) Zs)) (gn 3)
    (Zv (Y9 (Zhh (U8 hu (vn 3) (vn 2)))
     (Zu (ZH 4 rfl Uc)
     (Zu (ZQ aq rfl (XV T.range (pc (cb (YB K) T.len (pc (vn 0) Zs)) Zs)) (gn 5)
      (Zv (Xt hu (vn 4) (YC GU hr ZF (pc (vn 0) (pc (vn 3) (pc (vn 5) Zs)))) Ud (by rfl))))
     (Zu (Yv (Zjo (vn 2) (vn 4) ⟨rfl,rfl,rfl,rfl⟩))
     (Zv (Yv (Wm aM aR aT Z2 (vn 1) (pc (ct ZE T.tuple (pc (cb (ZdN rfl) T2.sorted (pc (vn 4) Zs)) Zs)) Zs))))))) Yf)))
   (Zv (ZD (vn 1))))),?_⟩
  have sz:(16777216:Nat)=sizeLine:=by decide
  have x9:=Pt.n60;obtain⟨gs,u1,u2,_⟩:=id G;have el:(gs.map V.ref).length=t.length:=by rw[Za,u2]
  refine⟨(by show 0<=sizeLine;decide),fun L nL=>fun D o5=>?_⟩;have s4:=Same.upd (H:=H) (o:=.lst []) nL;have s5:=s4.trans (Same.upd (o:=.dK []) o5);have nD:H D=none:=s4.free o5;refine⟨_,rfl,g,_,rfl,.inr (.of (s5 _ _ u1)),_,rfl,by rw[el];omega,by rw[el];omega,?_⟩;rw[el,Zj];refine Wf (fun i O H'=>∃(w5 w6 w7:Option V) (bs:List Addr) (J:List (Yz×V)) (ks:List Nat),O=[some (.ref g),some (.ref L),some (.ref D),w5,w6,w7]/\Same H H'/\TupsAt H' L bs (ZC t i)/\H' D=some (.dK J)/\KS J ks/\(∀a,a∈ks↔YV (ZC t i) a=true)/\ks.length<=60*i)
   ⟨_,_,_,[],[],[],rfl,s5,⟨Same.upd o5 _ _ Zt,rfl,fun i b hb=>by cases hb⟩,Zt,.nil,fun a=>⟨fun z=>(by cases z),fun z=>(by cases z)⟩,Zq _⟩ ?_ ?_
  ·rintro i O H6 hi ⟨w5,w6,w7,bs,J,ks,rfl,s6,R,hD,hK,Y,kl⟩
   rw[show (0:Int)+(i:Int)=(i:Int) by omega];refine⟨_,rfl,_,rfl,D,_,rfl,Jt.k (k:=.inl (i:Int)) hD,_,rfl,?_⟩;have o6:(W5 J (.inl (i:Int))).isSome=YV (ZC t i) i:=by
    rw[hK.some];cases hc:YV (ZC t i) i with
    |true=>exact aA.mpr ((Y i).mpr hc)
    |false=>
     cases t6:ks.contains i with
     |false=>rfl
     |true=>rw[(Y i).mp (aA.mp t6)] at hc;cases hc
   rw[o6];refine Y0 (fun h=>?_) (fun h=>?_)
   ·have h:YV (ZC t i) i=false:=by simpa using h
    have eU:ZC t (i+1)=ZC t i++[Yt t i]:=by
     rw[ZC,if_neg (by unfold YV at h;rw[h];decide)]
    refine fun E nE=>?_;have s7:=Same.upd (H:=H6) (o:=.dK []) nE;have p4:=Zt (H:=H6) (a:=E) (o:=.dK []);have t7:H E=none:=s6.free nE;have o7:D≠E:=fun z=>by rw[z,nE] at hD;cases hD
    have p6:=s7 _ _ hD;have R7:=R.mono s7;have o8:=s6.trans s7;generalize upd H6 E (.dK [])=H7 at s7 p4 p6 R7 o8 ⊢;refine⟨_,rfl,g,_,rfl,.inr (.of (o8 _ _ u1)),_,rfl,by rw[el];omega,by rw[el];omega,?_⟩;rw[el,Zj];refine Wf (fun j O H'=>∃(w7:Option V) (M:List (Yz×V)) (ms:List Nat),O=[some (.ref g),some (.ref L),some (.ref D),some (.int (i:Nat)),some (.ref E),w7]/\Same H H'/\TupsAt H' L bs (ZC t i)/\H' D=some (.dK J)/\H' E=some (.dK M)/\KS M ms/\(∀a,a∈ms↔∃x,x<j/\tb t i x=a)/\ms.length<=j)
     ⟨_,[],[],rfl,o8,R7,p6,p4,.nil,fun a=>⟨fun z=>(by cases z),fun ⟨x,hx,_⟩=>absurd hx (fh _)⟩,Zq _⟩ ?_ ?_
    ·rintro j O H8 hj ⟨t9,M,ms,rfl,s8,R8,n4,n6,U,n8,ml⟩
     rw[show (0:Int)+(j:Int)=(j:Int) by omega];refine⟨_,rfl,_,rfl,_,rfl,_,rfl,g,t,i,j,rfl,G.mono s8,Pt,hi,hj,E,_,rfl,Vi.k (k:=.inl ((tb t i j:Nat):Int)) n6 (by rw[U.len];omega),?_⟩;refine⟨_,_,_,rfl,s8.updr t7,R8.updD n6,by rw[Zx o7];exact n4,Zt,U.put (tb t i j) (.bl true),fun a=>?_,?_⟩
     ·rw[ZaU,n8]
      constructor
      ·rintro (⟨x,hx,e⟩|e)
       ·exact⟨x,by omega,e⟩
       ·exact⟨j,by omega,e.symm⟩
      ·rintro⟨x,hx,e⟩
       by_cases ej:x=j
       ·right;rw[<-e,ej]
       ·exact .inl ⟨x,by omega,e⟩
     ·have:=ZaV ms (tb t i j)
      omega
    ·rintro O H8 ⟨t9,M,ms,rfl,s8,R8,n4,n6,U,n8,ml⟩
     have u5:=hK.len;have u9:=U.len;refine⟨_,rfl,D,rfl,.inl ⟨_,.inl n4⟩,_,rfl,E,J,M,rfl,o7,n4,n6,by rw[u5,u9];omega,?_⟩;obtain⟨w8,x0,p7,y4⟩:=hK.merge U;have R9:=R8.updD (o:=.dK (We J M)) n4;have p8:upd H8 D (.dK (We J M)) E=some (.dK M):=by rw[Zx (bJ o7)];exact n6
     have r6:=Zt (H:=H8) (a:=D) (o:=.dK (We J M));have s9:Same H (upd H8 D (.dK (We J M))):=s8.updr nD;generalize upd H8 D (.dK (We J M))=H9 at R9 p8 r6 s9 ⊢;refine⟨_,rfl,.inl ⟨rfl,_,.of R9.1⟩,_,rfl,E,M,ms.map fun a:Nat=>(a:Int),rfl,p8,?_,by rw[Za];omega,fun l2 ns x6 hp hs=>?_⟩
     ·rw[U.keys,aK]
      rfl
     have x8:(ms.map fun a:Nat=>(a:Int)).Nodup:=im _ (fun a b (y6:a≠b)=>by omega) U.nd;have e:=Zek (c:=Yt t i) hp hs x8 (fun k=>?_) (UB i)
     ·have o9:=Same.upd (o:=.lst (ns.map V.int)) x6
      refine⟨l2,_,rfl,.inl ⟨.of Zt,fun r nr=>?_⟩⟩;have p3:=Same.upd (o:=.tup (ns.map V.int)) nr;have n9:=R9.mono (o9.trans p3);have r8:upd (upd H9 l2 (.lst (ns.map V.int))) r (.tup (ns.map V.int)) r=some (.tup ((Yt t i).map nV)):=by rw[<-e];exact Zt
      have o0:=(o9.trans p3) _ _ r6;have r9:=s9.trans (o9.trans p3);have bl:=n9.2.1;have ul:=YI (t:=t) i;refine⟨L,_,_,rfl,rfl,n9.1,by rw[Za];omega,?_⟩;refine⟨_,_,_,bs++[r],_,w8,rfl,r9.updr nL,by rw[eU];exact n9.push r8,?_,x0,fun a=>?_,by omega⟩
      ·rw[Zx fun z=>by have:=o0;rw[z,n9.1] at this;cases this]
       exact o0
      ·rw[p7,Y a,eU]
       unfold YV;rw[jO,aZ,dU,lc,gI,aA,Z7 Pt hi,n8]
     ·rw[aN]
      constructor
      ·rintro⟨a,ha,rfl⟩
       exact⟨a,(Z7 Pt hi).mpr ((n8 a).mp ha),rfl⟩
      ·rintro⟨a,ha,rfl⟩
       exact⟨a,(n8 a).mpr ((Z7 Pt hi).mp ha),rfl⟩
   ·have h:YV (ZC t i) i=true:=by simpa using h
    have eU:ZC t (i+1)=ZC t i:=by
     rw[ZC,if_pos (by unfold YV at h;rw[h])]
    exact⟨_,_,_,bs,J,ks,rfl,s6,by rw[eU];exact R,hD,hK,fun a=>by rw[eU];exact Y a,by omega⟩
  ·rintro O H6 ⟨w5,w6,w7,bs,J,ks,rfl,s6,R,hD,hK,Y,kl⟩
   exact⟨_,rfl,q L bs H6 nL s6 R⟩
end
noncomputable def Zkx (H:Hp)(r:Addr)(xss:List (List Int)):Prop:=∃rs:List Addr,H r=some (.tup (rs.map V.ref))/\rs.length=xss.length/\∀(i:Nat) b,rs[i]?=some b->H b=some (.tup ((xss.getD i []).map V.int))
noncomputable abbrev ZgR:Stmt:=top 30
noncomputable def UR (m:Nat)(F:Nat->List Int):List (List Int):=(ac m).map F
theorem ZhS (m:Nat)(F:Nat->List Int):(UR m F).length=m:=by unfold UR;rw[Za,Zg]
theorem Zcn {m i:Nat}{F:Nat->List Int}(h:i<m):(UR m F).getD i []=F i:=by
 unfold UR;rw[Zb,Zc,ao h];rfl
theorem Zi1 {H j:Hp}{D r:Addr}{rs:List Addr}{m:Nat}{F:Nat->List Int}(s:Same H j)(h':j r=some (.tup (rs.map V.ref)))(q:rs.length=m)(J:∀(i:Nat) r,rs[i]?=some r->H r=some (.tup ((F i).map V.int))):Zkx j r (UR m F):=by
 refine⟨rs,h',by rw[ZhS];exact q,fun i b hb=>?_⟩;have M:i<m:=by rw[<-q];exact (ae.mp hb).1
 rw[Zcn M];exact s _ _ (J i b hb)
noncomputable def Zd9:Sp:=fun J H Q _=>∃(n:Nat) (a:Addr) (j:List (List Int)),J=[.int n,.ref a]/\1<=n/\n<=60/\Zkx H a j/\j.length<=60/\(∀xs∈j,xs.length<=60)/\
 ∀r q,Same H q->Zkx q r (UR j.length fun i=>Num.Ja n (N39.ZZ n) (N39.RN n) (Num.XQ n (-1) (j.getD i [])))->Q (.ref r) q
theorem ZpZ {yss:List (List Int)}{i:Nat}(h:i<yss.length):yss.getD i []∈yss:=by
 rw[Zb,Zf h];exact bg h
section
variable {P:Program}{w:World}{K:ab}{mg:Str->Option Value}{base:Heap}
theorem Zht {f:Addr}{fd:FuncData}(F:Y5 K "spread_flipped" "spread_flipped" ZgR f fd)(T:Bl mg)(GF:Fn P w K mg base ZT 5 "flipped" ["n", "one"] (N39.ZgI K)):ZR P w K mg base ZT 6 f fd ["n", "one"] Zd9:=by
 refine F.ok (FS (N:=["n", "one"])) (fun vs H Q E h=>?_) (fun n4 A M s H vs Q E O h=>?_)
 ·obtain⟨n,a,j,rfl,_⟩:=h;rfl
 ·obtain⟨n,a,j,rfl,n1,n60,⟨U,a1,a2,a3⟩,n6,hx,q⟩:=h
  refine⟨_,Zv (ZD (ct ZE T.tuple (pc (cmp ["x"] [0] ["x", "n"] rfl (itT K (vn 1)) (fun _ _ _ _ _=>gn 0) (fun _ _ _ _ _=>ZN)
   (fun _ _ _ _ _=>YC GF O ZF (pc (vn 1) (pc (vn 0) Zs)))) Zs))),?_⟩
  have pl:(U.map V.ref).length=j.length:=by rw[Za,a2]
  refine⟨_,rfl,a,rfl,⟨_,.of a1⟩,?_⟩;refine YS (W:=Addr) id (fun i r H=>H r=some (.tup ((Num.Ja n (N39.ZZ n) (N39.RN n) (Num.XQ n (-1) (j.getD i []))).map V.int))) (fun _ _=>True) (Yu (K:=K) (.of a1)) [some (.int (n:Nat))] rfl (by omega) (fun i w H Y s h=>s _ _ h) (fun w H Y s h=>trivial) (fun i w H0 H1 D o ys n8 h h0 h1 h2=>?_) (fun i y J Y s' R k=>?_) (fun D ws Y nD s' hD wl hw hp=>?_)
  ·rw[Zx fun z=>by rw[z,h2] at h;cases h]
   exact h
  ·rw[Zc] at J
   cases e:U[i]? with
   |none=>rw[e] at J;cases J
   |some c=>
    rw[e] at J;cases J;have hi:i<j.length:=by rw[<-a2];exact (ae.mp e).1
    exact⟨_,rfl,_,rfl,n,c,_,rfl,n1,n60,.of (s' _ _ (a3 i c e)),hx _ (ZpZ hi),fun r H5 s5 h5=>k r H5 s5 h5 trivial⟩
  ·refine⟨D,_,rfl,.inl ⟨.of hD,fun r nr=>?_⟩⟩
   exact q r _ (s'.trans (Same.upd nr)) (Zi1 (D:=D) (rs:=ws) (Same.upd nr) Zt (by rw[wl,pl]) fun i r O=>(hw i r O).1)
end
noncomputable abbrev ZgU:Stmt:=top 4
noncomputable def Zeb:Sp:=fun q H Q _=>∃(g:Addr) (t:List (List Nat)) (a r:Nat) (k:Int),q=[.ref g,.int a,.int k]/\GT H g t/\PW t/\a<t.length/\Rd t a r/\∀j,Same H j->Q (.int (it t a (k % (r:Int)).toNat:Nat)) j
noncomputable abbrev U5:Stmt:=top 13
noncomputable def V0:Sp:=fun q H Q _=>∃(g:Addr) (t:List (List Nat)) (k:Int),q=[.ref g,.int k]/\GT H g t/\PW t/\∀r j,Same H j->j r=some (.tup (((ZC t t.length).map fun c=>WP t (pwk t (c.getD 0 0) k)).map nV))->Q (.ref r) j
noncomputable def hdV (H:Hp)(F:Nat->Nat):V->V
 | .ref r=>match H r with
  |some (.tup (.int z::_))=>nV (F z.toNat)
  |_=>.non
 |_=>.non
theorem ZmE {H:Hp}{rs:List Addr}{j:List (List Nat)}{F:Nat->Nat}(hl:rs.length=j.length)(q:∀k,k<j.length->∃a r,j.getD k []=a::r)(h:∀(i:Nat) y,(rs.map V.ref)[i]?=some y->∃r,y=.ref r/\i<j.length/\H r=some (.tup ((j.getD i []).map nV))):(rs.map V.ref).map (hdV H F)=(j.map fun c=>F (c.getD 0 0)).map nV:=by
 refine aY fun i=>?_;rw[Zc];by_cases J:i<j.length
 ·obtain⟨r,O,_,U⟩:=h i _ (Zf (show i<(rs.map V.ref).length by rw[Za];omega))
  obtain⟨a,Y,M⟩:=q i J;have e4:j[i]=a::Y:=by
   rw[<-M,Zb,Zf J];rfl
  rw[Zf (show i<(rs.map V.ref).length by rw[Za];omega),O,Zc,Zc,Zf J,e4];show some (hdV H F (.ref r))=some (nV (F a));unfold hdV;dsimp only;rw[U,M];show some (nV (F (a:Int).toNat))=_;rw[Zj]
 ·rw[ah (by rw[Za];omega),ah (by rw[Za,Za];omega)]
  rfl
section
variable {P:Program}{w:World}{K:ab}{mg:Str->Option Value}{base:Heap}
theorem Zhw {f:Addr}{fd:FuncData}(F:Y5 K "power" "power" ZgU f fd)(T:Bl mg)(GR:Fn P w K mg base ZT 1 "round_of" ["group", "a"] ZaA):ZR P w K mg base ZT 2 f fd ["group", "a", "k"] Zeb:=by
 refine F.ok (FS (N:=["group", "a", "k", "found", "step"])) (fun vs H Q E h=>?_) (fun n4 A O s H vs Q E hr h=>?_)
 ·obtain⟨g,t,a,r,k,rfl,_⟩:=h;rfl
 ·obtain⟨g,t,a,r,k,rfl,G,J,U,R,q⟩:=h
  refine⟨_,Zu (ZH 3 rfl Zw) (Zu (ZQ aq rfl (XV T.range (pc (Zz Z5 (vn 2) (YC GR hr ZF (pc (vn 0) (pc (vn 1) Zs)))) Zs)) (gn 4)
    (Zv (ZH 3 rfl (ZM (Jp K) (ZM (Jp K) (vn 0) (vn 3) (fun _ _=>rfl)) (vn 1) (fun _ _=>rfl)))))
   (Zv (ZD (vn 3)))),?_⟩
  have r1:=R.r1;have n6:=J.n60;have rn:=R.rn;have b1:=cJ k (show (r:Int)≠0 by omega);have b2:=cx k (show (0:Int)<r by omega);refine⟨_,rfl,_,rfl,_,rfl,g,t,a,r,rfl,G,J,U,R,_,_,rfl,rfl,(by show (0:Int)<r;omega),_,rfl,by omega,by omega,?_⟩;refine Wf (fun i j M=>∃Y:Option V,j=[some (.ref g),some (.int a),some (.int k),some (.int (it t a i:Nat)),Y]/\Same H M) ⟨_,rfl,Same.refl _⟩ ?_ ?_
  ·rintro i j M hi ⟨Y,rfl,sm⟩
   obtain⟨rs,r2,g1,_,g2,g3,g4⟩:=(G.mono sm).at J (Wa J U i);exact⟨_,rfl,_,rfl,g,_,_,_,rfl,rfl,.of g1,g2,_,rfl,r2,_,_,_,rfl,rfl,g3.sq,g4 a U,_,rfl,sm⟩
  ·rintro j M ⟨Y,rfl,sm⟩
   exact⟨_,rfl,q M sm⟩
theorem Zcc {f:Addr}{fd:FuncData}(F:Y5 K "powers_of" "powers_of" U5 f fd)(T:Bl mg)(GC:Fn P w K mg base ZT 4 "classes_of" ["group"] WC)(GN:Fn P w K mg base ZT 5 "class_numbers" ["group"] ZaB)(GP:Fn P w K mg base ZT 2 "power" ["group", "a", "k"] Zeb):ZR P w K mg base ZT 6 f fd ["group", "k"] V0:=by
 refine F.ok (FS (N:=["group", "k", "numbers"])) (fun vs H Q E h=>?_) (fun n6 A O s H vs Q E U h=>?_)
 ·obtain⟨g,t,k,rfl,_⟩:=h;rfl
 ·obtain⟨g,t,k,rfl,G,J,q⟩:=h
  refine⟨_,Zu (ZH 2 rfl (YC GN U ZF (pc (vn 0) Zs)))
   (Zv (ZD (ct ZE T.tuple (pc (cmp ["members"] [0,1,2] ["members", "group", "k", "numbers"] rfl (itT K (YC GC U ZF (pc (vn 0) Zs))) (fun _ _ _ _ _=>gn 0) (fun _ _ _ _ _=>ZN)
    (fun _ _ _ _ _=>ZM (Jp K) (vn 3) (YC GP U ZF (pc (vn 1) (pc (ZM (Jp K) (vn 0) Zw (fun _ _=>rfl)) (pc (vn 2) Zs)))) (fun _ _=>rfl))) Zs)))),?_⟩
  have n8:=J.n60;refine⟨_,rfl,g,t,rfl,G,J,fun r0 H1 Y n4=>?_⟩;refine⟨_,rfl,g,t,rfl,G.mono Y,J,fun c H2 s2 C=>?_⟩;obtain⟨rs,c1,c2,c3⟩:=C.row;have ul:=YI (t:=t) t.length;refine⟨c,rfl,⟨_,.of c1⟩,?_⟩;refine Y3 (Yu (K:=K) (.of c1)) [some (.ref g),some (.int k),some (.ref r0)] rfl (hdV H2 fun a=>WP t (pwk t a k)) (by rw[Za];omega) (fun i x HC hx sC R gg=>?_) (fun D HD nD sD hD=>?_)
  ·obtain⟨r,rfl,hi,M⟩:=c3 i x hx
   obtain⟨a,rr,e3⟩:=Xp J hi;have ha:a<t.length:=(ZaO J hi (by rw[e3];exact aE)).1;obtain⟨rd,R0⟩:=J.rd a ha;have e:hdV H2 (fun a=>WP t (pwk t a k)) (.ref r)=nV (WP t (pwk t a k)):=by
    unfold hdV;dsimp only;rw[M,e3];show nV (WP t (pwk t (a:Int).toNat k))=_;rw[Zj]
   rw[e3] at M;refine⟨_,rfl,_,rfl,_,rfl,r,_,_,_,rfl,rfl,.of (sC _ _ M),ZO (j:=0) rfl,_,rfl,g,t,a,rd,k,rfl,(G.mono (Y.trans s2)).mono sC,J,ha,R0,fun H5 s5=>?_⟩;have ep:it t a (k % (rd:Int)).toNat=pwk t a k:=by unfold pwk;rw[XX R0]
   rw[ep];have fin:=gg H5 s5;rw[e] at fin;exact⟨r0,_,_,_,rfl,rfl,.of (((s2.trans sC).trans s5) _ _ n4),VC (ZlS J ha k),fin⟩
  ·rw[ZmE c2 (fun k hk=>Xp J hk) c3] at hD
   exact⟨D,_,rfl,.inl ⟨.of hD,fun r nr=>q r _ (((Y.trans s2).trans sD).trans (Same.upd nr)) Zt⟩⟩
theorem Zhs {f:Addr}{fd:FuncData}(F:Y5 K "sizes_of" "sizes_of" ZgQ f fd)(T:Bl mg)(GC:Fn P w K mg base ZT 4 "classes_of" ["group"] WC):ZR P w K mg base ZT 5 f fd ["group"] Zd7:=by
 refine F.ok (FS (N:=["group"])) (fun vs H Q E h=>?_) (fun n4 A J s H vs Q E hr h=>?_)
 ·obtain⟨g,t,rfl,_⟩:=h;rfl
 ·obtain⟨g,t,rfl,G,M,q⟩:=h
  refine⟨_,Zv (ZD (ct ZE T.tuple (pc (cmp ["members"] [] ["members"] rfl (itT K (YC GC hr ZF (pc (vn 0) Zs))) (fun _ _ _ _ _=>gn 0) (fun _ _ _ _ _=>ZN) (fun _ _ _ _ _=>cb (YB K) T.len (pc (vn 0) Zs))) Zs))),?_⟩;have n6:=M.n60;refine⟨_,rfl,g,t,rfl,G,M,fun c O s' C=>?_⟩;obtain⟨rs,U,c2,Y⟩:=C.row;have ul:=YI (t:=t) t.length;refine⟨c,rfl,⟨_,.of U⟩,?_⟩;refine Y3 (Yu (K:=K) (.of U)) [] rfl (Zcu O) (by rw[Za];omega) (fun i x HC hx sC R gg=>?_) (fun D HD nD sD hD=>?_)
  ·obtain⟨r,rfl,hi,j⟩:=Y i x hx
   have fin:=gg HC (Same.refl _);have e:Zcu O (.ref r)=.int (((((ZC t t.length).getD i []).map nV).length:Nat)):=by
    unfold Zcu;dsimp only;rw[j]
   rw[e] at fin;exact⟨_,rfl,r,_,rfl,.inr (.of (sC _ _ j)),fin⟩
  ·rw[Zj2 c2 Y] at hD
   exact⟨D,_,rfl,.inl ⟨.of hD,fun r nr=>q r _ ((s'.trans sD).trans (Same.upd nr)) Zt⟩⟩
end
end C39
namespace N39
open PySem L2 PySem.Spec PyProof.Rows
noncomputable abbrev ZkS:Stmt:=top 28
section
variable {P:Program}{w:World}{K:ab}{mg:Str->Option Value}{base:Heap}
theorem ZjC {f:Addr}{fd:FuncData}(F:Y5 K "whole_of" "whole_of" ZkS f fd)(T:Bl mg):ZR P w K mg base ZT 1 f fd ["one"] Zda:=by
 refine F.ok (FS (N:=["one"])) (fun vs H Q E h=>?_) (fun n6 A O s H vs Q E hr h=>?_)
 ·obtain⟨a,z,r,rfl,_⟩:=h;rfl
 ·obtain⟨a,z,r,rfl,ha,hl,q⟩:=h
  refine⟨_,Zu (Y9 (XY (cb (ZcR rfl) T.any (pc (cmp ["x"] [] ["x"] rfl (itT K (Jy ZlF (vn 0) (Xw Zw) Xx)) (fun _ _ _ _ _=>gn 0) (fun _ _ _ _ _=>ZN) (fun _ _ _ _ _=>Xy Jo (vn 0) Zw (ZW _))) Zs))) (Zv (ZD ZlZ)) Yf)
   (Zv (ZD (ZM (Jp K) (vn 0) Zw (fun _ _=>rfl)))),?_⟩
  refine⟨_,rfl,_,rfl,a,_,rfl,.of ha,?_,fun t1 h1=>?_⟩
  ·rintro⟨U,_⟩
   have U:min 1 ((z::r).map V.int).length=0:=U;simp at U
  have ec:J9 ((z::r).map V.int) (some 1) none=r.map V.int:=by
   unfold J9;have e1:HT.Y6 ((z::r).map V.int).length 0 (some 1)=1:=by
    show min 1 ((z::r).map V.int).length=1;simp
   rw[e1];show (((z::r).map V.int).drop 1).take (((z::r).map V.int).length-1)=r.map V.int;simp;exact ie (by simp)
  rw[ec];have s1:=Same.upd (H:=H) (o:=.tup (r.map V.int)) h1;refine⟨t1,rfl,⟨_,.of Zt⟩,?_⟩;refine Y3 (Yu (WM.of Zt)) [] rfl (fun y=>.bl (!decide (y=.int 0))) (by rw[Za];omega) ?_ ?_
  ·intro i y Y J s' R g1
   rw[Zc] at J;cases e:r[i]? with
   |none=>rw[e] at J;cases J
   |some k=>rw[e] at J;cases J;exact⟨_,rfl,rfl,g1 Y (Same.refl _)⟩
  ·intro D Y hD s' n4
   refine⟨D,(r.map V.int).map (fun y=>!decide (y=.int 0)),rfl,.of (by rw[n4];simp only[aK];rfl),_,rfl,?_⟩;have e:((r.map V.int).map (fun y=>!decide (y=.int 0))).any id=r.any (fun y=>decide (y≠0)):=by
    rw[dJ,dJ];congr 1;funext y;simp
   rw[e];have M:=q Y (s1.trans s');refine Y0 (fun b=>?_) (fun b=>?_)
   ·rw[if_pos b] at M;exact M
   ·rw[if_neg b] at M
    exact⟨_,rfl,a,_,0,_,rfl,rfl,.of ((s1.trans s') _ _ ha),ZO (j:=0) rfl,M⟩
end
end N39
namespace C39
open PySem L2 PySem.Spec PyProof.Rows
open Tb Pm
noncomputable abbrev ZkZ:Stmt:=top 25
noncomputable abbrev ZnS:Stmt:=top 32
noncomputable abbrev ZkU:Stmt:=top 46
noncomputable abbrev ZbS:Stmt:=top 47
noncomputable def Jr (xss:List (List Int))(ks st:List Int):Nat->List Int
 |0=>st
 |i+1=>if Num.co ks i=0 then Jr xss ks st i else ic (· + ·) (Jr xss ks st i) ((xss.getD i []).map (· * Num.co ks i))
noncomputable def Sml (ks:List Int):Prop:=∀k∈ks,-(2 ^ 64)<k/\k<2 ^ 64
theorem Zbg {xss:List (List Int)}{ks st:List Int}{top:Nat}(J:st.length=top):∀i,(∀j,j<i->(xss.getD j []).length=top)->(Jr xss ks st i).length=top/\∀q,q<top->Num.co (Jr xss ks st i) q=Num.co st q+Ys i (fun j=>Num.co ks j*Num.co (xss.getD j []) q)
 |0,_=>⟨J,fun q _=>by show Num.co st q=Num.co st q+0;omega⟩
 |i+1,h=>by
  obtain⟨O,U⟩:=Zbg (ks:=ks) J i fun j Y=>h j (by omega);have hi:=h i (by omega);rw[Jr];by_cases z:Num.co ks i=0
  ·rw[if_pos z]
   refine⟨O,fun q M=>?_⟩;rw[U q M,Yd,z,bW,cC]
  ·rw[if_neg z]
   refine⟨by rw[iO,O,Za,hi];omega,fun q M=>?_⟩;rw[Yd,<-Int.add_assoc,<-U q M];unfold Num.co;rw[Zb,ir,Zc,Zf (show q<(Jr xss ks st i).length by omega),Zf (show q<(xss.getD i []).length by omega),Zb (l:=Jr xss ks st i),Zf (show q<(Jr xss ks st i).length by omega),Zb (l:=xss.getD i []),Zf (show q<(xss.getD i []).length by omega)];show (Jr xss ks st i)[q]+(xss.getD i [])[q]*ks.getD i 0=(Jr xss ks st i)[q]+ks.getD i 0*(xss.getD i [])[q];rw[cP]
noncomputable def ZgH (K:ab):Sp:=fun M H Q _=>∃(a b c:Addr) (u v:Bool) (rs:List Addr) (j:List (List Int)) (q st:List Int),M=[.ref a,.ref b,.ref c]/\UJ u K H a (rs.map V.ref)/\rs.length=j.length/\(∀(i:Nat) r,rs[i]?=some r->H r=some (.tup ((j.getD i []).map V.int)))/\UJ v K H b (q.map V.int)/\H c=some (.tup (st.map V.int))/\j.length=q.length/\j.length<=60/\st.length<=60/\(∀i,i<j.length->(j.getD i []).length=st.length)/\Sml q/\
 ∀r J,Same H J->J r=some (.tup ((Jr j q st j.length).map V.int))->Q (.ref r) J
theorem Zfx {rs:List Addr}{ks:List Int}{i:Nat}{x y:V}(h:((rs.map V.ref).zip (ks.map V.int))[i]?=some (x,y)):∃a,rs[i]?=some a/\i<ks.length/\x=.ref a/\y=.int (Num.co ks i):=by
 rw[bE,Zc] at h;obtain⟨j,J⟩:=h;obtain⟨M,rfl⟩:=N39.Wh J;cases q:rs[i]? with
 |none=>rw[q] at j;cases j
 |some a=>
  rw[q] at j;cases j;exact⟨a,rfl,M,rfl,rfl⟩
section
variable {P:Program}{w:World}{K:ab}{mg:Str->Option Value}{base:Heap}
theorem ZjM {f:Addr}{fd:FuncData}(F:Y5 K "gathered" "gathered" ZkZ f fd)(T5:BlT mg)(GP:Fn P w K mg base ZT 1 "plus" ["one", "other"] (N39.ZkM K (· + ·)))(GS:Fn P w K mg base ZT 1 "scaled" ["one", "k"] (N39.Zd8 K)):ZR P w K mg base ZT 2 f fd ["numbers", "often", "start"] (ZgH K):=by
 refine F.ok (FS (N:=["numbers", "often", "start", "found", "one", "k"])) (fun vs H Q E h=>?_) (fun o5 A n4 s H vs Q E hr h=>?_)
 ·obtain⟨a,b,c,u,v,rs,M,Y,st,rfl,_⟩:=h;rfl
 ·obtain⟨a,b,c,u,v,rs,M,Y,st,rfl,hA,a2,a3,hB,hC,hl,o6,o0,hx,n6,q⟩:=h
  refine⟨_,Zu (ZH 3 rfl (vn 2))
   (Zu (ZQ aq rfl (Zfi K T5.zip (pc (vn 0) (pc (vn 1) Zs))) (g2 K 4 5 rfl (gn 4) (gn 5))
    (Zv (Y9 (ZP Jo (vn 5) Zw (ZW _)) (Zv (ZH 3 rfl (YC GP hr ZF (pc (vn 3) (pc (YC GS hr ZF (pc (vn 4) (pc (vn 5) Zs))) Zs))))) Yf)))
   (Zv (ZD (vn 3)))),?_⟩
  have pl:((rs.map V.ref).zip (Y.map V.int)).length=M.length:=by rw[cI,Za,Za,a2];omega
  refine⟨_,rfl,_,rfl,_,rfl,a,b,u,v,_,_,H,rfl,hA,hB,Same.refl _,fun J At S n8=>?_⟩;refine ZeX S (fun i O H'=>∃(r:Addr) (v4 v5:Option V),O=[some (.ref a),some (.ref b),some (.ref c),some (.ref r),v4,v5]/\Same H H'/\H' r=some (.tup ((Jr M Y st i).map V.int)))
   ⟨c,_,_,rfl,Same.refl _,hC⟩ (fun i O H' h=>by
    obtain⟨_,_,_,_,sm,_⟩:=h;exact n8 H' sm) ?_ ?_
  ·rintro i y z O H1 T' n9 ⟨r,v4,v5,rfl,s1,h1⟩ nT
   obtain⟨d,e1,hk,rfl,rfl⟩:=Zfx n9;have hi:i<M.length:=by omega
   have s2:=Same.upd (H:=H1) (o:=.tup [.ref d,.int (Num.co Y i)]) nT;refine⟨T',_,rfl,.of Zt,rfl,_,_,rfl,_,_,rfl,rfl,?_⟩;have U:=s1.trans s2;have h2:=s2 _ _ h1;generalize upd H1 T' (.tup [.ref d,.int (Num.co Y i)])=H2 at U h2 ⊢;have gl:=(Zbg (ks:=Y) (xss:=M) rfl i fun j hj=>hx j (by omega)).1;refine⟨_,rfl,rfl,_,rfl,?_⟩;by_cases hz:Num.co Y i=0
   ·refine ZcA (by rw[Yg,hz];decide) ⟨r,_,_,rfl,U,?_⟩
    rw[Jr,if_pos hz];exact h2
   ·refine Zos (by rw[Yg];simpa using hz) ?_
    refine⟨_,rfl,_,rfl,_,rfl,d,_,_,rfl,.of (U _ _ (a3 i d e1)),by rw[hx i hi];omega,n6 _ (av (Num.Wg hk)),fun r3 H3 s3 h3=>?_⟩;refine⟨r,r3,_,_,rfl,.of (s3 _ _ h2),.of h3,by rw[gl];omega,fun r4 H4 s4 h4=>?_⟩;refine⟨r4,_,_,rfl,(U.trans s3).trans s4,?_⟩;rw[Jr,if_neg hz];exact h4
  ·rintro O H1 ⟨r,v4,v5,rfl,s1,h1⟩
   rw[pl] at h1;exact⟨_,rfl,q r H1 s1 h1⟩
end
section
variable {t:List (List Nat)}
theorem Zmi {l:List Nat}{n:Nat}{p:Nat->Bool}(j:l.Nodup)(h:∀x,x∈l↔x<n/\p x=true):l.length=sm n fun x=>W2 (p x):=by
 have q:bN l ((ac n).filter p):=(bQ j (cu.filter _)).mpr fun x=>by rw[h,fe,af]
 rw[q.length_eq];clear q h j l;induction n with
 |zero=>rfl
 |succ n M=>
  rw[c6,List.filter_append,Zd,M,YD];congr 1;cases J:p n with
  |true=>rw[List.filter_cons_of_pos J];rfl
  |false=>rw[List.filter_cons_of_neg (by rw[J];decide)];rfl
theorem Zbq (P:PW t){k:Nat}(M:k<(ZC t t.length).length){x:Nat}:x∈(ZC t t.length).getD k []↔x<t.length/\Yh t x=k:=by
 constructor
 ·intro j
  obtain⟨q,J,_⟩:=ZaO P M j;rw[JP P q] at J;exact⟨q,J⟩
 ·rintro⟨j,e⟩
  have:=(J4 P j).2.1;rw[JP P j,e] at this;exact this
theorem ZmU (P:PW t){k:Nat}(j:k<(ZC t t.length).length):((ZC t t.length).getD k []).Nodup:=by
 obtain⟨b,hb,e⟩:=Wl P t.length (Zq _) _ (ZaN j);rw[e];exact (UB b).imp fun h=>by omega
theorem Zi7 (P:PW t){k:Nat}(j:k<(ZC t t.length).length):((ZC t t.length).getD k []).length=sm t.length fun x=>W2 (decide (Yh t x=k)):=
 Zmi (ZmU P j) fun x=>by rw[Zbq P j,decide_eq_true_eq]
theorem Zi6 (P:PW t)(F:Nat->Int):Ys (ZC t t.length).length (fun c=>(((ZC t t.length).getD c []).length:Int)*F c)=Ys t.length (fun x=>F (Yh t x)):=by
 have U:=Yp P;have j:Ys (ZC t t.length).length (fun c=>(((ZC t t.length).getD c []).length:Int)*F c)=Ys (ZC t t.length).length (fun c=>Ys t.length fun x=>if c=Yh t x then F c else 0):=ZJ fun c q=>by
  rw[Zi7 P q,<-VA,cP,<-WN];refine ZJ fun x _=>?_;unfold W2;by_cases h:Yh t x=c
  ·rw[decide_eq_true h,if_pos rfl,if_pos h.symm]
   show F c*1=F c;omega
  ·rw[decide_eq_false h,if_neg (show ¬(false=true) by decide),if_neg (fun z=>h z.symm)]
   show F c*0=0;omega
 rw[j,V1];exact ZJ fun x J=>ZaI (U.lt x J) F
theorem ZnN (P:PW t){a:Nat}(j:a<t.length):pwk t a 2=ZI t a a:=by
 obtain⟨r,R⟩:=P.rd a j;unfold pwk;rw[XX R,show ((2:Int) % (r:Int)).toNat=2 % r by rw[show (2:Int)=((2:Nat):Int) from rfl,<-a9,Zj],<-X5 R];show ZI t (it t a 1) a=ZI t a a;rw[ZdA P j]
variable {n m:Nat}{X:Nat->Nat->List Int}{ν:Nat->Int}
theorem FSo.rep (S:FSo t n m X ν)(P:PW t){s x:Nat}(J:s<m)(q:x<t.length):X s (ZB t (Yh t x))=X s x:=by
 have U:=Yp P;have j:=U.lt x q;obtain⟨y,M,e⟩:=U.tr (ZB t (Yh t x)) x (U.rl _ j) q (U.rn _ j);have:=S.cls s _ y J (U.rl _ j) M;rw[e] at this;exact this.symm
theorem FSo.sort (S:FSo t n m X ν)(P:PW t){s q:Nat}(J:s<m)(hq:q<N39.ZZ n):Ys (ZC t t.length).length (fun c=>(((ZC t t.length).getD c []).length:Int)*Num.co (X s (ZB t (Yh t (ZI t (ZB t c) (ZB t c))))) q)=if q=0 then ν s*(t.length:Int) else 0:=by
 have U:=Yp P;rw[Zi6 P (fun c=>Num.co (X s (ZB t (Yh t (ZI t (ZB t c) (ZB t c))))) q),<-S.A s q J hq];refine ZJ fun x M=>?_;have O:=U.lt x M;have j:=U.rl _ O;rw[S.rep P J (P.lt _ _ j j)];obtain⟨y,Y,e⟩:=U.tr (ZB t (Yh t x)) x j M (U.rn _ O);have h1:=S.cls s (ZI t (ZB t (Yh t x)) (ZB t (Yh t x))) y J (P.lt _ _ j j) Y;rw[VT P Y j j,e] at h1;rw[<-h1]
end
noncomputable def Zdb:Sp:=fun J H Q _=>∃(g r:Addr) (t:List (List Nat)) (n m:Nat) (X:Nat->Nat->List Int) (j:Nat->Int) (s:Nat),J=[.ref g,.ref r]/\GT H g t/\PW t/\FSo t n m X j/\m=(ZC t t.length).length/\s<m/\RowT H r ((ac m).map fun c=>X s (ZB t c))/\∀q,Same H q->Q (.int (j s)) q
theorem ZdK {a b:List Int}(h:a.length=b.length)(e:∀q,q<a.length->Num.co a q=Num.co b q):a=b:=Num.Zim h e
theorem Zeu {H:Hp}{r:Addr}{m:Nat}{F:Nat->List Int}(h:RowT H r ((ac m).map F)):∃cs:List Addr,H r=some (.tup (cs.map V.ref))/\cs.length=m/\∀c,c<m->∃b,cs[c]?=some b/\H b=some (.tup ((F c).map V.int)):=by
 obtain⟨cs,J,j,M⟩:=h;rw[Za,Zg] at j;refine⟨cs,J,j,fun c O=>?_⟩;have e:=Zf (show c<cs.length by omega);obtain⟨y,q,g2⟩:=M c _ e;rw[Zc,ao O] at q;cases q;exact⟨_,e,g2⟩
section
variable {P:Program}{w:World}{K:ab}{mg:Str->Option Value}{base:Heap}
theorem ZjE {f:Addr}{fd:FuncData}(F:Y5 K "sort_of" "sort_of" ZkU f fd)(T:Bl mg)(p8:Fn P w K mg base ZT 6 "powers_of" ["group", "k"] V0)(r6:Fn P w K mg base ZT 5 "sizes_of" ["group"] Zd7)(GG:Fn P w K mg base ZT 2 "gathered" ["numbers", "often", "start"] (ZgH K))(GS:Fn P w K mg base ZT 1 "scaled" ["one", "k"] (N39.Zd8 K))(GW:Fn P w K mg base ZT 1 "whole_of" ["one"] N39.Zda):ZR P w K mg base ZT 7 f fd ["group", "spread"] Zdb:=by
 refine F.ok (FS (N:=["group", "spread", "at_squares", "total"])) (fun vs H Q E h=>?_) (fun u9 A r8 s H vs Q E hr h=>?_)
 ·obtain⟨g,r,t,n,m,X,ν,sn,rfl,_⟩:=h;rfl
 ·obtain⟨g,r,t,n,m,X,ν,sn,rfl,G,O,S,mc,hs,R,q⟩:=h
  refine⟨_,Zu (Zfp 2 ["c"] [1] ["c", "spread"] rfl rfl (itT K (YC p8 hr ZF (pc (vn 0) (pc Zw Zs)))) (fun _ _ _ _ _=>gn 0) (fun _ _ _ _ _=>ZN) (fun _ _ _ _ _=>ZM (Jp K) (vn 1) (vn 0) (fun _ _=>rfl)))
   (Zu (ZH 3 rfl (YC GG hr ZF (pc (vn 2) (pc (YC r6 hr ZF (pc (vn 0) Zs)) (pc (YC GS hr ZF (pc (ZM (Jp K) (vn 1) Zw (fun _ _=>rfl)) (pc Zw Zs))) Zs)))))
   (Zv (ZD (Zz WO (YC GW hr ZF (pc (vn 3) Zs)) (cb (YB K) T.len (pc (vn 0) Zs)))))),?_⟩
  have U:=Yp O;have w8:=O.n60;have n1:=O.n1;have ul:=YI (t:=t) t.length;have t1:=S.t1;have x0:=S.t60;obtain⟨gs,u1,u2,_⟩:=id G;have el:(gs.map V.ref).length=t.length:=by rw[Za,u2]
  obtain⟨cs,r1,r2,r3⟩:=Zeu R;refine⟨_,rfl,g,t,2,rfl,G,O,fun pa H1 s1 n9=>?_⟩;have pl:((((ZC t t.length).map fun c=>WP t (pwk t (c.getD 0 0) 2)).map nV)).length=m:=by rw[Za,Za,mc]
  refine⟨pa,rfl,⟨_,.of n9⟩,?_⟩;have o0:∀c,c<m->WP t (pwk t (ZB t c) 2)=Yh t (ZI t (ZB t c) (ZB t c))/\Yh t (ZI t (ZB t c) (ZB t c))<m:=fun c J=>by
   have n4:=U.rl c (by omega);have hm:=O.lt _ _ n4 n4;rw[ZnN O n4,JP O hm];exact⟨rfl,by rw[mc];exact U.lt _ hm⟩
  have o5:∀c,c<m->∃b,cs[Yh t (ZI t (ZB t c) (ZB t c))]?=some b/\H b=some (.tup ((X sn (ZB t (Yh t (ZI t (ZB t c) (ZB t c))))).map V.int)):=fun c J=>r3 _ (o0 c J).2;refine Pm.Wn (Yu (K:=K) (.of n9)) [some (.ref r)] rfl (fun c=>V.ref (cs.getD (Yh t (ZI t (ZB t c) (ZB t c))) 0)) (by rw[pl];omega) (fun c y Y H2 s2 R' k2=>?_) (fun D H2 nD s2 hD=>?_)
  ·have J:c<m:=by
    have:=(ae.mp Y).1;rw[pl] at this;exact this
   have ey:y=V.int ((Yh t (ZI t (ZB t c) (ZB t c)):Nat):Int):=by
    rw[Zc,Zc,Zf (show c<(ZC t t.length).length by omega)] at Y;have e2:(ZC t t.length)[c]'(by omega)=(ZC t t.length).getD c []:=by rw[Zb,Zf (by omega)];rfl
    rw[e2] at Y;have e3:WP t (pwk t (((ZC t t.length).getD c []).getD 0 0) 2)=Yh t (ZI t (ZB t c) (ZB t c)):=(o0 c J).1;have Y:some (nV (WP t (pwk t (((ZC t t.length).getD c []).getD 0 0) 2)))=some y:=Y;rw[e3] at Y;exact (ay Y).symm
   subst ey;obtain⟨b,hb,_⟩:=o5 c J;have eb:cs.getD (Yh t (ZI t (ZB t c) (ZB t c))) 0=b:=by rw[Zb,hb];rfl
   have o6:=k2 H2 (Same.refl _);rw[eb] at o6;exact⟨_,rfl,_,rfl,r,_,_,_,rfl,rfl,.of ((s1.trans s2) _ _ r1),ZO (by rw[Zc,hb];rfl),o6⟩
  ·rw[pl] at hD
   have o7:=s1.trans s2;refine⟨_,rfl,_,rfl,g,t,rfl,G.mono o7,O,fun za H3 s3 o8=>?_⟩;have n6:=o7.trans s3;obtain⟨b0,r9,o9⟩:=r3 0 (by omega);refine⟨_,rfl,r,_,_,_,rfl,rfl,.of (n6 _ _ r1),ZO (j:=0) (by rw[Zc,r9];rfl),b0,0,_,rfl,.of (n6 _ _ o9),by rw[S.len];omega,⟨by decide,by decide⟩,fun st H4 s4 t0=>?_⟩;have p3:=n6.trans s4;have e1:((ZC t t.length).map c9).map nV=((ZC t t.length).map fun c=>(c.length:Int)).map V.int:=by rw[aK,aK];rfl
   rw[e1] at o8;have t5:((ac m).map fun c=>V.ref (cs.getD (Yh t (ZI t (ZB t c) (ZB t c))) 0))=((ac m).map fun c=>cs.getD (Yh t (ZI t (ZB t c) (ZB t c))) 0).map V.ref:=by rw[aK];rfl
   rw[t5] at hD;have n8:((X sn (ZB t 0)).map (· * 0)).length=N39.ZZ n:=by rw[Za,S.len]
   refine⟨D,za,st,false,true,(ac m).map fun c=>cs.getD (Yh t (ZI t (ZB t c) (ZB t c))) 0,(ac m).map fun c=>X sn (ZB t (Yh t (ZI t (ZB t c) (ZB t c)))),(ZC t t.length).map fun c=>(c.length:Int),(X sn (ZB t 0)).map (· * 0),rfl,.lst (.of ((s3.trans s4) _ _ hD)),by rw[Za,Za],fun c b hb=>?_,.tup (.of (s4 _ _ o8)),t0,by rw[Za,Za,Zg,mc],by rw[Za,Zg];omega,by rw[n8];omega,fun c J=>?_,fun k hk=>?_,fun t6 H5 s5 M=>?_⟩
   ·have J:c<m:=by
     have:=(ae.mp hb).1;rw[Za,Zg] at this;exact this
    rw[Zc,ao J] at hb;obtain⟨b',t7,t9⟩:=o5 c J;have eb:b=b':=by
     have:some (cs.getD (Yh t (ZI t (ZB t c) (ZB t c))) 0)=some b:=hb;rw[Zb,t7] at this;exact (ay this).symm
    subst eb;have:((ac m).map fun c=>X sn (ZB t (Yh t (ZI t (ZB t c) (ZB t c))))).getD c []=X sn (ZB t (Yh t (ZI t (ZB t c) (ZB t c)))):=by rw[Zb,Zc,ao J];rfl
    rw[this];exact p3 _ _ t9
   ·rw[Za,Zg] at J
    rw[n8,Zb,Zc,ao J];exact S.len _ _
   ·obtain⟨c,J,rfl⟩:=aN.mp hk
    obtain⟨b,hb,e⟩:=Wl O t.length (Zq _) _ J;have:=Ze7 (t:=t) b;rw[e];omega
   ·rw[Za,Zg] at M
    have gc:=Zbg (ks:=(ZC t t.length).map fun c=>(c.length:Int)) (xss:=(ac m).map fun c=>X sn (ZB t (Yh t (ZI t (ZB t c) (ZB t c))))) n8 m (fun j hj=>by
     rw[Zb,Zc,ao hj];exact S.len _ _)
    have p4:Jr ((ac m).map fun c=>X sn (ZB t (Yh t (ZI t (ZB t c) (ZB t c))))) ((ZC t t.length).map fun c=>(c.length:Int)) ((X sn (ZB t 0)).map (· * 0)) m=(ν sn*(t.length:Int))::ak (N39.ZZ n-1) 0:=by
     refine ZdK (by rw[gc.1,Zi,Ze];omega) fun q hq=>?_;rw[gc.1] at hq;rw[gc.2 q hq];have z1:Num.co ((X sn (ZB t 0)).map (· * 0)) q=0:=by
      unfold Num.co;rw[Zb,Zc,Zf (by rw[S.len];exact hq)];show _*(0:Int)=0;omega
     have z2:Ys m (fun j=>Num.co ((ZC t t.length).map fun c=>(c.length:Int)) j*Num.co (((ac m).map fun c=>X sn (ZB t (Yh t (ZI t (ZB t c) (ZB t c))))).getD j []) q)=Ys m (fun c=>(((ZC t t.length).getD c []).length:Int)*Num.co (X sn (ZB t (Yh t (ZI t (ZB t c) (ZB t c))))) q):=ZJ fun c J=>by
      unfold Num.co;rw[Zb (l:=(ZC t t.length).map _),Zc,Zf (show c<(ZC t t.length).length by omega),Zb (l:=(ac m).map _),Zc,ao J,Zb (l:=ZC t t.length),Zf (show c<(ZC t t.length).length by omega)];rfl
     have z3:=S.sort O hs hq;rw[<-mc] at z3;rw[z1,z2,z3];cases q with
     |zero=>rw[if_pos rfl];show (0:Int)+_=_;rw[cz];rfl
     |succ q=>
      rw[if_neg (by omega)];show (0:Int)+0=(ak (N39.ZZ n-1) (0:Int)).getD q 0;rw[Zb,b8,if_pos (by omega)];rfl
    rw[p4] at M;refine⟨_,rfl,t6,_,_,rfl,M,by rw[Ze];omega,fun H6 s6=>?_⟩;have u5:(ak (N39.ZZ n-1) (0:Int)).any (fun y=>decide (y≠0))=false:=by
     rw[gB];intro y Y;rw[kD Y];decide
    rw[u5];have p6:=(p3.trans s5).trans s6;refine⟨_,rfl,g,_,rfl,.inr (.of (p6 _ _ u1)),_,_,rfl,rfl,⟨by rw[el];show (0:Int)<_;omega,by rw[el];show _<(1073741824:Int);omega⟩,?_⟩;have p7:=q H6 p6;have e9:ν sn*(t.length:Int) / ((gs.map V.ref).length:Int)=ν sn:=by rw[el];exact Int.mul_ediv_cancel _ (by omega)
    rw[<-e9] at p7;exact p7
end
theorem Zhj {α Y:Type}{f:α->Y}{l:List Y}:∀{q:List α},l.Perm (q.map f)->∃j:List α,j.Perm q/\l=j.map f:=by
 intro q h;generalize J:q.map f=k at h;induction h generalizing q with
 |nil=>exact⟨[],by rw[List.map_eq_nil_iff.mp J],rfl⟩
 |cons x h ih=>
  obtain⟨a,b,rfl,rfl,e⟩:=iC.mp J;obtain⟨j,M,rfl⟩:=ih e;exact⟨a::j,M.cons a,rfl⟩
 |swap x y l=>
  obtain⟨a,b,rfl,rfl,e⟩:=iC.mp J;obtain⟨c,d,rfl,rfl,rfl⟩:=iC.mp e;exact⟨c::a::d,jh a c d,rfl⟩
 |trans _ _ O U=>
  obtain⟨l2,M,rfl⟩:=U J;obtain⟨l3,h2,rfl⟩:=O rfl;exact⟨l3,h2.trans M,rfl⟩
theorem ZgL {m:Nat}{ss:List Nat}(h:ss.Perm (ac m))(F:Nat->Int):Ys m (fun j=>F (ss.getD j 0))=Ys m F:=by
 have O:ss.length=m:=by rw[h.length_eq,Zg]
 have e:(ac m).map (fun j=>F (ss.getD j 0))=ss.map F:=by
  refine aY fun i=>?_;by_cases J:i<m
  ·rw[Zc,ao J,Zc,Zf (by omega)]
   show some (F (ss.getD i 0))=_;rw[Zb,Zf (by omega)];rfl
  ·rw[ah (by rw[Za,Zg];omega),ah (by rw[Za];omega)]
 unfold Ys;rw[e];have q:=h.map F;generalize ss.map F=U at q;generalize (ac m).map F=Y at q ⊢;induction q with
 |nil=>rfl
 |cons x _ M=>rw[cf,cf,M]
 |swap x y l=>rw[cf,cf,cf,cf];omega
 |trans _ _ a b=>rw[a,b]
theorem ZdT.mono {H j:Hp}{r:Addr}{yss:List (List (List Int))}(h:ZdT H r yss)(s:Same H j):ZdT j r yss:=by
 obtain⟨q,J,M,O⟩:=h;refine⟨q,s _ _ J,M,fun i c U=>?_⟩;obtain⟨Y,g1,g2⟩:=O i c U;exact⟨Y,g1,g2.mono s⟩
noncomputable def putL (yss:List (List (List Int)))(ks:List Int)(m:Nat):List (List Int):=(ac m).map fun c=>Jr (yss.map fun j=>j.getD c []) ks (((yss.getD 0 []).getD c []).map (· * 0)) yss.length
theorem Zhf {yss:List (List (List Int))}{ks:List Int}{m c:Nat}(j:c<m):(putL yss ks m)[c]?=some (Jr (yss.map fun ys=>ys.getD c []) ks (((yss.getD 0 []).getD c []).map (· * 0)) yss.length):=by
 unfold putL;rw[Zc,ao j];rfl
noncomputable def ZkP (K:ab):Sp:=fun U H Q _=>∃(r b:Addr) (v:Bool) (j:List (List (List Int))) (q:List Int) (m top:Nat),U=[.ref r,.ref b]/\ZdT H r j/\UJ v K H b (q.map V.int)/\j.length=q.length/\1<=j.length/\j.length<=60/\m<=60/\top<=60/\(∀M∈j,M.length=m/\∀y∈M,y.length=top)/\Sml q/\
 ∀O J,Same H J->RowT J O (putL j q m)->Q (.ref O) J
section
variable {P:Program}{w:World}{K:ab}{mg:Str->Option Value}{base:Heap}
theorem Zmd {f:Addr}{fd:FuncData}(F:Y5 K "put_by" "put_by" ZnS f fd)(T:Bl mg)(T2:Zbw mg)(GG:Fn P w K mg base ZT 2 "gathered" ["numbers", "often", "start"] (ZgH K))(GS:Fn P w K mg base ZT 1 "scaled" ["one", "k"] (N39.Zd8 K)):ZR P w K mg base ZT 3 f fd ["table", "shares"] (ZkP K):=by
 refine F.ok (FS (N:=["table", "shares", "found", "c", "number"])) (fun vs H Q E h=>?_) (fun u9 A r9 s H vs Q E hr h=>?_)
 ·obtain⟨r,b,v,J,ks,m,top,rfl,_⟩:=h;rfl
 ·obtain⟨r,b,v,J,ks,m,top,rfl,B,hb,hl,y1,t0,w8,t60,hy,t5,q⟩:=h
  refine⟨_,Zu (ZH 2 rfl (ZS Zs))
   (Zu (ZQ aq rfl (Vo K T2.enumerate (pc (ZM (Jp K) (vn 0) Zw (fun _ _=>rfl)) Zs)) (g2 K 3 4 rfl (gnf 3 rfl) (gn 4))
    (Zv (Yv (Wm aM aR aT Z2 (vn 2)
     (pc (YC GG hr ZF (pc (cmp ["row"] [3] ["row", "c"] rfl (itT K (vn 0)) (fun _ _ _ _ _=>gn 0) (fun _ _ _ _ _=>ZN) (fun _ _ _ _ _=>ZM (Jp K) (vn 0) (vn 1) (fun _ _=>rfl)))
      (pc (vn 1) (pc (YC GS hr ZF (pc (vn 4) (pc Zw Zs))) Zs)))) Zs)))))
   (Zv (ZD (ct ZE T.tuple (pc (vn 2) Zs))))),?_⟩
  have sz:(16777216:Nat)=sizeLine:=by decide
  refine⟨(by show 0<=sizeLine;decide),fun L nL=>?_⟩;have s1:=Same.upd (H:=H) (o:=.lst []) nL;have h1:upd H L (.lst []) L=some (.lst ([]:List V)):=Zt;generalize upd H L (.lst [])=H1 at s1 h1 ⊢;obtain⟨cs,b1,b2,b3⟩:=id B;obtain⟨p3,g1,U,g2,g3,g4⟩:=b3 0 _ (Zf (show 0<cs.length by omega));have g0:cs[0]?=some (cs[0]'(by omega)):=Zf _;generalize cs[0]'(by omega)=c0 at g0 g2;have o0:=hy p3 (av g1);have el:(U.map V.ref).length=m:=by rw[Za,g3,o0.1]
  have cl:(cs.map V.ref).length=J.length:=by rw[Za,b2]
  refine⟨_,rfl,r,_,_,_,rfl,rfl,.of (s1 _ _ b1),ZO (j:=0) (by rw[Zc,g0];rfl),c0,rfl,.inr ⟨⟨_,.of (s1 _ _ g2)⟩,?_⟩⟩;refine Y1 (Uo (K:=K) (xs:=U.map V.ref)) (fun c n4 H'=>∃(rs:List Addr) (v3 v4:Option V),n4=[some (.ref r),some (.ref b),some (.ref L),v3,v4]/\Same H H'/\H' L=some (.lst (rs.map V.ref))/\rs.length=c/\∀(j:Nat) d,rs[j]?=some d->∃y,(putL J ks m)[j]?=some y/\H' d=some (.tup (y.map V.int)))
   ⟨[],_,_,rfl,s1,h1,rfl,fun j d O=>by cases O⟩ (fun i n4 H' h=>by
    obtain⟨_,_,_,_,sm,_⟩:=h;exact .of (sm _ _ g2)) ?_ ?_
  ·rintro c yv n4 H2 T' o5 ⟨rs,v3,v4,rfl,s2,h2,rl,o6⟩ nT
   have hc:c<m:=by
    have:=(ae.mp o5).1;rw[el] at this;exact this
   rw[Zc,Zf (show c<U.length by rw[Za] at el;omega)] at o5;cases o5;have p4:U[c]?=some (U[c]'(by rw[Za] at el;omega)):=Zf _;generalize U[c]'(by rw[Za] at el;omega)=nb at p4 ⊢;obtain⟨y0,k1,k2⟩:=g4 c nb p4;have s3:=s2.trans (Same.upd (H:=H2) (o:=.tup [.int (c:Nat),.ref nb]) nT);have h3:=(Same.upd (H:=H2) (o:=.tup [.int (c:Nat),.ref nb]) nT) _ _ h2;have n8:∀(j:Nat) d,rs[j]?=some d->∃y,(putL J ks m)[j]?=some y/\upd H2 T' (.tup [.int (c:Nat),.ref nb]) d=some (.tup (y.map V.int)):=fun j d O=>by
    obtain⟨y,e1,e2⟩:=o6 j d O;exact⟨y,e1,(Same.upd (H:=H2) (o:=.tup [.int (c:Nat),.ref nb]) nT) _ _ e2⟩
   refine⟨T',_,rfl,.of Zt,rfl,_,_,rfl,_,_,rfl,rfl,?_⟩;generalize upd H2 T' (.tup [.int (c:Nat),.ref nb])=H3 at s3 h3 n8 ⊢;refine⟨_,rfl,.inl ⟨rfl,_,.of h3⟩,_,rfl,r,rfl,⟨_,.of (s3 _ _ b1)⟩,?_⟩;have p6:∀i,i<J.length->∃d e M,cs[i]?=some d/\J[i]?=some M/\M.length=m/\(∃es:List Addr,H d=some (.tup (es.map V.ref))/\es[c]?=some e)/\H e=some (.tup ((M.getD c []).map V.int)):=fun i Y=>by
    have e0:cs[i]?=some (cs[i]'(by omega)):=Zf _;obtain⟨M,e1,es,e2,e3,e4⟩:=b3 i _ e0;have hm:=(hy M (av e1)).1;have e5:es[c]?=some (es[c]'(by omega)):=Zf _;obtain⟨y,e6,e7⟩:=e4 c _ e5;have:M.getD c []=y:=by rw[Zb,e6];rfl
    exact⟨_,_,M,e0,e1,hm,⟨es,e2,e5⟩,by rw[this];exact e7⟩
   refine Pm.YS (W:=Addr) id (fun i a H=>H a=some (.tup (((J.getD i []).getD c []).map V.int))) (fun _ _=>True) (Yu (K:=K) (.of (s3 _ _ b1))) [some (.int (c:Nat))] rfl (by rw[cl];omega) (fun k a H H' sm h=>sm _ _ h) (fun a H H' sm h=>trivial) (fun k a x0 x6 D' o M x8 h1 h2 h3 h4=>by rw[Zx (fun zz=>by rw[zz,h4] at h1;cases h1)];exact h1) (fun i x hx H4 s4 R k4=>?_) (fun D4 as H4 x9 s4 o7 n6 has _=>?_)
   ·have Y:i<J.length:=by
     have:=(ae.mp hx).1;rw[cl] at this;exact this
    obtain⟨d,e,M,q1,q2,q3,⟨es,q4,q5⟩,q6⟩:=p6 i Y;rw[Zc,q1] at hx;cases hx;have o8:J.getD i []=M:=by rw[Zb,q2];rfl
    refine⟨_,rfl,_,rfl,d,_,_,_,rfl,rfl,.of ((s3.trans s4) _ _ q4),ZO (j:=c) (by rw[Zc,q5];rfl),k4 e H4 (Same.refl _) ?_ trivial⟩;rw[o8];exact (s3.trans s4) _ _ q6
   ·have p7:=s3.trans s4
    have n6:as.length=J.length:=by rw[n6,cl]
    have o7:H4 D4=some (.lst (as.map V.ref)):=o7;refine⟨_,rfl,_,rfl,nb,0,y0,rfl,.of (p7 _ _ k2),by rw[o0.2 y0 (av k1)];omega,⟨by decide,by decide⟩,fun st H5 s5 t6=>?_⟩;have t7:(J.getD 0 []).getD c []=y0:=by rw[Zb (l:=J),g1];show p3.getD c []=y0;rw[Zb,k1];rfl
    have p8:(y0.map (· * 0)).length=top:=by rw[Za,o0.2 y0 (av k1)]
    have r6:∀i,i<J.length->(J.map fun M=>M.getD c []).getD i []=(J.getD i []).getD c []:=fun i Y=>by
     rw[Zb,Zc,Zf Y,Zb (l:=J),Zf Y];rfl
    refine⟨D4,b,st,false,v,as,J.map fun M=>M.getD c [],ks,y0.map (· * 0),rfl,.lst (.of (s5 _ _ o7)),by rw[Za,n6],fun i d O=>?_,hb.mono (p7.trans s5),t6,by rw[Za];exact hl,by rw[Za];exact t0,by rw[p8];exact t60,fun i Y=>?_,t5,fun r8 H6 s6 n9=>?_⟩
    ·have Y:i<J.length:=by rw[<-n6];exact (ae.mp O).1
     rw[r6 i Y];exact s5 _ _ (has i d O).1
    ·rw[Za] at Y
     rw[r6 i Y,p8];obtain⟨d,e,M,q1,q2,q3,_,q6⟩:=p6 i Y;have o8:J.getD i []=M:=by rw[Zb,q2];rfl
     rw[o8,Zb,Zf (by omega)];exact (hy M (av q2)).2 _ (bg _)
    ·rw[Za] at n9
     have o9:=s4.trans (s5.trans s6);have h6:=o9 _ _ h3;refine⟨L,_,_,rfl,rfl,h6,by rw[Za,rl];omega,?_⟩;have keep:∀{b:Addr}{xs:List V},H6 b=some (.tup xs)->upd H6 L (.lst (rs.map V.ref++[.ref r8])) b=some (.tup xs):=fun {b xs} hb=>by
      rw[Zx (fun zz=>by rw[zz,h6] at hb;cases hb)];exact hb
     refine⟨rs++[r8],_,_,rfl,(s3.trans o9).updr nL,by rw[Zt,aU];rfl,by rw[Zd,rl];rfl,fun j d O=>?_⟩;by_cases hj:j<rs.length
     ·rw[aw hj] at O
      obtain⟨y,e1,e2⟩:=n8 j d O;exact⟨y,e1,keep (o9 _ _ e2)⟩
     ·have t9:=(ae.mp O).1
      rw[Zd,Zk] at t9;have ec:j=rs.length:=by omega
      rw[ax (by omega),ec,de] at O;cases O;rw[ec,rl];exact⟨_,Zhf hc,keep (by rw[t7];exact n9)⟩
  ·rintro n4 H2 ⟨rs,v3,v4,rfl,s2,h2,rl,o6⟩
   rw[el] at rl;refine⟨_,rfl,L,_,rfl,.inl ⟨.of h2,fun tp u5=>?_⟩⟩;have s3:=Same.upd (H:=H2) (o:=.tup (rs.map V.ref)) u5;refine q tp _ (s2.trans s3) ⟨rs,Zt,by unfold putL;rw[Za,Zg,rl],fun j d O=>?_⟩;obtain⟨y,e1,e2⟩:=o6 j d O;exact⟨y,e1,s3 _ _ e2⟩
end
noncomputable def sqN (t:List (List Nat))(x:Nat):Nat:=sm t.length fun a=>W2 (decide (ZI t a a=x))
noncomputable def Y7 (t:List (List Nat))(m:Nat)(X:Nat->Nat->List Int)(s:Nat):List (List Int):=(ac m).map fun c=>X s (ZB t c)
theorem Xq {t:List (List Nat)}{m:Nat}{X:Nat->Nat->List Int}{s c:Nat}(j:c<m):(Y7 t m X s).getD c []=X s (ZB t c):=by
 unfold Y7;rw[Zb,Zc,ao j];rfl
theorem Vj {m:Nat}{ss:List Nat}(h:ss.Perm (ac m)){i:Nat}(j:i<m):ss[i]?=some (ss.getD i 0)/\ss.getD i 0<m:=by
 have q:ss.length=m:=by rw[h.length_eq,Zg]
 have e:ss[i]?=some (ss.getD i 0):=by rw[Zb,Zf (by omega)];rfl
 exact⟨e,af.mp (h.mem_iff.mp (av e))⟩
noncomputable def U3:Sp:=fun M H Q _=>∃(g r:Addr) (t:List (List Nat)) (n m:Nat) (X:Nat->Nat->List Int) (O:Nat->Int) (q:List Nat),M=[.ref g,.ref r]/\GT H g t/\PW t/\FSo t n m X O/\m=(ZC t t.length).length/\q.Perm (ac m)/\ZdT H r (q.map (Y7 t m X))/\
 ∀J j,Same H j->j J=some (.tup ((ac m).map fun c=>V.int (sqN t (ZB t c):Nat)))->Q (.ref J) j
theorem ZlU {t:List (List Nat)}{n m:Nat}{X:Nat->Nat->List Int}{M:Nat->Int}{ss:List Nat}(S:FSo t n m X M)(Pt:PW t)(mc:m=(ZC t t.length).length)(J:ss.Perm (ac m)){c:Nat}(hc:c<m):Jr ((ss.map (Y7 t m X)).map fun ys=>ys.getD c []) (ss.map M) ((((ss.map (Y7 t m X)).getD 0 []).getD c []).map (· * 0)) (ss.map (Y7 t m X)).length=((sqN t (ZB t c):Nat):Int)::ak (N39.ZZ n-1) 0:=by
 have hl:ss.length=m:=by rw[J.length_eq,Zg]
 have U:=Yp Pt;have t1:=S.t1;have m1:0<m:=by omega
 have n4:=U.rl c (by omega);have g:∀i,i<m->(ss.map (Y7 t m X)).getD i []=Y7 t m X (ss.getD i 0):=fun i hi=>by
  rw[Zb,Zc,(Vj J hi).1];rfl
 have gx:∀i,i<m->((ss.map (Y7 t m X)).map fun ys=>ys.getD c []).getD i []=X (ss.getD i 0) (ZB t c):=fun i hi=>by
  rw[aK,Zb,Zc,(Vj J hi).1];exact Xq hc
 have n6:((((ss.map (Y7 t m X)).getD 0 []).getD c []).map (· * 0)).length=N39.ZZ n:=by
  rw[g 0 m1,Xq hc,Za,S.len]
 rw[Za,hl];have gc:=Zbg (ks:=ss.map M) (xss:=(ss.map (Y7 t m X)).map fun ys=>ys.getD c []) n6 m (fun j O=>by rw[gx j O];exact S.len _ _);refine ZdK (by rw[gc.1,Zi,Ze];omega) fun q Y=>?_;rw[gc.1] at Y;rw[gc.2 q Y];have z1:Num.co ((((ss.map (Y7 t m X)).getD 0 []).getD c []).map (· * 0)) q=0:=by
  unfold Num.co;rw[Zb,Zc];rw[g 0 m1,Xq hc,Zf (by rw[S.len];exact Y)];show _*(0:Int)=0;omega
 have z2:Ys m (fun j=>Num.co (ss.map M) j*Num.co (((ss.map (Y7 t m X)).map fun ys=>ys.getD c []).getD j []) q)=Ys m (fun j=>(fun s=>M s*Num.co (X s (ZB t c)) q) (ss.getD j 0)):=ZJ fun j O=>by
  rw[gx j O];have:Num.co (ss.map M) j=M (ss.getD j 0):=by
   unfold Num.co;rw[Zb,Zc,(Vj J O).1];rfl
  rw[this]
 have z3:=S.C (ZB t c) q n4 Y;rw[z1,z2,ZgL J (fun s=>M s*Num.co (X s (ZB t c)) q),z3];cases q with
 |zero=>rw[if_pos rfl,cz];rfl
 |succ q=>
  rw[if_neg (by omega)];show (0:Int)+0=(ak (N39.ZZ n-1) (0:Int)).getD q 0;rw[Zb,b8,if_pos (by omega)];rfl
section
variable {P:Program}{w:World}{K:ab}{mg:Str->Option Value}{base:Heap}
theorem Zdp {f:Addr}{fd:FuncData}(F:Y5 K "roots_of" "roots_of" ZbS f fd)(T:Bl mg)(n6:Fn P w K mg base ZT 7 "sort_of" ["group", "spread"] Zdb)(n8:Fn P w K mg base ZT 3 "put_by" ["table", "shares"] (ZkP K))(GW:Fn P w K mg base ZT 1 "whole_of" ["one"] N39.Zda):ZR P w K mg base ZT 8 f fd ["group", "table"] U3:=by
 refine F.ok (FS (N:=["group", "table", "sorts"])) (fun vs H Q E h=>?_) (fun o8 A n9 s H vs Q E hr h=>?_)
 ·obtain⟨g,r,t,n,m,X,M,ss,rfl,_⟩:=h;rfl
 ·obtain⟨g,r,t,n,m,X,M,ss,rfl,G,O,S,mc,j,B,q⟩:=h
  refine⟨_,Zu (Zfp 2 ["row"] [0] ["row", "group"] rfl rfl (itT K (vn 1)) (fun _ _ _ _ _=>gn 0) (fun _ _ _ _ _=>ZN) (fun _ _ _ _ _=>YC n6 hr ZF (pc (vn 1) (pc (vn 0) Zs))))
   (Zv (ZD (ct ZE T.tuple (pc (cmp ["number"] [] ["number"] rfl (itT K (YC n8 hr ZF (pc (vn 1) (pc (vn 2) Zs)))) (fun _ _ _ _ _=>gn 0) (fun _ _ _ _ _=>ZN) (fun _ _ _ _ _=>YC GW hr ZF (pc (vn 0) Zs))) Zs)))),?_⟩
  have hl:ss.length=m:=by rw[j.length_eq,Zg]
  have o9:=O.n60;have U:=Yp O;have ul:=YI (t:=t) t.length;have t1:=S.t1;have t60:=S.t60;have m1:1<=m:=by have:=U.lt 0 O.n1;omega
  obtain⟨cs,b1,b2,b3⟩:=id B;have Y:(cs.map V.ref).length=m:=by rw[Za,b2,Za,hl]
  refine⟨_,rfl,r,rfl,⟨_,.of b1⟩,?_⟩;refine Pm.Wn (Yu (K:=K) (.of b1)) [some (.ref g)] rfl (fun i=>V.int (M (ss.getD i 0))) (by rw[Y];omega) (fun i y J H1 s1 R k1=>?_) (fun D H1 nD s1 hD=>?_)
  ·have hi:i<m:=by
    have:=(ae.mp J).1;rw[Y] at this;exact this
   rw[Zc,Zf (show i<cs.length by rw[Za] at Y;omega)] at J;cases J;obtain⟨ys,e1,e2⟩:=b3 i _ (Zf (show i<cs.length by rw[Za] at Y;omega));rw[Zc,(Vj j hi).1] at e1;cases e1;exact⟨_,rfl,_,rfl,g,_,t,n,m,X,M,ss.getD i 0,rfl,G.mono s1,O,S,mc,(Vj j hi).2,e2.mono s1,fun H2 s2=>k1 H2 s2⟩
  ·rw[Y] at hD
   have el:((ac m).map fun i=>V.int (M (ss.getD i 0)))=(ss.map M).map V.int:=by
    refine aY fun i=>?_;by_cases hi:i<m
    ·rw[Zc,ao hi,Zc,Zc,(Vj j hi).1]
     rfl
    ·rw[ah (by rw[Za,Zg];omega),ah (by rw[Za,Za];omega)]
   rw[el] at hD;refine⟨_,rfl,_,rfl,r,D,false,ss.map (Y7 t m X),ss.map M,m,N39.ZZ n,rfl,B.mono s1,.lst (.of hD),by rw[Za,Za],by rw[Za];omega,by rw[Za];omega,by omega,t60,fun ys o0=>?_,fun k hk=>?_,fun r2 H2 s2 R2=>?_⟩
   ·obtain⟨s',_,rfl⟩:=aN.mp o0
    unfold Y7;refine⟨by rw[Za,Zg],fun y J=>?_⟩;obtain⟨c,_,rfl⟩:=aN.mp J;exact S.len _ _
   ·obtain⟨s',o5,rfl⟩:=aN.mp hk
    have:=S.a s' (af.mp (j.mem_iff.mp o5));rcases this with e|e|e <;> rw[e] <;> decide
   ·obtain⟨ds,d1,d2,d3⟩:=R2
    have dl:(ds.map V.ref).length=m:=by rw[Za,d2];unfold putL;rw[Za,Zg]
    refine⟨r2,rfl,⟨_,.of d1⟩,?_⟩;refine Pm.Wn (Yu (K:=K) (.of d1)) [] rfl (fun c=>V.int (sqN t (ZB t c):Nat)) (by rw[dl];omega) (fun c y J H3 s3 R k3=>?_) (fun D3 H3 p3 s3 n4=>?_)
    ·have hc:c<m:=by
      have:=(ae.mp J).1;rw[dl] at this;exact this
     rw[Zc,Zf (show c<ds.length by rw[Za] at dl;omega)] at J;cases J;obtain⟨y,e1,e2⟩:=d3 c _ (Zf (show c<ds.length by rw[Za] at dl;omega));rw[Zhf hc,ZlU S O mc j hc] at e1;cases e1;refine⟨_,rfl,_,_,_,rfl,s3 _ _ e2,by rw[Ze];omega,fun H4 s4=>?_⟩;have o6:(ak (N39.ZZ n-1) (0:Int)).any (fun y=>decide (y≠0))=false:=by
      rw[gB];intro y J;rw[kD J];decide
     rw[o6];exact k3 H4 s4
    ·rw[dl] at n4
     exact⟨D3,_,rfl,.inl ⟨.of n4,fun tp o7=>q tp _ (((s1.trans s2).trans s3).trans (Same.upd o7)) Zt⟩⟩
end
end C39
namespace L2
open PySem PySem.Spec PyProof.Rows
section
variable {X:Cx}
noncomputable def Zk6 (K:ab):V->List V->Hp->VK->Prop:=fun x q H Q=>∃p j y,x=.ref p/\q=[y]/\H p=some (.lst j)/\WR y=true/\j.all WR=true/\Q (.int (j.countP (fun z=>eqV z y):Nat)) H
theorem ZfI:MtR X "list.count" (Zk6 X.K):=by
 intro Y s σ H x vs v us Q I rx rv h;obtain⟨p,xs,y,rfl,rfl,hp,fy,fs,q⟩:=h;cases rx;obtain⟨u,rfl,ru⟩:=rv.one;obtain⟨z,J,n,r,hl,e⟩:=I.lstM hp;have hl:=r.length;have j:∀(m:Nat) (z:V),xs[m]?=some z->WR z=true:=fun m z M=>aD.mp fs z (av M);have em:J.map (UT y)=xs.map (fun z=>eqV z y):=by
  refine aY fun m=>?_;rw[Zc,Zc];by_cases M:m<xs.length
  ·obtain⟨w,O,U⟩:=r.get (Zf M)
   rw[O,Zf M];show some (UT y w)=some (eqV xs[m] y);rw[Zbj U (j m _ (Zf M))]
  ·rw[ah (by omega),ah (by omega)]
   rfl
 have ec:J.countP (UT y)=xs.countP (fun z=>eqV z y):=by
  have h1:=congrArg (List.countP id) em;rw[List.countP_map,List.countP_map] at h1;exact h1
 refine dC lT ⟨_,e,rfl⟩ F.entry_list_count (F.args_list_count_2 _ _) (SeqAt.list_countAt p J.toArray n none #[] u (UT y)) ⟨e,fun w O=>WJ ru fy r fs w (by simpa using O),?_⟩;refine⟨.int (xs.countP (fun z=>eqV z y):Nat),H,I.kept (t':=s.toks+1) fun b o e=>e,⟨s.toks,?_⟩,q⟩;rw[<-ec]
theorem Zor (K:ab)(j:X.K=K:=by rfl):MtR X "list.count" (Zk6 K):=j▸ZfI
end
end L2
namespace C39
open PySem L2 PySem.Spec PyProof.Rows
open Tb Pm
theorem Zk3 {X:Cx}(K:ab){k:Nat}(j:Jc k X.A)(q:X.K=K:=by rfl):Yo X (.builtin "repr") (fun xs H Q=>∃x d,xs=[x]/\UX K H x d/\ZkE d/\Q (.str d.shown) H):=q▸Zgd j
theorem Zb1 {n i:Nat}{y:V}(h:((YX 0 n).map V.int)[i]?=some y):i<n/\y=.int ((i:Nat):Int):=by
 have j:i<n:=by
  have:=(ae.mp h).1;rwa [Za,Yx] at this
 refine⟨j,?_⟩;unfold YX at h;rw[aK,Zc,ao j] at h;have:y=V.int (0+(i:Int)):=(ay h).symm;rw[this,cz]
theorem Zel (ns:List Int):cY (.tuple (ns.map aO))=true:=by
 unfold cY;have j:=Jn ns;have q:=JS ns;simp only[j,kG,dW,decide_eq_true_eq];omega
theorem ZoD (ns j:List Int):eY (.tuple (ns.map aO)) (.tuple (j.map aO))=decide (ns=j):=by
 show gt _ _=_;exact ly _ _
noncomputable def dTI (xss:List (List Int)):fk:=.tuple (xss.map fun j=>ce (j.map aO))
theorem Ze1:∀(xs ys:List (List Int)),gt (xs.map fun x=>ce (x.map aO)) (ys.map fun x=>ce (x.map aO))=decide (xs=ys)
 | [],[]=>rfl
 | [],y::ys=>by rw[decide_eq_false (by simp)];rfl
 |x::xs,[]=>by rw[decide_eq_false (by simp)];rfl
 |x::xs,y::ys=>by
  show (eY (.tuple (x.map aO)) (.tuple (y.map aO)) && gt _ _)=_;rw[ZoD,Ze1 xs ys,c7];simp
theorem ZeS:∀(xs:List (List Int)),cF (xs.map fun x=>ce (x.map aO))=true
 | []=>rfl
 |x::xs=>by
  show (d0 (.tuple (x.map aO)) && _)=true;rw[Jn,ZeS xs];rfl
theorem Us:∀(xs:List (List Int)),bO (xs.map fun x=>ce (x.map aO))<=60
 | []=>by decide
 |x::xs=>by
  show max (cW (.tuple (x.map aO))) _<=60;have j:=JS x;have q:=Us xs;omega
theorem V3 (xs:List (List Int)):cY (dTI xs)=true:=by
 unfold cY dTI;have j:d0 (.tuple (xs.map fun x=>ce (x.map aO)))=true:=ZeS xs;have q:=Us xs;have J:cW (.tuple (xs.map fun x=>ce (x.map aO)))=bO (xs.map fun x=>ce (x.map aO))+1:=rfl;simp only[j,kG,dW,decide_eq_true_eq];omega
theorem Zez {K:ab}{H:Hp}:∀(rs:List Addr) (xss:List (List Int)),rs.length=xss.length->(∀(i:Nat) b,rs[i]?=some b->∃y,xss[i]?=some y/\H b=some (.tup (y.map V.int)))->Wq K H (rs.map V.ref) (xss.map fun xs=>ce (xs.map aO))
 | [],[],_,_=>.nil
 | [],_::_,h,_=>by cases h
 |_::_,[],h,_=>by cases h
 |b::bs,y::q,h,g=>by
  obtain⟨U,J,M⟩:=g 0 b rfl;cases J;exact .cons (.tup (.of M) (Wq.ints _)) (Zez bs q (dw h) fun j c O=>g (j+1) c O)
theorem _root_.L2.RowT.rd {K:ab}{H:Hp}{r:Addr}{xss:List (List Int)}(h:RowT H r xss):UX K H (.ref r) (dTI xss):=by
 obtain⟨j,q,J,M⟩:=h;exact .tup (.of q) (Zez j xss J M)
theorem ZbL {H:Hp}{r:Addr}{xss:List (List Int)}:Zkx H r xss↔RowT H r xss:=by
 constructor
 ·rintro⟨j,q,J,M⟩
  refine⟨j,q,J,fun i b hb=>?_⟩;have Y:=(ae.mp hb).1;exact⟨xss.getD i [],by rw[Zb,Zf (by omega)];rfl,M i b hb⟩
 ·rintro⟨j,q,J,M⟩
  refine⟨j,q,J,fun i b hb=>?_⟩;obtain⟨y,O,U⟩:=M i b hb;rw[Zb,O];exact U
theorem Zj9 {y:Nat}{j:List Nat}:inV (.int (y:Nat)) (j.map nV)=j.contains y:=by
 unfold inV;rw[dJ,kF];congr 1;funext z;show (((z:Nat):Int) == ((y:Nat):Int))=(y == z);by_cases h:y=z
 ·subst h;simp
 ·have q:¬((z:Nat):Int)=((y:Nat):Int):=by omega
  rw[beq_eq_false_iff_ne.mpr h,beq_eq_false_iff_ne.mpr q]
theorem Zkg {m k:Nat}(h:k<m):(ac m).filter (fun c=>decide (k=c))=[k]:=by
 have j:((ac m).filter fun c=>decide (k=c)).Nodup:=cu.filter _;have q:((ac m).filter fun c=>decide (k=c)).Perm [k]:=(bQ j (by simp)).mpr fun x=>by
  rw[fe,af,aQ,decide_eq_true_eq];omega
 exact List.perm_singleton.mp q
theorem Zja {p:Addr}{H j q:Hp}(s:Same H j)(J:H p=none)(k:Tk p j q):Same H q:=fun b o e=>k b o (s b o e) fun z=>by rw[z,J] at e;cases e
noncomputable def Xh (t:List (List Nat))(top:Nat)(F:Nat->List Int):Nat->List Int
 |0=>ak top 0
 |i+1=>ic (· + ·) (Xh t top F i) (F (ZI t i i))
theorem Zd1 {t:List (List Nat)}{top:Nat}{F:Nat->List Int}(h:∀x,(F x).length=top):∀i,(Xh t top F i).length=top/\∀q,q<top->Num.co (Xh t top F i) q=Ys i (fun x=>Num.co (F (ZI t x x)) q)
 |0=>⟨Ze,fun q j=>by
  show (ak top (0:Int)).getD q 0=0;rw[Zb,b8,if_pos j];rfl⟩
 |i+1=>by
  obtain⟨J,M⟩:=Zd1 h i;have O:=h (ZI t i i);refine⟨by rw[Xh,iO,J,O];omega,fun q j=>?_⟩;rw[Yd,<-M q j,Xh];unfold Num.co;rw[Zb,ir,Zf (show q<(Xh t top F i).length by omega),Zf (show q<(F (ZI t i i)).length by omega),Zb (l:=Xh t top F i),Zf (show q<(Xh t top F i).length by omega),Zb (l:=F (ZI t i i)),Zf (show q<(F (ZI t i i)).length by omega)];rfl
theorem Ziy (t:List (List Nat))(x:Nat):∀N,((ac N).map fun a=>V.int ((ZI t a a:Nat):Int)).countP (fun z=>eqV z (.int (x:Nat)))=sm N fun a=>W2 (decide (ZI t a a=x)):=by
 intro N;induction N with
 |zero=>rfl
 |succ N j=>
  rw[c6,aU,List.countP_append,j,YD];congr 1;show List.countP _ [V.int ((ZI t N N:Nat):Int)]=_;have e:eqV (V.int ((ZI t N N:Nat):Int)) (V.int ((x:Nat):Int))=decide (ZI t N N=x):=by
   show decide (((ZI t N N:Nat):Int)=((x:Nat):Int))=_;rw[decide_eq_decide];omega
  rw[jq,e];unfold W2;simp
noncomputable def Zeg (K:ab):Sp:=fun q H Q _=>∃(a:Addr) (j:List Int),q=[.ref a]/\Wr K H a (j.map V.int)/\j.length<=63/\∀J,Q (.bl true) J
section
variable {P:Program}{w:World}{K:ab}{mg:Str->Option Value}{base:Heap}
theorem Zme {f:Addr}{fd:FuncData}(F:Y5 K "law" "law" ZnT f fd)(T:Bl mg)(T2:Zbw mg)(TZ:BlT mg)(GT0:Fn P w K mg base ZT 1 "_law_tape" ["_law_script", "_law_at"] (ZgD K))(GG:Fn P w K mg base ZT 3 "_law_group" ["_law_tape_here", "_law_great"] Zeh)
  (GTa:Fn P w K mg base ZT 7 "table_of" ["group"] Zd6) (GR:Fn P w K mg base ZT 2 "full_round" ["group"] Zdd) (GLc:Fn P w K mg base ZT 3 "_law_classes" ["_law_group_here"] ZgJ) (GRo:Fn P w K mg base ZT 8 "roots_of" ["group", "table"] U3) (GSo:Fn P w K mg base ZT 7 "sort_of" ["group", "spread"] Zdb) (GWh:Fn P w K mg base ZT 3 "whole" ["n", "k"] N39.ZkL) (GFl:Fn P w K mg base ZT 6 "spread_flipped" ["n", "one"] Zd9) :
  ZR P w K mg base ZT 9 f fd ["_law_script"] (Zeg K):=by
 refine F.ok (FS (N:=["_law_script", "_law_k", "_law_tape_here", "_law_group_here", "_law_table", "_law_n", "_law_rows", "_law_squares", "_law_due", "_law_row", "_law_number", "_law_square", "_law_here", "_law_sort"])) (fun vs H Q E h=>?_) (fun cdv A outer s H vs Q E hr h=>?_)
 ·obtain⟨a,ns,rfl,_⟩:=h;rfl
 ·obtain⟨a,ns,rfl,hS,hlen,q⟩:=h
  refine⟨_,Zu (ZQ aq rfl (XV T.range (pc (Zz YN Zw (cb (YB K) T.len (pc (Jy VB (vn 0) Xx (Xw Zw)) Zs))) Zs)) (gn 1)
   (Zu (ZH 2 rfl (YC GT0 hr ZF (pc (vn 0) (pc (vn 1) Zs))))
   (Zu (ZH 3 rfl (YC GG hr ZF (pc (vn 2) (pc (Xy ZeF (vn 1) Zw (ZW _)) Zs))))
   (Zu (ZH 4 rfl (YC GTa hr ZF (pc (vn 3) Zs)))
   (Zu (ZH 5 rfl (YC GR hr ZF (pc (vn 3) Zs)))
   (Zu (ZH 6 rfl (YC GLc hr ZF (pc (vn 3) Zs)))
   (Zu (ZH 7 rfl (cmp ["_law_a"] [3] ["_law_a", "_law_group_here"] rfl (XV T.range (pc (cb (YB K) T.len (pc (vn 3) Zs)) Zs)) (fun _ _ _ _ _=>gn 0) (fun _ _ _ _ _=>ZN) (fun _ _ _ _ _=>ZM (Jp K) (ZM (Jp K) (vn 1) (vn 0) (fun _ _=>rfl)) (vn 0) (fun _ _=>rfl))))
   (Zu (ZH 8 rfl (ct (tupK K) T.tuple (pc (cmp ["_law_row"] [7] ["_law_row", "_law_squares"] rfl (itL K (vn 6)) (fun _ _ _ _ _=>gn 0) (fun _ _ _ _ _=>ZN) (fun _ _ _ _ _=>Zl0 K aM lT PySem.F.type_list_count (Zor K) (vn 1) (pc (ZM (Jp K) (vn 0) Zw (fun _ _=>rfl)) Zs))) Zs)))
   (Zu (Y9 (ZP Jo (cb (Zk3 K hr) T.repr (pc (YC GRo hr ZF (pc (vn 3) (pc (vn 4) Zs))) Zs)) (cb (Zk3 K hr) T.repr (pc (vn 8) Zs)) (ZW _)) (Zv (ZD Ud)) Yf)
   (Zv (ZQ aq rfl (itT K (vn 4)) (gnf 9 rfl)
   (Zu (ZH 10 rfl (Zz Jg (ZS (pc Zw Zs)) (cb (YB K) T.len (pc (ZM (Jp K) (vn 9) Zw (fun _ _=>rfl)) Zs))))
   (Zu (ZQ aq rfl (itL K (vn 7)) (gnf 11 rfl)
   (Zu (ZH 12 rfl (ZM (ixL K) (cmp ["_law_c"] [9,11,6] ["_law_c", "_law_row", "_law_square", "_law_rows"] rfl (XV T.range (pc (cb (YB K) T.len (pc (vn 6) Zs)) Zs)) (fun _ _ _ _ _=>gn 0) (fun _ _ _ _ _=>Zjj (ZP (inK K) (vn 2) (ZM (ixL K) (vn 3) (vn 0) (fun _ _=>rfl)) (by rfl))) (fun _ _ _ _ _=>ZM (Jp K) (vn 1) (vn 0) (fun _ _=>rfl))) Zw (fun _ _=>rfl)))
   (Zv (Zfp 10 ["_law_a", "_law_b"] [] ["_law_a", "_law_b"] rfl rfl (Zfi K TZ.zip (pc (vn 10) (pc (vn 12) Zs))) (fun _ _ _ _ _=>g2 K 0 1 rfl (gn 0) (gn 1)) (fun _ _ _ _ _=>ZN) (fun _ _ _ _ _=>Zz YN (vn 0) (vn 1))))))
   (Zu (ZH 13 rfl (YC GSo hr ZF (pc (vn 3) (pc (vn 9) Zs))))
   (Zu (Y9 (Zk8 (XY (cb (Zp3 K "bool") T.isi (pc (vn 13) (pc (tyv "bool" T.bool) Zs)))) (Zhe (ZP (ZpU K) (vn 13) (ZaY (pc Zw (pc Zw (pc (J0 WS Zw) Zs)))) (by rfl)))).pt (Zv (ZD Ud)) Yf)
   (Zu (Y9 (ZP (neC K hr.units) (ct (tupK K) T.tuple (pc (vn 10) Zs)) (YC GWh hr ZF (pc (vn 5) (pc (Zz ZV (vn 13) (cb (YB K) T.len (pc (vn 3) Zs))) Zs))) (ZW _)) (Zv (ZD Ud)) Yf)
   (Zv (Y9 (ZP Jo (Xy Zca (vn 13) Zw (ZW _)) (Xy (neC K hr.units) (YC GFl hr ZF (pc (vn 5) (pc (vn 9) Zs))) (vn 9) (ZW _)) (ZW _)) (Zv (ZD Ud)) Yf))))))))))))))))))
   (Zv (ZD Ud)),?_⟩
  have sz:(16777216:Nat)=sizeLine:=by decide
  refine⟨_,rfl,_,rfl,a,_,rfl,hS,fun l0 nl0=>⟨l0,_,rfl,.inl (.of Zt),_,_,rfl,rfl,_,rfl,?_,?_,?_⟩⟩
  ·omega
  ·have:=JC (ns.map V.int) none (some 2)
   rw[Za] at this;omega
  have s0:=Same.upd (H:=H) (o:=.lst (J9 (ns.map V.int) none (some 2))) nl0;refine Wf (fun i n4 H'=>∃v1 v2 v3 v4 v5 v6 v7 v8 v9 v10 v11 v12 v13:Option V,n4=[some (.ref a),v1,v2,v3,v4,v5,v6,v7,v8,v9,v10,v11,v12,v13]/\Wr K H' a (ns.map V.int)) ⟨_,_,_,_,_,_,_,_,_,_,_,_,_,rfl,s0.seq hS⟩ ?_ (fun n4 H1 _=>q H1);rintro i n4 H1 hi ⟨v1,v2,v3,v4,v5,v6,v7,v8,v9,v10,v11,v12,v13,rfl,hS1⟩;rw[show (0:Int)+(i:Int)=(i:Int) by omega];refine⟨_,rfl,_,rfl,a,ns,i,rfl,hS1,hlen,fun p H2 s2 np T2'=>?_⟩;refine⟨_,rfl,_,rfl,_,_,rfl,rfl,p,0,_,rfl,T2',by decide,fun g t H3 k3 T3 G3 Pt Mk=>?_⟩;have o8:Same H1 H3:=Zja s2 np k3;have hS3:=o8.seq hS1;obtain⟨n,pr,m,e,ω,φ,z,dg,ν,D,S⟩:=Zm1 Mk;have n1:=D.n1;have n60:=D.n60;have N1:=Pt.n1;have N60:=Pt.n60;have U:=Yp Pt;have mc:=D.cd.mc;have m1:=D.cd.m1;have m60:=ZiE D.cd Pt;have t1:=S.t1;have t60:=S.t60;refine⟨_,rfl,g,t,n,pr,m,e,ω,φ,z,dg,rfl,G3,Pt,D,fun tb yss H4 s4 B4 pm pw=>?_⟩;obtain⟨ss,t7,rfl⟩:=Zhj pm;have y6:ZdT H4 tb (ss.map (Y7 t m (Xv t n pr e z dg))):=B4;clear B4;clear pw pm;generalize Xv t n pr e z dg=X at S y6;have rsR:∀a,a<t.length->Rd t a (rdT t a):=fun a ha=>by
   obtain⟨r,R⟩:=Pt.rd a ha;rw[XX R];exact R
  refine⟨_,rfl,g,t,rdT t,rfl,G3.mono s4,Pt,rsR,fun fr H5 s5 L=>?_⟩;have efr:=D.round rsR L;subst efr;have s35:=s4.trans s5;refine⟨_,rfl,g,t,rfl,G3.mono s35,Pt,fun Lc bs H6 nLc s6 C6=>?_⟩;have y8:=s35.trans s6;obtain⟨gs,u1,u2,_⟩:=id (G3.mono y8);have el:(gs.map V.ref).length=t.length:=by rw[Za,u2]
  refine⟨_,rfl,g,_,rfl,.inr (.of u1),_,rfl,by rw[el];omega,by rw[el];omega,?_⟩;rw[el,Zj];refine Pm.Wn (Je 0 t.length) [some (.ref g)] rfl (fun a=>V.int ((ZI t a a:Nat):Int)) (by rw[Za,Yx];omega) (fun a' y hy H7 s7 R k7=>?_) (fun Sq H7 nSq s7 p4=>?_)
  ·obtain⟨ha,rfl⟩:=Zb1 hy
   obtain⟨rs,r2,g1,_,g2,g3,g4⟩:=(G3.mono (y8.trans s7)).at Pt ha;exact⟨_,rfl,_,rfl,g,_,_,_,rfl,rfl,.of g1,g2,_,rfl,r2,_,_,_,rfl,rfl,g3.sq,g4 a' ha,k7 H7 (Same.refl _)⟩
  rw[Za,Yx] at p4;have s37:=y8.trans s7;have C7:=C6.mono s7;have bl:(bs.map V.ref).length=m:=by rw[Za,C7.2.1,mc]
  refine⟨_,rfl,Lc,rfl,⟨_,.of C7.1⟩,?_⟩;refine Pm.Wn (YK (K:=K) (.of C7.1)) [some (.ref Sq)] rfl (fun c=>V.int (sqN t (ZB t c):Nat)) (by rw[bl];omega) (fun c y hy H8 s8 R k8=>?_) (fun D8 H8 nD8 s8 y9=>?_)
  ·have hc:c<m:=by
    have:=(ae.mp hy).1;rw[bl] at this;exact this
   obtain⟨d,rfl,he,hd⟩:=C7.ref hy;obtain⟨aa,rr,e3⟩:=Xp Pt he;have e5:ZB t c=aa:=by unfold ZB;rw[e3];rfl
   rw[e3] at hd;refine⟨_,rfl,.inl ⟨rfl,_,.of (s8 _ _ p4)⟩,_,rfl,d,_,_,_,rfl,rfl,.of (s8 _ _ hd),ZO (j:=0) rfl,Sq,_,_,rfl,rfl,s8 _ _ p4,rfl,?_,?_⟩
   ·rw[List.all_map]
    exact aD.mpr fun _ _=>rfl
   ·have:=k8 H8 (Same.refl _)
    rw[e5] at this;have e6:=Ziy t aa t.length;have this:R (V.int ((sqN t aa:Nat):Int)) H8:=this;unfold sqN at this;rw[<-e6] at this;exact this
  rw[bl] at y9;refine⟨D8,_,rfl,.inl ⟨.of y9,fun du ndu=>?_⟩⟩;have s9:=s8.trans (Same.upd (H:=H8) (o:=.tup ((ac m).map fun c=>V.int (sqN t (ZB t c):Nat))) ndu);have h9:=Zt (H:=H8) (a:=du) (o:=.tup ((ac m).map fun c=>V.int (sqN t (ZB t c):Nat)));generalize upd H8 du (.tup ((ac m).map fun c=>V.int (sqN t (ZB t c):Nat)))=H9 at s9 h9 ⊢;have s39:=s37.trans s9;have s49:=s5.trans (s6.trans (s7.trans s9));refine⟨_,rfl,_,rfl,g,tb,t,fr,m,X,ν,ss,rfl,G3.mono s39,Pt,S,mc,t7,y6.mono s49,fun ro H10 p6 h10=>?_⟩;have elr:((ac m).map fun c=>V.int (sqN t (ZB t c):Nat))=((ac m).map fun c=>((sqN t (ZB t c):Nat):Int)).map V.int:=by rw[aK];rfl
  rw[elr] at h9 h10;have fit:ZkE (.tuple (((ac m).map fun c=>((sqN t (ZB t c):Nat):Int)).map aO)):=by
   have key:=fun h=>Sml.tup (k:=0) (b:=0) (n:=60) (ds:=((ac m).map fun c=>((sqN t (ZB t c):Nat):Int)).map aO) (by rw[Za,Za,Zg];exact m60) h;refine (key ?_).fit (by decide) (by decide);intro d hd;obtain⟨k,hk,rfl⟩:=aN.mp hd;obtain⟨c,_,rfl⟩:=aN.mp hk;refine Zi3 ?_;have:sqN t (ZB t c)<=t.length:=by
    unfold sqN;rw[<-Ziy t (ZB t c) t.length];refine a5 List.countP_le_length ?_;rw[Za,Zg];exact Zq _
   omega
  refine⟨_,_,rfl,.tup (.of h10) (Wq.ints _),fit,_,rfl,_,_,rfl,.tup (.of (p6 _ _ h9)) (Wq.ints _),fit,rfl,_,rfl,ZcA (by simp) ?_⟩;have x6:=s39.trans p6;have B10:=y6.mono (s49.trans p6);have hSq10:=(s9.trans p6) _ _ p4;have C10:=C7.mono (s9.trans p6);clear p4 C7 h9 h10 y9;obtain⟨cs,b1,b2,b3⟩:=id B10;have hl:ss.length=m:=by rw[t7.length_eq,Zg]
  have cl:(cs.map V.ref).length=m:=by rw[Za,b2,Za,hl]
  refine⟨_,rfl,tb,rfl,⟨_,.of b1⟩,?_⟩;refine Wy (H0:=H10) (Yu (K:=K) (.of b1)) (fun j n4 HH=>∃w9 w10 n6 n8 t9:Option V,n4=[some (.ref a),some (.int (i:Nat)),some (.ref p),some (.ref g),some (.ref tb),some (.int (fr:Nat)),some (.ref Lc),some (.ref Sq),some (.ref du),w9,w10,n6,n8,t9]/\Same H10 HH)
   ⟨_,_,_,_,_,rfl,Same.refl _⟩ (fun j τ HH h=>by
    obtain⟨_,_,_,_,_,_,sm⟩:=h;exact sm) ?_ ?_
  ·rintro j yv τ p7 hy ⟨w9,w10,n6,n8,t9,rfl,u5⟩
   have hj:j<m:=by
    have:=(ae.mp hy).1;rw[cl] at this;exact this
   rw[Zc,Zf (show j<cs.length by rw[Za] at cl;omega)] at hy;cases hy;obtain⟨ys,e1,p8⟩:=b3 j _ (Zf (show j<cs.length by rw[Za] at cl;omega));generalize cs[j]'(by rw[Za] at cl;omega)=o9 at p8 ⊢;rw[Zc,(Vj t7 hj).1] at e1;cases e1;obtain⟨hsj,n9⟩:=Vj t7 hj;generalize ss.getD j 0=sn at n9 p8;have R11:=p8.mono u5;obtain⟨es,r1,r2,r3⟩:=Zeu R11;obtain⟨b0,hb0,hb0'⟩:=r3 0 (by omega);refine⟨(by show 1<=sizeLine;decide),fun l1 nl1=>?_⟩;have s12:=Same.upd (H:=p7) (o:=.lst [.int 0]) nl1;have u9:((X sn (ZB t 0)).map V.int).length=N39.ZZ fr:=by rw[Za,S.len]
   refine⟨_,rfl,o9,_,_,_,rfl,rfl,.of (s12 _ _ r1),ZO (j:=0) (by rw[Zc,hb0];rfl),b0,_,rfl,.inr (.of (s12 _ _ hb0')),l1,_,_,rfl,rfl,Zt,by rw[u9];omega,by rw[u9];omega,by rw[u9];show 1*((N39.ZZ fr:Int)).toNat<=sizeLine;omega,fun l2 nl2=>?_⟩;rw[u9,Zj,N39.Xr];have o8:=s12.trans (Same.upd (H:=upd p7 l1 (.lst [.int 0])) (o:=.lst ((ak (N39.ZZ fr) (0:Int)).map V.int)) nl2);have h13:=Zt (H:=upd p7 l1 (.lst [.int 0])) (a:=l2) (o:=.lst ((ak (N39.ZZ fr) (0:Int)).map V.int));generalize upd (upd p7 l1 (.lst [.int 0])) l2 (.lst ((ak (N39.ZZ fr) (0:Int)).map V.int))=H13 at o8 h13 ⊢;have o0:=u5.trans o8;have r6:=o0 _ _ hSq10;refine⟨_,rfl,Sq,rfl,⟨_,.of r6⟩,?_⟩;refine Wy (H0:=H13) (YK (K:=K) (.of r6)) (fun x n4 HH=>∃(nb:Addr) (n6 n8:Option V),n4=[some (.ref a),some (.int (i:Nat)),some (.ref p),some (.ref g),some (.ref tb),some (.int (fr:Nat)),some (.ref Lc),some (.ref Sq),some (.ref du),some (.ref o9),some (.ref nb),n6,n8,t9]/\Same H13 HH/\HH nb=some (.lst ((Xh t (N39.ZZ fr) (X sn) x).map V.int)))
    ⟨l2,_,_,rfl,Same.refl _,h13⟩ (fun j τ HH h=>by
     obtain⟨_,_,_,_,sm,_⟩:=h;exact sm) ?_ ?_
   ·rintro x yv τ H14 hy ⟨nb,n6,n8,rfl,p3,w8⟩
    have hx:x<t.length:=by
     have:=(ae.mp hy).1;rw[Za,Zg] at this;exact this
    rw[Zc,ao hx] at hy;cases hy;have hsq:=Pt.lt x x hx hx;have o5:=U.lt _ hsq;rw[<-mc] at o5;have M:=o0.trans p3;have C14:=C10.mono M;have R14:=(o8.trans p3) _ _ r1;refine⟨_,rfl,Lc,_,rfl,.inl (.of C14.1),_,rfl,by rw[bl];omega,by rw[bl];omega,?_⟩;rw[bl,Zj];refine Zf6 (Je 0 m) [some (.ref o9),some (.int (ZI t x x:Nat)),some (.ref Lc)] rfl (fun v=>match v with | .int c=>decide (Yh t (ZI t x x)=c.toNat)|_=>false) (fun v=>match v with | .int c=>V.ref (es.getD c.toNat 0)|_=>.non) (by rw[Za,Yx];omega) (fun c yv Y hyv O R R' k1 k2=>?_) (fun L15 Y nL15 O r8=>?_)
    ·obtain⟨hc,rfl⟩:=Zb1 hyv
     have k1:decide (Yh t (ZI t x x)=c)=true->∀H6,Same Y H6->R (V.ref (es.getD c 0)) H6:=k1;have k2:decide (Yh t (ZI t x x)=c)=false->∀H6,Same Y H6->R' H6:=k2;have C15:=C14.mono O;obtain⟨d,hdc⟩:∃d,bs[c]?=some d:=⟨_,Zf (show c<bs.length by rw[Za] at bl;omega)⟩;have hd:=C15.2.2 c d hdc;obtain⟨bc,x0,_⟩:=r3 c hc;refine⟨_,rfl,_,rfl,_,rfl,Lc,_,_,_,rfl,rfl,.of C15.1,ZO (j:=c) (by rw[Zc,hdc];rfl),d,_,rfl,.inr (.of hd),rfl,?_,_,rfl,?_⟩
     ·rw[List.all_map]
      exact aD.mpr fun _ _=>rfl
     ·have ein:inV (V.int ((ZI t x x:Nat):Int)) (((ZC t t.length).getD c []).map nV)=decide (Yh t (ZI t x x)=c):=by
       rw[Zj9,c7,aA,decide_eq_true_eq,Zbq Pt (by rw[<-mc];exact hc)];exact⟨fun h=>h.2,fun h=>⟨hsq,h⟩⟩
      rw[if_neg (by decide),ein];refine Y0 (fun h=>⟨_,rfl,_,rfl,o9,_,_,_,rfl,rfl,.of (O _ _ R14),ZO (j:=c) (by rw[Zc,x0];rfl),?_⟩) (fun h=>k2 (by simpa using h) Y (Same.refl _));have:=k1 h Y (Same.refl _);rw[Zb,x0] at this;exact this
    ·have eo:(((YX 0 m).map V.int).filter fun v=>match v with | .int c=>decide (Yh t (ZI t x x)=c.toNat)|_=>false).map (fun v=>match v with | .int c=>V.ref (es.getD c.toNat 0)|_=>.non)=[V.ref (es.getD (Yh t (ZI t x x)) 0)]:=by
      have e1:(YX 0 m).map V.int=(ac m).map nV:=by
       unfold YX;rw[aK];refine a8 fun k _=>?_;show V.int (0+(k:Int))=V.int (k:Int);rw[cz]
      rw[e1,List.filter_map];have e2:=Zkg o5;have e3:(ac m).filter ((fun v=>match v with | .int c=>decide (Yh t (ZI t x x)=c.toNat)|_=>false) ∘ nV)=[Yh t (ZI t x x)]:=e2
      rw[e3];rfl
     rw[eo] at r8;obtain⟨bc,x0,x8⟩:=r3 _ o5;have ebc:es.getD (Yh t (ZI t x x)) 0=bc:=by rw[Zb,x0];rfl
     rw[ebc] at r8;rw[S.rep Pt n9 hsq] at x8;have hn15:=O _ _ w8;have hb15:=((o8.trans p3).trans O) _ _ x8;refine⟨L15,_,_,_,rfl,rfl,.of r8,ZO (j:=0) rfl,?_⟩;refine⟨_,rfl,_,rfl,nb,bc,false,true,_,_,Y,rfl,.lst (.of hn15),.tup (.of hb15),Same.refl _,fun J At S' hAt=>?_⟩;refine Uu S' hAt (Same.refl _) [] rfl (N39.ZmI (· + ·)) (by rw[cI,Za,Za,S.len];omega) (fun i x y H' hxy s' R g=>?_) (fun D16 r9 nD16 o6 x9=>?_)
     ·obtain⟨u,v,rfl,rfl⟩:=N39.zip_get hxy
      exact⟨_,rfl,_,rfl,_,_,rfl,rfl,g H' (Same.refl _)⟩
     ·rw[N39.Ul] at x9
      exact⟨D16,_,_,rfl,(p3.trans O).trans o6,x9⟩
   ·rintro τ H14 ⟨nb,n6,n8,rfl,p3,w8⟩
    rw[Za,Zg] at w8;have M:=o0.trans p3;have t0:=x6.trans M;refine⟨_,rfl,_,rfl,g,o9,t,fr,m,X,ν,sn,rfl,G3.mono t0,Pt,S,mc,n9,p8.mono M,fun Y O=>?_⟩;have s315:=t0.trans O;have s1015:=M.trans O;have ha:=S.a sn n9;refine⟨_,rfl,_, "int",rfl,⟨.int _,by decide⟩,_,rfl,ZcA (by decide) ?_⟩;refine⟨_,rfl,_,rfl,(by show 3<=sizeLine;decide),fun t3 nt3=>?_⟩;have o6:=O.trans (Same.upd (H:=Y) (o:=.tup [.int 1,.int 0,.int (-1)]) nt3);refine⟨t3,_,rfl,.inr (.of Zt),rfl,rfl,_,rfl,ZcA ?_ ?_⟩
    ·rw[if_pos rfl]
     have:inV (V.int (ν sn)) [V.int 1,V.int 0,V.int (-1)]=true:=by
      rcases ha with e|e|e <;> rw[e] <;> decide
     rw[this];decide
    have y4:=t0.trans o6;have t5:=M.trans o6;have h16:=o6 _ _ w8;generalize upd Y t3 (.tup [.int 1,.int 0,.int (-1)])=r9 at o6 y4 t5 h16 ⊢;refine⟨_,rfl,nb,_,rfl,.inl ⟨.of h16,fun nt nnt=>?_⟩⟩;have s17:=o6.trans (Same.upd (H:=r9) (o:=.tup ((Xh t (N39.ZZ fr) (X sn) t.length).map V.int)) nnt);have h17:=Zt (H:=r9) (a:=nt) (o:=.tup ((Xh t (N39.ZZ fr) (X sn) t.length).map V.int));have o7:=Same.upd (H:=r9) (o:=.tup ((Xh t (N39.ZZ fr) (X sn) t.length).map V.int)) nnt;generalize upd r9 nt (.tup ((Xh t (N39.ZZ fr) (X sn) t.length).map V.int))=H17 at s17 h17 o7 ⊢;obtain⟨gs,u1,u2,_⟩:=id (G3.mono (y4.trans o7));have el:(gs.map V.ref).length=t.length:=by rw[Za,u2]
    refine⟨_,rfl,_,rfl,_,rfl,g,_,rfl,.inr (.of u1),_,_,rfl,rfl,?_,?_⟩
    ·exact .inr ⟨by rw[el];omega,by rw[el];omega⟩
    rw[el];refine⟨fr,_,rfl,n1,n60,fun wh H18 s18 h18=>?_⟩;have eph:=(N39.Zib n1 n60).2;have etn:(N39.Vv fr-1).toNat=N39.ZZ fr-1:=by omega
    rw[etn] at h18;have esum:Xh t (N39.ZZ fr) (X sn) t.length=(ν sn*(t.length:Int))::ak (N39.ZZ fr-1) 0:=by
     have sc:=Zd1 (t:=t) (F:=X sn) (S.len sn) t.length;refine ZdK (by rw[sc.1,Zi,Ze];omega) fun q hq=>?_;rw[sc.1] at hq;rw[sc.2 q hq,S.A sn q n9 hq];cases q with
     |zero=>rw[if_pos rfl];rfl
     |succ q=>
      rw[if_neg (by omega)];show (0:Int)=(ak (N39.ZZ fr-1) (0:Int)).getD q 0;rw[Zb,b8,if_pos (by omega)];rfl
    rw[esum] at h17;refine⟨_,_,.tup (.of (s18 _ _ h17)) (Wq.ints _),.tup (.of h18) (Wq.ints _),Zel _,Zel _,_,rfl,ZcA (by rw[ZoD];simp) ?_⟩;have t6:=(t5.trans o7).trans s18;have R18:=p8.mono t6;refine⟨_,rfl,rfl,_,rfl,_,rfl,fr,o9,_,rfl,n1,n60,ZbL.mpr R18,by unfold Y7;rw[Za,Zg];omega,fun xs hxs=>?_,fun fl H19 s19 F19=>?_⟩
    ·unfold Y7 at hxs
     obtain⟨c,_,rfl⟩:=aN.mp hxs;rw[S.len];omega
    have F19:=ZbL.mp F19;have R19:=R18.mono s19;refine⟨_,rfl,_,_,F19.rd,R19.rd,V3 _,V3 _,?_⟩;have rl:(Y7 t m X sn).length=m:=by unfold Y7;rw[Za,Zg]
    have efl:eY (dTI (UR (Y7 t m X sn).length fun i=>Num.Ja fr (N39.ZZ fr) (N39.RN fr) (Num.XQ fr (-1) ((Y7 t m X sn).getD i [])))) (dTI (Y7 t m X sn)) = !decide (ν sn=0):=by
     unfold dTI;show gt _ _=_;rw[Ze1,rl];have hB:=S.B sn n9;have key:(UR m (fun i=>Num.Ja fr (N39.ZZ fr) (N39.RN fr) (Num.XQ fr (-1) ((Y7 t m X sn).getD i [])))=Y7 t m X sn)↔¬ ν sn=0:=by
      rw[hB];constructor
      ·rintro h ⟨x,hx,hne⟩
       refine hne ?_;have o5:=U.lt _ hx;rw[<-mc] at o5;have h1:=congrArg (fun l=>l.getD (Yh t x) []) h;have h1:(UR m fun i=>Num.Ja fr (N39.ZZ fr) (N39.RN fr) (Num.XQ fr (-1) ((Y7 t m X sn).getD i []))).getD (Yh t x) []=(Y7 t m X sn).getD (Yh t x) []:=h1;rw[Zcn o5,Xq o5,S.rep Pt n9 hx] at h1;exact h1
      ·intro h
       unfold UR Y7;refine a8 fun c hc=>?_;have hc:=af.mp hc;have hrc:=U.rl c (by omega);have:((ac m).map fun c=>X sn (ZB t c)).getD c []=X sn (ZB t c):=Xq (X:=X) (t:=t) (s:=sn) hc;rw[this];exact am fun hne=>h ⟨_,hrc,hne⟩
     rw[c7,decide_eq_true_eq,key];simp
    rw[efl];refine⟨rfl,_,rfl,ZcA ?_ ⟨_,_,_,_,_,rfl,t6.trans s19⟩⟩;rw[Yg];cases hz:decide (ν sn=0) with
    |true=>rw[of_decide_eq_true hz];decide
    |false=>
     have:¬ ν sn=0:=of_decide_eq_false hz;have:(ν sn == 0)=false:=by simpa using this
     rw[this];decide
  ·rintro τ p7 ⟨w9,w10,n6,n8,t9,rfl,u5⟩
   exact⟨_,_,_,_,_,_,_,_,_,_,_,_,_,rfl,(x6.trans u5).seq hS3⟩
end
theorem all_mk {l:gD}{w:World}{K:ab}{h:Heap}{mg:Str->Option Value}{fa:Addr}(X:K.In h)(G:h.Ns mainGlobals mg)(hfa:mg "law"=some (.ref fa))
  (d1:Zy K "_law_tape" ZkT) (d2:Zy K "_law_after" Zg5) (d3:Zy K "_law_things" Zem) (d4:Zy K "_law_pick" ZgV) (d5:Zy K "_law_cycle" ZnW) (d6:Zy K "_law_perms" ZgW) (d7:Zy K "_law_group" Zdj) (d8:Zy K "round_of" ZgS) (d9:Zy K "full_round" Zk0) (d10:Zy K "fit_prime" ZnU) (d11:Zy K "root_powers" ZgT) (d12:Zy K "back" Zk2) (d13:Zy K "turned_by" Xn) (d14:Zy K "turnings" U4) (d15:Zy K "classes_of" V4) (d16:Zy K "holders" ZkY) (d17:Zy K "class_numbers" ZbT) (d18:Zy K "power_walks" ZgO) (d19:Zy K "counts_of" Zer) (d20:Zy K "less_often" ZkW) (d21:Zy K "back_by" Zes) (d22:Zy K "last_part" ZkX) (d23:Zy K "parts_by" ZgX) (d24:Zy K "taken_apart" Zg4) (d25:Zy K "first_of" Zg3) (d26:Zy K "primes_of" N39.Zeo) (d27:Zy K "stretched" N39.ZnQ) (d28:Zy K "quotient" N39.ZnR) (d29:Zy K "least_sum" N39.Zg0) (d30:Zy K "number_of" N39.ZgY) (d31:Zy K "number_at" ZgZ) (d32:Zy K "table_of" ZgP) (d33:Zy K "_law_back" Zg2) (d34:Zy K "_law_turned" ZbU) (d35:Zy K "_law_classes" Zg1) (d36:Zy K "power" ZgU) (d37:Zy K "powers_of" U5) (d38:Zy K "sizes_of" ZgQ) (d39:Zy K "plus" N39.ZkV) (d40:Zy K "scaled" N39.Zen) (d41:Zy K "gathered" ZkZ) (d42:Zy K "whole_of" N39.ZkS) (d43:Zy K "sort_of" ZkU) (d44:Zy K "put_by" ZnS) (d45:Zy K "roots_of" ZbS) (d46:Zy K "places" N39.Zep) (d47:Zy K "whole" N39.ZnP) (d48:Zy K "turned" N39.Xn) (d49:Zy K "flipped" N39.Zk1) (d50:Zy K "spread_flipped" ZgR) (d51:Zy K "law" ZnT)
  (z1:bh K mainGlobals "list"=some none) (z2:bh K mainGlobals "len"=some none) (z3:bh K mainGlobals "range"=some none) (z4:bh K mainGlobals "tuple"=some none) (z5:bh K mainGlobals "max"=some none) (z6:bh K mainGlobals "sorted"=some none) (z7:bh K mainGlobals "abs"=some none) (z8:bh K mainGlobals "isinstance"=some none) (z9:bh K mainGlobals "all"=some none) (z10:bh K mainGlobals "set"=some none) (z11:bh K mainGlobals "repr"=some none) (z12:bh K mainGlobals "any"=some none) (z13:bh K mainGlobals "int"=some none) (z14:bh K mainGlobals "bool"=some none) (z15:bh K mainGlobals "enumerate"=some none) (z16:bh K mainGlobals "zip"=some none) (z17:bh K mainGlobals "sum"=some none) :
  ∃Y:FuncData,(∀(s:Shared) (v:Value),i3 s Y ⟨[v],[]⟩ [("_law_script",v)])/\∀base:Heap,K.In base->base.Ns mainGlobals mg->ZR l.prog w K mg base ZT 9 fa Y ["_law_script"] (Zeg K):=by
 have O:BlB mg:=⟨au X G z1,au X G z2,au X G z3,au X G z4,au X G z5,au X G z6⟩;have j:Bl mg:=⟨au X G z1,au X G z2,au X G z7,au X G z3,au X G z4,au X G z8,au X G z9,au X G z10,au X G z11,au X G z12,au X G z13,au X G z14⟩;have q:Zbw mg:=⟨au X G z6,au X G z15⟩;have n4:BlT mg:=⟨au X G z16,au X G z17⟩;have J:N39.Bl mg:=⟨au X G z1,au X G z2,au X G z7,au X G z3,au X G z4,au X G z8,au X G z9,au X G z10,au X G z11,au X G z12,au X G z13,au X G z14⟩;have n6:N39.Bl2 mg:=⟨au X G z15,au X G z5⟩;have T_N39_Bl3:N39.Bl3 mg:=⟨au X G z16⟩;refine d51.law X G hfa (fun base f Y nb kb F=>?_) (fun _ _ _ _ _ _ _ _=>.of_eq rfl);have fn:=@Zy.fn l.prog w K mg base h;have u9:=fn d1 X G (fun f Y F=>ZjD F O) (fun _ _ _ _ _ _=>Ve fun _ _=>rfl);have n8:=fn d2 X G (fun f Y F=>ZhG F O) (fun _ _ _ _ _ _=>Ve fun _ _=>rfl);have p8:=fn d3 X G (fun f Y F=>ZfA F O n8) (fun _ _ _ _ _ _=>bd1 fun _=>rfl);have o5:=fn d4 X G (fun f Y F=>ZjG F) (fun _ _ _ _ _ _=>Ve fun _ _=>rfl);have t6:=fn d5 X G (fun f Y F=>Zmg F O) (fun _ _ _ _ _ _=>bd1 fun _=>rfl);have t7:=fn d6 X G (fun f Y F=>Zhx F O o5 t6) (fun _ _ _ _ _ _=>Ve fun _ _=>rfl);have t9:=fn d7 X G (fun f Y F=>ZhD F O p8 t7 o5 n8) (fun _ _ _ _ _ _=>Ve fun _ _=>rfl);have p3:=fn d8 X G (fun f Y F=>Zhu F) (fun _ _ _ _ _ _=>Ve fun _ _=>rfl);have n9:=fn d9 X G (fun f Y F=>ZjN F j p3) (fun _ _ _ _ _ _=>bd1 fun _=>rfl);have w8:=fn d10 X G (fun f Y F=>Zmf F j) (fun _ _ _ _ _ _=>Ve fun _ _=>rfl);have r6:=fn d11 X G (fun f Y F=>Zhv F j) (fun _ _ _ _ _ _=>Ve fun _ _=>rfl);have g_back:=fn d12 X G (fun f Y F=>ZjP F) (fun _ _ _ _ _ _=>Ve fun _ _=>rfl);have x0:=fn d13 X G (fun f Y F=>XZ F g_back) (fun _ _ _ _ _ _=>bd3 fun _ _ _=>rfl);have g_turnings:=fn d14 X G (fun f Y F=>Zcb F j q x0) (fun _ _ _ _ _ _=>Ve fun _ _=>rfl);have M:=fn d15 X G (fun f Y F=>Zdr F j g_turnings) (fun _ _ _ _ _ _=>bd1 fun _=>rfl);have g_holders:=fn d16 X G (fun f Y F=>ZjL F j q) (fun _ _ _ _ _ _=>Ve fun _ _=>rfl);have U:=fn d17 X G (fun f Y F=>ZjH F j M g_holders) (fun _ _ _ _ _ _=>bd1 fun _=>rfl);have r8:=fn d18 X G (fun f Y F=>Zhq F U M) (fun _ _ _ _ _ _=>bd1 fun _=>rfl);have x6:=fn d19 X G (fun f Y F=>ZfE F j q M U) (fun _ _ _ _ _ _=>bd1 fun _=>rfl);have u5:=fn d20 X G (fun f Y F=>ZjI F n4) (fun _ _ _ _ _ _=>bd4 fun _ _ _ _=>rfl);have o0:=fn d21 X G (fun f Y F=>ZfF F) (fun _ _ _ _ _ _=>Ve fun _ _=>rfl);have x8:=fn d22 X G (fun f Y F=>ZjK F j u5 o0) (fun _ _ _ _ _ _=>bd3 fun _ _ _=>rfl);have g_parts_by:=fn d23 X G (fun f Y F=>Zhy F j n4 x8) (fun _ _ _ _ _ _=>bd3 fun _ _ _=>rfl);have r9:=fn d24 X G (fun f Y F=>ZhF F j g_parts_by) (fun _ _ _ _ _ _=>Ve fun _ _=>rfl);have g_first_of:=fn d25 X G (fun f Y F=>ZhE F) (fun _ _ _ _ _ _=>bd3 fun _ _ _=>rfl);have o6:=fn d26 X G (fun f Y F=>N39.ZfC F J) (fun _ _ _ _ _ _=>bd1 fun _=>rfl);have x9:=fn d27 X G (fun f Y F=>N39.Zmb F J n6) (fun _ _ _ _ _ _=>Ve fun _ _=>rfl);have g_quotient:=fn d28 X G (fun f Y F=>N39.Zmc F J n6) (fun _ _ _ _ _ _=>Ve fun _ _=>rfl);have y4:=fn d29 X G (fun f Y F=>N39.ZhB F o6 x9 g_quotient) (fun _ _ _ _ _ _=>bd1 fun _=>rfl);have o7:=fn d30 X G (fun f Y F=>N39.Zhz F J n6 y4) (fun _ _ _ _ _ _=>Ve fun _ _=>rfl);have y6:=fn d31 X G (fun f Y F=>ZhA F j q n4 o0 o7) (fun _ _ _ _ _ _=>bd5 fun _ _ _ _ _=>rfl);have g_table_of:=fn d32 X G (fun f Y F=>Zhr F j q n9 w8 r6 r8 x6 r9 o0 g_first_of y6) (fun _ _ _ _ _ _=>bd1 fun _=>rfl);have y8:=fn d33 X G (fun f Y F=>ZhC F) (fun _ _ _ _ _ _=>Ve fun _ _=>rfl);have t0:=fn d34 X G (fun f Y F=>Zdq F y8) (fun _ _ _ _ _ _=>bd3 fun _ _ _=>rfl);have p7:=fn d35 X G (fun f Y F=>ZjJ F j q t0) (fun _ _ _ _ _ _=>bd1 fun _=>rfl);have g_power:=fn d36 X G (fun f Y F=>Zhw F j p3) (fun _ _ _ _ _ _=>bd3 fun _ _ _=>rfl);have y9:=fn d37 X G (fun f Y F=>Zcc F j M U g_power) (fun _ _ _ _ _ _=>Ve fun _ _=>rfl);have g_sizes_of:=fn d38 X G (fun f Y F=>Zhs F j M) (fun _ _ _ _ _ _=>bd1 fun _=>rfl);have g_plus:=fn d39 X G (fun f Y F=>N39.ZjF F J T_N39_Bl3) (fun _ _ _ _ _ _=>Ve fun _ _=>rfl);have o9:=fn d40 X G (fun f Y F=>N39.ZfB F J) (fun _ _ _ _ _ _=>Ve fun _ _=>rfl);have p4:=fn d41 X G (fun f Y F=>ZjM F n4 g_plus o9) (fun _ _ _ _ _ _=>bd3 fun _ _ _=>rfl);have p6:=fn d42 X G (fun f Y F=>N39.ZjC F J) (fun _ _ _ _ _ _=>bd1 fun _=>rfl);have t5:=fn d43 X G (fun f Y F=>ZjE F j y9 g_sizes_of p4 o9 p6) (fun _ _ _ _ _ _=>Ve fun _ _=>rfl);have g_put_by:=fn d44 X G (fun f Y F=>Zmd F j q p4 o9) (fun _ _ _ _ _ _=>Ve fun _ _=>rfl);have g_roots_of:=fn d45 X G (fun f Y F=>Zdp F j t5 g_put_by p6) (fun _ _ _ _ _ _=>Ve fun _ _=>rfl);have g_places:=fn d46 X G (fun f Y F=>N39.ZfD F J o6) (fun _ _ _ _ _ _=>bd1 fun _=>rfl);have g_whole:=fn d47 X G (fun f Y F=>N39.Zma F g_places) (fun _ _ _ _ _ _=>Ve fun _ _=>rfl);have g_turned:=fn d48 X G (fun f Y F=>N39.XZ F J n6 o7) (fun _ _ _ _ _ _=>bd3 fun _ _ _=>rfl);have g_flipped:=fn d49 X G (fun f Y F=>N39.ZjO F g_turned) (fun _ _ _ _ _ _=>Ve fun _ _=>rfl);have o8:=fn d50 X G (fun f Y F=>Zht F j g_flipped) (fun _ _ _ _ _ _=>Ve fun _ _=>rfl);exact Zme F j q n4 u9 t9 g_table_of n9 p7 g_roots_of t5 g_whole o8
theorem walk {l:gD}{q:Program}{loose:List Str}{Y:(Str->Option Value)->Heap->Prop}{M:World->Heap->Prop}{d:DefRec}{K:Params->ab}(hn:l.most=some 63)(J:d.params.defaults=[])
  (hY:∀(w:World) (h:Heap),M w h->(K w.params).In h)
  (F:∀(w:World) (j:Str->Option Value) (O:Addr) (h:Heap),(K w.params).In h->h.Ns mainGlobals j->j d.name=some (.ref O)->
   ∃U:FuncData,(∀(s:Shared) (u:Value),i3 s U ⟨[u],[]⟩ [("_law_script",u)])/\∀base:Heap,(K w.params).In base->base.Ns mainGlobals j->ZR l.prog w (K w.params) j base ZT 9 O U ["_law_script"] (Zeg (K w.params))) :
  md q loose Y M l.row.toRowW d [] (fun f vs=>l8 f vs):=
 L2.Zaw (n:=63) (k:=9) (x:="_law_script") (CX:=fun _=>ZT) (sp:=fun w=>Zeg (K w.params)) hn (by decide) J ⟨rfl,by decide,by decide,rfl⟩ hY F (fun _ _ a ns hl _ hS=>⟨a,ns,rfl,hS,hl,fun _=>rfl⟩) fun _ _ _ _ _ z=>z
end C39
namespace PySem.W.Fast
theorem tw14793375550302077833:0=0:=rfl
theorem tw6957761245991447628:0=0:=rfl
theorem tw14492694206215622258:0=0:=rfl
theorem tw9293629969151009540:0=0:=rfl
theorem tw13578673088322050534:0=0:=rfl
theorem tw14452662425272641127:0=0:=rfl
theorem tw3341153808293470691:0=0:=rfl
theorem tw10654493967159614515:0=0:=rfl
theorem tw4504627419731593621:0=0:=rfl
theorem tw573732537610693410:0=0:=rfl
theorem tw6453378427586740096:0=0:=rfl
theorem tw2438264338745690880:0=0:=rfl
theorem tw7764883355782851716:0=0:=rfl
theorem tw3382476953398802290:0=0:=rfl
theorem tw8305381062163174395:0=0:=rfl
theorem tw14039698210598873940:0=0:=rfl
theorem tw16285909754786479369:0=0:=rfl
theorem tw13945235055157116959:0=0:=rfl
theorem tw5241765474303171201:0=0:=rfl
theorem tw10783490970743866275:0=0:=rfl
theorem tw4924182064440484880:0=0:=rfl
theorem tw1899408395265821275:0=0:=rfl
theorem tw13701063620681679565:0=0:=rfl
theorem tw10695420081165498966:0=0:=rfl
theorem tw11359069917380640867:0=0:=rfl
theorem tw4142761214059153454:0=0:=rfl
theorem tw17106798249177096571:0=0:=rfl
theorem tw13001785253761243193:0=0:=rfl
theorem tw12953356139814367629:0=0:=rfl
theorem tw5972549642479507525:0=0:=rfl
theorem tw17407045754343323950:0=0:=rfl
theorem tw1244953708507609337:0=0:=rfl
theorem tw12526005290555450435:0=0:=rfl
theorem tw5225712651694062593:0=0:=rfl
theorem tw5888856710735060571:0=0:=rfl
theorem tw2613552469056794658:0=0:=rfl
theorem tw5583216455706715574:0=0:=rfl
theorem tw7788272455137181007:0=0:=rfl
theorem tw1955190757731616142:0=0:=rfl
theorem tw5786059108705352745:0=0:=rfl
theorem tw11725054980557970841:0=0:=rfl
theorem tw5424138419649404481:0=0:=rfl
theorem tw16156177741571942314:0=0:=rfl
theorem tw5457150761044661374:0=0:=rfl
theorem tw11979312925551220477:0=0:=rfl
theorem tw10695776145386396571:0=0:=rfl
theorem tw17420243652168853340:0=0:=rfl
theorem tw6144105448185699967:0=0:=rfl
theorem tw14291240957757754856:0=0:=rfl
theorem tw7779362485049128132:0=0:=rfl
theorem tw15308565086213249002:0=0:=rfl
theorem tw17884397432494881293:0=0:=rfl
theorem tw5065784441660984105:0=0:=rfl
theorem tw9415446340121395699:0=0:=rfl
theorem tw3843514954671809880:0=0:=rfl
theorem tw6578509104023065179:0=0:=rfl
theorem tw7486839619252007488:0=0:=rfl
theorem tw7534297257694014917:0=0:=rfl
theorem tw6887314284444480169:0=0:=rfl
theorem tw9266688199850094342:0=0:=rfl
theorem tw15036057082843326368:0=0:=rfl
theorem tw13613703375105727446:0=0:=rfl
theorem tw4860126744110115719:0=0:=rfl
theorem tw14916136123787711176:0=0:=rfl
theorem tw14947457578164662862:0=0:=rfl
theorem tw12975516076382996866:0=0:=rfl
theorem tw17070389269359976358:0=0:=rfl
theorem tw6322922189497561994:0=0:=rfl
theorem tw7389987164979191437:0=0:=rfl
theorem tw12224714823202557759:0=0:=rfl
theorem tw17100049710862684391:0=0:=rfl
theorem tw2343873253260022354:0=0:=rfl
theorem tw16055923378851219274:0=0:=rfl
theorem tw3981865836855292774:0=0:=rfl
theorem tw4920355751044069170:0=0:=rfl
theorem tw13610819366304047289:0=0:=rfl
theorem tw5756706108933638941:0=0:=rfl
theorem tw16424932354483403009:0=0:=rfl
theorem tw17282969972511916408:0=0:=rfl
theorem tw5627747910821411149:0=0:=rfl
theorem tw10182539938706898312:0=0:=rfl
theorem tw17449228253558493812:0=0:=rfl
theorem tw1391001286269726342:0=0:=rfl
theorem tw7052533731622579431:0=0:=rfl
theorem tw472952136267703641:0=0:=rfl
theorem tw207418024797113153:0=0:=rfl
theorem tw12993829698860144593:0=0:=rfl
theorem tw17278012492171093733:0=0:=rfl
theorem tw4262670721181931499:0=0:=rfl
theorem tw8655934839451679303:0=0:=rfl
theorem tw1368440137878456826:0=0:=rfl
theorem tw5781122516981123611:0=0:=rfl
theorem tw10774339584313133571:0=0:=rfl
theorem tw6883087623838721024:0=0:=rfl
theorem tw6648000098740454939:0=0:=rfl
theorem tw12177185011403667987:0=0:=rfl
theorem tw4635255186960728923:0=0:=rfl
theorem tw5457472745569208428:0=0:=rfl
theorem tw11664860620118725776:0=0:=rfl
theorem tw1894341771675463822:0=0:=rfl
theorem tw12300544472789286671:0=0:=rfl
theorem tw15019168396179153979:0=0:=rfl
theorem tw9172965627345085820:0=0:=rfl
theorem tw17573552431745434462:0=0:=rfl
theorem tw1927235020158821203:0=0:=rfl
theorem tw11610560529050006282:0=0:=rfl
theorem tw2343539168420388850:0=0:=rfl
theorem tw10152721776310908077:0=0:=rfl
theorem tw7268754430351720237:0=0:=rfl
theorem tw1438174968957801109:0=0:=rfl
theorem tw1703528763317006834:0=0:=rfl
theorem tw10535201809366849542:0=0:=rfl
theorem tw4281085791280749592:0=0:=rfl
theorem tw4538782032002230821:0=0:=rfl
theorem tw16333098051260736742:0=0:=rfl
theorem tw7126894683251424685:0=0:=rfl
theorem tw17326049194658092151:0=0:=rfl
theorem tw5329108139808045026:0=0:=rfl
theorem tw9495138036880888438:0=0:=rfl
theorem tw14226614662545524670:0=0:=rfl
theorem tw13878310133111929600:0=0:=rfl
theorem tw5534196084747680653:0=0:=rfl
theorem tw16699397682791547820:0=0:=rfl
theorem tw7069573238282243175:0=0:=rfl
theorem tw1529990201964071821:0=0:=rfl
theorem tw6962191259382094833:0=0:=rfl
theorem tw18050428003566587706:0=0:=rfl
theorem tw2664522358699242846:0=0:=rfl
theorem tw6267856896860840872:0=0:=rfl
theorem tw2581026792500467179:0=0:=rfl
theorem tw9299815412704892660:0=0:=rfl
theorem tw2401704215768110007:0=0:=rfl
theorem tw1415361369842990226:0=0:=rfl
theorem tw3699733613976292599:0=0:=rfl
theorem tw16898566660293059204:0=0:=rfl
theorem tw15173725323590915210:0=0:=rfl
theorem tw1661269886089921608:0=0:=rfl
theorem tw17001893493043069290:0=0:=rfl
theorem tw16867419304083888904:0=0:=rfl
theorem tw6998775330772575509:0=0:=rfl
theorem tw5954353626293556043:0=0:=rfl
theorem tw9705966638681071100:0=0:=rfl
theorem tw11438731866323503868:0=0:=rfl
theorem tw17602553418087518082:0=0:=rfl
theorem tw10601314004571273307:0=0:=rfl
theorem tw2642498247466109993:0=0:=rfl
theorem tw14439224195676317537:0=0:=rfl
theorem tw1778598228303563853:0=0:=rfl
theorem tw16476743979443804470:0=0:=rfl
theorem tw2055229639199055614:0=0:=rfl
theorem tw13824827088752822558:0=0:=rfl
theorem tw17144603326782670266:0=0:=rfl
theorem tw1213072007109354515:0=0:=rfl
theorem tw9419351858342969444:0=0:=rfl
theorem tw9554360522195514835:0=0:=rfl
theorem tw5481243032557720672:0=0:=rfl
theorem tw8333968392443065991:0=0:=rfl
theorem tw15691530589607693989:0=0:=rfl
theorem tw15501235407294925872:0=0:=rfl
theorem tw7082769051599706070:0=0:=rfl
theorem tw3151698067181776653:0=0:=rfl
theorem tw16913370113316151636:0=0:=rfl
theorem tw16982139084105439578:0=0:=rfl
theorem tw4491249137099086824:0=0:=rfl
theorem tw4218221924156617095:0=0:=rfl
theorem tw6994531969419685929:0=0:=rfl
theorem tw4853895380065885483:0=0:=rfl
theorem tw2695364231174261986:0=0:=rfl
theorem tw7381632535129330256:0=0:=rfl
theorem tw15181941162773767437:0=0:=rfl
theorem tw18227035597097814998:0=0:=rfl
theorem tw5107254508059164580:0=0:=rfl
theorem tw16176957831564208370:0=0:=rfl
theorem tw4894560369235848447:0=0:=rfl
theorem tw11446887862221187430:0=0:=rfl
theorem tw16597923613373094117:0=0:=rfl
theorem tw10161755732641643214:0=0:=rfl
theorem tw5206609703197133861:0=0:=rfl
theorem tw5842606941302401904:0=0:=rfl
theorem tw4984152172480337246:0=0:=rfl
theorem tw5929896309210570976:0=0:=rfl
theorem tw2822715591208625478:0=0:=rfl
theorem tw2780355654734859069:0=0:=rfl
theorem tw9406749618646429792:0=0:=rfl
theorem tw2051545359819095826:0=0:=rfl
theorem tw1045131058634240730:0=0:=rfl
theorem tw15866835367608019001:0=0:=rfl
theorem tw4299660791789159289:0=0:=rfl
theorem tw5022230280766535521:0=0:=rfl
theorem tw13666617991826635411:0=0:=rfl
theorem tw13422012205397577501:0=0:=rfl
theorem tw2278373355095408086:0=0:=rfl
theorem tw7373160982490977498:0=0:=rfl
theorem tw3993111575856454211:0=0:=rfl
theorem tw2804435120559829370:0=0:=rfl
theorem tw7018100172401737834:0=0:=rfl
theorem tw21130221119008069:0=0:=rfl
theorem tw9366484119472824815:0=0:=rfl
theorem tw1490103009030421210:0=0:=rfl
theorem tw6535929783299973516:0=0:=rfl
theorem tw14342616116973503321:0=0:=rfl
theorem tw4779728295493328123:0=0:=rfl
theorem tw16532777908921290536:0=0:=rfl
theorem tw18417340049954450296:0=0:=rfl
theorem tw18306213661369606890:0=0:=rfl
theorem tw9418813634686995917:0=0:=rfl
theorem tw1828592867303587355:0=0:=rfl
theorem tw713528661740107131:0=0:=rfl
theorem tw9935429652771378599:0=0:=rfl
theorem tw3067454601316863925:0=0:=rfl
theorem tw2982605773782358434:0=0:=rfl
theorem tw15059777485756193383:0=0:=rfl
theorem tw10151120992398750280:0=0:=rfl
theorem tw5846965347181815500:0=0:=rfl
theorem tw17239844689625006473:0=0:=rfl
theorem tw2563747622478162107:0=0:=rfl
theorem tw501311886381512701:0=0:=rfl
theorem tw11487252145271130020:0=0:=rfl
theorem tw5831914445468427434:0=0:=rfl
theorem tw13190732510537633064:0=0:=rfl
theorem tw13675977847745646246:0=0:=rfl
theorem tw4683896668112294056:0=0:=rfl
theorem tw5597844185817443799:0=0:=rfl
theorem tw8818100980555382862:0=0:=rfl
theorem tw2266333546087678472:0=0:=rfl
theorem tw923280075368030182:0=0:=rfl
theorem tw13026476239886238586:0=0:=rfl
theorem tw8779167285908282930:0=0:=rfl
theorem tw7133591145250834216:0=0:=rfl
theorem tw17886770038864673033:0=0:=rfl
theorem tw8167404212671395723:0=0:=rfl
theorem tw5509547383468678187:0=0:=rfl
theorem tw842753756055926816:0=0:=rfl
theorem tw3911800915258946244:0=0:=rfl
theorem tw10032136129072878016:0=0:=rfl
theorem tw7644847603696807922:0=0:=rfl
theorem tw12853732088943380860:0=0:=rfl
theorem tw12133066590375617736:0=0:=rfl
theorem tw10637233157162533601:0=0:=rfl
theorem tw717893773045832335:0=0:=rfl
theorem tw5523102897608866715:0=0:=rfl
theorem tw1688707276166563608:0=0:=rfl
theorem tw3424120364859623682:0=0:=rfl
theorem tw1138100634171894779:0=0:=rfl
theorem tw2343185115856744397:0=0:=rfl
theorem tw11625846479612487528:0=0:=rfl
theorem tw4315434268059957380:0=0:=rfl
theorem tw8693392729121327617:0=0:=rfl
theorem tw11809704250880139140:0=0:=rfl
theorem tw15930340137575891607:0=0:=rfl
theorem tw6453817172427717081:0=0:=rfl
theorem tw10289524522357746654:0=0:=rfl
theorem tw15243969086958267833:0=0:=rfl
theorem tw889882856603086972:0=0:=rfl
theorem tw14509030823669807325:0=0:=rfl
theorem tw5084287415178481795:0=0:=rfl
theorem tw9795182457779196035:0=0:=rfl
theorem tw15069049708647920841:0=0:=rfl
theorem tw5684802603889281564:0=0:=rfl
theorem tw17504835873847990427:0=0:=rfl
theorem tw787602675245645027:0=0:=rfl
theorem tw6382246122803220719:0=0:=rfl
theorem tw1229125060666038299:0=0:=rfl
theorem tw6926328107451357610:0=0:=rfl
theorem tw14438442270250768116:0=0:=rfl
theorem tw13541659573853198188:0=0:=rfl
theorem tw4989912300199968801:0=0:=rfl
theorem tw12171854215738500967:0=0:=rfl
theorem tw8519778180950030161:0=0:=rfl
theorem tw4435294478863200297:0=0:=rfl
theorem tw3906797010013630455:0=0:=rfl
theorem tw5863515665636878198:0=0:=rfl
theorem tw15766419686747309699:0=0:=rfl
theorem tw2929664114326362:0=0:=rfl
theorem tw17729461073382814541:0=0:=rfl
theorem tw9134936236643904847:0=0:=rfl
theorem tw2976314142223190096:0=0:=rfl
theorem tw12407514744160491760:0=0:=rfl
theorem tw12482575189171092005:0=0:=rfl
theorem tw749366775059090810:0=0:=rfl
theorem tw6219088208437839161:0=0:=rfl
theorem tw1379428594671043426:0=0:=rfl
theorem tw3605285596710002778:0=0:=rfl
theorem tw11400266836556007833:0=0:=rfl
theorem tw5244400579101978275:0=0:=rfl
theorem tw13659526411048895119:0=0:=rfl
end PySem.W.Fast
open PySem PySem.W PyProof.Rows
set_option maxRecDepth 100000 in
set_option maxHeartbeats 0 in
theorem PySem.Challenge.cw_classtab_k39_sorts_and_roots_holds : PySem.Challenge.rw_classtab_k39_sorts_and_roots.Holds := by
 w_on;o_law;k_head;(case hw=>w_witness2)
 k_fill
 refine C39.walk (l:=PySem.Challenge.rw_classtab_k39_sorts_and_roots) rfl rfl (fun w h Y=>PySem.W.kIn_of Y) ?F
 case F=>
  intro w mg fa h KX G hmg
  refine' C39.all_mk KX G hmg (L2.Zy.mk ?_ ?_ ?_ ?_) (L2.Zy.mk ?_ ?_ ?_ ?_) (L2.Zy.mk ?_ ?_ ?_ ?_) (L2.Zy.mk ?_ ?_ ?_ ?_) (L2.Zy.mk ?_ ?_ ?_ ?_) (L2.Zy.mk ?_ ?_ ?_ ?_) (L2.Zy.mk ?_ ?_ ?_ ?_) (L2.Zy.mk ?_ ?_ ?_ ?_) (L2.Zy.mk ?_ ?_ ?_ ?_) (L2.Zy.mk ?_ ?_ ?_ ?_) (L2.Zy.mk ?_ ?_ ?_ ?_) (L2.Zy.mk ?_ ?_ ?_ ?_) (L2.Zy.mk ?_ ?_ ?_ ?_) (L2.Zy.mk ?_ ?_ ?_ ?_) (L2.Zy.mk ?_ ?_ ?_ ?_) (L2.Zy.mk ?_ ?_ ?_ ?_) (L2.Zy.mk ?_ ?_ ?_ ?_) (L2.Zy.mk ?_ ?_ ?_ ?_) (L2.Zy.mk ?_ ?_ ?_ ?_) (L2.Zy.mk ?_ ?_ ?_ ?_) (L2.Zy.mk ?_ ?_ ?_ ?_) (L2.Zy.mk ?_ ?_ ?_ ?_) (L2.Zy.mk ?_ ?_ ?_ ?_) (L2.Zy.mk ?_ ?_ ?_ ?_) (L2.Zy.mk ?_ ?_ ?_ ?_) (L2.Zy.mk ?_ ?_ ?_ ?_) (L2.Zy.mk ?_ ?_ ?_ ?_) (L2.Zy.mk ?_ ?_ ?_ ?_) (L2.Zy.mk ?_ ?_ ?_ ?_) (L2.Zy.mk ?_ ?_ ?_ ?_) (L2.Zy.mk ?_ ?_ ?_ ?_) (L2.Zy.mk ?_ ?_ ?_ ?_) (L2.Zy.mk ?_ ?_ ?_ ?_) (L2.Zy.mk ?_ ?_ ?_ ?_) (L2.Zy.mk ?_ ?_ ?_ ?_) (L2.Zy.mk ?_ ?_ ?_ ?_) (L2.Zy.mk ?_ ?_ ?_ ?_) (L2.Zy.mk ?_ ?_ ?_ ?_) (L2.Zy.mk ?_ ?_ ?_ ?_) (L2.Zy.mk ?_ ?_ ?_ ?_) (L2.Zy.mk ?_ ?_ ?_ ?_) (L2.Zy.mk ?_ ?_ ?_ ?_) (L2.Zy.mk ?_ ?_ ?_ ?_) (L2.Zy.mk ?_ ?_ ?_ ?_) (L2.Zy.mk ?_ ?_ ?_ ?_) (L2.Zy.mk ?_ ?_ ?_ ?_) (L2.Zy.mk ?_ ?_ ?_ ?_) (L2.Zy.mk ?_ ?_ ?_ ?_) (L2.Zy.mk ?_ ?_ ?_ ?_) (L2.Zy.mk ?_ ?_ ?_ ?_) (L2.Zy.mk ?_ ?_ ?_ ?_) ?_ ?_ ?_ ?_ ?_ ?_ ?_ ?_ ?_ ?_ ?_ ?_ ?_ ?_ ?_ ?_ ?_
  any_goals k_is
  all_goals kernel_rfl
