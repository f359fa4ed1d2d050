import PyProof.Rows.All
import Wide.All
import OpenK.AllK
import Wide.FinOn
import Lean
import PyProof.EqAt
import PyProof.EqKinds
import PyProof.TupleCall
import PyProof.AutoListH
import KE.LcSums
import PyProof.DictWalks
import KE.KDictSum
import KE.KSortTup
import PyProof.EnumMake
import PyProof.EnumFor
import PyProof.TupleIter
import PyProof.Rows.Range3
import PyProof.ZipIter
import PySem.Challenge.RW_classtab_k46_whole_the_table
abbrev Y4:=List (List (List Nat))
abbrev X0:=List (List (List Int))
abbrev T9:=List (List Nat)
abbrev T8:=List (List Int)
abbrev T7:=List Nat
abbrev TZ:=List Int
abbrev TY:=PySem.Value->PySem.Shared->Prop
abbrev TX:=PySem.Str->Option PySem.Value
abbrev TW:=List PySem.Addr
open PySem.W renaming Frag->aa,mg_none_of->aw,nsIn->bo,kia_one->b8,fnOf->cy,keepIn->dW,codeIn->e8,kas_rev->ff,kas_sort->f7,OpenLaw->gY,cellsFrom_some->ig,methodObj->i5,kat_nil->i7,instObj->jy,lookIn->jL,kitOne->jM,KasT->jY,ked_eqvAll->lq,kitx_list->lO,kitx_dict->lP,kas_ask->lQ,plainGet->mo,lks_uniq->mq,kat_sorted->mr,WalkO->mv,listOf->mU,kas_tail3->mV,findIn->mW,mg_of->nv
open List renaming range->ac,getElem?_eq_some_iff->ae,mem_range->af,getElem?_range->ah,getElem?_eq_none->ai,mem_cons_of_mem->ao,replicate->aq,mem_cons_self->ar,getElem?_append_left->au,getElem?_append_right->av,mem_of_getElem?->az,contains_iff_mem->aA,all_eq_true->aD,mem_map->aE,mem_cons->aF,map_cons->aG,map_map->aK,map_append->aN,mem_append_right->aO,mem_singleton->aQ,map_congr_left->aX,any_eq_true->aY,ext_getElem?->a7,length_take->a8,replicate_succ->ba,length_set->bg,getElem?_of_mem->bn,getElem_mem->bB,length_drop->bH,Perm->bM,mem_append->bO,getElem?_replicate->bQ,range_succ->bR,nodup_cons->bS,drop_eq_getElem_cons->bV,filterMap_cons->bY,flatten_cons->bZ,mem_append_left->cg,perm_ext_iff_of_nodup->cO,length_replicate->cR,take_add_one->cW,any_cons->c6,take_length->c8,tail_cons->c9,not_mem_nil->db,nodup_range->de,lookup_cons->df,range'->dA,findIdx_lt_length->dD,range_eq_range'->eh,nodup_nil->eA,length->eB,range'_succ->eE,map_nil->eF,length_zip->eX,length_nil->eY,find?_cons->eZ,take_zero->fg,pairwise_map->fh,drop_eq_nil_of_le->fj,any_map->fk,drop_length->fO,getElem?_set_ne->fY,findIdx_getElem->fZ,length_map->gh,append_nil->gm,map->gH,getElem?_take->gI,mem_of_find?_eq_some->gP,getElem?_zip_eq_some->gQ,getElem?_eq_none_iff->gR,getElem?_take_of_lt->ic,pairwise_singleton->im,length_eq_zero_iff->io,take_of_length_le->iz,pairwise_lt_range->iA,mem_filter->iE,countP_map->iF,any_append->iG,pairwise_append->iK,drop_zero->iL,mem_filterMap->i9,map_inj_right->ja,lookup_append->jb,find?_eq_none->jc,take_sublist->jq,getElem?_set->jr,foldl_append->jt,findIdx_lt_length_of_exists->ju,append_assoc->jv,any_eq_false->jw,filter_cons->jF,of_mem_zip->jU,find?_some->jV,filter_map->jW,pairwise_iff_getElem->ki,map_take->kC,find?_range_eq_some->kD,range_succ_eq_map->kQ,map_set->kS,length_pos_of_mem->kU,getElem?_set_self->kW,any_nil->kZ,getElem?_toArray->lK,filterMap_append->lL,mem_erase_of_ne->lZ,length_eraseIdx->l9,filter_sublist->mF,drop_succ_cons->mG,zip_cons_cons->mN,pairwise_cons->mO,foldl->mP,filter_append->mQ,Nodup->mR,nodup_append->m8,getElem?_inj->nh,getElem_map->nG,getElem_inj->nH,ext_getElem->nJ,countP_cons->nK,cons_append->nM
open Bool renaming and_eq_true->ag,false_ne_true->aH,or_eq_true->bh,eq_iff_iff->cV,false_eq_true->dE,and_true->dS,not_eq_true'->dX,or_false->fV,false_or->fW,eq_false_iff->gX,false_and->j9,and_false->ka
open Classical renaming byContradiction->aj
open PySem.PassesOwn renaming never->am
open PySem.Value renaming ref->ax,none->a6,type->bW,int->fG,bool->ip,isInt_shape->jf,str->ko
open Nat renaming ne_of_lt->ay,lt_of_lt_of_le->aC,mod_eq_of_lt->aT,zero_le->aV,le_trans->aW,mod_lt->bi,dvd_of_mod_eq_zero->bj,ne_of_gt->bu,lt_irrefl->bw,lt_of_le_of_ne->bD,succ_mul->cq,lt_succ_of_lt->cr,sub_zero->cB,sub_self->cC,lt_or_ge->cD,le_of_lt->cL,lt_succ_self->cM,mul_le_mul_right->cY,add_zero->dH,add_sub_cancel->dI,not_lt_zero->dP,mod_add_mod->dQ,le_of_succ_le->dZ,le_add_right->eL,zero_mul->fv,mul_comm->fw,lt_of_succ_lt_succ->fz,le_of_not_lt->fU,min_le_left->gt,div_le_self->gu,mul_le_mul_left->gA,zero_add->gE,mul_le_mul->gM,le_succ->g9,add_mod_right->hU,le_of_dvd->ik,succ_lt_succ->iq,mod_self->iD,mul_one->iR,gcd->i0,lt_trans->jA,succ_ne_zero->jP,mul_add->jT,lt_of_mul_lt_mul_left->kB,mul_assoc->kK,add_lt_add_iff_right->kL,add_assoc->kN,zero_mod->lG,succ_pos->lH,min_self->lI,add_comm->lJ,mod_eq_sub_mod->m6,lt_trichotomy->nC
open Option.some renaming inj->aB
open Int renaming natCast_mul->aI,mul_assoc->aZ,add_zero->a5,natCast_emod->a9,zero_mul->bc,mul_zero->bv,mul_comm->bG,mul_emod->bN,emod_lt_of_pos->bT,zero_add->ce,emod_nonneg->cu,eq_ofNat_of_zero_le->cG,mul_le_mul_of_nonneg_right->dk,natCast_nonneg->dJ,natCast_add->dR,natCast_ediv->eP,one_mul->fc,neg_mul->fe,emod_eq_of_lt->fC,mul_one->f8,emod_emod_of_dvd->f9,sub_emod->iH,sub_mul->iS,mul_sub->iT,add_mul->iU,natAbs_natCast->jm,dvd_refl->jB,ediv_nonneg->j6,add_assoc->kO,sub_zero->lM,mul_add->mH,lt_of_lt_of_le->ni,lt_of_le_of_lt->nk,mul_left_comm->nO
open PySem.F renaming plainAttrs_list->aJ,slot_list_append->aR,type_list_append->aU,called_set->cx,slot_tuple_iterator_next->eG,plainAttrs_tuple->eK,plain_list_iadd->eW,slot_tuple_index->e9,slot_enumerate_next->fX,type_tuple_index->gK,called_tuple->iC,plain_proto_collect->jE,plain_extend_loop->jS,args_tuple_iterator_next_1->kg,plain_set_new->kw,entry_tuple_iterator_next->kx,slot_list_lt->kH,args_object_init_2->kI,slot_tuple_count->ly,slot_list_insert->lz,slot_list_extend->lA,slot_list_index->lV,slot_list_count->lW,args_enumerate_next_1->lX,entry_enumerate_next->mB
open Array renaming getElem?_eq_getElem->aM,getElem?_eq_none->cI,getD_eq_getD_getElem?->cJ,getElem?_toList->cQ,size_extract->gF,perm_iff_toList_perm->j7,toArray_toList->lN,getD->mI,toList_push->mS
open PySem.PyData renaming int->aP,depthAll->bx,canLayAll0->bX,tuple->ci,depth->cT,leavesShortAll->dM,showableAll->eV,shown->gf,eqv->gx,canLay0->gy,hasDictAll->gJ,bulkAll->iI,eqvAll->iP,showable->jD,leavesShort->lT,hasDict->ny
open PySem renaming Spec->aS,wpAny_newObj_type->bb,wpAny_call_entry->bq,mem_of_lookup->bE,wpAny_callSpecial?_slot->bJ,codeAny_builtin->bP,wpAny_holding->cf,wpAny_mono->cw,wpAny_field->cH,Builtin->cK,Scope->cU,plainId_quiet->dh,wpAny_setField->dF,wpAny_passesOwn->ee,wpAny_pyIter_enum->eC,call_meets->eR,NameKind->eS,wpAny_setField_rec->fm,wpAny_rule->fo,PyData->fq,wpAny_typeOf->fP,wpAny_truthy_bool->fQ,codeAny_mono->fR,wpAny_newList->gv,wpAny_attempt->gw,sizeLine_eq->gC,wpAny_seqItems->ie,IsEnum->ij,wpAny_pyIter_list->ir,ItemsOf->iu,IsRangeIter->iw,wpAny_pyNext_range_end->iM,wpAny_pyIter_rangeiter->iN,wpAny_load->iO,wpAny_execs_nil->iW,wpAny_runValue->jd,wpAny_fieldsOf->je,BindsTo->jp,wpAny_standAt->jC,wpAny_pyIter_tuple->jG,wpAny_pyIter_range->jH,wpAny_Call_Name_kw->jI,tupleKind_room_in1->jK,wpAny_isInstance->kc,wpAny_askSetting->ke,IsPart->kf,wpAny_of_eq->km,wpAny_ite_split->kE,codeAny_of_tree->kF,wpAny_letOwnedTupleGo_enum->lf,isSubtype_type->lh,Paired->lu,Operator->lx,Drawn->lB,wpAny_comprehension_free->ma,rangeSize_one->md,call->mf,wpAny_Call_method_late->mT,wpAny_isTrue_Compare1->no,builtinLookup_eq_fast->nq
open PyProof.Rows renaming IntsAre->be,callWith_type1->bA,slot_tuple_getitem->dw,AllBare->iQ,get?_update_seq->iY,entry_list_sort->iZ,slot_list_sort->ji,args_list_sort->jj,firstMet_length_le->jN,assignInOrder_cons->jO,plain_sorted->j3,entry_sorted->j4,args_sorted1->j5,kind_sorted->kA,size_push'->lD,boot_range->lE,IsTup->lF,listUpdate_at->mC,firstMet_succ->mD,subscriptTail_builtinR->mZ,listItems_at->m5
open Ne renaming symm->bf
open PySem.Builtin.Range renaming rangeSize->bm,small->cz,rangeFitsLong->iX
open PySem.Heap renaming SameBut->br,get?_update_self->bF,get?_update_other->bU,size_push->cm,size_update->fJ,get?_push_ne->gS,get?_none_of_le->lU
open PySem.Obj renaming mapSeq->bz,data_mapFields->bC,isFreed_of_fields->cS,cls_mapFields->gZ,mapFields->ii,putSet->jg
open PySem.Around renaming under_plainId->bI
open PySem.Heap.SameBut renaming update->bK
open PySem.Builtin.List renaming listExtendWith->b9,listTooLong->dY,listLengthHint->fF,listFitsIndex->fN,listSameRef->jo
open PySem.Builtin.Tuple renaming tupleExact->cp,tupleItemsOf->fI
open Nat.succ renaming inj->cF
open List.Pairwise renaming imp_of_mem->cN,sublist->c7,nil->eO,map->f6
open ForInStep renaming yield->cP
open List.Perm renaming refl->cZ,eq_of_pairwise->jQ
open PySem.Builtin.SmallTypes renaming nextOf->di,ownedTupleHandOut->gG,ownedTupleIsFree->gL
open PySem.NameKind renaming cell->dz,free->fu
open True renaming intro->dB
open Option renaming map_some->dC,isSome_iff_exists->gO,isSome_map->mE,getD_none->mM
open PySem.Str renaming ofString->dG
open PySem.Builtin.Slice renaming slicePlaces->dN,sliceAdjust->fS,sliceApplied->i6
open PyProof.Rows.F renaming plain_set_update_loop->dO,entry_set_update_loop->g8
open PySem.SetTable renaming grown->dU,below->mK,slot->mX,fits->mY
open False renaming elim->ef
open PySem.MeetsSeq3 renaming plain_eq_loop->eQ,entry_eq_loop->jR
open PySem.Calls renaming call_function_entry->e7,Name_function_global->jZ,callWith_builtin->kJ,evalArgs_plain->lC
open PySem.SeqAt renaming items_eqAt->fH,shaped->gq,any_by_data->gN,EqAt->lr,notIn_tupleAt->lS,notIn_listAt->mz
open PySem.Challenge renaming rw_classtab_k46_whole_the_table->fK,pw_classtab_k46_whole_the_table->fM
open PySem.SeqAt.EqAt renaming int_int->gc,str_int->kq,int_str->ku
open PySem.Data renaming cell->gD,fields->gU
open Sum renaming inl->iB,inr->jx
open PySem.Heap.IsTuple renaming typeIs->iJ
open Std.Legacy renaming Range->iV
open PySem.Heap.IsListIter renaming extBut->jh
open PyProof.Rows.IsTup renaming new->jz
open PySem.pickOrder renaming go->jX
open PySem.Paired renaming length->j8
open PyProof renaming noPylong_small->kh
open PySem.IsRange renaming new->kG
open PySem.W.UpdF renaming head->kP
open PySem.Walks renaming range->ln,list->mh
open Prod renaming fst->lY
open PySem.W.KatTups renaming cons->mw,nil->mJ
open PySem.Code renaming quiet_builtin->mL
set_option Elab.async false
set_option linter.all false
set_option maxRecDepth 100000
variable {P prog:PySem.Program}{w:PySem.World}{K:aa}{mg:TX}{base:PySem.Heap}{A:PySem.Around}{E:TY}{s:PySem.Shared}{t:T9}{o:T7}{R:T8}{ps least:TZ}{n top p m z:Nat}{e ω φ:Nat->Nat->Nat}{f:PySem.Addr}{fd:PySem.FuncData}
theorem Za {α j:Type _}{l:List α}{f:α->j}:(l.map f).length=l.length:=gh ..
theorem Zb {α:Type _}{l:List α}{i:Nat}{a:α}:l.getD i a=l[i]?.getD a:=List.getD_eq_getElem?_getD ..
theorem Zc {α j:Type _}{f:α->j}{l:List α}{i:Nat}:(l.map f)[i]?=l[i]?.map f:=List.getElem?_map ..
theorem Zd {α:Type _}{a b:List α}:(a++b).length=a.length+b.length:=List.length_append ..
theorem Ze {α:Type _}{n:Nat}{a:α}:(aq n a).length=n:=cR ..
theorem Zf {α:Type _}{l:List α}{i:Nat}(h:i<l.length):l[i]?=some l[i]:=List.getElem?_eq_getElem h
theorem Zg {n:Nat}:(ac n).length=n:=List.length_range ..
theorem Zh {α:Type _}{l:List α}:l.toArray.size=l.length:=List.size_toArray ..
theorem Zi {α:Type _}{a:α}{l:List α}:(a::l).length=l.length+1:=List.length_cons ..
theorem Zj (n:Nat):(n:Int).toNat=n:=Int.toNat_natCast n
theorem Zk {α:Type _}{a:α}:[a].length=1:=List.length_singleton ..
noncomputable abbrev Zl:=@PySem.wpAny_bind
noncomputable abbrev Zm:=@PySem.wpAny_pure
noncomputable abbrev Zn:=@PySem.Heap.get?_push_of_some
noncomputable abbrev Zo:=@PySem.Heap.get?_push_size
noncomputable abbrev Zp:=@PySem.Heap.lt_size
noncomputable abbrev Zq:=@Nat.le_refl
noncomputable abbrev Zr.{u}:=@Array.length_toList.{u}
namespace L2
open PySem PySem.Spec PyProof.Rows
noncomputable abbrev YL:=Sum Int Str
def ZaX:YL->Value->Bool
 | .inl k,v=>Value.isInt k v
 | .inr x,v=>Value.isStrOf x v
def Zrh (w:World):YL->Int
 | .inl k=>hashInt k
 | .inr x=>hashStr w x
theorem YF:∀{k:YL}{v:Value},ZaX k v=true->(∃i t,k=iB i/\v=fG i t)\/(∃x t,k=jx x/\v=ko x t)
 | .inl i,v,h=>by
  obtain⟨t,e⟩:=jf (k:=i) (v:=v) h;exact .inl ⟨i,t,rfl,e⟩
 | .inr x,v,h=>by
  obtain⟨t,e⟩:=Value.isStrOf_shape (x:=x) (v:=v) h;exact .inr ⟨x,t,rfl,e⟩
theorem ZgG (i:Int)(t:Tok):ZaX (.inl i) (.int i t)=true:=by simp[ZaX,Value.isInt]
theorem ZgF (x:Str)(t:Tok):ZaX (.inr x) (.str x t)=true:=by simp[ZaX,Value.isStrOf]
theorem ZnV (a b:Int):decide ((iB a:YL)=iB b)=(a == b):=by
 by_cases e:a=b
 ·subst e;simp
 ·have h:¬(iB a:YL)=iB b:=λq=>e (Sum.inl.inj q)
  rw[decide_eq_false h];exact (beq_eq_false_iff_ne.mpr e).symm
theorem ZnS (a b:Str):decide ((jx a:YL)=jx b)=decide (a=b):=by
 by_cases e:a=b
 ·subst e;simp
 ·have h:¬(jx a:YL)=jx b:=λq=>e (Sum.inr.inj q)
  rw[decide_eq_false h,decide_eq_false e]
theorem ZnU (a:Int)(b:Str):decide ((iB a:YL)=jx b)=false:=decide_eq_false (λq=>nomatch q)
theorem ZnT (a:Str)(b:Int):decide ((jx a:YL)=iB b)=false:=decide_eq_false (λq=>nomatch q)
noncomputable def YM (prog:Program)(w:World):PySem.KeyKind prog w YL where
 is:=ZaX
 hash:=Zrh w
 inj:=λv a b M hb=>by
  rcases YF M with ⟨i,t,rfl,rfl⟩|⟨x,t,rfl,rfl⟩
  ·rcases YF hb with ⟨j,u,rfl,e⟩|⟨y,u,rfl,e⟩
   ·injection e with q _;rw[q]
   ·exact nomatch e
  ·rcases YF hb with ⟨j,u,rfl,e⟩|⟨y,u,rfl,e⟩
   ·exact nomatch e
   ·injection e with q _;rw[q]
 byValue:=λk v h=>by
  rcases YF h with ⟨i,t,rfl,rfl⟩|⟨x,t,rfl,rfl⟩ <;> rfl
 pyHash:=λJ h=>by
  rcases YF J with ⟨i,t,rfl,rfl⟩|⟨x,t,rfl,rfl⟩
  ·exact wpAny_pyHash_int h
  ·exact wpAny_pyHash_str h
 eqBool:=λO J h=>by
  rcases YF O with ⟨i,t,rfl,rfl⟩|⟨x,t,rfl,rfl⟩
  ·rcases YF J with ⟨j,u,rfl,rfl⟩|⟨y,u,rfl,rfl⟩
   ·rw[ZnV] at h;exact wpAny_eqBool_int h
   ·rw[ZnU] at h;exact ku i t y u _ _ _ _ h
  ·rcases YF J with ⟨j,u,rfl,rfl⟩|⟨y,u,rfl,rfl⟩
   ·rw[ZnT] at h;exact kq x t j u _ _ _ _ h
   ·rw[ZnS] at h;exact wpAny_eqBool_str h
 «strs»:=λk x t v h=>by
  rcases YF h with ⟨i,u,rfl,e⟩|⟨y,u,rfl,e⟩
  ·exact nomatch e
  ·injection e with q _
   subst q;cases v <;> rfl
theorem Zde (prog:Program)(w:World)(i:Int)(t:Tok):(YM prog w).is (.inl i) (.int i t)=true:=ZgG i t
theorem Zdd (prog:Program)(w:World)(x:Str)(t:Tok):(YM prog w).is (.inr x) (.str x t)=true:=ZgF x t
inductive V where
 |non|bl (b:Bool)|int (i:Int)|str (x:Str)|byt (b:Array UInt8)|flt (b:UInt64)|ref (a:Addr)|ty (n:String)
 deriving DecidableEq
abbrev TV:=List V
abbrev TU:=Option V
def RelV:V->Value->Prop
 | .non,u=>u=a6
 | .bl b,u=>u=ip b
 | .int i,u=>∃t,u=fG i t
 | .str x,u=>∃t,u=ko x t
 | .byt b,u=>∃t,u=Value.bytes b t
 | .flt b,u=>∃t,u=Value.float b t
 | .ref a,u=>u=ax a
 | .ty n,u=>u=bW n
noncomputable abbrev ZS:TV->List Value->Prop:=lu RelV
theorem ZS.length {xs:TV}{us:List Value}(r:ZS xs us):xs.length=us.length:=j8 r
theorem ZS.get:∀{xs:TV}{us:List Value}{i:Nat}{x:V},ZS xs us->xs[i]?=some x->∃u,us[i]?=some u/\RelV x u
 |_,_,_,_,.nil,e=>by simp at e
 |_,_,0,_,.cons r _,e=>by simp at e;subst e;exact⟨_,rfl,r⟩
 |_,_,i+1,x,.cons _ t,e=>by
  obtain⟨u,j,q⟩:=ZS.get (i:=i) (x:=x) t (by simpa using e);exact⟨u,by simpa using j,q⟩
theorem ZS.set {x:V}{u:Value}(r:RelV x u):∀{xs:TV}{us:List Value} (i:Nat),ZS xs us->ZS (xs.set i x) (us.set i u)
 |_,_,_,.nil=>.nil
 |_,_,0,.cons _ t=>.cons r t
 |_,_,i+1,.cons q t=>.cons q (ZS.set r i t)
theorem ZS.append:∀{xs ys:TV}{us j:List Value},ZS xs us->ZS ys j->ZS (xs++ys) (us++j)
 |_,_,_,_,.nil,s=>s
 |_,_,_,_,.cons r t,s=>.cons r (ZS.append t s)
theorem ZS.take:∀{xs:TV}{us:List Value} (n:Nat),ZS xs us->ZS (xs.take n) (us.take n)
 |_,_,0,_=>.nil
 |_,_,_+1,.nil=>.nil
 |_,_,n+1,.cons r t=>.cons r (ZS.take n t)
theorem ZS.drop:∀{xs:TV}{us:List Value} (n:Nat),ZS xs us->ZS (xs.drop n) (us.drop n)
 |_,_,0,r=>r
 |_,_,_+1,.nil=>.nil
 |_,_,n+1,.cons _ t=>ZS.drop n t
def Zat:TU->Option Value->Prop
 |some v,some u=>RelV v u
 |none,none=>True
 |_,_=>False
def KV {j:Type}:List (j×V)->List (j×Value)->Prop:=lu λ(p:j×V) (q:j×Value)=>p.1=q.1/\RelV p.2 q.2
def kV:YL->V
 | .inl i=>.int i
 | .inr x=>.str x
inductive HO where
 |lst (xs:TV)
 |tup (xs:TV)
 |dK (kvs:List (YL×V))|dT (kvs:List (List YL×V))
 |set (S:Int->Bool) (n:Nat)
 |ins (C dx:Addr) (fs:List (Str×V))
 |own (x:Addr)
 |xd (fs:List (Str×V))
 |met (f x:Addr)
 |rng (lo hi:Int)
 |frz (o:Obj) (u:HO)
 |tbl (ps:Array Value)
 |ext (φ:Heap->Prop)
noncomputable abbrev Hp:=Addr->Option HO
def upd (H:Hp)(a:Addr)(o:HO):Hp:=λb=>if b=a then some o else H b
theorem Zu {H:Hp}{a:Addr}{o:HO}:upd H a o a=some o:=by unfold upd;rw[if_pos rfl]
theorem Zz {H:Hp}{a b:Addr}{o:HO}(h:b≠a):upd H a o b=H b:=by unfold upd;rw[if_neg h]
theorem Zj4 {H:Hp}{a:Addr}{o u:HO}:upd (upd H a o) a u=upd H a u:=by
 funext b;unfold upd;split <;> rfl
theorem ZiJ {H:Hp}{a b:Addr}{o u:HO}(h:H a=some o)(h':H b=some u)(d:o≠u):a≠b:=by
 intro e;subst e;rw[h] at h';exact d (aB h')
theorem Yo {H:Hp}{a b:Addr}{o:HO}(h:H a=some o)(h':H b=none):a≠b:=by
 intro e;subst e;rw[h] at h';cases h'
section
variable (P:Program)(w:World)
def Ys (H:Hp)(h:Heap)(a:Addr):HO->Prop
 | .lst M=>M.length<=sizeLine/\∃(j:List Value) (n:Nat),ZS M j/\h.get? a=some {cls:=.type "list",data:=.seq j.toArray n}
 | .tup M=>M.length<=sizeLine/\∃j:List Value,ZS M j/\lF h a j.toArray
 | .dK J=>J.length<=sizeLine/\(a == sysModules)=false/\∃vs,KV J vs/\h.DictOf (YM P w) a vs
 | .dT J=>J.length<=sizeLine/\(a == sysModules)=false/\∃M:List (List YL×Addr×Value),
   lu (λ(p:List YL×V) (q:List YL×Addr×Value)=>p.1=q.1/\H q.2.1=some (.tup (p.1.map kV))/\RelV p.2 q.2.2) J M/\
   ∃o es ep,h.get? a=some o/\o.ExactDict/\o.data=.dict es ep/\es.toList=M.map (entryOfKey (tupleKind (YM P w)))/\(M.map (·.1)).Nodup
 | .set S n=>h.SetOf (intKind P w) a S n
 | .ins C Y fs=>H Y=some (.own a)/\fs.length<=1000/\Y≠a/\h.get? a=some (jy C Y)/\
   ∃O,h.Ns1 Y O/\(∀f,Zat (fs.lookup f) (O f))/\PySem.Within O (fs.map (·.1))
 | .own _=>∃o,h.get? a=some o
 | .xd fs=>∃O,h.Ns1 a O/\∀f,Zat (fs.lookup f) (O f)
 | .rng lo hi=>∃t u v,h.get? a=some {cls:=.type "range",data:=.fields #[.int lo t,.int hi u,.int 1 v]}
 | .frz o u=>h.get? a=some o/\Ys H h a u
 | .tbl ps=>h.get? a=some {cls:=.none,data:=.fields ps}
 | .met f x=>h.get? a=some (i5 (.ref f) (.ref x))
 | .ext φ=>φ h/\(∃o,h.get? a=some o)/\∀h1 h2:Heap,φ h1->(∀o,h1.get? a=some o->h2.get? a=some o)->φ h2
def X9 (H:Hp)(h:Heap):Prop:=∀a o,H a=some o->Ys P w H h a o
end
section
variable {H H':Hp}{h h':Heap}{a:Addr}{o:HO}
theorem Ys.lt (x:Ys P w H h a o):a<h.objs.size:=by
 cases o with
 |lst q=>obtain⟨_,_,_,_,e⟩:=x;exact Zp e
 |tup q=>obtain⟨_,_,_,p⟩:=x;exact p.lt
 |dK j=>obtain⟨_,_,_,_,o,_,_,e,_⟩:=x;exact Zp e
 |dT j=>obtain⟨_,_,_,_,o,_,_,e,_⟩:=x;exact Zp e
 |set S n=>obtain⟨o,_,_,_,e,_⟩:=x;exact Zp e
 |ins C J fs=>obtain⟨_,_,_,e,_⟩:=x;exact Zp e
 |own y=>obtain⟨_,e⟩:=x;exact Zp e
 |xd fs=>obtain⟨_,⟨_,_,_,e,_⟩,_⟩:=x;exact Zp e
 |rng lo M=>obtain⟨_,_,_,e⟩:=x;exact Zp e
 |frz O u=>obtain⟨e,_⟩:=x;exact Zp e
 |tbl Y=>exact Zp (show h.get? a=some _ from x)
 |met f y=>exact Zp (show h.get? a=some _ from x)
 |ext φ=>obtain⟨_,⟨_,e⟩,_⟩:=x;exact Zp e
theorem lu.mapP {α J:Type}{F G:α->J->Prop}:∀{j:List α}{q:List J},lu F j q->(∀a b,F a b->G a b)->lu G j q
 |_,_,.nil,_=>.nil
 |_,_,.cons r t,f=>.cons (f _ _ r) (lu.mapP t f)
theorem Ys.stay (x:Ys P w H h a o)(k:∀b u,(b=a\/H b=some (.own a))->h.get? b=some u->h'.get? b=some u)
  (ho:∀b,H b=some (.own a)->H' b=some (.own a)) (ht:∀b xs,H b=some (.tup xs)->H' b=some (.tup xs)):Ys P w H' h' a o:=by
 induction o with
 |lst xs=>obtain⟨z,O,n,r,e⟩:=x;exact⟨z,O,n,r,k _ _ (.inl rfl) e⟩
 |tup xs=>obtain⟨z,O,r,j,e,c⟩:=x;exact⟨z,O,r,j,k _ _ (.inl rfl) e,c⟩
 |dK Y=>obtain⟨z,y,vs,r,j,J,M,e,c⟩:=x;exact⟨z,y,vs,r,j,J,M,k _ _ (.inl rfl) e,c⟩
 |dT Y=>
  obtain⟨z,y,xs,r,j,J,M,e,c⟩:=x;exact⟨z,y,xs,lu.mapP r λp q z=>⟨z.1,ht _ _ z.2.1,z.2.2⟩,j,J,M,k _ _ (.inl rfl) e,c⟩
 |set S n=>obtain⟨j,J,M,t,e,c⟩:=x;exact⟨j,J,M,t,k _ _ (.inl rfl) e,c⟩
 |ins C dx fs=>
  obtain⟨d,z,ne,e,mA,⟨od,J,M,e2,c⟩,r⟩:=x;exact⟨ho _ d,z,ne,k _ _ (.inl rfl) e,mA,⟨od,J,M,k _ _ (.inr d) e2,c⟩,r⟩
 |own y=>obtain⟨j,e⟩:=x;exact⟨j,k _ _ (.inl rfl) e⟩
 |xd fs=>obtain⟨mA,⟨od,J,M,e,c⟩,r⟩:=x;exact⟨mA,⟨od,J,M,k _ _ (.inl rfl) e,c⟩,r⟩
 |rng lo hi=>obtain⟨t,u,v,e⟩:=x;exact⟨t,u,v,k _ _ (.inl rfl) e⟩
 |frz j u ih=>obtain⟨e,q⟩:=x;exact⟨k _ _ (.inl rfl) e,ih q⟩
 |tbl ps=>
  have e:h.get? a=some {cls:=.none,data:=.fields ps}:=x;show h'.get? a=some {cls:=.none,data:=.fields ps};exact k a _ (.inl rfl) e
 |met f y=>
  have e:h.get? a=some (i5 (.ref f) (.ref y)):=x;show h'.get? a=some (i5 (.ref f) (.ref y));exact k a _ (.inl rfl) e
 |ext φ=>obtain⟨p,⟨o,e⟩,st⟩:=x;exact⟨st _ _ p λo q=>k _ _ (.inl rfl) q,⟨o,k _ _ (.inl rfl) e⟩,st⟩
theorem X9.lt (x:X9 P w H h)(e:H a=some o):a<h.objs.size:=(x a o e).lt
theorem X9.fresh (x:X9 P w H h)(e:h.objs.size<=a):H a=none:=by
 cases q:H a with
 |none=>rfl
 |some u=>exact absurd (aC (x.lt q) e) (bw _)
theorem X9.kept (x:X9 P w H h)(k:∀b u,h.get? b=some u->h'.get? b=some u):X9 P w H h':=λa o e=>
 (x a o e).stay (λb u _ q=>k b u q) (λ_ q=>q) λ_ _ q=>q
theorem X9.laid (x:X9 P w H h)(k:∀b u,h.get? b=some u->h'.get? b=some u)(M:h.objs.size<=a)(j:Ys P w (upd H a o) h' a o):X9 P w (upd H a o) h':=λb u e=>by
 have J:=x.fresh M;by_cases hb:b=a
 ·subst hb;rw[Zu] at e;cases e;exact j
 ·rw[Zz hb] at e
  exact (x b u e).stay (λc v _ q=>k c v q) (λc q=>by rw[Zz (Yo q J)];exact q) λc O q=>by rw[Zz (Yo q J)];exact q
end
def Rd (H:Hp)(a:Addr)(u:HO):Prop:=H a=some u\/∃o,H a=some (.frz o u)
theorem Rd.ok {P:Program}{w:World}{H:Hp}{h:Heap}{a:Addr}{u:HO}(r:Rd H a u)(x:X9 P w H h):Ys P w H h a u:=by
 rcases r with r|⟨o,r⟩
 ·exact x a u r
 ·obtain⟨_,q⟩:=x a _ r
  exact q
def Mut:Option HO->Prop
 |some (.lst _)=>True
 |some (.dK _)=>True
 |some (.dT _)=>True
 |some (.set _ _)=>True
 |some (.ins _ _ _)=>True
 |some (.ext _)=>True
 |_=>False
section
variable {H:Hp}{h h':Heap}{x e:Addr}{o':HO}
theorem X9.write (ok:X9 P w H h)(O:Mut (H x))(he:e=x\/H e=some (.own x))(k:∀b u,b≠e->h.get? b=some u->h'.get? b=some u)(n6:∃u,h'.get? e=some u)
  (n8:Ys P w (upd H x o') h' x o'):X9 P w (upd H x o') h':=λb u q=>by
 have J:∀c y,H c=some (.own y)->c≠x:=λc y r z=>by subst z;rw[r] at O;exact O
 have M:∀c Y,H c=some (.tup Y)->c≠x:=λc Y r z=>by subst z;rw[r] at O;exact O
 by_cases hb:b=x
 ·subst hb;rw[Zu] at q;cases q;exact n8
 ·rw[Zz hb] at q
  by_cases j:b=e
  ·have q':H b=some (.own x):=by
    rcases he with z|z
    ·exact absurd (j.trans z) hb
    ·rw[j];exact z
   rw[q] at q';cases q';obtain⟨v,hv⟩:=n6;exact⟨v,by rw[j];exact hv⟩
  ·refine (ok b u q).stay (λc v hc r=>k c v ?_ r) (λc r=>by rw[Zz (J c b r)];exact r) λc Y r=>by rw[Zz (M c Y r)];exact r
   rcases hc with rfl|hc
   ·exact j
   ·rintro rfl
    rcases he with z|z
    ·exact J c b hc z
    ·rw[hc] at z;cases z;exact hb rfl
end
structure Un (fs ex:TW)(H H':Hp)(h h':Heap):Prop where
 keep:∀b o,h.get? b=some o->H b=none->b∉fs->b∉ex->h'.get? b=some o
 slot:∀b o,h.get? b=some o->H b=none->b∈fs->b∉ex->∃sl,h'.get? b=some {o with slots:=sl}
 free:∀b o,h.get? b=some o->H b=none->b∉ex->H' b=none
 there:∀b o,h.get? b=some o->b∉ex->∃o',h'.get? b=some o'
 tups:∀b xs,H b=some (.tup xs)->H' b=some (.tup xs)
 frzs:∀b o u,H b=some (.frz o u)->H' b=some (.frz o u)
 tbls:∀b ps,H b=some (.tbl ps)->∃more,H' b=some (.tbl (ps++more))
section
variable {fs fs' ex ex':TW}{H H1 H2:Hp}{h h1 h2 h':Heap}{a x e:Addr}{o:HO}
theorem Un.any (u:Un fs ex H H1 h h1){b:Addr}{j:Obj}(q:h.get? b=some j)(n:H b=none)(J:b∉ex):∃M,h1.get? b=some {j with slots:=M}:=by
 by_cases hb:b∈fs
 ·exact u.slot b j q n hb J
 ·exact⟨j.slots,u.keep b j q n hb J⟩
theorem Un.kept (k:∀b u,h.get? b=some u->h'.get? b=some u):Un fs ex H H h h':=
 ⟨λb j q _ _ _=>k b j q,λb j q _ _ _=>⟨j.slots,k b j q⟩,λ_ _ _ n _=>n,λb j q _=>⟨j,k b j q⟩,λ_ _ q=>q,λ_ _ _ q=>q,λ_ J q=>⟨#[],by rw[q];simp⟩⟩
theorem Un.refl:Un fs ex H H h h:=Un.kept λ_ _ q=>q
theorem Un.laid (k:∀b u,h.get? b=some u->h'.get? b=some u)(J:h.objs.size<=a)(j:H a=none):Un fs ex H (upd H a o) h h' where
 keep:=λb u q _ _ _=>k b u q
 slot:=λb u q _ _ _=>⟨u.slots,k b u q⟩
 free:=λb u q n _=>by rw[Zz (ay (aC (Zp q) J))];exact n
 there:=λb u q _=>⟨u,k b u q⟩
 tups:=λb M q=>by rw[Zz (Yo q j)];exact q
 frzs:=λb u M q=>by rw[Zz (Yo q j)];exact q
 tbls:=λb O q=>⟨#[],by rw[Zz (Yo q j),q];simp⟩
theorem Un.write (J:Mut (H x))(he:e=x\/H e=some (.own x))(k:∀b u,b≠e->h.get? b=some u->h'.get? b=some u)(M:∃u,h'.get? e=some u):Un fs ex H (upd H x o) h h':=by
 have Y:∀b,H b=none->b≠x:=λb n z=>by subst z;rw[n] at J;exact J
 have hb:∀b,H b=none->b≠e:=λb n z=>by
  subst z;rcases he with r|r
  ·exact Y b n r
  ·rw[n] at r;cases r
 have O:∀b u,H b=some u->¬Mut (some u)->b≠x:=λb u q nm z=>by subst z;rw[q] at J;exact nm J
 refine⟨λb u q n _ _=>k b u (hb b n) q,λb u q n _ _=>⟨u.slots,k b u (hb b n) q⟩,λb u q n _=>by rw[Zz (Y b n)];exact n,λb u q _=>?_,
  λb xs q=>by rw[Zz (O b _ q λz=>z)];exact q,λb u xs q=>by rw[Zz (O b _ q λz=>z)];exact q,λb ps q=>⟨#[],by rw[Zz (O b _ q λz=>z),q];simp⟩⟩
 by_cases j:b=e
 ·subst j;exact M
 ·exact⟨u,k b u j q⟩
end
def trk (h:Heap)(H:Hp):TW:=(ac h.objs.size).filter λa=>(H a).isSome
def Zb4 (h:Heap)(H:Hp):Heap:=PySem.W.hideAll h (trk h H)
theorem ZgL (h:Heap)(H:Hp):(Zb4 h H).objs.size=h.objs.size:=PySem.W.hideAll_size _ _
theorem Zi7 {h:Heap}{H:Hp}{b:Addr}{o:Obj}(e:h.get? b=some o)(n:H b=none):(Zb4 h H).get? b=some o:=
 PySem.W.hideAll_get _ e λj=>by
  have q:(H b).isSome=true:=(iE.mp j).2;rw[n] at q;simp at q
theorem Zk9 {h:Heap}{H:Hp}{b:Addr}{o:Obj}(e:(Zb4 h H).get? b=some o):h.get? b=some o/\H b=none:=by
 have j:h.get? b=some o:=PySem.W.of_hideAll (trk h H) e;refine⟨j,?_⟩;cases q:H b with
 |none=>rfl
 |some x=>
  have J:b∈trk h H:=iE.mpr ⟨af.mpr (Zp j),by simp[q]⟩;have z:(Zb4 h H).get? b=none:=PySem.W.hideAll_none (trk h H) J;rw[z] at e;cases e
structure Mod (K:aa)(mg:TX)(base:Heap):Prop where
 kin:K.In base
 glob:base.Ns mainGlobals mg
 blt:∃mb,base.Ns builtinsNs mb/\∀x:Str,x ≠ "__name__"->mb x=bootBuiltins x
 nolimit:base.NoLimit
structure Cx where
 prog:Program
 w:World
 K:aa
 mg:Str->Option Value
 base:Heap
 A:Around
 N:List Str
 s₀:Shared
 H₀:Hp
 env:Env
 outer:List Env
 stack:List Env
 ex:TW
 fn:Str->Bool
 calm:Bool
 pn:List (Addr×Obj)
 xe:Value->Shared->Prop
def frs (l:List Env):TW:=l.filterMap (·.frame)
noncomputable abbrev Cx.fs (X:Cx):TW:=frs X.outer
def Vis (j:cU)(x:Str):Prop:=j.names.lookup x=some .local\/j.names.lookup x=some .cell\/j.names.lookup x=some .free
def Loc (j:cU)(x:Str):Prop:=j.names.lookup x=some .local\/j.names.lookup x=some .cell
def Look (env:Env)(h:Heap)(m:TX)(x:Str)(u:Value):Prop:=
 (env.kindOf x=some .local/\m x=some u)\/((env.kindOf x=some .cell\/env.kindOf x=some .free)/\∃c,env.cells.lookup x=some c/\h.IsCell c (some u))
structure Cx.Ok (X:Cx):Prop where
 mod:Mod X.K X.mg X.base
 kind:X.env.scope.kind=.function
 glob:X.env.globals=mainGlobals
 blt:X.env.builtins=builtinsNs
 above:X.s₀.heap.objs.size<=X.env.locals
 inj:∀x y c,X.env.cells.lookup x=some c->X.env.cells.lookup y=some c->x=y
 has:∀x,(X.env.kindOf x=some .cell\/X.env.kindOf x=some .free)->∃c,X.env.cells.lookup x=some c
 cab:∀x c,X.fn x=true->X.env.cells.lookup x=some c->X.s₀.heap.objs.size<=c
 hd:X.calm=true->X.A.handled=none
 frames:X.A.frames=some X.stack
 stk:X.stack=X.outer\/(X.stack=X.env::X.outer/\X.env.frame=some X.env.locals)
 exf:∀b∈X.ex,b≠X.env.locals/\∀x c,X.env.cells.lookup x=some c->c≠b
 bs:∀b o,X.base.get? b=some o->X.s₀.heap.get? b=some o/\X.H₀ b=none
 bsz:X.base.objs.size<=X.s₀.heap.objs.size
 noex:∀b o,X.base.get? b=some o->b∉X.ex
 exfs:∀b∈X.ex,b∉X.fs
 funs:X.s₀.heap.FunFrames X.base X.outer
 frf:∀b∈X.fs,X.H₀ b=none
structure Inv (X:Cx)(pins:List (Addr×Obj))(σ:List TU)(H:Hp)(s:Shared):Prop where
 ok:X.Ok
 os:s.os=X.s₀.os
 bare:iQ s.gens
 base:Un X.fs X.ex X.H₀ H X.s₀.heap s.heap
 loc:∃m,s.heap.Ns X.env.locals m/\∀(i:Nat) (x:Str) (v:V),X.N[i]?=some x->σ[i]?=some (some v)->Vis X.env.scope x->∃u,RelV v u/\Look X.env s.heap m x u
 cell:∀x c,X.env.cells.lookup x=some c->∃v,s.heap.IsCell c v
 free:H X.env.locals=none
 freeC:∀x c,X.env.cells.lookup x=some c->H c=none
 pin:∀p∈X.pn++pins,s.heap.get? p.1=some p.2/\H p.1=none/\p.1≠X.env.locals/\p.1∉X.fs/\∀v,p.2.data≠.cell v
 hok:X9 X.prog X.w H s.heap
 len:σ.length=X.N.length
section
variable {X:Cx}{pins:List (Addr×Obj)}{σ:List TU}{H H':Hp}{h':Heap}
theorem Cx.Ok.nofr (ok:X.Ok){b:Addr}{o:Obj}(e:X.base.get? b=some o):b∉X.fs:=λhb=>by
 have:=(ok.funs.mem hb).1;rw[e] at this;cases this
theorem Inv.bs (I:Inv X pins σ H s):∀b o,X.base.get? b=some o->s.heap.get? b=some o/\H b=none:=λb o e=>
 ⟨I.base.keep b o (I.ok.bs b o e).1 (I.ok.bs b o e).2 (I.ok.nofr e) (I.ok.noex b o e),I.base.free b o (I.ok.bs b o e).1 (I.ok.bs b o e).2 (I.ok.noex b o e)⟩
theorem Inv.bk (I:Inv X pins σ H s):∀b o,X.base.get? b=some o->s.heap.get? b=some o:=λb o e=>(I.bs b o e).1
theorem Inv.mod (I:Inv X pins σ H s):Mod X.K X.mg X.base:=I.ok.mod
theorem Inv.kIn (I:Inv X pins σ H s):X.K.In s.heap:=I.ok.mod.kin.keeps I.bk
theorem Inv.lt (I:Inv X pins σ H s):X.env.locals<s.heap.objs.size:=let ⟨_,j,_⟩:=I.loc;j.lt
theorem Inv.sz (I:Inv X pins σ H s):X.s₀.heap.objs.size<=s.heap.objs.size:=aW I.ok.above (cL I.lt)
theorem Inv.nofs (I:Inv X pins σ H s){a:Addr}(h:s.heap.objs.size<=a):a∉X.fs:=λhb=>by
 obtain⟨_,o,j,_⟩:=I.ok.funs.mem hb;exact absurd (aC (Zp j) (aW I.sz h)) (bw _)
theorem Inv.cne (I:Inv X pins σ H s):∀x c,X.env.cells.lookup x=some c->c≠X.env.locals:=λx c e z=>by
 obtain⟨v,o,J,hd⟩:=I.cell x c e;obtain⟨m,⟨M,O,Y,j,q,_⟩,_⟩:=I.loc;rw[z,j] at J;cases J;rw[q] at hd;cases hd
theorem Inv.funs (I:Inv X pins σ H s):s.heap.FunFrames X.base X.outer:=by
 have all:∀(l:List Env),(∀b∈frs l,b∈X.fs)->X.s₀.heap.FunFrames X.base l->s.heap.FunFrames X.base l:=by
  intro l;induction l with
  |nil=>intro _ _;trivial
  |cons env r J=>
   intro q M;obtain⟨O,⟨L,o,hf,Y,ho,hd⟩,hr⟩:=M;have j:L∈X.fs:=q L (by unfold frs;rw[bY,hf];exact ar);obtain⟨sl,e⟩:=I.base.slot L o ho (I.ok.frf L j) j λz=>I.ok.exfs L z j;exact⟨O,⟨L,_,hf,Y,e,hd⟩,J (λb hb=>q b (by unfold frs;rw[bY,hf];exact ao _ hb)) hr⟩
 exact all X.outer (λ_ hb=>hb) I.ok.funs
theorem Inv.stack (I:Inv X pins σ H s):s.heap.FunFrames X.base X.stack:=by
 rcases I.ok.stk with e|⟨e,hf⟩
 ·rw[e];exact I.funs
 ·rw[e]
  obtain⟨m,j,_⟩:=I.loc;refine .cons (by rw[I.ok.kind];decide) hf j ?_ I.funs;exact lU (aW I.ok.bsz I.ok.above)
theorem Inv.stkSub (I:Inv X pins σ H s):∀b∈frs X.stack,b∈X.env.locals::X.fs:=λb hb=>by
 rcases I.ok.stk with e|⟨e,hf⟩
 ·rw[e] at hb;exact ao _ hb
 ·rw[e] at hb
  unfold frs at hb;rw[bY,hf] at hb;exact hb
theorem Inv.stkFree (I:Inv X pins σ H s):∀b∈frs X.stack,H b=none:=λb hb=>by
 rcases aF.mp (I.stkSub b hb) with e|hb
 ·rw[e];exact I.free
 ·obtain⟨_,o,j,_⟩:=I.ok.funs.mem hb
  exact I.base.free b o j (I.ok.frf b hb) λz=>I.ok.exfs b z hb
theorem Inv.step {g':Array GenState}{t':Nat}{d':lB}{ch:TW}(I:Inv X pins σ H s)
  (J:∀b∈ch,(b∈X.ex\/X.s₀.heap.objs.size<=b)/\b≠X.env.locals/\(∀x c,X.env.cells.lookup x=some c->c≠b)/\∀p∈X.pn++pins,p.1≠b)
  (keep:∀b o,b≠X.env.locals->b∉X.fs->b∉ch->s.heap.get? b=some o->H b=none->h'.get? b=some o)
  (slot:∀b o,b≠X.env.locals->b∈X.fs->b∉ch->s.heap.get? b=some o->H b=none->∃sl,h'.get? b=some {o with slots:=sl}) (free:∀b o,b∉ch->s.heap.get? b=some o->H b=none->H' b=none)
  (there:∀b o,b∉ch->s.heap.get? b=some o->∃o',h'.get? b=some o')
  (n6:∀b xs,H b=some (.tup xs)->H' b=some (.tup xs)) (n8:∀b o u,H b=some (.frz o u)->H' b=some (.frz o u)) (n9:∀b ps,H b=some (.tbl ps)->∃o0,H' b=some (.tbl (ps++o0)))
  (ns:∀m,s.heap.Ns X.env.locals m->h'.Ns X.env.locals m) (hok:X9 X.prog X.w H' h') (hg:iQ g') :
  Inv X pins σ H' {s with heap:=h',gens:=g',drawn:=d',toks:=t'}:=by
 have o5:∀b o,X.s₀.heap.get? b=some o->b≠X.env.locals:=λb o e=>ay (aC (Zp e) I.ok.above);have neC:∀b o,X.s₀.heap.get? b=some o->b∉X.ex->b∉ch:=λb o e j hb=>by
  rcases (J b hb).1 with z|z
  ·exact j z
  ·exact absurd (aC (Zp e) z) (bw _)
 have M:∀x c,X.env.cells.lookup x=some c->∀v,s.heap.IsCell c v->h'.IsCell c v:=λx c e v ⟨o,ho,hd⟩=>by
  have O:c∉ch:=λz=>(J c z).2.2.1 x c e rfl;by_cases hc:c∈X.fs
  ·obtain⟨sl,q⟩:=slot c o (I.cne x c e) hc O ho (I.freeC x c e)
   exact⟨_,q,hd⟩
  ·exact⟨o,keep c o (I.cne x c e) hc O ho (I.freeC x c e),hd⟩
 refine⟨I.ok,I.os,hg,⟨λb o e n hb j=>?_,λb o e n hb j=>?_,λb o e n j=>?_,λb o e j=>?_,λb xs e=>n6 b xs (I.base.tups b xs e),λb o xs e=>n8 b o xs (I.base.frzs b o xs e),λb ps e=>?_⟩,?_,λx c e=>?_,?_,λx c e=>?_,λp hp=>?_,hok,I.len⟩
 ·exact keep b o (o5 b o e) hb (neC b o e j) (I.base.keep b o e n hb j) (I.base.free b o e n j)
 ·obtain⟨sl,Y⟩:=I.base.slot b o e n hb j
  obtain⟨o6,e2⟩:=slot b _ (o5 b o e) hb (neC b o e j) Y (I.base.free b o e n j);exact⟨o6,e2⟩
 ·obtain⟨o',Y⟩:=I.base.there b o e j
  exact free b o' (neC b o e j) Y (I.base.free b o e n j)
 ·obtain⟨o',Y⟩:=I.base.there b o e j
  exact there b o' (neC b o e j) Y
 ·obtain⟨m1,Y⟩:=I.base.tbls b ps e
  obtain⟨m2,e2⟩:=n9 b _ Y;exact⟨m1++m2,by rw[e2,Array.append_assoc]⟩
 ·obtain⟨m,hn,hl⟩:=I.loc
  refine⟨m,ns m hn,λi x v Y e2 e3=>?_⟩;obtain⟨u,r,l⟩:=hl i x v Y e2 e3;refine⟨u,r,?_⟩;rcases l with l|⟨k,c,e,z⟩
  ·exact .inl l
  ·exact .inr ⟨k,c,e,M x c e _ z⟩
 ·obtain⟨v,z⟩:=I.cell x c e
  exact⟨v,M x c e v z⟩
 ·obtain⟨m,⟨o,_,_,ho,_⟩,_⟩:=I.loc
  exact free _ o (λz=>(J _ z).2.1 rfl) ho I.free
 ·obtain⟨v,o,ho,hd⟩:=I.cell x c e
  exact free c o (λz=>(J c z).2.2.1 x c e rfl) ho (I.freeC x c e)
 ·obtain⟨e,n,ne,nf,d⟩:=I.pin p hp
  have O:p.1∉ch:=λz=>(J p.1 z).2.2.2 p hp rfl;exact⟨keep p.1 p.2 ne nf O e n,free p.1 p.2 O e n,ne,nf,d⟩
theorem Inv.un {t':Nat}(I:Inv X pins σ H s)(u:Un X.fs [] H H' s.heap h')(q:X9 X.prog X.w H' h'):Inv X pins σ H' {s with heap:=h',toks:=t'}:=by
 obtain⟨m,⟨o,es,ep,O,r⟩,_⟩:=id I.loc;obtain⟨sl,Y⟩:=u.any O I.free (by simp);exact I.step (g':=s.gens) (d':=s.drawn) (ch:=[]) (λ_ z=>nomatch z) (λb o _ hb _ e n=>u.keep b o e n hb (by simp)) (λb o _ hb _ e n=>u.slot b o e n hb (by simp)) (λb o _ e n=>u.free b o e n (by simp)) (λb o _ e=>u.there b o e (by simp)) u.tups u.frzs u.tbls (λm' hm=>by
  obtain⟨o',J,M,j,r'⟩:=hm;rw[O] at j;cases j;exact⟨_,J,M,Y,r'⟩) q I.bare
theorem Inv.call {g':Array GenState}{t':Nat}{d':lB}{ch:TW}(I:Inv X pins σ H s)(u:Un (frs X.stack) ch H H' s.heap h')(M:X9 X.prog X.w H' h')(hg:iQ g')
  (q:∀b∈ch,(b∈X.ex\/X.s₀.heap.objs.size<=b)/\b≠X.env.locals/\(∀x c,X.env.cells.lookup x=some c->c≠b)/\∀p∈X.pn++pins,p.1≠b) :
  Inv X pins σ H' {s with heap:=h',gens:=g',drawn:=d',toks:=t'}:=by
 obtain⟨m,⟨o,es,ep,ho,r⟩,_⟩:=id I.loc;obtain⟨sl,O⟩:=u.any ho I.free λz=>(q _ z).2.1 rfl;exact I.step (ch:=ch) q (λb o O hb j e n=>u.keep b o e n (λz=>(aF.mp (I.stkSub b z)).elim O hb) j) (λb o _ _ j e n=>u.any e n j) (λb o j e n=>u.free b o e n j) (λb o j e=>u.there b o e j) u.tups u.frzs u.tbls (λm' hm=>by
  obtain⟨o',Y,n6,J,r'⟩:=hm;rw[ho] at J;cases J;exact⟨_,Y,n6,O,r'⟩) M hg
theorem Inv.turned {t':Nat}{it:Addr}(I:Inv X pins σ H s)(k:∀b o,b≠it->s.heap.get? b=some o->h'.get? b=some o)(O:H it=none)(M:it≠X.env.locals)
  (Y:it∈X.ex\/X.s₀.heap.objs.size<=it) (h2:∀x c,X.env.cells.lookup x=some c->c≠it) (h3:∀p∈X.pn++pins,p.1≠it):Inv X pins σ H {s with heap:=h',toks:=t'}:=by
 have J:∀b u,H b=some u->b≠it:=λb u e z=>by rw[z,O] at e;cases e
 refine I.step (g':=s.gens) (d':=s.drawn) (ch:=[it]) (λb hb=>?_) (λb o _ _ j e _=>k b o (λz=>j (by simp[z])) e) (λb o _ _ j e _=>⟨o.slots,k b o (λz=>j (by simp[z])) e⟩) (λ_ _ _ _ n=>n)
  (λb o j e=>⟨o,k b o (λz=>j (by simp[z])) e⟩) (λ_ _ e=>e) (λ_ _ _ e=>e) (λb ps e=>⟨#[],by rw[e];simp⟩) (λm hm=>?_) (λb u e=>?_) I.bare
 ·have e:b=it:=by simpa using hb
  subst e;exact⟨Y,M,h2,h3⟩
 ·obtain⟨o,es,ep,ho,r⟩:=hm
  exact⟨o,es,ep,k _ o (bf M) ho,r⟩
 ·refine (I.hok b u e).stay (λc v j q=>k c v ?_ q) (λ_ q=>q) λ_ _ q=>q
  rcases j with z|z
  ·rw[z];exact J b u e
  ·exact J c _ z
theorem Inv.tok (I:Inv X pins σ H s)(t:Nat):Inv X pins σ H {s with toks:=t}:=I.un (h':=s.heap) (t':=t) Un.refl I.hok
theorem Inv.kept {t':Nat}(I:Inv X pins σ H s)(k:∀b u,s.heap.get? b=some u->h'.get? b=some u):Inv X pins σ H {s with heap:=h',toks:=t'}:=I.un (Un.kept k) (I.hok.kept k)
theorem Inv.laid {a:Addr}{o:HO}{t':Nat}(I:Inv X pins σ H s)(k:∀b u,s.heap.get? b=some u->h'.get? b=some u)(j:s.heap.objs.size<=a)(q:Ys X.prog X.w (upd H a o) h' a o) :
  Inv X pins σ (upd H a o) {s with heap:=h',toks:=t'}:=I.un (Un.laid k j (I.hok.fresh j)) (I.hok.laid k j q)
theorem Inv.write {x e:Addr}{o:HO}{t':Nat}(I:Inv X pins σ H s)(J:Mut (H x))(M:e=x\/H e=some (.own x))(k:∀b u,b≠e->s.heap.get? b=some u->h'.get? b=some u)(j:∃u,h'.get? e=some u)
  (q:Ys X.prog X.w (upd H x o) h' x o):Inv X pins σ (upd H x o) {s with heap:=h',toks:=t'}:=I.un (Un.write J M k j) (I.hok.write J M k j q)
theorem Inv.pins_of {j:List (Addr×Obj)}(I:Inv X pins σ H s)(h:∀p∈j,s.heap.get? p.1=some p.2/\H p.1=none/\p.1≠X.env.locals/\p.1∉X.fs/\∀v,p.2.data≠.cell v):Inv X j σ H s:=
 ⟨I.ok,I.os,I.bare,I.base,I.loc,I.cell,I.free,I.freeC,λp q=>(bO.mp q).elim (λz=>I.pin p (cg _ z)) (h p),I.hok,I.len⟩
theorem Zc9 {N:List Str}(q:N.Nodup){i j:Nat}{x:Str}(a:N[i]?=some x)(b:N[j]?=some x):i=j:=by
 obtain⟨O,J⟩:=ae.mp a;obtain⟨Y,M⟩:=ae.mp b;exact (nH q).mp (J.trans M.symm)
theorem ZaM {M:Model}{A:Around}{E:TY}{i:Nat}{x:Str}{v:V}{u:Value}{Q:Unit->Shared->Prop}(I:Inv X pins σ H s)(hN:X.N.Nodup)(hi:X.N[i]?=some x)(hx:Loc X.env.scope x)(r:RelV v u)
  (h:∀s',Inv X pins (σ.set i (some v)) H s'->(∃a,br a s.heap s'.heap/\(a=X.env.locals\/X.env.cells.lookup x=some a))->Q () s') (hf:X.fn x=true\/X.env.scope.names.lookup x=some .local:=by first|exact .inl rfl|exact .inr rfl|assumption):wpAny M A (storeName X.env x u) Q E s:=by
 obtain⟨m,hn,hl⟩:=id I.loc;have o0:(X.env.scope.kind == .class || (X.env.scope.kind == .module && X.env.locals != X.env.globals))=false:=by rw[I.ok.kind];rfl
 have n8:i < σ.length:=by rw[I.len];exact (ae.mp hi).1
 have cne:=I.cne;have O:∀{a:Addr}{h':Heap},(∃o,s.heap.get? a=some o/\H a=none)->br a s.heap h'->X9 X.prog X.w H h':=λ{a h'} ha J b ob e=>by
  obtain⟨_,_,n6⟩:=ha;refine (I.hok b ob e).stay (λc w' hc q=>(J.2 c ?_).trans q) (λ_ q=>q) λ_ _ q=>q;rintro rfl;rcases hc with rfl|hc
  ·rw[n6] at e;cases e
  ·rw[n6] at hc;cases hc
 rcases hx with hk|hk
 ·refine wpAny_storeName_local hk hn (λh' o9 J=>?_) o0
  obtain⟨oL,_,_,p3,_⟩:=id hn;refine h _ ⟨I.ok,I.os,I.bare,⟨λb o e n hb hx=>?_,λb o e n hb hx=>?_,I.base.free,λb o e hx=>?_,I.base.tups,I.base.frzs,I.base.tbls⟩,⟨_,o9,λj y v' Y e2 e3=>?_⟩,λy c e=>?_,I.free,I.freeC,λp hp=>?_,O ⟨oL,p3,I.free⟩ J,by simpa using I.len⟩ ⟨_,J,.inl rfl⟩
  ·exact (J.2 b (ay (aC (Zp e) I.ok.above))).trans (I.base.keep b o e n hb hx)
  ·obtain⟨sl,Y⟩:=I.base.slot b o e n hb hx
   exact⟨sl,(J.2 b (ay (aC (Zp e) I.ok.above))).trans Y⟩
  ·obtain⟨o',Y⟩:=I.base.there b o e hx
   exact⟨o',(J.2 b (ay (aC (Zp e) I.ok.above))).trans Y⟩
  ·by_cases hj:j=i
   ·subst hj
    rw[hi] at Y;cases Y;rw[kW n8] at e2;cases e2;exact⟨u,r,.inl ⟨hk,by simp⟩⟩
   ·rw[fY (bf hj)] at e2
    obtain⟨u',r',q⟩:=hl j y v' Y e2 e3;refine⟨u',r',?_⟩;rcases q with ⟨k,e⟩|⟨k,c,e,z⟩
    ·refine .inl ⟨k,?_⟩
     have:y≠x:=λe=>hj (Zc9 hN Y (e▸hi));simp[this,e]
    ·exact .inr ⟨k,c,e,z.sameBut J (cne y c e)⟩
  ·obtain⟨w',z⟩:=I.cell y c e
   exact⟨w',z.sameBut J (cne y c e)⟩
  ·obtain⟨e,n,ne,nf,d⟩:=I.pin p hp
   exact⟨(J.2 p.1 ne).trans e,n,ne,nf,d⟩
 ·have n9:X.fn x=true:=by
   rcases hf with z|z
   ·exact z
   ·rw[z] at hk;cases hk
  obtain⟨c,hc⟩:=I.ok.has x (.inl hk);obtain⟨w',z⟩:=I.cell x c hc;refine wpAny_storeName_cell I.ok.kind hk hc z (λh' o5 J=>?_);obtain⟨oc,o6,o7⟩:=id z;refine h {s with heap:=h'} ⟨I.ok,I.os,I.bare,⟨λb o e n hb hx=>?_,λb o e n hb hx=>?_,I.base.free,λb o e hx=>?_,I.base.tups,I.base.frzs,I.base.tbls⟩,⟨m,hn.sameBut J (bf (cne x c hc)),λj y v' Y e2 e3=>?_⟩,λy c' e=>?_,I.free,I.freeC,λp hp=>?_,O ⟨oc,o6,I.freeC x c hc⟩ J,by simpa using I.len⟩ ⟨c,J,.inr hc⟩
  ·exact (J.2 b (ay (aC (Zp e) (I.ok.cab x c n9 hc)))).trans (I.base.keep b o e n hb hx)
  ·obtain⟨sl,Y⟩:=I.base.slot b o e n hb hx
   exact⟨sl,(J.2 b (ay (aC (Zp e) (I.ok.cab x c n9 hc)))).trans Y⟩
  ·obtain⟨o',Y⟩:=I.base.there b o e hx
   exact⟨o',(J.2 b (ay (aC (Zp e) (I.ok.cab x c n9 hc)))).trans Y⟩
  ·by_cases hj:j=i
   ·subst hj
    rw[hi] at Y;cases Y;rw[kW n8] at e2;cases e2;exact⟨u,r,.inr ⟨.inl hk,c,hc,o5⟩⟩
   ·rw[fY (bf hj)] at e2
    obtain⟨u',r',q⟩:=hl j y v' Y e2 e3;refine⟨u',r',?_⟩;rcases q with q|⟨k,c',e,z'⟩
    ·exact .inl q
    ·refine .inr ⟨k,c',e,z'.sameBut J ?_⟩
     rintro rfl;exact hj (Zc9 hN Y (I.ok.inj _ _ _ e hc▸hi))
  ·by_cases o8:c'=c
   ·subst o8;exact⟨_,o5⟩
   ·obtain⟨w2,z2⟩:=I.cell y c' e
    exact⟨w2,z2.sameBut J o8⟩
  ·obtain⟨e,n,ne,nf,d⟩:=I.pin p hp
   refine⟨(J.2 p.1 ?_).trans e,n,ne,nf,d⟩;intro q;rw[q,o6] at e;have q':oc=p.2:=aB e;exact d w' (by rw[<-q'];exact o7)
theorem WF {M:Model}{A:Around}{E:TY}{i:Nat}{x:Str}{v:V}{u:Value}{Q:Unit->Shared->Prop}(I:Inv X pins σ H s)(j:X.N.Nodup)(q:X.N[i]?=some x)(J:Loc X.env.scope x)(r:RelV v u)
  (h:∀s',Inv X pins (σ.set i (some v)) H s'->Q () s') (O:X.fn x=true\/X.env.scope.names.lookup x=some .local:=by first|exact .inl rfl|exact .inr rfl|assumption):wpAny M A (storeName X.env x u) Q E s:=
 ZaM I j q J r (λs' Y _=>h s' Y) O
theorem Inv.call' {s':Shared}{ch:TW}(I:Inv X pins σ H s)(Y:s'.os=s.os)(u:Un (frs X.stack) ch H H' s.heap s'.heap)(j:X9 X.prog X.w H' s'.heap)(hg:iQ s'.gens)
  (q:∀b∈ch,(b∈X.ex\/X.s₀.heap.objs.size<=b)/\b≠X.env.locals/\(∀x c,X.env.cells.lookup x=some c->c≠b)/\∀p∈X.pn++pins,p.1≠b):Inv X pins σ H' s':=by
 obtain⟨h',J,M,O,o'⟩:=s';have e:o'=s.os:=Y;subst e;exact I.call (g':=J) (t':=O) (d':=M) u j hg q
end
noncomputable abbrev XK:=Value->Option Addr->Hp->Prop
noncomputable abbrev St:=List TU
noncomputable abbrev VK:=V->Hp->Prop
noncomputable abbrev TE:=St->Hp->VK->Prop
noncomputable abbrev TT:=St->Hp->(Bool->Hp->Prop)->Prop
noncomputable abbrev TA:=St->Hp->(TV->Hp->Prop)->Prop
structure WZ where
 nx:St->Hp->Prop
 rt:VK
 bk:St->Hp->Prop:=λ_ _=>False
 ct:St->Hp->Prop:=λ_ _=>False
noncomputable abbrev TS:=WZ->St->Hp->Prop
def EP (X:Cx)(j:List (Addr×Obj))(J:St)(Q:VK)(u:Value)(s':Shared):Prop:=∃v q,Inv X j J q s'/\RelV v u/\Q v q
def TP (X:Cx)(j:List (Addr×Obj))(J:St)(Q:Bool->Hp->Prop)(b:Bool)(s':Shared):Prop:=∃q,Inv X j J q s'/\Q b q
def AP (X:Cx)(j:List (Addr×Obj))(M:St)(Q:TV->Hp->Prop)(O:List Value)(s':Shared):Prop:=∃q J,Inv X j M J s'/\ZS q O/\Q q J
def SP (X:Cx)(q:List (Addr×Obj))(D:WZ)(f:Flow)(s':Shared):Prop:=
 match f with
 | .next=>∃ j J,Inv X q j J s'/\D.nx j J
 | .brk=>∃ j J,Inv X q j J s'/\D.bk j J
 | .cont=>∃ j J,Inv X q j J s'/\D.ct j J
 | .ret u=>∃v j J,Inv X q j J s'/\RelV v u/\D.rt v J
def PE (X:Cx)(e:Expr)(t:TE):Prop:=
 ∀(j:List (Addr×Obj)) (s:Shared) (q:St) (H:Hp) (Q:VK),Inv X j q H s->t q H Q->wpAny (model X.prog X.w) X.A (eval e X.env) (EP X j q Q) X.xe s
def PT (X:Cx)(e:Expr)(t:TT):Prop:=
 ∀(j:List (Addr×Obj)) (s:Shared) (q:St) (H:Hp) (Q:Bool->Hp->Prop),Inv X j q H s->t q H Q->wpAny (model X.prog X.w) X.A (isTrue e X.env (eval e X.env)) (TP X j q Q) X.xe s
def PW (X:Cx)(e:Expr)(t:TT):Prop:=
 ∀(q:Sem Value) (j:List (Addr×Obj)) (s:Shared) (J:St) (H:Hp) (Q:Bool->Hp->Prop),Inv X j J H s->t J H Q->wpAny (model X.prog X.w) X.A (isTrue e X.env q) (TP X j J Q) X.xe s
theorem PW.pt {X:Cx}{e:Expr}{t:TT}(h:PW X e t):PT X e t:=h _
def PA (X:Cx)(J:List Expr)(t:TA):Prop:=
 ∀(pos:Pos) (j:List (Addr×Obj)) (s:Shared) (q:St) (H:Hp) (Q:TV->Hp->Prop),Inv X j q H s->t q H Q->wpAny (model X.prog X.w) X.A (spliced (backTo pos (starEach J X.env))) (AP X j q Q) X.xe s
def PS (X:Cx)(st:Stmt)(t:TS):Prop:=
 ∀(j:List (Addr×Obj)) (s:Shared) (q:St) (H:Hp) (D:WZ),Inv X j q H s->t D q H->wpAny (model X.prog X.w) X.A (exec st X.env) (SP X j D) X.xe s
def PSs (X:Cx)(st:List Stmt)(t:TS):Prop:=
 ∀(j:List (Addr×Obj)) (s:Shared) (q:St) (H:Hp) (D:WZ),Inv X j q H s->t D q H->wpAny (model X.prog X.w) X.A (execs st X.env) (SP X j D) X.xe s
theorem Yz {α:Type}{t:Sem α}{Q j:α->Shared->Prop}{M:Model}{A:Around}{E:TY}{s:Shared}(h:wpAny M A t Q E s)(q:∀a s,Q a s->j a s):wpAny M A t j E s:=cw h q λ_ _ x=>x
section
variable {X:Cx}
inductive ZmP (i:Nat) (σ:L2.St) (H:Hp) (Q:VK):Prop
 |mk (v:_):(σ[i]?=some (some v))->(Q v H)->ZmP i σ H Q
def tC (v:V):TE:=λ_ H Q=>Q v H
theorem Znl {i:Nat}{x:Str}{pos:Pos}(hN:X.N[i]?=some x)(hv:Vis X.env.scope x)(O:(x == ("__debug__":Str))=false:=by decide)(Y:(x == ("__classdict__":Str))=false:=by decide):PE X (.Name x pos) (ZmP i):=by
 intro M s σ H Q I h;obtain⟨v,e,h⟩:=h;obtain⟨m,hn,hl⟩:=I.loc;obtain⟨u,r,l⟩:=hl i x v hN e hv;have q:EP X M σ Q u s:=⟨v,H,I,r,h⟩;rcases l with ⟨J,hm⟩|⟨J,c,hc,j⟩
 ·exact wpAny_Name (wpAny_loadName_local I.ok.kind J hn hm q) O
 ·rcases J with J|J
  ·exact wpAny_Name (wpAny_loadName_cell I.ok.kind J hc j q) O
  ·exact wpAny_Name (wpAny_loadName_free I.ok.kind J hc j q Y) O
theorem Zx {i j pos}:PE X (.Constant (.int i) j pos) (tC (.int i)):=λ_ _ _ H _ I h=>wpAny_Constant_int ⟨.int i,H,I.tok _,⟨_,rfl⟩,h⟩
theorem Xe {b j pos}:PE X (.Constant (.bool b) j pos) (tC (.bl b)):=λ_ _ _ H _ I h=>Constant_bool ⟨.bl b,H,I,rfl,h⟩
theorem Znm {j pos}:PE X (.Constant .none j pos) (tC .non):=λ_ _ _ H _ I h=>Constant_none ⟨.non,H,I,rfl,h⟩
theorem Y7 {x j pos}:PE X (.Constant (.str x) j pos) (tC (.str x)):=λ_ _ _ H _ I h=>Calls.Constant_str ⟨.str x,H,I.tok _,⟨_,rfl⟩,h⟩
def Gl (X:Cx)(x:Str):Prop:=X.env.kindOf x=some .globalImplicit
theorem Zlm {E:TY}{j:List (Addr×Obj)}{s:Shared}{σ:St}{H:Hp}{x:Str}{u:Value}{pos:Pos}{Q:TY}(I:Inv X j σ H s)(q:Gl X x)(J:X.mg x=some u)(h:Q u s)
  (M:(x == ("__debug__":Str))=false:=by decide):wpAny (model X.prog X.w) X.A (eval (.Name x pos) X.env) Q E s:=
 jZ I.ok.kind q (Calls.loadGlobal_global (by rw[I.ok.glob];exact I.mod.glob.keeps I.bk) J h) M
theorem Jt {E:TY}{j:List (Addr×Obj)}{s:Shared}{σ:St}{H:Hp}{x:Str}{u:Value}{pos:Pos}{Q:TY}(I:Inv X j σ H s)(q:Gl X x)(J:X.mg x=none)(M:bootBuiltins x=some u)(h:Q u s)
  (O:x ≠ "__name__":=by decide) (Y:(x == ("__debug__":Str))=false:=by decide):wpAny (model X.prog X.w) X.A (eval (.Name x pos) X.env) Q E s:=by
 obtain⟨mb,h1,h2⟩:=I.mod.blt;exact jZ I.ok.kind q (Calls.loadGlobal_builtin (by rw[I.ok.glob];exact I.mod.glob.keeps I.bk) J (by rw[I.ok.blt];exact h1.keeps I.bk) ((h2 x O).trans M) h) Y
theorem ZkL {x:Str}{v:V}{u:Value}{pos:Pos}(j:Gl X x)(q:X.mg x=none)(J:bootBuiltins x=some u)(r:RelV v u)(M:x ≠ "__name__":=by decide)(O:(x == ("__debug__":Str))=false:=by decide):PE X (.Name x pos) (tC v):=
 λ_ _ _ H _ I h=>Jt I j q J ⟨v,H,I,r,h⟩ M O
variable {a b:Expr}{ta tb:TE}{pos:Pos}
def PC (X:Cx)(op:CmpOp)(a b:Expr)(t:TE):Prop:=
 ∀(j:List (Addr×Obj)) (s:Shared) (M:St) (H:Hp) (Q:VK),Inv X j M H s->t M H Q->
  wpAny (model X.prog X.w) X.A (eval a X.env) (λv q=>wpAny (model X.prog X.w) X.A (eval b X.env) (λu J=>wpAny (model X.prog X.w) X.A (compareOp op v u) (EP X j M Q) X.xe J) X.xe q) X.xe s
theorem ZiH (b:Expr){op:CmpOp}(h:op≠.In)(j:op≠.NotIn):behindInMarks op b=false:=by
 have q:(op == CmpOp.In)=false:=by cases op <;> first|rfl|exact absurd rfl h
 have J:(op == CmpOp.NotIn)=false:=by cases op <;> first|rfl|exact absurd rfl j
 cases b <;> simp[behindInMarks,q,J]
def ZoT (ta:TE):TE:=λj H Q=>ta j H λx q=>Q (.bl (!decide (x=.non))) q
theorem RelV.none_iff {x:V}{v:Value}(r:RelV x v):(v == a6)=decide (x=.non):=by
 cases x with
 |non=>cases r;rfl
 |bl _=>cases r;rfl
 |int _=>obtain⟨t,rfl⟩:=r;rfl
 |str _=>obtain⟨t,rfl⟩:=r;rfl
 |byt _=>obtain⟨t,rfl⟩:=r;rfl
 |flt _=>obtain⟨t,rfl⟩:=r;rfl
 |ref _=>cases r;rfl
 |ty _=>cases r;rfl
theorem ZkM {j q}(M:PE X a ta):PC X .IsNot a (.Constant .none j q) (ZoT ta):=by
 intro J s O H Q I h;refine Yz (M J s O H _ I h) λv s1 ⟨x,Y,I1,r1,q1⟩=>?_;exact Constant_none (isnot_none_gen ⟨.bl _,Y,I1,by rw[r1.none_iff];rfl,q1⟩)
inductive iBl (Q:Bool->Hp->Prop) (x:V) (H:Hp):Prop
 |mk (c:Bool):x=.bl c->Q c H->iBl Q x H
def tB (t:TE):TT:=λj H Q=>t j H (iBl Q)
theorem Zep {op:CmpOp}{t:TE}(h:PC X op a b t)(J:behindInMarks op b=false:=by first|exact ZiH _ (by decide) (by decide)|rfl):PT X (.Compare a [op] [b] pos) (tB t):=by
 intro j s M H Q I O;refine no (Yz (h j s M H _ I O) λv s1 J=>Yz J λu s2 Y=>Yz Y λc s3 ⟨x,H1,I1,r1,q1⟩=>?_) J;obtain⟨d,rfl,q⟩:=q1;cases r1;exact fQ ⟨H1,I1,q⟩
theorem Wz {e:Expr}{t:TE}(h:PE X e t)(M:∀j,isTrue e X.env j=(do let v <-j;standAt e.pos;holding [v] (truthy v)):=by intro _;rfl):PT X e (tB t):=by
 intro J s O H Q I Y;refine isTrue_plain (Yz (h J s O H _ I Y) λv s1 ⟨x,H1,I1,r1,q1⟩=>?_) (M _);obtain⟨d,rfl,q⟩:=q1;cases r1;exact fQ ⟨H1,I1,q⟩
variable {tA tB':TT}{rest:List Expr}
def ZqW (t u:TT):TT:=λj H Q=>t j H λc q=>if c=true then u j q Q else Q false q
def tOr (t u:TT):TT:=λj H Q=>t j H λc q=>if c=true then Q true q else u j q Q
def ZqR (t:TT):TT:=λj H Q=>t j H λc q=>Q (!c) q
theorem ZbH (q:PT X a tA):PW X (.BoolOp .And [a] pos) tA:=by
 intro M j s J H Q I h;refine isTrue_and (Yz (q j s J H Q I h) λc O e=>?_);cases c with
 |true=>exact isTrue_and_nil e
 |false=>exact e
theorem XU (q:PT X a tA):PW X (.BoolOp .Or [a] pos) tA:=by
 intro M j s J H Q I h;refine isTrue_or (Yz (q j s J H Q I h) λc O e=>?_);cases c with
 |false=>exact isTrue_or_nil e
 |true=>exact e
theorem Zeo (Y:PT X a tA)(hb:PW X (.BoolOp .And (b::rest) pos) tB'):PW X (.BoolOp .And (a::b::rest) pos) (ZqW tA tB'):=by
 intro wh j s q H Q I h;refine isTrue_and (Yz (Y j s q H _ I h) λc s1 ⟨J,M,O⟩=>?_);cases c with
 |true=>exact hb wh j s1 q J Q M O
 |false=>exact⟨J,M,O⟩
theorem VX (Y:PT X a tA)(hb:PW X (.BoolOp .Or (b::rest) pos) tB'):PW X (.BoolOp .Or (a::b::rest) pos) (tOr tA tB'):=by
 intro wh j s q H Q I h;refine isTrue_or (Yz (Y j s q H _ I h) λc s1 ⟨J,M,O⟩=>?_);cases c with
 |true=>exact⟨J,M,O⟩
 |false=>exact hb wh j s1 q J Q M O
theorem XV (q:PT X a tA):PT X (.UnaryOp .Not a pos) (ZqR tA):=by
 intro j s J H Q I h;exact isTrue_not (q j s J H (λc M=>Q (!c) M) I h)
def tIf (t:TT)(ta tb:TE):TE:=λj H Q=>t j H λc q=>if c=true then ta j q Q else tb j q Q
theorem Zc2 {c:Expr}(hc:PT X c tA)(ha:PE X a ta)(hb:PE X b tb):PE X (.IfExp c a b pos) (tIf tA ta tb):=by
 intro j s q H Q I h;refine wpAny_IfExp (Yz (hc j s q H _ I h) λd J ⟨M,O,Y⟩=>?_);cases d with
 |true=>exact ha j J q M Q O Y
 |false=>exact hb j J q M Q O Y
end
def Wx (K:aa)(H:Hp)(a:Addr)(xs:TV):Prop:=
 Rd H a (.lst xs)\/
  ∃(o:Obj) (j:Array Value) (n:Nat),K.lookup a=some o/\o.cls=.type "list"/\o.dict=none/\o.data=.seq j n/\j.size<=sizeLine/\ZS xs j.toList
def XQ (K:aa)(H:Hp)(a:Addr)(xs:TV):Prop:=
 Rd H a (.tup xs)\/
  ∃(o:Obj) (j:Array Value) (n:Nat),K.lookup a=some o/\o.cls=.type "tuple"/\o.data=.seq j n/\j.size<=sizeLine/\ZS xs j.toList
def Zrz:Value->TU
 | .none=>some .non
 | .bool b=>some (.bl b)
 | .int i _=>some (.int i)
 | .str x _=>some (.str x)
 | .bytes b _=>some (.byt b)
 | .float b _=>some (.flt b)
 | .ref a=>some (.ref a)
 | .type n=>some (.ty n)
 |_=>none
theorem RelV.abs {x:V}{u:Value}(r:RelV x u):Zrz u=some x:=by
 cases x with
 |non=>cases r;rfl
 |bl _=>cases r;rfl
 |int _=>obtain⟨t,rfl⟩:=r;rfl
 |str _=>obtain⟨t,rfl⟩:=r;rfl
 |byt _=>obtain⟨t,rfl⟩:=r;rfl
 |flt _=>obtain⟨t,rfl⟩:=r;rfl
 |ref _=>cases r;rfl
 |ty _=>cases r;rfl
theorem RelV.inj {x y:V}{u:Value}(r:RelV x u)(q:RelV y u):x=y:=aB (r.abs.symm.trans q.abs)
theorem ZS.inj:∀{xs ys:TV}{us:List Value},ZS xs us->ZS ys us->xs=ys
 |_,_,_,.nil,.nil=>rfl
 |_,_,_,.cons r t,.cons j q=>by rw[r.inj j,ZS.inj t q]
section
variable {X:Cx}{pins:List (Addr×Obj)}{σ:St}{H:Hp}{a:Addr}{xs ys:TV}
theorem Wx.of {K:aa}(h:H a=some (.lst xs)):Wx K H a xs:=.inl (.inl h)
theorem XQ.of {K:aa}(h:H a=some (.tup xs)):XQ K H a xs:=.inl (.inl h)
theorem Inv.list (I:Inv X pins σ H s)(h:Wx X.K H a xs):∃j:List Value,ZS xs j/\PlainL s.heap a j.toArray/\xs.length<=sizeLine:=by
 rcases h with h|⟨o,j,n,q,J,hd,M,O,r⟩
 ·obtain⟨z,j,n,r,e⟩:=h.ok I.hok
  exact⟨j,r,⟨_,n,e,rfl,rfl,rfl⟩,z⟩
 ·refine⟨j.toList,r,⟨o,n,I.kIn a o q,J,hd,by simpa using M⟩,?_⟩
  have e:=r.length;simp only[Zr] at e;omega
theorem Inv.tuple (I:Inv X pins σ H s)(h:XQ X.K H a xs):∃j:List Value,ZS xs j/\lF s.heap a j.toArray/\xs.length<=sizeLine:=by
 rcases h with h|⟨o,j,n,q,J,M,O,r⟩
 ·obtain⟨z,j,r,p⟩:=h.ok I.hok
  exact⟨j,r,p,z⟩
 ·refine⟨j.toList,r,⟨o,I.kIn a o q,J,n,by simpa using M⟩,?_⟩
  have e:=r.length;simp only[Zr] at e;omega
theorem Inv.list_inj (I:Inv X pins σ H s)(h:Wx X.K H a xs)(h':Wx X.K H a ys):xs=ys:=by
 obtain⟨q,r,⟨o,n,e,_,_,d⟩,_⟩:=I.list h;obtain⟨j,O,⟨Y,n',J,_,_,M⟩,_⟩:=I.list h';rw[e] at J;cases J;rw[d] at M;injection M with d1 _;have:q=j:=by simpa using congrArg Array.toList d1
 subst this;exact r.inj O
theorem Inv.tuple_inj (I:Inv X pins σ H s)(h:XQ X.K H a xs)(h':XQ X.K H a ys):xs=ys:=by
 obtain⟨q,r,⟨o,e,_,n,d⟩,_⟩:=I.tuple h;obtain⟨j,O,⟨Y,J,_,n',M⟩,_⟩:=I.tuple h';rw[e] at J;cases J;rw[d] at M;injection M with d1 _;have:q=j:=by simpa using congrArg Array.toList d1
 subst this;exact r.inj O
end
noncomputable abbrev Cx.wish (X:Cx)(E:TY):Cx:={X with xe:=E}
noncomputable abbrev Cx.nox (X:Cx):Cx:=X.wish λ_ _=>False
theorem Cx.Ok.wish {X:Cx}(ok:X.Ok)(E:TY):(X.wish E).Ok:=
 ⟨ok.mod,ok.kind,ok.glob,ok.blt,ok.above,ok.inj,ok.has,ok.cab,ok.hd,ok.frames,ok.stk,ok.exf,ok.bs,ok.bsz,ok.noex,ok.exfs,ok.funs,ok.frf⟩
theorem Cx.Ok.unwish {X:Cx}{E:TY}(ok:(X.wish E).Ok):X.Ok:=
 ⟨ok.mod,ok.kind,ok.glob,ok.blt,ok.above,ok.inj,ok.has,ok.cab,ok.hd,ok.frames,ok.stk,ok.exf,ok.bs,ok.bsz,ok.noex,ok.exfs,ok.funs,ok.frf⟩
section
variable {X:Cx}{pins:List (Addr×Obj)}{σ:St}{H:Hp}
theorem Inv.wish (I:Inv X pins σ H s)(E:TY):Inv (X.wish E) pins σ H s:=⟨I.ok.wish E,I.os,I.bare,I.base,I.loc,I.cell,I.free,I.freeC,I.pin,I.hok,I.len⟩
theorem Inv.unwish (I:Inv (X.wish E) pins σ H s):Inv X pins σ H s:=⟨I.ok.unwish,I.os,I.bare,I.base,I.loc,I.cell,I.free,I.freeC,I.pin,I.hok,I.len⟩
theorem SP.unwish {D:WZ}{f:Flow}{s':Shared}(h:SP (X.wish E) pins D f s'):SP X pins D f s':=by
 cases f with
 |next=>obtain⟨j,J,I,q⟩:=h;exact⟨j,J,I.unwish,q⟩
 |brk=>obtain⟨j,J,I,q⟩:=h;exact⟨j,J,I.unwish,q⟩
 |cont=>obtain⟨j,J,I,q⟩:=h;exact⟨j,J,I.unwish,q⟩
 |ret u=>obtain⟨v,j,J,I,r,q⟩:=h;exact⟨v,j,J,I.unwish,r,q⟩
theorem PSs.nox {st:List Stmt}{t:TS}(h:PSs X.nox st t):PSs X st t:=λpins s σ H D I j=>
 cw (h pins s σ H D (I.wish _) j) (λ_ _ q=>q.unwish) λ_ _ z=>ef z
end
section
variable {X:Cx}{st:Stmt}{rest:List Stmt}{t u:TS}{e:Expr}{te:TE}{pos:Pos}
def ZoU:TS:=λD j H=>D.nx j H
noncomputable def WZ.sq (D:WZ)(n:St->Hp->Prop):WZ:={D with nx:=n}
def WZ.lp (D:WZ)(n:St->Hp->Prop):WZ:={D with nx:=n,ct:=n,bk:=D.nx}
def ZmQ (t u:TS):TS:=λD j H=>t (D.sq (u D)) j H
theorem Ya:PSs X [] ZoU:=λ_ _ j H _ I h=>iW ⟨j,H,I,h⟩
theorem Zs (M:PS X st t)(O:PSs X rest u):PSs X (st::rest) (ZmQ t u):=by
 intro j s Y H D I h;refine wpAny_execs_cons (Yz (M j s Y H (D.sq (u D)) I h) λf s1 q=>?_);cases f with
 |next=>
  obtain⟨J,H',I',q⟩:=q;exact O j s1 J H' D I' q
 |ret v=>exact q
 |brk=>exact q
 |cont=>exact q
theorem Zw (J:PS X st t):PSs X [st] t:=by
 intro j s M H D I h;refine wpAny_execs_cons (Yz (J j s M H D I h) λf O q=>?_);cases f with
 |next=>exact iW q
 |ret v=>exact q
 |brk=>exact q
 |cont=>exact q
theorem Inv.quiet {j:List (Addr×Obj)}{σ:St}{H:Hp}{s:Shared}(I:Inv X j σ H s):interactive X.env=false:=by simp[interactive,I.ok.kind]
def Zl7 (te:TE):TS:=λD j H=>te j H λ_ q=>D.nx j q
theorem YJ (J:PE X e te)(M:swapsWith e none pos.line X.env=pure false:=by rfl):PS X (.Expr e pos) (Zl7 te):=by
 intro j s q H D I h;exact wpAny_Expr_any (Yz (J j s q H _ I h) λv s1 ⟨x,O,Y,r1,q1⟩=>⟨q,O,Y,q1⟩) I.quiet M
def ZqP (te:TE):TS:=λD j H=>te j H D.rt
theorem ZE (q:PE X e te):PS X (.Return (some e) pos) (ZqP te):=by
 intro j s σ H D I h;exact wpAny_Return_some (Yz (q j s σ H _ I h) λv Y ⟨x,J,M,r1,O⟩=>⟨x,σ,J,M,r1,O⟩)
def ZqS (c:TT)(t u:TS):TS:=λD j H=>c j H λb q=>if b=true then t D j q else u D j q
theorem Y3 {c:Expr}{a b:List Stmt}{J:TT}(hc:PT X c J)(ha:PSs X a t)(hb:PSs X b u):PS X (.If c a b pos) (ZqS J t u):=by
 intro j s q H D I h;refine wpAny_If (Yz (hc j s q H _ I h) λd M ⟨O,Y,q1⟩=>?_);cases d with
 |true=>exact ha j M q O D Y q1
 |false=>exact hb j M q O D Y q1
end
noncomputable abbrev TG:=V->St->Hp->(St->Hp->Prop)->Prop
noncomputable abbrev TGs:=TV->St->Hp->(St->Hp->Prop)->Prop
def PG (X:Cx)(j:Expr)(t:TG):Prop:=
 ∀(q:List (Addr×Obj)) (s:Shared) (M:St) (H:Hp) (v:V) (u:Value) (Q:St->Hp->Prop),Inv X q M H s->RelV v u->t v M H Q->
  wpAny (model X.prog X.w) X.A (assign j X.env u) (λ_ Y=>∃ J O,Inv X q J O Y/\Q J O) X.xe s
def PGs (X:Cx)(ts:List Expr)(t:TGs):Prop:=
 ∀(j:List (Addr×Obj)) (s:Shared) (J:St) (H:Hp) (M:TV) (O:List Value) (Q:St->Hp->Prop),Inv X j J H s->ZS M O->t M J H Q->
  wpAny (model X.prog X.w) X.A (assignInOrder ((assignEach ts X.env).map (·.2)) O) (λ_ s'=>∃ q Y,Inv X j q Y s'/\Q q Y) X.xe s
noncomputable abbrev ZjK:=V->V->V->Hp->(Hp->Prop)->Prop
def Zos (X:Cx)(t:ZjK):Prop:=
 ∀(j:List (Addr×Obj)) (s:Shared) (q:St) (H:Hp) (o i v:V) (J M u:Value) (Q:Hp->Prop),Inv X j q H s->RelV o J->RelV i M->RelV v u->t o i v H Q->
  wpAny (model X.prog X.w) X.A (setItem J M u) (λ_ Y=>∃O,Inv X j q O Y/\Q O) X.xe s
noncomputable abbrev TIp:=V->V->Hp->VK->Prop
def PIp (X:Cx)(op:lx)(t:TIp):Prop:=
 ∀(j:List (Addr×Obj)) (s:Shared) (q:St) (H:Hp) (x y:V) (v u:Value) (Q:VK),Inv X j q H s->RelV x v->RelV y u->t x y H Q->
  wpAny (model X.prog X.w) X.A (inplaceOp op v u) (EP X j q Q) X.xe s
section
variable {X:Cx}{pos:Pos}
def Yj (i:Nat):TG:=λv j H Q=>Q (j.set i (some v)) H
theorem Zft {i:Nat}{x:Str}(q:X.N.Nodup)(J:X.N[i]?=some x)(M:Loc X.env.scope x)(O:X.fn x=true\/X.env.scope.names.lookup x=some .local:=by first|exact .inl rfl|exact .inr rfl|assumption):PG X (.Name x pos) (Yj i):=by
 intro j s σ H v u Q I r h;exact wpAny_assign_Name (WF I q J M r (λs' Y=>⟨_,H,Y,h⟩) O)
inductive ZgO (vs:TV) (σ:L2.St) (H:Hp) (Q:(L2.St->Hp->Prop)):Prop
 |mk:(vs=[])->(Q σ H)->ZgO vs σ H Q
inductive JW (t:TG) (u:TGs) (vs:TV) (σ:L2.St) (H:Hp) (Q:(L2.St->Hp->Prop)):Prop
 |mk (v:_) (r:_):(vs=v::r)->(t v σ H λσ' H'=>u r σ' H' Q)->JW t u vs σ H Q
theorem Uk:PGs X [] ZgO:=by
 intro j s q H J M Q I r h;obtain⟨e,h⟩:=h;subst e;cases r;exact assignInOrder_nil ⟨q,H,I,h⟩
theorem YE {e:Expr}{q:List Expr}{t:TG}{u:TGs}(M:PG X e t)(O:PGs X q u)
  (Y:(assignEach (e::q) X.env).map (·.2)=assign e X.env::(assignEach q X.env).map (·.2):=by rfl):PGs X (e::q) (JW t u):=by
 intro j s σ H vs us Q I r h;obtain⟨v,vr,e1,h⟩:=h;subst e1;cases r with
 |cons r rr=>
  rw[Y];refine jO (Yz (M j s σ H _ _ _ I r h) λ_ s1 ⟨J,H1,I1,q1⟩=>?_);exact O j s1 J H1 _ _ Q I1 rr q1
inductive ZgN (K:aa) (n:Nat) (t:TGs) (v:V) (σ:L2.St) (H:Hp) (Q:(L2.St->Hp->Prop)):Prop
 |mk (a:_) (xs:_):(v=.ref a)->(XQ K H a xs)->(xs.length=n)->(t xs σ H Q)->ZgN K n t v σ H Q
theorem ZbJ {q:List Expr}{k:Nat}{t:TGs}{n:Nat}(hc:X.calm=true)(h:PGs X q t)
  (hn:(assignEach q X.env).length=n:=by rfl) (J:(assignEach q X.env).findIdx? (·.1)=none:=by rfl):PG X (.Tuple q k pos) (ZgN X.K n t):=by
 intro j s O H v u Q I r M;obtain⟨a,xs,e1,hq,hl,M⟩:=M;subst e1;cases r;obtain⟨n6,Y,ht,hz⟩:=I.tuple hq;refine assign_Tuple_tuple (I.ok.hd hc) ht (by simp[hn,<-hl,Y.length]) J λh' hx=>?_;have I1:Inv X j O H {s with heap:=h'}:=I.kept (t':=s.toks) λb o e=>hx b o (ay (Zp e)) e;exact h j _ O H xs _ Q I1 (by simpa using Y) M
def Zrn (q J:TE)(t:ZjK):TG:=λv j H Q=>q j H λo M=>J j M λi O=>t o i v O λY=>Q j Y
theorem Xd {o i:Expr}{to M:TE}{t:ZjK}(O:PE X o to)(Y:PE X i M)(hs:Zos X t)
  (ha:∀v,assign (.Subscript o i pos) X.env v=(do
   let q <-holding [v] (eval o X.env)
   let iv <-holding [v,q] (eval i X.env)
   standAt pos
   holding [v,q,iv] (setItem q iv v)
   release [v,q,iv] []):=by intro _;rfl):PG X (.Subscript o i pos) (Zrn to M t):=by
 intro j s J H v u Q I r h;rw[ha];refine Zl (cf (Yz (O j s J H _ I h) λq s1 ⟨x,H1,I1,r1,q1⟩=>?_));refine Zl (cf (Yz (Y j s1 J H1 _ I1 q1) λiv s2 ⟨y,H2,I2,r2,q2⟩=>?_));refine Zl (jC (Zl (cf (Yz (hs j s2 J H2 x y v q iv u _ I2 r1 r2 r q2) λ_ s3 ⟨H3,I3,q3⟩=>?_))));exact wpAny_release ⟨J,H3,I3,q3⟩
def ZdU (q:TE)(g:TG):TS:=λD j H=>q j H λx J=>g x j J D.nx
theorem Jp {J e:Expr}{M:TE}{g:TG}(Y:PE X e M)(hg:PG X J g)(hs:swapsWithSole [J] e pos.line X.env=pure false:=by rfl)(hw:swappedStores [J] e X.env=pure none:=by rfl)
  (h1:(assignEach [J] X.env).map (·.2)=[assign J X.env]:=by rfl):PS X (.Assign [J] e pos) (ZdU M g):=by
 intro j s O H D I h;refine wpAny_Assign_stores (Yz (Y j s O H _ I h) λv s1 ⟨x,H1,I1,r1,q1⟩=>?_) hs hw;rw[h1];exact Yz (hg j s1 O H1 x v _ I1 r1 q1) λ_ s2 q=>q
theorem Znc {i:Nat}{x:Str}{e:Expr}{J:TE}{j:Pos}(M:X.N.Nodup)(O:X.N[i]?=some x)(Y:Loc X.env.scope x)(he:PE X e J)(hs:swapsWith e (some (.Name x j)) pos.line X.env=pure false:=by rfl)(hf:X.fn x=true\/X.env.scope.names.lookup x=some .local:=by first|exact .inl rfl|exact .inr rfl|assumption) :
  PS X (.Assign [.Name x j] e pos) (ZdU J (Yj i)):=by
 intro q s σ H D I h;refine wpAny_Assign_Name (Yz (he q s σ H _ I h) λv s1 ⟨y,H1,I1,r1,q1⟩=>?_) hs;exact WF I1 M O Y r1 (λs2 I2=>⟨_,H1,I2,q1⟩) hf
def ZqQ (i j:Nat)(J:TA):TS:=λD q H=>J q H λM O=>∃v w,M=[v,w]/\D.nx ((q.set i (some v)).set j (some w)) O
theorem Znd {i j:Nat}{x y:Str}{a b:Expr}{ta:TA}{px py pt:Pos}{kt k2 O}(hc:X.calm=true)(hN:X.N.Nodup)(hi:X.N[i]?=some x)(hj:X.N[j]?=some y)(n6:i≠j)
  (hx:X.env.scope.names.lookup x=some .local) (hy:X.env.scope.names.lookup y=some .local) (ha:PA X [a,b] ta)
  (hw:swappedStores [.Tuple [.Name x px,.Name y py] kt pt] (.Tuple [a,b] k2 O) X.env=pure (some [x,y]))
  (hs:swapsWithSole [.Tuple [.Name x px,.Name y py] kt pt] (.Tuple [a,b] k2 O) pos.line X.env=pure false:=by rfl) :
  PS X (.Assign [.Tuple [.Name x px,.Name y py] kt pt] (.Tuple [a,b] k2 O) pos) (ZqQ i j ta):=by
 intro M s σ H D I h;rw[exec_Assign_arm];refine Zl (jC ?_);rw[hs];refine Zl (Zm ?_);rw[if_neg (by decide)];refine Zl (Tuple_ (Yz (ha _ M s σ H _ I h) λus s1 ⟨vs,H1,I1,r1,q1⟩=>?_));obtain⟨v,w,e1,q1⟩:=q1;subst e1;obtain⟨Y,u2,rfl,rv,n8⟩:∃Y u2,us=[Y,u2]/\RelV v Y/\RelV w u2:=by
  cases r1 with
  |cons p q=>
   cases q with
   |cons p' q'=>
    cases q';exact⟨_,_,rfl,p,p'⟩
 refine bb ?_ (by show 2<=sizeLine;decide);have I2:Inv X M σ H1 {s1 with heap:=s1.heap.push {cls:=.type "tuple",data:=.seq [Y,u2].toArray}}:=I1.kept (t':=s1.toks) λb o e=>Zn _ e;rw[hw];refine Zl (Zm ?_);show wpAny (model X.prog X.w) X.A (do rule "assign.swapped-stores";let J <-unpackItems (.ref s1.heap.objs.size) 2 none;assignInOrder [λv=>bindName X.env y v,λv=>bindName X.env x v] J.reverse;pure Flow.next) _ _ _
 refine Zl (fo (Zl (unpackItems_tuple (items:=#[Y,u2]) (I.ok.hd hc) (jz s1.heap _) λh' n9=>?_)));have I3:=I2.kept (h':=h') (t':=s1.toks) λb o e=>n9 b o (ay (Zp e)) e;show wpAny _ _ (assignInOrder [λv=>bindName X.env y v,λv=>bindName X.env x v] [u2,Y] >>= λ_=>pure Flow.next) _ _ _;refine Zl (jO (wpAny_bindName (WF I3 hN hj (.inl hy) n8 (λs2 I4=>?_) (.inr hy))));refine jO (wpAny_bindName (WF I4 hN hi (.inl hx) rv (λs3 I5=>assignInOrder_nil (Zm ?_)) (.inr hx)));rw[List.set_comm _ _ (bf n6)] at I5;exact⟨_,H1,I5,q1⟩
inductive ZoY (i:Nat) (te:TE) (ti:TIp) (D:WZ) (σ:L2.St) (H:Hp):Prop
 |mk (x:_):(σ[i]?=some (some x))->(te σ H λy H1=>ti x y H1 λz H2=>D.nx (σ.set i (some z)) H2)->ZoY i te ti D σ H
theorem Xc {i:Nat}{x:Str}{e:Expr}{te:TE}{op:lx}{ti:TIp}{M:Pos}(hN:X.N.Nodup)(hi:X.N[i]?=some x)(hx:Loc X.env.scope x)(he:PE X e te)(ho:PIp X op ti)(hf:X.fn x=true\/X.env.scope.names.lookup x=some .local:=by first|exact .inl rfl|exact .inr rfl|assumption) :
  PS X (.AugAssign (.Name x M) op e pos) (ZoY i te ti):=by
 intro j s σ H D I h;obtain⟨v,e1,h⟩:=h;obtain⟨m,hn,hl⟩:=I.loc;have n6:Vis X.env.scope x:=by rcases hx with k|k;exact .inl k;exact .inr (.inl k)
 obtain⟨u,r,l⟩:=hl i x v hi e1 n6;refine wpAny_AugAssign_Name ?_;have go:wpAny (model X.prog X.w) X.A (eval e X.env) (λw O=>wpAny (model X.prog X.w) X.A (inplaceOp op u w) (λr Y=>wpAny (model X.prog X.w) X.A (storeName X.env x r) (λ_=>SP X j D .next) X.xe Y) X.xe O) X.xe s:=by
  refine Yz (he j s σ H _ I h) λw s1 ⟨y,H1,I1,r1,q1⟩=>?_;refine Yz (ho j s1 σ H1 v y u w _ I1 r r1 q1) λz s2 ⟨zv,H2,I2,r2,q2⟩=>?_;exact WF I2 hN hi hx r2 (λs3 I3=>⟨_,H2,I3,q2⟩) hf
 rcases l with ⟨q,hm⟩|⟨q,c,hc,J⟩
 ·exact wpAny_loadName_local I.ok.kind q hn hm go
 ·rcases q with q|q
  ·exact wpAny_loadName_cell I.ok.kind q hc J go
  ·rcases hx with k|k
   ·have:X.env.scope.names.lookup x=some .free:=q
    rw[k] at this;cases this
   ·have:X.env.scope.names.lookup x=some .free:=q
    rw[k] at this;cases this
def ZoX (O Y te:TE)(j:V->V->Hp->VK->Prop)(M:TIp)(q:ZjK):TS:=λD J H=>O J H λo H1=>Y J H1 λi H2=>j o i H2 λx H3=>te J H3 λy H4=>M x y H4 λz H5=>q o i z H5 λH6=>D.nx J H6
def Zot (X:Cx)(t:V->V->Hp->VK->Prop):Prop:=
 ∀(j:List (Addr×Obj)) (s:Shared) (q:St) (H:Hp) (o i:V) (J M:Value) (Q:VK),Inv X j q H s->RelV o J->RelV i M->t o i H Q->
  wpAny (model X.prog X.w) X.A (getItem J M) (EP X j q Q) X.xe s
theorem Uh {o i e:Expr}{to ti te:TE}{J:V->V->Hp->VK->Prop}{n6:TIp}{M:ZjK}{op:lx}{n8:Pos}(ho:PE X o to)(hi:PE X i ti)(hg:Zot X J)(he:PE X e te)(hp:PIp X op n6)(hs:Zos X M)
  (ha:∀O iv q,augStore i O iv q=(do holding [q,O,iv] (setItem O iv q);release [q,O,iv] [];pure .next):=by intros;rfl):PS X (.AugAssign (.Subscript o i n8) op e pos) (ZoX to ti te J n6 M):=by
 intro j s Y H D I h;refine wpAny_AugAssign_SubscriptAny (Yz (ho j s Y H _ I h) λO s1 ⟨x1,H1,I1,r1,q1⟩=>?_) ha;refine Yz (hi j s1 Y H1 _ I1 q1) λiv s2 ⟨x2,H2,I2,r2,q2⟩=>?_;refine Yz (hg j s2 Y H2 x1 x2 O iv _ I2 r1 r2 q2) λn9 s3 ⟨x3,H3,I3,r3,q3⟩=>?_;refine Yz (he j s3 Y H3 _ I3 q3) λv s4 ⟨x4,H4,I4,r4,q4⟩=>?_;refine Yz (hp j s4 Y H4 x3 x4 n9 v _ I4 r3 r4 q4) λq s5 ⟨x5,H5,I5,r5,q5⟩=>?_;exact Yz (hs j s5 Y H5 x1 x2 x5 O iv q _ I5 r1 r2 r5 q5) λ_ s6 ⟨H6,I6,q6⟩=>⟨Y,H6,I6,q6⟩
inductive ipI (f:Int->Int->Int) (x:V) (y:V) (H:Hp) (Q:VK):Prop
 |mk (i:_) (j:_):(x=.int i)->(y=.int j)->(Q (.int (f i j)) H)->ipI f x y H Q
theorem Ju:PIp X .Add (ipI λi j=>i+j):=by
 intro J s σ H x y v u Q I M O h;obtain⟨i,j,Y,e2,q⟩:=h;subst Y;subst e2;obtain⟨t,rfl⟩:=M;obtain⟨t',rfl⟩:=O;exact iadd_int ⟨.int _,H,I.tok _,⟨_,rfl⟩,q⟩
theorem Zi0:PIp X .Sub (ipI λi j=>i-j):=by
 intro J s σ H x y v u Q I M O h;obtain⟨i,j,Y,e2,q⟩:=h;subst Y;subst e2;obtain⟨t,rfl⟩:=M;obtain⟨t',rfl⟩:=O;exact isub_int ⟨.int _,H,I.tok _,⟨_,rfl⟩,q⟩
end
section
variable {X:Cx}{pos:Pos}
def Zho (c:TT)(tb:TS):TS:=λD j H=>∃W:Nat->St->Hp->Prop,(∃m,W m j H)/\∀m j H,W m j H->
 c j H λb J=>if b=true then ∃N:St->Hp->Prop,(∀ q M,N q M->∃O,O<m/\W O q M)/\tb (D.lp N) j J else D.nx j J
theorem Yq {c:Expr}{body:List Stmt}{tc:TT}{tb:TS}(hp:PassesOwn (model X.prog X.w) X.A X.env X.xe)(hc:PT X c tc)(hb:PSs X body tb):PS X (.While c body [] pos) (Zho tc tb):=by
 intro j s σ H D I h;obtain⟨W,⟨m0,w0⟩,turn⟩:=h;refine wpAny_While (codeAny_whileLoop (λn s'=>∃ M H',Inv X j M H' s'/\W n M H') ?_ m0 ⟨σ,H,I,w0⟩);rintro n s1 ⟨J,H1,I1,w1⟩;refine ee hp (Yz (hc j s1 J H1 _ I1 (turn n J H1 w1)) λb s2 ⟨H2,I2,Y⟩=>?_);cases b with
 |true=>
  obtain⟨N,hN,Y⟩:=Y;rw[if_pos rfl];refine ee hp (Yz (hb j s2 J H2 _ I2 Y) λf s3 q3=>?_);cases f with
  |next=>
   obtain⟨q,O,I3,n3⟩:=q3;obtain⟨m',hm,w3⟩:=hN q O n3;exact⟨m',hm,q,O,I3,w3⟩
  |cont=>
   obtain⟨q,O,I3,n3⟩:=q3;obtain⟨m',hm,w3⟩:=hN q O n3;exact⟨m',hm,q,O,I3,w3⟩
  |brk=>exact q3
  |ret v=>exact q3
 |false=>
  rw[if_neg aH];exact iW ⟨J,H2,I2,Y⟩
end
structure It where
 go:Nat->Hp->Prop
 yld:Nat->Hp->V->Hp->Prop
 stop:Nat->Hp->Prop
def ZaG (X:Cx)(j:List (Addr×Obj))(H:Hp)(b:Addr):Prop:=
 H b=none/\b≠X.env.locals/\b∉X.fs/\(b∈X.ex\/X.s₀.heap.objs.size<=b)/\(∀x c,X.env.cells.lookup x=some c->c≠b)/\∀p∈X.pn++j,p.1≠b
theorem Inv.fpOk {X:Cx}{j:List (Addr×Obj)}{σ:St}{H J:Hp}{s:Shared}{b:Addr}(I:Inv X j σ H s)(hb:s.heap.objs.size<=b)(M:J b=none):ZaG X j J b:=by
 refine⟨M,bu (aC I.lt hb),I.nofs hb,.inr (aW I.sz hb),λx c e z=>?_,λp O z=>?_⟩
 ·obtain⟨v,q⟩:=I.cell x c e
  exact absurd (aC q.lt (by rw[z];exact hb)) (bw _)
 ·exact absurd (aC (Zp (I.pin p O).1) (by rw[z];exact hb)) (bw _)
structure ZaF (P:Program)(w:World)(K:aa)(tg:Expr)(J:It)(fp:TW)(it:Addr)(tn:Nat->Heap->Prop):Prop where
 mem:it∈fp
 obj:∀i h,tn i h->∀b∈fp,∃o,h.get? b=some o/\∀v,o.data≠.cell v
 keep:∀i h h',tn i h->(∀b∈fp,∀o,h.get? b=some o->h'.get? b=some o)->tn i h'
 item:∀(X:Cx),X.prog=P->X.w=w->X.K=K->X.calm=true->∀(i:Nat) (pins:List (Addr×Obj)) (s:Shared) (σ:St) (H:Hp) (E:TY),Inv X pins σ H s->(∀b∈fp,ZaG X pins H b)->tn i s.heap->J.go i H->
  wpAny (model P w) X.A (pyNext (.ref it)) (λr s1=>∃u,r=some u/\
   wpAny (model P w) X.A (letOwnedTupleGo tg (.ref it) u) (λ_ s2=>∃x H',Inv X pins σ H' s2/\RelV x u/\J.yld i H x H'/\tn (i+1) s2.heap/\∀b∈fp,H' b=none) E s1) E s
 done:∀(X:Cx),X.prog=P->X.w=w->X.K=K->X.calm=true->∀(i:Nat) (pins:List (Addr×Obj)) (s:Shared) (σ:St) (H:Hp) (E:TY),Inv X pins σ H s->(∀b∈fp,ZaG X pins H b)->tn i s.heap->J.stop i H->
  wpAny (model P w) X.A (pyNext (.ref it)) (λr s1=>r=none/\Inv X pins σ H s1) E s
 self:∀(A:Around) (i:Nat) (s:Shared) (Q:TY) (E:TY),tn i s.heap->Q (.ref it) s->wpAny (model P w) A (pyIter (.ref it)) Q E s
noncomputable abbrev TI:=St->Hp->(It->Hp->Prop)->Prop
def PIE (X:Cx)(j:List (Addr×Obj))(σ:St)(tg:Expr)(R:It->Hp->Prop)(q:Value)(O:Shared):Prop:=
 ∃(it:Addr) (Y:TW) (tn:Nat->Heap->Prop) (J:It) (M:Hp),q=.ref it/\Inv X j σ M O/\ZaF X.prog X.w X.K tg J Y it tn/\tn 0 O.heap/\(∀b∈Y,ZaG X j M b)/\R J M
def PI (X:Cx)(M q:Expr)(O:TI):Prop:=
 ∀(j:List (Addr×Obj)) (s:Shared) (J:St) (H:Hp) (R:It->Hp->Prop),Inv X j J H s->O J H R->
  wpAny (model X.prog X.w) X.A (eval q X.env) (λv Y=>wpAny (model X.prog X.w) X.A (pyIter v) (PIE X j J M R) X.xe Y) X.xe s
theorem Zdo {M:Model}{A:Around}{E:TY}{s:Shared}{q:Expr}{it:Addr}{u:Value}{o:Obj}{n:String}{vs:Array Value}{Q:Unit->Shared->Prop}(J:s.heap.get? it=some o)(O:o.cls=.type n)(hd:o.data=.fields vs)
    (Y:["enumerate", "zip", "dict_itemiterator", "dict_reverseitemiterator", "odict_iterator", "itertools.zip_longest", "itertools.pairwise"].contains n=false) (j:Q () s):wpAny M A (letOwnedTupleGo q (.ref it) u) Q E s:=by
  unfold letOwnedTupleGo;cases q <;> first
    |exact Zm j
    |(cases u <;> first
        |exact Zm j
        | (refine Zl (iO J ?_)
           rw[O,hd];show wpAny M A (if (["enumerate", "zip", "dict_itemiterator", "dict_reverseitemiterator", "odict_iterator", "itertools.zip_longest", "itertools.pairwise"].contains n && vs[0]? == some (rawInt _))=true then _ else _) Q E s
           rw[if_neg (by intro h;rw[Y,j9] at h;cases h)];exact Zm j))
def Itl (K:aa)(a:Addr):It:=
 ⟨λi H=>∃j x,Wx K H a j/\j[i]?=some x,λi H x q=>q=H/\∀j,Wx K H a j->j[i]?=some x,λi H=>∃j,Wx K H a j/\j.length<=i⟩
def Itt (K:aa)(a:Addr):It:=
 ⟨λi H=>∃j x,XQ K H a j/\j[i]?=some x,λi H x q=>q=H/\∀j,XQ K H a j->j[i]?=some x,λi H=>∃j,XQ K H a j/\j.length<=i⟩
def Itr (lo:Int)(n:Nat):It:=⟨λi _=>i<n,λi H x j=>j=H/\x=.int (lo+i),λi _=>n<=i⟩
theorem Zga {P:Program}{w:World}{K:aa}{tg:Expr}(a it:Addr):ZaF P w K tg (Itl K a) [it] it (λi h=>h.IsListIter it a i) where
 mem:=by simp
 obj:=λi h st b hb=>by
  have e:b=it:=by simpa using hb
  subst e;obtain⟨o,e,c,d⟩:=st;exact⟨o,e,λv z=>by rw[d] at z;cases z⟩
 keep:=λi h J st k=>st.at λo e=>k it (by simp) o e
 item:=by
  intro X Y hw hK hc i j s σ H E I M st hg;subst Y hw hK;obtain⟨xs,x,O,hx⟩:=hg;obtain⟨n6,rv,p,hz⟩:=I.list O;obtain⟨u,hu,ru⟩:=rv.get hx;obtain⟨f0,f1,f2,f3,f4,f5⟩:=M it (by simp);refine wpAny_pyNext_list_item st p.isList (x:=u) (by simpa using hu) λJ q sb=>?_;have I1:Inv X j σ H {s with heap:=J}:=I.turned (t':=s.toks) (λb o hb e=>(sb.2 b hb).trans e) f0 f1 f3 f4 f5;obtain⟨o,e,c,d⟩:=id q;exact⟨u,rfl,Zdo (s:={s with heap:=J}) e c d (by decide) ⟨x,H,I1,ru,⟨rfl,λys hy=>by rw[I.list_inj hy O];exact hx⟩,q,λb hb=>(M b hb).1⟩⟩
 done:=by
  intro X Y hw hK hc i j s σ H E I M st hg;subst Y hw hK;obtain⟨xs,O,hx⟩:=hg;obtain⟨n6,rv,p,hz⟩:=I.list O;obtain⟨f0,f1,f2,f3,f4,f5⟩:=M it (by simp);have hl:=rv.length;exact wpAny_pyNext_list_end (I.ok.hd hc) st p.isList (by simp;omega) λJ eb=>⟨rfl,I.turned (t':=s.toks) (λb o hb e=>eb b o hb e) f0 f1 f3 f4 f5⟩
 self:=λ_ _ _ _ _ st h=>wpAny_pyIter_listiter st h
theorem ZdR {P:Program}{w:World}{K:aa}{tg:Expr}(a it:Addr):ZaF P w K tg (Itt K a) [it] it (λi h=>h.IsTupleIter it a i) where
 mem:=by simp
 obj:=λi h st b hb=>by
  have e:b=it:=by simpa using hb
  subst e;obtain⟨o,e,c,d⟩:=st;exact⟨o,e,λv z=>by rw[d] at z;cases z⟩
 keep:=λi h M st k=>st.at λo e=>k it (by simp) o e
 item:=by
  intro X hP hw hK hc i j s σ H E I O st hg;subst hP hw hK;obtain⟨xs,x,Y,hx⟩:=hg;obtain⟨q,rv,p,hz⟩:=I.tuple Y;obtain⟨u,hu,ru⟩:=rv.get hx;obtain⟨f0,f1,f2,f3,f4,f5⟩:=O it (by simp);refine wpAny_pyNext_tuple_item st (show s.heap.IsTuple a q.toArray from p) (x:=u) (by simpa using hu) λM J sb=>?_;have I1:Inv X j σ H {s with heap:=M}:=I.turned (t':=s.toks) (λb o hb e=>(sb.2 b hb).trans e) f0 f1 f3 f4 f5;obtain⟨o,e,c,d⟩:=id J;exact⟨u,rfl,Zdo (s:={s with heap:=M}) e c d (by decide) ⟨x,H,I1,ru,⟨rfl,λys hy=>by rw[I.tuple_inj hy Y];exact hx⟩,J,λb hb=>(O b hb).1⟩⟩
 done:=by
  intro X hP hw hK hc i j s σ H E I O st hg;subst hP hw hK;obtain⟨xs,Y,hx⟩:=hg;obtain⟨q,rv,p,hz⟩:=I.tuple Y;obtain⟨f0,f1,f2,f3,f4,f5⟩:=O it (by simp);have hl:=rv.length;exact wpAny_pyNext_tuple_end (I.ok.hd hc) st (show s.heap.IsTuple a q.toArray from p) (by simp;omega) λM eb=>⟨rfl,I.turned (t':=s.toks) (λb o hb e=>eb b o hb e) f0 f1 f3 f4 f5⟩
 self:=λ_ _ _ _ _ st h=>wpAny_pyIter_tupleiter st h
theorem ZdS {P:Program}{w:World}{K:aa}{tg:Expr}(it:Addr)(lo:Int)(n:Nat):ZaF P w K tg (Itr lo n) [it] it (λi h=>iw h it (lo+(i:Nat)*1) ((n:Int)-(i:Nat)) 1) where
 mem:=by simp
 obj:=λi h st b hb=>by
  have e:b=it:=by simpa using hb
  subst e;exact⟨_,st,λv z=>by
   have z':gU _=gD v:=z;cases z'⟩
 keep:=λi h J st k=>k it (by simp) _ st
 item:=by
  intro X O Y hK hc i j s σ H E I M st hg;subst O Y hK;obtain⟨f0,f1,f2,f3,f4,f5⟩:=M it (by simp);have W:=ln (prog:=X.prog) (w:=X.w) (I.ok.hd hc) it lo 1 n;refine W.item i s _ _ hg st λv J tk hv q kk=>?_;obtain⟨t,rfl⟩:=hv;have I1:Inv X j σ H {s with heap:=J,toks:=tk}:=I.turned (λb o hb e=>kk b o (by simpa using hb) e) f0 f1 f3 f4 f5;refine⟨_,rfl,Zdo (s:={s with heap:=J,toks:=tk}) (n:="range_iterator") q rfl rfl (by decide) ⟨.int (lo+i),H,I1,⟨t,?_⟩,⟨rfl,rfl⟩,q,λb hb=>(M b hb).1⟩⟩;rw[f8]
 done:=by
  intro X O Y hK hc i j s σ H E I M st hg;subst O Y hK;obtain⟨f0,f1,f2,f3,f4,f5⟩:=M it (by simp);exact iM (I.ok.hd hc) st (by have:n<=i:=hg;omega) λJ eb=>⟨rfl,I.turned (t':=s.toks) (λb o hb e=>eb b o hb e) f0 f1 f3 f4 f5⟩
 self:=λ_ _ _ _ _ st h=>iN st h
section
variable {X:Cx}{tg:Expr}
inductive iLi (K:aa) (R:It->Hp->Prop) (x:V) (H:Hp):Prop
 |mk (a:Addr):x=.ref a->(∃xs,Wx K H a xs)->R (Itl K a) H->iLi K R x H
def Zmu (K:aa)(j:TE):TI:=λq H R=>j q H (iLi K R)
inductive iTi (K:aa) (R:It->Hp->Prop) (x:V) (H:Hp):Prop
 |mk (a:Addr):x=.ref a->(∃xs,XQ K H a xs)->R (Itt K a) H->iTi K R x H
def ZpA (K:aa)(j:TE):TI:=λq H R=>j q H (iTi K R)
theorem ZkE {l:Expr}{O:TE}(Y:PE X l O):PI X tg l (Zmu X.K O):=by
 intro j s σ H R I h;refine Yz (Y j s σ H _ I h) λv J ⟨x,H1,M,r1,q1⟩=>?_;obtain⟨a,e,⟨xs,hq⟩,q⟩:=q1;subst e;cases r1;obtain⟨n6,rv,p,hz⟩:=M.list hq;refine ir p.isList ?_;refine⟨J.heap.objs.size,[J.heap.objs.size],_,_,H1,rfl,M.kept (t':=J.toks) λb o e=>Zn _ e,Zga a _,⟨_,Zo _ rfl,rfl,rfl⟩,λb hb=>?_,q⟩;have e:b=J.heap.objs.size:=by simpa using hb
 subst e;exact M.fpOk (Zq _) (M.hok.fresh (Zq _))
theorem Zni {l:Expr}{Y:TE}(hl:PE X l Y):PI X tg l (ZpA X.K Y):=by
 intro j s σ H R I h;refine Yz (hl j s σ H _ I h) λv J ⟨x,H1,M,r1,q1⟩=>?_;obtain⟨a,e,⟨xs,hq⟩,q⟩:=q1;subst e;cases r1;obtain⟨O,rv,p,hz⟩:=M.tuple hq;refine jG (show J.heap.IsTuple a O.toArray from p) ?_;refine⟨J.heap.objs.size,[J.heap.objs.size],_,_,H1,rfl,M.kept (t':=J.toks) λb o e=>Zn _ e,ZdR a _,⟨_,Zo _ rfl,rfl,rfl⟩,λb hb=>?_,q⟩;have e:b=J.heap.objs.size:=by simpa using hb
 subst e;exact M.fpOk (Zq _) (M.hok.fresh (Zq _))
theorem ZcY {J:List (Addr×Obj)}{σ:St}{H:Hp}{s:Shared}{R:It->Hp->Prop}{E:TY}{lo j:Int}{t u v:Tok}{tk:Nat}(I:Inv X J σ H s)(O:-(2 ^ 62)<=lo)(Y:lo<2 ^ 62)(h3:-(2 ^ 62)<=j)(h4:j<2 ^ 62)
  (q:R (Itr lo (j-lo).toNat) H):wpAny (model X.prog X.w) X.A (pyIter (.ref s.heap.objs.size)) (PIE X J σ tg R) E {s with heap:=s.heap.push {cls:=.type "range",data:=.fields #[.int lo t,.int j u,.int 1 v]},toks:=tk}:=by
 refine jH (kG ..) (small_one O Y h3 h4) ?_;have M:Inv X J σ H {s with heap:=s.heap.push {cls:=.type "range",data:=.fields #[.int lo t,.int j u,.int 1 v]},toks:=tk}:=I.kept λb o e=>Zn _ e;refine⟨(s.heap.push {cls:=.type "range",data:=.fields #[.int lo t,.int j u,.int 1 v]}).objs.size,[(s.heap.push {cls:=.type "range",data:=.fields #[.int lo t,.int j u,.int 1 v]}).objs.size],_,_,H,rfl,
  M.kept (t':=tk) λb o e=>Zn _ e,ZdS _ lo (j-lo).toNat,?_,λb hb=>?_,q⟩
 ·have e1:lo+((0:Nat):Int)*1=lo:=by simp
  have e2:(((j-lo).toNat:Nat):Int)-((0:Nat):Int)=bm lo j 1:=by rw[md];split <;> omega
  show iw _ _ (lo+((0:Nat):Int)*1) ((((j-lo).toNat:Nat):Int)-((0:Nat):Int)) 1;rw[e1,e2];exact Zo _ rfl
 ·have e:b=(s.heap.push {cls:=.type "range",data:=.fields #[.int lo t,.int j u,.int 1 v]}).objs.size:=by simpa using hb
  subst e;exact M.fpOk (Zq _) (M.hok.fresh (Zq _))
inductive iR1 (R:It->Hp->Prop) (vs:TV) (H1:Hp):Prop
 |mk (j:Int):vs=[.int j]->-(2 ^ 62)<=j->j<2 ^ 62->R (Itr 0 j.toNat) H1->iR1 R vs H1
def Zmt (j:TA):TI:=λq H R=>j q H (iR1 R)
inductive iR2 (R:It->Hp->Prop) (vs:TV) (H1:Hp):Prop
 |mk (i j:Int):vs=[.int i,.int j]->(-(2 ^ 62)<=i/\i<2 ^ 62/\-(2 ^ 62)<=j/\j<2 ^ 62)->R (Itr i (j-i).toNat) H1->iR2 R vs H1
def Zms (j:TA):TI:=λq H R=>j q H (iR2 R)
theorem Zgl {a:Expr}{O:TA}{p pos:Pos}(Y:Gl X "range")(hm:X.mg "range"=none)(ha:PA X [a] O)(hs:starEach [a] X.env=[(false,eval a X.env)]:=by rfl):PI X tg (.Call (.Name "range" p) [a] [] pos) (Zmt O):=by
 intro J s σ H R I h;refine Call_ (Jt I Y hm lE (bA (Yz (ha pos J s σ H _ I h) λus s1 ⟨vs,H1,I1,r1,M⟩=>?_) hs rfl));obtain⟨j,e,M,q2,q⟩:=M;subst e;cases r1 with
 |cons r rr=>
  cases rr;obtain⟨t,rfl⟩:=r;exact call_range_1 (ZcY I1 (by omega) (by omega) M q2 (by simpa using q))
theorem Zgk {a b:Expr}{ta:TA}{p pos:Pos}(hg:Gl X "range")(hm:X.mg "range"=none)(ha:PA X [a,b] ta)(hs:starEach [a,b] X.env=[(false,eval a X.env),(false,eval b X.env)]:=by rfl)(J:starEach [b] X.env=[(false,eval b X.env)]:=by rfl) :
  PI X tg (.Call (.Name "range" p) [a,b] [] pos) (Zms ta):=by
 intro M s σ H R I h;refine Call_ (Jt I hg hm lE (bA (Yz (ha pos M s σ H _ I h) λus s1 ⟨vs,H1,I1,r1,O⟩=>?_) (by rw[hs,J]) (by rw[J];rfl)));obtain⟨i,j,e,⟨O,q2,q3,q4⟩,q⟩:=O;subst e;cases r1 with
 |cons r Y=>
  cases Y with
  |cons r' Y=>
   cases Y;obtain⟨t,rfl⟩:=r;obtain⟨t',rfl⟩:=r';exact call_range_2 (ZcY I1 O q2 q3 q4 q)
def ZqT (wi:TI)(g:TG)(tb:TS):TS:=λD j H=>wi j H λJ H1=>∃W:Nat->Nat->St->Hp->Prop,(∃m,W 0 m j H1)/\∀i m j H,W i m j H->
 (J.stop i H/\D.nx j H)\/(J.go i H/\∃N:St->Hp->Prop,(∀ q M,N q M->∃Y,Y<m/\W (i+1) Y q M)/\∀x M,J.yld i H x M->g x j M λO H2=>tb (D.lp N) O H2)
def UV (j:TW)(h:Heap):List (Addr×Obj):=j.filterMap λb=>(h.get? b).map λo=>(b,o)
theorem JR {j:TW}{h:Heap}{b:Addr}{o:Obj}(hb:b∈j)(e:h.get? b=some o):(b,o)∈UV j h:=i9.mpr ⟨b,hb,by rw[e];rfl⟩
theorem Zgw {j:TW}{h:Heap}{p:Addr×Obj}(J:p∈UV j h):p.1∈j/\h.get? p.1=some p.2:=by
 obtain⟨b,hb,e⟩:=i9.mp J;cases q:h.get? b with
 |none=>rw[q] at e;cases e
 |some o=>
  rw[q] at e;have M:(b,o)=p:=aB e;subst M;exact⟨hb,q⟩
theorem Inv.pinned {j:List (Addr×Obj)}{σ:St}{H:Hp}{s:Shared}{q:TW}(I:Inv X j σ H s)(M:∀b∈q,ZaG X j H b)(O:∀b∈q,∃o,s.heap.get? b=some o/\∀v,o.data≠.cell v):Inv X (j++UV q s.heap) σ H s:=
 I.pins_of λp Y=>(bO.mp Y).elim (λz=>I.pin p (aO _ z)) λz=>by
  obtain⟨hb,e⟩:=Zgw z;obtain⟨f0,f1,f2,_⟩:=M p.1 hb;obtain⟨o,J,d⟩:=O p.1 hb;rw[e] at J;cases J;exact⟨e,f0,f1,f2,d⟩
theorem Inv.unpinned {j pl:List (Addr×Obj)}{σ:St}{H:Hp}{s:Shared}(I:Inv X (j++pl) σ H s):Inv X j σ H s:=I.pins_of λp q=>I.pin p (aO _ (cg _ q))
theorem ZN {iter:Expr}{body:List Stmt}{wi:TI}{g:TG}{tb:TS}{pos:Pos}(hp:PassesOwn (model X.prog X.w) X.A X.env X.xe)(hc:X.calm=true)(hi:PI X tg iter wi)(hg:PG X tg g)(hb:PSs X body tb)
  (hs:∀x,foldedSetIterable iter X.env x=pure x:=by intro _;rfl):PS X (.For tg iter body [] pos) (ZqT wi g tb):=by
 intro j s σ H D I h;refine wpAny_For (Yz (hi j s σ H _ I h) λv s1 h1=>Yz h1 λo8 s2 h2=>?_) hs;obtain⟨it,fp,tn,J,H2,e,I2,T,o0,f2,W,⟨m0,w0⟩,turn⟩:=h2;subst e;have M:∀{H':Hp},(∀b∈fp,H' b=none)->∀b∈fp,ZaG X j H' b:=λhn b hb=>⟨hn b hb,(f2 b hb).2⟩;refine codeAny_forLoop_any (λn s'=>∃i O H',Inv X j O H' s'/\tn i s'.heap/\(∀b∈fp,H' b=none)/\W i n O H') ?_ m0 ⟨0,σ,H2,I2,o0,λb hb=>(f2 b hb).1,w0⟩;rintro n s3 ⟨i,Y,H3,I3,n8,n9,w3⟩;rcases turn i n Y H3 w3 with ⟨stop,qn⟩|⟨go,N,hN,step⟩
 ·refine ee hp (Yz (T.done X rfl rfl rfl hc i j s3 Y H3 X.xe I3 (M n9) n8 stop) λr s4 ⟨hr,I4⟩=>?_)
  subst hr;exact iW ⟨Y,H3,I4,qn⟩
 ·refine ee hp (Yz (T.item X rfl rfl rfl hc i j s3 Y H3 X.xe I3 (M n9) n8 go) λr s4 ⟨u,hr,h4⟩=>?_)
  subst hr;refine ee hp (Yz h4 λ_ s5 ⟨x,H5,I5,r5,y5,n6,o5⟩=>?_);have o6:=I5.pinned (M o5) (T.obj _ _ n6);refine ee hp (Yz (hg _ s5 Y H5 x u _ o6 r5 (step x H5 y5)) λ_ s6 ⟨o7,H6,I6,q6⟩=>?_);refine ee hp (Yz (hb _ s6 o7 H6 _ I6 q6) λf s7 q7=>?_);have again:∀{q:St}{H7:Hp},Inv X (j++UV fp s5.heap) q H7 s7->N q H7->∃m,m<n/\∃i O H',Inv X j O H' s7/\tn i s7.heap/\(∀b∈fp,H' b=none)/\W i m O H':=λ{q H7} I7 n7=>by
   obtain⟨m',hm,w7⟩:=hN q H7 n7;refine⟨m',hm,i+1,q,H7,I7.unpinned,T.keep _ _ _ n6 λb hb o e=>(I7.pin (b,o) (aO _ (aO _ (JR hb e)))).1,λb hb=>?_,w7⟩;obtain⟨o,e,d⟩:=T.obj _ _ n6 b hb;exact (I7.pin (b,o) (aO _ (aO _ (JR hb e)))).2.1
  cases f with
  |next=>obtain⟨q,H7,I7,n7⟩:=q7;exact again I7 n7
  |cont=>obtain⟨q,H7,I7,n7⟩:=q7;exact again I7 n7
  |brk=>obtain⟨q,H7,I7,q7⟩:=q7;exact⟨q,H7,I7.unpinned,q7⟩
  |ret v=>obtain⟨x7,q,H7,I7,r7,q7⟩:=q7;exact⟨x7,q,H7,I7.unpinned,r7,q7⟩
end
theorem Zjc {K:aa}{a:Addr}{xs:TV}{g:TG}{tb:TS}{D:WZ}{σ:St}{H:Hp}(Pv:Nat->St->Hp->Prop)(h0:Pv 0 σ H)(hl:∀i σ H,i<=xs.length->Pv i σ H->Wx K H a xs)
  (hs:∀i x σ H,xs[i]?=some x->Pv i σ H->g x σ H λj Y=>tb (D.lp (Pv (i+1))) j Y) (hd:∀ σ H,Pv xs.length σ H->D.nx σ H) :
  ∃W:Nat->Nat->St->Hp->Prop,(∃m,W 0 m σ H)/\∀i m σ H,W i m σ H->
   ((Itl K a).stop i H/\D.nx σ H)\/((Itl K a).go i H/\∃N:St->Hp->Prop,(∀ J M,N J M->∃m',m'<m/\W (i+1) m' J M)/\∀x M,(Itl K a).yld i H x M->g x σ M λj Y=>tb (D.lp N) j Y):=by
 refine⟨λi m σ H=>m=xs.length-i/\i<=xs.length/\Pv i σ H,⟨xs.length,by simp,aV _,h0⟩,?_⟩;rintro i m σ H ⟨rfl,hi,p⟩;have q:=hl i σ H hi p;by_cases O:i<xs.length
 ·refine .inr ⟨⟨xs,xs[i],q,by simp[O]⟩,Pv (i+1),λJ M p'=>⟨xs.length-(i+1),by omega,rfl,O,p'⟩,λx M y=>?_⟩
  obtain⟨e,y⟩:=y;subst e;exact hs i x σ _ (y xs q) p
 ·have e:i=xs.length:=by omega
  subst e;exact .inl ⟨⟨xs,q,Zq _⟩,hd σ H p⟩
theorem ZfN {K:aa}{a:Addr}{xs:TV}{g:TG}{tb:TS}{D:WZ}{σ:St}{H:Hp}(Pv:Nat->St->Hp->Prop)(h0:Pv 0 σ H)(hl:∀i σ H,i<=xs.length->Pv i σ H->XQ K H a xs)
  (hs:∀i x σ H,xs[i]?=some x->Pv i σ H->g x σ H λj Y=>tb (D.lp (Pv (i+1))) j Y) (hd:∀ σ H,Pv xs.length σ H->D.nx σ H) :
  ∃W:Nat->Nat->St->Hp->Prop,(∃m,W 0 m σ H)/\∀i m σ H,W i m σ H->
   ((Itt K a).stop i H/\D.nx σ H)\/((Itt K a).go i H/\∃N:St->Hp->Prop,(∀ J M,N J M->∃m',m'<m/\W (i+1) m' J M)/\∀x M,(Itt K a).yld i H x M->g x σ M λj Y=>tb (D.lp N) j Y):=by
 refine⟨λi m σ H=>m=xs.length-i/\i<=xs.length/\Pv i σ H,⟨xs.length,by simp,aV _,h0⟩,?_⟩;rintro i m σ H ⟨rfl,hi,p⟩;have q:=hl i σ H hi p;by_cases O:i<xs.length
 ·refine .inr ⟨⟨xs,xs[i],q,by simp[O]⟩,Pv (i+1),λJ M p'=>⟨xs.length-(i+1),by omega,rfl,O,p'⟩,λx M y=>?_⟩
  obtain⟨e,y⟩:=y;subst e;exact hs i x σ _ (y xs q) p
 ·have e:i=xs.length:=by omega
  subst e;exact .inl ⟨⟨xs,q,Zq _⟩,hd σ H p⟩
theorem ZT {lo:Int}{n:Nat}{g:TG}{tb:TS}{D:WZ}{σ:St}{H:Hp}(Pv:Nat->St->Hp->Prop)(h0:Pv 0 σ H)
  (hs:∀i σ H,i<n->Pv i σ H->g (.int (lo+i)) σ H λj O=>tb (D.lp (Pv (i+1))) j O) (hd:∀ σ H,Pv n σ H->D.nx σ H) :
  ∃W:Nat->Nat->St->Hp->Prop,(∃m,W 0 m σ H)/\∀i m σ H,W i m σ H->
   ((Itr lo n).stop i H/\D.nx σ H)\/((Itr lo n).go i H/\∃N:St->Hp->Prop,(∀ q J,N q J->∃Y,Y<m/\W (i+1) Y q J)/\∀x J,(Itr lo n).yld i H x J->g x σ J λj O=>tb (D.lp N) j O):=by
 refine⟨λi m σ H=>m=n-i/\i<=n/\Pv i σ H,⟨n,by simp,aV _,h0⟩,?_⟩;rintro i m σ H ⟨rfl,hi,p⟩;by_cases M:i<n
 ·refine .inr ⟨M,Pv (i+1),λq J p'=>⟨n-(i+1),by omega,rfl,M,p'⟩,λx J y=>?_⟩
  obtain⟨e,y⟩:=y;subst e y;exact hs i σ _ M p
 ·have e:i=n:=by omega
  subst e;exact .inl ⟨Zq _,hd σ H p⟩
noncomputable abbrev R2:=V->V->Hp->VK->Prop
def VC (X:Cx)(f:Value->Value->Sem Value)(r:R2):Prop:=
 ∀(j:List (Addr×Obj)) (s:Shared) (q:St) (H:Hp) (x y:V) (v u:Value) (Q:VK),Inv X j q H s->RelV x v->RelV y u->r x y H Q->
  wpAny (model X.prog X.w) X.A (f v u) (EP X j q Q) X.xe s
def UnR (X:Cx)(f:Value->Sem Value)(r:V->Hp->VK->Prop):Prop:=
 ∀(j:List (Addr×Obj)) (s:Shared) (q:St) (H:Hp) (x:V) (v:Value) (Q:VK),Inv X j q H s->RelV x v->r x H Q->
  wpAny (model X.prog X.w) X.A (f v) (EP X j q Q) X.xe s
def YA (X:Cx)(f:Value)(r:TV->Hp->VK->Prop):Prop:=
 ∀(j:List (Addr×Obj)) (s:Shared) (q:St) (H:Hp) (J:TV) (M:List Value) (Q:VK),Inv X j q H s->ZS J M->r J H Q->
  wpAny (model X.prog X.w) X.A (call f M) (EP X j q Q) X.xe s
def tOp (r:R2)(q tb:TE):TE:=λj H Q=>q j H λx J=>tb j J λy M=>r x y M Q
def tUn (r:V->Hp->VK->Prop)(j:TE):TE:=λq H Q=>j q H λx J=>r x J Q
inductive rI (C:Int->Int->Prop) (g:Int->Int->V) (x:V) (y:V) (H:Hp) (Q:VK):Prop
 |mk (i:_) (j:_):(x=.int i)->(y=.int j)->(C i j)->(Q (g i j) H)->rI C g x y H Q
inductive rI0 (g:Int->Int->V) (x:V) (y:V) (H:Hp) (Q:VK):Prop
 |mk (i:_) (j:_):(x=.int i)->(y=.int j)->(Q (g i j) H)->rI0 g x y H Q
inductive rU (g:Int->V) (x:V) (H:Hp) (Q:VK):Prop
 |mk (i:_):(x=.int i)->(Q (g i) H)->rU g x H Q
section
variable {X:Cx}{a b c:Expr}{ta tb tc:TE}{pos:Pos}
theorem Zok (ha:PE X a ta)(hb:PE X b tb){j:List (Addr×Obj)}{s:Shared}{σ:St}{H:Hp}{R:V->V->Hp->Prop}(I:Inv X j σ H s)
  (h:ta σ H λx Y=>tb σ Y λy q=>R x y q) {Q:TY}{f:Value->Value->Sem Value}
  (hf:∀v u O x y q,Inv X j σ q O->RelV x v->RelV y u->R x y q->wpAny (model X.prog X.w) X.A (f v u) Q X.xe O) :
  wpAny (model X.prog X.w) X.A (eval a X.env) (λv J=>wpAny (model X.prog X.w) X.A (eval b X.env) (λu M=>wpAny (model X.prog X.w) X.A (f v u) Q X.xe M) X.xe J) X.xe s:=by
 refine Yz (ha j s σ H _ I h) λv s1 ⟨x,Y,I1,r1,q1⟩=>?_;refine Yz (hb j s1 σ Y _ I1 q1) λu O ⟨y,q,I2,r2,q2⟩=>?_;exact hf v u O x y q I2 r1 r2 q2
theorem Zy {op:lx}{r:R2}(J:VC X (binaryOp op) r)(M:PE X a ta)(hb:PE X b tb):PE X (.BinOp a op b pos) (tOp r ta tb):=by
 intro j s O H Q I h;exact wpAny_BinOp (Zok M hb I h λv u Y x y H2 I2 rx ry q=>J j Y O H2 x y v u Q I2 rx ry q)
theorem V0 {op:UnaryOp}{r:V->Hp->VK->Prop}(J:UnR X (unaryOp op) r)(M:PE X a ta):PE X (.UnaryOp op a pos) (tUn r ta):=by
 intro j s q H Q I h;exact UnaryOp_ (Yz (M j s q H _ I h) λv O ⟨x,Y,I1,r1,q1⟩=>J j O q Y x v Q I1 r1 q1)
theorem opI {f:Value->Value->Sem Value}{C:Int->Int->Prop}{g:Int->Int->Int}
  (rule:∀(i j:Int) (t u:Tok) (s:Shared) (Q:TY) (E:TY),C i j->Q (.int (g i j) s.toks) {s with toks:=s.toks+1}->wpAny (model X.prog X.w) X.A (f (.int i t) (.int j u)) Q E s) :
  VC X f (rI C λi j=>.int (g i j)):=by
 intro J s σ H x y v u Q I rx M h;obtain⟨i,j,rfl,rfl,O,q⟩:=h;obtain⟨t,rfl⟩:=rx;obtain⟨Y,rfl⟩:=M;exact rule i j t Y s _ _ O ⟨.int (g i j),H,I.tok _,⟨_,rfl⟩,q⟩
theorem Zpu {f:Value->Value->Sem Value}{g:Int->Int->Int}
  (rule:∀(i j:Int) (t u:Tok) (s:Shared) (Q:TY) (E:TY),Q (.int (g i j) s.toks) {s with toks:=s.toks+1}->wpAny (model X.prog X.w) X.A (f (.int i t) (.int j u)) Q E s) :
  VC X f (rI0 λi j=>.int (g i j)):=by
 intro J s Y H x y v u Q I rx M h;obtain⟨i,j,rfl,rfl,q⟩:=h;obtain⟨t,rfl⟩:=rx;obtain⟨O,rfl⟩:=M;exact rule i j t O s _ _ ⟨.int (g i j),H,I.tok _,⟨_,rfl⟩,q⟩
theorem ZkT {f:Value->Value->Sem Value}{g:Int->Int->Bool}
  (rule:∀(i j:Int) (t u:Tok) (s:Shared) (Q:TY) (E:TY),Q (.bool (g i j)) s->wpAny (model X.prog X.w) X.A (f (.int i t) (.int j u)) Q E s) :
  VC X f (rI0 λi j=>.bl (g i j)):=by
 intro J s Y H x y v u Q I rx M h;obtain⟨i,j,rfl,rfl,q⟩:=h;obtain⟨t,rfl⟩:=rx;obtain⟨O,rfl⟩:=M;exact rule i j t O s _ _ ⟨.bl (g i j),H,I,rfl,q⟩
def ZrK (i j:Int):Prop:=0<j/\j<1073741824
def ZrJ (i j:Int):Prop:=0<=j/\j<=1000000/\i.natAbs<2 ^ 64
def Zl2 (i j:Int):Prop:=(-(2 ^ 64)<i/\i<2 ^ 64)\/(-(2 ^ 64)<j/\j<2 ^ 64)
theorem Zl2.ok {i j:Int}(h:Zl2 i j):IntMulOk i j:=by
 rcases h with ⟨q,J⟩|⟨q,J⟩
 ·exact .of_left (intBits_le_64 q J)
 ·exact .of_right (intBits_le_64 q J)
theorem Yt:VC X (binaryOp .Add) (rI0 λi j=>.int (i+j)):=Zpu λ_ _ _ _ _ _ _ q=>add_int q
theorem YB:VC X (binaryOp .Sub) (rI0 λi j=>.int (i-j)):=Zpu λ_ _ _ _ _ _ _ q=>sub_int q
theorem ZQ:VC X (binaryOp .Mult) (rI Zl2 λi j=>.int (i*j)):=opI λ_ _ _ _ _ _ _ J q=>mul_int q J.ok
theorem WC:VC X (binaryOp .FloorDiv) (rI ZrK λi j=>.int (i / j)):=opI λi j _ _ _ _ _ J q=>by
 have M:(0:Int)<j:=J.1;have O:j<1073741824:=J.2;exact floordiv_int (by omega) (by rw[Int.fdiv_eq_ediv_of_nonneg i (by omega)];exact q) (.inl (kh (by omega)))
theorem ZY:VC X (binaryOp .Mod) (rI (λ_ j=>0<j) λi j=>.int (i % j)):=opI λi j _ _ _ _ _ J q=>by
 have M:(0:Int)<j:=J;exact mod_int' (by omega) (by rw[Int.fmod_eq_emod_of_nonneg i (by omega)];exact q)
theorem Zno:VC X (binaryOp .Pow) (rI ZrJ λi j=>.int (i ^ j.toNat)):=opI λ_ _ _ _ _ _ _ J q=>pow_int_small J.1 J.2.1 J.2.2 q
theorem unI {f:Value->Sem Value}{g:Int->Int}
  (rule:∀(i:Int) (t:Tok) (s:Shared) (Q:TY) (E:TY),Q (.int (g i) s.toks) {s with toks:=s.toks+1}->wpAny (model X.prog X.w) X.A (f (.int i t)) Q E s) :
  UnR X f (rU λi=>.int (g i)):=by
 intro j s J H x v Q I rx h;obtain⟨i,rfl,q⟩:=h;obtain⟨t,rfl⟩:=rx;exact rule i t s _ _ ⟨.int (g i),H,I.tok _,⟨_,rfl⟩,q⟩
theorem J1:UnR X (unaryOp .USub) (rU λi=>.int (-i)):=unI λ_ _ _ _ _ q=>neg_int q
end
def Zo0:V->V->Bool
 | .non,.non=>true | .non,.int _=>true | .int _,.non=>true | .non,.bl _=>true | .bl _,.non=>true | .non,.str _=>true | .str _,.non=>true
 | .int _,.int _=>true | .bl _,.bl _=>true | .str _,.str _=>true | .byt _,.byt _=>true
 | .int _,.str _=>true | .str _,.int _=>true | .bl _,.str _=>true | .str _,.bl _=>true
 |_,_=>false
inductive rEq (x:V) (y:V) (H:Hp) (Q:VK):Prop
 |mk:(Zo0 x y=true)->(Q (.bl (decide (x=y))) H)->rEq x y H Q
inductive rNe (x:V) (y:V) (H:Hp) (Q:VK):Prop
 |mk:(Zo0 x y=true)->(Q (.bl (!decide (x=y))) H)->rNe x y H Q
theorem Yu {i j:Int}:decide (V.int i=V.int j)=(i == j):=by
 rw[cV];simp
theorem Zjp {i j:Bool}:decide (V.bl i=V.bl j)=(i == j):=by
 rw[cV];simp
theorem ZfU {i j:Str}:decide (V.str i=V.str j)=(i == j):=by
 rw[cV];simp
theorem ZfV {i j:Array UInt8}:decide (V.byt i=V.byt j)=(i.toList == j.toList):=by
 rw[cV];cases i;cases j;simp
section
variable {X:Cx}{a b c:Expr}{ta tb tc:TE}{pos:Pos}
theorem Z2 {j:List (Addr×Obj)}{σ:St}{H:Hp}{s:Shared}{Q:VK}{k J:Bool}(I:Inv X j σ H s)(q:Q (.bl k) H)(e:k=J):EP X j σ Q (.bool J) s:=by
 subst e;exact⟨.bl k,H,I,rfl,q⟩
theorem V1:VC X (compareOp .Eq) rEq:=by
 intro Y s σ H x y v u Q I rx J h;obtain⟨O,q⟩:=h;cases x with
 |non=>
  cases rx;cases y with
  |non=>cases J;exact PySem.EqNone.eq_none_none (Z2 I q (by simp))
  |bl j=>cases J;exact PySem.EqNone.eq_none_bool (Z2 I q (by simp))
  |int j=>obtain⟨M,rfl⟩:=J;exact PySem.EqNone.eq_none_int (Z2 I q (by simp))
  |str j=>obtain⟨M,rfl⟩:=J;exact PySem.EqNone.eq_none_str (Z2 I q (by simp))
  |_=>exact absurd (show false=true from O) aH
 |bl i=>
  cases rx;cases y with
  |non=>cases J;exact PySem.EqNone.eq_bool_none (Z2 I q (by simp))
  |bl j=>cases J;exact eq_bool (Z2 I q Zjp)
  |str j=>obtain⟨M,rfl⟩:=J;exact PySem.EqMixed.eq_bool_str (Z2 I q (by simp))
  |_=>exact absurd (show false=true from O) aH
 |int i=>
  obtain⟨t,rfl⟩:=rx;cases y with
  |non=>cases J;exact PySem.EqNone.eq_int_none (Z2 I q (by simp))
  |int j=>obtain⟨M,rfl⟩:=J;exact eq_int (Z2 I q Yu)
  |str j=>obtain⟨M,rfl⟩:=J;exact PySem.EqMixed.eq_int_str (Z2 I q (by simp))
  |_=>exact absurd (show false=true from O) aH
 |str i=>
  obtain⟨t,rfl⟩:=rx;cases y with
  |non=>cases J;exact PySem.EqNone.eq_str_none (Z2 I q (by simp))
  |bl j=>cases J;exact PySem.EqMixed.eq_str_bool (Z2 I q (by simp))
  |int j=>obtain⟨M,rfl⟩:=J;exact PySem.EqMixed.eq_str_int (Z2 I q (by simp))
  |str j=>obtain⟨M,rfl⟩:=J;exact eq_str (Z2 I q ZfU)
  |_=>exact absurd (show false=true from O) aH
 |byt i=>
  obtain⟨t,rfl⟩:=rx;cases y with
  |byt j=>obtain⟨M,rfl⟩:=J;exact PySem.W.eq_bytes (Z2 I q ZfV)
  |_=>exact absurd (show false=true from O) aH
 |_=>cases y <;> exact absurd (show false=true from O) aH
theorem WI:VC X (compareOp .NotEq) rNe:=by
 intro Y s σ H x y v u Q I rx J h;obtain⟨O,q⟩:=h;cases x with
 |non=>
  cases rx;cases y with
  |non=>cases J;exact PySem.EqNone.ne_none_none (Z2 I q (by simp))
  |bl j=>cases J;exact PySem.EqNone.ne_none_bool (Z2 I q (by simp))
  |int j=>obtain⟨M,rfl⟩:=J;exact PySem.EqNone.ne_none_int (Z2 I q (by simp))
  |str j=>obtain⟨M,rfl⟩:=J;exact PySem.EqNone.ne_none_str (Z2 I q (by simp))
  |_=>exact absurd (show false=true from O) aH
 |bl i=>
  cases rx;cases y with
  |non=>cases J;exact PySem.EqNone.ne_bool_none (Z2 I q (by simp))
  |bl j=>cases J;exact ne_bool (Z2 I q (congrArg not Zjp))
  |str j=>obtain⟨M,rfl⟩:=J;exact PySem.EqMixed.ne_bool_str (Z2 I q (by simp))
  |_=>exact absurd (show false=true from O) aH
 |int i=>
  obtain⟨t,rfl⟩:=rx;cases y with
  |non=>cases J;exact PySem.EqNone.ne_int_none (Z2 I q (by simp))
  |int j=>obtain⟨M,rfl⟩:=J;exact ne_int (Z2 I q (congrArg not Yu))
  |str j=>obtain⟨M,rfl⟩:=J;exact PySem.EqMixed.ne_int_str (Z2 I q (by simp))
  |_=>exact absurd (show false=true from O) aH
 |str i=>
  obtain⟨t,rfl⟩:=rx;cases y with
  |non=>cases J;exact PySem.EqNone.ne_str_none (Z2 I q (by simp))
  |bl j=>cases J;exact PySem.EqMixed.ne_str_bool (Z2 I q (by simp))
  |int j=>obtain⟨M,rfl⟩:=J;exact PySem.EqMixed.ne_str_int (Z2 I q (by simp))
  |str j=>obtain⟨M,rfl⟩:=J;exact ne_str (Z2 I q (congrArg not ZfU))
  |_=>exact absurd (show false=true from O) aH
 |byt i=>
  obtain⟨t,rfl⟩:=rx;cases y with
  |byt j=>obtain⟨M,rfl⟩:=J;exact PySem.W.ne_bytes (Z2 I q (congrArg not ZfV))
  |_=>exact absurd (show false=true from O) aH
 |_=>cases y <;> exact absurd (show false=true from O) aH
theorem Zc5:VC X (compareOp .Lt) (rI0 λi j=>.bl (decide (i<j))):=ZkT λ_ _ _ _ _ _ _ q=>lt_int q
theorem Zps:VC X (compareOp .LtE) (rI0 λi j=>.bl (decide (i<=j))):=ZkT λ_ _ _ _ _ _ _ q=>le_int q
theorem Zip:VC X (compareOp .Gt) (rI0 λi j=>.bl (decide (j<i))):=ZkT λ_ _ _ _ _ _ _ q=>gt_int q
theorem Zpt:VC X (compareOp .GtE) (rI0 λi j=>.bl (decide (j<=i))):=ZkT λ_ _ _ _ _ _ _ q=>ge_int q
theorem ZR (b:Expr){op:CmpOp}(h:op≠.In:=by decide)(j:op≠.NotIn:=by decide):behindInMarks op b=false:=by
 have q:(op == CmpOp.In)=false:=by cases op <;> first|rfl|exact absurd rfl h
 have J:(op == CmpOp.NotIn)=false:=by cases op <;> first|rfl|exact absurd rfl j
 cases b <;> simp[behindInMarks,q,J]
theorem Ul {op:CmpOp}{r:R2}(J:VC X (compareOp op) r)(M:PE X a ta)(hb:PE X b tb)(O:behindInMarks op b=false):PE X (.Compare a [op] [b] pos) (tOp r ta tb):=by
 intro j s Y H Q I h;exact wpAny_Compare1 (Zok M hb I h λv u s2 x y H2 I2 rx ry q=>J j s2 Y H2 x y v u Q I2 rx ry q) O
inductive iTs (Q:Bool->Hp->Prop) (x:V) (H:Hp):Prop
 |mk (c:Bool):x=.bl c->Q c H->iTs Q x H
def ZoQ (t:TE):TT:=λj H Q=>t j H (iTs Q)
theorem ZL {op:CmpOp}{r:R2}(J:VC X (compareOp op) r)(M:PE X a ta)(hb:PE X b tb)(O:behindInMarks op b=false):PT X (.Compare a [op] [b] pos) (ZoQ (tOp r ta tb)):=by
 intro j s q H Q I h;refine no (Yz (M j s q H _ I h) λv Y ⟨x,H1,I1,r1,q1⟩=>Yz (hb j Y q H1 _ I1 q1) λu s2 ⟨y,H2,I2,r2,q2⟩=>
  Yz (J j s2 q H2 x y v u _ I2 r1 r2 q2) λc s3 ⟨z,H3,I3,r3,k,e,q3⟩=>?_) O
 subst e;cases r3;exact fQ ⟨H3,I3,q3⟩
theorem XY:(sizeLine:Nat)<2 ^ 63:=by rw[gC];decide
theorem vals1 {x:V}{us:List Value}(r:ZS [x] us):∃u,us=[u]/\RelV x u:=by
 cases r with
 |cons r1 j=>cases j;exact⟨_,rfl,r1⟩
end
structure Zov (h:Heap)(x dx C:Addr)(mA:TX):Prop where
 obj:h.get? x=some (jy C dx)
 ns:h.Ns1 dx mA
 ne:dx≠x
theorem ZgE {h:Heap}{J:Addr}{M:TX}(n:h.Ns1 J M):∃O,h.get? J=some O/\∀name,jL name O=some (M name):=by
 obtain⟨o,Y,ep,ho,hd,hk,_,hm⟩:=n;refine⟨o,ho,λname=>?_⟩;have e:=hm name;unfold nsFind findBy at e;rw[<-Array.find?_toList] at e;unfold jL;rw[hd]
 try dsimp only
 split
 ·rename_i y q
  rw[q] at e;exact congrArg some e
 ·rename_i q
  rw[q] at e;have a:Y.toList.any (·.refKey)=false:=by
   rw[jw];intro y hy;obtain⟨z,t,j⟩:=hk y (Array.mem_toList_iff.mp hy);simp[DictEntry.refKey,j]
  have a':¬Y.toList.any (·.refKey)=true:=by rw[a];exact aH
  rw[if_neg a'];exact congrArg some e
theorem Zov.look {h:Heap}{x q C:Addr}{J:TX}(I:Zov h x q C J):∃j,PySem.W.InstAt h x (jy C q) C (some j)/\∀name,jL name j=some (J name):=
 let ⟨j,M,O⟩:=ZgE I.ns
 ⟨j,⟨I.obj,rfl,rfl,M⟩,O⟩
section
variable {x dx C f:Addr}{mA:TX}{name:Str}{v:Value}
end
theorem Zat.some_of {v:V}{o:Option Value}(r:Zat (some v) o):∃u,o=some u/\RelV v u:=by
 cases o with
 |none=>exact (show False from r).elim
 |some u=>exact⟨u,rfl,r⟩
section
variable {H H':Hp}{h h':Heap}{a C dx:Addr}{fs fs':List (Str×V)}
theorem Zlu (J:X9 P w H h)(e:H a=some (.ins C dx fs)):∃j,Zov h a dx C j/\(∀f,Zat (fs.lookup f) (j f))/\PySem.Within j (fs.map (·.1))/\fs.length<=1000/\H dx=some (.own a):=by
 obtain⟨d,z,ne,M,j,n,r,q⟩:=(show Ys P w H h a (.ins C dx fs) from J a _ e);exact⟨j,⟨M,n,ne⟩,r,q,z,d⟩
end
structure Cls (K:aa)(C:Addr):Prop where
 pg:mo K C Str.empty=true
 hd:PySem.W.hasDictIn K C=true
 po:PySem.W.plainOver K C=true
 sa:mW K (.ref C) "__setattr__"=some (some (.builtin "object.__setattr__"))
theorem Cls.get {K:aa}{C:Addr}(c:Cls K C)(f:Str):mo K C f=true:=c.pg
section
variable {X:Cx}{pins:List (Addr×Obj)}{σ:St}{H:Hp}{a C dx:Addr}{fs:List (Str×V)}{f:Str}{v:V}
end
section
variable {X:Cx}{o e value:Expr}{f:Str}{pos pos' tpos:Pos}{ta tv:TE}
end
section
variable {X:Cx}{pins:List (Addr×Obj)}{σ:St}{H:Hp}{Q:TY}{c:Value}{b:Bool}
inductive VA (K:aa) (H:Hp):V->Value->Prop where
 |non:VA K H .non (.type "NoneType")
 |bl (x:Bool):VA K H (.bl x) (.type "bool")
 |int (i:Int):VA K H (.int i) (.type "int")
 |str (x:Str):VA K H (.str x) (.type "str")
 |flt (x:UInt64):VA K H (.flt x) (.type "float")
 |lst {a:Addr}{xs:TV} (e:H a=some (.lst xs)):VA K H (.ref a) (.type "list")
 |frz {a:Addr}{o:Obj}{xs:TV} (e:H a=some (.frz o (.lst xs))):VA K H (.ref a) (.type "list")
 |tup {a:Addr}{xs:TV} (e:H a=some (.tup xs)):VA K H (.ref a) (.type "tuple")
 |dK {a:Addr}{kvs:List (YL×V)} (e:H a=some (.dK kvs)):VA K H (.ref a) (.type "dict")
 |dT {a:Addr}{kvs:List (List YL×V)} (e:H a=some (.dT kvs)):VA K H (.ref a) (.type "dict")
 |ins {a C dx:Addr}{fs:List (Str×V)} (e:H a=some (.ins C dx fs)) (cl:Cls K C) (ha:mW K (.ref C) "__class__"=some (some (.builtin "object.__class__")))
   (hn:PySem.W.specialIn K (.builtin "object.__class__") "__get__"=some (some (.builtin "getset_descriptor.__get__"))) (htk:PySem.W.takesIn K (.builtin "object.__class__")=some true)
   (hm:PySem.W.mroIn K C (.type "object")=some true):VA K H (.ref a) (.ref C)
theorem ZgI {x:V}{u t:Value}(I:Inv X pins σ H s)(rx:RelV x u)(ty:VA X.K H x t)(e:jM X.K t c=some b)(h:∀tk,Q (.bool b) {s with toks:=tk}) :
  wpAny (model X.prog X.w) A (call (.builtin "isinstance") [u,c]) Q E s:=by
 cases ty with
 |non=>cases (show u=a6 from rx);exact b8 PySem.W.kitx_none I.kIn dB e (λz=>nomatch z) h
 |bl y=>cases (show u=ip y from rx);exact b8 PySem.W.kitx_bool I.kIn dB e (λz=>nomatch z) h
 |int i=>obtain⟨t,q⟩:=(show ∃t,u=fG i t from rx);cases q;exact b8 PySem.W.kitx_int I.kIn dB e (λz=>nomatch z) h
 |str y=>obtain⟨t,q⟩:=(show ∃t,u=ko y t from rx);cases q;exact b8 PySem.W.kitx_str I.kIn dB e (λz=>nomatch z) h
 |flt y=>obtain⟨t,q⟩:=(show ∃t,u=Value.float y t from rx);cases q;exact b8 PySem.W.kitx_float I.kIn dB e (λz=>nomatch z) h
 | @lst a xs j=>
  cases (show u=ax a from rx);obtain⟨_,_,n,_,M⟩:=(show Ys X.prog X.w H s.heap a (.lst xs) from I.hok a _ j);exact b8 lO I.kIn ⟨_,M,rfl⟩ e (λz=>nomatch z) h
 | @frz a ob xs j=>
  cases (show u=ax a from rx);obtain⟨_,_,_,n,_,M⟩:=(show Ys X.prog X.w H s.heap a (.frz ob (.lst xs)) from I.hok a _ j);exact b8 lO I.kIn ⟨_,M,rfl⟩ e (λz=>nomatch z) h
 | @tup a xs j=>
  cases (show u=ax a from rx);obtain⟨_,_,_,p⟩:=(show Ys X.prog X.w H s.heap a (.tup xs) from I.hok a _ j);obtain⟨o,M,h2,_⟩:=p;exact b8 PySem.W.kitx_tuple I.kIn ⟨o,M,h2⟩ e (λz=>nomatch z) h
 | @dK a Y j=>
  cases (show u=ax a from rx);obtain⟨_,_,vs,_,p⟩:=(show Ys X.prog X.w H s.heap a (.dK Y) from I.hok a _ j);obtain⟨o,es,ep,M,h2,_⟩:=p;exact b8 lP I.kIn ⟨o,M,h2.1⟩ e (λz=>nomatch z) h
 | @dT a Y j=>
  cases (show u=ax a from rx);obtain⟨_,_,xs,_,o,es,ep,M,h2,_⟩:=(show Ys X.prog X.w H s.heap a (.dT Y) from I.hok a _ j);exact b8 lP I.kIn ⟨o,M,h2.1⟩ e (λz=>nomatch z) h
 | @ins a C dx fs j cl ha hn n6 hm=>
  cases (show u=ax a from rx);obtain⟨mA,O,_⟩:=Zlu I.hok j;obtain⟨od,J,_⟩:=O.look;exact b8 (PySem.W.kitx_own (cl.get _) cl.hd ha hn n6 hm) I.kIn J e (λz=>nomatch z) h
end
structure JI (k:Nat)(A:Around):Prop where
 hd:A.handled=none
 dp:A.depth+3*k+5<recursionLimit
 un:A.units+16*k+200<cLine
 gd:A.guards=some []
theorem JI.mono {j k:Nat}{A:Around}(r:JI k A)(h:j<=k):JI j A:=⟨r.hd,by have:=r.dp;omega,by have:=r.un;omega,r.gd⟩
theorem JI.deeper {k:Nat}{A:Around}(r:JI (k+1) A)(env:Env):JI k (A.deeper env):=
 ⟨r.hd,by have:=r.dp;show A.depth+1+3*k+5<_;omega,by have:=r.un;show A.units+3+16*k+200<_;omega,r.gd⟩
theorem JI.depth {k:Nat}{A:Around}(r:JI k A):A.depth<recursionLimit:=by have:=r.dp;omega
theorem JI.units {k:Nat}{A:Around}(r:JI k A):A.units+64<cLine:=by have:=r.un;omega
def Zhp:TA:=λ_ H Q=>Q [] H
def Uy (q:TE)(J:TA):TA:=λj H Q=>q j H λx M=>J j M λO Y=>Q (x::O) Y
section
variable {X:Cx}{e:Expr}{es:List Expr}{te:TE}{t:TA}{pos:Pos}
theorem Zt:PA X [] Zhp:=λ_ _ _ _ H Q I h=>Calls.spliced_nil ⟨[],H,I,.nil,h⟩
theorem ZkQ (J:PE X e te)(M:PA X es t)(O:starEach (e::es) X.env=(false,eval e X.env)::starEach es X.env:=by rfl):PA X (e::es) (Uy te t):=by
 intro pos j s q H Q I h;rw[O];show wpAny _ _ (spliced ((false,eval e X.env)::backTo pos (starEach es X.env))) _ _ s;refine Calls.spliced_cons (Yz (J j s q H _ I h) λu Y ⟨x,H1,I1,r1,q1⟩=>?_);exact Yz (M pos j Y q H1 _ I1 q1) λus s2 ⟨xs,H2,I2,r2,q2⟩=>⟨x::xs,H2,I2,.cons r1 r2,q2⟩
inductive iTu (Q:VK) (xs:TV) (H:Hp):Prop
 |mk:xs.length<=sizeLine->(∀p,H p=none->Q (.ref p) (upd H p (.tup xs)))->iTu Q xs H
def ZqO (t:TA):TE:=λj H Q=>t j H (iTu Q)
inductive iLs (Q:VK) (xs:TV) (H:Hp):Prop
 |mk:xs.length<=sizeLine->(∀p,H p=none->Q (.ref p) (upd H p (.lst xs)))->iLs Q xs H
def ZmR (t:TA):TE:=λj H Q=>t j H (iLs Q)
theorem UW {Y}(h:PA X es t):PE X (.Tuple es Y pos) (ZqO t):=by
 intro j s σ H Q I hq;refine wpAny_Tuple_spliced (Yz (h pos j s σ H _ I hq) λus J ⟨xs,M,O,r,z,q⟩=>⟨by rw[<-r.length];exact z,?_⟩);have hf:M J.heap.objs.size=none:=O.hok.fresh (Zq _);refine⟨.ref J.heap.objs.size,upd M J.heap.objs.size (.tup xs),O.laid (t':=J.toks) (λb u e=>Zn _ e) (Zq _) ?_,rfl,q _ hf⟩;exact⟨z,us,r,⟨_,Zo _ rfl,rfl,_,rfl⟩⟩
theorem ZV (h:PA X es t):PE X (.List es pos) (ZmR t):=by
 intro j s Y H Q I hq;refine wpAny_List_spliced (Yz (h pos j s Y H _ I hq) λus J ⟨xs,M,O,r,z,q⟩=>⟨by rw[<-r.length];exact z,?_⟩);have hf:M J.heap.objs.size=none:=O.hok.fresh (Zq _);refine⟨.ref J.heap.objs.size,upd M J.heap.objs.size (.lst xs),O.laid (t':=J.toks) (λb u e=>Zn _ e) (Zq _) ?_,rfl,q _ hf⟩;exact⟨z,us,0,r,Zo _ rfl⟩
end
noncomputable abbrev Sp:=TV->Hp->VK->XK->Prop
noncomputable abbrev CXT:=List Env->Hp->Shared->XK->Value->Shared->Prop
structure Zl0 (P:Program)(w:World)(K:aa)(mg:TX)(base:Heap)(A:Around)(outer:List Env)(s:Shared)(H:Hp):Prop where
 frames:A.frames=some outer
 mod:Mod K mg base
 bs:∀b o,base.get? b=some o->s.heap.get? b=some o/\H b=none
 bsz:base.objs.size<=s.heap.objs.size
 funs:s.heap.FunFrames base outer
 frf:∀b∈frs outer,H b=none
 hok:X9 P w H s.heap
 bare:iQ s.gens
def CE (outer:List Env)(P:Program)(w:World)(H:Hp)(s:Shared)(Q:VK)(u:Value)(s':Shared):Prop:=
 ∃v j,s'.os=s.os/\iQ s'.gens/\Un (frs outer) [] H j s.heap s'.heap/\X9 P w j s'.heap/\RelV v u/\Q v j
def CR (CX:CXT)(outer:List Env)(P:Program)(w:World)(H:Hp)(s:Shared)(Q:VK)(E:XK)(r:Result)(s':Shared):Prop:=
 match r with
 | .ok (.ret u)=>CE outer P w H s Q u s'
 | .ok _=>False
 | .error e=>CX outer H s E e s'
structure Z4 (P:Program)(w:World)(K:aa)(mg:TX)(base:Heap)(CX:CXT)(k:Nat)(f:Addr)(fd:FuncData)(ps:List Str)(sp:Sp):Prop where
 len:∀vs H Q E,sp vs H Q E->vs.length=ps.length
 run:∀(A:Around) (outer:List Env) (s:Shared) (H:Hp) (args:Args) (us:List Value) (vs:TV) (Q:VK) (E:XK),JI k A->Zl0 P w K mg base A outer s H->jp s fd args (ps.zip us)->ZS vs us->sp vs H Q E->
  codeAny (model P w) A (.call (.ref f) args) (CR CX outer P w H s Q E) s
section
variable {X:Cx}{pins:List (Addr×Obj)}{σ:St}{H:Hp}{s s':Shared}
theorem Inv.env0 (I:Inv X pins σ H s):Zl0 X.prog X.w X.K X.mg X.base X.A X.stack s H:=
 ⟨I.ok.frames,I.ok.mod,I.bs,aW I.ok.bsz I.sz,I.stack,I.stkFree,I.hok,I.bare⟩
theorem Inv.after {Q:VK}{u:Value}(I:Inv X pins σ H s)(h:CE X.stack X.prog X.w H s Q u s'):EP X pins σ Q u s':=by
 obtain⟨v,J,os,bare,un,hok,r,q⟩:=h;obtain⟨M,g,d,t,j⟩:=s';obtain rfl:j=s.os:=os;exact⟨v,J,I.call (h':=M) (g':=g) (d':=d) (t':=t) (ch:=[]) un hok bare (λb z=>absurd z (by simp)),r,q⟩
end
def Zl8 (sp:Sp)(j:TV)(E:XK)(t:TA):TE:=λq H Q=>t q H λJ M=>sp (J++j) M Q E
def Binds (K:aa)(fd:FuncData)(q:List Str)(ds:List Value):Prop:=
 ∀(s:Shared) (j:List Value),K.In s.heap->(j++ds).length=q.length->jp s fd ⟨j,[]⟩ (q.zip (j++ds))
theorem Binds.all {K:aa}{fd:FuncData}{j:List Str}(h:∀us:List Value,us.length=j.length->bindArgs fd ⟨us,[]⟩=pure (j.zip us)):Binds K fd j []:=λs us _ q=>by
 rw[gm] at q ⊢;exact .of_eq (h us q)
def Zcu (CX:CXT)(X:Cx)(E:XK):Prop:=∀(j:List (Addr×Obj)) (J:St) (H:Hp) (s:Shared) (e:Value) (q:Shared),Inv X j J H s->CX X.stack H s E e q->X.xe e q
section
variable {X:Cx}{CX:CXT}{k:Nat}{f C:Addr}{fd:FuncData}{ps:List Str}{sp:Sp}{dvs:TV}{ds:List Value}{E:XK}{x m:Str}{p pos apos:Pos}{e o:Expr}{es:List Expr}{ta:TE}{t:TA}
theorem Zm0 {j:List (Addr×Obj)}{σ:St}{H:Hp}{s:Shared}{Q:VK}{us:List Value}{vs:TV}(F:Z4 X.prog X.w X.K X.mg X.base CX k f fd ps sp)(M:JI k X.A)(hb:Binds X.K fd ps ds)(O:ZS dvs ds)(Y:Zcu CX X E)
  (I:Inv X j σ H s) (r:ZS vs us) (h:sp (vs++dvs) H Q E):wpAny (model X.prog X.w) X.A (call (.ref f) us) (EP X j σ Q) X.xe s:=by
 have J:ZS (vs++dvs) (us++ds):=r.append O;have hl:(us++ds).length=ps.length:=by rw[<-J.length];exact F.len _ _ _ _ h
 refine wpAny_call (fR (F.run X.A X.stack s H ⟨us,[]⟩ (us++ds) (vs++dvs) Q E M I.env0 (hb s us I.kIn hl) J h) λr s' q=>?_);cases r with
 |error e=>exact Y j σ H s e s' I q
 |ok fl=>
  cases fl with
  |ret u=>exact I.after q
  |next=>exact ef q
  |brk=>exact ef q
  |cont=>exact ef q
theorem ZkK (F:Z4 X.prog X.w X.K X.mg X.base CX k f fd ps sp)(hr:JI k X.A)(hg:Gl X x)(hm:X.mg x=some (.ref f))(hk:dW X.K (.ref f)=true)(hb:Binds X.K fd ps ds)(hd:ZS dvs ds)(hx:Zcu CX X E)
  (ha:PA X (e::es) t) (J:(x == ("__debug__":Str))=false:=by decide) (he:starEach (e::es) X.env=(false,eval e X.env)::starEach es X.env:=by rfl) (M:(backTo pos (starEach es X.env)).any (·.1)=false:=by rfl) :
  PE X (.Call (.Name x p) (e::es) [] pos) (Zl8 sp dvs E t):=by
 intro j s σ H Q I h;refine jI (Zlm I hg hm ?_ J);refine PySem.W.callWith_K (h₀:=X.base) I.ok.mod.kin hk (Yz (ha pos j s σ H _ I h) λus s1 ⟨vs,H1,Y,r,q⟩=>⟨Y.kIn,?_⟩) he M;exact Zm0 F hr hb hd hx Y r q
end
section
variable {X:Cx}{CX:CXT}{k:Nat}{f C:Addr}{fd:FuncData}{ps ks:List Str}{sp:Sp}{E:XK}{x m:Str}{p pos apos kpos:Pos}{e o:Expr}{es:List Expr}{kws:List Keyword}{te ta:TE}{t tk:TA}{nm:Option Str}
variable {g:List Value->List Value->List Value}{gV:TV->TV->TV}
end
structure Ut (N P:List Str)(sc:cU):Prop where
 kind:sc.kind=.function
 co:sc.isCoroutine=false
 gen:sc.isGenerator=false
 nd:N.Nodup
 pre:N.take P.length=P
 par:∀x∈P,sc.names.lookup x=some .local\/sc.names.lookup x=some .cell
 nofree:∀y∈sc.names,y.2≠.free
theorem FS {N P:List Str}{j:cU}(a:j.kind=.function:=by rfl)(b:j.isCoroutine=false:=by rfl)(c:j.isGenerator=false:=by rfl)(d:N.Nodup:=by decide +kernel)(e:N.take P.length=P:=by rfl)(f:∀x∈P,j.names.lookup x=some .local\/j.names.lookup x=some .cell:=by decide +kernel)(g:∀y∈j.names,y.2≠.free:=by decide +kernel):Ut N P j:=⟨a,b,c,d,e,f,g⟩
theorem bd1 {α:Type}{f g:List Value->α}(h:∀a,f [a]=g [a])(j:List Value)(l:j.length=1):f j=g j:=by
  cases j with
  |nil=>cases l
  |cons a r=>cases r with
    |nil=>exact h a
    |cons b r=>simp at l
theorem bd2 {α:Type}{f g:List Value->α}(h:∀a b,f [a,b]=g [a,b])(j:List Value)(l:j.length=2):f j=g j:=by
  cases j with
  |nil=>cases l
  |cons a r=>exact bd1 (f:=λr=>f (a::r)) (g:=λr=>g (a::r)) (h a) r (cF l)
theorem bd3 {α:Type}{f g:List Value->α}(h:∀a b c,f [a,b,c]=g [a,b,c])(j:List Value)(l:j.length=3):f j=g j:=by
  cases j with
  |nil=>cases l
  |cons a r=>exact bd2 (f:=λr=>f (a::r)) (g:=λr=>g (a::r)) (h a) r (cF l)
theorem bd4 {α:Type}{f g:List Value->α}(h:∀a b c d,f [a,b,c,d]=g [a,b,c,d])(j:List Value)(l:j.length=4):f j=g j:=by
  cases j with
  |nil=>cases l
  |cons a r=>exact bd3 (f:=λr=>f (a::r)) (g:=λr=>g (a::r)) (h a) r (cF l)
theorem bd5 {α:Type}{f g:List Value->α}(h:∀a b c d e,f [a,b,c,d,e]=g [a,b,c,d,e])(j:List Value)(l:j.length=5):f j=g j:=by
  cases j with
  |nil=>cases l
  |cons a r=>exact bd4 (f:=λr=>f (a::r)) (g:=λr=>g (a::r)) (h a) r (cF l)
theorem Za7 {kindOf:Str->Option eS}{x:Str}:∀{binds:List (Str×Value)}{m:TX},(∀v,(x,v)∉binds)->bindL kindOf binds m x=m x
 | [],_,_=>rfl
 |(n,v)::r,m,h=>by
  unfold bindL;rw[Za7 λw j=>h w (ao _ j)];split
  ·have:x≠n:=by rintro rfl;exact h v ar
   simp[this]
  ·rfl
theorem Za9 {kindOf:Str->Option eS}{x:Str}:∀{binds:List (Str×Value)}{m:TX},(∀v,(x,v)∉binds)->bindC kindOf binds m x=m x
 | [],_,_=>rfl
 |(n,v)::r,m,h=>by
  unfold bindC;rw[Za9 λw j=>h w (ao _ j)];split
  ·rfl
  ·have:x≠n:=by rintro rfl;exact h v ar
   simp[this]
theorem Za8 {kindOf:Str->Option eS}{x:Str}{v:Value}:∀{P:List Str}{vs:List Value}{i:Nat}{m:TX},P.Nodup->P[i]?=some x->vs[i]?=some v->kindOf x=some .local->
  bindL kindOf (P.zip vs) m x=some v
 | [],_,_,_,_,h,_,_=>by simp at h
 |_::_,[],_,_,_,_,h,_=>by simp at h
 |p::P,w::vs,0,m,nd,j,q,J=>by
  simp at j q;subst j;subst q;show bindL kindOf ((p,w)::P.zip vs) m p=_;unfold bindL;rw[Za7 λv M=>(bS.mp nd).1 (jU M).1,if_pos J];simp
 |p::P,w::vs,i+1,m,nd,j,q,J=>by
  show bindL kindOf ((p,w)::P.zip vs) m x=_;unfold bindL;exact Za8 (i:=i) (bS.mp nd).2 (by simpa using j) (by simpa using q) J
theorem Zba {kindOf:Str->Option eS}{x:Str}{v:Value}:∀{P:List Str}{vs:List Value}{i:Nat}{m:TX},P.Nodup->P[i]?=some x->vs[i]?=some v->kindOf x≠some .local->
  bindC kindOf (P.zip vs) m x=some v
 | [],_,_,_,_,h,_,_=>by simp at h
 |_::_,[],_,_,_,_,h,_=>by simp at h
 |p::P,w::vs,0,m,nd,j,q,J=>by
  simp at j q;subst j;subst q;show bindC kindOf ((p,w)::P.zip vs) m p=_;unfold bindC;rw[Za9 λv M=>(bS.mp nd).1 (jU M).1,if_neg J];simp
 |p::P,w::vs,i+1,m,nd,j,q,J=>by
  show bindC kindOf ((p,w)::P.zip vs) m x=_;unfold bindC;exact Zba (i:=i) (bS.mp nd).2 (by simpa using j) (by simpa using q) J
def start (N:List Str)(vs:TV):St:=vs.map some++aq (N.length-vs.length) none
def Zdx (CX:CXT)(P:Program)(w:World)(K:aa)(mg:TX)(base:Heap)(N:List Str)(j:Str)(scope:cU)(f:Addr)(J:Value)(A:Around)(outer:List Env)(s:Shared)(H:Hp)(E:XK):Cx where
 prog:=P
 w:=w
 K:=K
 mg:=mg
 base:=base
 A:=A.deeper (envOfC j scope s.heap.objs.size f J)
 N:=N
 s₀:=s
 H₀:=H
 env:=envOfC j scope s.heap.objs.size f J
 outer:=outer
 stack:=envOfC j scope s.heap.objs.size f J::outer
 ex:=[]
 calm:=true
 fn:=λ_=>true
 pn:=[]
 xe:=λe M=>wpAny (model P w) (A.deeper (envOfC j scope s.heap.objs.size f J)) (leaving (envOfC j scope s.heap.objs.size f J) e) (λ_ q=>CX outer H s E e q) (λO q=>CX outer H s E O q) M
theorem ZdD {j:cU}{n:Nat}{x:Str}(h:j.names.lookup x=some .cell):∃c,(cellsFrom n j.names []).lookup x=some c:=by
 have q:=ig j.names n [] (.inl h);exact gO.mp q
theorem ZgJ {CX:CXT}{P:Program}{w:World}{K:aa}{mg:TX}{base:Heap}{N M:List Str}{qual:Str}{scope:cU}{f:Addr}{cd:Value}{A:Around}{outer:List Env}{s s1:Shared}{H:Hp}{E:XK}{us:List Value}{vs:TV}
  (S:Ut N M scope) (hd:A.handled=none) (J:Zl0 P w K mg base A outer s H) (hl:vs.length=M.length) (r:ZS vs us)
  (x:InCallC s s.heap.objs.size (bindL (envOfC qual scope s.heap.objs.size f cd).kindOf (M.zip us) λ_=>none) (cellsFrom (s.heap.objs.size+1) scope.names []) (bindC (envOfC qual scope s.heap.objs.size f cd).kindOf (M.zip us) λ_=>none) s1) :
  Inv (Zdx CX P w K mg base N qual scope f cd A outer s H E) [] (start N vs) H s1:=by
 have n8:M.length<=N.length:=by have:=congrArg eB S.pre;rw[a8] at this;omega
 obtain⟨h1,tk,rfl,hk⟩:=x.done;have O:∀b:Addr,b∉(Zdx CX P w K mg base N qual scope f cd A outer s H E).ex:=λb z=>absurd (show b∈([]:TW) from z) (by simp);refine⟨⟨J.mod,S.kind,rfl,rfl,Zq _,λy z c h1 j=>?_,λy Y=>?_,λy c _ h=>?_,λ_=>hd,Around.frames_deeper J.frames,.inr ⟨rfl,rfl⟩,λb z=>absurd z (O b),J.bs,J.bsz,λb _ _=>O b,λb z=>absurd z (O b),J.funs,J.frf⟩,
  rfl,J.bare,Un.kept hk,⟨_,x.toInCall.ns,λi y v h1 j h3=>?_⟩,λy c h=>⟨_,x.cell y c h⟩,J.hok.fresh (Zq _),λy c h=>?_,λp hp=>absurd (show p∈([]:List (Addr×Obj)) from hp) (by simp),J.hok.kept hk,?_⟩
 ·exact name_of_addr x.apart (bE h1) (bE j)
 ·have Y:scope.names.lookup y=some .cell\/scope.names.lookup y=some .free:=Y
  rcases Y with Y|Y
  ·exact ZdD Y
  ·exact absurd rfl (S.nofree _ (bE Y))
 ·exact cL (x.above y c (bE h))
 ·have hi:i<vs.length:=by
   unfold start at j;by_cases hi:i<vs.length
   ·exact hi
   ·rw[av (by simpa using hi)] at j
    rw[bQ] at j;split at j <;> cases j
  have ha:vs[i]?=some v:=by
   unfold start at j;rw[au (by simpa using hi),Zc] at j;cases e:vs[i]? with
   |none=>rw[e] at j;cases j
   |some a=>rw[e] at j;cases j;rfl
  obtain⟨u,hu,rv⟩:=r.get ha;have hp:M[i]?=some y:=by
   rw[<-S.pre,ic (by omega)];exact h1
  have n6:M.Nodup:=by rw[<-S.pre];exact S.nd.sublist (jq _ _)
  refine⟨u,rv,?_⟩;rcases S.par y (az hp) with k|k
  ·exact .inl ⟨k,Za8 n6 hp hu k⟩
  ·obtain⟨c,e⟩:=ZdD (n:=s.heap.objs.size+1) k
   refine .inr ⟨.inl k,c,e,?_⟩;have q:=x.cell y c e;rw[Zba n6 hp hu (by show scope.names.lookup y≠_;rw[k];decide)] at q;exact q
 ·exact J.hok.fresh (cL (x.above y c (bE h)))
 ·unfold start
  show _=N.length;rw[Zd,Za,Ze];omega
theorem ZpG {CX:CXT}{P:Program}{w:World}{K:aa}{mg:TX}{base:Heap}{k:Nat}{f:Addr}{name j:Str}{params:Arguments}{body:List Stmt}{scope:cU}{dV kV n9 pm M ct oc:Value}{an od:Option Addr}
  {o6:Array (Option Value)}{N ps:List Str}{sp:Sp} (lk:K.lookup f=some ⟨oc,od,.func (cy name j params body scope dV kV n9 pm an M ct),o6⟩) (o7:e8 K M j=true) (S:Ut N ps scope)
  (len:∀vs H Q E,sp vs H Q E->vs.length=ps.length)
  (n6:∀(A:Around) (outer:List Env) (s:Shared) (H:Hp) (vs:TV) (Q:VK) (E:XK),JI k (A.deeper (envOfC j scope s.heap.objs.size f M))->sp vs H Q E->
   ∃t,PSs (Zdx CX P w K mg base N j scope f M A outer s H E) body t/\t {nx:=λ_ Y=>Q .non Y,rt:=Q} (start N vs) H) :
  Z4 P w K mg base CX (k+1) f (cy name j params body scope dV kV n9 pm an M ct) ps sp:=by
 refine⟨len,λA outer s H args us vs Q E hr e0 hb r o0=>?_⟩;have hl:=len _ _ _ _ o0;have KX:K.In s.heap:=e0.mod.kin.keeps λb o e=>(e0.bs b o e).1;have o8:s.heap.NoLimit:=e0.mod.nolimit.keeps λb o e=>(e0.bs b o e).1;have n8:∀y∈ps.zip us,scope.names.lookup y.1=some .local\/(scope.names.lookup y.1=some .cell/\((cellsFrom (s.heap.objs.size+1) scope.names []).lookup y.1).isSome=true):=λ⟨n,v⟩ hy=>by
  rcases S.par n (jU hy).1 with q|q
  ·exact .inl q
  ·exact .inr ⟨q,ig _ _ _ (.inl q)⟩
 refine codeAny_call_function hr.depth (KX _ _ lk) rfl S.co S.gen rfl (PySem.W.codeRec_of KX o7) (hb _ _ _ _ ?_);refine wpAny_newFunctionEnv_cells S.kind n8 λenv he s1 x=>?_;subst he;refine⟨o8.keeps x.toInCall.keep,codeAny_func ?_⟩;obtain⟨t,ht,hq⟩:=n6 A outer s H vs Q E (hr.deeper _) o0;have I:Inv (Zdx CX P w K mg base N j scope f M A outer s H E) [] (start N vs) H s1:=ZgJ S hr.hd e0 hl r x;refine cw (ht [] s1 (start N vs) H _ I hq) (λfl s' hs=>?_) λe s' hs=>hs;have o5:∀{O:St}{Y:Hp}{v:V}{u:Value},Inv (Zdx CX P w K mg base N j scope f M A outer s H E) [] O Y s'->RelV v u->Q v Y->CE outer P w H s Q u s':=
  λ{O Y v u} J rv q=>⟨v,Y,J.os,J.bare,J.base,J.hok,rv,q⟩
 cases fl with
 |ret u=>
  obtain⟨v,O,Y,J,rv,q⟩:=hs;exact o5 J rv q
 |next=>
  obtain⟨O,Y,J,q⟩:=hs;exact o5 (v:=V.non) (u:=a6) J rfl q
 |brk=>
  obtain⟨_,_,_,q⟩:=hs;exact ef q
 |cont=>
  obtain⟨_,_,_,q⟩:=hs;exact ef q
section
variable {X:Cx}{x:Str}{p pos:Pos}{e:Expr}{es:List Expr}{t:TA}{id T:String}{r:TV->Hp->VK->Prop}
def tCB (r:TV->Hp->VK->Prop)(t:TA):TE:=λj H Q=>t j H λq J=>r q J Q
theorem Zim (O:YA X (.builtin id) r)(Y:Gl X x)(hm:X.mg x=none)(hv:bootBuiltins x=some (.builtin id))(ha:PA X (e::es) t)(hn:x ≠ "__name__":=by decide)(q:(x == ("__debug__":Str))=false:=by decide)
  (he:starEach (e::es) X.env=(false,eval e X.env)::starEach es X.env:=by rfl) (J:(backTo pos (starEach es X.env)).any (·.1)=false:=by rfl):PE X (.Call (.Name x p) (e::es) [] pos) (tCB r t):=by
 intro j s M H Q I h;refine jI (Jt I Y hm hv ?_ hn q);exact PyProof.Rows.callWith_builtin1 (Yz (ha pos j s M H _ I h) λus s1 ⟨vs,H1,I1,r1,q1⟩=>O j s1 M H1 vs us Q I1 r1 q1) he J
theorem Zgm (O:YA X (.type T) r)(Y:Gl X x)(hm:X.mg x=none)(hv:bootBuiltins x=some (.type T))(ha:PA X (e::es) t)(hn:x ≠ "__name__":=by decide)(q:(x == ("__debug__":Str))=false:=by decide)
  (he:starEach (e::es) X.env=(false,eval e X.env)::starEach es X.env:=by rfl) (J:(backTo pos (starEach es X.env)).any (·.1)=false:=by rfl):PE X (.Call (.Name x p) (e::es) [] pos) (tCB r t):=by
 intro j s M H Q I h;refine jI (Jt I Y hm hv ?_ hn q);exact bA (Yz (ha pos j s M H _ I h) λus s1 ⟨vs,H1,I1,r1,q1⟩=>O j s1 M H1 vs us Q I1 r1 q1) he J
end
end L2
variable {X:L2.Cx}{pins:List (PySem.Addr×PySem.Obj)}{σ:L2.St}{H:L2.Hp}
namespace HT
open PySem PyProof.Rows
section
open PySem.SeqAt
open PySem.AutoSeq1 (wpAny_loadPart')
open PySem.MeetsSeq PySem.MeetsSeq2 PySem.MeetsSeq3
end
def Ww (n d:Nat):Option Int->Nat
 |none=>d
 |some v=>if v<0 then (v+(n:Int)).toNat else min v.toNat n
theorem ZcP (n d:Nat):Ww n d none=d:=rfl
theorem Xx (n d k:Nat):Ww n d (some (k:Int))=min k n:=by
 show (if (k:Int)<0 then ((k:Int)+(n:Int)).toNat else min (k:Int).toNat n)=min k n
 rw[if_neg (by omega),Zj]
theorem ZmY (n d:Nat)(q:d<=n)(o:Option Int):Ww n d o<=n:=by
 cases o with
 |none=>exact q
 |some v=>
  show (if v<0 then (v+(n:Int)).toNat else min v.toNat n)<=n
  by_cases j:v<0
  ·rw[if_pos j];omega
  ·rw[if_neg j];exact Nat.min_le_right _ _
theorem ZfY (v:Int)(n d:Nat):(if v<0 then max (v+(n:Int)) 0 else min v (n:Int))=((Ww n d (some v):Nat):Int):=by
 show (if v<0 then max (v+(n:Int)) 0 else min v (n:Int))=(((if v<0 then (v+(n:Int)).toNat else min v.toNat n):Nat):Int)
 by_cases j:v<0
 ·simp only[if_pos j];omega
 ·simp only[if_neg j];omega
theorem ZeP (lo j:Option Int)(n:Nat):fS lo j 1 (n:Int)=(((Ww n 0 lo:Nat):Int),((Ww n n j:Nat):Int)):=by
 have q:¬((1:Int)<0):=by omega
 unfold fS;simp only[q,if_false];refine Prod.ext ?_ ?_
 ·cases lo with
  |none=>rfl
  |some v=>exact ZfY v n 0
 ·cases j with
  |none=>rfl
  |some v=>exact ZfY v n n
theorem Zer (i j:Nat):dN (i:Int) (j:Int) 1=j-i:=by
 unfold dN;have q:(1:Int) > 0:=by omega
 simp only[q,if_true,Int.ediv_one];split <;> omega
theorem UJ {v:Value}{o:Option Int}{Q:Option Int->Shared->Prop}(p:kf v o)(h:Q o s):wpAny (model prog w) A (Builtin.Slice.slicePartIndex v) Q E s:=by
 cases p with
 |none=>exact slicePart_none h
 |int i t=>exact slicePart_int h
theorem VD {O:Addr}{J M:Value}{lo hi:Option Int}{n:Nat}{Q:Int×Int×Nat->Shared->Prop}(Y:s.heap.IsSliceOf O J M .none)(pl:kf J lo)(pu:kf M hi)
  (h:Q (((Ww n 0 lo:Nat):Int),1,Ww n n hi-Ww n 0 lo) s):wpAny (model prog w) A (i6 (.ref O) (pure (n:Int))) Q E s:=by
 obtain⟨os,j,n6,q⟩:=id Y;unfold i6 Builtin.Slice.sliceFields;refine Zl (Zl (cH j q (x:=J) rfl (Zl (cH j q (x:=M) rfl (Zl (cH j q (x:=.none) rfl (Zm ?_)))))));refine Zl (slicePart_none ?_);show wpAny _ _ (if ((1:Int) == 0)=true then _ else _) _ _ s
 rw[if_neg (by decide)];refine Zl (UJ pl (Zl (UJ pu (Zl (Zm ?_)))));show wpAny _ _ (match fS lo hi 1 (n:Int) with|(lo,hi)=>pure (lo,(1:Int),dN lo hi 1)) _ _ s
 rw[ZeP lo hi n];show wpAny _ _ (pure (((Ww n 0 lo:Nat):Int),(1:Int),dN ((Ww n 0 lo:Nat):Int) ((Ww n n hi:Nat):Int) 1)) _ _ s;rw[Zer];exact Zm h
theorem Zik (xs:Array Value)(i k:Nat):((ac k).filterMap λ(m:Nat)=>xs[((i:Int)+(m:Int)*1).toNat]?).toArray=((xs.toList.drop i).take k).toArray:=by
 have e:(λ(m:Nat)=>xs[((i:Int)+(m:Int)*1).toNat]?)=λm=>xs[i+m]?:=by
  funext m;have:((i:Int)+(m:Int)*1).toNat=i+m:=by omega
  rw[this]
 rw[e];have:=pick_run xs i k;rw[List.filterMap_map] at this;have j:((λx=>xs[x]?) ∘ λx=>i+x)=λm=>xs[i+m]?:=rfl;rw[j] at this;rw[this]
theorem Vv {t O:Addr}{items:Array Value}{vl vu:Value}{lo J:Option Int}{Q:TY}(M:lF s.heap t items)(hs:s.heap.IsSliceOf O vl vu .none)(pl:kf vl lo)(pu:kf vu J)
  (hw:¬(Ww items.size 0 lo=0/\Ww items.size items.size J=items.size))
  (h:Q (.ref s.heap.objs.size) {s with heap:=s.heap.push {cls:=.type "tuple",data:=.seq ((items.toList.drop (Ww items.size 0 lo)).take (Ww items.size items.size J-Ww items.size 0 lo)).toArray}})
  (hsz:items.size<=sizeLine):wpAny (model prog w) A (getItem (.ref t) (.ref O)) Q E s:=by
 have j:sizeOk (.seq ((items.toList.drop (Ww items.size 0 lo)).take (Ww items.size items.size J-Ww items.size 0 lo)).toArray):=by
  show ((items.toList.drop (Ww items.size 0 lo)).take (Ww items.size items.size J-Ww items.size 0 lo)).toArray.size<=sizeLine;rw[Zh,a8,bH,Zr];omega
 have hj:Ww items.size items.size J<=items.size:=ZmY _ _ (Zq _) J;obtain⟨os,Y,n6,o5⟩:=id hs;have n8:s.TypeIs (.ref O) "slice":=⟨os,Y,n6⟩;unfold getItem
 try with_reducible refine cf ?_
 first|refine Zl (Zm ?_)|skip
 refine Zl (wpAny_sequenceKey M.typeIs (by decide) ?_);refine Zl (bJ (name:=dG "__getitem__") M.typeIs dw
  (bq dw M.typeIs entry_tuple_getitem ?_ (args_tuple_getitem _ _)))
 show wpAny _ _ (fI (.ref t) >>= _) _ _ s;refine Zl (tupleItemsOf_ M ?_);refine Zl (fP n8 ?_);rw[if_pos (by decide)];refine Zl (VD hs pl pu ?_);have n9:¬((((Ww items.size 0 lo:Nat):Int) == 0 && (1:Int) == 1 && (Ww items.size items.size J-Ww items.size 0 lo) == items.size)=true):=by
  intro q;rw[ag,ag] at q;have q1:((Ww items.size 0 lo:Nat):Int)=0:=eq_of_beq q.1.1;have q2:Ww items.size items.size J-Ww items.size 0 lo=items.size:=eq_of_beq q.2;exact hw ⟨by omega,by omega⟩
 show wpAny _ _ (if (((Ww items.size 0 lo:Nat):Int) == 0 && (1:Int) == 1 && (Ww items.size items.size J-Ww items.size 0 lo) == items.size)=true then _ else _) _ _ s
 rw[if_neg n9,Zik]
 first
  |exact Zl (m:=cp _) (bb (Zm ⟨_,rfl,Zm h⟩) j)
  |exact Zl (m:=cp _) (bb (Zl (Zm (Zm ⟨_,rfl,Zm h⟩))) j)
  |exact Zl (Zl (m:=cp _) (bb (Zm (Zm ⟨_,rfl,Zm h⟩)) j))
  |exact Zl (Zl (m:=cp _) (bb (Zm ⟨_,rfl,Zm h⟩) j))
end HT
namespace L2
open PySem PySem.Spec PyProof.Rows
noncomputable abbrev TO:=St->Hp->(Option Int->Hp->Prop)->Prop
def PO (X:Cx)(e:Option Expr)(t:TO):Prop:=
 ∀(j:List (Addr×Obj)) (s:Shared) (q:St) (H:Hp) (Q:Option Int->Hp->Prop),Inv X j q H s->t q H Q->
  wpAny (model X.prog X.w) X.A (evalPart e X.env) (λu M=>∃o J,Inv X j q J M/\kf u o/\Q o J) X.xe s
def Zj8:TO:=λ_ H Q=>Q none H
inductive iPt (Q:Option Int->Hp->Prop) (x:V) (H:Hp):Prop
 |mk (i:Int):x=.int i->Q (some i) H->iPt Q x H
def ZoR (t:TE):TO:=λj H Q=>t j H (iPt Q)
theorem intsAre_of {ns:TZ}:∀{us:List Value},ZS (ns.map V.int) us->be us ns:=by
 induction ns with
 |nil=>intro us r;rw[eF] at r;cases r;exact .nil
 |cons n ns j=>
  intro us r;rw[aG] at r;cases r with
  |cons q J=>
   obtain⟨t,e⟩:=q;subst e;exact .cons n t (j J)
section
variable {e:Expr}{te:TE}{lo hi:Option Expr}{tl th:TO}{pos p2:Pos}
theorem Uj:PO X none Zj8:=by
 intro j s q H Q I h;rw[evalPart_none];exact Zm ⟨none,H,I,.none,h⟩
theorem Ui (h:PE X e te):PO X (some e) (ZoR te):=by
 intro j s J H Q I M;rw[evalPart_some];refine Yz (h j s J H _ I M) λu s1 ⟨x,O,Y,r1,q1⟩=>?_;obtain⟨i,rfl,q⟩:=q1;obtain⟨t,rfl⟩:=r1;exact⟨some i,O,Y,.int i t,q⟩
def SlR (X:Cx)(r:V->Option Int->Option Int->Hp->VK->Prop):Prop:=
 ∀(j:List (Addr×Obj)) (s:Shared) (q:St) (H:Hp) (x:V) (v J M:Value) (lo hi:Option Int) (O:Addr) (Q:VK),Inv X j q H s->RelV x v->s.heap.IsSliceOf O J M .none->kf J lo->kf M hi->r x lo hi H Q->
  ∃T id,typeLookup (.type T) "__getitem__"=pure (some (.builtin id))/\s.TypeIs v T/\wpAny (model X.prog X.w) X.A (getItem v (.ref O)) (EP X j q Q) X.xe s
def tSl (r:V->Option Int->Option Int->Hp->VK->Prop)(te:TE)(tl th:TO):TE:=λj H Q=>te j H λx q=>tl j q λl J=>th j J λu M=>r x l u M Q
theorem Vn {r:V->Option Int->Option Int->Hp->VK->Prop}(hr:SlR X r)(he:PE X e te)(hl:PO X lo tl)(hu:PO X hi th):PE X (.Subscript e (.Slice lo hi none p2) pos) (tSl r te tl th):=by
 intro j s M H Q I h;refine Subscript_ (Yz (he j s M H _ I h) λv s1 ⟨x,H1,I1,r1,q1⟩=>?_);refine wpAny_Slice (Yz (hl j s1 M H1 _ I1 q1) λO s2 ⟨l,H2,I2,pl,q2⟩=>Yz (hu j s2 M H2 _ I2 q2) λY J ⟨u,H3,I3,pu,q3⟩=>?_);rw[evalPart_none];refine Zm ?_;have I4:Inv X j M H3 {J with heap:=J.heap.push {cls:=.type "slice",data:=.fields #[O,Y,.none]}}:=I3.kept (t':=J.toks) λb ob q=>Zn _ q;obtain⟨T,id,hT,ht,hg⟩:=hr j {J with heap:=J.heap.push {cls:=.type "slice",data:=.fields #[O,Y,.none]}} M H3 x v O Y l u J.heap.objs.size Q I4 r1 (Heap.IsSliceOf.new ..) pl pu q3;show wpAny (model X.prog X.w) X.A (subscriptTail e (.Slice lo hi none p2) v (.ref J.heap.objs.size)) (EP X j M Q) X.xe {J with heap:=J.heap.push {cls:=.type "slice",data:=.fields #[O,Y,.none]}};exact tail_any (ops:=[.ref J.heap.objs.size,v]) ht hT hg (by with_unfolding_all rfl)
def X2 (xs:TV)(lo hi:Option Int):TV:=(xs.drop (HT.Ww xs.length 0 lo)).take (HT.Ww xs.length xs.length hi-HT.Ww xs.length 0 lo)
theorem V6 (xs:TV)(lo hi:Option Int):(X2 xs lo hi).length<=xs.length:=by
 unfold X2;rw[a8,bH];omega
end
def ixN (n:Nat)(i:Int):Option Nat:=if 0<=i then (if i<n then some i.toNat else none) else if -(n:Int)<=i then some (i+n).toNat else none
def X8 {α:Type}(xs:List α)(i:Int):Option α:=(ixN xs.length i).bind λj=>xs[j]?
theorem ZfJ {n:Nat}{i:Int}{j:Nat}(h:ixN n i=some j):seqIndex? i n=some j/\j<n/\-(n:Int)<=i/\i<n:=by
 unfold ixN at h;by_cases J:0<=i
 ·rw[if_pos J] at h
  by_cases q:i<n
  ·rw[if_pos q] at h
   have e:i.toNat=j:=aB h;exact⟨by rw[seqIndex_of J q,e],by omega,by omega,q⟩
  ·rw[if_neg q] at h;cases h
 ·rw[if_neg J] at h
  by_cases q:-(n:Int)<=i
  ·rw[if_pos q] at h
   have e:(i+n).toNat=j:=aB h;exact⟨by rw[seqIndex_neg (by omega) q,e],by omega,q,by omega⟩
  ·rw[if_neg q] at h;cases h
theorem Zf2 {α:Type}{xs:List α}{i:Int}{v:α}(h:X8 xs i=some v):∃j,seqIndex? i xs.length=some j/\xs[j]?=some v/\j<xs.length/\-(xs.length:Int)<=i/\i<xs.length:=by
 unfold X8 at h;cases e:ixN xs.length i with
 |none=>rw[e] at h;cases h
 |some j=>
  rw[e] at h;obtain⟨q,J,M,O⟩:=ZfJ e;exact⟨j,q,h,J,M,O⟩
theorem ZH {α:Type}{xs:List α}{j:Nat}{v:α}(h:xs[j]?=some v):X8 xs (j:Int)=some v:=by
 have q:j<xs.length:=(ae.mp h).1;have e:ixN xs.length (j:Int)=some j:=by
  unfold ixN;rw[if_pos (by omega),if_pos (by omega)];simp
 unfold X8;rw[e];exact h
theorem Zas {α:Type}(xs:List α)(v:α):X8 (xs++[v]) (-1)=some v:=by
 have j:(xs++[v]).length=xs.length+1:=by simp
 have e:ixN (xs++[v]).length (-1)=some xs.length:=by
  unfold ixN;rw[j,if_neg (by decide),if_pos (by omega)];congr 1;omega
 unfold X8;rw[e];show (xs++[v])[xs.length]?=some v;simp
def ZlW (b:Expr):Prop:=∀o i,subscripted b false o i=operate [o,i] (getItem o i)
def IxR (X:Cx)(r:R2):Prop:=
 ∀(J j:Expr) (q:List (Addr×Obj)) (s:Shared) (M:St) (H:Hp) (x y:V) (v u:Value) (Q:VK),Inv X q M H s->RelV x v->RelV y u->r x y H Q->
  subscripted j false v u=operate [v,u] (getItem v u)->wpAny (model X.prog X.w) X.A (subscriptTail J j v u) (EP X q M Q) X.xe s
def MtR (X:Cx)(id:String)(r:V->TV->Hp->VK->Prop):Prop:=
 ∀(j:List (Addr×Obj)) (s:Shared) (q:St) (H:Hp) (x:V) (J:TV) (v:Value) (M:List Value) (Q:VK),Inv X j q H s->RelV x v->ZS J M->r x J H Q->
  wpAny (model X.prog X.w) X.A (call (.builtin id) (v::M)) (EP X j q Q) X.xe s
section
variable {X:Cx}{a b:Expr}{ta tb:TE}{pos:Pos}
theorem ZD {r:R2}(J:IxR X r)(M:PE X a ta)(hb:PE X b tb)(O:ZlW b):PE X (.Subscript a b pos) (tOp r ta tb):=by
 intro j s Y H Q I h;exact Subscript_ (Zok M hb I h λv u s2 x y H2 I2 rx ry q=>J a b j s2 Y H2 x y v u Q I2 rx ry q (O _ _))
inductive Zm7 (K:aa) (x:V) (y:V) (H:Hp) (Q:VK):Prop
 |mk (p:_) (xs:_) (i:_) (v:_):(x=.ref p)->(y=.int i)->(Wx K H p xs)->(X8 xs i=some v)->(Q v H)->Zm7 K x y H Q
inductive Zm6 (K:aa) (x:V) (y:V) (H:Hp) (Q:VK):Prop
 |mk (p:_) (xs:_) (i:_) (v:_):(x=.ref p)->(y=.int i)->(XQ K H p xs)->(X8 xs i=some v)->(Q v H)->Zm6 K x y H Q
theorem Zls:IxR X (Zm7 X.K):=by
 intro O Y J s σ H x y v u Q I rx ry h hs;obtain⟨p,xs,i,z,rfl,rfl,hq,he,q⟩:=h;cases rx;obtain⟨t,rfl⟩:=ry;obtain⟨n6,r,pl,hz⟩:=I.list hq;obtain⟨j,M,h2,h3,h4,h5⟩:=Zf2 he;obtain⟨w,ew,n8⟩:=r.get h2;have hl:=r.length;have hn:=XY;have fin:EP X J σ Q w s:=⟨z,H,I,n8,q⟩;by_cases h0:0<=i
 ·have hj:i.toNat=j:=by
   rw[seqIndex_of h0 h5] at M;exact aB M
  exact item_listR pl.isList h0 (by omega) (by rw[hj];simpa using ew) fin hs
 ·have hj:(i+(n6.toArray.size:Int)).toNat=j:=by
   rw[seqIndex_neg (by omega) h4] at M;rw[Zh,<-hl];exact aB M
  exact mZ (x:=w) pl.isList.typeIs slot_list_getitem.lookup
   (wpAny_getItem_list_neg (Q:=λr s'=>r=w/\EP X J σ Q r s') pl.isList (by omega) (by rw[Zh] <;> omega) (by omega) (by rw[hj];simpa using ew) ⟨rfl,fin⟩) hs
theorem ZnW:IxR X (Zm6 X.K):=by
 intro M O J s σ H x y v u Q I rx ry h hs;obtain⟨p,xs,i,z,rfl,rfl,hq,he,q⟩:=h;cases rx;obtain⟨t,rfl⟩:=ry;obtain⟨n6,r,pl,hz⟩:=I.tuple hq;obtain⟨j,h1,h2,h3,h4,h5⟩:=Zf2 he;obtain⟨w,ew,Y⟩:=r.get h2;have hl:=r.length;have hn:=XY;have fin:EP X J σ Q w s:=⟨z,H,I,Y,q⟩;exact mZ (x:=w) pl.typeIs dw.lookup
  (getItem_tuple (j:=j) (Q:=λr s'=>r=w/\EP X J σ Q r s') pl (by omega) (by omega) (by rw[Zh,<-hl];exact h1) (by simpa using ew) ⟨rfl,fin⟩) hs
theorem Zez (q:List Value)(n j:Nat)(u:Value):bz (·.setIfInBounds j u) {cls:=.type "list",data:=.seq q.toArray n}={cls:=.type "list",data:=.seq (q.set j u).toArray n}:=by
 simp[bz]
theorem Inv.lst {q:List (Addr×Obj)}{σ:St}{H:Hp}{s:Shared}{p:Addr}{xs:TV}(I:Inv X q σ H s)(h:H p=some (.lst xs)) :
  ∃(j:List Value) (n:Nat),ZS xs j/\s.heap.get? p=some {cls:=.type "list",data:=.seq j.toArray n}/\xs.length<=sizeLine:=by
 obtain⟨z,j,n,r,e⟩:=I.hok p _ h;exact⟨j,n,r,e,z⟩
theorem Inv.lstUpd {j:List (Addr×Obj)}{σ:St}{H:Hp}{s:Shared}{p:Addr}{xs ys:TV}{J its':List Value}{n M:Nat}{f:Obj->Obj}(I:Inv X j σ H s)(h:H p=some (.lst xs))
  (O:s.heap.get? p=some {cls:=.type "list",data:=.seq J.toArray n}) (hf:f {cls:=.type "list",data:=.seq J.toArray n}={cls:=.type "list",data:=.seq its'.toArray M}) (r:ZS ys its') (hz:ys.length<=sizeLine) (t:Nat) :
  Inv X j σ (upd H p (.lst ys)) {s with heap:=s.heap.update p f,toks:=t}:=by
 have e:(s.heap.update p f).get? p=some {cls:=.type "list",data:=.seq its'.toArray M}:=by
  rw[bF f O (by rw[hf] <;> rfl),hf]
 refine I.write (x:=p) (e:=p) (by rw[h];trivial) (.inl rfl) (λb u hb q=>(bU _ _ (bf hb)).trans q) ⟨_,e⟩ ?_;exact⟨hz,its',M,r,e⟩
inductive Zmn (o:V) (i:V) (v:V) (H:Hp) (Q:(Hp->Prop)):Prop
 |mk (p:_) (xs:_) (k:_) (j:_):(o=.ref p)->(i=.int k)->(H p=some (.lst xs))->(ixN xs.length k=some j)->(Q (upd H p (.lst (xs.set j v))))->Zmn o i v H Q
theorem YR:Zos X Zmn:=by
 intro J s σ H o i v ov iv u Q I ro ri rv h;obtain⟨p,xs,k,j,rfl,rfl,hp,hj,q⟩:=h;cases ro;obtain⟨t,rfl⟩:=ri;obtain⟨M,n,r,Y,hz⟩:=I.lst hp;obtain⟨O,h2,h3,h4⟩:=ZfJ hj;have hl:=r.length;have hn:=XY;have I':Inv X J σ (upd H p (.lst (xs.set j v))) {s with heap:=s.heap.update p (bz (·.setIfInBounds j u))}:=
  I.lstUpd hp Y (Zez M n j u) (r.set rv j) (by rw[bg];exact hz) s.toks
 by_cases h0:0<=k
 ·have hk:k.toNat=j:=by
   rw[seqIndex_of h0 h4] at O;exact aB O
  exact PySem.W.ki_setAt Y h0 (by omega) (by rw[Zh,<-hl];exact h4) (by rw[hk];exact⟨_,I',q⟩)
 ·have hk:(k+(M.toArray.size:Int)).toNat=j:=by
   rw[seqIndex_neg (by omega) h3] at O;rw[Zh,<-hl];exact aB O
  exact PySem.W.ki_setBack Y (by omega) (by rw[Zh,<-hl];exact h3) (by omega) (by rw[hk];exact⟨_,I',q⟩)
theorem Zbz (lo j:Option Int)(n:Nat):(sliceBounds lo j none n).1=((HT.Ww n 0 lo:Nat):Int)/\(sliceBounds lo j none n).2.1=((HT.Ww n n j:Nat):Int)/\(sliceBounds lo j none n).2.2=1:=by
 refine⟨?_,?_,rfl⟩
 ·cases lo with
  |none=>simp[sliceBounds,HT.Ww]
  |some i=>
   simp only[sliceBounds,HT.Ww,mM,show (1:Int) > 0 by decide,if_true];by_cases h:i<0
   ·simp only[h,if_true] <;> omega
   ·simp only[h,if_false] <;> omega
 ·cases j with
  |none=>simp[sliceBounds,HT.Ww]
  |some i=>
   simp only[sliceBounds,HT.Ww,mM,show (1:Int) > 0 by decide,if_true];by_cases h:i<0
   ·simp only[h,if_true] <;> omega
   ·simp only[h,if_false] <;> omega
theorem Zax (j:List Value)(lo q:Option Int):slicePick j.toArray lo q none=((j.drop (HT.Ww j.length 0 lo)).take (HT.Ww j.length j.length q-HT.Ww j.length 0 lo)).toArray:=by
 obtain⟨J,M,O⟩:=Zbz lo q j.toArray.size;unfold slicePick;rw[J,M,O];simp only[sliceRange_one,pick_run,Zh] <;> rfl
inductive Zpj (K:aa) (x:V) (lo:Option Int) (hi:Option Int) (H:Hp) (Q:VK):Prop
 |mk (a:_) (xs:_):(x=.ref a)->(Wx K H a xs)->(∀p,H p=none->Q (.ref p) (upd H p (.lst (X2 xs lo hi))))->Zpj K x lo hi H Q
theorem Ze8:SlR X (Zpj X.K):=by
 intro M s σ H x v vl vu lo J sl Q I rx Y pl pu h;obtain⟨a,xs,rfl,hx,q⟩:=h;cases rx;obtain⟨n6,r,O,hz⟩:=I.list hx;have j:=r.length;refine⟨"list",_,slot_list_getitem.lookup,O.isList.typeIs,?_⟩;refine wpAny_getItem_list_slice O.isList Y pl pu .none (by simp) ?_ (by rw[Zh] <;> omega)
 rw[Zax,<-j];refine⟨.ref s.heap.objs.size,_,I.laid (t':=s.toks) (o:=.lst (X2 xs lo J)) (λb ob q=>Zn _ q) (Zq _) ?_,rfl,q _ (I.hok.fresh (Zq _))⟩;exact⟨aW (V6 xs lo J) hz,_,0,(r.drop (HT.Ww xs.length 0 lo)).take (HT.Ww xs.length xs.length J-HT.Ww xs.length 0 lo),Zo _ rfl⟩
def WK:V->Bool
 | .non=>true
 | .bl _=>true
 | .int _=>true
 | .str _=>true
 |_=>false
def Uo:V->V->Bool
 | .non,.non=>true
 | .bl a,.bl b=>a == b
 | .bl a,.int b=>(if a then 1 else 0) == b
 | .int a,.bl b=>a == (if b then 1 else 0)
 | .int a,.int b=>a == b
 | .str a,.str b=>a == b
 |_,_=>false
theorem Zn3 {A:Around}{s:Shared}{y x:V}{u v:Value}(q:RelV y u)(rx:RelV x v)(M:WK y=true)(J:WK x=true):lr A s u v (Uo y x):=by
 cases y with
 |non=>
  cases q;cases x with
  |non=>cases rx;exact SeqAt.EqAt.same _
  |bl b=>cases rx;exact SeqAt.EqAt.none_bool b
  |int b=>obtain⟨t,rfl⟩:=rx;exact SeqAt.EqAt.none_int b t
  |str b=>obtain⟨t,rfl⟩:=rx;exact SeqAt.EqAt.none_str b t
  |_=>exact absurd (show false=true from J) aH
 |bl a=>
  cases q;cases x with
  |non=>cases rx;exact SeqAt.EqAt.bool_none a
  |bl b=>cases rx;exact SeqAt.EqAt.bool_bool a b
  |int b=>obtain⟨t,rfl⟩:=rx;exact SeqAt.EqAt.bool_int a b t
  |str b=>obtain⟨t,rfl⟩:=rx;exact SeqAt.EqAt.bool_str a b t
  |_=>exact absurd (show false=true from J) aH
 |int a=>
  obtain⟨j,rfl⟩:=q;cases x with
  |non=>cases rx;exact SeqAt.EqAt.int_none a j
  |bl b=>cases rx;exact SeqAt.EqAt.int_bool a j b
  |int b=>obtain⟨t,rfl⟩:=rx;exact gc a j b t
  |str b=>obtain⟨t,rfl⟩:=rx;exact ku a j b t
  |_=>exact absurd (show false=true from J) aH
 |str a=>
  obtain⟨j,rfl⟩:=q;cases x with
  |non=>cases rx;exact SeqAt.EqAt.str_none a j
  |bl b=>cases rx;exact SeqAt.EqAt.str_bool a j b
  |int b=>obtain⟨t,rfl⟩:=rx;exact kq a j b t
  |str b=>obtain⟨t,rfl⟩:=rx;exact SeqAt.EqAt.str_str a j b t
  |_=>exact absurd (show false=true from J) aH
 |_=>exact absurd (show false=true from M) aH
def eqU (x:V)(u:Value):Bool:=match u with
 | .none=>Uo .non x
 | .bool b=>Uo (.bl b) x
 | .int i _=>Uo (.int i) x
 | .str z _=>Uo (.str z) x
 |_=>false
theorem U9 {x y:V}{u:Value}(r:RelV y u)(f:WK y=true):eqU x u=Uo y x:=by
 cases y with
 |non=>cases r;rfl
 |bl b=>cases r;rfl
 |int i=>obtain⟨t,rfl⟩:=r;rfl
 |str z=>obtain⟨t,rfl⟩:=r;rfl
 |_=>exact absurd (show false=true from f) aH
theorem Zcr {x:V}:∀{xs:TV}{us:List Value},ZS xs us->xs.all WK=true->us.any (eqU x)=xs.any λy=>Uo y x
 |_,_,.nil,_=>rfl
 |y::xs,u::us,.cons r t,f=>by
  rw[List.all_cons,ag] at f;rw[c6,c6,U9 r f.1,Zcr t f.2]
theorem JD {A:Around}{s:Shared}{x:V}{v:Value}(rx:RelV x v)(q:WK x=true):∀{xs:TV}{us:List Value},ZS xs us->xs.all WK=true->∀u∈us,lr A s u v (eqU x u)
 |_,_,.nil,_=>λu j=>by cases j
 |y::xs,u::us,.cons r t,f=>λJ j=>by
  rw[List.all_cons,ag] at f;rcases aF.mp j with rfl|j
  ·rw[U9 r f.1];exact Zn3 r rx f.1 q
  ·exact JD rx q t f.2 J j
def inV (x:V)(xs:TV):Bool:=xs.any λy=>Uo y x
inductive rIn (K:aa) (neg:Bool) (x:V) (y:V) (H:Hp) (Q:VK):Prop
 |mk (p:_) (xs:_):(y=.ref p)->((Wx K H p xs\/XQ K H p xs))->(WK x=true)->(xs.all WK=true)->(Q (.bl (if neg then !inV x xs else inV x xs)) H)->rIn K neg x y H Q
theorem ZbL:VC X (compareOp .NotIn) (rIn X.K true):=by
 intro O s σ H x y v u Q I rx ry h;obtain⟨p,xs,rfl,J,Y,fs,q⟩:=h;cases ry;rcases J with J|J
 ·obtain⟨j,r,pl,hz⟩:=I.list J
  refine mz (eqU x) pl.isList (λw M=>JD rx Y r fs w (by simpa using M)) ⟨.bl _,H,I,rfl,?_⟩;rw[show j.toArray.any (eqU x)=j.any (eqU x) by simp,Zcr r fs];exact q
 ·obtain⟨j,r,pl,hz⟩:=I.tuple J
  refine lS (eqU x) pl (λw M=>JD rx Y r fs w (by simpa using M)) ⟨.bl _,H,I,rfl,?_⟩;rw[show j.toArray.any (eqU x)=j.any (eqU x) by simp,Zcr r fs];exact q
inductive I_call_len_seq (K:aa) (xs:TV) (H:Hp) (Q:VK):Prop
 |mk (p:_) (ys:_):(xs=[.ref p])->((Wx K H p ys\/XQ K H p ys))->(Q (.int ys.length) H)->I_call_len_seq K xs H Q
theorem Zcm:YA X (.builtin "len") (_root_.L2.I_call_len_seq X.K):=by
 intro O s σ H xs us Q I r h;obtain⟨p,Y,rfl,j,q⟩:=h;obtain⟨u,rfl,rx⟩:=vals1 r;cases rx;have hn:=XY;rcases j with j|j
 ·obtain⟨J,M,pl,hz⟩:=I.list j
  have hlen:=M.length;exact Calls.call_len_list pl.isList (by simp only[Zh] <;> omega) ⟨.int Y.length,H,I.tok _,⟨s.toks+1,by rw[Zh,hlen]⟩,q⟩
 ·obtain⟨J,M,pl,hz⟩:=I.tuple j
  have hlen:=M.length;exact len_tuple pl (by simp only[Zh] <;> omega) ⟨.int Y.length,H,I.tok _,⟨s.toks+1,by rw[Zh,hlen]⟩,q⟩
inductive I_call_list_of (K:aa) (xs:TV) (H:Hp) (Q:VK):Prop
 |mk (p:_) (ys:_):(xs=[.ref p])->((Wx K H p ys\/XQ K H p ys))->(∀l,H l=none->Q (.ref l) (upd H l (.lst ys)))->I_call_list_of K xs H Q
theorem WX:YA X (.type "list") (_root_.L2.I_call_list_of X.K):=by
 intro Y s σ H xs us Q I r h;obtain⟨p,ys,rfl,hq,q⟩:=h;obtain⟨u,rfl,rx⟩:=vals1 r;cases rx;have n6:∀(j:List Value),ZS ys j->ys.length<=sizeLine->∀(J:Heap) (M:Nat),(∀b o',s.heap.get? b=some o'->J.get? b=some o')->
   J.get? s.heap.objs.size=some {cls:=.type "list",dict:=none,data:=.seq j.toArray M,slots:=#[]}->EP X Y σ Q (.ref s.heap.objs.size) {s with heap:=J}:=λj O hz J M kp e=>
  ⟨.ref s.heap.objs.size,_,I.laid (t':=s.toks) kp (Zq _) (show Ys X.prog X.w _ J _ (.lst ys) from ⟨hz,j,M,O,e⟩),rfl,q _ (I.hok.fresh (Zq _))⟩
 rcases hq with hq|hq
 ·obtain⟨j,O,pl,hz⟩:=I.list hq
  have n8:=O.length;obtain⟨o,ho,hc,n,hd⟩:=pl.isList;exact call_list_seq p (.inl rfl) ho hc hd (λJ M kp e=>n6 j O hz J M kp e) (by simp only[Zh] <;> omega)
 ·obtain⟨j,O,pl,hz⟩:=I.tuple hq
  have n8:=O.length;obtain⟨o,ho,hc,n,hd⟩:=pl;exact call_list_seq p (.inr rfl) ho hc hd (λJ M kp e=>n6 j O hz J M kp e) (by simp only[Zh] <;> omega)
inductive I_call_tuple_of (K:aa) (xs:TV) (H:Hp) (Q:VK):Prop
 |mk (p:_) (ys:_):(xs=[.ref p])->(((Wx K H p ys/\∀l,H l=none->Q (.ref l) (upd H l (.tup ys)))\/(XQ K H p ys/\Q (.ref p) H)))->I_call_tuple_of K xs H Q
theorem ZX:YA X (.type "tuple") (_root_.L2.I_call_tuple_of X.K):=by
 intro j s σ H xs us Q I r h;obtain⟨p,ys,rfl,h⟩:=h;obtain⟨u,rfl,rx⟩:=vals1 r;cases rx;rcases h with ⟨O,q⟩|⟨O,q⟩
 ·obtain⟨J,Y,pl,hz⟩:=I.list O
  have n6:=Y.length;refine call_tuple_list pl.isList (λM kp=>?_) (by simp only[Zh] <;> omega)
  have I1:Inv X j σ H {s with heap:=M}:=I.kept (t':=s.toks) kp;have I2:Inv X j σ (upd H M.objs.size (.tup ys)) {s with heap:=M.push {cls:=.type "tuple",data:=.seq J.toArray}}:=
   I1.laid (t':=s.toks) (λb o e=>Zn _ e) (Zq _) (show Ys X.prog X.w _ _ _ (.tup ys) from ⟨hz,J,Y,jz _ _⟩)
  exact⟨.ref M.objs.size,_,I2,rfl,q _ (I1.hok.fresh (Zq _))⟩
 ·obtain⟨J,Y,pl,hz⟩:=I.tuple O
  exact call_tuple_same pl ⟨.ref p,H,I,rfl,q⟩
def tyV (K:aa)(T:String)(x:V)(H:Hp):Prop:=match x with
 | .str _=>T = "str"
 | .int _=>T = "int"
 | .ref p=>(T = "list"/\∃q,Wx K H p q)\/(T = "tuple"/\∃o,K.lookup p=some o/\o.cls=.type "tuple"/\o.dict=none)\/
   (T = "dict"/\((∃j,H p=some (.dK j))\/∃j,H p=some (.dT j)))\/(T = "set"/\∃S n,H p=some (.set S n))
 |_=>False
theorem ZmJ {q:List (Addr×Obj)}{σ:St}{H:Hp}{s:Shared}{T:String}{x:V}{v:Value}(I:Inv X q σ H s)(r:RelV x v)(J:tyV X.K T x H) :
  s.TypeIs v T/\∀a,v=.ref a->∃Y,s.heap.get? a=some Y/\Y.dict=none:=by
 cases x with
 |str z=>
  obtain⟨t,rfl⟩:=r;cases (show T = "str" from J);exact⟨typeIs_str s z t,λ_ e=>nomatch e⟩
 |int i=>
  obtain⟨t,rfl⟩:=r;cases (show T = "int" from J);exact⟨typeIs_int s i t,λ_ e=>nomatch e⟩
 |ref p=>
  cases r;rcases J with ⟨rfl,xs,hq⟩|⟨rfl,o,j,hc,hd⟩|⟨rfl,j⟩|⟨rfl,S,n,j⟩
  ·obtain⟨n6,_,pl,_⟩:=I.list hq
   refine⟨pl.isList.typeIs,λa e=>?_⟩;cases e;obtain⟨o,n,e,c,hd,_⟩:=pl;exact⟨o,e,hd⟩
  ·refine⟨⟨o,I.kIn p o j,hc⟩,λa e=>?_⟩
   cases e;exact⟨o,I.kIn _ o j,hd⟩
  ·have z:∃o,s.heap.get? p=some o/\o.ExactDict:=by
    rcases j with ⟨M,j⟩|⟨M,j⟩
    ·obtain⟨_,_,_,_,o,_,_,e,ex,_⟩:=I.hok p _ j
     exact⟨o,e,ex⟩
    ·obtain⟨_,_,_,_,o,_,_,e,ex,_⟩:=I.hok p _ j
     exact⟨o,e,ex⟩
   obtain⟨o,e,ex⟩:=z;refine⟨⟨o,e,ex.1⟩,λa O=>?_⟩;cases O;exact⟨o,e,ex.2.1⟩
  ·obtain⟨o,_,_,_,e,ex,_⟩:=I.hok p _ j
   refine⟨⟨o,e,ex.1⟩,λa O=>?_⟩;cases O;exact⟨o,e,ex.2.1⟩
 |_=>exact ef J
inductive iBM (K:aa) (T:String) (r:V->TV->Hp->VK->Prop) (t:TA) (σ:St) (Q:VK) (x:V) (H:Hp):Prop
 |mk:tyV K T x H->(t σ H λxs H2=>r x xs H2 Q)->iBM K T r t σ Q x H
def tBM (K:aa)(T:String)(r:V->TV->Hp->VK->Prop)(q:TE)(t:TA):TE:=λj H Q=>q j H (iBM K T r t j Q)
variable {o e:Expr}{es:List Expr}{to:TE}{t:TA}{name:Str}{apos cpos:Pos}{T id:String}{r:V->TV->Hp->VK->Prop}
theorem WH (pa:PlainAttrs T)(slot:Slot T name id)(Y:typeOf (.builtin id)=pure (.type "method_descriptor"))(hm:MtR X id r)(ho:PE X o to)(ha:PA X (e::es) t)
  (J:attributeBase o name X.env (eval o X.env)=eval o X.env:=by rfl)
  (O:((backTo cpos (starEach (e::es) X.env)).all (λx=>!x.1) && (backToKw cpos (keywordEach [] X.env)).all (λx=>x.1.isSome)
   && decide ((e::es).length+([]:List Keyword).length+(if ([]:List Keyword).isEmpty then 0 else 1)<30))=true:=by rfl)
  (M:(apos.endLine == cpos.line)=true:=by rfl) (hs:starEach (e::es) X.env=(false,eval e X.env)::starEach es X.env:=by rfl) (q:(backTo cpos (starEach es X.env)).any (·.1)=false:=by rfl) :
  PE X (.Call (.Attribute o name apos) (e::es) [] cpos) (tBM X.K T r to t):=by
 intro j s σ H Q I h;refine mT J O M rfl (Yz (ho j s σ H _ I h) λv s1 ⟨x,H1,I1,r1,ty,q1⟩=>?_);obtain⟨h1,h2⟩:=ZmJ I1 r1 ty;refine⟨T,id,pa,slot,Y,h1,h2,?_⟩;have hA:=ha cpos j s1 σ H1 _ I1 q1;rw[hs] at hA ⊢;refine kJ (by show (false || (backTo cpos (starEach es X.env)).any (·.1))=false;rw[q] <;> rfl) (lC ?_)
 exact Yz hA λus s2 ⟨vs,H2,I2,r2,q2⟩=>hm j s2 σ H2 x vs v us Q I2 r1 r2 q2
end
def MtM (X:Cx)(id:String)(r:V->TV->Hp->VK->Prop):Prop:=
 ∀(j:List (Addr×Obj)) (s:Shared) (q:St) (H:Hp) (x:V) (J:TV) (v:Value) (M:List Value) (Q:VK),Inv X j q H s->RelV x v->ZS J M->r x J H Q->
  wpAny (model X.prog X.w) X.A (call (.builtin id) (v::M)) (EP X j q Q) X.xe s
theorem ZS.one {x:V}{us:List Value}(h:ZS [x] us):∃u,us=[u]/\RelV x u:=by
 cases h with
 |cons r t=>cases t;exact⟨_,rfl,r⟩
theorem ZS.rep {xs:TV}{us:List Value}(h:ZS xs us):∀k:Nat,ZS (aq k xs).flatten (aq k us).flatten
 |0=>.nil
 |k+1=>by
  rw[ba,ba,bZ,bZ];exact ZS.append h (ZS.rep h k)
theorem foldl_rep (j:List Value):∀(k:Nat) (ZJ:List Value),
  mP (λq J=>q++J) ZJ.toArray (aq k j.toArray)=(ZJ++(aq k j).flatten).toArray
 |0,ZJ=>by simp
 |k+1,ZJ=>by
  have e:ZJ.toArray++j.toArray=(ZJ++j).toArray:=by simp
  have M:(ZJ++j)++(aq k j).flatten=ZJ++(aq (k+1) j).flatten:=by
   rw[ba,bZ,jv]
  rw[<-M,<-foldl_rep j k (ZJ++j),<-e,ba,List.foldl_cons]
section
variable {l b:Addr}{xs ys zs:TV}
theorem Inv.lset {j its':List Value}{n:Nat}{f:Array Value->Array Value}{t':Nat}(I:Inv X pins σ H s)(J:H l=some (.lst xs))
  (e:s.heap.get? l=some {cls:=.type "list",data:=.seq j.toArray n}) (M:f j.toArray=its'.toArray) (O:ZS ys its') (hz:ys.length<=sizeLine) :
  Inv X pins σ (upd H l (.lst ys)) {s with heap:=s.heap.update l (bz f),toks:=t'}:=by
 have q:=PySem.IsL.update e f;rw[M] at q;refine I.write (x:=l) (e:=l) (by rw[J];exact trivial) (.inl rfl) (λb' u hb Y=>(bU s.heap (bz f) (bf hb)).trans Y) ⟨_,q⟩ ?_;exact⟨hz,its',_,O,q⟩
theorem Inv.lnew {j:List Value}{t':Nat}(I:Inv X pins σ H s)(J:ZS ys j)(hz:ys.length<=sizeLine) :
  Inv X pins σ (upd H s.heap.objs.size (.lst ys)) {s with heap:=s.heap.push {cls:=.type "list",data:=.seq j.toArray},toks:=t'}:=
 I.laid (λ_ _ q=>Zn _ q) (Zq _) ⟨hz,j,0,J,Zo _ rfl⟩
theorem Inv.fresh (I:Inv X pins σ H s):H s.heap.objs.size=none:=I.hok.fresh (Zq _)
theorem Inv.lstM (I:Inv X pins σ H s)(q:H l=some (.lst xs)):xs.length<=sizeLine/\∃(j:List Value) (n:Nat),ZS xs j/\xs.length=j.length/\s.heap.get? l=some {cls:=.type "list",data:=.seq j.toArray n}:=by
 obtain⟨z,j,n,r,e⟩:=I.hok l _ q;exact⟨z,j,n,r,r.length,e⟩
theorem Zc8 {n:Nat}(h:n<=sizeLine):dY n=false:=by
 unfold dY;exact decide_eq_false (by omega)
end
inductive Zfq (x:V) (vs:TV) (H:Hp) (Q:VK):Prop
 |mk (l:_) (xs:_) (y:_):(x=.ref l)->(vs=[y])->(H l=some (.lst xs))->(xs.length<sizeLine)->(Q .non (upd H l (.lst (xs++[y]))))->Zfq x vs H Q
theorem Yb:MtM X "list.append" Zfq:=by
 intro J s σ H x vs v us Q I rx Y h;obtain⟨l,xs,y,rfl,rfl,M,hz,q⟩:=h;cases rx;obtain⟨u,rfl,ru⟩:=Y.one;obtain⟨z,j,n,r,hl,e⟩:=I.lstM M;refine eR aR ⟨_,e,rfl⟩ F.entry_list_append (F.args_list_append_2 _ _) (PySem.list_append l j.toArray n u (by rw[Zh];omega)) ⟨e,?_⟩;refine⟨.non,_,I.lset (its':=j++[u]) M e (by simp) (r.append (.cons ru .nil)) ?_,rfl,q⟩;rw[Zd,Zk];omega
inductive Zfp (x:V) (vs:TV) (H:Hp) (Q:VK):Prop
 |mk (l:_) (b:_) (xs:_) (zs:_):(x=.ref l)->(vs=[.ref b])->(H l=some (.lst xs))->(H b=some (.lst zs))->(xs.length+zs.length<=sizeLine)->(Q .non (upd H l (.lst (xs++zs))))->Zfp x vs H Q
theorem ZgC:MtM X "list.extend" Zfp:=by
 intro Y s σ H x vs v us Q I rx rv h;obtain⟨l,b,xs,zs,rfl,rfl,hH,hB,hz,q⟩:=h;cases rx;obtain⟨u,rfl,ru⟩:=rv.one;cases ru;obtain⟨z,J,n,r,hl,e⟩:=I.lstM hH;obtain⟨z2,j,n2,r2,n8,e2⟩:=I.lstM hB;have O:J.toArray.size+j.toArray.size<=sizeLine:=by rw[Zh,Zh];omega
 have M:¬(!J.toArray.isEmpty && dY (J.toArray.size+j.toArray.size))=true:=by
  rw[Zc8 O,ka];exact aH
 refine eR lA ⟨_,e,rfl⟩ F.entry_list_extend (F.args_list_extend_2 _ _)
  (AutoSeq1.list_extend_list_list_0 l J.toArray n b j.toArray n2 M (by rw[Zh];omega) (by omega)) ⟨e,e2,?_⟩
 refine⟨.non,_,I.lset (its':=J++j) hH e (by simp) (r.append r2) ?_,rfl,q⟩;rw[Zd];omega
inductive Zpl (x:V) (y:V) (H:Hp) (Q:VK):Prop
 |mk (l:_) (b:_) (xs:_) (zs:_):(x=.ref l)->(y=.ref b)->(H l=some (.lst xs))->(H b=some (.lst zs))->(xs.length+zs.length<=sizeLine)->(∀p,H p=none->Q (.ref p) (upd H p (.lst (xs++zs))))->Zpl x y H Q
theorem VF:VC X (binaryOp .Add) Zpl:=by
 intro M s σ H x y v u Q I rx O h;obtain⟨l,b,xs,zs,rfl,rfl,Y,hB,hz,q⟩:=h;cases rx;cases O;obtain⟨z,J,n,r,hl,e⟩:=I.lstM Y;obtain⟨z2,j,n2,r2,n6,e2⟩:=I.lstM hB;refine PySem.P.add_list e e2 ?_ (by rw[Zh,Zh];omega);have ea:J.toArray++j.toArray=(J++j).toArray:=by simp
 rw[ea];exact⟨.ref _,_,I.lnew (t':=s.toks) (r.append r2) (by rw[Zd];omega),rfl,q _ I.fresh⟩
inductive Zpk (x:V) (y:V) (H:Hp) (Q:VK):Prop
 |mk (l:_) (k:_) (xs:_):(x=.ref l)->(y=.int k)->(H l=some (.lst xs))->(-(2 ^ 63)<=k)->(k<2 ^ 63)->(xs.length*k.toNat<=sizeLine)->(∀p,H p=none->Q (.ref p) (upd H p (.lst (aq k.toNat xs).flatten)))->Zpk x y H Q
theorem Zb2 {α:Type}(xs:List α)(k:Nat):(aq k xs).flatten.length=k*xs.length:=by
 induction k with
 |zero=>simp
 |succ k j=>rw[ba,bZ,Zd,j,cq,lJ]
theorem W9:VC X (binaryOp .Mult) Zpk:=by
 intro n8 s σ H x y v u Q I rx ry h;obtain⟨l,k,xs,rfl,rfl,hH,h1,h2,hz,q⟩:=h;cases rx;obtain⟨t,rfl⟩:=ry;obtain⟨z,j,n,r,hl,e⟩:=I.lstM hH;have M:j.toArray.size*k.toNat<=sizeLine:=by rw[Zh,<-hl];exact hz
 have O:¬j.toArray.size*k.toNat > (2 ^ 63-1) / 8:=by
  have:(sizeLine:Nat)<=(2 ^ 63-1) / 8:=by decide
  omega
 have Y:¬(!fN k)=true:=by
  rw[fitsIndex_both h1 h2];exact aH
 have J:¬dY (j.toArray.size*k.toNat)=true:=by
  rw[Zc8 M];exact aH
 have n6:mP (λx1 x2=>x1++x2) #[] (aq (if j.toArray.isEmpty=true then 0 else k.toNat) j.toArray)=(aq k.toNat j).flatten.toArray:=by
  have f0:∀m:Nat,mP (λx1 x2=>x1++x2) #[] (aq m j.toArray)=(aq m j).flatten.toArray:=λm=>by
   have:=foldl_rep j m [];rw[List.nil_append] at this;exact this
  rw[f0];cases j with
  |nil=>simp
  |cons a r'=>rw[if_neg (by simp)]
 refine wpAny_binaryOp_repeat_ref (T:="list") (U:="int") (by decide) ⟨_,e,rfl⟩ (λs'=>typeIs_int s' k t) noFill_list_mul F.fills_int_mul F.slot_int_rmul repeat_list F.slot_int_index.lookup
  (eR F.slot_int_rmul (typeIs_int s k t) F.entry_int_rmul (F.args_int_rmul_2 _ _) (int___rmul___int_list k t l j.toArray n)
   ⟨e,rfl,⟨_,e,rfl⟩,eR F.slot_list_mul ⟨_,e,rfl⟩ F.entry_list_mul (F.args_list_mul_2 _ _) (AutoListH.list___mul___list_int_3 l j.toArray n k t Y O J) ⟨e,?_⟩⟩)
 rw[n6];exact⟨.ref _,_,I.lnew (t':=s.toks) (r.rep k.toNat) (by rw[Zb2,fw];exact hz),rfl,q _ I.fresh⟩
end L2
namespace Att
open PySem PySem.W PySem.Calls PyProof.Rows
theorem Ua {P:Params}{h:Heap}:∀(ns:TZ) (vs:List Value),WellAll P h vs (ns.map WData.int)->be vs ns:=by
 intro ns;induction ns with
 |nil=>
  intro vs w;rw[eF] at w;cases w;exact .nil
 |cons n ns j=>
  intro vs w;rw[aG] at w;cases w with
  |cons a b=>
   cases a;exact .cons _ _ (j _ b)
theorem Zgf {l:gY}{n:Nat}(hn:l.most=some n){P:Params}{h:Heap}{args:List WData}{Va:List Value}
  (j:l.row.toRowW.claim.pre args=true) (Y:WellAll P h Va args) :
  ∃a vs ns,Va=[ax a]/\args=[WData.list (ns.map WData.int)]/\h.get? a=some {cls:=.type "list",data:=.seq vs.toArray}/\be vs ns/\ns.length<=n:=by
 have n6:WShape.hasAll [] args [.list .int]=true:=(pre_splitW j).1;have hc:l.pre.holds [] {args:=args}=true:=(pre_splitW j).2;obtain⟨d,r,rfl,h1,h2⟩:=hasAllW_cons n6;obtain rfl:=hasAllW_nil h2;obtain⟨xs,rfl,h3⟩:=hasW_list h1;obtain⟨ns,rfl⟩:=items_int h3;have hlen:ns.length<=n:=by
  unfold OpenLaw.pre at hc;have M:(WTm.not (.lt (.lit (.int (n:Int))) (.len (.arg 0)))).holds [] {args:=[.list (ns.map .int)]}=true:=by
   have M:=(holds_andW hc).1;rw[hn] at M;exact M
  have O:=condW_of M (w_not (w_lt w_lit (w_len_list (w_arg rfl))));rw[Za] at O;refine fU λq=>?_;have q':(n:Int)<((ns.length:Nat):Int):=by omega
  first
   |(rw[decide_eq_true q'] at O;exact absurd O (by decide))
   |(simp at O;omega)
 cases Y with
 |cons w1 w2=>
  cases w2;cases w1 with
  |list ho J=>exact⟨_,_,ns,rfl,rfl,ho,Ua ns _ J,hlen⟩
theorem Zgi (l:gY)(args:List WData):l.row.toRowW.claim.post args (.bool true) args=true:=
 postW_of (r:=l.row.toRowW) (X:=(true == true))
  (show WShape.has [] (.bool true) .bool=true by first|rfl|decide|simp[WShape.has,WShape.arms,WShape.armsAll])
  (show (WTm.eq .res (.lit (.bool true))).value [] {args:=args,res:=some (.bool true),after:=args}=some (.bool (true == true)) from w_eq_bool (w_res rfl) w_lit) rfl
theorem ZdF {l:gY}{n:Nat}{q:Program}{loose:List Str}{XP:TX->Heap->Prop}{YP:World->Heap->Prop}{d:DefRec}
  (hn:l.most=some n) (n8:d.params.defaults=[])
  (call:∀(w:World) (s₀ j:Shared) (mg mb:TX) (M:Addr) (o:Obj) (pm cd J:Value) (a:Addr) (vs:List Value) (ns:TZ),
   Ground q loose [] XP w s₀ mg mb j.heap->YP w j.heap->
   j.heap.get? M=some o->o.data=.func (docDef d.name d.params d.body d.scope pm cd J)->j.heap.CodeRec cd d.name->mg d.name=some (.ref M)->
   j.heap.get? a=some {cls:=.type "list",data:=.seq vs.toArray}->be vs ns->ns.length<=n->j.gens=#[]->
   codeAny (model l.prog w) callerA (.call (.ref M) ⟨[.ref a],[]⟩) (λr s'=>r=.ok (.ret (.bool true))/\OldK j.heap s'.heap/\s'.os=j.os/\iQ s'.gens) j) :
  mv q loose XP YP l.row.toRowW d [] (λf vs=>mf f vs):=by
 intro w s₀ j mg mb G Y M o pm cd J dV kV ho hd n9 hD o0 hg args Va as O o6 o7 o5 o8;obtain rfl:dV=.none:=Dflts.none hD n8;obtain rfl:kV=.none:=Dflts.noKw hD;obtain⟨a,vs,ns,rfl,rfl,n6,hints,hlen⟩:=Zgf hn O o5;refine enter_call (fR (call w s₀ j mg mb M o pm cd J a vs ns G Y ho (fd_plain hd) n9 o0 n6 hints hlen hg) λr s' hq=>?_);obtain⟨rfl,h2,h3,h4⟩:=hq;exact⟨.inl ⟨.bool true,.bool true,[],rfl,λ_=>rfl,.bool true,Zgi l _,λ_=>⟨eO,λ_ hm=>(nomatch hm)⟩⟩,h2,h3,h4⟩
section
variable {K:Frag}
end
end Att
namespace L2
open PySem PySem.Spec PyProof.Rows
theorem ZaI:∀{vs:List Value}{ns:TZ},be vs ns->ZS (ns.map V.int) vs
 |_,_,.nil=>.nil
 |_,_,.cons n t h=>.cons ⟨t,rfl⟩ (ZaI h)
def Zou (H:Hp):Prop:=∀b,H b=none\/∃o j,H b=some (.frz o (.lst j))
theorem ZiS {P:Program}{w:World}{K:aa}{mg mb:TX}{CX:CXT}{k:Nat}{fa a:Addr}{fd:FuncData}{x:Str}{sp:Sp}{j:Shared}{vs:List Value}{ns:TZ}
  (KX:K.In j.heap) (n6:j.heap.Ns mainGlobals mg) (hb:j.heap.Ns builtinsNs mb) (o6:∀x:Str,x ≠ "__name__"->mb x=bootBuiltins x) (n8:j.heap.NoLimit) (hg:j.gens=#[])
  (ha:j.heap.get? a=some {cls:=.type "list",data:=.seq vs.toArray}) (hi:be vs ns) (hl:ns.length<=sizeLine) (hr:JI k callerA)
  (F:∀base:Heap,K.In base->base.Ns mainGlobals mg->Z4 P w K mg base CX k fa fd [x] sp) (Y:∀(s:Shared) (u:Value),jp s fd ⟨[u],[]⟩ [(x,u)])
  (o7:∀H:Hp,Zou H->Wx K H a (ns.map V.int)->sp [.ref a] H (λv _=>v=.bl true) λ_ _ _=>False)
  (o8:∀H e s',CX [] H j (λ_ _ _=>False) e s'->False) :
  codeAny (model P w) callerA (.call (.ref fa) ⟨[.ref a],[]⟩) (λr s'=>r=.ok (.ret (.bool true))/\OldK j.heap s'.heap/\s'.os=j.os/\iQ s'.gens) j:=by
 have rv:=ZaI hi;have n9:=hi.length;have O:∀H:Hp,Zou H->Wx K H a (ns.map V.int)->X9 P w H j.heap->(∀b,H b≠none->b=a)->(H a≠none->K.lookup a=none)->
   codeAny (model P w) callerA (.call (.ref fa) ⟨[.ref a],[]⟩) (λr s'=>r=.ok (.ret (.bool true))/\OldK j.heap s'.heap/\s'.os=j.os/\iQ s'.gens) j:=by
  intro H hO hS hok hA hK;have J:∀{b:Addr}{o:Obj},j.heap.get? b=some o->H b=none->(Zb4 j.heap H).get? b=some o:=λe n=>Zi7 e n;have o9:∀{b:Addr}{o:Obj}{es:Array DictEntry}{ep:Nat},j.heap.get? b=some o->o.data=.dict es ep->H b=none:=λ{b o es ep} e d=>by
   cases q:H b with
   |none=>rfl
   |some u=>
    have e':b=a:=hA b (by rw[q];simp);subst e';rw[ha] at e;cases e;have d':Data.seq vs.toArray _=Data.dict es ep:=d;cases d'
  have M:∀{b:Addr}{m:TX},j.heap.Ns b m->(Zb4 j.heap H).Ns b m:=λ{b m} ⟨o,es,ep,e,d,r⟩=>⟨o,es,ep,J e (o9 e d),d,r⟩;have o0:K.In (Zb4 j.heap H):=λb o e=>J (KX b o e) (by
   cases q:H b with
   |none=>rfl
   |some u=>
    have e':b=a:=hA b (by rw[q];simp);subst e';rw[hK (by rw[q];simp)] at e;cases e)
  have hM:Mod K mg (Zb4 j.heap H):=⟨o0,M n6,⟨mb,M hb,o6⟩,let ⟨mc,h1,h2⟩:=n8;⟨mc,M h1,h2⟩⟩;have e0:Zl0 P w K mg (Zb4 j.heap H) callerA [] j H:=⟨rfl,hM,λb o e=>Zk9 e,Nat.le_of_eq (ZgL _ _),trivial,λb hb=>absurd (show b∈([]:TW) from hb) (by simp),hok,.of_eq hg⟩;refine fR ((F _ o0 (M n6)).run callerA [] j H ⟨[.ref a],[]⟩ [.ref a] [.ref a] _ _ hr e0 (Y j (.ref a)) (.cons rfl .nil) (o7 H hO hS)) λr s' h=>?_;cases r with
  |error e=>exact (o8 H e s' h).elim
  |ok fl=>
   cases fl with
   |next=>exact ef h
   |brk=>exact ef h
   |cont=>exact ef h
   |ret u=>
    obtain⟨v,H',os,bare,un,o5,r',q⟩:=h;have q':v=.bl true:=q;subst q';obtain rfl:u=ip true:=r';refine⟨rfl,OldK.of_keep λb o e=>?_,os,bare⟩;cases q:H b with
    |none=>exact un.keep b o e q (by intro z;exact absurd (show b∈([]:TW) from z) (by simp)) (by simp)
    |some u=>
     rcases hO b with z|⟨ob,xs,z⟩
     ·rw[q] at z;cases z
     ·have z2:=un.frzs b ob _ z
      obtain⟨e1,_⟩:=hok b _ z;obtain⟨e2,_⟩:=o5 b _ z2;rw[e] at e1;cases e1;exact e2
 cases hk:K.lookup a with
 |some o=>
  have e:=KX a o hk;rw[ha] at e;cases e;refine O (λ_=>none) (λ_=>.inl rfl) (.inr ⟨_,vs.toArray,_,hk,rfl,rfl,rfl,by rw[Zh,n9];exact hl,by simpa using rv⟩) (λb u z=>by have z':(none:Option HO)=some u:=z;cases z') (λb z=>absurd rfl z) λz=>absurd rfl z
 |none=>
  refine O (λb=>if b=a then some (.frz {cls:=.type "list",data:=.seq vs.toArray} (.lst (ns.map V.int))) else none) (λb=>?_) (.inl (.inr ⟨{cls:=.type "list",data:=.seq vs.toArray},if_pos rfl⟩)) (λb u z=>?_) (λb z=>?_) λ_=>hk
  ·by_cases hb:b=a
   ·exact .inr ⟨_,_,if_pos hb⟩
   ·exact .inl (if_neg hb)
  ·by_cases hb:b=a
   ·have z':=(if_pos hb).symm.trans z
    cases z';subst hb;exact⟨ha,by rw[Za];exact hl,vs,_,rv,ha⟩
   ·have z':=(if_neg hb).symm.trans z
    cases z'
  ·by_cases hb:b=a
   ·exact hb
   ·exact absurd (if_neg hb) z
theorem Zbd {l:gY}{n k:Nat}{q:Program}{loose:List Str}{XP:TX->Heap->Prop}{YP:World->Heap->Prop}{d:DefRec}{K:Params->aa}{CX:World->CXT}{sp:World->Sp}{x:Str}
  (hn:l.most=some n) (n8:n<=sizeLine) (n9:d.params.defaults=[]) (hr:JI k callerA)
  (hY:∀(w:World) (h:Heap),YP w h->(K w.params).In h)
  (F:∀(w:World) (M:TX) (fa:Addr) (h:Heap),(K w.params).In h->h.Ns mainGlobals M->M d.name=some (.ref fa)->
   ∃fd:FuncData,(∀(s:Shared) (u:Value),jp s fd ⟨[u],[]⟩ [(x,u)])/\
    ∀base:Heap,(K w.params).In base->base.Ns mainGlobals M->Z4 l.prog w (K w.params) M base (CX w) k fa fd [x] (sp w))
  (o0:∀(w:World) (H:Hp) (a:Addr) (ns:TZ),ns.length<=n->Zou H->Wx (K w.params) H a (ns.map V.int)->sp w [.ref a] H (λv _=>v=.bl true) λ_ _ _=>False)
  (o5:∀(w:World) (H:Hp) (s:Shared) (e:Value) (s':Shared),CX w [] H s (λ_ _ _=>False) e s'->False) :
  mv q loose XP YP l.row.toRowW d [] (λf vs=>mf f vs):=by
 refine Att.ZdF hn n9 λw o7 O M mb fa o pm cd o8 a vs ns G Y ho hd o9 o6 n6 J j hg=>?_;have KX:=hY w _ Y;obtain⟨fd,hb,hF⟩:=F w M fa _ KX G.T.g o6;exact ZiS KX G.T.g G.T.b G.T.builtins G.T.nolimit hg n6 J (aW j n8) hr hF hb (λH hO hS=>o0 w H a ns j hO hS) λH e s'=>o5 w H O e s'
def WE (s:Stmt):Arguments:=match s with
 | .FunctionDef _ a _ _ _ _ _ _ _ _=>a
 |_=>{posonlyargs:=[],args:=[],vararg:=none,kwonlyargs:=[],kw_defaults:=[],kwarg:=none,defaults:=[]}
def Ws (s:Stmt):List Stmt:=match s with
 | .FunctionDef _ _ b _ _ _ _ _ _ _=>b
 |_=>[]
def Z0 (s:Stmt):cU:=match s with
 | .FunctionDef _ _ _ _ _ _ j _ _ _=>j
 |_=>{kind:=.function,names:=[],isGenerator:=false,isCoroutine:=false}
noncomputable abbrev Yg:CXT:=λ_ _ _ _ _ _=>False
noncomputable abbrev E0:XK:=λ_ _ _=>False
theorem ZM {X:Cx}:Zcu Yg X E0:=λ_ _ _ _ _ _ _ h=>h.elim
structure WB (K:aa)(x qual:Str)(st:Stmt)(f:Addr)(fd:FuncData):Prop where
 ex:∃(oc:Value) (od:Option Addr) (kV doc pm:Value) (an:Option Addr) (cdv ct:Value) (osl:Array (Option Value)),
  fd=cy x qual (WE st) (Ws st) (Z0 st) .none kV doc pm an cdv ct/\K.lookup f=some ⟨oc,od,.func fd,osl⟩/\e8 K cdv qual=true
 kp:dW K (.ref f)=true
theorem WB.ok {x j:Str}{st:Stmt}{f:Addr}{fd:FuncData}{N O:List Str}{k:Nat}{sp:Sp}(F:WB K x j st f fd)(S:Ut N O (Z0 st))(len:∀vs H Q E,sp vs H Q E->vs.length=O.length)
  (M:∀(J:Value) (A:Around) (outer:List Env) (s:Shared) (H:Hp) (vs:TV) (Q:VK) (E:XK),JI k (A.deeper (envOfC j (Z0 st) s.heap.objs.size f J))->sp vs H Q E->
   ∃t,PSs (Zdx Yg P w K mg base N j (Z0 st) f J A outer s H E).nox (Ws st) t/\t {nx:=λ_ H'=>Q .non H',rt:=Q} (start N vs) H):Z4 P w K mg base Yg (k+1) f fd O sp:=by
 obtain⟨oc,od,kV,doc,pm,an,J,ct,n8,rfl,lk,Y⟩:=F.ex;refine ZpG lk Y S len λA outer s H vs Q E hr n6=>?_;obtain⟨t,h,q⟩:=M J A outer s H vs Q E hr n6;exact⟨t,h.nox,q⟩
theorem WB.binds {x j:Str}{st:Stmt}{f:Addr}{fd:FuncData}{J:List Str}(F:WB K x j st f fd)
  (h:∀(kV doc pm:Value) (an:Option Addr) (q ct:Value) (us:List Value),us.length=J.length->bindArgs (cy x j (WE st) (Ws st) (Z0 st) .none kV doc pm an q ct) ⟨us,[]⟩=pure (J.zip us)):Binds K fd J []:=by
 obtain⟨Y,od,kV,doc,pm,an,q,ct,M,rfl,lk,O⟩:=F.ex;exact .all (h kV doc pm an q ct)
theorem ZeH {x j:Str}{st:Stmt}{f:Addr}{M:Value}{O an:Option Addr}{J:Array (Option Value)}{kV doc pm q ct:Value}(l:K.lookup f=some ⟨M,O,.func (cy x j (WE st) (Ws st) (Z0 st) .none kV doc pm an q ct),J⟩)
  (c:e8 K q j=true) (k:dW K (.ref f)=true):WB K x j st f (cy x j (WE st) (Ws st) (Z0 st) .none kV doc pm an q ct):=⟨⟨M,O,kV,doc,pm,an,q,ct,J,rfl,l,c⟩,k⟩
theorem Ye {c A B:Prop} [Decidable c](j:c->A)(q:¬c->B):if c then A else B:=by
 by_cases h:c
 ·rw[if_pos h]
  exact j h
 ·rw[if_neg h]
  exact q h
def Zv (H j:Hp):Prop:=∀b o,H b=some o->j b=some o
theorem Zv.refl (H:Hp):Zv H H:=λ_ _ h=>h
theorem Zv.trans {H j q:Hp}(a:Zv H j)(b:Zv j q):Zv H q:=λc o h=>b c o (a c o h)
theorem Zv.free {H j:Hp}(e:Zv H j){l:Addr}(h:j l=Option.none):H l=Option.none:=by
 cases q:H l with
 |none=>rfl
 |some o=>
  rw[e l o q] at h;cases h
theorem Zv.seq {K:aa}{H j:Hp}{a:Addr}{xs:TV}(e:Zv H j)(h:Wx K H a xs):Wx K j a xs:=by
 rcases h with (h|⟨o,h⟩)|h
 ·exact .inl (.inl (e _ _ h))
 ·exact .inl (.inr ⟨o,e _ _ h⟩)
 ·exact .inr h
end L2
set_option maxHeartbeats 4000000
namespace L2
open PySem PySem.Spec PyProof.Rows
structure JK (N:List Str)(esc:cU)(own:List Str)(caps:T7)(N':List Str)(sc:cU):Prop where
 kind:sc.kind=.function
 ndn:(sc.names.map (·.1)).Nodup
 uniq:∀y∈sc.names,y.2=.local->sc.names.lookup y.1=some .local
 nd:N'.Nodup
 eqN:N'=own++caps.map λj=>N.getD j ""
 cap:∀j∈caps,j<N.length/\sc.names.lookup (N.getD j "")=some .free
 fr:∀y∈sc.names,y.2=.free->esc.names.lookup y.1=some .cell\/esc.names.lookup y.1=some .free
def J0 (J:List Str)(q:T7)(M:St):St:=aq J.length none++q.map λj=>(M[j]?).join
theorem X5 {env:Env}:∀(names:List (Str×eS)) (ZJ:List (Str×Addr)),(∀y∈names,y.2=.free->∃c,env.cells.lookup y.1=some c)->(∀y c,ZJ.lookup y=some c->env.cells.lookup y=some c)->
  ∃cl,(forIn names ZJ (λx r=>if (x.2 == fu)=true then (do let c <-cellOf env x.1;pure (cP ((x.1,c)::r))) else pure (cP r)):Sem (List (Str×Addr)))=pure cl/\
   (∀y c,cl.lookup y=some c->env.cells.lookup y=some c)/\(∀y,(∃c,ZJ.lookup y=some c)->∃c,cl.lookup y=some c)/\∀y∈names,y.2=.free->∃c,cl.lookup y.1=some c
 | [],ZJ,_,M=>⟨ZJ,rfl,M,λ_ h=>h,λ_ h=>absurd h (by simp)⟩
 | (n,k)::r,ZJ,hn,M=>by
  rw[List.forIn_cons];by_cases hk:k=.free
  ·subst hk
   obtain⟨c,hc⟩:=hn (n,.free) ar rfl;have n6:∀y d,((n,c)::ZJ).lookup y=some d->env.cells.lookup y=some d:=λy d e=>by
    rw[df] at e;cases q:y == n with
    |true=>rw[q] at e;cases e;rw[beq_iff_eq.mp q];exact hc
    |false=>rw[q] at e;exact M y d e
   obtain⟨cl,e,h1,O,h3⟩:=X5 r ((n,c)::ZJ) (λy j=>hn y (ao _ j)) n6;have hh:∀y,(∃d,ZJ.lookup y=some d)->∃d,((n,c)::ZJ).lookup y=some d:=λy ⟨d,hd⟩=>by
    rw[df];cases q:y == n with
    |true=>exact⟨c,rfl⟩
    |false=>exact⟨d,hd⟩
   have hs:∃d,((n,c)::ZJ).lookup n=some d:=⟨c,by rw[df,beq_self_eq_true]⟩;refine⟨cl,?_,h1,λy j=>O y (hh y j),λy j Y=>?_⟩
   ·have J:cellOf env n=pure c:=by simp only[cellOf,hc]
    simp only[beq_self_eq_true,if_true,J];simp only[pure_bind];exact e
   ·rcases aF.mp j with rfl|j
    ·exact O _ hs
    ·exact h3 y j Y
  ·obtain⟨cl,e,h1,O,h3⟩:=X5 r ZJ (λy j=>hn y (ao _ j)) M
   refine⟨cl,?_,h1,O,λy j Y=>?_⟩
   ·have hb:(k == fu)=false:=by simpa using hk
    simp only[hb,dE,if_false,pure_bind];exact e
   ·rcases aF.mp j with rfl|j
    ·exact absurd Y hk
    ·exact h3 y j Y
theorem Zak {scope:cU}{env:Env}(h:∀y∈scope.names,y.2=.free->∃c,env.cells.lookup y.1=some c) :
  ∃cl,closureFor scope env=pure cl/\(∀y c,cl.lookup y=some c->env.cells.lookup y=some c)/\∀y∈scope.names,y.2=.free->∃c,cl.lookup y.1=some c:=by
 obtain⟨cl,e,j,_,J⟩:=X5 (env:=env) scope.names [] h (λy c e=>by simp at e);refine⟨cl,?_,j,J⟩;have q:closureFor scope env=((forIn scope.names ([]:List (Str×Addr)) (λx r=>if (x.2 == fu)=true then (do let c <-cellOf env x.1;pure (cP ((x.1,c)::r))) else pure (cP r)):Sem (List (Str×Addr))) >>= λM=>pure M):=rfl
 rw[q,e];rfl
theorem Jb {names:List (Str×eS)}{x:Str}{k:eS}(h:names.lookup x=some k):(x,k)∈names:=bE h
theorem Wq {env:Env}{x:Str}:∀{names:List (Str×eS)}{k:eS},
  (names.map λ(n,k)=>if (k == fu && env.scope.kind == .function && env.kindOf n == some .cell) then (n,dz) else (n,k)).lookup x=some k->
  names.lookup x=some k\/(k=.cell/\names.lookup x=some .free)
 | [],_,h=>by simp at h
 | (n,j)::r,k,h=>by
  have O:=@Wq env x r k;have h:List.lookup x ((if (j == fu && env.scope.kind == .function && env.kindOf n == some .cell)=true then (n,dz) else (n,j))::_)=some k:=h
  rw[df];by_cases J:(j == fu && env.scope.kind == .function && env.kindOf n == some .cell)=true
  ·rw[if_pos J,df] at h
   have M:j=.free:=by
    simp only[ag,beq_iff_eq] at J;exact J.1.1
   cases q:x == n with
   |true=>rw[q] at h;cases h;right;exact⟨rfl,by rw[M]⟩
   |false=>rw[q] at h;exact O h
  ·rw[if_neg J,df] at h
   cases q:x == n with
   |true=>rw[q] at h;cases h;left;rfl
   |false=>rw[q] at h;exact O h
def ZjA (scope:cU)(x:Str):Bool:=scope.names.any λy=>y.1 == x && (match y.2 with | .cell=>true|_=>false)
theorem Zg0 {scope:cU}{x:Str}(h:ZjA scope x=true):(x,dz)∈scope.names:=by
 unfold ZjA at h;obtain⟨⟨n,k⟩,hm,j⟩:=aY.mp h;rw[ag] at j;obtain⟨q,J⟩:=j;have e:n=x:=by simpa using q
 subst e;cases k <;> first|exact hm|cases J
theorem VI {x:Str}{k:eS}:∀{names:List (Str×eS)},(names.map (·.1)).Nodup->(x,k)∈names->names.lookup x=some k
 | [],_,h=>by cases h
 | (n,j)::r,nd,h=>by
  rw[aG,bS] at nd;rw[df];rcases aF.mp h with e|h
  ·cases e
   simp
  ·have:(x == n)=false:=by
    refine gX.mpr λz=>nd.1 ?_;rw[<-beq_iff_eq.mp z];exact aE.mpr ⟨_,h,rfl⟩
   rw[this];exact VI nd.2 h
theorem XG:∀(names:List (Str×eS)) (n:Nat) (ZJ:List (Str×Addr)),cellsFrom n names ZJ=cellsFrom n names []++ZJ
 | [],n,ZJ=>rfl
 |(x,k)::r,n,ZJ=>by
  unfold cellsFrom;by_cases j:(k == dz)=true
  ·rw[if_pos j,if_pos j,XG r (n+1) ((x,n)::ZJ),XG r (n+1) [(x,n)],jv]
   rfl
  ·rw[if_neg j,if_neg j,XG r n ZJ]
theorem VO {x:Str}{c:Addr}:∀(names:List (Str×eS)) (n:Nat) (ZJ:List (Str×Addr)),(x,c)∈cellsFrom n names ZJ->(x,dz)∈names\/(x,c)∈ZJ
 | [],n,ZJ,h=>.inr h
 | (y,k)::r,n,ZJ,h=>by
  unfold cellsFrom at h;by_cases j:(k == dz)=true
  ·rw[if_pos j] at h
   rcases VO r (n+1) _ h with z|z
   ·exact .inl (ao _ z)
   ·rcases aF.mp z with e|z
    ·cases e
     have:k=.cell:=by cases k <;> first|rfl|cases j
     rw[this];exact .inl ar
    ·exact .inr z
  ·rw[if_neg j] at h
   rcases VO r n _ h with z|z
   ·exact .inl (ao _ z)
   ·exact .inr z
theorem Zlc {M:Model}{A:Around}{E:TY}{s:Shared}{scope:cU}{globals:Addr}{cl:List (Str×Addr)}{qual:Str}{j:Env}{Q:Env->Shared->Prop}
  (Y:Q (newEnv scope s.heap.objs.size globals (cellsFrom (s.heap.objs.size+1) scope.names cl) qual none .none (some j) builtinsNs) {s with heap:=pushCells (s.heap.push {cls:=.type "dict",data:=.dict #[]}) scope.names}) :
  wpAny M A (newFunctionEnv scope globals cl [] qual none .none (some j)) Q E s:=by
 unfold newFunctionEnv;refine Zl (wpAny_alloc ?_);refine Zl (wpAny_layCells _ (λO kind q=>by cases J:kind == dz <;> simp[J]) _ _ _ _ ?_)
 rw[show ({s with heap:=s.heap.push {cls:=.type (if (some j).isSome=true then "dict" else "frame"),data:=.dict #[]}}:Shared).heap.objs.size=s.heap.objs.size+1 from cm ..]
 exact Zl (by rw[List.forIn_nil];exact Zm (Zm Y))
def Y9 (X:Cx)(scope:cU)(j:List (Str×Addr))(q:List Str)(C:Addr)(s:Shared)(H:Hp)(ex:TW):Cx:=
 {X with N:=q,s₀:=s,H₀:=H,env:=compEnvC scope j C X.env,outer:=X.stack,ex:=ex,fn:=ZjA scope,pn:=[],xe:=λ_ _=>False}
def Jf (n6:List Str)(q:T7)(g:TG)(tc:TT)(te:TE)(σ:St)(Q:VK)(J:It)(H1:Hp):Prop:=∀D,H1 D=none->
 ∃W:Nat->Nat->St->Hp->Prop,(∃m,W 0 m (J0 n6 q σ) (upd H1 D (.lst [])))/\∀i m M O,W i m M O->
  (J.stop i O/\Q (.ref D) O)\/(J.go i O/\∃N:St->Hp->Prop,(∀ Y H2,N Y H2->∃m',m'<m/\W (i+1) m' Y H2)/\∀x H2,J.yld i O x H2->g x M H2 λj H3=>tc j H3 λb H4=>
   if b=true then te j H4 λv H5=>∃xs,H5 D=some (.lst xs)/\xs.length<sizeLine/\N j (upd H5 D (.lst (xs++[v]))) else N j H4)
def Ze2 (q:List Str)(j:T7)(O:TI)(g:TG)(Y:TT)(te:TE):TE:=λM H Q=>O M H λJ H1=>Jf q j g Y te M Q J H1
def WR:TT:=λ_ H Q=>Q true H
def PIf (X:Cx)(q:List Expr)(t:TT):Prop:=
 ∀(j:List (Addr×Obj)) (s:Shared) (J:St) (H:Hp) (Q:Bool->Hp->Prop),Inv X j J H s->t J H Q->
  wpAny (model X.prog X.w) X.A (forIn q true λc r=>if r=true then do let ok <-isTrue c X.env (eval c X.env);pure (cP ok) else pure (cP r)) (TP X j J Q) X.xe s
theorem ZP:PIf X [] WR:=λ_ _ _ H _ I h=>wpAny_tests_nil ⟨H,I,h⟩
theorem ZkD {c:Expr}{t:TT}(h:PT X c t):PIf X [c] t:=λj s J H Q I q=>wpAny_tests_one (h j s J H Q I q)
theorem Xl {prog:Program}{w:World}{A:Around}{R:Result->Shared->Prop}{s:Shared}{elt j iter:Expr}{ifs:List Expr}{scope:cU}{pos:Pos}{it ZJ:Value}{env:Env}(I:Nat->Shared->Prop)
  (turn:∀n s,I n s->wpAny (model prog w) A (pyNext it) (λr q=>match r with
   |none=>R (.ok .next) q
   |some v=>wpAny (model prog w) A (letOwnedTupleGo j it v) (λ_ J=>wpAny (model prog w) A (assign j env v) (λ_ Y=>
     wpAny (model prog w) A (forIn ifs true λc r=>if r=true then do let ok <-isTrue c env (eval c env);pure (cP ok) else pure (cP r)) (λok M=>
      if ok=true then wpAny (model prog w) A (eval elt env) (λx n6=>
       wpAny (model prog w) A (call (.builtin "list.append") [ZJ,x]) (λ_ n8=>∃m,m<n/\I m n8) (λ_ _=>False) n6) (λ_ _=>False) M
      else ∃m,m<n/\I m M) (λ_ _=>False) Y) (λ_ _=>False) J) (λ_ _=>False) q) (λ_ _=>False) s)
  (n:Nat) (h:I n s) :
  codeAny (model prog w) A (.compLoop (.ListComp elt [⟨j,iter,ifs,0⟩] scope pos) 0 it ZJ env) R s:=by
 refine codeAny_loop rfl I (λn s hI=>?_) n h;show wpAny _ A ((compTurn (.ListComp elt [⟨j,iter,ifs,0⟩] scope pos) 0 it ZJ env).onRaise (λx=>do noteFrame x env;theTreesLotGoes x)) _ _ s
 refine wpAny_noted ?_;rw[compTurn_list];refine Zl (jC (Zl (cw (turn n s hI) (λr q n9=>?_) λ_ _ O=>O.elim)));cases r with
 |none=>exact Zm n9
 |some v=>
  refine Zl (cw n9 (λ_ J o5=>?_) λ_ _ O=>O.elim);refine Zl (cw o5 (λ_ Y o6=>Zl (cw o6 (λok M o0=>?_) λ_ _ O=>O.elim)) λ_ _ O=>O.elim);cases ok with
  |false=>exact Zm ⟨rfl,o0⟩
  |true=>
   exact Zl (Zl (cw o0 (λx n6 o7=>Zl (cw o7 (λ_ n8 o8=>Zm (Zm ⟨rfl,o8⟩)) λ_ _ O=>O.elim)) λ_ _ O=>O.elim))
theorem Zag {own:List Str}{p3:T7}{N':List Str}{esc scope:cU}{elt iter tg:Expr}{ifs:List Expr}{pos:Pos}{g:TG}{tc:TT}{te:TE}{cl:List (Str×Addr)}
  (hesc:X.env.scope=esc) (S:JK X.N esc own p3 N' scope) (hc:X.calm=true)
  (n8:∀y c,cl.lookup y=some c->X.env.cells.lookup y=some c) (t8:∀y∈scope.names,y.2=.free->∃c,cl.lookup y.1=some c)
  (hg:∀cl C s H ex,PG (Y9 X scope cl N' C s H ex) tg g) (ht:∀cl C s H ex,PIf (Y9 X scope cl N' C s H ex) ifs tc) (he:∀cl C s H ex,PE (Y9 X scope cl N' C s H ex) elt te)
  {o0:List (Addr×Obj)}{σ:St}{H2:Hp}{s2:Shared}{it:Addr}{fp:TW}{tn:Nat->Heap->Prop}{J:It}{Q:VK}{RR:Value->Addr->Result->Shared->Prop}{E:TY}
  (I2:Inv X o0 σ H2 s2) (T:ZaF X.prog X.w X.K tg J fp it tn) (w8:tn 0 s2.heap) (f2:∀b∈fp,ZaG X o0 H2 b)
  (h:Jf own p3 g tc te σ Q J H2)
  (hRR:∀D C s' m H',s'.heap.Ns C m->C≠X.env.locals->(∀x c,X.env.cells.lookup x=some c->c≠C)->X.s₀.heap.objs.size<=C->(∀p∈X.pn++o0,p.1≠C)->H' C=none->Q (.ref D) H'->(∀h',br C s'.heap h'->Inv X o0 σ H' {s' with heap:=h'})->RR (.ref D) C (.ok .next) s') :
  wpAny (model X.prog X.w) X.A (newList []) (λZJ s₃=>wpAny (model X.prog X.w) X.A (newFunctionEnv scope X.env.globals cl [] X.env.qual none .none (some X.env)) (λt9 s₄=>
   codeAny (model X.prog X.w) X.A (.compStart (.ListComp elt [⟨tg,iter,ifs,0⟩] scope pos) 0 (.ref it) ZJ {t9 with scope:=relabel scope X.env}) (RR ZJ t9.locals) s₄) E s₃) E s2:=by
 refine bb (Zlc ?_)
 try dsimp only
 have hD:H2 s2.heap.objs.size=none:=I2.hok.fresh (Zq _);obtain⟨W,⟨m0,w0⟩,turn⟩:=h _ hD;generalize w9:s2.heap.push {cls:=.type "list",dict:=none,data:=.seq ([]:List Value).toArray}=O;have hC:O.objs.size=s2.heap.objs.size+1:=by rw[<-w9,cm]
 have u5:∀b o,s2.heap.get? b=some o->O.get? b=some o:=λb o e=>w9▸Zn _ e;have I3:Inv X o0 σ (upd H2 s2.heap.objs.size (.lst [])) {s2 with heap:=O,toks:=s2.toks}:=
  I2.laid (t':=s2.toks) u5 (Zq _) ⟨aV _,[],0,.nil,w9▸Zo _ rfl⟩
 generalize x0:pushCells (O.push {cls:=.type "dict",data:=.dict #[]}) scope.names=o5;have k1:∀b o,O.get? b=some o->o5.get? b=some o:=λb o e=>x0▸pushCells_keeps _ _ b o (Zn _ e);have q0:o5.Ns O.objs.size (λ_=>none):=x0▸(Heap.Ns.new O (.type "dict")).keeps (pushCells_keeps _ _);have r6:CellsOk o5 (O.objs.size+1) (cellsFrom (O.objs.size+1) scope.names []):=by
  have q:=cellsFrom_ok scope.names (O.push {cls:=.type "dict",data:=.dict #[]}) (O.objs.size+1) [] ⟨λ_ _ hm=>(nomatch hm),eO⟩ (by rw[cm];exact Zq _);rw[cm,x0] at q;exact q
 have p4:cellsFrom (O.objs.size+1) scope.names cl=cellsFrom (O.objs.size+1) scope.names []++cl:=XG _ _ _;have o7:∀y,scope.names.lookup y=some .cell->∃c,(cellsFrom (O.objs.size+1) scope.names []).lookup y=some c:=λy hy=>gO.mp (ig scope.names (O.objs.size+1) [] (.inl hy));generalize hcA:cellsFrom (O.objs.size+1) scope.names []=cA at r6 p4 o7;have memA:∀y c,cA.lookup y=some c->(y,dz)∈scope.names:=λy c e=>by
  have:=bE e;rw[<-hcA] at this;rcases VO _ _ _ this with z|z
  ·exact z
  ·cases z
 generalize hcE:cellsFrom (O.objs.size+1) scope.names cl=cE at p4;have p6:∀y c,cE.lookup y=some c->cA.lookup y=some c\/(cA.lookup y=none/\cl.lookup y=some c):=λy c e=>by
  rw[p4,jb] at e;cases q:cA.lookup y with
  |none=>rw[q] at e;exact .inr ⟨rfl,by simpa using e⟩
  |some c'=>rw[q] at e;exact .inl (by simpa using e)
 have lkF:∀y c,scope.names.lookup y=some .free->cl.lookup y=some c->cE.lookup y=some c:=λy c hy e=>by
  rw[p4,jb];cases q:cA.lookup y with
  |none=>simpa using e
  |some c'=>
   have:=VI S.ndn (memA y c' q);rw[hy] at this;cases this
 have fpn:∀b∈fp,upd H2 s2.heap.objs.size (.lst []) b=none:=λb hb=>by
  obtain⟨o,ho,_⟩:=T.obj _ _ w8 b hb;rw[Zz (ay (Zp ho))];exact (f2 b hb).1
 have p7:∀b∈fp,b<O.objs.size:=λb hb=>by
  obtain⟨o,ho,_⟩:=T.obj _ _ w8 b hb;rw[hC];exact cr (Zp ho)
 generalize M:Y9 X scope cE N' O.objs.size {s2 with heap:=O,toks:=s2.toks} (upd H2 s2.heap.objs.size (.lst [])) fp=X';have hfs:X'.fs=frs X.stack:=by rw[<-M];rfl
 have x9:∀y,X'.env.kindOf y=some .cell\/X'.env.kindOf y=some .free->∃c,cE.lookup y=some c:=λy hy=>by
  have hy':(relabel scope X.env).names.lookup y=some .cell\/(relabel scope X.env).names.lookup y=some .free:=by rw[<-M] at hy;exact hy
  have hf:scope.names.lookup y=some .free->∃c,cE.lookup y=some c:=λhf=>by
   obtain⟨c,o8⟩:=t8 _ (Jb hf) rfl;exact⟨c,lkF y c hf o8⟩
  have r8:scope.names.lookup y=some .cell->∃c,cE.lookup y=some c:=λhf=>by
   obtain⟨c,o8⟩:=o7 y hf;exact⟨c,by rw[p4,jb,o8];rfl⟩
  rcases hy' with q|q
  ·rcases Wq q with z|z
   ·exact r8 z
   ·exact hf z.2
  ·rcases Wq q with z|z
   ·exact hf z
   ·exact absurd z.1 (by decide)
 have n9:X'.env.cells=cE:=by rw[<-M];rfl
 have o6:X'.env.locals=O.objs.size:=by rw[<-M];rfl
 have cne:∀x c,cl.lookup x=some c->c≠O.objs.size/\c<O.objs.size:=λx c e=>by
  obtain⟨v,q⟩:=I3.cell x c (n8 x c e);exact⟨ay q.lt,q.lt⟩
 have Y:∀x c,cA.lookup x=some c->O.objs.size+1<=c:=λx c e=>(r6.empty x c (bE e)).2;have injE:∀x y c,cE.lookup x=some c->cE.lookup y=some c->x=y:=λx y c a b=>by
  rcases p6 x c a with a|⟨_,a⟩ <;> rcases p6 y c b with b|⟨_,b⟩
  ·exact name_of_addr r6.apart (bE a) (bE b)
  ·have h1:O.objs.size+1<=c:=Y x c a
   exact absurd (aC (cne y c b).2 (dZ h1)) (bw _)
  ·have h1:O.objs.size+1<=c:=Y y c b
   exact absurd (aC (cne x c a).2 (dZ h1)) (bw _)
  ·exact I3.ok.inj x y c (n8 x c a) (n8 y c b)
 have ok':X'.Ok:=by
  refine M▸⟨I3.ok.mod,S.kind,I3.ok.glob,I3.ok.blt,Zq _,injE,?_,?cab,I3.ok.hd,I3.ok.frames,.inl rfl,?_,?_,?_,?_,?_,I3.stack,I3.stkFree⟩
  ·intro y hy
   exact x9 y (by rw[<-M];exact hy)
  ·intro x c z e
   have hm:=VI S.ndn (Zg0 z);rcases p6 x c e with e|⟨n,_⟩
   ·exact dZ (Y x c e)
   ·obtain⟨c',o8⟩:=o7 x hm
    rw[n] at o8;cases o8
  ·intro b hb
   refine⟨ay (p7 b hb),λx c e=>?_⟩;rcases p6 x c e with e|⟨_,e⟩
   ·have h1:O.objs.size+1<=c:=Y x c e
    exact λz=>absurd (aC (p7 b hb) (dZ h1)) (by rw[z];exact bw _)
   ·exact (f2 b hb).2.2.2.2.1 x c (n8 x c e)
  ·exact I3.bs
  ·exact aW I3.ok.bsz I3.sz
  ·intro b o e hb
   rcases (f2 b hb).2.2.2.1 with z|z
   ·exact I3.ok.noex b o e z
   ·exact absurd (aC (Zp e) (aW I3.ok.bsz z)) (bw _)
  ·intro b hb z
   rcases aF.mp (I3.stkSub b z) with e|e
   ·exact (f2 b hb).2.1 e
   ·exact (f2 b hb).2.2.1 e
 have I4:Inv X' [] (J0 own p3 σ) (upd H2 s2.heap.objs.size (.lst [])) {s2 with heap:=o5,toks:=s2.toks}:=by
  refine⟨ok',M▸rfl,I3.bare,?_,⟨_,by rw[o6];exact q0,?_⟩,?_,?_,?_,?_,?_,?_⟩
  ·rw[<-M];exact Un.kept k1
  ·intro i x v hN o9 hV
   have y4:N'[i]?=some x:=by rw[<-M] at hN;exact hN
   unfold J0 at o9;by_cases hi:i<own.length
   ·rw[au (by simpa using hi),bQ] at o9
    rw[if_pos hi] at o9;cases o9
   ·rw[av (by simpa using hi),Ze,Zc] at o9
    rw[S.eqN,av (by omega),Zc] at y4;cases hj:p3[i-own.length]? with
    |none=>rw[hj] at o9;cases o9
    |some j=>
     rw[hj] at o9 y4;have hx:X.N.getD j ""=x:=aB y4;obtain⟨hjl,p8⟩:=S.cap j (az hj);rw[hx] at p8;have hjN:X.N[j]?=some x:=by
      rw[Zf hjl,<-hx,Zb,Zf hjl];rfl
     have hv:σ[j]?=some (some v):=by
      have q:(σ[j]?).join=some v:=aB o9;cases q':σ[j]? with
      |none=>rw[q'] at q;cases q
      |some o=>rw[q'] at q;rw[show o=some v from q]
     have y6:=S.fr (x,.free) (Jb p8) rfl;rw[<-hesc] at y6;obtain⟨m,hn,hl⟩:=I3.loc;have visX:Vis X.env.scope x:=y6.elim (λz=>.inr (.inl z)) λz=>.inr (.inr z);obtain⟨u,ru,look⟩:=hl j x v hjN hv visX;refine⟨u,ru,?_⟩;obtain⟨c,r8⟩:=t8 (x,.free) (Jb p8) rfl;rcases look with ⟨a,_⟩|⟨_,c',o8,y8⟩
     ·rcases y6 with z|z
      ·rw[show X.env.kindOf x=X.env.scope.names.lookup x from rfl,z] at a;cases a
      ·rw[show X.env.kindOf x=X.env.scope.names.lookup x from rfl,z] at a;cases a
     ·have:c'=c:=by rw[n8 _ _ r8] at o8;cases o8;rfl
      subst this;refine .inr ⟨?_,c',by rw[n9];exact lkF _ _ p8 r8,y8.keeps k1⟩;rcases hV with q|q|q
      ·have q':(relabel scope X.env).names.lookup x=some .local:=by rw[<-M] at q;exact q
       rcases Wq q' with z|z
       ·rw[p8] at z;cases z
       ·exact absurd z.1 (by decide)
      ·exact .inl q
      ·exact .inr q
  ·intro x c e
   rw[n9] at e;rcases p6 x c e with e|⟨_,e⟩
   ·exact⟨_,(r6.empty x c (bE e)).1⟩
   ·obtain⟨v,q⟩:=I3.cell x c (n8 x c e)
    exact⟨v,q.keeps k1⟩
  ·rw[o6];exact I3.hok.fresh (Zq _)
  ·intro x c e
   rw[n9] at e;rcases p6 x c e with e|⟨_,e⟩
   ·exact I3.hok.fresh (dZ (Y x c e))
   ·exact I3.freeC x c (n8 x c e)
  ·intro p hp
   have:p∈([]:List (Addr×Obj)):=by rw[<-M] at hp;exact hp
   cases this
  ·rw[<-M];exact I3.hok.kept k1
  ·rw[<-M]
   show (J0 own p3 σ).length=N'.length;unfold J0;rw[S.eqN,Zd,Zd,Ze,Za,Za]
 have pX:X'.prog=X.prog:=by rw[<-M];rfl
 have wX:X'.w=X.w:=by rw[<-M];rfl
 have KX:X'.K=X.K:=by rw[<-M];rfl
 have AX:X'.A=X.A:=by rw[<-M];rfl
 have cX:X'.calm=true:=by rw[<-M];exact hc
 have xX:X'.xe=λ_ _=>False:=by rw[<-M];rfl
 have envX:X'.env=compEnvC scope cE O.objs.size X.env:=by rw[<-M];rfl
 have exX:X'.ex=fp:=by rw[<-M];rfl
 have hg':PG X' tg g:=M▸hg _ _ _ _ _;have ht':PIf X' ifs tc:=M▸ht _ _ _ _ _;have he':PE X' elt te:=M▸he _ _ _ _ _;have y9:∀{H':Hp},(∀b∈fp,H' b=none)->∀b∈fp,ZaG X' [] H' b:=λ{H'} hn b hb=>by
  refine⟨hn b hb,?_,?_,?_,?_,?_⟩
  ·rw[o6];exact ay (p7 b hb)
  ·rw[hfs];intro z
   rcases aF.mp (I3.stkSub b z) with e|e
   ·exact (f2 b hb).2.1 e
   ·exact (f2 b hb).2.2.1 e
  ·rw[exX];exact .inl hb
  ·intro x c e
   rw[n9] at e;rcases p6 x c e with e|⟨_,e⟩
   ·have h1:O.objs.size+1<=c:=Y x c e
    exact λz=>absurd (aC (p7 b hb) (dZ h1)) (by rw[z];exact bw _)
   ·exact (f2 b hb).2.2.2.2.1 x c (n8 x c e)
  ·intro p hp
   have:p∈([]:List (Addr×Obj)):=by rw[<-M] at hp;exact hp
   cases this
 have st1:tn 0 o5:=T.keep _ _ _ w8 λb hb o e=>k1 b o (u5 b o e);have back:∀{n6:St}{H':Hp}{s':Shared}{pp:List (Addr×Obj)}{h':Heap},Inv X' pp n6 H' s'->br O.objs.size s'.heap h'->Inv X o0 σ H' {s' with heap:=h'}:=λ{n6 H' s' pp h'} I' sb=>by
  have u:=I'.base;rw[hfs,exX] at u;have hs0:X'.s₀.heap=O:=by rw[<-M];rfl
  have hH0:X'.H₀=upd H2 s2.heap.objs.size (.lst []):=by rw[<-M];rfl
  rw[hs0,hH0] at u;have ne:∀b o,O.get? b=some o->b≠O.objs.size:=λb o e=>ay (Zp e);have hCn:H' O.objs.size=none:=by have:=I'.free;rw[o6] at this;exact this
  refine I3.call' (s':={s' with heap:=h'}) (ch:=fp) ?_ ⟨?_,?_,?_,?_,?_,?_,?_⟩ ?_ I'.bare ?_
  ·have:=I'.os;rw[<-M] at this;exact this
  ·intro b o e n hb hx;exact sb.extBut b o (ne b o e) (u.keep b o e n hb hx)
  ·intro b o e n hb hx
   obtain⟨sl,q⟩:=u.slot b o e n hb hx;exact⟨sl,sb.extBut b _ (ne b o e) q⟩
  ·exact u.free
  ·intro b o e hx
   obtain⟨o',q⟩:=u.there b o e hx;exact⟨o',sb.extBut b _ (ne b o e) q⟩
  ·exact u.tups
  ·exact u.frzs
  ·exact u.tbls
  ·have hok:=I'.hok
   rw[pX,wX] at hok;intro a o e;refine (hok a o e).stay (λb v hb r=>sb.extBut b v ?_ r) (λb r=>r) λb xs r=>r;rcases hb with rfl|hb
   ·intro z;rw[z,hCn] at e;cases e
   ·intro z;rw[z,hCn] at hb;cases hb
  ·intro b hb
   refine⟨(f2 b hb).2.2.2.1,(f2 b hb).2.1,(f2 b hb).2.2.2.2.1,(f2 b hb).2.2.2.2.2⟩
 have u9:∀s3:Shared,s3={s2 with heap:=o5,toks:=s2.toks}->
   codeAny (model X.prog X.w) X.A (.compLoop (.ListComp elt [⟨tg,iter,ifs,0⟩] scope pos) 0 (.ref it) (.ref s2.heap.objs.size) (compEnvC scope cE O.objs.size X.env)) (RR (.ref s2.heap.objs.size) O.objs.size) s3:=by
  rintro s3 rfl;refine Xl (λn s'=>∃i n6 H',Inv X' [] n6 H' s'/\tn i s'.heap/\(∀b∈fp,H' b=none)/\W i n n6 H') ?_ m0 ⟨0,_,_,I4,st1,fpn,w0⟩;rintro n s5 ⟨i,r9,H5,I5,st5,fr5,w5⟩;rcases turn i n r9 H5 w5 with ⟨stop,qn⟩|⟨go,N,hN,step⟩
  ·have q:=T.done X' pX wX KX cX i [] s5 r9 H5 (λ_ _=>False) I5 (y9 fr5) st5 stop
   rw[AX] at q;refine Yz q λr s6 ⟨hr,I6⟩=>?_;subst hr;obtain⟨m,hn,_⟩:=I6.loc;rw[o6] at hn;refine hRR _ _ s6 m H5 hn ?_ ?_ I3.sz ?_ ?_ qn λh' sb=>back I6 sb
   ·exact bu I3.lt
   ·intro x c e
    obtain⟨v,q⟩:=I3.cell x c e;exact ay q.lt
   ·intro pp hpp
    exact ay (Zp (I3.pin pp hpp).1)
   ·have:=I6.free;rw[o6] at this;exact this
  ·have q:=T.item X' pX wX KX cX i [] s5 r9 H5 (λ_ _=>False) I5 (y9 fr5) st5 go
   rw[AX] at q;refine Yz q λr s6 ⟨u,hr,h6⟩=>?_;subst hr;refine Yz h6 λ_ s7 ⟨x,H7,I7,r7,y7,st7,fr7⟩=>?_;have I7':=I7.pinned (y9 fr7) (T.obj _ _ st7);have q8:=hg' _ s7 r9 H7 x u _ I7' r7 (step x H7 y7);rw[pX,wX,AX,envX,xX] at q8;refine Yz q8 λ_ s8 ⟨t5,H8,I8,q8⟩=>?_;have q9:=ht' _ s8 t5 H8 _ I8 q8;rw[pX,wX,AX,envX,xX] at q9;have again:∀{n6:St}{H':Hp}{s':Shared},Inv X' ([]++UV fp s7.heap) n6 H' s'->N n6 H'->∃m,m<n/\∃i n6 H',Inv X' [] n6 H' s'/\tn i s'.heap/\(∀b∈fp,H' b=none)/\W i m n6 H':=λ{n6 H' s'} I' n'=>by
    obtain⟨m',hm,w'⟩:=hN n6 H' n';refine⟨m',hm,i+1,n6,H',I'.unpinned,T.keep _ _ _ st7 λb hb o e=>(I'.pin (b,o) (aO _ (aO _ (JR hb e)))).1,λb hb=>?_,w'⟩;obtain⟨o,e,d⟩:=T.obj _ _ st7 b hb;exact (I'.pin (b,o) (aO _ (aO _ (JR hb e)))).2.1
   refine Yz q9 λok s9 ⟨H9,I9,q9⟩=>?_;cases ok with
   |false=>
    simp only[dE,if_false] at q9 ⊢;exact again I9 q9
   |true=>
    simp only[if_true] at q9 ⊢;have t6:=he' _ s9 t5 H9 _ I9 q9;rw[pX,wX,AX,envX,xX] at t6;refine Yz t6 λy s10 ⟨v,H10,I10,rv,xs,hxs,hz,t6⟩=>?_;have t7:=Yb (X:=X') _ s10 t5 H10 (.ref s2.heap.objs.size) [v] (.ref s2.heap.objs.size) [y] (λ_ H'=>N t5 H') I10 rfl (.cons rv .nil) ⟨_,xs,v,rfl,rfl,hxs,hz,t6⟩;rw[pX,wX,AX,xX] at t7;exact Yz t7 λ_ s11 ⟨_,H11,I11,_,t7⟩=>again I11 t7
 exact codeAny_compStart_list (u9 _ rfl) (T.self _ 0 _ _ _ st1 (u9 _ rfl))
theorem ZkJ {own:List Str}{j:T7}{N':List Str}{n6 scope:cU}{elt iter tg:Expr}{ifs:List Expr}{pos:Pos}{wi:TI}{g:TG}{tc:TT}{te:TE}
  (M:X.env.scope=n6) (S:JK X.N n6 own j N' scope) (hc:X.calm=true) (hi:PI X tg iter wi)
  (hg:∀Y C s H ex,PG (Y9 X scope Y N' C s H ex) tg g) (ht:∀Y C s H ex,PIf (Y9 X scope Y N' C s H ex) ifs tc) (he:∀Y C s H ex,PE (Y9 X scope Y N' C s H ex) elt te)
  (hs:∀x,foldedSetIterable iter X.env x=pure x:=by intro _;rfl) :
  PE X (.ListComp elt [⟨tg,iter,ifs,0⟩] scope pos) (Ze2 own j wi g tc te):=by
 intro O s σ H Q I h;obtain⟨Y,o0,n8,n9⟩:=Zak (scope:=scope) (env:=X.env) λy hy hf=>by
  have:=S.fr y hy hf;rw[<-M] at this;exact I.ok.has y.1 this
 rw[eval_ListComp];refine ma (use:=none) rfl hs o0 S.kind S.uniq (Yz (hi O s σ H _ I h) λv s1 h1=>Yz h1 λo6 s2 h2=>?_);obtain⟨it,fp,tn,J,H2,e,I2,T,o5,f2,q⟩:=h2;subst e;refine Zag (RR:=λZJ C=>compPost (model X.prog X.w) X.A X.xe none (EP X O σ Q) ZJ C) M S hc n8 n9 hg ht he I2 T o5 f2 q ?_;intro D C s' m H' hn _ _ _ _ _ q' hb;exact⟨m,hn,λh' sb=>⟨.ref D,H',hb h' sb,rfl,q'⟩⟩
theorem Zeq {own:List Str}{M:T7}{N':List Str}{n6 scope:cU}{elt iter tg:Expr}{ifs:List Expr}{pos O py:Pos}{y:Str}{i:Nat}{wi:TI}{g:TG}{tc:TT}{te:TE}
  (Y:X.env.scope=n6) (S:JK X.N n6 own M N' scope) (hc:X.calm=true) (hi:PI X tg iter wi)
  (hg:∀cl C s H ex,PG (Y9 X scope cl N' C s H ex) tg g) (ht:∀cl C s H ex,PIf (Y9 X scope cl N' C s H ex) ifs tc) (he:∀cl C s H ex,PE (Y9 X scope cl N' C s H ex) elt te)
  (hN:X.N.Nodup) (hy:X.N[i]?=some y) (hx:Loc X.env.scope y) (hf:X.fn y=true\/X.env.scope.names.lookup y=some .local)
  (o6:swapsWith (.ListComp elt [⟨tg,iter,ifs,0⟩] scope pos) (some (.Name y py)) O.line X.env=pure true)
  (hs:∀x,foldedSetIterable iter X.env x=pure x:=by intro _;rfl) :
  PS X (.Assign [.Name y py] (.ListComp elt [⟨tg,iter,ifs,0⟩] scope pos) O) (ZdU (Ze2 own M wi g tc te) (Yj i)):=by
 intro j s σ H D0 I h;obtain⟨cl,o7,n8,n9⟩:=Zak (scope:=scope) (env:=X.env) λy hy hf=>by
  have:=S.fr y hy hf;rw[<-Y] at this;exact I.ok.has y.1 this
 rw[exec_Assign_Name_used _ _ _ _ o6];refine Zl (jC (Zl ?_));show wpAny _ X.A (do let _ <-comprehension (.ListComp elt [⟨tg,iter,ifs,0⟩] scope pos) scope X.env _ (newList []) false (eval iter X.env) (some (assign (.Name y py) X.env))) _ _ s
 refine Zl (cw (ma (use:=some (assign (.Name y py) X.env)) (Q:=λ_ s'=>SP X j D0 .next s') rfl hs o7 S.kind S.uniq
  (Yz (hi j s σ H _ I h) λv s1 h1=>Yz h1 λr6 s2 h2=>?_)) (λ_ s' hq=>Zm (Zm hq)) λ_ _ e=>e)
 obtain⟨it,fp,tn,J,H2,e,I2,T,o8,f2,q⟩:=h2;subst e;refine Zag (RR:=λZJ C=>compPost (model X.prog X.w) X.A X.xe (some (assign (.Name y py) X.env)) (λ_ s'=>SP X j D0 .next s') ZJ C) Y S hc n8 n9 hg ht he I2 T o8 f2 q ?_;intro D C s' m H' hn o0 o5 o9 p3 p4 q' hb;have I':Inv X j σ H' s':=hb s'.heap (.refl ..);show wpAny _ X.A (assign (.Name y py) X.env (.ref D)) _ _ s';refine wpAny_assign_Name (ZaM I' hN hy hx (v:=.ref D) rfl (λp6 p7 ⟨a,sb,ha⟩=>?_) hf);have p8:C≠a:=by
  rcases ha with rfl|ha
  ·exact o0
  ·exact λz=>o5 y a ha z.symm
 refine⟨m,hn.sameBut sb p8,λh' q0=>⟨_,H',?_,q'⟩⟩;exact p7.turned (t':=p6.toks) (λb o hb e=>q0.extBut b o hb e) p4 o0 (.inr o9) o5 p3
section
variable {κ:Type} [DecidableEq κ]
def Y0 (j:List (κ×V))(k:κ):TU:=(j.find? λq=>decide (q.1=k)).map (·.2)
def WT (j:List (κ×V))(k:κ)(v:V):List (κ×V):=
 if (j.any λq=>decide (q.1=k))=true then j.map (λq=>if q.1=k then (q.1,v) else q) else j++[(k,v)]
theorem YW {p:κ×V}{r:List (κ×V)}{k:κ}(e:p.1=k):Y0 (p::r) k=some p.2:=by simp[Y0,eZ,e]
theorem YX {p:κ×V}{r:List (κ×V)}{k:κ}(e:¬p.1=k):Y0 (p::r) k=Y0 r k:=by simp[Y0,eZ,e]
theorem W3 (k:κ):∀j:List (κ×V),(j.any λq=>decide (q.1=k))=(Y0 j k).isSome
 | []=>rfl
 |p::r=>by
  rw[c6];by_cases e:p.1=k
  ·simp only[YW e,decide_eq_true e,Bool.true_or,Option.isSome_some]
  ·rw[YX e,decide_eq_false e,fW];exact W3 k r
theorem ZcB (k j:κ)(y:V):∀q:List (κ×V),Y0 (q.map λJ=>if J.1=k then (J.1,y) else J) j=(Y0 q j).map λx=>if j=k then y else x
 | []=>rfl
 |p::r=>by
  have M:=ZcB k j y r;rw[aG];by_cases h:p.1=k
  ·rw[if_pos h]
   by_cases e:p.1=j
   ·rw[YW (p:=(p.1,y)) e,YW e,dC,if_pos (e.symm.trans h)]
   ·rw[YX (p:=(p.1,y)) e,YX e,M]
  ·rw[if_neg h]
   by_cases e:p.1=j
   ·rw[YW (p:=p) e,YW e,dC,if_neg (λz=>h (e.trans z))]
   ·rw[YX (p:=p) e,YX e,M]
theorem ZaJ (k j:κ)(y:V):∀q:List (κ×V),Y0 q k=none->Y0 (q++[(k,y)]) j=if j=k then some y else Y0 q j
 | [],_=>by
  by_cases e:k=j
  ·rw[if_pos e.symm];exact YW (p:=(k,y)) e
  ·rw[if_neg (λz=>e z.symm)];exact YX (p:=(k,y)) e
 |p::r,J=>by
  rw[nM];have M:¬p.1=k:=λz=>by rw[YW z] at J;cases J
  rw[YX M] at J;have O:=ZaJ k j y r J;by_cases e:p.1=j
  ·rw[YW e,YW e,if_neg (λz=>M (e.trans z))]
  ·rw[YX e,YX e,O]
theorem Zhf (J:List (κ×V))(k j:κ)(y:V):Y0 (WT J k y) j=if j=k then some y else Y0 J j:=by
 unfold WT;by_cases a:(J.any λM=>decide (M.1=k))=true
 ·rw[if_pos a,ZcB]
  rw[W3] at a;by_cases e:j=k
  ·obtain⟨x,O⟩:=gO.mp a
   rw[if_pos e,e,O,dC,if_pos rfl]
  ·rw[if_neg e]
   cases Y0 J j with
   |none=>rfl
   |some x=>rw[dC,if_neg e]
 ·rw[if_neg a]
  refine ZaJ k j y J ?_;rw[W3] at a;cases q:Y0 J k with
  |none=>rfl
  |some x=>rw[q] at a;exact (a rfl).elim
theorem Jj (j:List (κ×V))(k:κ)(v:V):(WT j k v).length<=j.length+1:=by
 unfold WT;split
 ·rw[Za];omega
 ·rw[Zd,Zi,eY];omega
theorem Zii {j:List (κ×V)}{k:κ}(v:V)(h:Y0 j k=none):WT j k v=j++[(k,v)]:=by
 unfold WT;rw[W3,h];exact if_neg (by decide)
theorem Zat.isSome_eq {o:TU}{u:Option Value}(r:Zat o u):o.isSome=u.isSome:=by
 cases o with
 |none=>cases u with
  |none=>rfl
  |some _=>exact (show False from r).elim
 |some _=>cases u with
  |none=>exact (show False from r).elim
  |some _=>rfl
theorem KV.val {j:List (κ×V)}{vs:List (κ×Value)}(r:KV j vs)(k:κ):Zat (Y0 j k) (valueAt vs k):=by
 unfold KV at r;induction r with
 |nil=>exact dB
 | @cons p q ps J h t Y=>
  obtain⟨O,h2⟩:=h;by_cases e:p.1=k
  ·have M:q.1=k:=O.symm.trans e
   have b:valueAt (q::J) k=some q.2:=by simp[valueAt,eZ,M]
   rw[YW e,b];exact h2
  ·have M:¬q.1=k:=λz=>e (O.trans z)
   have b:valueAt (q::J) k=valueAt J k:=by simp[valueAt,eZ,M]
   rw[YX e,b];exact Y
theorem KV.any {j:List (κ×V)}{vs:List (κ×Value)}(r:KV j vs)(k:κ):(j.any λq=>decide (q.1=k))=vs.any λq=>decide (q.1=k):=by
 unfold KV at r;induction r with
 |nil=>rfl
 |cons h t J=>rw[c6,c6,J,h.1]
theorem KV.repl {J:List (κ×V)}{vs:List (κ×Value)}(r:KV J vs)(k:κ){y:V}{u:Value}(O:RelV y u) :
  KV (J.map λj=>if j.1=k then (j.1,y) else j) (vs.map λj=>if j.1=k then (j.1,u) else j):=by
 unfold KV at r ⊢;induction r with
 |nil=>exact .nil
 | @cons p q ps qs h t Y=>
  rw[aG,aG];refine .cons ?_ Y;obtain⟨M,h2⟩:=h;by_cases e:p.1=k
  ·rw[if_pos e,if_pos (M.symm.trans e)];exact⟨M,O⟩
  ·rw[if_neg e,if_neg (λz=>e (M.trans z))];exact⟨M,h2⟩
theorem KV.put {j:List (κ×V)}{vs:List (κ×Value)}(r:KV j vs)(k:κ){y:V}{u:Value}(q:RelV y u):KV (WT j k y) (stored vs k u):=by
 unfold WT stored;rw[r.any k];by_cases e:(vs.any λJ=>decide (J.1=k))=true
 ·rw[if_pos e,if_pos e];exact r.repl k q
 ·rw[if_neg e,if_neg e];exact Paired.snoc r ⟨rfl,q⟩
theorem KV.length {j:List (κ×V)}{vs:List (κ×Value)}(r:KV j vs):j.length=vs.length:=j8 r
end
theorem Zdn {P:Program}{w:World}{k:YL}{u:Value}(r:RelV (kV k) u):(YM P w).is k u=true:=by
 cases k with
 |inl i=>obtain⟨t,e⟩:=(show ∃t,u=fG i t from r);subst e;exact Zde P w i t
 |inr x=>obtain⟨t,e⟩:=(show ∃t,u=ko x t from r);subst e;exact Zdd P w x t
theorem ZaY {P:Program}{w:World}:∀{j:List YL}{us:List Value},ZS (j.map kV) us->ItemsAre (YM P w) j us
 | [],_,r=>by rw[eF] at r;cases r;exact .nil
 |k::j,_,r=>by
  rw[aG] at r;cases r with
  |cons h t=>exact .cons (Zdn h) (ZaY t)
noncomputable abbrev KT (H:Hp):List (List YL×V)->List (List YL×Addr×Value)->Prop:=lu λp q=>p.1=q.1/\H q.2.1=some (.tup (p.1.map kV))/\RelV p.2 q.2.2
theorem KT.val {H:Hp}{j:List (List YL×V)}{xs:List (List YL×Addr×Value)}(r:KT H j xs)(k:List YL):Zat (Y0 j k) ((atKey xs k).map (·.2)):=by
 induction r with
 |nil=>exact dB
 | @cons p q ps J h t Y=>
  obtain⟨O,_,h2⟩:=h;by_cases e:p.1=k
  ·have M:q.1=k:=O.symm.trans e
   have b:atKey (q::J) k=some q.2:=by simp[atKey,eZ,M]
   rw[YW e,b];exact h2
  ·have M:¬q.1=k:=λz=>e (O.trans z)
   have b:atKey (q::J) k=atKey J k:=by simp[atKey,eZ,M]
   rw[YX e,b];exact Y
theorem KT.repl {H:Hp}{j:List (List YL×V)}{xs:List (List YL×Addr×Value)}(r:KT H j xs)(k:List YL){y:V}{u:Value}(Y:RelV y u) :
  KT H (j.map λM=>if M.1=k then (M.1,y) else M) (xs.map (putAt k u)):=by
 induction r with
 |nil=>exact .nil
 | @cons p q ps qs h t ih=>
  rw[aG,aG];refine .cons ?_ ih;obtain⟨J,O,h3⟩:=h;unfold putAt;by_cases e:p.1=k
  ·rw[if_pos e,if_pos (J.symm.trans e)];exact⟨J,O,Y⟩
  ·rw[if_neg e,if_neg (λz=>e (J.trans z))];exact⟨J,O,h3⟩
theorem KT.put {H:Hp}{j:List (List YL×V)}{xs:List (List YL×Addr×Value)}(r:KT H j xs)(k:List YL){b:Addr}{y:V}{u:Value}(hb:H b=some (.tup (k.map kV)))(J:RelV y u) :
  KT H (WT j k y) (storedH xs k b u):=by
 have e:(j.any λM=>decide (M.1=k))=(atKey xs k).isSome:=by
  rw[W3,(r.val k).isSome_eq,mE]
 unfold WT storedH;rw[e];by_cases q:(atKey xs k).isSome=true
 ·rw[if_pos q,if_pos q];exact r.repl k J
 ·rw[if_neg q,if_neg q];exact Paired.snoc r ⟨rfl,hb,J⟩
theorem KT.keeps {H q:Hp}{j:List (List YL×V)}{xs:List (List YL×Addr×Value)}(r:KT H j xs)(J:∀b ys,H b=some (.tup ys)->q b=some (.tup ys)):KT q j xs:=
 lu.mapP r λ_ _ z=>⟨z.1,J _ _ z.2.1,z.2.2⟩
section
variable {h:Heap}{a:Addr}
theorem Zml {u:HO}(ok:X9 P w H h)(e:Rd H a u):Ys P w H h a u:=e.ok ok
theorem ZfT {j:List (YL×V)}(ok:X9 P w H h)(e:Rd H a (.dK j)):j.length<=sizeLine/\(a == sysModules)=false/\∃vs,KV j vs/\h.DictOf (YM P w) a vs:=
 show Ys P w H h a (.dK j) from Zml ok e
theorem ZmA {j:List (YL×V)}(ok:X9 P w H h)(e:H a=some (.dK j)):j.length<=sizeLine/\(a == sysModules)=false/\∃vs,KV j vs/\h.DictOf (YM P w) a vs:=ZfT ok (.inl e)
theorem Zb3 {j:List YL}(ok:X9 P w H h)(e:H a=some (.tup (j.map kV))):(tupleKind (YM P w)).is h j a:=by
 obtain⟨_,q,r,o,J,M,n,O⟩:=(show Ys P w H h a (.tup (j.map kV)) from ok a _ e);exact⟨o,q.toArray,n,J,M,O,by simpa using ZaY r⟩
theorem ZfS {j:List (List YL×V)}(ok:X9 P w H h)(e:Rd H a (.dT j)):j.length<=sizeLine/\(a == sysModules)=false/\
  ∃xs,KT H j xs/\h.DictOfH (tupleKind (YM P w)) a xs:=by
 obtain⟨z,y,xs,r,o,O,Y,h1,h2,h3,h4,h5⟩:=(show Ys P w H h a (.dT j) from Zml ok e);refine⟨z,y,xs,r,o,O,Y,h1,h2,h3,h4,λx J=>?_,h5⟩;have all:∀{l:List (List YL×V)}{m:List (List YL×Addr×Value)},KT H l m->∀x∈m,(tupleKind (YM P w)).is h x.1 x.2.1:=by
  intro l m q;induction q with
  |nil=>intro x J;exact nomatch J
  | @cons p q ps qs M t ih=>
   intro x J;rcases aF.mp J with e|J
   ·subst e
    exact Zb3 ok (by rw[<-M.1];exact M.2.1)
   ·exact ih x J
 exact all r x J
theorem ZpL {j:List (List YL×V)}(ok:X9 P w H h)(e:H a=some (.dT j)):j.length<=sizeLine/\(a == sysModules)=false/\
  ∃xs,KT H j xs/\h.DictOfH (tupleKind (YM P w)) a xs:=ZfS ok (.inl e)
end
def JJ (H:Hp)(a:Addr)(y:V)(r:TU):Prop:=
 (∃j k,Rd H a (.dK j)/\y=kV k/\r=Y0 j k)\/∃j k b,Rd H a (.dT j)/\y=.ref b/\H b=some (.tup (k.map kV))/\r=Y0 j k
def VU (H:Hp)(a:Addr)(y v:V)(q:Hp):Prop:=
 (∃j k,H a=some (.dK j)/\y=kV k/\j.length<sizeLine/\q=upd H a (.dK (WT j k v)))\/
 ∃j k b,H a=some (.dT j)/\y=.ref b/\H b=some (.tup (k.map kV))/\j.length<sizeLine/\q=upd H a (.dT (WT j k v))
theorem JJ.k {H:Hp}{a:Addr}{j:List (YL×V)}{k:YL}(e:H a=some (.dK j)):JJ H a (kV k) (Y0 j k):=.inl ⟨j,k,.inl e,rfl,rfl⟩
theorem JJ.T {H:Hp}{a b:Addr}{j:List (List YL×V)}{k:List YL}(e:H a=some (.dT j))(q:H b=some (.tup (k.map kV))):JJ H a (.ref b) (Y0 j k):=.inr ⟨j,k,b,.inl e,rfl,q,rfl⟩
theorem VU.k {H:Hp}{a:Addr}{j:List (YL×V)}{k:YL}{v:V}(e:H a=some (.dK j))(q:j.length<sizeLine):VU H a (kV k) v (upd H a (.dK (WT j k v))):=.inl ⟨j,k,e,rfl,q,rfl⟩
theorem VU.T {H:Hp}{a b:Addr}{j:List (List YL×V)}{k:List YL}{v:V}(e:H a=some (.dT j))(q:H b=some (.tup (k.map kV)))(J:j.length<sizeLine) :
  VU H a (.ref b) v (upd H a (.dT (WT j k v))):=.inr ⟨j,k,b,e,rfl,q,J,rfl⟩
section
variable {a:Addr}{y v:V}{u r:Value}{o:TU}
theorem Inv.big (I:Inv X pins σ H s):sysModules<s.heap.objs.size:=by
 have h:mainGlobals<s.heap.objs.size:=(I.mod.glob.keeps I.bk).lt;exact jA (by decide) h
theorem ZgV {Q:TY}(hu:A.units+1<cLine)(I:Inv X pins σ H s)(g:JJ H a y (some v))(ry:RelV y u)(h:∀q s',Inv X pins σ H s'->RelV v q->Q q s') :
  wpAny (model X.prog X.w) A (getItem (.ref a) u) Q E s:=by
 rcases g with ⟨J,k,e,M,l⟩|⟨J,k,b,e,M,eb,l⟩
 ·subst M
  obtain⟨z,hd,vs,rel,O⟩:=ZfT I.hok e;obtain⟨q,Y,j⟩:=Zat.some_of (v:=v) (o:=valueAt vs k) (by rw[l];exact rel.val k);exact wpAny_getItem_of (Zdn ry) O.mapOf Y (h q _ (I.tok _) j)
 ·subst M
  cases (show u=ax b from ry);obtain⟨z,hd,xs,rel,O⟩:=ZfS I.hok e;obtain⟨q,Y,j⟩:=Zat.some_of (v:=v) (o:=(atKey xs k).map (·.2)) (by rw[l];exact rel.val k);obtain⟨p,hp,n6⟩:=Option.map_eq_some_iff.mp Y;refine wpAny_getItem_heap (jK hu) (Zb3 I.hok eb) O hp ?_;rw[n6];exact h q _ (I.tok _) j
theorem ZlI {Q:TY}(Y:A.units+1<cLine)(I:Inv X pins σ H s)(g:JJ H a y o)(O:RelV y u)(h:∀s',Inv X pins σ H s'->Q (.bool (!o.isSome)) s') :
  wpAny (model X.prog X.w) A (compareOp .NotIn u (.ref a)) Q E s:=by
 rcases g with ⟨j,k,e,J,l⟩|⟨j,k,b,e,J,eb,l⟩
 ·subst J
  obtain⟨z,hd,vs,rel,M⟩:=ZfT I.hok e;refine wpAny_notIn_of (Zdn O) hd M.mapOf ?_;rw[<-(rel.val k).isSome_eq,<-l];exact h _ (I.tok _)
 ·subst J
  cases (show u=ax b from O);obtain⟨z,hd,xs,rel,M⟩:=ZfS I.hok e;refine wpAny_notIn_heap (jK Y) (Zb3 I.hok eb) hd M ?_;have q:=(rel.val k).isSome_eq;rw[mE] at q;rw[<-q,<-l];exact h _ (I.tok _)
theorem Zcc {h':Heap}{t':Nat}{j:HO}(I:Inv X pins σ H s)(M:Mut (H a))(O:br a s.heap h')(Y:∃q,h'.get? a=some q)(J:Ys X.prog X.w (upd H a j) h' a j) :
  Inv X pins σ (upd H a j) {s with heap:=h',toks:=t'}:=
 I.write (x:=a) (e:=a) M (.inl rfl) (λb q hb z=>(O.2 b hb).trans z) Y J
theorem Zjo {P:Program}{w:World}{q:Hp}{h':Heap}{j:List (YL×V)}{vs:List (YL×Value)}(z:j.length<=sizeLine)(hd:(a == sysModules)=false)(rel:KV j vs)(J:h'.DictOf (YM P w) a vs) :
  Ys P w q h' a (.dK j):=⟨z,hd,vs,rel,J⟩
theorem ZgU {H':Hp}{Q:Unit->Shared->Prop}(hu:A.units+1<cLine)(I:Inv X pins σ H s)(g:VU H a y v H')(ry:RelV y u)(rv:RelV v r)(h:∀s',Inv X pins σ H' s'->Q () s') :
  wpAny (model X.prog X.w) A (setItem (.ref a) u r) Q E s:=by
 rcases g with ⟨j,k,e,O,l,Y⟩|⟨j,k,b,e,O,eb,l,Y⟩
 ·subst O Y
  obtain⟨z,hd,vs,rel,dd⟩:=ZmA I.hok e;have hz:vs.length<=sizeLine:=by rw[<-rel.length];exact z
  have hl:(WT j k v).length<=sizeLine:=by have:=Jj j k v;omega
  refine wpAny_setItem_pairs (hsz:=hz) (Zdn ry) dd λh' J hs=>h _ ?_;have he:∃q,h'.get? a=some q:=by obtain⟨q,_,_,M,_⟩:=J;exact⟨q,M⟩
  exact Zcc I (by rw[e];exact dB) hs he (Zjo hl hd (rel.put k rv) J)
 ·subst O Y
  cases (show u=ax b from ry);obtain⟨z,hd,xs,rel,dd⟩:=ZpL I.hok e;have hz:xs.length<=sizeLine:=by rw[<-j8 rel];exact z
  have hl:(WT j k v).length<=sizeLine:=by have:=Jj j k v;omega
  refine wpAny_setItem_heap (hsz:=hz) (jK hu) (Zb3 I.hok eb) dd λh' J hs=>h _ ?_;obtain⟨q,es,ep,M,h2,h3,h4,_,h5⟩:=J;refine Zcc I (by rw[e];exact dB) hs ⟨q,M⟩ ⟨hl,hd,_,(rel.put k eb rv).keeps λc ys ec=>?_,q,es,ep,M,h2,h3,h4,h5⟩;rw[Zz (ZiJ ec e (λz=>nomatch z))];exact ec
end
section
variable {a:Addr}{kvs:List (YL×V)}{k:YL}{u:Value}
end
def Zqd (i:Expr):Prop:=∀j iv,subscripted i false j iv=operate [j,iv] (getItem j iv)
theorem Zkc {prog:Program}{w:World}{A:Around}{E:TY}{s:Shared}{env:Env}{value j:Expr}{pos:Pos}{T id:String}{Q:TY}
  (hl:typeLookup (.type T) "__getitem__"=pure (some (.builtin id))) (hs:Zqd j)
  (h:wpAny (model prog w) A (eval value env) (λo M=>wpAny (model prog w) A (eval j env) (λi q=>q.TypeIs o T/\wpAny (model prog w) A (getItem o i) Q E q) E M) E s) :
  wpAny (model prog w) A (eval (.Subscript value j pos) env) Q E s:=by
 refine Subscript_ (cw h (λo M n6=>cw n6 (λi q J=>?_) λ_ _ x=>x) λ_ _ x=>x);obtain⟨hT,J⟩:=J;unfold subscriptTail;refine Zl ?_;rw[getitemInPython_of_ne hT.not_modules];refine Zl (wpAny_specialOf hT hl ?_);have Y:wpAny (model prog w) A (subscripted j false o i) (λr O=>wpAny (model prog w) A (letTemporaryGo value o r >>= λ_=>pure r) Q E O) E q:=by
  rw[hs o i];exact wpAny_operating (cw J (λr O n8=>Zl (wpAny_letTemporaryGo (Zm n8))) λ_ _ x=>x)
 first
  |exact Zm (Zl Y)
  |exact Zl (Zm (Zl Y))
  |exact Zl Y
theorem Zdv {X:Cx}{j:List (Addr×Obj)}{σ:St}{H:Hp}{s:Shared}{a:Addr}{y:V}{o:TU}(I:Inv X j σ H s)(g:JJ H a y o):s.TypeIs (.ref a) "dict":=by
 rcases g with ⟨q,k,e,_,_⟩|⟨q,k,b,e,_,_,_⟩
 ·obtain⟨_,_,M,_,J⟩:=ZfT I.hok e
  exact J.typeIs
 ·obtain⟨_,_,xs,_,J⟩:=ZfS I.hok e
  exact J.typeIs
inductive iDG (Q:VK) (x y:V) (H:Hp):Prop
 |mk (a:Addr) (v:V):x=.ref a->JJ H a y (some v)->Q v H->iDG Q x y H
def ZoW (q J:TE):TE:=λj H Q=>q j H λx M=>J j M (iDG Q x)
def Zj9 (J M:TE):TE:=λj H Q=>J j H λy O=>M j O λx q=>∃a o,x=.ref a/\JJ q a y o/\Q (.bl (!o.isSome)) q
inductive iDP (D:WZ) (σ:St) (x v y:V) (H3:Hp):Prop
 |mk (a:Addr) (H4:Hp):x=.ref a->VU H3 a y v H4->D.nx σ H4->iDP D σ x v y H3
def Zpb (q J M:TE):TS:=λD j H=>M j H λv O=>q j O λx Y=>J j Y (iDP D j x v)
section
variable {o i e value:Expr}{pos pos' tpos:Pos}{td ty tv:TE}
theorem Jh (O:X.A.units+1<cLine)(Y:PE X o td)(hi:PE X i ty)(hs:Zqd i):PE X (.Subscript o i pos) (ZoW td ty):=by
 intro j s J H Q I h;refine Zkc PySem.F.slot_dict_getitem.lookup hs (Yz (Y j s J H _ I h) λu s1 ⟨x,H1,I1,rx,q1⟩=>Yz (hi j s1 J H1 _ I1 q1) λiv s2 ⟨y,H2,M,ry,a,v,ex,g,q2⟩=>?_);subst ex;obtain rfl:u=ax a:=rx;exact⟨Zdv M g,ZgV O M g ry λw' s3 I3 q=>⟨v,H2,I3,q,q2⟩⟩
theorem ZaS (J:X.A.units+1<cLine)(M:PE X i ty)(O:PE X o td):PC X .NotIn i o (Zj9 ty td):=by
 intro j s q H Q I h;refine Yz (M j s q H _ I h) λiv Y ⟨y,H1,I1,ry,q1⟩=>Yz (O j Y q H1 _ I1 q1) λu s2 ⟨x,H2,I2,rx,a,ov,ex,g,q2⟩=>?_;subst ex;obtain rfl:u=ax a:=rx;exact ZlI J I2 g ry λs3 I3=>⟨.bl (!ov.isSome),H2,I3,rfl,q2⟩
theorem Xz (J:X.A.units+1<cLine)(M:PE X o td)(O:PE X i ty)(Y:PE X value tv)(hs:swapsWith value (some (.Subscript o i pos')) pos.line X.env=pure false) :
  PS X (.Assign [.Subscript o i pos'] value pos) (Zpb td ty tv):=by
 intro j s q H D I h;refine wpAny_Assign_Subscript (Yz (Y j s q H _ I h) λr s1 ⟨v,H1,I1,rv,q1⟩=>Yz (M j s1 q H1 _ I1 q1) λu s2 ⟨x,H2,I2,rx,q2⟩=>Yz (O j s2 q H2 _ I2 q2) λiv s3 ⟨y,H3,I3,ry,a,H4,ex,g,q3⟩=>?_) hs;subst ex;obtain rfl:u=ax a:=rx;exact ZgU J I3 g ry rv λs4 I4=>⟨q,H4,I4,q3⟩
end
theorem Zdu {P:Program}{w:World}{H:Hp}(h:Heap)(hb:sysModules<h.objs.size):Ys P w H (h.push {cls:=.type "dict",data:=.dict #[]}) h.objs.size (.dK []):=
 ⟨aV _,beq_eq_false_iff_ne.mpr (bf (ay hb)),[],.nil,Heap.DictOf.new h⟩
theorem Zjn {P:Program}{w:World}{H:Hp}(h:Heap)(hb:sysModules<h.objs.size):Ys P w H (h.push {cls:=.type "dict",data:=.dict #[]}) h.objs.size (.dT []):=
 ⟨aV _,beq_eq_false_iff_ne.mpr (bf (ay hb)),[],.nil,_,#[],0,Zo _ rfl,⟨rfl,rfl,rfl⟩,rfl,rfl,eA⟩
def ZmT:TE:=λ_ H Q=>∀p,H p=none->Q (.ref p) (upd H p (.dK []))
def ZmS:TE:=λ_ H Q=>∀p,H p=none->Q (.ref p) (upd H p (.dT []))
section
variable {pos:Pos}
theorem Zc3:PE X (.Dict [] [] pos) ZmT:=λj s J H Q I h=>
 wpAny_Dict_empty ⟨.ref s.heap.objs.size,_,I.laid (a:=s.heap.objs.size) (o:=.dK []) (t':=s.toks) (λ_ _ q=>Zn _ q) (Zq _) (Zdu s.heap I.big),rfl,h _ (I.hok.fresh (Zq _))⟩
theorem Zil:PE X (.Dict [] [] pos) ZmS:=λj s J H Q I h=>
 wpAny_Dict_empty ⟨.ref s.heap.objs.size,_,I.laid (a:=s.heap.objs.size) (o:=.dT []) (t':=s.toks) (λ_ _ q=>Zn _ q) (Zq _) (Zjn s.heap I.big),rfl,h _ (I.hok.fresh (Zq _))⟩
end
def ZdT:List (TE×TE)->St->Hp->(List (V×V)->Hp->Prop)->Prop
 | [],_,H,Q=>Q [] H
 |(tk,j)::r,σ,H,Q=>tk σ H λx q=>j σ q λy J=>ZdT r σ J λM O=>Q ((x,y)::M) O
noncomputable abbrev VV:List (V×V)->List (Value×Value)->Prop:=lu λp q=>RelV p.1 q.1/\RelV p.2 q.2
def PPs (X:Cx)(pos:Pos)(J:List (Option Expr))(j:List Expr)(M:List (TE×TE)):Prop:=
 ∀(q:List (Addr×Obj)) (s:Shared) (O:St) (H:Hp) (Q:List (V×V)->Hp->Prop),Inv X q O H s->ZdT M O H Q->
  wpAny (model X.prog X.w) X.A (evalPairs (pairTrees J j X.env pos)) (λvs s'=>∃Y H',Inv X q O H' s'/\VV Y vs/\Q Y H') X.xe s
theorem ZkB {X:Cx}{pos:Pos}:PPs X pos [] [] []:=λj s q H Q I h=>pairTrees_nil_walk ⟨[],H,I,.nil,h⟩
theorem US {X:Cx}{pos:Pos}{k v:Expr}{M:List (Option Expr)}{vs:List Expr}{tk O:TE}{q:List (TE×TE)}(Y:PE X k tk)(hv:PE X v O)(hr:PPs X pos M vs q) :
  PPs X pos (some k::M) (v::vs) ((tk,O)::q):=λj s J H Q I h=>
 pairTrees_cons_walk (Yz (Y j s J H _ I h) λu s1 ⟨x,H1,I1,rx,q1⟩=>Yz (hv j s1 J H1 _ I1 q1) λw2 s2 ⟨y,H2,I2,ry,q2⟩=>
  Yz (hr j s2 J H2 _ I2 q2) λws s3 ⟨ps,H3,I3,rel,q3⟩=>⟨(x,y)::ps,H3,I3,.cons ⟨rx,ry⟩ rel,q3⟩)
def UY (q j:List (YL×V)):List (YL×V):=j.foldl (λZJ J=>WT ZJ J.1 J.2) q
theorem KV.merge:∀{more:List (YL×V)}{rs:List (YL×Value)}{j:List (YL×V)}{vs:List (YL×Value)},KV more rs->KV j vs->KV (UY j more) (merged vs rs):=by
 intro more rs j vs r;unfold KV at r;induction r generalizing j vs with
 |nil=>intro q;exact q
 | @cons p q O Y h t J=>
  intro M;have e:KV (WT j p.1 p.2) (stored vs q.1 q.2):=by
   have:=M.put p.1 h.2;rw[<-h.1];exact this
  exact J e
theorem XO:∀(q j:List (YL×V)),(UY j q).length<=j.length+q.length
 | [],j=>by show j.length<=j.length+0;omega
 |p::r,j=>by
  have J:=XO r (WT j p.1 p.2);have M:=Jj j p.1 p.2;show (UY (WT j p.1 p.2) r).length<=_;rw[Zi];omega
theorem Zam {P:Program}{w:World}:∀{j:List (YL×V)}{M:List (Value×Value)},VV (j.map λO=>(kV O.1,O.2)) M->∃J,Carries (YM P w) M J/\KV j J
 | [],_,r=>by rw[eF] at r;cases r;exact⟨[],dB,.nil⟩
 |p::j,_,r=>by
  rw[aG] at r;cases r with
  | @cons a b as bs h t=>
   obtain⟨J,c,q⟩:=Zam (P:=P) (w:=w) t;obtain⟨b1,Y⟩:=b;exact⟨(p.1,Y)::J,⟨Zdn h.1,rfl,c⟩,.cons ⟨rfl,h.2⟩ q⟩
def ZoV (q:List (TE×TE)):TE:=λO H Q=>∀p,H p=none->ZdT q O (upd H p (.dK [])) λY J=>J p=some (.dK [])/\∃j:List (YL×V),Y=j.map (λM=>(kV M.1,M.2))/\j.length<=15/\Q (.ref p) (upd J p (.dK (UY [] j)))
theorem ZkI {X:Cx}{pos:Pos}{keys:List (Option Expr)}{values:List Expr}{j:List (TE×TE)}(h:PPs X pos keys values j)(J:keys.all (·.isSome)=true)(hl:keys.length=values.length)(h0:keys≠[])
  (n6:keys.length<=15):PE X (.Dict keys values pos) (ZoV j):=by
 intro M s σ H Q I q;have hn:=I.hok.fresh (Zq s.heap.objs.size);have I1:=I.laid (a:=s.heap.objs.size) (o:=.dK []) (h':=s.heap.push {cls:=.type "dict",data:=.dict #[]}) (t':=s.toks) (λ_ _ q=>Zn _ q) (Zq _) (Zdu s.heap I.big);refine wpAny_Dict_walk (knd:=YM X.prog X.w) J hl h0 n6 (Yz (h M _ σ _ _ I1 (q _ hn)) λws s2 ⟨ps,H2,I2,rel,e,O,ep,lk,q2⟩=>?_);subst ep;obtain⟨rs,c,rk⟩:=Zam (P:=X.prog) (w:=X.w) rel;obtain⟨z,hd,n9,r0,dd⟩:=ZmA I2.hok e;cases r0;refine⟨rs,c,dd,λh' Y hs=>⟨.ref s.heap.objs.size,_,?_,rfl,q2⟩⟩;have hz:(UY [] O).length<=sizeLine:=by
  have h1:=XO O [];rw[eY] at h1;rw[gC];omega
 have he:∃q,h'.get? s.heap.objs.size=some q:=by obtain⟨q,_,_,hq,_⟩:=Y;exact⟨q,hq⟩
 exact Zcc I2 (by rw[e];exact dB) hs he (Zjo hz hd (rk.merge .nil) Y)
section
variable {a:Addr}{y d:V}{u r:Value}{o:TU}
end
section
variable {o e f:Expr}{apos cpos:Pos}{td ty tx:TE}
end
section
variable {a:Addr}{kvs:List (YL×V)}
end
section
variable {a:Addr}{y:V}{u:Value}
end
mutual
inductive RdD (K:aa) (H:Hp):V->fq->Prop where
 |non:RdD K H .non .none
 |bl (b:Bool):RdD K H (.bl b) (.bool b)
 |int (i:Int):RdD K H (.int i) (.int i)
 |str (x:Str):RdD K H (.str x) (.str x)
 |lst {a:Addr}{xs:TV}{ds:List fq} (h:Wx K H a xs) (r:WO K H xs ds):RdD K H (.ref a) (.list ds)
 |tup {a:Addr}{xs:TV}{ds:List fq} (h:XQ K H a xs) (r:WO K H xs ds):RdD K H (.ref a) (.tuple ds)
inductive WO (K:aa) (H:Hp):TV->List fq->Prop where
 |nil:WO K H [] []
 |cons {x:V}{xs:TV}{d:fq}{ds:List fq} (h:RdD K H x d) (r:WO K H xs ds):WO K H (x::xs) (d::ds)
end
section
variable {H H':Hp}
theorem Zv.tup {a:Addr}{xs:TV}(e:Zv H H')(h:XQ K H a xs):XQ K H' a xs:=by
 rcases h with (h|⟨o,h⟩)|h
 ·exact .inl (.inl (e _ _ h))
 ·exact .inl (.inr ⟨o,e _ _ h⟩)
 ·exact .inr h
theorem Zv.upd {p:Addr}{o:HO}(h:H p=none):Zv H (upd H p o):=λb u e=>by rw[Zz (Yo e h)];exact e
theorem Zv.updr {p:Addr}{o:HO}(s:Zv H H')(h:H p=none):Zv H (L2.upd H' p o):=λb u e=>by rw[Zz (Yo e h)];exact s b u e
mutual
theorem RdD.mono (s:Zv H H'):∀{v:V}{d:fq},RdD K H v d->RdD K H' v d
 |_,_,.non=>.non
 |_,_,.bl b=>.bl b
 |_,_,.int i=>.int i
 |_,_,.str x=>.str x
 |_,_,.lst h r=>.lst (s.seq h) (WO.mono s r)
 |_,_,.tup h r=>.tup (s.tup h) (WO.mono s r)
theorem WO.mono (s:Zv H H'):∀{v:TV}{d:List fq},WO K H v d->WO K H' v d
 |_,_,.nil=>.nil
 |_,_,.cons h r=>.cons (RdD.mono s h) (WO.mono s r)
end
theorem WO.ints:∀ns:TZ,WO K H (ns.map V.int) (ns.map aP)
 | []=>.nil
 |n::r=>.cons (.int n) (WO.ints r)
end
mutual
theorem Inv.reads (I:Inv X pins σ H s):∀{v:V}{d:fq}{u:Value},RdD X.K H v d->RelV v u->∃as,Reads s.heap u d as
 |_,_,_,.non,r=>by cases (show _=a6 from r);exact⟨_,.none⟩
 |_,_,_,.bl b,r=>by cases (show _=ip b from r);exact⟨_,.bool b⟩
 |_,_,_,.int i,r=>by obtain⟨t,rfl⟩:=r;exact⟨_,.int i t⟩
 |_,_,_,.str x,r=>by obtain⟨t,rfl⟩:=r;exact⟨_,.str x t⟩
 |_,_,_,.lst (a:=a) h q,r=>by
  cases (show _=ax a from r);obtain⟨j,J,⟨o,n,e,c,_,d⟩,_⟩:=I.list h;obtain⟨as,M⟩:=Inv.readsAll I q J;exact⟨_,.list e c d (by simpa using M)⟩
 |_,_,_,.tup (a:=a) h q,r=>by
  cases (show _=ax a from r);obtain⟨j,J,⟨o,e,c,n,d⟩,_⟩:=I.tuple h;obtain⟨as,M⟩:=Inv.readsAll I q J;exact⟨_,.tuple e c d (by simpa using M)⟩
theorem Inv.readsAll (I:Inv X pins σ H s):∀{v:TV}{d:List fq}{u:List Value},WO X.K H v d->ZS v u->∃as,ReadsAll s.heap u d as
 |_,_,_,.nil,r=>by cases r;exact⟨_,.nil⟩
 |_,_,_,.cons h q,r=>by
  cases r with
  |cons r j=>
   obtain⟨O,J⟩:=Inv.reads I h r;obtain⟨Y,M⟩:=Inv.readsAll I q j;exact⟨_,.cons J M⟩
end
structure ZlZ (d:fq):Prop where
 sh:d.showable=true
 nd:d.hasDict=false
 dp:d.depth<=60
 sz:d.shown.length<=sizeLine
inductive I_op_neD (K:aa) (x:V) (y:V) (H:Hp) (Q:VK):Prop
 |mk (dx:_) (dy:_):(RdD K H x dx)->(RdD K H y dy)->(gq dx=true)->(gq dy=true)->(Q (.bl (!gx dx dy)) H)->I_op_neD K x y H Q
theorem Znp (J:X.A.units+64<cLine):VC X (compareOp .NotEq) (_root_.L2.I_op_neD X.K):=by
 intro j s σ H x y v u Q I rx M ⟨dx,dy,O,Y,s1,s2,q⟩;obtain⟨as,r1⟩:=I.reads O rx;obtain⟨bs,r2⟩:=I.reads Y M;exact SeqAt.compareNe_shaped r1 r2 s1 s2 J ⟨.bl _,H,I,rfl,q⟩
inductive I_call_repr (K:aa) (xs:TV) (H:Hp) (Q:VK):Prop
 |mk (x:_) (d:_):(xs=[x])->(RdD K H x d)->(ZlZ d)->(Q (.str d.shown) H)->I_call_repr K xs H Q
theorem Zg2 {k:Nat}(hr:JI k X.A):YA X (.builtin "repr") (_root_.L2.I_call_repr X.K):=by
 intro M s σ H xs us Q I r h;obtain⟨x,d,rfl,hd,F,q⟩:=h;obtain⟨u,rfl,ru⟩:=vals1 r;obtain⟨as,rd⟩:=I.reads hd ru;have n6:X.A.units+61<cLine:=by have:=hr.units;omega
 have j:∀(J:Heap) (u:Tok) (tk:Nat),(∀b o,s.heap.get? b=some o->J.get? b=some o)->EP X M σ Q (.str d.shown u) {s with heap:=J,toks:=tk}:=λJ u tk k=>⟨.str d.shown,H,I.kept k,⟨u,rfl⟩,q⟩;cases rd with
 |none=>exact P.repr_of_none (j s.heap _ _ λ_ _ e=>e)
 |bool b=>exact P.repr_of_bool (by have:=j s.heap s.toks (s.toks+1) λ_ _ e=>e;simpa only[gf] using this)
 |int i t=>exact P.repr_of_int (by simpa only[jD,decide_eq_true_eq] using F.sh) (by have:=j s.heap s.toks (s.toks+1) λ_ _ e=>e;simpa only[gf] using this)
 |str y t=>exact P.repr_of_str (by have:=j s.heap s.toks (s.toks+1) λ_ _ e=>e;simpa only[gf] using this) (by simpa only[gf] using F.sz)
 |list O Y h3 h4=>exact repr_of_reads' (.list O Y h3 h4) F.sh (λz=>by rw[F.nd] at z;cases z) hr.gd (by have:=F.dp;omega) (λ_ _ e=>e) (λJ u tk k=>j J u tk k) F.sz
 |tuple O Y h3 h4=>exact repr_of_reads' (.tuple O Y h3 h4) F.sh (λz=>by rw[F.nd] at z;cases z) hr.gd (by have:=F.dp;omega) (λ_ _ e=>e) (λJ u tk k=>j J u tk k) F.sz
 |dict O Y h3 h4 h5=>cases hd
inductive I_call_isi (K:aa) (xs:TV) (H:Hp) (Q:VK):Prop
 |mk (x:_) (c:_) (t:_) (b:_):(xs=[x,c])->(VA K H x t)->((∀cv,RelV c cv->jM K t cv=some b))->(Q (.bl b) H)->I_call_isi K xs H Q
theorem ZjB:YA X (.builtin "isinstance") (_root_.L2.I_call_isi X.K):=by
 intro j s O H Y us Q I r h;obtain⟨x,c,t,b,rfl,ty,e,q⟩:=h;cases r with
 |cons J r=>
  cases r with
  |cons M r=>
   cases r;exact ZgI I J ty (e _ M) λtk=>⟨.bl b,H,I.tok _,rfl,q⟩
theorem ZmM {prog:Program}{w:World}{A:Around}{j:List Value}{bs:List Bool}(r:ZS (bs.map V.bl) j):TruthOf prog w A (λi v=>j.toArray[i]?=some v) (λi=>bs.getD i false):=by
 intro i v s Q E q M;rw[lK] at q;have hi:i<j.length:=(ae.mp q).1;have O:=r.length;rw[Za] at O;have hb:(bs.map V.bl)[i]?=some (.bl (bs.getD i false)):=by
  rw[Zc,Zb,Zf (by omega)];rfl
 obtain⟨u,J,Y⟩:=r.get hb;rw[q] at J;cases J;cases (show v=ip _ from Y);exact fQ M
theorem Zgg {bs:List Bool}:((ac bs.length).any λi=>bs.getD i false)=bs.any id:=by
 have:(ac bs.length).map (λi=>bs.getD i false)=bs:=by
  apply nJ
  ·simp
  ·intro i j q;simp at j;simp[j]
 conv=>rhs;rw[<-this,fk]
 rfl
inductive I_call_any (K:aa) (xs:TV) (H:Hp) (Q:VK):Prop
 |mk (a:Addr) (bs:List Bool):(xs=[.ref a])->(Wx K H a (bs.map V.bl))->(Q (.bl (bs.any id)) H)->I_call_any K xs H Q
theorem ZjD (hc:X.calm=true):YA X (.builtin "any") (_root_.L2.I_call_any X.K):=by
 intro M s σ H xs us Q I r h;obtain⟨a,bs,rfl,hq,q⟩:=h;obtain⟨u,rfl,ru⟩:=vals1 r;cases ru;obtain⟨j,O,p,hz⟩:=I.list hq;have Y:=O.length;rw[Za] at Y;refine call_any_walk (ir p.isList ?_);have J:a≠s.heap.objs.size:=by obtain⟨o,n,e,_⟩:=p;exact ay (Zp e)
 refine⟨s.heap.objs.size,_,_,_,_,_,(λi=>bs.getD i false),rfl,mh (A:=X.A.in1) (I.ok.hd hc) _ a J j.toArray,⟨⟨_,Zo _ rfl,rfl,rfl⟩,p.isList.push _⟩,ZmM O,λh' tk k=>?_⟩;rw[Zh,<-Y,Zgg];refine⟨.bl _,H,I.kept (t':=tk) λb o e=>k b o ?_ (Zn _ e),rfl,q⟩;simpa using ay (Zp e)
theorem JL:(16777216:Nat)=sizeLine:=by decide
theorem JY {k:Nat}(h:k<=16777216:=by first|decide|simp):k<=sizeLine:=JL▸h
theorem UX {H:Hp}{l:Addr}{o:HO}(h:H l=none):∃j,upd H l o=j/\Zv H j/\j l=some o:=⟨_,rfl,Zv.upd h,Zu⟩
theorem UP {bs:TW}{i:Nat}{y:V}(h:(bs.map V.ref)[i]?=some y):∃b,bs[i]?=some b/\y=.ref b:=by
 rw[Zc] at h;cases e:bs[i]? with
 |none=>rw[e] at h;cases h
 |some r=>rw[e] at h;exact⟨r,rfl,(aB h).symm⟩
noncomputable abbrev JV (ns:TZ)(n:Nat):TZ:=firstMet (λi=>ns.getD i 0) n
theorem ZfL:∀{ns:TZ}{us:List Value},ZS (ns.map V.int) us->be us ns
 | [],_,.nil=>.nil
 |n::r,_,.cons h t=>by
  obtain⟨k,rfl⟩:=(show ∃t,_=fG n t from h);exact .cons n k (ZfL t)
inductive I_call_range1 (xs:TV) (H:Hp) (Q:VK):Prop
 |mk (j:Int):(xs=[.int j])->(∀p,H p=none->Q (.ref p) (upd H p (.rng 0 j)))->I_call_range1 xs H Q
theorem V9:YA X (.type "range") _root_.L2.I_call_range1:=by
 intro J s O H Y us Q I r h;obtain⟨j,rfl,q⟩:=h;obtain⟨u,rfl,M⟩:=vals1 r;obtain⟨t,rfl⟩:=M;exact call_range_1 ⟨.ref s.heap.objs.size,_,I.laid (a:=s.heap.objs.size) (o:=.rng 0 j) (λb o e=>Zn _ e) (Zq _) ⟨_,_,_,Zo _ rfl⟩,rfl,q _ (I.hok.fresh (Zq _))⟩
def Y6 (lo:Int)(n:Nat):TZ:=(ac n).map λi:Nat=>lo+(i:Int)
theorem ZcT {lo:Int}{n i:Nat}(h:i<n):(Y6 lo n)[i]?=some (lo+i):=by unfold Y6;rw[Zc,ah h];rfl
theorem Z7 {lo:Int}{n:Nat}:(Y6 lo n).length=n:=by unfold Y6;rw[Za,Zg]
theorem ZaH {lo:Int}{n:Nat}{ZJ:Array Value}(h:iu (λi v=>∃t,v=.int (lo+i*1) t) ZJ n):ZS ((Y6 lo n).map V.int) ZJ.toList:=by
 have go:∀(l:List Value) (k:Nat),(∀(j:Nat) v,l[j]?=some v->∃t,v=.int (lo+((k+j:Nat):Int)) t)->ZS (((dA k l.length).map λi:Nat=>lo+(i:Int)).map V.int) l:=by
  intro l;induction l with
  |nil=>intro k _;exact .nil
  |cons x r M=>
   intro k J;rw[Zi,eE];refine .cons ?_ (M (k+1) λj v q=>?_)
   ·obtain⟨t,e⟩:=J 0 x rfl
    exact⟨t,e⟩
   ·obtain⟨t,e⟩:=J (j+1) v q
    exact⟨t,by rw[e];congr 2;omega⟩
 have e:=go ZJ.toList 0 λj v q=>by
  rw[cQ] at q;obtain⟨t,e⟩:=h.2 j v q;exact⟨t,by rw[e];congr 1 <;> omega⟩
 rw[Zr,h.1] at e;unfold Y6;rw[eh];exact e
inductive I_call_list_rng (xs:TV) (H:Hp) (Q:VK):Prop
 |mk (a:Addr) (lo hi:Int):(xs=[.ref a])->(H a=some (.rng lo hi))->((-(2 ^ 62)<=lo/\lo<2 ^ 62/\-(2 ^ 62)<=hi/\hi<2 ^ 62))->((hi-lo).toNat<=sizeLine)->(∀l,H l=none->Q (.ref l) (upd H l (.lst ((Y6 lo (hi-lo).toNat).map V.int))))->I_call_list_rng xs H Q
theorem ZaD (O:X.calm=true):YA X (.type "list") _root_.L2.I_call_list_rng:=by
 intro J s σ H xs us Q I r h;obtain⟨a,lo,hi,rfl,Y,⟨b1,b2,b3,b4⟩,M,q⟩:=h;obtain⟨u,rfl,ru⟩:=vals1 r;cases ru;obtain⟨t,u,v,e⟩:=(show ∃t u v,s.heap.get? a=some {cls:=.type "range",data:=.fields #[.int lo t,.int hi u,.int 1 v]} from I.hok a _ Y);refine call_list_range (n:=(hi-lo).toNat) (I.ok.hd O) e (small_one b1 b2 b3 b4) (by rw[md];split <;> omega) M λh' tk ZJ c' hk hl j=>?_
 exact⟨.ref _,_,I.laid (a:=s.heap.objs.size) (o:=.lst ((Y6 lo (hi-lo).toNat).map V.int)) (t':=tk) hk (Zq _) ⟨by rw[Za,Z7];exact M,ZJ.toList,c',ZaH j,by simpa using hl⟩,rfl,q _ (I.hok.fresh (Zq _))⟩
def Jq:List Str->Bool
 | []=>true
 |x::r=>!(r.contains x) && Jq r
theorem Z9:∀{l:List Str},Jq l=true->l.Nodup
 | [],_=>eA
 |x::r,h=>by
  unfold Jq at h;simp only[ag,dX] at h;refine bS.mpr ⟨λz=>?_,Z9 h.2⟩;have:=aA.mpr z;rw[h.1] at this;cases this
def ZaZ (j:cU)(x:Str):Bool:=match j.names.lookup x with
 |some .local=>true
 |some .cell=>true
 |_=>false
theorem YY {j:cU}{x:Str}(h:ZaZ j x=true):Loc j x:=by
 unfold ZaZ at h;split at h
 ·rename_i e;exact .inl e
 ·rename_i e;exact .inr e
 ·cases h
def JS (j:cU)(x:Str):Bool:=match j.names.lookup x with
 |some .local=>true
 |_=>false
theorem Wb {j:cU}{x:Str}(h:JS j x=true):j.names.lookup x=some .local:=by
 unfold JS at h;split at h
 ·rename_i e;exact e
 ·cases h
def ZiZ (j:cU)(x:Str):Bool:=match j.names.lookup x with
 |some .local=>true
 |some .cell=>true
 |some .free=>true
 |_=>false
theorem ZiY {j:cU}{x:Str}(h:ZiZ j x=true):Vis j x:=by
 unfold ZiZ at h;split at h
 ·rename_i e;exact .inl e
 ·rename_i e;exact .inr (.inl e)
 ·rename_i e;exact .inr (.inr e)
 ·cases h
def Y8 (j:cU)(x:Str):Bool:=match j.names.lookup x with
 |some .globalImplicit=>true
 |_=>false
def WA:Expr->Bool
 | .Starred _ _=>false
 |_=>true
theorem Jy {e:Expr}{j:List Expr}{env:Env}(h:WA e=true):starEach (e::j) env=(false,eval e env)::starEach j env:=by cases e <;> first|rfl|cases h
def XA:List Expr->Bool
 | []=>true
 |e::r=>WA e && XA r
theorem Ji {env:Env}{pos:Pos}:∀{j:List Expr},XA j=true->(backTo pos (starEach j env)).any (·.1)=false
 | [],_=>rfl
 |e::r,h=>by
  unfold XA at h;rw[ag] at h;rw[Jy h.1];exact Ji h.2
theorem pc {e:Expr}{j:List Expr}{q:TE}{t:TA}(J:PE X e q)(M:PA X j t)(O:WA e=true:=by rfl):PA X (e::j) (Uy q t):=ZkQ J M (Jy O)
theorem Xh {x:Str}(h:Y8 X.env.scope x=true):Gl X x:=by
 unfold Y8 at h;split at h
 ·rename_i e;exact e
 ·cases h
theorem vn (i:Nat){x:Str}{pos:Pos}(q:X.N[i]?=some x:=by rfl)(J:ZiZ X.env.scope x=true:=by kernel_rfl)(M:(x == ("__debug__":Str))=false:=by kernel_rfl)(j:(x == ("__classdict__":Str))=false:=by kernel_rfl) :
  PE X (.Name x pos) (ZmP i):=Znl q (ZiY J) M j
theorem gn (i:Nat){x:Str}{pos:Pos}(q:X.N[i]?=some x:=by rfl)(J:Jq X.N=true:=by kernel_rfl)(j:JS X.env.scope x=true:=by kernel_rfl):PG X (.Name x pos) (Yj i):=
 Zft (Z9 J) q (.inl (Wb j)) (.inr (Wb j))
theorem gnf (i:Nat){x:Str}{pos:Pos}(j:X.fn x=true)(q:X.N[i]?=some x:=by rfl)(J:Jq X.N=true:=by kernel_rfl)(M:ZaZ X.env.scope x=true:=by kernel_rfl):PG X (.Name x pos) (Yj i):=
 Zft (Z9 J) q (YY M) (.inl j)
theorem ZG (i:Nat){x:Str}{e:Expr}{q:TE}{pos j:Pos}(J:X.fn x=true)(M:PE X e q)(O:X.N[i]?=some x:=by rfl)(Y:Jq X.N=true:=by kernel_rfl)(hx:ZaZ X.env.scope x=true:=by kernel_rfl)
  (hs:swapsWith e (some (.Name x j)) pos.line X.env=pure false:=by rfl):PS X (.Assign [.Name x j] e pos) (ZdU q (Yj i)):=
 Znc (Z9 Y) O (YY hx) M hs (.inl J)
theorem cb {x:Str}{id:String}{r:TV->Hp->VK->Prop}{e:Expr}{j:List Expr}{t:TA}{p pos:Pos}(J:YA X (.builtin id) r)(M:X.mg x=none)(O:PA X (e::j) t)(Y:Y8 X.env.scope x=true:=by kernel_rfl)(hv:bootBuiltins x=some (.builtin id):=by kernel_rfl)
  (hn:x ≠ "__name__":=by decide) (hd:(x == ("__debug__":Str))=false:=by kernel_rfl) (he:WA e=true:=by rfl) (q:XA j=true:=by rfl) :
  PE X (.Call (.Name x p) (e::j) [] pos) (tCB r t):=Zim J (Xh Y) M hv O hn hd (Jy he) (Ji q)
theorem ct {x:Str}{T:String}{r:TV->Hp->VK->Prop}{e:Expr}{j:List Expr}{t:TA}{p pos:Pos}(J:YA X (.type T) r)(M:X.mg x=none)(O:PA X (e::j) t)(Y:Y8 X.env.scope x=true:=by kernel_rfl)(hv:bootBuiltins x=some (.type T):=by kernel_rfl)
  (hn:x ≠ "__name__":=by decide) (hd:(x == ("__debug__":Str))=false:=by kernel_rfl) (he:WA e=true:=by rfl) (q:XA j=true:=by rfl) :
  PE X (.Call (.Name x p) (e::j) [] pos) (tCB r t):=Zgm J (Xh Y) M hv O hn hd (Jy he) (Ji q)
theorem tyv (T:String){x:Str}{pos:Pos}(j:X.mg x=none)(q:Y8 X.env.scope x=true:=by kernel_rfl)(J:bootBuiltins x=some (.type T):=by kernel_rfl)(M:x ≠ "__name__":=by decide)(O:(x == ("__debug__":Str))=false:=by kernel_rfl) :
  PE X (.Name x pos) (tC (.ty T)):=ZkL (Xh q) j J rfl M O
theorem WG {q a:Expr}{j:TA}{p pos:Pos}(J:X.mg "range"=none)(M:PA X [a] j)(O:Y8 X.env.scope "range"=true:=by kernel_rfl)(Y:starEach [a] X.env=[(false,eval a X.env)]:=by rfl):PI X q (.Call (.Name "range" p) [a] [] pos) (Zmt j):=Zgl (Xh O) J M Y
theorem ZhZ {J a b:Expr}{q:TA}{p pos:Pos}(M:X.mg "range"=none)(O:PA X [a,b] q)(Y:Y8 X.env.scope "range"=true:=by kernel_rfl)(hs:starEach [a,b] X.env=[(false,eval a X.env),(false,eval b X.env)]:=by rfl)(j:starEach [b] X.env=[(false,eval b X.env)]:=by rfl) :
  PI X J (.Call (.Name "range" p) [a,b] [] pos) (Zms q):=Zgk (Xh Y) M O hs j
def Fn (P:Program)(w:World)(K:aa)(j:TX)(base:Heap)(CX:CXT)(k:Nat)(x:Str)(q:List Str)(sp:Sp):Prop:=
 ∃f J,Z4 P w K j base CX k f J q sp/\j x=some (.ref f)/\dW K (.ref f)=true/\Binds K J q []
theorem Wn {CX:CXT}{k j:Nat}{x:Str}{M:List Str}{sp:Sp}{E:XK}{e:Expr}{q:List Expr}{t:TA}{p pos:Pos}(G:Fn X.prog X.w X.K X.mg X.base CX k x M sp)(O:JI j X.A)(Y:Zcu CX X E)(ha:PA X (e::q) t)(hk:k<=j:=by decide)
  (hg:Y8 X.env.scope x=true:=by kernel_rfl) (hd:(x == ("__debug__":Str))=false:=by kernel_rfl) (he:WA e=true:=by rfl) (J:XA q=true:=by rfl) :
  PE X (.Call (.Name x p) (e::q) [] pos) (Zl8 sp [] E t):=by
 obtain⟨f,fd,F,hm,kp,b⟩:=G;exact ZkK F (O.mono hk) (Xh hg) hm kp b .nil Y ha hd (Jy he) (Ji J)
theorem Fn.mk {P:Program}{w:World}{K:aa}{mg:TX}{base h:Heap}{CX:CXT}{k:Nat}{x:Str}{J:List Str}{sp:Sp}{st:Stmt}{f:Addr}{Y:Value}{od M:Option Addr}{O:Array (Option Value)}{kV q pm j ct:Value}(X:K.In h)(G:h.Ns mainGlobals mg)
  (a:bo K mainGlobals x=some (some (.ref f))) (l:K.lookup f=some ⟨Y,od,.func (cy x x (WE st) (Ws st) (Z0 st) .none kV q pm M j ct),O⟩) (c:e8 K j x=true) (kp:dW K (.ref f)=true)
  (hok:∀fd,WB K x x st f fd->Z4 P w K mg base CX k f fd J sp)
  (hb:∀(kV q pm:Value) (M:Option Addr) (j ct:Value) (us:List Value),us.length=J.length->bindArgs (cy x x (WE st) (Ws st) (Z0 st) .none kV q pm M j ct) ⟨us,[]⟩=pure (J.zip us)) :
  Fn P w K mg base CX k x J sp:=
 ⟨f,_,hok _ (ZeH l c kp),nv X G a,kp,(ZeH l c kp).binds hb⟩
def ZnY (n T:String):Bool:=n == T || (n == "bool" && T == "int")
def ZeB:List String:=["NoneType", "bool", "int", "str", "list", "tuple", "dict"]
theorem Zrg {K:aa}{n T:String}(j:n∈ZeB)(q:T∈["int", "bool", "tuple", "list", "str"]):jM K (.type n) (.type T)=some (ZnY n T):=by
 simp only[ZeB,aF,aQ,db,or_false] at j q;rcases j with rfl|rfl|rfl|rfl|rfl|rfl|rfl <;> rcases q with rfl|rfl|rfl|rfl|rfl <;> kernel_rfl
def Kd (K:aa)(H:Hp)(x:V)(n:String):Prop:=VA K H x (.type n)/\n∈ZeB
inductive Zm8 (K:aa) (T:String) (xs:TV) (H:Hp) (Q:VK):Prop
 |mk (x:_) (n:_):(xs=[x,.ty T])->(Kd K H x n)->(Q (.bl (ZnY n T)) H)->Zm8 K T xs H Q
theorem ZjC {X:Cx}{T:String}(J:T∈["int", "bool", "tuple", "list", "str"]):YA X (.builtin "isinstance") (Zm8 X.K T):=by
 intro j s M H xs O Q I r h;obtain⟨x,n,rfl,⟨ty,Y⟩,q⟩:=h;refine ZjB j s M H _ O Q I r ⟨x,.ty T,.type n,ZnY n T,rfl,ty,λcv rc=>?_,q⟩;cases (show cv=bW T from rc);exact Zrg Y J
theorem JE (K:aa)(j:X.K=K:=by rfl):IxR X (Zm6 K):=j▸ZnW
theorem WU (K:aa)(j:X.K=K:=by rfl):IxR X (Zm7 K):=j▸Zls
theorem ZiX (K:aa)(T:String)(j:T∈["int", "bool", "tuple", "list", "str"]:=by decide)(q:X.K=K:=by rfl):YA X (.builtin "isinstance") (Zm8 K T):=q▸ZjC j
theorem Zrb (K:aa)(j:X.K=K:=by rfl):VC X (compareOp .NotIn) (rIn K true):=j▸ZbL
noncomputable abbrev Zq2 (K:aa):TV->Hp->VK->Prop:=_root_.L2.I_call_len_seq K
theorem Ym (K:aa)(j:X.K=K:=by rfl):YA X (.builtin "len") (Zq2 K):=j▸Zcm
theorem itT (K:aa){q l:Expr}{j:TE}(J:PE X l j)(M:X.K=K:=by rfl):PI X q l (ZpA K j):=M▸Zni J
theorem itL (K:aa){q l:Expr}{j:TE}(J:PE X l j)(M:X.K=K:=by rfl):PI X q l (Zmu K j):=M▸ZkE J
def Zce (N:List Str)(M:cU)(O:List Str)(q:T7)(Y:List Str)(J:cU):Bool:=
 (J.kind == .function) && Jq (J.names.map (·.1)) && J.names.all (λy=>y.2 != .local || JS J y.1) && Jq Y && decide (Y=O++q.map λj=>N.getD j "") &&
  q.all (λj=>decide (j<N.length) && (match J.names.lookup (N.getD j "") with|some .free=>true|_=>false)) &&
  J.names.all (λy=>y.2 != .free || (match M.names.lookup y.1 with|some .cell=>true|some .free=>true|_=>false))
theorem JK.of {N:List Str}{M:cU}{own:List Str}{J:T7}{Y:List Str}{sc:cU}(h:Zce N M own J Y sc=true):JK N M own J Y sc:=by
 unfold Zce at h;simp only[ag,aD,decide_eq_true_eq,beq_iff_eq,bne_iff_ne,ne_eq,bh] at h;obtain⟨⟨⟨⟨⟨⟨h1,h2⟩,h3⟩,h4⟩,h5⟩,h6⟩,h7⟩:=h;refine⟨h1,Z9 h2,λy O e=>?_,Z9 h4,h5,λj hj=>⟨(h6 j hj).1,?_⟩,λy O e=>?_⟩
 ·rcases h3 y O with z|z
  ·exact absurd e z
  ·exact Wb z
 ·have:=(h6 j hj).2
  split at this
  ·rename_i z;exact z
  ·cases this
 ·rcases h7 y O with z|z
  ·exact absurd e z
  ·split at z
   ·rename_i q;exact .inl q
   ·rename_i q;exact .inr q
   ·cases z
theorem cmp {X:Cx}(q:List Str)(j:T7)(M:List Str){scope:cU}{elt iter O:Expr}{ifs:List Expr}{pos:Pos}{Y:TI}{g:TG}{tc:TT}{te:TE}(hc:X.calm=true)(hi:PI X O iter Y)
  (hg:∀J C s H ex,PG (Y9 X scope J M C s H ex) O g) (ht:∀J C s H ex,PIf (Y9 X scope J M C s H ex) ifs tc) (he:∀J C s H ex,PE (Y9 X scope J M C s H ex) elt te)
  (hS:Zce X.N X.env.scope q j M scope=true:=by kernel_rfl) (hs:∀x,foldedSetIterable iter X.env x=pure x:=by intro _;rfl) :
  PE X (.ListComp elt [⟨O,iter,ifs,0⟩] scope pos) (Ze2 q j Y g tc te):=ZkJ rfl (.of hS) hc hi hg ht he hs
theorem Yh {c:TT}{tb:TS}{D:WZ}{σ:St}{H:Hp}(Pv:Nat->St->Hp->Prop)(q:St->Hp->Prop)(hend:∀ σ H,q σ H->D.nx σ H)(h0:∃m,Pv m σ H)
  (turn:(∀ σ H,q σ H->D.nx σ H)->∀m σ H,Pv m σ H->c σ H λb J=>if b=true then ∃N:St->Hp->Prop,(∀ j M,N j M->∃O,O<m/\Pv O j M)/\tb (D.lp N) σ J else D.nx σ J) :
  Zho c tb D σ H:=⟨Pv,h0,turn hend⟩
structure WN (J:It)(H:Hp)(xs:TV):Prop where
 go:∀(i:Nat) H',Zv H H'->i<xs.length->J.go i H'
 yld:∀(i:Nat) H' x H2,Zv H H'->i<xs.length->J.yld i H' x H2->H2=H'/\xs[i]?=some x
 stop:∀H',Zv H H'->J.stop xs.length H'
theorem WN.mono {J:It}{H q:Hp}{xs:TV}(s:Zv H q)(S:WN J H xs):WN J q xs:=
 ⟨λi j e=>S.go i j (s.trans e),λi j x M e=>S.yld i j x M (s.trans e),λj e=>S.stop j (s.trans e)⟩
theorem We {K:aa}{H:Hp}{a:Addr}{xs:TV}(h:XQ K H a xs):WN (Itt K a) H xs:=
 ⟨λi j s q=>⟨xs,_,s.tup h,Zf q⟩,λi j x J s _ y=>⟨y.1,y.2 xs (s.tup h)⟩,λj s=>⟨xs,s.tup h,Zq _⟩⟩
theorem YV {K:aa}{H:Hp}{a:Addr}{xs:TV}(h:Wx K H a xs):WN (Itl K a) H xs:=
 ⟨λi j s q=>⟨xs,_,s.seq h,Zf q⟩,λi j x J s _ y=>⟨y.1,y.2 xs (s.seq h)⟩,λj s=>⟨xs,s.seq h,Zq _⟩⟩
theorem Wp {H:Hp}(lo:Int)(n:Nat):WN (Itr lo n) H ((Y6 lo n).map V.int):=by
 have q:((Y6 lo n).map V.int).length=n:=by rw[Za,Z7]
 refine⟨λi J s j=>by rw[q] at j;exact j,λi J x M s j y=>?_,λJ s=>by show n<=_;rw[q];exact Zq _⟩;rw[q] at j;exact⟨y.1,by rw[y.2,Zc,ZcT j];rfl⟩
theorem Zdy {J:It}{own:List Str}{O:T7}{g:TG}{tc:TT}{te:TE}{σ:St}{H:Hp}{Q:VK}{xs:TV}(S:WN J H xs)(cs:St)(n8:J0 own O σ=none::cs)(f:V->TU)(hz:xs.length<=1000000)
  (hs:∀(i:Nat) x v0 j,xs[i]?=some x->Zv H j->∀(R:St->V->Hp->Prop) (R':St->Hp->Prop),(∀v H5,f x=some v->Zv j H5->R (some x::cs) v H5)->(∀Y,f x=none->Zv j Y->R' (some x::cs) Y)->
   g x (v0::cs) j λq H3=>tc q H3 λb Y=>if b=true then te q Y (R q) else R' q Y)
  (hd:∀D j,H D=none->Zv H j->j D=some (.lst (xs.filterMap f))->Q (.ref D) j) :
  Jf own O g tc te σ Q J H:=by
 intro D hD;refine⟨λi m n6 j=>m=xs.length-i/\i<=xs.length/\(∃v0,n6=v0::cs)/\Zv H j/\j D=some (.lst ((xs.take i).filterMap f)),⟨_,rfl,aV _,⟨none,n8⟩,Zv.upd hD,by rw[Zu,fg];rfl⟩,?_⟩;rintro i m n6 j ⟨rfl,hi,⟨v0,rfl⟩,s,hl⟩;by_cases M:i<xs.length
 ·refine .inr ⟨S.go i j s M,_,λo0 H2 z=>z,λx H2 y=>?_⟩
  obtain⟨rfl,hx⟩:=S.yld i j x H2 s M y;have ht:xs.take (i+1)=xs.take i++[x]:=by rw[cW,hx];rfl
  have n9:((xs.take i).filterMap f).length<=i:=aW (List.length_filterMap_le _ _) (by rw[a8];omega);refine hs i x v0 H2 hx s _ _ (λv H5 e s5=>?_) (λY e s4=>?_)
  ·refine⟨_,s5 _ _ hl,?_,xs.length-(i+1),by omega,rfl,M,⟨_,rfl⟩,(s.trans s5).updr hD,?_⟩
   ·have:(16777216:Nat)=sizeLine:=by decide
    omega
   ·rw[Zu,ht,lL,bY,e];rfl
  ·refine⟨xs.length-(i+1),by omega,rfl,M,⟨_,rfl⟩,s.trans s4,?_⟩
   rw[s4 _ _ hl,ht,lL,bY,e];simp
 ·have e:i=xs.length:=by omega
  subst e;refine .inl ⟨S.stop j s,hd D j hD s ?_⟩;rw[hl,c8]
theorem WV {J:It}{g:TG}{tb:TS}{D:WZ}{σ:St}{H0 H:Hp}{xs:TV}(S:WN J H0 xs)(Pv:Nat->St->Hp->Prop)(h0:Pv 0 σ H)(hS:∀i σ H,Pv i σ H->Zv H0 H)
  (hs:∀(i:Nat) x σ H,xs[i]?=some x->Pv i σ H->g x σ H λq Y=>tb (D.lp (Pv (i+1))) q Y) (hd:∀ σ H,Pv xs.length σ H->D.nx σ H) :
  ∃W:Nat->Nat->St->Hp->Prop,(∃m,W 0 m σ H)/\∀i m σ H,W i m σ H->
   (J.stop i H/\D.nx σ H)\/(J.go i H/\∃N:St->Hp->Prop,(∀ M j,N M j->∃m',m'<m/\W (i+1) m' M j)/\∀x j,J.yld i H x j->g x σ j λq Y=>tb (D.lp N) q Y):=by
 refine⟨λi m σ H=>m=xs.length-i/\i<=xs.length/\Pv i σ H,⟨_,rfl,aV _,h0⟩,?_⟩;rintro i m σ H ⟨rfl,hi,p⟩;have s:=hS i σ H p;by_cases O:i<xs.length
 ·refine .inr ⟨S.go i H s O,Pv (i+1),λM j p'=>⟨xs.length-(i+1),by omega,rfl,O,p'⟩,λx j y=>?_⟩
  obtain⟨rfl,hx⟩:=S.yld i H x j s O y;exact hs i x σ _ hx p
 ·have e:i=xs.length:=by omega
  subst e;exact .inl ⟨S.stop H s,hd σ H p⟩
theorem tT {A B:Hp->Prop}{σ:St}{H:Hp}(h:A H):WR σ H λb j=>if b=true then A j else B j:=by
 show if true=true then A H else B H
 rw[if_pos rfl];exact h
theorem ZfO {α j:Type}(g:α->j):∀xs:List α,xs.filterMap (λy=>some (g y))=xs.map g
 | []=>rfl
 |x::r=>by rw[bY,aG,ZfO g r]
theorem Zmy {α j:Type}(p:α->Bool)(g:α->j):∀xs:List α,xs.filterMap (λy=>if p y=true then some (g y) else none)=(xs.filter p).map g
 | []=>rfl
 |x::r=>by
  rw[bY,jF,Zmy p g r];by_cases h:p x=true
  ·rw[if_pos h,if_pos h];rfl
  ·rw[if_neg h,if_neg h]
theorem Zri {c A B:Prop} [Decidable c](j:¬c)(h:B):if c then A else B:=by rw[if_neg j];exact h
theorem JG {J:It}{own:List Str}{M:T7}{O:TE}{σ:St}{H:Hp}{Q:VK}{xs:TV}(S:WN J H xs)(q:St)(n6:J0 own M σ=none::q)(f:V->V)(hz:xs.length<=1000000)
  (hs:∀(i:Nat) x j,xs[i]?=some x->Zv H j->∀R:VK,(∀Y,Zv j Y->R (f x) Y)->O (some x::q) j R)
  (hd:∀D j,H D=none->Zv H j->j D=some (.lst (xs.map f))->Q (.ref D) j):Jf own M (Yj 0) WR O σ Q J H:=by
 refine Zdy S q n6 (λx=>some (f x)) hz (λi x v0 j hx s R R' h1 h2=>?_) λD j hD s hl=>hd D j hD s (by rw[hl,ZfO]);show WR (some x::q) j λb H4=>if b=true then O (some x::q) H4 (R (some x::q)) else R' (some x::q) H4
 exact tT (A:=λH4=>O (some x::q) H4 (R (some x::q))) (hs i x j hx s _ λY s5=>h1 _ Y rfl s5)
theorem ZgX {J:It}{own:List Str}{q:T7}{tc:TT}{te:TE}{σ:St}{H:Hp}{Q:VK}{xs:TV}(S:WN J H xs)(O:St)(n6:J0 own q σ=none::O)(p:V->Bool)(f:V->V)(hz:xs.length<=1000000)
  (hs:∀(i:Nat) x j,xs[i]?=some x->Zv H j->∀(R:VK) (Y:Hp->Prop),(p x=true->∀H5,Zv j H5->R (f x) H5)->(p x=false->∀M,Zv j M->Y M)->tc (some x::O) j λb M=>if b=true then te (some x::O) M R else Y M)
  (hd:∀D j,H D=none->Zv H j->j D=some (.lst ((xs.filter p).map f))->Q (.ref D) j):Jf own q (Yj 0) tc te σ Q J H:=by
 refine Zdy S O n6 (λx=>if p x=true then some (f x) else none) hz (λi x v0 j hx s R Y h1 h2=>?_) λD j hD s hl=>hd D j hD s (by rw[hl,Zmy])
 exact hs i x j hx s (R (some x::O)) (Y (some x::O)) (λe H5 s5=>h1 _ H5 (by rw[if_pos e]) s5) λe M s4=>h2 M (by rw[if_neg (by rw[e];decide)]) s4
theorem Vj:∀{ns:TZ},(∀n∈ns,n.natAbs<2 ^ 200)->eV (ns.map aP)=true/\gJ (ns.map aP)=false/\bx (ns.map aP)=0/\dM 300 (ns.map aP)=true/\iI (ns.map aP)=ns.length/\bX (ns.map aP)=true
 | [],_=>⟨rfl,rfl,rfl,rfl,rfl,rfl⟩
 |n::r,h=>by
  obtain⟨Y,M,h3,h4,h5,h6⟩:=Vj (ns:=r) λm hm=>h m (ao _ hm);have O:=h n ar;have j:n.natAbs.log2<1920:=by
   by_cases q:n.natAbs=0
   ·rw[q];decide +kernel
   ·have:=(Nat.log2_lt q).mpr O
    omega
  have J:(gf (.int n)).length<=300:=by
   have M:n.natAbs.log2<200:=by
    by_cases q:n.natAbs=0
    ·rw[q];decide +kernel
    ·exact (Nat.log2_lt q).mpr O
   have:=int_text_length_le (k:=200) (by decide) M;simp only[gf];rw[PySem.ofString_length];omega
  refine⟨?_,?_,?_,?_,?_,?_⟩
  ·simp only[aG,eV,jD,Y,dS,decide_eq_true_eq];exact j
  ·simp only[aG,gJ,ny,M,fV]
  ·simp only[aG,bx,cT,h3];rfl
  ·simp only[aG,dM,lT,h4,dS,decide_eq_true_eq];exact J
  ·simp only[aG,iI,PyData.bulk,h5,Zi];omega
  ·simp only[aG,bX,gy,h6,dS]
def ZB (K:aa)(x:Str)(st:Stmt):Prop:=
 ∃(f:Addr) (M:Value) (O Y:Option Addr) (q:Array (Option Value)) (kV J pm j ct:Value),bo K mainGlobals x=some (some (.ref f))/\
  K.lookup f=some ⟨M,O,.func (cy x x (WE st) (Ws st) (Z0 st) .none kV J pm Y j ct),q⟩/\e8 K j x=true/\dW K (.ref f)=true
theorem ZB.mk {K:aa}{x:Str}{st:Stmt}{f:Addr}{J:Value}{M an:Option Addr}{q:Array (Option Value)}{kV doc pm j ct:Value}(a:bo K mainGlobals x=some (some (.ref f)))
  (l:K.lookup f=some ⟨J,M,.func (cy x x (WE st) (Ws st) (Z0 st) .none kV doc pm an j ct),q⟩) (c:e8 K j x=true) (k:dW K (.ref f)=true):ZB K x st:=
 ⟨f,J,M,an,q,kV,doc,pm,j,ct,a,l,c,k⟩
theorem ZB.fn {P:Program}{w:World}{K:aa}{mg:TX}{base h:Heap}{CX:CXT}{k:Nat}{x:Str}{q:List Str}{sp:Sp}{st:Stmt}(D:ZB K x st)(X:K.In h)(G:h.Ns mainGlobals mg)
  (J:∀f fd,WB K x x st f fd->Z4 P w K mg base CX k f fd q sp)
  (hb:∀(kV doc pm:Value) (an:Option Addr) (j ct:Value) (us:List Value),us.length=q.length->bindArgs (cy x x (WE st) (Ws st) (Z0 st) .none kV doc pm an j ct) ⟨us,[]⟩=pure (q.zip us)) :
  Fn P w K mg base CX k x q sp:=by
 obtain⟨f,O,Y,an,M,kV,doc,pm,j,ct,a,l,c,kp⟩:=D;exact Fn.mk X G a l c kp (λfd F=>J f fd F) hb
theorem ZB.law {P:Program}{w:World}{K:aa}{mg:TX}{h:Heap}{CX:CXT}{k:Nat}{x:Str}{p:Str}{sp:Sp}{st:Stmt}{M:Addr}(D:ZB K x st)(X:K.In h)(G:h.Ns mainGlobals mg)(q:mg x=some (.ref M))
  (J:∀(base:Heap) f fd,base.Ns mainGlobals mg->K.In base->WB K x x st f fd->Z4 P w K mg base CX k f fd [p] sp)
  (hb:∀(kV doc pm:Value) (an:Option Addr) (j ct:Value) (s:Shared) (u:Value),jp s (cy x x (WE st) (Ws st) (Z0 st) .none kV doc pm an j ct) ⟨[u],[]⟩ [(p,u)]) :
  ∃fd:FuncData,(∀(s:Shared) (u:Value),jp s fd ⟨[u],[]⟩ [(p,u)])/\∀base:Heap,K.In base->base.Ns mainGlobals mg->Z4 P w K mg base CX k M fd [p] sp:=by
 obtain⟨f,oc,od,an,O,kV,doc,pm,j,ct,a,l,c,kp⟩:=D;have e:=q.symm.trans (nv X G a);cases e;exact⟨_,λs u=>hb kV doc pm an j ct s u,λbase Y nb=>J base _ _ nb Y (ZeH l c kp)⟩
theorem YH {α:Type} [DecidableEq α]:∀(l j:List α),l.Nodup->(∀a∈l,a∈j)->l.length<=j.length
 | [],_,_,_=>aV _
 |a::r,j,nd,h=>by
  obtain⟨M,O⟩:=bS.mp nd;have J:a∈j:=h a ar;have:=YH r (j.erase a) O λb hb=>by
   have q:b≠a:=λe=>M (e▸hb);exact (lZ q).mpr (h b (ao _ hb))
  rw[List.length_erase_of_mem J] at this;have Y:0<j.length:=kU J;rw[Zi];omega
theorem JC (val:Nat->Int):∀i,(firstMet val i).Nodup
 |0=>eA
 |i+1=>by
  have j:=JC val i;rw[mD];unfold step_dedup;split
  ·exact j
  ·rename_i h
   refine m8.mpr ⟨j,bS.mpr ⟨by simp,eA⟩,?_⟩;intro a q b hb e;rw[aQ.mp hb] at e;apply h
   first
    |exact aY.mpr ⟨a,q,by simp[e]⟩
    |simpa [e] using q
theorem Zfz (val:Nat->Int)(i:Nat)(k:Int):k∈firstMet val i↔∃j,j<i/\val j=k:=by
 have h:=firstMet_any val i k;constructor
 ·intro M
  have:(firstMet val i).any (· == k)=true:=aY.mpr ⟨k,M,by simp⟩;rw[h] at this;obtain⟨x,q,e⟩:=aY.mp this;obtain⟨j,J,rfl⟩:=aE.mp q;exact⟨j,af.mp J,by simpa using e⟩
 ·rintro⟨j,J,rfl⟩
  have:((ac i).map val).any (· == val j)=true:=aY.mpr ⟨val j,aE.mpr ⟨j,af.mpr J,rfl⟩,by simp⟩;rw[<-h] at this;obtain⟨x,q,e⟩:=aY.mp this;have:x=val j:=by simpa using e
  exact this▸q
theorem gT {q:TE}{N:St->Hp->Prop}{J:St->V->Hp->Prop}{x:V}{O:TU}{cs:St}{H:Hp}(h:q (some x::cs) H (J (some x::cs))):Yj 0 x (O::cs) H λj Y=>WR j Y λb M=>if b=true then q j M (J j) else N j M:=by
 show if true=true then q (some x::cs) H (J (some x::cs)) else N (some x::cs) H
 rw[if_pos rfl];exact h
theorem Zaf {J:It}{own:List Str}{q:T7}{te:TE}{σ:St}{H:Hp}{Q:VK}{xs:TV}(G:Addr->Nat->TV->Hp->Prop)(cs:St)(n6:J0 own q σ=none::cs)(hz:xs.length<=1000000)
  (S:∀D i ys j,H D=none->j D=some (.lst ys)->G D i ys j->(i<xs.length->J.go i j/\∀x O,J.yld i j x O->O=j/\xs[i]?=some x)/\(i=xs.length->J.stop i j))
  (h0:∀D,H D=none->G D 0 [] (upd H D (.lst [])))
  (hs:∀D (i:Nat) x ys j,H D=none->j D=some (.lst ys)->xs[i]?=some x->G D i ys j->∀R:VK,(∀v H5,H5 D=some (.lst ys)->G D (i+1) (ys++[v]) (upd H5 D (.lst (ys++[v])))->R v H5)->te (some x::cs) j R)
  (hd:∀D ys j,H D=none->j D=some (.lst ys)->ys.length=xs.length->G D xs.length ys j->Q (.ref D) j):Jf own q (Yj 0) WR te σ Q J H:=by
 intro D hD;refine⟨λi m Y j=>m=xs.length-i/\i<=xs.length/\(∃v0,Y=v0::cs)/\∃ys,j D=some (.lst ys)/\ys.length=i/\G D i ys j,⟨_,rfl,aV _,⟨none,n6⟩,[],Zu,rfl,h0 D hD⟩,?_⟩;rintro i m Y j ⟨rfl,hi,⟨v0,rfl⟩,ys,hl,hy,g⟩;obtain⟨S1,S2⟩:=S D i ys j hD hl g;by_cases M:i<xs.length
 ·refine .inr ⟨(S1 M).1,_,λn8 O z=>z,λx O y=>?_⟩
  obtain⟨rfl,hx⟩:=(S1 M).2 x O y;refine gT ?_;refine hs D i x ys O hD hl hx g _ λv H5 h5 g5=>⟨ys,h5,?_,xs.length-(i+1),by omega,rfl,M,⟨_,rfl⟩,ys++[v],Zu,by rw[Zd];simp[hy],g5⟩;have:(16777216:Nat)=sizeLine:=by decide
  omega
 ·have e:i=xs.length:=by omega
  exact .inl ⟨S2 e,hd D ys j hD hl (by omega) (e▸g)⟩
theorem ZbA {X:Cx}(i:Nat)(J:List Str)(j:T7)(O:List Str){scope:cU}{elt iter Y:Expr}{ifs:List Expr}{pos q py:Pos}{y:Str}{wi:TI}{g:TG}{tc:TT}{te:TE}(hc:X.calm=true)(hf:X.fn y=true)(hi:PI X Y iter wi)
  (hg:∀M C s H ex,PG (Y9 X scope M O C s H ex) Y g) (ht:∀M C s H ex,PIf (Y9 X scope M O C s H ex) ifs tc) (he:∀M C s H ex,PE (Y9 X scope M O C s H ex) elt te)
  (hS:Zce X.N X.env.scope J j O scope=true:=by kernel_rfl) (hy:X.N[i]?=some y:=by rfl) (hN:Jq X.N=true:=by kernel_rfl) (hx:ZaZ X.env.scope y=true:=by kernel_rfl)
  (n6:swapsWith (.ListComp elt [⟨Y,iter,ifs,0⟩] scope pos) (some (.Name y py)) q.line X.env=pure true:=by rfl) (hs:∀x,foldedSetIterable iter X.env x=pure x:=by intro _;rfl) :
  PS X (.Assign [.Name y py] (.ListComp elt [⟨Y,iter,ifs,0⟩] scope pos) q) (ZdU (Ze2 J j wi g tc te) (Yj i)):=Zeq rfl (.of hS) hc hi hg ht he (Z9 hN) hy (YY hx) (.inl hf) n6 hs
inductive Zif (K:aa) (neg:Bool) (x:V) (y:V) (H:Hp) (Q:VK):Prop
 |mk (p:_) (xs:_) (ds:_) (dx:_):(y=.ref p)->((Wx K H p xs\/XQ K H p xs))->(WO K H xs ds)->(RdD K H x dx)->(bX ds=true)->(dx.canLay0=true)->(dx.depth<=60)->(Q (.bl (if neg then !(ds.any λy=>y.eqv dx) else ds.any λy=>y.eqv dx)) H)->Zif K neg x y H Q
theorem Znq (hu:X.A.units+64<cLine):VC X (compareOp .In) (Zif X.K false):=by
 intro Y s σ H x y v u Q I rx ry h;obtain⟨p,xs,ds,dx,rfl,j,hs,hd,M,c2,dp,q⟩:=h;cases ry;obtain⟨bs,r1⟩:=I.reads hd rx;rcases j with j|j
 ·obtain⟨O,r,pl,hz⟩:=I.list j
  obtain⟨as,J⟩:=I.readsAll hs r;refine SeqAt.in_listAt _ pl.isList (fH (by simpa using J) r1 M c2 (by omega)) ⟨.bl _,H,I,rfl,?_⟩;rw[gN (by simpa using J) M];exact q
 ·obtain⟨O,r,pl,hz⟩:=I.tuple j
  obtain⟨as,J⟩:=I.readsAll hs r;refine SeqAt.in_tupleAt _ pl (fH (by simpa using J) r1 M c2 (by omega)) ⟨.bl _,H,I,rfl,?_⟩;rw[gN (by simpa using J) M];exact q
theorem Zgo (hu:X.A.units+64<cLine):VC X (compareOp .NotIn) (Zif X.K true):=by
 intro Y s σ H x y v u Q I rx ry h;obtain⟨p,xs,ds,dx,rfl,j,hs,hd,M,c2,dp,q⟩:=h;cases ry;obtain⟨bs,r1⟩:=I.reads hd rx;rcases j with j|j
 ·obtain⟨O,r,pl,hz⟩:=I.list j
  obtain⟨as,J⟩:=I.readsAll hs r;refine mz _ pl.isList (fH (by simpa using J) r1 M c2 (by omega)) ⟨.bl _,H,I,rfl,?_⟩;rw[gN (by simpa using J) M];exact q
 ·obtain⟨O,r,pl,hz⟩:=I.tuple j
  obtain⟨as,J⟩:=I.readsAll hs r;refine lS _ pl (fH (by simpa using J) r1 M c2 (by omega)) ⟨.bl _,H,I,rfl,?_⟩;rw[gN (by simpa using J) M];exact q
theorem Zrk (K:aa)(j:X.A.units+64<cLine)(q:X.K=K:=by rfl):VC X (compareOp .In) (Zif K false):=q▸Znq j
theorem Zpv (K:aa)(j:X.A.units+64<cLine)(q:X.K=K:=by rfl):VC X (compareOp .NotIn) (Zif K true):=q▸Zgo j
theorem Xn:∀ns:TZ,bX (ns.map aP)=true
 | []=>rfl
 |n::ns=>by
  show (gy (.int n) && bX (ns.map aP))=true;rw[Xn ns];rfl
theorem X6 (ns:TZ):gy (.tuple (ns.map aP))=true:=Xn ns
theorem Jm:∀yss:T8,bX (yss.map λns=>ci (ns.map aP))=true
 | []=>rfl
 |y::yss=>by
  show (gy (.tuple (y.map aP)) && bX (yss.map λns=>ci (ns.map aP)))=true;rw[Jm yss,X6];rfl
theorem Zae:∀ns:TZ,bx (ns.map aP)<=1
 | []=>by decide
 |n::ns=>by
  have:=Zae ns;show max (cT (.int n)) (bx (ns.map aP))<=1;have e:cT (.int n)<=1:=by simp[cT]
  omega
end L2
namespace L2
open PySem
theorem Za2 (ns:TZ):cT (.tuple (ns.map aP))<=60:=by
 have:=Zae ns;show bx (ns.map aP)+1<=60;omega
end L2
namespace L2
open PySem PySem.Spec PyProof.Rows
inductive ZbG (x:V) (vs:TV) (H:Hp) (Q:VK):Prop
 |mk (l:_) (xs:_) (y:_) (k:Nat):(x=.ref l)->(vs=[.int k,y])->(H l=some (.lst xs))->(k<=xs.length)->(fN (k:Int)=true)->(xs.length<sizeLine)->(Q .non (upd H l (.lst (xs.take k++y::xs.drop k))))->ZbG x vs H Q
theorem ZgB:MtM X "list.insert" ZbG:=by
 intro n8 s σ H x vs v us Q I rx rv h;obtain⟨l,xs,y,k,rfl,rfl,hH,hk,hf,hz,q⟩:=h;cases rx;obtain⟨O,J,rfl,r1,Y⟩:∃O J,us=O::J/\RelV (.int (k:Int)) O/\ZS [y] J:=by
  cases rv with
  |cons r1 Y=>exact⟨_,_,rfl,r1,Y⟩
 obtain⟨u2,rfl,r2⟩:=Y.one;obtain⟨tk,rfl⟩:=r1;obtain⟨z,j,n,r,hl,e⟩:=I.lstM hH;have n9:=r.length;have h1:¬(!fN (k:Int))=true:=by rw[hf];exact aH
 have h2:j.toArray.size<=sizeLine:=by rw[Zh];omega
 have hm:=@PySem.AutoListH.list_insert_list_int_val_1 l j.toArray n (k:Int) tk u2 h1 h2;have ha:=F.args_list_insert_3 (.ref l) (.int (k:Int) tk) u2;have hT:s.TypeIs (.ref l) "list":=⟨_,e,rfl⟩;have M:=F.entry_list_insert;have n6:=lz;generalize hB:cK.«list.insert»=B at hm M;refine eR n6 hT M ha hm ⟨e,?_⟩;refine⟨.non,_,I.lset (its':=j.take k++u2::j.drop k) hH e ?_ ((r.take k).append (.cons r2 (r.drop k))) ?_,rfl,q⟩
 ·have e1:¬((k:Int)<0):=by omega
  simp only[if_neg e1];have e2:min ((k:Int).toNat) j.toArray.size=k:=by rw[Zj,Zh];omega
  rw[e2];simp;exact iz (by rw[bH];exact Zq _)
 ·rw[Zd,Zi,a8,bH]
  omega
inductive I_call_sumL (K:aa) (xs:TV) (H:Hp) (Q:VK):Prop
 |mk (a:Addr) (ns:TZ):(xs=[.ref a])->(Wx K H a (ns.map V.int))->(Q (.int ns.sum) H)->I_call_sumL K xs H Q
theorem Zg1 (hc:X.calm=true):YA X (.builtin "sum") (_root_.L2.I_call_sumL X.K):=by
 intro O s σ H j us Q I r h;obtain⟨a,ns,rfl,hq,q⟩:=h;obtain⟨u,rfl,ru⟩:=vals1 r;cases ru;obtain⟨J,rv,p,hz⟩:=I.list hq;have Y:be J ns:=intsAre_of rv;obtain⟨j,hx⟩:=Y.allInts.items;have M:s.heap.IsList a (intItems j):=hx▸p.isList;refine sum_intListG (I.ok.hd hc) M λh' tk t' hk=>?_;have e1:ns=j.toList.map (·.1):=by
  rw[<-nums_intItems,<-hx];exact (show numsOf J.toArray.toList=ns from Y.numsOf).symm
 have e2:preSum (numAt j) j.size=ns.sum:=by
  rw[preSum_eq,iz (by simp),e1]
 rw[e2];exact⟨.int _,H,I.kept (t':=tk) hk,⟨_,rfl⟩,q⟩
theorem sumK (K:aa)(j:X.calm=true)(q:X.K=K:=by rfl):YA X (.builtin "sum") (_root_.L2.I_call_sumL K):=q▸Zg1 j
end L2
namespace HT
open PySem PyProof.Rows
end HT
namespace L2
open PySem PySem.Spec PyProof.Rows
section
variable {e:Expr}{te ts:TE}{st:Expr}{pos p2:Pos}
end
end L2
namespace HT
open PySem PyProof.Rows
end HT
namespace L2
open PySem PySem.Spec PyProof.Rows
end L2
namespace PyS
open PySem PySem.SetTable
def VS (p:Array Nat):Prop:=p.toList.Pairwise (· < ·)
theorem VS.lt {p:Array Nat}(h:VS p){i j:Nat}{x y:Nat}(q:i<j)(J:p[i]?=some x)(M:p[j]?=some y):x<y:=by
 rw[<-cQ] at J M;obtain⟨O,rfl⟩:=ae.mp J;obtain⟨Y,rfl⟩:=ae.mp M;exact ki.mp h i j O Y q
structure ZeU (p:Array Nat)(j k:Nat):Prop where
 le:k<=p.size
 lo:∀i x,i<k->p[i]?=some x->x<j
 hi:∀i x,k<=i->p[i]?=some x->j<=x
theorem ZeE {p:Array Nat}(h:VS p)(j:Nat):∀(q lo hi:Nat),lo<=hi->hi<=p.size->hi-lo<=q->(∀i x,i<lo->p[i]?=some x->x<j)->(∀i x,hi<=i->p[i]?=some x->j<=x)->ZeU p j (below.go p j q lo hi)
 |0,lo,hi,h1,O,h3,Y,h5=>by
  have:lo=hi:=by omega
  subst this;exact⟨O,Y,h5⟩
 |q+1,lo,hi,h1,O,h3,Y,h5=>by
  unfold below.go;by_cases J:lo<hi
  ·rw[if_pos J]
   try dsimp only
   have hm:(lo+hi) / 2<p.size:=by omega
   have M:p[(lo+hi) / 2]?=some p[(lo+hi) / 2]:=aM hm;have eg:p.getD ((lo+hi) / 2) j=p[(lo+hi) / 2]:=by rw[cJ,M];rfl
   rw[eg];by_cases hc:p[(lo+hi) / 2]<j
   ·rw[if_pos hc]
    refine ZeE h j q _ _ (by omega) O (by omega) (λi x n6 e=>?_) h5;by_cases e1:i=(lo+hi) / 2
    ·subst e1
     rw[M] at e;cases e;exact hc
    ·exact jA (h.lt (by omega) e M) hc
   ·rw[if_neg hc]
    refine ZeE h j q _ _ (by omega) (by omega) (by omega) Y λi x n6 e=>?_;by_cases e1:i=(lo+hi) / 2
    ·subst e1
     rw[M] at e;cases e;omega
    ·have:=h.lt (by omega) M e
     omega
  ·rw[if_neg J]
   have:lo=hi:=by omega
   subst this;exact⟨O,Y,h5⟩
theorem Zbb {p:Array Nat}(h:VS p)(j:Nat):ZeU p j (below p j):=ZeE h j _ _ _ (aV _) (Zq _) (by omega) (λi x q=>absurd q (dP _)) (λi x q e=>by
 rw[cI q] at e;cases e)
theorem ZeU.uniq {p:Array Nat}{j k q:Nat}(a:ZeU p j k)(b:ZeU p j q):k=q:=by
 have J:∀{k q:Nat},ZeU p j k->ZeU p j q->¬k<q:=λ{k q} a b M=>by
  have O:k<p.size:=aC M b.le;have e:p[k]?=some p[k]:=aM O;have Y:=b.lo k _ M e;have h2:=a.hi k _ (Zq _) e;omega
 have:=J a b;have:=J b a;omega
theorem VS.insert {p:Array Nat}(h:VS p){j:Nat}(M:p[below p j]?≠some j):VS (insertAt p (below p j) j):=by
 have c:=Zbb h j;generalize below p j=k at c M;unfold VS;rw[toList_insertAt];have O:∀y∈p.toList.take k,y<j:=λy q=>by
  obtain⟨i,hi,rfl⟩:=List.mem_take_iff_getElem.mp q;have:i<p.size:=by rw[<-Zr];omega
  exact c.lo i _ (by omega) (by rw[aM this];simp)
 have Y:∀y∈p.toList.drop k,j<y:=λy q=>by
  obtain⟨i,hi,rfl⟩:=List.mem_drop_iff_getElem.mp q;have J:k+i<p.size:=by rw[Zr] at hi;omega
  have h1:=c.hi (k+i) p[k+i] (by omega) (by rw[aM J]);have h2:p[k+i]≠j:=λz=>by
   by_cases e:i=0
   ·subst e
    exact M (by rw[<-z];exact aM (by simpa using J))
   ·have hk:k<p.size:=by omega
    have h3:=h.lt (i:=k) (j:=k+i) (by omega) (aM hk) (aM J);have h4:=c.hi k _ (Zq _) (aM hk);omega
  show j<p.toList[k+i];rw[Array.getElem_toList];omega
 rw[iK];refine⟨c7 (jq k _) h,?_,λa ha b hb=>?_⟩
 ·rw[mO]
  exact⟨Y,c7 (List.drop_sublist k _) h⟩
 ·rcases aF.mp hb with hb|hb
  ·rw[hb];exact O a ha
  ·exact jA (O a ha) (Y b hb)
theorem VY {t:SetTable}(Y:t.dummies=#[]){hashAt:Nat->Int}{h:Int}:∀(q:Nat) (p:Probe),p.dummy=none->∀{j:Nat}{d:Option Nat},probe.go t hashAt h q p=some (.empty j d)->t.slot j=.empty/\d=none
 |0,p,_,j,d,e=>by
  unfold probe.go at e;cases e
 |q+1,p,M,j,d,e=>by
  unfold probe.go at e;cases J:t.slot p.j with
  |empty=>
   rw[J] at e;dsimp only at e;have e:=aB e;injection e with e1 e2;subst e1;exact⟨J,by rw[<-e2];exact M⟩
  |dummy=>
   exfalso;unfold mX at J;dsimp only at J;split at J
   ·cases J
   ·split at J
    ·rename_i O
     unfold has at O;rw[Y] at O;simp at O
    ·cases J
  |live i=>
   rw[J] at e;dsimp only at e;split at e
   ·cases e
   ·refine VY Y q _ ?_ e
    unfold advance;split
    ·exact M
    ·exact M
theorem ZgP {t:SetTable}(O:t.dummies=#[]){h:Int}{j:Nat}{b:Bool}(e:t.freeSlot h=some (j,b)):t.place[below t.place j]?≠some j:=by
 unfold SetTable.freeSlot at e;split at e
 ·rename_i Y d' e'
  have e:=aB e;injection e with J e2;obtain⟨q,h2⟩:=VY O _ _ rfl e';subst h2;have J:Y=j:=J;subst J;unfold mX at q;dsimp only at q;split at q
  ·cases q
  ·rename_i M
   intro z;exact M (by rw[z];simp)
 ·cases e
structure Wk (t:SetTable)(led:Bool):Prop where
 rise:VS t.place
 dum:t.dummies=#[]
 led:t.led=led
theorem Zek (n:Nat):VS (Array.range n):=by
 unfold VS;rw[Array.toList_range];exact iA
theorem Wk.standIn {t:SetTable}{led:Bool}(h:t.led=led)(n:Nat):Wk (t.standIn n) led:=⟨Zek n,rfl,h⟩
theorem Wk.lay {t:SetTable}{led:Bool}(W:Wk t led)(J:Array (Int×Value))(h:Int)(x:Value):Wk (layNew t J h x).2.1 led:=by
 unfold layNew;split
 ·rename_i slot M e
  try dsimp only
  have j:=ZgP W.dum e;have q:Wk (t.put slot).1 led:=by
   unfold put
   try dsimp only
   refine⟨W.rise.insert j,?_,W.led⟩
   try dsimp only
   rw[W.dum];unfold has;simp
  unfold SetTable.orStandIn;split
  ·exact q
  ·exact .standIn q.led _
 ·exact .standIn W.led _
theorem ZkP {n:Nat}(g:Nat->Option Nat):(((ac n).filterMap λj=>(g j).map (j,·)).map (·.1)).Pairwise (· < ·):=by
 have e:∀l:T7,(l.filterMap λj=>(g j).map (j,·)).map (·.1)=l.filter λj=>(g j).isSome:=λl=>by
  induction l with
  |nil=>rfl
  |cons a l q=>
   rw[bY,jF];cases h:g a with
   |none=>rw[Option.map_none];dsimp only;rw[q];rfl
   |some b=>rw[dC];dsimp only;rw[aG,q];rfl
 rw[e];exact c7 mF iA
theorem Wk.relay {t:SetTable}{led:Bool}(W:Wk t led)(M:Array (Int×Value))(j:Nat):Wk (relayAll t M j).2.1 led:=by
 unfold relayAll;split
 ·rename_i t' q e
  try dsimp only
  split
  ·dsimp only
   unfold relaid laid at e;cases O:layClean (sizeAbove j-1) (M.map (·.1)) with
   |none=>rw[O] at e;cases e
   |some J=>
    rw[O] at e;have e:=aB e;injection e with Y e2;subst Y;refine⟨?_,rfl,W.led⟩;unfold VS;exact ZkP _
  ·exact .standIn W.led _
 ·exact .standIn W.led _
theorem Wk.plain {t:SetTable}{led:Bool}(W:Wk t led)(b:Bool):Wk {t with plain:=b} led:=⟨W.rise,W.dum,W.led⟩
theorem Wk.fresh (led:Bool):Wk (SetTable.fresh 0 0 led) led:=⟨eO,rfl,rfl⟩
theorem Zfx {p:Array Nat}(h:VS p){i:Nat}{slot:Nat}(M:i<=p.size)(J:(i=0/\slot=0)\/(∃j x,i=j+1/\p[j]?=some x/\slot=x+1)):below p slot=i:=by
 refine (Zbb h slot).uniq ⟨M,λk x O e=>?_,λk x O e=>?_⟩
 ·rcases J with ⟨rfl,_⟩|⟨j,y,rfl,q,rfl⟩
  ·omega
  ·by_cases Y:k=j
   ·subst Y
    rw[q] at e;cases e;omega
   ·have:=h.lt (by omega) e q
    omega
 ·rcases J with ⟨_,rfl⟩|⟨j,y,rfl,q,rfl⟩
  ·omega
  ·have:=h.lt (by omega) q e
   omega
theorem X1 {α:Type}:∀{l:List α}{i:Nat}{x:α},l[i]?=some x->bM (x::l.eraseIdx i) l
 | [],i,x,e=>by cases e
 |a::l,0,x,e=>by cases e;exact cZ _
 |a::l,i+1,x,e=>by
  rw[List.getElem?_cons_succ] at e;rw[List.eraseIdx_cons_succ];exact (List.Perm.swap a x _).trans ((X1 e).cons a)
theorem ZaR {α:Type}(next:Nat->Nat):∀(j k:Nat) (left:List α) (out:Array α),left.length<=j->bM (jX next j k left out).toList (out.toList++left)
 |0,k,left,out,h=>by
  have:left=[]:=io.mp (by omega);subst this;unfold jX;rw[gm]
 |j+1,k,left,out,h=>by
  unfold jX;split
  ·rename_i x e
   have q:=(ae.mp e).1;refine (ZaR next j (k+1) _ _ (by rw[l9];split <;> omega)).trans ?_
   rw[mS,jv];refine List.Perm.append_left _ ?_;exact X1 e
  ·rename_i e
   have:left=[]:=by
    rcases left with _|⟨a,l⟩
    ·rfl
    ·exfalso
     rw[gR] at e;have:=bi (next k) (show 0<(a::l).length by rw[Zi];omega);omega
   subst this;rw[gm]
theorem W6 {α:Type}(next:Nat->Nat)(xs:Array α):bM (pickOrder next xs).toList xs.toList:=by
 unfold pickOrder;have:=ZaR next xs.size 0 xs.toList #[] (by rw[Zr];exact Zq _);simpa using this
end PyS
namespace PyS
open PySem
theorem Z6:Slot "set_iterator" "__next__" "set_iterator.__next__":=
 .of (owner:="set_iterator") (n:="__next__") (by rw[typeLookup_type,nq];kernel_rfl) (by decide +kernel) (by decide +kernel) (by decide +kernel)
  (by first|exact .inl (by decide +kernel)|exact .inr (by decide +kernel)) (by rw[lh];kernel_rfl)
theorem WD:entryFor table "set_iterator.__next__"=some cK.«set_iterator.__next__»:=entryFor_of_tree (by kernel_rfl)
theorem Zc4:Manifest.owners.lookup (String.ofList ['r','o','t','a','r','e','t','i','_','t','e','s'].reverse)=some Manifest.sig_set_iterator:=by kernel_rfl
theorem WY (a:Value):argsOk "set_iterator.__next__" ⟨[a],[]⟩:=by
 unfold argsOk;rw[signature?_of (id:="set_iterator.__next__") (n:=['_','_','t','x','e','n','_','_']) (o:=['r','o','t','a','r','e','t','i','_','t','e','s']) (by kernel_rfl) Zc4];kernel_rfl
theorem Vi:Slot "set_iterator" "__iter__" "set_iterator.__iter__":=
 .of (owner:="set_iterator") (n:="__iter__") (by rw[typeLookup_type,nq];kernel_rfl) (by decide +kernel) (by decide +kernel) (by decide +kernel)
  (by first|exact .inl (by decide +kernel)|exact .inr (by decide +kernel)) (by rw[lh];kernel_rfl)
theorem ZaA:entryFor table "set_iterator.__iter__"=some cK.«dict_keyiterator.__iter__»:=entryFor_alias (id':="dict_keyiterator.__iter__") (by kernel_rfl) rfl (by decide +kernel) (by kernel_rfl)
theorem Zcq (a:Value):argsOk "set_iterator.__iter__" ⟨[a],[]⟩:=by
 unfold argsOk;rw[signature?_of (id:="set_iterator.__iter__") (n:=['_','_','r','e','t','i','_','_']) (o:=['r','o','t','a','r','e','t','i','_','t','e','s']) (by kernel_rfl) Zc4];kernel_rfl
theorem Zab:entryFor table "set.__iter__"=some cK.«frozenset.__iter__»:=entryFor_alias (id':="frozenset.__iter__") (by kernel_rfl) rfl (by decide +kernel) (by kernel_rfl)
def JX (h:Heap)(a:Addr)(j:Array (Int×Value))(ep:Nat)(t:SetTable):Prop:=∃o,h.get? a=some o/\o.ExactSet/\o.data=.set j ep t/\t.fits j.size=true
def Wd (h:Heap)(I:Addr)(first:Value)(i:Nat)(a:Addr)(n ep:Nat):Prop:=∃o,h.get? I=some o/\o.cls=.type "set_iterator"/\o.data=.fields #[first,.int i 0,.ref a,.int n 0,.int ep 0]
theorem JX.keep {h h':Heap}{a:Addr}{j:Array (Int×Value)}{ep:Nat}{t:SetTable}(S:JX h a j ep t)(k:∀o,h.get? a=some o->h'.get? a=some o):JX h' a j ep t:=let ⟨o,e,r⟩:=S;⟨o,k o e,r⟩
theorem Wd.keep {h h':Heap}{I:Addr}{first:Value}{i:Nat}{a:Addr}{n ep:Nat}(S:Wd h I first i a n ep)(k:∀o,h.get? I=some o->h'.get? I=some o):Wd h' I first i a n ep:=let ⟨o,e,r⟩:=S;⟨o,k o e,r⟩
section
variable {I a:Addr}{es:Array (Int×Value)}{ep:Nat}{t:SetTable}{first:Value}{i n:Nat}
theorem Wd.typeIs (h:Wd s.heap I first i a n ep):s.TypeIs (.ref I) "set_iterator":=let ⟨o,e,c,_⟩:=h;⟨o,e,c⟩
theorem JX.typeIs (h:JX s.heap a es ep t):s.TypeIs (.ref a) "set":=let ⟨o,e,c,_⟩:=h;⟨o,e,c.1⟩
theorem JX.state (h:JX s.heap a es ep t){Q:(Array (Int×Value)×Nat×SetTable)->Shared->Prop}(q:Q (es,ep,t) s):wpAny (model prog w) A (setState a) Q E s:=let ⟨_,e,_,d,f⟩:=h;wpAny_setState_of e d f q
theorem JX.entries (h:JX s.heap a es ep t){Q:Array (Int×Value)->Shared->Prop}(q:Q es s):wpAny (model prog w) A (setEntries a) Q E s:=by
 unfold setEntries;exact Zl (h.state (Zm q))
theorem JX.epoch (h:JX s.heap a es ep t){Q:Nat->Shared->Prop}(q:Q ep s):wpAny (model prog w) A (setEpoch a) Q E s:=by
 unfold setEpoch;exact Zl (h.state (Zm q))
theorem Zcn {Q:Bool->Shared->Prop}(q:Q (w.params.followText "set-order") s):wpAny (model prog w) A setsByText Q E s:=by
 unfold setsByText;exact Zl (ke (Zm q))
theorem Wd.turn {h:Heap}{o:Obj}(e:h.get? I=some o)(c:o.cls=.type "set_iterator")(d:o.data=.fields #[first,.int i 0,.ref a,.int n 0,.int ep 0])(next:Value) :
  Wd ((h.update I (ii (·.setIfInBounds 0 next))).update I (ii (·.setIfInBounds 1 (rawInt ((i:Int)+1))))) I next (i+1) a n ep:=by
 have q:=bF (ii (·.setIfInBounds 0 next)) e (cS (bC d _));have j:=bC d (·.setIfInBounds 0 next);refine⟨_,bF _ q (cS (bC j _)),?_,?_⟩
 ·rw[gZ,gZ,c]
 ·rw[bC j]
  simp[rawInt]
theorem Zdb {slot:Nat}{Q:Option Value->Shared->Prop}(j:Wd s.heap I (.int slot 0) i a n ep)(M:JX s.heap a es ep t)(O:es.size=n){x:Value}{nx:Nat}
  (Y:∀{R:Option (Value×Nat)->Shared->Prop}{A':Around}{E':TY},R (some (x,nx)) s->wpAny (model prog w) A' (setNext a slot i ep) R E' s)
  (q:∀h',Wd h' I (.int nx 0) (i+1) a n ep->br I s.heap h'->Q (some x) {s with heap:=h'}):wpAny (model prog w) A (pyNext (.ref I)) Q E s:=by
 obtain⟨o,e,c,d⟩:=id j;unfold pyNext;refine Zl (gw (bJ (name:=dG "__next__") j.typeIs Z6 (bq Z6 j.typeIs WD ?_ (WY _))));unfold cK.«set_iterator.__next__»;refine Zl (Zm ?_);refine Zl (je e d ?_);refine Zl (M.entries ?_);rw[O];rw[if_neg (by simp)];show wpAny _ _ (setNext a slot i ep >>= _) _ _ s;refine Zl (Y ?_)
 try dsimp only
 refine Zl (dF e d (by simp) ?_);have h1:=bF (ii (·.setIfInBounds 0 (rawInt nx))) e (cS (bC d _));have d1:=bC d (·.setIfInBounds 0 (rawInt nx));refine Zl (dF h1 d1 (by simp) ?_);exact Zm ⟨_,rfl,Zm (q _ (Wd.turn e c d _) ((bK ..).trans (bK ..)))⟩
theorem ZcF {h:Heap}{Q:Option Value->Shared->Prop}{F:Fin->Shared->Prop}(j:A.handled=none)(q:∀h',(∀b o,h.get? b=some o->h'.get? b=some o)->Q none {s with heap:=h'}) :
  wpAny (model prog w) A.in1 (do let x <-newExc (.type "StopIteration") [];raiseNew (α:=Fin) x) F (λe s'=>wpAny (model prog w) A (do let b <-isInstance e (.type "StopIteration");if b=true then pure none else throw e) Q E s') {s with heap:=h}:=by
 refine Zl ?_;unfold newExc newTuple;refine Zl (bb (Q:=_) ?_ (by size_fits));refine Zl (m:=firstArgMember _ _) (km (a:=a6) (by first|rfl|(unfold firstArgMember;rfl)) ?_)
 refine bb (Q:=_) ?_ (by size_fits);unfold raiseNew;refine Zl (wpAny_handled ?_);rw[show A.in1.handled=none from j];refine Zl (Zm (wpAny_throw ?_));refine Zl (kc (T:="StopIteration") (b:=true) ⟨_,Zo _ rfl,rfl⟩ isSubtype_stop ?_);exact Zm (q _ λb o e=>Zn _ (Zn _ e))
theorem ZfR {slot:Nat}{Q:Option Value->Shared->Prop}(O:A.handled=none)(j:Wd s.heap I (.int slot 0) i a n ep)(Y:JX s.heap a es ep t)(hn:es.size=n)
  (hN:∀{R:Option (Value×Nat)->Shared->Prop}{A':Around}{E':TY},R none s->wpAny (model prog w) A' (setNext a slot i ep) R E' s)
  (q:∀h',(∀b o,b≠I->s.heap.get? b=some o->h'.get? b=some o)->Q none {s with heap:=h'}):wpAny (model prog w) A (pyNext (.ref I)) Q E s:=by
 obtain⟨o,e,c,d⟩:=id j;unfold pyNext;refine Zl (gw (bJ (name:=dG "__next__") j.typeIs Z6 (bq Z6 j.typeIs WD ?_ (WY _))));unfold cK.«set_iterator.__next__»;refine Zl (Zm ?_);refine Zl (je e d ?_);refine Zl (Y.entries ?_);rw[hn];rw[if_neg (by simp)];show wpAny _ _ (setNext a slot i ep >>= _) _ _ s;refine Zl (hN ?_)
 try dsimp only
 refine Zl (dF e d (by simp) ?_);exact ZcF O λh' k=>q h' λb M hb e'=>k b M ((bK s.heap I _).extBut b M hb e')
theorem Zfw (j:w.params.followText "set-order"=true)(J:JX s.heap a es ep t){slot:Nat}{R:Option (Value×Nat)->Shared->Prop}
  (q:R (((pickOrder (w.params.setOrder a ep) es)[i]?).map λe=>(e.2,slot)) s):wpAny (model prog w) A (setNext a slot i ep) R E s:=by
 unfold setNext;refine Zl (J.state ?_)
 try dsimp only
 refine Zl (Zcn ?_);rw[j,if_pos rfl,if_neg (by simp)];refine Zl ?_;unfold setWalk;refine Zl (J.state ?_)
 try dsimp only
 refine Zl (Zcn ?_);rw[j,if_pos rfl];exact Zl (ke (Zm (Zm q)))
theorem Zc7 (J:w.params.followText "set-order"=false)(M:JX s.heap a es ep t)(hd:t.plain=true\/es.size<=1)(O:t.led=true){slot:Nat}{R:Option (Value×Nat)->Shared->Prop}
  (q:R (match es[mK t.place slot]?,t.place[mK t.place slot]? with|some (_,x),some j=>some (x,j+1)|_,_=>none) s):wpAny (model prog w) A (setNext a slot i ep) R E s:=by
 unfold setNext;refine Zl (M.state ?_)
 try dsimp only
 refine Zl (Zcn ?_);rw[J,if_neg (by decide)];show wpAny _ _ (if (!t.plain && decide (es.size > 1))=true then _ else _) _ _ s
 rw[if_neg (by
  rcases hd with hd|hd
  ·rw[hd];simp
  ·rw[decide_eq_false (by omega),ka];decide)]
 show wpAny _ _ ((if (!t.led && !es.isEmpty)=true then _ else _) >>= _) _ _ s
 rw[O];exact Zl (Zm (Zm q))
theorem Zev {T0:Addr}{J:Array Value}{pl:Nat}{Q:Option Value->Shared->Prop}(j:Wd s.heap I (.ref T0) i a n ep)(Y:∃o k,s.heap.get? T0=some o/\o.data=.seq J k)(M:JX s.heap a es ep t)(hn:es.size=n)(hp:J[i]?=some (.int pl 0)){h:Int}{x:Value}(hx:es[pl]?=some (h,x))
  (q:∀h',Wd h' I (.ref T0) (i+1) a n ep->br I s.heap h'->Q (some x) {s with heap:=h'}):wpAny (model prog w) A (pyNext (.ref I)) Q E s:=by
 obtain⟨o,e,c,d⟩:=id j;obtain⟨ot,k,et,dt⟩:=Y;unfold pyNext;refine Zl (gw (bJ (name:=dG "__next__") j.typeIs Z6 (bq Z6 j.typeIs WD ?_ (WY _))));unfold cK.«set_iterator.__next__»;refine Zl (Zm ?_);refine Zl (je e d ?_);refine Zl (M.entries ?_);rw[hn];rw[if_neg (by simp)];show wpAny _ _ (seqItems? (.ref T0) >>= _) _ _ s;refine Zl (ie et dt ?_)
 try dsimp only
 rw[Zj,hp];show wpAny _ _ (setNextDrawn a pl ep >>= _) _ _ s;refine Zl ?_;unfold setNextDrawn;refine Zl (M.state ?_)
 try dsimp only
 rw[if_neg (by simp),hx];refine Zm ?_;refine Zl (dF e d (by simp) ?_);refine Zm ⟨_,rfl,Zm (q _ ⟨_,bF _ e (cS (bC d _)),?_,?_⟩ (bK ..))⟩
 ·rw[gZ,c]
 ·rw[bC d]
  simp[rawInt]
theorem ZgS {T0:Addr}{J:Array Value}{Q:Option Value->Shared->Prop}(Y:A.handled=none)(j:Wd s.heap I (.ref T0) i a n ep)(hT:∃o k,s.heap.get? T0=some o/\o.data=.seq J k)(hS:JX s.heap a es ep t)(hn:es.size=n)(hp:J[i]?=none)
  (q:∀h',(∀b o,b≠I->s.heap.get? b=some o->h'.get? b=some o)->Q none {s with heap:=h'}):wpAny (model prog w) A (pyNext (.ref I)) Q E s:=by
 obtain⟨o,e,c,d⟩:=id j;obtain⟨ot,k,et,dt⟩:=hT;unfold pyNext;refine Zl (gw (bJ (name:=dG "__next__") j.typeIs Z6 (bq Z6 j.typeIs WD ?_ (WY _))));unfold cK.«set_iterator.__next__»;refine Zl (Zm ?_);refine Zl (je e d ?_);refine Zl (hS.entries ?_);rw[hn];rw[if_neg (by simp)];show wpAny _ _ (seqItems? (.ref T0) >>= _) _ _ s;refine Zl (ie et dt ?_)
 try dsimp only
 rw[Zj,hp]
 try dsimp only
 refine Zl (dF e d (by simp) ?_);have h1:=bF (ii (·.setIfInBounds 0 (rawInt 0))) e (cS (bC d _));have d1:=bC d (·.setIfInBounds 0 (rawInt 0));refine Zl (dF h1 d1 (by simp) ?_);exact ZcF Y λh' k=>q h' λb O hb e'=>k b O (((bK s.heap I _).trans (bK _ I _)).extBut b O hb e')
theorem ZgZ {src:Source}{m:Nat}{Q:Nat->Shared->Prop}(j:m≠0)(q:∀k J,k<m->Q k {s with drawn:=J}):wpAny (model prog w) A (choose src m) Q E s:=λ_ _ _=>⟨j,q _ _ (bi _ (by omega))⟩
theorem Za1 {α:Type}:∀(m:Nat) (xs:List α) {s:Shared}{Q:List α->Shared->Prop},xs.length<=m->(∀ys M,bM ys xs->Q ys {s with drawn:=M})->wpAny (model prog w) A (drawOrder m xs) Q E s
 |0,xs,s,Q,h,q=>by
  have:xs=[]:=io.mp (by omega);subst this;unfold drawOrder;exact Zm (q [] s.drawn (cZ _))
 |m+1,[],s,Q,h,q=>by
  unfold drawOrder;exact Zm (q [] s.drawn (cZ _))
 |m+1,x::xs,s,Q,h,q=>by
  unfold drawOrder;refine Zl (ZgZ (by rw[Zi];omega) λk M j=>?_);rw[Zf j]
  try dsimp only
  refine Zl (Za1 m _ (by rw[l9,if_pos j];omega) λys J O=>Zm ?_);exact q _ J ((O.cons _).trans (X1 (Zf j)))
end
section
variable {I a:Addr}{es:Array (Int×Value)}{ep:Nat}{t:SetTable}{first:Value}{i n:Nat}
theorem ZbB {Q:TY}(j:Wd s.heap I first i a n ep)(q:Q (.ref I) s):wpAny (model prog w) A (pyIter (.ref I)) Q E s:=by
 refine wpAny_pyIter_slot j.typeIs Vi (bq Vi j.typeIs ZaA ?_ (Zcq _));show wpAny _ _ (ret (.ref I)) _ _ s;exact Zm ⟨_,rfl, "set_iterator",_,j.typeIs,Z6.lookup,q⟩
def Va (es:Array (Int×Value)):List Value:=es.toList.map (·.2)
theorem Zf7 (hh:A.handled=none)(O:w.params.followText "set-order"=true)(q:a≠I) :
  Walks prog w A I [I,a] [I] es.size (λi v=>((pickOrder (w.params.setOrder a ep) es).toList.map (·.2))[i]?=some v) (λi h=>Wd h I (.int 0 0) i a es.size ep/\JX h a es ep t) where
 sub:=λb hb=>by simp at hb;simp[hb]
 frame:=λ_ _ _ st k=>⟨st.1.keep λo e=>k I (by simp) o e,st.2.keep λo e=>k a (by simp) o e⟩
 item:=λi s Q E hi st j=>by
  have J:=W6 (w.params.setOrder a ep) es;have hl:(pickOrder (w.params.setOrder a ep) es).size=es.size:=by rw[<-Zr,J.length_eq,Zr]
  have e:(pickOrder (w.params.setOrder a ep) es)[i]?=some ((pickOrder (w.params.setOrder a ep) es)[i]'(by omega)):=aM (by omega);generalize (pickOrder (w.params.setOrder a ep) es)[i]'(by omega)=y at e;refine Zdb (slot:=0) (x:=y.2) (nx:=0) st.1 st.2 rfl (λ{R A' E'} r=>Zfw O st.2 (by rw[e];exact r)) λM i' Y=>?_;refine j y.2 M s.toks ?_ ⟨i',st.2.keep λo e=>Y.extBut a o q e⟩ λb o hb e=>Y.extBut b o (λz=>hb (by simp[z])) e;rw[Zc,cQ,e];rfl
 done:=λs Q E st j=>by
  have J:=W6 (w.params.setOrder a ep) es;have hl:(pickOrder (w.params.setOrder a ep) es).size=es.size:=by rw[<-Zr,J.length_eq,Zr]
  refine ZfR (slot:=0) hh st.1 st.2 rfl (λ{R A' E'} r=>Zfw O st.2 (by rw[cI (by omega)];exact r)) λM k=>j M s.toks λb o hb e=>k b o (λz=>hb (by simp[z])) e
 self:=λ_ _ _ _ st j=>ZbB st.1 j
theorem ZdP (hh:A.handled=none)(ht:w.params.followText "set-order"=false)(hd:t.plain=true\/es.size<=1)(W:Wk t true)(Y:a≠I) :
  Walks prog w A I [I,a] [I] es.size (λi v=>(Va es)[i]?=some v) (λi h=>∃slot:Nat,((i=0/\slot=0)\/(∃j x,i=j+1/\t.place[j]?=some x/\slot=x+1))/\Wd h I (.int slot 0) i a es.size ep/\JX h a es ep t) where
 sub:=λb hb=>by simp at hb;simp[hb]
 frame:=λ_ _ _ st k=>by
  obtain⟨slot,M,J,q⟩:=st;exact⟨slot,M,J.keep λo e=>k I (by simp) o e,q.keep λo e=>k a (by simp) o e⟩
 item:=λi s Q E hi st O=>by
  obtain⟨slot,M,J,q⟩:=st;have hf:t.place.size=es.size:=by
   obtain⟨_,_,_,_,f⟩:=q;simp only[mY,ag,beq_iff_eq] at f;exact f.1
  have hb:=Zfx W.rise (i:=i) (slot:=slot) (by omega) M;have e1:es[i]?=some es[i]:=aM hi;have e2:t.place[i]?=some (t.place[i]'(by omega)):=aM (by omega);generalize es[i]=y at e1;generalize t.place[i]'(by omega)=j at e2;refine Zdb (slot:=slot) (x:=y.2) (nx:=j+1) J q rfl (λ{R A' E'} r=>Zc7 ht q hd W.led (by rw[hb,e1,e2];exact r)) λh' i' sb=>?_;refine O y.2 h' s.toks ?_ ⟨j+1,.inr ⟨i,j,rfl,e2,rfl⟩,i',q.keep λo e=>sb.extBut a o Y e⟩ λb o hb e=>sb.extBut b o (λz=>hb (by simp[z])) e;show (es.toList.map (·.2))[i]?=some y.2;rw[Zc,cQ,e1];rfl
 done:=λs Q E st O=>by
  obtain⟨slot,M,J,q⟩:=st;have hf:t.place.size=es.size:=by
   obtain⟨_,_,_,_,f⟩:=q;simp only[mY,ag,beq_iff_eq] at f;exact f.1
  have hb:=Zfx W.rise (i:=es.size) (slot:=slot) (by omega) M;refine ZfR (slot:=slot) hh J q rfl (λ{R A' E'} r=>Zc7 ht q hd W.led (by rw[hb,cI (Zq _)];exact r)) λh' k=>O h' s.toks λb o hb e=>k b o (λz=>hb (by simp[z])) e
 self:=λ_ _ _ _ st O=>by
  obtain⟨slot,M,J,q⟩:=st;exact ZbB J O
theorem ZdQ (hh:A.handled=none){T0:Addr}{j:T7}(M:bM j (ac es.size))(n6:a≠I)(n8:T0≠I) :
  Walks prog w A I [I,a,T0] [I] es.size (λi v=>(j.filterMap λp=>(es[p]?).map (·.2))[i]?=some v) (λi h=>Wd h I (.ref T0) i a es.size ep/\JX h a es ep t/\∃o k,h.get? T0=some o/\o.data=.seq (j.map λ(p:Nat)=>rawInt p).toArray k) where
 sub:=λb hb=>by simp at hb;simp[hb]
 frame:=λ_ _ _ st k=>by
  obtain⟨Y,O,o,k0,J,h4⟩:=st;exact⟨Y.keep λo e=>k I (by simp) o e,O.keep λo e=>k a (by simp) o e,o,k0,k T0 (by simp) o J,h4⟩
 item:=λi s Q E hi st hQ=>by
  obtain⟨Y,O,J⟩:=st;have hl:j.length=es.size:=by rw[M.length_eq,Zg]
  have e0:j[i]?=some (j[i]'(by omega)):=Zf (by omega);have hm:j[i]'(by omega)<es.size:=af.mp (M.mem_iff.mp (bB _));generalize j[i]'(by omega)=pl at e0 hm;have e1:es[pl]?=some es[pl]:=aM hm;generalize es[pl]=y at e1;obtain⟨hv,x⟩:=y;refine Zev (pl:=pl) Y J O rfl (by simp[e0,rawInt]) e1 λh' i' sb=>?_;obtain⟨o,k0,J,h4⟩:=J;refine hQ x h' s.toks ?_ ⟨i',O.keep λo e=>sb.extBut a o n6 e,o,k0,sb.extBut T0 o n8 J,h4⟩ λb o hb e=>sb.extBut b o (λz=>hb (by simp[z])) e;have all:∀(l:T7),(∀p∈l,p<es.size)->(l.filterMap λp=>(es[p]?).map (·.2))=l.map λp=>(es.getD p (0,.none)).2:=λl=>by
   induction l with
   |nil=>intro _;rfl
   |cons p l ih=>
    intro h;have M:=h p ar;rw[bY,aM M,dC,aG,ih λq hq=>h q (ao _ hq)]
    try dsimp only
    rw[cJ,aM M];rfl
  rw[all j λp hm=>af.mp (M.mem_iff.mp hm),Zc,e0,dC,cJ,e1];rfl
 done:=λs Q E st hQ=>by
  obtain⟨Y,O,J⟩:=st;have hl:j.length=es.size:=by rw[M.length_eq,Zg]
  refine ZgS hh Y J O rfl (by rw[cI (by simp[hl])]) λh' k=>hQ h' s.toks λb o hb e=>k b o (λz=>hb (by simp[z])) e
 self:=λ_ _ _ _ st hQ=>ZbB st.1 hQ
theorem ZhK (hz:es.size<=sizeLine)(M:JX s.heap a es ep t)(W:Wk t (!w.params.followText "set-order")){Q:TY}
  (q:∀(I:Addr) (fp:TW) (h':Heap) (dr:lB) (L:List Value) (St:Nat->Heap->Prop),s.heap.objs.size<=I->(∀b∈fp,b=a\/s.heap.objs.size<=b)->(∀b o,s.heap.get? b=some o->h'.get? b=some o)->bM L (Va es)->
   (∀A':Around,A'.handled=none->Walks prog w A' I fp [I] es.size (λi v=>L[i]?=some v) St)->St 0 h'->Q (.ref I) {s with heap:=h',drawn:=dr}) :
  wpAny (model prog w) A (pyIter (.ref a)) Q E s:=by
 have ha:a<s.heap.objs.size:=let ⟨o,e,_⟩:=M;Zp e;refine wpAny_pyIter_slot M.typeIs F.slot_set_iter (bq F.slot_set_iter M.typeIs Zab ?_ (F.args_set_iter_1 _));unfold cK.«frozenset.__iter__»;show wpAny _ _ (pure a >>= _) _ _ s;refine Zl (Zm ?_);refine Zl ?_;unfold Builtin.Frozenset.sizeOf;refine Zl (M.entries (Zm ?_));refine Zl ?_;unfold setDrawn;refine Zl (M.state ?_)
 try dsimp only
 refine Zl (Zcn (Zm ?_));show wpAny _ _ (if (!w.params.followText "set-order" && (!t.plain && decide (es.size > 1)))=true then _ else _) _ _ s
 by_cases J:(!w.params.followText "set-order" && (!t.plain && decide (es.size > 1)))=true
 ·rw[if_pos J]
  refine Zl (Za1 _ _ (by rw[Zg];exact Zq _) λO dr hp=>?_);have hl:O.length=es.size:=by rw[hp.length_eq,Zg]
  unfold newTuple;refine Zl (bb ?_ (by show (gH (λ(i:Nat)=>rawInt i) O).toArray.size<=sizeLine;rw[Zh,Za,hl];exact hz));have h1:(s.heap.push {cls:=.type "tuple",data:=.seq (gH (λ(i:Nat)=>rawInt i) O).toArray}).get? s.heap.objs.size=some {cls:=.type "tuple",data:=.seq (gH (λ(i:Nat)=>rawInt i) O).toArray}:=Zo _ rfl;have n6:∀b o,s.heap.get? b=some o->(s.heap.push {cls:=.type "tuple",data:=.seq (gH (λ(i:Nat)=>rawInt i) O).toArray}).get? b=some o:=λb o e=>Zn _ e;have n8:(s.heap.push {cls:=.type "tuple",data:=.seq (gH (λ(i:Nat)=>rawInt i) O).toArray}).objs.size=s.heap.objs.size+1:=cm ..;generalize s.heap.push {cls:=.type "tuple",data:=.seq (gH (λ(i:Nat)=>rawInt i) O).toArray}=g1 at h1 n6 n8 ⊢;have n9:JX g1 a es ep t:=M.keep λo e=>n6 a o e;refine Zl (JX.epoch (s:={s with heap:=g1,drawn:=dr}) n9 ?_);refine Zl ?_;unfold newFields;refine bb (Zm ⟨_,rfl, "set_iterator",_,⟨_,Zo _ rfl,rfl⟩,Z6.lookup,?_⟩) (by size_fits);refine q g1.objs.size [g1.objs.size,a,s.heap.objs.size] _ dr _ (λi h=>Wd h g1.objs.size (.ref s.heap.objs.size) i a es.size ep/\JX h a es ep t/\∃o k,h.get? s.heap.objs.size=some o/\o.data=.seq (O.map λ(p:Nat)=>rawInt p).toArray k) (by omega) (λb hb=>?_) (λb o e=>Zn _ (n6 b o e)) ?_
   (λA' hh=>ZdQ hh hp (ay (by rw[n8];exact cr ha)) (ay (by rw[n8];exact cM _))) ⟨⟨_,Zo _ rfl,rfl,rfl⟩,n9.keep λo e=>Zn _ e,_,_,Zn _ h1,rfl⟩
  ·simp only[aF,db,or_false] at hb
   rcases hb with rfl|rfl|rfl
   ·right;omega
   ·left;rfl
   ·right;omega
  ·refine (hp.filterMap _).trans ?_
   have e:((ac es.size).filterMap λp=>(es[p]?).map (·.2))=Va es:=by
    unfold Va;rw[<-filterMap_getElem?_range es,List.map_filterMap]
   rw[e]
 ·rw[if_neg J]
  refine Zl (Zm ?_);refine Zl (M.epoch ?_);refine Zl ?_;unfold newFields;refine bb (Zm ⟨_,rfl, "set_iterator",_,⟨_,Zo _ rfl,rfl⟩,Z6.lookup,?_⟩) (by size_fits);have Y:∀b∈[s.heap.objs.size,a],b=a\/s.heap.objs.size<=b:=λb hb=>by
   simp only[aF,db,or_false] at hb;rcases hb with rfl|rfl
   ·right;omega
   ·left;rfl
  cases ht:w.params.followText "set-order" with
  |true=>
   refine q s.heap.objs.size [s.heap.objs.size,a] _ s.drawn _ (λi h=>Wd h s.heap.objs.size (.int 0 0) i a es.size ep/\JX h a es ep t) (Zq _) Y (λb o e=>Zn _ e) ?_
    (λA' hh=>Zf7 hh ht (ay ha)) ⟨⟨_,Zo _ rfl,rfl,rfl⟩,M.keep λo e=>Zn _ e⟩
   exact (W6 _ es).map _
  |false=>
   rw[ht] at W J;refine q s.heap.objs.size [s.heap.objs.size,a] _ s.drawn _ (λi h=>∃slot:Nat,((i=0/\slot=0)\/(∃j x,i=j+1/\t.place[j]?=some x/\slot=x+1))/\Wd h s.heap.objs.size (.int slot 0) i a es.size ep/\JX h a es ep t) (Zq _) Y (λb o e=>Zn _ e) (cZ _)
    (λA' hh=>ZdP hh ht ?_ W (ay ha)) ⟨0,.inl ⟨rfl,rfl⟩,⟨_,Zo _ rfl,rfl,rfl⟩,M.keep λo e=>Zn _ e⟩
   cases hp:t.plain with
   |true=>exact .inl rfl
   |false=>
    rw[hp] at J;right;by_cases h1:es.size > 1
    ·exfalso
     apply J;simp[h1]
    ·omega
end
end PyS
namespace PyS
open PySem PySem.W PyProof.Rows PySem.Calls PyProof.V PySem.Spec
section
variable {a:Addr}{es:Array (Int×Value)}{ep:Nat}{t:SetTable}
theorem Zi6 {r:Addr}{Q:Bool->Shared->Prop}(J:s.TypeIs (.ref r) "set")(h:Q false s):wpAny (model prog w) A (fF (.ref r)) Q E s:=by
 unfold fF;refine Zl (wpAny_specialOf J PySem.F.slot_set_len.lookup ?_);generalize q:("set.__len__":String)=M
 wp_delta
 rw[show splitId M=some ("set", "__len__") from by subst q;decide +kernel];subst q;refine Zl (kc (T:="set") (b:=true) J (by rw[lh];kernel_rfl) ?_);refine kE (λj=>absurd j (by decide)) (λ_=>?_);refine kE (λ_=>?_) (λj=>absurd (by decide +kernel) j);refine Zl (fP J ?_);exact Zm h
theorem ZiV {L:List Value}{ZJ:Array Value}{n:Nat}(q:L.length=n)(h:iu (λi v=>L[i]?=some v) ZJ n):ZJ.toList=L:=by
 refine a7 λi=>?_;by_cases j:i<n
 ·have e:ZJ[i]?=some (ZJ[i]'(by rw[h.1];exact j)):=aM _
  rw[cQ,e];exact (h.2 i _ e).symm
 ·rw[ai (by rw[Zr,h.1];omega),ai (by omega)]
structure Src (prog:Program)(w:World)(T:String)(a d:Addr)(n:Nat)(Good:(Nat->Value->Prop)->Prop)(OK:Heap->Prop):Prop where
 type:∀s:Shared,OK s.heap->s.TypeIs (.ref a) T
 there:∀s:Shared,OK s.heap->d<s.heap.objs.size
 keep:∀h h':Heap,OK h->(∀b o,h.get? b=some o->h'.get? b=some o)->OK h'
 notList:(bW T == bW "list")=false
 notTuple:(bW T == bW "tuple")=false
 hint:∀(A:Around) (E:TY) (s:Shared) (Q:Bool->Shared->Prop),OK s.heap->Q false s->wpAny (model prog w) A (fF (.ref a)) Q E s
 iter:∀(A:Around) (E:TY) (s:Shared) (Q:TY),OK s.heap->
  (∀(I:Addr) (fp:TW) (h':Heap) (dr:lB) (P:Nat->Value->Prop) (St:Nat->Heap->Prop),s.heap.objs.size<=I->(∀b∈fp,b=a\/b=d\/s.heap.objs.size<=b)->(∀b o,s.heap.get? b=some o->h'.get? b=some o)->Good P->
   (∀A':Around,A'.handled=none->Walks prog w A' I fp [I] n P St)->St 0 h'->Q (.ref I) {s with heap:=h',drawn:=dr})->wpAny (model prog w) A (pyIter (.ref a)) Q E s
section
variable {T:String}{d:Addr}{Good:(Nat->Value->Prop)->Prop}{OK:Heap->Prop}
theorem ZdY {R:Result->Shared->Prop}(C:Src prog w T a d n Good OK)(hh:A.handled=none)(hz:n<=sizeLine)(n6:OK s.heap)(S:Addr)(n9:S≠a)(o8:S≠d)(res:Value)(Y:Nat)(hL:s.heap.get? S=some {cls:=.type "list",data:=.seq #[] Y})
  (hR:∀h' dr tk (q:Array Value) c' P,(∀b o,b≠S->s.heap.get? b=some o->h'.get? b=some o)->h'.get? S=some {cls:=.type "list",dict:=none,data:=.seq q c',slots:=#[]}->Good P->iu P q n->R (.ok (.ret res)) {s with heap:=h',drawn:=dr,toks:=tk}) :
  wpAny (model prog w) A.in1 (b9 (.ref S) (.ref a) res)
   (λfin s'=>match fin with | .done f=>R (.ok f) s' | .again c'=>c'.quiet=true/\codeAny (model prog w) A c' R s') (λe s'=>R (.error e) s') s:=by
 have o9:S<s.heap.objs.size:=Zp hL;unfold b9;refine Zl (fP (T:=T) (C.type s n6) ?_);have h1:jo (.ref S) (.ref a)=false:=by simp[jo,n9]
 simp only[h1,C.notList,C.notTuple,fV,dE,if_false];refine Zl (C.iter _ _ _ _ n6 λI fp h' dr P St hI p3 hk hp o0 st=>?_);have o5:S∉fp:=λz=>by
  rcases p3 S z with e|e|e
  ·exact n9 e
  ·exact o8 e
  ·exact absurd o9 (Nat.not_lt.mpr e)
 have key:∀(h:Heap) (J tk:Nat),St 0 h->(∀b o,b≠S->s.heap.get? b=some o->h.get? b=some o)->
   h.get? S=some {cls:=.type "list",data:=.seq #[] J}->codeAny (model prog w) A (.builtin "list.extend.loop" ⟨[.ref S,.ref I,res],[]⟩) R {s with heap:=h,drawn:=dr,toks:=tk}:=by
  intro h J tk p4 hk j;refine codeAny_extend_loopS (o0 A.in1 hh).toS hz S o5 res n 0 _ #[] J rfl (aV _) p4 j (ItemsOf.nil _) λs' q c' hm p6 o6=>?_;rw[Moved.eq_with hm];refine hR s'.heap dr s'.toks q c' P (λb o hb e=>hm.heap b o (λM=>?_) (hk b o hb e)) p6 hp o6;rcases aF.mp M with e'|M
  ·exact hb e'
  ·exact absurd (Zp e) (by rw[aQ.mp M];exact Nat.not_lt.mpr hI)
 have j:=hk S _ hL;refine Zl (cf (C.hint _ _ {s with heap:=h',drawn:=dr} _ (C.keep _ _ n6 λb o e=>hk b o e) ?_));refine kE (λ_=>?_) (λ_=>Zm ⟨dh jS _,key _ Y _ st (λb o _ e=>hk b o e) j⟩);refine Zl (fo ?_);refine Zl ?_;show wpAny _ _ (updateSeq S (·.push .none) >>= λ_=>updateSeq S (·.pop)) _ _ _;refine Zl (wpAny_updateSeq j rfl ?_);have O:=bF (bz (·.push a6)) j rfl;refine wpAny_updateSeq (hz:=by seq_fits) O rfl ?_;have n8:=bF (bz (·.pop)) O rfl;refine Zm ⟨dh jS _,key _ _ _ ?_ (λb o hb e=>?_) n8⟩
 ·refine (o0 A.in1 hh).frame 0 _ _ st λb hb o e=>?_
  have o7:b≠S:=λh=>o5 (h▸hb);exact (bU _ _ (bf o7)).trans ((bU _ _ (bf o7)).trans e)
 ·exact (bU _ _ (bf hb)).trans ((bU _ _ (bf hb)).trans (hk b o e))
theorem ZcH {R:List Value->Shared->Prop}(C:Src prog w T a d n Good OK)(hh:A.handled=none)(hz:n<=sizeLine)(O:OK s.heap)
  (h:∀(h':Heap) (dr:lB) (tk:Nat) (ZJ:Array Value) (P:Nat->Value->Prop),s.heap.objs.size<h'.objs.size->(∀b o,s.heap.get? b=some o->h'.get? b=some o)->Good P->iu P ZJ n->R ZJ.toList {s with heap:=h',drawn:=dr,toks:=tk}) :
  wpAny (model prog w) A (collect (.ref a)) R E s:=by
 have ha:a<s.heap.objs.size:=let ⟨o,e,_⟩:=C.type s O;Zp e;unfold collect;refine Zl (jd (bP entry_proto_collect' ?_));rw[bI jE _];show wpAny _ A.in1 (newList [] >>= λl=>again (.builtin "list.__iadd__" ⟨[l,.ref a],[]⟩)) _ _ s;refine Zl (bb ?_);refine Zm ⟨dh eW _,bP entry_list_iadd' ?_⟩;rw[bI eW _];have Y:(s.heap.push {cls:=.type "list",data:=.seq ([]:List Value).toArray}).get? s.heap.objs.size=some {cls:=.type "list",data:=.seq #[]}:=Zo _ rfl;show wpAny _ A.in1 (b9 (.ref s.heap.objs.size) (.ref a) (.ref s.heap.objs.size)) _ _ _;have n6:=ZdY (prog:=prog) (w:=w) (A:=A) (s:={s with heap:=s.heap.push {cls:=.type "list",data:=.seq ([]:List Value).toArray}})
  (R:=λ(q:Result) (s':Shared)=>∃(h':Heap) (dr:lB) (tk:Nat) (j:Array Value) (c':Nat) (P:Nat->Value->Prop),q=.ok (.ret (.ref s.heap.objs.size))/\s'={s with heap:=h',drawn:=dr,toks:=tk}/\
   (∀b o,s.heap.get? b=some o->h'.get? b=some o)/\h'.get? s.heap.objs.size=some {cls:=.type "list",dict:=none,data:=.seq j c',slots:=#[]}/\Good P/\iu P j n)
  C hh hz (C.keep _ _ O λb o e=>Zn _ e) s.heap.objs.size (bu ha) (bu (C.there _ O)) (.ref s.heap.objs.size) 0 Y
  (λh' dr tk j c' P hk M hg J=>⟨h',dr,tk,j,c',P,rfl,rfl,λb o e=>hk b o (ay (Zp e)) (Zn _ e),M,hg,J⟩)
 refine cw n6 (λn8 s' x=>?_) λe s' x=>?_
 ·cases n8 with
  |done f=>
   obtain⟨h',dr,tk,j,c',P,e,rfl,hk,M,hg,J⟩:=x;cases e;show wpAny _ A (load s.heap.objs.size >>= _) _ _ _;refine Zl (iO M ?_);exact Zm (h h' dr tk j P (Zp M) hk hg J)
  |again n9=>
   refine⟨x.1,fR x.2 λq o0 y=>?_⟩;obtain⟨h',dr,tk,j,c',P,rfl,rfl,hk,M,hg,J⟩:=y;show wpAny _ A (load s.heap.objs.size >>= _) _ _ _;refine Zl (iO M ?_);exact Zm (h h' dr tk j P (Zp M) hk hg J)
 ·obtain⟨_,_,_,_,_,_,e',_⟩:=x
  cases e'
def Zeu:Value->Int
 | .int k _=>k
 |_=>0
theorem Zi3:∀{l:List Value}{ns:TZ},be l ns->ns=l.map Zeu
 |_,_,.nil=>rfl
 |_,_,.cons n t r=>by rw[aG,<-Zi3 r];rfl
theorem Zi2:∀{l:List Value}{ns:TZ},be l ns->∀v∈l,∃k t,v=.int k t
 |_,_,.nil,v,h=>by cases h
 |_,_,.cons n t r,v,h=>by
  rcases aF.mp h with h|h
  ·exact⟨n,t,h⟩
  ·exact Zi2 r v h
theorem Zi1:∀{l:List Value},(∀v∈l,∃k t,v=.int k t)->be l (l.map Zeu)
 | [],_=>.nil
 |v::l,h=>by
  obtain⟨k,t,rfl⟩:=h v ar;exact .cons k t (Zi1 λu j=>h u (ao _ j))
theorem Zlz {l j:List Value}{ns:TZ}(p:bM j l)(h:be l ns):be j (j.map Zeu)/\bM (j.map Zeu) ns:=
 ⟨Zi1 λv q=>Zi2 h v (p.mem_iff.mp q),by rw[Zi3 h];exact p.map _⟩
theorem ZdX {Q:TY}(C:Src prog w T a d n Good OK)(hh:A.handled=none)(n9:n<64)(Y:OK s.heap){ns:TZ}(hi:∀P ZJ,Good P->iu P ZJ n->be ZJ.toList (ZJ.toList.map Zeu)/\bM (ZJ.toList.map Zeu) ns)
    (q:∀(D:Addr) (h':Heap) (dr:lB) (tk:Nat) (out:List Value) (j:TZ) (c:Nat),s.heap.objs.size<=D->(∀b o,s.heap.get? b=some o->h'.get? b=some o)->h'.get? D=some (seqObj "list" out.toArray c)->be out j->bM j ns->j.Pairwise (· ≤ ·)->Q (.ref D) {s with heap:=h',drawn:=dr,toks:=tk}) :
    wpAny (model prog w) A (call (.builtin "sorted") [.ref a]) Q E s:=by
  have hz : n ≤ sizeLine := by have:(16777216:Nat)=sizeLine:=by decide
                               omega
  refine e7 kA j3 j4 (j5 _) ?_;unfold cK.«sorted»;refine Zl (m:=checkCount "sorted" 1 1 _) (Zm ?_);refine Zl (ZcH (A:=A.in1) C hh hz Y λh' dr tk ZJ P O hk hg J=>?_);obtain⟨i1,i2⟩:=hi P ZJ hg J;have hl:ZJ.toList.length=n:=by rw[Zr];exact J.1
  generalize ZJ.toList=M at i1 i2 hl ⊢;refine Zl (gv ?_ (by rw[hl];exact hz));have ho:(h'.push {cls:=.type "list",data:=.seq M.toArray}).get? h'.objs.size=some (seqObj "list" M.toArray 0):=Zo _ rfl;have n6:∀b o,s.heap.get? b=some o->(h'.push {cls:=.type "list",data:=.seq M.toArray}).get? b=some o:=λb o e=>Zn _ (hk b o e);refine Zl (cf ?_);refine bq ji ⟨_,ho,rfl⟩ iZ (list_sort_tree (n:=0) (vs:=M) ho i1 (by omega) λout j hI n8 hP=>⟨.none,rfl,?_⟩) (jj _);refine Zm ⟨_,rfl,?_⟩;have o1:=iY ho (λ_=>(#[]:Array Value));have o2:=Zn (seqObj "tuple" M.toArray 0) o1;have o3:=Zn (seqObj "list" #[] 0) o2;have o4:=iY o3 (λ_=>out);refine q h'.objs.size _ dr tk out.toList j _ (cL O) (λb o e=>?_) (by rw[lN];exact o4) hI (n8.trans i2) hP;have hb:b≠h'.objs.size:=ay (jA (Zp e) O);unfold sortedHeap;rw[bU _ _ (bf hb)];refine Zn _ (Zn _ ?_);rw[bU _ _ (bf hb)];exact n6 b o e
end
theorem Zkf (hz:es.size<=sizeLine)(W:Wk t (!w.params.followText "set-order")):Src prog w "set" a a es.size (λP=>∃L:List Value,bM L (Va es)/\P=λi v=>L[i]?=some v) (λh=>JX h a es ep t) where
 type:=λs h=>JX.typeIs h
 there:=λs S=>let ⟨o,e,_⟩:=JX.typeIs (s:=s) S;Zp e
 keep:=λh M S k=>S.keep (k a)
 notList:=by decide
 notTuple:=by decide
 hint:=λA E s Q S q=>Zi6 (JX.typeIs S) q
 iter:=λA E s Q S q=>ZhK hz S W λI O M Y L St hI j hk hp J st=>q I O M Y _ St hI (λb hb=>(j b hb).elim .inl λz=>.inr (.inr z)) hk ⟨L,hp,rfl⟩ J st
theorem Zeb {ns:TZ}{Q:TY}(Y:A.handled=none)(M:es.size<64)(hS:JX s.heap a es ep t)(W:Wk t (!w.params.followText "set-order"))(hi:be (Va es) ns)
    (q:∀(D:Addr) (h':Heap) (dr:lB) (tk:Nat) (out:List Value) (j:TZ) (c:Nat),s.heap.objs.size<=D->(∀b o,s.heap.get? b=some o->h'.get? b=some o)->h'.get? D=some (seqObj "list" out.toArray c)->be out j->bM j ns->j.Pairwise (· ≤ ·)->Q (.ref D) {s with heap:=h',drawn:=dr,toks:=tk}) :
    wpAny (model prog w) A (call (.builtin "sorted") [.ref a]) Q E s:=by
  have hz : es.size ≤ sizeLine := by have:(16777216:Nat)=sizeLine:=by decide
                                     omega
  refine ZdX (Zkf (ep:=ep) hz W) Y M hS (ns:=ns) (λP ZJ hg J=>?_) q;obtain⟨L,O,rfl⟩:=hg;rw[ZiV (by rw[O.length_eq];unfold Va;rw[Za,Zr]) J];exact Zlz O hi
section
variable {K:Type} [DecidableEq K]{knd:PySem.KeyKind prog w K}{kvs:List (K×Value)}
end
end
structure SX (prog:Program)(w:World)(h:Heap)(a:Addr)(es:Array (Int×Value))(ep:Nat)(t:SetTable)(S:Int->Bool)(n:Nat):Prop where
 at_:JX h a es ep t
 el:ElemsOf (intKind prog w) es.toList
 mem:∀k,S k=true↔∃e∈es.toList,(intKind prog w).is k e.2=true
 sb:es.size<scanBound
 sz:es.size=n
 wk:Wk t (!w.params.followText "set-order")
def VB (prog:Program)(w:World)(h:Heap)(a:Addr)(S:Int->Bool)(n:Nat):Prop:=∃j q t,SX prog w h a j q t S n
section
variable {a:Addr}
theorem VB.keep {h h':Heap}{S:Int->Bool}{n:Nat}(X:VB prog w h a S n)(k:∀o,h.get? a=some o->h'.get? a=some o):VB prog w h' a S n:=by
 obtain⟨j,q,t,X⟩:=X;exact⟨j,q,t,X.at_.keep k,X.el,X.mem,X.sb,X.sz,X.wk⟩
theorem VB.congr {h:Heap}{S j:Int->Bool}{n q:Nat}(X:VB prog w h a S n)(e:∀k,S k=j k)(J:n=q):VB prog w h a j q:=by
 have:S=j:=funext e;subst this;subst J;exact X
theorem stored {h:Heap}{q es':Array (Int×Value)}{ep:Nat}{t t':SetTable}(S:JX h a q ep t)(hf:t'.fits es'.size=true):JX (h.update a (jg es' t')) a es' (ep+1) t':=by
 obtain⟨o,e,x,d,_⟩:=S;have j:=bF (jg es' t') e (by rw[putSet_of es' t' d];rfl);rw[putSet_of es' t' d] at j;exact⟨_,j,x,rfl,hf⟩
theorem WF {j es':Array (Int×Value)}{ep:Nat}{t t':SetTable}{Q:Unit->Shared->Prop}(S:JX s.heap a j ep t)(hz:es'.size<=sizeLine)(q:Q () {s with heap:=s.heap.update a (jg es' t')}):wpAny (model prog w) A (storeSet a es' t') Q E s:=by
 obtain⟨o,e,x,d,_⟩:=S;exact wpAny_storeSet_of e d q hz
theorem ZdG {g:Bool->Sem Unit}(hg:∀(b:Bool) (O:Shared) (Q':Unit->Shared->Prop),Q' () O->wpAny (model prog w) A (g b) Q' E O){es j:Array (Int×Value)}{ep:Nat}{t q:SetTable}{led:Bool}(S:JX s.heap a es ep t)(hz:j.size<=sizeLine)(f2:q.fits j.size=true)(w2:Wk q led)
  {Y:Bool}{R:Option Bool->Shared->Prop} (fin:∀(h':Heap) (es':Array (Int×Value)) (o5:Nat) (t':SetTable),br a s.heap h'->JX h' a es' o5 t'->bM es'.toList j.toList->Wk t' led->R (some true) {s with heap:=h'}) :
  wpAny (model prog w) A (do
    storeSet a j q
    if (!Y && q.tooFull)=true then do
      g (relayAll q j (dU j.size)).2.2
      storeSet a (relayAll q j (dU j.size)).1 (relayAll q j (dU j.size)).2.1
      pure (some true)
     else pure (some true)) R E s:=by
 refine Zl (WF S hz ?_);have S2:=stored S (es':=j) f2;have n6:=bK s.heap a (jg j q);generalize s.heap.update a (jg j q)=h2 at S2 n6 ⊢;by_cases J:(!Y && q.tooFull)=true
 ·rw[if_pos J]
  have M:=relayAll_perm q j (dU j.size);have n8:=relayAll_fits q j (dU j.size);have n9:=w2.relay j (dU j.size);generalize relayAll q j (dU j.size)=Rl at M n8 n9 ⊢;obtain⟨o0,t3,o6⟩:=Rl;dsimp only at M n8 n9 ⊢;have o7:o0.size=j.size:=by rw[<-Zr,M.length_eq,Zr]
  refine Zl (hg _ _ _ ?_);refine Zl (WF (s:={s with heap:=h2}) S2 (by rw[o7];exact hz) ?_);exact Zm (fin _ o0 _ t3 (n6.trans (bK _ a _)) (stored S2 n8) M n9)
 ·rw[if_neg J]
  exact Zm (fin h2 j _ q n6 S2 (cZ _) w2)
theorem add_int {S:Int->Bool}{n:Nat}{k:Int}{x:Value}{Q:Bool->Shared->Prop}(n9:(intKind prog w).is k x=true)(o7:x.scannable=true)(X:VB prog w s.heap a S n)(o8:n+1<scanBound)
  (q:∀b h',br a s.heap h'->VB prog w h' a (λk'=>S k' || decide (k'=k)) (if S k then n else n+1)->Q b {s with heap:=h'}) :
  wpAny (model prog w) A (setAddHashed a x ((intKind prog w).hash k)) Q E s:=by
 obtain⟨es,ep,t,X⟩:=X;obtain⟨o,e1,e2,e3,e4⟩:=id X.at_;unfold setAddHashed setAddHashedIn;refine cf (Zl (X.at_.state ?_))
 try dsimp only
 rw[byScan_of o7 X.sb X.el];simp only[↓reduceIte];unfold setAddByScan;refine Zl (Zl (fo (Zl (wpAny_setScan_of n9 e1 e3 e4 X.el ?_))));cases hr:List.findIdx? (λe=>(intKind prog w).is k e.2) es.toList with
 |some j=>
  obtain⟨hj,p8,_⟩:=List.findIdx?_eq_some_iff_getElem.mp hr;have o6:S k=true:=(X.mem k).mpr ⟨_,bB hj,p8⟩;refine Zm (Zm ?_);have:=q false s.heap (Heap.SameBut.refl a s.heap) ⟨es,ep,t,X.at_,X.el,λk'=>?_,X.sb,by rw[o6];exact X.sz,X.wk⟩
  ·exact this
  ·rw[bh,decide_eq_true_eq,<-X.mem k']
   exact⟨λh=>h.elim id λe=>by rw[e];exact o6,.inl⟩
 |none=>
  have o6:S k=false:=by
   cases hk:S k with
   |false=>rfl
   |true=>
    obtain⟨e,he,hp⟩:=(X.mem k).mp hk;have:=List.findIdx?_eq_none_iff.mp hr e he;rw[hp] at this;exact Bool.noConfusion this
  try dsimp only
  have J:=layNew_perm t es ((intKind prog w).hash k) x;have M:=layNew_fits t es ((intKind prog w).hash k) x;have o0:=X.wk.lay es ((intKind prog w).hash k) x;generalize layNew t es ((intKind prog w).hash k) x=L at J M o0 ⊢;obtain⟨n8,t1,r8,p3⟩:=L;dsimp only at J M o0 ⊢;rw[mS] at J;have q0:∀(b:Bool) {Y:Shared}{Q':Unit->Shared->Prop},Q' () Y->wpAny (model prog w) A (match b with|true=>rule "set.scan.the-table-gave-way" |false=>pure ()) Q' E Y:=
   λb Y Q' hq=>by cases b <;> first|exact Zm hq|exact fo hq
  have p4:n8.size=n+1:=by rw[<-Zr,J.length_eq,Zd,Zr,X.sz];rfl
  have r6:ElemsOf (intKind prog w) n8.toList:=(X.el.push n9 o7).perm J;have p6:∀k',(S k' || decide (k'=k))=true↔∃e∈n8.toList,(intKind prog w).is k' e.2=true:=mem_push_iff n9 X.mem J;have o9:n8.size<scanBound:=by rw[p4];exact o8
  have zl:∀m,m<scanBound->m<=sizeLine:=λm h=>fits_of_scanBound h;have p7:∀(h':Heap) (O:Array (Int×Value)) (n6:Nat) (t':SetTable),br a s.heap h'->JX h' a O n6 t'->bM O.toList n8.toList->Wk t' (!w.params.followText "set-order")->Q true {s with heap:=h'}:=λh' O n6 t' sb at' hp o5=>by
   have hs:O.size=n8.size:=by rw[<-Zr,hp.length_eq,Zr]
   refine q true h' sb ⟨O,n6,t',at',r6.perm hp,λk'=>?_,by rw[hs];exact o9,by rw[o6,hs];exact p4,o5⟩;rw[p6 k'];exact⟨λ⟨e,he,r⟩=>⟨e,hp.mem_iff.mpr he,r⟩,λ⟨e,he,r⟩=>⟨e,hp.mem_iff.mp he,r⟩⟩
  refine Zl (q0 p3 ?_);split
  ·refine Zl ?_
   rw[hashByValue_scannable 8 o7];refine Zm ?_;refine ZdG (λb Y Q' hq=>?_) X.at_ (zl _ o9) ?_ ?_ λh' O n6 t' sb at' hp o5=>Zm (p7 h' O n6 t' sb at' hp o5)
   ·cases b <;> first|exact Zm hq|exact fo hq
   ·split
    ·exact M
    ·exact SetTable.fits_plain_off M
   ·split
    ·exact o0
    ·exact o0.plain false
  ·refine Zl (Zm ?_)
   simp only[↓reduceIte];refine ZdG (λb Y Q' hq=>?_) X.at_ (zl _ o9) M o0 λh' O n6 t' sb at' hp o5=>Zm (p7 h' O n6 t' sb at' hp o5);cases b <;> first|exact Zm hq|exact fo hq
end
section
variable {R:Result->Shared->Prop}{I:Addr}{fp wr:TW}{G:Array GenState->Array GenState->Prop}{P:Nat->Value->Prop}{St:Nat->Shared->Prop}
theorem Zhg (W:WalksS prog w A.in1 I fp wr G n P St)(S:Addr)(O:S∉fp)(val:Nat->Int)(Y:∀i v,P i v->∃t,v=.int (val i) t)(hb:n+1<scanBound) :
  ∀(k i:Nat) (s:Shared),n-i=k->i<=n->St i s->VB prog w s.heap S (λM=>(firstMet val i).any (· == M)) (firstMet val i).length->
   (∀s',Moved (S::wr) G s s'->VB prog w s'.heap S (λM=>(firstMet val n).any (· == M)) (firstMet val n).length->R (.ok (.ret .none)) s')->
   codeAny (model prog w) A (.builtin "set.update.loop" ⟨[.ref S,.ref I],[]⟩) R s:=by
 have n6:S∉wr:=λh=>O (W.sub _ h);have j:∀b∈wr,b∈S::wr:=λb hb=>ao _ hb;intro k;induction k with
 |zero=>
  intro i s hk hi q hS hR;have o7:i=n:=by omega
  subst o7;refine bP g8 ?_;rw[bI dO _];show wpAny _ A.in1 (pyNext (.ref I) >>= _) _ _ s;refine Zl (W.done s _ _ q λs' hm=>?_);show wpAny _ A.in1 (ret a6) _ _ s';exact Zm (hR s' (hm.mono j) (hS.keep λo e=>hm.heap S o n6 e))
 |succ k ih=>
  intro i s hk hi q hS hR;have n8:i<n:=by omega
  refine bP g8 ?_;rw[bI dO _];show wpAny _ A.in1 (pyNext (.ref I) >>= _) _ _ s;refine Zl (W.item i s _ _ n8 q λv s' hP n9 hm=>?_);obtain⟨t,rfl⟩:=Y i v hP;have o8:=hS.keep λo e=>hm.heap S o n6 e;show wpAny _ A.in1 (holding [fG (val i) t] (setAdd S (.int (val i) t)) >>= _) _ _ s';refine Zl (cf ?_);unfold setAdd;refine cf ?_;refine Zl ((intKind prog w).pyHash (k:=val i) (intKind_is _ _ _ _) ?_);have J:(firstMet val i).length+1<scanBound:=by have:=jN val i;omega
  refine add_int (s:={s' with toks:=s'.toks+1}) (intKind_is _ _ _ _) rfl o8 J λ_ h' o0 o9=>?_;have p3:VB prog w h' S (λM=>(firstMet val (i+1)).any (· == M)) (firstMet val (i+1)).length:=
   o9.congr (λM=>by rw[mD,step_any]) (by rw[mD,step_length])
  refine Zm ⟨dh dO _,ih (i+1) _ (by omega) n8 (W.frame _ s' _ _ n9 (g9 _) λb hb o e=>?_) p3 λp4 o5 o6=>?_⟩
  ·rw[o0.2 b (λh:b=S=>O (by rw[<-h];exact hb))];exact e
  ·refine hR p4 (Moved.trans W.gtrans ((hm.mono j).then_heap (g9 _) λb o hb e=>?_) o5) o6
   rw[o0.2 b (λh:b=S=>hb (by rw[h];exact ar))];exact e
end
theorem Zkm (a:Value){Q₁:TY}
  (h:Q₁ (.ref s.heap.objs.size) {s with heap:=s.heap.push {cls:=.type "set",dict:=none,data:=.set #[] 0 (.fresh 0 0 (!w.params.followText "set-order"))}}) :
  codeAny (model prog w) A (.call (.builtin "set.__new__") ⟨[.type "set",a],[]⟩) (wants Q₁ E) s:=by
 refine kF ?_;show wpAny _ A.in1 (do checkBuiltinCall "set.__new__" ⟨[.type "set",a],[]⟩;again (.builtin "set.__new__" ⟨[.type "set",a],[]⟩)) _ _ s
 refine Zl (km (PySem.F.newCall_set_1 a) (Zm ⟨dh kw _,bP PySem.F.entry_set_new ?_⟩));rw[bI kw _];unfold cK.«set.__new__» Builtin.Frozenset.newClass;have j:=sub_set_self;obtain⟨q,g,d,tk,os⟩:=s
 try dsimp only
 wp_walk
 refine ke (Zm ?_)
 try dsimp only
 simp only[newObj];refine Zl (wpAny_alloc (Zm ?_));exact Zm h
theorem ZlC {h:Heap}{a:Addr}(e:h.get? a=some {cls:=.type "set",dict:=none,data:=.set #[] 0 (.fresh 0 0 (!w.params.followText "set-order"))}):VB prog w h a (λ_=>false) 0:=
 ⟨#[],0,_,⟨_,e,⟨rfl,rfl,rfl⟩,rfl,rfl⟩,λx j=>(by simp at j),λk=>(by simp),by unfold scanBound;decide,rfl,Wk.fresh _⟩
noncomputable abbrev Zf5 (prog:Program)(w:World)(s:Shared)(ns:TZ)(n:Nat)(h':Heap):Prop:=
 VB prog w h' s.heap.objs.size (λj=>(L2.JV ns n).any (· == j)) (L2.JV ns n).length/\∀b o,b<s.heap.objs.size->s.heap.get? b=some o->h'.get? b=some o
theorem ZcL {l:Addr}{items:Array Value}{ns:TZ}{Q:TY}(hh:A.handled=none)(hl:s.heap.IsList l items)(hi:be items.toList ns)(hb:items.size+1<scanBound)
  (h:∀(h':Heap) (tk:Nat),Zf5 prog w s ns items.size h'->Q (.ref s.heap.objs.size) {s with heap:=h',toks:=tk}):wpAny (model prog w) A (call (.type "set") [.ref l]) Q E s:=by
 obtain⟨c,tl,r8⟩:=cx.mro;have o9:=cx.made;have r9:=cx.sub;refine wpAny_call (kF ?_);show wpAny _ _ (callAny (.type "set") _) _ _ _;refine Zm ⟨mL _ (by decide +kernel),bP PySem.F.entry_type_call ?_⟩;rw[Around.under_plain (weight_type_call_type "set" [.ref l] []) rfl];have h1:=cx.notType;have h2:=cx.canCreate;have t9:=PySem.F.typeCall_set_1 (.ref l)
 repeat (any_goals (first|assumption|wp_step))
 let J:Obj:={cls:=.type "set",dict:=none,data:=.set #[] 0 (.fresh 0 0 (!w.params.followText "set-order"))}
 refine fR (Zkm (.ref l) (E:=E) (Q₁:=λn9 M=>n9=.ref s.heap.objs.size/\M={s with heap:=s.heap.push J}) ⟨rfl,rfl⟩) λr M hr=>?_;cases r with
 |error e=>exact hr
 |ok fl=>
  cases fl with
  |ret n9=>
   obtain⟨rfl,rfl⟩:=hr;have hS:(s.heap.push J).get? s.heap.objs.size=some J:=Zo _ rfl;have hT:Shared.TypeIs {s with heap:=s.heap.push J} (.ref s.heap.objs.size) "set":=⟨_,hS,rfl⟩;have u5:=cx.init.lookup;have u9:=cx.init.bind (.ref s.heap.objs.size)
   repeat (any_goals (first|assumption|wp_step))
   refine fR (codeAny_call_builtin (R:=wants (λr O=>r=.none/\∃h' tk,O={s with heap:=h',toks:=tk}/\Zf5 prog w s ns items.size h') E) cx.init.plain PySem.F.entry_set_init (check_set_init_1 hT ?_)) λo0 O j=>?_
   ·obtain⟨ol,hol,o5,nl,o6⟩:=id hl
    obtain⟨t6,n6,p3,q⟩:=ol;simp only at o5 o6;subst o5;subst o6;have Y:(s.heap.push J).get? l=some {cls:=.type "list",dict:=n6,data:=.seq items nl,slots:=q}:=Zn _ hol;have t7:=PySem.F.sub_list_set;have t8:=PySem.F.sub_list_frozenset;have w8:(bW "list" == bW "dict")=false:=by decide
    have p4:(s.heap.push J).IsList l items:=⟨_,Y,rfl,nl,rfl⟩;unfold cK.«set.__init__» noKeywords Builtin.Frozenset.updateFrom;generalize p6:pyIter=PI
    wp_walk
    subst p6;refine ir p4 ?_;refine Zl (jd ?_);have o7:l<s.heap.objs.size:=Zp hol;have o8:l≠(s.heap.push J).objs.size:=by rw[cm];exact ay (cr o7)
    have p7:s.heap.objs.size∉[(s.heap.push J).objs.size,l]:=by
     rw[cm];intro z;rcases aF.mp z with z|z
     ·exact absurd z (ay (cM _))
     ·exact absurd (aQ.mp z) (bu o7)
    refine Zhg ((mh (A:=A.in1.in1.in1) (by simp[hh]) _ l o8 items).toS) s.heap.objs.size p7 (λi=>ns.getD i 0) (λi v hv=>IntsAre.int_at hi i v (by rw[cQ];exact hv)) hb (items.size-0) 0 _ (by omega) (aV _)
     ⟨⟨_,Zo _ rfl,rfl,rfl⟩,⟨_,Zn _ Y,rfl,nl,rfl⟩⟩ ?hS0 ?hR
    case hS0=>exact (ZlC (Zn _ hS)).congr (λ_=>rfl) rfl
    case hR=>
     intro s' hm p8;obtain⟨h',g',d',q0,r6⟩:=s';obtain rfl:g'=s.gens:=hm.gens;obtain rfl:d'=s.drawn:=hm.drawn;obtain rfl:r6=s.os:=hm.os;show wpAny _ _ _ _ _ _;refine Zm ?_;show wpAny _ _ (ret a6) _ _ _;refine Zm ⟨rfl,h',q0,rfl,p8,λb o hb e=>hm.heap b o (λz=>?_) (Zn _ (Zn _ e))⟩;rcases aF.mp z with z|z
     ·exact absurd z (ay hb)
     ·refine absurd (aQ.mp z) (ay ?_);rw[cm];exact cr hb
   ·cases o0 with
    |error e=>exact j
    |ok n8=>
     cases n8 with
     |ret r=>
      obtain⟨rfl,h',tk,rfl,he⟩:=j
      repeat (any_goals (first|assumption|wp_step))
      exact h _ _ he
     |_=>exact j.elim
  |_=>exact hr.elim
end PyS
namespace L2
open PySem PySem.Spec PyProof.Rows
theorem VZ:∀{M L:TZ},M.Nodup->(∀x∈M,x∈L)->L.length=M.length->bM L M
 | [],L,_,_,h=>by
  have:L=[]:=io.mp (by simpa using h);subst this;exact cZ _
 |x::M,L,j,J,h=>by
  have hx:=J x ar;have O:=List.perm_cons_erase hx;rw[bS] at j;refine O.trans ((VZ j.2 (λy Y=>?_) ?_).cons x)
  ·have q:y≠x:=λz=>j.1 (z▸Y)
   exact (lZ q).mpr (J y (ao _ Y))
  ·have:=O.length_eq
   rw[Zi] at this;rw[Zi] at h;omega
theorem Ze0:∀{out:List Value}{ns:TZ},be out ns->ZS (ns.map V.int) out
 |_,_,.nil=>.nil
 |_,_,.cons n t r=>.cons ⟨t,rfl⟩ (Ze0 r)
def ZcM (prog:Program)(w:World)(a:Addr)(M:TZ):HO:=.ext λh=>PyS.VB prog w h a (λk=>M.any (· == k)) M.length
theorem Inv.drawn (I:Inv X pins σ H s)(d:lB):Inv X pins σ H {s with drawn:=d}:=⟨I.ok,I.os,I.bare,I.base,I.loc,I.cell,I.free,I.freeC,I.pin,I.hok,I.len⟩
inductive I_call_setL (K:aa) (P0:Program) (w0:World) (xs:TV) (H:Hp) (Q:VK):Prop
 |mk (a:Addr) (ns:TZ):(xs=[.ref a])->(Wx K H a (ns.map V.int))->(ns.length<1000)->(∀p,H p=none->Q (.ref p) (upd H p (ZcM P0 w0 p (JV ns ns.length))))->I_call_setL K P0 w0 xs H Q
theorem Za6 (Y:X.calm=true):YA X (.type "set") (_root_.L2.I_call_setL X.K X.prog X.w):=by
 intro pins s σ H xs us Q I r h;obtain⟨a,ns,rfl,hq,hn,q⟩:=h;obtain⟨u,rfl,ru⟩:=vals1 r;cases ru;obtain⟨j,M,p,hz⟩:=I.list hq;have O:j.toArray.size=ns.length:=by rw[Zh,<-M.length,Za]
 refine PyS.ZcL (I.ok.hd Y) p.isList (ns:=ns) (by simpa using ZfL M) (by rw[O];unfold scanBound;omega) λh' tk ⟨J,e2⟩=>?_;rw[O] at J;refine⟨.ref _,_,I.laid (a:=s.heap.objs.size) (o:=ZcM X.prog X.w s.heap.objs.size (JV ns ns.length)) (t':=tk) (λb o e=>e2 b o (Zp e) e) (Zq _) ⟨J,?_,λh1 h2 x k=>x.keep k⟩,rfl,q _ (I.hok.fresh (Zq _))⟩;obtain⟨es,ep,t,⟨o,e,_⟩,_⟩:=J;exact⟨o,e⟩
inductive I_call_sortS (P0:Program) (w0:World) (xs:TV) (H:Hp) (Q:VK):Prop
 |mk (a:Addr) (M:TZ):(xs=[.ref a])->(H a=some (ZcM P0 w0 a M))->(M.Nodup)->(M.length<64)->(∀l ns,H l=none->bM ns M->ns.Pairwise (· ≤ ·)->Q (.ref l) (upd H l (.lst (ns.map V.int))))->I_call_sortS P0 w0 xs H Q
theorem Zao (hc:X.calm=true):YA X (.builtin "sorted") (_root_.L2.I_call_sortS X.prog X.w):=by
 intro pins s σ H xs us Q I r h;obtain⟨a,M,rfl,ha,hn,n6,q⟩:=h;obtain⟨u,rfl,ru⟩:=vals1 r;cases ru;obtain⟨J,_,_⟩:=(show Ys X.prog X.w H s.heap a (ZcM X.prog X.w a M) from I.hok a _ ha);obtain⟨es,ep,t,J⟩:=J;have O:∀v∈PyS.Va es,∃k tk,v=.int k tk:=λv hv=>by
  obtain⟨e,he,rfl⟩:=aE.mp hv;obtain⟨⟨k,hk,_⟩,_⟩:=J.el e he;obtain⟨tk,et⟩:=jf hk;exact⟨k,tk,et⟩
 have n8:=PyS.Zi1 O;have hp:bM ((PyS.Va es).map PyS.Zeu) M:=by
  refine VZ hn (λx hx=>?_) ?_
  ·have hS:M.any (· == x)=true:=aY.mpr ⟨x,hx,by simp⟩
   obtain⟨e,he,hk⟩:=(J.mem x).mp hS;obtain⟨tk,et⟩:=jf hk;refine aE.mpr ⟨e.2,aE.mpr ⟨e,he,rfl⟩,?_⟩;rw[et];rfl
  ·unfold PyS.Va
   rw[Za,Za,Zr];exact J.sz
 refine PyS.Zeb (I.ok.hd hc) (by rw[J.sz];exact n6) J.at_ J.wk n8 λD h' dr tk out j c hD kp n9 hi Y hP=>?_;have hl:ZS (j.map V.int) out:=Ze0 hi;have sz:=JL;have o0:j.length=M.length:=(Y.trans hp).length_eq;refine⟨.ref D,_,(I.laid (a:=D) (o:=.lst (j.map V.int)) (t':=tk) kp hD ⟨by rw[Za];omega,out,c,hl,n9⟩).drawn dr,rfl,q _ j (I.hok.fresh hD) (Y.trans hp) hP⟩
end L2
namespace Tb
def ZO (t:T9)(a b:Nat):Nat:=(t.getD a []).getD b 0
def it (t:T9)(a:Nat):Nat->Nat
 |0=>0
 |k+1=>ZO t (it t a k) a
structure Rd (t:T9)(a r:Nat):Prop where
 r1:1<=r
 rn:r<=t.length
 dv:t.length % r=0
 z:it t a r=0
 nz:∀k,1<=k->k<r->it t a k≠0
 bk:ZO t a (it t a (r-1))=0
 un:∀b,b<t.length->ZO t a b=0->b=it t a (r-1)
structure PW (t:T9):Prop where
 n1:1<=t.length
 n60:t.length<=60
 len:∀row∈t,row.length=t.length
 lt:∀a b,a<t.length->b<t.length->ZO t a b<t.length
 one:∀a,a<t.length->ZO t 0 a=a
 rd:∀a,a<t.length->∃r,Rd t a r
 oneR:∀a,a<t.length->ZO t a 0=a
 ass:∀a b c,a<t.length->b<t.length->c<t.length->ZO t (ZO t a b) c=ZO t a (ZO t b c)
section
variable {a r:Nat}
theorem Jd (P:PW t)(j:a<t.length):∀k,it t a k<t.length
 |0=>P.n1
 |k+1=>P.lt _ _ (Jd P j k) j
theorem ZeC (P:PW t)(j:a<t.length):it t a 1=a:=P.one a j
theorem ZnX (R:Rd t a r)(k:Nat):it t a (r+k)=it t a k:=by
 induction k with
 |zero=>exact R.z
 |succ k j=>rw[Nat.add_succ,it,it,j]
theorem U7 (R:Rd t a r)(k:Nat):it t a k=it t a (k % r):=by
 have q:=R.r1;induction k using Nat.strongRecOn with
 |_ k j=>
  by_cases h:k<r
  ·rw[aT h]
  ·have e:k=r+(k-r):=by omega
   rw[m6 (by omega),<-j (k-r) (by omega),<-ZnX R (k-r),<-e]
end
def rdB (t:T9)(n a:Nat):Nat->Nat->Nat->Bool
 |0,_,_=>false
 |f+1,k,prev=>
  let x:=ZO t prev a
  match x with
  |0=>decide (n % (k+1)=0) && decide (k+1<=n) && decide (ZO t a prev=0) && ((ac n).all λb=>decide (b=prev) || !decide (ZO t a b=0))
  |y+1=>rdB t n a f (k+1) (y+1)
def fq1 {β:Type}(m:Nat)(k:Nat->β):β:=match m with
 |0=>k 0
 |m+1=>k (m+1)
theorem Zja {β:Type}(m:Nat)(k:Nat->β):fq1 m k=k m:=by cases m <;> rfl
def fql {β:Type}:T7->(T7->β)->β
 | [],k=>k []
 |x::j,k=>fq1 x λy=>fql j λq=>k (y::q)
theorem Zb8 {β:Type}:∀(a:T7) (k:T7->β),fql a k=k a
 | [],k=>rfl
 |x::j,k=>by rw[fql,Zja,Zb8 j]
def Zon (ZJ:T7)(y:Nat):T7:=if ZJ.contains y then ZJ else ZJ++[y]
def Zg5 (t:T9)(gens:T7):Nat->Nat->T7->T7
 |0,_,ZJ=>ZJ
 |f+1,i,ZJ=>match ZJ[i]? with
  |none=>ZJ
  |some x=>fql (gens.foldl (λZJ g=>fq1 (ZO t x g) λy=>Zon ZJ y) ZJ) λZJ=>Zg5 t gens f (i+1) ZJ
def ZfM (t:T9):Nat->Nat->T7->T7->T7
 |0,_,gens,_=>gens
 |f+1,a,gens,ZJ=>if ZJ.contains a then ZfM t f (a+1) gens ZJ else fql (Zg5 t (gens++[a]) t.length 0 [0]) λZJ=>ZfM t f (a+1) (gens++[a]) ZJ
def liB (t:T9)(g:Nat):Bool:=decide (g<t.length) && t.all λrx=>(t.getD (rx.getD g 0) [] == (t.getD g []).map λc=>rx.getD c 0)
def asG (t:T9)(gens:T7):Bool:=gens.all (liB t) && fql (Zg5 t gens t.length 0 [0]) λZJ=>(ac t.length).all λa=>ZJ.contains a
def asB (t:T9):Bool:=fql (ZfM t t.length 0 [] [0]) (asG t)
def Zpn (t:T9):Bool:=decide (1<=t.length) && decide (t.length<=60) && (t.all λrow=>decide (row.length=t.length) && row.all λx=>decide (x<t.length)) && ((ac t.length).all λa=>decide (ZO t 0 a=a) && rdB t t.length a t.length 0 0)
def pwB (t:T9):Bool:=Zpn t && ((ac t.length).all λa=>decide (ZO t a 0=a)) && asB t
def Pr (t:T9)(a:Nat):Prop:=a<t.length/\∀x y,x<t.length->y<t.length->ZO t (ZO t x a) y=ZO t x (ZO t a y)
theorem Zpx {t:T9}(Y:∀row∈t,row.length=t.length){g:Nat}(h:liB t g=true):Pr t g:=by
 unfold liB at h;simp only[aD,ag,beq_iff_eq,decide_eq_true_eq] at h;obtain⟨q,h⟩:=h;refine⟨q,λx y M hy=>?_⟩;have hm:t.getD x []∈t:=by
  rw[Zb,Zf M];exact bB M
 have J:t.getD g []∈t:=by
  rw[Zb,Zf q];exact bB q
 have h1:=h _ hm;unfold ZO;rw[h1];have n6:=Y _ J;generalize t.getD g []=O at *;have j:y<O.length:=by omega
 rw[Zb,Zc,Zf j,Zb (l:=O),Zf j];rfl
theorem Pr.times {t:T9}(lt:∀a b,a<t.length->b<t.length->ZO t a b<t.length){a g:Nat}(j:Pr t a)(q:Pr t g):Pr t (ZO t a g):=by
 refine⟨lt _ _ j.1 q.1,λx y J M=>?_⟩;rw[<-j.2 x g J q.1,q.2 _ y (lt _ _ J j.1) M,j.2 x _ J (lt _ _ q.1 M),q.2 a y j.1 M]
theorem Zf1 {t:T9}(lt:∀a b,a<t.length->b<t.length->ZO t a b<t.length){gens:T7}(hg:∀g∈gens,Pr t g):∀(f i:Nat) (ZJ:T7),(∀a∈ZJ,Pr t a)->∀a∈Zg5 t gens f i ZJ,Pr t a
 |0,i,ZJ,h=>by unfold Zg5;exact h
 |f+1,i,ZJ,h=>by
  unfold Zg5;split
  ·exact h
  ·rename_i x hx
   rw[Zb8];refine Zf1 lt hg f (i+1) _ ?_;have O:=h x (az hx);have Y:∀(J ZJ:T7),(∀g∈J,Pr t g)->(∀a∈ZJ,Pr t a)->∀a∈J.foldl (λZJ g=>fq1 (ZO t x g) λy=>Zon ZJ y) ZJ,Pr t a:=λJ=>by
    induction J with
    |nil=>intro ZJ _ h;exact h
    |cons g J ih=>
     intro ZJ M q;rw[List.foldl_cons];refine ih _ (λg' n6=>M g' (ao _ n6)) λa j=>?_;rw[Zja] at j;unfold Zon at j;split at j
     ·exact q a j
     ·rcases bO.mp j with j|j
      ·exact q a j
      ·rw[aQ.mp j]
       exact O.times lt (M g ar)
   exact Y gens ZJ hg h
theorem Zol {t:T9}(n1:1<=t.length)(O:∀row∈t,row.length=t.length)(lt:∀a b,a<t.length->b<t.length->ZO t a b<t.length)(one:∀a,a<t.length->ZO t 0 a=a)(j:∀a,a<t.length->ZO t a 0=a)(h:asB t=true):∀a b c,a<t.length->b<t.length->c<t.length->ZO t (ZO t a b) c=ZO t a (ZO t b c):=by
 intro a b c q hb Y;unfold asB at h;rw[Zb8] at h;generalize ZfM t t.length 0 [] [0]=M at h;unfold asG at h;rw[Zb8,ag,aD,aD] at h;have h0:Pr t 0:=⟨by omega,λx y hx hy=>by rw[j x hx,one y hy]⟩;have J:=Zf1 lt (λg hg=>Zpx O (h.1 g hg)) t.length 0 [0] (λa q=>by rw[aQ.mp q];exact h0) b (aA.mp (h.2 b (af.mpr hb)));exact J.2 a c q Y
theorem Zia {t:T9}{a:Nat}:∀(f k prev:Nat),prev=it t a k->(∀j,1<=j->j<=k->it t a j≠0)->rdB t t.length a f k prev=true->∃r,Rd t a r
 |0,k,prev,_,_,h=>by cases h
 |f+1,k,prev,e,M,h=>by
  unfold rdB at h;have ex:it t a (k+1)=ZO t prev a:=by rw[it,e]
  cases q:ZO t prev a with
  |zero=>
   simp only[q,ag,decide_eq_true_eq,aD,bh,dX,decide_eq_false_iff_not] at h;obtain⟨⟨⟨O,Y⟩,h3⟩,h4⟩:=h;refine⟨k+1,by omega,Y,O,by rw[ex,q],λj J jk=>M j J (by omega),by rw[dI,<-e];exact h3,λb hb hm=>?_⟩;rw[dI,<-e];exact (h4 b (af.mpr hb)).resolve_right λz=>z hm
  |succ y=>
   simp only[q] at h;refine Zia f (k+1) (y+1) (by rw[ex,q]) (λj J jk=>?_) h;by_cases ej:j=k+1
   ·rw[ej,ex,q]
    exact jP _
   ·exact M j J (by omega)
theorem Zm9 {t:T9}(h:pwB t=true):PW t:=by
 unfold pwB at h;rw[ag,ag] at h;obtain⟨⟨h,M⟩,O⟩:=h;unfold Zpn at h;simp only[ag,decide_eq_true_eq,aD] at h;obtain⟨⟨⟨h1,h2⟩,Y⟩,h4⟩:=h;have lt:∀a b,a<t.length->b<t.length->ZO t a b<t.length:=λa b q hb=>by
  unfold ZO;have hm:t.getD a []∈t:=by
   rw[Zb,Zf q];exact bB q
  obtain⟨hl,hx⟩:=Y _ hm;generalize t.getD a []=row at *;have J:b<row.length:=by omega
  refine hx _ ?_;rw[Zb,Zf J];exact bB J
 have oneR:∀a,a<t.length->ZO t a 0=a:=λa q=>of_decide_eq_true (aD.mp M a (af.mpr q));have one:∀a,a<t.length->ZO t 0 a=a:=λa q=>(h4 a (af.mpr q)).1;refine⟨h1,h2,λrow hr=>(Y row hr).1,lt,one,λa q=>?_,oneR,Zol h1 (λrow hr=>(Y row hr).1) lt one oneR O⟩
 ·exact Zia _ 0 0 rfl (λj j1 j0=>by omega) (h4 a (af.mpr q)).2
def pos (o:T7)(v:Nat):Nat:=o.findIdx (· == v)
def ren (t:T9)(o:T7):T9:=o.map λa=>o.map λb=>pos o (ZO t a b)
structure Ord (n:Nat)(o:T7):Prop where
 len:o.length=n
 nd:o.Nodup
 all:∀v,v<n->v∈o
 lt:∀v∈o,v<n
 z:o.getD 0 0=0
theorem Wr {o:T7}{i:Nat}(h:i<o.length):o[i]?=some (o.getD i 0):=by
 rw[Zb,Zf h];rfl
theorem Wh {n v:Nat}(O:Ord n o)(q:v<n):pos o v<n/\o.getD (pos o v) 0=v:=by
 have hm:=O.all v q;have j:o.findIdx (· == v)<o.length:=ju ⟨v,hm,by simp⟩;refine⟨by rw[<-O.len];exact j,?_⟩;have J:=fZ (w:=j);have M:o[o.findIdx (· == v)]=v:=by simpa using J
 unfold pos;rw[Zb,Zf j];exact M
theorem inj {n i j:Nat}(O:Ord n o)(q:i<n)(M:j<n)(e:o.getD i 0=o.getD j 0):i=j:=by
 have J:=Wr (o:=o) (i:=i) (by rw[O.len];exact q);have Y:=Wr (o:=o) (i:=j) (by rw[O.len];exact M);rw[e] at J;exact (nh (by rw[O.len];exact q) O.nd).mp (J.trans Y.symm)
theorem YS {n i:Nat}(O:Ord n o)(j:i<n):o.getD i 0<n:=O.lt _ (az (Wr (by rw[O.len];exact j)))
theorem ZbF:(ren t o).length=o.length:=by unfold ren;rw[Za]
theorem ZbP {n i j:Nat}(O:Ord n o)(q:i<n)(J:j<n):ZO (ren t o) i j=pos o (ZO t (o.getD i 0) (o.getD j 0)):=by
 unfold ZO ren;have M:=Wr (o:=o) (i:=i) (by rw[O.len];exact q);have Y:=Wr (o:=o) (i:=j) (by rw[O.len];exact J);rw[Zb (l:=o.map _),Zc,M];show (o.map λb=>pos o ((t.getD (o.getD i 0) []).getD b 0)).getD j 0=_;rw[Zb,Zc,Y];rfl
theorem JP (P:PW t)(O:Ord t.length o):PW (ren t o):=by
 have L:(ren t o).length=t.length:=by rw[ZbF,O.len]
 have back:∀i j,i<t.length->j<t.length->o.getD (ZO (ren t o) i j) 0=ZO t (o.getD i 0) (o.getD j 0):=λi j hi hj=>by
  rw[ZbP O hi hj];exact (Wh O (P.lt _ _ (YS O hi) (YS O hj))).2
 have lt:∀i j,i<t.length->j<t.length->ZO (ren t o) i j<t.length:=λi j hi hj=>by
  rw[ZbP O hi hj];exact (Wh O (P.lt _ _ (YS O hi) (YS O hj))).1
 have n1:=P.n1;have M:∀a,a<t.length->∀k,it (ren t o) a k<t.length/\o.getD (it (ren t o) a k) 0=it t (o.getD a 0) k:=λa ha k=>by
  induction k with
  |zero=>exact⟨n1,O.z⟩
  |succ k ih=>
   rw[it,it];exact⟨lt _ _ ih.1 ha,by rw[back _ _ ih.1 ha,ih.2]⟩
 have zz:∀i,i<t.length->(i=0↔o.getD i 0=0):=λi hi=>by
  constructor
  ·intro e;rw[e,O.z]
  ·intro e;exact inj O hi n1 (by rw[e,O.z])
 refine⟨by omega,by have:=P.n60;omega,λrow hr=>?_,λa b ha hb=>by rw[L];exact lt a b (by omega) (by omega),λa ha=>?_,λa ha=>?_,λa ha=>?_,λa b c ha hb hc=>?_⟩
 ·unfold ren at hr
  obtain⟨a,_,rfl⟩:=aE.mp hr;rw[Za,ZbF]
 ·refine inj O (lt 0 a n1 (by omega)) (by omega) ?_
  rw[back 0 a n1 (by omega),O.z,P.one _ (YS O (by omega))]
 ·have q:a<t.length:=by omega
  obtain⟨r,R⟩:=P.rd _ (YS O q);have n6:∀k,it (ren t o) a k=0↔it t (o.getD a 0) k=0:=λk=>by
   rw[zz _ (M a q k).1,(M a q k).2]
  refine⟨r,R.r1,by rw[L];exact R.rn,by rw[L];exact R.dv,(n6 r).mpr R.z,λk k1 kr z=>R.nz k k1 kr ((n6 k).mp z),?_,λb hb hm=>?_⟩
  ·refine (zz _ (lt _ _ q (M a q _).1)).mpr ?_
   rw[back _ _ q (M a q _).1,(M a q _).2];exact R.bk
  ·have J:b<t.length:=by omega
   refine inj O J (M a q _).1 ?_;rw[(M a q _).2];refine R.un _ (YS O J) ?_;rw[<-back a b q J,hm,O.z]
 ·refine inj O (lt a 0 (by omega) n1) (by omega) ?_
  rw[back a 0 (by omega) n1,O.z,P.oneR _ (YS O (by omega))]
 ·have q:a<t.length:=by omega
  have J:b<t.length:=by omega
  have Y:c<t.length:=by omega
  refine inj O (lt _ _ (lt _ _ q J) Y) (lt _ _ q (lt _ _ J Y)) ?_;rw[back _ _ (lt _ _ q J) Y,back _ _ q J,back _ _ q (lt _ _ J Y),back _ _ J Y];exact P.ass _ _ _ (YS O q) (YS O J) (YS O Y)
def upTo (r st:Nat):Nat->Nat->Nat
 |0,f=>f
 |k+1,f=>if f % r=0 then f else upTo r st k (f+st)
theorem ZaK {r st B:Nat}(j:1<=st)(hB:B % r=0)(q:B % st=0):∀(k f:Nat),f % st=0->f<=B->B-f<k*st->(∀x,x % st=0->x % r=0->1<=x->x<f->False)->upTo r st k f % r=0/\upTo r st k f % st=0/\f<=upTo r st k f/\upTo r st k f<=B/\(∀x,x % st=0->x % r=0->1<=x->x<upTo r st k f->False)
 |0,f,J,M,O,_=>by rw[fv] at O;omega
 |k+1,f,J,M,O,h4=>by
  unfold upTo;by_cases h:f % r=0
  ·rw[if_pos h]
   exact⟨h,J,Zq _,M,h4⟩
  ·rw[if_neg h]
   have fB:f≠B:=λz=>h (z▸hB);obtain⟨u,rfl⟩:=bj J;obtain⟨v,rfl⟩:=bj q;have uv:u<v:=kB (bD M fB);have h5:st*u+st<=st*v:=by
    have:=gA st (show u+1<=v by omega);rw[jT,iR] at this;exact this
   have:=ZaK j hB q k (st*u+st) (by rw[hU,Nat.mul_mod_right]) h5 (by rw[cq] at O;omega) λx x1 Y x3 x4=>?_
   ·exact⟨this.1,this.2.1,by omega,this.2.2.2.1,this.2.2.2.2⟩
   ·by_cases hx:x<st*u
    ·exact h4 x x1 Y x3 hx
    ·obtain⟨y,rfl⟩:=bj x1
     have y1:u<=y:=Nat.le_of_mul_le_mul_left (by omega) j;have y2:y<u+1:=kB (a:=st) (by rw[jT,iR];exact x4);have:y=u:=by omega
     rw[this] at Y;exact h Y
theorem ZbQ {x d r:Nat}(q:x % r=0)(hd:d % r=0):x % d % r=0:=by
 have J:=Nat.mod_add_div x d;have M:(d*(x / d)) % r=0:=by rw[Nat.mul_mod,hd,fv,lG]
 have j:(x % d+d*(x / d)) % r=0:=by rw[J];exact q
 rw[Nat.add_mod,M,dH,Nat.mod_mod] at j;exact j
structure Lc (rs:Nat->Nat)(i f:Nat):Prop where
 f1:1<=f
 dv:∀a,a<i->f % rs a=0
 mn:∀x,(∀a,a<i->x % rs a=0)->x % f=0
theorem Lc.step {rs:Nat->Nat}{i f B:Nat}(L:Lc rs i f)(hB:1<=B)(j:∀a,a<i+1->B % rs a=0){k:Nat}(hk:B<k):Lc rs (i+1) (upTo (rs i) f k f):=by
 have q:B % f=0:=L.mn B λa J=>j a (by omega);have M:=L.f1;have fB:f<=B:=ik (by omega) (bj q);obtain⟨O,Y,h3,h4,h5⟩:=ZaK (r:=rs i) M (j i (by omega)) q k f (iD f) fB (by
  have:k*1<=k*f:=gA k M;omega) λx x1 x2 x3 x4=>by
   have:=ik (by omega) (bj x1);omega
 refine⟨by omega,λa J=>?_,λx hx=>?_⟩
 ·by_cases e:a=i
  ·rw[e];exact O
  ·have:=L.dv a (by omega)
   obtain⟨u,hu⟩:=bj Y;rw[hu,Nat.mul_mod,this,fv,lG]
 ·have xf:x % f=0:=L.mn x λa J=>hx a (by omega)
  apply aj;intro z;exact h5 (x % upTo (rs i) f k f) (ZbQ xf Y) (ZbQ (hx i (by omega)) O) (by omega) (bi _ (by omega))
def Yx (t:T9)(a:Nat):Nat:=((ac t.length).find? λb=>ZO t a b == 0).getD 0
theorem Yc (P:PW t){a:Nat}(j:a<t.length):Yx t a<t.length/\ZO t a (Yx t a)=0:=by
 obtain⟨r,R⟩:=P.rd a j;unfold Yx;cases h:(ac t.length).find? λb=>ZO t a b == 0 with
 |none=>
  exfalso;rw[jc] at h;exact h _ (af.mpr (Jd P j (r-1))) (by rw[R.bk];rfl)
 |some b=>
  have q:=af.mp (gP h);have J:=jV h;exact⟨q,by simpa using J⟩
theorem ZjG (P:PW t){a r:Nat}(j:a<t.length)(R:Rd t a r):it t a (r-1)=Yx t a:=((R.un _ (Yc P j).1 (Yc P j).2)).symm
theorem Xo (P:PW t){a b:Nat}(j:a<t.length)(hb:b<t.length)(h:ZO t a b=0):b=Yx t a:=by
 obtain⟨r,R⟩:=P.rd a j;rw[<-ZjG P j R];exact R.un b hb h
theorem Zar (P:PW t){a:Nat}(j:a<t.length):ZO t (Yx t a) a=0:=by
 obtain⟨q,O⟩:=Yc P j;obtain⟨J,M⟩:=Yc P q;have e:a=Yx t (Yx t a):=by
  have:=P.ass a (Yx t a) (Yx t (Yx t a)) j q J;rw[O,M,P.one _ J,P.oneR a j] at this;exact this.symm
 conv=>lhs;rw[e]
 rw[<-e]
 conv=>lhs;rw[e]
 rw[<-e];rw[show ZO t (Yx t a) a=ZO t (Yx t a) (Yx t (Yx t a)) by rw[<-e]];exact M
def tb (t:T9)(b x:Nat):Nat:=ZO t (ZO t x b) (Yx t x)
theorem XM (P:PW t){b x:Nat}(hb:b<t.length)(j:x<t.length):tb t b x<t.length:=P.lt _ _ (P.lt _ _ j hb) (Yc P j).1
theorem Zbe (P:PW t){b:Nat}(hb:b<t.length):tb t b 0=b:=by
 have j:=P.n1;have e:Yx t 0=0:=(Xo P (by omega) (by omega) (P.one 0 (by omega))).symm;unfold tb;rw[e,P.one b hb,P.oneR b hb]
theorem Xt (P:PW t){b x:Nat}(hb:b<t.length)(j:x<t.length):ZO t (ZO t (Yx t x) (tb t b x)) x=b:=by
 obtain⟨q,_⟩:=Yc P j;have J:=Zar P j;unfold tb;rw[<-P.ass (Yx t x) (ZO t x b) (Yx t x) q (P.lt _ _ j hb) q,<-P.ass (Yx t x) x b q j hb,J,P.one b hb,P.ass b (Yx t x) x hb q j,J,P.oneR b hb]
theorem Zbf (P:PW t){b k x y:Nat}(hb:b<t.length)(hk:k<t.length)(q:x<t.length)(j:y<t.length)(h:tb t b x=tb t k y):∃z,z<t.length/\tb t b z=k:=by
 obtain⟨J,x2⟩:=Yc P q;obtain⟨M,y2⟩:=Yc P j;have yl:=Zar P j;have Y:=P.lt _ _ M q;refine⟨ZO t (Yx t y) x,Y,?_⟩;have e1:Yx t (ZO t (Yx t y) x)=ZO t (Yx t x) y:=by
  refine (Xo P Y (P.lt _ _ J j) ?_).symm;rw[P.ass _ x _ M q (P.lt _ _ J j),<-P.ass x (Yx t x) y q J j,x2,P.one y j,yl]
 have O:=Xt P hk j;rw[<-h] at O;unfold tb at O ⊢;rw[e1,P.ass (Yx t y) x b M q hb,<-P.ass (ZO t (Yx t y) (ZO t x b)) (Yx t x) y (P.lt _ _ M (P.lt _ _ q hb)) J j,P.ass (Yx t y) (ZO t x b) (Yx t x) M (P.lt _ _ q hb) J];exact O
def ZZ (t:T9)(b:Nat):T7:=(ac t.length).filter λa=>(ac t.length).any λx=>tb t b x == a
theorem Yf (P:PW t){b a:Nat}(hb:b<t.length):a∈ZZ t b↔∃x,x<t.length/\tb t b x=a:=by
 unfold ZZ;rw[iE,aY];constructor
 ·rintro⟨_,x,j,e⟩
  exact⟨x,af.mp j,by simpa using e⟩
 ·rintro⟨x,j,e⟩
  exact⟨af.mpr (e▸XM P hb j),x,af.mpr j,by simpa using e⟩
theorem X4 {b a:Nat}(h:a∈ZZ t b):a<t.length:=af.mp (iE.mp h).1
theorem ZdA (b:Nat):(ZZ t b).Pairwise (· < ·):=c7 mF iA
theorem ZfX (b:Nat):(ZZ t b).length<=t.length:=by
 have:=List.length_filter_le (λa=>(ac t.length).any λx=>tb t b x == a) (ac t.length);rw[Zg] at this;exact this
theorem YK (P:PW t){b:Nat}(hb:b<t.length):b∈ZZ t b:=(Yf P hb).mpr ⟨0,by have:=P.n1;omega,Zbe P hb⟩
theorem Yr (P:PW t){b k a:Nat}(hb:b<t.length)(j:k<t.length)(q:a∈ZZ t b)(J:a∈ZZ t k):k∈ZZ t b:=by
 obtain⟨x,M,O⟩:=(Yf P hb).mp q;obtain⟨y,Y,e2⟩:=(Yf P j).mp J;exact (Yf P hb).mpr (Zbf P hb j M Y (O.trans e2.symm))
def ZC (t:T9):Nat->T9
 |0=>[]
 |k+1=>if (ZC t k).any (·.contains k) then ZC t k else ZC t k++[ZZ t k]
def YD (j:T9)(a:Nat):Bool:=j.any (·.contains a)
theorem Jl (P:PW t):∀k,k<=t.length->∀c∈ZC t k,∃b,b<k/\c=ZZ t b
 |0,_,c,h=>by cases h
 |k+1,J,c,h=>by
  unfold ZC at h;split at h
  ·obtain⟨b,q,j⟩:=Jl P k (by omega) c h
   exact⟨b,by omega,j⟩
  ·rcases bO.mp h with h|h
   ·obtain⟨b,q,j⟩:=Jl P k (by omega) c h
    exact⟨b,by omega,j⟩
   ·exact⟨k,by omega,aQ.mp h⟩
theorem JH (P:PW t):∀k,k<=t.length->∀b,b<k->YD (ZC t k) b=true
 |0,_,b,h=>by omega
 |k+1,q,b,h=>by
  unfold YD ZC;split
  ·rename_i j
   by_cases e:b=k
   ·subst e;exact j
   ·exact JH P k (by omega) b (by omega)
  ·rw[iG,bh]
   by_cases e:b=k
   ·subst e
    right;rw[c6,kZ,fV];exact aA.mpr (YK P (by omega))
   ·left
    exact JH P k (by omega) b (by omega)
theorem Vx (P:PW t):∀k,k<=t.length->∀(i j:Nat) (c d:T7) (a:Nat),(ZC t k)[i]?=some c->(ZC t k)[j]?=some d->a∈c->a∈d->i=j
 |0,_,i,j,c,d,a,h,_,_,_=>by cases h
 |k+1,hk,i,j,c,d,a,J,q,Y,h4=>by
  have ih:=Vx P k (by omega);unfold ZC at J q;split at J
  ·rename_i hc
   rw[if_pos hc] at q;exact ih i j c d a J q Y h4
  ·rename_i hc
   rw[if_neg hc] at q;have O:∀c,c∈ZC t k->∀a,a∈c->a∈ZZ t k->False:=λc hm a ha n6=>by
    obtain⟨b,hb,rfl⟩:=Jl P k (by omega) c hm;have:=Yr P (by omega) (by omega) ha n6;exact hc (aY.mpr ⟨_,hm,aA.mpr this⟩)
   by_cases hi:i<(ZC t k).length
   ·rw[au hi] at J
    by_cases hj:j<(ZC t k).length
    ·rw[au hj] at q
     exact ih i j c d a J q Y h4
    ·rw[av (by omega)] at q
     have hd:d=ZZ t k:=by
      cases M:j-(ZC t k).length with
      |zero=>rw[M] at q;cases q;rfl
      |succ m=>rw[M] at q;cases q
     subst hd;exact (O c (az J) a Y h4).elim
   ·rw[av (by omega)] at J
    have n8:c=ZZ t k/\i=(ZC t k).length:=by
     cases M:i-(ZC t k).length with
     |zero=>rw[M] at J;cases J;exact⟨rfl,by omega⟩
     |succ m=>rw[M] at J;cases J
    obtain⟨rfl,ei⟩:=n8;by_cases hj:j<(ZC t k).length
    ·rw[au hj] at q
     exact (O d (az q) a h4 Y).elim
    ·rw[av (by omega)] at q
     cases M:j-(ZC t k).length with
     |zero=>omega
     |succ m=>rw[M] at q;cases q
theorem Wc:∀k,(ZC t k).length<=k
 |0=>Zq _
 |k+1=>by
  have:=Wc k;unfold ZC;split
  ·omega
  ·rw[Zd,Zk];omega
def sm (n:Nat)(f:Nat->Nat):Nat:=((ac n).map f).sum
theorem Z5 {n:Nat}{f g:Nat->Nat}(h:∀x,x<n->f x=g x):sm n f=sm n g:=by
 unfold sm;rw[aX λx j=>h x (af.mp j)]
theorem YI (n:Nat)(f:Nat->Nat):sm (n+1) f=sm n f+f n:=by
 unfold sm;rw[bR,aN,List.sum_append];simp
theorem Zki (n:Nat):sm n (λ_=>0)=0:=by
 induction n with
 |zero=>rfl
 |succ n j=>rw[YI,j]
theorem ZmW (n:Nat)(f g:Nat->Nat):sm n (λx=>f x+g x)=sm n f+sm n g:=by
 induction n with
 |zero=>rfl
 |succ n j=>rw[YI,YI,YI,j];omega
theorem Zef (n k:Nat)(f:Nat->Nat):sm n (λx=>k*f x)=k*sm n f:=by
 induction n with
 |zero=>rfl
 |succ n j=>rw[YI,YI,j,jT]
theorem Zkj (n m:Nat)(f:Nat->Nat->Nat):sm n (λx=>sm m λy=>f x y)=sm m (λy=>sm n λx=>f x y):=by
 induction n with
 |zero=>exact (Zki m).symm
 |succ n j=>
  rw[YI,j,<-ZmW];exact Z5 λy _=>(YI n λx=>f x y).symm
theorem Zbw {n:Nat}{c d:Nat->Nat}(M:∀x,x<n->c x<n)(O:∀x,x<n->d x<n)(q:∀x,x<n->d (c x)=x)(Y:∀x,x<n->c (d x)=x)(f:Nat->Nat):sm n (λx=>f (c x))=sm n f:=by
 unfold sm;have hp:bM ((ac n).map c) (ac n):=by
  refine (cO ?_ de).mpr λk=>?_
  ·unfold mR
   rw[fh];refine cN (λ{a b} ha hb j z=>j ?_) de;rw[<-q a (af.mp ha),z,q b (af.mp hb)]
  ·rw[aE]
   constructor
   ·rintro⟨x,hx,rfl⟩
    exact af.mpr (M x (af.mp hx))
   ·intro J
    exact⟨d k,af.mpr (O k (af.mp J)),Y k (af.mp J)⟩
 have:=(hp.map f).sum_nat;rw[aK] at this;exact this
theorem Ze1 (P:PW t){s:Nat}(q:s<t.length)(f:Nat->Nat):sm t.length (λx=>f (tb t x s))=sm t.length f:=by
 obtain⟨J,O⟩:=Yc P q;have M:=Zar P q;have e:Yx t (Yx t s)=s:=(Xo P J q M).symm;refine Zbw (c:=λx=>tb t x s) (d:=λx=>tb t x (Yx t s)) (λx j=>XM P j q) (λx j=>XM P j J) (λx j=>?_) (λx j=>?_) f
 ·show tb t (tb t x s) (Yx t s)=x
  have:=Xt P j q;unfold tb at this ⊢;rw[e];exact this
 ·show tb t (tb t x (Yx t s)) s=x
  have:=Xt P j J;rw[e] at this;unfold tb at this ⊢;rw[e] at this ⊢;exact this
theorem Uw (P:PW t){s x y:Nat}(j:s<t.length)(M:x<t.length)(J:y<t.length):tb t (ZO t x y) s=ZO t (tb t x s) (tb t y s):=by
 obtain⟨q,_⟩:=Yc P j;have hl:=Zar P j;have O:=P.lt _ _ j M;have Y:=P.lt _ _ j J;unfold tb;rw[P.ass (ZO t s x) (Yx t s) (ZO t (ZO t s y) (Yx t s)) O q (P.lt _ _ Y q),<-P.ass (Yx t s) (ZO t s y) (Yx t s) q Y q,<-P.ass (Yx t s) s y q j J,hl,P.one y J,<-P.ass s x y j M J,P.ass (ZO t s x) y (Yx t s) O J q]
theorem Xs (P:PW t){s:Nat}(j:s<t.length):tb t 0 s=0:=by
 have q:=P.n1;unfold tb;rw[P.oneR s j,(Yc P j).2]
theorem Zhm (P:PW t){s x:Nat}(j:s<t.length)(q:x<t.length):Yx t (tb t x s)=tb t (Yx t x) s:=by
 obtain⟨J,M⟩:=Yc P q;refine (Xo P (XM P q j) (XM P J j) ?_).symm;rw[<-Uw P j q J,M,Xs P j]
theorem ZiM (P:PW t){x:Nat}(q:x<t.length)(F:Nat->Nat->Nat):sm t.length (λy=>F y (ZO t x y))=sm t.length (λw=>F (ZO t (Yx t x) w) w):=by
 obtain⟨J,O⟩:=Yc P q;have M:=Zar P q;have:=Zbw (c:=λy=>ZO t x y) (d:=λy=>ZO t (Yx t x) y) (λy j=>P.lt _ _ q j) (λy j=>P.lt _ _ J j) (λy j=>by
  show ZO t (Yx t x) (ZO t x y)=y;rw[<-P.ass _ _ _ J q j,M,P.one y j]) (λy j=>by
  show ZO t x (ZO t (Yx t x) y)=y;rw[<-P.ass _ _ _ q J j,O,P.one y j]) (λw=>F (ZO t (Yx t x) w) w)
 rw[<-this];refine Z5 λy j=>?_;show F y (ZO t x y)=F (ZO t (Yx t x) (ZO t x y)) (ZO t x y);rw[<-P.ass _ _ _ J q j,M,P.one y j]
def Wm (b:Bool):Nat:=if b then 1 else 0
theorem Zlv (a b:Bool):Wm (a && b)=Wm a*Wm b:=by cases a <;> cases b <;> rfl
theorem ZhI {n z:Nat}(hz:z<n)(f:Nat->Nat):sm n (λw=>Wm (decide (w=z))*f w)=f z:=by
 have j:∀m,m<=n->sm m (λw=>Wm (decide (w=z))*f w)=if z<m then f z else 0:=λm=>by
  induction m with
  |zero=>intro _;rfl
  |succ m q=>
   intro J;rw[YI,q (by omega)];by_cases e:m=z
   ·subst e
    rw[if_neg (bw _),if_pos (cM _),decide_eq_true rfl];show 0+1*f m=f m;omega
   ·rw[decide_eq_false e]
    show _+0*f m=_;by_cases h:z<m
    ·rw[if_pos h,if_pos (by omega)];omega
    ·rw[if_neg h,if_neg (by omega)];omega
 rw[j n (Zq _),if_pos hz]
def Vw (t:T9)(q:Nat->Nat)(i j z:Nat):Nat:=sm t.length λx=>Wm (decide (q x=i))*Wm (decide (q (ZO t (Yx t x) z)=j))
section
variable {nu:Nat->Nat}
theorem Zod (P:PW t)(M:∀x s,x<t.length->s<t.length->nu (tb t x s)=nu x){i j z s:Nat}(hz:z<t.length)(q:s<t.length):Vw t nu i j (tb t z s)=Vw t nu i j z:=by
 unfold Vw;rw[<-Ze1 P q (λx=>Wm (decide (nu x=i))*Wm (decide (nu (ZO t (Yx t x) (tb t z s))=j)))];refine Z5 λx J=>?_;obtain⟨O,_⟩:=Yc P J;rw[M x s J q,Zhm P q J,<-Uw P q O hz,M _ s (P.lt _ _ O hz) q]
theorem ZgY (P:PW t){i j z:Nat}(hz:z<t.length):sm t.length (λx=>sm t.length λy=>Wm (decide (nu x=i))*(Wm (decide (nu y=j))*Wm (decide (ZO t x y=z))))=Vw t nu i j z:=by
 unfold Vw;refine Z5 λx q=>?_;rw[Zef,ZiM P q (λy w=>Wm (decide (nu y=j))*Wm (decide (w=z)))];congr 1;have:sm t.length (λw=>Wm (decide (nu (ZO t (Yx t x) w)=j))*Wm (decide (w=z)))=sm t.length (λw=>Wm (decide (w=z))*Wm (decide (nu (ZO t (Yx t x) w)=j))):=Z5 λw _=>fw _ _;rw[this,ZhI hz λw=>Wm (decide (nu (ZO t (Yx t x) w)=j))]
end
structure Nus (t:T9)(nu rep:Nat->Nat)(N:Nat):Prop where
 lt:∀x,x<t.length->nu x<N
 con:∀x s,x<t.length->s<t.length->nu (tb t x s)=nu x
 tr:∀x y,x<t.length->y<t.length->nu x=nu y->∃s,s<t.length/\tb t x s=y
 rl:∀k,k<N->rep k<t.length
 rn:∀k,k<N->nu (rep k)=k
 z:∀x,x<t.length->(nu x=0↔x=0)
def siz (t:T9)(j:Nat->Nat)(k:Nat):Nat:=sm t.length λx=>Wm (decide (j x=k))
section
variable {nu rep:Nat->Nat}{N:Nat}
theorem Zob (P:PW t)(U:Nus t nu rep N){i j z:Nat}(hz:z<t.length):Vw t nu i j (rep (nu z))=Vw t nu i j z:=by
 have q:=U.lt z hz;obtain⟨s,J,e⟩:=U.tr (rep (nu z)) z (U.rl _ q) hz (U.rn _ q);have:=Zod P U.con (i:=i) (j:=j) (U.rl _ q) J;rw[e] at this;exact this.symm
end
section
variable {t1 t2 T:T9}
end
section
variable {On:Nat->T7}
end
section
variable {o o2:T7}
def Yl (t:T9)(b:Nat):Nat:=(ZC t t.length).findIdx (·.contains b)
theorem Zaj (P:PW t){b:Nat}(hb:b<t.length):Yl t b<(ZC t t.length).length/\b∈(ZC t t.length).getD (Yl t b) []:=by
 have q:=JH P t.length (Zq _) b hb;unfold YD at q;obtain⟨c,J,hm⟩:=aY.mp q;have j:(ZC t t.length).findIdx (·.contains b)<(ZC t t.length).length:=ju ⟨c,J,hm⟩;refine⟨j,?_⟩;have M:=fZ (w:=j);unfold Yl;rw[Zb,Zf j];exact aA.mp M
theorem VM {α:Type}{l:List (List α)}{i:Nat}(h:i<l.length):l[i]?=some (l.getD i []):=by
 rw[Zb,Zf h];rfl
theorem Zcj (P:PW t){b i:Nat}(hb:b<t.length)(j:i<(ZC t t.length).length)(q:b∈(ZC t t.length).getD i []):Yl t b=i:=by
 obtain⟨J,M⟩:=Zaj P hb;exact Vx P t.length (Zq _) _ _ _ _ b (VM J) (VM j) M q
theorem Zcl (P:PW t){i:Nat}(j:i<(ZC t t.length).length):∃b,b<t.length/\(ZC t t.length).getD i []=ZZ t b:=Jl P t.length (Zq _) _ (az (VM j))
theorem Zjx (P:PW t){b x:Nat}(hb:b<t.length)(j:x<t.length):Yl t (tb t b x)=Yl t b:=by
 have M:=XM P hb j;obtain⟨q,J⟩:=Zaj P M;obtain⟨c,O,e⟩:=Zcl P q;have Y:tb t b x∈ZZ t b:=(Yf P hb).mpr ⟨x,j,rfl⟩;rw[e] at J;have h4:=Yr P O hb J Y;exact (Zcj P hb q (by rw[e];exact h4)).symm
theorem Zck (P:PW t){i:Nat}(q:i<(ZC t t.length).length):((ZC t t.length).getD i []).getD 0 0∈(ZC t t.length).getD i []/\((ZC t t.length).getD i []).getD 0 0<t.length:=by
 obtain⟨b,hb,e⟩:=Zcl P q;rw[e];have j:=YK P hb;have:(ZZ t b).getD 0 0∈ZZ t b:=by
  cases h:ZZ t b with
  |nil=>rw[h] at j;cases j
  |cons x r=>exact ar
 exact⟨this,X4 this⟩
end
def ZK (t:T9)(k:Nat):Nat:=((ZC t t.length).getD k []).getD 0 0
theorem JU (P:PW t){k:Nat}(j:k<(ZC t t.length).length):∃b,b<t.length/\(ZC t t.length).getD k []=ZZ t b:=by
 have q:(ZC t t.length).getD k []∈ZC t t.length:=by
  rw[Zb,Zf j];exact bB j
 exact Jl P t.length (Zq _) _ q
theorem Zfl (P:PW t){k:Nat}(q:k<(ZC t t.length).length):ZK t k∈(ZC t t.length).getD k []:=by
 obtain⟨b,hb,e⟩:=JU P q;unfold ZK;rw[e];have j:=YK P hb;cases h:ZZ t b with
 |nil=>rw[h] at j;cases j
 |cons x r=>exact ar
theorem Zh5 (P:PW t){k:Nat}(j:k<(ZC t t.length).length):ZK t k<t.length:=by
 obtain⟨b,hb,e⟩:=JU P j;have:=Zfl P j;rw[e] at this;exact X4 this
theorem ZcN (P:PW t){x y:Nat}(j:x<t.length)(M:y<t.length)(h:Yl t x=Yl t y):∃s,s<t.length/\tb t x s=y:=by
 obtain⟨hk,Y⟩:=Zaj P j;obtain⟨_,O⟩:=Zaj P M;rw[<-h] at O;obtain⟨b,hb,e⟩:=JU P hk;rw[e] at Y O;obtain⟨u,hu,eu⟩:=(Yf P hb).mp Y;have n6:x∈ZZ t x:=YK P j;have J:b∈ZZ t x:=Yr P j hb n6 Y;have:y∈ZZ t x:=by
  obtain⟨v,hv,ev⟩:=(Yf P hb).mp O;obtain⟨q,hq,eq⟩:=(Yf P j).mp J;have n8:b∈ZZ t y:=Yr P M hb (YK P M) O;have n9:y∈ZZ t x:=Yr P j M J n8;exact n9
 exact (Yf P j).mp this
theorem Za5:∀k,(ZC t (k+1))[0]?=some (ZZ t 0)
 |0=>rfl
 |k+1=>by
  have j:=Za5 k;show (if (ZC t (k+1)).any (·.contains (k+1)) then ZC t (k+1) else ZC t (k+1)++[ZZ t (k+1)])[0]?=_
  split
  ·exact j
  ·rw[au (ae.mp j).1]
   exact j
theorem Zai (P:PW t):Yl t 0=0:=by
 obtain⟨k,j⟩:∃k,t.length=k+1:=⟨t.length-1,by have:=P.n1;omega⟩;have h:=Za5 (t:=t) k;rw[<-j] at h;have q:=(ae.mp h).1;refine Zcj P P.n1 q ?_;rw[Zb,h];exact YK P P.n1
theorem YU (P:PW t):Nus t (Yl t) (ZK t) (ZC t t.length).length:=by
 have M:=Zai P;refine⟨λx j=>(Zaj P j).1,λx s j J=>Zjx P j J,λx y j O h=>ZcN P j O h,λk q=>Zh5 P q,λk q=>Zcj P (Zh5 P q) q (Zfl P q),λx j=>⟨λh=>?_,λh=>by rw[h];exact M⟩⟩;obtain⟨s,J,e⟩:=ZcN P P.n1 j (M.trans h.symm);rw[Xs P J] at e;exact e.symm
def Wo (n:Nat)(f:Nat->Int):Int:=((ac n).map f).sum
theorem YQ (n:Nat)(f:Nat->Int):Wo (n+1) f=Wo n f+f n:=by
 unfold Wo;rw[bR,aN,List.sum_append];simp
theorem Z8 {n:Nat}{f g:Nat->Int}(h:∀x,x<n->f x=g x):Wo n f=Wo n g:=by
 unfold Wo;rw[aX λx j=>h x (af.mp j)]
theorem J7 (n:Nat):Wo n (λ_=>0)=0:=by
 induction n with
 |zero=>rfl
 |succ n j=>rw[YQ,j];rfl
theorem Zby (n:Nat)(f g:Nat->Int):Wo n (λx=>f x+g x)=Wo n f+Wo n g:=by
 induction n with
 |zero=>rfl
 |succ n j=>rw[YQ,YQ,YQ,j];omega
theorem JO (n:Nat)(k:Int)(f:Nat->Int):Wo n (λx=>k*f x)=k*Wo n f:=by
 induction n with
 |zero=>exact (bv k).symm
 |succ n j=>rw[YQ,YQ,j,mH]
theorem ZcK (n m:Nat)(f:Nat->Nat->Int):Wo n (λx=>Wo m λy=>f x y)=Wo m (λy=>Wo n λx=>f x y):=by
 induction n with
 |zero=>
  show (0:Int)=_;exact (J7 m).symm
 |succ n j=>
  rw[YQ,j,<-Zby];exact Z8 λy _=>(YQ n _).symm
theorem Vh {n:Nat}{p:Int}{f g:Nat->Int}(h:∀x,x<n->f x % p=g x % p):Wo n f % p=Wo n g % p:=by
 induction n with
 |zero=>rfl
 |succ n j=>
  rw[YQ,YQ,Int.add_emod,j λx q=>h x (by omega),h n (by omega),<-Int.add_emod]
theorem Ze7 {n z:Nat}(hz:z<n)(f:Nat->Int):Wo n (λw=>if w=z then f w else 0)=f z:=by
 induction n with
 |zero=>omega
 |succ n j=>
  rw[YQ];by_cases e:z=n
  ·subst e
   rw[if_pos rfl];have:Wo z (λw=>if w=z then f w else 0)=Wo z (λ_=>0):=Z8 λx q=>if_neg (by omega)
   rw[this,J7,ce]
  ·rw[j (by omega),if_neg (λx=>e x.symm),a5]
theorem Zbx (n:Nat)(f:Nat->Nat):Wo n (λx=>(f x:Int))=(sm n f:Nat):=by
 induction n with
 |zero=>rfl
 |succ n j=>rw[YQ,YI,j];omega
def V8 (t:T9)(u x:Nat):Bool:=(ac t.length).any λy=>tb t u y == x
theorem Xm {t:T9}{u x:Nat}:V8 t u x=true↔∃y,y<t.length/\tb t u y=x:=by
 unfold V8;rw[aY];constructor
 ·rintro⟨y,j,e⟩;exact⟨y,af.mp j,eq_of_beq e⟩
 ·rintro⟨y,j,e⟩;exact⟨y,af.mpr j,beq_iff_eq.mpr e⟩
structure PrM (p:Nat):Prop where
 p2:2<=p
 nz:∀a b,0<a->a<p->0<b->b<p->a*b % p≠0
 iv:∀a,0<a->a<p->∃b,0<b/\b<p/\b*a % p=1
structure CD (t:T9)(p m:Nat)(e w f:Nat->Nat->Nat):Prop where
 pr:PrM p
 m1:1<=m
 mc:m=(ZC t t.length).length
 ec:∀s x y,s<m->x<t.length->y<t.length->e s (tb t x y)=e s x
 wc:∀s x y,s<m->x<t.length->y<t.length->w s (tb t x y)=w s x
 elt:∀s x,s<m->x<t.length->e s x<p
 wlt:∀s x,s<m->x<t.length->w s x<p
 eig:∀s u z,s<m->u<t.length->z<t.length->sm t.length (λx=>Wm (V8 t u x)*e s (ZO t (Yx t x) z)) % p=w s u*e s z % p
 one:∀x,x<t.length->sm m (λs=>e s x) % p=if x=0 then 1 else 0
 du:∀s s',s<m->s'<m->sm t.length (λx=>f s x*e s' x) % p=if s=s' then 1 else 0
 sep:∀s s',s<m->s'<m->(∀u,u<t.length->w s u=w s' u)->s=s'
section
variable {e w f:Nat->Nat->Nat}
theorem CD.p0 (C:CD t p m e w f):(p:Int)≠0:=by have:=C.pr.p2;omega
def EC (t:T9)(e:Nat->Nat->Nat)(s c:Nat):Nat:=e s (ZK t c)
theorem CD.at (C:CD t p m e w f)(P:PW t){s x:Nat}(J:s<m)(q:x<t.length):e s x=EC t e s (Yl t x):=by
 have U:=YU P;have j:=U.lt x q;obtain⟨y,M,h⟩:=U.tr (ZK t (Yl t x)) x (U.rl _ j) q (U.rn _ j);have:=C.ec s _ y J (U.rl _ j) M;rw[h] at this;exact this
theorem CD.wat (C:CD t p m e w f)(P:PW t){s x:Nat}(J:s<m)(q:x<t.length):w s x=w s (ZK t (Yl t x)):=by
 have U:=YU P;have j:=U.lt x q;obtain⟨y,M,h⟩:=U.tr (ZK t (Yl t x)) x (U.rl _ j) q (U.rn _ j);have:=C.wc s _ y J (U.rl _ j) M;rw[h] at this;exact this
theorem Zal (P:PW t){u x:Nat}(j:u<t.length)(J:x<t.length):V8 t u x=decide (Yl t x=Yl t u):=by
 have U:=YU P;by_cases h:Yl t x=Yl t u
 ·rw[decide_eq_true h]
  exact Xm.mpr (U.tr u x j J h.symm)
 ·rw[decide_eq_false h]
  cases q:V8 t u x with
  |false=>rfl
  |true=>
   obtain⟨y,M,e⟩:=Xm.mp q;have:=U.con u y j M;rw[e] at this;exact absurd this h
theorem CD.LE (C:CD t p m e w f)(P:PW t){s i c:Nat}(J:s<m)(hi:i<m)(hc:c<m) :
  sm m (λj=>EC t e s j*Vw t (Yl t) i j (ZK t c)) % p=w s (ZK t i)*EC t e s c % p:=by
 have U:=YU P;have Y:=C.mc;have M:ZK t i<t.length:=U.rl i (by omega);have q:ZK t c<t.length:=U.rl c (by omega);rw[show w s (ZK t i)*EC t e s c=w s (ZK t i)*e s (ZK t c) from rfl,<-C.eig s _ _ J M q];congr 1;have h1:sm m (λj=>EC t e s j*Vw t (Yl t) i j (ZK t c))=sm m (λj=>sm t.length λx=>Wm (decide (Yl t x=i))*(Wm (decide (Yl t (ZO t (Yx t x) (ZK t c))=j))*EC t e s j)):=Z5 λj _=>by
  unfold Vw;rw[<-Zef];refine Z5 λx _=>?_;rw[fw (EC t e s j),kK]
 rw[h1,Zkj];refine Z5 λx O=>?_;rw[Zef,Zal P M O,U.rn i (by omega)];congr 1;have hb:=(Yc P O).1;have hl:Yl t (ZO t (Yx t x) (ZK t c))<m:=by rw[Y];exact U.lt _ (P.lt _ _ hb q)
 have:=ZhI hl (λj=>EC t e s j);rw[C.at P J (P.lt _ _ hb q),<-this];refine Z5 λj _=>?_;congr 2;rw[decide_eq_decide];exact eq_comm
def Vc (t:T9)(p m:Nat)(e:Nat->Nat->Nat)(α:Nat->Int)(c:Nat):Int:=Wo m (λs=>α s*(EC t e s c:Int)) % (p:Int)
theorem Xp {α j:Nat->Int}(h:∀s,s<m->α s % (p:Int)=j s % (p:Int))(c:Nat):Vc t p m e α c=Vc t p m e j c:=by
 unfold Vc;refine Vh λs q=>?_;rw[bN,h s q,<-bN]
theorem ZjJ (α:Nat->Int)(u:Int)(c:Nat):Vc t p m e α c*u % (p:Int)=Vc t p m e (λs=>α s*u) c:=by
 unfold Vc;rw[bN,f9 _ (jB _),<-bN,bG,<-JO];congr 1;refine Z8 λs _=>?_;rw[<-aZ,bG u]
theorem Zoo (α j:Nat->Int)(c:Nat):(Vc t p m e α c-Vc t p m e j c) % (p:Int)=Vc t p m e (λs=>α s - j s) c:=by
 unfold Vc;rw[<-iH];congr 1;have:Wo m (λs=>(α s - j s)*(EC t e s c:Int))=Wo m (λs=>α s*(EC t e s c:Int)+(-1)*(j s*(EC t e s c:Int))):=Z8 λs _=>by
  rw[iS];omega
 rw[this,Zby,JO];omega
theorem ZlU (C:CD t p m e w f)(P:PW t){i c:Nat}(q:i<m)(J:c<m)(α:Nat->Int)(k:Int) :
  (Wo m (λj=>Vc t p m e α j*(Vw t (Yl t) i j (ZK t c):Int))-k*Vc t p m e α c) % (p:Int)=Vc t p m e (λs=>α s*((w s (ZK t i):Int)-k)) c:=by
 have M:Wo m (λj=>Vc t p m e α j*(Vw t (Yl t) i j (ZK t c):Int)) % (p:Int)=Wo m (λs=>α s*((w s (ZK t i):Int)*(EC t e s c:Int))) % (p:Int):=by
  have O:Wo m (λj=>Vc t p m e α j*(Vw t (Yl t) i j (ZK t c):Int)) % (p:Int)=Wo m (λj=>Wo m (λs=>α s*(EC t e s j:Int))*(Vw t (Yl t) i j (ZK t c):Int)) % (p:Int):=Vh λj _=>by
   unfold Vc;rw[bN,f9 _ (jB _),<-bN]
  rw[O];have Y:Wo m (λj=>Wo m (λs=>α s*(EC t e s j:Int))*(Vw t (Yl t) i j (ZK t c):Int))=Wo m (λs=>α s*Wo m (λj=>((EC t e s j*Vw t (Yl t) i j (ZK t c):Nat):Int))):=by
   have e3:∀j,Wo m (λs=>α s*(EC t e s j:Int))*(Vw t (Yl t) i j (ZK t c):Int)=Wo m (λs=>α s*((EC t e s j*Vw t (Yl t) i j (ZK t c):Nat):Int)):=λj=>by
    rw[bG,<-JO];refine Z8 λs _=>?_;rw[aI,<-aZ,bG _ (α s),aZ,bG (Vw t (Yl t) i j (ZK t c):Int)]
   rw[Z8 λj _=>e3 j,ZcK];refine Z8 λs _=>?_;rw[<-JO]
  rw[Y];refine Vh λs hs=>?_;rw[Zbx,bN];have:=C.LE P hs q J;have h2:((sm m (λj=>EC t e s j*Vw t (Yl t) i j (ZK t c)):Nat):Int) % (p:Int)=((w s (ZK t i):Int)*(EC t e s c:Int)) % (p:Int):=by
   rw[<-aI,<-a9,<-a9,this]
  rw[h2,<-bN]
 rw[iH,M,<-iH];have h3:(k*Vc t p m e α c) % (p:Int)=(k*Wo m (λs=>α s*(EC t e s c:Int))) % (p:Int):=by
  unfold Vc;rw[bN,f9 _ (jB _),<-bN]
 rw[iH,h3,<-iH];unfold Vc;congr 1;have:Wo m (λs=>α s*((w s (ZK t i):Int)-k)*(EC t e s c:Int))=Wo m (λs=>α s*((w s (ZK t i):Int)*(EC t e s c:Int))+(-k)*(α s*(EC t e s c:Int))):=Z8 λs _=>by
  rw[iT,iS,aZ,fe,bG (α s) k,aZ k];omega
 rw[this,Zby,JO,fe];omega
theorem ZmE (C:CD t p m e w f)(P:PW t)(α:Nat->Int)(h:∀c,c<m->Vc t p m e α c=0):∀s,s<m->α s % (p:Int)=0:=by
 intro s O;have U:=YU P;have mc:=C.mc;have M:Wo t.length (λx=>(f s x:Int)*Wo m (λj=>α j*(e j x:Int))) % (p:Int)=0:=by
  have:Wo t.length (λx=>(f s x:Int)*Wo m (λj=>α j*(e j x:Int))) % (p:Int)=Wo t.length (λ_=>0) % (p:Int):=Vh λx Y=>by
   have hc:=U.lt x Y;have hv:=h (Yl t x) (by omega);unfold Vc at hv;have:Wo m (λj=>α j*(e j x:Int))=Wo m (λj=>α j*(EC t e j (Yl t x):Int)):=Z8 λj J=>by rw[C.at P J Y]
   rw[this,bN,hv];simp
  rw[this,J7];rfl
 have h2:Wo t.length (λx=>(f s x:Int)*Wo m (λj=>α j*(e j x:Int)))=Wo m (λj=>α j*((sm t.length (λx=>f s x*e j x):Nat):Int)):=by
  have e1:∀x,(f s x:Int)*Wo m (λj=>α j*(e j x:Int))=Wo m (λj=>α j*((f s x*e j x:Nat):Int)):=λx=>by
   rw[<-JO];refine Z8 λj _=>?_;rw[aI,<-aZ,bG _ (α j),aZ]
  rw[Z8 λx _=>e1 x,ZcK];refine Z8 λj _=>?_;rw[JO,Zbx]
 rw[h2] at M;have h3:Wo m (λj=>α j*((sm t.length (λx=>f s x*e j x):Nat):Int)) % (p:Int)=Wo m (λj=>if j=s then α j else 0) % (p:Int):=Vh λj J=>by
  have d:=C.du s j O J;have d2:((sm t.length (λx=>f s x*e j x):Nat):Int) % (p:Int)=(if s=j then 1 else 0:Int):=by
   rw[<-a9,d];split <;> rfl
  rw[bN,d2];by_cases q:j=s
  ·rw[if_pos q,if_pos q.symm]
   simp
  ·rw[if_neg q,if_neg (λz=>q z.symm)]
   simp
 rw[h3,Ze7 O] at M;exact M
theorem Zp8 (C:CD t p m e w f)(P:PW t){s c:Nat}(j:s<m)(J:c<m):Vc t p m e (λs'=>if s'=s then 1 else 0) c=(EC t e s c:Int):=by
 unfold Vc;have:Wo m (λs'=>(if s'=s then (1:Int) else 0)*(EC t e s' c:Int))=Wo m (λs'=>if s'=s then (EC t e s' c:Int) else 0):=Z8 λs' _=>by
  split
  ·rw[fc]
  ·rw[bc]
 rw[this,Ze7 j];have q:ZK t c<t.length:=(YU P).rl c (by have:=C.mc;omega);have:=C.elt s _ j q;rw[fC (by omega)];unfold EC;omega
theorem Zop (C:CD t p m e w f)(P:PW t){c:Nat}(J:c<m):Vc t p m e (λ_=>1) c=if c=0 then 1 else 0:=by
 have U:=YU P;have j:c<(ZC t t.length).length:=by have:=C.mc;omega
 have q:=U.rl c j;unfold Vc;have:Wo m (λs=>1*(EC t e s c:Int))=((sm m (λs=>e s (ZK t c)):Nat):Int):=by
  rw[<-Zbx];exact Z8 λs _=>fc _
 rw[this,<-a9,C.one _ q];have:ZK t c=0↔c=0:=by
  rw[<-U.z _ q,U.rn c j]
 by_cases h:c=0
 ·rw[if_pos (this.mpr h),if_pos h];rfl
 ·rw[if_neg (λz=>h (this.mp z)),if_neg h];rfl
end
def ffI (w:Nat):Nat->Int
 |0=>1
 |k+1=>ffI w k*((w:Int)-(k:Int))
theorem Zb9 {w:Nat}:∀{k:Nat},w<k->ffI w k=0
 |0,h=>by omega
 |k+1,h=>by
  rw[ffI];by_cases e:w=k
  ·subst e
   rw[Int.sub_self,bv]
  ·rw[Zb9 (by omega),bc]
theorem PrM.nzI {p:Nat}(h:PrM p){a:Int}{b:Nat}(M:a % (p:Int)≠0)(hb:0<b)(j:b<p):a*(b:Int) % (p:Int)≠0:=by
 have O:=h.p2;have p0:(p:Int)≠0:=by omega
 obtain⟨r,q⟩:=cG (cu a p0);have J:=bT a (show (0:Int)<p by omega);rw[bN,q,<-a9 b p,<-aI,<-a9,aT j];have:=h.nz r b (by omega) (by omega) hb j;omega
theorem Zjg {p:Nat}(h:PrM p){w:Nat}(hw:w<p):∀{k:Nat},k<=w->ffI w k % (p:Int)≠0
 |0,_=>by
  have:=h.p2;rw[ffI,fC (by omega) (by omega)];decide
 |k+1,j=>by
  rw[ffI,show (w:Int)-(k:Int)=((w-k:Nat):Int) by omega];exact h.nzI (Zjg h hw (by omega)) (by omega) (by omega)
def fcI (p:Nat):Nat->Int
 |0=>1
 |k+1=>fcI p k*((k:Int)+1) % (p:Int)
theorem Zdq (w:Nat):∀k,ffI (w+1) (k+1)=((w:Int)+1)*ffI w k
 |0=>by
  show (1:Int)*(((w+1:Nat):Int)-0)=((w:Int)+1)*1;omega
 |k+1=>by
  rw[ffI,Zdq w k,ffI];have:((w+1:Nat):Int)-((k+1:Nat):Int)=(w:Int)-(k:Int):=by omega
  rw[this,aZ]
theorem Zji (p:Nat):∀k,fcI p k % (p:Int)=ffI k k % (p:Int)
 |0=>rfl
 |k+1=>by
  rw[fcI,Zdq,f9 _ (jB _),bN,Zji p k,<-bN,bG]
theorem Zmz {p:Nat}(j:2<=p):∀k,0<=fcI p k/\fcI p k<(p:Int)
 |0=>by unfold fcI;omega
 |k+1=>by
  rw[fcI];exact⟨cu _ (by omega),bT _ (by omega)⟩
def XI (S:Nat->Bool)(s:Nat):Int:=if S s then 1 else 0
theorem ZnM {m:Nat}{S:Nat->Bool}{g:Nat->Nat}(h:∃s,s<m/\S s=true):∃M,(∃s,s<m/\S s=true/\g s=M)/\∀s,s<m->S s=true->g s<=M:=by
 induction m with
 |zero=>obtain⟨s,Y,_⟩:=h;omega
 |succ m ih=>
  by_cases O:∃s,s<m/\S s=true
  ·obtain⟨M,⟨s,Y,h1,h2⟩,h3⟩:=ih O
   by_cases hq:S m=true/\M<g m
   ·refine⟨g m,⟨m,by omega,hq.1,rfl⟩,λj J q=>?_⟩
    by_cases z:j=m
    ·rw[z];exact Zq _
    ·have:=h3 j (by omega) q
     omega
   ·refine⟨M,⟨s,by omega,h1,h2⟩,λj J q=>?_⟩
    by_cases z:j=m
    ·subst z
     by_cases zz:M<g j
     ·exact absurd ⟨q,zz⟩ hq
     ·omega
    ·exact h3 j (by omega) q
  ·obtain⟨s,Y,q⟩:=h
   have:s=m:=by
    by_cases z:s=m
    ·exact z
    ·exact absurd ⟨s,by omega,q⟩ O
   subst this;refine⟨g s,⟨s,by omega,q,rfl⟩,λj J q'=>?_⟩;by_cases z:j=s
   ·rw[z];exact Zq _
   ·exact absurd ⟨j,by omega,q'⟩ O
section
variable {e w f:Nat->Nat->Nat}
def lpA (S:Nat->Bool)(g:Nat->Nat)(k s:Nat):Int:=XI S s*ffI (g s) k
theorem Zlk (S:Nat->Bool)(g:Nat->Nat)(k:Nat):(λs=>lpA S g k s*((g s:Int)-(k:Int)))=lpA S g (k+1):=by
 funext s;unfold lpA;rw[ffI,aZ]
theorem Zlj (S:Nat->Bool)(g:Nat->Nat):lpA S g 0=XI S:=by
 funext s;unfold lpA;rw[ffI,f8]
theorem ZnO (C:CD t p m e w f)(P:PW t){S:Nat->Bool}{g:Nat->Nat}(O:∀s,s<m->g s<p){M:Nat}(Y:∃s,s<m/\S s=true/\g s=M)(h2:∀s,s<m->S s=true->g s<=M)(k:Nat) :
  (∃c,c<m/\Vc t p m e (lpA S g k) c≠0)↔k<=M:=by
 constructor
 ·rintro⟨c,J,h⟩
  by_cases z:k<=M
  ·exact z
  ·refine absurd ?_ h
   have:Vc t p m e (lpA S g k) c=Vc t p m e (λ_=>0) c:=Xp (λs j=>by
    unfold lpA XI;by_cases q:S s=true
    ·have:=h2 s j q
     rw[Zb9 (show g s<k by omega),bv]
    ·rw[if_neg q,bc]) c
   rw[this];unfold Vc;rw[Z8 (g:=λ_=>0) λs _=>bc _,J7];rfl
 ·intro hk
  obtain⟨s,j,q1,q2⟩:=Y;refine aj λhn=>?_;have hz:∀c,c<m->Vc t p m e (lpA S g k) c=0:=λc J=>aj λz=>hn ⟨c,J,z⟩;have:=ZmE C P _ hz s j;unfold lpA XI at this;rw[if_pos q1,fc] at this;exact Zjg C.pr (O s j) (by omega) this
def XH (S:Nat->Bool)(g:Nat->Nat)(M:Nat)(s:Nat):Bool:=S s && decide (g s=M)
theorem ZnN (C:CD t p m e w f){S:Nat->Bool}{g:Nat->Nat}{M:Nat}(j:∀s,s<m->S s=true->g s<=M){u:Int}(J:u*fcI p M % (p:Int)=1)(c:Nat) :
  Vc t p m e (lpA S g M) c*u % (p:Int)=Vc t p m e (XI (XH S g M)) c:=by
 rw[ZjJ];refine Xp (λs O=>?_) c;unfold lpA XI XH;by_cases q:S s=true
 ·rw[q,if_pos rfl,fc]
  by_cases z:g s=M
  ·rw[decide_eq_true z,z]
   show ffI M M*u % (p:Int)=1 % (p:Int);rw[bN,<-Zji,<-bN,bG,J,fC (by omega) (by have:=C.pr.p2;omega)]
  ·have:=j s O q
   rw[decide_eq_false z,Zb9 (show g s<M by omega),bc];rfl
 ·rw[if_neg q,bc,bc]
  have:S s=false:=by cases Y:S s with|true=>exact absurd Y q|false=>rfl
  rw[this];rfl
def ZbY (S:Nat->Bool)(g:Nat->Nat)(M:Nat)(s:Nat):Bool:=S s && decide (g s<M)
theorem ZnP {S:Nat->Bool}{g:Nat->Nat}{M:Nat}(j:∀s,s<m->S s=true->g s<=M)(c:Nat) :
  (Vc t p m e (XI S) c-Vc t p m e (XI (XH S g M)) c) % (p:Int)=Vc t p m e (XI (ZbY S g M)) c:=by
 rw[Zoo];refine Xp (λs J=>?_) c;congr 1;unfold XI XH ZbY;cases q:S s with
 |false=>rfl
 |true=>
  have:=j s J q;by_cases z:g s=M
  ·rw[decide_eq_true z,decide_eq_false (by omega)];rfl
  ·rw[decide_eq_false z,decide_eq_true (by omega)];rfl
theorem Zf3 (C:CD t p m e w f)(P:PW t)(S:Nat->Bool):(∃c,c<m/\Vc t p m e (XI S) c≠0)↔∃s,s<m/\S s=true:=by
 constructor
 ·rintro⟨c,M,h⟩
  refine aj λj=>h ?_;have:Vc t p m e (XI S) c=Vc t p m e (λ_=>0) c:=Xp (λs J=>by
   unfold XI;rw[if_neg (λz=>j ⟨s,J,z⟩)]) c
  rw[this];unfold Vc;rw[Z8 (g:=λ_=>0) λs _=>bc _,J7];rfl
 ·rintro⟨s,J,q⟩
  refine aj λj=>?_;have:=ZmE C P _ (λc M=>aj λz=>j ⟨c,M,z⟩) s J;unfold XI at this;rw[if_pos q,fC (by omega) (by have:=C.pr.p2;omega)] at this;cases this
end
structure PtS (m:Nat)(S:Nat->Bool)(g:Nat->Nat)(Ss:List (Nat->Bool)):Prop where
 ne:∀T∈Ss,∃s,s<m/\T s=true
 sub:∀T∈Ss,∀s,s<m->T s=true->S s=true
 cov:∀s,s<m->S s=true->∃T∈Ss,T s=true
 dj:Ss.Pairwise λT T'=>∀s,s<m->T s=true->T' s=true->False
 eq:∀T∈Ss,∀s s',s<m->s'<m->T s=true->T s'=true->g s=g s'
structure PtW (m:Nat)(S:Nat->Bool)(g:Nat->Nat)(Ss:List (Nat->Bool))(R:Nat->Bool):Prop where
 ne:∀T∈Ss,∃s,s<m/\T s=true
 sub:∀T∈Ss,∀s,s<m->T s=true->S s=true
 rs:∀s,s<m->R s=true->S s=true
 cov:∀s,s<m->S s=true->R s=true\/∃T∈Ss,T s=true
 dj:Ss.Pairwise λT T'=>∀s,s<m->T s=true->T' s=true->False
 dr:∀T∈Ss,∀s,s<m->T s=true->R s=true->False
 eq:∀T∈Ss,∀s s',s<m->s'<m->T s=true->T s'=true->g s=g s'
theorem PtW.zero {m:Nat}{S:Nat->Bool}{g:Nat->Nat}:PtW m S g [] S:=
 ⟨λ_ h=>(by cases h),λ_ h=>(by cases h),λs _ h=>h,λs _ h=>.inl h,.nil,λ_ h=>(by cases h),λ_ h=>(by cases h)⟩
theorem PtW.step {m:Nat}{S R:Nat->Bool}{g:Nat->Nat}{Ss:List (Nat->Bool)}(W:PtW m S g Ss R){M:Nat}(h1:∃s,s<m/\R s=true/\g s=M)(h2:∀s,s<m->R s=true->g s<=M):PtW m S g (Ss++[XH R g M]) (ZbY R g M):=by
 have Y:∀s,XH R g M s=true->R s=true/\g s=M:=λs h=>by
  unfold XH at h;rw[ag,decide_eq_true_eq] at h;exact h
 have lw:∀s,ZbY R g M s=true->R s=true/\g s<M:=λs h=>by
  unfold ZbY at h;rw[ag,decide_eq_true_eq] at h;exact h
 have O:∀{T:Nat->Bool},T∈Ss++[XH R g M]->T∈Ss\/T=XH R g M:=λ{T} h=>by
  rcases bO.mp h with h|h
  ·exact .inl h
  ·exact .inr (aQ.mp h)
 refine⟨λT J=>?_,λT J s j q=>?_,λs j q=>W.rs s j (lw s q).1,λs j q=>?_,?_,λT J s j q1 q2=>?_,λT J s s' j n6 q q'=>?_⟩
 ·rcases O J with h|rfl
  ·exact W.ne T h
  ·obtain⟨s,j,a,b⟩:=h1
   exact⟨s,j,by unfold XH;rw[a,decide_eq_true b];rfl⟩
 ·rcases O J with h|rfl
  ·exact W.sub T h s j q
  ·exact W.rs s j (Y s q).1
 ·rcases W.cov s j q with h|⟨T,J,h⟩
  ·have:=h2 s j h
   by_cases z:g s=M
   ·exact .inr ⟨_,aO _ ar,by unfold XH;rw[h,decide_eq_true z];rfl⟩
   ·exact .inl (by unfold ZbY;rw[h,decide_eq_true (by omega)];rfl)
  ·exact .inr ⟨T,cg _ J,h⟩
 ·rw[iK]
  refine⟨W.dj,im _ _,λT J T' n8 s j q q'=>?_⟩;rw[aQ.mp n8] at q';exact W.dr T J s j q (Y s q').1
 ·rcases O J with h|rfl
  ·exact W.dr T h s j q1 (lw s q2).1
  ·have a:=(Y s q1).2
   have b:=(lw s q2).2;omega
 ·rcases O J with h|rfl
  ·exact W.eq T h s s' j n6 q q'
  ·rw[(Y s q).2,(Y s' q').2]
theorem PtW.end {m:Nat}{S R:Nat->Bool}{g:Nat->Nat}{j:List (Nat->Bool)}(W:PtW m S g j R)(h:¬ ∃s,s<m/\R s=true):PtS m S g j:=
 ⟨W.ne,W.sub,λs J q=>by
  rcases W.cov s J q with z|z
  ·exact absurd ⟨s,J,z⟩ h
  ·exact z,W.dj,W.eq⟩
structure XL (m:Nat)(w:Nat->Nat->Nat)(i:Nat)(Ss:List (Nat->Bool)):Prop where
 ne:∀T∈Ss,∃s,s<m/\T s=true
 cov:∀s,s<m->∃T∈Ss,T s=true
 dj:Ss.Pairwise λT T'=>∀s,s<m->T s=true->T' s=true->False
 eq:∀T∈Ss,∀s s',s<m->s'<m->T s=true->T s'=true->∀j,j<i->w s j=w s' j
theorem XL.zero {m:Nat}(m1:1<=m)(w:Nat->Nat->Nat):XL m w 0 [λ_=>true]:=
 ⟨λT q=>⟨0,m1,by rw[aQ.mp q]⟩,λs _=>⟨_,ar,rfl⟩,im _ _,λ_ _ _ _ _ _ _ _ j J=>by omega⟩
inductive FiS (m:Nat) (g:Nat->Nat):List (Nat->Bool)->List (Nat->Bool)->Prop
 |nil:FiS m g [] []
 |snoc {Ss Fs Ts:List (Nat->Bool)}{S:Nat->Bool}:FiS m g Ss Fs->PtS m S g Ts->FiS m g (Ss++[S]) (Fs++Ts)
theorem FiS.out {m:Nat}{g:Nat->Nat}{M O:List (Nat->Bool)}(h:FiS m g M O):(∀T∈O,(∃s,s<m/\T s=true)/\(∃S∈M,∀s,s<m->T s=true->S s=true)/\∀s s',s<m->s'<m->T s=true->T s'=true->g s=g s')/\(∀S∈M,∀s,s<m->S s=true->∃T∈O,T s=true):=by
 induction h with
 |nil=>exact⟨λ_ h=>(by cases h),λ_ h=>(by cases h)⟩
 |snoc h p Y=>
  refine⟨λT j=>?_,λS J s hs q=>?_⟩
  ·rcases bO.mp j with j|j
   ·obtain⟨a,⟨S,J,b⟩,c⟩:=Y.1 T j
    exact⟨a,⟨S,cg _ J,b⟩,c⟩
   ·exact⟨p.ne T j,⟨_,aO _ ar,p.sub T j⟩,p.eq T j⟩
  ·rcases bO.mp J with J|J
   ·obtain⟨T,j,z⟩:=Y.2 S J s hs q
    exact⟨T,cg _ j,z⟩
   ·rw[aQ.mp J] at q
    obtain⟨T,j,z⟩:=p.cov s hs q;exact⟨T,aO _ j,z⟩
theorem FiS.dj {m:Nat}{g:Nat->Nat}{Y Fs:List (Nat->Bool)}(h:FiS m g Y Fs)(J:Y.Pairwise λT j=>∀s,s<m->T s=true->j s=true->False):Fs.Pairwise λT j=>∀s,s<m->T s=true->j s=true->False:=by
 induction h with
 |nil=>exact .nil
 |snoc h p ih=>
  rw[iK] at J ⊢;refine⟨ih J.1,p.dj,λT hT j M s O q q'=>?_⟩;obtain⟨_,⟨S,hS,b⟩,_⟩:=h.out.1 T hT;exact J.2.2 S hS _ ar s O (b s O q) (p.sub j M s O q')
theorem XL.step {m i:Nat}{w:Nat->Nat->Nat}{Ss Fs:List (Nat->Bool)}(A:XL m w i Ss)(h:FiS m (λs=>w s i) Ss Fs):XL m w (i+1) Fs:=by
 refine⟨λT O=>(h.out.1 T O).1,λs M=>?_,h.dj A.dj,λT O s Y M J q q' j hj=>?_⟩
 ·obtain⟨S,hS,q⟩:=A.cov s M
  exact h.out.2 S hS s M q
 ·obtain⟨_,⟨S,hS,b⟩,c⟩:=h.out.1 T O
  by_cases z:j=i
  ·rw[z];exact c s Y M J q q'
  ·exact A.eq S hS s Y M J (b s M q) (b Y J q') j (by omega)
def pkS (m:Nat)(T:Nat->Bool):Nat:=((ac m).find? T).getD 0
theorem XN {m:Nat}{T:Nat->Bool}(h:∃s,s<m/\T s=true):pkS m T<m/\T (pkS m T)=true:=by
 obtain⟨s,j,q⟩:=h;unfold pkS;cases z:(ac m).find? T with
 |none=>
  have:=jc.mp z s (af.mpr j);exact absurd q this
 |some x=>exact⟨af.mp (gP z),jV z⟩
theorem ZaQ {m:Nat}:∀{J:List (Nat->Bool)},(∀T∈J,∃s,s<m/\T s=true)->(J.Pairwise λT j=>∀s,s<m->T s=true->j s=true->False)->(J.map (pkS m)).Nodup
 | [],_,_=>eA
 |T::J,M,hd=>by
  rw[mO] at hd;rw[aG,bS];refine⟨λh=>?_,ZaQ (λj O=>M j (ao _ O)) hd.2⟩;obtain⟨j,q,z⟩:=aE.mp h;have a:=XN (M T ar);have b:=XN (M j (ao _ q));rw[z] at b;exact hd.1 j q _ a.1 a.2 b.2
theorem XL.len {m i:Nat}{w:Nat->Nat->Nat}{j:List (Nat->Bool)}(A:XL m w i j):j.length<=m:=by
 have:=L2.YH (j.map (pkS m)) (ac m) (ZaQ A.ne A.dj) (λx q=>by
  obtain⟨T,J,rfl⟩:=aE.mp q;exact af.mpr (XN (A.ne T J)).1)
 rwa [Za,Zg] at this
theorem Zfy {l:T7}{m:Nat}(nd:l.Nodup)(q:∀x∈l,x<m)(len:l.length=m):l.Perm (ac m):=by
 have J:∀x,x<m->x∈l:=λx M=>by
  refine aj λO=>?_;have:=L2.YH (x::l) (ac m) (bS.mpr ⟨O,nd⟩) (λy j=>by
   rcases aF.mp j with rfl|j
   ·exact af.mpr M
   ·exact af.mpr (q y j))
  rw[Zi,Zg] at this;omega
 exact (cO nd de).mpr λx=>⟨λh=>af.mpr (q x h),λh=>J x (af.mp h)⟩
theorem ZpM {m:Nat}{J:List (Nat->Bool)}(hd:J.Pairwise λT j=>∀s,s<m->T s=true->j s=true->False){T j:Nat->Bool}(h:T∈J)(h':j∈J){s:Nat}(hs:s<m)(q:T s=true)(M:j s=true):T=j:=by
 induction hd with
 |nil=>cases h
 |cons a _ ih=>
  rcases aF.mp h with e1|h1
  ·rcases aF.mp h' with O|Y
   ·rw[e1,O]
   ·rw[e1] at q
    exact (a _ Y s hs q M).elim
  ·rcases aF.mp h' with O|Y
   ·rw[O] at M
    exact (a _ h1 s hs M q).elim
   ·exact ih h1 Y
theorem XL.full {m i:Nat}{w:Nat->Nat->Nat}{J:List (Nat->Bool)}(A:XL m w i J)(h:m<=J.length):∀T∈J,∀s s',s<m->s'<m->T s=true->T s'=true->s=s':=by
 have hp:(J.map (pkS m)).Perm (ac m):=Zfy (ZaQ A.ne A.dj) (λx hx=>by
  obtain⟨T,j,rfl⟩:=aE.mp hx;exact (XN (A.ne T j)).1) (by rw[Za];have:=A.len;omega)
 have key:∀T∈J,∀s,s<m->T s=true->s=pkS m T:=λT j s O q=>by
  obtain⟨T',M,z⟩:=aE.mp (hp.mem_iff.mpr (af.mpr O));have b:=XN (A.ne T' M);rw[z] at b;rw[ZpM A.dj j M O q b.2,z]
 intro T j s s' O Y q q';rw[key T j s O q,key T j s' Y q']
theorem XL.skip {m i:Nat}{w:Nat->Nat->Nat}{J:List (Nat->Bool)}(A:XL m w i J)(h:m<=J.length):XL m w (i+1) J:=
 ⟨A.ne,A.cov,A.dj,λT O s Y hs M q q' j _=>by rw[A.full h T O s Y hs M q q']⟩
theorem XL.end {m:Nat}{w:Nat->Nat->Nat}{M:List (Nat->Bool)}(A:XL m w m M)(O:∀s s',s<m->s'<m->(∀j,j<m->w s j=w s' j)->s=s'):(M.map (pkS m)).Perm (ac m)/\∀T∈M,∀s,s<m->T s=decide (s=pkS m T):=by
 have one:∀T∈M,∀s,s<m->T s=decide (s=pkS m T):=λT J s Y=>by
  have a:=XN (A.ne T J);cases q:T s with
  |true=>exact (decide_eq_true (O s _ Y a.1 (A.eq T J s _ Y a.1 q a.2))).symm
  |false=>
   refine (decide_eq_false λz=>?_).symm;rw[z,a.2] at q;cases q
 refine⟨?_,one⟩;refine (cO (ZaQ A.ne A.dj) de).mpr λx=>⟨λh=>?_,λh=>?_⟩
 ·obtain⟨T,J,rfl⟩:=aE.mp h
  exact af.mpr (XN (A.ne T J)).1
 ·have hx:=af.mp h
  obtain⟨T,J,q⟩:=A.cov x hx;rw[one T J x hx] at q;rw[of_decide_eq_true q];exact aE.mpr ⟨T,J,rfl⟩
def Uc (count p:Nat):Bool:=decide (p*p<=4*count) || (ac (p-2)).any λk=>p % (k+2) == 0
structure Zqm (n count p:Nat):Prop where
 st:∃J,p=(n+1)+J*n/\∀j,j<J->Uc count ((n+1)+j*n)=true
 ok:Uc count p=false
 p2:2<=p
 lt:p<=100000
structure Zqb (p z r:Nat):Prop where
 r1:1<=r
 rp:r<=p
 one:z ^ r % p=1
 nz:∀k,1<=k->k<r->z ^ k % p≠1
def RtP (n p j:Nat):Prop:=(j=1/\n=1)\/(2<=j/\j<p/\n≠1/\∃r:Nat->Nat,(∀z,2<=z->z<=j->Zqb p z (r z))/\(∀z,2<=z->z<j->r z≠n)/\r j=n)
structure TD (t:T9)(n p m:Nat)(e ω φ:Nat->Nat->Nat)(z:Nat)(dg:Nat->Nat):Prop where
 cd:CD t p m e ω φ
 n1:1<=n
 n60:n<=60
 all:∀a,a<t.length->it t a n=0
 mn:∀x,(∀a,a<t.length->it t a x=0)->x % n=0
 fit:Zqm n t.length p
 rt:RtP n p z
 d1:∀s,s<m->1<=dg s
 dp:∀s,s<m->dg s<p
 dl:∀s,s<m->dg s<=1000
 dq:∀s,s<m->((dg s:Int)*(dg s:Int)-(e s 0:Int)*(t.length:Int)) % (p:Int)=0
 dm:∀s d',s<m->1<=d'->d'<dg s->((d':Int)*(d':Int)-(e s 0:Int)*(t.length:Int)) % (p:Int)≠0
structure Dt where
 n:Nat
 p:Nat
 z:Nat
 cl:T7
 rp:T7
 E:T9
 W:T9
 F:T9
 dg:T7
def VR (M:T9)(i j:Nat):Nat:=(M.getD i []).getD j 0
def fA (n:Nat)(f:Nat->Bool):Bool:=(ac n).all f
theorem Yw {n:Nat}{f:Nat->Bool}(h:fA n f=true){i:Nat}(j:i<n):f i=true:=aD.mp h i (af.mpr j)
def fE (n:Nat)(f:Nat->Bool):Bool:=(ac n).any f
theorem Zds {n:Nat}{f:Nat->Bool}(h:fE n f=true):∃i,i<n/\f i=true:=by
 obtain⟨i,hi,q⟩:=aY.mp h;exact⟨i,af.mp hi,q⟩
def prB (p:Nat):Bool:=decide (2<=p) && (fA (p-1) λa=>fA (p-1) λb=>(a+1)*(b+1) % p != 0) && fA (p-1) λa=>fE (p-1) λb=>(b+1)*(a+1) % p == 1
theorem Zpp {p:Nat}(h:prB p=true):PrM p:=by
 unfold prB at h;rw[ag,ag,decide_eq_true_eq] at h;obtain⟨⟨j,J⟩,M⟩:=h;refine⟨j,λa b O Y b0 bp=>?_,λa O Y=>?_⟩
 ·have:=Yw (Yw J (i:=a-1) (by omega)) (i:=b-1) (by omega)
  rw[show a-1+1=a by omega,show b-1+1=b by omega] at this;simpa using this
 ·obtain⟨b,hb,q⟩:=Zds (Yw M (i:=a-1) (by omega))
  rw[show a-1+1=a by omega] at q;exact⟨b+1,by omega,by omega,eq_of_beq q⟩
def Zjf (n count p:Nat):Nat->Nat->Bool
 |0,q=>decide (q=p) && !Uc count q
 |f+1,q=>if q=p then !Uc count q else Uc count q && Zjf n count p f (q+n)
theorem ZfP {n count p:Nat}:∀{f q:Nat},Zjf n count p f q=true->(∃J,p=q+J*n/\∀j,j<J->Uc count (q+j*n)=true)/\Uc count p=false
 |0,q,h=>by
  rw[Zjf,ag,decide_eq_true_eq] at h;obtain⟨e,h⟩:=h;subst e;exact⟨⟨0,by omega,λj M=>by omega⟩,by simpa using h⟩
 |f+1,q,h=>by
  rw[Zjf] at h;by_cases e:q=p
  ·rw[if_pos e] at h
   subst e;exact⟨⟨0,by omega,λj M=>by omega⟩,by simpa using h⟩
  ·rw[if_neg e,ag] at h
   obtain⟨⟨J,O,Y⟩,h3⟩:=ZfP h.2;refine⟨⟨J+1,by rw[O,cq];omega,λj M=>?_⟩,h3⟩;cases j with
   |zero=>rw[fv,dH];exact h.1
   |succ j=>
    have:=Y j (by omega);rw[cq];rw[show q+(j*n+n)=q+n+j*n by omega];exact this
def Znn (p z r:Nat):Bool:=decide (1<=r) && decide (r<=p) && (z ^ r % p == 1) && fA r λk=>k == 0 || z ^ k % p != 1
theorem ZkS {p z r:Nat}(h:Znn p z r=true):Zqb p z r:=by
 unfold Znn at h;rw[ag,ag,ag,decide_eq_true_eq,decide_eq_true_eq] at h;obtain⟨⟨⟨j,J⟩,M⟩,O⟩:=h;refine⟨j,J,eq_of_beq M,λk k1 Y=>?_⟩;have:=Yw O Y;rw[bh] at this;rcases this with q|q
 ·have:=eq_of_beq q
  omega
 ·simpa using q
def rdZ (p z:Nat):Nat:=(((ac p).find? λr=>z ^ (r+1) % p == 1).getD 0)+1
def rtB (n p j:Nat):Bool:=(j == 1 && n == 1) || (decide (2<=j) && decide (j<p) && n != 1 && (fA (j+1) λz=>decide (z<2) || (Znn p z (rdZ p z) && (z == j || rdZ p z != n))) && rdZ p j == n)
theorem Zpg {n p j:Nat}(h:rtB n p j=true):RtP n p j:=by
 unfold rtB at h;rw[bh] at h;rcases h with h|h
 ·rw[ag] at h
  exact .inl ⟨eq_of_beq h.1,eq_of_beq h.2⟩
 ·rw[ag,ag,ag,ag,decide_eq_true_eq,decide_eq_true_eq] at h
  obtain⟨⟨⟨⟨M,O⟩,Y⟩,J⟩,h5⟩:=h;refine .inr ⟨M,O,by simpa using Y,rdZ p,λz z2 zz=>?_,λz z2 zz=>?_,eq_of_beq h5⟩
  ·have:=Yw J (i:=z) (by omega)
   rw[decide_eq_false (by omega),fW,ag] at this;exact ZkS this.1
  ·have:=Yw J (i:=z) (by omega)
   rw[decide_eq_false (by omega),fW,ag,bh] at this;rcases this.2 with q|q
   ·have:=eq_of_beq q
    omega
   ·simpa using q
def itB (t:T9)(n:Nat):Bool:=(fA t.length λa=>it t a n == 0) && fA n λx=>x == 0 || fE t.length λa=>it t a x != 0
def ZlP (t:T9)(bs:T7):Bool:=fA t.length λa=>decide (bs.getD a 0<t.length) && ZO t a (bs.getD a 0) == 0
def tbL (t:T9)(bs:T7)(b x:Nat):Nat:=ZO t (ZO t x b) (bs.getD x 0)
def clB (t:T9)(bs:T7)(D:Dt):Bool:=
 (fA t.length λx=>decide (D.cl.getD x 0<D.rp.length) && ((D.cl.getD x 0 == 0) == (x == 0)) && (fA t.length λs=>D.cl.getD (tbL t bs x s) 0 == D.cl.getD x 0) && fE t.length λs=>tbL t bs (D.rp.getD (D.cl.getD x 0) 0) s == x) &&
 fA D.rp.length λk=>decide (D.rp.getD k 0<t.length) && D.cl.getD (D.rp.getD k 0) 0 == k
def Zrp (t:T9)(bs:T7)(D:Dt):Bool:=fA D.rp.length λs=>fA D.rp.length λi=>fA D.rp.length λc=>
 sm t.length (λx=>Wm (decide (D.cl.getD x 0=i))*VR D.E s (D.cl.getD (ZO t (bs.getD x 0) (D.rp.getD c 0)) 0)) % D.p == VR D.W s i*VR D.E s c % D.p
noncomputable def tdB (t:T9)(bs:T7)(D:Dt):Bool:=
 prB D.p && decide (D.p<=1000) && decide (1<=D.rp.length) && decide (1<=D.n) && decide (D.n<=60) && itB t D.n && Zjf D.n t.length D.p 60 (D.n+1) && rtB D.n D.p D.z && ZlP t bs && clB t bs D && Zrp t bs D &&
 (fA D.rp.length λs=>fA D.rp.length λc=>decide (VR D.E s c<D.p) && decide (VR D.W s c<D.p)) &&
 (fA D.rp.length λc=>sm D.rp.length (λs=>VR D.E s c) % D.p == if c=0 then 1 else 0) &&
 (fA D.rp.length λs=>fA D.rp.length λj=>sm t.length (λx=>VR D.F s (D.cl.getD x 0)*VR D.E j (D.cl.getD x 0)) % D.p == if s=j then 1 else 0) &&
 (fA D.rp.length λs=>fA D.rp.length λj=>s == j || fE D.rp.length λi=>VR D.W s i != VR D.W j i) &&
 fA D.rp.length λs=>decide (1<=D.dg.getD s 0) && decide (D.dg.getD s 0<D.p) && (((D.dg.getD s 0:Int)*(D.dg.getD s 0:Int)-(VR D.E s 0:Int)*(t.length:Int)) % (D.p:Int) == 0) && fA (D.dg.getD s 0) λd=>d == 0 || ((d:Int)*(d:Int)-(VR D.E s 0:Int)*(t.length:Int)) % (D.p:Int) != 0
section
variable {t:T9}{bs:T7}{D:Dt}
def eD (D:Dt)(s x:Nat):Nat:=VR D.E s (D.cl.getD x 0)
def wD (D:Dt)(s x:Nat):Nat:=VR D.W s (D.cl.getD x 0)
def fD (D:Dt)(s x:Nat):Nat:=VR D.F s (D.cl.getD x 0)
theorem ZjE (P:PW t)(h:ZlP t bs=true){a:Nat}(j:a<t.length):bs.getD a 0=Yx t a:=by
 have:=Yw h j;rw[ag,decide_eq_true_eq] at this;exact Xo P j this.1 (eq_of_beq this.2)
theorem Zhn (P:PW t)(h:ZlP t bs=true){b x:Nat}(j:x<t.length):tbL t bs b x=tb t b x:=by
 unfold tbL tb;rw[ZjE P h j]
structure ClW (t:T9)(cl rp:Nat->Nat)(m:Nat):Prop where
 lt:∀x,x<t.length->cl x<m
 z:∀x,x<t.length->(cl x=0↔x=0)
 con:∀x s,x<t.length->s<t.length->cl (tb t x s)=cl x
 tr:∀x,x<t.length->∃s,s<t.length/\tb t (rp (cl x)) s=x
 rl:∀k,k<m->rp k<t.length
 rn:∀k,k<m->cl (rp k)=k
theorem Zjz (P:PW t)(hb:ZlP t bs=true)(h:clB t bs D=true):ClW t (λx=>D.cl.getD x 0) (λk=>D.rp.getD k 0) D.rp.length:=by
 unfold clB at h;rw[ag] at h;have g:∀{x},x<t.length->D.cl.getD x 0<D.rp.length/\((D.cl.getD x 0 == 0) == (x == 0))=true/\(fA t.length λs=>D.cl.getD (tbL t bs x s) 0 == D.cl.getD x 0)=true/\(fE t.length λs=>tbL t bs (D.rp.getD (D.cl.getD x 0) 0) s == x)=true:=λ{x} j=>by
  have:=Yw h.1 j;rw[ag,ag,ag,decide_eq_true_eq] at this;exact⟨this.1.1.1,this.1.1.2,this.1.2,this.2⟩
 have g2:∀{k},k<D.rp.length->D.rp.getD k 0<t.length/\D.cl.getD (D.rp.getD k 0) 0=k:=λ{k} J=>by
  have:=Yw h.2 J;rw[ag,decide_eq_true_eq] at this;exact⟨this.1,eq_of_beq this.2⟩
 refine⟨λx j=>(g j).1,λx j=>?_,λx s j M=>?_,λx j=>?_,λk J=>(g2 J).1,λk J=>(g2 J).2⟩
 ·have:=eq_of_beq (g j).2.1
  constructor
  ·intro q
   have q:D.cl.getD x 0=0:=q;rw[q] at this;exact eq_of_beq this.symm
  ·intro q
   rw[q] at this ⊢;exact eq_of_beq this
 ·have:=eq_of_beq (Yw (g j).2.2.1 M)
  rw[Zhn P hb M] at this;exact this
 ·obtain⟨s,M,q⟩:=Zds (g j).2.2.2
  have:=eq_of_beq q;rw[Zhn P hb M] at this;exact⟨s,M,this⟩
variable {cl rp:Nat->Nat}{m:Nat}
theorem ClW.cj (P:PW t)(C:ClW t cl rp m){u x:Nat}(j:u<t.length)(J:x<t.length):V8 t u x=decide (cl x=cl u):=by
 by_cases h:cl x=cl u
 ·rw[decide_eq_true h]
  obtain⟨s1,h1,e1⟩:=C.tr u j;obtain⟨O,h2,Y⟩:=C.tr x J;rw[h] at Y;have M:=C.rl (cl u) (C.lt u j);have n1:=P.n1;have:tb t u 0=tb t (rp (cl u)) s1:=by rw[Zbe P j];exact e1.symm
  obtain⟨z,hz,ez⟩:=Zbf P j M n1 h1 this;have e3:tb t (rp (cl u)) O=tb t x 0:=by rw[Zbe P J];exact Y
  have m1:u∈ZZ t (rp (cl u)):=(Yf P M).mpr ⟨s1,h1,e1⟩;have m2:x∈ZZ t (rp (cl u)):=(Yf P M).mpr ⟨O,h2,Y⟩;have m3:rp (cl u)∈ZZ t u:=(Yf P j).mpr ⟨z,hz,ez⟩;have m4:x∈ZZ t u:=Yr P j J m3 (by
   have:tb t x 0=tb t (rp (cl u)) O:=e3.symm;obtain⟨z2,n6,n8⟩:=Zbf P J M n1 h2 this;exact (Yf P J).mpr ⟨z2,n6,n8⟩)
  exact Xm.mpr ((Yf P j).mp m4)
 ·rw[decide_eq_false h]
  cases q:V8 t u x with
  |false=>rfl
  |true=>
   obtain⟨y,hy,e⟩:=Xm.mp q;have:=C.con u y j hy;rw[e] at this;exact absurd this h
theorem Zex {n:Nat}{f:Nat->Nat}(h:∀a b,a<n->b<n->f a=f b->a=b):((ac n).map f).Nodup:=by
 rw[mR,fh];exact cN (λ{a b} j hb ne e=>ne (h a b (af.mp j) (af.mp hb) e)) de
theorem ClW.count (P:PW t)(C:ClW t cl rp m):m=(ZC t t.length).length:=by
 have U:=YU P;have q:∀x y,x<t.length->y<t.length->(cl x=cl y↔Yl t x=Yl t y):=λx y j O=>by
  have a:=C.cj P O j;rw[Zal P O j] at a;exact⟨λh=>by
   rw[decide_eq_true h] at a;exact of_decide_eq_true a,λh=>by
   rw[decide_eq_true h] at a;exact of_decide_eq_true a.symm⟩
 have Y:=L2.YH ((ac m).map λk=>Yl t (rp k)) (ac (ZC t t.length).length) (by
  refine Zex λa b J hb e=>?_;have:=(q _ _ (C.rl a J) (C.rl b hb)).mpr e;rw[C.rn a J,C.rn b hb] at this;exact this) (λx j=>by
  obtain⟨k,M,rfl⟩:=aE.mp j;exact af.mpr (U.lt _ (C.rl k (af.mp M))))
 have l2:=L2.YH ((ac (ZC t t.length).length).map λk=>cl (ZK t k)) (ac m) (by
  refine Zex λa b J hb e=>?_;have:=(q _ _ (U.rl a J) (U.rl b hb)).mp e;rw[U.rn a J,U.rn b hb] at this;exact this) (λx j=>by
  obtain⟨k,M,rfl⟩:=aE.mp j;exact af.mpr (C.lt _ (U.rl k (af.mp M))))
 rw[Za,Zg,Zg] at Y l2;omega
theorem ClW.turn (P:PW t)(C:ClW t cl rp m)(E:Nat->Nat)(i:Nat){z y:Nat}(hz:z<t.length)(j:y<t.length):sm t.length (λx=>Wm (decide (cl x=i))*E (cl (ZO t (Yx t x) (tb t z y))))=sm t.length (λx=>Wm (decide (cl x=i))*E (cl (ZO t (Yx t x) z))):=by
 rw[<-Ze1 P j (λx=>Wm (decide (cl x=i))*E (cl (ZO t (Yx t x) (tb t z y))))];refine Z5 λx q=>?_;rw[C.con x y q j,Zhm P j q,<-Uw P j (Yc P q).1 hz,C.con _ y (P.lt _ _ (Yc P q).1 hz) j]
theorem Zl5 (P:PW t)(h:tdB t bs D=true):TD t D.n D.p D.rp.length (eD D) (wD D) (fD D) D.z (λs=>D.dg.getD s 0):=by
 unfold tdB at h;simp only[ag] at h;obtain⟨⟨⟨⟨⟨⟨⟨⟨⟨⟨⟨⟨⟨⟨⟨h1,h2⟩,h3⟩,h4⟩,h5⟩,h6⟩,h7⟩,h8⟩,h9⟩,n8⟩,n9⟩,o0⟩,o5⟩,o6⟩,o7⟩,o8⟩:=h;have o9:=of_decide_eq_true h2;have m1:=of_decide_eq_true h3;have n1:=of_decide_eq_true h4;have n60:=of_decide_eq_true h5;have C:=Zjz P h9 n8;have N1:=P.n1;have pr:=Zpp h1;have O:∀{s c},s<D.rp.length->c<D.rp.length->VR D.E s c<D.p/\VR D.W s c<D.p:=λ{s c} j hc=>by
  have:=Yw (Yw o0 j) hc;rw[ag,decide_eq_true_eq,decide_eq_true_eq] at this;exact this
 have p3:D.cl.getD 0 0=0:=(C.z 0 N1).mpr rfl;have M:∀{s},s<D.rp.length->1<=D.dg.getD s 0/\D.dg.getD s 0<D.p/\((D.dg.getD s 0:Int)*(D.dg.getD s 0:Int)-(VR D.E s 0:Int)*(t.length:Int)) % (D.p:Int)=0/\∀d,1<=d->d<D.dg.getD s 0->((d:Int)*(d:Int)-(VR D.E s 0:Int)*(t.length:Int)) % (D.p:Int)≠0:=λ{s} j=>by
  have:=Yw o8 j;simp only[ag,decide_eq_true_eq] at this;obtain⟨⟨⟨a,b⟩,c⟩,d⟩:=this;refine⟨a,b,eq_of_beq c,λk k1 kd=>?_⟩;have:=Yw d kd;rw[bh] at this;rcases this with q|q
  ·have:=eq_of_beq q
   omega
  ·simpa using q
 have e0:∀s,eD D s 0=VR D.E s 0:=λs=>by unfold eD;rw[p3]
 unfold itB at h6;rw[ag] at h6;have Y:∀a,a<t.length->it t a D.n=0:=λa ha=>eq_of_beq (Yw h6.1 ha);obtain⟨f1,f2⟩:=ZfP h7;refine⟨?_,n1,n60,Y,λx J=>?_,⟨f1,f2,pr.p2,by omega⟩,Zpg h8,λs j=>(M j).1,λs j=>(M j).2.1,λs j=>by have:=(M j).2.1;omega,λs j=>by rw[e0];exact (M j).2.2.1,λs d' j a b=>by rw[e0];exact (M j).2.2.2 d' a b⟩
 ·refine⟨pr,m1,C.count P,λs x y j J hy=>?_,λs x y j J hy=>?_,λs x j J=>(O j (C.lt x J)).1,λs x j J=>(O j (C.lt x J)).2,λs u z j hu hz=>?_,λx J=>?_,λs s' j n6=>?_,λs s' j n6 h=>?_⟩
  ·unfold eD
   have:=C.con x y J hy;rw[this]
  ·unfold wD
   have:=C.con x y J hy;rw[this]
  ·obtain⟨y,hy,ey⟩:=C.tr z hz
   have p4:=C.rl _ (C.lt z hz);have a1:sm t.length (λx=>Wm (V8 t u x)*eD D s (ZO t (Yx t x) z))=sm t.length (λx=>Wm (decide (D.cl.getD x 0=D.cl.getD u 0))*VR D.E s (D.cl.getD (ZO t (Yx t x) z) 0)):=Z5 λx J=>by rw[C.cj P hu J];rfl
   have a2:=C.turn P (VR D.E s) (D.cl.getD u 0) p4 hy;rw[ey] at a2;rw[a1,a2];have a3:=eq_of_beq (Yw (Yw (Yw n9 j) (C.lt u hu)) (C.lt z hz));have a4:sm t.length (λx=>Wm (decide (D.cl.getD x 0=D.cl.getD u 0))*VR D.E s (D.cl.getD (ZO t (bs.getD x 0) (D.rp.getD (D.cl.getD z 0) 0)) 0))=sm t.length (λx=>Wm (decide (D.cl.getD x 0=D.cl.getD u 0))*VR D.E s (D.cl.getD (ZO t (Yx t x) (D.rp.getD (D.cl.getD z 0) 0)) 0)):=Z5 λx J=>by rw[ZjE P h9 J]
   rw[a4] at a3;exact a3
  ·have:=eq_of_beq (Yw o5 (C.lt x J))
   have e1:sm D.rp.length (λs=>eD D s x)=sm D.rp.length (λs=>VR D.E s (D.cl.getD x 0)):=rfl;rw[e1,this];by_cases q:x=0
   ·rw[if_pos q,if_pos ((C.z x J).mpr q)]
   ·rw[if_neg q,if_neg (λzz=>q ((C.z x J).mp zz))]
  ·exact eq_of_beq (Yw (Yw o6 j) n6)
  ·have:=Yw (Yw o7 j) n6
   rw[bh] at this;rcases this with q|q
   ·exact eq_of_beq q
   ·obtain⟨i,hi,q⟩:=Zds q
    have:=h (D.rp.getD i 0) (C.rl i hi);unfold wD at this;rw[C.rn i hi] at this;rw[this] at q;simp at q
 ·have p6:∀a,a<t.length->it t a (x % D.n)=0:=λa ha=>by
   obtain⟨r,R⟩:=P.rd a ha;have p7:x % r=0:=by
    have:=J a ha;rw[U7 R] at this;apply aj;intro zz;exact R.nz _ (by omega) (bi _ R.r1) this
   have p8:D.n % r=0:=by
    have:=Y a ha;rw[U7 R] at this;apply aj;intro zz;exact R.nz _ (by omega) (bi _ R.r1) this
   rw[U7 R,ZbQ p7 p8];rfl
  apply aj;intro zz;have q0:=bi x (show 0<D.n by omega);have:=Yw h6.2 q0;rw[bh] at this;rcases this with q|q
  ·exact zz (eq_of_beq q)
  ·obtain⟨a,ha,q⟩:=Zds q
   rw[p6 a ha] at q;simp at q
end
section
variable {t:T9}{o:T7}
theorem VE (P:PW t)(O:Ord t.length o){i j:Nat}(q:i<t.length)(J:j<t.length):o.getD (ZO (ren t o) i j) 0=ZO t (o.getD i 0) (o.getD j 0):=by
 rw[ZbP O q J];exact (Wh O (P.lt _ _ (YS O q) (YS O J))).2
theorem WP (O:Ord t.length o):(ren t o).length=t.length:=by rw[ZbF,O.len]
theorem ZcV (P:PW t)(O:Ord t.length o){a:Nat}(j:a<t.length):∀k,o.getD (it (ren t o) a k) 0=it t (o.getD a 0) k
 |0=>O.z
 |k+1=>by
  have q:=JP P O;have:=Jd q (a:=a) (by rw[WP O];exact j) k;rw[WP O] at this;rw[it,VE P O this j,ZcV P O j k];rfl
theorem Zh2 (P:PW t)(O:Ord t.length o){a:Nat}(j:a<t.length):o.getD (Yx (ren t o) a) 0=Yx t (o.getD a 0):=by
 have M:=JP P O;have J:=WP O;obtain⟨q,Y⟩:=Yc M (a:=a) (by rw[J];exact j);rw[J] at q;refine Xo P (YS O j) (YS O q) ?_;rw[<-VE P O j q,Y];exact O.z
theorem ZaP (P:PW t)(O:Ord t.length o){b x:Nat}(hb:b<t.length)(j:x<t.length):o.getD (tb (ren t o) b x) 0=tb t (o.getD b 0) (o.getD x 0):=by
 have J:=JP P O;have q:=WP O;have M:=(Yc J (a:=x) (by rw[q];exact j)).1;have Y:=J.lt x b (by rw[q];exact j) (by rw[q];exact hb);rw[q] at M Y;unfold tb;rw[VE P O Y M,VE P O j hb,Zh2 P O j]
theorem Zej (O:Ord t.length o){x:Nat}(j:x<t.length):pos o (o.getD x 0)=x:=by
 have h:=Wh O (YS O j);exact inj O h.1 j h.2
theorem Zh0 (O:Ord t.length o)(F:Nat->Nat):sm t.length (λx=>F (o.getD x 0))=sm t.length F:=
 Zbw (c:=λx=>o.getD x 0) (d:=λx=>pos o x) (λx j=>YS O j) (λx j=>(Wh O j).1) (λx j=>Zej O j) (λx j=>(Wh O j).2) F
theorem Zh1 (P:PW t)(O:Ord t.length o){u x:Nat}(M:u<t.length)(hx:x<t.length):V8 (ren t o) u x=V8 t (o.getD u 0) (o.getD x 0):=by
 have P':=JP P O;have j:=WP O;rw[cV,Xm,Xm,j];constructor
 ·rintro⟨y,q,e⟩
  exact⟨o.getD y 0,YS O q,by rw[<-ZaP P O M q,e]⟩
 ·rintro⟨y,q,e⟩
  have J:=Wh O q;refine⟨pos o y,J.1,?_⟩;have Y:=XM P' (b:=u) (x:=pos o y) (by rw[j];exact M) (by rw[j];exact J.1);rw[j] at Y;refine inj O Y hx ?_;rw[ZaP P O M J.1,J.2,e]
variable {n p m:Nat}{e ω φ:Nat->Nat->Nat}{z:Nat}{dg:Nat->Nat}
theorem Zm4 (P:PW t)(O:Ord t.length o):ClW (ren t o) (λx=>Yl t (o.getD x 0)) (λk=>pos o (ZK t k)) (ZC t t.length).length:=by
 have P':=JP P O;have q:=WP O;have U:=YU P;refine⟨λx j=>?_,λx j=>?_,λx s j M=>?_,λx j=>?_,λk Y=>?_,λk Y=>?_⟩
 ·rw[q] at j;exact U.lt _ (YS O j)
 ·rw[q] at j
  rw[U.z _ (YS O j)];constructor
  ·intro h
   exact inj O j P.n1 (h.trans O.z.symm)
  ·intro h
   rw[h];exact O.z
 ·rw[q] at j M
  show Yl t (o.getD (tb (ren t o) x s) 0)=_;rw[ZaP P O j M];exact U.con _ _ (YS O j) (YS O M)
 ·rw[q] at j ⊢
  have hc:=U.lt _ (YS O j);have hr:=U.rl _ hc;obtain⟨s,M,es⟩:=U.tr (ZK t (Yl t (o.getD x 0))) (o.getD x 0) hr (YS O j) (U.rn _ hc);have hp:=Wh O M;have J:=Wh O hr;refine⟨pos o s,hp.1,?_⟩;have h1:=XM P' (b:=pos o (ZK t (Yl t (o.getD x 0)))) (x:=pos o s) (by rw[q];exact J.1) (by rw[q];exact hp.1);rw[q] at h1;refine inj O h1 j ?_;rw[ZaP P O J.1 hp.1,hp.2,J.2,es]
 ·rw[q];exact (Wh O (U.rl k Y)).1
 ·show Yl t (o.getD (pos o (ZK t k)) 0)=k
  rw[(Wh O (U.rl k Y)).2];exact U.rn k Y
theorem TD.ren (P:PW t)(O:Ord t.length o)(D:TD t n p m e ω φ z dg):TD (ren t o) n p m (λs x=>e s (o.getD x 0)) (λs x=>ω s (o.getD x 0)) (λs x=>φ s (o.getD x 0)) z dg:=by
 have P':=JP P O;have M:=WP O;have C:=D.cd;have lt:∀{x},x<(Tb.ren t o).length->x<t.length:=λ{x} h=>by rw[M] at h;exact h
 have e0:∀s,e s (o.getD 0 0)=e s 0:=λs=>by rw[O.z]
 refine⟨⟨C.pr,C.m1,C.mc.trans ((Zm4 P O).count P'),λs x y J j hy=>?_,λs x y J j hy=>?_,λs x J j=>C.elt s _ J (YS O (lt j)),λs x J j=>C.wlt s _ J (YS O (lt j)),λs u z J hu hz=>?_,λx j=>?_,λs s' J Y=>?_,λs s' J Y h=>?_⟩,D.n1,D.n60,λa ha=>?_,λx j=>?_,by rw[M];exact D.fit,D.rt,D.d1,D.dp,D.dl,λs J=>by rw[M];show ((dg s:Int)*(dg s:Int)-(e s (o.getD 0 0):Int)*(t.length:Int)) % (p:Int)=0;rw[e0];exact D.dq s J,λs d' J a b=>by rw[M];show ((d':Int)*(d':Int)-(e s (o.getD 0 0):Int)*(t.length:Int)) % (p:Int)≠0;rw[e0];exact D.dm s d' J a b⟩
 ·show e s (o.getD (tb (Tb.ren t o) x y) 0)=_
  rw[ZaP P O (lt j) (lt hy)];exact C.ec s _ _ J (YS O (lt j)) (YS O (lt hy))
 ·show ω s (o.getD (tb (Tb.ren t o) x y) 0)=_
  rw[ZaP P O (lt j) (lt hy)];exact C.wc s _ _ J (YS O (lt j)) (YS O (lt hy))
 ·rw[M]
  have h1:sm t.length (λx=>Wm (V8 (Tb.ren t o) u x)*e s (o.getD (ZO (Tb.ren t o) (Yx (Tb.ren t o) x) z) 0))=sm t.length (λx=>(λy=>Wm (V8 t (o.getD u 0) y)*e s (ZO t (Yx t y) (o.getD z 0))) (o.getD x 0)):=Z5 λx j=>by
   have hb:=(Yc P' (a:=x) (by rw[M];exact j)).1;rw[M] at hb;show _=Wm (V8 t (o.getD u 0) (o.getD x 0))*e s (ZO t (Yx t (o.getD x 0)) (o.getD z 0));rw[Zh1 P O (lt hu) j,VE P O hb (lt hz),Zh2 P O j]
  rw[h1,Zh0 O (λy=>Wm (V8 t (o.getD u 0) y)*e s (ZO t (Yx t y) (o.getD z 0)))];exact C.eig s _ _ J (YS O (lt hu)) (YS O (lt hz))
 ·have:=C.one _ (YS O (lt j))
  rw[this];by_cases h:x=0
  ·rw[if_pos h,h,O.z,if_pos rfl]
  ·rw[if_neg h,if_neg]
   intro q;exact h (inj O (lt j) P.n1 (q.trans O.z.symm))
 ·rw[M,Zh0 O (λy=>φ s y*e s' y)]
  exact C.du s s' J Y
 ·refine C.sep s s' J Y λu hu=>?_
  have hp:=Wh O hu;have:=h (pos o u) (by rw[M];exact hp.1);rw[hp.2] at this;exact this
 ·have hi:=Jd P' ha n
  rw[M] at hi;refine inj O hi P.n1 ?_;rw[ZcV P O (lt ha),O.z];exact D.all _ (YS O (lt ha))
 ·refine D.mn x λa ha=>?_
  have hp:=Wh O ha;have:=j (pos o a) (by rw[M];exact hp.1);have h2:=ZcV P O hp.1 x;rw[this,hp.2,O.z] at h2;exact h2.symm
end
def ZgT:Nat->Nat->T7
 |0,_=>[]
 |k+1,x=>x % 64::ZgT k (x / 64)
def dgZ (k x:Nat):TZ:=(ZgT k x).map λ(v:Nat)=>(v:Int)-32
def rwL {α:Type}(k:Nat):Nat->List α->List (List α)
 |0,_=>[]
 |r+1,l=>l.take k::rwL k r (l.drop k)
end Tb
namespace PyZ
open PySem
theorem Zaw (l:Addr)(items:Array Value)(x:Value)(e:Value->Bool)(j:Nat)(hj:j<items.size)(J:e items[j]=true)(M:∀(m:Nat) (hm:m<items.size),m<j->e items[m]=false) :
  Meets (cK.«tuple.index» {pos:=[ax l,x]}) λA R s=>
   s.heap.IsTuple l items/\(∀(y:Value),y∈items->lr A.in1 s y x (e y))/\
    R (Except.ok (Flow.ret (fG (↑j) s.toks))) {heap:=s.heap,gens:=s.gens,drawn:=s.drawn,toks:=s.toks+1,os:=s.os}:=by
 intro n8 w A R s h;obtain⟨hl,he,h⟩:=h;obtain⟨oa,ha,_,na,da⟩:=hl;unfold cK.«tuple.index»;refine Zl ?_;show wpAny _ _ (pure (ax l,[x])) _ _ s;refine Zm ?_;show wpAny _ _ (fI (ax l) >>= _) _ _ s;refine Zl ?_;unfold fI;refine Zl (ie ha da ?_);refine Zm ?_;show wpAny _ _ (pure 0 >>= _) _ _ s;refine Zl (Zm ?_);show wpAny _ _ (pure items.size >>= _) _ _ s;refine Zl (Zm ?_);refine Zl ?_;rw[lI,Std.Legacy.Range.forIn_eq_forIn_range'];have O:(dA ([0:items.size]:iV).start ([0:items.size]:iV).size ([0:items.size]:iV).step)=dA 0 items.size:=by
  show dA 0 ((items.size-0+1-1) / 1) 1=_;rw[Nat.div_one,cB,dI]
 rw[O];refine wpAny_forIn_list _ (λrest b Y=>Y=s/\b=(none,())/\∃k,rest=dA k (items.size-k)/\k<=j) _ ?_ ?_ _ _ ⟨rfl,rfl,0,rfl,aV _⟩
 ·rintro i rest b Y ⟨rfl,rfl,k,q,hk⟩
  have hs:items.size-k=(items.size-(k+1))+1:=by omega
  rw[hs,eE] at q;obtain⟨rfl,rfl⟩:=List.cons.inj q;have hi:i<items.size:=by omega
  rw[aM hi];show wpAny _ _ (eqBool items[i] x >>= _) _ _ _;refine Zl (he items[i] (Array.getElem_mem hi) _ _ _ _ ?_);by_cases n6:i=j
  ·subst n6
   rw[J,if_pos rfl];refine Zl ?_;unfold retInt;refine Zl (wpAny_mkInt ?_);refine Zm ?_;refine Zm ?_;show wpAny _ _ (pure _) _ _ _;exact Zm h
  ·rw[M i hi (by omega),if_neg aH]
   refine Zm ?_;exact⟨rfl,rfl,i+1,rfl,by omega⟩
 ·rintro b Y ⟨rfl,rfl,k,q,hk⟩
  have:items.size-k=0:=by
   have:=congrArg eB q;rw[List.length_range'] at this;exact this.symm
  omega
end PyZ
namespace L2
open PySem PySem.Spec PyProof.Rows
inductive Zib (K:aa) (x:V) (vs:TV) (H:Hp) (Q:VK):Prop
 |mk (p:_) (xs:_) (y:_) (j:Nat):(x=.ref p)->(vs=[y])->(XQ K H p xs)->(WK y=true)->(xs.all WK=true)->(j<xs.length)->((∀z,xs[j]?=some z->Uo z y=true))->((∀m z,m<j->xs[m]?=some z->Uo z y=false))->(Q (.int j) H)->Zib K x vs H Q
theorem Zgy:MtR X "tuple.index" (Zib X.K):=by
 intro o7 s σ H x vs v us Q I rx rv h;obtain⟨p,xs,y,j,rfl,rfl,hq,fy,fs,hj,h1,h2,q⟩:=h;cases rx;obtain⟨u,rfl,ru⟩:=rv.one;obtain⟨J,r,pl,hz⟩:=I.tuple hq;have hl:=r.length;have M:∀(m:Nat) (z:V),xs[m]?=some z->WK z=true:=λm z hm=>aD.mp fs z (az hm);have eu:∀(m:Nat) (hm:m<J.toArray.size),∃z,xs[m]?=some z/\eqU y J.toArray[m]=Uo z y:=λm hm=>by
  have O:m<xs.length:=by rw[hl];simpa using hm
  obtain⟨w,hw,n9⟩:=r.get (Zf O);have o0:J.toArray[m]=w:=by
   have:=(ae.mp hw).2;simpa using this
  exact⟨_,Zf O,by rw[o0];exact U9 n9 (M m _ (Zf O))⟩
 have n8:j<J.toArray.size:=by rw[Zh,<-hl];exact hj
 have o5:s.TypeIs (.ref p) "tuple":=iJ pl;refine eR e9 o5 F.entry_tuple_index (F.args_tuple_index_2 _ _) (PyZ.Zaw p J.toArray u (eqU y) j n8 ?_ ?_) ⟨pl,λw hw=>JD ru fy r fs w (by simpa using hw),?_⟩
 ·obtain⟨z,Y,n6⟩:=eu j n8
  rw[n6];exact h1 z Y
 ·intro m hm o6
  obtain⟨z,Y,n6⟩:=eu m hm;rw[n6];exact h2 m z o6 Y
 ·exact⟨.int j,H,I.kept (t':=s.toks+1) λb o e=>e,⟨_,rfl⟩,q⟩
inductive Zid (K:aa) (x:V) (vs:TV) (H:Hp) (Q:VK):Prop
 |mk (p:_) (xs:_) (ds:_) (dy:_) (y:_) (j:Nat):(x=.ref p)->(vs=[y])->(H p=some (.lst xs))->(WO K H xs ds)->(RdD K H y dy)->(bX ds=true)->(dy.canLay0=true)->(dy.depth<=60)->(j<ds.length)->((∀d,ds[j]?=some d->d.eqv dy=true))->((∀m d,m<j->ds[m]?=some d->d.eqv dy=false))->(Q (.int j) H)->Zid K x vs H Q
theorem Zgz (hu:X.A.units+64<cLine):MtR X "list.index" (Zid X.K):=by
 intro n9 s σ H x vs v us Q I rx rv h;obtain⟨p,xs,ds,dy,y,j,rfl,rfl,hp,hs,hd,c1,c2,dp,hj,h1,h2,q⟩:=h;cases rx;obtain⟨u,rfl,ru⟩:=rv.one;obtain⟨z,J,n,r,hl,e⟩:=I.lstM hp;obtain⟨bs,r1⟩:=I.reads hd ru;obtain⟨as,ra⟩:=I.readsAll hs r;have hm:=SeqAt.readsAll_map ds J as c1 ra;have hlen:J.length=ds.length:=by rw[<-hm,Za]
 have M:∀(m:Nat) (Y:m<J.toArray.size),ds[m]?=some (SeqAt.readOf s.heap J.toArray[m]):=λm Y=>by
  have n6:m<J.length:=by simpa using Y
  rw[<-hm,Zc,Zf n6];simp
 have O:j<J.toArray.size:=by rw[Zh,hlen];exact hj
 have sz:=XY;refine eR lV ⟨_,e,rfl⟩ F.entry_list_index (F.args_list_index_2 _ _) (SeqAt.list_indexAt p J.toArray n none #[] u (λy=>(SeqAt.readOf s.heap y).eqv dy) j O (by omega) (h1 _ (M j O)) λm Y n8=>h2 m _ n8 (M m Y)) ⟨e,fH (by simpa using ra) r1 c1 c2 (by omega),?_⟩;exact⟨.int j,H,I.kept (t':=s.toks+1) λb o e=>e,⟨_,rfl⟩,q⟩
theorem ZmN (K:aa)(j:X.K=K:=by rfl):MtR X "tuple.index" (Zib K):=j▸Zgy
theorem Zre (K:aa)(j:X.A.units+64<cLine)(q:X.K=K:=by rfl):MtR X "list.index" (Zid K):=q▸Zgz j
inductive Zie (K:aa) (x:V) (vs:TV) (H:Hp) (Q:VK):Prop
 |mk (p:_) (xs:_) (y:_):(x=.ref p)->(vs=[y])->(H p=some (.lst xs))->(WK y=true)->(xs.all WK=true)->(Q (.int (xs.countP (λz=>Uo z y):Nat)) H)->Zie K x vs H Q
theorem ZgA:MtR X "list.count" (Zie X.K):=by
 intro n6 s σ H x vs v us Q I rx rv h;obtain⟨p,xs,y,rfl,rfl,hp,fy,fs,q⟩:=h;cases rx;obtain⟨u,rfl,ru⟩:=rv.one;obtain⟨z,J,n,r,hl,e⟩:=I.lstM hp;have hl:=r.length;have j:∀(m:Nat) (z:V),xs[m]?=some z->WK z=true:=λm z M=>aD.mp fs z (az M);have em:J.map (eqU y)=xs.map (λz=>Uo z y):=by
  refine a7 λm=>?_;rw[Zc,Zc];by_cases M:m<xs.length
  ·obtain⟨w,O,Y⟩:=r.get (Zf M)
   rw[O,Zf M];show some (eqU y w)=some (Uo xs[m] y);rw[U9 Y (j m _ (Zf M))]
  ·rw[ai (by omega),ai (by omega)]
   rfl
 have ec:J.countP (eqU y)=xs.countP (λz=>Uo z y):=by
  have h1:=congrArg (List.countP id) em;rw[iF,iF] at h1;exact h1
 refine eR lW ⟨_,e,rfl⟩ F.entry_list_count (F.args_list_count_2 _ _) (SeqAt.list_countAt p J.toArray n none #[] u (eqU y)) ⟨e,λw O=>JD ru fy r fs w (by simpa using O),?_⟩;refine⟨.int (xs.countP (λz=>Uo z y):Nat),H,I.kept (t':=s.toks+1) λb o e=>e,⟨s.toks,?_⟩,q⟩;rw[<-ec]
theorem Zpy (K:aa)(j:X.K=K:=by rfl):MtR X "list.count" (Zie K):=j▸ZgA
end L2
namespace PyZ
open PySem PyProof PyProof.Rows
def XT (n:Nat)(cmp:Nat->Nat->Bool){α:Type}:jY α->Option α
 | .ret a=>some a
 | .ask i j k=>if i<n/\j<n then XT n cmp (k (cmp i j)) else none
theorem XC {α:Type}{n:Nat}{cmp:Nat->Nat->Bool}{ask:Nat->Nat->(Bool->Shared->Prop)->Shared->Prop}{s:Shared}(h:∀i j C,i<n->j<n->C (cmp i j) s->ask i j C s):∀(t:jY α) (a:α) (Q:α->Shared->Prop),XT n cmp t=some a->Q a s->W.KasT.kasWp ask t Q s
 | .ret b,a,Q,e,q=>by
  cases (aB e);exact q
 | .ask i j k,a,Q,e,q=>by
  rw[XT] at e;by_cases J:i<n/\j<n
  ·rw[if_pos J] at e
   exact h i j _ J.1 J.2 (XC h (k (cmp i j)) a Q e q)
  ·rw[if_neg J] at e
   cases e
def Zay (fin:Bool):TZ->TZ->Bool
 | [],_=>fin
 |_::_,[]=>fin
 |x::j,y::q=>if x=y then Zay fin j q else decide (x<y)
def JZ (xs ys:TZ):Bool:=Zay (decide (xs.length<ys.length)) xs ys
theorem ZiU {fin:Bool}{Q:Bool->Shared->Prop}:∀(j vs:List Value) (xs ys:TZ) (i:Nat),be j xs->be vs ys->Q (Zay fin xs ys) s->W.KatLex prog w A true fin Q (j.zip vs) i s
 | [],vs,xs,ys,i,J,M,q=>by
  cases J;exact i7 q
 |_::_,[],xs,ys,i,J,M,q=>by
  cases M;cases xs with
  |nil=>exact i7 q
  |cons x xs=>exact i7 q
 |u::j,v::vs,xs,ys,i,J,M,q=>by
  cases J with
  |cons x t1 Y=>
   cases M with
   |cons y t2 r2=>
    rename_i xs ys
    rw[mN];refine W.kat_cons ?_;refine gc _ _ _ _ prog w _ _ ?_;rw[Zay] at q;by_cases e:x=y
    ·rw[if_pos e] at q
     rw[show (x == y)=true from beq_iff_eq.mpr e];exact W.kat_yes (ZiU j vs xs ys (i+1) Y r2 q)
    ·rw[if_neg e] at q
     rw[show (x == y)=false from beq_eq_false_iff_ne.mpr e];refine W.kat_no ?_;by_cases O:i=0
     ·subst O
      exact oneLt_int q
     ·have:(true && i == 0)=false:=by simp[O]
      rw[this];exact W.kat_one _ _ (lt_int q)
def ZaB (h:Heap)(L:Addr):Heap:={h with objs:=h.objs.extract 0 L}
theorem YT {h:Heap}{L b:Addr}(hb:b<L):(ZaB h L).get? b=h.get? b:=by
 unfold ZaB Heap.get?;have:(h.objs.extract 0 L)[b]?=h.objs[b]?:=by
  rw[Array.getElem?_extract];by_cases j:b<h.objs.size
  ·simp only[cB,gE]
   rw[if_pos (show b<min L h.objs.size from Nat.lt_min.mpr ⟨hb,j⟩)]
  ·rw[cI (fU j)]
   split <;> simp_all
 simp only[this]
theorem W2 {h:Heap}{L b:Addr}(hb:L<=b):(ZaB h L).get? b=none:=by
 unfold ZaB Heap.get?;have:(h.objs.extract 0 L)[b]?=none:=by
  apply cI;rw[gF];exact aW (by rw[cB];exact gt ..) hb
 simp only[this]
def Yk (h:Heap)(L:Addr):List (Addr×Obj):=(ac h.objs.size).filterMap λa=>if L<a then (h.get? a).map λo=>(a,o) else none
theorem Yp {h:Heap}{L:Addr}{p:Addr×Obj}:p∈Yk h L↔L<p.1/\h.get? p.1=some p.2:=by
 unfold Yk;rw[i9];constructor
 ·rintro⟨a,J,e⟩
  by_cases j:L<a
  ·rw[if_pos j] at e
   cases q:h.get? a with
   |none=>rw[q] at e;cases e
   |some o=>
    rw[q] at e;cases (aB e);exact⟨j,q⟩
  ·rw[if_neg j] at e
   cases e
 ·rintro⟨j,e⟩
  refine⟨p.1,af.mpr (Zp e),?_⟩;rw[if_pos j,e];rfl
theorem ZfH {h:Heap}:∀(as:TW) (yss:T8),as.length=yss.length->(∀(i:Nat) a,as[i]?=some a->∃(q:List Value) (ys:TZ),yss[i]?=some ys/\h.IsTuple a q.toArray/\be q ys/\ys≠[])->
  ∃fs:List Value,W.KatTups h (as.map ax) fs/\fs.length=as.length/\∀v∈fs,∃n t,v=fG n t
 | [],[],_,_=>⟨[],mJ,rfl,λv j=>by cases j⟩
 | [],_::_,h,_=>by cases h
 |_::_,[],h,_=>by cases h
 |a::as,ys::yss,J,g=>by
  obtain⟨q,M,e,⟨o,O,c,n,d⟩,Y,ne⟩:=g 0 a rfl;cases e;obtain⟨fs,k,l,f⟩:=ZfH as yss (cF J) λi a' hi=>g (i+1) a' hi;cases Y with
  |nil=>exact absurd rfl ne
  |cons z t r=>
   refine⟨fG z t::fs,mw O c d (by simp) k,by rw[Zi,Zi,l],λv j=>?_⟩;rcases aF.mp j with rfl|j
   ·exact⟨_,_,rfl⟩
   ·exact f v j
theorem ZcJ {l L:Addr}{m:TX}{as:TW}{yss:T8}{p:Array Nat}{Q:TY}(o5:s.heap.Ns L m)(hl:s.heap.IsList l (as.map ax).toArray)(n2:2<=as.length)(o6:as.length<64)(hy:as.length=yss.length)
  (ht:∀(i:Nat) a,as[i]?=some a->a≠L/\∃(us:List Value) (ys:TZ),yss[i]?=some ys/\s.heap.IsTuple a us.toArray/\be us ys/\ys≠[])
  (hp:XT as.length (λi j=>JZ (yss.getD i []) (yss.getD j [])) (f7 as.length)=some p)
  (q:∀D c h',s.heap.get? D=none->D≠L->(∀b o,b≠L->s.heap.get? b=some o->h'.get? b=some o)->h'.Ns L m->h'.get? D=some (mU (p.toList.map λi=>(as.map ax).getD i a6).toArray c)->Q (.ref D) {s with heap:=h'}) :
  wpAny (model prog w) A (call (.builtin "sorted") [.ref l]) Q E s:=by
 have fr:Fr (ZaB s.heap L) L s.heap m:=by
  refine⟨o5,λb o e=>?_,?_⟩
  ·by_cases hb:b<L
   ·rw[YT hb] at e;exact e
   ·rw[W2 (fU hb)] at e
    cases e
  ·show (s.heap.objs.extract 0 L).size<=L
   rw[gF,cB];exact gt ..
 have nw:News (ZaB s.heap L) L s.heap (Yk s.heap L):=λx hx=>by
  obtain⟨J,h2⟩:=Yp.mp hx;exact⟨h2,bu J,W2 (cL J)⟩
 have lv:(as.map ax).length=as.length:=gh ..;refine mr fr nw hl (by rw[lv];exact n2) (by rw[lv];exact o6) λD e1 h' n8 M big=>?_;have kept:∀b o,b≠L->s.heap.get? b=some o->h'.get? b=some o:=λb o hb e=>by
  rcases cD b L with J|J
  ·exact n8.keep b o (by rw[YT J];exact e)
  ·exact (M (b,o) (ao _ (Yp.mpr ⟨bD J (bf hb),e⟩))).1
 have dn:s.heap.get? D=none:=by
  cases e:s.heap.get? D with
  |none=>rfl
  |some o=>
   obtain⟨_,dL,dc⟩:=M _ (ar ..);rcases cD D L with J|J
   ·rw[YT J] at dc
    rw[dc] at e;cases e
   ·exact absurd (big (D,o) (Yp.mpr ⟨bD J (bf dL),e⟩)) (bw _)
 have dL:D≠L:=(M _ (ar ..)).2.1;have n6:∀(i:Nat) a,as[i]?=some a->∃(us:List Value) (ys:TZ),yss[i]?=some ys/\h'.IsTuple a us.toArray/\be us ys/\ys≠[]:=λi a hi=>by
  obtain⟨aL,us,ys,e,⟨o,g1,g2⟩,ia,ne⟩:=ht i a hi;exact⟨us,ys,e,⟨o,kept a o aL g1,g2⟩,ia,ne⟩
 obtain⟨fs,kt,fl,fi⟩:=ZfH as yss hy n6;refine W.kat_kind (T:=bW "int") kt (by omega) (λv hv=>?_) (by decide +kernel) ?_
 ·obtain⟨n,t,rfl⟩:=fi v hv
  intro A Q E s' _ q;exact Zm q
 ·rw[lv]
  have kb:(bW "int" != bW "tuple")=true:=by decide +kernel
  rw[kb];refine XC (cmp:=λi j=>JZ (yss.getD i []) (yss.getD j [])) (λi j C hi hj c=>?_) _ p _ hp ?_
  ·unfold lQ
   obtain⟨us,ys,e,⟨o,g1,g2,n1,g3⟩,ia,_⟩:=n6 i as[i] (Zf hi);obtain⟨o7,n9,e2,⟨o2,k1,k2,o9,k3⟩,o0,_⟩:=n6 j as[j] (Zf hj);have v1:(as.map ax).getD i a6=.ref as[i]:=by
    rw[Zb,Zc,Zf hi];rfl
   have v2:(as.map ax).getD j a6=.ref as[j]:=by
    rw[Zb,Zc,Zf hj];rfl
   have w1:yss.getD i []=ys:=by rw[Zb,e];rfl
   have w2:yss.getD j []=n9:=by rw[Zb,e2];rfl
   rw[v1,v2];refine W.kat_lt g1 g3 k1 k3 ?_;have il:∀{us:List Value}{ys:TZ},be us ys->us.length=ys.length:=λ{us ys} h=>by
    induction h with
    |nil=>rfl
    |cons _ _ _ ih=>rw[Zi,Zi,ih]
   refine ZiU us o7 ys n9 0 ia o0 ?_;rw[w1,w2] at c;unfold JZ at c;rw[Zh,Zh,il ia,il o0];exact c
  ·refine⟨_,_,n8,M,kP (λx hx=>ay (big x hx)),λo8 c O Y=>?_⟩
   refine q D c o8 dn dL (λb o hb e=>?_) O.ns (Y _ (ar ..)).1;rcases cD b L with J|J
   ·exact O.keep b o (by rw[YT J];exact e)
   ·exact (Y (b,o) (ao _ (Yp.mpr ⟨bD J (bf hb),e⟩))).1
def Runs (n:Nat)(cmp:Nat->Nat->Bool){α:Type}:jY α->(α->Prop)->Prop
 | .ret a,Q=>Q a
 | .ask i j k,Q=>i<n/\j<n/\Runs n cmp (k (cmp i j)) Q
theorem Runs.run {n:Nat}{cmp:Nat->Nat->Bool}{α:Type}{Q:α->Prop}:∀{t:jY α},Runs n cmp t Q->∃a,XT n cmp t=some a/\Q a
 | .ret a,h=>⟨a,rfl,h⟩
 | .ask i j k,h=>by
  obtain⟨J,M,O⟩:=h;obtain⟨a,e,q⟩:=O.run;exact⟨a,by rw[XT,if_pos ⟨J,M⟩];exact e,q⟩
theorem Runs.bind {n:Nat}{cmp:Nat->Nat->Bool}{α q:Type}{f:α->jY q}{Q:q->Prop}:∀{t:jY α},Runs n cmp t (λa=>Runs n cmp (f a) Q)->Runs n cmp (t.bind f) Q
 | .ret a,h=>h
 | .ask i j k,h=>⟨h.1,h.2.1,h.2.2.bind⟩
theorem Runs.mono {n:Nat}{cmp:Nat->Nat->Bool}{α:Type}{Q q:α->Prop}(J:∀a,Q a->q a):∀{t:jY α},Runs n cmp t Q->Runs n cmp t q
 | .ret a,h=>J a h
 | .ask i j k,h=>⟨h.1,h.2.1,h.2.2.mono J⟩
section
variable {rank:Nat->Nat}
noncomputable abbrev WW (rank:Nat->Nat):Nat->Nat->Bool:=λi j=>decide (rank i<rank j)
def RK (rank:Nat->Nat)(p:Array Nat)(i:Nat):Nat:=rank (p.getD i 0)
structure PmO (n:Nat)(p:Array Nat):Prop where
 pm:p.Perm (ac n).toArray
theorem PmO.size {p:Array Nat}(h:PmO n p):p.size=n:=by
 have:=h.pm.size_eq;simpa using this
theorem PmO.lt {p:Array Nat}(h:PmO n p){i:Nat}(hi:i<n):p.getD i 0<n:=by
 have j:=h.size;have q:p.toList.Perm (ac n):=by have:=h.pm;rw[j7] at this;simpa using this
 have e:p.getD i 0=p[i]'(by omega):=by simp[mI,j,hi]
 rw[e];have J:p[i]'(by omega)∈p.toList:=by simp
 exact af.mp (q.mem_iff.mp J)
theorem Xr {p q:Array Nat}{i j:Nat}(h:p[i]?=q[j]?):RK rank p i=RK rank q j:=by
 unfold RK;rw[cJ,cJ,h]
theorem Zg7 {xs:Array Nat}{src d:Nat}(J:src<xs.size)(M:d<=src)(k:Nat) :
  RK rank (bubble xs src d) k=if k=src-d then RK rank xs src else if src-d<k/\k<=src then RK rank xs (k-1) else RK rank xs k:=by
 have e:=getElem?_bubble J d M k;by_cases j:k=src-d
 ·rw[if_pos j] at e ⊢;exact Xr e
 ·rw[if_neg j] at e ⊢
  by_cases q:src-d<k/\k<=src
  ·rw[if_pos q] at e ⊢;exact Xr e
  ·rw[if_neg q] at e ⊢;exact Xr e
theorem ZeS {xs:Array Nat}{i j:Nat}(J:j<=xs.size)(k:Nat):RK rank (ff xs i j) k=if i<=k/\k<j then RK rank xs (i+j-1-k) else RK rank xs k:=by
 have e:=getElem?_mirror_all (i:=i) J k;unfold ff;by_cases q:i<=k/\k<j
 ·rw[if_pos q] at e ⊢;exact Xr e
 ·rw[if_neg q] at e ⊢;exact Xr e
theorem VT {xs:Array Nat}{i j:Nat}(q:j<=xs.size)(heq:∀k,i<=k->k<j->RK rank xs k=RK rank xs (j-1))(k:Nat):RK rank (ff xs i j) k=RK rank xs k:=by
 rw[ZeS q];split
 ·rw[heq _ (by omega) (by omega),heq k (by omega) (by omega)]
 ·rfl
theorem PmO.rev {p:Array Nat}(h:PmO n p)(i j:Nat):PmO n (ff p i j):=⟨(mirror_perm p i j _).trans h.pm⟩
theorem PmO.bub {p:Array Nat}(h:PmO n p)(k d:Nat):PmO n (bubble p k d):=⟨(bubble_perm p k d).trans h.pm⟩
def Up (rank:Nat->Nat)(p:Array Nat)(k:Nat):Prop:=∀i j,i<=j->j<k->RK rank p i<=RK rank p j
def Dn (rank:Nat->Nat)(p:Array Nat)(k:Nat):Prop:=∀i j,i<=j->j<k->RK rank p j<=RK rank p i
theorem Up.snoc {p:Array Nat}{k:Nat}(O:1<=k)(h:Up rank p k)(J:RK rank p (k-1)<=RK rank p k):Up rank p (k+1):=λi j q Y=>by
 by_cases e:j=k
 ·subst e
  by_cases M:i=j
  ·rw[M];exact Zq _
  ·exact aW (h i (j-1) (by omega) (by omega)) J
 ·exact h i j q (by omega)
theorem Dn.snoc {p:Array Nat}{k:Nat}(O:1<=k)(h:Dn rank p k)(J:RK rank p k<=RK rank p (k-1)):Dn rank p (k+1):=λi j q Y=>by
 by_cases e:j=k
 ·subst e
  by_cases M:i=j
  ·rw[M];exact Zq _
  ·exact aW J (h i (j-1) (by omega) (by omega))
 ·exact h i j q (by omega)
theorem ZeO {p:Array Nat}(q:PmO n p):∀(f k:Nat),1<=k->k+f<=n->Up rank p k->Runs n (WW rank) (W.kas_asc p f k) λm=>k<=m/\m<=k+f/\Up rank p m/\(m<k+f->RK rank p m<RK rank p (m-1))
 |0,k,J,M,j=>⟨Zq _,Zq _,j,λz=>absurd z (by omega)⟩
 |f+1,k,J,M,j=>by
  refine⟨q.lt (by omega),q.lt (by omega),?_⟩;by_cases c:rank (p.getD k 0)<rank (p.getD (k-1) 0)
  ·rw[show WW rank _ _=true from decide_eq_true c]
   exact⟨Zq _,by omega,j,λ_=>c⟩
  ·rw[show WW rank _ _=false from decide_eq_false c]
   refine (ZeO q f (k+1) (by omega) (by omega) (j.snoc J (by unfold RK;omega))).mono λm ⟨a,b,u,d⟩=>⟨by omega,by omega,u,λz=>d (by omega)⟩
theorem Ur:∀(f:Nat) (p:Array Nat) (k q:Nat),PmO n p->1<=k->k+f<=n->q+1<=k->Dn rank p k->(∀j,k-1-q<=j->j<k->RK rank p j=RK rank p (k-1))->
  Runs n (WW rank) (W.kas_desc f p k q) λr=>PmO n r.1/\1<=r.2.1/\r.2.1<=k+f/\r.2.2+1<=r.2.1/\Dn rank r.1 r.2.1/\∀j,r.2.1-1-r.2.2<=j->j<r.2.1->RK rank r.1 j=RK rank r.1 (r.2.1-1)
 |0,p,k,q,J,M,hk,Y,hd,he=>⟨J,M,Zq _,Y,hd,he⟩
 |f+1,p,k,q,J,M,hk,Y,hd,he=>by
  refine⟨J.lt (by omega),J.lt (by omega),?_⟩;by_cases c:rank (p.getD k 0)<rank (p.getD (k-1) 0)
  ·rw[show WW rank _ _=true from decide_eq_true c]
   show Runs n (WW rank) (if q > 0 then W.kas_desc f (ff p (k-(q+1)) k) (k+1) 0 else W.kas_desc f p (k+1) 0) _
   have O:=hd.snoc M (cL c);have sz:=J.size;split
   ·have er:∀j,RK rank (ff p (k-(q+1)) k) j=RK rank p j:=λj=>VT (by omega) (λi a b=>he i (by omega) b) j
    refine (Ur f _ (k+1) 0 (J.rev _ _) (by omega) (by omega) (by omega) (λi j a b=>?_) (λj a b=>?_)).mono λr ⟨a,b,c,d⟩=>⟨a,b,by omega,d⟩
    ·rw[er,er];exact O i j a b
    ·rw[show j=k+1-1 by omega]
   ·refine (Ur f _ (k+1) 0 J (by omega) (by omega) (by omega) O (λj a b=>?_)).mono λr ⟨a,b,c,d⟩=>⟨a,b,by omega,d⟩
    rw[show j=k+1-1 by omega]
  ·rw[show WW rank _ _=false from decide_eq_false c]
   refine⟨J.lt (by omega),J.lt (by omega),?_⟩;by_cases d:rank (p.getD (k-1) 0)<rank (p.getD k 0)
   ·rw[show WW rank _ _=true from decide_eq_true d]
    exact⟨J,M,(show k<=k+(f+1) by omega),Y,hd,he⟩
   ·rw[show WW rank _ _=false from decide_eq_false d]
    have e:RK rank p k=RK rank p (k-1):=by unfold RK;omega
    refine (Ur f _ (k+1) (q+1) J (by omega) (by omega) (by omega) (hd.snoc M (by omega)) (λj a b=>?_)).mono λr ⟨a,b,c,d⟩=>⟨a,b,by omega,d⟩;rw[show k+1-1=k by omega];by_cases ej:j=k
    ·rw[ej]
    ·rw[he j (by omega) (by omega),e]
theorem ZcD {p:Array Nat}{k:Nat}(q:PmO n p)(J:1<=k)(Y:k<=n)(M:Dn rank p k):Runs n (WW rank) (mV k n p) λr=>1<=r.1/\r.1<=n/\PmO n r.2/\Up rank r.2 r.1:=by
 have sz:=q.size;have O:Up rank (ff p 0 k) k:=λi j a b=>by
  rw[ZeS (by omega),ZeS (by omega),if_pos ⟨aV _,by omega⟩,if_pos ⟨aV _,b⟩];exact M _ _ (by omega) (by omega)
 exact Runs.bind ((ZeO (q.rev 0 k) (n-k) k J (by omega) O).mono λm ⟨a,b,c,_⟩=>⟨aW J a,by show m<=n;omega,q.rev 0 k,c⟩)
theorem V5 {p:Array Nat}{k:Nat}(J:PmO n p)(O:k+1<=n)(M:Dn rank p (k+1)):Runs n (WW rank) (W.kas_descPart k n p) λr=>1<=r.1/\r.1<=n/\PmO n r.2/\Up rank r.2 r.1:=by
 refine Runs.bind ((Ur (n-(k+1)) p (k+1) 0 J (by omega) (by omega) (by omega) M (λj a b=>by rw[show j=k+1-1 by omega])).mono λr ⟨a,b,c,d,e,g⟩=>?_);have sz:=a.size;show Runs n (WW rank) (if r.2.2 > 0 then mV r.2.1 n (ff r.1 (r.2.1-(r.2.2+1)) r.2.1) else mV r.2.1 n r.1) _
 split
 ·have q:∀j,RK rank (ff r.1 (r.2.1-(r.2.2+1)) r.2.1) j=RK rank r.1 j:=λj=>VT (by omega) (λi x y=>g i (by omega) y) j
  exact ZcD (a.rev _ _) b (by omega) λi j x y=>by rw[q,q];exact e i j x y
 ·exact ZcD a b (by omega) e
theorem Zjs {p:Array Nat}(q:PmO n p)(h1:1<=n):Runs n (WW rank) (W.kas_count n p) λr=>1<=r.1/\r.1<=n/\PmO n r.2/\Up rank r.2 r.1:=by
 refine Runs.bind ((ZeO q (n-1) 1 (Zq _) (by omega) (λi j a b=>by rw[show i=0 by omega,show j=0 by omega];exact Zq _)).mono λm ⟨a,b,c,d⟩=>?_);have sz:=q.size;show Runs n (WW rank) (if (m == n)=true then _ else _) _
 by_cases e:m=n
 ·rw[if_pos (by rw[e];exact beq_self_eq_true n)]
  exact⟨a,by show m<=n;omega,q,c⟩
 ·rw[if_neg (by simpa using e)]
  have O:=d (by omega);have J:Dn rank p m->Dn rank p (m+1):=λh=>h.snoc a (cL O);split
  ·refine⟨q.lt (by omega),q.lt (by omega),?_⟩
   by_cases g:rank (p.getD 0 0)<rank (p.getD (m-1) 0)
   ·rw[show WW rank _ _=true from decide_eq_true g]
    exact⟨a,by show m<=n;omega,q,c⟩
   ·rw[show WW rank _ _=false from decide_eq_false g]
    have all:∀j,j<m->RK rank p j=RK rank p (m-1):=λj Y=>by
     have x:=c 0 j (by omega) Y;have y:=c j (m-1) (by omega) (by omega);unfold RK at x y ⊢;omega
    have M:∀j,RK rank (ff p 0 m) j=RK rank p j:=λj=>VT (by omega) (λi _ y=>all i y) j;refine V5 (q.rev 0 m) (by omega) λi j x y=>?_;rw[M,M];exact J (λi j x y=>by rw[all i (by omega),all j y];exact Zq _) i j x y
  ·have e1:m=1:=by omega
   subst e1;exact V5 q (by omega) (J λi j x y=>by rw[show i=0 by omega,show j=0 by omega];exact Zq _)
theorem UU {p:Array Nat}{k:Nat}(j:PmO n p)(Y:k<n)(q:Up rank p k):∀(f l r:Nat),r-l<=f->l<=r->r<=k->(∀i,i<l->RK rank p i<=RK rank p k)->(∀i,r<=i->i<k->RK rank p k<RK rank p i)->
  Runs n (WW rank) (W.kas_place p k f l r) λm=>m<=k/\(∀i,i<m->RK rank p i<=RK rank p k)/\∀i,m<=i->i<k->RK rank p k<RK rank p i
 |0,l,r,hf,n6,J,M,O=>by
  have e:l=r:=by omega
  subst e;exact⟨J,M,O⟩
 |f+1,l,r,hf,n6,J,M,O=>by
  show Runs n (WW rank) (if l ≥ r then _ else _) _
  split
  ·have e:l=r:=by omega
   subst e;exact⟨J,M,O⟩
  ·refine⟨j.lt Y,j.lt (by omega),?_⟩
   by_cases c:rank (p.getD k 0)<rank (p.getD ((l+r) / 2) 0)
   ·rw[show WW rank _ _=true from decide_eq_true c]
    refine UU j Y q f l ((l+r) / 2) (by omega) (by omega) (by omega) M λi a b=>?_;exact aC c (q _ _ a b)
   ·rw[show WW rank _ _=false from decide_eq_false c]
    refine UU j Y q f ((l+r) / 2+1) r (by omega) (by omega) J (λi a=>?_) O;have:=q i ((l+r) / 2) (by omega) (by omega);unfold RK at this ⊢;omega
theorem ZjF:∀(f:Nat) (p:Array Nat) (k:Nat),PmO n p->k+f=n->Up rank p k->Runs n (WW rank) (W.kas_bin f p k) λr=>PmO n r/\Up rank r n
 |0,p,k,J,Y,q=>⟨J,by rw[<-Y];exact q⟩
 |f+1,p,k,J,Y,q=>by
  have sz:=J.size;refine Runs.bind ((UU J (by omega) q k 0 k (by omega) (by omega) (Zq _) (λi h=>by omega) (λi a b=>by omega)).mono λl ⟨a,b,c⟩=>?_);refine ZjF f _ (k+1) (J.bub _ _) (by omega) λi j O hj=>?_;have hb:=λx=>Zg7 (rank:=rank) (xs:=p) (src:=k) (d:=k-l) (by omega) (by omega) x;rw[hb i,hb j];have el:k-(k-l)=l:=by omega
  rw[el];have n8:=q;by_cases i1:i=l
  ·rw[if_pos i1]
   by_cases M:j=l
   ·rw[if_pos M];exact Zq _
   ·rw[if_neg M,if_pos ⟨by omega,by omega⟩]
    exact cL (c (j-1) (by omega) (by omega))
  ·rw[if_neg i1]
   by_cases i2:l<i/\i<=k
   ·rw[if_pos i2,if_neg (by omega),if_pos ⟨by omega,by omega⟩]
    exact q _ _ (by omega) (by omega)
   ·rw[if_neg i2]
    have il:i<l:=by omega
    by_cases M:j=l
    ·rw[if_pos M];exact b i il
    ·rw[if_neg M]
     by_cases j2:l<j/\j<=k
     ·rw[if_pos j2];exact q _ _ (by omega) (by omega)
     ·rw[if_neg j2];exact q _ _ O (by omega)
theorem Ze6 (O:1<=n)(rank:Nat->Nat):∃p,XT n (WW rank) (f7 n)=some p/\p.toList.Perm (ac n)/\(p.toList.map rank).Pairwise (· ≤ ·):=by
 have:Runs n (WW rank) (f7 n) λp=>PmO n p/\Up rank p n:=by
  refine Runs.bind ((Zjs (rank:=rank) ⟨Array.Perm.refl _⟩ O).mono λr ⟨a,b,c,d⟩=>?_);show Runs n (WW rank) (if r.1<n then _ else _) _
  split
  ·have e:max r.1 1=r.1:=by omega
   rw[e];exact ZjF _ _ _ c (by omega) d
  ·exact⟨c,by rw[show n=r.1 by omega];exact d⟩
 obtain⟨p,e,M,Y⟩:=this.run;refine⟨p,e,?_,?_⟩
 ·have:=M.pm
  rw[j7] at this;simpa using this
 ·have sz:=M.size
  rw[ki];intro i j q J n6;rw[Za] at q J;have li:i<p.size:=by simpa using q
  have lj:j<p.size:=by simpa using J
  have:=Y i j (by omega) (by omega);unfold RK at this;rw[nG,nG];have ei:p.getD i 0=p.toList[i]'q:=by simp[mI,li]
  have ej:p.getD j 0=p.toList[j]'J:=by simp[mI,lj]
  rw[ei,ej] at this;exact this
end
end PyZ
namespace PyZ
open PySem PyProof PyProof.Rows SeqAt
open AutoSeq1 (wpAny_loadPart')
theorem XD {vs:List Value}{ns:TZ}(h:be vs ns):∀{i:Nat}{v:Value},vs[i]?=some v->∃n t,ns[i]?=some n/\v=.int n t:=by
 induction h with
 |nil=>intro i v e;simp at e
 |cons n t _ j=>
  intro i v e
  match i,e with
  |0,e=>cases e;exact⟨_,_,rfl,rfl⟩
  |i+1,e=>exact j (i:=i) (by simpa using e)
theorem JF {vs:List Value}{ns:TZ}(h:be vs ns):vs.length=ns.length:=by
 induction h with
 |nil=>rfl
 |cons _ _ _ j=>rw[Zi,Zi,j]
theorem ZaW {fin:Bool}{xs ys:TZ}{i:Nat}{x y:Int}(j:xs[i]?=some x)(q:ys[i]?=some y):Zay fin (xs.drop i) (ys.drop i)=if x=y then Zay fin (xs.drop (i+1)) (ys.drop (i+1)) else decide (x<y):=by
 have J:=(ae.mp j);have M:=(ae.mp q);obtain⟨O,Y⟩:=J;obtain⟨l2,e2⟩:=M;rw[bV O,bV l2,Y,e2];rfl
theorem U5 {fin:Bool}{xs ys:TZ}{i:Nat}(h:xs[i]?=none\/ys[i]?=none):Zay fin (xs.drop i) (ys.drop i)=fin:=by
 rcases h with h|h
 ·rw[fj (gR.mp h)]
  rfl
 ·rw[fj (as:=ys) (gR.mp h)]
  cases xs.drop i with
  |nil=>rfl
  |cons _ _=>rfl
theorem Zlh (l b:Addr)(items j:Array Value)(n n2:Nat)(dd n8:Option Addr)(sl n9:Array (Option Value)){xs ys:TZ}(hx:be items.toList xs)(hy:be j.toList ys)(k:Nat) :
  ∀i:Nat,items.size-i=k->Meets (cK.«list.__eq__.loop» ⟨[.ref l,.ref b,rawInt i,rawInt 0],[]⟩)
   (λA R s=>s.heap.get? l=some {cls:=.type "list",dict:=dd,data:=.seq items n,slots:=sl}/\s.heap.get? b=some {cls:=.type "list",dict:=n8,data:=.seq j n2,slots:=n9}/\
    R (.ok (.ret (.bool (Zay (decide (xs.length<ys.length)) (xs.drop i) (ys.drop i))))) s):=by
 have sx:items.size=xs.length:=by rw[<-JF hx,Zr]
 have sy:j.size=ys.length:=by rw[<-JF hy,Zr]
 induction k with
 |zero=>
  intro i hk q w A R s h;obtain⟨hp,g,d,tk,os⟩:=s;obtain⟨Y,hb,h⟩:=h
  wp_walk using wpAny_loadPart' Y,wpAny_loadPart' hb
  have J:items[((i:Nat):Int).toNat]?=none:=by simp;omega
  rw[U5 (.inl (ai (by omega)))] at h;rw[J]
  wp_walk using wpAny_loadPart' Y,wpAny_loadPart' hb
  show R (.ok (.ret (.bool (decide (items.size<j.size))))) _;rw[sx,sy];exact h
 |succ k ih=>
  intro i hk q w A R s h;obtain⟨hp,g,d,tk,os⟩:=s;obtain⟨Y,hb,h⟩:=h
  wp_walk using wpAny_loadPart' Y,wpAny_loadPart' hb
  have n6:i<items.size:=by omega
  have J:items[((i:Nat):Int).toNat]?=some items[i]:=by simp[n6]
  have hc:((i:Int)+1)=((i+1:Nat):Int):=by push_cast;rfl
  by_cases O:i<j.size
  ·have M:j[((i:Nat):Int).toNat]?=some j[i]:=by simp[O]
   obtain⟨x,tx,ex,vx⟩:=XD hx (i:=i) (v:=items[i]) (by simp[n6]);obtain⟨y,ty,ey,vy⟩:=XD hy (i:=i) (v:=j[i]) (by simp[O]);rw[ZaW ex ey] at h;rw[J,M,vx,vy];refine Zl (gc _ _ _ _ q w _ _ ?_);by_cases e:x=y
   ·rw[if_pos e] at h
    rw[show (x == y)=true from beq_iff_eq.mpr e]
    wp_walk
    rw[hc];exact⟨dh eQ _,bP jR (by
     rw[bI eQ _];exact ih (i+1) (by omega) q w A R _ ⟨Y,hb,h⟩)⟩
   ·rw[if_neg e] at h
    rw[show (x == y)=false from beq_eq_false_iff_ne.mpr e]
    wp_walk using wpAny_loadPart' Y,wpAny_loadPart' hb
    rw[J,M,vx,vy];refine Zl (lt_int ?_);exact Zm h
  ·have M:j[((i:Nat):Int).toNat]?=none:=by simp;omega
   rw[U5 (.inr (ai (by omega)))] at h;rw[J,M]
   wp_walk using wpAny_loadPart' Y,wpAny_loadPart' hb
   show R (.ok (.ret (.bool (decide (items.size<j.size))))) _;rw[sx,sy];exact h
theorem Zll (l b:Addr)(items j:Array Value)(n O:Nat)(Y q:Option Addr)(sl J:Array (Option Value)){xs ys:TZ}(hx:be items.toList xs)(hy:be j.toList ys) :
  Meets (cK.«list.__lt__» ⟨[.ref l,.ref b],[]⟩)
   (λA R s=>s.heap.get? l=some {cls:=.type "list",dict:=Y,data:=.seq items n,slots:=sl}/\s.heap.get? b=some {cls:=.type "list",dict:=q,data:=.seq j O,slots:=J}/\
    R (.ok (.ret (.bool (JZ xs ys)))) s):=by
 intro M w A R s h;obtain⟨hp,g,d,tk,os⟩:=s;obtain⟨hl,hb,h⟩:=h;have f3:=AutoSeq1.sub_list_list
 wp_walk using wpAny_loadPart' hl,wpAny_loadPart' hb
 exact⟨dh eQ _,bP jR (by
  rw[bI eQ _];exact Zlh l b items j n O Y q sl J hx hy _ 0 rfl M w A R _ ⟨hl,hb,by simpa [JZ] using h⟩)⟩
theorem Zes {l b:Addr}{us vs:List Value}{xs ys:TZ}{Q:Bool->Shared->Prop}(hu:A.units<cLine)(hl:s.heap.IsList l us.toArray)(hb:s.heap.IsList b vs.toArray)(hx:be us xs)(hy:be vs ys)(h:Q (JZ xs ys) s) :
  wpAny (model prog w) A (keyLt' oneType' (.ref l) (.ref b)) Q E s:=by
 obtain⟨ol,Y,c1,n1,d1⟩:=hl;obtain⟨ob,e2,c2,n2,d2⟩:=hb;obtain⟨n9,M,n6,q⟩:=ol;obtain⟨n8,J,O,j⟩:=ob;simp only at c1 d1 c2 d2;subst c1 d1 c2 d2;rw[keyLt'_oneType,oneLt'_eq];simp only[if_true];refine Zl (wpAny_cRoomFor hu ?_);refine Zl (wpAny_callSpecialIfBound?_slot ⟨_,Y,rfl⟩ kH ?_);refine eR kH ⟨_,Y,rfl⟩ PySem.F.entry_list_lt (PySem.F.args_list_lt_2 _ _) (Zll l b us.toArray vs.toArray n1 n2 M J q j (by simpa using hx) (by simpa using hy)) ⟨Y,e2,?_⟩;exact fQ h
end PyZ
namespace PyZ
open PySem PyProof PyProof.Rows
theorem ZbW (ys:TZ):JZ [] ys=decide (0<ys.length):=rfl
theorem Zdg (xs:TZ):JZ xs []=false:=by
 cases xs with
 |nil=>rfl
 |cons x xs=>
  show decide ((x::xs).length<([]:TZ).length)=false;exact decide_eq_false (by simp)
theorem U1 (x y:Int)(xs ys:TZ):JZ (x::xs) (y::ys)=if x=y then JZ xs ys else decide (x<y):=by
 unfold JZ;show (if x=y then Zay _ xs ys else _)=_
 have e:decide ((x::xs).length<(y::ys).length)=decide (xs.length<ys.length):=by
  simp only[Zi,kL]
 rw[e]
theorem ZbX:∀xs:TZ,JZ xs xs=false
 | []=>rfl
 |x::xs=>by rw[U1,if_pos rfl];exact ZbX xs
theorem Um:∀{xs ys:TZ},JZ xs ys=false->JZ ys xs=false->xs=ys
 | [],[],_,_=>rfl
 | [],_::_,h,_=>by rw[ZbW] at h;simp at h
 |_::_,[],_,h=>by rw[ZbW] at h;simp at h
 |x::xs,y::ys,j,q=>by
  rw[U1] at j q;by_cases e:x=y
  ·rw[if_pos e] at j
   rw[if_pos e.symm] at q;rw[e,Um j q]
  ·rw[if_neg e] at j
   rw[if_neg (bf e)] at q;have a:=of_decide_eq_false j;have b:=of_decide_eq_false q;omega
theorem VJ:∀{xs ys q:TZ},JZ xs ys=true->JZ ys q=true->JZ xs q=true
 |xs,ys,[],_,h=>by rw[Zdg] at h;cases h
 |xs,[],z::q,h,_=>by rw[Zdg] at h;cases h
 | [],y::ys,z::q,_,_=>by rw[ZbW];exact decide_eq_true (by simp)
 |x::xs,y::ys,z::q,J,j=>by
  rw[U1] at J j ⊢;by_cases O:x=y
  ·rw[if_pos O] at J
   by_cases M:y=z
   ·rw[if_pos M] at j
    rw[if_pos (O.trans M)];exact VJ J j
   ·rw[if_neg M] at j
    have:=of_decide_eq_true j;rw[if_neg (by omega)];exact decide_eq_true (by omega)
  ·rw[if_neg O] at J
   have a:=of_decide_eq_true J;by_cases M:y=z
   ·rw[if_neg (by omega)]
    exact decide_eq_true (by omega)
   ·rw[if_neg M] at j
    have:=of_decide_eq_true j;rw[if_neg (by omega)];exact decide_eq_true (by omega)
theorem XS {n:Nat}{cmp q:Nat->Nat->Bool}(h:∀i j,i<n->j<n->cmp i j=q i j){α:Type}:∀t:jY α,XT n cmp t=XT n q t
 | .ret a=>rfl
 | .ask i j k=>by
  rw[XT,XT];by_cases J:i<n/\j<n
  ·rw[if_pos J,if_pos J,h i j J.1 J.2]
   exact XS h _
  ·rw[if_neg J,if_neg J]
theorem VN {α:Type}{p q:α->Bool}:∀{l:List α},(∀x∈l,p x=true->q x=true)->(∃x∈l,p x=false/\q x=true)->l.countP p<l.countP q
 | [],_,⟨x,j,_⟩=>by cases j
 |y::l,h,⟨x,j,J,M⟩=>by
  have le:∀{l:List α},(∀x∈l,p x=true->q x=true)->l.countP p<=l.countP q:=λ{l} h=>List.countP_mono_left h;rw[nK,nK];have O:∀x∈l,p x=true->q x=true:=λz Y=>h z (ao _ Y);rcases aF.mp j with e|j
  ·rw[<-e,J,M]
   have:=le O;simp only[dE,if_false,if_true];omega
  ·have:=VN O ⟨x,j,J,M⟩
   have hy:=h y ar;cases e1:p y with
   |true=>rw[hy e1];omega
   |false=>
    simp only[dE,if_false];split <;> omega
def rkB (yss:T8)(i:Nat):Nat:=(ac yss.length).countP λk=>JZ (yss.getD k []) (yss.getD i [])
theorem Zh3 {yss:T8}{i j:Nat}(q:i<yss.length)(O:j<yss.length):JZ (yss.getD i []) (yss.getD j [])=decide (rkB yss i<rkB yss j):=by
 have J:∀{i j:Nat},i<yss.length->JZ (yss.getD i []) (yss.getD j [])=true->rkB yss i<rkB yss j:=λ{i j} q h=>by
  refine VN (λk _ Y=>VJ Y h) ⟨i,af.mpr q,ZbX _,h⟩
 cases e:JZ (yss.getD i []) (yss.getD j []) with
 |true=>rw[decide_eq_true (J q e)]
 |false=>
  cases M:JZ (yss.getD j []) (yss.getD i []) with
  |true=>
   have:=J O M;rw[decide_eq_false (by omega)]
  |false=>
   have:=Um e M;unfold rkB;rw[this];exact (decide_eq_false (by omega)).symm
theorem Zge {yss:T8}(M:1<=yss.length):∃p,XT yss.length (λi j=>JZ (yss.getD i []) (yss.getD j [])) (f7 yss.length)=some p/\p.toList.Perm (ac yss.length)/\(p.toList.map λi=>yss.getD i []).Pairwise λa b=>JZ b a=false:=by
 obtain⟨p,e,q,J⟩:=Ze6 M (rkB yss);refine⟨p,(XS (λi j O Y=>Zh3 O Y) _).trans e,q,?_⟩;rw[fh] at J ⊢;refine cN (λ{a b} ha hb n6=>?_) J;have la:=af.mp (q.mem_iff.mp ha);have lb:=af.mp (q.mem_iff.mp hb);rw[Zh3 lb la];exact decide_eq_false (by omega)
theorem ZjZ (vs:List Value)(h:vs.length<2):(vs.toArray.zip vs.toArray).map (·.2)=vs.toArray:=by
 cases vs with
 |nil=>simp
 |cons v r=>
  cases r with
  |nil=>simp
  |cons a b=>exact absurd h (by rw[Zi,Zi];omega)
theorem UI {a:Addr}{vs:List Value}{n:Nat}{P:Fin->Shared->Prop}(M:s.heap.get? a=some (seqObj "list" vs.toArray n))(h2:vs.length<2)
  (h:P (.done (.ret .none)) {s with heap:=sortedHeap s.heap a vs vs.toArray}):wpAny (model prog w) A (cK.«list.sort» ⟨[.ref a],[]⟩) P E s:=by
 rw[list_sort_plain];have Y:a<s.heap.objs.size:=Zp M;refine Zl (m5 M rfl ?_);refine Zl (mC M rfl ?_);obtain⟨O,j⟩:∃O,(s.heap.update a (bz λ_=>#[])).get? a=some (seqObj "list" #[] O):=⟨_,iY M (λ_=>#[])⟩;refine Zl (seqEpoch_at j rfl ?_);refine Zl (wpAny_newTuple ?_);refine Zl (gv ?_);refine cf ?_;have q:(((s.heap.update a (bz λ_=>#[])).push (seqObj "tuple" vs.toArray 0)).push (seqObj "list" #[] 0)).get? a=some (seqObj "list" #[] O):=by
  rw[gS _ _ _ (by rw[lD,fJ];exact ay (cr Y)),gS _ _ _ (by rw[fJ];exact ay Y)];exact j
 show wpAny (model prog w) A _ P E {s with heap:=((s.heap.update a (bz λ_=>#[])).push (seqObj "tuple" vs.toArray 0)).push (seqObj "list" #[] 0)}
 try dsimp only
 have n8:vs.toArray.size=vs.length:=by simp
 have J:vs.toArray.size<2:=by omega
 rw[if_pos J,if_pos J];refine Zl (Zm ?_);rw[StateT.run_pure];refine Zl (Zm ?_)
 try dsimp only
 have eo:(arrOf (SortSt.mk' general' (vs.toArray.zip vs.toArray) #[] 7 none)).map (·.2)=vs.toArray:=by
  exact ZjZ _ h2
 refine Zl (seqEpoch_at q rfl ?_);refine Zl (mC q rfl ?_ (hsz2:=by rw[Array.size_map];show (pairsOf vs).size<=_;rw[pairsOf_size,gC];omega));simp only[bne_self_eq_false,dE,if_false];refine Zm ?_;rw[eo];exact h
theorem Zbu {l:Addr}{vs:List Value}{Q:TY}(J:s.heap.IsList l vs.toArray)(M:vs.length<2)
  (h:Q (.ref (s.heap.objs.size+1)) {s with heap:=sortedAll s.heap vs vs.toArray}):wpAny (model prog w) A (call (.builtin "sorted") [.ref l]) Q E s:=by
 refine e7 kA j3 j4 (j5 _) ?_;unfold cK.«sorted»;refine Zl (m:=checkCount "sorted" 1 1 _) (Zm ?_);refine Zl (collect_list J ?_ (by rw[gC];omega));refine Zl (gv ?_ (by rw[gC];omega));have j:((s.heap.push (seqObj "list" #[] 0)).update s.heap.objs.size (bz (· ++ vs.toArray))).objs.size=s.heap.objs.size+1:=by
  rw[fJ,lD]
 have q:(((s.heap.push (seqObj "list" #[] 0)).update s.heap.objs.size (bz (· ++ vs.toArray))).push (seqObj "list" vs.toArray 0)).get? (s.heap.objs.size+1)=some (seqObj "list" vs.toArray 0):=by
  rw[<-j];exact Zo _ rfl
 show wpAny _ _ _ _ _ {s with heap:=((s.heap.push (seqObj "list" #[] 0)).update s.heap.objs.size (bz (· ++ vs.toArray))).push (seqObj "list" vs.toArray 0)};rw[j];refine Zl (cf (bq ji ⟨_,q,rfl⟩ iZ (UI q M ⟨_,rfl,?_⟩) (jj _)));exact Zm ⟨_,rfl,h⟩
end PyZ
namespace L2
open PySem PySem.Spec PyProof.Rows
theorem Ys.there {P:Program}{w:World}{H:Hp}{h:Heap}{a:Addr}{o:HO}(x:Ys P w H h a o):∃j,h.get? a=some j:=by
 cases o with
 |lst J=>obtain⟨_,_,_,_,e⟩:=x;exact⟨_,e⟩
 |tup J=>obtain⟨_,_,_,j,e,_⟩:=x;exact⟨_,e⟩
 |dK q=>obtain⟨_,_,_,_,o,_,_,e,_⟩:=x;exact⟨_,e⟩
 |dT q=>obtain⟨_,_,_,_,o,_,_,e,_⟩:=x;exact⟨_,e⟩
 |set S n=>obtain⟨o,_,_,_,e,_⟩:=x;exact⟨_,e⟩
 |ins C M fs=>obtain⟨_,_,_,e,_⟩:=x;exact⟨_,e⟩
 |own y=>obtain⟨_,e⟩:=x;exact⟨_,e⟩
 |xd fs=>obtain⟨_,⟨_,_,_,e,_⟩,_⟩:=x;exact⟨_,e⟩
 |rng lo O=>obtain⟨_,_,_,e⟩:=x;exact⟨_,e⟩
 |frz j u=>obtain⟨e,_⟩:=x;exact⟨_,e⟩
 |tbl Y=>exact⟨_,(show h.get? a=some _ from x)⟩
 |met f y=>exact⟨_,(show h.get? a=some _ from x)⟩
 |ext φ=>obtain⟨_,⟨_,e⟩,_⟩:=x;exact⟨_,e⟩
theorem Inv.newL {D:Addr}{c:Nat}{h':Heap}{m:TX}{ys:TV}{Y:List Value}(I:Inv X pins σ H s)(hm:s.heap.Ns X.env.locals m)
  (hl:∀(i:Nat) (x:Str) (v:V),X.N[i]?=some x->σ[i]?=some (some v)->Vis X.env.scope x->∃u,RelV v u/\Look X.env s.heap m x u)
  (dn:s.heap.get? D=none) (dL:D≠X.env.locals) (kept:∀b o,b≠X.env.locals->s.heap.get? b=some o->h'.get? b=some o) (o5:h'.Ns X.env.locals m) (hz:ys.length<=sizeLine) (hv:ZS ys Y) (hD:h'.get? D=some {cls:=.type "list",data:=.seq Y.toArray c}) :
  Inv X pins σ (upd H D (.lst ys)) {s with heap:=h'}/\H D=none:=by
 have n8:H D=none:=by
  cases e:H D with
  |none=>rfl
  |some o=>
   obtain⟨ob,e2⟩:=(I.hok D o e).there;rw[dn] at e2;cases e2
 have n6:∀{b:Addr}{o:Obj},s.heap.get? b=some o->b≠D:=λ{b o} e z=>by rw[z,dn] at e;cases e
 have M:∀{b:Addr}{o:HO},H b=some o->b≠D:=λ{b o} e z=>by rw[z,n8] at e;cases e
 have n9:∀{b:Addr}{o:HO},H b=some o->b≠X.env.locals:=λ{b o} e z=>by rw[z,I.free] at e;cases e
 have bL:∀{b:Addr}{o:Obj},X.s₀.heap.get? b=some o->b≠X.env.locals:=λ{b o} e=>ay (aC (Zp e) I.ok.above);refine⟨⟨I.ok,I.os,I.bare,⟨λb o e n hb O=>?_,λb o e n hb O=>?_,λb o e n O=>?_,λb o e O=>?_,λb xs e=>?_,λb o u e=>?_,λb ps e=>?_⟩,⟨m,o5,λj y v e1 e2 e3=>?_⟩,λy J e=>?_,?_,λy J e=>?_,λp hp=>?_,λb ob e=>?_,I.len⟩,n8⟩
 ·exact kept b o (bL e) (I.base.keep b o e n hb O)
 ·obtain⟨sl,e1⟩:=I.base.slot b o e n hb O
  exact⟨sl,kept b _ (bL e) e1⟩
 ·obtain⟨o',e1⟩:=I.base.there b o e O
  rw[Zz (n6 e1)];exact I.base.free b o e n O
 ·obtain⟨o',e1⟩:=I.base.there b o e O
  exact⟨o',kept b _ (bL e) e1⟩
 ·have:=I.base.tups b xs e
  rw[Zz (M this)];exact this
 ·have:=I.base.frzs b o u e
  rw[Zz (M this)];exact this
 ·obtain⟨o0,this⟩:=I.base.tbls b ps e
  exact⟨o0,by rw[Zz (M this)];exact this⟩
 ·obtain⟨u,r,q⟩:=hl j y v e1 e2 e3
  refine⟨u,r,?_⟩;rcases q with ⟨k,e⟩|⟨k,J,e,z⟩
  ·exact .inl ⟨k,e⟩
  ·obtain⟨o,g,rest⟩:=z
   exact .inr ⟨k,J,e,o,kept J o (I.cne y J e) g,rest⟩
 ·obtain⟨w',o,g,rest⟩:=I.cell y J e
  exact⟨w',o,kept J o (I.cne y J e) g,rest⟩
 ·rw[Zz (bf dL)]
  exact I.free
 ·obtain⟨w',o,g,rest⟩:=I.cell y J e
  rw[Zz (n6 g)];exact I.freeC y J e
 ·obtain⟨e,n,ne,nf,d⟩:=I.pin p hp
  exact⟨kept p.1 _ ne e,by rw[Zz (n6 e)];exact n,ne,nf,d⟩
 ·by_cases hb:b=D
  ·subst hb
   rw[Zu] at e;cases (aB e);exact⟨hz,Y,c,hv,hD⟩
  ·rw[Zz hb] at e
   refine (I.hok b ob e).stay (λJ w' hc q=>kept J w' ?_ q) (λJ q=>?_) λJ xs q=>?_
   ·rcases hc with rfl|hc
    ·exact n9 e
    ·exact n9 hc
   ·rw[Zz (M q)]
    exact q
   ·rw[Zz (M q)]
    exact q
theorem W0:∀{as:TW}{us:List Value},ZS (as.map V.ref) us->us=as.map ax
 | [],_,h=>by cases h;rfl
 |a::as,_,h=>by
  cases h with
  |cons r t=>rw[show _=ax a from r,W0 t];rfl
theorem JN:∀{ns:TZ}{us:List Value},ZS (ns.map V.int) us->be us ns
 | [],_,h=>by cases h;exact .nil
 |n::ns,_,h=>by
  cases h with
  |cons r t=>
   obtain⟨k,rfl⟩:=r;exact .cons n k (JN t)
theorem JA:∀as:TW,ZS (as.map V.ref) (as.map ax)
 | []=>.nil
 |a::as=>.cons rfl (JA as)
section
variable {X:Cx}
def Tz (H:Hp)(a:Addr)(ys:TV):Prop:=∃o:Obj,H a=some (.frz o (.tup ys))/\o.cls=.type "tuple"/\o.dict=none
theorem Tz.sq {K:aa}{H:Hp}{a:Addr}{ys:TV}(h:Tz H a ys):XQ K H a ys:=by
 obtain⟨o,h,_⟩:=h;exact .inl (.inr ⟨o,h⟩)
theorem Tz.mono {H j:Hp}{a:Addr}{ys:TV}(s:Zv H j)(h:Tz H a ys):Tz j a ys:=by
 obtain⟨o,h,r⟩:=h;exact⟨o,s _ _ h,r⟩
inductive I_call_tupleZ (K:aa) (xs:TV) (H:Hp) (Q:VK):Prop
 |mk (p:_) (ys:_):(xs=[.ref p])->(Wx K H p ys)->(∀l H',H l=none->Zv H H'->Tz H' l ys->Q (.ref l) H')->I_call_tupleZ K xs H Q
theorem ZdE:YA X (.type "tuple") (_root_.L2.I_call_tupleZ X.K):=by
 intro j s O H xs us Q I r h;obtain⟨p,ys,rfl,hq,q⟩:=h;obtain⟨u,rfl,rx⟩:=vals1 r;cases rx;obtain⟨J,Y,pl,hz⟩:=I.list hq;have n6:=Y.length;refine call_tuple_list pl.isList (λM kp=>?_) (by simp only[Zh] <;> omega)
 have I1:Inv X j O H {s with heap:=M}:=I.kept (t':=s.toks) kp;have hf:=I1.hok.fresh (Zq _);have I2:Inv X j O (upd H M.objs.size (.frz {cls:=.type "tuple",data:=.seq J.toArray} (.tup ys))) {s with heap:=M.push {cls:=.type "tuple",data:=.seq J.toArray}}:=
  I1.laid (t':=s.toks) (λb o e=>Zn _ e) (Zq _) ⟨Zo _ rfl,hz,J,Y,jz _ _⟩
 exact⟨.ref M.objs.size,_,I2,rfl,q _ _ hf (Zv.upd hf) ⟨_,Zu,rfl,rfl⟩⟩
variable {o e:Expr}{es:List Expr}{to:TE}{t:TA}{name:Str}{apos cpos:Pos}{id:String}{r:V->TV->Hp->VK->Prop}
inductive ZpD (r:V->TV->Hp->VK->Prop) (t:TA) (σ:St) (Q:VK) (x:V) (H:Hp):Prop
 |mk:(∃p ys,x=.ref p/\Tz H p ys)->(t σ H λxs H2=>r x xs H2 Q)->ZpD r t σ Q x H
def ZqU (r:V->TV->Hp->VK->Prop)(to:TE)(t:TA):TE:=λj H Q=>to j H (ZpD r t j Q)
theorem ZbK (pa:PlainAttrs "tuple")(slot:Slot "tuple" name id)(Y:typeOf (.builtin id)=pure (.type "method_descriptor"))(hm:MtR X id r)(ho:PE X o to)(ha:PA X (e::es) t)
  (J:attributeBase o name X.env (eval o X.env)=eval o X.env:=by rfl)
  (O:((backTo cpos (starEach (e::es) X.env)).all (λx=>!x.1) && (backToKw cpos (keywordEach [] X.env)).all (λx=>x.1.isSome)
   && decide ((e::es).length+([]:List Keyword).length+(if ([]:List Keyword).isEmpty then 0 else 1)<30))=true:=by rfl)
  (M:(apos.endLine == cpos.line)=true:=by rfl) (hs:starEach (e::es) X.env=(false,eval e X.env)::starEach es X.env:=by rfl) (q:(backTo cpos (starEach es X.env)).any (·.1)=false:=by rfl) :
  PE X (.Call (.Attribute o name apos) (e::es) [] cpos) (ZqU r to t):=by
 intro j s σ H Q I h;refine mT J O M rfl (Yz (ho j s σ H _ I h) λv s1 ⟨x,H1,I1,r1,ty,q1⟩=>?_);obtain⟨p,ys,rfl,ob,n6,hc,hd⟩:=ty;cases r1;obtain⟨eo,_⟩:=I1.hok p _ n6;refine⟨"tuple",id,pa,slot,Y,⟨ob,eo,hc⟩,λa e=>?_,?_⟩
 ·cases e
  exact⟨ob,eo,hd⟩
 have hA:=ha cpos j s1 σ H1 _ I1 q1;rw[hs] at hA ⊢;refine kJ (by show (false || (backTo cpos (starEach es X.env)).any (·.1))=false;rw[q] <;> rfl) (lC ?_)
 exact Yz hA λus s2 ⟨vs,H2,I2,r2,q2⟩=>hm j s2 σ H2 (.ref p) vs (.ref p) us Q I2 rfl r2 q2
end
inductive Zmm (K:aa) (x:V) (vs:TV) (H:Hp) (Q:VK):Prop
 |mk (p:_) (xs:_) (y:_):(x=.ref p)->(vs=[y])->(XQ K H p xs)->(WK y=true)->(xs.all WK=true)->(Q (.int (xs.countP (λz=>Uo z y):Nat)) H)->Zmm K x vs H Q
theorem ZoP (K:aa)(hK:X.K=K:=by rfl):MtR X "tuple.count" (Zmm K):=by
 subst hK;intro Y s σ H x vs v us Q I rx rv h;obtain⟨p,xs,y,rfl,rfl,hp,fy,fs,q⟩:=h;cases rx;obtain⟨u,rfl,ru⟩:=rv.one;obtain⟨j,r,pl,hz⟩:=I.tuple hp;have em:j.map (eqU y)=xs.map (λz=>Uo z y):=by
  refine a7 λm=>?_;rw[Zc,Zc];by_cases J:m<xs.length
  ·obtain⟨w,M,O⟩:=r.get (Zf J)
   rw[M,Zf J];show some (eqU y w)=some (Uo xs[m] y);rw[U9 O (aD.mp fs _ (bB J))]
  ·have:=r.length
   rw[ai (by omega),ai (by omega)];rfl
 have ec:j.countP (eqU y)=xs.countP (λz=>Uo z y):=by
  have h1:=congrArg (List.countP id) em;rw[iF,iF] at h1;exact h1
 have ty:=iJ pl;obtain⟨⟨cl,dd,da,sl⟩,e,e1,n,e2⟩:=pl;cases e1;cases e2;refine eR ly ty F.entry_tuple_count (F.args_tuple_count_2 _ _) (SeqAt.tuple_countAt p j.toArray n dd sl u (eqU y)) ⟨e,λw M=>JD ru fy r fs w (by simpa using M),?_⟩;refine⟨.int (xs.countP (λz=>Uo z y):Nat),H,I.kept (t':=s.toks+1) λb o e=>e,⟨s.toks,?_⟩,q⟩;rw[<-ec]
inductive I_slZK (K:aa) (x:V) (lo:Option Int) (hi:Option Int) (H:Hp) (Q:VK):Prop
 |mk (a:_) (xs:_):(x=.ref a)->(XQ K H a xs)->(¬(HT.Ww xs.length 0 lo=0/\HT.Ww xs.length xs.length hi=xs.length)/\∀p H',Zv H H'->Tz H' p (X2 xs lo hi)->Q (.ref p) H')->I_slZK K x lo hi H Q
theorem ZoZ (K:aa)(hK:X.K=K:=by rfl):SlR X (_root_.L2.I_slZK K):=by
 subst hK;intro O s σ H x v vl vu lo J sl Q I rx hs pl pu h;obtain⟨a,xs,rfl,hx,hw,q⟩:=h;cases rx;obtain⟨M,r,Y,hz⟩:=I.tuple hx;have j:M.toArray.size=xs.length:=by rw[Zh];exact r.length.symm
 refine⟨"tuple",_,dw.lookup,Y.typeIs,?_⟩;refine HT.Vv Y hs pl pu (by rw[j];exact hw) ?_ (by rw[j];exact hz);rw[j];have hf:=I.hok.fresh (Zq _);refine⟨.ref s.heap.objs.size,_,I.laid (t':=s.toks) (o:=.frz _ (.tup (X2 xs lo J))) (λb ob q=>Zn _ q) (Zq _) ⟨Zo _ rfl,aW (V6 xs lo J) hz,_,(r.drop (HT.Ww xs.length 0 lo)).take (HT.Ww xs.length xs.length J-HT.Ww xs.length 0 lo),jz _ _⟩,rfl,q _ _ (Zv.upd hf) ⟨_,Zu,rfl,rfl⟩⟩
theorem lsK (K:aa)(j:X.K=K:=by rfl):YA X (.type "list") (_root_.L2.I_call_list_of K):=j▸WX
end L2
namespace PyZ
open PySem PySem.Spec PyProof.Rows
theorem ZaC {R:List Value->Shared->Prop}{r:Addr}{a b c:Int}{t u v:Tok}{n:Nat}(hh:A.handled=none)(hr:IsRange s.heap r a b c t u v)(O:cz a b c=true)
  (hn:bm a b c=n) (n6:n<=2 ^ 24)
  (h:∀(h':Heap) (tk:Nat) (ZJ:Array Value),(∀b o,s.heap.get? b=some o->h'.get? b=some o)->iu (λi v=>∃t,v=.int (a+i*c) t) ZJ n->R ZJ.toList {s with heap:=h',toks:=tk}) :
  wpAny (model prog w) A (collect (.ref r)) R E s:=by
 unfold collect;refine Zl (jd (bP PySem.F.entry_proto_collect ?_));rw[bI jE _];show wpAny _ A.in1 (newList [] >>= λl=>again (.builtin "list.__iadd__" ⟨[l,.ref r],[]⟩)) _ _ s;refine Zl (bb ?_);refine Zm ⟨dh eW _,bP PySem.F.entry_list_iadd ?_⟩;rw[bI eW _];have Y:(s.heap.push {cls:=.type "list",data:=.seq ([]:List Value).toArray}).get? s.heap.objs.size=some {cls:=.type "list",data:=.seq #[]}:=Zo _ rfl;show wpAny _ A.in1 (b9 (.ref s.heap.objs.size) (.ref r) (.ref s.heap.objs.size)) _ _ _;have n8:=wpAny_extend_range (prog:=prog) (w:=w) (A:=A) (s:={s with heap:=s.heap.push {cls:=.type "list",data:=.seq ([]:List Value).toArray}})
  (R:=λ(q:Result) (s':Shared)=>∃(h':Heap) (tk:Nat) (j:Array Value) (c':Nat),q=.ok (.ret (.ref s.heap.objs.size))/\s'={s with heap:=h',toks:=tk}/\
   (∀b o,s.heap.get? b=some o->h'.get? b=some o)/\h'.get? s.heap.objs.size=some {cls:=.type "list",dict:=none,data:=.seq j c',slots:=#[]}/\iu (λi v=>∃t,v=.int (a+i*c) t) j n)
  hh (Zn _ hr) O hn n6 s.heap.objs.size (.ref s.heap.objs.size) 0 Y
  (λh' tk j c' hk M J=>⟨h',tk,j,c',rfl,rfl,λb o e=>hk b o (ay (Zp e)) (Zn _ e),M,J⟩)
 refine cw n8 (λn9 s' x=>?_) λe s' x=>?_
 ·cases n9 with
  |done f=>
   obtain⟨h',tk,j,c',e,rfl,hk,M,J⟩:=x;cases e;show wpAny _ A (load s.heap.objs.size >>= _) _ _ _;refine Zl (iO M ?_);exact Zm (h h' tk j hk J)
  |again o0=>
   refine⟨x.1,fR x.2 λq o5 y=>?_⟩;obtain⟨h',tk,j,c',rfl,rfl,hk,M,J⟩:=y;show wpAny _ A (load s.heap.objs.size >>= _) _ _ _;refine Zl (iO M ?_);exact Zm (h h' tk j hk J)
 ·obtain⟨_,_,_,_,e',_⟩:=x
  cases e'
theorem Xk {Q₁:TY}{r:Addr}{a b c:Int}{t u v:Tok}{n:Nat}(hh:A.handled=none)(hr:IsRange s.heap r a b c t u v)(j:cz a b c=true)
  (hn:bm a b c=n) (J:n<=2 ^ 24)
  (h:∀(h':Heap) (tk:Nat) (ZJ:Array Value),(∀b o,s.heap.get? b=some o->h'.get? b=some o)->iu (λi v=>∃t,v=.int (a+i*c) t) ZJ n->
   Q₁ (.ref h'.objs.size) {s with heap:=h'.push {cls:=.type "tuple",data:=.seq ZJ},toks:=tk}) :
  codeAny (model prog w) A (.call (.builtin "tuple.__new__") ⟨[.type "tuple",.ref r],[]⟩) (wants Q₁ E) s:=by
 refine kF ?_;show wpAny _ A.in1 (do checkBuiltinCall "tuple.__new__" ⟨[.type "tuple",.ref r],[]⟩;again (.builtin "tuple.__new__" ⟨[.type "tuple",.ref r],[]⟩)) _ _ s
 refine Zl (km (PySem.F.newCall_tuple_1 _) (Zm ⟨dh (show plainId "tuple.__new__"=true by decide +kernel) _,bP PySem.F.entry_tuple_new ?_⟩));rw[bI (show plainId "tuple.__new__"=true by decide +kernel) _];have n6:=sub_tuple_self;have M:=init_tuple_lookup;have n8:=madeHere_tuple;have O:s.TypeIs (.ref r) "range":=⟨_,hr,rfl⟩;have Y:n<=sizeLine:=by
  have:(16777216:Nat)=sizeLine:=by decide
  omega
 wp_walk using fP O,ZaC (A:=A.in1) hh hr j hn J
 intro h' tk ZJ hm q;show wpAny _ _ (cp ZJ.toList.toArray >>= λv=>ret v) _ _ _;unfold cp;refine Zl (bb ?_ (by show ZJ.toList.toArray.size<=sizeLine;simp only[lN];rw[q.1];exact Y));refine Zm ?_;have e:ZJ.toList.toArray=ZJ:=by simp
 rw[e];exact h h' tk ZJ hm q
theorem VP {Q:TY}{r:Addr}{a b c:Int}{t u v:Tok}{n:Nat}(hh:A.handled=none)(hr:IsRange s.heap r a b c t u v)(J:cz a b c=true)
  (hn:bm a b c=n) (O:n<=2 ^ 24)
  (h:∀(h':Heap) (tk:Nat) (ZJ:Array Value),(∀b o,s.heap.get? b=some o->h'.get? b=some o)->iu (λi v=>∃t,v=.int (a+i*c) t) ZJ n->
   Q (.ref h'.objs.size) {s with heap:=h'.push {cls:=.type "tuple",data:=.seq ZJ},toks:=tk}) :
  wpAny (model prog w) A (call (.type "tuple") [.ref r]) Q E s:=by
 refine callType_codes (Q₁:=λM j=>j.TypeIs M "tuple"/\Q M j) iC (PySem.F.typeCall_tuple_1 _) PySem.F.entry_object_init
  (Xk (A:=A.in1) hh hr J hn O λh' tk ZJ hk Y=>⟨⟨_,Zo _ rfl,rfl⟩,h h' tk ZJ hk Y⟩) λM j q=>?_
 exact⟨q.1,kI M _,object_init_meets iC.init.lookup iC.made (by decide) prog w A.in1 _ j ⟨q.1,rfl,q.2⟩⟩
end PyZ
namespace L2
open PySem PySem.Spec PyProof.Rows
inductive I_call_tuple_rng (xs:TV) (H:Hp) (Q:VK):Prop
 |mk (a:Addr) (lo hi:Int):(xs=[.ref a])->(H a=some (.rng lo hi))->((-(2 ^ 62)<=lo/\lo<2 ^ 62/\-(2 ^ 62)<=hi/\hi<2 ^ 62))->((hi-lo).toNat<=sizeLine)->(∀l,H l=none->Q (.ref l) (upd H l (.tup ((Y6 lo (hi-lo).toNat).map V.int))))->I_call_tuple_rng xs H Q
theorem Zan (hc:X.calm=true):YA X (.type "tuple") _root_.L2.I_call_tuple_rng:=by
 intro j s O H xs us Q I r h;obtain⟨a,lo,hi,rfl,ha,⟨b1,b2,b3,b4⟩,Y,q⟩:=h;obtain⟨u,rfl,ru⟩:=vals1 r;cases ru;obtain⟨t,u,v,e⟩:=(show ∃t u v,s.heap.get? a=some {cls:=.type "range",data:=.fields #[.int lo t,.int hi u,.int 1 v]} from I.hok a _ ha);refine PyZ.VP (n:=(hi-lo).toNat) (I.ok.hd hc) e (small_one b1 b2 b3 b4) (by rw[md];split <;> omega) Y λJ tk ZJ hk M=>?_
 have I1:Inv X j O H {s with heap:=J,toks:=tk}:=I.kept (t':=tk) hk;have I2:Inv X j O (upd H J.objs.size (.tup ((Y6 lo (hi-lo).toNat).map V.int))) {s with heap:=J.push {cls:=.type "tuple",data:=.seq ZJ},toks:=tk}:=
  I1.laid (t':=tk) (λb o e=>Zn _ e) (Zq _) (show Ys X.prog X.w _ _ _ (.tup ((Y6 lo (hi-lo).toNat).map V.int)) from ⟨by rw[Za,Z7];exact Y,ZJ.toList,ZaH M,by simpa using jz _ _⟩)
 exact⟨.ref J.objs.size,_,I2,rfl,q _ (I1.hok.fresh (Zq _))⟩
end L2
namespace PyY
open PySem
open AutoSeq1 (wpAny_loadPart')
theorem Zew {j a:Addr}{k:Nat}{us:Array Value}{y:Value}{Q:TY}(c:s.heap.IsTupleIter j a k)(d:s.heap.IsTuple a us)(e:us[k]?=some y)
  (q:∀g,g.IsTupleIter j a (k+1)->br j s.heap g->Q y {s with heap:=g}):wpAny (model prog w) A (di (.ref j)) Q E s:=by
 obtain⟨oj,J,cj,dj⟩:=id c;obtain⟨oa,O,_,na,Y⟩:=d;unfold di;refine Zl (bJ (name:=dG "__next__") c.typeIs eG (bq eG c.typeIs kx ?_ (kg _)));show wpAny _ _ (field (.ref j) 0 >>= _) _ _ s;refine Zl (cH J dj (x:=.ref a) rfl ?_);show wpAny _ _ (if (ax a == a6)=true then _ else _) _ _ s
 rw[if_neg (show ¬((ax a == a6)=true) from aH)];show wpAny _ _ (field (.ref j) 1 >>= _) _ _ s;refine Zl (cH J dj (x:=.int k 0) rfl ?_);show wpAny _ _ (seqItems? (.ref a) >>= _) _ _ s;refine Zl (ie O Y ?_);simp only[Zj,e];refine Zl (dF J dj (by simp) (Zm ⟨y,rfl,Zm (q _ ?_ (bK ..))⟩));refine⟨_,bF _ J (cS (bC dj _)),(gZ ..).trans cj,?_⟩;rw[bC dj];simp[rawInt]
theorem Zgx {j a:Addr}{k:Nat}{us:Array Value}{Q:TY}(Y:A.handled=none)(c:s.heap.IsTupleIter j a k)(d:s.heap.IsTuple a us)(e:us[k]?=none)
  (q:∀g x,Heap.ExtBut j s.heap g->(∃o,g.get? x=some o/\o.cls=.type "StopIteration")->E (.ref x) {s with heap:=g}):wpAny (model prog w) A (di (.ref j)) Q E s:=by
 obtain⟨oj,J,cj,dj⟩:=id c;obtain⟨oa,ha,_,na,da⟩:=d;unfold di;refine Zl (bJ (name:=dG "__next__") c.typeIs eG (bq eG c.typeIs kx ?_ (kg _)));show wpAny _ _ (field (.ref j) 0 >>= _) _ _ s;refine Zl (cH J dj (x:=.ref a) rfl ?_);show wpAny _ _ (if (ax a == a6)=true then _ else _) _ _ s
 rw[if_neg (show ¬((ax a == a6)=true) from aH)];show wpAny _ _ (field (.ref j) 1 >>= _) _ _ s;refine Zl (cH J dj (x:=.int k 0) rfl ?_);show wpAny _ _ (seqItems? (.ref a) >>= _) _ _ s;refine Zl (ie ha da ?_);simp only[Zj,e];refine Zl (fo (Zl (dF J dj (by simp) ?_)));show wpAny _ _ (newExc (.type "StopIteration") [] >>= _) _ _ {s with heap:=_};refine Zl ?_;unfold newExc newTuple;refine Zl (bb (Q:=_) ?_ (by size_fits));refine Zl (m:=firstArgMember _ _) (km (a:=a6) (by first|rfl|(unfold firstArgMember;rfl)) ?_)
 refine bb (Q:=_) ?_ (by size_fits);unfold raiseNew;refine Zl (wpAny_handled ?_);have M:A.in1.handled=none:=Y;rw[M];refine Zl (Zm (wpAny_throw (E:=E) ?_));exact q _ _ (((bK ..).extBut.push _).push _) ⟨_,Zo _ rfl,rfl⟩
theorem ZeK {n j a:Addr}{k:Nat}{us:Array Value}{y J:Value}{Q:Option Value->Shared->Prop}(b:ij s.heap n j k J)(c:s.heap.IsTupleIter j a k)(d:s.heap.IsTuple a us)(e:us[k]?=some y)(nj:n≠j)
  (q:∀g,IsEnumOut g n j ((k:Int)+1) y s.heap.objs.size->g.IsTupleIter j a (k+1)->g.get? s.heap.objs.size=some {cls:=.type "tuple",data:=.seq #[.int k s.toks,y]}->g.objs.size=s.heap.objs.size+1->
   (∀x o,x≠n->x≠j->s.heap.get? x=some o->g.get? x=some o)->Q (some (.ref s.heap.objs.size)) {s with heap:=g,toks:=s.toks+1}):wpAny (model prog w) A (pyNext (.ref n)) Q E s:=by
 have tn:s.TypeIs (.ref n) "enumerate":=⟨_,b,rfl⟩;unfold pyNext;refine Zl (gw (bJ (name:=dG "__next__") tn fX (bq fX tn mB ?_ (lX _))));obtain⟨M,O,dr,tk,os⟩:=s;show wpAny _ _ (field (.ref n) 2 >>= _) _ _ _;refine Zl (cH b rfl (x:=.ref j) rfl ?_);refine Zl (Zew c d e λY c1 s1=>?_);replace s1:br j M Y:=s1;have b1:ij Y n j k J:=(s1.2 n nj).trans b;show wpAny _ _ (field (.ref n) 3 >>= _) _ _ ⟨Y,O,dr,tk,os⟩;refine Zl (cH b1 rfl (x:=rawInt k) rfl ?_);show wpAny _ _ (field (.ref n) 4 >>= _) _ _ ⟨Y,O,dr,tk,os⟩;refine Zl (cH b1 rfl (x:=.none) rfl ?_);show wpAny _ _ (mkInt k >>= _) _ _ ⟨Y,O,dr,tk,os⟩;refine Zl (wpAny_mkInt ?_);show wpAny _ _ (setField (.ref n) 3 (rawInt ((k:Int)+1)) >>= _) _ _ ⟨Y,O,dr,tk+1,os⟩;refine Zl (fm b1 (by simp) λg2 b2 s2=>?_);replace s2:br n Y g2:=s2;replace b2:ij g2 n j ((k:Int)+1) J:=b2;show wpAny _ _ (setField (.ref n) 4 .none >>= _) _ _ ⟨g2,O,dr,tk+1,os⟩;refine Zl (fm b2 (by simp) λg3 b3 s3=>?_);replace s3:br n g2 g3:=s3;replace b3:ij g3 n j ((k:Int)+1) J:=b3;show wpAny _ _ (newTuple [.int k tk,y] >>= _) _ _ ⟨g3,O,dr,tk+1,os⟩;refine Zl (wpAny_newTuple ?_);have b4:ij (g3.push {cls:=.type "tuple",data:=.seq #[.int k tk,y]}) n j ((k:Int)+1) J:=Zn _ b3;generalize z4:g3.push {cls:=.type "tuple",data:=.seq #[.int k tk,y]}=g4 at b4;have sz:g3.objs.size=M.objs.size:=by rw[s3.1,s2.1,s1.1]
 have nl:n<M.objs.size:=Zp b;have t4:g4.get? M.objs.size=some {cls:=.type "tuple",data:=.seq #[.int k tk,y]}:=by
  rw[<-z4,<-sz];exact Zo _ rfl
 have w4:g4.objs.size=M.objs.size+1:=by
  rw[<-z4,cm,sz]
 have k4:∀x o,x≠n->x≠j->M.get? x=some o->g4.get? x=some o:=λx o xn xj hx=>by
  rw[<-z4];exact Zn _ (s3.extBut x o xn (s2.extBut x o xn (s1.extBut x o xj hx)))
 have c4:g4.IsTupleIter j a (k+1):=by
  obtain⟨o,ho,r⟩:=(c1.extBut s2.extBut (bf nj)).extBut s3.extBut (bf nj);rw[<-z4];exact⟨o,Zn _ ho,r⟩
 show wpAny _ _ (gL (.ref n) >>= _) _ _ ⟨g4,O,dr,tk+1,os⟩;rw[sz];clear z4 b3 s3 b2 s2 b1 s1 c1 sz g3 g2 Y;refine Zl ?_;unfold gL;refine Zl (cH b4 rfl (x:=.none) rfl (Zm ?_));rw[if_pos rfl];refine Zl (fo (Zl (cH b4 rfl (x:=J) rfl ?_)));refine Zl (fm b4 (by simp) λg5 b5 s5=>?_);replace s5:br n g4 g5:=s5;replace b5:ij g5 n j ((k:Int)+1) y:=b5;show wpAny _ _ (gG (.ref n) (.ref M.objs.size) >>= _) _ _ ⟨g5,O,dr,tk+1,os⟩;refine Zl ?_;unfold gG;refine Zl (fm b5 (by simp) λg6 b6 s6=>?_);replace s6:br n g5 g6:=s6;replace b6:IsEnumOut g6 n j ((k:Int)+1) y M.objs.size:=b6;refine fm b6 (by simp) λg7 b7 s7=>?_;replace s7:br n g6 g7:=s7;replace b7:IsEnumOut g7 n j ((k:Int)+1) y M.objs.size:=b7;refine Zl (wpAny_letGo (Zm ⟨_,rfl,Zm (q g7 b7 ?_ ?_ ?_ ?_)⟩))
 ·exact ((c4.extBut s5.extBut (bf nj)).extBut s6.extBut (bf nj)).extBut s7.extBut (bf nj)
 ·exact s7.extBut _ _ (bu nl) (s6.extBut _ _ (bu nl) (s5.extBut _ _ (bu nl) t4))
 ·rw[s7.1,s6.1,s5.1,w4]
 ·exact λx o xn xj hx=>s7.extBut x o xn (s6.extBut x o xn (s5.extBut x o xn (k4 x o xn xj hx)))
theorem ZgR {n j a:Addr}{k:Nat}{us:Array Value}{old:Value}{Q:Option Value->Shared->Prop}(O:A.handled=none)(b:ij s.heap n j k old)(c:s.heap.IsTupleIter j a k)(d:s.heap.IsTuple a us)(e:us[k]?=none)
  (q:∀g,Heap.ExtBut j s.heap g->Q none {s with heap:=g}):wpAny (model prog w) A (pyNext (.ref n)) Q E s:=by
 have J:s.TypeIs (.ref n) "enumerate":=⟨_,b,rfl⟩;unfold pyNext;refine Zl (gw (bJ (name:=dG "__next__") J fX (bq fX J mB ?_ (lX _))));show wpAny _ _ (field (.ref n) 2 >>= _) _ _ _;refine Zl (cH b rfl (x:=.ref j) rfl ?_);refine Zl (Zgx O c d e λg x Y xs=>?_);obtain⟨o,ho,hc⟩:=xs;refine Zl (kc (T:="StopIteration") (b:=true) ⟨o,ho,hc⟩ isSubtype_stop ?_);exact Zm (q _ Y)
theorem ZgQ (a:Addr)(q:Array Value)(n:Nat)(M:Option Addr)(O:Array (Option Value)) :
  Meets (cK.«enumerate.__new__» ⟨[.type "enumerate",.ref a],[]⟩) (λ_ R s=>s.heap.get? a=some {cls:=.type "tuple",dict:=M,data:=.seq q n,slots:=O}/\
   R (.ok (.ret (.ref (s.heap.push {cls:=.type "tuple_iterator",data:=.fields #[.ref a,.int 0 0]}).objs.size)))
    {s with heap:=(s.heap.push {cls:=.type "tuple_iterator",data:=.fields #[.ref a,.int 0 0]}).push {cls:=.type "enumerate",data:=.fields #[.none,.bool false,.ref s.heap.objs.size,rawInt 0,.none,.none]}}):=
 .of_wp λprog w A R s h=>by
  obtain⟨Y,gg,dr,tk,os⟩:=s;obtain⟨j,h⟩:=h;have sub:=sub_enumerate;have J:Heap.IsTuple (Shared.heap ⟨Y,gg,dr,tk,os⟩) a q:=⟨_,j,rfl,n,rfl⟩
  wp_walk using wpAny_loadPart' j
  refine wpAny_stack_any λst=>Zm ?_;split
  ·rename_i c1 _ _ _ _ _
   cases (c1 == bW "enumerate") <;> (wp_walk using wpAny_loadPart' j,jG J) <;> exact⟨_,rfl,h⟩
  ·wp_walk using wpAny_loadPart' j,jG J
   exact⟨_,rfl,h⟩
theorem Zaq {a:Addr}{us:Array Value}{Q:TY}(O:s.heap.IsTuple a us)
  (h:∀g,ij g (s.heap.objs.size+1) s.heap.objs.size 0 .none->g.IsTupleIter s.heap.objs.size a 0->g.objs.size=s.heap.objs.size+2->(∀b o,s.heap.get? b=some o->g.get? b=some o)->Q (.ref (s.heap.objs.size+1)) {s with heap:=g}) :
  wpAny (model prog w) A (call (.type "enumerate") [.ref a]) Q E s:=by
 obtain⟨⟨Y,dd,dt,sl⟩,ha,hc,n,hd⟩:=O;have j:Y=.type "tuple":=hc;have q:dt=.seq us n:=hd;subst j q;refine callType_new F.called_enumerate (by decide) (F.typeCall_enumerate_1 _) (F.newCall_enumerate_1 _) (λJ=>kI J _) F.entry_enumerate_new (ZgQ a us n dd sl) ⟨ha,?_⟩;have M:(s.heap.push {cls:=.type "tuple_iterator",data:=.fields #[.ref a,.int 0 0]}).objs.size=s.heap.objs.size+1:=cm ..;show _/\_;rw[M];have he:ij ((s.heap.push {cls:=.type "tuple_iterator",data:=.fields #[.ref a,.int 0 0]}).push {cls:=.type "enumerate",data:=.fields #[.none,.bool false,.ref s.heap.objs.size,rawInt 0,.none,.none]}) (s.heap.objs.size+1) s.heap.objs.size 0 .none:=by
  have z:=Zo (s.heap.push {cls:=.type "tuple_iterator",data:=.fields #[.ref a,.int 0 0]}) (o:={cls:=.type "enumerate",data:=.fields #[.none,.bool false,.ref s.heap.objs.size,rawInt 0,.none,.none]}) rfl;rw[M] at z;exact z
 exact⟨⟨_,he,rfl⟩,h _ he ⟨_,Zn _ (Zo _ rfl),rfl,rfl⟩ (by rw[cm,M]) λb o y=>Zn _ (Zn _ y)⟩
end PyY
namespace L2
open PySem PySem.Spec PyProof.Rows
section
variable {h':Heap}
theorem Inv.turnLay {t':Nat}{ts:TW}{T:Addr}{o:HO}(I:Inv X pins σ H s)(k:∀b u,b∉ts->s.heap.get? b=some u->h'.get? b=some u)(ht:∀b∈ts,∃u,h'.get? b=some u)(O:∀b∈ts,ZaG X pins H b)(Y:s.heap.objs.size<=T)
  (M:Ys X.prog X.w (upd H T o) h' T o):Inv X pins σ (upd H T o) {s with heap:=h',toks:=t'}:=by
 have j:H T=none:=I.hok.fresh Y;have J:∀b u,H b=some u->b∉ts:=λb u e z=>by
  have:=(O b z).1;rw[e] at this;cases this
 refine I.call (ch:=ts) (g':=s.gens) (d':=s.drawn) ⟨λb u e _ _ nx=>k b u nx e,λb u e _ _ nx=>⟨u.slots,k b u nx e⟩,λb u e n _=>?_,λb u e nx=>⟨u,k b u nx e⟩,λb ys q=>?_,λb u v q=>?_,λb ps q=>⟨#[],?_⟩⟩
  (λb u e=>?_) I.bare λb hb=>?_
 ·rw[Zz (ay (aC (Zp e) Y))]
  exact n
 ·rw[Zz (Yo q j)]
  exact q
 ·rw[Zz (Yo q j)]
  exact q
 ·rw[Zz (Yo q j),q]
  simp
 ·by_cases hb:b=T
  ·subst hb
   rw[Zu] at e;cases e;exact M
  ·rw[Zz hb] at e
   refine (I.hok b u e).stay (λc v hc q=>k c v ?_ q) (λc r=>by rw[Zz (Yo r j)];exact r) λc ys r=>by rw[Zz (Yo r j)];exact r
   rcases hc with z|z
   ·rw[z]
    exact J b u e
   ·exact J c _ z
 ·obtain⟨f0,f1,f2,f3,f4,f5⟩:=O b hb
  exact⟨f3,f1,f4,f5⟩
theorem Inv.turnedL {t':Nat}{ts:TW}(I:Inv X pins σ H s)(k:∀b u,b∉ts->s.heap.get? b=some u->h'.get? b=some u)(J:∀b∈ts,ZaG X pins H b):Inv X pins σ H {s with heap:=h',toks:=t'}:=by
 have j:∀b u,H b=some u->b∉ts:=λb u e z=>by
  have:=(J b z).1;rw[e] at this;cases this
 refine I.call (ch:=ts) (g':=s.gens) (d':=s.drawn) ⟨λb u e _ _ nx=>k b u nx e,λb u e _ _ nx=>⟨u.slots,k b u nx e⟩,λb u e n _=>n,λb u e nx=>⟨u,k b u nx e⟩,λb M q=>q,λb u v q=>q,λb ps q=>⟨#[],by rw[q];simp⟩⟩
  (λb u e=>?_) I.bare λb hb=>?_
 ·refine (I.hok b u e).stay (λc v O q=>k c v ?_ q) (λc r=>r) λc M r=>r
  rcases O with z|z
  ·rw[z]
   exact j b u e
  ·exact j c _ z
 ·obtain⟨f0,f1,f2,Y,f4,f5⟩:=J b hb
  exact⟨Y,f1,f4,f5⟩
end
def ZlY (K:aa)(a:Addr):It:=
 ⟨λi H=>∃j x,Wx K H a j/\j[i]?=some x,λi H x q=>∃T y,x=.ref T/\H T=none/\q=upd H T (.tup [.int i,y])/\∀j,Wx K H a j->j[i]?=some y,λi H=>∃j,Wx K H a j/\j.length<=i⟩
def Zoy (K:aa)(a:Addr):It:=
 ⟨λi H=>∃j x,XQ K H a j/\j[i]?=some x,λi H x q=>∃T y,x=.ref T/\H T=none/\q=upd H T (.tup [.int i,y])/\∀j,XQ K H a j->j[i]?=some y,λi H=>∃j,XQ K H a j/\j.length<=i⟩
theorem Uv {P:Program}{w:World}{K:aa}{elts:List Expr}{x1}{pos:Pos}(a e it:Addr)(ne:e≠it) :
  ZaF P w K (.Tuple elts x1 pos) (ZlY K a) [e,it] e (λi h=>(∃j,ij h e it i j)/\h.IsListIter it a i) where
 mem:=by simp
 obj:=λi h st b hb=>by
  obtain⟨⟨j,J⟩,⟨o,Y,c,d⟩⟩:=st;rcases aF.mp hb with rfl|hb
  ·exact⟨_,J,λv z=>by
    have z':gU _=gD v:=z;cases z'⟩
  ·have q:b=it:=by simpa using hb
   subst q;exact⟨o,Y,λv z=>by rw[d] at z;cases z⟩
 keep:=λi h h' st k=>by
  obtain⟨⟨j,J⟩,M⟩:=st;exact⟨⟨j,k e (by simp) _ J⟩,M.at λo q=>k it (by simp) o q⟩
 item:=by
  intro X hP hw hK hc i n6 s σ H E I hf st hg;subst hP hw hK;obtain⟨⟨j,J⟩,M⟩:=st;obtain⟨xs,x,hq,hx⟩:=hg;obtain⟨o0,rv,p,hz⟩:=I.list hq;obtain⟨u,hu,ru⟩:=rv.get hx;refine wpAny_pyNext_enum_item J M p.isList (x:=u) (by simpa using hu) ne λh1 ho o5 hT o9 hk=>?_;refine⟨_,rfl,lf ho λh2 o6 o7=>?_⟩;have le:e<s.heap.objs.size:=Zp J;have O:br e h1 h2:=o7;have o8:h2.get? s.heap.objs.size=some {cls:=.type "tuple",data:=.seq #[.int i s.toks,u]}:=(O.2 _ (bu le)).trans hT;have n8:h2.IsListIter it a (i+1):=o5.at λo q=>(O.2 it (bf ne)).trans q;have n9:ij h2 e it ((i+1:Nat):Int) u:=by
   have:=o6;simpa using this
  have nT:H s.heap.objs.size=none:=I.hok.fresh (Zq _);have I2:=I.turnLay (t':=s.toks+1) (h':=h2) (ts:=[e,it]) (T:=s.heap.objs.size) (o:=.tup [.int i,x]) (λb v hb q=>?_) (λb hb=>?_) hf (Zq _) ⟨by show 2<=sizeLine;decide,[.int i s.toks,u],.cons ⟨_,rfl⟩ (.cons ru .nil),_,o8,rfl,0,rfl⟩
  ·refine⟨.ref s.heap.objs.size,_,I2,rfl,⟨_,x,rfl,nT,rfl,λys hy=>by rw[I.list_inj hy hq];exact hx⟩,⟨⟨u,n9⟩,n8⟩,λb hb=>?_⟩
   have fb:=(hf b hb).1;have lb:b<s.heap.objs.size:=by
    rcases aF.mp hb with rfl|hb
    ·exact le
    ·have q:b=it:=by simpa using hb
     subst q;obtain⟨o,Y,_⟩:=M;exact Zp Y
   rw[Zz (ay lb)];exact fb
  ·have q1:b≠e:=λz=>hb (by simp[z])
   have q2:b≠it:=λz=>hb (by simp[z]);exact (O.2 b q1).trans (hk b v q1 q2 q)
  ·rcases aF.mp hb with rfl|hb
   ·exact⟨_,n9⟩
   ·have q:b=it:=by simpa using hb
    subst q;obtain⟨o,Y,_⟩:=n8;exact⟨o,Y⟩
 done:=by
  intro X hP hw hK hc i n6 s σ H E I hf st hg;subst hP hw hK;obtain⟨⟨j,J⟩,M⟩:=st;obtain⟨xs,hq,hx⟩:=hg;obtain⟨o0,rv,p,hz⟩:=I.list hq;have hl:=rv.length;exact wpAny_pyNext_enum_end (I.ok.hd hc) J M p.isList (by simp;omega) λh1 eb=>⟨rfl,I.turnedL (t':=s.toks) (ts:=[e,it]) (λb o hb q=>eb b o (λz=>hb (by simp[z])) q) hf⟩
 self:=λ_ _ _ _ _ st h=>by
  obtain⟨⟨j,J⟩,M⟩:=st;exact eC J h
theorem Uu {P:Program}{w:World}{K:aa}{elts:List Expr}{x1}{pos:Pos}(a e it:Addr)(ne:e≠it) :
  ZaF P w K (.Tuple elts x1 pos) (Zoy K a) [e,it] e (λi h=>(∃j,ij h e it i j)/\h.IsTupleIter it a i) where
 mem:=by simp
 obj:=λi h st b hb=>by
  obtain⟨⟨j,J⟩,⟨o,e1,c,d⟩⟩:=st;rcases aF.mp hb with rfl|hb
  ·exact⟨_,J,λv z=>by
    have z':gU _=gD v:=z;cases z'⟩
  ·have q:b=it:=by simpa using hb
   subst q;exact⟨o,e1,λv z=>by rw[d] at z;cases z⟩
 keep:=λi h h' st k=>by
  obtain⟨⟨j,J⟩,M⟩:=st;exact⟨⟨j,k e (by simp) _ J⟩,M.at λo q=>k it (by simp) o q⟩
 item:=by
  intro X hP hw hK hc i n6 s σ H E I hf st hg;subst hP hw hK;obtain⟨⟨j,J⟩,M⟩:=st;obtain⟨xs,x,hq,hx⟩:=hg;obtain⟨O,rv,p,hz⟩:=I.tuple hq;obtain⟨u,hu,ru⟩:=rv.get hx;refine PyY.ZeK J M (show s.heap.IsTuple a O.toArray from p) (y:=u) (by simpa using hu) ne λh1 ho o0 hT o8 hk=>?_;refine⟨_,rfl,lf ho λh2 o5 o6=>?_⟩;have le:e<s.heap.objs.size:=Zp J;have Y:br e h1 h2:=o6;have o7:h2.get? s.heap.objs.size=some {cls:=.type "tuple",data:=.seq #[.int i s.toks,u]}:=(Y.2 _ (bu le)).trans hT;have n8:h2.IsTupleIter it a (i+1):=o0.at λo q=>(Y.2 it (bf ne)).trans q;have n9:ij h2 e it ((i+1:Nat):Int) u:=by
   have:=o5;simpa using this
  have nT:H s.heap.objs.size=none:=I.hok.fresh (Zq _);have I2:=I.turnLay (t':=s.toks+1) (h':=h2) (ts:=[e,it]) (T:=s.heap.objs.size) (o:=.tup [.int i,x]) (λb v hb q=>?_) (λb hb=>?_) hf (Zq _) ⟨by show 2<=sizeLine;decide,[.int i s.toks,u],.cons ⟨_,rfl⟩ (.cons ru .nil),_,o7,rfl,0,rfl⟩
  ·refine⟨.ref s.heap.objs.size,_,I2,rfl,⟨_,x,rfl,nT,rfl,λys hy=>by rw[I.tuple_inj hy hq];exact hx⟩,⟨⟨u,n9⟩,n8⟩,λb hb=>?_⟩
   have fb:=(hf b hb).1;have lb:b<s.heap.objs.size:=by
    rcases aF.mp hb with rfl|hb
    ·exact le
    ·have q:b=it:=by simpa using hb
     subst q;obtain⟨o,e1,_⟩:=M;exact Zp e1
   rw[Zz (ay lb)];exact fb
  ·have q1:b≠e:=λz=>hb (by simp[z])
   have q2:b≠it:=λz=>hb (by simp[z]);exact (Y.2 b q1).trans (hk b v q1 q2 q)
  ·rcases aF.mp hb with rfl|hb
   ·exact⟨_,n9⟩
   ·have q:b=it:=by simpa using hb
    subst q;obtain⟨o,e1,_⟩:=n8;exact⟨o,e1⟩
 done:=by
  intro X hP hw hK hc i n6 s σ H E I hf st hg;subst hP hw hK;obtain⟨⟨j,J⟩,M⟩:=st;obtain⟨xs,hq,hx⟩:=hg;obtain⟨O,rv,p,hz⟩:=I.tuple hq;have hl:=rv.length;exact PyY.ZgR (I.ok.hd hc) J M (show s.heap.IsTuple a O.toArray from p) (by simp;omega) λh1 eb=>⟨rfl,I.turnedL (t':=s.toks) (ts:=[e,it]) (λb o hb q=>eb b o (λz=>hb (by simp[z])) q) hf⟩
 self:=λ_ _ _ _ _ st h=>by
  obtain⟨⟨j,J⟩,M⟩:=st;exact eC J h
def Zmv (K:aa)(J:TA):TI:=λM H R=>J M H λO j=>∃a,O=[.ref a]/\(((∃q,Wx K j a q)/\R (ZlY K a) j)\/((∃q,XQ K j a q)/\R (Zoy K a) j))
theorem ZpJ {elts:List Expr}{x1}{pt:Pos}{l:Expr}{ta:TA}{p pos:Pos}(hm:X.mg "enumerate"=none)(ha:PA X [l] ta)(hg:Y8 X.env.scope "enumerate"=true:=by kernel_rfl)(hs:starEach [l] X.env=[(false,eval l X.env)]:=by rfl) :
  PI X (.Tuple elts x1 pt) (.Call (.Name "enumerate" p) [l] [] pos) (Zmv X.K ta):=by
 intro J s σ H R I h;refine Call_ (Jt I (Xh hg) hm (show bootBuiltins "enumerate"=some (.type "enumerate") by kernel_rfl) (bA (Yz (ha pos J s σ H _ I h) λus s1 ⟨vs,H1,j,r1,q1⟩=>?_) hs rfl));obtain⟨a,e,q⟩:=q1;subst e;cases r1 with
 |cons r rr=>
  cases rr;cases (show _=ax a from r);have sz:∀b,b∈[s1.heap.objs.size+1,s1.heap.objs.size]->s1.heap.objs.size<=b:=λb hb=>by
   rcases aF.mp hb with rfl|hb
   ·exact g9 _
   ·have:b=s1.heap.objs.size:=by simpa using hb
    rw[this];exact Zq _
  rcases q with ⟨⟨xs,O⟩,q⟩|⟨⟨xs,O⟩,q⟩
  ·obtain⟨M,rv,p,hz⟩:=j.list O
   refine call_enumerate_list p.isList λg ge Y gs gk=>?_;refine eC ge ?_;exact⟨_,[s1.heap.objs.size+1,s1.heap.objs.size],_,_,H1,rfl,j.kept (t':=s1.toks) gk,Uv a _ _ (bu (cM _)),⟨⟨_,ge⟩,Y⟩,λb hb=>j.fpOk (sz b hb) (j.hok.fresh (sz b hb)),q⟩
  ·obtain⟨M,rv,p,hz⟩:=j.tuple O
   refine PyY.Zaq (show s1.heap.IsTuple a M.toArray from p) λg ge Y gs gk=>?_;refine eC ge ?_;exact⟨_,[s1.heap.objs.size+1,s1.heap.objs.size],_,_,H1,rfl,j.kept (t':=s1.toks) gk,Uu a _ _ (bu (cM _)),⟨⟨_,ge⟩,Y⟩,λb hb=>j.fpOk (sz b hb) (j.hok.fresh (sz b hb)),q⟩
theorem Zaa (K:aa){elts:List Expr}{q}{pt:Pos}{l:Expr}{j:TA}{p pos:Pos}(J:X.mg "enumerate"=none)(M:PA X [l] j)(O:X.K=K:=by rfl)(Y:Y8 X.env.scope "enumerate"=true:=by kernel_rfl)(hs:starEach [l] X.env=[(false,eval l X.env)]:=by rfl) :
  PI X (.Tuple elts q pt) (.Call (.Name "enumerate" p) [l] [] pos) (Zmv K j):=O▸ZpJ J M Y hs
structure ZjO (J:It)(At:Hp->Prop)(xs:TV):Prop where
 go:∀i H,At H->i<xs.length->J.go i H
 yld:∀i H x H2,At H->J.yld i H x H2->∃T y,x=.ref T/\H T=none/\H2=upd H T (.tup [.int i,y])/\xs[i]?=some y
 stop:∀i H,At H->xs.length<=i->J.stop i H
theorem Zac {K:aa}{a:Addr}{xs:TV}:ZjO (ZlY K a) (λH=>Wx K H a xs) xs:=
 ⟨λi H h hi=>⟨xs,xs[i],h,by simp[hi]⟩,λi H x O h j=>by
  obtain⟨T,y,e,J,M,q⟩:=j;exact⟨T,y,e,J,M,q xs h⟩,λi H h hi=>⟨xs,h,hi⟩⟩
theorem Zcb {K:aa}{a:Addr}{xs:TV}:ZjO (Zoy K a) (λH=>XQ K H a xs) xs:=
 ⟨λi H h hi=>⟨xs,xs[i],h,by simp[hi]⟩,λi H x O h j=>by
  obtain⟨T,y,e,J,M,q⟩:=j;exact⟨T,y,e,J,M,q xs h⟩,λi H h hi=>⟨xs,h,hi⟩⟩
theorem Je {J:It}{g:TG}{tb:TS}{D:WZ}{σ:St}{H:Hp}{At:Hp->Prop}{xs:TV}(S:ZjO J At xs)(Pv:Nat->St->Hp->Prop)(h0:Pv 0 σ H)(hS:∀i σ H,Pv i σ H->At H)
  (hs:∀(i:Nat) y σ H T,xs[i]?=some y->Pv i σ H->H T=none->g (.ref T) σ (upd H T (.tup [.int i,y])) λq Y=>tb (D.lp (Pv (i+1))) q Y) (hd:∀ σ H,Pv xs.length σ H->D.nx σ H) :
  ∃W:Nat->Nat->St->Hp->Prop,(∃m,W 0 m σ H)/\∀i m σ H,W i m σ H->
   (J.stop i H/\D.nx σ H)\/(J.go i H/\∃N:St->Hp->Prop,(∀ M j,N M j->∃m',m'<m/\W (i+1) m' M j)/\∀x j,J.yld i H x j->g x σ j λq Y=>tb (D.lp N) q Y):=by
 refine⟨λi m σ H=>m=xs.length-i/\i<=xs.length/\Pv i σ H,⟨_,rfl,aV _,h0⟩,?_⟩;rintro i m σ H ⟨rfl,hi,p⟩;have s:=hS i σ H p;by_cases O:i<xs.length
 ·refine .inr ⟨S.go i H s O,Pv (i+1),λM j p'=>⟨xs.length-(i+1),by omega,rfl,O,p'⟩,λx j hy=>?_⟩
  obtain⟨T,y,rfl,hT,rfl,hx⟩:=S.yld i H x j s hy;exact hs i y σ H T hx p hT
 ·have e:i=xs.length:=by omega
  subst e;exact .inl ⟨S.stop _ H s (Zq _),hd σ H p⟩
def Itd (lo:Int)(n:Nat):It:=⟨λi _=>i<n,λi H x j=>j=H/\x=.int (lo-i),λi _=>n<=i⟩
theorem Zgb {P:Program}{w:World}{K:aa}{tg:Expr}(it:Addr)(lo:Int)(n:Nat):ZaF P w K tg (Itd lo n) [it] it (λi h=>iw h it (lo+(i:Nat)*(-1)) ((n:Int)-(i:Nat)) (-1)) where
 mem:=by simp
 obj:=λi h st b hb=>by
  have e:b=it:=by simpa using hb
  subst e;exact⟨_,st,λv z=>by
   have z':gU _=gD v:=z;cases z'⟩
 keep:=λi h J st k=>k it (by simp) _ st
 item:=by
  intro X O Y hK hc i j s σ H E I M st hg;subst O Y hK;obtain⟨f0,f1,f2,f3,f4,f5⟩:=M it (by simp);have W:=ln (prog:=X.prog) (w:=X.w) (I.ok.hd hc) it lo (-1) n;refine W.item i s _ _ hg st λv J tk hv q kk=>?_;obtain⟨t,rfl⟩:=hv;have I1:Inv X j σ H {s with heap:=J,toks:=tk}:=I.turned (λb o hb e=>kk b o (by simpa using hb) e) f0 f1 f3 f4 f5;refine⟨_,rfl,Zdo (s:={s with heap:=J,toks:=tk}) (n:="range_iterator") q rfl rfl (by decide) ⟨.int (lo-i),H,I1,⟨t,?_⟩,⟨rfl,rfl⟩,q,λb hb=>(M b hb).1⟩⟩;rw[show lo-(i:Int)=lo+(i:Int)*(-1) by omega]
 done:=by
  intro X O Y hK hc i j s σ H E I M st hg;subst O Y hK;obtain⟨f0,f1,f2,f3,f4,f5⟩:=M it (by simp);exact iM (I.ok.hd hc) st (by have:n<=i:=hg;omega) λJ eb=>⟨rfl,I.turned (t':=s.toks) (λb o hb e=>eb b o hb e) f0 f1 f3 f4 f5⟩
 self:=λ_ _ _ _ _ st h=>iN st h
theorem rangeSize_down (a b:Int):bm a b (-1)=if b<a then a-b else 0:=by
 unfold bm;rw[if_neg (by decide),Int.neg_neg,Int.ediv_one];by_cases h:b<a
 ·rw[if_pos h,if_pos h]
  omega
 ·rw[if_neg h,if_neg h]
theorem small_down {a b:Int}(j:-(2 ^ 62)<=a)(q:a<2 ^ 62)(J:-(2 ^ 62)<=b)(M:b<2 ^ 62):cz a b (-1)=true:=by
 unfold cz;rw[rangeSize_down];simp only[iX,ag,bh,decide_eq_true_eq,beq_iff_eq,show ¬((-1:Int) > 0) by decide,if_false];split <;> omega
def ZpC (q:TA):TI:=λJ H R=>q J H λM O=>∃i j:Int,M=[.int i,.int j,.int (-1)]/\(-(2 ^ 62)<=i/\i<2 ^ 62/\-(2 ^ 62)<=j/\j<2 ^ 62)/\R (Itd i (i-j).toNat) O
theorem Zpi {X:Cx}{tg a b c:Expr}{ta:TA}{p pos:Pos}(hm:X.mg "range"=none)(ha:PA X [a,b,c] ta)(hg:Y8 X.env.scope "range"=true:=by kernel_rfl)(hs:starEach [a,b,c] X.env=(false,eval a X.env)::starEach [b,c] X.env:=by rfl)(n6:(backTo pos (starEach [b,c] X.env)).any (·.1)=false:=by rfl) :
  PI X tg (.Call (.Name "range" p) [a,b,c] [] pos) (ZpC ta):=by
 intro M s σ H R I h;refine Call_ (Jt I (Xh hg) hm lE (bA (Yz (ha pos M s σ H _ I h) λus s1 ⟨vs,H1,I1,r1,q1⟩=>?_) hs n6));obtain⟨i,j,e,⟨q1,q2,q3,q4⟩,q⟩:=q1;subst e;cases r1 with
 |cons r O=>
  cases O with
  |cons r' O=>
   cases O with
   |cons n8 O=>
    cases O;obtain⟨t,rfl⟩:=r;obtain⟨Y,rfl⟩:=r';obtain⟨J,rfl⟩:=n8;refine call_range_3 (by decide) ?_ (Or.inl (kh (by decide)));refine jH (kG ..) (small_down q1 q2 q3 q4) ?_;have I2:Inv X M σ H1 {s1 with heap:=s1.heap.push {cls:=.type "range",data:=.fields #[.int i t,.int j Y,.int (-1) J]},toks:=s1.toks}:=I1.kept λb o e=>Zn _ e;refine⟨(s1.heap.push {cls:=.type "range",data:=.fields #[.int i t,.int j Y,.int (-1) J]}).objs.size,[(s1.heap.push {cls:=.type "range",data:=.fields #[.int i t,.int j Y,.int (-1) J]}).objs.size],_,_,H1,rfl,
     I2.kept (t':=s1.toks) λb o e=>Zn _ e,Zgb _ i (i-j).toNat,?_,λb hb=>?_,q⟩
    ·have e1:i+((0:Nat):Int)*(-1)=i:=by simp
     have e2:(((i-j).toNat:Nat):Int)-((0:Nat):Int)=bm i j (-1):=by rw[rangeSize_down];split <;> omega
     show iw _ _ (i+((0:Nat):Int)*(-1)) ((((i-j).toNat:Nat):Int)-((0:Nat):Int)) (-1);rw[e1,e2];exact Zo _ rfl
    ·have e:b=(s1.heap.push {cls:=.type "range",data:=.fields #[.int i t,.int j Y,.int (-1) J]}).objs.size:=by simpa using hb
     subst e;exact I2.fpOk (Zq _) (I2.hok.fresh (Zq _))
theorem Zdp {lo:Int}{n:Nat}{g:TG}{tb:TS}{D:WZ}{σ:St}{H:Hp}(Pv:Nat->St->Hp->Prop)(h0:Pv 0 σ H)
  (hs:∀i σ H,i<n->Pv i σ H->g (.int (lo-i)) σ H λj O=>tb (D.lp (Pv (i+1))) j O) (hd:∀ σ H,Pv n σ H->D.nx σ H) :
  ∃W:Nat->Nat->St->Hp->Prop,(∃m,W 0 m σ H)/\∀i m σ H,W i m σ H->
   ((Itd lo n).stop i H/\D.nx σ H)\/((Itd lo n).go i H/\∃N:St->Hp->Prop,(∀ q J,N q J->∃Y,Y<m/\W (i+1) Y q J)/\∀x J,(Itd lo n).yld i H x J->g x σ J λj O=>tb (D.lp N) j O):=by
 refine⟨λi m σ H=>m=n-i/\i<=n/\Pv i σ H,⟨n,by simp,aV _,h0⟩,?_⟩;rintro i m σ H ⟨rfl,hi,p⟩;by_cases M:i<n
 ·refine .inr ⟨M,Pv (i+1),λq J p'=>⟨n-(i+1),by omega,rfl,M,p'⟩,λx J hy=>?_⟩
  obtain⟨e,rfl⟩:=hy;subst e;exact hs i σ _ M p
 ·have e:i=n:=by omega
  subst e;exact .inl ⟨Zq _,hd σ H p⟩
theorem g2 (K:aa)(i j:Nat){X:Cx}{x y:Str}{k}{q J pos:Pos}(O:X.calm=true)(Y:PG X (.Name x q) (Yj i))(hy:PG X (.Name y J) (Yj j))(hK:X.K=K:=by rfl)
  (hn:(assignEach [.Name x q,.Name y J] X.env).length=2:=by rfl) (M:(assignEach [.Name x q,.Name y J] X.env).findIdx? (·.1)=none:=by rfl) :
  PG X (.Tuple [.Name x q,.Name y J] k pos) (ZgN K 2 (JW (Yj i) (JW (Yj j) ZgO))):=hK▸ZbJ O (YE Y (YE hy Uk)) hn M
theorem Zin {X:Cx}(K:aa){o e:Expr}{M:List Expr}{to:TE}{t:TA}{name:Str}{J j:Pos}{T id:String}{r:V->TV->Hp->VK->Prop}(pa:PlainAttrs T)(slot:Slot T name id)(n8:typeOf (.builtin id)=pure (.type "method_descriptor"))(hm:MtR X id r)(ho:PE X o to)(ha:PA X (e::M) t)
  (hK:X.K=K:=by rfl) (O:attributeBase o name X.env (eval o X.env)=eval o X.env:=by rfl)
  (n6:((backTo j (starEach (e::M) X.env)).all (λx=>!x.1) && (backToKw j (keywordEach [] X.env)).all (λx=>x.1.isSome)
   && decide ((e::M).length+([]:List Keyword).length+(if ([]:List Keyword).isEmpty then 0 else 1)<30))=true:=by rfl)
  (Y:(J.endLine == j.line)=true:=by rfl) (hs:starEach (e::M) X.env=(false,eval e X.env)::starEach M X.env:=by rfl) (q:(backTo j (starEach M X.env)).any (·.1)=false:=by rfl) :
  PE X (.Call (.Attribute o name J) (e::M) [] j) (tBM K T r to t):=hK▸WH pa slot n8 hm ho ha O n6 Y hs q
structure Sml (k b:Nat)(d:fq):Prop where
 sh:d.showable=true
 nd:d.hasDict=false
 dp:d.depth<=k
 lv:d.leavesShort 300=true
 bl:d.bulk<=b
theorem Sml.all {k b:Nat}:∀{ds:List fq},(∀d∈ds,Sml k b d)->eV ds=true/\gJ ds=false/\bx ds<=k/\dM 300 ds=true/\iI ds<=ds.length*(b+1)
 | [],_=>⟨rfl,rfl,aV _,rfl,aV _⟩
 |d::ds,h=>by
  obtain⟨j,q,J,M,Y⟩:=Sml.all (ds:=ds) λe O=>h e (ao _ O);have hd:=h d ar;refine⟨?_,?_,?_,?_,?_⟩
  ·simp only[eV,hd.sh,j,Bool.and_self]
  ·simp only[gJ,hd.nd,q,Bool.or_self]
  ·simp only[bx]
   exact Nat.max_le.mpr ⟨hd.dp,J⟩
  ·simp only[dM,hd.lv,M,Bool.and_self]
  ·simp only[iI,Zi]
   have:=hd.bl;rw[cq];omega
theorem Sml.fit {k b:Nat}{d:fq}(h:Sml k b d)(j:k<=60)(hb:b<=50000):ZlZ d:=by
 refine⟨h.sh,h.nd,aW h.dp j,?_⟩;have:=PyData.shown_le_bulk 300 (by decide) d h.lv;have q:=h.bl;have e:=JL;omega
theorem Sml.tup {k b n:Nat}{ds:List fq}(j:ds.length<=n)(h:∀d∈ds,Sml k b d):Sml (k+1) (n*(b+1)) (.tuple ds):=by
 obtain⟨q,J,Y,M,O⟩:=Sml.all h;refine⟨by simp only[jD];exact q,by simp only[ny];exact J,by simp only[cT];omega,by simp only[lT];exact M,?_⟩;simp only[PyData.bulk];exact aW O (cY _ j)
end L2
namespace Pm
open PySem L2 PySem.Spec PyProof.Rows
open Tb
def nV (k:Nat):V:=.int (k:Int)
def GT (H:Hp)(g:Addr)(t:T9):Prop:=∃rs:TW,H g=some (.tup (rs.map V.ref))/\rs.length=t.length/\∀(i:Nat) r,rs[i]?=some r->Tz H r ((t.getD i []).map nV)
theorem GT.mono {H j:Hp}{g:Addr}{t:T9}(s:Zv H j)(G:GT H g t):GT j g t:=by
 obtain⟨q,J,M,O⟩:=G;exact⟨q,s _ _ J,M,λi r Y=>(O i r Y).mono s⟩
theorem Xy {t:T9}(P:PW t){a:Nat}(j:a<t.length):(t.getD a []).length=t.length:=by
 refine P.len _ ?_;rw[Zb,Zf j];exact bB j
theorem J8 {t:T9}(P:PW t){a b:Nat}(j:a<t.length)(hb:b<t.length):((t.getD a []).map nV)[b]?=some (.int (ZO t a b:Nat)):=by
 have q:=Xy P j;unfold ZO;generalize t.getD a []=row at *;rw[Zc,Zf (show b<row.length by omega),Zb,Zf (show b<row.length by omega)];rfl
theorem GT.at {H:Hp}{g:Addr}{t:T9}(G:GT H g t)(P:PW t){a:Nat}(J:a<t.length):∃(j:TW) (r:Addr),H g=some (.tup (j.map V.ref))/\j.length=t.length/\X8 (j.map V.ref) (a:Int)=some (.ref r)/\Tz H r ((t.getD a []).map nV)/\∀b,b<t.length->X8 ((t.getD a []).map nV) (b:Int)=some (.int (ZO t a b:Nat)):=by
 obtain⟨j,M,O,Y⟩:=G;have q:j[a]?=some (j[a]'(by omega)):=Zf (by omega);exact⟨j,_,M,O,ZH (by rw[Zc,q];rfl),Y a _ q,λb hb=>ZH (J8 P J hb)⟩
def ZjL (H:Hp)(L:Addr)(rs:TW)(f:Nat->T7):Prop:=H L=some (.lst (rs.map V.ref))/\∀(i:Nat) r,rs[i]?=some r->Tz H r ((f i).map nV)
theorem Zqk {H j:Hp}{L g:Addr}{rs:TW}{f:Nat->T7}{n:Nat}(R:ZjL H L rs f)(q:rs.length=n)(s:Zv H j)(M:j g=some (.tup (rs.map V.ref))):GT j g ((ac n).map f):=by
 refine⟨rs,M,by rw[q,Za,Zg],λi r J=>?_⟩;have O:i<n:=by rw[<-q];exact (ae.mp J).1
 rw[Zb,Zc,ah O];exact (R.2 i r J).mono s
theorem ZfQ (i j:Int):gx (.int i) (.int j)=decide (i=j):=by
 first|rfl|simp[gx]
theorem Jc {n i:Nat}(h:i<n):ixN n (i:Int)=some i:=by
 unfold ixN;rw[if_pos (dJ _),if_pos (by omega),Zj]
theorem XW {xs:T7}{i:Nat}{y:V}(h:(xs.map nV)[i]?=some y):∃k,xs[i]?=some k/\y=.int (k:Nat):=by
 rw[Zc] at h;cases e:xs[i]? with
 |none=>rw[e] at h;cases h
 |some k=>rw[e] at h;exact⟨k,rfl,(aB h).symm⟩
def XJ (f g:T7):T7:=g.map λi=>f.getD i 0
def nI (xs:T7):TZ:=xs.map λk:Nat=>((k:Nat):Int)
theorem ZnG (xs:T7):(nI xs).map V.int=xs.map nV:=by unfold nI;rw[aK];rfl
def TupsAt (H:Hp)(L:Addr)(bs:TW)(yss:T9):Prop:=H L=some (.lst (bs.map V.ref))/\bs.length=yss.length/\∀(i:Nat) b,bs[i]?=some b->H b=some (.tup ((yss.getD i []).map nV))
theorem TupsAt.mono {H j:Hp}{L:Addr}{bs:TW}{yss:T9}(s:Zv H j)(R:TupsAt H L bs yss):TupsAt j L bs yss:=⟨s _ _ R.1,R.2.1,λi b hb=>s _ _ (R.2.2 i b hb)⟩
theorem TupsAt.push {H:Hp}{L:Addr}{bs:TW}{yss:T9}{b:Addr}{ys:T7}(R:TupsAt H L bs yss)(h:H b=some (.tup (ys.map nV))):TupsAt (upd H L (.lst (bs.map V.ref++[.ref b]))) L (bs++[b]) (yss++[ys]):=by
 have ne:∀{b ys},H b=some (.tup ys)->upd H L (.lst (bs.map V.ref++[.ref b])) b=some (.tup ys):=λ{b ys} hb=>by
  rw[Zz (λz=>by rw[z,R.1] at hb;cases hb)];exact hb
 refine⟨by rw[Zu,aN];rfl,by rw[Zd,Zd,R.2.1];rfl,λi c j=>?_⟩;have q:c≠L->upd H L (.lst (bs.map V.ref++[.ref b])) c=H c:=λz=>Zz z;by_cases J:i<bs.length
 ·rw[au J] at j
  have:=R.2.2 i c j;rw[q (λz=>by rw[z,R.1] at this;cases this),Zb,au (by rw[<-R.2.1];exact J),<-Zb];exact this
 ·rw[av (by omega)] at j
  have M:i-bs.length=0:=by
   apply aj;intro z;rw[ai (by rw[Zk];omega)] at j;cases j
  rw[M] at j;cases j;have:i=yss.length:=by rw[<-R.2.1];omega
  rw[q (λz=>by rw[z,R.1] at h;cases h),this,Zb,av (Zq _),cC];exact h
theorem Zfn {K:aa}{H:Hp}:∀(bs:TW) (yss:T9),bs.length=yss.length->(∀(j:Nat) b,bs[j]?=some b->H b=some (.tup ((yss.getD j []).map nV)))->WO K H (bs.map V.ref) (yss.map λns=>ci ((nI ns).map aP))
 | [],[],_,_=>.nil
 | [],_::_,h,_=>by cases h
 |_::_,[],h,_=>by cases h
 |b::bs,y::yss,h,g=>by
  have hb:=g 0 b rfl;have q:H b=some (.tup ((nI y).map V.int)):=by rw[ZnG];exact hb
  exact .cons (.tup (.of q) (WO.ints _)) (Zfn bs yss (cF h) λj J M=>g (j+1) J M)
theorem ZiL {a b:T7}:nI a=nI b↔a=b:=by
 constructor
 ·intro h
  unfold nI at h;exact (ja (λx y e=>by exact Int.ofNat.inj e)).mp h
 ·intro h;rw[h]
theorem ZpI (a b:T7):gx (.tuple ((nI a).map aP)) (.tuple ((nI b).map aP))=decide (a=b):=by
 have:gx (.tuple ((nI a).map aP)) (.tuple ((nI b).map aP))=decide (nI a=nI b):=by
  show iP _ _=_;exact lq _ _
 rw[this,decide_eq_decide];exact ZiL
theorem Zcs (yss:T9)(o:T7):((yss.map λns=>ci ((nI ns).map aP)).any λy=>y.eqv (.tuple ((nI o).map aP)))=yss.contains o:=by
 rw[fk,List.contains_eq_any_beq];congr 1;funext y;show gx _ _=(o == y);rw[ZpI];by_cases h:y=o
 ·rw[decide_eq_true h,h,beq_self_eq_true]
 ·rw[decide_eq_false h]
  exact (beq_eq_false_iff_ne.mpr (λz=>h z.symm)).symm
def Zjm (j:T7):V->V
 | .int z=>nV (j.getD z.toNat 0)
 |y=>y
theorem Zdt (j g:T7):(g.map nV).map (Zjm j)=(XJ j g).map nV:=by
 unfold XJ;rw[aK,aK];refine aX λb _=>?_;show nV (j.getD (b:Int).toNat 0)=nV (j.getD b 0);rw[Zj]
def Wf (j:T9):T9:=j.map λa=>j.map λb=>j.findIdx (· == XJ a b)
def Gk (k:Nat)(y:T7):Prop:=y.length=k/\∀x∈y,x<k
theorem ZjH {k:Nat}{a g:T7}(j:Gk k a)(q:Gk k g):Gk k (XJ a g):=by
 unfold XJ;refine⟨by rw[Za];exact q.1,λx J=>?_⟩;obtain⟨i,hi,rfl⟩:=aE.mp J;have M:=q.2 i hi;have O:=j.1;rw[Zb,Zf (show i<a.length by omega)];exact j.2 _ (bB _)
theorem TupsAt.get {H:Hp}{L:Addr}{bs:TW}{yss:T9}(R:TupsAt H L bs yss){i:Nat}(j:i<yss.length):∃b,bs[i]?=some b/\X8 (bs.map V.ref) (i:Int)=some (.ref b)/\H b=some (.tup ((yss.getD i []).map nV)):=by
 have hb:i<bs.length:=by rw[R.2.1];exact j
 have e:bs[i]?=some bs[i]:=Zf hb;exact⟨_,e,ZH (by rw[Zc,e];rfl),R.2.2 i _ e⟩
theorem TupsAt.ref {H:Hp}{L:Addr}{bs:TW}{yss:T9}(R:TupsAt H L bs yss){i:Nat}{y:V}(h:(bs.map V.ref)[i]?=some y):∃b,y=.ref b/\i<yss.length/\H b=some (.tup ((yss.getD i []).map nV)):=by
 rw[Zc] at h;cases e:bs[i]? with
 |none=>rw[e] at h;cases h
 |some b=>
  rw[e] at h;refine⟨b,(aB h).symm,?_,R.2.2 i b e⟩;rw[<-R.2.1];exact (ae.mp e).1
theorem getL {yss:T9}{i:Nat}(h:i<yss.length):yss[i]?=some (yss.getD i []):=by
 rw[Zb,Zf h];rfl
theorem ZbS {yss:T9}{i:Nat}(h:i<yss.length):yss.getD i []∈yss:=az (getL h)
theorem Zmo {xs:T7}{i:Nat}(h:i<xs.length):X8 (xs.map nV) (i:Int)=some (nV (xs.getD i 0)):=ZH (by rw[Zc,Zf h,Zb,Zf h];rfl)
def Zdc:T9->Hp->(TV->Hp->Prop)->Prop
 | [],H,Q=>Q [] H
 |x::r,H,Q=>iTu (λv j=>Zdc r j λq J=>Q (v::q) J) (x.map nV) H
theorem Xg:∀(j:T9) (H:Hp) (Q:TV->Hp->Prop),(∀x∈j,x.length<=1000)->
  (∀(bs:TW) (J:Hp),Zv H J->bs.length=j.length->(∀(i:Nat) b,bs[i]?=some b->J b=some (.tup ((j.getD i []).map nV)))->Q (bs.map V.ref) J)->Zdc j H Q
 | [],H,Q,_,q=>q [] H (Zv.refl _) rfl λi b hb=>by cases hb
 |x::r,H,Q,O,q=>by
  have sz:=JL;refine⟨?_,λp hp=>Xg r _ _ (λy hy=>O y (ao _ hy)) λbs J Y hb hi=>?_⟩
  ·have:=O x ar
   rw[Za];omega
  ·refine q (p::bs) J ((Zv.upd hp).trans Y) (by rw[Zi,Zi,hb]) λi b M=>?_
   cases i with
   |zero=>
    cases M;exact Y _ _ Zu
   |succ i=>exact hi i b M
def ZiI:Y4->Hp->(TV->Hp->Prop)->Prop
 | [],H,Q=>Q [] H
 |j::r,H,Q=>Zdc j H (iLs λv q=>ZiI r q λJ M=>Q (v::J) M)
theorem V2:∀(j:Y4) (H:Hp) (Q:TV->Hp->Prop),(∀J∈j,J.length<=1000/\∀x∈J,x.length<=1000)->
  (∀(ls:TW) (M:Hp),Zv H M->ls.length=j.length->(∀(i:Nat) l,ls[i]?=some l->H l=none/\∃bs,TupsAt M l bs (j.getD i []))->Q (ls.map V.ref) M)->ZiI j H Q
 | [],H,Q,_,q=>q [] H (Zv.refl _) rfl λi b hb=>by cases hb
 |J::r,H,Q,hl,q=>by
  have sz:=JL;obtain⟨h1,h2⟩:=hl J ar;refine Xg J H _ h2 λbs H1 s1 hb hi=>⟨by rw[Za];omega,λp Y=>V2 r _ _ (λy hy=>hl y (ao _ hy)) λls M s' n6 n8=>?_⟩;have s2:=s1.trans (Zv.upd (o:=.lst (bs.map V.ref)) Y);refine q (p::ls) M (s2.trans s') (by rw[Zi,Zi,n6]) λi l O=>?_;cases i with
  |zero=>
   cases O;refine⟨s1.free Y,bs,TupsAt.mono s' ⟨Zu,hb,λi b n9=>?_⟩⟩;exact Zv.upd (o:=.lst (bs.map V.ref)) Y _ _ (hi i b n9)
  |succ i=>
   obtain⟨h3,h4⟩:=n8 i l O;exact⟨s2.free h3,h4⟩
def teT (x:T7):TE:=λ_ H Q=>iTu Q (x.map nV) H
theorem ZkG (x:T7){j:List Expr}{t:TA}{q}{pos:Pos}(h:PA X j t)(e:t=λ_ H Q=>Q (x.map nV) H):PE X (.Tuple j q pos) (teT x):=by
 subst e;exact UW h
def taN (j:T9):TA:=λ_ H Q=>Zdc j H Q
theorem ZkN:PA X [] (taN []):=Zt
theorem pan {e:Expr}{q:List Expr}{x:T7}{j:T9}(h:PE X e (teT x))(r:PA X q (taN j))(J:WA e=true:=by rfl):PA X (e::q) (taN (x::j)):=pc h r J
def teL (j:T9):TE:=λ_ H Q=>Zdc j H (iLs Q)
theorem ZkH {q:List Expr}{j:T9}{pos:Pos}(h:PA X q (taN j)):PE X (.List q pos) (teL j):=ZV h
def taL (j:Y4):TA:=λ_ H Q=>ZiI j H Q
theorem ZkO:PA X [] (taL []):=Zt
theorem pal {e:Expr}{J:List Expr}{q:T9}{j:Y4}(h:PE X e (teL q))(r:PA X J (taL j))(M:WA e=true:=by rfl):PA X (e::J) (taL (q::j)):=pc h r M
structure QE (X:Cx)(e:Expr)(t:TE):Prop where
 h:PE X e t
structure QA (X:Cx)(es:List Expr)(t:TA):Prop where
 h:PA X es t
structure QS (X:Cx)(st:Stmt)(t:TS):Prop where
 h:PS X st t
structure QSs (X:Cx)(sts:List Stmt)(t:TS):Prop where
 h:PSs X sts t
theorem qi {i:Int}{j}{pos:Pos}:QE X (.Constant (.int i) j pos) (tC (.int i)):=⟨Zx⟩
theorem ZU:QA X [] Zhp:=⟨Zt⟩
theorem qa {e:Expr}{j:List Expr}{q:TE}{t:TA}(h:QE X e q)(r:QA X j t)(J:WA e=true:=by rfl):QA X (e::j) (Uy q t):=⟨pc h.h r.h J⟩
theorem Yi (x:T7){j:List Expr}{t:TA}{q}{pos:Pos}(h:QA X j t)(e:t=λ_ H Q=>Q (x.map nV) H):QE X (.Tuple j q pos) (teT x):=⟨ZkG x h.h e⟩
theorem Jg:QA X [] (taN []):=⟨ZkN⟩
theorem Xa {e:Expr}{q:List Expr}{x:T7}{j:T9}(h:QE X e (teT x))(r:QA X q (taN j))(J:WA e=true:=by rfl):QA X (e::q) (taN (x::j)):=⟨pan h.h r.h J⟩
theorem VW {q:List Expr}{j:T9}{pos:Pos}(h:QA X q (taN j)):QE X (.List q pos) (teL j):=⟨ZkH h.h⟩
theorem Zkv:QA X [] (taL []):=⟨ZkO⟩
theorem qal {e:Expr}{J:List Expr}{q:T9}{j:Y4}(h:QE X e (teL q))(r:QA X J (taL j))(M:WA e=true:=by rfl):QA X (e::J) (taL (q::j)):=⟨pal h.h r.h M⟩
theorem Zq4 {j:List Expr}{t:TA}{pos:Pos}(h:QA X j t):QE X (.List j pos) (ZmR t):=⟨ZV h.h⟩
theorem ZcZ (i:Nat){x:Str}{e:Expr}{q:TE}{pos j:Pos}(J:X.fn x=true)(M:QE X e q)(O:X.N[i]?=some x:=by rfl)(Y:Jq X.N=true:=by kernel_rfl)(hx:ZaZ X.env.scope x=true:=by kernel_rfl)
  (hs:swapsWith e (some (.Name x j)) pos.line X.env=pure false:=by rfl):QS X (.Assign [.Name x j] e pos) (ZdU q (Yj i)):=⟨ZG i J M.h O Y hx hs⟩
theorem Xb {st:Stmt}{rest:List Stmt}{t u:TS}(j:QS X st t)(q:QSs X rest u):QSs X (st::rest) (ZmQ t u):=⟨Zs j.h q.h⟩
theorem Vl {j:TE}{g:TG}{u:TS}{D:WZ}{σ:L2.St}{H:Hp}(h:j σ H λx q=>g x σ q (u D)):ZmQ (ZdU j g) u D σ H:=h
theorem Zhq (j:Y4){σ:L2.St}{H:Hp}{Q:VK}(O:∀M∈j,M.length<=1000/\∀x∈M,x.length<=1000)(hk:j.length<=1000)
  (q:∀(ls:TW) (J:Hp),Zv H J->ls.length=j.length->(∀(i:Nat) l,ls[i]?=some l->H l=none/\∃bs,TupsAt J l bs (j.getD i []))->∀S,J S=none->Q (.ref S) (upd J S (.lst (ls.map V.ref)))):ZmR (taL j) σ H Q:=by
 have sz:=JL;exact V2 j H _ O λls J Y h1 h2=>⟨by rw[Za];omega,q ls J Y h1 h2⟩
theorem J5 (j:T9){σ:L2.St}{H:Hp}{Q:VK}(M:∀x∈j,x.length<=1000)(hk:j.length<=1000)
  (q:∀(bs:TW) (J:Hp),Zv H J->bs.length=j.length->(∀(i:Nat) b,bs[i]?=some b->J b=some (.tup ((j.getD i []).map nV)))->∀S,J S=none->Q (.ref S) (upd J S (.lst (bs.map V.ref)))):teL j σ H Q:=by
 have sz:=JL;exact Xg j H _ M λbs J O Y h2=>⟨by rw[Za];omega,q bs J O Y h2⟩
def CT (H:Hp)(c:Addr)(j:T9):Prop:=∃rs:TW,H c=some (.tup (rs.map V.ref))/\rs.length=j.length/\∀(i:Nat) r,rs[i]?=some r->H r=some (.tup ((j.getD i []).map nV))
theorem CT.mono {H q:Hp}{c:Addr}{j:T9}(s:Zv H q)(h:CT H c j):CT q c j:=by
 obtain⟨J,M,O,Y⟩:=h;exact⟨J,s _ _ M,O,λi r hr=>s _ _ (Y i r hr)⟩
def Yd (n:Nat)(f:Nat->Nat):T7:=(ac n).map f
theorem UN (n:Nat)(f:Nat->Nat):(Yd n f).length=n:=by unfold Yd;rw[Za,Zg]
theorem ZcU {n a k:Nat}(f:Nat->Nat)(j:a<n):((Yd n f).map nV).set a (nV k)=(Yd n λb=>if b=a then k else f b).map nV:=by
 unfold Yd;refine a7 λi=>?_;rw[jr];by_cases q:i<n
 ·by_cases e:a=i
  ·subst e
   rw[if_pos rfl,if_pos (by rw[Za,Za,Zg];exact j),Zc,Zc,ah j];show some (nV k)=some (nV (if a=a then k else f a))
   rw[if_pos rfl]
  ·rw[if_neg e,Zc,Zc,ah q,Zc,Zc,ah q]
   show some (nV (f i))=some (nV (if i=a then k else f i))
   rw[if_neg (λz=>e z.symm)]
 ·have J:a≠i:=by omega
  rw[if_neg J,ai (by rw[Za,Za,Zg];omega),ai (by rw[Za,Za,Zg];omega)]
theorem Wg {n:Nat}{f g:Nat->Nat}(h:∀a,a<n->f a=g a):Yd n f=Yd n g:=aX λa j=>h a (af.mp j)
theorem CT.row {H:Hp}{c:Addr}{j:T9}(h:CT H c j):∃q:TW,H c=some (.tup (q.map V.ref))/\q.length=j.length/\∀(i:Nat) y,(q.map V.ref)[i]?=some y->∃r,y=.ref r/\i<j.length/\H r=some (.tup ((j.getD i []).map nV)):=by
 obtain⟨q,Y,O,h3⟩:=h;refine⟨q,Y,O,λi y J=>?_⟩;rw[Zc] at J;cases M:q[i]? with
 |none=>rw[M] at J;cases J
 |some r=>
  rw[M] at J;cases J;exact⟨r,rfl,by rw[<-O];exact (ae.mp M).1,h3 i r M⟩
theorem Zfg {j:T9}{k:Nat}(q:k<j.length):j.getD k []∈j:=by
 rw[Zb,Zf q];exact bB q
theorem ZbE {n:Nat}{f:Nat->Nat}{a:Nat}(j:a<n):X8 ((Yd n f).map nV) (a:Int)=some (.int (f a:Nat)):=ZH (by
 unfold Yd;rw[Zc,Zc,ah j];rfl)
theorem tupK {X:Cx}(K:aa)(j:X.K=K:=by rfl):YA X (.type "tuple") (_root_.L2.I_call_tuple_of K):=j▸ZX
theorem ZcX {m i:Nat}{a:Nat->Addr}(j:i<m):X8 ((ac m).map λi=>V.ref (a i)) (i:Int)=some (.ref (a i)):=ZH (by rw[Zc,ah j];rfl)
theorem ZcW {m i:Nat}{a:Nat->Addr}{y:V}(h:((ac m).map λi=>V.ref (a i))[i]?=some y):i<m/\y=.ref (a i):=by
 have j:i<m:=by
  have:=(ae.mp h).1;rw[Za,Zg] at this;exact this
 rw[Zc,ah j] at h;exact⟨j,(aB h).symm⟩
theorem ZiK {m i:Nat}{f:Nat->Nat}(j:i<m):((Yd m f).map nV)[i]?=some (.int (f i:Nat)):=by
 unfold Yd;rw[Zc,Zc,ah j];rfl
theorem Zm3 (m:Nat):(Y6 0 m).map V.int=(ac m).map nV:=by
 unfold Y6;rw[aK];refine aX λi _=>?_;show V.int (0+(i:Int))=nV i;rw[ce];rfl
theorem Vm {m i:Nat}{y:V}(h:((Y6 0 m).map V.int)[i]?=some y):i<m/\y=.int (i:Nat):=by
 rw[Zm3] at h;have j:i<m:=by
  have:=(ae.mp h).1;rw[Za,Zg] at this;exact this
 rw[Zc,ah j] at h;exact⟨j,(aB h).symm⟩
theorem Wt {W:Type}(n9:W->Addr)(Pr:Nat->W->Hp->Prop)(Y:W->Hp->Prop){J:It}{own:List Str}{n8:T7}{te:TE}{σ:L2.St}{H:Hp}{Q:VK}{xs:TV}(S:WN J H xs)(cs:L2.St)(o6:J0 own n8 σ=none::cs)(hn:xs.length<=1000)
  (mono:∀i w H q,Zv H q->Pr i w H->Pr i w q) (o5:∀w H q,Zv H q->Y w q->Y w H) (hu:∀i w H0 H1 D o ys o7,Pr i w H1->Y w H0->H0 D=some (.lst o)->H1 D=some (.lst ys)->Pr i w (upd H1 D (.lst o7)))
  (hs:∀(i:Nat) y,xs[i]?=some y->∀q,Zv H q->∀R:VK,(∀w H5,Zv q H5->Pr i w H5->Y w q->R (.ref (n9 w)) H5)->te (some y::cs) q R)
  (hd:∀D (M:List W) q,H D=none->Zv H q->q D=some (.lst (M.map λw=>V.ref (n9 w)))->M.length=xs.length->(∀(i:Nat) w,M[i]?=some w->Pr i w q/\Y w H)->(∀(i j:Nat) w w',i<j->M[i]?=some w->M[j]?=some w'->∃Hm,Pr i w Hm/\Y w' Hm)->Q (.ref D) q):Jf own n8 (Yj 0) WR te σ Q J H:=by
 refine Zaf (xs:=xs) (λD i ys q=>Zv H q/\∃M:List W,ys=M.map (λw=>V.ref (n9 w))/\M.length=i/\(∀(i:Nat) w,M[i]?=some w->Pr i w q/\Y w H/\∃H0 o,H0 D=some (.lst o)/\Y w H0)/\(∀(i j:Nat) w w',i<j->M[i]?=some w->M[j]?=some w'->∃Hm,Pr i w Hm/\Y w' Hm)) cs o6 (by omega) ?_ ?_ ?_ ?_
 ·intro D i ys q hD O p
  have S':=S.mono p.1;exact⟨λhi=>⟨S'.go i q (Zv.refl _) hi,λx H3 y=>S'.yld i q x H3 (Zv.refl _) hi y⟩,λe=>e▸S'.stop q (Zv.refl _)⟩
 ·intro D hD
  exact⟨Zv.upd hD,[],rfl,rfl,(λi w hw=>by cases hw),(λi j w w' _ h=>by cases h)⟩
 ·rintro D i y ys q hD O hy ⟨sm,M,rfl,wl,hw,hp⟩ R k
  refine hs i y hy q sm R λw H5 s5 p5 n5=>?_;have o0:=s5 _ _ O;have lst:∀(b:Nat) v,(M++[w])[b]?=some v->(b<M.length/\M[b]?=some v)\/(b=M.length/\v=w):=λb v hb=>by
   by_cases n6:b<M.length
   ·rw[au n6] at hb
    exact .inl ⟨n6,hb⟩
   ·rw[av (by omega)] at hb
    have o8:b-M.length=0:=by
     apply aj;intro z;rw[ai (by rw[Zk];omega)] at hb;cases hb
    rw[o8] at hb;cases hb;exact .inr ⟨by omega,rfl⟩
  refine k _ H5 o0 ⟨(sm.trans s5).updr hD,M++[w],by rw[aN];rfl,by rw[Zd,wl];rfl,λb v hv=>?_,λa b v v' o9 ha hb=>?_⟩
  ·rcases lst b v hv with ⟨_,hv⟩|⟨hb,hv⟩
   ·obtain⟨h1,h2,H0,o,h3,h4⟩:=hw b v hv
    exact⟨hu b v H0 H5 D o _ _ (mono b v _ _ s5 h1) h4 h3 o0,h2,H0,o,h3,h4⟩
   ·subst hv
    subst hb;rw[<-wl] at p5;exact⟨hu _ v q H5 D _ _ _ p5 n5 O o0,o5 v _ _ sm n5,q,_,O,n5⟩
  ·rcases lst b v' hb with ⟨n6,hb⟩|⟨n6,hb⟩
   ·rw[au (by omega)] at ha
    exact hp a b v v' o9 ha hb
   ·subst hb
    rw[au (by omega)] at ha;exact⟨q,(hw a v ha).1,n5⟩
 ·rintro D ys H5 hD O p3 ⟨sm,M,rfl,wl,hw,hp⟩
  exact hd D M H5 hD sm O wl (λi w h=>⟨(hw i w h).1,(hw i w h).2.1⟩) hp
theorem YZ {J:It}{own:List Str}{M:T7}{te:TE}{σ:L2.St}{H:Hp}{Q:VK}{xs:TV}(S:WN J H xs)(cs:L2.St)(n6:J0 own M σ=none::cs)(F:Nat->V)(hz:xs.length<=1000)
  (hs:∀(i:Nat) y,xs[i]?=some y->∀j,Zv H j->∀R:VK,(∀O,Zv j O->R (F i) O)->te (some y::cs) j R)
  (hd:∀D j,H D=none->Zv H j->j D=some (.lst ((ac xs.length).map F))->Q (.ref D) j):Jf own M (Yj 0) WR te σ Q J H:=by
 refine Zaf (xs:=xs) (λD i ys j=>Zv H j/\ys=(ac i).map F) cs n6 (by omega) ?_ ?_ ?_ ?_
 ·intro D i ys j Y q p
  have S':=S.mono p.1;exact⟨λhi=>⟨S'.go i j (Zv.refl _) hi,λx H3 y=>S'.yld i j x H3 (Zv.refl _) hi y⟩,λe=>e▸S'.stop j (Zv.refl _)⟩
 ·intro D Y
  exact⟨Zv.upd Y,rfl⟩
 ·rintro D i y ys j Y q hy ⟨sm,rfl⟩ R k
  refine hs i y hy j sm R λO s5=>k _ O (s5 _ _ q) ⟨(sm.trans s5).updr Y,?_⟩;rw[bR,aN];rfl
 ·rintro D ys O Y q n8 ⟨sm,rfl⟩
  exact hd D O Y sm q
theorem Zhk {X:Cx}(K:aa)(j:X.K=K:=by rfl):YA X (.type "tuple") (_root_.L2.I_call_tupleZ K):=j▸ZdE
theorem Tz.updL {H:Hp}{a D:Addr}{ys q:TV}{o:HO}(h:Tz H a ys)(J:H D=some (.lst q)):Tz (upd H D o) a ys:=by
 obtain⟨u,j,M⟩:=h;exact⟨u,by rw[Zz (λz=>by rw[z,J] at j;cases j)];exact j,M⟩
def XZ (y:T7):List YL:=y.map λx:Nat=>iB (x:Int)
theorem ZiT (y:T7):(XZ y).map kV=y.map nV:=by
 unfold XZ;rw[aK];rfl
theorem Zdl {a b:T7}(h:XZ a=XZ b):a=b:=by
 unfold XZ at h;refine (ja (λx y e=>?_)).mp h;injection e with e;omega
section
variable {fd:T9}{os:T7}
theorem Zjh (J:fd.Nodup){a b:Nat}(j:a<fd.length)(hb:b<fd.length)(h:fd.getD a []=fd.getD b []):a=b:=by
 have q:=getL j;have M:=getL hb;rw[h,<-M] at q;exact (nh j J).mp q
end
section
variable {gs:T9}
def Srt (yss:T9):Prop:=(yss.map nI).Pairwise (λx y=>PyZ.JZ y x=false)
theorem Srt.eq {a b:T9}(j:Srt a)(hb:Srt b)(p:bM a b):a=b:=by
 have:a.map nI=b.map nI:=jQ (le:=λx y:TZ=>PyZ.JZ y x=false) (λx y _ _ q J=>PyZ.Um J q) j hb (p.map nI);exact (ja (λx y e=>ZiL.mp e)).mp this
end
end Pm
namespace PyZ
open PySem PyProof PyProof.Rows
theorem Zbv {l L:Addr}{m:TX}{as:TW}{yss:T8}{p:Array Nat}{Q:TY}(hu:A.units+2<cLine)(n9:s.heap.Ns L m)(hl:s.heap.IsList l (as.map ax).toArray)(n2:2<=as.length)(o0:as.length<64)(hy:as.length=yss.length)
  (ht:∀(i:Nat) a,as[i]?=some a->a≠L/\∃(us:List Value) (ys:TZ),yss[i]?=some ys/\s.heap.IsList a us.toArray/\be us ys)
  (hp:XT as.length (λi j=>JZ (yss.getD i []) (yss.getD j [])) (f7 as.length)=some p)
  (q:∀D c h',s.heap.get? D=none->D≠L->(∀b o,b≠L->s.heap.get? b=some o->h'.get? b=some o)->h'.Ns L m->h'.get? D=some (mU (p.toList.map λi=>(as.map ax).getD i a6).toArray c)->Q (.ref D) {s with heap:=h'}) :
  wpAny (model prog w) A (call (.builtin "sorted") [.ref l]) Q E s:=by
 have fr:Fr (ZaB s.heap L) L s.heap m:=by
  refine⟨n9,λb o e=>?_,?_⟩
  ·by_cases hb:b<L
   ·rw[YT hb] at e;exact e
   ·rw[W2 (fU hb)] at e
    cases e
  ·show (s.heap.objs.extract 0 L).size<=L
   rw[gF,cB];exact gt ..
 have nw:News (ZaB s.heap L) L s.heap (Yk s.heap L):=λx hx=>by
  obtain⟨J,h2⟩:=Yp.mp hx;exact⟨h2,bu J,W2 (cL J)⟩
 have lv:(as.map ax).length=as.length:=gh ..;refine mr fr nw hl (by rw[lv];exact n2) (by rw[lv];exact o0) λD e1 h' n8 M big=>?_;have kept:∀b o,b≠L->s.heap.get? b=some o->h'.get? b=some o:=λb o hb e=>by
  rcases cD b L with J|J
  ·exact n8.keep b o (by rw[YT J];exact e)
  ·exact (M (b,o) (ao _ (Yp.mpr ⟨bD J (bf hb),e⟩))).1
 have dn:s.heap.get? D=none:=by
  cases e:s.heap.get? D with
  |none=>rfl
  |some o=>
   obtain⟨_,dL,dc⟩:=M _ (ar ..);rcases cD D L with J|J
   ·rw[YT J] at dc
    rw[dc] at e;cases e
   ·exact absurd (big (D,o) (Yp.mpr ⟨bD J (bf dL),e⟩)) (bw _)
 have dL:D≠L:=(M _ (ar ..)).2.1;have n6:∀(i:Nat) a,as[i]?=some a->∃(us:List Value) (ys:TZ),yss[i]?=some ys/\h'.IsList a us.toArray/\be us ys:=λi a hi=>by
  obtain⟨aL,us,ys,e,⟨o,g1,g2⟩,ia⟩:=ht i a hi;exact⟨us,ys,e,⟨o,kept a o aL g1,g2⟩,ia⟩
 refine W.kas_kind (T:=bW "list") (by rw[lv];exact n2) (λv hv=>?_) (by decide +kernel) (by decide +kernel) ?_
 ·obtain⟨a,ha,rfl⟩:=aE.mp hv
  obtain⟨i,hi⟩:=bn ha;obtain⟨us,ys,_,⟨o,g1,g2,_⟩,_⟩:=n6 i a hi;intro A Q E s' hk q;refine fP (T:="list") ⟨o,hk _ _ g1,g2⟩ q
 ·rw[lv]
  refine XC (cmp:=λi j=>JZ (yss.getD i []) (yss.getD j [])) (λi j C hi hj c=>?_) _ p _ hp ?_
  ·unfold lQ
   obtain⟨us,ys,e,i1,ia⟩:=n6 i as[i] (Zf hi);obtain⟨o8,o5,e2,i2,o6⟩:=n6 j as[j] (Zf hj);have v1:(as.map ax).getD i a6=.ref as[i]:=by
    rw[Zb,Zc,Zf hi];rfl
   have v2:(as.map ax).getD j a6=.ref as[j]:=by
    rw[Zb,Zc,Zf hj];rfl
   have w1:yss.getD i []=ys:=by rw[Zb,e];rfl
   have w2:yss.getD j []=o5:=by rw[Zb,e2];rfl
   rw[v1,v2];rw[w1,w2] at c;exact Zes (by show A.units+1+1<cLine;omega) i1 i2 ia o6 c
  ·refine⟨_,_,n8,M,kP (λx hx=>ay (big x hx)),λo7 c O Y=>?_⟩
   refine q D c o7 dn dL (λb o hb e=>?_) O.ns (Y _ (ar ..)).1;rcases cD b L with J|J
   ·exact O.keep b o (by rw[YT J];exact e)
   ·exact (Y (b,o) (ao _ (Yp.mpr ⟨bD J (bf hb),e⟩))).1
end PyZ
namespace L2
open PySem PySem.Spec PyProof.Rows
theorem Zfu:∀{as:TW},as.length<2->((ac as.length).map λi=>as.getD i 0)=as
 | [],_=>rfl
 | [_],_=>rfl
theorem Ziq {β:Type}:∀{n:Nat},n<2->∀(f:Nat->β) (R:β->β->Prop),((ac n).map f).Pairwise R
 |0,_,_,_=>eO
 |1,_,_,_=>im _ _
def Zq0 (j:Bool)(ys:TZ):HO:=if j then .tup (ys.map V.int) else .lst (ys.map V.int)
inductive Zem (tp:Bool) (xs:TV) (H:Hp) (Q:VK):Prop
 |mk (l:Addr) (as:TW) (yss:T8):(xs=[.ref l])->(H l=some (.lst (as.map V.ref)))->(as.length=yss.length)->(as.length<64)->((∀(i:Nat) a,as[i]?=some a->∃ys,yss[i]?=some ys/\ys≠[]/\H a=some (Zq0 tp ys)))->(∀D js,H D=none->bM js (ac as.length)->(js.map λi=>yss.getD i []).Pairwise (λa b=>PyZ.JZ b a=false)->Q (.ref D) (upd H D (.lst ((js.map λi=>as.getD i 0).map V.ref))))->Zem tp xs H Q
theorem ZeN (tp:Bool)(hu:X.A.units+64<cLine):YA X (.builtin "sorted") (Zem tp):=by
 intro pins s σ H xs us Q I r h;obtain⟨l,j,J,rfl,hl,hy,n9,ht,q⟩:=h;obtain⟨u,rfl,ru⟩:=r.one;cases ru;obtain⟨m,hm,o6⟩:=id I.loc;obtain⟨z,p6,n,rv,hlen,e⟩:=I.lstM hl;have ei:=W0 rv;subst ei;have n6:s.heap.IsList l (j.map ax).toArray:=(I.list (.of hl)).elim λp4 hh=>by
  obtain⟨M,pl,_⟩:=hh;have:=W0 M;rw[this] at pl;exact pl.isList
 have JL:=JL;have o0:∀{a:Addr}{o:HO},H a=some o->a≠X.env.locals:=λ{a o} e z=>by rw[z,I.free] at e;cases e
 by_cases n2:j.length<2
 ·refine PyZ.Zbu n6 (by rw[Za];exact n2) ?_
  obtain⟨e1,he⟩:=sortedAll_at s.heap (j.map ax) (j.map ax).toArray;have o5:∀b o,s.heap.get? b=some o->(sortedAll s.heap (j.map ax) (j.map ax).toArray).get? b=some o:=λb o e=>sortedAll_old e;generalize sortedAll s.heap (j.map ax) (j.map ax).toArray=h' at he o5 ⊢;have n8:s.heap.objs.size<=s.heap.objs.size+1:=g9 _;generalize s.heap.objs.size+1=D at he n8 ⊢;have em:=Zfu n2;have o7:=Ziq n2 (λi=>J.getD i []) λa b=>PyZ.JZ b a=false;have fin:=q D (ac j.length) (I.hok.fresh n8) (cZ _) o7;rw[em] at fin;have I':Inv X pins σ (upd H D (.lst (j.map V.ref))) {s with heap:=h',toks:=s.toks}:=I.laid (a:=D) (o:=.lst (j.map V.ref)) (t':=s.toks) o5 n8 ⟨by rw[Za];omega,j.map ax,e1,JA j,he⟩;exact⟨.ref D,_,I',rfl,fin⟩
 ·obtain⟨p,hp,O,o8⟩:=PyZ.Zge (yss:=J) (by omega)
  rw[<-hy] at hp O;have o9:∀i∈p.toList,i<j.length:=λi hi=>af.mp (O.mem_iff.mp hi);have pl:p.toList.length=j.length:=by rw[O.length_eq,Zg]
  have es:(p.toList.map λi=>(j.map ax).getD i a6)=(p.toList.map λi=>j.getD i 0).map ax:=by
   rw[aK];refine aX λi hi=>?_;have:=o9 i hi;show (j.map ax).getD i a6=ax (j.getD i 0);rw[Zb,Zc,Zf this,Zb,Zf this];rfl
  have fin:∀D c h',s.heap.get? D=none->D≠X.env.locals->(∀b o,b≠X.env.locals->s.heap.get? b=some o->h'.get? b=some o)->h'.Ns X.env.locals m->h'.get? D=some (mU (p.toList.map λi=>(j.map ax).getD i a6).toArray c)->
    ∃v H',Inv X pins σ H' {s with heap:=h'}/\RelV v (.ref D)/\Q v H':=λD c h' dn dL kept p3 hD=>by
   rw[es] at hD;obtain⟨I',hH⟩:=I.newL (ys:=(p.toList.map λi=>j.getD i 0).map V.ref) hm o6 dn dL kept p3 (by rw[Za,Za];omega) (JA _) hD;exact⟨.ref D,_,I',rfl,q D _ hH O o8⟩
  cases tp with
  |true=>
   refine PyZ.ZcJ (yss:=J) (p:=p) hm n6 (by omega) n9 hy (λi a hi=>?_) hp fin;obtain⟨ys,e1,ne,Y⟩:=ht i a hi;have Y:H a=some (.tup (ys.map V.int)):=Y;obtain⟨us,M,pt,_⟩:=I.tuple (.of Y);exact⟨o0 Y,us,ys,e1,pt,JN M,ne⟩
  |false=>
   refine PyZ.Zbv (yss:=J) (p:=p) (by omega) hm n6 (by omega) n9 hy (λi a hi=>?_) hp fin;obtain⟨ys,e1,ne,Y⟩:=ht i a hi;have Y:H a=some (.lst (ys.map V.int)):=Y;obtain⟨us,M,pt,_⟩:=I.list (.of Y);exact⟨o0 Y,us,ys,e1,pt.isList,JN M⟩
theorem ZmL {prog:Program}{w:World}{A:Around}{j:List Value}{ns:TZ}(r:ZS (ns.map V.int) j):TruthOf prog w A (λi v=>j.toArray[i]?=some v) (λi=>ns.getD i 0 != 0):=by
 intro i v s Q E q M;rw[lK] at q;have hi:i<j.length:=(ae.mp q).1;have O:=r.length;rw[Za] at O;have hb:(ns.map V.int)[i]?=some (.int (ns.getD i 0)):=by
  rw[Zc,Zb,Zf (by omega)];rfl
 obtain⟨u,J,Y⟩:=r.get hb;rw[q] at J;cases J;obtain⟨t,rfl⟩:=Y;exact truthy_int M
theorem Zel {ns:TZ}:((ac ns.length).any λi=>ns.getD i 0 != 0)=ns.any (· != 0):=by
 have:(ac ns.length).map (λi=>ns.getD i 0)=ns:=by
  apply nJ
  ·simp
  ·intro i j q;simp at j;simp[j]
 conv=>rhs;rw[<-this,fk]
 rfl
inductive I_call_anyI (K:aa) (xs:TV) (H:Hp) (Q:VK):Prop
 |mk (a:Addr) (ns:TZ):(xs=[.ref a])->(Wx K H a (ns.map V.int))->(Q (.bl (ns.any (· != 0))) H)->I_call_anyI K xs H Q
theorem Zg3 (hc:X.calm=true):YA X (.builtin "any") (_root_.L2.I_call_anyI X.K):=by
 intro M s σ H xs us Q I r h;obtain⟨a,ns,rfl,hq,q⟩:=h;obtain⟨u,rfl,ru⟩:=vals1 r;cases ru;obtain⟨j,O,p,hz⟩:=I.list hq;have Y:=O.length;rw[Za] at Y;refine call_any_walk (ir p.isList ?_);have J:a≠s.heap.objs.size:=by obtain⟨o,n,e,_⟩:=p;exact ay (Zp e)
 refine⟨s.heap.objs.size,_,_,_,_,_,(λi=>ns.getD i 0 != 0),rfl,mh (A:=X.A.in1) (I.ok.hd hc) _ a J j.toArray,⟨⟨_,Zo _ rfl,rfl,rfl⟩,p.isList.push _⟩,ZmL O,λh' tk k=>?_⟩;rw[Zh,<-Y,Zel];refine⟨.bl _,H,I.kept (t':=tk) λb o e=>k b o ?_ (Zn _ e),rfl,q⟩;simpa using ay (Zp e)
theorem Zp5 (K:aa)(j:X.calm=true)(q:X.K=K:=by rfl):YA X (.builtin "any") (_root_.L2.I_call_anyI K):=q▸Zg3 j
def Its (lo st:Int)(n:Nat):It:=⟨λi _=>i<n,λi H x j=>j=H/\x=.int (lo+(i:Int)*st),λi _=>n<=i⟩
theorem Zf9 {P:Program}{w:World}{K:aa}{tg:Expr}(it:Addr)(lo st:Int)(n:Nat):ZaF P w K tg (Its lo st n) [it] it (λi h=>iw h it (lo+(i:Nat)*st) ((n:Int)-(i:Nat)) st) where
 mem:=by simp
 obj:=λi h st b hb=>by
  have e:b=it:=by simpa using hb
  subst e;exact⟨_,st,λv z=>by
   have z':gU _=gD v:=z;cases z'⟩
 keep:=λi h M st k=>k it (by simp) _ st
 item:=by
  intro X Y hw hK hc i q s σ H E I O j hg;subst Y hw hK;obtain⟨f0,f1,f2,f3,f4,f5⟩:=O it (by simp);have W:=ln (prog:=X.prog) (w:=X.w) (I.ok.hd hc) it lo st n;refine W.item i s _ _ hg j λv M tk hv J kk=>?_;obtain⟨t,rfl⟩:=hv;have I1:Inv X q σ H {s with heap:=M,toks:=tk}:=I.turned (λb o hb e=>kk b o (by simpa using hb) e) f0 f1 f3 f4 f5;refine⟨_,rfl,Zdo (s:={s with heap:=M,toks:=tk}) (n:="range_iterator") J rfl rfl (by decide) ⟨.int (lo+(i:Int)*st),H,I1,⟨t,rfl⟩,⟨rfl,rfl⟩,J,λb hb=>(O b hb).1⟩⟩
 done:=by
  intro X Y hw hK hc i q s σ H E I O j hg;subst Y hw hK;obtain⟨f0,f1,f2,f3,f4,f5⟩:=O it (by simp);exact iM (I.ok.hd hc) j (by have:n<=i:=hg;omega) λM eb=>⟨rfl,I.turned (t':=s.toks) (λb o hb e=>eb b o hb e) f0 f1 f3 f4 f5⟩
 self:=λ_ _ _ _ _ j h=>iN j h
def W5 (n st:Nat):Nat:=(n+st-1) / st
theorem J9 (n st:Nat)(J:1<=st):bm 0 (n:Int) (st:Int)=(W5 n st:Nat):=by
  unfold bm W5;rw[if_pos (by omega)];by_cases h:(0:Int)<(n:Int)
  · rw[if_pos h]
    have:((n+st-1:Nat):Int)=(n:Int)-0-1+(st:Int):=by omega
    first
    |(rw[eP,this];congr 1;omega)
    | (have j:(n+st-1) / st=(n-1) / st+1:=by
         rw[show n+st-1=(n-1)+st by omega,Nat.add_div_right _ (by omega)]
       rw[j];have q:(n:Int)-0-1=((n-1:Nat):Int):=by omega
       first
       |(rw[q,<-eP];omega)
       |(rw[show (n:Int)-1-0=((n-1:Nat):Int) by omega,<-eP];omega))
  · rw[if_neg h]
    have:n=0:=by omega
    subst this;rw[show 0+st-1=st-1 by omega,Nat.div_eq_of_lt (by omega)];rfl
theorem Zht (n st:Nat)(j:1<=st):W5 n st<=n:=by
 unfold W5;by_cases h:n=0
 ·subst h
  rw[show 0+st-1=st-1 by omega,Nat.div_eq_of_lt (by omega)];exact Zq _
 ·rw[Nat.div_le_iff_le_mul_add_pred (by omega)]
  have:n<=st*n:=Nat.le_mul_of_pos_left n (by omega);omega
theorem Zee {n st:Nat}(q:1<=st)(J:n<=1000)(j:st<=1000):cz 0 (n:Int) (st:Int)=true:=by
 unfold cz;rw[J9 n st q];have:=Zht n st q;have M:((W5 n st:Nat):Int)*(st:Int)<=1000000:=by
  have:W5 n st*st<=1000*1000:=gM (by omega) j;rw[<-aI];omega
 have O:0<=((W5 n st:Nat):Int)*(st:Int):=by
  rw[<-aI];omega
 simp only[iX,ag,bh,decide_eq_true_eq,beq_iff_eq];refine⟨by omega,.inr ?_⟩;rw[if_pos (by omega),ag,decide_eq_true_eq,decide_eq_true_eq];omega
def ZpB (j:TA):TI:=λq H R=>j q H λJ M=>∃n st:Nat,J=[.int 0,.int n,.int st]/\1<=st/\n<=1000/\st<=1000/\R (Its 0 st (W5 n st)) M
theorem Zq1 {X:Cx}{tg a b c:Expr}{ta:TA}{p pos:Pos}(hm:X.mg "range"=none)(ha:PA X [a,b,c] ta)(hg:Y8 X.env.scope "range"=true:=by kernel_rfl)(hs:starEach [a,b,c] X.env=(false,eval a X.env)::starEach [b,c] X.env:=by rfl)(n6:(backTo pos (starEach [b,c] X.env)).any (·.1)=false:=by rfl) :
  PI X tg (.Call (.Name "range" p) [a,b,c] [] pos) (ZpB ta):=by
 intro J s σ H R I h;refine Call_ (Jt I (Xh hg) hm lE (bA (Yz (ha pos J s σ H _ I h) λus s1 ⟨vs,H1,I1,r1,q1⟩=>?_) hs n6));obtain⟨n,st,e,M,hn,n8,q⟩:=q1;subst e;cases r1 with
 |cons r O=>
  cases O with
  |cons r' O=>
   cases O with
   |cons n9 O=>
    cases O;obtain⟨t,rfl⟩:=r;obtain⟨Y,rfl⟩:=r';obtain⟨j,rfl⟩:=n9;have lg:((st:Int)).natAbs.log2<9000:=by
     rw[jm];have h1:st.log2<=st:=Nat.log2_le_self st;omega
    refine call_range_3 (by omega) ?_ (Or.inl (PyProof.noPylong_of_log2 lg));refine jH (kG ..) (Zee M hn n8) ?_;have I2:Inv X J σ H1 {s1 with heap:=s1.heap.push {cls:=.type "range",data:=.fields #[.int 0 t,.int (n:Int) Y,.int (st:Int) j]},toks:=s1.toks}:=I1.kept λb o e=>Zn _ e;refine⟨(s1.heap.push {cls:=.type "range",data:=.fields #[.int 0 t,.int (n:Int) Y,.int (st:Int) j]}).objs.size,[(s1.heap.push {cls:=.type "range",data:=.fields #[.int 0 t,.int (n:Int) Y,.int (st:Int) j]}).objs.size],_,_,H1,rfl,
     I2.kept (t':=s1.toks) λb o e=>Zn _ e,Zf9 _ 0 (st:Int) (W5 n st),?_,λb hb=>?_,q⟩
    ·have e1:(0:Int)+((0:Nat):Int)*(st:Int)=0:=by simp
     have e2:((W5 n st:Nat):Int)-((0:Nat):Int)=bm 0 (n:Int) (st:Int):=by rw[J9 n st M];omega
     show iw _ _ ((0:Int)+((0:Nat):Int)*(st:Int)) (((W5 n st:Nat):Int)-((0:Nat):Int)) (st:Int);rw[e1,e2];exact Zo _ rfl
    ·have e:b=(s1.heap.push {cls:=.type "range",data:=.fields #[.int 0 t,.int (n:Int) Y,.int (st:Int) j]}).objs.size:=by simpa using hb
     subst e;exact I2.fpOk (Zq _) (I2.hok.fresh (Zq _))
theorem Zjb {lo st:Int}{n:Nat}{g:TG}{tb:TS}{D:WZ}{σ:St}{H:Hp}(Pv:Nat->St->Hp->Prop)(h0:Pv 0 σ H)
  (hs:∀i σ H,i<n->Pv i σ H->g (.int (lo+(i:Int)*st)) σ H λj O=>tb (D.lp (Pv (i+1))) j O) (hd:∀ σ H,Pv n σ H->D.nx σ H) :
  ∃W:Nat->Nat->St->Hp->Prop,(∃m,W 0 m σ H)/\∀i m σ H,W i m σ H->
   ((Its lo st n).stop i H/\D.nx σ H)\/((Its lo st n).go i H/\∃N:St->Hp->Prop,(∀ q J,N q J->∃Y,Y<m/\W (i+1) Y q J)/\∀x J,(Its lo st n).yld i H x J->g x σ J λj O=>tb (D.lp N) j O):=by
 refine⟨λi m σ H=>m=n-i/\i<=n/\Pv i σ H,⟨n,by simp,aV _,h0⟩,?_⟩;rintro i m σ H ⟨rfl,hi,p⟩;by_cases M:i<n
 ·refine .inr ⟨M,Pv (i+1),λq J p'=>⟨n-(i+1),by omega,rfl,M,p'⟩,λx J hy=>?_⟩
  obtain⟨e,rfl⟩:=hy;subst e;exact hs i σ _ M p
 ·have e:i=n:=by omega
  subst e;exact .inl ⟨Zq _,hd σ H p⟩
def SqB (b:Bool)(K:aa)(H:Hp)(a:Addr)(xs:TV):Prop:=match b with
 |true=>False
 |false=>Wx K H a xs
theorem SqB.lst {K:aa}{H:Hp}{a:Addr}{xs:TV}(h:Wx K H a xs):SqB false K H a xs:=h
theorem Inv.sqB {a:Addr}{xs:TV}(I:Inv X pins σ H s)(h:Wx X.K H a xs):∃j,ZS xs j/\s.heap.IsList a j.toArray:=by
 obtain⟨j,q,p,_⟩:=I.list h;exact⟨j,q,p.isList⟩
theorem VL {h:Heap}{j a:Addr}{k:Nat}(x:h.IsListIter j a k):∃o,h.get? j=some o/\∀v,o.data≠.cell v:=by
 obtain⟨o,J,M,q⟩:=x;exact⟨o,J,λv z=>by rw[z] at q;cases q⟩
def Itz (K:aa)(a b:Addr):It:=
  ⟨λi H=>∃j q x y,Wx K H a j/\Wx K H b q/\j[i]?=some x/\q[i]?=some y,
   λi H x O=>∃T J M,x=.ref T/\H T=none/\O=upd H T (.tup [J,M])/\(∀j,Wx K H a j->j[i]?=some J)/\∀q,Wx K H b q->q[i]?=some M,
   λi H=>∃j q,Wx K H a j/\Wx K H b q/\(j.length<=i\/q.length<=i)⟩
theorem Zhi {P:Program}{w:World}{K:aa}{elts:List Expr}{x1}{pos:Pos}(a b z p r i j:Addr)(D:ZipApart z p r i j a b) :
  ZaF P w K (.Tuple elts x1 pos) (Itz K a b) [z,p,r,i,j] z (λk h=>IsZip h z p r .none/\IsPair h p (.ref i) (.ref j)/\(∃o1 o2,IsPair h r o1 o2)/\h.IsListIter i a k/\h.IsListIter j b k) where
 mem:=by simp
 obj:=λk h st c hc=>by
  obtain⟨O,M,⟨o1,o2,Y⟩,hi,hj⟩:=st;simp only[aF,db,or_false] at hc;rcases hc with rfl|rfl|rfl|rfl|rfl
  ·exact⟨_,O,λv z=>by
    have z':gU _=gD v:=z;cases z'⟩
  ·exact⟨_,M,λv z=>by
    have z':Data.seq _ _=gD v:=z;cases z'⟩
  ·exact⟨_,Y,λv z=>by
    have z':Data.seq _ _=gD v:=z;cases z'⟩
  ·exact VL hi
  ·exact VL hj
 keep:=λk h h' st kk=>by
  obtain⟨O,M,⟨o1,o2,Y⟩,hi,hj⟩:=st;exact⟨kk z (by simp) _ O,kk p (by simp) _ M,⟨o1,o2,kk r (by simp) _ Y⟩,Heap.IsListIter.at hi λo q=>kk i (by simp) o q,Heap.IsListIter.at hj λo q=>kk j (by simp) o q⟩
 item:=by
  intro X hP hw hK hc k n9 s σ H E I hf st hg;subst hP hw hK;obtain⟨O,M,⟨o1,o2,Y⟩,hi,hj⟩:=st;obtain⟨xs,ys,x,y,hA,hB,hx,hy⟩:=hg;obtain⟨o0,rv,pa⟩:=I.sqB hA;obtain⟨o5,n6,pb⟩:=I.sqB hB;obtain⟨ux,o6,o7⟩:=rv.get hx;obtain⟨uy,o8,o9⟩:=n6.get hy;refine wpAny_pyNext_zip_item D O M Y hi hj pa pb (x:=ux) (y:=uy) (by simpa using o6) (by simpa using o8) λh1 z1 r1 i1 j1 t1 p3 k1=>?_;refine⟨_,rfl,wpAny_letOwnedTupleGo_zip z1 λh2 z2 s2=>?_⟩;have lt:∀c∈[z,p,r,i,j],c<s.heap.objs.size:=λc J=>by
   simp only[aF,db,or_false] at J;rcases J with rfl|rfl|rfl|rfl|rfl
   ·exact Zp O
   ·exact Zp M
   ·exact Zp Y
   ·obtain⟨o,e,_⟩:=VL hi;exact Zp e
   ·obtain⟨o,e,_⟩:=VL hj;exact Zp e
  have s3:br z h1 h2:=s2;have t2:IsPair h2 s.heap.objs.size ux uy:=(s3.2 _ (bu (lt z (by simp)))).trans t1;have nT:H s.heap.objs.size=none:=I.hok.fresh (Zq _);have p2:IsPair h2 p (.ref i) (.ref j):=(s3.2 _ D.TIz).trans (k1 _ _ D.TIz D.TITO D.TIi1 D.TIi2 M);have r2:IsPair h2 r ux uy:=(s3.2 _ D.TOz).trans r1;have i2:=jh i1 s3.extBut D.i1z;have j2:=jh j1 s3.extBut D.i2z;have I2:=I.turnLay (t':=s.toks) (h':=h2) (ts:=[z,p,r,i,j]) (T:=s.heap.objs.size) (o:=.tup [x,y]) (λc o J q=>?_) (λc J=>?_) hf (Zq _) ⟨by show 2<=sizeLine;decide,[ux,uy],.cons o7 (.cons o9 .nil),_,t2,rfl,0,rfl⟩
  ·refine⟨.ref s.heap.objs.size,_,I2,rfl,⟨_,x,y,rfl,nT,rfl,λzs n8=>by rw[I.list_inj n8 hA];exact hx,λzs n8=>by rw[I.list_inj n8 hB];exact hy⟩,⟨z2,p2,⟨_,_,r2⟩,i2,j2⟩,λc J=>?_⟩
   rw[Zz (ay (lt c J))];exact (hf c J).1
  ·have q1:c≠z:=λe=>J (by simp[e])
   have q2:c≠r:=λe=>J (by simp[e]);have q3:c≠i:=λe=>J (by simp[e]);have q4:c≠j:=λe=>J (by simp[e]);exact (s3.2 c q1).trans (k1 c o q1 q2 q3 q4 q)
  ·simp only[aF,db,or_false] at J
   rcases J with rfl|rfl|rfl|rfl|rfl
   ·exact⟨_,z2⟩
   ·exact⟨_,p2⟩
   ·exact⟨_,r2⟩
   ·obtain⟨o,e,_⟩:=VL i2;exact⟨o,e⟩
   ·obtain⟨o,e,_⟩:=VL j2;exact⟨o,e⟩
 done:=by
  intro X hP hw hK hc k n9 s σ H E I hf st hg;subst hP hw hK;obtain⟨O,M,⟨o1,o2,Y⟩,hi,hj⟩:=st;obtain⟨xs,ys,hA,hB,hl⟩:=hg;obtain⟨o0,rv,pa⟩:=I.sqB hA;obtain⟨o5,n6,pb⟩:=I.sqB hB;have l1:=rv.length;have l2:=n6.length;refine wpAny_pyNext_zip_end (I.ok.hd hc) D O M Y hi hj pa pb ?_ λh1 k1=>⟨rfl,I.turnedL (t':=s.toks) (ts:=[z,p,r,i,j]) (λc o J q=>?_) hf⟩
  ·rcases hl with h|h
   ·exact .inl (by simp;omega)
   ·exact .inr (by simp;omega)
  ·exact k1 c o (λe=>J (by simp[e])) (λe=>J (by simp[e])) (λe=>J (by simp[e])) (λe=>J (by simp[e])) q
 self:=λ_ _ _ _ _ st h=>wpAny_pyIter_zip st.1 h
structure ZeQ (J:It)(At:Hp->Prop)(ps:List (V×V)):Prop where
 go:∀i H,At H->i<ps.length->J.go i H
 yld:∀i H x H2,At H->J.yld i H x H2->∃T y z,x=.ref T/\H T=none/\H2=upd H T (.tup [y,z])/\ps[i]?=some (y,z)
 stop:∀i H,At H->ps.length<=i->J.stop i H
theorem ZoJ {K:aa}{a b:Addr}{xs ys:TV}:ZeQ (Itz K a b) (λH=>Wx K H a xs/\Wx K H b ys) (xs.zip ys) where
 go:=λi H h j=>by
  rw[eX] at j;exact⟨xs,ys,xs[i]'(by omega),ys[i]'(by omega),h.1,h.2,by simp,by simp⟩
 yld:=λi H x H2 h q=>by
  obtain⟨T,y,z,e,J,M,O,Y⟩:=q;refine⟨T,y,z,e,J,M,?_⟩;rw[gQ];exact⟨O xs h.1,Y ys h.2⟩
 stop:=λi H h j=>by
  rw[eX] at j;exact⟨xs,ys,h.1,h.2,by omega⟩
def Zpz (K:aa)(ta:TA):TI:=λσ H R=>ta σ H λvs q=>∃a b u v M O j,vs=[.ref a,.ref b]/\SqB u K j a M/\SqB v K j b O/\Zv j q/\∀J Y,ZeQ J Y (M.zip O)->(∀H',Zv j H'->Y H')->R J q
theorem ZqK {X:Cx}{elts:List Expr}{x1}{pt:Pos}{l m:Expr}{ta:TA}{p pos:Pos}(hm:X.mg "zip"=none)(ha:PA X [l,m] ta)(hg:Y8 X.env.scope "zip"=true:=by kernel_rfl)(hs:starEach [l,m] X.env=(false,eval l X.env)::starEach [m] X.env:=by rfl)(n6:(backTo pos (starEach [m] X.env)).any (·.1)=false:=by rfl) :
  PI X (.Tuple elts x1 pt) (.Call (.Name "zip" p) [l,m] [] pos) (Zpz X.K ta):=by
 intro j s σ H R I h;refine Call_ (Jt I (Xh hg) hm (show bootBuiltins "zip"=some (.type "zip") by kernel_rfl) (bA (Yz (ha pos j s σ H _ I h) λus s1 ⟨vs,H1,J,r1,q1⟩=>?_) hs n6));obtain⟨a,b,u,v,xs,ys,Hx,e,M,O,sm,q⟩:=q1;subst e;cases u with
 |true=>cases M
 |false=>
 cases v with
 |true=>cases O
 |false=>
 replace M:Wx X.K Hx a xs:=M;replace O:Wx X.K Hx b ys:=O;cases r1 with
 |cons r rr=>
  cases rr with
  |cons r' rr=>
   cases rr;cases (show _=ax a from r);cases (show _=ax b from r');obtain⟨n8,rv,pa⟩:=J.sqB (sm.seq M);obtain⟨n9,o0,pb⟩:=J.sqB (sm.seq O);have la:a<s1.heap.objs.size:=by obtain⟨o,e,_⟩:=pa;exact Zp e
   have lb:b<s1.heap.objs.size:=by obtain⟨o,e,_⟩:=pb;exact Zp e
   have nn:∀{c d:Nat},c<d->(c:Addr)≠d:=λh=>ay h;have D:ZipApart (s1.heap.objs.size+4) (s1.heap.objs.size+2) (s1.heap.objs.size+3) s1.heap.objs.size (s1.heap.objs.size+1) a b:=by
    have o5:(a:Nat)<s1.heap.objs.size:=la;have o6:(b:Nat)<s1.heap.objs.size:=lb;constructor <;> first|exact ay (aC la (eL _ _))|exact ay (aC lb (eL _ _))|exact ay la|exact ay lb|exact ay (by omega)|exact bu (by omega)
   refine call_zip_2 pa pb λg gz gp gr gi gj _ gk=>wpAny_pyIter_zip gz ?_;have sz:∀c∈[s1.heap.objs.size+4,s1.heap.objs.size+2,s1.heap.objs.size+3,s1.heap.objs.size,s1.heap.objs.size+1],s1.heap.objs.size<=c:=λc Y=>by
    simp only[aF,db,or_false] at Y;rcases Y with rfl|rfl|rfl|rfl|rfl
    ·exact eL _ _
    ·exact eL _ _
    ·exact eL _ _
    ·exact Zq _
    ·exact eL _ _
   exact⟨_,[s1.heap.objs.size+4,s1.heap.objs.size+2,s1.heap.objs.size+3,s1.heap.objs.size,s1.heap.objs.size+1],_,_,H1,rfl,J.kept (t':=s1.toks) gk,Zhi a b _ _ _ _ _ D,⟨gz,gp,⟨_,_,gr⟩,gi,gj⟩,λc Y=>J.fpOk (sz c Y) (J.hok.fresh (sz c Y)),q _ _ ZoJ λH' s'=>⟨s'.seq M,s'.seq O⟩⟩
theorem Zj0 (K:aa){X:Cx}{elts:List Expr}{J}{pt:Pos}{l m:Expr}{q:TA}{p pos:Pos}(M:X.mg "zip"=none)(O:PA X [l,m] q)(Y:X.K=K:=by rfl)(hg:Y8 X.env.scope "zip"=true:=by kernel_rfl)(hs:starEach [l,m] X.env=(false,eval l X.env)::starEach [m] X.env:=by rfl)(j:(backTo pos (starEach [m] X.env)).any (·.1)=false:=by rfl) :
  PI X (.Tuple elts J pt) (.Call (.Name "zip" p) [l,m] [] pos) (Zpz K q):=Y▸ZqK M O hg hs j
theorem Zjt {K:aa}{J:It}{At:Hp->Prop}{own:List Str}{M:T7}{te:TE}{σ:St}{H Hx:Hp}{Q:VK}{q:List (V×V)}(S:ZeQ J At q)(o5:∀j,Zv Hx j->At j)(sx:Zv Hx H)(O:St)(o6:J0 own M σ=none::none::O)(f:V->V->V)(hz:q.length<=1000000)
  (hs:∀(i:Nat) x y j,q[i]?=some (x,y)->Zv H j->∀R:VK,(∀Y,Zv j Y->R (f x y) Y)->te (some x::some y::O) j R)
  (hd:∀D j,H D=none->Zv H j->j D=some (.lst (q.map λp=>f p.1 p.2))->Q (.ref D) j):Jf own M (ZgN K 2 (JW (Yj 0) (JW (Yj 1) ZgO))) WR te σ Q J H:=by
 intro D hD;refine⟨λi m n8 j=>m=q.length-i/\i<=q.length/\(∃v0 v1,n8=v0::v1::O)/\Zv H j/\j D=some (.lst ((q.take i).map λp=>f p.1 p.2)),⟨_,rfl,aV _,⟨none,none,o6⟩,Zv.upd hD,by rw[Zu,fg];rfl⟩,?_⟩;rintro i m n8 j ⟨rfl,hi,⟨v0,v1,rfl⟩,s,hl⟩;have n6:=o5 j (sx.trans s);by_cases n9:i<q.length
 ·refine .inr ⟨S.go i j n6 n9,λo0 H2=>(∃v0 v1,o0=v0::v1::O)/\Zv H H2/\H2 D=some (.lst ((q.take (i+1)).map λp=>f p.1 p.2)),λo0 H2 z=>⟨q.length-(i+1),by omega,rfl,n9,z.1,z.2.1,z.2.2⟩,λx H2 hy=>?_⟩
  obtain⟨T,y,z,rfl,hT,rfl,hx⟩:=S.yld i j x H2 n6 hy;have ht:q.take (i+1)=q.take i++[(y,z)]:=by rw[cW,hx];rfl
  refine⟨T,_,rfl,.of Zu,rfl,_,_,rfl,_,_,rfl,rfl,?_⟩;refine tT (A:=λH4=>te (some y::some z::O) H4 λv Y=>∃xs,Y D=some (.lst xs)/\xs.length<sizeLine/\(∃v0 v1,(some y::some z::O:St)=v0::v1::O)/\Zv H (upd Y D (.lst (xs++[v])))/\(upd Y D (.lst (xs++[v]))) D=some (.lst ((q.take (i+1)).map λp=>f p.1 p.2))) ?_;refine hs i y z _ hx (s.trans (Zv.upd hT)) _ λY s5=>⟨_,s5 _ _ (Zv.upd hT _ _ hl),?_,⟨_,_,rfl⟩,((s.trans (Zv.upd hT)).trans s5).updr hD,?_⟩
  ·rw[Za,a8]
   have:(16777216:Nat)=sizeLine:=by decide
   omega
  ·rw[Zu,ht,aN]
   rfl
 ·have e:i=q.length:=by omega
  subst e;refine .inl ⟨S.stop _ j n6 (Zq _),hd D j hD s ?_⟩;rw[hl,c8]
end L2
set_option maxHeartbeats 1000000
namespace Num
def co (a:TZ)(i:Nat):Int:=a.getD i 0
theorem YN (i:Nat):co [] i=0:=by simp[co]
theorem YG (x:Int)(r:TZ):co (x::r) 0=x:=by simp[co]
theorem Y2 (x:Int)(r:TZ)(i:Nat):co (x::r) (i+1)=co r i:=by simp[co]
theorem WL {a:TZ}{i:Nat}(h:a.length<=i):co a i=0:=by
 unfold co;rw[Zb,ai h];rfl
theorem Wv {a:TZ}{i:Nat}(h:i<a.length):a[i]?=some (co a i):=by
 unfold co;rw[Zb,Zf h];rfl
def Vb:TZ->TZ->TZ
 | [],b=>b
 |a,[]=>a
 |x::a,y::b=>(x+y)::Vb a b
def vsc (c:Int)(a:TZ):TZ:=a.map (c * ·)
theorem Wu:∀(a b:TZ) (i:Nat),co (Vb a b) i=co a i+co b i
 | [],b,i=>by rw[Vb,YN,ce]
 |x::a,[],i=>by rw[Vb,YN,a5];intro z;cases z
 |x::a,y::b,0=>by rw[Vb,YG,YG,YG]
 |x::a,y::b,i+1=>by rw[Vb,Y2,Y2,Y2,Wu a b i]
theorem JT (c:Int):∀(a:TZ) (i:Nat),co (vsc c a) i=c*co a i
 | [],i=>by unfold vsc;rw[eF,YN,bv]
 |x::a,0=>by unfold vsc;rw[aG,YG,YG]
 |x::a,i+1=>by
  have:=JT c a i;unfold vsc at this ⊢;rw[aG,Y2,Y2,this]
def WJ:TZ->T8->TZ
 |_,[]=>[]
 |a,r::j=>Vb (vsc (co a 0) r) (WJ a.tail j)
theorem ZlK (a:TZ)(i:Nat):co a.tail i=co a (i+1):=by
 cases a with
 |nil=>rw[List.tail_nil,YN,YN]
 |cons x r=>rw[c9,Y2]
theorem ZW (a:TZ)(r:TZ)(q:T8)(j:Nat):co (WJ a (r::q)) j=co a 0*co r j+co (WJ a.tail q) j:=by
 rw[WJ,Wu,JT]
def ro (R:T8)(i:Nat):TZ:=R.getD i []
theorem ZbC (r:TZ)(j:T8):ro (r::j) 0=r:=by simp[ro]
theorem ZbD (r:TZ)(j:T8)(i:Nat):ro (r::j) (i+1)=ro j i:=by simp[ro]
theorem Zm2 (i:Nat):ro [] i=[]:=by simp[ro]
theorem Zb1 (j:Nat)(v:Int):∀(a:TZ) (i:Nat) (R:T8),i<a.length->co (WJ (a.set i v) R) j=co (WJ a R) j+(v-co a i)*co (ro R i) j
 |a,i,[],h=>by rw[Zm2,YN,bv,a5];unfold WJ;rfl
 | [],i,r::q,h=>by cases h
 |x::a,0,r::q,h=>by
  rw[List.set_cons_zero,ZW,ZW,YG,YG,ZbC,c9,c9,iS];omega
 |x::a,i+1,r::q,h=>by
  rw[List.set_cons_succ,ZW,ZW,YG,YG,Y2,ZbD,c9,c9,Zb1 j v a i q (fz h)];omega
theorem XB:∀(R:T8) (j:Nat),co (WJ [] R) j=0
 | [],j=>by unfold WJ;exact YN j
 |r::q,j=>by rw[ZW,YN,List.tail_nil,XB q j,bc,a5]
theorem ZaU:∀(m:Nat) (R:T8) (j:Nat),co (WJ (aq m 0) R) j=0
 |0,R,j=>XB R j
 |m+1,[],j=>by unfold WJ;exact YN j
 |m+1,r::q,j=>by rw[ZW,ba,YG,c9,ZaU m q j,bc,a5]
def sig (n:Nat)(R:T8)(j:Nat):TZ->Nat->Int
 | [],_=>0
 |x::q,k=>x*co (ro R (k % n)) j+sig n R j q (k+1)
def Xi (n:Nat):TZ->Nat->TZ->TZ
 | [],_,ZJ=>ZJ
 |x::j,k,ZJ=>Xi n j (k+1) (ZJ.set (k % n) (co ZJ (k % n)+x))
def Wj (n:Nat)(j:TZ):TZ:=Xi n j 0 (aq n 0)
theorem Zdj (n:Nat)(q:0<n)(R:T8)(j:Nat):∀(J:TZ) (k:Nat) (ZJ:TZ),ZJ.length=n->co (WJ (Xi n J k ZJ) R) j=co (WJ ZJ R) j+sig n R j J k
 | [],k,ZJ,h=>by rw[Xi,sig,a5]
 |x::M,k,ZJ,h=>by
  rw[Xi,Zdj n q R j M (k+1) _ (by rw[bg,h]),Zb1 j _ ZJ (k % n) R (by rw[h];exact bi _ q),sig];have e:co ZJ (k % n)+x-co ZJ (k % n)=x:=by omega
  rw[e];omega
theorem ZaV (n:Nat)(J:0<n)(R:T8)(q:TZ)(j:Nat):co (WJ (Wj n q) R) j=sig n R j q 0:=by
 unfold Wj;rw[Zdj n J R j q 0 _ (cR ..),ZaU,ce]
def lk (n:Nat)(s:Nat)(g:Nat->Int):Nat->Int:=λk=>g k-g ((k+(n-s)) % n)
def X7 (n:Nat)(j:T7)(g:Nat->Int):Nat->Int:=j.foldl (λg s=>lk n s g) g
theorem Zb0 (n:Nat):∀(j:T7) (g h:Nat->Int) (k:Nat),X7 n j (λt=>g t+h t) k=X7 n j g k+X7 n j h k
 | [],g,h,k=>rfl
 |s::j,g,h,k=>by
  show X7 n j (lk n s λt=>g t+h t) k=X7 n j (lk n s g) k+X7 n j (lk n s h) k;rw[<-Zb0 n j (lk n s g) (lk n s h) k];congr 1;funext t;unfold lk;show g t+h t-(g ((t+(n-s)) % n)+h ((t+(n-s)) % n))=_;omega
theorem ZbZ (n:Nat)(c:Int):∀(j:T7) (g:Nat->Int) (k:Nat),X7 n j (λt=>c*g t) k=c*X7 n j g k
 | [],g,k=>rfl
 |s::j,g,k=>by
  show X7 n j (lk n s λt=>c*g t) k=c*X7 n j (lk n s g) k;rw[<-ZbZ n c j (lk n s g) k];congr 1;funext t;unfold lk;rw[iT]
theorem U4 (n:Nat):∀(j:T7) (k:Nat),X7 n j (λ_=>0) k=0
 | [],k=>rfl
 |s::j,k=>by
  show X7 n j (lk n s λ_=>0) k=0;have:(lk n s λ_=>(0:Int))=λ_=>0:=by funext t;unfold lk;rfl
  rw[this];exact U4 n j k
theorem ZfC (n:Nat)(j:T7)(k:Nat):∀(U:T8) (f:TZ),(∀r∈U,X7 n j (co r) k=0)->X7 n j (co (WJ f U)) k=0
 | [],f,h=>by
  have:co (WJ f [])=λ_=>0:=by funext t;unfold WJ;exact YN t
  rw[this];exact U4 n j k
 |r::J,f,h=>by
  have e:co (WJ f (r::J))=λt=>co f 0*co r t+co (WJ f.tail J) t:=by funext t;exact ZW f r J t
  rw[e,Zb0 n j (λt=>co f 0*co r t) (co (WJ f.tail J)) k,ZbZ,h r ar,ZfC n j k J f.tail λq M=>h q (ao _ M),bv,a5]
theorem Wi (n:Nat)(J:0<n):∀(j:T7) (g h:Nat->Int),(∀t,t<n->g t=h t)->∀k,k<n->X7 n j g k=X7 n j h k
 | [],g,h,e,k,q=>e k q
 |s::j,g,h,e,k,q=>by
  refine Wi n J j (lk n s g) (lk n s h) (λt M=>?_) k q;unfold lk;rw[e t M,e _ (bi _ J)]
def lkL (n s:Nat)(a:TZ):TZ:=List.zipWith (· - ·) a (a.drop s++a.take s)
theorem ZfD {n s:Nat}{a:TZ}(h:a.length=n):(lkL n s a).length=n:=by
 unfold lkL;rw[List.length_zipWith,Zd,bH,a8];omega
theorem Zn8 {n s k:Nat}{a:TZ}(h:a.length=n)(hs:s<=n)(J:k<n):co (lkL n s a) k=co a k-co a ((k+s) % n):=by
 have hl:(a.drop s++a.take s).length=n:=by
  rw[Zd,bH,a8];omega
 have M:(lkL n s a)[k]?=some (a[k]'(by omega)-(a.drop s++a.take s)[k]'(by omega)):=by
  unfold lkL;rw[List.getElem?_zipWith,Zf (by omega),Zf (by omega)]
 have g2:=Wv (a:=lkL n s a) (i:=k) (by rw[ZfD h];exact J);rw[M] at g2;have O:co a k=a[k]'(by omega):=by
  have:=Wv (a:=a) (i:=k) (by omega);rw[Zf (by omega)] at this;exact (aB this).symm
 have Y:co a ((k+s) % n)=(a.drop s++a.take s)[k]'(by omega):=by
  have j:(k+s) % n<a.length:=by rw[h];exact bi _ (by omega)
  have:=Wv (a:=a) j;rw[Zf j] at this;rw[<-aB this];by_cases hc:k<n-s
  ·have q:(k+s) % n=k+s:=aT (by omega)
   rw[List.getElem_append_left (by rw[bH];omega),List.getElem_drop];congr 1;omega
  ·have q:(k+s) % n=k+s-n:=by
    rw[m6 (by omega),aT (by omega)]
   rw[List.getElem_append_right (by rw[bH];omega),List.getElem_take];congr 1;rw[bH];omega
 rw[O,Y];exact (aB g2).symm
def ZnQ (n:Nat)(j:T7)(a:TZ):TZ:=j.foldl (λa s=>lkL n (n-s) a) a
theorem ZfW {n:Nat}:∀(j:T7) (a:TZ),a.length=n->∀k,k<n->co (ZnQ n j a) k=X7 n j (co a) k
 | [],a,h,k,q=>rfl
 |s::j,a,h,k,q=>by
  show co (ZnQ n j (lkL n (n-s) a)) k=X7 n j (lk n s (co a)) k;rw[ZfW j _ (ZfD h) k q];exact Wi n (by omega) j _ _ (λt J=>Zn8 h (Nat.sub_le _ _) J) k q
def ZF:Nat->(Nat->Int)->Int
 |0,_=>0
 |n+1,f=>f 0+ZF n λt=>f (t+1)
theorem ZA:∀(n:Nat) (f g:Nat->Int),(∀t,t<n->f t=g t)->ZF n f=ZF n g
 |0,f,g,h=>rfl
 |n+1,f,g,h=>by rw[ZF,ZF,h 0 (lH _),ZA n _ _ λt j=>h (t+1) (iq j)]
theorem Y1:∀(n:Nat) (f:Nat->Int),(∀t,t<n->f t=0)->ZF n f=0
 |0,f,h=>rfl
 |n+1,f,h=>by rw[ZF,h 0 (lH _),Y1 n _ λt j=>h (t+1) (iq j),a5]
theorem Jw:∀(n j:Nat) (f:Nat->Int),j<n->(∀t,t<n->t≠j->f t=0)->ZF n f=f j
 |0,j,f,q,h=>absurd q (dP _)
 |n+1,0,f,q,h=>by rw[ZF,Y1 n _ λt J=>h (t+1) (iq J) (jP _),a5]
 |n+1,j+1,f,q,h=>by
  rw[ZF,h 0 (lH _) (jP _).symm,ce];exact Jw n j (λt=>f (t+1)) (fz q) λt J M=>h (t+1) (iq J) λz=>M (cF z)
theorem Uz:∀(n:Nat) (f g:Nat->Int),ZF n (λt=>f t-g t)=ZF n f-ZF n g
 |0,f,g=>rfl
 |n+1,f,g=>by
  rw[ZF,ZF,ZF,Uz n (λt=>f (t+1)) λt=>g (t+1)];omega
theorem Vs (j:Nat):∀(R:T8) (a:TZ),co (WJ a R) j=ZF R.length λt=>co a t*co (ro R t) j
 | [],a=>by rw[WJ,YN];rfl
 |r::q,a=>by
  rw[ZW,Vs j q a.tail,Zi,ZF,ZbC];congr 1;refine ZA _ _ _ λt J=>?_;rw[ZlK,ZbD]
def YO (n k:Nat):TZ:=(ac n).map λt=>if t=k then 1 else 0
theorem Jk {n k t:Nat}(h:t<n):co (YO n k) t=if t=k then 1 else 0:=by
 unfold YO co;rw[Zb,Zc,ah h];rfl
def stN (step:Nat):TZ->Nat->TZ->TZ
 | [],_,ZJ=>ZJ
 |x::j,k,ZJ=>stN step j (k+1) (ZJ.set (k*step) x)
def stM (j:TZ)(step:Nat):TZ:=stN step j 0 (aq ((j.length-1)*step+1) 0)
theorem Ze4 (step:Nat):∀(j:TZ) (k:Nat) (ZJ:TZ),(stN step j k ZJ).length=ZJ.length
 | [],k,ZJ=>rfl
 |x::q,k,ZJ=>by rw[stN,Ze4 step q,bg]
theorem Ze5 (j:TZ)(step:Nat):(stM j step).length=(j.length-1)*step+1:=by unfold stM;rw[Ze4,Ze]
def qIn:TZ->Nat->Int->TZ->TZ
 | [],_,_,rest=>rest
 |d::j,b,c,rest=>qIn j (b+1) c (rest.set b (co rest b-c*d))
theorem Zfs:∀(ds:TZ) (b:Nat) (c:Int) (rest:TZ),(qIn ds b c rest).length=rest.length
 | [],b,c,rest=>rfl
 |d::ds,b,c,rest=>by rw[qIn,Zfs ds,bg]
def Zih (ds:TZ)(top:Nat):Nat->TZ->TZ->TZ
 |0,found,_=>found
 |k+1,found,rest=>Zih ds top k (found.set k (co rest (k+top))) (qIn ds k (co rest (k+top)) rest)
def Zfr (j ds:TZ):TZ:=Zih ds (ds.length-1) (j.length-(ds.length-1)) (aq (j.length-(ds.length-1)) 0) j
theorem Zcf {a:TZ}{i k:Nat}{v:Int}:co (a.set i v) k=if i=k/\i<a.length then v else co a k:=by
 unfold co;rw[Zb,jr,Zb];by_cases h:i=k
 ·subst h
  by_cases j:i<a.length
  ·rw[if_pos rfl,if_pos j,if_pos ⟨rfl,j⟩];rfl
  ·rw[if_pos rfl,if_neg j,if_neg λz=>j z.2,ai (by omega)]
 ·rw[if_neg h,if_neg λz=>h z.1]
theorem Zen (c:Int):∀(ds:TZ) (b:Nat) (rest:TZ) (i:Nat),b+ds.length<=rest.length->co (qIn ds b c rest) i=if b<=i/\i<b+ds.length then co rest i-c*co ds (i-b) else co rest i
 | [],b,rest,i,h=>by rw[qIn,if_neg (by rw[eY];omega)]
 |d::ds,b,rest,i,h=>by
  rw[Zi] at h ⊢;rw[qIn,Zen c ds (b+1) _ i (by rw[bg];omega),Zcf];by_cases j:i=b
  ·subst j
   rw[if_neg (by omega),if_pos ⟨rfl,by omega⟩,if_pos ⟨Zq _,by omega⟩,cC,YG]
  ·rw[if_neg (show ¬(b=i/\b<rest.length) from λz=>j z.1.symm)]
   by_cases q:b+1<=i/\i<b+1+ds.length
   ·rw[if_pos q,if_pos ⟨by omega,by omega⟩,show i-b=(i-(b+1))+1 by omega,Y2]
   ·rw[if_neg q,if_neg (by omega)]
theorem ZiQ (d:Int)(ds:TZ)(R:T8)(b j:Nat):co (WJ (d::ds) (R.drop b)) j=d*co (ro R b) j+co (WJ ds (R.drop (b+1))) j:=by
 by_cases h:b<R.length
 ·rw[bV h,ZW,YG,c9]
  congr 2;unfold ro;rw[Zb,Zf h];rfl
 ·rw[fj (by omega),fj (by omega)]
  unfold ro;rw[Zb,ai (by omega)];show co (WJ (d::ds) []) j=d*co [] j+co (WJ ds []) j;rw[WJ,WJ,YN,bv,a5]
theorem ZfE (c:Int)(R:T8)(j:Nat):∀(ds:TZ) (b:Nat) (rest:TZ),b+ds.length<=rest.length->co (WJ (qIn ds b c rest) R) j=co (WJ rest R) j-c*co (WJ ds (R.drop b)) j
 | [],b,rest,h=>by rw[qIn,XB,bv,lM]
 |d::ds,b,rest,h=>by
  rw[Zi] at h;rw[qIn,ZfE c R j ds (b+1) _ (by rw[bg];omega),Zb1 j _ rest b R (by omega),ZiQ,mH];have e:(co rest b-c*d-co rest b)*co (ro R b) j=- (c*(d*co (ro R b) j)):=by
   rw[show co rest b-c*d-co rest b=-(c*d) by omega,fe,aZ]
  rw[e];omega
def XX (s:TZ×Int)(p:Int):TZ×Int:=(Zfr (stM s.1 p.toNat) s.1,s.2*p)
def Js (n:Nat)(j:TZ):TZ:=stM (j.foldl XX ([-1,1],1)).1 ((n:Int) / (j.foldl XX ([-1,1],1)).2).toNat
def small (a:TZ):Bool:=a.all λx=>decide (x.natAbs<=100)
def Zli (s:TZ×Int):Bool:=small s.1 && decide (2<=s.1.length) && decide (s.1.length<=61) && decide (1<=s.2) && decide (s.2<=60)
def Vr (s:TZ×Int):TZ->Bool
 | []=>Zli s
 |p::j=>Zli s && decide (2<=p) && decide (p<=60) && Vr (XX s p) j
def Ja (j:TZ)(top:Nat)(r:TZ):TZ:=Vb (0::r.take (top-1)) (vsc (- co r (top-1)) (j.take top))
def Z3 (j:TZ)(top:Nat):Nat->TZ->T8
 |0,_=>[]
 |m+1,r=>r::Z3 j top m (Ja j top r)
def RT (n:Nat)(j:TZ):T8:=Z3 (Js n j) ((Js n j).length-1) n (YO ((Js n j).length-1) 0)
def ZlR (a:TZ):Bool:=a.all λx=>x == 0
def Jx (n:Nat)(j:TZ):T7:=j.map λp=>n / p.toNat
def Zhh (n:Nat)(R:T8)(k:Nat):TZ:=Vb (aq n 0) (Vb (ro R k) (vsc (-1) (YO n k)))
def Ve (n:Nat)(R:T8)(j s:Nat):Nat->TZ
 |0=>[]
 |m+1=>Vb (Ve n R j s m) (ro R ((j+m*s) % n))
theorem Zci {a:TZ}(h:ZlR a=true)(i:Nat):co a i=0:=by
 by_cases j:i<a.length
 ·have:=Wv j
  have q:=aD.mp h _ (az this);simpa using q
 ·exact WL (by omega)
theorem Zah {a:TZ}(h:small a=true)(i:Nat):(co a i).natAbs<=100:=by
 by_cases j:i<a.length
 ·have:=Wv j
  have q:=aD.mp h _ (az this);simpa using q
 ·rw[WL (by omega)];decide
structure Good (n:Nat)(ps least:TZ)(top:Nat)(R:T8):Prop where
 n1:1<=n
 ls:Vr ([-1,1],1) ps=true
 l2:least.length=top+1
 t1:1<=top
 tn:top<=n
 sm:small least=true
 mon:co least top=1
 len:R.length=n
 rsm:∀i j,(co (ro R i) j).natAbs<=100
 rlen:∀i,i<n->(ro R i).length=top
 un:∀k,k<top->ro R k=YO top k
 tails:∀m,m<n-top->∀j,co (WJ least (R.drop m)) j=0
 look:∀k,k<n->∀t,t<n->X7 n (Jx n ps) (λt=>co (ro R k) t-if t=k then 1 else 0) t=0
 row:∀p∈ps,∀a,a<n->∀j,co (Ve n R a (n / p.toNat) p.toNat) j=0
 nz:∀k,k<n->∃j,j<top/\co (ro R k) j≠0
 div:∀p∈ps,p.toNat*(n / p.toNat)=n
theorem Zph {R:T8}{i:Nat}(h:R.length<=i):ro R i=[]:=by
 unfold ro;rw[Zb,ai h];rfl
def ZpH {β:Type}(x:Int)(k:Int->β):β:=match x with
 | .ofNat m=>(match m with
  |0=>k (.ofNat 0)
  |m+1=>k (.ofNat (m+1)))
 | .negSucc m=>(match m with
  |0=>k (.negSucc 0)
  |m+1=>k (.negSucc (m+1)))
theorem ZlG {β:Type}(x:Int)(k:Int->β):ZpH x k=k x:=by
 cases x with
 |ofNat m=>cases m <;> rfl
 |negSucc m=>cases m <;> rfl
def fL {β:Type}:TZ->(TZ->β)->β
 | [],k=>k []
 |x::j,k=>ZpH x λy=>fL j λq=>k (y::q)
theorem Zdr {β:Type}:∀(a:TZ) (k:TZ->β),fL a k=k a
 | [],k=>rfl
 |x::j,k=>by rw[fL,ZlG,Zdr j]
def nx (j:TZ)(top:Nat):Nat->TZ->TZ
 |0,r=>r
 |m+1,r=>nx j top m (Ja j top r)
def nxB (j:TZ)(top:Nat):Nat->TZ->(TZ->Bool)->Bool
 |0,r,k=>k r
 |m+1,r,k=>fL (Ja j top r) λq=>nxB j top m q k
theorem ZiF (j:TZ)(top:Nat):∀(m:Nat) (r:TZ) (k:TZ->Bool),nxB j top m r k=k (nx j top m r)
 |0,r,k=>rfl
 |m+1,r,k=>by rw[nxB,Zdr,ZiF j top m,nx]
def Zff (j:TZ)(top:Nat):Nat->Nat->TZ->Bool
 |0,_,r=>decide (r=YO top 0)
 |m+1,k,r=>small r && decide (r.length=top) && (decide (top<=k) || decide (r=YO top k)) && fL (Ja j top r) (Zff j top m (k+1))
def Zkb (q:TZ)(top s:Nat):Nat->TZ->TZ->Bool
 |0,_,ZJ=>ZlR ZJ
 |j+1,r,ZJ=>fL (Vb ZJ r) λJ=>nxB q top s r λM=>Zkb q top s j M J
def Zp1 (n:Nat)(q:TZ)(j:TZ)(top:Nat):Bool:=
 decide (2<=j.length) && decide (top+1<=n\/(n=1/\top=1)) && small j && decide (co j top=1) && Zff j top n 0 (YO top 0) && ZlR (WJ j (Z3 j top (top+1) (YO top 0))) &&
  (decide (n=1) || ZlR (ZnQ n (Jx n q) (j++aq (n-(top+1)) 0))) && q.all (λp=>decide (p.toNat*(n / p.toNat)=n) && Zkb j top (n / p.toNat) p.toNat (YO top 0) [])
def chk (n:Nat)(q:TZ):Bool:=Vr ([-1,1],1) q && fL (Js n q) λj=>Zp1 n q j (j.length-1)
theorem UL (j:TZ)(top:Nat):∀(m:Nat) (r:TZ),(Z3 j top m r).length=m
 |0,r=>rfl
 |m+1,r=>by rw[Z3,Zi,UL j top m]
theorem JQ (j:TZ)(top:Nat):∀(m:Nat) (r:TZ),nx j top (m+1) r=Ja j top (nx j top m r)
 |0,r=>rfl
 |m+1,r=>by rw[nx,JQ j top m (Ja j top r),nx]
theorem ZiE (j:TZ)(top a:Nat):∀(b:Nat) (r:TZ),nx j top (a+b) r=nx j top b (nx j top a r)
 |0,r=>rfl
 |b+1,r=>by rw[Nat.add_succ,JQ,JQ,ZiE j top a b r]
theorem Zfi (j:TZ)(top:Nat):∀(m:Nat) (r:TZ) (k:Nat),k<m->ro (Z3 j top m r) k=nx j top k r
 |0,r,k,h=>absurd h (dP _)
 |m+1,r,0,h=>by rw[Z3,ZbC,nx]
 |m+1,r,k+1,h=>by rw[Z3,ZbD,Zfi j top m _ k (fz h),nx]
theorem ZcS (j:TZ)(top:Nat):∀(m k:Nat) (r:TZ),Zff j top m k r=true->
  nx j top m r=YO top 0/\∀i,i<m->small (nx j top i r)=true/\(nx j top i r).length=top/\(k+i<top->nx j top i r=YO top (k+i))
 |0,k,r,h=>⟨of_decide_eq_true h,λi J=>absurd J (dP _)⟩
 |m+1,k,r,h=>by
  rw[Zff,Zdr] at h;simp only[ag,decide_eq_true_eq,bh] at h;obtain⟨⟨⟨M,O⟩,q⟩,Y⟩:=h;obtain⟨g1,g2⟩:=ZcS j top m (k+1) _ Y;refine⟨by rw[nx];exact g1,λi J=>?_⟩;cases i with
  |zero=>
   refine⟨M,O,λz=>?_⟩;rcases q with q|q
   ·omega
   ·exact q
  |succ i=>
   obtain⟨q1,q2,q3⟩:=g2 i (fz J);rw[nx];exact⟨q1,q2,λz=>by rw[q3 (by omega)];congr 1;omega⟩
theorem XF (j:TZ)(top:Nat)(r:TZ)(i:Nat):co (Ja j top r) i=(if i=0\/top<=i then 0 else co r (i-1))-co r (top-1)*co (j.take top) i:=by
 have e:co (0::r.take (top-1)) i=if i=0\/top<=i then 0 else co r (i-1):=by
  cases i with
  |zero=>rw[YG,if_pos (.inl rfl)]
  |succ i=>
   rw[Y2,dI];by_cases h:i<top-1
   ·rw[if_neg (by omega)]
    unfold co;rw[Zb,Zb,gI,if_pos h]
   ·rw[if_pos (by omega)]
    exact WL (by rw[a8];omega)
 unfold Ja;rw[Wu,JT,e,fe];omega
theorem VH (j:TZ)(top:Nat){r:TZ}(h:∀i,co r i=0)(i:Nat):co (Ja j top r) i=0:=by
 rw[XF,h,h,bc];split <;> rfl
theorem Zda (j:TZ)(top:Nat)(i:Nat):∀(Q:T8) (a:TZ),co (Ja j top (WJ a Q)) i=co (WJ a (Q.map (Ja j top))) i
 | [],a=>by
  rw[eF];refine (VH j top (λt=>?_) i).trans ?_
  ·rw[WJ];exact YN t
  ·rw[WJ];exact (YN i).symm
 |q::J,a=>by
  rw[aG,ZW,<-Zda j top i J a.tail,XF,XF,XF,ZW,ZW];by_cases h:i=0\/top<=i
  ·rw[if_pos h,if_pos h,if_pos h,iU,iT,aZ]
   omega
  ·rw[if_neg h,if_neg h,if_neg h,iU,iT,aZ]
   omega
theorem ZcR (j:TZ)(top:Nat):∀(m:Nat) (r:TZ),(Z3 j top m r).map (Ja j top)=Z3 j top m (Ja j top r)
 |0,r=>rfl
 |m+1,r=>by rw[Z3,aG,ZcR j top m,Z3]
theorem Zdi (q:TZ)(top j:Nat):∀(a:TZ) (m:Nat) (r:TZ),a.length<=m->co (WJ a (Z3 q top m r)) j=co (WJ a (Z3 q top a.length r)) j
 | [],m,r,h=>by rw[XB,XB]
 |x::a,0,r,h=>absurd h (Nat.not_succ_le_zero _)
 |x::a,m+1,r,h=>by
  rw[Zi,Z3,Z3,ZW,ZW,c9,Zdi q top j a m _ (Nat.le_of_succ_le_succ h)]
theorem Za0 (j:TZ)(top:Nat):∀(b m:Nat) (r:TZ),(Z3 j top m r).drop b=Z3 j top (m-b) (nx j top b r)
 |0,m,r=>by rw[iL,cB,nx]
 |b+1,0,r=>by rw[Nat.zero_sub,Z3,Z3,List.drop_nil]
 |b+1,m+1,r=>by rw[Z3,mG,Za0 j top b m,nx,Nat.add_sub_add_right]
theorem ZcC (q:TZ)(top:Nat){r:TZ}(h:∀j,co (WJ q (Z3 q top q.length r)) j=0):∀(m j:Nat),co (WJ q (Z3 q top q.length (nx q top m r))) j=0
 |0,j=>h j
 |m+1,j=>by
  rw[JQ,<-ZcR,<-Zda];exact VH q top (λi=>ZcC q top h m i) j
theorem Ze3 (q:TZ)(top s:Nat):∀(j:Nat) (r ZJ:TZ),Zkb q top s j r ZJ=true->∀i,co ZJ i+ZF j (λt=>co (nx q top (t*s) r) i)=0
 |0,r,ZJ,h,i=>by rw[ZF,a5];exact Zci h i
 |j+1,r,ZJ,h,i=>by
  rw[Zkb,Zdr,ZiF] at h;have:=Ze3 q top s j _ _ h i;rw[Wu] at this;rw[ZF,fv,nx];have e:(ZF j λt=>co (nx q top ((t+1)*s) r) i)=ZF j λt=>co (nx q top (t*s) (nx q top s r)) i:=by
   refine ZA _ _ _ λt _=>?_;rw[<-ZiE,cq,lJ]
  rw[e];omega
theorem X3 (n:Nat)(R:T8)(a s i:Nat):∀m:Nat,co (Ve n R a s m) i=ZF m λt=>co (ro R ((a+t*s) % n)) i
 |0=>by rw[Ve,YN];rfl
 |m+1=>by
  have j:∀(m:Nat) (f:Nat->Int),ZF (m+1) f=ZF m f+f m:=by
   intro m;induction m with
   |zero=>intro f;rw[ZF,ZF,ZF];omega
   |succ m q=>
    intro f;rw[ZF,q,ZF];omega
  rw[Ve,Wu,X3 n R a s i m,j]
theorem ZnR (n s:Nat)(j:0<n)(g:Nat->Int)(t:Nat):lk n s (λt=>g ((t+(n-1)) % n)) t=lk n s g ((t+(n-1)) % n):=by
 unfold lk;have e:((t+(n-s)) % n+(n-1)) % n=((t+(n-1)) % n+(n-s)) % n:=by
  rw[dQ,dQ];congr 1;omega
 show g ((t+(n-1)) % n)-g (((t+(n-s)) % n+(n-1)) % n)=_;rw[e]
theorem ZfB (n:Nat)(q:0<n):∀(j:T7) (g:Nat->Int) (t:Nat),X7 n j (λt=>g ((t+(n-1)) % n)) t=X7 n j g ((t+(n-1)) % n)
 | [],g,t=>rfl
 |s::j,g,t=>by
  show X7 n j (lk n s λt=>g ((t+(n-1)) % n)) t=X7 n j (lk n s g) ((t+(n-1)) % n);rw[<-ZfB n q j (lk n s g) t];congr 1;funext u;exact ZnR n s q g u
theorem ZlA {n:Nat}{Y:TZ}(n1:1<=n)(h:chk n Y=true):Good n Y (Js n Y) ((Js n Y).length-1) (RT n Y):=by
 unfold chk at h;rw[ag,Zdr] at h;obtain⟨a1,h⟩:=h;unfold RT;generalize Js n Y=q at h ⊢;generalize M:q.length-1=top at h ⊢;unfold Zp1 at h;simp only[ag,bh,decide_eq_true_eq,aD] at h;obtain⟨⟨⟨⟨⟨⟨⟨h1,h2⟩,h3⟩,h4⟩,h5⟩,h6⟩,h7⟩,h8⟩:=h;have ll:q.length=top+1:=by omega
 obtain⟨n6,rr⟩:=ZcS q top n 0 _ h5;have J:∀k,k<n->ro (Z3 q top n (YO top 0)) k=nx q top k (YO top 0):=λk O=>Zfi q top n _ k O;have tl:∀m j,co (WJ q (Z3 q top q.length (nx q top m (YO top 0)))) j=0:=λm j=>ZcC q top (λj=>by rw[ll];exact Zci h6 j) m j;have t1:1<=top:=by omega
 have tn:top<=n:=by omega
 have u0:∀i,co (YO top 0) i=if i=0 then 1 else 0:=λi=>by
  by_cases hi:i<top
  ·exact Jk hi
  ·rw[WL (by unfold YO;rw[Za,Zg];omega),if_neg (by omega)]
 have o5:∀k,nx q top ((k+1) % n) (YO top 0)=Ja q top (nx q top (k % n) (YO top 0)):=λk=>by
  rw[<-JQ];have O:=bi k (show n > 0 by omega);by_cases hc:k % n+1<n
  ·rw[<-dQ,aT hc]
  ·have e:k % n+1=n:=by omega
   rw[<-dQ,e,iD,n6,nx]
 refine⟨n1,a1,ll,t1,tn,h3,h4,UL ..,λi j=>?_,λi hi=>by rw[J i hi];exact (rr i hi).2.1,λk O=>?_,λm hm j=>?_,?_,λp hp a ha j=>?_,λk O=>?_,λp hp=>(h8 p hp).1⟩
 ·by_cases hi:i<n
  ·rw[J i hi]
   exact Zah (rr i hi).1 j
  ·rw[Zph (by rw[UL];omega),YN];decide
 ·rw[J k (by omega)]
  have:=(rr k (by omega)).2.2 (by omega);rw[this,gE]
 ·rw[Za0,Zdi q top j q _ _ (by omega)]
  exact tl m j
 ·
  have base:∀t,t<n->top+1<=n->X7 n (Jx n Y) (co q) t=0:=λt M h2=>by
   have h7:=h7.resolve_left (by omega);have e:=ZfW (n:=n) (Jx n Y) (q++aq (n-(top+1)) 0) (by rw[Zd,Ze];omega) t M;rw[Zci h7 t] at e;refine Eq.trans (Wi n (by omega) _ _ _ (λs hs=>?_) t M) e.symm;unfold co;rw[Zb,Zb,List.getElem?_append];by_cases n8:s<q.length
   ·rw[if_pos n8]
   ·rw[if_neg n8,ai (by omega),bQ]
    split <;> rfl
  intro k;induction k with
  |zero=>
   intro O t M;refine Eq.trans (Wi n (by omega) _ _ (λ_=>0) (λs hs=>?_) t M) (U4 n _ t);rw[J 0 O,nx,u0];split <;> rfl
  |succ k ih=>
   intro O t M;have o6:top+1<=n:=by omega
   have o7:=ih (by omega);have hl:(nx q top k (YO top 0)).length=top:=(rr k (by omega)).2.1;have e:∀s,s<n->co (ro (Z3 q top n (YO top 0)) (k+1)) s-(if s=k+1 then 1 else 0) =
     (λs=>(λt=>co (ro (Z3 q top n (YO top 0)) k) t-if t=k then 1 else 0) ((s+(n-1)) % n)) s+(- co (nx q top k (YO top 0)) (top-1))*co q s:=λs hs=>by
    rw[J (k+1) O,J k (by omega),JQ,XF];have ct:co (q.take top) s=if s<top then co q s else 0:=by
     by_cases h:s<top
     ·rw[if_pos h]
      unfold co;rw[Zb,Zb,gI,if_pos h]
     ·rw[if_neg h]
      exact WL (by rw[a8];omega)
    rw[ct];show _=co (nx q top k (YO top 0)) ((s+(n-1)) % n)-(if (s+(n-1)) % n=k then 1 else 0)+(- co (nx q top k (YO top 0)) (top-1))*co q s
    cases s with
    |zero=>
     have e0:(0+(n-1)) % n=n-1:=by rw[gE];exact aT (by omega)
     have c1:¬(0=k+1):=by omega
     have c2:¬(n-1=k):=by omega
     have c3:0<top:=t1;rw[e0,if_pos (.inl rfl),if_pos c3,if_neg c1,if_neg c2,WL (a:=nx q top k (YO top 0)) (i:=n-1) (by omega),fe];omega
    |succ s=>
     have e1:(s+1+(n-1)) % n=s:=by
      rw[show s+1+(n-1)=s+n by omega,hU,aT (by omega)]
     rw[e1,dI];have ei:(if s+1=k+1 then (1:Int) else 0)=if s=k then 1 else 0:=by
      by_cases z:s=k
      ·rw[if_pos z,if_pos (by omega)]
      ·rw[if_neg z,if_neg (by omega)]
     rw[ei,fe];by_cases c1:s+1<top
     ·rw[if_neg (by omega),if_pos c1]
      omega
     ·rw[if_pos (.inr (by omega)),if_neg c1,bv]
      by_cases c2:s+1=top
      ·have:co q (s+1)=1:=by rw[c2];exact h4
       rw[this,show top-1=s by omega,f8];omega
      ·rw[WL (a:=q) (by omega),WL (a:=nx q top k (YO top 0)) (i:=s) (by omega),bv]
       omega
   rw[Wi n (by omega) _ _ _ e t M,Zb0 n _ (λs=>(λt=>co (ro (Z3 q top n (YO top 0)) k) t-if t=k then 1 else 0) ((s+(n-1)) % n)) (λs=>(- co (nx q top k (YO top 0)) (top-1))*co q s) t,ZfB n (by omega) _ (λt=>co (ro (Z3 q top n (YO top 0)) k) t-if t=k then 1 else 0) t,ZbZ,base t M o6,
    o7 _ (bi _ (by omega)),bv,a5]
 ·
  rw[X3];have hb:=Ze3 q top (n / p.toNat) p.toNat _ _ (h8 p hp).2;have hd:=(h8 p hp).1;have o8:∀a,a<n->∀i,(ZF p.toNat λt=>co (nx q top ((a+t*(n / p.toNat)) % n) (YO top 0)) i)=0:=by
   intro a;induction a with
   |zero=>
    intro _ i;have:=hb i;rw[YN,ce] at this;rw[<-this];refine ZA _ _ _ λt M=>?_;have:t*(n / p.toNat)<n:=by
     have:t*(n / p.toNat)+(n / p.toNat)<=p.toNat*(n / p.toNat):=by
      rw[<-cq];exact cY _ M
     have p3:0<n / p.toNat:=by
      rcases Nat.eq_zero_or_pos (n / p.toNat) with z|z
      ·rw[z,Nat.mul_zero] at hd;omega
      ·exact z
     omega
    rw[gE,aT this]
   |succ a ih=>
    intro ha i;have n9:=ih (by omega);have e:(ZF p.toNat λt=>co (nx q top ((a+1+t*(n / p.toNat)) % n) (YO top 0)) i)=ZF p.toNat λt=>co (Ja q top (nx q top ((a+t*(n / p.toNat)) % n) (YO top 0))) i:=by
     refine ZA _ _ _ λt _=>?_;rw[show a+1+t*(n / p.toNat)=a+t*(n / p.toNat)+1 by omega,o5]
    have o0:∀(m:Nat) (f g:Nat->Int) (c:Int),ZF m (λt=>f t-g t*c)=ZF m f-ZF m g*c:=by
     intro m;induction m with
     |zero=>intro f g c;simp[ZF]
     |succ m ih=>intro f g c;rw[ZF,ZF,ZF,ih (λt=>f (t+1)) (λt=>g (t+1)) c,iU];omega
    rw[e];simp only[XF];rw[o0 _ (λt=>if i=0\/top<=i then 0 else co (nx q top ((a+t*(n / p.toNat)) % n) (YO top 0)) (i-1)) (λt=>co (nx q top ((a+t*(n / p.toNat)) % n) (YO top 0)) (top-1)),n9 (top-1),bc,lM]
    by_cases hc:i=0\/top<=i
    ·simp only[if_pos hc]
     exact Y1 _ _ λ_ _=>rfl
    ·simp only[if_neg hc]
     exact n9 (i-1)
  rw[<-o8 a ha j];refine ZA _ _ _ λt M=>?_;rw[J _ (bi _ (by omega))]
 ·
  apply aj;intro hz;have z0:∀j,co (nx q top k (YO top 0)) j=0:=λj=>by
   by_cases hj:j<top
   ·apply aj
    intro o9;exact hz ⟨j,hj,by rw[J k O];exact o9⟩
   ·exact WL (by rw[(rr k O).2.1];omega)
  have all:∀d j,co (nx q top (k+d) (YO top 0)) j=0:=by
   intro d;induction d with
   |zero=>exact z0
   |succ d ih=>intro j;rw[<-kN,JQ];exact VH q top ih j
  have:=all (n-k) 0;rw[show k+(n-k)=n by omega,n6,u0,if_pos rfl] at this;cases this
def Vo (n top:Nat)(R:T8)(q:TZ):TZ:=(ac top).map λj=>sig n R j q 0
theorem JB (n top:Nat)(R:T8)(j:TZ):(Vo n top R j).length=top:=by unfold Vo;rw[Za,Zg]
theorem Zcg {n top:Nat}{R:T8}{q:TZ}{j:Nat}(h:j<top):co (Vo n top R q) j=sig n R j q 0:=by
 unfold Vo co;rw[Zb,Zc,ah h];rfl
theorem Zn2 {a b:TZ}(h:a.length=b.length)(e:∀j,j<a.length->co a j=co b j):a=b:=by
 refine a7 λi=>?_;by_cases q:i<a.length
 ·rw[Wv q,Wv (by omega),e i q]
 ·rw[ai (by omega),ai (by omega)]
section
variable {n:Nat}{ps least:TZ}{top:Nat}{R:T8}(G:Good n ps least top R)
include G
theorem Zh8 {cur:TZ}{k:Nat}(q:cur.length=n)(J:k<n)(M:top<=k):(qIn least (k-top) (co cur k) cur).length=n/\(∀j,co (WJ (qIn least (k-top) (co cur k) cur) R) j=co (WJ cur R) j)/\
  co (qIn least (k-top) (co cur k) cur) k=0/\∀t,k<t->co (qIn least (k-top) (co cur k) cur) t=co cur t:=by
 have hb:k-top+least.length<=cur.length:=by rw[G.l2,q];omega
 have O:=G.l2;refine⟨by rw[Zfs,q],λj=>?_,?_,λt Y=>?_⟩
 ·rw[ZfE _ _ _ _ _ _ hb,G.tails (k-top) (by omega) j,bv,lM]
 ·rw[Zen _ _ _ _ _ hb,if_pos ⟨by omega,by omega⟩,show k-(k-top)=top by omega,G.mon,f8,Int.sub_self]
 ·rw[Zen _ _ _ _ _ hb,if_neg (by omega)]
theorem Zks {cur f:TZ}(hl:cur.length=n)(hz:∀t,top<=t->co cur t=0)(hP:∀j,co (WJ cur R) j=co (WJ f R) j)(qs:TZ)(hf:f=Wj n qs):cur.take top=Vo n top R qs:=by
 have q:(cur.take top).length=top:=by rw[a8,hl];have:=G.tn;omega
 refine Zn2 (by rw[q,JB]) λj J=>?_;rw[q] at J;have M:0<n:=G.n1;rw[Zcg J,<-ZaV n M,<-hf,<-hP j,Vs];have O:j<n:=aC J G.tn;rw[Jw _ j _ (by rw[G.len];exact O) λt ht Y=>?_]
 ·rw[G.un j J,Jk J,if_pos rfl,f8]
  unfold co;rw[Zb,Zb,gI,if_pos J]
 ·by_cases h:t<top
  ·rw[G.un t h,Jk J,if_neg (bf Y),bv]
  ·rw[hz t (by omega),bc]
end
theorem V4 (n:Nat):∀(xs:TZ) (k:Nat) (ZJ:TZ),ZJ.length=n->k+xs.length<=n->(∀t,k<=t->co ZJ t=0)->∀t,co (Xi n xs k ZJ) t=if t<k then co ZJ t else co xs (t-k)
 | [],k,ZJ,q,J,j,t=>by
  rw[Xi,YN];split
  ·rfl
  ·exact j t (by omega)
 |x::xs,k,ZJ,q,J,j,t=>by
  rw[Zi] at J;have e:k % n=k:=aT (by omega);rw[Xi,e,j k (Zq _),ce,V4 n xs (k+1) _ (by rw[bg,q]) (by omega) (λs Y=>by rw[Zcf,if_neg (by omega)];exact j s (by omega)) t,Zcf];by_cases O:t=k
  ·subst O
   rw[if_pos (cM _),if_pos ⟨rfl,by omega⟩,if_neg (bw _),cC,YG]
  ·by_cases M:t<k
   ·rw[if_pos (by omega),if_neg (by omega),if_pos M]
   ·rw[if_neg (by omega),if_neg M,show t-k=(t-(k+1))+1 by omega,Y2]
theorem Xj {n:Nat}{xs:TZ}(h:xs.length<=n)(t:Nat):co (Wj n xs) t=co xs t:=by
 unfold Wj;rw[V4 n xs 0 _ (cR ..) (by omega) (λs _=>?_) t,if_neg (dP _),cB];unfold co;rw[Zb,bQ];split <;> rfl
section
variable {n:Nat}{ps least:TZ}{top:Nat}{R:T8}(G:Good n ps least top R)
include G
theorem ZiP (j:TZ)(k:Nat)(O:k<n):X7 n (Jx n ps) (λt=>co (Wj n (Vo n top R j)) t-co (Wj n j) t) k=0:=by
 have q:0<n:=G.n1;have e:∀t,t<n->co (Wj n (Vo n top R j)) t-co (Wj n j) t=co (WJ (Wj n j) ((ac n).map (Zhh n R))) t:=λt M=>by
  rw[Xj (by rw[JB];exact G.tn),Vs,Za,Zg];have e1:co (Vo n top R j) t=ZF n λs=>co (Wj n j) s*co (ro R s) t:=by
   have:=Vs t R (Wj n j);rw[G.len] at this;rw[<-this];by_cases h:t<top
   ·rw[Zcg h,ZaV n q]
   ·rw[WL (by rw[JB];omega),this]
    refine (Y1 _ _ λs J=>?_).symm;rw[WL (a:=ro R s) (by rw[G.rlen s J];omega),bv]
  have e2:co (Wj n j) t=ZF n λs=>co (Wj n j) s*(if t=s then 1 else 0):=by
   rw[Jw n t _ M λs J Y=>by rw[if_neg (bf Y),bv],if_pos rfl,f8]
  rw[e1]
  conv=>lhs;rw[e2]
  rw[<-Uz];refine ZA _ _ _ λs J=>?_;have er:ro ((ac n).map (Zhh n R)) s=Zhh n R s:=by
   unfold ro;rw[Zb,Zc,ah J];rfl
  have z:co (aq n (0:Int)) t=0:=by
   unfold co;rw[Zb,bQ];split <;> rfl
  rw[er];unfold Zhh;rw[Wu,Wu,JT,z,Jk M,<-iT];congr 1;split <;> omega
 rw[Wi n q _ _ _ e k O];refine ZfC n _ k _ _ λr hr=>?_;obtain⟨s,J,rfl⟩:=aE.mp hr;have n6:=af.mp J;rw[<-G.look s n6 k O];refine Wi n q _ _ _ (λt M=>?_) k O;have z:co (aq n (0:Int)) t=0:=by
  unfold co;rw[Zb,bQ];split <;> rfl
 unfold Zhh;rw[Wu,Wu,JT,z,Jk M];omega
end
theorem YC:∀(n:Nat) (f:Nat->Int),ZF (n+1) f=ZF n f+f n
 |0,f=>by rw[ZF,ZF,ZF];omega
 |n+1,f=>by
  rw[ZF,YC n λt=>f (t+1),ZF];omega
theorem Vf:∀(n:Nat) (f g:Nat->Int),ZF n (λt=>f t+g t)=ZF n f+ZF n g
 |0,f,g=>rfl
 |n+1,f,g=>by
  rw[ZF,ZF,ZF,Vf n (λt=>f (t+1)) λt=>g (t+1)];omega
theorem Yv (c:Int):∀(n:Nat) (f:Nat->Int),c*ZF n f=ZF n λt=>c*f t
 |0,f=>bv c
 |n+1,f=>by rw[ZF,ZF,mH,Yv c n λt=>f (t+1)]
theorem W1 (b:Nat):∀(a:Nat) (f:Nat->Nat->Int),ZF a (λi=>ZF b λm=>f m i)=ZF b λm=>ZF a λi=>f m i
 |0,f=>by rw[ZF];exact (Y1 b _ λt _=>rfl).symm
 |a+1,f=>by rw[ZF,W1 b a λm i=>f m (i+1),<-Vf];rfl
def rh (n:Nat)(R:T8)(k j:Nat):Int:=co (ro R (k % n)) j
theorem Zh4 {k q:Nat}(h:k % n=q % n)(j:Nat):rh n R k j=rh n R q j:=by unfold rh;rw[h]
section
variable {m top':Nat}{least':TZ}{R':T8}{ps':TZ}
end
def WQ (f:Nat->Int):T7->Int
 | []=>0
 |h::j=>f h+WQ f j
theorem U2 (c:Int):∀(U:T7),WQ (λ_=>c) U=(U.length:Int)*c
 | []=>by rw[WQ,eY];exact (bc c).symm
 |h::j=>by rw[WQ,U2 c j,Zi];push_cast;rw[iU,fc,Int.add_comm]
section
variable {U:T7}
end
theorem Zdh (g:Nat->Nat)(f:Nat->Int):∀U:T7,WQ f (U.map g)=WQ (λh=>f (g h)) U
 | []=>rfl
 |h::j=>by rw[aG,WQ,WQ,Zdh g f j]
theorem ZgD (f:Nat->Int){U V:T7}(p:U.Perm V):WQ f U=WQ f V:=by
 induction p with
 |nil=>rfl
 |cons x _ j=>rw[WQ,WQ,j]
 |swap x y l=>rw[WQ,WQ,WQ,WQ];omega
 |trans _ _ a b=>rw[a,b]
section
variable {U:T7}
end
theorem Xu:∀(n:Nat) (f:Nat->Int),ZF n f=WQ f (ac n)
 |0,f=>rfl
 |n+1,f=>by
  rw[YC,Xu n f,bR];have app:∀(U V:T7),WQ f (U++V)=WQ f U+WQ f V:=by
   intro U V;induction U with
   |nil=>rw[List.nil_append,WQ,ce]
   |cons x U j=>rw[nM,WQ,WQ,j];omega
  rw[app,WQ,WQ,a5]
theorem Zhr (G:Good n ps least top R){p:Nat}(q:(p:Int)∈ps)(a j:Nat):ZF p (λt=>rh n R (a+t*(n / p)) j)=0:=by
 have h:=G.row _ q (a % n) (bi _ G.n1) j;rw[X3,Zj] at h;rw[<-h];refine ZA _ _ _ λt _=>?_;unfold rh;rw[dQ]
theorem Zgc (n:Nat)(j:0<n)(f:Nat->Int):ZF n (λk=>f ((k+1) % n))=ZF n f:=by
 obtain⟨m,rfl⟩:∃m,n=m+1:=⟨n-1,by omega⟩;rw[YC,iD,ZF,Int.add_comm];congr 1;refine ZA _ _ _ λt q=>?_;rw[aT (by omega)]
theorem ZcE (n:Nat)(j:0<n)(f:Nat->Int):∀c:Nat,ZF n (λk=>f ((k+c) % n))=ZF n f
 |0=>ZA _ _ _ λt q=>by rw[dH,aT q]
 |c+1=>by
  rw[<-ZcE n j f c,<-Zgc n j λk=>f ((k+c) % n)];refine ZA _ _ _ λt _=>?_;rw[dQ,show t+1+c=t+(c+1) by omega]
def phi (n:Nat)(R:T8)(g:Nat->Int)(m j:Nat):Int:=ZF n λk=>g k*rh n R (k+m) j
theorem Znj (q:0<n){s:Nat}(J:s<=n)(g:Nat->Int)(m j:Nat):phi n R (lk n s g) m j=phi n R g m j-phi n R g (m+s) j:=by
 unfold phi;rw[<-ZcE n q (λk=>g k*rh n R (k+(m+s)) j) (n-s),<-Uz];refine ZA _ _ _ λt _=>?_;unfold lk;rw[iS];congr 2;refine Zh4 ?_ j;rw[dQ,show t+(n-s)+(m+s)=t+m+n by omega,hU]
theorem Zc1 (G:Good n ps least top R):∀(q:TZ) (g:Nat->Int),(∀p∈q,p∈ps/\2<=p)->(∀k,k<n->X7 n (Jx n q) g k=0)->∀m j,phi n R g m j=0
 | [],g,_,h,m,j=>by
  unfold phi;refine Y1 _ _ λk M=>?_;have:g k=0:=h k M;rw[this,bc]
 |p::q,g,J,h,m,j=>by
  obtain⟨O,p2⟩:=J p (ar ..);obtain⟨p,rfl⟩:=cG (show 0<=p by omega);have Y:0<n:=G.n1;have hs:n / p<=n:=gu _ _;have z:=Zc1 G q (lk n (n / p) g) (λx hx=>J x (ao _ hx)) h;have st:∀m,phi n R g m j=phi n R g (m+n / p) j:=λm=>by
   have:=z m j;rw[Znj Y hs] at this;omega
  have stN:∀t,phi n R g (m+t*(n / p)) j=phi n R g m j:=λt=>by
   induction t with
   |zero=>rw[fv,dH]
   |succ t ih=>rw[cq,<-kN,<-st,ih]
  have e:ZF p (λt=>phi n R g (m+t*(n / p)) j)=0:=by
   unfold phi;rw[W1];refine Y1 _ _ λk _=>?_;rw[<-Yv];have:=Zhr G O (k+m) j;rw[ZA _ _ _ λt _=>by rw[<-kN],this,bv]
  rw[ZA _ _ _ λt _=>stN t,Xu,U2,Zg] at e;rcases Int.mul_eq_zero.mp e with z|z
  ·omega
  ·exact z
theorem Ze9 (j:Nat):∀(xs:TZ) (k:Nat),sig n R j xs k=ZF xs.length λt=>co xs t*rh n R (k+t) j
 | [],k=>rfl
 |x::xs,k=>by
  rw[sig,Ze9 j xs (k+1),Zi,ZF];congr 1;refine ZA _ _ _ λt _=>?_;rw[Y2,show k+1+t=k+(t+1) by omega]
def Nou (n:Nat)(ps:TZ)(v:Nat->Int):Prop:=∀k,k<n->X7 n (Jx n ps) v k=0
def me (n:Nat)(R:T8)(v:Nat->Int)(j:Nat):Int:=ZF n λk=>v k*rh n R k j
theorem Zju {n:Nat}(v:Nat->Int){t:Nat}(j:t<n):co ((ac n).map v) t=v t:=by
 unfold co;rw[Zb,Zc,ah j];rfl
theorem ZnL (v:Nat->Int)(j:Nat):sig n R j ((ac n).map v) 0=me n R v j:=by
 rw[Ze9,Za,Zg];refine ZA _ _ _ λt q=>?_;rw[Zju v q,gE]
theorem ZnE (G:Good n ps least top R)(O:∀p∈ps,2<=p)(v:Nat->Int):Nou n ps v↔∀j,j<top->me n R v j=0:=by
 constructor
 ·intro h j _
  exact Zc1 G ps v (λp J=>⟨J,O p J⟩) h 0 j
 ·intro h k M
  have L:=ZiP G ((ac n).map v) k M;have z:∀t,co (Vo n top R ((ac n).map v)) t=0:=λt=>by
   by_cases q:t<top
   ·rw[Zcg q,ZnL,h t q]
   ·exact WL (by rw[JB];omega)
  have e:=Wi n (by omega) (Jx n ps) (λt=>co (Wj n (Vo n top R ((ac n).map v))) t-co (Wj n ((ac n).map v)) t) (λt=>(-1)*v t) (λt q=>by
   show co (Wj n (Vo n top R ((ac n).map v))) t-co (Wj n ((ac n).map v)) t=(-1)*v t;rw[Xj (by rw[JB];exact G.tn),z,Xj (by rw[Za,Zg];exact Zq _),Zju v q];omega) k M
  rw[e,ZbZ] at L;omega
theorem ZiO {u v:Nat->Int}(h:∀i,i<n->u i=v i)(j:Nat):me n R u j=me n R v j:=ZA _ _ _ λt q=>by rw[h t q]
theorem Zey (u v:Nat->Int)(c:Int)(j:Nat):me n R (λi=>u i+c*v i) j=me n R u j+c*me n R v j:=by
 unfold me;rw[Yv,<-Vf];refine ZA _ _ _ λt _=>?_;rw[iU,aZ]
theorem ZbT (j:Nat):me n R (λ_=>0) j=0:=Y1 _ _ λt _=>bc _
theorem ZiN (v:Nat->Int)(x:Int){q:Nat}(J:q<n)(j:Nat):me n R (λi=>if i=q then x else v i) j=me n R v j+(x-v q)*rh n R q j:=by
 unfold me;have e:=Jw n q (λt=>if t=q then (x-v q)*rh n R q j else 0) J (λt _ h=>if_neg h)
 rw[if_pos rfl] at e;rw[<-e,<-Vf];refine ZA _ _ _ λt _=>?_;show (if t=q then x else v t)*rh n R t j=_
 by_cases h:t=q
 ·rw[if_pos h,if_pos h,h,iS];omega
 ·rw[if_neg h,if_neg h,a5]
theorem Zle (G:Good n ps least top R){xs:TZ}(O:xs.length<=top){j:Nat}(q:j<top):me n R (co xs) j=co xs j:=by
 have Y:=G.tn;unfold me;rw[Jw n j _ (by omega) (λt M h=>?_)]
 ·unfold rh
  rw[aT (by omega),G.un j q,Jk q,if_pos rfl,f8]
 ·by_cases J:t<top
  ·unfold rh
   rw[aT M,G.un t J,Jk q,if_neg (λz=>h z.symm),bv]
  ·rw[WL (by omega),bc]
def mm (n:Nat)(R:T8)(u v:Nat->Int)(j:Nat):Int:=ZF n λa=>ZF n λb=>u a*v b*rh n R (a+b) j
theorem Zhs {f:Nat->Int}{m n:Nat}(h:m<=n)(hz:∀t,m<=t->t<n->f t=0):ZF n f=ZF m f:=by
 induction n with
 |zero=>rw[show m=0 by omega]
 |succ n j=>
  by_cases q:m=n+1
  ·rw[q]
  ·rw[YC,hz n (by omega) (by omega),a5]
   exact j (by omega) λt a b=>hz t a (by omega)
theorem Zkr (k j:Nat):rh n R (k % n) j=rh n R k j:=Zh4 (Nat.mod_mod _ _) j
def Zdk:TZ->T8->TZ->TZ
 | [],_,ZJ=>ZJ
 |_::_,[],ZJ=>ZJ
 |x::a,r::R,ZJ=>if x=0 then Zdk a R ZJ else Zdk a R (Vb ZJ (vsc x r))
theorem Zch (j:Nat):∀(a:TZ) (R:T8) (ZJ:TZ),co (Zdk a R ZJ) j=co ZJ j+co (WJ a R) j
 | [],R,ZJ=>by rw[Zdk,XB,a5]
 |x::a,[],ZJ=>by rw[Zdk,WJ,YN,a5]
 |x::a,r::R,ZJ=>by
  rw[Zdk,ZW,YG];show co (if x=0 then _ else _) j=co ZJ j+(x*co r j+co (WJ a R) j)
  by_cases h:x=0
  ·rw[if_pos h,Zch j a R ZJ,h];omega
  ·rw[if_neg h,Zch j a R _,Wu,JT];omega
def Zei (R:T8)(d:Nat):T8:=R.drop d++R.take d
theorem Zm1 {n:Nat}{R:T8}(j:R.length=n){d i:Nat}(q:d<n)(J:i<n):ro (Zei R d) i=ro R ((i+d) % n):=by
 unfold ro Zei;rw[Zb,Zb];by_cases h:i<n-d
 ·rw[au (by rw[bH,j];exact h),List.getElem?_drop,aT (by omega),lJ]
 ·rw[av (by rw[bH,j];omega),bH,j,gI,if_pos (by omega)]
  rw[show (i+d) % n=i-(n-d) by rw[show i+d=(i-(n-d))+n by omega,hU,aT (by omega)]]
theorem Zkq {n:Nat}{R:T8}(j:R.length=n){d:Nat}(q:d<=n):(Zei R d).length=n:=by
 unfold Zei;rw[Zd,bH,a8,j];omega
theorem ZeM {n:Nat}{R:T8}(q:R.length=n){d:Nat}(J:d<n)(a:TZ)(j:Nat):co (WJ a (Zei R d)) j=ZF n λi=>co a i*rh n R (i+d) j:=by
 rw[Vs,Zkq q (by omega)];refine ZA _ _ _ λt M=>?_;rw[Zm1 q J M];rfl
theorem ZkF {m:Nat}{π:Nat->Nat}(lt:∀c,c<m->π c<m)(inj:∀a b,a<m->b<m->π a=π b->a=b):((ac m).map π).Perm (ac m):=
 Tb.Zfy (Tb.Zex inj) (λx j=>by
  obtain⟨c,q,rfl⟩:=aE.mp j;exact lt c (af.mp q)) (by rw[Za,Zg])
theorem Ue {m:Nat}{π:Nat->Nat}(lt:∀c,c<m->π c<m)(inj:∀a b,a<m->b<m->π a=π b->a=b)(g:Nat->Int):ZF m (λc=>g (π c))=ZF m g:=by
 rw[Xu,Xu,<-Zdh π g,ZgD g (ZkF lt inj)]
theorem Zjd {n k:Nat}(j:k<n):(n-(n-k) % n) % n=k:=by
 by_cases h:k=0
 ·rw[h,cB,iD,cB,iD]
 ·rw[aT (show n-k<n by omega),show n-(n-k)=k by omega,aT j]
theorem Zka {n:Nat}(f:Nat->Int):ZF n (λk=>f ((n-k) % n))=ZF n f:=by
 refine Ue (λc q=>bi _ (by omega)) (λa b j hb h=>?_) f;rw[<-Zjd j,<-Zjd hb,h]
end Num
set_option maxHeartbeats 4000000
namespace PyZ
open PySem PyProof PyProof.Rows SeqAt
open AutoSeq1 (wpAny_loadPart')
theorem Zhj (l b:Addr)(items j:Array Value)(n n2:Nat)(dd o5:Option Addr)(sl o6:Array (Option Value)){xs ys:TZ}(hx:be items.toList xs)(hy:be j.toList ys) :
  Meets (cK.«tuple.__lt__» ⟨[.ref l,.ref b],[]⟩)
   (λA R s=>s.heap.get? l=some {cls:=.type "tuple",dict:=dd,data:=.seq items n,slots:=sl}/\s.heap.get? b=some {cls:=.type "tuple",dict:=o5,data:=.seq j n2,slots:=o6}/\
    R (.ok (.ret (.bool (JZ xs ys)))) s):=
 .of_wp λn8 w A R s h=>by
  obtain⟨hp,g,d,tk,os⟩:=s;obtain⟨hl,hb,h⟩:=h;have f2:=AutoSeq1.sub_tuple_tuple;have sx:items.size=xs.length:=by rw[<-JF hx,Zr]
  have sy:j.size=ys.length:=by rw[<-JF hy,Zr]
  have hZ:(items.toList.zip j.toList).length=min items.size j.size:=by simp
  wp_walk using wpAny_loadPart' hl,wpAny_loadPart' hb,wpAny_forIn_list _ (λrest b s'=>b.1=none/\s'=⟨hp,g,d,tk,os⟩/\∃i,rest=(items.toList.zip j.toList).drop i/\
   R (.ok (.ret (.bool (Zay (decide (xs.length<ys.length)) (xs.drop i) (ys.drop i))))) ⟨hp,g,d,tk,os⟩) _
  case turn=>
   rintro⟨y,x⟩ rest b s' ⟨M,rfl,i,O,J⟩;have n9:i<(items.toList.zip j.toList).length:=by
    rcases cD i (items.toList.zip j.toList).length with Y|Y
    ·exact Y
    ·rw[List.drop_of_length_le Y] at O;cases O
   have hm:i<min items.size j.size:=hZ▸n9;have h1:i<items.size:=aC hm (gt _ _);have h2:i<j.size:=aC hm (Nat.min_le_right _ _);rw[bV n9] at O;injection O with o0 n6;have o7:y=items[i]:=by have:=congrArg lY o0;simpa using this
   have o8:x=j[i]:=by have:=congrArg Prod.snd o0;simpa using this
   subst o7 o8;obtain⟨a,ta,ex,vx⟩:=XD hx (i:=i) (v:=items[i]) (by simp[h1]);obtain⟨c,tc,ey,vy⟩:=XD hy (i:=i) (v:=j[i]) (by simp[h2]);rw[ZaW ex ey] at J;rw[vx,vy];refine Zl (gc _ _ _ _ n8 w _ _ ?_);by_cases e:a=c
   ·rw[if_pos e] at J
    rw[show (a == c)=true from beq_iff_eq.mpr e]
    wp_walk
    exact⟨rfl,rfl,i+1,n6,J⟩
   ·rw[if_neg e] at J
    rw[show (a == c)=false from beq_eq_false_iff_ne.mpr e];simp only[Bool.not_false,if_true];refine Zl (fo ?_);refine Zl (show wpAny _ _ (compareOp .Lt (.int a ta) (.int c tc)) _ _ _ from lt_int ?_)
    wp_walk
    exact⟨_,rfl,J⟩
  case fin=>
   rintro⟨b1,b2⟩ s' ⟨M,rfl,i,O,J⟩;simp only at M;subst M;have p3:min items.size j.size<=i:=by
    rcases cD i (items.toList.zip j.toList).length with Y|Y
    ·rw[bV Y] at O;cases O
    ·exact hZ▸Y
   rw[U5 (by
    rcases cD i xs.length with q|q
    ·exact .inr (ai (by omega))
    ·exact .inl (ai q))] at J
   wp_walk
   refine⟨_,rfl,?_⟩;rw[sx,sy];exact J
  case h=>
   exact⟨rfl,rfl,0,rfl,h⟩
def ZiR (fin:Bool):T8->T8->Bool
 | [],_=>fin
 |_::_,[]=>fin
 |x::j,y::q=>if x=y then ZiR fin j q else JZ x y
def Vq (xs ys:T8):Bool:=ZiR (decide (xs.length<ys.length)) xs ys
def Xq (h:Heap):List Value->T8->Prop
 | [],[]=>True
 |v::q,x::J=>(∃a j,v=.ref a/\h.IsTuple a j/\be j.toList x)/\Xq h q J
 |_,_=>False
theorem Zlt {us vs:List Value}{xs ys:TZ}(q:be us xs)(j:be vs ys)(h:us=vs):xs=ys:=by
 subst h;induction q generalizing ys with
 |nil=>cases j;rfl
 |cons _ _ _ J=>cases j with|cons _ _ r=>rw[J r]
theorem Zom {xs ys:TZ}:((ac (min xs.length ys.length)).all (λj=>xs.getD j 0 == ys.getD j 0) && xs.length == ys.length)=decide (xs=ys):=by
 by_cases e:xs=ys
 ·subst e
  rw[decide_eq_true rfl,beq_self_eq_true,dS,aD];intro j _;exact beq_self_eq_true _
 ·rw[decide_eq_false e]
  cases q:((ac (min xs.length ys.length)).all (λj=>xs.getD j 0 == ys.getD j 0) && xs.length == ys.length) with
  |false=>rfl
  |true=>
   refine absurd ?_ e;rw[ag,aD] at q;have M:xs.length=ys.length:=eq_of_beq q.2;refine a7 λi=>?_;by_cases J:i<xs.length
   ·have:=eq_of_beq (q.1 i (af.mpr (by omega)))
    rw[Zf J,Zf (by omega)];rw[Zb,Zb,Zf J,Zf (by omega)] at this;exact congrArg some this
   ·rw[ai (by omega),ai (by omega)]
theorem Zg8 {a b:Addr}{us vs:Array Value}{xs ys:TZ}(Y:A.units<cLine)(O:s.heap.IsTuple a us)(hb:s.heap.IsTuple b vs)(J:be us.toList xs)(M:be vs.toList ys):lr A s (.ref a) (.ref b) (decide (xs=ys)):=by
 by_cases e:a=b
 ·subst e
  obtain⟨o,g1,_,n1,d1⟩:=O;obtain⟨o2,k1,_,n2,q⟩:=hb;rw[g1] at k1;cases k1;rw[d1] at q;injection q with q _;subst q;rw[Zlt J M rfl,decide_eq_true rfl];exact EqAt.same _
 ·have sx:us.size=xs.length:=by rw[<-JF J,Zr]
  have sy:vs.size=ys.length:=by rw[<-JF M,Zr]
  have:=RcAt.tuples (A:=A) (s:=s) (e:=λj=>xs.getD j 0 == ys.getD j 0) O hb Y (λj h1 h2=>by
   obtain⟨x,tx,ex,vx⟩:=XD J (i:=j) (v:=us[j]) (by simp[h1]);obtain⟨y,ty,ey,vy⟩:=XD M (i:=j) (v:=vs[j]) (by simp[h2]);rw[vx,vy,Zb,Zb,ex,ey];exact gc _ _ _ _)
  rw[sx,sy,Zom] at this;exact EqAt.of_refs e this
theorem Zlg {a b:Addr}{us vs:Array Value}{xs ys:TZ}{Q:TY}(hu:A.units<cLine)(ha:s.heap.IsTuple a us)(hb:s.heap.IsTuple b vs)(hx:be us.toList xs)(hy:be vs.toList ys)(h:Q (.bool (JZ xs ys)) s):wpAny (model prog w) A (compareOp .Lt (.ref a) (.ref b)) Q E s:=by
 obtain⟨⟨n8,dd,data,sl⟩,Y,hc,n,hd⟩:=id ha;obtain⟨⟨n6,M,data2,O⟩,j,q,n2,J⟩:=id hb;simp only at hc hd q J;subst hc hd q J;exact richCompare_meets_room (op:=.Lt) ⟨_,Y,rfl⟩ ⟨_,j,rfl⟩ F.slot_tuple_lt F.entry_tuple_lt (F.args_tuple_lt_2 _ _) (Zhj a b us vs n n2 dd M sl O hx hy)
  ⟨Y,j,show ip (JZ xs ys)≠Value.notImplemented/\Q (.bool (JZ xs ys)) s from ⟨(λx=>nomatch x),h⟩⟩ hu
theorem ZfI {fin:Bool}{Q:Bool->Shared->Prop}(O:A.units<cLine):∀(M vs:List Value) (xs ys:T8) (i:Nat),Xq s.heap M xs->Xq s.heap vs ys->Q (ZiR fin xs ys) s->W.KatLex prog w A false fin Q (M.zip vs) i s
 | [],vs,xs,ys,i,j,J,q=>by
  cases xs with
  |nil=>exact i7 q
  |cons _ _=>exact j.elim
 |_::_,[],xs,ys,i,j,J,q=>by
  cases ys with
  |cons _ _=>exact J.elim
  |nil=>
   cases xs with
   |nil=>exact i7 q
   |cons x xs=>exact i7 q
 |u::M,v::vs,xs,ys,i,j,J,q=>by
  cases xs with
  |nil=>exact j.elim
  |cons x xs=>
   cases ys with
   |nil=>exact J.elim
   |cons y ys=>
    obtain⟨⟨a,ua,rfl,Y,ia⟩,r1⟩:=j;obtain⟨⟨b,ub,rfl,tb,ib⟩,r2⟩:=J;rw[mN];refine W.kat_cons ?_;refine Zg8 O Y tb ia ib prog w _ _ ?_;rw[ZiR] at q;by_cases e:x=y
    ·rw[if_pos e] at q
     rw[decide_eq_true e];exact W.kat_yes (ZfI O M vs xs ys (i+1) r1 r2 q)
    ·rw[if_neg e] at q
     rw[decide_eq_false e];refine W.kat_no ?_;rw[j9];exact W.kat_one _ _ (Zlg O Y tb ia ib q)
end PyZ
namespace PyZ
open PySem PySem.Spec PyProof.Rows
variable {prog:Program}{w:World}{A:Around}{E:TY}{s:Shared}
theorem V7 {l:Addr}{vs:List Value}{Q:List Value->Shared->Prop}(q:lF s.heap l vs.toArray)(hsz:vs.length<=sizeLine)
  (h:Q vs {s with heap:=(s.heap.push (seqObj "list" #[] 0)).update s.heap.objs.size (bz (· ++ vs.toArray))}):wpAny (model prog w) A (collect (.ref l)) Q E s:=by
 obtain⟨o,J,M,n,hd⟩:=q;have j:(s.heap.push (seqObj "list" #[] 0)).get? l=some o:=Zn _ J;unfold collect;refine Zl (jd (bP entry_proto_collect' ?_));show wpAny _ _ (do again (.builtin "list.__iadd__" ⟨[<-newList [],.ref l],[]⟩)) _ _ s
 refine Zl (gv (Zm ⟨mL _ (by decide +kernel),bP entry_list_iadd' ?_⟩));show wpAny _ _ (b9 (.ref s.heap.objs.size) (.ref l) (.ref s.heap.objs.size)) _ _ {s with heap:=s.heap.push (seqObj "list" #[] 0)};unfold b9;refine Zl (fP (T:="tuple") ⟨o,j,M⟩ ?_);have O:(bW "tuple" == bW "tuple")=true:=by rfl
 rw[if_pos (by rw[O];simp)];refine Zl (m5 j hd ?_);refine Zl (m5 (xs:=#[]) (n:=0) (Zo _ rfl) rfl ?_);rw[if_neg (by simp)];refine Zl (mC (xs:=#[]) (n:=0) (Zo _ rfl) rfl ?_ (aV _) (by show (#[]++vs.toArray).size<=sizeLine+1;simp only[Array.size_append,Zh,eY];omega));refine Zm ?_;show wpAny (model prog w) A (load s.heap.objs.size >>= _) Q E {s with heap:=(s.heap.push (seqObj "list" #[] 0)).update s.heap.objs.size (bz (· ++ vs.toArray))};refine Zl (iO (iY (Zo _ rfl) _) ?_);show wpAny _ _ (pure ((#[]:Array Value)++vs.toArray).toList) Q E _;rw[show ((#[]:Array Value)++vs.toArray).toList=vs by simp];exact Zm h
end PyZ
namespace PyZ
open PySem PyProof PyProof.Rows SeqAt
theorem ZbV (ys:T8):Vq [] ys=decide (0<ys.length):=rfl
theorem Zdf (xs:T8):Vq xs []=false:=by
 cases xs with
 |nil=>rfl
 |cons x xs=>
  show decide ((x::xs).length<([]:T8).length)=false;exact decide_eq_false (by simp)
theorem U0 (x y:TZ)(xs ys:T8):Vq (x::xs) (y::ys)=if x=y then Vq xs ys else JZ x y:=by
 unfold Vq;show (if x=y then ZiR _ xs ys else _)=_
 have e:decide ((x::xs).length<(y::ys).length)=decide (xs.length<ys.length):=by
  simp only[Zi,kL]
 rw[e]
theorem ZfA:∀xs:T8,Vq xs xs=false
 | []=>rfl
 |x::xs=>by rw[U0,if_pos rfl];exact ZfA xs
theorem ZbU:∀{xs ys:T8},Vq xs ys=false->Vq ys xs=false->xs=ys
 | [],[],_,_=>rfl
 | [],_::_,h,_=>by rw[ZbV] at h;simp at h
 |_::_,[],_,h=>by rw[ZbV] at h;simp at h
 |x::xs,y::ys,j,q=>by
  rw[U0] at j q;by_cases e:x=y
  ·rw[if_pos e] at j
   rw[if_pos e.symm] at q;rw[e,ZbU j q]
  ·rw[if_neg e] at j
   rw[if_neg (bf e)] at q;exact absurd (Um j q) e
theorem ZaT:∀{xs ys O:T8},Vq xs ys=true->Vq ys O=true->Vq xs O=true
 |xs,ys,[],_,h=>by rw[Zdf] at h;cases h
 |xs,[],z::O,h,_=>by rw[Zdf] at h;cases h
 | [],y::ys,z::O,_,_=>by rw[ZbV];exact decide_eq_true (by simp)
 |x::xs,y::ys,z::O,J,q=>by
  rw[U0] at J q ⊢;by_cases M:x=y
  ·rw[if_pos M] at J
   by_cases j:y=z
   ·rw[if_pos j] at q
    rw[if_pos (M.trans j)];exact ZaT J q
   ·rw[if_neg j] at q
    rw[if_neg (by rw[M];exact j),M];exact q
  ·rw[if_neg M] at J
   by_cases j:y=z
   ·rw[if_neg (by rw[<-j];exact M),<-j]
    exact J
   ·rw[if_neg j] at q
    have Y:=VJ J q;rw[if_neg (λe=>by rw[e,ZbX] at Y;cases Y)];exact Y
def rkR (yss:X0)(i:Nat):Nat:=(ac yss.length).countP λk=>Vq (yss.getD k []) (yss.getD i [])
theorem Zfj {yss:X0}{i j:Nat}(q:i<yss.length)(O:j<yss.length):Vq (yss.getD i []) (yss.getD j [])=decide (rkR yss i<rkR yss j):=by
 have J:∀{i j:Nat},i<yss.length->Vq (yss.getD i []) (yss.getD j [])=true->rkR yss i<rkR yss j:=λ{i j} q h=>by
  refine VN (λk _ Y=>ZaT Y h) ⟨i,af.mpr q,ZfA _,h⟩
 cases e:Vq (yss.getD i []) (yss.getD j []) with
 |true=>rw[decide_eq_true (J q e)]
 |false=>
  cases M:Vq (yss.getD j []) (yss.getD i []) with
  |true=>
   have:=J O M;rw[decide_eq_false (by omega)]
  |false=>
   have:=ZbU e M;unfold rkR;rw[this];exact (decide_eq_false (by omega)).symm
theorem Zec {yss:X0}(M:1<=yss.length):∃p,XT yss.length (λi j=>Vq (yss.getD i []) (yss.getD j [])) (f7 yss.length)=some p/\p.toList.Perm (ac yss.length)/\(p.toList.map λi=>yss.getD i []).Pairwise λa b=>Vq b a=false:=by
 obtain⟨p,e,q,J⟩:=Ze6 M (rkR yss);refine⟨p,(XS (λi j O Y=>Zfj O Y) _).trans e,q,?_⟩;rw[fh] at J ⊢;refine cN (λ{a b} ha hb n6=>?_) J;have la:=af.mp (q.mem_iff.mp ha);have lb:=af.mp (q.mem_iff.mp hb);rw[Zfj lb la];exact decide_eq_false (by omega)
theorem Xq.len {h:Heap}:∀{us:List Value}{xs:T8},Xq h us xs->us.length=xs.length
 | [],[],_=>rfl
 | [],_::_,h=>h.elim
 |_::_,[],h=>h.elim
 |_::_,_::_,h=>by rw[Zi,Zi,h.2.len]
theorem Zdm {h:Heap}:∀(as:TW) (yss:X0),as.length=yss.length->(∀(i:Nat) a,as[i]?=some a->∃(j:List Value) (ys:T8),yss[i]?=some ys/\h.IsTuple a j.toArray/\Xq h j ys/\ys≠[])->
  ∃fs:List Value,W.KatTups h (as.map ax) fs/\fs.length=as.length/\∀v∈fs,∃a j,v=ax a/\h.IsTuple a j
 | [],[],_,_=>⟨[],mJ,rfl,λv q=>by cases q⟩
 | [],_::_,h,_=>by cases h
 |_::_,[],h,_=>by cases h
 |a::as,ys::yss,M,g=>by
  obtain⟨j,O,e,⟨o,Y,c,n,d⟩,J,ne⟩:=g 0 a rfl;cases e;obtain⟨fs,k,l,f⟩:=Zdm as yss (cF M) λi a' hi=>g (i+1) a' hi
  match j,ys,J,ne with
  |_,[],_,ne=>exact absurd rfl ne
  | [],_::_,J,_=>exact J.elim
  |u::j,y::ys,J,_=>
   obtain⟨⟨b,ub,rfl,tb,_⟩,_⟩:=J;refine⟨ax b::fs,mw Y c d (by simp) k,by rw[Zi,Zi,l],λv q=>?_⟩;rcases aF.mp q with rfl|q
   ·exact⟨b,ub,rfl,tb⟩
   ·exact f v q
theorem Zdz {l:Addr}{vs:List Value}{Q:List Value->Shared->Prop}(j:s.heap.IsList l vs.toArray\/lF s.heap l vs.toArray)(hsz:vs.length<=sizeLine)
  (h:Q vs {s with heap:=(s.heap.push (seqObj "list" #[] 0)).update s.heap.objs.size (bz (· ++ vs.toArray))}):wpAny (model prog w) A (collect (.ref l)) Q E s:=j.elim (λj=>collect_list j h hsz) λj=>V7 j hsz h
theorem Zgd {l:Addr}{vs:List Value}{Q:TY}(J:s.heap.IsList l vs.toArray\/lF s.heap l vs.toArray)(M:vs.length<2)(h:Q (.ref (s.heap.objs.size+1)) {s with heap:=sortedAll s.heap vs vs.toArray}):wpAny (model prog w) A (call (.builtin "sorted") [.ref l]) Q E s:=by
 have O:sizeLine=16777216:=by decide
 refine e7 kA j3 j4 (j5 _) ?_;unfold cK.«sorted»;refine Zl (m:=checkCount "sorted" 1 1 _) (Zm (Zl (Zdz J (by omega) (Zl (gv ?_ (by omega))))));have j:((s.heap.push (seqObj "list" #[] 0)).update s.heap.objs.size (bz (· ++ vs.toArray))).objs.size=s.heap.objs.size+1:=by rw[fJ,lD]
 show wpAny _ _ _ _ _ {s with heap:=((s.heap.push (seqObj "list" #[] 0)).update s.heap.objs.size (bz (· ++ vs.toArray))).push (seqObj "list" vs.toArray 0)};rw[j];have q:(((s.heap.push (seqObj "list" #[] 0)).update s.heap.objs.size (bz (· ++ vs.toArray))).push (seqObj "list" vs.toArray 0)).get? (s.heap.objs.size+1)=some (seqObj "list" vs.toArray 0):=j▸Zo _ rfl;refine Zl (cf (bq ji ⟨_,q,rfl⟩ iZ (UI q M ⟨_,rfl,Zm ⟨_,rfl,h⟩⟩) (jj _)))
theorem Zkd {h₀:Heap}{L:Addr}{m:TX}{news:List (Addr×Obj)}{l:Addr}{vs:List Value}{Q:TY}(F:Fr h₀ L s.heap m)(N:News h₀ L s.heap news)(j:s.heap.IsList l vs.toArray\/lF s.heap l vs.toArray)(h2:2<=vs.length)(J:vs.length<64)
  (h:∀D O h',Fr h₀ L h' m->News h₀ L h' ((D,seqObj "list" #[] O)::news)->(∀q∈news,q.1<D)->
   wpAny (model prog w) A.in1.in1 (keyKind' vs.toArray) (λκ s'=>(f7 vs.length).kasWp (lQ prog w A.in1.in1 κ vs) (λp M=>W.KasFin h₀ L m D O (p.toList.map λi=>vs.getD i a6) (λs3=>Q (.ref D) s3) M) s') (λ_ _=>False) {s with heap:=h'}):wpAny (model prog w) A (call (.builtin "sorted") [.ref l]) Q E s:=by
 rcases j with j|j
 ·exact mr F N j h2 J h
 have sl:sizeLine=16777216:=by decide
 refine e7 kA j3 j4 (j5 _) ?_;unfold cK.«sorted»;refine Zl (m:=checkCount "sorted" 1 1 _) (Zm (Zl (V7 j (by omega) (Zl (gv ?_ (by omega))))));have Y:((s.heap.push (seqObj "list" #[] 0)).update s.heap.objs.size (bz (· ++ vs.toArray))).objs.size=s.heap.objs.size+1:=by rw[fJ,lD]
 have keep:∀b o,s.heap.get? b=some o->(((s.heap.push (seqObj "list" #[] 0)).update s.heap.objs.size (bz (· ++ vs.toArray))).push (seqObj "list" vs.toArray 0)).get? b=some o:=λb o q=>by
  have hb:=Zp q;rw[gS _ _ _ (Y▸ay (cr hb)),Heap.get?_update_ne _ _ _ _ (ay hb),gS _ _ _ (ay hb),q]
 show wpAny _ _ _ _ _ {s with heap:=((s.heap.push (seqObj "list" #[] 0)).update s.heap.objs.size (bz (· ++ vs.toArray))).push (seqObj "list" vs.toArray 0)};rw[Y];have ho:(((s.heap.push (seqObj "list" #[] 0)).update s.heap.objs.size (bz (· ++ vs.toArray))).push (seqObj "list" vs.toArray 0)).get? (s.heap.objs.size+1)=some (seqObj "list" vs.toArray 0):=Y▸Zo _ rfl;have hL:=cr F.ns.lt;generalize ((s.heap.push (seqObj "list" #[] 0)).update s.heap.objs.size (bz (· ++ vs.toArray))).push (seqObj "list" vs.toArray 0)=hh at ho keep ⊢;refine Zl (cf (bq ji ⟨_,ho,rfl⟩ iZ (W.kat_list_sort (s:={s with heap:=hh}) (F.kept keep) (N.grown keep) ho (bu hL) (lU (aW F.above (cL hL))) (λp hp=>ay (cr (Zp (N p hp).1))) h2 J λO h' F' N'=>?_) (jj _)));refine cw (h _ O h' F' N' λq hq=>cr (Zp (N q hq).1)) (λκ s' hk=>?_) λ_ _ x=>x;rw[W.kat_ask_eq rfl] at hk ⊢;exact W.kas_wp_mono hk λp M n6=>n6.mono λs3 hq=>⟨_,rfl,Zm ⟨_,rfl,hq⟩⟩
theorem Zbt {l L:Addr}{m:TX}{as:TW}{yss:X0}{p:Array Nat}{Q:TY}(hu:A.units+2<cLine)(o5:s.heap.Ns L m)(hl:s.heap.IsList l (as.map ax).toArray\/lF s.heap l (as.map ax).toArray)(n2:2<=as.length)(o6:as.length<64)(hy:as.length=yss.length)
  (ht:∀h':Heap,(∀b o,b≠L->s.heap.get? b=some o->h'.get? b=some o)->∀(i:Nat) a,as[i]?=some a->∃(us:List Value) (ys:T8),yss[i]?=some ys/\h'.IsTuple a us.toArray/\Xq h' us ys/\ys≠[])
  (hp:XT as.length (λi j=>Vq (yss.getD i []) (yss.getD j [])) (f7 as.length)=some p)
  (q:∀D c h',s.heap.get? D=none->D≠L->(∀b o,b≠L->s.heap.get? b=some o->h'.get? b=some o)->h'.Ns L m->h'.get? D=some (mU (p.toList.map λi=>(as.map ax).getD i a6).toArray c)->Q (.ref D) {s with heap:=h'}) :
  wpAny (model prog w) A (call (.builtin "sorted") [.ref l]) Q E s:=by
 have fr:Fr (ZaB s.heap L) L s.heap m:=by
  refine⟨o5,λb o e=>?_,?_⟩
  ·by_cases hb:b<L
   ·rw[YT hb] at e;exact e
   ·rw[W2 (fU hb)] at e
    cases e
  ·show (s.heap.objs.extract 0 L).size<=L
   rw[gF,cB];exact gt ..
 have nw:News (ZaB s.heap L) L s.heap (Yk s.heap L):=λx hx=>by
  obtain⟨J,h2⟩:=Yp.mp hx;exact⟨h2,bu J,W2 (cL J)⟩
 have lv:(as.map ax).length=as.length:=gh ..;refine Zkd fr nw hl (by rw[lv];exact n2) (by rw[lv];exact o6) λD e1 h' n8 M big=>?_;have kept:∀b o,b≠L->s.heap.get? b=some o->h'.get? b=some o:=λb o hb e=>by
  rcases cD b L with J|J
  ·exact n8.keep b o (by rw[YT J];exact e)
  ·exact (M (b,o) (ao _ (Yp.mpr ⟨bD J (bf hb),e⟩))).1
 have dn:s.heap.get? D=none:=by
  cases e:s.heap.get? D with
  |none=>rfl
  |some o=>
   obtain⟨_,dL,dc⟩:=M _ (ar ..);rcases cD D L with J|J
   ·rw[YT J] at dc
    rw[dc] at e;cases e
   ·exact absurd (big (D,o) (Yp.mpr ⟨bD J (bf dL),e⟩)) (bw _)
 have dL:D≠L:=(M _ (ar ..)).2.1;have n6:=ht h' kept;obtain⟨fs,kt,fl,fi⟩:=Zdm as yss hy n6;refine W.kat_kind (T:=bW "tuple") kt (by omega) (λv hv=>?_) (by decide +kernel) ?_
 ·obtain⟨a,us,rfl,⟨o,g1,g2,_⟩⟩:=fi v hv
  intro A Q E s' hk q;refine fP (T:="tuple") ⟨o,hk _ _ g1,g2⟩ q
 ·rw[lv]
  have kb:(bW "tuple" != bW "tuple")=false:=by decide +kernel
  rw[kb];refine XC (cmp:=λi j=>Vq (yss.getD i []) (yss.getD j [])) (λi j C hi hj c=>?_) _ p _ hp ?_
  ·unfold lQ
   obtain⟨us,ys,e,⟨o,g1,g2,n1,g3⟩,ia,_⟩:=n6 i as[i] (Zf hi);obtain⟨o7,n9,e2,⟨o2,k1,k2,o9,k3⟩,o0,_⟩:=n6 j as[j] (Zf hj);have v1:(as.map ax).getD i a6=.ref as[i]:=by
    rw[Zb,Zc,Zf hi];rfl
   have v2:(as.map ax).getD j a6=.ref as[j]:=by
    rw[Zb,Zc,Zf hj];rfl
   have w1:yss.getD i []=ys:=by rw[Zb,e];rfl
   have w2:yss.getD j []=n9:=by rw[Zb,e2];rfl
   rw[v1,v2];refine W.kat_lt g1 g3 k1 k3 ?_;refine ZfI (by show A.units+1+1<cLine;omega) us o7 ys n9 0 ia o0 ?_;rw[w1,w2] at c;unfold Vq at c;rw[Zh,Zh,ia.len,o0.len];exact c
  ·refine⟨_,_,n8,M,kP (λx hx=>ay (big x hx)),λo8 c O Y=>?_⟩
   refine q D c o8 dn dL (λb o hb e=>?_) O.ns (Y _ (ar ..)).1;rcases cD b L with J|J
   ·exact O.keep b o (by rw[YT J];exact e)
   ·exact (Y (b,o) (ao _ (Yp.mpr ⟨bD J (bf hb),e⟩))).1
end PyZ
namespace L2
open PySem PySem.Spec PyProof.Rows
def RowT (H:Hp)(a:Addr)(ys:T8):Prop:=∃cs:TW,H a=some (.tup (cs.map V.ref))/\cs.length=ys.length/\∀(i:Nat) c,cs[i]?=some c->∃y,ys[i]?=some y/\H c=some (.tup (y.map V.int))
inductive Zic (xs:TV) (H:Hp) (Q:VK):Prop
 |mk (l:Addr) (as:TW) (yss:X0):(xs=[.ref l])->((H l=some (.lst (as.map V.ref))\/H l=some (.tup (as.map V.ref))))->(as.length=yss.length)->(as.length<64)->((∀(i:Nat) a,as[i]?=some a->∃ys,yss[i]?=some ys/\ys≠[]/\RowT H a ys))->(∀D js,H D=none->bM js (ac as.length)->(js.map λi=>yss.getD i []).Pairwise (λa b=>PyZ.Vq b a=false)->Q (.ref D) (upd H D (.lst ((js.map λi=>as.getD i 0).map V.ref))))->Zic xs H Q
theorem ZaL (I:Inv X pins σ H s){h':Heap}(kept:∀b o,b≠X.env.locals->s.heap.get? b=some o->h'.get? b=some o):∀(cs:TW) (ys:T8),cs.length=ys.length->(∀(i:Nat) c,cs[i]?=some c->∃y,ys[i]?=some y/\H c=some (.tup (y.map V.int)))->PyZ.Xq h' (cs.map ax) ys
 | [],[],_,_=>trivial
 | [],_::_,h,_=>by cases h
 |_::_,[],h,_=>by cases h
 |c::cs,y::ys,J,g=>by
  obtain⟨y',e,j⟩:=g 0 c rfl;cases e;obtain⟨us,M,⟨o,O,g2⟩,_⟩:=I.tuple (.of j);have q:c≠X.env.locals:=λz=>by rw[z,I.free] at j;cases j
  exact⟨⟨c,us.toArray,rfl,⟨o,kept c o q O,g2⟩,by simpa using JN M⟩,ZaL I kept cs ys (cF J) λi Y hi=>g (i+1) Y hi⟩
theorem Zap (hu:X.A.units+64<cLine):YA X (.builtin "sorted") Zic:=by
 intro pins s σ H xs us Q I r h;obtain⟨l,j,J,rfl,hl,hy,o0,ht,q⟩:=h;obtain⟨u,rfl,ru⟩:=r.one;cases ru;obtain⟨m,hm,o5⟩:=id I.loc;have n6:s.heap.IsList l (j.map ax).toArray\/lF s.heap l (j.map ax).toArray:=hl.elim (λhl=>.inl <| by
   obtain⟨n8,M,pl,_⟩:=I.list (.of hl);rw[W0 M] at pl;exact pl.isList) λhl=>.inr <| by
   obtain⟨n8,M,pl,_⟩:=I.tuple (.of hl);rw[W0 M] at pl;exact pl
 have JL:=JL;have o6:∀{a:Addr}{o:HO},H a=some o->a≠X.env.locals:=λ{a o} e z=>by rw[z,I.free] at e;cases e
 by_cases n2:j.length<2
 ·refine PyZ.Zgd n6 (by rw[Za];exact n2) ?_
  obtain⟨e1,he⟩:=sortedAll_at s.heap (j.map ax) (j.map ax).toArray;have n9:∀b o,s.heap.get? b=some o->(sortedAll s.heap (j.map ax) (j.map ax).toArray).get? b=some o:=λb o e=>sortedAll_old e;generalize sortedAll s.heap (j.map ax) (j.map ax).toArray=h' at he n9 ⊢;have Y:s.heap.objs.size<=s.heap.objs.size+1:=g9 _;generalize s.heap.objs.size+1=D at he Y ⊢;have em:=Zfu n2;have o7:=Ziq n2 (λi=>J.getD i []) λa b=>PyZ.Vq b a=false;have fin:=q D (ac j.length) (I.hok.fresh Y) (cZ _) o7;rw[em] at fin;have I':Inv X pins σ (upd H D (.lst (j.map V.ref))) {s with heap:=h',toks:=s.toks}:=I.laid (a:=D) (o:=.lst (j.map V.ref)) (t':=s.toks) n9 Y ⟨by rw[Za];omega,j.map ax,e1,JA j,he⟩;exact⟨.ref D,_,I',rfl,fin⟩
 ·obtain⟨p,hp,O,o8⟩:=PyZ.Zec (yss:=J) (by omega)
  rw[<-hy] at hp O;have o9:∀i∈p.toList,i<j.length:=λi hi=>af.mp (O.mem_iff.mp hi);have pl:p.toList.length=j.length:=by rw[O.length_eq,Zg]
  have es:(p.toList.map λi=>(j.map ax).getD i a6)=(p.toList.map λi=>j.getD i 0).map ax:=by
   rw[aK];refine aX λi hi=>?_;have:=o9 i hi;show (j.map ax).getD i a6=ax (j.getD i 0);rw[Zb,Zc,Zf this,Zb,Zf this];rfl
  refine PyZ.Zbt (yss:=J) (p:=p) (by omega) hm n6 (by omega) o0 hy (λh' kept i a hi=>?_) hp (λD c h' dn dL kept p3 hD=>?_)
  ·obtain⟨ys,e1,ne,cs,ha,cl,hc⟩:=ht i a hi
   obtain⟨us,M,⟨o,g1,g2⟩,_⟩:=I.tuple (.of ha);have eu:=W0 M;subst eu;exact⟨_,ys,e1,⟨o,kept a o (o6 ha) g1,g2⟩,ZaL I kept cs ys cl hc,ne⟩
  ·rw[es] at hD
   obtain⟨I',hH⟩:=I.newL (ys:=(p.toList.map λi=>j.getD i 0).map V.ref) hm o5 dn dL kept p3 (by rw[Za,Za];omega) (JA _) hD;exact⟨.ref D,_,I',rfl,q D _ hH O o8⟩
end L2
namespace Pm
open Tb
structure Dx where
 top:Nat
 R:T8
 X:X0
def Zrr (top k m:Nat)(r:TZ):Dx:=⟨top,(ac top).map (Num.YO top)++rwL top k r,(rwL (m*top) m (r.drop (k*top))).map (rwL top m)⟩
def Zrq (x:Nat):Dx:=match ZgT 3 x with
 | [top,n,m]=>Zrr top (n-top) m (dgZ ((n-top+m*m)*top) (x / 262144))
 |_=>⟨0,[],[]⟩
noncomputable def dxC:List Dx:=[
 0x207e08208a08608608608607e085f85f8207e17c3182,
 0x207a08208208208a08608608608608608607e07e08608608607e08607e08608608607e07e085f8207c5102,
 0x2086086086085f8207e18208618207df8208607e08607e085f8207c4102,
 0x2082086082086082086082086082085f7df7e182082086082082182082086082182086082182081f7df7e082086086081f7df7e082182182082082086182082082181f7df7e086082082085f7df7c5144,
 0x8618617df8617e17e185f7e17c4081,
 0x1f8608217e07e08208208208a17e07df8608208208208208a08208608208608208608208608208608208608207e082085f85f85f8208207e082081f8208207e17e17c4284,
 0x207a08208208208a08608608608608608607e07e08608608607e08607e08608608607e07e085f8207c5102,
 0x208207e08207e08208208208a08208208208a08208608207e08208208207a08208208208a08207e08208618208208207df8208208208608208608208608208608208608208608208608208608208608207e08208608207e08208608207e082085f8208208207e182082082085f8218207e085f8208207e082081f8208207e181f8208607c6304,
 0x1f8217e08207e081f82181f8608208608217e08208208208208208208208208208208208208208208208208208e181f8608208608217df8217e08207e081f8208208208208208208208208208208208208208208208208208208e082082082082082086082082082082082086082082082082082086082082082082082086082082082082082086082082082082082086082082082082082086082081f8208208207e082082182082082082082082082082082086082082082082082086082082082082082086082082182082082082082081f8208208207e082082082082082085f8607e181f8217e085f8217e085f7e181f85f8208208207e08208207e082082081f82082081f8208208207e08208207e082082081f82082081f8208208207e17e085f7e181f8607e181f8607e085f8217c554c,
 0x841041,
 0x2086086085f7e182086181f7e085f7c30c2,
 0x8617e17c2081,
 0x2086086086086086085f8217e085f8217e085f85f8207e17e18208617df8208617df8208618217e07df81f8608607e08607e08607e085f85f8207e17c6182,
 0x208208208207e08208208208208208208208208208208208208208208209208208208208608218208208208208208207e081f8208208208208208208608208208208608208208208608208208208608208208208608208208208608208208208608208208207e08208208208608208208207e082082082086082082082086081f8208208208208208207e082182082082082082082085f82181f8218207e08607e085f8208208208207e082082082081f8208208208207e082082082081f8208208208207e082082082081f8208208208207e181f82181f8208607e08607c5508,
 0x207a07e08208608208a08a07e08207e08208a08608608608608608607e08607e07e08608608608607e08607e08607e08608607e07e085f85f8207e17c6182,
 0x2086086086086086086086086085f7df7df7e182182182086086086182182181f7df7df7e086086085f7e182085f7e182085f7e182086182085f7e085f7e181f7e182086085f7e182182085f7df7e182086181f7e086181f7e086181f7e086086181f7df7e086182181f7e085f7e086182086181f7e181f7e085f7c90c2,
 0x2085f82081f8208608217e17e07e08208208208208208a17e17e07e085f82081f82086082082082082082082089f8208608217e17e07e085f8208208208208208208208a08208208608208208608208208608208208608208208608208208608208208608208208608208207e082082085f85f85f85f8208208207e082082081f8208208207e082082081f8208208207e17e17e17c5386,
 0x208208208208a08207a08208208208208208208208a18218208207a082082082081f81f82082082082089f81f8208207a08208208208218218208208208208a08208608208608208608208608208608208608208608207e08208608208608207e08207e08208608208608208608208608208608207e08208608207e08208608207e08208608208608208608207e08207e082085f8208207e082081f8208207c7204,
 0x208208a08208208207a08208208208208208208208a082079f82182082082082082181f8208208208208a08207a181f82082082082081f8218208208208208a08208608208608208608208608208608208608208608208608207e08208608207e08207e08208608208608208608208608208608207e08208608207e08208608208608207e08208608208608207e08207e082085f8208207e082081f8208207c7204,
 0x208208a08208208207a08208208208208208208208a082079f82182082082082082181f8208208208208a08207a181f82082082082081f8218208208208208a08208608208608208608208608208608208608208608208608207e08208608207e08207e08208608208608208608208608208608207e08208608207e08208608208608207e08208608208608207e08207e082085f8208207e082081f8208207c7204,
 0x2082082086082082086082082086082082086082082086082082086082082085f7df7df7e182082082086082082082182082082086082082082182082082086082086082086082081f7df7df7e082082182082182082182082082082082086182082082082182082082082181f7df7df7e086082082082086082082082086082182081f7df7df7e082086082182082082082082182086082082082082086086082082082082182182082082082086081f7df7df7e082182082082082086082082182082086082082182082086082082182082081f7df7df7e082082085f7df7df7c71c6,
 0x2086086086086086086086085f81f8207e07e18218208608618218207e07df81f8208608607e07e08608607e07e08608607e08607e08607e08607e086181f8208607df8218207e085f8218208607e181f8207e08608607e07e08608607e07e085f8207c8102,
 0x2082086082086082086082086082086082086082086082085f8208207e082081f8208207e18208208608208218208208607e08208207e08608208208607e08208207e086082082086081f82086081f8208208207e08218207e08218208208208608218208608218208208207e081f8207e081f8208208208608608208207e07e08208208608608208207e07e08208208618208207e08208218208207df82082086082081f8208208608207e08208608207e08208608207e08208608207e082085f8208207e082081f8208207c8204,
 0x207a08208207a08208208208208208208a08208208208208208208208208a08a08208207a08208208208208208207a08208208208208208208208208a08208608208608208608208608208608208608208608208608208608208608207e08208607e08207e08208207e08207e08608208608208208608208608207e08208608608208608208207e08207e07e08207e08208208608208608208608208608207e08207e08208608208608207e08207e08208608208608208608208608207e08208608207e08208608207e08208608207e08208608207e08208608608207e08208208608207e07e08208608208207e08208608207e08208607e08208608208208608207e08608207e08208207e08208608208608208608208608207e08207e08208608208608207e08207e082085f8208207e082081f8208207ca204,
 0x207e08618208208207e18207df81f86082082082082082082082089f8608208208208207e07e08618218207df8208208208208208208a18207df8208208207df8608208207e08618208208208208208208a08208207e08208208a08208207e08208207e08208208208208208a08208208608208208608208208608208208608208208608208208608208208608208208608208208608208208608208207e082082085f8208608207e082182081f82085f8208208207e082082081f8208208207e082082081f8208208207e18207e082086081f8208218207c6486,
 0x2082082086082082086082082086082082086082082086082082086082082086082082086082082085f8207e08207e081f82081f8207e182082082086082082082182082082086082082082182082082086082082182082086082082182082086082082182082082081f8207e07e081f81f8207e082082082086082086082086082082081f8207df8207e08208208218208218208218208208207e081f82082082086081f8207e082182082082082086081f8207e082182082082082086081f8207e082182082082082086182082082082082182081f8207e08208608207e081f82082182081f8207e082086082082082082086082182082081f8207e082082086082182082081f8207e082082086082182082081f8207e08208208607e081f82182082082082182082082082181f8207e082081f8207e086082082082086082082082086086082081f8207e08208218208207e081f82082086082081f8207e082082182182082082082082085f8207e08207e081f82081f8207c9246,
 0x207a07a08208208208208208a08208a08a07a08208208208208207a08208a08608608608608608608608608608608608607e07e07e07e08608608608607e08618207df8208618207df8208607e085f8208618207e18207df8208607e085f8207e182085f8207e18208607e086182085f8207df8207e18208608608607e08607e08607e08607e08608608608607e08607e07e08607e085f8207ca102,
 0x207e08208208e085f8217e08608617df82086086086086085f85f8207e17c4182,
 0x208208208208a08207e08208208208a08207e08207e08208208208608208e08208608208608208608208608208608207e08208608208608207e08208608208608207e08208208207e08208df8218207e085f8208207e082081f8208207e181f8208607c5304,
 0x208207e08208208208208208e08208208208208208e08208608208608208608208608208608208608208608208208607e07e08208207a08608207e08608208a08208207e08208607e08207a07e08608608208208a08208607e08208607e08208608607e07e08208208608208208208608208608207a08207e08207e08208a08208608607e07e08208208607e08208607e082085f8218207e085f8208207e082081f8208207e181f8208607c7304,
 0x2182081f7e085f8208218608208208208207e08208208208208208208208df82082186082182081f7e08608208208207e08208208208208208208208e08208208207e08208208207e08208208208208208208208608208208209208208208208608208208208608208208208608208208208608208208208608208208208208208208208208208208208608208208207e082082082095f7e08618607e181f7e082185f8208208608207e082082182081f82082085f7e08218607e181f7df82185f8208208208207e082082082081f8208208208207e082082082081f8208208208207e082082082081f8208208208207e18607df7e085f82186081f7e18208207e082086082081f8208218208207e186081f7e085f82186181f7c5788].map Zrq
def dx0:Dx:=⟨0,[],[]⟩
def at3 (M:X0)(s c:Nat):TZ:=(M.getD s []).getD c []
end Pm
namespace C46
open PySem L2 PySem.Spec PyProof.Rows
open Tb Pm
noncomputable def tq (i:Nat):Stmt:=fM.main.body.getD i (.Pass ⟨0,0,0,0⟩)
noncomputable abbrev Zmj:Stmt:=tq 31
noncomputable abbrev ZhW:Stmt:=tq 32
structure BlB (mg:TX):Prop where
 list:mg "list"=none
 len:mg "len"=none
 range:mg "range"=none
 tuple:mg "tuple"=none
 sorted:mg "sorted"=none
theorem neC {X:Cx}(K:aa)(j:X.A.units+64<cLine)(q:X.K=K:=by rfl):VC X (compareOp .NotEq) (_root_.L2.I_op_neD K):=q▸Znp j
def fdK (q:Addr)(a l:Int):List (YL×V):=[(.inr "cells",.ref q),(.inr "at",.int a),(.inr "left",.int l)]
def WM (H:Hp)(p q:Addr)(b:Nat):Prop:=∃(j:TZ) (a l:Int),H p=some (.dK (fdK q a l))/\H q=some (.lst (j.map V.int))/\j.length<=63/\0<=l/\0<=a/\a<=b
theorem WM.mono {H j:Hp}{p q:Addr}{b:Nat}(s:Zv H j)(h:WM H p q b):WM j p q b:=by
 obtain⟨J,a,l,M,O,Y⟩:=h;exact⟨J,a,l,s _ _ M,s _ _ O,Y⟩
theorem WM.le {H:Hp}{p q:Addr}{b j:Nat}(h:WM H p q b)(hb:b<=j):WM H p q j:=by
 obtain⟨J,a,l,M,O,Y,h4,h5,h6⟩:=h;exact⟨J,a,l,M,O,Y,h4,h5,by omega⟩
theorem ZlB {H:Hp}{p q:Addr}{a l:Int}(h:H p=some (.dK (fdK q a l))):JJ H p (.str "cells") (some (.ref q)):=JJ.k (k:=.inr "cells") h
theorem Zrm {H:Hp}{p q:Addr}{a l:Int}(h:H p=some (.dK (fdK q a l))):JJ H p (.str "at") (some (.int a)):=JJ.k (k:=.inr "at") h
theorem ZeG {H:Hp}{p q:Addr}{a l:Int}(h:H p=some (.dK (fdK q a l))):JJ H p (.str "left") (some (.int l)):=JJ.k (k:=.inr "left") h
theorem Zq9 {H:Hp}{p q:Addr}{a l j:Int}(h:H p=some (.dK (fdK q a l))):VU H p (.str "at") (.int j) (upd H p (.dK (fdK q j l))):=VU.k (k:=.inr "at") h (by rw[gC];show 3<_;omega)
theorem Zio {H:Hp}{p q:Addr}{a l j:Int}(h:H p=some (.dK (fdK q a l))):VU H p (.str "left") (.int j) (upd H p (.dK (fdK q a j))):=VU.k (k:=.inr "left") h (by rw[gC];show 3<_;omega)
def Tk (p:Addr)(H j:Hp):Prop:=∀b o,H b=some o->b≠p->j b=some o
theorem Tk.of {p:Addr}{H j:Hp}(s:Zv H j):Tk p H j:=λb o e _=>s b o e
theorem Tk.trans {p:Addr}{H j q:Hp}(a:Tk p H j)(b:Tk p j q):Tk p H q:=λc o e n=>b c o (a c o e n) n
theorem WM.ne {H:Hp}{p q a:Addr}{b:Nat}{o:HO}(h:WM H p q b)(e:H a=some o)(J:∀j,o≠.dK j):a≠p:=λz=>by
 obtain⟨O,c,l,M,_⟩:=h;rw[z,M] at e;exact J _ (aB e).symm
theorem WM.neN {H:Hp}{p q a:Addr}{b:Nat}(h:WM H p q b)(e:H a=none):a≠p/\a≠q:=by
 obtain⟨M,c,l,j,J,_⟩:=h;exact⟨λz=>(by rw[z,j] at e;cases e),λz=>(by rw[z,J] at e;cases e)⟩
theorem WM.put {H:Hp}{p q L:Addr}{b:Nat}{o:HO}(h:WM H p q b)(j:L≠p)(J:L≠q):WM (upd H L o) p q b:=by
 obtain⟨M,c,l,O,Y,h3⟩:=h;exact⟨M,c,l,by rw[Zz (bf j)];exact O,by rw[Zz (bf J)];exact Y,h3⟩
theorem Tk.tup {p q a:Addr}{H j:Hp}{b:Nat}{xs:TV}(d:Tk p H j)(T:WM H p q b)(h:H a=some (.tup xs)):j a=some (.tup xs):=d a _ h (T.ne h λ_ z=>by cases z)
theorem Tk.lst {p q a:Addr}{H j:Hp}{b:Nat}{xs:TV}(d:Tk p H j)(T:WM H p q b)(h:H a=some (.lst xs)):j a=some (.lst xs):=d a _ h (T.ne h λ_ z=>by cases z)
theorem GT.tk {H j:Hp}{p q g:Addr}{b:Nat}{t:T9}(T:WM H p q b)(d:Tk p H j)(G:GT H g t):GT j g t:=by
 obtain⟨M,O,Y,h3⟩:=G;refine⟨M,d.tup T O,Y,λi r hr=>?_⟩;obtain⟨o,J,e2⟩:=h3 i r hr;exact⟨o,d _ _ J (T.ne J λ_ z=>by cases z),e2⟩
theorem ZhJ (ns:TZ):gq (.list (ns.map aP))=true:=by
 unfold gq;have j:gy (.list (ns.map aP))=true:=X6 ns;have q:cT (.list (ns.map aP))<=60:=Za2 ns;simp only[j,Bool.true_and,dS,decide_eq_true_eq];omega
inductive Zd8 (K:aa) (vs:TV) (H:Hp) (Q:VK) (E03:XK):Prop
 |mk (a:Addr) (ns:TZ):(vs=[.ref a])->(Wx K H a (ns.map V.int))->(∀p q H',Zv H H'->H p=none->WM H' p q 0->Q (.ref p) H')->Zd8 K vs H Q E03
inductive UG (vs:TV) (H:Hp) (Q:VK) (E03:XK):Prop
 |mk (p q:Addr) (m:Int) (b:Nat):(vs=[.ref p,.int m])->(WM H p q b)->(b<2 ^ 60)->(0<m)->(m<1073741824)->(∀r H',0<=r->r<m->Tk p H H'->WM H' p q (b+1)->Q (.int r) H')->UG vs H Q E03
theorem Zjr (ns:TZ)(lo hi:Option Int):∃j:TZ,X2 (ns.map V.int) lo hi=j.map V.int/\(∀k:Nat,hi=some (k:Int)->j.length<=k):=by
 refine⟨(ns.drop (HT.Ww ns.length 0 lo)).take (HT.Ww ns.length ns.length hi-HT.Ww ns.length 0 lo),?_,λk e=>?_⟩
 ·unfold X2;rw[Za,kC,List.map_drop]
 ·subst e
  rw[a8,HT.Xx];omega
theorem Zk4 (F:WB K "_law_feed" "_law_feed" Zmj f fd)(T:BlB mg):Z4 P w K mg base Yg 1 f fd ["_law_script"] (Zd8 K):=by
 refine F.ok (FS (N:=["_law_script"])) (λvs H Q E h=>?_) (λo0 A n6 s H vs Q E hr h=>?_)
 ·obtain⟨a,ns,rfl,_⟩:=h;rfl
 ·obtain⟨a,ns,rfl,hS,k⟩:=h
  refine⟨_,Zw (ZE (ZkI (US Y7 (ct WX T.list (pc (Vn Ze8 (vn 0) Uj (Ui Zx)) Zt)) (US Y7 Zx (US Y7 Zx ZkB))) rfl rfl (by simp) (by decide))),?_⟩;intro p np;obtain⟨J,e,hl⟩:=Zjr ns none (some 63);have s0:=Zv.upd (H:=H) (o:=.dK []) np;refine⟨_,rfl,_,rfl,a,_,rfl,s0.seq hS,λp1 h1=>⟨p1,_,rfl,.inl (.of Zu),λq Y=>?_⟩⟩;rw[e] at Y ⊢;have O:upd H p (.dK []) p=some (.dK []):=Zu;generalize upd H p (.dK [])=H1 at s0 h1 Y O ⊢;have s1:=Zv.upd (H:=H1) (o:=.lst (J.map V.int)) h1;generalize upd H1 p1 (.lst (J.map V.int))=H2 at s1 Y ⊢;have s2:=Zv.upd (H:=H2) (o:=.lst (J.map V.int)) Y;have j:upd H2 q (.lst (J.map V.int)) q=some (.lst (J.map V.int)):=Zu;have M:=s2 _ _ (s1 _ _ O);generalize upd H2 q (.lst (J.map V.int))=H3 at s2 j M ⊢;have n8:q≠p:=λz=>by rw[z,M] at j;cases j
  refine⟨M,fdK q 0 0,rfl,(by show 3<=15;decide),?_⟩;refine k p q _ (λb o hb=>?_) np ⟨J,0,0,Zu,by rw[Zz n8];exact j,hl 63 rfl,by decide,by decide,by decide⟩;have n9:b≠p:=λz=>by rw[z,np] at hb;cases hb
  rw[Zz n9];exact s2 _ _ (s1 _ _ (s0 _ _ hb))
theorem Zk5 (F:WB K "_law_draw" "_law_draw" ZhW f fd)(T:BlB mg):Z4 P w K mg base Yg 1 f fd ["_law_feed_here", "_law_many"] UG:=by
 refine F.ok (FS (N:=["_law_feed_here", "_law_many", "_law_found", "_law_at", "_law_cells", "_law_cell", "_law_number"])) (λvs H Q E h=>?_) (λo5 A o6 s H vs Q E hr h=>?_)
 ·obtain⟨p,q,m,b,rfl,_⟩:=h;rfl
 ·obtain⟨p,q,m,b,rfl,⟨M,a,l,h1,h2,O,l0,a0,ab⟩,hb,m0,m1,k⟩:=h
  have Y:(A.deeper (envOfC "_law_draw" (Z0 ZhW) s.heap.objs.size f o5)).units+1<cLine:=by have:=hr.un;omega
  refine⟨_,Zs (Y3 (ZL Zip (Jh Y (vn 0) Y7 (λ_ _=>rfl)) Zx (ZR _)) (Zs (ZG 2 rfl (Zy ZY (Jh Y (vn 0) Y7 (λ_ _=>rfl)) (vn 1)))
   (Zs (Xz Y (vn 0) Y7 (Zy WC (Jh Y (vn 0) Y7 (λ_ _=>rfl)) (vn 1)) (by rfl))
   (Zw (ZE (vn 2))))) Ya)
   (Zs (ZG 3 rfl (Jh Y (vn 0) Y7 (λ_ _=>rfl)))
   (Zs (Xz Y (vn 0) Y7 (Zy Yt (vn 3) Zx) (by rfl))
   (Zs (ZG 4 rfl (Jh Y (vn 0) Y7 (λ_ _=>rfl)))
   (Zs (ZG 5 rfl (Zc2 (ZL (neC K hr.units) (vn 4) (ZV Zt) (ZR _)) (ZD (WU K) (vn 4) (Zy ZY (vn 3) (cb (Ym K) T.len (pc (vn 4) Zt))) (λ_ _=>rfl)) (Zy ZQ (vn 3) (vn 3))))
   (Zs (Y3 (Zeo (ZL Zpt (vn 5) (Zy Zno Zx Zx) (ZR _)) (ZbH (ZL Zc5 (vn 3) (cb (Ym K) T.len (pc (vn 4) Zt)) (ZR _)))).pt (Zs (Xz Y (vn 0) Y7 (Zy WC (vn 5) (vn 1)) (by rfl))
   (Zw (ZE (Zy ZY (vn 5) (vn 1))))) Ya)
   (Zs (ZG 6 rfl (Zy ZY (Zy ZQ (Zy Yt (Zy ZY (vn 5) Zx) Zx) (Zy Yt Zx (Zy ZQ Zx (vn 3)))) Zx))
   (Zw (ZE (Zy ZY (Zy WC (Zy ZY (Zy Yt (Zy ZQ (vn 6) Zx) (Zy ZQ (Zy ZQ (vn 3) (vn 3)) Zx)) Zx) Zx) (vn 1)))))))))),?_⟩
  have n6:q≠p:=λz=>by rw[z,h1] at h2;cases h2
  refine⟨_,rfl,p,_,rfl,ZeG h1,_,_,rfl,rfl,_,rfl,?_⟩;refine Ye (λh=>?_) (λh=>?_)
  ·refine⟨_,rfl,p,_,rfl,ZeG h1,_,rfl,_,_,rfl,rfl,m0,?_⟩
   refine⟨_,rfl,p,_,rfl,ZeG h1,_,rfl,_,_,rfl,rfl,⟨m0,m1⟩,_,rfl,p,_,rfl,Zio h1,?_⟩;exact⟨_,rfl,k _ _ (cu _ (by omega)) (bT _ m0) (λb o e hb=>by rw[Zz hb];exact e) ⟨M,a,l / m,Zu,by rw[Zz n6];exact h2,O,j6 l0 (by omega),a0,by omega⟩⟩
  ·refine⟨_,rfl,p,_,rfl,Zrm h1,?_⟩
   refine⟨_,rfl,_,_,rfl,rfl,_,rfl,p,_,rfl,Zq9 h1,?_⟩;have h3:upd H p (.dK (fdK q (a+1) l)) p=some (.dK (fdK q (a+1) l)):=Zu;have n8:upd H p (.dK (fdK q (a+1) l)) q=some (.lst (M.map V.int)):=by rw[Zz n6];exact h2
   have k3:Tk p H (upd H p (.dK (fdK q (a+1) l))):=λb o e hb=>by rw[Zz hb];exact e
   generalize upd H p (.dK (fdK q (a+1) l))=H3 at h3 n8 k3 ⊢;refine⟨_,rfl,p,_,rfl,ZlB h3,?_⟩;refine⟨_,rfl,JY,λe0 o7=>?_⟩;have s4:=Zv.upd (H:=H3) (o:=.lst []) o7;have k4:=k3.trans (Tk.of s4);have h4:=s4 _ _ h3;have J:=s4 _ _ n8;have n9:upd H3 e0 (.lst []) e0=some (.lst []):=Zu;generalize upd H3 e0 (.lst [])=H4 at s4 k4 h4 J n9 ⊢;refine⟨_,_,.lst (.of J) (WO.ints M),.lst (.of n9) .nil,ZhJ M,rfl,_,rfl,?_⟩;have len:(M.map V.int).length=M.length:=gh ..;have T4:∀l',0<=l'->WM (upd H4 p (.dK (fdK q (a+1) l'))) p q (b+1):=λl' o8=>⟨M,a+1,l',Zu,by rw[Zz n6];exact J,O,o8,by omega,by omega⟩;refine Ye (λo0=>?ca) (λo0=>?cb)
   case' ca=>
    have hn:(0:Int)<M.length:=by
     cases M with
     |nil=>exact absurd o0 (by decide)
     |cons x r=>simp only[Zi];omega
    have r0:=cu a (show (M.length:Int)≠0 by omega);have r1:=bT a hn;obtain⟨j,ej⟩:=cG r0;have hj:j<M.length:=by omega
    refine⟨_,rfl,_,rfl,_,rfl,q,_,rfl,.inl (.of J),?_⟩;rw[len];refine⟨_,_,rfl,rfl,hn,?_⟩
    try dsimp only
    rw[ej];refine⟨q,_,_,_,rfl,rfl,.of J,ZH (j:=j) (by rw[Zc,Zf hj];rfl),?_⟩;generalize M[j]=c
   case' cb=>
    refine⟨_,rfl,_,rfl,_,_,rfl,rfl,.inr ⟨by omega,by omega⟩,?_⟩
    try dsimp only
    generalize a*a=c
   all_goals
    refine⟨_,rfl,_,_,rfl,rfl,⟨by decide,by decide,by decide⟩,_,_,rfl,rfl,_,rfl,?_⟩;refine Ye (λhA=>?_) (λhA=>?_)
    ·refine⟨_,rfl,_,rfl,q,_,rfl,.inl (.of J),?_⟩
     rw[len];refine⟨_,_,rfl,rfl,_,rfl,?_⟩;refine Ye (λhB=>?_) (λhB=>?_)
     ·have hc:0<=c:=by
       have:=of_decide_eq_true hA;have o9:(10:Int) ^ (18:Int).toNat=1000000000000000000:=by decide
       omega
      refine⟨_,rfl,_,rfl,_,_,rfl,rfl,⟨m0,m1⟩,_,rfl,p,_,rfl,Zio h4,?_⟩;refine⟨_,rfl,_,rfl,_,_,rfl,rfl,m0,?_⟩;exact k _ _ (cu _ (by omega)) (bT _ m0) (k4.trans λb o e hb=>by rw[Zz hb];exact e) (T4 _ (j6 hc (by omega)))
     ·refine⟨_,rfl,_,_,rfl,rfl,(by show (0:Int)<_;decide),_,_,rfl,rfl,_,rfl,_,_,rfl,rfl,.inl ⟨by decide,by decide⟩,_,_,rfl,rfl,_,_,rfl,rfl,.inl ⟨by have:=cu c (show (2147483629:Int)≠0 by decide);omega,by have:=bT c (show (0:Int)<2147483629 by decide);omega⟩,_,_,rfl,rfl,(by show (0:Int)<_;decide),?_⟩
      refine⟨_,rfl,_,_,rfl,rfl,.inr ⟨by decide,by decide⟩,_,rfl,_,rfl,_,_,rfl,rfl,.inr ⟨by omega,by omega⟩,_,_,rfl,rfl,.inr ⟨by decide,by decide⟩,_,_,rfl,rfl,_,_,rfl,rfl,(by show (0:Int)<_;decide),_,_,rfl,rfl,⟨by decide,by decide⟩,_,rfl,_,_,rfl,rfl,m0,?_⟩;exact k _ _ (cu _ (by omega)) (bT _ m0) k4 ⟨M,a+1,l,h4,J,O,l0,by omega,by omega⟩
    ·refine⟨_,rfl,_,_,rfl,rfl,(by show (0:Int)<_;decide),_,_,rfl,rfl,_,rfl,_,_,rfl,rfl,.inl ⟨by decide,by decide⟩,_,_,rfl,rfl,_,_,rfl,rfl,.inl ⟨by have:=cu c (show (2147483629:Int)≠0 by decide);omega,by have:=bT c (show (0:Int)<2147483629 by decide);omega⟩,_,_,rfl,rfl,(by show (0:Int)<_;decide),?_⟩
     refine⟨_,rfl,_,_,rfl,rfl,.inr ⟨by decide,by decide⟩,_,rfl,_,rfl,_,_,rfl,rfl,.inr ⟨by omega,by omega⟩,_,_,rfl,rfl,.inr ⟨by decide,by decide⟩,_,_,rfl,rfl,_,_,rfl,rfl,(by show (0:Int)<_;decide),_,_,rfl,rfl,⟨by decide,by decide⟩,_,rfl,_,_,rfl,rfl,m0,?_⟩;exact k _ _ (cu _ (by omega)) (bT _ m0) k4 ⟨M,a+1,l,h4,J,O,l0,by omega,by omega⟩
end C46
namespace Tb
def trn (m r:Nat):Nat->Nat
 |0=>1
 |s+1=>trn m r s*r % m
theorem Zhl {m:Nat}(j:m<=60)(q:1<=m)(r:Nat):∀s,trn m r s<=60
 |0=>by show 1<=60;omega
 |s+1=>by
  have:=bi (trn m r s*r) (show 0<m by omega);rw[trn];omega
def twV (m k r c a b:Nat):Nat:=(a / k+trn m r (a % k)*(b / k)+c*((a % k+b % k) / k)) % m*k+(a % k+b % k) % k
def twT (m k r c:Nat):T9:=(ac (m*k)).map λa=>(ac (m*k)).map λb=>twV m k r c a b
end Tb
namespace C46
open PySem L2 PySem.Spec PyProof.Rows
open Tb Pm
noncomputable abbrev ZhM:Stmt:=tq 33
inductive Zbh (vs:TV) (H:Hp) (Q:VK) (E03:XK):Prop
 |mk (m k r c:Nat):(vs=[.int m,.int k,.int r,.int c])->(1<=m)->(1<=k)->(m<=60)->(k<=60)->(m*k<=60)->(r<=60)->(c<=60)->(∀g H',Zv H H'->GT H' g (twT m k r c)->Q (.ref g) H')->Zbh vs H Q E03
theorem Zln (f:Nat->V)(s:Nat):X8 ((ac (s+1)).map f) (-1)=some (f s):=by
 rw[bR,aN];exact Zas _ _
theorem Zit (F:WB K "_law_twisted" "_law_twisted" ZhM f fd)(T:BlB mg):Z4 P w K mg base Yg 1 f fd ["_law_m", "_law_k", "_law_r", "_law_c"] Zbh:=by
 refine F.ok (FS (N:=["_law_m", "_law_k", "_law_r", "_law_c", "_law_turns", "_law_s", "_law_rows", "_law_a", "_law_i", "_law_line", "_law_b", "_law_t", "_law_first"])) (λvs H Q E h=>?_) (λp7 A p3 s H vs Q E hr h=>?_)
 ·obtain⟨m,k,r,c,rfl,_⟩:=h;rfl
 ·obtain⟨m,k,r,c,rfl,m1,k1,m60,p8,p6,q0,c60,q⟩:=h
  refine⟨_,Zs (ZG 4 rfl (ZV (pc Zx Zt)))
   (Zs (ZN am rfl (WG T.range (pc (vn 1) Zt)) (gn 5)
   (Zw (YJ (WH aJ aR aU Yb (vn 4) (pc (Zy ZY (Zy ZQ (ZD (WU K) (vn 4) (V0 J1 Zx) (λ_ _=>rfl)) (vn 2)) (vn 0)) Zt)))))
   (Zs (ZG 6 rfl (ZV Zt))
   (Zs (ZN am rfl (WG T.range (pc (Zy ZQ (vn 0) (vn 1)) Zt)) (gn 7)
   (Zs (ZG 8 rfl (Zy WC (vn 7) (vn 1)))
   (Zs (ZG 5 rfl (Zy ZY (vn 7) (vn 1)))
   (Zs (ZG 9 rfl (ZV Zt))
   (Zs (ZN am rfl (WG T.range (pc (Zy ZQ (vn 0) (vn 1)) Zt)) (gn 10)
   (Zs (ZG 11 rfl (Zy Yt (vn 5) (Zy ZY (vn 10) (vn 1))))
   (Zs (ZG 12 rfl (Zy Yt (Zy Yt (vn 8) (Zy ZQ (ZD (WU K) (vn 4) (vn 5) (λ_ _=>rfl)) (Zy WC (vn 10) (vn 1)))) (Zy ZQ (vn 3) (Zy WC (vn 11) (vn 1)))))
   (Zw (YJ (WH aJ aR aU Yb (vn 9) (pc (Zy Yt (Zy ZQ (Zy ZY (vn 12) (vn 0)) (vn 1)) (Zy ZY (vn 11) (vn 1))) Zt)))))))
   (Zw (YJ (WH aJ aR aU Yb (vn 6) (pc (ct (Zhk K) T.tuple (pc (vn 9) Zt)) Zt)))))))))
   (Zw (ZE (ct ZX T.tuple (pc (vn 6) Zt))))))),?_⟩
  have sz:=JL;refine⟨JY,λLt o5=>?_⟩;have s1:=Zv.upd (H:=H) (o:=.lst [.int 1]) o5;have h1:upd H Lt (.lst [.int 1]) Lt=some (.lst ((ac (0+1)).map λi=>V.int ((trn m r i:Nat):Int))):=Zu;generalize upd H Lt (.lst [.int 1])=H1 at s1 h1 ⊢;refine⟨_,rfl,_,rfl,by omega,by omega,?_⟩;rw[Zj];refine ZT (λi J H'=>∃v5 v6 v7 v8 v9 M O Y:TU,J=[some (.int (m:Nat)),some (.int (k:Nat)),some (.int (r:Nat)),some (.int (c:Nat)),some (.ref Lt),v5,v6,v7,v8,v9,M,O,Y]/\Zv H H'/\H' Lt=some (.lst ((ac (i+1)).map λi=>V.int ((trn m r i:Nat):Int)))) ⟨_,_,_,_,_,_,_,_,rfl,s1,h1⟩ ?_ ?_
  ·rintro i J H2 hi ⟨v5,v6,v7,v8,v9,M,O,Y,rfl,s2,h2⟩
   have tl:=Zhl m60 m1 r i;refine⟨_,rfl,.inl ⟨rfl,_,.of h2⟩,_,rfl,_,rfl,Lt,_,_,_,rfl,rfl,.of h2,Zln _ i,_,rfl,_,_,rfl,rfl,.inr ⟨by omega,by omega⟩,_,rfl,_,_,rfl,rfl,(by show (0:Int)<(m:Int);omega),Lt,_,_,rfl,rfl,h2,by rw[Za,Zg];omega,?_⟩;refine⟨_,_,_,_,_,_,_,_,rfl,s2.updr o5,?_⟩;rw[Zu,bR (n:=i+1),aN];rfl
  ·rintro J H2 ⟨v5,v6,v7,v8,v9,M,O,Y,rfl,s2,h2⟩
   refine⟨JY,λLr n6=>?_⟩;have s3:=s2.trans (Zv.upd (H:=H2) (o:=.lst []) n6);have h3:upd H2 Lr (.lst []) Lr=some (.lst ([]:TV)):=Zu;have o6:=(Zv.upd (H:=H2) (o:=.lst []) n6) _ _ h2;have o7:H Lr=none:=s2.free n6;have o8:Lt≠Lr:=λz=>by rw[z,n6] at h2;cases h2
   generalize upd H2 Lr (.lst [])=H3 at s3 h3 o6 ⊢;refine⟨_,rfl,_,rfl,_,_,rfl,rfl,.inr ⟨by omega,by omega⟩,_,rfl,?_,?_,?_⟩
   ·rw[<-aI];omega
   ·rw[<-aI];omega
   rw[<-aI,Zj];refine ZT (λa J H'=>∃(rs:TW) (v5 v7 v8 v9 M O Y:TU),J=[some (.int (m:Nat)),some (.int (k:Nat)),some (.int (r:Nat)),some (.int (c:Nat)),some (.ref Lt),v5,some (.ref Lr),v7,v8,v9,M,O,Y]/\Zv H H'/\H' Lt=some (.lst ((ac (k+1)).map λi=>V.int ((trn m r i:Nat):Int)))/\H' Lr=some (.lst (rs.map V.ref))/\rs.length=a/\∀(i:Nat) x,rs[i]?=some x->Tz H' x (((ac (m*k)).map λb=>twV m k r c i b).map nV)) ⟨[],_,_,_,_,_,_,_,rfl,s3,o6,h3,rfl,λi x h=>by cases h⟩ ?_ ?_
   ·rintro a J H4 ha ⟨rs,v5,v7,v8,v9,M,O,Y,rfl,s4,n9,h4,rl,o0⟩
    rw[show (0:Int)+(a:Int)=(a:Int) by omega];refine⟨_,rfl,_,rfl,_,_,rfl,rfl,⟨by omega,by omega⟩,?_⟩;refine⟨_,rfl,_,rfl,_,_,rfl,rfl,(by show (0:Int)<(k:Int);omega),?_⟩;refine⟨JY,λLn o9=>?_⟩;have s5:=Zv.upd (H:=H4) (o:=.lst []) o9;have h5:upd H4 Ln (.lst []) Ln=some (.lst ((ac 0).map λb=>nV (twV m k r c a b))):=Zu;generalize upd H4 Ln (.lst [])=H5 at s5 h5 ⊢;refine⟨_,rfl,_,rfl,_,_,rfl,rfl,.inr ⟨by omega,by omega⟩,_,rfl,?_,?_,?_⟩
    ·rw[<-aI];omega
    ·rw[<-aI];omega
    rw[<-aI,Zj];have ed:(a:Int) / (k:Int)=((a / k:Nat):Int):=(eP a k).symm;have em:(a:Int) % (k:Int)=((a % k:Nat):Int):=(a9 a k).symm;refine ZT (λb J H'=>∃(M O Y:TU),J=[some (.int (m:Nat)),some (.int (k:Nat)),some (.int (r:Nat)),some (.int (c:Nat)),some (.ref Lt),some (.int ((a % k:Nat):Int)),some (.ref Lr),some (.int (a:Nat)),some (.int ((a / k:Nat):Int)),some (.ref Ln),M,O,Y]/\Zv H4 H'/\H' Ln=some (.lst ((ac b).map λb=>nV (twV m k r c a b)))) ⟨_,_,_,by rw[<-ed,<-em];rfl,s5,h5⟩ ?_ ?_
    ·rintro b J H6 hb ⟨M,O,Y,rfl,s6,h6⟩
     rw[show (0:Int)+(b:Int)=(b:Int) by omega];have r6:a % k<k:=bi _ (by omega);have tl:=Zhl m60 m1 r (a % k);have bk:b / k<=60:=aW (gu _ _) (by omega);have tk:(a % k+b % k) / k<=120:=by
      have:=bi b (show 0<k by omega);exact aW (gu _ _) (by omega)
     refine⟨_,rfl,_,rfl,_,rfl,_,_,rfl,rfl,(by show (0:Int)<(k:Int);omega),_,_,rfl,rfl,?_⟩
     try dsimp only
     rw[<-a9,<-dR];refine⟨_,rfl,_,rfl,_,rfl,Lt,_,_,_,rfl,rfl,.of (s6 _ _ n9),ZH (j:=a % k) (by rw[Zc,ah (by omega)];rfl),_,rfl,_,rfl,_,_,rfl,rfl,⟨by omega,by omega⟩,?_⟩
     try dsimp only
     rw[<-eP];refine⟨_,_,rfl,rfl,.inr ⟨ni (by decide) (dJ _),nk (Int.ofNat_le.mpr bk) (by decide)⟩,_,_,rfl,rfl,_,rfl,_,rfl,_,rfl,_,_,rfl,rfl,⟨by omega,by omega⟩,?_⟩
     try dsimp only
     rw[<-eP];refine⟨_,_,rfl,rfl,.inr ⟨ni (by decide) (dJ _),nk (Int.ofNat_le.mpr tk) (by decide)⟩,_,_,rfl,rfl,?_⟩
     try dsimp only
     rw[<-aI,<-aI,<-dR,<-dR];refine⟨_,rfl,.inl ⟨rfl,_,.of h6⟩,_,rfl,_,rfl,_,_,rfl,rfl,(by show (0:Int)<(m:Int);omega),_,rfl,_,_,rfl,rfl,.inr ⟨by omega,by omega⟩,_,rfl,_,rfl,_,_,rfl,rfl,(by show (0:Int)<(k:Int);omega),_,_,rfl,rfl,Ln,_,_,rfl,rfl,h6,by rw[Za,Zg];omega,?_⟩;refine⟨_,_,_,rfl,s6.updr o9,?_⟩;rw[Zu,bR,aN]
     try dsimp only
     rw[<-a9,<-aI,<-a9,<-dR];rfl
    ·rintro J H6 ⟨M,O,Y,rfl,s6,h6⟩
     have p4:=s6 _ _ h4;refine⟨_,rfl,.inl ⟨rfl,_,.of p4⟩,_,rfl,Ln,_,rfl,.of h6,λl H7 nl s7 hz=>?_⟩;have n8:=s6.trans s7;have h7:=n8 _ _ h4;refine⟨Lr,_,_,rfl,rfl,h7,by rw[Za,rl];omega,?_⟩;have ez:((ac (m*k)).map λb=>nV (twV m k r c a b))=((ac (m*k)).map λb=>twV m k r c a b).map nV:=by rw[aK];rfl
     rw[ez] at hz;refine⟨rs++[l],_,_,_,_,_,_,_,rfl,(s4.trans n8).updr o7,by rw[Zz o8];exact n8 _ _ n9,by rw[Zu,aN];rfl,by rw[Zd,rl];rfl,λi x hx=>?_⟩;by_cases hi:i<rs.length
     ·rw[au hi] at hx
      exact Tz.updL ((o0 i x hx).mono n8) h7
     ·have hl:=(ae.mp hx).1
      rw[Zd,Zk] at hl;have ei:i=rs.length:=by omega
      rw[av (by omega),ei,cC] at hx;cases hx;rw[ei,rl];exact Tz.updL hz h7
   ·rintro J H4 ⟨rs,v5,v7,v8,v9,M,O,Y,rfl,s4,n9,h4,rl,o0⟩
    refine⟨_,rfl,Lr,_,rfl,.inl ⟨.of h4,λg ng=>?_⟩⟩;have s5:=Zv.upd (H:=H4) (o:=.tup (rs.map V.ref)) ng;refine q g _ (s4.trans s5) ⟨rs,Zu,by unfold twT;rw[Za,Zg,rl],λi x hx=>?_⟩;have hi:i<m*k:=by rw[<-rl];exact (ae.mp hx).1
    have er:(twT m k r c).getD i []=(ac (m*k)).map λb=>twV m k r c i b:=by unfold twT;rw[Zb,Zc,ah hi];rfl
    rw[er];exact (o0 i x hx).mono s5
end C46
namespace Pm
open PySem L2 PySem.Spec PyProof.Rows
open Tb
def Vz (fd:T9)(o:T7):T9:=if fd.contains o then fd else fd++[o]
def Wa (j:T7)(q:T9)(fd:T9):T9:=q.foldl (λfd p=>Vz fd (XJ j p)) fd
def bfs (j:T9):Nat->Nat->T9->T9
 |0,_,fd=>fd
 |f+1,at',fd=>if at'<fd.length then bfs j f (at'+1) (Wa (fd.getD at' []) j fd) else fd
theorem ZdH (fd:T9)(o:T7):fd.length<=(Vz fd o).length:=by
 unfold Vz;split
 ·exact Zq _
 ·rw[Zd];omega
theorem Xw (j:T7):∀(q fd:T9),fd.length<=(Wa j q fd).length
 | [],fd=>Zq _
 |p::q,fd=>aW (ZdH fd (XJ j p)) (Xw j q (Vz fd (XJ j p)))
theorem Zf0 (j:T9):∀(f at':Nat) (fd:T9),fd.length<=(bfs j f at' fd).length
 |0,_,fd=>Zq _
 |f+1,at',fd=>by
  unfold bfs;split
  ·exact aW (Xw _ j fd) (Zf0 j f (at'+1) _)
  ·exact Zq _
theorem Zg6 {k:Nat}{fd:T9}{o:T7}(h:∀y∈fd,Gk k y)(j:Gk k o):∀y∈Vz fd o,Gk k y:=by
 unfold Vz;split
 ·exact h
 ·intro y q
  rcases bO.mp q with z|z
  ·exact h y z
  ·rw[aQ.mp z];exact j
theorem ZlS {fd:T9}{o:T7}{j:Nat}(h:j<fd.length):(Vz fd o).getD j []=fd.getD j []:=by
 unfold Vz;split
 ·rfl
 ·rw[Zb,au h,<-Zb]
theorem ZcG (q:T7){j:Nat}:∀(J fd:T9),j<fd.length->(Wa q J fd).getD j []=fd.getD j []
 | [],fd,_=>rfl
 |p::J,fd,h=>by
  show (Wa q J (Vz fd (XJ q p))).getD j []=_;rw[ZcG q J _ (aC h (ZdH fd _)),ZlS h]
theorem ZdV (j:T7){q fd:T9}{i:Nat}{g:T7}(h:q[i]?=some g):Wa j (q.take (i+1)) fd=Vz (Wa j (q.take i) fd) (XJ j g):=by
 unfold Wa;rw[cW,h,jt];rfl
theorem ZdW (j:T7)(q fd:T9)(i:Nat):(Wa j (q.take i) fd).length<=(Wa j q fd).length:=by
 have:Wa j q fd=Wa j (q.drop i) (Wa j (q.take i) fd):=by
  unfold Wa;rw[<-jt,List.take_append_drop]
 rw[this];exact Xw _ _ _
end Pm
namespace C46
open PySem L2 PySem.Spec PyProof.Rows
open Tb Pm
noncomputable abbrev Zpc:Stmt:=tq 34
noncomputable abbrev Zeh:Stmt:=tq 35
structure ByC (k:Nat)(ps fd:T9):Prop where
 k1:1<=k
 k9:k<=9
 p1:1<=ps.length
 p9:ps.length<=9
 pl:∀g∈ps,Gk k g
 fin:bfs ps 61 0 [ac k]=fd
 n60:fd.length<=60
inductive ZhF (vs:TV) (H:Hp) (Q:VK) (E03:XK):Prop
 |mk (pl:Addr) (prs:TW) (ps:T9) (k:Nat) (fd:T9):(vs=[.ref pl])->(TupsAt H pl prs ps)->(ByC k ps fd)->(∀L bs H',Zv H H'->TupsAt H' L bs fd->Q (.ref L) H')->ZhF vs H Q E03
theorem ZnC (F:WB K "_law_by_perms" "_law_by_perms" Zpc f fd)(T:BlB mg):Z4 P w K mg base Yg 1 f fd ["_law_perms"] ZhF:=by
 refine F.ok (FS (N:=["_law_perms", "_law_found", "_law_at", "_law_here", "_law_perm", "_law_other"])) (λvs H Q E h=>?_) (λu9 A t5 s H vs Q E hr h=>?_)
 ·obtain⟨pl,p4,O,k,n6,rfl,_⟩:=h;rfl
 ·obtain⟨pl,p4,O,k,n6,rfl,R0,B,q⟩:=h
  refine⟨_,Zs (ZG 1 rfl (ZV (pc (ct (Zan rfl) T.tuple (pc (ct V9 T.range (pc (cb (Ym K) T.len (pc (ZD (WU K) (vn 0) Zx (λ_ _=>rfl)) Zt)) Zt)) Zt)) Zt)))
   (Zs (ZG 2 rfl Zx)
   (Zs (Yq am (ZL Zc5 (vn 2) (cb (Ym K) T.len (pc (vn 1) Zt)) (ZR _))
   (Zs (ZG 3 rfl (ZD (WU K) (vn 1) (vn 2) (λ_ _=>rfl)))
   (Zs (ZG 2 rfl (Zy Yt (vn 2) Zx))
   (Zw (ZN am rfl (itL K (vn 0)) (gn 4)
   (Zs (ZG 5 rfl (ct ZX T.tuple (pc (cmp ["_law_spot"] [3] ["_law_spot", "_law_here"] rfl (itT K (vn 4)) (λ_ _ _ _ _=>gn 0) (λ_ _ _ _ _=>ZP) (λ_ _ _ _ _=>ZD (JE K) (vn 1) (vn 0) (λ_ _=>rfl))) Zt)))
   (Zw (Y3 (ZL (Zpv K hr.units) (vn 5) (vn 1) (by rfl)) (Zw (YJ (WH aJ aR aU Yb (vn 1) (pc (vn 5) Zt)))) Ya))))))))
   (Zw (ZE (vn 1))))),?_⟩
  have sz:=JL;have k1:=B.k1;have k9:=B.k9;have p1:=B.p1;have p9:=B.p9;have w8:=B.n60;have p6:∀g∈O,Gk k g:=B.pl;obtain⟨b0,_,p7,n8⟩:=R0.get (i:=0) (by omega);have e0:((O.getD 0 []).map nV).length=k:=by rw[Za];exact (p6 _ (ZbS (by omega))).1
  refine⟨_,rfl,pl,_,_,_,rfl,rfl,.of R0.1,p7,b0,_,rfl,.inr (.of n8),_,rfl,λr0 t6=>⟨r0,0,_,rfl,Zu,⟨by omega,by omega,by rw[e0];omega,by rw[e0];omega⟩,by rw[e0];omega,λl hl=>?_⟩⟩;rw[e0] at hl ⊢;have ek:((k:Int)-0).toNat=k:=by omega
  rw[ek] at *;refine⟨JY,λF0 o6=>?_⟩;have s1:Zv H (upd H r0 (.rng 0 (k:Int))):=Zv.upd t6;have s2:=s1.trans (Zv.upd (o:=.tup ((Y6 0 k).map V.int)) hl);have s3:=s2.trans (Zv.upd (o:=.lst [.ref l]) o6);have nF:H F0=none:=s2.free o6;have el:(Y6 0 k).map V.int=(ac k).map nV:=by
   unfold Y6;rw[aK];refine aX λi _=>?_;show V.int (0+(i:Int))=nV i;rw[ce];rfl
  have R1:TupsAt (upd (upd (upd H r0 (.rng 0 (k:Int))) l (.tup ((Y6 0 k).map V.int))) F0 (.lst [.ref l])) F0 [l] [ac k]:=by
   refine⟨Zu,rfl,λi b hb=>?_⟩;cases i with
   |zero=>
    cases hb;rw[Zz (λz=>by rw[<-z,Zu] at o6;cases o6),Zu,el];rfl
   |succ i=>cases hb
  have g0:∀y∈[ac k],Gk k y:=λy hy=>by
   rw[aQ.mp hy];exact⟨Zg,λx hx=>af.mp hx⟩
  refine Yh (λm o0 H'=>∃(at':Nat) (bs:TW) (M:T9) (v3 v4 v5:TU),o0=[some (.ref pl),some (.ref F0),some (.int at'),v3,v4,v5]/\Zv H H'/\TupsAt H' F0 bs M/\(∀y∈M,Gk k y)/\m+at'=61/\bfs O m at' M=n6)
   (λo0 H'=>∃(at':Nat) (bs:TW) (v3 v4 v5:TU),o0=[some (.ref pl),some (.ref F0),some (.int at'),v3,v4,v5]/\Zv H H'/\TupsAt H' F0 bs n6/\(∀y∈n6,Gk k y)) ?hend ⟨61,0,_,_,_,_,_,rfl,s3,R1,g0,rfl,B.fin⟩ ?turn
  case turn=>
   rintro o8 m o0 H' ⟨at',bs,M,v3,v4,v5,rfl,sm,R,gd,hm,hb⟩;have bl:(bs.map V.ref).length=M.length:=by rw[Za,R.2.1]
   refine⟨_,rfl,_,rfl,F0,_,rfl,.inl (.of R.1),_,_,rfl,rfl,_,rfl,?_⟩;rw[bl];refine Ye (λh1=>?_) (λh1=>?_)
   ·have Y:at'<M.length:=by
     have:=of_decide_eq_true h1;omega
    cases m with
    |zero=>
     have hb:M=n6:=hb;rw[hb] at Y;omega
    |succ m=>
     rw[bfs,if_pos Y] at hb;have p8:(Wa (M.getD at' []) O M).length<=60:=by
      have:=Zf0 O m (at'+1) (Wa (M.getD at' []) O M);rw[hb] at this;omega
     have o9:Gk k (M.getD at' []):=gd _ (ZbS Y);generalize p3:M.getD at' []=J at *;have t7:(p4.map V.ref).length=O.length:=by rw[Za,R0.2.1]
     obtain⟨n8,_,q0,r6⟩:=R.get Y;rw[p3] at r6;refine⟨_,λ_ _ z=>z,_,rfl,_,rfl,F0,_,_,_,rfl,rfl,.of R.1,q0,_,rfl,_,_,rfl,rfl,_,rfl,pl,rfl,⟨_,.of (sm _ _ R0.1)⟩,?_⟩;refine WV (H0:=H) (YV (K:=K) (.of R0.1)) (λi τ HH=>∃(n9:TW) (w3 w4:TU),τ=[some (.ref pl),some (.ref F0),some (.int ((at':Int)+1)),some (.ref n8),w3,w4]/\Zv H HH/\HH n8=some (.tup (J.map nV))/\TupsAt HH F0 n9 (Wa J (O.take i) M)/\(∀y∈Wa J (O.take i) M,Gk k y))
      ⟨bs,v4,v5,rfl,sm,r6,R,gd⟩ (λi τ HH h=>h.choose_spec.choose_spec.choose_spec.2.1) ?_ ?_
     ·rintro i y τ HH hy ⟨n9,w3,w4,rfl,sH,hH,R',o5⟩
      obtain⟨b,rfl,hi,r8⟩:=R0.ref hy;have r9:=sH _ _ r8;have gg:Gk k (O.getD i []):=p6 _ (ZbS hi);have pi:O[i]?=some (O.getD i []):=getL hi;generalize O.getD i []=gp at *;have w9:(Wa J (O.take i) M).length<=60:=aW (ZdW J O M i) p8;have t9:at'<(Wa J (O.take i) M).length:=aC Y (Xw J _ M);have u5:(Wa J (O.take i) M).getD at' []=J:=by rw[ZcG J _ _ Y,p3]
      have o7:=ZdV J (fd:=M) pi;generalize Wa J (O.take i) M=zs at *;have gl:=gg.1;have cl:=o9.1;refine⟨_,rfl,b,rfl,⟨_,.of r9⟩,?_⟩;refine JG (We (.of r9)) [some (.ref n8)] rfl (Zjm J) (by rw[Za,gl];omega) (λj x HC hx sC x0 g2=>?_) (λD HD nD sD hD=>?_)
      ·obtain⟨c,hc,rfl⟩:=XW hx
       have x9:c<k:=gg.2 c (az hc);refine⟨_,rfl,_,rfl,n8,_,_,_,rfl,rfl,.of (sC _ _ hH),Zmo (by omega),?_⟩;have:=g2 HC (Zv.refl _);have e:Zjm J (.int (c:Nat))=nV (J.getD c 0):=by
        show nV (J.getD (c:Int).toNat 0)=_;rw[Zj]
       rw[e] at this;exact this
      ·rw[Zdt] at hD
       refine⟨D,_,rfl,.inl ⟨.of hD,λtp t8=>?_⟩⟩;have sE:=sD.trans (Zv.upd (o:=.tup ((XJ J gp).map nV)) t8);have hE:upd HD tp (.tup ((XJ J gp).map nV)) tp=some (.tup ((XJ J gp).map nV)):=Zu;generalize upd HD tp (.tup ((XJ J gp).map nV))=HE at sE hE ⊢;have RE:=R'.mono sE;have go:Gk k (XJ J gp):=ZjH o9 gg;have ey:(zs.map λns=>ci ((nI ns).map aP))=(zs.map nI).map λns=>ci (ns.map aP):=by rw[aK];rfl
       refine⟨_,rfl,_,rfl,F0,_,(zs.map λns=>ci ((nI ns).map aP)),.tuple ((nI (XJ J gp)).map aP),rfl,.inl (.of RE.1),Zfn _ _ RE.2.1 RE.2.2,.tup (.of (by rw[ZnG];exact hE)) (WO.ints _),by rw[ey];exact Jm _,X6 _,Za2 _,_,rfl,?_⟩;rw[if_pos rfl,Zcs];have zl:=RE.2.1;refine Ye (λh2=>?_) (λh2=>?_)
       ·have h2:zs.contains (XJ J gp)=false:=by simpa using h2
        have e3:Vz zs (XJ J gp)=zs++[XJ J gp]:=by
         unfold Vz;rw[if_neg (by rw[h2];decide)]
        refine⟨_,rfl,.inl ⟨rfl,_,.of RE.1⟩,_,rfl,F0,_,_,rfl,rfl,RE.1,by rw[Za];omega,?_⟩;refine⟨n9++[tp],_,_,rfl,(sH.trans sE).updr nF,by rw[Zz (λz=>by have:=sE _ _ hH;rw[z,RE.1] at this;cases this)];exact sE _ _ hH,?_,?_⟩
        ·rw[o7,e3];exact RE.push hE
        ·rw[o7];exact Zg6 o5 go
       ·have h2:zs.contains (XJ J gp)=true:=by simpa using h2
        have e3:Vz zs (XJ J gp)=zs:=by
         unfold Vz;rw[if_pos h2]
        exact⟨n9,_,_,rfl,sH.trans sE,sE _ _ hH,by rw[o7,e3];exact RE,by rw[o7,e3];exact o5⟩
     ·rintro τ HH ⟨n9,w3,w4,rfl,sH,hH,R',o5⟩
      rw[t7,c8] at R' o5;exact⟨m,by omega,at'+1,n9,_,_,_,_,by rw[dR];rfl,sH,R',o5,by omega,hb⟩
   ·have Y:¬at'<M.length:=λz=>h1 (decide_eq_true (by omega))
    have e:M=n6:=by
     cases m with
     |zero=>exact hb
     |succ m=>rw[bfs,if_neg Y] at hb;exact hb
    subst e;exact o8 _ _ ⟨at',bs,v3,v4,v5,rfl,sm,R,gd⟩
  case hend=>
   rintro o0 H1 ⟨at',bs,v3,v4,v5,rfl,sm,R,gd⟩;exact⟨_,rfl,q F0 bs H1 sm R⟩
end C46
namespace Pm
open PySem L2 PySem.Spec PyProof.Rows
open Tb
def kvF (fd:T9)(m:Nat):List (List YL×V):=(ac m).map λi=>(XZ (fd.getD i []),.int (i:Nat))
theorem Zlq (fd:T9)(m:Nat):(kvF fd m).length=m:=by unfold kvF;rw[Za,Zg]
theorem Zlp {fd:T9}(J:fd.Nodup){m:Nat}(M:m<fd.length):WT (kvF fd m) (XZ (fd.getD m [])) (.int (m:Nat))=kvF fd (m+1):=by
 have:(kvF fd m).any (λq=>decide (q.1=XZ (fd.getD m [])))=false:=by
  rw[gX];intro h;rw[aY] at h;obtain⟨q,j,e⟩:=h;obtain⟨i,hi,rfl⟩:=aE.mp j;have hi:=af.mp hi;have:=Zjh J (by omega) M (Zdl (of_decide_eq_true e));omega
 unfold WT;rw[this];unfold kvF;rw[bR,aN];rfl
theorem Zjl {fd:T9}{y:T7}(q:y∈fd):fd.findIdx (· == y)<fd.length/\fd.getD (fd.findIdx (· == y)) []=y:=by
 have j:fd.findIdx (· == y)<fd.length:=dD.mpr ⟨y,q,beq_self_eq_true y⟩;refine⟨j,?_⟩;have:=fZ (p:=(· == y)) (w:=j);rw[Zb,Zf j];exact eq_of_beq this
theorem Zlo {fd:T9}(J:fd.Nodup){y:T7}(M:y∈fd):Y0 (kvF fd fd.length) (XZ y)=some (.int (fd.findIdx (· == y):Nat)):=by
 obtain⟨q,p2⟩:=Zjl M;unfold Y0 kvF;rw[List.find?_map];have:(ac fd.length).find? ((λO:List YL×V=>decide (O.1=XZ y)) ∘ λi:Nat=>((XZ (fd.getD i []),V.int (i:Nat)):List YL×V))=some (fd.findIdx (· == y)):=by
  rw[kD];refine⟨decide_eq_true (show XZ (fd.getD (fd.findIdx (· == y)) [])=XZ y by rw[p2]),af.mpr q,λj Y=>?_⟩;rw[dX];refine decide_eq_false λh=>?_;have:=Zjh J (by omega) q ((Zdl h).trans p2.symm);omega
 rw[this];rfl
theorem Zj7 {fd:T9}{i:Nat}(J:i<fd.length):(Wf fd).getD i []=(ac fd.length).map λj=>fd.findIdx (· == XJ (fd.getD i []) (fd.getD j [])):=by
 unfold Wf;rw[Zb,Zc,getL J];show fd.map (λb=>fd.findIdx (· == XJ (fd.getD i []) b))=_;refine a7 λj=>?_;rw[Zc,Zc];by_cases q:j<fd.length
 ·rw[getL q,ah q]
  rfl
 ·rw[ai (by omega),ai (by rw[Zg];omega)]
  rfl
theorem Zed {H:Hp}{L:Addr}{bs:TW}{fd:T9}{Q:VK}(R:TupsAt H L bs fd)(o0:fd.length<64)(n6:∀y∈fd,y≠[])(q:∀D cs O H',Zv H H'->H D=none->TupsAt H' D cs O->Srt O->bM O fd->Q (.ref D) H'):Zem true [.ref L] H Q:=by
 have hl:bs.length=fd.length:=R.2.1;refine⟨L,bs,fd.map nI,rfl,R.1,by rw[hl,Za],by omega,λi a ha=>?_,λD M nD pj hs=>?_⟩
 ·have hi:=(ae.mp ha).1
  have Y:i<fd.length:=by omega
  have h:=R.2.2 i a ha;refine⟨nI (fd.getD i []),by rw[Zc,getL Y];rfl,λz=>?_,?_⟩
  ·refine n6 _ (ZbS Y) ?_
   unfold nI at z;exact List.map_eq_nil_iff.mp z
  ·show H a=some (.tup ((nI (fd.getD i [])).map V.int))
   rw[ZnG];exact h
 ·have hj:∀j∈M,j<fd.length:=λj hj=>by
   have:=af.mp (pj.mem_iff.mp hj);omega
  have s:=Zv.upd (H:=H) (o:=.lst ((M.map λi=>bs.getD i 0).map V.ref)) nD;refine q D (M.map λi=>bs.getD i 0) (M.map λi=>fd.getD i []) _ s nD ⟨Zu,by rw[Za,Za],λi b hb=>?_⟩ ?_ ?_
  ·rw[Zc] at hb
   cases J:M[i]? with
   |none=>rw[J] at hb;cases hb
   |some j=>
    rw[J] at hb;have hb:bs.getD j 0=b:=aB hb;have o5:=hj j (az J);have n8:bs[j]?=some (bs.getD j 0):=by rw[Zb,Zf (show j<bs.length by omega)];rfl
    have:=s _ _ (R.2.2 j _ n8);rw[hb] at this;rw[Zb (l:=M.map _),Zc,J];exact this
  ·unfold Srt
   rw[aK];have e:M.map (nI ∘ λi=>fd.getD i [])=M.map λi=>(fd.map nI).getD i []:=aX λj n9=>by
    show nI (fd.getD j [])=_;rw[Zb (l:=fd.map nI),Zc,getL (hj j n9)];rfl
   rw[e];exact hs
  ·have:=pj.map λi=>fd.getD i []
   rw[hl] at this;have e:(ac fd.length).map (λi=>fd.getD i [])=fd:=by
    refine a7 λi=>?_;rw[Zc];by_cases hi:i<fd.length
    ·rw[ah hi,getL hi];rfl
    ·rw[ai (by rw[Zg];omega),ai (by omega)];rfl
   rwa [e] at this
def Zg4 (H:Hp)(W:Addr):Hp:=λb=>if b=W then none else H b
theorem Zco {H:Hp}{W b:Addr}{o:HO}(h:H b=some o)(hb:b≠W):Zg4 H W b=some o:=by unfold Zg4;rw[if_neg hb];exact h
theorem Zfv {H:Hp}{W b:Addr}{o:HO}(h:Zg4 H W b=some o):b≠W/\H b=some o:=by
 unfold Zg4 at h;by_cases z:b=W
 ·rw[if_pos z] at h;cases h
 ·rw[if_neg z] at h
  exact⟨z,h⟩
end Pm
namespace C46
open PySem L2 PySem.Spec PyProof.Rows
open Tb Pm
structure Zql (k:Nat)(fs:T9):Prop where
 k1:1<=k
 k9:k<=9
 n60:fs.length<=60
 nd:fs.Nodup
 st:Srt fs
 gk:∀g∈fs,Gk k g
 cl:∀a∈fs,∀b∈fs,XJ a b∈fs
inductive Zbi (vs:TV) (H:Hp) (Q:VK) (E03:XK):Prop
 |mk (L:Addr) (bs:TW) (fd fs:T9) (k:Nat):(vs=[.ref L])->(TupsAt H L bs fd)->(fd.Perm fs)->(Zql k fs)->(∀g H',Zv H H'->GT H' g (Wf fs)->Q (.ref g) H')->Zbi vs H Q E03
theorem Zgq (F:WB K "_law_times_of" "_law_times_of" Zeh f fd)(T:BlB mg):Z4 P w K mg base Yg 1 f fd ["_law_perms"] Zbi:=by
 refine F.ok (FS (N:=["_law_perms", "_law_numbers", "_law_things", "_law_k", "_law_rows", "_law_one"])) (λvs H Q E h=>?_) (λp7 A p8 s H vs Q E hr h=>?_)
 ·obtain⟨L,bs,fd,fs,k,rfl,_⟩:=h;rfl
 ·obtain⟨L,bs,fd,fs,k,rfl,R0,pm,Z,q⟩:=h
  have hu:(A.deeper (envOfC "_law_times_of" (Z0 Zeh) s.heap.objs.size f p7)).units+1<cLine:=by have:=hr.un;omega
  refine⟨_,Zs (ZG 1 rfl Zil)
   (Zs (ZG 2 rfl (cb (ZeN true hr.units) T.sorted (pc (vn 0) Zt)))
   (Zs (ZN am rfl (WG T.range (pc (cb (Ym K) T.len (pc (vn 2) Zt)) Zt)) (gn 3)
    (Zw (Xz hu (vn 1) (ZD (WU K) (vn 2) (vn 3) (λ_ _=>rfl)) (vn 3) (by rfl))))
   (Zs (ZG 4 rfl (ZV Zt))
   (Zs (ZN am rfl (itL K (vn 2)) (gnf 5 rfl)
    (Zw (YJ (WH aJ aR aU Yb (vn 4) (pc (ct (Zhk K) T.tuple (pc (cmp ["_law_other"] [1,5] ["_law_other", "_law_numbers", "_law_one"] rfl (itL K (vn 2)) (λ_ _ _ _ _=>gn 0) (λ_ _ _ _ _=>ZP)
     (λ_ _ _ _ _=>Jh hu (vn 1) (ct (tupK K) (by exact T.tuple) (pc (cmp ["_law_place"] [2] ["_law_place", "_law_one"] rfl (itT K (vn 0)) (λ_ _ _ _ _=>gn 0) (λ_ _ _ _ _=>ZP) (λ_ _ _ _ _=>ZD (JE K) (vn 1) (vn 0) (λ_ _=>rfl))) Zt)) (λ_ _=>rfl))) Zt)) Zt)))))
   (Zw (ZE (ct ZX T.tuple (pc (vn 4) Zt)))))))),?_⟩
  have sz:=JL;have u9:=Z.n60;have k1:=Z.k1;have k9:=Z.k9;have fl:=pm.length_eq;intro O o7;have s1:=Zv.upd (H:=H) (o:=.dT []) o7;have n6:upd H O (.dT []) O=some (.dT []):=Zu;generalize upd H O (.dT [])=H1 at s1 n6 ⊢;refine⟨_,rfl,?_⟩;unfold Zhp
  try dsimp only
  refine Zed (R0.mono s1) (by omega) (λy hy z=>?_) λTh cs J H2 s2 q0 R2 hs pz=>?_
  ·have:=(Z.gk y (pm.mem_iff.mp hy)).1
   rw[z] at this;simp at this;omega
  have ez:J=fs:=hs.eq Z.st (pz.trans pm);subst ez;have r6:=s1.trans s2;have o8:=s2 _ _ n6;have r8:O≠Th:=λz=>by rw[z,q0] at n6;cases n6
  have cl:(cs.map V.ref).length=J.length:=by rw[Za,R2.2.1]
  refine⟨_,rfl,Th,_,rfl,.inl (.of R2.1),_,rfl,by rw[cl];omega,by rw[cl];omega,?_⟩;rw[cl,Zj];have kT:∀{Y:Hp},Zv (Zg4 H2 O) Y->TupsAt Y Th cs J:=λ{Y} sm=>⟨sm _ _ (Zco R2.1 (bf r8)),R2.2.1,λi b hb=>sm _ _ (Zco (R2.2.2 i b hb) λz=>by have:=R2.2.2 i b hb;rw[z,o8] at this;cases this)⟩;refine ZT (λi M Y=>∃v3 v4 v5:TU,M=[some (.ref L),some (.ref O),some (.ref Th),v3,v4,v5]/\Zv (Zg4 H2 O) Y/\Y O=some (.dT (kvF J i))) ⟨_,_,_,rfl,λb o hb=>(Zfv hb).2,o8⟩ ?_ ?_
  ·rintro i M H3 hi ⟨v3,v4,v5,rfl,s3,n8⟩
   rw[show (0:Int)+(i:Int)=(i:Int) by omega];have R3:=kT s3;obtain⟨b,hb,r9,t5⟩:=R3.get hi;refine⟨_,rfl,_,rfl,_,rfl,_,rfl,Th,_,_,_,rfl,rfl,.of R3.1,r9,O,_,rfl,VU.T (k:=XZ (J.getD i [])) n8 (by rw[ZiT];exact t5) (by rw[Zlq];omega),?_⟩;rw[Zlp Z.nd hi];refine⟨_,_,_,rfl,λb o hb=>?_,Zu⟩;rw[Zz (Zfv hb).1];exact s3 b o hb
  ·rintro M H3 ⟨v3,v4,v5,rfl,s3,n8⟩
   have R3:=kT s3;have o9:Zv H H3:=λb o hb=>s3 b o (Zco (r6 _ _ hb) λz=>by rw[z,o7] at hb;cases hb);refine⟨JY,λLr n9=>?_⟩;have s4:=Zv.upd (H:=H3) (o:=.lst []) n9;have h4:upd H3 Lr (.lst []) Lr=some (.lst ([]:TV)):=Zu;have w8:H Lr=none:=o9.free n9;generalize upd H3 Lr (.lst [])=H4 at s4 h4 ⊢;have R4:=R3.mono s4;refine⟨_,rfl,Th,rfl,⟨_,.of R4.1⟩,?_⟩;refine WV (H0:=H3) (YV (K:=K) (.of R3.1)) (λi M Y=>∃(rs:TW) (v5:TU),M=[some (.ref L),some (.ref O),some (.ref Th),v3,some (.ref Lr),v5]/\Zv H3 Y/\Y Lr=some (.lst (rs.map V.ref))/\rs.length=i/\∀(j:Nat) x,rs[j]?=some x->Tz Y x (((Wf J).getD j []).map nV))
    ⟨[],_,rfl,s4,h4,rfl,λj x h=>by cases h⟩ (λi M Y h=>by
     obtain⟨_,_,_,sm,_⟩:=h;exact sm) ?_ ?_
   ·rintro i y M H5 hy ⟨rs,v5,rfl,s5,h5,rl,o0⟩
    obtain⟨c,rfl,hi,hc⟩:=R3.ref hy;have R5:=R3.mono s5;have t6:=s5 _ _ hc;have gi:=Z.gk _ (ZbS hi);have mi:=ZbS hi;have et:=Zj7 hi;refine⟨_,rfl,.inl ⟨rfl,_,.of h5⟩,_,rfl,Th,rfl,⟨_,.of R5.1⟩,?_⟩;refine Pm.YZ (YV (K:=K) (.of R5.1)) [some (.ref O),some (.ref c)] rfl (λj=>nV (J.findIdx (· == XJ (J.getD i []) (J.getD j [])))) (by rw[cl];omega) (λj y' t7 H6 s6 R' k6=>?_) (λD6 H6 w9 s6 p3=>?_)
    ·obtain⟨d,rfl,hj,hd⟩:=R5.ref t7
     have gj:=Z.gk _ (ZbS hj);have mj:=ZbS hj;have o5:=s6 _ _ hd;have p4:=s6 _ _ t6;have fin:=k6;generalize J.getD i []=x at gi mi p4 fin;generalize J.getD j []=y at gj mj o5 fin;refine⟨_,rfl,_,rfl,d,rfl,⟨_,.of o5⟩,?_⟩;refine JG (We (K:=K) (.of o5)) [some (.ref c)] rfl (Zjm x) (by rw[Za,gj.1];omega) (λu v H7 hv s7 x0 k7=>?_) (λD7 H7 x9 s7 p6=>?_)
     ·obtain⟨e,he,rfl⟩:=XW hv
      have t8:e<k:=gj.2 e (az he);refine⟨_,rfl,_,rfl,c,_,_,_,rfl,rfl,.of (s7 _ _ p4),Zmo (by rw[gi.1];exact t8),?_⟩;have:=k7 H7 (Zv.refl _);have e2:Zjm x (.int (e:Nat))=nV (x.getD e 0):=by
       show nV (x.getD (e:Int).toNat 0)=_;rw[Zj]
      rw[e2] at this;exact this
     ·rw[Zdt] at p6
      refine⟨D7,_,rfl,.inl ⟨.of p6,λtp t9=>?_⟩⟩;have s8:=s7.trans (Zv.upd (H:=H7) (o:=.tup ((XJ x y).map nV)) t9);have h8:upd H7 tp (.tup ((XJ x y).map nV)) tp=some (.tup ((XJ x y).map nV)):=Zu;generalize upd H7 tp (.tup ((XJ x y).map nV))=H8 at s8 h8 ⊢;have u5:=((s5.trans s6).trans s8) _ _ n8;have dg:=JJ.T (k:=XZ (XJ x y)) u5 (by rw[ZiT];exact h8);rw[Zlo Z.nd (Z.cl x mi y mj)] at dg;exact⟨O,_,rfl,dg,fin H8 s8⟩
    ·rw[cl] at p3
     refine⟨D6,_,rfl,.of p3,λl H7 nl s7 hz=>?_⟩;have o6:=s6.trans s7;have h7:=o6 _ _ h5;refine⟨Lr,_,_,rfl,rfl,h7,by rw[Za,rl];omega,?_⟩;refine⟨rs++[l],_,rfl,(s5.trans o6).updr n9,by rw[Zu,aN];rfl,by rw[Zd,rl];rfl,λj x hx=>?_⟩;by_cases hj:j<rs.length
     ·rw[au hj] at hx
      exact Tz.updL ((o0 j x hx).mono o6) h7
     ·have hl:=(ae.mp hx).1
      rw[Zd,Zk] at hl;have ej:j=rs.length:=by omega
      rw[av (by omega),ej,cC] at hx;cases hx;have ez:((ac J.length).map λj=>nV (J.findIdx (· == XJ (J.getD i []) (J.getD j []))))=((Wf J).getD rs.length []).map nV:=by rw[rl,et,aK];rfl
      rw[ej];rw[ez] at hz;exact Tz.updL hz h7
   ·rintro M H5 ⟨rs,v5,rfl,s5,h5,rl,o0⟩
    rw[cl] at rl;refine⟨_,rfl,Lr,_,rfl,.inl ⟨.of h5,λg ng=>?_⟩⟩;have s6:=Zv.upd (H:=H5) (o:=.tup (rs.map V.ref)) ng;exact q g _ ((o9.trans s5).trans s6) ⟨rs,Zu,by unfold Wf;rw[Za,rl],λi x hx=>(o0 i x hx).mono s6⟩
end C46
namespace Pm
open Tb
def sm1:T9:=[[3,2,2,0],[4,2,3,2],[4,1,1,0],[5,1,1,0],[2,2,1,0],[5,2,4,0],[4,2,3,0]]
def sm2:T9:=[[3,4,2,0],[7,3,2,0],[1,1,1,0],[3,1,1,0],[2,1,1,0],[6,1,1,0],[5,4,2,0]]
def sm3:T9:=[[6,2,5,0],[3,3,1,0],[7,2,6,0],[8,2,3,0],[8,2,7,4],[8,2,7,0],[7,1,1,0]]
def sm4:T9:=[[4,2,1,0],[8,1,1,0],[8,2,5,0],[9,2,8,0],[9,1,1,0],[4,4,3,0]]
def smC:T9:=sm1++sm2++sm3++sm4
def pm3:Y4:=[[[1,2,0,3],[1,0,3,2]],[[1,2,3,0],[1,0,2,3]],[[1,2,3,4,0],[1,2,0,3,4]]]
def pmI:T9:=[[3,7,2,6,1,5,0,4],[5,2,0,6,3,1,7,4]]
def pc1:T9×T9:=([[1,2,0,3],[1,0,3,2]],[[0,1,2,3],[0,2,3,1],[0,3,1,2],[1,0,3,2],[1,2,0,3],[1,3,2,0],[2,0,1,3],[2,1,3,0],[2,3,0,1],[3,0,2,1],[3,1,0,2],[3,2,1,0]])
def pc2:T9×T9:=([[1,2,3,0],[1,0,2,3]],[[0,1,2,3],[0,1,3,2],[0,2,1,3],[0,2,3,1],[0,3,1,2],[0,3,2,1],[1,0,2,3],[1,0,3,2],[1,2,0,3],[1,2,3,0],[1,3,0,2],[1,3,2,0],[2,0,1,3],[2,0,3,1],[2,1,0,3],[2,1,3,0],[2,3,0,1],[2,3,1,0],[3,0,1,2],[3,0,2,1],[3,1,0,2],[3,1,2,0],[3,2,0,1],[3,2,1,0]])
def pc3:T9×T9:=([[3,7,2,6,1,5,0,4],[5,2,0,6,3,1,7,4]],[[0,1,2,3,4,5,6,7],[0,1,3,4,2,7,5,6],[0,1,4,2,3,6,7,5],[1,0,5,7,6,2,4,3],[1,0,6,5,7,4,3,2],[1,0,7,6,5,3,2,4],[2,5,1,4,7,0,3,6],[2,5,4,7,1,6,0,3],[2,5,7,1,4,3,6,0],[3,7,1,2,6,0,4,5],[3,7,2,6,1,5,0,4],[3,7,6,1,2,4,5,0],[4,6,1,3,5,0,2,7],[4,6,3,5,1,7,0,2],[4,6,5,1,3,2,7,0],[5,2,0,6,3,1,7,4],[5,2,3,0,6,7,4,1],[5,2,6,3,0,4,1,7],[6,4,0,7,2,1,5,3],[6,4,2,0,7,5,3,1],[6,4,7,2,0,3,1,5],[7,3,0,5,4,1,6,2],[7,3,4,0,5,6,2,1],[7,3,5,4,0,2,1,6]])
noncomputable def pc4:T9×T9:=([[1,2,3,4,0],[1,2,0,3,4]],[[0,1,2,3,4],[0,1,3,4,2],[0,1,4,2,3],[0,2,1,4,3],[0,2,3,1,4],[0,2,4,3,1],[0,3,1,2,4],[0,3,2,4,1],[0,3,4,1,2],[0,4,1,3,2],[0,4,2,1,3],[0,4,3,2,1],[1,0,2,4,3],[1,0,3,2,4],[1,0,4,3,2],[1,2,0,3,4],[1,2,3,4,0],[1,2,4,0,3],[1,3,0,4,2],[1,3,2,0,4],[1,3,4,2,0],[1,4,0,2,3],[1,4,2,3,0],[1,4,3,0,2],[2,0,1,3,4],[2,0,3,4,1],[2,0,4,1,3],[2,1,0,4,3],[2,1,3,0,4],[2,1,4,3,0],[2,3,0,1,4],[2,3,1,4,0],[2,3,4,0,1],[2,4,0,3,1],[2,4,1,0,3],[2,4,3,1,0],[3,0,1,4,2],[3,0,2,1,4],[3,0,4,2,1],[3,1,0,2,4],[3,1,2,4,0],[3,1,4,0,2],[3,2,0,4,1],[3,2,1,0,4],[3,2,4,1,0],[3,4,0,1,2],[3,4,1,2,0],[3,4,2,0,1],[4,0,1,2,3],[4,0,2,3,1],[4,0,3,1,2],[4,1,0,3,2],[4,1,2,0,3],[4,1,3,2,0],[4,2,0,1,3],[4,2,1,3,0],[4,2,3,0,1],[4,3,0,2,1],[4,3,1,0,2],[4,3,2,1,0]])
noncomputable def psC:List (T9×T9):=[pc1,pc2,pc3,pc4]
def twX (x:T7):T9:=twT (x.getD 0 0) (x.getD 1 0) (x.getD 2 0) (x.getD 3 0)
def a5D:T7:=ZgT 298 0xe2fd6c873923b697556d39ee7e5796a9164c9926902d8d32dce2465cf2883451c40bae7b8a0adc528c70d83040041040000000040000001040041001001040040001001001001001001001001001001000040040041001001036c70badae59238e281f79d6da6596185d65955134924514103ce34d30c2cb2892081c7185144103082041000e7beb2c70e36df5cf4b6fba6964b2aae99e82ca2481c61440c20408e18a079f69961d71b5d559449338d31140f8e28607de75c6da658e37dbbeb9d35cf1cb0b2baafbada299e59a44503d65d54d448c38d1440ca2c91c8180081
def a5G:T7:=a5D.take 60
def a5H:T7:=(a5D.drop 60).take 60
def a5R:T7->T7->T9->T9
 |p::j,w::q,ZJ=>a5R j q (ZJ++[(ZJ.getD p []).map λy=>(if w=0 then a5G else a5H).getD y 0])
 |_,_,ZJ=>ZJ
def tA5:T9:=(a5D.drop 238).map λk=>(a5R ((a5D.drop 120).take 59) ((a5D.drop 179).take 59) [ac 60]).getD k []
def tbC:Y4:=smC.map twX++[Wf pc1.2,Wf pc2.2,Wf pc3.2,tA5]
def ivM (p x:Nat):Nat:=((ac p).find? λy=>y*x % p == 1).getD 0
def ZpN (N p:Nat)(bs J j q:T7)(E:T9):T9:=(ac j.length).map λs=>(ac j.length).map λc=>N*VR E s (J.getD (bs.getD (j.getD c 0) 0) 0)*ivM p (q.getD s 0*q.getD s 0 % p) % p
def Zrs (p:Nat)(j:T7)(F:T9):T9:=F.map λr=>(ac r.length).map λc=>r.getD c 0*(j.filter (· == c)).length % p
def Zru (N n p z:Nat)(bs cl rp dg:T7)(E:T9):T7×Dt:=(bs,⟨n,p,z,cl,rp,E,Zrs p cl (ZpN N p bs cl rp dg E),ZpN N p bs cl rp dg E,dg⟩)
def Zrt (x:Nat):T7×Dt:=match ZgT 5 x with
 | [N,m,n,p,z]=>let r:=ZgT (2*N+2*m+m*m) (x / 1073741824);Zru N n p z (r.take N) ((r.drop N).take N) ((r.drop (2*N)).take m) (r.drop (2*N+m+m*m)) (rwL m m (r.drop (2*N+m)))
 |_=>([],⟨0,0,0,[],[],[],[],[],[]⟩)
noncomputable def Zdw:List (T7×Dt):=[
 0x810420031861860460810010810810050831010031c60c6,
 0x81041046000007145145145208145148148145148205103081003081103081003081107185005344148,
 0x1041044104103042102043101101103081003081001083002144104,
 0x410410492492491440432430441490450c42440c50491030810040c20400420c40032c5145,
 0x1041044104101044101101104041103081003081003081004142104,
 0x20810481401c52001ca28a28a2812840810010810c10c10810090871051832010022ca10a,
 0x81041046000007145145145208145148148145148205103081003081103081007085103181005344148,
 0x208104104208024024b08010024130804530c30c30c30c30130130130504830610308100314110314110308100918b10528720108300234c18c,
 0xc3041055700019715000669a69a69a6939fa69a5f3a92430810020440811020430811020430810c20401ce0cd1464d124420c2943d02d2042009ad5155,
 0x410000010c1041,
 0x410451450c61460c50810020400420021c30c3,
 0x10420810810010010020c2082,
 0x10410410461861861850c61431841410c21831460c51820c11441811811811851030810051030810010831050031c6186,
 0x1010410480000099d70929e79e79e79c29c29e74825e710308100308110308110308110308110308100948f11138720529330d18b401083002a54154,
 0x20810410420401801450400401430c30c30c40c41030c30c40c40c40c31040c610308100308110314110308100b0891071852032810031c618c,
 0x410410410410441041041041040410420821041020820410441040421010840421021011010810841010821010421020440811020441020411020811011021020420442071851030810081c61440c20401050c72060420021c3249,
 0x8208104f05101544f04054144f0156db6db6db6db09b1840810010810c11011010c108100d08b10918720528330100474e14e,
 0x8208104104034400000d0c400038034e10000300d41041041040141004141041040140140141040105028810308100318110318114308110308100708d10318920f28530b3810024481d0,
 0x8208104104d00400000d10c00014034414000c00d41041041041005004141041040140141005040105020610308100308110314118314110308100708510318120f28d30b3890024481d0,
 0x8208104104d00400000d10c00014034414000c00d41041041041005004141041040140141005040105020610308100308110314118314110308100f08d10b1892072853033810024481d0,
 0x410410410596596596590475185d06575014181d91d84015176580571d05195101d70586505d85070591851030810061440c20400420c41460077471c7,
 0x104104104104514514514514c30820104514104820c30514820514820514814814814814130520c04814c045201308145208145208147185103081007185103081003085107181005344208,
 0x104104104104f3cf3cf3cf3cd2410842103c90883c90883c120d0902443d020408124d3c80893c80893c425008d2013c23c23c23c23c7185103081007185103081001083105187002448208,
 0x208104104104104110000040000035010000004000035041041041041040140d34104411040140410104d35041040105040105041040140140140140140435004d10140140d11004434141041004141004140c20718510308100718524308120718510308100b08510f18920328d307381002448290,
 0x20820810410853403cd0811403c508d0403c23c20803d24924924924924814881840810010810c11011411411010c108101108f10d18b2092873053834010024d2192,
 0x410410410410514514514514512c61411101c94491d01011462d11c414b2500464454111504454110491471902c44501514054501511814092c51074442d01871490512071851030810081c61440c20400420c41461c80044c9249,
 0x20810410410410430c000000028028a0c00000000c028924924924924924924410410924924424710624710624424624710710624424610724610724424724610610724924424424424424924910910424424a20718510308100718510324120718510308100d18f10928b205387301083005344290,
 0x30410450001831850c31460c30c30c30810030420c204108308100b1c520a1091830420031c610c,
 0x830410c02c100b2080050861861861c61871852002022470c10031010821040c20440821040830410820410174553cb25641438a2133523071850c408100234c158,
 0xc108204204800008000218618618618010a08324b00a1022432c614218214600c3020412c608518508618510308100418118110110614608608508518510308100e2c834a1cc2465d44564d05523c414304200234c1d8,
 0xc310115b49100b49b4402c20807573cf3cf3c000d4834500c10020c31021020411010c21040c20c20410c11030c21040810420c40430441010c40c108208204108104104204103bb23bb77f5a1d51642fe20eab8a9d1c5d3479aa1b767b39db4953e6c59ca56a4c1838d30b1c520a1091830420037de17c].map Zrt
def d0:T7×Dt:=([],⟨0,0,0,[],[],[],[],[],[]⟩)
noncomputable def okB (i:Nat):Bool:=pwB (tbC.getD i []) && tdB (tbC.getD i []) (Zdw.getD i d0).1 (Zdw.getD i d0).2
theorem okC:∀i,i<31->okB i=true
 |0,_|1,_|2,_|3,_|4,_|5,_|6,_|7,_|8,_|9,_|10,_|11,_|12,_|13,_|14,_|15,_|16,_|17,_|18,_|19,_|20,_|21,_|22,_|23,_|24,_|25,_|26,_|27,_|28,_|29,_|30,_=>by decide +kernel
 |n+31,h=>by omega
theorem ZmU:Wf pc4.2=tA5:=by decide +kernel
def MkC (t:T9):Prop:=t∈tbC
end Pm
namespace Pm
open PySem L2 PySem.Spec PyProof.Rows
open Tb
theorem Zig {op:lx}{r:R2}{a b:Expr}{j tb:TE}{pos:Pos}(q:VC X (binaryOp op) r)(J:PE X a j)(hb:QE X b tb):QE X (.BinOp a op b pos) (tOp r j tb):=⟨Zy q J hb.h⟩
theorem Zpm {o i e:Expr}{to ti te:TE}{q j M:Pos}(ho:PE X o to)(hi:QE X i ti)(he:QE X e te)(n8:WA i=true:=by rfl)(n9:WA e=true:=by rfl)
  (O:attributeBase o "insert" X.env (eval o X.env)=eval o X.env:=by rfl)
  (n6:((backTo j (starEach [i,e] X.env)).all (λx=>!x.1) && (backToKw j (keywordEach [] X.env)).all (λx=>x.1.isSome)
   && decide (([i,e]:List Expr).length+([]:List Keyword).length+(if ([]:List Keyword).isEmpty then 0 else 1)<30))=true:=by rfl)
  (Y:(q.endLine == j.line)=true:=by rfl) (hs:starEach [i,e] X.env=(false,eval i X.env)::starEach [e] X.env:=by rfl) (J:(backTo j (starEach [e] X.env)).any (·.1)=false:=by rfl)
  (o0:swapsWith (.Call (.Attribute o "insert" q) [i,e] [] j) none M.line X.env=pure false:=by rfl) :
  QS X (.Expr (.Call (.Attribute o "insert" q) [i,e] [] j) M) (Zl7 (tBM X.K "list" ZbG to (Uy ti (Uy te Zhp)))):=⟨YJ (WH aJ lz PySem.F.type_list_insert ZgB ho (pc hi.h (pc he.h Zt n9) n8) O n6 Y hs J) o0⟩
theorem g4 (K:aa)(i j k l:Nat){X:Cx}{x y z u:Str}{n}{q J M O pos:Pos}(hc:X.calm=true)(hx:PG X (.Name x q) (Yj i))(hy:PG X (.Name y J) (Yj j))(hz:PG X (.Name z M) (Yj k))(hu:PG X (.Name u O) (Yj l))(hK:X.K=K:=by rfl)
  (hn:(assignEach [.Name x q,.Name y J,.Name z M,.Name u O] X.env).length=4:=by rfl) (Y:(assignEach [.Name x q,.Name y J,.Name z M,.Name u O] X.env).findIdx? (·.1)=none:=by rfl) :
  PG X (.Tuple [.Name x q,.Name y J,.Name z M,.Name u O] n pos) (ZgN K 4 (JW (Yj i) (JW (Yj j) (JW (Yj k) (JW (Yj l) ZgO))))):=hK▸ZbJ hc (YE hx (YE hy (YE hz (YE hu Uk)))) hn Y
def Zcv (H:Hp)(M:Addr)(ls:TW)(j:Y4):Prop:=H M=some (.lst (ls.map V.ref))/\ls.length=j.length/\∀(i:Nat) l,ls[i]?=some l->l≠M/\∃bs,TupsAt H l bs (j.getD i [])
theorem Zcv.mono {H j:Hp}{M:Addr}{ls:TW}{mn:Y4}(s:Zv H j)(h:Zcv H M ls mn):Zcv j M ls mn:=
 ⟨s _ _ h.1,h.2.1,λi l q=>let ⟨a,bs,b⟩:=h.2.2 i l q;⟨a,bs,b.mono s⟩⟩
theorem TupsAt.updM {H:Hp}{L M:Addr}{bs:TW}{yss:T9}{vs:TV}{o:HO}(R:TupsAt H L bs yss)(j:H M=some (.lst vs))(q:L≠M):TupsAt (upd H M o) L bs yss:=
 ⟨by rw[Zz q];exact R.1,R.2.1,λi b hb=>by
  have:=R.2.2 i b hb;rw[Zz (λz=>by rw[z,j] at this;cases this)];exact this⟩
theorem TupsAt.cat {H:Hp}{L1 L2 N:Addr}{j J:TW}{M O:T9}(q:TupsAt H L1 j M)(R2:TupsAt H L2 J O)(nN:H N=none):TupsAt (upd H N (.lst (j.map V.ref++J.map V.ref))) N (j++J) (M++O):=by
 have s:=Zv.upd (H:=H) (o:=.lst (j.map V.ref++J.map V.ref)) nN;refine⟨by rw[Zu,aN],by rw[Zd,Zd,q.2.1,R2.2.1],λi b hb=>?_⟩;by_cases Y:i<j.length
 ·rw[au Y] at hb
  rw[Zb,au (by rw[<-q.2.1];exact Y),<-Zb];exact s _ _ (q.2.2 i b hb)
 ·rw[av (by omega)] at hb
  rw[Zb,av (by rw[<-q.2.1];omega),<-Zb,<-q.2.1];exact s _ _ (R2.2.2 _ b hb)
def gkB (k:Nat)(y:T7):Bool:=decide (y.length=k) && y.all λx=>decide (x<k)
theorem Zmw {k:Nat}{y:T7}(h:gkB k y=true):Gk k y:=by
 unfold gkB at h;rw[ag,decide_eq_true_eq,aD] at h;exact⟨h.1,λx j=>of_decide_eq_true (h.2 x j)⟩
def ndB:T9->Bool
 | []=>true
 |x::r=>!r.contains x && ndB r
theorem Zmp:∀{xs:T9},ndB xs=true->xs.Nodup
 | [],_=>eA
 |x::r,h=>by
  unfold ndB at h;rw[ag,dX] at h;refine bS.mpr ⟨λj=>?_,Zmp h.2⟩;rw[aA.mpr j] at h;cases h.1
theorem ZnZ {q:T9}(Y:PW (Wf q)):∀a∈q,∀b∈q,XJ a b∈q:=by
 intro a ha b hb;obtain⟨i,hi⟩:=bn ha;obtain⟨j,O⟩:=bn hb;have J:(Wf q).length=q.length:=by unfold Wf;rw[Za]
 have il:=(ae.mp hi).1;have jl:=(ae.mp O).1;have h:=Y.lt i j (by rw[J];exact il) (by rw[J];exact jl);have e:ZO (Wf q) i j=q.findIdx (· == XJ a b):=by
  unfold ZO Wf;rw[Zb,Zb,Zc,hi];show (Option.getD (q.map _)[j]? 0)=_;rw[Zc,O];rfl
 rw[e,J] at h;obtain⟨x,hx,M⟩:=dD.mp h;rw[<-eq_of_beq M];exact hx
def Zke:T9->Bool
 | []=>true
 |x::r=>(r.all λy=>!PyZ.JZ (nI y) (nI x)) && Zke r
theorem Zhu:∀{xs:T9},Zke xs=true->Srt xs
 | [],_=>eO
 |x::r,h=>by
  unfold Zke at h;rw[ag,aD] at h;refine List.Pairwise.cons (λy j=>?_) (Zhu h.2);obtain⟨z,q,rfl⟩:=aE.mp j;have:=h.1 z q;simpa using this
theorem ZbR {t:T9}(h:MkC t):PW t:=by
 obtain⟨i,hi⟩:=bn h;have J:=(ae.mp hi).1;have j:tbC.length=31:=by decide +kernel
 have:=okC i (by omega);unfold okB at this;have q:tbC.getD i []=t:=by rw[Zb,hi];rfl
 rw[q,ag] at this;exact Zm9 this.1
end Pm
namespace C46
open PySem L2 PySem.Spec PyProof.Rows
open Tb Pm
def pcB (x:T9×T9):Bool:=
 let k:=(x.1.getD 0 []).length
 decide (1<=k) && decide (k<=9) && decide (1<=x.1.length) && decide (x.1.length<=9) && x.1.all (gkB k) && decide ((bfs x.1 61 0 [ac k]).length<=60) && (bfs x.1 61 0 [ac k]).isPerm x.2 && decide (x.2.length<=60) && ndB x.2 && Zke x.2 && x.2.all (gkB k)
theorem Zne:psC.all pcB=true:=by decide +kernel
theorem Zgh {x:T9×T9}(j:x∈psC):x=pc1\/x=pc2\/x=pc3\/x=pc4:=by
 unfold psC at j;rcases aF.mp j with h|h
 ·exact .inl h
 rcases aF.mp h with h|h
 ·exact .inr (.inl h)
 rcases aF.mp h with h|h
 ·exact .inr (.inr (.inl h))
 ·exact .inr (.inr (.inr (aQ.mp h)))
theorem in1:pc1∈psC:=ar
theorem in2:pc2∈psC:=ao _ ar
theorem in3:pc3∈psC:=ao _ (ao _ ar)
theorem in4:pc4∈psC:=ao _ (ao _ (ao _ ar))
theorem tb1:Wf pc1.2∈[Wf pc1.2,Wf pc2.2,Wf pc3.2,tA5]:=ar
theorem tb2:Wf pc2.2∈[Wf pc1.2,Wf pc2.2,Wf pc3.2,tA5]:=ao _ ar
theorem tb3:Wf pc3.2∈[Wf pc1.2,Wf pc2.2,Wf pc3.2,tA5]:=ao _ (ao _ ar)
theorem tb4:tA5∈[Wf pc1.2,Wf pc2.2,Wf pc3.2,tA5]:=ao _ (ao _ (ao _ ar))
theorem Zij (x:T9×T9)(j:x∈psC):MkC (Wf x.2):=by
 rcases Zgh j with h|h|h|h
 ·rw[h];exact aO _ tb1
 ·rw[h];exact aO _ tb2
 ·rw[h];exact aO _ tb3
 ·rw[h,ZmU];exact aO _ tb4
theorem Znf {x:T9×T9}(M:x∈psC):∃k fd,ByC k x.1 fd/\fd.Perm x.2/\Zql k x.2:=by
 have:=aD.mp Zne x M;unfold pcB at this;simp only[ag,decide_eq_true_eq,aD] at this;obtain⟨⟨⟨⟨⟨⟨⟨⟨⟨⟨O,Y⟩,h3⟩,h4⟩,h5⟩,h6⟩,h7⟩,h8⟩,h9⟩,j⟩,q⟩:=this;have P:=ZbR (Zij x M);exact⟨(x.1.getD 0 []).length,bfs x.1 61 0 [ac (x.1.getD 0 []).length],⟨O,Y,h3,h4,λg J=>Zmw (h5 g J),rfl,h6⟩,List.isPerm_iff.mp h7,⟨O,Y,h8,Zmp h9,Zhu j,λg J=>Zmw (q g J),ZnZ P⟩⟩
def smB (x:T7):Bool:=decide (x.length=4) && decide (1<=x.getD 0 0) && decide (1<=x.getD 1 0) && decide (x.getD 0 0<=60) && decide (x.getD 1 0<=60) && decide (x.getD 0 0*x.getD 1 0<=60) && decide (x.getD 2 0<=60) && decide (x.getD 3 0<=60)
theorem ZmX:smC.all smB=true:=by decide +kernel
theorem Zro {x:T7}(h:x.length=4):x.map nV=[.int (x.getD 0 0:Nat),.int (x.getD 1 0:Nat),.int (x.getD 2 0:Nat),.int (x.getD 3 0:Nat)]:=by
 match x,h with
 | [a,b,c,d],_=>rfl
noncomputable abbrev ZhU:Stmt:=tq 36
inductive UF (vs:TV) (H:Hp) (Q:VK) (E03:XK):Prop
 |mk (p q:Addr) (b:Nat) (ms:Nat):(vs=[.ref p,.int ms])->(WM H p q b)->(b<2 ^ 60)->(1<=ms)->(ms<=31)->(∀g t H',Tk p H H'->WM H' p q (b+1)->GT H' g t->MkC t->Q (.ref g) H')->UF vs H Q E03
theorem ZgK {j:TE}{v:V}{σ:L2.St}{H:Hp}{Q:TV->Hp->Prop}(h:j σ H λx q=>Q [v,x] q):Uy (tC v) (Uy j Zhp) σ H Q:=h
structure Wl (p:Prop):Prop where
 h:p
theorem ZlO {X:Cx}{j:List Stmt}{D:WZ}{σ:L2.St}{H:Hp}{t:TS}(h:QSs X j t)(k:Wl (t D σ H)):∃t,PSs X j t/\t D σ H:=⟨t,h.h,k.h⟩
theorem Zgt (F:WB K "_law_group" "_law_group" ZhU f fd)(T:BlB mg)(GD:Fn P w K mg base Yg 1 "_law_draw" ["_law_feed_here", "_law_many"] UG)(p8:Fn P w K mg base Yg 1 "_law_twisted" ["_law_m", "_law_k", "_law_r", "_law_c"] Zbh)(q0:Fn P w K mg base Yg 1 "_law_by_perms" ["_law_perms"] ZhF)(r6:Fn P w K mg base Yg 1 "_law_times_of" ["_law_perms"] Zbi):Z4 P w K mg base Yg 2 f fd ["_law_feed_here", "_law_most"] UF:=by
 refine F.ok (FS (N:=["_law_feed_here", "_law_most", "_law_some", "_law_at", "_law_m", "_law_k", "_law_r", "_law_c", "_law_perms"])) (λvs H Q E h=>?_) (λcdv A r8 s H vs Q E hr h=>?_)
 ·obtain⟨p,q,b,ms,rfl,_⟩:=h;rfl
 ·obtain⟨p,q,b,ms,rfl,T0,hb,m1,m31,k⟩:=h
  refine ZlO (Xb (ZcZ 2 rfl (VW (Xa (Yi [3,2,2,0] (qa qi (qa qi (qa qi (qa qi ZU)))) (by rfl)) (Xa (Yi [4,2,3,2] (qa qi (qa qi (qa qi (qa qi ZU)))) (by rfl)) (Xa (Yi [4,1,1,0] (qa qi (qa qi (qa qi (qa qi ZU)))) (by rfl)) (Xa (Yi [5,1,1,0] (qa qi (qa qi (qa qi (qa qi ZU)))) (by rfl)) (Xa (Yi [2,2,1,0] (qa qi (qa qi (qa qi (qa qi ZU)))) (by rfl)) (Xa (Yi [5,2,4,0] (qa qi (qa qi (qa qi (qa qi ZU)))) (by rfl)) (Xa (Yi [4,2,3,0] (qa qi (qa qi (qa qi (qa qi ZU)))) (by rfl)) Jg)))))))))
   (Xb (ZcZ 2 rfl (Zig VF (vn 2) (VW (Xa (Yi [3,4,2,0] (qa qi (qa qi (qa qi (qa qi ZU)))) (by rfl)) (Xa (Yi [7,3,2,0] (qa qi (qa qi (qa qi (qa qi ZU)))) (by rfl)) (Xa (Yi [1,1,1,0] (qa qi (qa qi (qa qi (qa qi ZU)))) (by rfl)) (Xa (Yi [3,1,1,0] (qa qi (qa qi (qa qi (qa qi ZU)))) (by rfl)) (Xa (Yi [2,1,1,0] (qa qi (qa qi (qa qi (qa qi ZU)))) (by rfl)) (Xa (Yi [6,1,1,0] (qa qi (qa qi (qa qi (qa qi ZU)))) (by rfl)) (Xa (Yi [5,4,2,0] (qa qi (qa qi (qa qi (qa qi ZU)))) (by rfl)) Jg))))))))))
   (Xb (ZcZ 2 rfl (Zig VF (vn 2) (VW (Xa (Yi [6,2,5,0] (qa qi (qa qi (qa qi (qa qi ZU)))) (by rfl)) (Xa (Yi [3,3,1,0] (qa qi (qa qi (qa qi (qa qi ZU)))) (by rfl)) (Xa (Yi [7,2,6,0] (qa qi (qa qi (qa qi (qa qi ZU)))) (by rfl)) (Xa (Yi [8,2,3,0] (qa qi (qa qi (qa qi (qa qi ZU)))) (by rfl)) (Xa (Yi [8,2,7,4] (qa qi (qa qi (qa qi (qa qi ZU)))) (by rfl)) (Xa (Yi [8,2,7,0] (qa qi (qa qi (qa qi (qa qi ZU)))) (by rfl)) (Xa (Yi [7,1,1,0] (qa qi (qa qi (qa qi (qa qi ZU)))) (by rfl)) Jg))))))))))
   (Xb (ZcZ 2 rfl (Zig VF (vn 2) (VW (Xa (Yi [4,2,1,0] (qa qi (qa qi (qa qi (qa qi ZU)))) (by rfl)) (Xa (Yi [8,1,1,0] (qa qi (qa qi (qa qi (qa qi ZU)))) (by rfl)) (Xa (Yi [8,2,5,0] (qa qi (qa qi (qa qi (qa qi ZU)))) (by rfl)) (Xa (Yi [9,2,8,0] (qa qi (qa qi (qa qi (qa qi ZU)))) (by rfl)) (Xa (Yi [9,1,1,0] (qa qi (qa qi (qa qi (qa qi ZU)))) (by rfl)) (Xa (Yi [4,4,3,0] (qa qi (qa qi (qa qi (qa qi ZU)))) (by rfl)) Jg)))))))))
   (Xb ⟨ZG 3 rfl (Wn GD hr ZM (pc (vn 0) (pc (vn 1) Zt)))⟩
   (Xb ⟨Y3 (ZL Zc5 (vn 3) (cb (Ym K) T.len (pc (vn 2) Zt)) (ZR _))
    (Zs (Jp (ZD (WU K) (vn 2) (vn 3) (λ_ _=>rfl)) (g4 K 4 5 6 7 rfl (gn 4) (gn 5) (gn 6) (gn 7)))
    (Zw (ZE (Wn p8 hr ZM (pc (vn 4) (pc (vn 5) (pc (vn 6) (pc (vn 7) Zt)))))))) Ya⟩
   (Xb (ZcZ 8 rfl (Zq4 (qal (VW (Xa (Yi [1,2,0,3] (qa qi (qa qi (qa qi (qa qi ZU)))) (by rfl)) (Xa (Yi [1,0,3,2] (qa qi (qa qi (qa qi (qa qi ZU)))) (by rfl)) Jg))) (qal (VW (Xa (Yi [1,2,3,0] (qa qi (qa qi (qa qi (qa qi ZU)))) (by rfl)) (Xa (Yi [1,0,2,3] (qa qi (qa qi (qa qi (qa qi ZU)))) (by rfl)) Jg))) (qal (VW (Xa (Yi [1,2,3,4,0] (qa qi (qa qi (qa qi (qa qi (qa qi ZU))))) (by rfl)) (Xa (Yi [1,2,0,3,4] (qa qi (qa qi (qa qi (qa qi (qa qi ZU))))) (by rfl)) Jg))) Zkv)))))
   (Xb (Zpm (vn 8) qi (VW (Xa (Yi [3,7,2,6,1,5,0,4] (qa qi (qa qi (qa qi (qa qi (qa qi (qa qi (qa qi (qa qi ZU)))))))) (by rfl)) (Xa (Yi [5,2,0,6,3,1,7,4] (qa qi (qa qi (qa qi (qa qi (qa qi (qa qi (qa qi (qa qi ZU)))))))) (by rfl)) Jg))))
   ⟨Zw (ZE (Wn r6 hr ZM (pc (Wn q0 hr ZM (pc (ZD (WU K) (vn 8) (Zy YB (vn 3) (cb (Ym K) T.len (pc (vn 2) Zt))) (λ_ _=>rfl)) Zt)) Zt)))⟩)))))))) ?_
  refine⟨?_⟩;have sz:=JL;refine Vl (J5 sm1 (by decide) (by decide) λO H1 s1 l1 i1 S1 n1=>?_);have t1:=s1.trans (Zv.upd (o:=.lst (O.map V.ref)) n1);have R1:TupsAt (upd H1 S1 (.lst (O.map V.ref))) S1 O sm1:=⟨Zu,l1,λi b hb=>Zv.upd (o:=.lst (O.map V.ref)) n1 _ _ (i1 i b hb)⟩;generalize upd H1 S1 (.lst (O.map V.ref))=G1 at t1 R1 ⊢;refine Vl ⟨_,rfl,J5 sm2 (by decide) (by decide) λY H2 s2 l2 i2 S2 n2=>?_⟩;have t2:=s2.trans (Zv.upd (o:=.lst (Y.map V.ref)) n2);have R2:TupsAt (upd H2 S2 (.lst (Y.map V.ref))) S2 Y sm2:=⟨Zu,l2,λi b hb=>Zv.upd (o:=.lst (Y.map V.ref)) n2 _ _ (i2 i b hb)⟩;generalize upd H2 S2 (.lst (Y.map V.ref))=G2 at t2 R2 ⊢;have n9:=R1.mono t2;refine⟨S1,S2,_,_,rfl,rfl,n9.1,R2.1,by rw[Za,Za,n9.2.1,R2.2.1];decide,λN2 m2=>?_⟩;have u2:=(t1.trans t2).trans (Zv.upd (o:=.lst (O.map V.ref++Y.map V.ref)) m2);have Q2:=n9.cat R2 m2;generalize upd G2 N2 (.lst (O.map V.ref++Y.map V.ref))=J2 at u2 Q2 ⊢;refine Vl ⟨_,rfl,J5 sm3 (by decide) (by decide) λb3 H3 s3 l3 i3 S3 n3=>?_⟩;have t3:=s3.trans (Zv.upd (o:=.lst (b3.map V.ref)) n3);have R3:TupsAt (upd H3 S3 (.lst (b3.map V.ref))) S3 b3 sm3:=⟨Zu,l3,λi b hb=>Zv.upd (o:=.lst (b3.map V.ref)) n3 _ _ (i3 i b hb)⟩;generalize upd H3 S3 (.lst (b3.map V.ref))=G3 at t3 R3 ⊢;have o0:=Q2.mono t3;refine⟨N2,S3,_,_,rfl,rfl,o0.1,R3.1,by rw[Za,Za,o0.2.1,R3.2.1];decide,λN3 m3=>?_⟩;have u3:=(u2.trans t3).trans (Zv.upd (o:=.lst ((O++Y).map V.ref++b3.map V.ref)) m3);have Q3:=o0.cat R3 m3;generalize upd G3 N3 (.lst ((O++Y).map V.ref++b3.map V.ref))=J3 at u3 Q3 ⊢;refine Vl ⟨_,rfl,J5 sm4 (by decide) (by decide) λb4 H4 s4 l4 i4 S4 n4=>?_⟩;have t4:=s4.trans (Zv.upd (o:=.lst (b4.map V.ref)) n4);have R4:TupsAt (upd H4 S4 (.lst (b4.map V.ref))) S4 b4 sm4:=⟨Zu,l4,λi b hb=>Zv.upd (o:=.lst (b4.map V.ref)) n4 _ _ (i4 i b hb)⟩;generalize upd H4 S4 (.lst (b4.map V.ref))=G4 at t4 R4 ⊢;have o5:=Q3.mono t4;refine⟨N3,S4,_,_,rfl,rfl,o5.1,R4.1,by rw[Za,Za,o5.2.1,R4.2.1];decide,λN4 m4=>?_⟩;have u4:=(u3.trans t4).trans (Zv.upd (o:=.lst ((O++Y++b3).map V.ref++b4.map V.ref)) m4);have Q4:TupsAt _ N4 (O++Y++b3++b4) smC:=o5.cat R4 m4;generalize upd G4 N4 (.lst ((O++Y++b3).map V.ref++b4.map V.ref))=J4 at u4 Q4 ⊢;generalize O++Y++b3++b4=bs at Q4;have T4:=T0.mono u4;have r9:smC.length=27:=by decide
  refine⟨_,rfl,_,rfl,p,q,_,b,rfl,T4,hb,by omega,by omega,λr H5 r0 r1 k5 T5=>?_⟩;obtain⟨j,rfl⟩:=cG r0;have Q5:TupsAt H5 N4 bs smC:=⟨k5.lst T4 Q4.1,Q4.2.1,λi b hb=>k5.tup T4 (Q4.2.2 i b hb)⟩;have kk:=(Tk.of u4).trans k5;have bl:(bs.map V.ref).length=27:=by rw[Za,Q5.2.1,r9]
  refine⟨_,rfl,_,rfl,N4,_,rfl,.inl (.of Q5.1),_,_,rfl,rfl,_,rfl,?_⟩;rw[bl];refine Ye (λhl=>?_) (λhl=>?_)
  ·have hj:j<27:=by
    have:=of_decide_eq_true hl;omega
   have o9:j<smC.length:=by omega
   obtain⟨a,ha,o6,o7⟩:=Q5.get o9;have hm:smC.getD j []∈smC:=ZbS o9;have hs:=aD.mp ZmX _ hm;unfold smB at hs;simp only[ag,decide_eq_true_eq] at hs;obtain⟨⟨⟨⟨⟨⟨⟨x1,x2⟩,x3⟩,x4⟩,x5⟩,x6⟩,x7⟩,x8⟩:=hs;have p3:MkC (twX (smC.getD j [])):=cg _ (aE.mpr ⟨_,hm,rfl⟩);generalize smC.getD j []=x at o7 hm x1 x2 x3 x4 x5 x6 x7 x8 p3;rw[Zro x1] at o7;refine⟨_,rfl,_,rfl,N4,_,_,_,rfl,rfl,.of Q5.1,o6,a,_,rfl,.of o7,rfl,_,_,rfl,_,_,rfl,_,_,rfl,_,_,rfl,rfl,?_⟩;refine⟨_,rfl,_,rfl,_,rfl,_,rfl,x.getD 0 0,x.getD 1 0,x.getD 2 0,x.getD 3 0,rfl,x2,x3,x4,x5,x6,x7,x8,λg H6 s6 G6=>?_⟩;exact k g _ H6 (kk.trans (Tk.of s6)) (T5.mono s6) G6 p3
  ·have hj:27<=j:=by
    have:¬((j:Int)<((27:Nat):Int)):=λz=>hl (decide_eq_true z);omega
   have t5:j-27<4:=by omega
   refine Vl (Zhq pm3 (by decide) (by decide) λls H6 s6 t6 t7 M hM=>?_);have s7:=s6.trans (Zv.upd (H:=H6) (o:=.lst (ls.map V.ref)) hM);have m7:Zcv (upd H6 M (.lst (ls.map V.ref))) M ls pm3:=⟨Zu,t6,λi l hl=>by
    obtain⟨u1,cs,u2⟩:=t7 i l hl;refine⟨λz=>?_,cs,u2.mono (Zv.upd hM)⟩;have:=u2.1;rw[z,hM] at this;cases this⟩
   have t8:H5 M=none:=s6.free hM;generalize upd H6 M (.lst (ls.map V.ref))=H7 at s7 m7 ⊢;refine⟨_,rfl,.inl ⟨rfl,_,.of m7.1⟩,ZgK (J5 pmI (by decide) (by decide) λcs H8 s8 l8 i8 S hS=>?_)⟩;have s9:=s8.trans (Zv.upd (o:=.lst (cs.map V.ref)) hS);have RS:TupsAt (upd H8 S (.lst (cs.map V.ref))) S cs pmI:=⟨Zu,l8,λi b hb=>Zv.upd (o:=.lst (cs.map V.ref)) hS _ _ (i8 i b hb)⟩;generalize upd H8 S (.lst (cs.map V.ref))=H9 at s9 RS ⊢;have m9:=m7.mono s9;have ll:ls.length=3:=m9.2.1;have t9:S≠M:=λz=>by
    have:=s8 _ _ m7.1;rw[<-z,hS] at this;cases this
   refine⟨M,_,_,2,rfl,rfl,m9.1,by rw[Za,ll];decide,by decide,by rw[Za,ll,<-sz];decide,?_⟩
   match ls,ll with
   | [J,a1,a2],_=>
    obtain⟨u5,c0,u9⟩:=m9.2.2 0 J rfl;obtain⟨w8,c1,w9⟩:=m9.2.2 1 a1 rfl;obtain⟨x0,c2,x9⟩:=m9.2.2 2 a2 rfl;have v0:=u9.updM (o:=.lst [.ref J,.ref a1,.ref S,.ref a2]) m9.1 u5;have v1:=w9.updM (o:=.lst [.ref J,.ref a1,.ref S,.ref a2]) m9.1 w8;have v2:=x9.updM (o:=.lst [.ref J,.ref a1,.ref S,.ref a2]) m9.1 x0;have v3:=RS.updM (o:=.lst [.ref J,.ref a1,.ref S,.ref a2]) m9.1 t9;have n6:upd H9 M (.lst [.ref J,.ref a1,.ref S,.ref a2]) M=some (.lst [.ref J,.ref a1,.ref S,.ref a2]):=Zu;have o8:Zv H5 (upd H9 M (.lst [.ref J,.ref a1,.ref S,.ref a2])):=(s7.trans s9).updr t8;rw[show List.take 2 (gH V.ref [J,a1,a2])++V.ref S::List.drop 2 (gH V.ref [J,a1,a2])=[.ref J,.ref a1,.ref S,.ref a2] from rfl];generalize upd H9 M (.lst [.ref J,.ref a1,.ref S,.ref a2])=y4 at v0 v1 v2 v3 n6 o8 ⊢;have p4:∃l cs x,[V.ref J,.ref a1,.ref S,.ref a2][j-27]?=some (.ref l)/\x∈psC/\TupsAt y4 l cs x.1:=by
     match j-27,t5 with
     |0,_=>exact⟨J,c0,pc1,rfl,in1,v0⟩
     |1,_=>exact⟨a1,c1,pc2,rfl,in2,v1⟩
     |2,_=>exact⟨S,cs,pc3,rfl,in3,v3⟩
     |3,_=>exact⟨a2,c2,pc4,rfl,in4,v2⟩
    obtain⟨l,ds,x,o6,hx,Rl⟩:=p4;obtain⟨p6,p7,By,pm,Fs⟩:=Znf hx;have y6:=Q5.mono o8;refine⟨_,rfl,_,rfl,_,rfl,N4,_,rfl,.inl (.of y6.1),_,_,rfl,rfl,M,_,_,_,rfl,rfl,.of n6,?_,l,ds,x.1,p6,p7,rfl,Rl,By,λL es H11 y8 y9=>?_⟩
    ·rw[bl,show (j:Int)-((27:Nat):Int)=((j-27:Nat):Int) by omega]
     exact ZH o6
    ·refine⟨L,es,p7,x.2,p6,rfl,y9,pm,Fs,λg H12 s12 G12=>?_⟩
     have n8:=(o8.trans y8).trans s12;exact k g _ H12 (kk.trans (Tk.of n8)) (T5.mono n8) G12 (Zij x hx)
end C46
namespace Tb
def U8 (t:T9)(i a:Nat):Option Nat:=if YD (ZC t i) a then some ((ZC t i).findIdx (·.contains a)) else none
theorem ZdC {i:Nat}(h:YD (ZC t i) i=false):ZC t (i+1)=ZC t i++[ZZ t i]:=by
 rw[ZC,if_neg (by unfold YD at h;rw[h];decide)]
theorem ZdB {i:Nat}(h:YD (ZC t i) i=true):ZC t (i+1)=ZC t i:=by
 rw[ZC,if_pos (by unfold YD at h;rw[h])]
theorem Zlx (P:PW t){i:Nat}(hi:i<t.length)(h:YD (ZC t i) i=false)(a:Nat):U8 t (i+1) a=if a∈ZZ t i then some (ZC t i).length else U8 t i a:=by
 have M:=ZdC h;unfold U8;rw[M,List.findIdx_append];by_cases q:a∈ZZ t i
 ·have ns:¬ ∃c∈ZC t i,c.contains a=true:=by
   rintro⟨c,O,Y⟩;obtain⟨j,hj⟩:=bn O;have jl:=(ae.mp hj).1;have:=Vx P (i+1) (by omega) j (ZC t i).length c (ZZ t i) a (by rw[M,au jl];exact hj) (by rw[M,av (Zq _),cC];rfl) (aA.mp Y) q;omega
  have se:YD (ZC t i++[ZZ t i]) a=true:=by
   unfold YD;rw[iG,c6,aA.mpr q];simp
  rw[if_pos se,if_pos q,if_neg (λz=>ns (dD.mp z)),List.findIdx_cons,aA.mpr q];simp
 ·have O:(ZZ t i).contains a=false:=by
   cases e:(ZZ t i).contains a with
   |false=>rfl
   |true=>exact absurd (aA.mp e) q
  have se:YD (ZC t i++[ZZ t i]) a=YD (ZC t i) a:=by
   unfold YD;rw[iG,c6,kZ,O,fV,fV]
  rw[se,if_neg q];by_cases J:YD (ZC t i) a=true
  ·rw[if_pos J,if_pos J,if_pos (dD.mpr (by
    obtain⟨c,h1,h2⟩:=aY.mp J;exact⟨c,h1,h2⟩))]
  ·rw[if_neg J,if_neg J]
theorem Zlw {i:Nat}(h:YD (ZC t i) i=true)(a:Nat):U8 t (i+1) a=U8 t i a:=by
 unfold U8;rw[ZdB h]
theorem Zly (P:PW t){a:Nat}(j:a<t.length):U8 t t.length a=some (Yl t a):=by
 unfold U8 Yl;rw[if_pos (JH P t.length (Zq _) a j)]
end Tb
namespace C46
open PySem L2 PySem.Spec PyProof.Rows
open Tb Pm
theorem ZhH {ns M:TZ}{c:T7}(J:bM ns M)(O:ns.Pairwise (· ≤ ·))(Y:M.Nodup)(hm:∀k:Int,k∈M↔∃a∈c,k=(a:Int))(q:c.Pairwise (· < ·)):ns.map V.int=c.map nV:=by
 have e:ns=c.map λa:Nat=>(a:Int):=by
  refine mq (J.trans ?_) O ?_
  ·refine (cO Y ?_).mpr λk=>?_
   ·refine f6 _ (λa b (h:a<b)=>?_) q
    omega
   ·rw[hm k,aE]
    exact⟨λ⟨a,j,e⟩=>⟨a,j,e.symm⟩,λ⟨a,j,e⟩=>⟨a,j,e.symm⟩⟩
  ·refine f6 _ (λa b (h:a<b)=>?_) q
   omega
 rw[e,aK];rfl
def LsC (H:Hp)(L:Addr)(bs:TW)(j:T9):Prop:=H L=some (.lst (bs.map V.ref))/\bs.length=j.length/\∀(i:Nat) b,bs[i]?=some b->b≠L/\H b=some (.lst ((j.getD i []).map nV))
theorem LsC.mono {H q:Hp}{L:Addr}{bs:TW}{j:T9}(s:Zv H q)(h:LsC H L bs j):LsC q L bs j:=⟨s _ _ h.1,h.2.1,λi b hb=>⟨(h.2.2 i b hb).1,s _ _ (h.2.2 i b hb).2⟩⟩
theorem LsC.updD {H:Hp}{L D:Addr}{bs:TW}{j:T9}{q:List (YL×V)}{o:HO}(h:LsC H L bs j)(J:H D=some (.dK q)):LsC (upd H D o) L bs j:=
 ⟨by rw[Zz (λz=>by have:=h.1;rw[z,J] at this;cases this)];exact h.1,h.2.1,λi b hb=>⟨(h.2.2 i b hb).1,by
  have:=(h.2.2 i b hb).2;rw[Zz (λz=>by rw[z,J] at this;cases this)];exact this⟩⟩
theorem LsC.push {H:Hp}{L b:Addr}{bs:TW}{q:T9}{c:T7}(h:LsC H L bs q)(hb:H b=some (.lst (c.map nV)))(ne:b≠L):LsC (upd H L (.lst (bs.map V.ref++[.ref b]))) L (bs++[b]) (q++[c]):=by
 refine⟨by rw[Zu,aN];rfl,by rw[Zd,Zd,h.2.1];rfl,λi d j=>?_⟩;by_cases M:i<bs.length
 ·rw[au M] at j
  obtain⟨O,Y⟩:=h.2.2 i d j;rw[Zz O,Zb,au (by rw[<-h.2.1];exact M),<-Zb];exact⟨O,Y⟩
 ·rw[av (by omega)] at j
  cases J:i-bs.length with
  |zero=>
   rw[J] at j;cases j;rw[Zz ne,Zb,av (by rw[<-h.2.1];omega),<-h.2.1,J];exact⟨ne,hb⟩
  |succ k=>rw[J] at j;cases j
noncomputable abbrev ZcQ:Stmt:=tq 38
def vI:Option Nat->TU:=Option.map λn=>V.int (n:Nat)
inductive Zd9 (vs:TV) (H:Hp) (Q:VK) (E03:XK):Prop
 |mk (g:Addr) (t:T9):(vs=[.ref g])->(GT H g t)->(PW t)->(∀r L D bs kvs H',Zv H H'->H' r=some (.tup [.ref L,.ref D])->LsC H' L bs (ZC t t.length)->H' D=some (.dK kvs)->(∀a:Nat,a<t.length->Y0 kvs (.inl (a:Int))=some (.int (Yl t a:Nat)))->Q (.ref r) H')->Zd9 vs H Q E03
theorem Zk6 (F:WB K "_law_classes" "_law_classes" ZcQ f fd)(T:BlB mg)(TS:mg "set"=none):Z4 P w K mg base Yg 1 f fd ["_law_group_here"] Zd9:=by
 refine F.ok (FS (N:=["_law_group_here", "_law_backs", "_law_found", "_law_met", "_law_thing", "_law_here", "_law_one"])) (λvs H Q E h=>?_) (λp3 A o5 s H vs Q E hr h=>?_)
 ·obtain⟨g,t,rfl,_⟩:=h;rfl
 ·obtain⟨g,t,rfl,G0,M,k⟩:=h
  have hu:(A.deeper (envOfC "_law_classes" (Z0 ZcQ) s.heap.objs.size f p3)).units+1<cLine:=by have:=hr.un;omega
  refine⟨_,Zs (ZG 1 rfl (cmp ["_law_row"] [] ["_law_row"] rfl (itT K (vn 0)) (λ_ _ _ _ _=>gn 0) (λ_ _ _ _ _=>ZP) (λ_ _ _ _ _=>ZbK eK e9 gK (ZmN K) (vn 0) (pc Zx Zt))))
   (Zs (ZG 2 rfl (ZV Zt))
   (Zs (ZG 3 rfl Zc3)
   (Zs (ZN am rfl (WG T.range (pc (cb (Ym K) T.len (pc (vn 0) Zt)) Zt)) (gnf 4 rfl)
   (Zw (Y3 (Zep (ZaS hu (vn 4) (vn 3))) (Zs (ZbA 5 ["_law_t"] [0,4,1] ["_law_t", "_law_group_here", "_law_thing", "_law_backs"] rfl rfl (WG T.range (pc (cb (Ym K) T.len (pc (vn 0) Zt)) Zt)) (λ_ _ _ _ _=>gn 0) (λ_ _ _ _ _=>ZP) (λ_ _ _ _ _=>ZD (JE K) (ZD (JE K) (vn 1) (ZD (JE K) (ZD (JE K) (vn 1) (vn 0) (λ_ _=>rfl)) (vn 2) (λ_ _=>rfl)) (λ_ _=>rfl)) (ZD (WU K) (vn 3) (vn 0) (λ_ _=>rfl)) (λ_ _=>rfl)))
   (Zs (ZG 5 rfl (cb (Zao rfl) T.sorted (pc (ct (Za6 rfl) TS (pc (vn 5) Zt)) Zt)))
   (Zs (ZN am rfl (itL K (vn 5)) (gn 6)
   (Zw (Xz hu (vn 3) (vn 6) (cb (Ym K) T.len (pc (vn 2) Zt)) (by rfl))))
   (Zw (YJ (WH aJ aR aU Yb (vn 2) (pc (vn 5) Zt))))))) Ya)))
   (Zw (ZE (UW (pc (vn 2) (pc (vn 3) Zt)))))))),?_⟩
  have sz:=JL;have n1:=M.n1;have n60:=M.n60;obtain⟨gs,u1,u2,u3⟩:=id G0;have el:(gs.map V.ref).length=t.length:=by rw[Za,u2]
  refine⟨_,rfl,g,rfl,⟨_,.of u1⟩,?_⟩;refine YZ (We (K:=K) (.of u1)) [] rfl (λa=>nV (Yx t a)) (by rw[el];omega) (λi y hy O s' R' kk=>?_) (λB H1 nB s1 hB=>?_)
  ·obtain⟨r,q0,rfl⟩:=UP hy
   have hi:i<t.length:=by rw[<-u2];exact (ae.mp q0).1
   have hz:=(u3 i r q0).mono s';obtain⟨b1,b2⟩:=Yc M hi;have hl:=Xy M hi;refine⟨_,rfl,⟨_,_,rfl,hz⟩,r,_,.int 0,Yx t i,rfl,rfl,hz.sq,rfl,?_,by rw[Za,hl];exact b1,λz Y=>?_,λm z hm Y=>?_,kk O (Zv.refl _)⟩
   ·rw[aD]
    intro z Y;obtain⟨k,_,rfl⟩:=aE.mp Y;rfl
   ·rw[J8 M hi b1,b2] at Y
    cases Y;decide
   ·have r6:m<t.length:=by omega
    rw[J8 M hi r6] at Y;cases Y;have:ZO t i m≠0:=λz=>by
     have:=Xo M hi r6 z;omega
    show decide ((ZO t i m:Int)=0)=false;exact decide_eq_false (by omega)
  ·rw[el] at hB
   refine⟨JY,λL nL=>λD nD=>?_⟩;have s2:=s1.trans (Zv.upd (H:=H1) (o:=.lst []) nL);have s3:=s2.trans (Zv.upd (o:=.dK []) nD);have t9:H L=none:=s1.free nL;have u5:H D=none:=s2.free nD;have r8:=(Zv.upd (o:=.dK []) nD) _ _ ((Zv.upd (H:=H1) (o:=.lst []) nL) _ _ hB);have r9:=(Zv.upd (o:=.dK []) nD) _ _ (Zu (H:=H1) (a:=L) (o:=.lst []));have t5:=Zu (H:=upd H1 L (.lst [])) (a:=D) (o:=.dK []);have u9:B≠L:=λz=>by rw[z,nL] at hB;cases hB
   generalize upd (upd H1 L (.lst [])) D (.dK [])=H3 at s3 r8 r9 t5 ⊢;refine⟨_,rfl,g,_,rfl,.inr (.of (s3 _ _ u1)),_,rfl,by rw[el];omega,by rw[el];omega,?_⟩;rw[el,Zj];refine ZT (λi J O=>∃(w4 w5 w6:TU) (bs:TW) (q:List (YL×V)),J=[some (.ref g),some (.ref B),some (.ref L),some (.ref D),w4,w5,w6]/\Zv H O/\O B=some (.lst ((ac t.length).map λa=>nV (Yx t a)))/\LsC O L bs (ZC t i)/\O D=some (.dK q)/\(∀a:Nat,Y0 q (.inl (a:Int))=vI (U8 t i a))/\q.length<=60*i)
    ⟨_,_,_,[],[],rfl,s3,r8,⟨r9,rfl,λi b hb=>by cases hb⟩,t5,λa=>rfl,Zq _⟩ ?_ ?_
   ·rintro i J H4 hi ⟨w4,w5,w6,bs,q,rfl,s4,n8,R4,n9,hv,kl⟩
    rw[show (0:Int)+(i:Int)=(i:Int) by omega];refine⟨_,rfl,_,rfl,D,_,rfl,JJ.k (k:=.inl (i:Int)) n9,_,rfl,?_⟩;have p4:(Y0 q (.inl (i:Int))).isSome=YD (ZC t i) i:=by
     rw[hv i];unfold U8 vI;cases YD (ZC t i) i <;> rfl
    rw[p4];refine Ye (λh=>?_) (λh=>?_)
    ·have h:YD (ZC t i) i=false:=by simpa using h
     have eU:=ZdC h;refine⟨_,rfl,g,_,rfl,.inr (.of (s4 _ _ u1)),_,rfl,by rw[el];omega,by rw[el];omega,?_⟩;rw[el,Zj];refine YZ (Wp 0 t.length) [some (.ref g),some (.int (i:Nat)),some (.ref B)] rfl (λx=>nV (tb t i x)) (by rw[Za,Z7];omega) (λj y hy O s' R' kk=>?_) (λEh H5 nE s5 hE=>?_)
     ·obtain⟨hj,rfl⟩:=Vm hy
      have G':=G0.mono (s4.trans s');obtain⟨rs,r,h1,_,h2,h3,h4⟩:=G'.at M hj;have m1:=M.lt j i hj hi;obtain⟨rs',r',w8,_,w9,x0,x9⟩:=G'.at M m1;have y4:=s' _ _ n8;have gB:((ac t.length).map λa=>nV (Yx t a))[j]?=some (nV (Yx t j)):=by rw[Zc,ah hj];rfl
      refine⟨_,rfl,_,rfl,_,rfl,g,_,_,_,rfl,rfl,.of h1,h2,_,rfl,r,_,_,_,rfl,rfl,h3.sq,h4 i hi,g,_,_,_,rfl,rfl,.of w8,w9,_,rfl,_,rfl,B,_,_,_,rfl,rfl,.of y4,ZH gB,r',_,_,_,rfl,rfl,x0.sq,x9 _ (Yc M hj).1,?_⟩;exact kk O (Zv.refl _)
     ·rw[Za,Z7] at hE
      have eN:((ac t.length).map λx=>nV (tb t i x))=((ac t.length).map λx=>((tb t i x:Nat):Int)).map V.int:=by rw[aK];rfl
      rw[eN] at hE;generalize hN:((ac t.length).map λx=>((tb t i x:Nat):Int))=N at hE;have nl:N.length=t.length:=by rw[<-hN,Za,Zg]
      refine⟨_,rfl,Eh,N,rfl,.of hE,by omega,λp1 y6=>?_⟩;have s6:=Zv.upd (o:=ZcM P w p1 (JV N N.length)) y6;have ml:(JV N N.length).length<=N.length:=jN _ _;refine⟨p1,JV N N.length,rfl,Zu,JC _ _,by omega,λl ns p6 hp hs=>?_⟩;rw[show (Zdx Yg P w K mg base ["_law_group_here", "_law_backs", "_law_found", "_law_met", "_law_thing", "_law_here", "_law_one"] "_law_classes" (Z0 ZcQ) f p3 A o5 s H E).nox.prog=P from rfl,show (Zdx Yg P w K mg base ["_law_group_here", "_law_backs", "_law_found", "_law_met", "_law_thing", "_law_here", "_law_one"] "_law_classes" (Z0 ZcQ) f p3 A o5 s H E).nox.w=w from rfl] at p6 ⊢;have s7:=Zv.upd (o:=.lst (ns.map V.int)) p6;have e:=ZhH (c:=ZZ t i) hp hs (JC _ _) (λk=>?_) (ZdA i)
      ·rw[e] at s7 ⊢
       have o6:=Zu (H:=upd H5 p1 (ZcM P w p1 (JV N N.length))) (a:=l) (o:=.lst ((ZZ t i).map nV));have o7:=(s5.trans s6).trans s7;have y8:l≠L:=λz=>by
        have:=(s5.trans s6) _ _ R4.1;rw[<-z,p6] at this;cases this
       generalize upd (upd H5 p1 (ZcM P w p1 (JV N N.length))) l (.lst ((ZZ t i).map nV))=H7 at s7 o6 o7 ⊢;have t6:=o7 _ _ n9;have y9:l≠D:=λz=>by rw[z,t6] at o6;cases o6
       have nBD:B≠D:=λz=>by rw[z,n9] at n8;cases n8
       have cl:=ZfX (t:=t) i;refine⟨_,rfl,l,rfl,⟨_,.of o6⟩,?_⟩;refine Zjc (K:=K) (a:=l) (xs:=(ZZ t i).map nV) (λj J O=>∃(w6:TU) (n6:List (YL×V)),J=[some (.ref g),some (.ref B),some (.ref L),some (.ref D),some (.int (i:Nat)),some (.ref l),w6]/\Zv H O/\O l=some (.lst ((ZZ t i).map nV))/\O B=some (.lst ((ac t.length).map λa=>nV (Yx t a)))/\LsC O L bs (ZC t i)/\O D=some (.dK n6)/\(∀a:Nat,Y0 n6 (.inl (a:Int))=if a∈(ZZ t i).take j then some (.int ((ZC t i).length:Nat)) else vI (U8 t i a))/\n6.length<=60*i+j)
        ⟨_,q,rfl,s4.trans o7,o6,o7 _ _ n8,R4.mono o7,t6,λa=>by rw[hv a,fg,if_neg (by simp)],kl⟩ (λj J O _ h=>by
         obtain⟨_,_,_,_,hl',_⟩:=h;exact .of hl') ?_ ?_
       ·rintro j y J H8 hy ⟨w6',n6,rfl,s8,p7,p8,R8,o0,o8,t7⟩
        obtain⟨c,hc,rfl⟩:=XW hy;have hj:j<(ZZ t i).length:=(ae.mp hc).1;have nLD:L≠D:=λz=>by have:=R8.1;rw[z,o0] at this;cases this
        have bl:=R8.2.1;refine⟨_,rfl,L,_,rfl,.inl (.of R8.1),_,rfl,_,rfl,D,_,rfl,VU.k (k:=.inl (c:Int)) o0 (by omega),?_⟩;refine⟨_,_,rfl,s8.updr u5,by rw[Zz y9];exact p7,by rw[Zz nBD];exact p8,R8.updD o0,Zu,λa=>?_,?_⟩
        ·rw[Zhf,o8 a,cW,hc]
         by_cases o9:a=c
         ·rw[if_pos (by rw[o9]),if_pos (by rw[o9];simp),Za,bl]
         ·rw[if_neg (λz=>o9 (by have:=Sum.inl.inj z;omega))]
          by_cases ha:a∈(ZZ t i).take j
          ·rw[if_pos ha,if_pos (cg _ ha)]
          ·rw[if_neg ha,if_neg]
           intro z;rcases bO.mp z with z|z
           ·exact ha z
           ·exact o9 (aQ.mp z)
        ·have:=Jj n6 (.inl (c:Int)) (.int ((bs.map V.ref).length:Nat))
         omega
       ·rintro J H8 ⟨w6',n6,rfl,s8,p7,p8,R8,o0,o8,t7⟩
        rw[Za] at o8 t7;have bl:=R8.2.1;have ul:=Wc (t:=t) i;refine⟨_,rfl,.inl ⟨rfl,_,.of R8.1⟩,_,rfl,L,_,_,rfl,rfl,R8.1,by rw[Za];omega,?_⟩;refine⟨_,_,_,bs++[l],n6,rfl,s8.updr t9,by rw[Zz u9];exact p8,by rw[eU];exact R8.push p7 y8,?_,λa=>?_,by omega⟩
        ·rw[Zz (λz=>by have:=R8.1;rw[<-z,o0] at this;cases this)]
         exact o0
        ·rw[o8 a,c8,Zlx M hi h]
         by_cases ha:a∈ZZ t i
         ·rw[if_pos ha,if_pos ha];rfl
         ·rw[if_neg ha,if_neg ha]
      ·rw[Zfz]
       constructor
       ·rintro⟨j,hj,e⟩
        have t8:j<t.length:=by omega
        refine⟨tb t i j,(Yf M hi).mpr ⟨j,t8,rfl⟩,?_⟩;rw[<-e,<-hN,Zb,Zc,ah t8];rfl
       ·rintro⟨a,ha,rfl⟩
        obtain⟨x,hx,e⟩:=(Yf M hi).mp ha;refine⟨x,by omega,?_⟩;rw[<-e,<-hN,Zb,Zc,ah hx];rfl
    ·have h:YD (ZC t i) i=true:=by simpa using h
     exact⟨_,_,_,bs,q,rfl,s4,n8,by rw[ZdB h];exact R4,n9,λa=>by rw[Zlw h];exact hv a,by omega⟩
   ·rintro J H4 ⟨w4,w5,w6,bs,q,rfl,s4,n8,R4,n9,hv,kl⟩
    refine⟨_,rfl,_,rfl,JY,λr nr=>?_⟩;exact k r L D bs q _ (s4.trans (Zv.upd nr)) Zu (R4.mono (Zv.upd nr)) (Zv.upd nr _ _ n9) λa ha=>by rw[hv a,Zly M ha];rfl
noncomputable abbrev Zfb:Stmt:=tq 40
inductive UD (vs:TV) (H:Hp) (Q:VK) (E03:XK):Prop
 |mk (g:Addr) (t:T9) (rs:Nat->Nat):(vs=[.ref g])->(GT H g t)->(PW t)->((∀a,a<t.length->Rd t a (rs a)))->(∀(f:Nat) H',Zv H H'->Lc rs t.length f->Q (.int f) H')->UD vs H Q E03
theorem Zgr (F:WB K "_law_round" "_law_round" Zfb f fd)(T:BlB mg):Z4 P w K mg base Yg 1 f fd ["_law_group_here"] UD:=by
 refine F.ok (FS (N:=["_law_group_here", "_law_found", "_law_thing", "_law_many", "_law_here", "_law_lead"])) (λvs H Q E h=>?_) (λo9 A n9 s H vs Q E hr h=>?_)
 ·obtain⟨g,t,rs,rfl,_⟩:=h;rfl
 ·obtain⟨g,t,rs,rfl,G,Pt,R,q⟩:=h
  refine⟨_,Zs (ZG 1 rfl Zx) (Zs (ZN am rfl (WG T.range (pc (cb (Ym K) T.len (pc (vn 0) Zt)) Zt)) (gn 2)
    (Zs (ZG 3 rfl Zx)
    (Zs (ZG 4 rfl (vn 2))
    (Zs (Yq am (ZL WI (vn 4) Zx (ZR _))
     (Zs (ZG 4 rfl (ZD (JE K) (ZD (JE K) (vn 0) (vn 4) (λ_ _=>rfl)) (vn 2) (λ_ _=>rfl)))
     (Zw (ZG 3 rfl (Zy Yt (vn 3) Zx)))))
    (Zs (ZG 5 rfl (vn 1))
    (Zs (Yq am (ZL WI (Zy ZY (vn 5) (vn 3)) Zx (ZR _)) (Zw (ZG 5 rfl (Zy Yt (vn 5) (vn 1)))))
    (Zw (ZG 1 rfl (vn 5)))))))))
   (Zw (ZE (vn 1)))),?_⟩
  have n1:=Pt.n1;have p3:=Pt.n60;obtain⟨gs,g1,g2,_⟩:=id G;have el:(gs.map V.ref).length=t.length:=by rw[Za,g2]
  refine⟨_,rfl,g,_,rfl,.inr (.of g1),_,rfl,by omega,by rw[el];omega,?_⟩;rw[Zj,el];refine ZT (λi n6 H'=>∃(f:Nat) (v2 v3 v4 v5:TU),n6=[some (.ref g),some (.int f),v2,v3,v4,v5]/\Zv H H'/\Lc rs i f) ⟨1,_,_,_,_,rfl,Zv.refl _,⟨Zq _,λa ha=>absurd ha (dP _),λx _=>Nat.mod_one x⟩⟩ ?_ ?_
  ·rintro i n6 H' hi ⟨f,v2,v3,v4,v5,rfl,sm,L⟩
   rw[show (0:Int)+(i:Int)=(i:Int) by omega];have Ri:=R i hi;have o0:=Ri.r1;have L2:Lc rs (i+1) (upTo (rs i) f 61 f):=L.step (B:=t.length) n1 (λa ha=>(R a (by omega)).dv) (by omega);have n8:=L2.dv i (by omega);have Gm:=G.mono sm;refine⟨_,rfl,?_⟩;refine Yh (λm j M=>∃k:Nat,j=[some (.ref g),some (.int f),some (.int i),some (.int k),some (.int (it t i k:Nat)),v5]/\M=H'/\1<=k/\k<=rs i/\m=rs i-k)
    (λj M=>∃w4:TU,j=[some (.ref g),some (.int f),some (.int i),some (.int (rs i:Nat)),w4,v5]/\M=H') ?hend1 ⟨rs i-1,1,by rw[ZeC Pt hi];rfl,rfl,Zq _,o0,rfl⟩ ?turn1
   case turn1=>
    rintro O m j M ⟨k,rfl,rfl,k1,kr,hm⟩;refine⟨_,rfl,rfl,_,rfl,?_⟩;refine Ye (λJ=>?_) (λJ=>?_)
    ·have J:it t i k≠0:=λz=>by
      rw[Yu,z] at J;simp at J
     have p4:k<rs i:=bD kr λz=>J (z▸Ri.z);obtain⟨p6,r2,o6,_,o7,g3,g4⟩:=Gm.at Pt (Jd Pt hi k);refine⟨_,λ_ _ z=>z,_,rfl,_,rfl,g,_,_,_,rfl,rfl,.of o6,o7,_,rfl,r2,_,_,_,rfl,rfl,g3.sq,g4 i hi,_,rfl,_,_,rfl,rfl,rs i-(k+1),by omega,k+1,?_,rfl,by omega,by omega,rfl⟩;rfl
    ·have J:it t i k=0:=by
      apply aj;intro z;apply J;rw[Yu];simp[z]
     have:k=rs i:=by
      apply aj;intro z;exact Ri.nz k k1 (by omega) J
     exact O _ _ ⟨_,by rw[this],rfl⟩
   case hend1=>
    rintro j M ⟨w4,rfl,rfl⟩;refine⟨_,rfl,?_⟩;refine Yh (λm j H3=>∃x:Nat,j=[some (.ref g),some (.int f),some (.int i),some (.int (rs i:Nat)),w4,some (.int x)]/\H3=M/\upTo (rs i) f m x=upTo (rs i) f 61 f)
     (λj H3=>j=[some (.ref g),some (.int f),some (.int i),some (.int (rs i:Nat)),w4,some (.int (upTo (rs i) f 61 f:Nat))]/\H3=M) ?hend ⟨61,f,rfl,rfl,rfl⟩ ?turn
    case hend=>
     rintro j H3 ⟨rfl,rfl⟩;exact⟨_,rfl,_,_,_,_,_,rfl,sm,L2⟩
    case turn=>
     rintro O m j H3 ⟨x,rfl,rfl,Y⟩;have eT:(x:Int) % ((rs i:Nat):Int)=((x % rs i:Nat):Int):=by push_cast;rfl
     refine⟨_,rfl,_,rfl,_,_,rfl,rfl,(by show (0:Int)<(rs i:Nat);omega),rfl,_,rfl,?_⟩;refine Ye (λJ=>?_) (λJ=>?_)
     ·have J:x % rs i≠0:=λz=>by
       rw[Yu,eT,z] at J;simp at J
      cases m with
      |zero=>
       have Y:x=upTo (rs i) f 61 f:=Y;rw[<-Y] at n8;exact absurd n8 J
      |succ m=>
       rw[Tb.upTo,if_neg J] at Y;exact⟨_,λ_ _ z=>z,_,rfl,_,rfl,_,_,rfl,rfl,m,by omega,x+f,rfl,rfl,Y⟩
     ·have J:x % rs i=0:=by
       apply aj;intro z;apply J;rw[Yu,eT];simp;omega
      have:x=upTo (rs i) f 61 f:=by
       cases m with
       |zero=>exact Y
       |succ m=>rw[Tb.upTo,if_pos J] at Y;exact Y
      exact O _ _ ⟨by rw[this],rfl⟩
  ·rintro n6 H' ⟨f,v2,v3,v4,v5,rfl,sm,L⟩
   exact⟨_,rfl,q f H' sm L⟩
structure Bl (mg:TX):Prop where
 list:mg "list"=none
 len:mg "len"=none
 abs:mg "abs"=none
 range:mg "range"=none
 tuple:mg "tuple"=none
 isi:mg "isinstance"=none
 all:mg "all"=none
 set:mg "set"=none
 repr:mg "repr"=none
 any:mg "any"=none
 int:mg "int"=none
 bool:mg "bool"=none
noncomputable abbrev Zmk:Stmt:=tq 3
inductive Zea (K:aa) (vs:TV) (H:Hp) (Q:VK) (E03:XK):Prop
 |mk (g:Addr) (t:T9) (a r:Nat):(vs=[.ref g,.int a])->(GT H g t)->(PW t)->(a<t.length)->(Rd t a r)->(Q (.int (it t a (r-1):Nat)) H)->Zea K vs H Q E03
theorem Zk7 (F:WB K "back" "back" Zmk f fd):Z4 P w K mg base Yg 1 f fd ["group", "a"] (Zea K):=by
 refine F.ok (FS (N:=["group", "a"])) (λvs H Q E h=>?_) (λn6 A Y s H vs Q E hr h=>?_)
 ·obtain⟨g,t,a,r,rfl,_⟩:=h;rfl
 ·obtain⟨g,t,a,r,rfl,G,J,M,R,q⟩:=h
  refine⟨_,Zw (ZE (ZbK eK e9 gK (ZmN K) (ZD (JE K) (vn 0) (vn 1) (λ_ _=>rfl)) (pc Zx Zt))),?_⟩;obtain⟨rs,r1,h1,_,h2,h3,h4⟩:=G.at J M;have hl:=Xy J M;have il:=Jd J M (r-1);refine⟨_,rfl,_,rfl,g,_,_,_,rfl,rfl,.of h1,h2,⟨_,_,rfl,h3⟩,r1,_,.int 0,it t a (r-1),rfl,rfl,h3.sq,rfl,?_,by rw[Za,hl];exact il,λz j=>?_,λm z hm j=>?_,q⟩
  ·rw[aD]
   intro z j;obtain⟨k,_,rfl⟩:=aE.mp j;rfl
  ·rw[J8 J M il,R.bk] at j
   cases j;decide
  ·have O:m<t.length:=by omega
   rw[J8 J M O] at j;cases j;have:ZO t a m≠0:=λz=>by
    have:=R.un m O z;omega
   show decide ((ZO t a m:Int)=0)=false;exact decide_eq_false (by omega)
noncomputable abbrev Zfa:Stmt:=tq 7
noncomputable abbrev ZaO:Stmt:=tq 8
noncomputable abbrev UK:Stmt:=tq 9
noncomputable abbrev Zo4:Stmt:=tq 52
structure ZeV (mg:TX):Prop where
 sorted:mg "sorted"=none
 enumerate:mg "enumerate"=none
theorem Zkg {ns M:TZ}{c:T7}(J:bM ns M)(O:ns.Pairwise (· ≤ ·))(Y:M.Nodup)(hm:∀k:Int,k∈M↔∃a∈c,k=(a:Int))(q:c.Pairwise (· < ·)):ns.map V.int=c.map nV:=by
 have e:ns=c.map λa:Nat=>(a:Int):=by
  refine mq (J.trans ?_) O ?_
  ·refine (cO Y ?_).mpr λk=>?_
   ·refine f6 _ (λa b (h:a<b)=>?_) q
    omega
   ·rw[hm k,aE]
    exact⟨λ⟨a,j,e⟩=>⟨a,j,e.symm⟩,λ⟨a,j,e⟩=>⟨a,j,e.symm⟩⟩
  ·refine f6 _ (λa b (h:a<b)=>?_) q
   omega
 rw[e,aK];rfl
inductive UC (vs:TV) (H:Hp) (Q:VK) (E03:XK):Prop
 |mk (g:Addr) (t:T9) (b x:Nat):(vs=[.ref g,.int b,.int x])->(GT H g t)->(PW t)->(b<t.length)->(x<t.length)->(Q (.int (tb t b x:Nat)) H)->UC vs H Q E03
inductive XR (vs:TV) (H:Hp) (Q:VK) (E03:XK):Prop
 |mk (g:Addr) (t:T9) (b:Nat):(vs=[.ref g,.int b])->(GT H g t)->(PW t)->(b<t.length)->(∀r H',Zv H H'->H' r=some (.tup ((ZZ t b).map nV))->Q (.ref r) H')->XR vs H Q E03
theorem Zgp (F:WB K "turned_by" "turned_by" Zfa f fd)(O:Fn P w K mg base Yg 1 "back" ["group", "a"] (Zea K)):Z4 P w K mg base Yg 2 f fd ["group", "b", "t"] UC:=by
 refine F.ok (FS (N:=["group", "b", "t"])) (λY H Q E h=>?_) (λn6 A M s H Y Q E hr h=>?_)
 ·obtain⟨g,t,b,x,rfl,_⟩:=h;rfl
 ·obtain⟨g,t,b,x,rfl,G,j,hb,J,q⟩:=h
  refine⟨_,Zw (ZE (ZD (JE K) (ZD (JE K) (vn 0) (ZD (JE K) (ZD (JE K) (vn 0) (vn 2) (λ_ _=>rfl)) (vn 1) (λ_ _=>rfl)) (λ_ _=>rfl)) (Wn O hr ZM (pc (vn 0) (pc (vn 2) Zt))) (λ_ _=>rfl))),?_⟩;obtain⟨r,R⟩:=j.rd x J;obtain⟨rs,r1,h1,_,h2,h3,h4⟩:=G.at j J;have ml:=j.lt _ _ J hb;obtain⟨n8,r2,g1,_,g2,g3,g4⟩:=G.at j ml;have q':Q (.int (ZO t (ZO t x b) (it t x (r-1)):Nat)) H:=by rw[ZjG j J R];exact q
  exact⟨_,rfl,_,rfl,_,rfl,g,_,_,_,rfl,rfl,.of h1,h2,_,rfl,r1,_,_,_,rfl,rfl,h3.sq,h4 b hb,g,_,_,_,rfl,rfl,.of g1,g2,_,rfl,_,rfl,g,t,x,r,rfl,G,j,J,R,r2,_,_,_,rfl,rfl,g3.sq,g4 _ (Jd j J (r-1)),q'⟩
def fTb (t:T9)(b:Nat):V->V
 | .int z=>nV (tb t b z.toNat)
 |y=>y
theorem Zc6 (F:WB K "turnings" "turnings" ZaO f fd)(T:Bl mg)(T2:ZeV mg)(n6:Fn P w K mg base Yg 2 "turned_by" ["group", "b", "t"] UC):Z4 P w K mg base Yg 3 f fd ["group", "b"] XR:=by
 refine F.ok (FS (N:=["group", "b"])) (λvs H Q E h=>?_) (λn9 A n8 s H vs Q E hr h=>?_)
 ·obtain⟨g,t,b,rfl,_⟩:=h;rfl
 ·obtain⟨g,t,b,rfl,G,Y,hb,q⟩:=h
  refine⟨_,Zw (ZE (ct ZX T.tuple (pc (cb (Zao rfl) T2.sorted (pc (ct (Za6 rfl) T.set (pc (cmp ["t"] [0,1] ["t", "group", "b"] rfl (WG T.range (pc (cb (Ym K) T.len (pc (vn 0) Zt)) Zt)) (λ_ _ _ _ _=>gn 0) (λ_ _ _ _ _=>ZP)
   (λ_ _ _ _ _=>Wn n6 hr ZM (pc (vn 1) (pc (vn 2) (pc (vn 0) Zt))))) Zt)) Zt)) Zt))),?_⟩
  have o0:=Y.n60;obtain⟨gs,u1,u2,_⟩:=id G;have el:(gs.map V.ref).length=t.length:=by rw[Za,u2]
  refine⟨_,rfl,g,_,rfl,.inr (.of u1),_,rfl,by rw[el];omega,by rw[el];omega,?_⟩;rw[el,Zj];refine JG (Wp 0 t.length) [some (.ref g),some (.int b)] rfl (fTb t b) (by rw[Za,Z7];omega) (λi x H' J sm R gg=>?_) (λD H' hD sm M=>?_)
  ·have hi:i<t.length:=by
    have:=(ae.mp J).1;rw[Za,Z7] at this;exact this
   rw[Zc,ZcT hi] at J;have J:x=.int (i:Int):=by
    have:=aB J;rw[<-this,ce]
   subst J;have fin:=gg H' (Zv.refl _);exact⟨_,rfl,_,rfl,_,rfl,g,t,b,i,rfl,G.mono sm,Y,hb,hi,fin⟩
  ·have e1:((Y6 0 t.length).map V.int).map (fTb t b)=((ac t.length).map λx=>((tb t b x:Nat):Int)).map V.int:=by
    unfold Y6;rw[aK,aK,aK];refine aX λi _=>?_;show nV (tb t b ((0:Int)+(i:Int)).toNat)=V.int _;rw[ce,Zj];rfl
   rw[e1] at M;generalize hN:((ac t.length).map λx=>((tb t b x:Nat):Int))=N at M;have nl:N.length=t.length:=by rw[<-hN,Za,Zg]
   refine⟨D,N,rfl,.of M,by omega,λp1 h1=>?_⟩;have s1:=Zv.upd (o:=ZcM P w p1 (JV N N.length)) h1;have ml:(JV N N.length).length<=N.length:=jN _ _;refine⟨p1,JV N N.length,rfl,Zu,JC _ _,by omega,λl ns h2 hp hs=>?_⟩;have s2:=Zv.upd (o:=.lst (ns.map V.int)) h2;have e:=Zkg (c:=ZZ t b) hp hs (JC _ _) (λk=>?_) (ZdA b)
   ·refine⟨l,_,rfl,.inl ⟨.of Zu,λr nr=>?_⟩⟩
    exact q r _ (((sm.trans s1).trans s2).trans (Zv.upd nr)) (by rw[<-e];exact Zu)
   ·rw[Zfz]
    constructor
    ·rintro⟨j,hj,e⟩
     have O:j<t.length:=by omega
     refine⟨tb t b j,(Yf Y hb).mpr ⟨j,O,rfl⟩,?_⟩;rw[<-e,<-hN,Zb,Zc,ah O];rfl
    ·rintro⟨a,ha,rfl⟩
     obtain⟨x,J,e⟩:=(Yf Y hb).mp ha;refine⟨x,by omega,?_⟩;rw[<-e,<-hN,Zb,Zc,ah J];rfl
noncomputable abbrev Zo9:Stmt:=tq 20
noncomputable abbrev ZhP:Stmt:=tq 21
noncomputable abbrev Zfe:Stmt:=tq 22
noncomputable abbrev ZhV:Stmt:=tq 28
structure BlT (mg:TX):Prop where
 zip:mg "zip"=none
 sum:mg "sum"=none
inductive J6 (vs:TV) (H:Hp) (Q:VK) (E03:XK):Prop
 |mk (p:Nat) (x:Int):(vs=[.int p,.int x])->(2<=p)->(p<=100000)->((∃y:Nat,1<=y/\y<p/\(y:Int)*x % (p:Int)=1))->(∀y:Nat,1<=y->y<p->(y:Int)*x % (p:Int)=1->Q (.int (y:Nat)) H)->J6 vs H Q E03
inductive Zbr (K:aa) (vs:TV) (H:Hp) (Q:VK) (E03:XK):Prop
 |mk (a:Addr) (xs:TZ) (e N p d:Nat):(vs=[.ref a,.int N,.int p])->(Wx K H a (xs.map V.int))->(xs[0]?=some (e:Int))->(e<=100000)->(N<=60)->(2<=p)->(p<=100000)->(1<=d)->(d<=1000)->(((d:Int)*d-e*N) % (p:Int)=0)->((∀d':Nat,1<=d'->d'<d->((d':Int)*d'-e*N) % (p:Int)≠0))->(Q (.int (d:Nat)) H)->Zbr K vs H Q E03
inductive ZhC (vs:TV) (H:Hp) (Q:VK) (E03:XK):Prop
 |mk (n count p:Nat):(vs=[.int n,.int count])->(1<=n)->(n<=60)->(count<=4000)->(Zqm n count p)->(∀H',Zv H H'->Q (.int p) H')->ZhC vs H Q E03
theorem UM {lo:Int}{n i:Nat}{y:V}(h:((Y6 lo n).map V.int)[i]?=some y):i<n/\y=.int (lo+(i:Int)):=by
 unfold Y6 at h;rw[Zc,Zc] at h;by_cases j:i<n
 ·rw[ah j] at h
  exact⟨j,(aB h).symm⟩
 ·rw[ai (by rw[Zg];omega)] at h
  cases h
theorem Zgv (F:WB K "back_by" "back_by" Zfe f fd):Z4 P w K mg base Yg 1 f fd ["p", "x"] J6:=by
 refine F.ok (FS (N:=["p", "x", "found"])) (λvs H Q E h=>?_) (λn6 A Y s H vs Q E hr h=>?_)
 ·obtain⟨p,x,rfl,_⟩:=h;rfl
 ·obtain⟨p,x,rfl,p2,pl,⟨y,y1,yp,hy⟩,q⟩:=h
  refine⟨_,Zs (ZG 2 rfl Zx)
   (Zs (Yq am (ZL WI (Zy ZY (Zy ZQ (vn 2) (vn 1)) (vn 0)) Zx (ZR _)) (Zw (Xc (i:=2) (Z9 (by kernel_rfl)) rfl (YY (by kernel_rfl)) Zx Ju (.inl rfl))))
   (Zw (ZE (vn 2)))),?_⟩
  refine Yh (λm j O=>∃k:Nat,j=[some (.int p),some (.int x),some (.int (k:Nat))]/\O=H/\1<=k/\k<=y/\m=y-k)
   (λj O=>∃k:Nat,j=[some (.int p),some (.int x),some (.int (k:Nat))]/\O=H/\1<=k/\k<p/\(k:Int)*x % (p:Int)=1) ?hend ⟨y-1,1,rfl,rfl,Zq _,y1,rfl⟩ ?turn
  case hend=>
   rintro j O ⟨k,rfl,rfl,k1,kp,hk⟩;exact⟨_,rfl,q k k1 kp hk⟩
  case turn=>
   rintro M m j O ⟨k,rfl,rfl,k1,ky,rfl⟩;refine⟨_,rfl,_,rfl,_,_,rfl,rfl,.inl ⟨by omega,by omega⟩,_,rfl,_,_,rfl,rfl,(by show (0:Int)<(p:Int);omega),rfl,_,rfl,?_⟩;refine Ye (λJ=>?_) (λJ=>?_)
   ·have J:(k:Int)*x % (p:Int)≠1:=λz=>by
     rw[Yu,z] at J;simp at J
    have:k≠y:=λz=>by rw[z] at J;exact J hy
    exact⟨_,λ_ _ z=>z,_,rfl,_,_,rfl,rfl,y-(k+1),by omega,k+1,rfl,rfl,by omega,by omega,rfl⟩
   ·have J:(k:Int)*x % (p:Int)=1:=by
     apply aj;intro z;apply J;rw[Yu];simpa using z
    exact M _ _ ⟨k,rfl,rfl,k1,by omega,J⟩
theorem ZiB (F:WB K "first_of" "first_of" ZhV f fd):Z4 P w K mg base Yg 1 f fd ["one", "count", "p"] (Zbr K):=by
 refine F.ok (FS (N:=["one", "count", "p", "d"])) (λvs H Q E h=>?_) (λn9 A n6 s H vs Q E hr h=>?_)
 ·obtain⟨a,xs,e,N,p,d,rfl,_⟩:=h;rfl
 ·obtain⟨a,xs,e,N,p,d,rfl,ha,he,e5,N60,p2,pl,d1,dl,hd,hm,q⟩:=h
  refine⟨_,Zs (ZG 3 rfl Zx)
   (Zs (Yq am (ZL WI (Zy ZY (Zy YB (Zy ZQ (vn 3) (vn 3)) (Zy ZQ (ZD (WU K) (vn 0) Zx (λ_ _=>rfl)) (vn 1))) (vn 2)) Zx (ZR _)) (Zw (Xc (i:=3) (Z9 (by kernel_rfl)) rfl (YY (by kernel_rfl)) Zx Ju (.inl rfl))))
   (Zw (ZE (vn 3)))),?_⟩
  have h0:(xs.map V.int)[0]?=some (.int (e:Int)):=by rw[Zc,he];rfl
  have n8:X8 (xs.map V.int) 0=some (.int (e:Int)):=by
   show X8 (xs.map V.int) ((0:Nat):Int)=_
   first
   |(rw[O];exact h0)
   |(rw[ZH];exact h0)
   |simpa [X8] using h0
  refine Yh (λm j Y=>∃k:Nat,j=[some (.ref a),some (.int (N:Nat)),some (.int (p:Nat)),some (.int (k:Nat))]/\Y=H/\1<=k/\k<=d/\m=d-k)
   (λj Y=>j=[some (.ref a),some (.int (N:Nat)),some (.int (p:Nat)),some (.int (d:Nat))]/\Y=H) ?hend ⟨d-1,1,rfl,rfl,Zq _,d1,rfl⟩ ?turn
  case hend=>
   rintro j Y ⟨rfl,rfl⟩;exact⟨_,rfl,q⟩
  case turn=>
   rintro M m j Y ⟨k,rfl,rfl,k1,ky,rfl⟩;refine⟨_,rfl,_,rfl,_,_,rfl,rfl,.inl ⟨by omega,by omega⟩,_,rfl,a,_,_,_,rfl,rfl,ha,n8,_,rfl,_,_,rfl,rfl,.inl ⟨by omega,by omega⟩,_,_,rfl,rfl,_,rfl,_,_,rfl,rfl,(by show (0:Int)<(p:Int);omega),rfl,_,rfl,?_⟩;refine Ye (λJ=>?_) (λJ=>?_)
   ·have J:((k:Int)*k-e*N) % (p:Int)≠0:=λz=>by
     rw[Yu,z] at J;simp at J
    have:k≠d:=λz=>by rw[z] at J;exact J hd
    exact⟨_,λ_ _ z=>z,_,rfl,_,_,rfl,rfl,d-(k+1),by omega,k+1,rfl,rfl,by omega,by omega,rfl⟩
   ·have J:((k:Int)*k-e*N) % (p:Int)=0:=by
     apply aj;intro z;apply J;rw[Yu];simpa using z
    have:k=d:=by
     apply aj;intro z;exact hm k k1 (by omega) J
    subst this;exact M _ _ ⟨rfl,rfl⟩
theorem Znz (F:WB K "fit_prime" "fit_prime" Zo9 f fd)(T:Bl mg):Z4 P w K mg base Yg 1 f fd ["n", "count"] ZhC:=by
 refine F.ok (FS (N:=["n", "count", "p"])) (λvs H Q E h=>?_) (λo6 A n9 s H vs Q E hr h=>?_)
 ·obtain⟨n,count,p,rfl,_⟩:=h;rfl
 ·obtain⟨n,count,p,rfl,n1,n60,cl,Fp,q⟩:=h
  refine⟨_,Zs (ZG 2 rfl (Zy Yt (vn 0) Zx))
   (Zs (Yq am (VX (ZL Zps (Zy ZQ (vn 2) (vn 2)) (Zy ZQ Zx (vn 1)) (ZR _)) (XU (Wz (cb (ZjD rfl) T.any (pc (cmp ["k"] [2] ["k", "p"] rfl (ZhZ T.range (pc Zx (pc (vn 2) Zt))) (λ_ _ _ _ _=>gn 0) (λ_ _ _ _ _=>ZP) (λ_ _ _ _ _=>Ul V1 (Zy ZY (vn 1) (vn 0)) Zx (ZR _))) Zt))))).pt
    (Zw (Xc (i:=2) (Z9 (by kernel_rfl)) rfl (YY (by kernel_rfl)) (vn 0) Ju (.inl rfl))))
   (Zw (ZE (vn 2)))),?_⟩
  obtain⟨J,eJ,hJ⟩:=Fp.st;have pl:=Fp.lt;have p2:=Fp.p2;refine⟨_,rfl,_,_,rfl,rfl,?_⟩;refine Yh (λm M H'=>∃j:Nat,M=[some (.int (n:Nat)),some (.int (count:Nat)),some (.int (((n+1)+j*n:Nat):Int))]/\Zv H H'/\j<=J/\m=J-j)
   (λM H'=>M=[some (.int (n:Nat)),some (.int (count:Nat)),some (.int (p:Nat))]/\Zv H H') ?hend ⟨J,0,by rw[fv,dH];rfl,Zv.refl _,aV _,rfl⟩ ?turn
  case hend=>
   rintro M H' ⟨rfl,sm⟩;exact⟨_,rfl,q H' sm⟩
  case turn=>
   rintro O m M H' ⟨j,rfl,sm,jJ,rfl⟩;have jn:(n+1)+j*n<=p:=by rw[eJ];have:=cY n jJ;omega
   have o0:Uc count ((n+1)+j*n)=true\/(n+1)+j*n=p:=by
    by_cases z:j=J
    ·exact .inr (by rw[eJ,z])
    ·exact .inl (hJ j (by omega))
   have ok:=Fp.ok;have o7:2<=(n+1)+j*n:=by omega
   have Y:(n+1)+j*n≠p->j<J:=λz=>by
    by_cases e:j=J
    ·exact absurd (by rw[eJ,e]) z
    ·omega
   have n6:(((n+1)+j*n:Nat):Int)+(n:Int)=(((n+1)+(j+1)*n:Nat):Int):=by
    rw[cq];omega
   generalize hx:(n+1)+j*n=x at *;refine⟨_,rfl,_,rfl,_,_,rfl,rfl,.inl ⟨by omega,by omega⟩,_,rfl,_,_,rfl,rfl,.inl ⟨by omega,by omega⟩,_,_,rfl,rfl,_,rfl,?_⟩;refine Ye (λh1=>?_) (λh1=>?_)
   ·have h1:x*x<=4*count:=by have:=of_decide_eq_true h1;rw[<-aI] at this;omega
    have hb:Uc count x=true:=by unfold Uc;rw[decide_eq_true h1];rfl
    have:=Y (λz=>by rw[z,ok] at hb;cases hb);refine (Ye (λ_=>?_) (λh=>absurd rfl h));exact⟨_,λ_ _ z=>z,_,rfl,_,rfl,_,_,rfl,rfl,J-(j+1),by omega,j+1,by rw[<-n6];rfl,sm,by omega,rfl⟩
   ·have h1:¬x*x<=4*count:=λz=>h1 (decide_eq_true (by rw[<-aI];omega))
    refine⟨_,rfl,_,_,rfl,⟨by omega,by omega,by omega,by omega⟩,?_⟩;rw[show ((x:Nat):Int)-2=((x-2:Nat):Int) by omega,Zj];refine JG (Wp 2 (x-2)) [some (.int (x:Nat))] rfl (λy=>match y with | .int z=>.bl ((x:Int) % z == 0)|y=>y) (by rw[Za,Z7];omega) (λi y H2 hy s2 R gg=>?_) (λD H2 hD s2 o5=>?_)
    ·obtain⟨hi,rfl⟩:=UM hy
     have n8:=gg H2 (Zv.refl _);dsimp only at n8;refine⟨_,rfl,_,rfl,_,_,rfl,rfl,(by show (0:Int)<2+(i:Int);omega),rfl,?_⟩;have e:decide (V.int ((x:Int) % (2+(i:Int)))=V.int 0)=((x:Int) % (2+(i:Int)) == 0):=by
      by_cases h:(x:Int) % (2+(i:Int))=0
      ·rw[h];rfl
      ·rw[decide_eq_false (λz=>h (by injection z)),beq_eq_false_iff_ne.mpr h]
     rw[e];exact n8
    ·refine⟨D,(ac (x-2)).map λk=>x % (k+2) == 0,rfl,.of ?_,?_⟩
     ·rw[o5]
      unfold Y6;rw[aK,aK,aK];congr 2;refine aX λi _=>?_;show V.bl ((x:Int) % (2+(i:Int)) == 0)=V.bl (x % (i+2) == 0);congr 1;have:(x:Int) % (2+(i:Int))=((x % (i+2):Nat):Int):=by
       rw[show (2:Int)+(i:Int)=((i+2:Nat):Int) by omega];rfl
      rw[this];cases hq:(x % (i+2) == 0) with
      |true=>rw[eq_of_beq hq];rfl
      |false=>
       have:=ne_of_beq_false hq;exact beq_eq_false_iff_ne.mpr (by omega)
     ·have ea:((ac (x-2)).map λk=>x % (k+2) == 0).any id=(ac (x-2)).any λk=>x % (k+2) == 0:=by rw[fk];rfl
      rw[ea];have eb:Uc count x=((ac (x-2)).any λk=>x % (k+2) == 0):=by unfold Uc;rw[decide_eq_false h1,fW]
      rw[<-eb];have sm2:=sm.trans s2;refine⟨_,rfl,Ye (λh2=>?_) (λh2=>?_)⟩
      ·have:=Y (λz=>by rw[z,ok] at h2;cases h2)
       exact⟨_,λ_ _ z=>z,_,rfl,_,rfl,_,_,rfl,rfl,J-(j+1),by omega,j+1,by rw[<-n6];rfl,sm2,by omega,rfl⟩
      ·have:x=p:=by
        rcases o0 with z|z
        ·exact absurd z h2
        ·exact z
       subst this;exact O _ _ ⟨rfl,sm2⟩
theorem Zrc {a b:Int}(h:(!decide (V.int a=V.int b))=true):a≠b:=λe=>by rw[e,decide_eq_true rfl] at h;cases h
theorem Zrd {a b:Int}(h:¬(!decide (V.int a=V.int b))=true):a=b:=by
 apply aj;intro e;exact h (by rw[decide_eq_false (λz=>e (by injection z))];rfl)
def Jo (p z n:Nat):TV:=(ac n).map λj=>V.int ((z ^ j % p:Nat):Int)
theorem Zc0 (p z n:Nat):Jo p z (n+1)=Jo p z n++[V.int ((z ^ n % p:Nat):Int)]:=by
 unfold Jo;rw[bR,aN];rfl
theorem Ug (p z n:Nat):(Jo p z n).length=n:=by unfold Jo;rw[Za,Zg]
theorem Zkx (p z k:Nat):((z ^ k % p:Nat):Int)*(z:Int) % (p:Int)=((z ^ (k+1) % p:Nat):Int):=by
 rw[<-aI,<-a9,Nat.pow_succ,Nat.mod_mul_mod]
inductive Zbl (vs:TV) (H:Hp) (Q:VK) (E03:XK):Prop
 |mk (n p z0:Nat):(vs=[.int n,.int p])->(1<=n)->(n<=60)->(2<=p)->(p<=100000)->(RtP n p z0)->(∀L H',H L=none->Zv H H'->H' L=some (.lst (Jo p z0 n))->Q (.ref L) H')->Zbl vs H Q E03
theorem Ziw (F:WB K "root_powers" "root_powers" ZhP f fd)(T:Bl mg):Z4 P w K mg base Yg 1 f fd ["n", "p"] Zbl:=by
 refine F.ok (FS (N:=["n", "p", "z", "powers"])) (λvs H Q E h=>?_) (λq0 A o9 s H vs Q E hr h=>?_)
 ·obtain⟨n,p,z0,rfl,_⟩:=h;rfl
 ·obtain⟨n,p,z0,rfl,n1,n60,p2,pl,R,q⟩:=h
  refine⟨_,Zs (ZG 2 rfl Zx)
   (Zs (ZG 3 rfl (ZV (pc Zx Zt)))
   (Zs (Yq am (ZL WI (cb (Ym K) T.len (pc (vn 3) Zt)) (vn 0) (ZR _))
    (Zs (Xc (i:=2) (Z9 (by kernel_rfl)) rfl (YY (by kernel_rfl)) Zx Ju (.inl rfl))
    (Zs (ZG 3 rfl (ZV (pc Zx Zt)))
    (Zw (Yq am (ZL WI (Zy ZY (Zy ZQ (ZD (WU K) (vn 3) (V0 J1 Zx) (λ_ _=>rfl)) (vn 2)) (vn 1)) Zx (ZR _))
     (Zw (YJ (WH aJ aR aU Yb (vn 3) (pc (Zy ZY (Zy ZQ (ZD (WU K) (vn 3) (V0 J1 Zx) (λ_ _=>rfl)) (vn 2)) (vn 1)) Zt)))))))))
   (Zw (ZE (vn 3))))),?_⟩
  have p8:(1:Int)=((1 ^ 0 % p:Nat):Int):=by rw[Nat.pow_zero,aT (by omega)];rfl
  have n8:∀z:Nat,V.int 1=V.int ((z ^ 0 % p:Nat):Int):=λz=>by rw[Nat.pow_zero,aT (by omega)];rfl
  have sz:=JL;refine⟨JY,λL0 o5=>?_⟩;have s0:=Zv.upd (H:=H) (o:=.lst [.int 1]) o5;have h0:upd H L0 (.lst [.int 1]) L0=some (.lst (Jo p 1 1)):=by
   rw[Zu];show some (HO.lst [V.int 1])=some (HO.lst [V.int ((1 ^ 0 % p:Nat):Int)]);rw[n8 1]
  generalize upd H L0 (.lst [.int 1])=H0 at s0 h0 ⊢;refine Yh (λm j J=>∃(z k:Nat) (L:Addr),j=[some (.int (n:Nat)),some (.int (p:Nat)),some (.int (z:Nat)),some (.ref L)]/\Zv H J/\H L=none/\J L=some (.lst (Jo p z k))/\1<=z/\k<=p/\z<=z0/\m=z0-z/\(k=n->z=z0)/\(k≠n->z<z0))
   (λj J=>∃(L:Addr),j=[some (.int (n:Nat)),some (.int (p:Nat)),some (.int (z0:Nat)),some (.ref L)]/\Zv H J/\H L=none/\J L=some (.lst (Jo p z0 n))) ?hend ⟨z0-1,1,1,L0,rfl,s0,o5,h0,Zq _,by omega,?_,rfl,?_,?_⟩ ?turn
  case hend=>
   rintro j J ⟨L,rfl,sm,nL,hL⟩;exact⟨_,rfl,q L J nL sm hL⟩
  ·rcases R with ⟨a,b⟩|⟨a,_⟩ <;> omega
  ·rcases R with ⟨a,b⟩|⟨a,_,b,_⟩ <;> omega
  ·rcases R with ⟨a,b⟩|⟨a,_,b,_⟩ <;> omega
  case turn=>
   rintro n9 m j J ⟨z,k,L,rfl,sm,nL,hL,z1,kp,zz,rfl,c1,c2⟩;refine⟨_,rfl,L,_,rfl,.inl (.of hL),_,rfl,rfl,_,rfl,?_⟩;rw[Ug];refine Ye (λh1=>?_) (λh1=>?_)
   ·have h1:k≠n:=λe=>by
     rw[e,Yu] at h1;simp at h1
    have zl:=c2 h1;rcases R with ⟨a,b⟩|⟨a,ap,b,r,p3,p4,p6⟩
    ·omega
    ·have O:=p3 (z+1) (by omega) (by omega)
     have r1:=O.r1;have rp:=O.rp;refine⟨_,λ_ _ z=>z,_,rfl,_,_,rfl,rfl,JY,λY o6=>?_⟩;have s1:=Zv.upd (H:=J) (o:=.lst [.int 1]) o6;have o7:upd J Y (.lst [.int 1]) Y=some (.lst (Jo p (z+1) 1)):=by
      rw[Zu];show some (HO.lst [V.int 1])=some (HO.lst [V.int (((z+1) ^ 0 % p:Nat):Int)]);rw[n8 (z+1)]
     have o0:H Y=none:=sm.free o6;have sm1:=sm.trans s1;generalize upd J Y (.lst [.int 1])=H1 at s1 o7 sm1 ⊢;have ez:(z:Int)+1=((z+1:Nat):Int):=by omega
     refine Yh (λm j J=>∃k:Nat,j=[some (.int (n:Nat)),some (.int (p:Nat)),some (.int ((z+1:Nat):Int)),some (.ref Y)]/\Zv H J/\J Y=some (.lst (Jo p (z+1) k))/\1<=k/\k<=r (z+1)/\m=r (z+1)-k)
      (λj J=>j=[some (.int (n:Nat)),some (.int (p:Nat)),some (.int ((z+1:Nat):Int)),some (.ref Y)]/\Zv H J/\J Y=some (.lst (Jo p (z+1) (r (z+1))))) ?hend2 ⟨r (z+1)-1,1,by rw[<-ez];rfl,sm1,o7,Zq _,r1,rfl⟩ ?turn2
     case hend2=>
      rintro j H2 ⟨rfl,sm2,h2⟩;refine⟨z0-(z+1),by omega,z+1,r (z+1),Y,rfl,sm2,o0,h2,by omega,rp,by omega,rfl,λe=>?_,λe=>?_⟩
      ·apply aj
       intro ne;exact p4 (z+1) (by omega) (by omega) e
      ·apply aj
       intro ne;have:z+1=z0:=by omega
       rw[this] at e;exact e p6
     case turn2=>
      rintro n6 m j H2 ⟨k,rfl,sm2,h2,k1,kr,rfl⟩;obtain⟨M,rfl⟩:∃M,k=M+1:=⟨k-1,by omega⟩;have o8:X8 (Jo p (z+1) (M+1)) (-1)=some (V.int (((z+1) ^ M % p:Nat):Int)):=by rw[Zc0];exact Zas _ _
      have nx:=Zkx p (z+1) M;refine⟨_,rfl,_,rfl,Y,_,_,_,rfl,rfl,.of h2,o8,_,rfl,_,_,rfl,rfl,.inr ⟨by omega,by omega⟩,_,rfl,_,_,rfl,rfl,(by show (0:Int)<(p:Int);omega),rfl,_,rfl,?_⟩;refine Ye (λh3=>?_) (λh3=>?_)
      ·have h3:(z+1) ^ (M+1) % p≠1:=λe=>by
        rw[Yu,nx,e] at h3;simp at h3
       have:M+1≠r (z+1):=λe=>by rw[e] at h3;exact h3 O.one
       refine⟨_,λ_ _ z=>z,_,rfl,.inl ⟨rfl,_,.of h2⟩,_,rfl,_,rfl,Y,_,_,_,rfl,rfl,.of h2,o8,_,rfl,_,_,rfl,rfl,.inr ⟨by omega,by omega⟩,_,rfl,_,_,rfl,rfl,(by show (0:Int)<(p:Int);omega),Y,_,_,rfl,rfl,h2,by rw[Ug];omega,?_⟩;have e5:Jo p (z+1) (M+1)++[V.int (((((z+1) ^ M % p:Nat):Int))*((z+1:Nat):Int) % (p:Int))]=Jo p (z+1) (M+2):=by rw[nx,Zc0 p (z+1) (M+1)]
       rw[e5];exact⟨r (z+1)-(M+2),by omega,M+2,rfl,sm2.updr o0,Zu,by omega,by omega,rfl⟩
      ·have h3:(z+1) ^ (M+1) % p=1:=by
        apply aj;intro e;apply h3;rw[Yu,nx,beq_eq_false_iff_ne.mpr (λq=>e (by exact_mod_cast q))];rfl
       have:M+1=r (z+1):=by
        apply aj;intro e;exact O.nz (M+1) (by omega) (by omega) h3
       rw[this] at h2;exact n6 _ _ ⟨rfl,sm2,h2⟩
   ·have h1:k=n:=by
     apply aj;intro e;apply h1;rw[Yu];simp;omega
    subst h1;rw[c1 rfl] at hL ⊢;exact n9 _ _ ⟨L,rfl,sm,nL,hL⟩
noncomputable abbrev ZhQ:Stmt:=tq 25
noncomputable abbrev Zmg:Stmt:=tq 26
noncomputable abbrev Zmf:Stmt:=tq 27
def ZI (m:Nat)(v:Nat->Int):TV:=(ac m).map λc=>V.int (v c)
theorem Z1 (m:Nat)(v:Nat->Int):(ZI m v).length=m:=by unfold ZI;rw[Za,Zg]
theorem Yn {m c:Nat}(v:Nat->Int)(h:c<m):(ZI m v)[c]?=some (V.int (v c)):=by
 unfold ZI;rw[Zc,ah h];rfl
theorem Wy {m:Nat}{v u:Nat->Int}(h:∀c,c<m->v c=u c):ZI m v=ZI m u:=by
 unfold ZI;exact aX λc j=>by rw[h c (af.mp j)]
theorem Jv (m:Nat)(v:Nat->Int):ZI m v=((ac m).map v).map V.int:=by
 unfold ZI;rw[aK];rfl
theorem Zcy (m:Nat)(v:Nat->Int):ZI (m+1) v=ZI m v++[V.int (v m)]:=by
 unfold ZI;rw[bR,aN];rfl
theorem Ud (m:Nat)(v:Nat->Int):((ac m).map v).any (· != 0)=true↔∃c,c<m/\v c≠0:=by
 rw[aY];constructor
 ·rintro⟨x,q,h⟩
  obtain⟨c,j,rfl⟩:=aE.mp q;exact⟨c,af.mp j,by simpa using h⟩
 ·rintro⟨c,j,h⟩
  exact⟨v c,aE.mpr ⟨c,af.mpr j,rfl⟩,by simpa using h⟩
def fI2 (g:Int->Int->Int):V->V->V:=λx y=>match x,y with
 | .int a,.int b=>.int (g a b)
 |_,_=>.non
theorem ZeW {m:Nat}{v u:Nat->Int}:(ZI m v).zip (ZI m u)=(ac m).map λc=>(V.int (v c),V.int (u c)):=by
 unfold ZI;rw[List.zip_map']
theorem XE {K:aa}{J:It}{At:Hp->Prop}{own:List Str}{M:T7}{te:TE}{σ:L2.St}{H Hx:Hp}{Q:VK}{m:Nat}{v u:Nat->Int}(S:ZeQ J At ((ZI m v).zip (ZI m u)))(O:∀j,Zv Hx j->At j)(sx:Zv Hx H)(Y:L2.St)(n6:J0 own M σ=none::none::Y)(g:Int->Int->Int)(hz:m<=1000)
  (hs:∀(i:Nat) j,i<m->Zv H j->∀R:VK,R (.int (g (v i) (u i))) j->te (some (.int (v i))::some (.int (u i))::Y) j R)
  (hd:∀D j,H D=none->Zv H j->j D=some (.lst (ZI m λi=>g (v i) (u i)))->Q (.ref D) j):Jf own M (ZgN K 2 (JW (Yj 0) (JW (Yj 1) ZgO))) WR te σ Q J H:=by
 refine Zjt S O sx Y n6 (fI2 g) (by rw[eX,Z1,Z1];omega) (λi x y j q s R gg=>?_) (λD j nD s hD=>hd D j nD s ?_)
 ·rw[ZeW] at q
  have hi:i<m:=by
   have:=(ae.mp q).1;rw[Za,Zg] at this;exact this
  rw[Zc,ah hi] at q;cases q;exact hs i j hi s R (gg j (Zv.refl _))
 ·rw[hD,ZeW,aK]
  rfl
def LLs (H:Hp)(a:Addr)(m:Nat)(F:Nat->Nat->Int):Prop:=∃cs:TW,H a=some (.lst (cs.map V.ref))/\cs.length=m/\∀(c:Nat) b,cs[c]?=some b->H b=some (.lst (ZI m (F c)))
theorem LLs.mono {H j:Hp}{a:Addr}{m:Nat}{F:Nat->Nat->Int}(h:LLs H a m F)(s:Zv H j):LLs j a m F:=by
 obtain⟨q,J,M,O⟩:=h;exact⟨q,s _ _ J,M,λc b hb=>s _ _ (O c b hb)⟩
def U6 (m p:Nat)(F:Nat->Nat->Int)(v:Nat->Int)(k:Int)(c:Nat):Int:=(Wo m (λj=>v j*F c j)-k*v c) % (p:Int)
structure ZjI (m p:Nat)(v:Nat->Int):Prop where
 ge:∀c,c<m->0<=v c
 lt:∀c,c<m->v c<(p:Int)
inductive Zd4 (vs:TV) (H:Hp) (Q:VK) (E03:XK):Prop
 |mk (ca oa:Addr) (m k p:Nat) (F:Nat->Nat->Int) (v:Nat->Int):(vs=[.ref ca,.ref oa,.int k,.int p])->(LLs H ca m F)->(H oa=some (.lst (ZI m v)))->(2<=p)->(p<=100000)->(m<=60)->(k<=100000)->(ZjI m p v)->(∀L H',H L=none->Zv H H'->H' L=some (.lst (ZI m (U6 m p F v k)))->Q (.ref L) H')->Zd4 vs H Q E03
theorem ZlD {J:It}{g:TG}{tb:TS}{D:WZ}{σ:L2.St}{H:Hp}{At:Hp->Prop}{j:List (V×V)}(S:ZeQ J At j)(Pv:Nat->L2.St->Hp->Prop)(h0:Pv 0 σ H)(hS:∀i σ H,Pv i σ H->At H)
  (hs:∀(i:Nat) y z σ H T,j[i]?=some (y,z)->Pv i σ H->H T=none->g (.ref T) σ (upd H T (.tup [y,z])) λM H2=>tb (D.lp (Pv (i+1))) M H2) (hd:∀ σ H,Pv j.length σ H->D.nx σ H) :
  ∃W:Nat->Nat->L2.St->Hp->Prop,(∃m,W 0 m σ H)/\∀i m σ H,W i m σ H->
   (J.stop i H/\D.nx σ H)\/(J.go i H/\∃N:L2.St->Hp->Prop,(∀ O q,N O q->∃m',m'<m/\W (i+1) m' O q)/\∀x q,J.yld i H x q->g x σ q λM H2=>tb (D.lp N) M H2):=by
 refine⟨λi m σ H=>m=j.length-i/\i<=j.length/\Pv i σ H,⟨_,rfl,aV _,h0⟩,?_⟩;rintro i m σ H ⟨rfl,hi,p⟩;have s:=hS i σ H p;by_cases Y:i<j.length
 ·refine .inr ⟨S.go i H s Y,Pv (i+1),λO q p'=>⟨j.length-(i+1),by omega,rfl,Y,p'⟩,λx q hy=>?_⟩
  obtain⟨T,y,z,rfl,hT,rfl,hx⟩:=S.yld i H x q s hy;exact hs i y z σ H T hx p hT
 ·have e:i=j.length:=by omega
  subst e;exact .inl ⟨S.stop _ H s (Zq _),hd σ H p⟩
theorem Zk0 (F:WB K "less_often" "less_often" Zmf f fd)(T5:BlT mg):Z4 P w K mg base Yg 1 f fd ["columns", "one", "k", "p"] Zd4:=by
 refine F.ok (FS (N:=["columns", "one", "k", "p", "found", "column", "x"])) (λvs H Q E h=>?_) (λo5 A n8 s H vs Q E hr h=>?_)
 ·obtain⟨ca,oa,m,k,p,G,v,rfl,_⟩:=h;rfl
 ·obtain⟨ca,oa,m,k,p,G,v,rfl,hC,hO,p2,pl,m60,kl,vo,q⟩:=h
  refine⟨_,Zs (ZG 4 rfl (ZV Zt))
   (Zs (ZN am rfl (Zj0 K T5.zip (pc (vn 0) (pc (vn 1) Zt))) (g2 K 5 6 rfl (gn 5) (gn 6))
    (Zw (YJ (WH aJ aR aU Yb (vn 4)
     (pc (Zy ZY (Zy YB (cb (sumK K rfl) T5.sum (pc (cmp ["y", "often"] [] ["y", "often"] rfl (Zj0 K T5.zip (pc (vn 1) (pc (vn 5) Zt))) (λ_ _ _ _ _=>g2 K 0 1 rfl (gn 0) (gn 1)) (λ_ _ _ _ _=>ZP)
      (λ_ _ _ _ _=>Zy ZQ (vn 0) (vn 1))) Zt)) (Zy ZQ (vn 2) (vn 6))) (vn 3)) Zt)))))
   (Zw (ZE (vn 4)))),?_⟩
  have sz:=JL;obtain⟨cs,c1,c2,c3⟩:=id hC;refine⟨JY,λL nL=>?_⟩;have s0:=Zv.upd (H:=H) (o:=.lst []) nL;have h0:upd H L (.lst []) L=some (.lst (ZI 0 (U6 m p G v k))):=Zu;generalize upd H L (.lst [])=H0 at s0 h0 ⊢;refine⟨_,rfl,_,rfl,ca,oa,false,false,_,_,H,rfl,.lst (.of c1),.lst (.of hO),s0,λJ At S n9=>?_⟩;have o0:((cs.map V.ref).zip (ZI m v)).length=m:=by rw[eX,Za,Z1,c2];omega
  refine ZlD S (λi M H'=>∃(v5 v6:TU),M=[some (.ref ca),some (.ref oa),some (.int (k:Nat)),some (.int (p:Nat)),some (.ref L),v5,v6]/\Zv H H'/\H' L=some (.lst (ZI i (U6 m p G v k))))
   ⟨_,_,rfl,s0,h0⟩ (λi M H' h=>?_) ?_ ?_
  ·obtain⟨_,_,_,sm,_⟩:=h
   exact n9 H' sm
  ·rintro i y z M H1 T' Y ⟨v5,v6,rfl,s1,h1⟩ nT
   have hi:i<m:=by
    have:=(ae.mp Y).1;omega
   rw[gQ,Yn v hi,Zc,Zf (by omega)] at Y;obtain⟨e1,e2⟩:=Y;cases e1;cases e2;have hb:=c3 i (cs[i]'(by omega)) (Zf (by omega));generalize cs[i]'(by omega)=b at hb ⊢;have s2:=Zv.upd (H:=H1) (o:=.tup [.ref b,.int (v i)]) nT;refine⟨T',_,rfl,.of Zu,rfl,_,_,rfl,_,_,rfl,rfl,?_⟩;have O:=s1.trans s2;have h2:=s2 _ _ h1;generalize upd H1 T' (.tup [.ref b,.int (v i)])=H2 at O h2 ⊢;refine⟨_,rfl,.inl ⟨rfl,_,.of h2⟩,_,rfl,_,rfl,oa,b,false,false,_,_,H,rfl,.lst (.of hO),.lst (.of hb),O,λJ' o6 S' n6=>?_⟩;refine XE S' n6 O [] rfl (λx y=>x*y) (by omega) (λj H3 hj s3 R g=>?_) (λD H3 nD s3 hD=>?_)
   ·have a1:=vo.ge j hj
    have a2:=vo.lt j hj;exact⟨_,rfl,_,rfl,_,_,rfl,rfl,.inl ⟨by omega,by omega⟩,g⟩
   ·rw[Jv] at hD
    refine⟨D,_,rfl,.of hD,_,rfl,_,rfl,_,_,rfl,rfl,.inl ⟨by omega,by omega⟩,_,_,rfl,rfl,_,rfl,_,_,rfl,rfl,(by show (0:Int)<(p:Int);omega),L,_,_,rfl,rfl,s3 _ _ h2,by rw[Z1];omega,?_⟩;have e5:ZI i (U6 m p G v k)++[V.int ((((ac m).map λj=>v j*G i j).sum-(k:Int)*v i) % (p:Int))]=ZI (i+1) (U6 m p G v k):=by
     rw[Zcy];rfl
    rw[e5];exact⟨_,_,rfl,(O.trans s3).updr nL,Zu⟩
  ·rintro M H1 ⟨v5,v6,rfl,s1,h1⟩
   rw[o0] at h1;exact⟨_,rfl,q L H1 nL s1 h1⟩
def Ub (t:T9)(i c j:Nat):Int:=(Vw t (Yl t) i j (ZK t c):Nat)
def gW (t:T9)(j:Nat->Nat->Nat)(i s:Nat):Nat:=j s (ZK t i)
theorem Zl3 (C:CD t p m e ω φ)(α:Nat->Int):ZjI m p (Vc t p m e α):=
 ⟨λc _=>cu _ C.p0,λc _=>bT _ (by have:=C.pr.p2;omega)⟩
theorem ZfF (C:CD t p m e ω φ)(j:PW t){i:Nat}(q:i<m)(S:Nat->Bool)(k:Nat):ZI m (U6 m p (Ub t i) (Vc t p m e (lpA S (gW t ω i) k)) (k:Int))=ZI m (Vc t p m e (lpA S (gW t ω i) (k+1))):=by
 refine Wy λc J=>?_;unfold U6 Ub;rw[ZlU C j q J,<-Zlk];rfl
theorem Zmx (C:CD t p m e ω φ)(j:PW t){i:Nat}(J:i<m):∀s,s<m->gW t ω i s<p:=λs q=>C.wlt s _ q ((YU j).rl i (by have:=C.mc;omega))
theorem ZlF (C:CD t p m e ω φ){M:Nat}(O:M<p):∃y:Nat,1<=y/\y<p/\(y:Int)*fcI p M % (p:Int)=1:=by
 have Y:=C.pr.p2;obtain⟨j,q⟩:=Zmz Y M;have J:=Zjg C.pr O (Zq M);rw[<-Zji,fC j q] at J;obtain⟨a,ha⟩:=cG j;rw[ha] at J q ⊢;obtain⟨b,b1,b2,b3⟩:=C.pr.iv a (by omega) (by omega);exact⟨b,b1,b2,by rw[<-aI,<-a9,b3];rfl⟩
inductive Zd5 (vs:TV) (H:Hp) (Q:VK) (E03:XK):Prop
 |mk (ca oa:Addr) (t:T9) (p m:Nat) (e ω φ:Nat->Nat->Nat) (S:Nat->Bool) (i:Nat):(vs=[.ref ca,.ref oa,.int p])->(CD t p m e ω φ)->(PW t)->(i<m)->(p<=100000)->(LLs H ca m (Ub t i))->(H oa=some (.lst (ZI m (Vc t p m e (XI S)))))->((∃s,s<m/\S s=true))->(∀L M H',H L=none->Zv H H'->(∃s,s<m/\S s=true/\gW t ω i s=M)->(∀s,s<m->S s=true->gW t ω i s<=M)->H' L=some (.lst (ZI m (Vc t p m e (XI (XH S (gW t ω i) M)))))->Q (.ref L) H')->Zd5 vs H Q E03
theorem ZlN {t:T9}{p m:Nat}{e j q:Nat->Nat->Nat}(C:CD t p m e j q)(J:PW t):m<=60:=by
 have M:=C.mc;have O:=Wc (t:=t) t.length;have Y:=J.n60;omega
theorem Zk1 (F:WB K "last_part" "last_part" Zmg f fd)(T:Bl mg)(GL:Fn P w K mg base Yg 1 "less_often" ["columns", "one", "k", "p"] Zd4)(GB:Fn P w K mg base Yg 1 "back_by" ["p", "x"] J6):Z4 P w K mg base Yg 2 f fd ["columns", "one", "p"] Zd5:=by
 refine F.ok (FS (N:=["columns", "one", "p", "k", "factor", "left", "after", "undo"])) (λvs H Q E h=>?_) (λp3 A o8 s H vs Q E hr h=>?_)
 ·obtain⟨ca,oa,t,p,m,e,Y,φ,S,i,rfl,_⟩:=h;rfl
 ·obtain⟨ca,oa,t,p,m,e,Y,φ,S,i,rfl,C,Pt,hi,pl,hC,hO,hS,q⟩:=h
  refine⟨_,Zs (ZG 3 rfl Zx)
   (Zs (ZG 4 rfl Zx)
   (Zs (ZG 5 rfl (vn 1))
   (Zs (ZG 6 rfl (Wn GL hr ZM (pc (vn 0) (pc (vn 5) (pc (vn 3) (pc (vn 2) Zt))))))
   (Zs (Yq am (Wz (cb (Zp5 K rfl) T.any (pc (vn 6) Zt)))
    (Zs (ZG 5 rfl (vn 6))
    (Zs (Xc (i:=3) (Z9 (by kernel_rfl)) rfl (YY (by kernel_rfl)) Zx Ju (.inl rfl))
    (Zs (ZG 4 rfl (Zy ZY (Zy ZQ (vn 4) (vn 3)) (vn 2)))
    (Zw (ZG 6 rfl (Wn GL hr ZM (pc (vn 0) (pc (vn 5) (pc (vn 3) (pc (vn 2) Zt)))))))))))
   (Zs (ZG 7 rfl (Wn GB hr ZM (pc (vn 2) (pc (vn 4) Zt))))
   (Zw (ZE (cmp ["x"] [7,2] ["x", "undo", "p"] rfl (itL K (vn 5)) (λ_ _ _ _ _=>gn 0) (λ_ _ _ _ _=>ZP) (λ_ _ _ _ _=>Zy ZY (Zy ZQ (vn 0) (vn 1)) (vn 2)))))))))),?_⟩
  have p2:=C.pr.p2;have m60:=ZlN C Pt;obtain⟨M,n6,n8⟩:=ZnM (g:=gW t Y i) hS;have n9:=Zmx C Pt hi;have Mp:M<p:=by obtain⟨s',o9,_,e'⟩:=n6;rw[<-e'];exact n9 s' o9
  have any:=ZnO C Pt n9 n6 n8;have o0:H oa=some (.lst (ZI m (Vc t p m e (lpA S (gW t Y i) 0)))):=by rw[Zlj];exact hO
  refine⟨_,rfl,_,rfl,_,rfl,_,rfl,_,rfl,ca,oa,m,0,p,Ub t i,_,rfl,hC,o0,p2,pl,m60,by omega,Zl3 C _,λL1 H1 p4 s1 h1=>?_⟩;rw[ZfF C Pt hi] at h1;refine Yh (λx j J=>∃(k:Nat) (l a:Addr),j=[some (.ref ca),some (.ref oa),some (.int (p:Nat)),some (.int (k:Nat)),some (.int (fcI p k)),some (.ref l),some (.ref a),none]/\Zv H J/\J l=some (.lst (ZI m (Vc t p m e (lpA S (gW t Y i) k))))/\J a=some (.lst (ZI m (Vc t p m e (lpA S (gW t Y i) (k+1)))))/\k<=M/\x=M-k)
   (λj J=>∃(l a:Addr),j=[some (.ref ca),some (.ref oa),some (.int (p:Nat)),some (.int (M:Nat)),some (.int (fcI p M)),some (.ref l),some (.ref a),none]/\Zv H J/\J l=some (.lst (ZI m (Vc t p m e (lpA S (gW t Y i) M))))) ?hend ⟨M,0,oa,L1,rfl,s1,s1 _ _ o0,h1,aV _,rfl⟩ ?turn
  case hend=>
   rintro j J ⟨l,a,rfl,sm,hl⟩;obtain⟨y0,y1,y2,y3⟩:=ZlF C Mp;refine⟨_,rfl,_,rfl,p,_,rfl,p2,pl,⟨y0,y1,y2,y3⟩,λy a1 a2 a3=>?_⟩;refine⟨_,rfl,l,rfl,⟨_,.of hl⟩,?_⟩;refine YZ (YV (K:=K) (.of hl)) [some (.int (y:Nat)),some (.int (p:Nat))] rfl (λc=>V.int (Vc t p m e (XI (XH S (gW t Y i) M)) c)) (by rw[Z1];omega) (λc z hz H2 s2 R k2=>?_) (λD H2 nD s2 hD=>?_)
   ·have hc:c<m:=by
     have:=(ae.mp hz).1;rw[Z1] at this;exact this
    rw[Yn _ hc] at hz;cases hz;refine⟨_,rfl,_,rfl,_,_,rfl,rfl,.inr ⟨by omega,by omega⟩,_,rfl,_,_,rfl,rfl,(by show (0:Int)<(p:Int);omega),?_⟩;have o5:=k2 H2 (Zv.refl _);rw[<-ZnN C n8 a3 c] at o5;exact o5
   ·rw[Z1] at hD
    exact q D M H2 (sm.free nD) (sm.trans s2) n6 n8 hD
  case turn=>
   rintro O x j J ⟨k,l,a,rfl,sm,hl,ha,kM,rfl⟩;have o6:=ha;rw[Jv] at o6;refine⟨_,rfl,a,_,rfl,.of o6,_,rfl,?_⟩;refine Ye (λh2=>?_) (λh2=>?_)
   ·have:k+1<=M:=(any (k+1)).mp ((Ud _ _).mp h2)
    have ek:(k:Int)+1=((k+1:Nat):Int):=by omega
    obtain⟨f0,f1⟩:=Zmz p2 k;refine⟨_,λ_ _ z=>z,_,rfl,_,rfl,_,_,rfl,rfl,_,rfl,_,rfl,_,_,rfl,rfl,.inl ⟨by omega,by omega⟩,_,rfl,_,_,rfl,rfl,(by show (0:Int)<(p:Int);omega),_,rfl,_,rfl,_,rfl,_,rfl,ca,a,m,k+1,p,Ub t i,_,by rw[<-ek];rfl,hC.mono sm,ha,p2,pl,m60,by omega,Zl3 C _,λL2 H2 p6 s2 o7=>?_⟩;rw[ZfF C Pt hi] at o7;exact⟨M-(k+1),by omega,k+1,a,L2,by rw[<-ek];rfl,sm.trans s2,s2 _ _ ha,o7,this,rfl⟩
   ·have:¬k+1<=M:=λz=>h2 ((Ud _ _).mpr ((any (k+1)).mpr z))
    have e2:k=M:=by omega
    subst e2;exact O _ _ ⟨l,a,rfl,sm,hl⟩
def WS (H:Hp)(a:Addr)(t:T9)(p m:Nat)(e:Nat->Nat->Nat)(cs:TW)(q:List (Nat->Bool)):Prop:=H a=some (.lst (cs.map V.ref))/\cs.length=q.length/\∀(j:Nat) b,cs[j]?=some b->∃S,q[j]?=some S/\H b=some (.lst (ZI m (Vc t p m e (XI S))))
theorem WS.mono {H q:Hp}{a:Addr}{cs:TW}{J:List (Nat->Bool)}(h:WS H a t p m e cs J)(s:Zv H q):WS q a t p m e cs J:=
 ⟨s _ _ h.1,h.2.1,λj b hb=>by
  obtain⟨S,M,O⟩:=h.2.2 j b hb;exact⟨S,M,s _ _ O⟩⟩
theorem WS.push {H:Hp}{a c:Addr}{cs:TW}{q:List (Nat->Bool)}{S:Nat->Bool}(h:WS H a t p m e cs q)(Y:H c=some (.lst (ZI m (Vc t p m e (XI S)))))(hv:∀(j:Nat) b,(cs++[c])[j]?=some b->b≠a):WS (upd H a (.lst (cs.map V.ref++[.ref c]))) a t p m e (cs++[c]) (q++[S]):=by
 refine⟨by rw[Zu,aN];rfl,by rw[Zd,Zd,h.2.1];rfl,λj b hb=>?_⟩;have J:=hv j b hb;by_cases M:j<cs.length
 ·rw[au M] at hb
  obtain⟨S',h1,h2⟩:=h.2.2 j b hb;exact⟨S',by rw[au (by rw[<-h.2.1];exact M)];exact h1,by rw[Zz J];exact h2⟩
 ·have hl:=(ae.mp hb).1
  rw[Zd,Zk] at hl;have O:j=cs.length:=by omega
  rw[av (by omega),O,cC] at hb;cases hb;refine⟨S,?_,by rw[Zz J];exact Y⟩;rw[O,h.2.1,av (Zq _),cC];rfl
theorem ZbO {H:Hp}{a b:Addr}{xs:TV}{ys:TV}(j:H a=some (.lst xs))(q:H b=some (.lst ys))(h:xs≠ys):a≠b:=λz=>by
 rw[z,q] at j;injection j with j;injection j with j;exact h j.symm
theorem UO {cs:TW}{m:Nat}{v:Nat->Int}(q:1<=m):cs.map V.ref≠ZI m v:=λz=>by
 have h:=congrArg (λl=>l[0]?) z;simp only[Yn v (show 0<m by omega),Zc] at h;cases j:cs[0]? with
 |none=>rw[j] at h;cases h
 |some c=>rw[j] at h;cases h
inductive Zbm (vs:TV) (H:Hp) (Q:VK) (E03:XK):Prop
 |mk (ca oa:Addr) (t:T9) (p m:Nat) (e ω φ:Nat->Nat->Nat) (S:Nat->Bool) (i:Nat):(vs=[.ref ca,.ref oa,.int p])->(CD t p m e ω φ)->(PW t)->(i<m)->(p<=100000)->(LLs H ca m (Ub t i))->(H oa=some (.lst (ZI m (Vc t p m e (XI S)))))->(∀L cs Ss H',H L=none->Zv H H'->PtS m S (gW t ω i) Ss->WS H' L t p m e cs Ss->Q (.ref L) H')->Zbm vs H Q E03
theorem Zj5 {m:Nat}{S:Nat->Bool}{g:Nat->Nat}{j:List (Nat->Bool)}{R:Nat->Bool}(W:PtW m S g j R):j.length<=m:=by
 have:=L2.YH (j.map (pkS m)) (ac m) (ZaQ W.ne W.dj) (λx q=>by
  obtain⟨T,J,rfl⟩:=aE.mp q;exact af.mpr (XN (W.ne T J)).1)
 rwa [Za,Zg] at this
theorem Zix (F:WB K "parts_by" "parts_by" ZhQ f fd)(T:Bl mg)(T5:BlT mg)(GL:Fn P w K mg base Yg 2 "last_part" ["columns", "one", "p"] Zd5):Z4 P w K mg base Yg 3 f fd ["columns", "one", "p"] Zbm:=by
 refine F.ok (FS (N:=["columns", "one", "p", "parts", "rest", "part"])) (λvs H Q E h=>?_) (λr9 A p4 s H vs Q E hr h=>?_)
 ·obtain⟨ca,oa,t,p,m,e,ω,φ,S,i,rfl,_⟩:=h;rfl
 ·obtain⟨ca,oa,t,p,m,e,ω,φ,S,i,rfl,C,Pt,hi,pl,hC,hO,q⟩:=h
  refine⟨_,Zs (ZG 3 rfl (ZV Zt))
   (Zs (ZG 4 rfl (vn 1))
   (Zs (Yq am (Wz (cb (Zp5 K rfl) T.any (pc (vn 4) Zt)))
    (Zs (ZG 5 rfl (Wn GL hr ZM (pc (vn 0) (pc (vn 4) (pc (vn 2) Zt)))))
    (Zs (YJ (WH aJ aR aU Yb (vn 3) (pc (vn 5) Zt)))
    (Zw (ZbA 4 ["x", "y"] [2] ["x", "y", "p"] rfl rfl (Zj0 K T5.zip (pc (vn 4) (pc (vn 5) Zt))) (λ_ _ _ _ _=>g2 K 0 1 rfl (gn 0) (gn 1)) (λ_ _ _ _ _=>ZP) (λ_ _ _ _ _=>Zy ZY (Zy YB (vn 0) (vn 1)) (vn 2)))))))
   (Zw (ZE (vn 3))))),?_⟩
  have p2:=C.pr.p2;have t5:=ZlN C Pt;have m1:=C.m1;have sz:=JL;have p6:=Zmx C Pt hi;refine⟨JY,λL nL=>?_⟩;have s0:=Zv.upd (H:=H) (o:=.lst []) nL;have h0:upd H L (.lst []) L=some (.lst ([]:TV)):=Zu;generalize upd H L (.lst [])=H0 at s0 h0 ⊢;refine⟨_,rfl,?_⟩;refine Yh (λx Y H'=>∃(cs:TW) (Ss:List (Nat->Bool)) (R:Nat->Bool) (r:Addr) (v5:TU),Y=[some (.ref ca),some (.ref oa),some (.int (p:Nat)),some (.ref L),some (.ref r),v5]/\Zv H H'/\WS H' L t p m e cs Ss/\PtW m S (gW t ω i) Ss R/\H' r=some (.lst (ZI m (Vc t p m e (XI R))))/\∀s,s<m->R s=true->gW t ω i s<x)
   (λY H'=>∃(cs:TW) (Ss:List (Nat->Bool)) (r:Addr) (v5:TU),Y=[some (.ref ca),some (.ref oa),some (.int (p:Nat)),some (.ref L),some (.ref r),v5]/\Zv H H'/\WS H' L t p m e cs Ss/\PtS m S (gW t ω i) Ss) ?hend
   ⟨p,[],[],S,oa,none,rfl,s0,⟨h0,rfl,λj b hb=>by simp at hb⟩,.zero,s0 _ _ hO,λs hs _=>p6 s hs⟩ ?turn
  case hend=>
   rintro Y H' ⟨cs,Ss,r,v5,rfl,sm,hP,hS⟩;exact⟨_,rfl,q L cs Ss H' nL sm hS hP⟩
  case turn=>
   rintro n9 x Y H' ⟨cs,Ss,R,r,v5,rfl,sm,hP,hW,hR,hx⟩;have o0:=hR;rw[Jv] at o0;refine⟨_,rfl,r,_,rfl,.of o0,_,rfl,?_⟩;refine Ye (λh2=>?_) (λh2=>?_)
   ·have p7:=(Zf3 C Pt R).mp ((Ud _ _).mp h2)
    refine⟨_,λ_ _ z=>z,_,rfl,_,rfl,_,rfl,ca,r,t,p,m,e,ω,φ,R,i,rfl,C,Pt,hi,pl,hC.mono sm,hR,p7,λL2 M H2 t6 s2 g1 o5 n6=>?_⟩;have O:=hP.mono s2;have o6:=s2 _ _ hR;have sl:=Zj5 hW;have n8:∀{b:Addr}{v:Nat->Int},H2 b=some (.lst (ZI m v))->b≠L:=λ{b v} hb=>ZbO hb O.1 (UO m1).symm;have o7:=O.push n6 (λj b hb=>by
     rcases bO.mp (az hb) with z|z
     ·obtain⟨j',p8⟩:=bn z
      obtain⟨S',_,q0⟩:=O.2.2 j' b p8;exact n8 q0
     ·rw[aQ.mp z]
      exact n8 n6)
    refine⟨_,rfl,.inl ⟨rfl,_,.of O.1⟩,_,rfl,L,_,_,rfl,rfl,O.1,by rw[Za,O.2.1];omega,?_⟩;have sm3:Zv H (upd H2 L (.lst (cs.map V.ref++[.ref L2]))):=(sm.trans s2).updr nL;have o8:upd H2 L (.lst (cs.map V.ref++[.ref L2])) r=some (.lst (ZI m (Vc t p m e (XI R)))):=by rw[Zz (n8 o6)];exact o6
    have o9:upd H2 L (.lst (cs.map V.ref++[.ref L2])) L2=some (.lst (ZI m (Vc t p m e (XI (XH R (gW t ω i) M))))):=by rw[Zz (n8 n6)];exact n6
    generalize upd H2 L (.lst (cs.map V.ref++[.ref L2]))=H3 at o7 sm3 o8 o9 ⊢;refine⟨_,rfl,_,rfl,r,L2,false,false,_,_,H3,rfl,.lst (.of o8),.lst (.of o9),Zv.refl _,λJ At S' r6=>?_⟩;refine XE S' r6 (Zv.refl _) [some (.int (p:Nat))] rfl (λa b=>(a-b) % (p:Int)) (by omega) (λj H4 hj s4 R' g=>?_) (λD H4 nD s4 hD=>?_)
    ·exact⟨_,rfl,_,rfl,_,_,rfl,rfl,_,rfl,_,_,rfl,rfl,(by show (0:Int)<(p:Int);omega),g⟩
    ·have e5:(ZI m λj=>(Vc t p m e (XI R) j-Vc t p m e (XI (XH R (gW t ω i) M)) j) % (p:Int))=ZI m (Vc t p m e (XI (ZbY R (gW t ω i) M))):=Wy λc _=>ZnP o5 c
     rw[e5] at hD;refine⟨M,?_,cs++[L2],Ss++[XH R (gW t ω i) M],ZbY R (gW t ω i) M,D,_,rfl,sm3.trans s4,o7.mono s4,hW.step g1 o5,hD,λs' p3 q'=>?_⟩
     ·obtain⟨s',p3,a,b⟩:=g1
      rw[<-b];exact hx s' p3 a
     ·unfold ZbY at q'
      rw[ag,decide_eq_true_eq] at q';exact q'.2
   ·have r8:¬ ∃s,s<m/\R s=true:=λz=>h2 ((Ud _ _).mpr ((Zf3 C Pt R).mpr z))
    exact n9 _ _ ⟨cs,Ss,r,v5,rfl,sm,hP,hW.end r8⟩
structure KS (kvs:List (YL×V))(ks:T7):Prop where
 keys:kvs.map (·.1)=ks.map λa:Nat=>(iB (a:Int):YL)
 nd:ks.Nodup
theorem KS.nil:KS [] []:=⟨rfl,eA⟩
theorem KS.len {j:List (YL×V)}{q:T7}(h:KS j q):j.length=q.length:=by
 have:=congrArg eB h.keys;rwa [Za,Za] at this
theorem KS.some {j:List (YL×V)}{q:T7}(h:KS j q)(a:Nat):(Y0 j (.inl (a:Int))).isSome=q.contains a:=by
 rw[<-W3];have e:(j.any λM=>decide (M.1=(.inl (a:Int):YL)))=(j.map (·.1)).any λk=>decide (k=(.inl (a:Int):YL)):=by rw[fk];rfl
 rw[e,h.keys,fk];by_cases hm:a∈q
 ·rw[aA.mpr hm,aY]
  exact⟨a,hm,by simp⟩
 ·have J:q.contains a=false:=by
   cases J:q.contains a with
   |false=>rfl
   |true=>exact absurd (aA.mp J) hm
  rw[J,jw];intro b hb z;have z:=of_decide_eq_true z;injection z with z;have:b=a:=by omega
  exact hm (this▸hb)
theorem KS.put {j:List (YL×V)}{q:T7}(h:KS j q)(a:Nat)(v:V):KS (WT j (.inl (a:Int)) v) (if q.contains a then q else q++[a]):=by
 have M:=h.some a;by_cases J:q.contains a=true
 ·rw[if_pos J]
  rw[J] at M;refine⟨?_,h.nd⟩;unfold WT;rw[if_pos (by rw[W3];exact M),aK,<-h.keys];refine aX λO _=>?_;show (if O.1=_ then (O.1,v) else O).1=O.1
  split <;> rfl
 ·rw[if_neg J]
  have Y:Y0 j (.inl (a:Int))=none:=by
   cases hv:Y0 j (.inl (a:Int)) with
   |none=>rfl
   |some x=>rw[hv] at M;exact absurd M.symm J
  rw[Zii v Y];refine⟨by rw[aN,aN,h.keys];rfl,?_⟩;rw[m8];refine⟨h.nd,by simp,λb hb c hc z=>J ?_⟩;rw[aQ.mp hc] at z;exact aA.mpr (z▸hb)
theorem Zky {j:T7}{a b:Nat}:b∈(if j.contains a then j else j++[a])↔b∈j\/b=a:=by
 split
 ·rename_i h
  exact⟨.inl,λz=>z.elim id λe=>by rw[e];exact aA.mp h⟩
 ·rw[bO,aQ]
theorem Zkz (j:T7)(a:Nat):(if j.contains a then j else j++[a]).length<=j.length+1:=by
 split
 ·omega
 ·rw[Zd,Zk];exact Zq _
inductive Jz (vs:TV) (H:Hp) (Q:VK) (E03:XK):Prop
 |mk (g:Addr) (t:T9):(vs=[.ref g])->(GT H g t)->(PW t)->(∀c H',Zv H H'->CT H' c (ZC t t.length)->Q (.ref c) H')->Jz vs H Q E03
theorem _root_.Pm.TupsAt.updD {H:Hp}{L D:Addr}{bs:TW}{yss:T9}{j:List (YL×V)}{o:HO}(q:H D=some (.dK j))(R:TupsAt H L bs yss):TupsAt (upd H D o) L bs yss:=by
 refine⟨?_,R.2.1,λi b hb=>?_⟩
 ·rw[Zz λz=>by have:=R.1;rw[z,q] at this;cases this]
  exact R.1
 ·rw[Zz λz=>by have:=R.2.2 i b hb;rw[z,q] at this;cases this]
  exact R.2.2 i b hb
theorem _root_.Pm.TupsAt.last {H:Hp}{L r:Addr}{bs:TW}{yss:T9}{ys:T7}(R:TupsAt H L (bs++[r]) (yss++[ys])):H r=some (.tup (ys.map nV)):=by
 have j:=R.2.1;rw[Zd,Zd,Zk,Zk] at j;have:=R.2.2 bs.length r (by rw[av (Zq _),cC];rfl);rw[Zb,av (by omega),show bs.length-yss.length=0 by omega] at this;exact this
theorem ZpP {H:Hp}{L c:Addr}{bs:TW}{yss:T9}(R:TupsAt H L bs yss)(j:H c=none):CT (upd H c (.tup (bs.map V.ref))) c yss:=⟨bs,Zu,R.2.1,λi r q=>Zv.upd j _ _ (R.2.2 i r q)⟩
theorem Zet (F:WB K "classes_of" "classes_of" UK f fd)(T:Bl mg)(GN:Fn P w K mg base Yg 3 "turnings" ["group", "b"] XR):Z4 P w K mg base Yg 4 f fd ["group"] Jz:=by
 refine F.ok (FS (N:=["group", "found", "seen", "b", "a"])) (λvs H Q E h=>?_) (λo8 A o9 s H vs Q E hr h=>?_)
 ·obtain⟨g,t,rfl,_⟩:=h;rfl
 ·obtain⟨g,t,rfl,G,Pt,q⟩:=h
  have hu:(A.deeper (envOfC "classes_of" (Z0 UK) s.heap.objs.size f o8)).units+1<cLine:=by have:=hr.un;omega
  refine⟨_,Zs (ZG 1 rfl (ZV Zt))
   (Zs (ZG 2 rfl Zc3)
   (Zs (ZN am rfl (WG T.range (pc (cb (Ym K) T.len (pc (vn 0) Zt)) Zt)) (gn 3)
    (Zw (Y3 (Zep (ZaS hu (vn 3) (vn 2)))
     (Zs (YJ (WH aJ aR aU Yb (vn 1) (pc (Wn GN hr ZM (pc (vn 0) (pc (vn 3) Zt))) Zt)))
     (Zw (ZN am rfl (itT K (ZD (WU K) (vn 1) (V0 J1 Zx) (λ_ _=>rfl))) (gn 4) (Zw (Xz hu (vn 2) (vn 4) Xe (by rfl)))))) Ya)))
   (Zw (ZE (ct ZX T.tuple (pc (vn 1) Zt)))))),?_⟩
  have sz:=JL;have p8:=Pt.n60;refine⟨JY,λL nL=>λD nD=>?_⟩;have s1:=Zv.upd (H:=H) (o:=.lst []) nL;have s2:=s1.trans (Zv.upd (o:=.dK []) nD);have p3:H D=none:=s1.free nD;obtain⟨gs,u1,u2,_⟩:=id (G.mono s2);have el:(gs.map V.ref).length=t.length:=by rw[Za,u2]
  refine⟨_,rfl,g,_,rfl,.inr (.of u1),_,rfl,by rw[el];omega,by rw[el];omega,?_⟩;rw[el,Zj];refine ZT (λi M H'=>∃(w3 w4:TU) (bs:TW) (J:List (YL×V)) (ks:T7),M=[some (.ref g),some (.ref L),some (.ref D),w3,w4]/\Zv H H'/\TupsAt H' L bs (ZC t i)/\H' D=some (.dK J)/\KS J ks/\(∀a,a∈ks↔YD (ZC t i) a=true)/\ks.length<=60*i)
   ⟨_,_,[],[],[],rfl,s2,⟨Zv.upd nD _ _ Zu,rfl,λi b hb=>by cases hb⟩,Zu,.nil,λa=>⟨λz=>(by cases z),λz=>(by cases z)⟩,Zq _⟩ ?_ ?_
  ·rintro i M H3 hi ⟨w3,w4,bs,J,ks,rfl,s3,R,hD,hK,n6,kl⟩
   rw[show (0:Int)+(i:Int)=(i:Int) by omega];refine⟨_,rfl,_,rfl,D,_,rfl,JJ.k (k:=.inl (i:Int)) hD,_,rfl,?_⟩;have o5:(Y0 J (.inl (i:Int))).isSome=YD (ZC t i) i:=by
    rw[hK.some];cases hc:YD (ZC t i) i with
    |true=>exact aA.mpr ((n6 i).mpr hc)
    |false=>
     cases p4:ks.contains i with
     |false=>rfl
     |true=>rw[(n6 i).mp (aA.mp p4)] at hc;cases hc
   rw[o5];refine Ye (λh=>?_) (λh=>?_)
   ·have h:YD (ZC t i) i=false:=by simpa using h
    have eU:ZC t (i+1)=ZC t i++[ZZ t i]:=by
     rw[ZC,if_neg (by unfold YD at h;rw[h];decide)]
    refine⟨_,rfl,.inl ⟨rfl,_,.of R.1⟩,_,rfl,_,rfl,g,t,i,rfl,G.mono s3,Pt,hi,λr H4 s4 p6=>?_⟩;have R4:=R.mono s4;have bl:=R4.2.1;have ul:=Wc (t:=t) i;refine⟨L,_,_,rfl,rfl,R4.1,by rw[Za];omega,?_⟩;have R5:=R4.push p6;have o6:upd H4 L (.lst (bs.map V.ref++[.ref r])) D=some (.dK J):=by
     rw[Zz λz=>by have:=s4 _ _ hD;rw[z,R4.1] at this;cases this];exact s4 _ _ hD
    have s5:Zv H (upd H4 L (.lst (bs.map V.ref++[.ref r]))):=(s3.trans s4).updr nL;refine⟨_,rfl,_,rfl,L,_,_,_,rfl,rfl,.of Zu,Zas _ _,r,rfl,⟨_,.of R5.last⟩,?_⟩;generalize upd H4 L (.lst (bs.map V.ref++[.ref r]))=H5 at R5 o6 s5 ⊢;have cl:=ZfX (t:=t) i;refine ZfN (K:=K) (a:=r) (xs:=(ZZ t i).map nV) (λj M H'=>∃(w4:TU) (J:List (YL×V)) (O:T7),M=[some (.ref g),some (.ref L),some (.ref D),some (.int (i:Nat)),w4]/\Zv H H'/\TupsAt H' L (bs++[r]) (ZC t i++[ZZ t i])/\H' D=some (.dK J)/\KS J O/\(∀a,a∈O↔a∈ks\/a∈(ZZ t i).take j)/\O.length<=60*i+j)
     ⟨_,J,ks,rfl,s5,R5,o6,hK,λa=>⟨.inl,λz=>z.elim id λz=>by rw[fg] at z;cases z⟩,kl⟩ (λj M H' _ h=>by
      obtain⟨_,_,_,_,_,R',_⟩:=h;exact .of R'.last) ?_ ?_
    ·rintro j y M H6 hy ⟨p7,o0,O,rfl,s6,R6,n8,n9,Y,o7⟩
     obtain⟨k,hk,rfl⟩:=XW hy;have hj:j<(ZZ t i).length:=(ae.mp hk).1;refine⟨_,rfl,_,rfl,D,_,rfl,VU.k (k:=.inl (k:Int)) n8 (by rw[n9.len];omega),?_⟩;refine⟨_,_,_,rfl,s6.updr p3,R6.updD n8,Zu,n9.put k (.bl true),λa=>?_,?_⟩
     ·rw[Zky,Y,cW,hk,bO]
      show _↔a∈ks\/a∈(ZZ t i).take j\/a∈[k];rw[aQ];exact⟨λz=>z.elim (λz=>z.elim .inl λz=>.inr (.inl z)) λz=>.inr (.inr z),λz=>z.elim (λz=>.inl (.inl z)) λz=>z.elim (λz=>.inl (.inr z)) .inr⟩
     ·have:=Zkz O k
      omega
    ·rintro M H6 ⟨p7,o0,O,rfl,s6,R6,n8,n9,Y,o7⟩
     rw[Za] at Y o7;refine⟨_,_,bs++[r],o0,O,rfl,s6,by rw[eU];exact R6,n8,n9,λa=>?_,by omega⟩;rw[Y,c8,n6 a,eU];unfold YD;rw[iG,bh,c6,kZ,fV,aA]
   ·have h:YD (ZC t i) i=true:=by simpa using h
    have eU:ZC t (i+1)=ZC t i:=by
     rw[ZC,if_pos (by unfold YD at h;rw[h])]
    exact⟨_,_,bs,J,ks,rfl,s3,by rw[eU];exact R,hD,hK,λa=>by rw[eU];exact n6 a,by omega⟩
  ·rintro M H3 ⟨w3,w4,bs,J,ks,rfl,s3,R,hD,hK,n6,kl⟩
   exact⟨_,rfl,L,_,rfl,.inl ⟨.of R.1,λc nc=>q c _ (s3.trans (Zv.upd nc)) (ZpP R nc)⟩⟩
noncomputable abbrev Zmh:Stmt:=tq 1
noncomputable abbrev ZcO:Stmt:=tq 10
def hol (j:T9):Nat->Nat->Nat
 |0,_=>0
 |k+1,a=>if (j.getD k []).contains a then k else hol j k a
inductive Zd6 (vs:TV) (H:Hp) (Q:VK) (E03:XK):Prop
 |mk (c:Addr) (css:T9) (n:Nat):(vs=[.ref c,.int n])->(CT H c css)->((∀row∈css,∀a∈row,a<n))->(n<=60)->(css.length<=60)->(∀r H',Zv H H'->H' r=some (.tup ((Yd n (hol css css.length)).map nV))->Q (.ref r) H')->Zd6 vs H Q E03
inductive Zbn (vs:TV) (H:Hp) (Q:VK) (E03:XK):Prop
 |mk (g:Addr) (t:T9):(vs=[.ref g])->(GT H g t)->(PW t)->(∀r H',Zv H H'->H' r=some (.tup ((Yd t.length (hol (ZC t t.length) (ZC t t.length).length)).map nV))->Q (.ref r) H')->Zbn vs H Q E03
theorem Zk2 (F:WB K "holders" "holders" Zmh f fd)(T:Bl mg)(T2:ZeV mg):Z4 P w K mg base Yg 1 f fd ["bundles", "count"] Zd6:=by
 refine F.ok (FS (N:=["bundles", "count", "numbers", "k", "members", "a"])) (λvs H Q E h=>?_) (λp4 A o6 s H vs Q E hr h=>?_)
 ·obtain⟨c,J,n,rfl,_⟩:=h;rfl
 ·obtain⟨c,J,n,rfl,C,o7,n60,c60,q⟩:=h
  refine⟨_,Zs (ZG 2 rfl (Zy W9 (ZV (pc Zx Zt)) (vn 1)))
   (Zs (ZN am rfl (Zaa K T2.enumerate (pc (vn 0) Zt)) (g2 K 3 4 rfl (gn 3) (gn 4))
    (Zw (ZN am rfl (itT K (vn 4)) (gn 5) (Zw (Jp (vn 3) (Xd (vn 2) (vn 5) YR))))))
   (Zw (ZE (ct ZX T.tuple (pc (vn 2) Zt))))),?_⟩
  have sz:=JL;obtain⟨rs,c1,c2,c3⟩:=C.row;refine⟨JY,λl0 o8=>⟨_,rfl,l0,_,_,rfl,rfl,Zu,by omega,by omega,by show 1*((n:Int)).toNat<=sizeLine;omega,λL nL=>?_⟩⟩;rw[Zj];have s1:=Zv.upd (H:=H) (o:=.lst [.int 0]) o8;have o9:H L=none:=s1.free nL;have e0:(aq n [V.int 0]).flatten=(Yd n (hol J 0)).map nV:=by
   unfold Yd;rw[aK];have:∀m k,(aq m [V.int 0]).flatten=(dA k m).map λ_=>nV 0:=λm=>by
    induction m with
    |zero=>intro k;rfl
    |succ m ih=>intro k;rw[ba,bZ,ih (k+1),eE,aG];rfl
   rw[this n 0,<-eh];rfl
  rw[e0];have s2:=s1.trans (Zv.upd (o:=.lst ((Yd n (hol J 0)).map nV)) nL);refine⟨_,rfl,c,rfl,.inr ⟨⟨_,.of (s2 _ _ c1)⟩,?_⟩⟩;refine Je (Zcb (K:=K) (xs:=rs.map V.ref)) (λi M H'=>∃v3 v4 v5:TU,M=[some (.ref c),some (.int (n:Nat)),some (.ref L),v3,v4,v5]/\Zv H H'/\H' L=some (.lst ((Yd n (hol J i)).map nV)))
   ⟨_,_,_,rfl,s2,Zu⟩ (λi M H' h=>by
    obtain⟨_,_,_,_,sm,_⟩:=h;exact sm.tup (.of c1)) ?_ ?_
  ·rintro i y M H3 T' hy ⟨v3,v4,v5,rfl,s3,O⟩ nT
   obtain⟨r,rfl,hi,Y⟩:=c3 i y hy;have s4:=Zv.upd (H:=H3) (o:=.tup [.int (i:Nat),.ref r]) nT;refine⟨T',_,rfl,.of Zu,rfl,_,_,rfl,_,_,rfl,rfl,?_⟩;generalize upd H3 T' (.tup [.int (i:Nat),.ref r])=H4 at s4 ⊢;have n9:=(s3.trans s4) _ _ Y;have hm:J.getD i []∈J:=by
    rw[Zb,Zf hi];exact bB hi
   have n8:=o7 _ hm;generalize o0:J.getD i []=row at Y n9 n8;refine⟨_,rfl,r,rfl,⟨_,.of n9⟩,?_⟩;refine ZfN (K:=K) (a:=r) (xs:=row.map nV) (λj M H'=>∃v5:TU,M=[some (.ref c),some (.int (n:Nat)),some (.ref L),some (.int (i:Nat)),some (.ref r),v5]/\Zv H H'/\H' L=some (.lst ((Yd n λa=>if (row.take j).contains a then i else hol J i a).map nV)))
    ⟨_,rfl,s3.trans s4,by
     have e:(Yd n λa=>if ((row.take 0).contains a)=true then i else hol J i a)=Yd n (hol J i):=Wg λa _=>by rw[fg];rfl
     rw[e];exact s4 _ _ O⟩ (λj M H' _ h=>by
     obtain⟨_,_,sm,_⟩:=h;exact .of (sm _ _ (by rw[<-o0] at Y ⊢;exact Y))) ?_ ?_
   ·rintro j y M H5 hy ⟨p3,rfl,s5,n6⟩
    obtain⟨k,hk,rfl⟩:=XW hy;have o5:k<n:=n8 k (az hk);refine⟨_,rfl,_,rfl,_,rfl,L,_,_,k,rfl,rfl,n6,Jc (by rw[Za,UN];exact o5),?_⟩;refine⟨_,rfl,s5.updr o9,?_⟩;rw[Zu];have e:=ZcU (k:=i) (λa=>if ((row.take j).contains a)=true then i else hol J i a) o5
    have e2:(Yd n λb=>if b=k then i else if ((row.take j).contains b)=true then i else hol J i b)=Yd n λa=>if ((row.take (j+1)).contains a)=true then i else hol J i a:=Wg λa _=>by
     rw[cW,hk];by_cases h1:a=k
     ·subst h1
      rw[if_pos rfl,if_pos (aA.mpr (aO _ (by simp)))]
     ·rw[if_neg h1]
      by_cases h2:a∈row.take j
      ·rw[if_pos (aA.mpr h2),if_pos (aA.mpr (cg _ h2))]
      ·rw[if_neg (λz=>h2 (aA.mp z)),if_neg (λz=>?_)]
       rcases bO.mp (aA.mp z) with z|z
       ·exact h2 z
       ·exact h1 (by simpa using z)
    rw[e2] at e;exact congrArg (λxs=>some (HO.lst xs)) e
   ·rintro M H5 ⟨p3,rfl,s5,n6⟩
    refine⟨_,_,_,rfl,s5,?_⟩;rw[Za] at n6;rw[n6];have e:(Yd n λa=>if ((row.take row.length).contains a)=true then i else hol J i a)=Yd n (hol J (i+1)):=Wg λa _=>by
     rw[c8,hol,o0]
    rw[e]
  ·rintro M H3 ⟨v3,v4,v5,rfl,s3,O⟩
   rw[Za,c2] at O;exact⟨_,rfl,L,_,rfl,.inl ⟨.of O,λr nr=>q r _ (s3.trans (Zv.upd nr)) Zu⟩⟩
theorem ZlM {t:T9}(j:PW t):∀row∈ZC t t.length,∀a∈row,a<t.length:=λrow q a J=>by
 obtain⟨b,_,rfl⟩:=Jl j t.length (Zq _) row q;exact X4 J
theorem ZkX (F:WB K "class_numbers" "class_numbers" ZcO f fd)(T:Bl mg)(GC:Fn P w K mg base Yg 4 "classes_of" ["group"] Jz)(GH:Fn P w K mg base Yg 1 "holders" ["bundles", "count"] Zd6):Z4 P w K mg base Yg 5 f fd ["group"] Zbn:=by
 refine F.ok (FS (N:=["group"])) (λvs H Q E h=>?_) (λn6 A j s H vs Q E O h=>?_)
 ·obtain⟨g,t,rfl,_⟩:=h;rfl
 ·obtain⟨g,t,rfl,G,J,q⟩:=h
  refine⟨_,Zw (ZE (Wn GH O ZM (pc (Wn GC O ZM (pc (vn 0) Zt)) (pc (cb (Ym K) T.len (pc (vn 0) Zt)) Zt)))),?_⟩;have n60:=J.n60;refine⟨_,rfl,g,t,rfl,G,J,λc H' Y C=>?_⟩;obtain⟨gs,u1,u2,_⟩:=id (G.mono Y);have el:(gs.map V.ref).length=t.length:=by rw[Za,u2]
  refine⟨_,rfl,g,_,rfl,.inr (.of u1),?_⟩;rw[el];exact⟨c,_,t.length,rfl,C,ZlM J,n60,aW (Wc _) n60,λr H2 s2 M=>q r H2 (Y.trans s2) M⟩
noncomputable abbrev ZhO:Stmt:=tq 4
noncomputable abbrev Zmi:Stmt:=tq 5
inductive Zbk (vs:TV) (H:Hp) (Q:VK) (E03:XK):Prop
 |mk (g:Addr) (t:T9) (a r:Nat):(vs=[.ref g,.int a])->(GT H g t)->(PW t)->(a<t.length)->(Rd t a r)->(Q (.int r) H)->Zbk vs H Q E03
inductive Zd7 (vs:TV) (H:Hp) (Q:VK) (E03:XK):Prop
 |mk (g:Addr) (t:T9) (rs:Nat->Nat):(vs=[.ref g])->(GT H g t)->(PW t)->((∀a,a<t.length->Rd t a (rs a)))->(∀(f:Nat) H',Zv H H'->Lc rs t.length f->Q (.int f) H')->Zd7 vs H Q E03
theorem Ziv (F:WB K "round_of" "round_of" ZhO f fd):Z4 P w K mg base Yg 1 f fd ["group", "a"] Zbk:=by
 refine F.ok (FS (N:=["group", "a", "k", "found"])) (λvs H Q E h=>?_) (λn6 A Y s H vs Q E hr h=>?_)
 ·obtain⟨g,t,a,r,rfl,_⟩:=h;rfl
 ·obtain⟨g,t,a,r,rfl,G,Pt,ha,R,q⟩:=h
  refine⟨_,Zs (ZG 2 rfl Zx) (Zs (ZG 3 rfl (vn 1))
   (Zs (Yq am (ZL WI (vn 3) Zx (ZR _))
    (Zs (ZG 3 rfl (ZD (JE K) (ZD (JE K) (vn 0) (vn 3) (λ_ _=>rfl)) (vn 1) (λ_ _=>rfl)))
    (Zw (Xc (i:=2) (Z9 (by kernel_rfl)) rfl (YY (by kernel_rfl)) Zx Ju (.inl rfl)))))
   (Zw (ZE (vn 2))))),?_⟩
  have r1:=R.r1;refine⟨_,rfl,?_⟩;refine Yh (λm j O=>∃k:Nat,j=[some (.ref g),some (.int a),some (.int k),some (.int (it t a k:Nat))]/\O=H/\1<=k/\k<=r/\m=r-k)
   (λj O=>∃v3:TU,j=[some (.ref g),some (.int a),some (.int r),v3]/\O=H) ?hend ⟨r-1,1,by rw[ZeC Pt ha];rfl,rfl,Zq _,r1,rfl⟩ ?turn
  case hend=>
   rintro j O ⟨v3,rfl,rfl⟩;exact⟨_,rfl,q⟩
  case turn=>
   rintro J m j O ⟨k,rfl,rfl,k1,kr,hm⟩;refine⟨_,rfl,rfl,_,rfl,?_⟩;refine Ye (λM=>?_) (λM=>?_)
   ·have M:it t a k≠0:=λz=>by
     rw[Yu,z] at M;simp at M
    have n8:k<r:=bD kr λz=>M (z▸R.z);obtain⟨rs,r2,g1,_,g2,g3,g4⟩:=G.at Pt (Jd Pt ha k);refine⟨_,λ_ _ z=>z,_,rfl,_,rfl,g,_,_,_,rfl,rfl,.of g1,g2,_,rfl,r2,_,_,_,rfl,rfl,g3.sq,g4 a ha,_,rfl,_,_,rfl,rfl,r-(k+1),by omega,k+1,?_,rfl,by omega,by omega,rfl⟩;rfl
   ·have M:it t a k=0:=by
     apply aj;intro z;apply M;rw[Yu];simp[z]
    have:k=r:=by
     apply aj;intro z;exact R.nz k k1 (by omega) M
    exact J _ _ ⟨_,by rw[this],rfl⟩
theorem Zk3 (F:WB K "full_round" "full_round" Zmi f fd)(T:Bl mg)(GR:Fn P w K mg base Yg 1 "round_of" ["group", "a"] Zbk):Z4 P w K mg base Yg 2 f fd ["group"] Zd7:=by
 refine F.ok (FS (N:=["group", "found", "a", "step"])) (λvs H Q E h=>?_) (λo0 A n9 s H vs Q E hr h=>?_)
 ·obtain⟨g,t,rs,rfl,_⟩:=h;rfl
 ·obtain⟨g,t,rs,rfl,G,Pt,R,q⟩:=h
  refine⟨_,Zs (ZG 1 rfl Zx) (Zs (ZN am rfl (WG T.range (pc (cb (Ym K) T.len (pc (vn 0) Zt)) Zt)) (gn 2)
    (Zs (ZG 3 rfl (vn 1))
    (Zw (Yq am (ZL WI (Zy ZY (vn 1) (Wn GR hr ZM (pc (vn 0) (pc (vn 2) Zt)))) Zx (ZR _)) (Zw (Xc (i:=1) (Z9 (by kernel_rfl)) rfl (YY (by kernel_rfl)) (vn 3) Ju (.inl rfl)))))))
   (Zw (ZE (vn 1)))),?_⟩
  have n1:=Pt.n1;have o5:=Pt.n60;obtain⟨gs,g1,g2,_⟩:=id G;have el:(gs.map V.ref).length=t.length:=by rw[Za,g2]
  refine⟨_,rfl,g,_,rfl,.inr (.of g1),_,rfl,by omega,by rw[el];omega,?_⟩;rw[Zj,el];refine ZT (λi n6 H'=>∃(f:Nat) (v2 v3:TU),n6=[some (.ref g),some (.int f),v2,v3]/\Zv H H'/\Lc rs i f) ⟨1,_,_,rfl,Zv.refl _,⟨Zq _,λa ha=>absurd ha (dP _),λx _=>Nat.mod_one x⟩⟩ ?_ ?_
  ·rintro i n6 H' hi ⟨f,v2,v3,rfl,sm,L⟩
   rw[show (0:Int)+(i:Int)=(i:Int) by omega];have Ri:=R i hi;have o6:=Ri.r1;have L2:Lc rs (i+1) (upTo (rs i) f 61 f):=L.step (B:=t.length) n1 (λa ha=>(R a (by omega)).dv) (by omega);have n8:=L2.dv i (by omega);refine⟨_,rfl,?_⟩;refine Yh (λm j J=>∃x:Nat,j=[some (.ref g),some (.int x),some (.int i),some (.int f)]/\J=H'/\upTo (rs i) f m x=upTo (rs i) f 61 f)
    (λj J=>j=[some (.ref g),some (.int (upTo (rs i) f 61 f:Nat)),some (.int i),some (.int f)]/\J=H') ?hend ⟨61,f,rfl,rfl,rfl⟩ ?turn
   case hend=>
    rintro j J ⟨rfl,rfl⟩;exact⟨_,_,_,rfl,sm,L2⟩
   case turn=>
    rintro O m j J ⟨x,rfl,rfl,Y⟩;have eT:(x:Int) % ((rs i:Nat):Int)=((x % rs i:Nat):Int):=by push_cast;rfl
    refine⟨_,rfl,_,rfl,_,rfl,g,t,i,rs i,rfl,G.mono sm,Pt,hi,Ri,_,_,rfl,rfl,(by show (0:Int)<(rs i:Nat);omega),rfl,_,rfl,?_⟩;refine Ye (λM=>?_) (λM=>?_)
    ·have M:x % rs i≠0:=λz=>by
      rw[Yu,eT,z] at M;simp at M
     cases m with
     |zero=>
      have Y:x=upTo (rs i) f 61 f:=Y;rw[<-Y] at n8;exact absurd n8 M
     |succ m=>
      rw[Tb.upTo,if_neg M] at Y;exact⟨_,λ_ _ z=>z,_,rfl,_,rfl,_,_,rfl,rfl,m,by omega,x+f,rfl,rfl,Y⟩
    ·have M:x % rs i=0:=by
      apply aj;intro z;apply M;rw[Yu,eT];simp;omega
     have:x=upTo (rs i) f 61 f:=by
      cases m with
      |zero=>exact Y
      |succ m=>rw[Tb.upTo,if_pos M] at Y;exact Y
     exact O _ _ ⟨by rw[this],rfl⟩
  ·rintro n6 H' ⟨f,v2,v3,rfl,sm,L⟩
   exact⟨_,rfl,q f H' sm L⟩
end C46
namespace Tb
def rdT (t:T9)(a:Nat):Nat:=(((ac t.length).find? λr=>it t a (r+1) == 0).getD 0)+1
theorem UR {t:T9}{a r:Nat}(R:Rd t a r):rdT t a=r:=by
 have q:=R.r1;have:(ac t.length).find? (λr=>it t a (r+1) == 0)=some (r-1):=by
  rw[kD];refine⟨by rw[show r-1+1=r by omega,R.z];rfl,af.mpr (by have:=R.rn;omega),λj J=>?_⟩;have:=R.nz (j+1) (by omega) (by omega);simpa using this
 unfold rdT;rw[this];show r-1+1=r;omega
theorem ZiW (P:PW t){a s:Nat}(j:a<t.length)(q:s<t.length):∀k,it t (tb t a s) k=tb t (it t a k) s
 |0=>(Xs P q).symm
 |k+1=>by
  rw[it,it,ZiW P j q k,Uw P q (Jd P j k) j]
theorem ZqM (P:PW t){x s:Nat}(J:x<t.length)(j:s<t.length):tb t x s=0↔x=0:=by
 have M:=P.n1;constructor
 ·intro h
  have q:=Xt P J j;rw[h,P.oneR _ (Yc P j).1,Zar P j] at q;exact q.symm
 ·rintro rfl
  exact Xs P j
theorem Zm5 (P:PW t){a s:Nat}(q:a<t.length)(J:s<t.length):rdT t (tb t a s)=rdT t a:=by
 unfold rdT;have j:(λr=>it t (tb t a s) (r+1) == 0)=λr=>it t a (r+1) == 0:=funext λr=>?_
 ·rw[j]
 have h:=ZiW P q J (r+1);have M:=ZqM P (Jd P q (r+1)) J;rw[h];cases O:(it t a (r+1) == 0) with
 |true=>
  have:it t a (r+1)=0:=by simpa using O
  simpa using M.mpr this
 |false=>
  have:it t a (r+1)≠0:=by simpa using O
  have:tb t (it t a (r+1)) s≠0:=λz=>this (M.mp z);simpa using this
end Tb
namespace C46
open PySem L2 PySem.Spec PyProof.Rows
open Tb Pm
theorem Zi5 {j:T9}{a q:Nat}(M:(j.getD q []).contains a=true)(O:∀k,k<j.length->(j.getD k []).contains a=true->k=q):∀m,m<=j.length->q<m->hol j m a=q
 |0,_,h=>by omega
 |m+1,hm,h=>by
  unfold hol;split
  ·rename_i J
   exact O m (by omega) J
  ·rename_i J
   refine Zi5 M O m (by omega) ?_;by_cases e:q=m
   ·subst e;exact absurd M J
   ·omega
theorem Zjy {t:T9}(Y:PW t){a:Nat}(ha:a<t.length):∃j,j<(ZC t t.length).length/\((ZC t t.length).getD j []).contains a=true/\∀k,k<(ZC t t.length).length->((ZC t t.length).getD k []).contains a=true->k=j:=by
 have h:=JH Y t.length (Zq _) a ha;unfold YD at h;obtain⟨c,hc,q⟩:=aY.mp h;obtain⟨j,J⟩:=bn hc;have hl:=(ae.mp J).1;have e:(ZC t t.length).getD j []=c:=by rw[Zb,J];rfl
 refine⟨j,hl,by rw[e];exact q,λk M O=>?_⟩;have e2:(ZC t t.length)[k]?=some ((ZC t t.length).getD k []):=by rw[Zb,Zf M];rfl
 exact Vx Y t.length (Zq _) k j _ c a e2 J (aA.mp O) (aA.mp q)
noncomputable abbrev Zfd:Stmt:=tq 11
def Xf (t:T9)(a:Nat):Nat:=hol (ZC t t.length) (ZC t t.length).length a
theorem VG {t:T9}(M:PW t){a:Nat}(O:a<t.length):Xf t a<(ZC t t.length).length/\a∈(ZC t t.length).getD (Xf t a) []/\∀k,k<(ZC t t.length).length->a∈(ZC t t.length).getD k []->k=Xf t a:=by
 obtain⟨Y,j,q,J⟩:=Zjy M O;have e:Xf t a=Y:=Zi5 q J _ (Zq _) j;rw[e];exact⟨j,aA.mp q,λk hk hm=>J k hk (aA.mpr hm)⟩
theorem Zko {t:T9}(J:PW t){k a:Nat}(Y:k<(ZC t t.length).length)(M:a∈(ZC t t.length).getD k []):a<t.length/\Xf t a=k/\∀x,x∈(ZC t t.length).getD k []↔x∈ZZ t a:=by
 obtain⟨b,hb,e⟩:=Jl J t.length (Zq _) _ (Zfg Y);rw[e] at M ⊢;have q:=X4 M;refine⟨q,((VG J q).2.2 k Y (by rw[e];exact M)).symm,λx=>⟨λO=>?_,λO=>?_⟩⟩
 ·have j:=X4 O
  exact Yr J q j (Yr J q hb (YK J q) M) (Yr J j hb (YK J j) O)
 ·have j:=X4 O
  exact Yr J hb j M (Yr J j q (YK J j) O)
theorem ZhY {t:T9}(j:PW t){k:Nat}(J:k<(ZC t t.length).length):∃a r,(ZC t t.length).getD k []=a::r:=by
 obtain⟨b,hb,e⟩:=Jl j t.length (Zq _) _ (Zfg J);have q:=YK j hb;rw[e];cases h:ZZ t b with
 |nil=>rw[h] at q;cases q
 |cons a r=>exact⟨a,r,rfl⟩
end C46
namespace C46
open PySem L2 PySem.Spec PyProof.Rows
open Tb
open Pm
theorem Zi9 {X:Cx}:Zot X (λx y H Q=>∃(p:Addr) (xs:TV) (i:Nat) (v:V),x=.ref p/\y=.int i/\H p=some (.lst xs)/\xs[i]?=some v/\Q v H):=by
 intro J s σ H x y O iv Q I rx Y h;obtain⟨p,xs,i,v,rfl,rfl,hp,M,q⟩:=h;cases (show O=ax p from rx);obtain⟨t,rfl⟩:=Y;obtain⟨n6,r,pl,hz⟩:=I.list (.of hp);obtain⟨w,ew,j⟩:=r.get M;have hl:=r.length;have hn:=XY;have hi:i<xs.length:=(ae.mp M).1;exact wpAny_getItem_list pl.isList (dJ _) (by omega) (by simpa using ew) ⟨v,H,I,j,q⟩
theorem Wt {W:Type}(n9:W->Addr)(Pr:Nat->W->Hp->Prop)(Y:W->Hp->Prop){J:It}{own:List Str}{n8:T7}{te:TE}{σ:L2.St}{H:Hp}{Q:VK}{xs:TV}(S:WN J H xs)(cs:L2.St)(o6:J0 own n8 σ=none::cs)(hn:xs.length<=1000)
  (mono:∀i w H q,Zv H q->Pr i w H->Pr i w q) (o5:∀w H q,Zv H q->Y w q->Y w H) (hu:∀i w H0 H1 D o ys o7,Pr i w H1->Y w H0->H0 D=some (.lst o)->H1 D=some (.lst ys)->Pr i w (upd H1 D (.lst o7)))
  (hs:∀(i:Nat) y,xs[i]?=some y->∀q,Zv H q->∀R:VK,(∀w H5,Zv q H5->Pr i w H5->Y w q->R (.ref (n9 w)) H5)->te (some y::cs) q R)
  (hd:∀D (M:List W) q,H D=none->Zv H q->q D=some (.lst (M.map λw=>V.ref (n9 w)))->M.length=xs.length->(∀(i:Nat) w,M[i]?=some w->Pr i w q/\Y w H)->(∀(i j:Nat) w w',i<j->M[i]?=some w->M[j]?=some w'->∃Hm,Pr i w Hm/\Y w' Hm)->Q (.ref D) q):Jf own n8 (Yj 0) WR te σ Q J H:=by
 refine Zaf (xs:=xs) (λD i ys q=>Zv H q/\∃M:List W,ys=M.map (λw=>V.ref (n9 w))/\M.length=i/\(∀(i:Nat) w,M[i]?=some w->Pr i w q/\Y w H/\∃H0 o,H0 D=some (.lst o)/\Y w H0)/\(∀(i j:Nat) w w',i<j->M[i]?=some w->M[j]?=some w'->∃Hm,Pr i w Hm/\Y w' Hm)) cs o6 (by omega) ?_ ?_ ?_ ?_
 ·intro D i ys q hD O p
  have S':=S.mono p.1;exact⟨λhi=>⟨S'.go i q (Zv.refl _) hi,λx H3 y=>S'.yld i q x H3 (Zv.refl _) hi y⟩,λe=>e▸S'.stop q (Zv.refl _)⟩
 ·intro D hD
  exact⟨Zv.upd hD,[],rfl,rfl,(λi w hw=>by cases hw),(λi j w w' _ h=>by cases h)⟩
 ·rintro D i y ys q hD O hy ⟨sm,M,rfl,wl,hw,hp⟩ R k
  refine hs i y hy q sm R λw H5 s5 p5 n5=>?_;have o0:=s5 _ _ O;have lst:∀(b:Nat) v,(M++[w])[b]?=some v->(b<M.length/\M[b]?=some v)\/(b=M.length/\v=w):=λb v hb=>by
   by_cases n6:b<M.length
   ·rw[au n6] at hb
    exact .inl ⟨n6,hb⟩
   ·rw[av (by omega)] at hb
    have o8:b-M.length=0:=by
     apply aj;intro z;rw[ai (by rw[Zk];omega)] at hb;cases hb
    rw[o8] at hb;cases hb;exact .inr ⟨by omega,rfl⟩
  refine k _ H5 o0 ⟨(sm.trans s5).updr hD,M++[w],by rw[aN];rfl,by rw[Zd,wl];rfl,λb v hv=>?_,λa b v v' o9 ha hb=>?_⟩
  ·rcases lst b v hv with ⟨_,hv⟩|⟨hb,hv⟩
   ·obtain⟨h1,h2,H0,o,h3,h4⟩:=hw b v hv
    exact⟨hu b v H0 H5 D o _ _ (mono b v _ _ s5 h1) h4 h3 o0,h2,H0,o,h3,h4⟩
   ·subst hv
    subst hb;rw[<-wl] at p5;exact⟨hu _ v q H5 D _ _ _ p5 n5 O o0,o5 v _ _ sm n5,q,_,O,n5⟩
  ·rcases lst b v' hb with ⟨n6,hb⟩|⟨n6,hb⟩
   ·rw[au (by omega)] at ha
    exact hp a b v v' o9 ha hb
   ·subst hb
    rw[au (by omega)] at ha;exact⟨q,(hw a v ha).1,n5⟩
 ·rintro D ys H5 hD O p3 ⟨sm,M,rfl,wl,hw,hp⟩
  exact hd D M H5 hD sm O wl (λi w h=>⟨(hw i w h).1,(hw i w h).2.1⟩) hp
structure N3 (Hb H:Hp)(L:Addr)(m:Nat)(A:Nat->Addr)(B:Nat->Nat->Addr)(f:Nat->Nat->Nat->Nat):Prop where
 sm:Zv Hb H
 m1:1<=m
 top:H L=some (.lst ((ac m).map λi=>V.ref (A i)))
 mid:∀i,i<m->H (A i)=some (.lst ((ac m).map λj=>V.ref (B i j)))
 low:∀i j,i<m->j<m->H (B i j)=some (.lst ((Yd m (f i j)).map nV))
 inj:∀i j i' j',i<m->j<m->i'<m->j'<m->B i j=B i' j'->i=i'/\j=j'
 nw:∀i j,i<m->j<m->Hb (B i j)=none
section
variable {Hb H H':Hp}{L:Addr}{A:Nat->Addr}{B:Nat->Nat->Addr}{f:Nat->Nat->Nat->Nat}
theorem N3.mono (N:N3 Hb H L m A B f)(s:Zv H H'):N3 Hb H' L m A B f:=⟨N.sm.trans s,N.m1,s _ _ N.top,λi q=>s _ _ (N.mid i q),λi j q J=>s _ _ (N.low i j q J),N.inj,N.nw⟩
theorem Zfm {m:Nat}(q:1<=m){a:Nat->Addr}{f:Nat->Nat}:(HO.lst ((ac m).map λi=>V.ref (a i)))≠.lst ((Yd m f).map nV):=λz=>by
 injection z with z;have:=congrArg (λj:TV=>j[0]?) z;unfold Yd at this;rw[Zc,Zc,Zc,ah (show 0<m by omega)] at this;cases this
theorem N3.put (N:N3 Hb H L m A B f){i j k v:Nat}(hi:i<m)(hj:j<m)(hk:k<m):N3 Hb (upd H (B i j) (.lst (((Yd m (f i j)).map nV).set k (nV v)))) L m A B (λq M O=>if q=i/\M=j/\O=k then v else f q M O):=by
 have nL:L≠B i j:=ZiJ N.top (N.low i j hi hj) (Zfm N.m1);have nA:∀q,q<m->A q≠B i j:=λq J=>ZiJ (N.mid q J) (N.low i j hi hj) (Zfm N.m1);refine⟨N.sm.updr (N.nw i j hi hj),N.m1,by rw[Zz nL];exact N.top,λq J=>by rw[Zz (nA q J)];exact N.mid q J,λq M J Y=>?_,N.inj,N.nw⟩;by_cases e:q=i/\M=j
 ·obtain⟨rfl,rfl⟩:=e
  rw[Zu,ZcU _ hk];have:(Yd m λb=>if b=k then v else f q M b)=Yd m λO=>if q=q/\M=M/\O=k then v else f q M O:=Wg λb _=>by
   by_cases h:b=k
   ·rw[if_pos h,if_pos ⟨rfl,rfl,h⟩]
   ·rw[if_neg h,if_neg (λz=>h z.2.2)]
  rw[this]
 ·rw[Zz λz=>e (N.inj q M i j J Y hi hj z),N.low q M J Y]
  have:(Yd m (f q M))=Yd m λO=>if q=i/\M=j/\O=k then v else f q M O:=Wg λb _=>by rw[if_neg (λz=>e ⟨z.1,z.2.1⟩)]
  rw[<-this]
theorem N3.congr (N:N3 Hb H L m A B f){g:Nat->Nat->Nat->Nat}(h:∀i j k,i<m->j<m->k<m->f i j k=g i j k):N3 Hb H L m A B g:=⟨N.sm,N.m1,N.top,N.mid,λi j q J=>by rw[N.low i j q J,Wg λk M=>h i j k q J M],N.inj,N.nw⟩
end
def ZlX (m:Nat)(b:Addr)(H:Hp):Prop:=H b=some (.lst ((Yd m λ_=>0).map nV))
structure Zow (m:Nat)(w:Addr×TW)(H:Hp):Prop where
 top:H w.1=some (.lst (w.2.map V.ref))
 len:w.2.length=m
 low:∀b∈w.2,ZlX m b H
 nd:∀(i j:Nat) b b',i<j->w.2[i]?=some b->w.2[j]?=some b'->b≠b'
def NwM (w:Addr×TW)(H:Hp):Prop:=H w.1=none/\∀b∈w.2,H b=none
theorem Za4 {m:Nat}{J:It}{own:List Str}{M:T7}{te:TE}{σ:L2.St}{H:Hp}{Q:VK}{xs:TV}(S:WN J H xs)(Y:L2.St)(n6:J0 own M σ=none::Y)(hn:xs.length<=1000)(hm:xs.length=m)
  (hs:∀(i:Nat) y,xs[i]?=some y->∀q,Zv H q->∀R:VK,(∀b H5,Zv q H5->ZlX m b H5->q b=none->R (.ref b) H5)->te (some y::Y) q R)
  (hd:∀w q,Zv H q->Zow m w q->NwM w H->Q (.ref w.1) q):Jf own M (Yj 0) WR te σ Q J H:=by
 refine Wt (W:=Addr) id (λ_ b H=>ZlX m b H) (λb H=>H b=none) S Y n6 hn (λi w H q s h=>s _ _ h) (λw H q s h=>s.free h) (λi w H0 H1 D o ys n9 h h0 O _=>?_) (λi y hy q s R k=>hs i y hy q s R k) (λD ws q nD s hD wl hw hp=>?_)
 ·have:w≠D:=λz=>by rw[z,O] at h0;cases h0
  show upd H1 D _ w=_;rw[Zz this];exact h
 ·refine hd (D,ws) q s ⟨hD,by rw[<-hm];exact wl,λb hb=>?_,λi j b b' n8 hi hj z=>?_⟩ ⟨nD,λb hb=>?_⟩
  ·obtain⟨i,hi⟩:=bn hb
   exact (hw i b hi).1
  ·obtain⟨Hm,O,h2⟩:=hp i j b b' n8 hi hj
   have O:Hm b=some _:=O;rw[z,h2] at O;cases O
  ·obtain⟨i,hi⟩:=bn hb
   exact (hw i b hi).2
theorem Za3 {m:Nat}{J:It}{own:List Str}{n9:T7}{te:TE}{σ:L2.St}{H:Hp}{Q:VK}{xs:TV}(S:WN J H xs)(cs:L2.St)(o5:J0 own n9 σ=none::cs)(hn:xs.length<=1000)(hm:xs.length=m)(m1:1<=m)
  (hs:∀(i:Nat) y,xs[i]?=some y->∀H',Zv H H'->∀R:VK,(∀w H5,Zv H' H5->Zow m w H5->NwM w H'->R (.ref w.1) H5)->te (some y::cs) H' R)
  (hd:∀D A B H',H D=none->N3 H H' D m A B (λ_ _ _=>0)->Q (.ref D) H'):Jf own n9 (Yj 0) WR te σ Q J H:=by
 refine Wt (W:=Addr×TW) lY (λ_ w H=>Zow m w H) NwM S cs o5 hn (λi w H H' s h=>⟨s _ _ h.top,h.len,λb hb=>s _ _ (h.low b hb),h.nd⟩) (λw H H' s h=>⟨s.free h.1,λb hb=>s.free (h.2 b hb)⟩) (λi w H0 H1 D o ys o7 h h0 h1 _=>?_) (λi y hy H' s R k=>hs i y hy H' s R k) (λD ws H' nD s hD wl hw hp=>?_)
 ·have n1:w.1≠D:=λz=>by have:=h0.1;rw[z,h1] at this;cases this
  have n2:∀b∈w.2,b≠D:=λb hb z=>by have:=h0.2 b hb;rw[z,h1] at this;cases this
  exact⟨by rw[Zz n1];exact h.top,h.len,λb hb=>by show upd H1 D _ b=_;rw[Zz (n2 b hb)];exact h.low b hb,h.nd⟩
 ·rw[hm] at wl
  have wat:∀i,i<m->ws[i]?=some (ws.getD i (0,[])):=λi q=>by rw[Zb,Zf (by omega)];rfl
  have O:∀i j,i<m->j<m->(ws.getD i (0,[])).2[j]?=some ((ws.getD i (0,[])).2.getD j 0):=λi j q Y=>by
   have:=(hw i _ (wat i q)).1.len;rw[Zb (l:=(ws.getD i (0,[])).2),Zf (by omega)];rfl
  refine hd D (λi=>(ws.getD i (0,[])).1) (λi j=>(ws.getD i (0,[])).2.getD j 0) H' nD ⟨s,m1,?_,λi q=>?_,λi j q Y=>?_,λi j i' j' q Y n8 n6 z=>?_,λi j q Y=>?_⟩
  ·rw[hD]
   congr 2;refine a7 λi=>?_;rw[Zc,Zc];by_cases q:i<m
   ·rw[wat i q,ah q]
    rfl
   ·rw[ai (by omega),ai (by rw[Zg];omega)]
    rfl
  ·have M:=(hw i _ (wat i q)).1
   have ml:=M.len;rw[M.top];congr 2;refine a7 λj=>?_;rw[Zc,Zc];by_cases Y:j<m
   ·rw[O i j q Y,ah Y]
    rfl
   ·rw[ai (by omega),ai (by rw[Zg];omega)]
    rfl
  ·exact (hw i _ (wat i q)).1.low _ (az (O i j q Y))
  ·have o0:∀i j i' j',i<m->j<m->i'<m->j'<m->i<i'->(ws.getD i (0,[])).2.getD j 0≠(ws.getD i' (0,[])).2.getD j' 0:=λi j i' j' q Y n8 n6 o6 z=>by
    obtain⟨Hm,h1,h2⟩:=hp i i' _ _ o6 (wat i q) (wat i' n8);have a1:=h1.low _ (az (O i j q Y));have a2:=h2.2 _ (az (O i' j' n8 n6));unfold ZlX at a1;rw[z,a2] at a1;cases a1
   have ei:i=i':=by
    rcases nC i i' with h|h|h
    ·exact absurd z (o0 i j i' j' q Y n8 n6 h)
    ·exact h
    ·exact absurd z.symm (o0 i' j' i j n8 n6 q Y h)
   subst ei;refine⟨rfl,?_⟩;have nd:=(hw i _ (wat i q)).1.nd;rcases nC j j' with h|h|h
   ·exact absurd z (nd j j' _ _ h (O i j q Y) (O i j' q n6))
   ·exact h
   ·exact absurd z.symm (nd j' j _ _ h (O i j' q n6) (O i j q Y))
  ·exact (hw i _ (wat i q)).2.2 _ (az (O i j q Y))
def C3 (H:Hp)(r:Addr)(m:Nat)(F:Nat->Nat->Nat->Nat):Prop:=∃cs:TW,H r=some (.tup (cs.map V.ref))/\cs.length=m/\∀(i:Nat) c,cs[i]?=some c->CT H c ((ac m).map λj=>Yd m (F i j))
def PrT (m:Nat)(F:Nat->Nat->Nat)(w:Addr×TW)(H:Hp):Prop:=H w.1=some (.tup (w.2.map V.ref))/\w.2.length=m/\∀(j:Nat) r,w.2[j]?=some r->H r=some (.tup ((Yd m (F j)).map nV))
theorem PrT.mono {m:Nat}{F:Nat->Nat->Nat}{w:Addr×TW}{H q:Hp}(h:PrT m F w H)(s:Zv H q):PrT m F w q:=⟨s _ _ h.1,h.2.1,λj r J=>s _ _ (h.2.2 j r J)⟩
theorem PrT.upd {m:Nat}{F:Nat->Nat->Nat}{w:Addr×TW}{H:Hp}{D:Addr}{ys:TV}{o:HO}(h:PrT m F w H)(q:H D=some (.lst ys)):PrT m F w (upd H D o):=
 ⟨by rw[Zz λz=>by have:=h.1;rw[z,q] at this;cases this];exact h.1,h.2.1,λj r J=>by rw[Zz λz=>by have:=h.2.2 j r J;rw[z,q] at this;cases this];exact h.2.2 j r J⟩
theorem PrT.ct {m:Nat}{F:Nat->Nat->Nat}{w:Addr×TW}{H:Hp}(h:PrT m F w H):CT H w.1 ((ac m).map λj=>Yd m (F j)):=by
 refine⟨w.2,h.1,by rw[Za,Zg];exact h.2.1,λi r q=>?_⟩;have J:i<m:=by rw[<-h.2.1];exact (ae.mp q).1
 rw[h.2.2 i r q,Zb,Zc,ah J];rfl
theorem ZgW {m:Nat}{F:Nat->Nat->Nat}{J:It}{own:List Str}{M:T7}{te:TE}{σ:L2.St}{H:Hp}{Q:VK}{xs:TV}(S:WN J H xs)(cs:L2.St)(n6:J0 own M σ=none::cs)(hn:xs.length<=1000)(hm:xs.length=m)
  (hs:∀(i:Nat) y,xs[i]?=some y->∀q,Zv H q->∀R:VK,(∀b O,Zv q O->O b=some (.tup ((Yd m (F i)).map nV))->R (.ref b) O)->te (some y::cs) q R)
  (hd:∀D (rs:TW) q,H D=none->Zv H q->q D=some (.lst (rs.map V.ref))->(∀r Y,Y r=some (.tup (rs.map V.ref))->Zv q Y->PrT m F (r,rs) Y)->Q (.ref D) q):Jf own M (Yj 0) WR te σ Q J H:=by
 refine Wt (W:=Addr) id (λi b H=>H b=some (.tup ((Yd m (F i)).map nV))) (λ_ _=>True) S cs n6 hn (λi w H q s h=>s _ _ h) (λw H q s h=>trivial) (λi w H0 H1 D o ys n8 h h0 h1 h2=>?_) (λi y hy q s R k=>hs i y hy q s R λb O s5 h5=>k b O s5 h5 trivial) (λD ws q nD s hD wl hw hp=>?_)
 ·rw[Zz λz=>by rw[z,h2] at h;cases h]
  exact h
 ·exact hd D ws q nD s hD λr Y hr s2=>⟨hr,by rw[<-hm];exact wl,λj b hb=>s2 _ _ (hw j b hb).1⟩
theorem ZlJ {m:Nat}{F:Nat->Nat->Nat->Nat}{J:It}{own:List Str}{q:T7}{te:TE}{σ:L2.St}{H:Hp}{Q:VK}{xs:TV}(S:WN J H xs)(cs:L2.St)(n6:J0 own q σ=none::cs)(hn:xs.length<=1000)(hm:xs.length=m)
  (hs:∀(i:Nat) y,xs[i]?=some y->∀j,Zv H j->∀R:VK,(∀w M,Zv j M->PrT m (F i) w M->R (.ref w.1) M)->te (some y::cs) j R)
  (hd:∀D (ys:TV) j,H D=none->Zv H j->j D=some (.lst ys)->(∀r Y,Y r=some (.tup ys)->Zv j Y->C3 Y r m F)->Q (.ref D) j):Jf own q (Yj 0) WR te σ Q J H:=by
 refine Wt (W:=Addr×TW) lY (λi w H=>PrT m (F i) w H) (λ_ _=>True) S cs n6 hn (λi w H j s h=>h.mono s) (λw H j s h=>trivial) (λi w H0 H1 D o ys n8 h h0 h1 h2=>h.upd h2) (λi y hy j s R k=>hs i y hy j s R λb M s5 h5=>k b M s5 h5 trivial) (λD ws j nD s hD wl hw hp=>?_);refine hd D _ j nD s hD λr Y hr s2=>⟨ws.map lY,by rw[hr,aK];rfl,by rw[Za,<-hm];exact wl,λi c O=>?_⟩;rw[Zc] at O;cases hx:ws[i]? with
 |none=>rw[hx] at O;cases O
 |some w=>
  rw[hx] at O;cases O;exact ((hw i w hx).1.mono s2).ct
def one (q:Nat->Nat)(C:Nat->Nat->Nat->Bool)(i j k x y:Nat):Nat:=Wm (decide (q x=i))*(Wm (decide (q y=j))*Wm (C x y k))
def ZJ (n:Nat)(q:Nat->Nat)(C:Nat->Nat->Nat->Bool)(X Y i j k:Nat):Nat:=sm X (λx=>sm n λy=>one q C i j k x y)+sm Y λy=>one q C i j k X y
theorem acc_zero (n:Nat)(q:Nat->Nat)(C:Nat->Nat->Nat->Bool)(i j k:Nat):ZJ n q C 0 0 i j k=0:=rfl
theorem ZlT (n:Nat)(q:Nat->Nat)(C:Nat->Nat->Nat->Bool)(X i j k:Nat):ZJ n q C X n i j k=ZJ n q C (X+1) 0 i j k:=by
 unfold ZJ;rw[YI];rfl
theorem acc_step (n:Nat)(q:Nat->Nat)(C:Nat->Nat->Nat->Bool)(X Y i j k:Nat):ZJ n q C X (Y+1) i j k=ZJ n q C X Y i j k+one q C i j k X Y:=by
 unfold ZJ;rw[YI];omega
def hdT (t:T9)(k:Nat):Nat:=((ZC t t.length).getD k []).getD 0 0
theorem Zb5 {t:T9}(j:PW t){k:Nat}(q:k<(ZC t t.length).length):hdT t k<t.length/\Xf t (hdT t k)=k/\((ZC t t.length).getD k [])[0]?=some (hdT t k):=by
 obtain⟨a,r,e⟩:=ZhY j q;have J:hdT t k=a:=by unfold hdT;rw[e];rfl
 have h:=Zko j q (by rw[e];exact ar);rw[J,e];exact⟨h.1,h.2.1,rfl⟩
def Cg (t:T9)(x y k:Nat):Bool:=decide (ZO t x y=hdT t k)
def cnG (t:T9):Nat->Nat->Nat->Nat:=ZJ t.length (Xf t) (Cg t) t.length 0
theorem Zir (q:Nat->Nat)(C:Nat->Nat->Nat->Bool)(i j k x y:Nat):one q C i j k x y=if i=q x/\j=q y/\C x y k=true then 1 else 0:=by
 unfold one;by_cases J:q x=i
 ·rw[decide_eq_true J]
  by_cases M:q y=j
  ·rw[decide_eq_true M]
   cases O:C x y k with
   |true=>rw[if_pos ⟨J.symm,M.symm,rfl⟩];rfl
   |false=>rw[if_neg (λz=>by cases z.2.2)];rfl
  ·rw[decide_eq_false M,if_neg (λz=>M z.2.1.symm)]
   show 1*(0*_)=0;omega
 ·rw[decide_eq_false J,if_neg (λz=>J z.1.symm)]
  show 0*_=0;omega
inductive UH (vs:TV) (H:Hp) (Q:VK) (E03:XK):Prop
 |mk (g:Addr) (t:T9):(vs=[.ref g])->(GT H g t)->(PW t)->(∀r H',Zv H H'->C3 H' r (ZC t t.length).length (cnG t)->Q (.ref r) H')->UH vs H Q E03
theorem Zgu (F:WB K "counts_of" "counts_of" Zfd f fd)(T:Bl mg)(T2:ZeV mg)(GC:Fn P w K mg base Yg 4 "classes_of" ["group"] Jz)(GN:Fn P w K mg base Yg 5 "class_numbers" ["group"] Zbn):Z4 P w K mg base Yg 6 f fd ["group"] UH:=by
 refine F.ok (FS (N:=["group", "classes", "numbers", "counts", "x", "row", "y", "z", "k"])) (λvs H Q E h=>?_) (λt5 A o8 s H vs Q E hr h=>?_)
 ·obtain⟨g,t,rfl,_⟩:=h;rfl
 ·obtain⟨g,t,rfl,G,O,q⟩:=h
  refine⟨_,Zs (ZG 1 rfl (Wn GC hr ZM (pc (vn 0) Zt)))
   (Zs (ZG 2 rfl (Wn GN hr ZM (pc (vn 0) Zt)))
   (Zs (ZbA 3 ["i"] [1] ["i", "classes"] rfl rfl (itT K (vn 1)) (λ_ _ _ _ _=>gn 0) (λ_ _ _ _ _=>ZP)
    (λ_ _ _ _ _=>cmp ["j"] [1] ["j", "classes"] rfl (itT K (vn 1)) (λ_ _ _ _ _=>gn 0) (λ_ _ _ _ _=>ZP)
     (λ_ _ _ _ _=>Zy W9 (ZV (pc Zx Zt)) (cb (Ym K) (by exact T.len) (pc (vn 1) Zt)))))
   (Zs (ZN am rfl (Zaa K T2.enumerate (pc (vn 0) Zt)) (g2 K 4 5 rfl (gn 4) (gn 5))
    (Zw (ZN am rfl (Zaa K T2.enumerate (pc (vn 5) Zt)) (g2 K 6 7 rfl (gn 6) (gn 7))
     (Zs (ZG 8 rfl (ZD (JE K) (vn 2) (vn 7) (λ_ _=>rfl)))
     (Zw (Y3 (ZL V1 (ZD (JE K) (ZD (JE K) (vn 1) (vn 8) (λ_ _=>rfl)) Zx (λ_ _=>rfl)) (vn 7) (ZR _))
      (Zw (Uh (ZD (WU K) (ZD (WU K) (vn 3) (ZD (JE K) (vn 2) (vn 4) (λ_ _=>rfl)) (λ_ _=>rfl)) (ZD (JE K) (vn 2) (vn 6) (λ_ _=>rfl)) (λ_ _=>rfl)) (vn 8) Zi9 Zx Ju YR)) Ya))))))
   (Zw (ZE (ct ZX T.tuple (pc (cmp ["seconds"] [] ["seconds"] rfl (itL K (vn 3)) (λ_ _ _ _ _=>gn 0) (λ_ _ _ _ _=>ZP)
    (λ_ _ _ _ _=>ct (tupK K) (by exact T.tuple) (pc (cmp ["ends"] [] ["ends"] rfl (itL K (vn 0)) (λ_ _ _ _ _=>gn 0) (λ_ _ _ _ _=>ZP)
     (λ_ _ _ _ _=>ct (tupK K) (by exact T.tuple) (pc (vn 0) Zt))) Zt))) Zt))))))),?_⟩
  have sz:=JL;have t6:=O.n60;have ul:=Wc (t:=t) t.length;have m1:1<=(ZC t t.length).length:=by
   have:=(VG O (show 0<t.length from O.n1)).1;omega
  refine⟨_,rfl,g,t,rfl,G,O,λc H1 s1 C1=>?_⟩;refine⟨_,rfl,g,t,rfl,G.mono s1,O,λr0 H2 s2 n6=>?_⟩;have C2:=C1.mono s2;obtain⟨rs,c1,c2,c3⟩:=C2.row;have cl:(rs.map V.ref).length=(ZC t t.length).length:=by rw[Za,c2]
  replace n6:H2 r0=some (.tup ((Yd t.length (Xf t)).map nV)):=n6;generalize hm:(ZC t t.length).length=m at *;refine⟨_,rfl,c,rfl,⟨_,.of c1⟩,?_⟩;refine Za3 (We (K:=K) (.of c1)) [some (.ref c)] rfl (by omega) cl m1 (λi y hy H3 s3 R k=>?_) (λL A B H3 nL N=>?_)
  ·have n8:=s3 _ _ c1
   refine⟨_,rfl,c,rfl,⟨_,.of n8⟩,?_⟩;refine Za4 (We (K:=K) (.of n8)) [some (.ref c)] rfl (by omega) cl (λj y' o0 H4 s4 R' k'=>?_) (λw' H4 s4 M o9=>k w' H4 s4 M o9);refine⟨JY,λl0 p3=>?_⟩;have s5:=Zv.upd (H:=H4) (o:=.lst [.int 0]) p3;refine⟨_,rfl,c,_,rfl,.inr (.of (s5 _ _ (s4 _ _ n8))),l0,_,_,rfl,rfl,Zu,by rw[cl];omega,by rw[cl];omega,by rw[cl];show 1*((m:Int)).toNat<=sizeLine;omega,λb nb=>?_⟩;rw[cl,Zj];have e0:(aq m [V.int 0]).flatten=(Yd m λ_=>0).map nV:=by
    unfold Yd;rw[aK];have:∀m k,(aq m [V.int 0]).flatten=(dA k m).map λ_=>nV 0:=λm=>by
     induction m with
     |zero=>intro k;rfl
     |succ m ih=>intro k;rw[ba,bZ,ih (k+1),eE,aG];rfl
    rw[this m 0,<-eh];rfl
   rw[e0];exact k' b _ (s5.trans (Zv.upd nb)) Zu (s5.free nb)
  have G2:=G.mono (s1.trans s2);obtain⟨gs,u1,u2,u3⟩:=id G2;have el:(gs.map V.ref).length=t.length:=by rw[Za,u2]
  refine⟨_,rfl,g,rfl,.inr ⟨⟨_,.of (N.sm _ _ u1)⟩,?_⟩⟩;refine Je (Zcb (K:=K) (xs:=gs.map V.ref)) (λX J H'=>∃v4 v5 v6 v7 v8:TU,J=[some (.ref g),some (.ref c),some (.ref r0),some (.ref L),v4,v5,v6,v7,v8]/\N3 H2 H' L m A B (ZJ t.length (Xf t) (Cg t) X 0))
   ⟨_,_,_,_,_,rfl,N.congr λi j k _ _ _=>(acc_zero _ _ _ _ _ _).symm⟩ (λi J H' h=>by
    obtain⟨_,_,_,_,_,_,N'⟩:=h;exact N'.sm.tup (.of u1)) ?_ ?_
  ·rintro X y J H4 T' hy ⟨v4,v5,v6,v7,v8,rfl,N4⟩ nT
   have hX:X<t.length:=by
    have:=(ae.mp hy).1;rw[el] at this;exact this
   have o5:gs[X]?=some (gs[X]'(by omega)):=Zf (by omega);rw[Zc,o5] at hy;cases hy;have row:=u3 X _ o5;generalize gs[X]'(by omega)=r at row;have s5:=Zv.upd (H:=H4) (o:=.tup [.int (X:Nat),.ref r]) nT;refine⟨T',_,rfl,.of Zu,rfl,_,_,rfl,_,_,rfl,rfl,?_⟩;have N5:=N4.mono s5;generalize upd H4 T' (.tup [.int (X:Nat),.ref r])=H5 at s5 N5 ⊢;refine⟨_,rfl,r,rfl,.inr ⟨⟨_,(row.mono N5.sm).sq⟩,?_⟩⟩;refine Je (Zcb (K:=K) (xs:=(t.getD X []).map nV)) (λY J H'=>∃v6 v7 v8:TU,J=[some (.ref g),some (.ref c),some (.ref r0),some (.ref L),some (.int (X:Nat)),some (.ref r),v6,v7,v8]/\N3 H2 H' L m A B (ZJ t.length (Xf t) (Cg t) X Y))
    ⟨_,_,_,rfl,N5⟩ (λi J H' h=>by
     obtain⟨_,_,_,_,N'⟩:=h;exact (row.mono N'.sm).sq) ?_ ?_
   ·rintro Y y J H6 o6 hy ⟨p4,p6,p7,rfl,N6⟩ p8
    have hY:Y<t.length:=by
     have:=(ae.mp hy).1;rw[Za,Xy O hX] at this;exact this
    rw[J8 O hX hY] at hy;cases hy;have s7:=Zv.upd (H:=H6) (o:=.tup [.int (Y:Nat),.int (ZO t X Y:Nat)]) p8;refine⟨o6,_,rfl,.of Zu,rfl,_,_,rfl,_,_,rfl,rfl,?_⟩;have N7:=N6.mono s7;generalize upd H6 o6 (.tup [.int (Y:Nat),.int (ZO t X Y:Nat)])=H7 at s7 N7 ⊢;have hz:ZO t X Y<t.length:=O.lt _ _ hX hY;obtain⟨kz,t7,q0⟩:=VG O hz;rw[hm] at kz q0;have kX:=(VG O hX).1;have kY:=(VG O hY).1;rw[hm] at kX kY;have n9:=N7.sm _ _ n6;have r6:=N7.sm _ _ c1;obtain⟨h1,h2,h3⟩:=Zb5 O (by rw[hm];exact kz);have o7:Xf t (ZO t X Y)<(rs.map V.ref).length:=by omega
    obtain⟨rk,e1,_,e2⟩:=c3 _ _ (Zf o7);have r8:X8 (rs.map V.ref) (Xf t (ZO t X Y):Int)=some (.ref rk):=ZH (by rw[Zf o7,e1]);refine⟨_,rfl,_,rfl,r0,_,_,_,rfl,rfl,.of n9,ZbE hz,?_⟩;refine⟨_,rfl,_,rfl,c,_,_,_,rfl,rfl,.of r6,r8,rk,_,_,_,rfl,rfl,.of (N7.sm _ _ e2),ZH (j:=0) (by rw[Zc,h3];rfl),_,rfl,rfl,_,rfl,?_⟩;refine Ye (λh=>?_) (λh=>?_)
    ·have he:hdT t (Xf t (ZO t X Y))=ZO t X Y:=by
      have h:V.int (hdT t (Xf t (ZO t X Y)):Nat)=V.int (ZO t X Y:Nat):=of_decide_eq_true h;injection h with h;omega
     refine⟨_,rfl,_,rfl,_,rfl,r0,_,_,_,rfl,rfl,.of n9,ZbE hX,L,_,_,_,rfl,rfl,.of N7.top,ZcX kX,_,rfl,_,rfl,r0,_,_,_,rfl,rfl,.of n9,ZbE hY,A (Xf t X),_,_,_,rfl,rfl,.of (N7.mid _ kX),ZcX kY,_,rfl,B (Xf t X) (Xf t Y),_,Xf t (ZO t X Y),_,rfl,rfl,N7.low _ _ kX kY,ZiK kz,_,_,rfl,rfl,B (Xf t X) (Xf t Y),_,_,Xf t (ZO t X Y),rfl,rfl,N7.low _ _ kX kY,Jc (by rw[Za,UN];exact kz),?_⟩;refine⟨_,_,_,rfl,(N7.put (v:=ZJ t.length (Xf t) (Cg t) X Y (Xf t X) (Xf t Y) (Xf t (ZO t X Y))+1) kX kY kz).congr λi j k hi hj hk=>?_⟩;rw[acc_step,Zir];by_cases e:i=Xf t X/\j=Xf t Y/\k=Xf t (ZO t X Y)
     ·obtain⟨rfl,rfl,rfl⟩:=e
      rw[if_pos ⟨rfl,rfl,rfl⟩,if_pos ⟨rfl,rfl,decide_eq_true he.symm⟩]
     ·rw[if_neg e,if_neg,dH]
      rintro⟨z1,z2,z3⟩;have z3:ZO t X Y=hdT t k:=of_decide_eq_true z3;refine e ⟨z1,z2,?_⟩;rw[z3];exact (Zb5 O (by rw[hm];exact hk)).2.1.symm
    ·have he:hdT t (Xf t (ZO t X Y))≠ZO t X Y:=λz=>h (by rw[z];exact decide_eq_true rfl)
     refine⟨_,_,_,rfl,N7.congr λi j k hi hj hk=>?_⟩;rw[acc_step,Zir,if_neg,dH];rintro⟨z1,z2,z3⟩;have z3:ZO t X Y=hdT t k:=of_decide_eq_true z3;have:=(Zb5 O (by rw[hm];exact hk)).2.1;rw[<-z3] at this;rw[this] at he;exact he z3.symm
   ·rintro J H6 ⟨p4,p6,p7,rfl,N6⟩
    rw[Za,Xy O hX] at N6;exact⟨_,_,_,_,_,rfl,N6.congr λi j k _ _ _=>ZlT _ _ _ _ _ _ _⟩
  ·rintro J H4 ⟨v4,v5,v6,v7,v8,rfl,N4⟩
   rw[el] at N4;have tl:((ac m).map λi=>V.ref (A i)).length=m:=by rw[Za,Zg]
   refine⟨_,rfl,L,rfl,⟨_,.of N4.top⟩,?_⟩;refine ZlJ (m:=m) (F:=cnG t) (YV (K:=K) (.of N4.top)) [] rfl (by rw[tl];omega) tl (λi y hy H5 s5 R k=>?_) (λD ys H5 nD s5 hD k=>?_)
   ·obtain⟨hi,rfl⟩:=ZcW hy
    have ml:((ac m).map λj=>V.ref (B i j)).length=m:=by rw[Za,Zg]
    have hA:=s5 _ _ (N4.mid i hi);refine⟨_,rfl,A i,rfl,⟨_,.of hA⟩,?_⟩;refine ZgW (m:=m) (F:=cnG t i) (YV (K:=K) (.of hA)) [] rfl (by rw[ml];omega) ml (λj y' o0 H6 s6 R' k'=>?_) (λD r9 H6 nD s6 hD k'=>?_)
    ·obtain⟨hj,rfl⟩:=ZcW o0
     refine⟨_,rfl,B i j,_,rfl,.inl ⟨.of ((s5.trans s6) _ _ (N4.low i j hi hj)),λb nb=>?_⟩⟩;exact k' b _ (Zv.upd nb) Zu
    ·refine⟨D,_,rfl,.inl ⟨.of hD,λr nr=>?_⟩⟩
     exact k (r,r9) _ (s6.trans (Zv.upd nr)) (k' r _ Zu (Zv.upd nr))
   ·refine⟨D,_,rfl,.inl ⟨.of hD,λr nr=>?_⟩⟩
    exact q r _ ((((s1.trans s2).trans N4.sm).trans s5).trans (Zv.upd nr)) (k r _ Zu (Zv.upd nr))
end C46
namespace C46
open PySem L2 PySem.Spec PyProof.Rows
open Tb Pm
noncomputable abbrev ZhX:Stmt:=tq 24
theorem ZbN (P:PW t){x:Nat}(j:x<t.length):Xf t x=Yl t x:=by
 obtain⟨q,J,M⟩:=VG P j;exact (Zcj P j q J).symm
theorem Zoc (P:PW t){i j k:Nat}(M:k<(ZC t t.length).length):cnG t i j k=Vw t (Yl t) i j (ZK t k):=by
 have q:ZK t k<t.length:=(YU P).rl k M;have O:cnG t i j k=Vw t (Xf t) i j (ZK t k):=by
  rw[<-ZgY P q];show ZJ t.length (Xf t) (Cg t) t.length 0 i j k=_;unfold ZJ one Cg;rfl
 rw[O];unfold Vw;refine Z5 λx J=>?_;rw[ZbN P J,ZbN P (P.lt _ _ (Yc P J).1 q)]
theorem WS.ext {H:Hp}{a b:Addr}{cs ds:TW}{Y Ts:List (Nat->Bool)}(m1:1<=m)(h:WS H a t p m e cs Y)(g:WS H b t p m e ds Ts):WS (upd H a (.lst (cs.map V.ref++ds.map V.ref))) a t p m e (cs++ds) (Y++Ts):=by
 have ne:∀{x:Addr}{v:Nat->Int},H x=some (.lst (ZI m v))->x≠a:=λ{x v} q=>ZbO q h.1 (UO m1).symm;refine⟨by rw[Zu,aN],by rw[Zd,Zd,h.2.1,g.2.1],λj x q=>?_⟩;by_cases hj:j<cs.length
 ·rw[au hj] at q
  obtain⟨M,O,J⟩:=h.2.2 j x q;exact⟨M,by rw[au (by rw[<-h.2.1];exact hj)];exact O,by rw[Zz (ne J)];exact J⟩
 ·rw[av (by omega)] at q
  obtain⟨M,O,J⟩:=g.2.2 _ x q;exact⟨M,by rw[av (by rw[<-h.2.1];omega),<-h.2.1];exact O,by rw[Zz (ne J)];exact J⟩
theorem ZeZ {t:T9}{p m:Nat}{e j q:Nat->Nat->Nat}(C:CD t p m e j q)(J:PW t):[V.int 1]++(aq (m-1) [V.int 0]).flatten=ZI m (Vc t p m e (XI λ_=>true)):=by
 have m1:=C.m1;have M:ZI m (Vc t p m e (XI λ_=>true))=ZI m (λc=>if c=0 then 1 else 0):=Wy λc O=>Zop C J O
 rw[M];obtain⟨k,rfl⟩:∃k,m=k+1:=⟨m-1,by omega⟩;unfold ZI;rw[kQ,aG,aK,dI];have:∀k a,(aq k [V.int 0]).flatten=(dA a k).map λ_=>V.int 0:=λk=>by
  induction k with
  |zero=>intro a;rfl
  |succ k Y=>intro a;rw[ba,bZ,Y (a+1),eE,aG];rfl
 rw[this k 0,<-eh];rfl
structure ZrB (H:Hp)(L:Addr)(t:T9)(m:Nat)(e:Nat->Nat->Nat)(cs:TW)(ss:T7):Prop where
 at':H L=some (.lst (cs.map V.ref))
 len:cs.length=ss.length
 pm:ss.Perm (ac m)
 it:∀(j:Nat) b,cs[j]?=some b->H b=some (.lst (ZI m λc=>(EC t e (ss.getD j 0) c:Int)))
inductive Zbs (vs:TV) (H:Hp) (Q:VK) (E03:XK):Prop
 |mk (ra:Addr) (t:T9) (p m:Nat) (e ω φ:Nat->Nat->Nat):(vs=[.ref ra,.int p])->(CD t p m e ω φ)->(PW t)->(p<=100000)->(C3 H ra m (cnG t))->(∀L cs ss H',Zv H H'->ZrB H' L t m e cs ss->Q (.ref L) H')->Zbs vs H Q E03
theorem ZiC (F:WB K "taken_apart" "taken_apart" ZhX f fd)(T:Bl mg)(GP:Fn P w K mg base Yg 3 "parts_by" ["columns", "one", "p"] Zbm):Z4 P w K mg base Yg 4 f fd ["counts", "p"] Zbs:=by
 refine F.ok (FS (N:=["counts", "p", "found", "seconds", "columns", "finer", "one"])) (λvs H Q E h=>?_) (λt8 A p7 s H vs Q E hr h=>?_)
 ·obtain⟨ra,t,p,m,e,ω,φ,rfl,_⟩:=h;rfl
 ·obtain⟨ra,t,p,m,e,ω,φ,rfl,C,Pt,pl,p8,q⟩:=h
  refine⟨_,Zs (ZG 2 rfl (ZV (pc (Zy VF (ZV (pc Zx Zt)) (Zy W9 (ZV (pc Zx Zt)) (Zy YB (cb (Ym K) T.len (pc (vn 0) Zt)) Zx))) Zt)))
   (Zs (ZN am rfl (itT K (vn 0)) (gnf 3 rfl)
    (Zw (Y3 (ZL Zc5 (cb (Ym K) T.len (pc (vn 2) Zt)) (cb (Ym K) T.len (pc (vn 0) Zt)) (ZR _))
     (Zs (ZbA 4 ["k"] [3] ["k", "seconds"] rfl rfl (WG T.range (pc (cb (Ym K) T.len (pc (vn 0) Zt)) Zt)) (λ_ _ _ _ _=>gnf 0 rfl) (λ_ _ _ _ _=>ZP)
      (λ_ _ _ _ _=>cmp ["ends"] [0] ["ends", "k"] rfl (itT K (vn 1)) (λ_ _ _ _ _=>gn 0) (λ_ _ _ _ _=>ZP) (λ_ _ _ _ _=>ZD (JE K) (vn 0) (vn 1) (λ_ _=>rfl))))
     (Zs (ZG 5 rfl (ZV Zt))
     (Zs (ZN am rfl (itL K (vn 2)) (gn 6)
      (Zw (YJ (WH aJ lA PySem.F.type_list_extend ZgC (vn 5) (pc (Wn GP hr ZM (pc (vn 4) (pc (vn 6) (pc (vn 1) Zt)))) Zt)))))
     (Zw (ZG 2 rfl (vn 5)))))) Ya)))
   (Zw (ZE (vn 2)))),?_⟩
  have p2:=C.pr.p2;have t9:=ZlN C Pt;have m1:=C.m1;have mc:=C.mc;have sz:=JL;obtain⟨rs,c1,c2,c3⟩:=id p8;have cl:(rs.map V.ref).length=m:=by rw[Za,c2]
  refine⟨JY,λa1 q0=>(?_:_)⟩;have s1:=Zv.upd (H:=H) (o:=.lst [.int 1]) q0;have h1:upd H a1 (.lst [.int 1]) a1=some (.lst [.int 1]):=Zu;generalize upd H a1 (.lst [.int 1])=H1 at s1 h1 ⊢;refine⟨JY,λa2 r6=>?_⟩;have s2:=Zv.upd (H:=H1) (o:=.lst [.int 0]) r6;have h2:upd H1 a2 (.lst [.int 0]) a2=some (.lst [.int 0]):=Zu;generalize upd H1 a2 (.lst [.int 0])=H2 at s2 h2 ⊢;have o5:=s1.trans s2;refine⟨_,rfl,ra,_,rfl,.inr (.of (o5 _ _ c1)),_,_,rfl,rfl,a2,_,_,rfl,rfl,h2,by rw[cl];omega,by rw[cl];omega,by rw[cl];show 1*((m:Int)-1).toNat<=sizeLine;omega,λa3 r8=>?_⟩;have et:(((rs.map V.ref).length:Int)-1).toNat=m-1:=by rw[cl];omega
  rw[et];have s3:=Zv.upd (H:=H2) (o:=.lst (aq (m-1) [V.int 0]).flatten) r8;have h3:upd H2 a3 (.lst (aq (m-1) [V.int 0]).flatten) a3=some (.lst (aq (m-1) [V.int 0]).flatten):=Zu;generalize upd H2 a3 (.lst (aq (m-1) [V.int 0]).flatten)=H3 at s3 h3 ⊢;have fl:(aq (m-1) [V.int 0]).flatten.length<=60:=by
   have:=congrArg eB (ZeZ C Pt);rw[Z1,Zd] at this;omega
  refine⟨a1,a3,_,_,rfl,rfl,(s2.trans s3) _ _ h1,h3,by show 1+_<=sizeLine;omega,λa4 r9=>?_⟩;rw[ZeZ C Pt];have s4:=Zv.upd (H:=H3) (o:=.lst (ZI m (Vc t p m e (XI λ_=>true)))) r9;have h4:upd H3 a4 (.lst (ZI m (Vc t p m e (XI λ_=>true)))) a4=some (.lst (ZI m (Vc t p m e (XI λ_=>true)))):=Zu;generalize upd H3 a4 (.lst (ZI m (Vc t p m e (XI λ_=>true))))=H4 at s4 h4 ⊢;refine⟨JY,λL nL=>?_⟩;have s5:=Zv.upd (H:=H4) (o:=.lst [.ref a4]) nL;have h5:upd H4 L (.lst [.ref a4]) L=some (.lst [.ref a4]):=Zu;generalize upd H4 L (.lst [.ref a4])=H5 at s5 h5 ⊢;have o6:Zv H H5:=((o5.trans s3).trans s4).trans s5;have P5:WS H5 L t p m e [a4] [λ_=>true]:=⟨h5,rfl,λj b hb=>by
   cases j with
   |zero=>cases hb;exact⟨_,rfl,s5 _ _ h4⟩
   |succ j=>cases hb⟩
  refine⟨_,rfl,ra,rfl,⟨_,.of (o6 _ _ c1)⟩,?_⟩;have wj:∀s s',s<m->s'<m->(∀j,j<m->gW t ω j s=gW t ω j s')->s=s':=λs s' hs o7 h=>C.sep s s' hs o7 λu hu=>by
   have hc:=(YU Pt).lt u hu;rw[C.wat Pt hs hu,C.wat Pt o7 hu];exact h (Yl t u) (by omega)
  refine WV (H0:=H) (We (K:=K) (.of c1)) (λi J H'=>∃(l:Addr) (cs:TW) (M:List (Nat->Bool)) (v3 v4 v5 v6:TU),J=[some (.ref ra),some (.int (p:Nat)),some (.ref l),v3,v4,v5,v6]/\Zv H H'/\WS H' l t p m e cs M/\XL m (λs j=>gW t ω j s) i M)
   ⟨L,_,_,_,_,_,_,rfl,o6,P5,XL.zero m1 _⟩ (λi J H' h=>by
    obtain⟨_,_,_,_,_,_,_,_,sm,_⟩:=h;exact sm) ?_ ?_
  ·rintro i y J H6 hy ⟨l,cs,M,v3,v4,v5,v6,rfl,s6,O,A6⟩
   have hi:i<m:=by
    have:=(ae.mp hy).1;rw[cl] at this;exact this
   rw[Zc,Zf (show i<rs.length by omega)] at hy;cases hy;obtain⟨es,e1,e2,e3⟩:=c3 i _ (Zf (show i<rs.length by omega));generalize rs[i]'(by omega)=sa at e1 ⊢;rw[Za,Zg] at e2;have el:(es.map V.ref).length=m:=by rw[Za,e2]
   have n8:(cs.map V.ref).length=M.length:=by rw[Za,O.2.1]
   refine⟨_,rfl,l,_,rfl,.inl (.of O.1),_,rfl,ra,_,rfl,.inr (.of (s6 _ _ c1)),_,_,rfl,rfl,_,rfl,?_⟩;rw[n8,cl];refine Ye (λo8=>?_) (λo8=>?_)
   ·refine⟨_,rfl,ra,_,rfl,.inr (.of (s6 _ _ c1)),_,rfl,by rw[cl];omega,by rw[cl];omega,?_⟩
    rw[cl,Zj];refine Pm.Wt (W:=Addr) id (λk a H=>H a=some (.lst (ZI m (Ub t i k)))) (λa H=>H a=none) (Wp 0 m) [some (.ref sa)] rfl (by rw[Za,Z7];omega) (λk a H H' sm h=>sm _ _ h) (λa H H' sm h=>sm.free h) (λk a u5 u9 D o ys w8 h1 h2 h3 h4=>by rw[Zz (λz=>by rw[z,h3] at h2;cases h2)];exact h1) (λk y hy H7 s7 R k7=>?_) (λD ws H7 nD s7 hD wl hw _=>?_)
    ·obtain⟨hk,rfl⟩:=Vm hy
     have Y:=s6.trans s7;refine⟨_,rfl,sa,rfl,⟨_,.of (Y _ _ e1)⟩,?_⟩;refine Pm.YZ (We (K:=K) (.of (Y _ _ e1))) [some (.int (k:Nat))] rfl (λj=>V.int (Ub t i k j)) (by rw[el];omega) (λj z hz H8 s8 R' k8=>?_) (λD8 H8 t5 s8 o9=>?_)
     ·have hj:j<m:=by
       have:=(ae.mp hz).1;rw[el] at this;exact this
      rw[Zc,Zf (show j<es.length by omega)] at hz;cases hz;have hE:=e3 j _ (Zf (show j<es.length by omega));generalize es[j]'(by omega)=ea at hE ⊢;have row:((ac m).map λj=>Yd m (cnG t i j)).getD j []=Yd m (cnG t i j):=by rw[Zb,Zc,ah hj];rfl
      rw[row] at hE;have t6:X8 ((Yd m (cnG t i j)).map nV) (k:Int)=some (V.int (Ub t i k j)):=by
       refine ZH ?_;unfold Yd;rw[Zc,Zc,ah hk];show some (V.int ((cnG t i j k:Nat):Int))=some (V.int (Ub t i k j));unfold Ub;rw[Zoc Pt (by omega)]
      exact⟨_,rfl,_,rfl,ea,_,_,_,rfl,rfl,.of ((Y.trans s8) _ _ hE),t6,k8 H8 (Zv.refl _)⟩
     ·rw[el] at o9
      exact k7 D8 H8 s8 o9 t5
    ·have hL:LLs H7 D m (Ub t i):=⟨ws,hD,by rw[wl,Za,Z7],λc b hb=>(hw c b hb).1⟩
     have Y:=s6.trans s7;have P7:=O.mono s7;refine⟨JY,λFn p3=>?_⟩;have s8:=Zv.upd (H:=H7) (o:=.lst []) p3;have h8:upd H7 Fn (.lst []) Fn=some (.lst ([]:TV)):=Zu;generalize upd H7 Fn (.lst [])=H8 at s8 h8 ⊢;have P8:=P7.mono s8;refine⟨_,rfl,l,rfl,⟨_,.of P8.1⟩,?_⟩;refine WV (H0:=H7) (YV (K:=K) (.of P7.1)) (λj J H'=>∃(ds:TW) (Fs:List (Nat->Bool)) (v6:TU),J=[some (.ref ra),some (.int (p:Nat)),some (.ref l),some (.ref sa),some (.ref D),some (.ref Fn),v6]/\Zv H7 H'/\WS H' Fn t p m e ds Fs/\FiS m (gW t ω i) (M.take j) Fs)
      ⟨[],[],_,rfl,s8,⟨h8,rfl,λj b hb=>by simp at hb⟩,by rw[fg];exact .nil⟩ (λj J H' h=>by
       obtain⟨_,_,_,_,sm,_⟩:=h;exact sm) ?_ ?_
     ·rintro j y J H9 hy ⟨ds,Fs,v6,rfl,s9,P9,F9⟩
      have hj:j<M.length:=by
       have:=(ae.mp hy).1;rw[n8] at this;exact this
      rw[Zc,Zf (show j<cs.length by rw[O.2.1];exact hj)] at hy;cases hy;obtain⟨S,hS,hb⟩:=P7.2.2 j _ (Zf (show j<cs.length by rw[O.2.1];exact hj));generalize cs[j]'(by rw[O.2.1];exact hj)=b at hb ⊢;refine⟨_,rfl,.inl ⟨rfl,_,.of P9.1⟩,_,rfl,_,rfl,_,rfl,D,b,t,p,m,e,ω,φ,S,i,rfl,C,Pt,hi,pl,hL.mono s9,s9 _ _ hb,λB bs Ts w9 nB p4 pS pA=>?_⟩;have n9:=P9.mono p4;have n6:FiS m (gW t ω i) (M.take (j+1)) (Fs++Ts):=by
       rw[cW,hS];exact .snoc F9 pS
      have x0:Fs.length+Ts.length<=m:=by
       have hd:=n6.dj (c7 (jq _ _) A6.dj);have:=L2.YH ((Fs++Ts).map (pkS m)) (ac m) (ZaQ (λT' o0=>(n6.out.1 T' o0).1) hd) (λx hx=>by
        obtain⟨T',o0,rfl⟩:=aE.mp hx;exact af.mpr (XN (n6.out.1 T' o0).1).1)
       rwa [Za,Zd,Zg] at this
      refine⟨Fn,B,_,_,rfl,rfl,n9.1,pA.1,by rw[Za,Za,n9.2.1,pA.2.1];omega,?_⟩;refine⟨ds++bs,Fs++Ts,_,rfl,(s9.trans p4).updr p3,?_,n6⟩;exact n9.ext m1 pA
     ·rintro J H9 ⟨ds,Fs,v6,rfl,s9,P9,F9⟩
      rw[n8,c8] at F9;exact⟨_,rfl,Fn,ds,Fs,_,_,_,_,rfl,Y.trans s9,P9,A6.step F9⟩
   ·have t7:m<=M.length:=by
     apply aj;intro z;exact o8 (decide_eq_true (by omega))
    exact⟨l,cs,M,_,_,_,_,rfl,s6,O,A6.skip t7⟩
  ·rintro J H6 ⟨l,cs,M,v3,v4,v5,v6,rfl,s6,O,A6⟩
   rw[cl] at A6;obtain⟨hp,p6⟩:=A6.end wj;refine⟨_,rfl,q l cs (M.map (pkS m)) H6 s6 ⟨O.1,by rw[Za];exact O.2.1,hp,λj b hb=>?_⟩⟩;obtain⟨S,h1,h2⟩:=O.2.2 j b hb;rw[h2];congr 2;have hS:S∈M:=az h1;have e6:(M.map (pkS m)).getD j 0=pkS m S:=by rw[Zb,Zc,h1];rfl
   have pk:=(XN (A6.ne S hS)).1;refine Wy λc hc=>?_;rw[e6,<-Zp8 C Pt pk hc];refine Xp (λs hs=>?_) c;unfold XI;rw[p6 S hS s hs];by_cases z:s=pkS m S
   ·rw[if_pos z,if_pos (decide_eq_true z)]
   ·rw[if_neg z,if_neg (by rw[decide_eq_false z];decide)]
noncomputable abbrev ZhL:Stmt:=tq 23
def wkF (t:T9)(a k:Nat):Int:=(Yl t (it t a k):Nat)
structure Zp7 (H:Hp)(L:Addr)(t:T9)(n:Nat)(cs:TW):Prop where
 at':H L=some (.lst (cs.map V.ref))
 len:cs.length=n
 it:∀(c:Nat) b,cs[c]?=some b->H b=some (.lst (ZI (rdT t (ZK t c)) (wkF t (ZK t c))))
inductive Zbg (vs:TV) (H:Hp) (Q:VK) (E03:XK):Prop
 |mk (g:Addr) (t:T9):(vs=[.ref g])->(GT H g t)->(PW t)->(∀L cs H',Zv H H'->Zp7 H' L t (ZC t t.length).length cs->Q (.ref L) H')->Zbg vs H Q E03
def but (H:Hp)(W:Addr):Hp:=λb=>if b=W then none else H b
theorem VQ {H:Hp}{W b:Addr}{o:HO}(h:H b=some o)(hb:b≠W):but H W b=some o:=by unfold but;rw[if_neg hb];exact h
theorem ZbM {H:Hp}{W b:Addr}{o:HO}(h:but H W b=some o):b≠W/\H b=some o:=by
 unfold but at h;by_cases z:b=W
 ·rw[if_pos z] at h;cases h
 ·rw[if_neg z] at h;exact⟨z,h⟩
theorem Zcz {cs:TW}{m:Nat}{v:Nat->Int}(j:1<=m):ZI m v≠cs.map V.ref:=(UO j).symm
theorem Zis (F:WB K "power_walks" "power_walks" ZhL f fd)(GN:Fn P w K mg base Yg 5 "class_numbers" ["group"] Zbn)(GC:Fn P w K mg base Yg 4 "classes_of" ["group"] Jz):Z4 P w K mg base Yg 6 f fd ["group"] Zbg:=by
 refine F.ok (FS (N:=["group", "numbers", "walks", "members", "walk", "a"])) (λvs H Q E h=>?_) (λw9 A q0 s H vs Q E hr h=>?_)
 ·obtain⟨g,t,rfl,_⟩:=h;rfl
 ·obtain⟨g,t,rfl,G,M,q⟩:=h
  refine⟨_,Zs (ZG 1 rfl (Wn GN hr ZM (pc (vn 0) Zt)))
   (Zs (ZG 2 rfl (ZV Zt))
   (Zs (ZN am rfl (itT K (Wn GC hr ZM (pc (vn 0) Zt))) (gn 3)
    (Zs (ZG 4 rfl (ZV (pc Zx Zt)))
    (Zs (ZG 5 rfl (ZD (JE K) (vn 3) Zx (λ_ _=>rfl)))
    (Zs (Yq am (ZL WI (vn 5) Zx (ZR _))
     (Zs (YJ (WH aJ aR aU Yb (vn 4) (pc (ZD (JE K) (vn 1) (vn 5) (λ_ _=>rfl)) Zt)))
     (Zw (ZG 5 rfl (ZD (JE K) (ZD (JE K) (vn 0) (vn 5) (λ_ _=>rfl)) (ZD (JE K) (vn 3) Zx (λ_ _=>rfl)) (λ_ _=>rfl))))))
    (Zw (YJ (WH aJ aR aU Yb (vn 2) (pc (vn 4) Zt))))))))
   (Zw (ZE (vn 2))))),?_⟩
  have sz:=JL;have x0:=M.n60;have ul:=Wc (t:=t) t.length;have U:=YU M;refine⟨_,rfl,g,t,rfl,G,M,λr0 H1 s1 o0=>?_⟩;replace o0:H1 r0=some (.tup ((Yd t.length (Xf t)).map nV)):=o0;refine⟨JY,λW nW=>?_⟩;have s2:=Zv.upd (H:=H1) (o:=.lst []) nW;have h2:upd H1 W (.lst []) W=some (.lst ([]:TV)):=Zu;generalize upd H1 W (.lst [])=H2 at s2 h2 ⊢;have o8:=s1.trans s2;refine⟨_,rfl,g,t,rfl,G.mono o8,M,λc H3 s3 r6=>?_⟩;have o9:=o8.trans s3;have r8:H W=none:=s1.free nW;obtain⟨rs,c1,c2,c3⟩:=r6.row;have cl:(rs.map V.ref).length=(ZC t t.length).length:=by rw[Za,c2]
  have h3:=s3 _ _ h2;have o5:=(s2.trans s3) _ _ o0;generalize hm:(ZC t t.length).length=m at *;refine⟨c,rfl,⟨_,.of c1⟩,?_⟩;refine WV (H0:=but H3 W) (We (K:=K) (.of (VQ c1 (λz=>by rw[z,h3] at c1;cases c1)))) (λi J H'=>∃(cs:TW) (v3 v4 v5:TU),J=[some (.ref g),some (.ref r0),some (.ref W),v3,v4,v5]/\Zv (but H3 W) H'/\Zp7 H' W t i cs)
   ⟨[],_,_,_,rfl,λb o hb=>(ZbM hb).2,h3,rfl,λc b hb=>by simp at hb⟩ (λi J H' h=>by
    obtain⟨_,_,_,_,_,sm,_⟩:=h;exact sm) ?_ ?_
  ·rintro i y J O hy ⟨cs,v3,v4,v5,rfl,s4,W4⟩
   obtain⟨r,rfl,hi,Y⟩:=c3 i y hy;have k4:∀{b:Addr}{o:HO},H3 b=some o->b≠W->O b=some o:=λ{b o} hb z=>s4 b o (VQ hb z);have hR:=U.rl i (by omega);obtain⟨n6,r9,p3⟩:=Zb5 M (k:=i) (by omega);have t5:hdT t i=ZK t i:=rfl;rw[t5] at n6 r9 p3;generalize ha:ZK t i=a at *;obtain⟨rd,R⟩:=M.rd a n6;have t6:=UR R;have r1:=R.r1;have rn:=R.rn;have p4:=k4 Y (λz=>by rw[z,h3] at Y;cases Y);have t7:=k4 o5 (λz=>by rw[z,h3] at o5;cases o5);have G3:=G.mono o9;have G4:GT O g t:=by
    obtain⟨gs,g1,g2,g3⟩:=G3;refine⟨gs,k4 g1 (λz=>by rw[z,h3] at g1;cases g1),g2,λj b hb=>?_⟩;obtain⟨o,ho,t8⟩:=g3 j b hb;exact⟨o,k4 ho (λz=>by rw[z,h3] at ho;cases ho),t8⟩
   refine⟨JY,λwk o6=>?_⟩;have s5:=Zv.upd (H:=O) (o:=.lst [.int 0]) o6;have h5:upd O wk (.lst [.int 0]) wk=some (.lst (ZI 1 (wkF t a))):=by
    rw[Zu];show some (HO.lst [V.int 0])=some (HO.lst [V.int ((Yl t (it t a 0):Nat):Int)]);rw[show it t a 0=0 from rfl,Zai M];rfl
   generalize upd O wk (.lst [.int 0])=H5 at s5 h5 ⊢;have n8:X8 (((ZC t t.length).getD i []).map nV) 0=some (V.int (a:Nat)):=by
    refine ZH (j:=0) ?_;rw[Zc,p3];rfl
   have t9:=s5 _ _ p4;refine⟨_,rfl,r,_,_,_,rfl,rfl,.of t9,n8,?_⟩;have w8:∀{b:Addr}{o:HO},O b=some o->b≠wk:=λ{b o} hb z=>by rw[z,o6] at hb;cases hb
   refine Yh (λx J H'=>∃k:Nat,J=[some (.ref g),some (.ref r0),some (.ref W),some (.ref r),some (.ref wk),some (.int ((it t a k:Nat):Int))]/\Zv O H'/\H' wk=some (.lst (ZI k (wkF t a)))/\1<=k/\k<=rd/\x=rd-k)
    (λJ H'=>∃v5:TU,J=[some (.ref g),some (.ref r0),some (.ref W),some (.ref r),some (.ref wk),v5]/\Zv O H'/\H' wk=some (.lst (ZI rd (wkF t a)))) ?hend ⟨rd-1,1,by rw[ZeC M n6];rfl,s5,h5,Zq _,r1,rfl⟩ ?turn
   case hend=>
    rintro J H6 ⟨x9,rfl,s6,h6⟩;have o7:=s6 _ _ W4.at';have p6:∀{b:Addr}{v:Nat->Int}{n:Nat},1<=n->H6 b=some (.lst (ZI n v))->b≠W:=λ{b v n} hn hb=>ZbO hb o7 (Zcz hn);refine⟨_,rfl,.inl ⟨rfl,_,.of o7⟩,_,rfl,W,_,_,rfl,rfl,o7,by rw[Za,W4.len];omega,?_⟩;refine⟨cs++[wk],_,_,_,rfl,λb o hb=>?_,⟨by rw[Zu,aN];rfl,by rw[Zd,W4.len];rfl,λc' b hb=>?_⟩⟩
    ·rw[Zz (ZbM hb).1]
     exact (s4.trans s6) b o hb
    ·by_cases u5:c'<cs.length
     ·rw[au u5] at hb
      have p7:=s6 _ _ (W4.it c' b hb);obtain⟨y4,R'⟩:=M.rd (ZK t c') (U.rl c' (by have:=W4.len;omega));rw[Zz (p6 (by rw[UR R'];exact R'.r1) p7)];exact p7
     ·have hl:=(ae.mp hb).1
      rw[Zd,Zk] at hl;have ec:c'=cs.length:=by omega
      rw[av (by omega),ec,cC] at hb;cases hb;rw[ec,W4.len,ha,t6,Zz (p6 r1 h6)];exact h6
   case turn=>
    rintro n9 x J H6 ⟨k,rfl,s6,h6,k1,kr,rfl⟩;have il:=Jd M n6 k;refine⟨_,rfl,rfl,_,rfl,?_⟩;refine Ye (λq1=>?_) (λq1=>?_)
    ·have q1:=Zrc q1
     have kn:k≠rd:=λz=>by rw[z,R.z] at q1;exact q1 rfl
     have u9:=s6 _ _ t7;have p8:X8 ((Yd t.length (Xf t)).map nV) ((it t a k:Nat):Int)=some (V.int (wkF t a k)):=by
      refine ZH ?_;unfold Yd;rw[Zc,Zc,ah il];show some (V.int ((Xf t (it t a k):Nat):Int))=_;rw[ZbN M il];rfl
     refine⟨_,λ_ _ z=>z,_,rfl,.inl ⟨rfl,_,.of h6⟩,_,rfl,_,rfl,r0,_,_,_,rfl,rfl,.of u9,p8,wk,_,_,rfl,rfl,h6,by rw[Z1];omega,?_⟩;rw[<-Zcy];have s7:Zv O (upd H6 wk (.lst (ZI (k+1) (wkF t a)))):=s6.updr o6;have h7:upd H6 wk (.lst (ZI (k+1) (wkF t a))) wk=some (.lst (ZI (k+1) (wkF t a))):=Zu;generalize upd H6 wk (.lst (ZI (k+1) (wkF t a)))=H7 at s7 h7 ⊢;obtain⟨gr,ga,u1,_,u2,u3,u4⟩:=(G4.mono s7).at M il;refine⟨_,rfl,_,rfl,g,_,_,_,rfl,rfl,.of u1,u2,_,rfl,r,_,_,_,rfl,rfl,.of (s7 _ _ p4),n8,ga,_,_,_,rfl,rfl,u3.sq,u4 a n6,?_⟩;exact⟨rd-(k+1),by omega,k+1,rfl,s7,h7,by omega,by omega,rfl⟩
    ·have q1:=Zrd q1
     have:k=rd:=by
      apply aj;intro z;exact R.nz k k1 (by omega) (by omega)
     rw[this] at h6;exact n9 _ _ ⟨_,rfl,s6,h6⟩
  ·rintro J O ⟨cs,v3,v4,v5,rfl,s4,W4⟩
   rw[cl] at W4;exact⟨_,rfl,q W cs O (λb o hb=>s4 b o (VQ (o9 _ _ hb) (λz=>by rw[z,r8] at hb;cases hb))) W4⟩
end C46
namespace N46
open PySem L2 PySem.Spec PyProof.Rows
def tq (i:Nat):Stmt:=fM.main.body.getD i (.Pass ⟨0,0,0,0⟩)
structure Bl (mg:TX):Prop where
 list:mg "list"=none
 len:mg "len"=none
 abs:mg "abs"=none
 range:mg "range"=none
 tuple:mg "tuple"=none
 isi:mg "isinstance"=none
 all:mg "all"=none
 set:mg "set"=none
 repr:mg "repr"=none
 any:mg "any"=none
 int:mg "int"=none
 bool:mg "bool"=none
noncomputable abbrev Zfc:Stmt:=tq 13
def strip:Nat->Int->Int->Int
 |0,r,_=>r
 |g+1,r,p=>if r % p=0 then strip g (r / p) p else r
def pr:Nat->Int->Int->TZ->TZ
 |0,_,_,ZJ=>ZJ
 |f+1,r,p,ZJ=>if 1<r then pr f (strip 6 r p) (p+1) (if r % p=0 then ZJ++[p] else ZJ) else ZJ
def ZeL:Nat->Int->Int->Bool
 |0,r,_=>decide (r<=1)
 |f+1,r,p=>if 1<r then ZeL f (strip 6 r p) (p+1) else true
def Yy (n:Int):TZ:=pr 100 n 2 []
def ZbI (n:Int):Int:=(Yy n).foldl (λf p=>f / p*(p-1)) n
def ZpE:Nat->Int->Int->Int
 |0,a,_=>a
 |f+1,a,b=>if 0<b then ZpE f b (a % b) else a
def Zrl (a b:Int):Int:=ZpE 100 a b
def Zmr (n:Int):Int:=(((Y6 1 n.toNat).filter λk=>decide (Zrl k n=1)).length:Nat)
def okN (n:Nat):Bool:=ZeL 100 n 2 && (Yy n).all (λp=>decide (2<=p) && decide (p<=60)) && decide (ZbI n=Zmr n) && decide (1<=ZbI n) && decide (ZbI n<=60)
theorem Zk8:((ac 61).all λn=>n == 0 || okN n)=true:=by decide +kernel
theorem ZiD {n:Nat}(q:1<=n)(J:n<=60):ZeL 100 n 2=true/\(∀p∈Yy n,2<=p/\p<=60)/\ZbI n=Zmr n/\1<=ZbI n/\ZbI n<=60:=by
 have h:=aD.mp Zk8 n (af.mpr (by omega));have j:(n == 0)=false:=by simp;omega
 rw[j,fW] at h;unfold okN at h;simp only[ag,decide_eq_true_eq,aD] at h;exact⟨h.1.1.1.1,h.1.1.1.2,h.1.1.2,h.1.2,h.2⟩
theorem Zad {r p:Int}(J:1<=r)(j:2<=p)(h:r % p=0):1<=r / p/\2*(r / p)<=r:=by
 have e:p*(r / p)=r:=Int.mul_ediv_cancel' (Int.dvd_of_emod_eq_zero h);generalize r / p=q at e;have M:1<=q:=by
  apply aj;intro O;have:p*q<=p*0:=Int.mul_le_mul_of_nonneg_left (by omega) (by omega);omega
 have:2*q<=p*q:=dk j (by omega);omega
theorem Vg:∀(g:Nat) {r p:Int},1<=r->2<=p->1<=strip g r p/\strip g r p<=r
 |0,r,p,j,_=>⟨j,Int.le_refl _⟩
 |g+1,r,p,j,q=>by
  unfold strip;by_cases h:r % p=0
  ·rw[if_pos h]
   obtain⟨a,b⟩:=Zad j q h;have:=Vg g (r:=r / p) (p:=p) a q;omega
  ·rw[if_neg h];omega
theorem UB {g:Nat}{r p:Int}(h:¬r % p=0):strip g r p=r:=by
 cases g with
 |zero=>rfl
 |succ g=>unfold strip;rw[if_neg h]
inductive UE (vs:TV) (H:Hp) (Q:VK) (E03:XK):Prop
 |mk (n:Nat):(vs=[.int n])->(1<=n)->(n<=60)->(∀l H',Zv H H'->H' l=some (.lst ((Yy n).map V.int))->Q (.ref l) H')->UE vs H Q E03
theorem Zgs (F:WB K "primes_of" "primes_of" Zfc f fd)(T:Bl mg):Z4 P w K mg base Yg 1 f fd ["n"] UE:=by
 refine F.ok (FS (N:=["n", "primes", "rest", "p"])) (λvs H Q E h=>?_) (λp6 A o7 s H vs Q E hr h=>?_)
 ·obtain⟨n,rfl,_⟩:=h;rfl
 ·obtain⟨n,rfl,n1,n60,q⟩:=h
  obtain⟨o5,p7,_⟩:=ZiD n1 n60;refine⟨_,Zs (ZG 1 rfl (ZV Zt)) (Zs (ZG 2 rfl (vn 0)) (Zs (ZG 3 rfl Zx)
   (Zs (Yq am (ZL Zip (vn 2) Zx (ZR _))
    (Zs (Y3 (ZL V1 (Zy ZY (vn 2) (vn 3)) Zx (ZR _)) (Zw (YJ (WH aJ aR aU Yb (vn 1) (pc (vn 3) Zt)))) Ya)
    (Zs (Yq am (ZL V1 (Zy ZY (vn 2) (vn 3)) Zx (ZR _)) (Zw (ZG 2 rfl (Zy WC (vn 2) (vn 3)))))
    (Zw (Xc (i:=3) (Z9 (by kernel_rfl)) rfl (YY (by kernel_rfl)) Zx Ju (.inl rfl))))))
   (Zw (ZE (vn 1)))))),?_⟩
  refine⟨by decide,λl hl=>⟨_,rfl,?_⟩⟩;have s1:Zv H (upd H l (.lst [])):=Zv.upd hl;refine Yh (λf O H'=>∃(r p:Int) (ZJ:TZ),O=[some (.int n),some (.ref l),some (.int r),some (.int p)]/\H'=upd H l (.lst (ZJ.map V.int))/\1<=r/\r<=60/\2<=p/\p+f=102/\ZJ.length+f<=100/\ZeL f r p=true/\pr f r p ZJ=Yy n)
   (λO H'=>∃r p:TU,O=[some (.int n),some (.ref l),r,p]/\H'=upd H l (.lst ((Yy n).map V.int))) ?hend ⟨100,n,2,[],rfl,rfl,by omega,by omega,by omega,by omega,by decide,o5,rfl⟩ ?turn
  case hend=>
   rintro O H' ⟨r,p,rfl,rfl⟩;exact⟨_,rfl,q l _ (Zv.upd hl) Zu⟩
  case turn=>
   rintro n9 f O H' ⟨r,p,ZJ,rfl,rfl,r1,o8,p2,pf,al,he,hp⟩;refine⟨_,rfl,_,_,rfl,rfl,_,rfl,?_⟩;refine Ye (λh1=>?_) (λh1=>?_)
   rotate_left
   ·have h1:¬ 1<r:=λz=>h1 (decide_eq_true z)
    refine n9 _ _ ⟨_,_,rfl,?_⟩;have:pr f r p ZJ=ZJ:=by cases f with|zero=>rfl|succ f=>unfold pr;rw[if_neg h1]
    rw[<-hp,this]
   have h1:1<r:=of_decide_eq_true h1;obtain⟨g,rfl⟩:∃g,f=g+1:=by
    cases f with
    |zero=>unfold ZeL at he;have:=of_decide_eq_true he;omega
    |succ g=>exact⟨g,rfl⟩
   refine⟨_,λ_ _ z=>z,?_⟩;unfold ZeL at he;unfold pr at hp;rw[if_pos h1] at he hp;have sz:=JL;refine⟨_,rfl,_,rfl,_,_,rfl,rfl,(by show (0:Int)<p;omega),rfl,_,rfl,?_⟩;obtain⟨j,o0,o6,hA⟩:∃j:TZ,j=(if r % p=0 then ZJ++[p] else ZJ)/\pr g (strip 6 r p) (p+1) j=Yy n/\j.length<=ZJ.length+1:=⟨_,rfl,hp,by split <;> simp⟩
   obtain⟨o9,p8⟩:=Vg 6 (r:=r) (p:=p) r1 p2;refine Ye (λh2=>?_) (λh2=>?_)
   ·have h2:r % p=0:=V.int.inj (of_decide_eq_true h2)
    refine⟨_,rfl,.inl ⟨rfl,_,.of Zu⟩,_,rfl,l,_,_,rfl,rfl,Zu,by rw[Za];omega,?_⟩;have e1:upd (upd H l (.lst (ZJ.map V.int))) l (.lst (ZJ.map V.int++[.int p]))=upd H l (.lst (j.map V.int)):=by
     rw[Zj4,o0,if_pos h2,aN];rfl
    rw[e1];refine Yh (λm J M=>∃(Y:Int) (g':Nat),J=[some (.int n),some (.ref l),some (.int Y),some (.int p)]/\M=upd H l (.lst (j.map V.int))/\1<=Y/\Y<=60/\Y<2 ^ g'/\strip g' Y p=strip 6 r p/\m=Y.toNat)
     (λJ M=>J=[some (.int n),some (.ref l),some (.int (strip 6 r p)),some (.int p)]/\M=upd H l (.lst (j.map V.int))) ?hend2 ⟨_,r,6,rfl,rfl,r1,o8,by omega,rfl,rfl⟩ ?turn2
    case hend2=>
     rintro J M ⟨rfl,rfl⟩;exact⟨_,rfl,_,_,rfl,rfl,g,by omega,strip 6 r p,p+1,j,rfl,rfl,o9,by omega,by omega,by omega,by omega,he,o6⟩
    case turn2=>
     rintro n6 m J M ⟨Y,g',rfl,rfl,a1,a2,a3,a4,rfl⟩;refine⟨_,rfl,_,rfl,_,_,rfl,rfl,(by show (0:Int)<p;omega),rfl,_,rfl,?_⟩;refine Ye (λh3=>?_) (λh3=>?_)
     ·have h3:Y % p=0:=V.int.inj (of_decide_eq_true h3)
      obtain⟨b1,b2⟩:=Zad a1 p2 h3;obtain⟨g2,rfl⟩:∃g2,g'=g2+1:=by
       cases g' with
       |zero=>simp at a3;omega
       |succ g2=>exact⟨g2,rfl⟩
      unfold strip at a4;rw[if_pos h3] at a4;refine⟨_,λ_ _ z=>z,_,rfl,_,rfl,_,_,rfl,rfl,⟨by omega,by omega⟩,(Y / p).toNat,by omega,Y / p,g2,rfl,rfl,b1,by omega,?_,a4,rfl⟩;rw[Int.pow_succ] at a3;omega
     ·have h3:¬Y % p=0:=λz=>h3 (decide_eq_true (congrArg V.int z))
      rw[UB h3] at a4;exact n6 _ _ ⟨by rw[a4],rfl⟩
   ·have h2:¬r % p=0:=λz=>h2 (decide_eq_true (congrArg V.int z))
    have e1:upd H l (.lst (ZJ.map V.int))=upd H l (.lst (j.map V.int)):=by rw[o0,if_neg h2]
    rw[e1];have e2:strip 6 r p=r:=UB h2;refine Yh (λm J M=>J=[some (.int n),some (.ref l),some (.int r),some (.int p)]/\M=upd H l (.lst (j.map V.int)))
     (λJ M=>J=[some (.int n),some (.ref l),some (.int r),some (.int p)]/\M=upd H l (.lst (j.map V.int))) ?hend3 ⟨0,rfl,rfl⟩ ?turn3
    case hend3=>
     rintro J M ⟨rfl,rfl⟩;exact⟨_,rfl,_,_,rfl,rfl,g,by omega,r,p+1,j,rfl,rfl,r1,by omega,by omega,by omega,by omega,e2▸he,e2▸o6⟩
    case turn3=>
     rintro n8 m J M ⟨rfl,rfl⟩;refine⟨_,rfl,_,rfl,_,_,rfl,rfl,(by show (0:Int)<p;omega),rfl,_,rfl,?_⟩;exact Zri (λz=>h2 (V.int.inj (of_decide_eq_true z))) (n8 _ _ ⟨rfl,rfl⟩)
theorem Zh6 (m:Nat):(aq m [V.int 0]).flatten=(aq m (0:Int)).map V.int:=by
 induction m with
 |zero=>rfl
 |succ m j=>rw[ba,bZ,j,ba];rfl
end N46
namespace L2
open PySem PySem.Spec PyProof.Rows
end L2
namespace N46
open PySem L2 PySem.Spec PyProof.Rows
end N46
namespace N46
open PySem L2 PySem.Spec PyProof.Rows
open Num
noncomputable abbrev Zo1:Stmt:=tq 14
noncomputable abbrev Zo2:Stmt:=tq 15
noncomputable abbrev ZhT:Stmt:=tq 16
noncomputable abbrev ZhR:Stmt:=tq 17
structure Bl2 (mg:TX):Prop where
 enumerate:mg "enumerate"=none
 max:mg "max"=none
theorem Zb6 {a:TZ}{i:Nat}(h:i<a.length):X8 (a.map V.int) (i:Int)=some (.int (co a i)):=ZH (by rw[Zc,Wv h];rfl)
theorem Vk (a:TZ)(i:Nat)(v:Int):(a.map V.int).set i (V.int v)=(a.set i v).map V.int:=by rw[kS]
theorem Vp {a:TZ}{i:Nat}{y:V}(h:(a.map V.int)[i]?=some y):i<a.length/\y=.int (co a i):=by
 rw[Zc] at h;by_cases j:i<a.length
 ·rw[Wv j] at h
  exact⟨j,(aB h).symm⟩
 ·rw[ai (by omega)] at h
  cases h
theorem Vu {n i:Nat}(h:i<n):ixN n (i:Int)=some i:=by
 unfold ixN;rw[if_pos (dJ _),if_pos (by omega),Zj]
theorem Zh7 (m:Nat):(aq m [V.int 0]).flatten=(aq m (0:Int)).map V.int:=Zh6 m
theorem Zb7 {X:Cx}:Zot X (λx y H Q=>∃(p:Addr) (xs:TV) (i:Nat) (v:V),x=.ref p/\y=.int i/\H p=some (.lst xs)/\xs[i]?=some v/\Q v H):=by
 intro J s σ H x y O iv Q I rx Y h;obtain⟨p,xs,i,v,rfl,rfl,hp,M,q⟩:=h;cases (show O=ax p from rx);obtain⟨t,rfl⟩:=Y;obtain⟨n6,r,pl,hz⟩:=I.list (.of hp);obtain⟨w,ew,j⟩:=r.get M;have hl:=r.length;have hn:=XY;have hi:i<xs.length:=(ae.mp M).1;exact wpAny_getItem_list pl.isList (dJ _) (by omega) (by simpa using ew) ⟨v,H,I,j,q⟩
inductive Zhv (K:aa) (vs:TV) (H:Hp) (Q:VK) (E03:XK):Prop
 |mk (a:Addr) (ps:TZ) (st:Nat):(vs=[.ref a,.int st])->(Wx K H a (ps.map V.int))->(1<=ps.length)->((ps.length-1)*st<=100000)->(ps.length<=1000)->(st<=1000)->(∀l H',Zv H H'->H' l=some (.lst ((stM ps st).map V.int))->Q (.ref l) H')->Zhv K vs H Q E03
theorem Znr (F:WB K "stretched" "stretched" Zo1 f fd)(T:Bl mg)(T2:Bl2 mg):Z4 P w K mg base Yg 1 f fd ["powers", "step"] (Zhv K):=by
 refine F.ok (FS (N:=["powers", "step", "wide", "k", "x"])) (λvs H Q E h=>?_) (λn9 A n6 s H vs Q E hr h=>?_)
 ·obtain⟨a,j,st,rfl,_⟩:=h;rfl
 ·obtain⟨a,j,st,rfl,hS,hl,hb,o0,o5,q⟩:=h
  refine⟨_,Zs (ZG 2 rfl (Zy W9 (ZV (pc Zx Zt)) (Zy Yt (Zy ZQ (Zy YB (cb (Ym K) T.len (pc (vn 0) Zt)) Zx) (vn 1)) Zx)))
   (Zs (ZN am rfl (Zaa K T2.enumerate (pc (vn 0) Zt)) (g2 K 3 4 rfl (gn 3) (gn 4))
    (Zw (Jp (vn 4) (Xd (vn 2) (Zy ZQ (vn 3) (vn 1)) YR))))
   (Zw (ZE (vn 2)))),?_⟩
  refine⟨JY,λl0 n0=>?_⟩;have s0:Zv H (upd H l0 (.lst [.int 0])):=Zv.upd n0;refine⟨_,rfl,a,_,rfl,.inl (s0.seq hS),_,_,rfl,rfl,_,rfl,_,_,rfl,rfl,.inl ⟨?_,?_⟩,_,_,rfl,rfl,l0,_,_,rfl,rfl,Zu,?_,?_,?_,λl nl=>?_⟩
  ·rw[Za];omega
  ·rw[Za];omega
  ·rw[Za];have:(0:Int)<=((j.length:Int)-1)*st:=Int.mul_nonneg (by omega) (by omega);omega
  ·rw[Za]
   have:((j.length:Int)-1)*st=(((j.length-1)*st:Nat):Int):=by rw[aI];congr 1;omega
   omega
  ·rw[Za]
   have:((j.length:Int)-1)*st=(((j.length-1)*st:Nat):Int):=by rw[aI];congr 1;omega
   rw[this];show 1*_<=sizeLine;have e:=JL;omega
  have eN:(((j.map V.int).length:Int)-1)*st+1=(((j.length-1)*st+1:Nat):Int):=by
   rw[Za,dR,aI];congr 2;omega
  rw[eN,Zj,Zh7];have n8:H l=none:=s0.free nl;have s1:=s0.trans (Zv.upd (o:=.lst ((aq ((j.length-1)*st+1) (0:Int)).map V.int)) nl);refine⟨_,rfl,a,rfl,.inl ⟨⟨_,s1.seq hS⟩,?_⟩⟩;refine Je Zac (λi O H'=>∃(J:TZ) (v3 v4:TU),O=[some (.ref a),some (.int st),some (.ref l),v3,v4]/\Zv H H'/\H' l=some (.lst (J.map V.int))/\J.length=(j.length-1)*st+1/\stN st (j.drop i) i J=stM j st)
   ⟨_,_,_,rfl,s1,Zu,cR ..,rfl⟩ (λi O H' h=>h.choose_spec.choose_spec.choose_spec.2.1.seq hS) ?_ ?_
  ·rintro i y O H' T' hy ⟨J,v3,v4,rfl,sm,Y,hlen,M⟩ nT
   obtain⟨hi,rfl⟩:=Vp hy;refine⟨T',_,rfl,.of Zu,rfl,_,_,rfl,_,_,rfl,rfl,_,rfl,_,rfl,_,rfl,_,rfl,_,_,rfl,rfl,.inl ⟨by omega,by omega⟩,l,_,_,i*st,rfl,rfl,Zv.upd nT _ _ Y,?_,?_⟩
   rotate_left
   ·have o6:i*st<J.length:=by
     rw[hlen];have:i*st<=(j.length-1)*st:=cY _ (by omega);omega
    refine⟨J.set (i*st) (co j i),_,_,rfl,(sm.trans (Zv.upd nT)).updr n8,?_,?_,?_⟩
    ·rw[Zu,Vk]
    ·rw[bg];exact hlen
    ·rw[<-M]
     have:j.drop i=co j i::j.drop (i+1):=by
      rw[bV hi];congr 1;have:=Wv hi;rw[Zf hi] at this;exact aB this
     rw[this,Num.stN]
   ·rw[Za]
    have:((i:Int)*(st:Int))=((i*st:Nat):Int):=by rw[aI]
    rw[this];refine Vu ?_;rw[hlen];have:i*st<=(j.length-1)*st:=cY _ (by omega);omega
  ·rintro O H' ⟨J,v3,v4,rfl,sm,Y,hlen,M⟩
   rw[Za,fO,Num.stN] at M;rw[M] at Y;exact⟨_,rfl,q l H' sm Y⟩
inductive Zhw (K:aa) (vs:TV) (H:Hp) (Q:VK) (E03:XK):Prop
 |mk (a b:Addr) (ps ds:TZ):(vs=[.ref a,.ref b])->(Wx K H a (ps.map V.int))->(Wx K H b (ds.map V.int))->(1<=ds.length)->(ds.length<=ps.length)->(ps.length<=100000)->(small ds=true)->(∀l H',Zv H H'->H' l=some (.lst ((Zfr ps ds).map V.int))->Q (.ref l) H')->Zhw K vs H Q E03
theorem Uq {j:TZ}{i:Nat}(q:i<j.length):j.drop i=co j i::j.drop (i+1):=by
 rw[bV q];congr 1;have:=Wv q;rw[Zf q] at this;exact aB this
theorem ZeF {a:TZ}{i:Nat}(h:i<a.length):(a.map V.int)[i]?=some (.int (co a i)):=by rw[Zc,Wv h];rfl
theorem Zns (F:WB K "quotient" "quotient" Zo2 f fd)(T:Bl mg)(T2:Bl2 mg):Z4 P w K mg base Yg 1 f fd ["powers", "divisor"] (Zhw K):=by
 refine F.ok (FS (N:=["powers", "divisor", "rest", "top", "found", "k", "j", "x"])) (λvs H Q E h=>?_) (λt8 A p8 s H vs Q E hr h=>?_)
 ·obtain⟨a,b,Y,ds,rfl,_⟩:=h;rfl
 ·obtain⟨a,b,Y,ds,rfl,hA,hB,t9,u5,u9,q0,q⟩:=h
  refine⟨_,Zs (ZG 2 rfl (ct WX T.list (pc (vn 0) Zt)))
   (Zs (ZG 3 rfl (Zy YB (cb (Ym K) T.len (pc (vn 1) Zt)) Zx))
   (Zs (ZG 4 rfl (Zy W9 (ZV (pc Zx Zt)) (Zy YB (cb (Ym K) T.len (pc (vn 2) Zt)) (vn 3))))
   (Zs (ZN am rfl (Zpi T.range (pc (Zy YB (cb (Ym K) T.len (pc (vn 4) Zt)) Zx) (pc (V0 J1 Zx) (pc (V0 J1 Zx) Zt)))) (gn 5)
    (Zs (Jp (ZD (WU K) (vn 2) (Zy Yt (vn 5) (vn 3)) (λ_ _=>rfl)) (Xd (vn 4) (vn 5) YR))
    (Zw (ZN am rfl (Zaa K T2.enumerate (pc (vn 1) Zt)) (g2 K 6 7 rfl (gn 6) (gn 7))
     (Zw (Uh (vn 2) (Zy Yt (vn 5) (vn 6)) Zb7 (Zy ZQ (ZD (WU K) (vn 4) (vn 5) (λ_ _=>rfl)) (vn 7)) Zi0 YR))))))
   (Zw (ZE (vn 4)))))),?_⟩
  refine⟨_,rfl,a,_,rfl,.inl hA,λr nr=>?_⟩;have s1:Zv H (upd H r (.lst (Y.map V.int))):=Zv.upd nr;refine⟨_,rfl,b,_,rfl,.inl (s1.seq hB),_,_,rfl,rfl,?_⟩;refine⟨JY,λl0 n0=>?_⟩;have s2:=s1.trans (Zv.upd (o:=.lst [.int 0]) n0);refine⟨_,rfl,r,_,rfl,.inl (.of (Zv.upd n0 _ _ Zu)),_,rfl,_,_,rfl,rfl,l0,_,_,rfl,rfl,Zu,?_,?_,?_,λl nl=>?_⟩
  ·rw[Za,Za];omega
  ·rw[Za,Za];omega
  ·rw[Za,Za]
   show 1*_<=sizeLine;have e:=JL;omega
  have eN:(((Y.map V.int).length:Int)-(((ds.map V.int).length:Int)-1)).toNat=Y.length-(ds.length-1):=by rw[Za,Za];omega
  rw[eN,Zh7];have r6:H r=none:=nr;have r8:H l=none:=s2.free nl;have o8:l≠r:=λz=>by
   rw[z,Zz (λz2=>by rw[z2,Zu] at n0;cases n0),Zu] at nl;cases nl
  have s3:=s2.trans (Zv.upd (o:=.lst ((aq (Y.length-(ds.length-1)) (0:Int)).map V.int)) nl);generalize hN:Y.length-(ds.length-1)=N at *;have r9:(upd (upd (upd H r (.lst (Y.map V.int))) l0 (.lst [.int 0])) l (.lst ((aq N (0:Int)).map V.int))) r=some (.lst (Y.map V.int)):=Zv.upd nl _ _ (Zv.upd n0 _ _ Zu);refine⟨_,rfl,l,_,rfl,.inl (.of Zu),_,_,rfl,rfl,_,rfl,_,rfl,_,_,rfl,⟨by rw[Za,Ze];omega,by rw[Za,Ze];omega,by decide,by decide⟩,?_⟩;rw[Za,Za,Ze];have e2:(((N:Int)-1)-(-1)).toNat=N:=by omega
  rw[e2];refine Zdp (λi o0 H'=>∃(J rest:TZ) (v5 v6 v7:TU),o0=[some (.ref a),some (.ref b),some (.ref r),some (.int ((ds.length:Int)-1)),some (.ref l),v5,v6,v7]/\Zv H H'/\H' l=some (.lst (J.map V.int))/\H' r=some (.lst (rest.map V.int))/\
    J.length=N/\rest.length=Y.length/\Zih ds (ds.length-1) (N-i) J rest=Zfr Y ds)
   ⟨_,_,_,_,_,rfl,s3,Zu,r9,cR ..,rfl,by rw[cB,Zfr,hN]⟩ ?_ ?_
  ·rintro i o0 H' hi ⟨J,rest,v5,v6,v7,rfl,sm,n8,o5,o9,p3,hq⟩
   generalize hk:N-1-i=k;have ek:(N:Int)-1-(i:Int)=(k:Int):=by omega
   rw[ek];have w8:k<N:=by omega
   have t5:N-i=k+1:=by omega
   rw[t5,Zih] at hq;have p4:k+(ds.length-1)<rest.length:=by omega
   refine⟨_,rfl,_,rfl,_,rfl,_,_,rfl,rfl,r,_,_,.int (co rest (k+(ds.length-1))),rfl,rfl,.of o5,?_,_,rfl,_,rfl,l,_,_,k,rfl,rfl,n8,?_,?_⟩
   ·have:(k:Int)+((ds.length:Int)-1)=((k+(ds.length-1):Nat):Int):=by omega
    rw[this];exact Zb6 p4
   ·rw[Za];exact Vu (by omega)
   generalize hc:co rest (k+(ds.length-1))=c at hq ⊢;rw[Vk];have sm1:Zv H (upd H' l (.lst ((J.set k c).map V.int))):=sm.updr r8;have t6:(upd H' l (.lst ((J.set k c).map V.int))) r=some (.lst (rest.map V.int)):=by rw[Zz (bf o8)];exact o5
   have t7:co (J.set k c) k=c:=by rw[Zcf,if_pos ⟨rfl,by omega⟩]
   refine⟨_,rfl,b,rfl,.inl ⟨⟨_,sm1.seq hB⟩,?_⟩⟩;refine Je Zac (λj M O=>∃(cur:TZ) (u6 u7:TU),M=[some (.ref a),some (.ref b),some (.ref r),some (.int ((ds.length:Int)-1)),some (.ref l),some (.int k),u6,u7]/\Zv H O/\O l=some (.lst ((J.set k c).map V.int))/\O r=some (.lst (cur.map V.int))/\
     cur.length=Y.length/\qIn (ds.drop j) (k+j) c cur=qIn ds k c rest)
    ⟨_,_,_,rfl,sm1,Zu,t6,p3,rfl⟩ (λj M O h=>h.choose_spec.choose_spec.choose_spec.2.1.seq hB) ?_ ?_
   ·rintro j y M O T' hy ⟨cur,u6,u7,rfl,sm2,n6,o6,o7,n9⟩ nT
    obtain⟨hj,rfl⟩:=Vp hy;have kj:k+j<cur.length:=by omega
    have p6:=Zv.upd (o:=.tup [.int j,.int (co ds j)]) nT _ _ o6;have p7:=Zv.upd (o:=.tup [.int j,.int (co ds j)]) nT _ _ n6;have cb:=Zah q0 j;refine⟨T',_,rfl,.of Zu,rfl,_,_,rfl,_,_,rfl,rfl,_,rfl,_,rfl,_,rfl,_,_,rfl,rfl,r,_,k+j,.int (co cur (k+j)),rfl,congrArg V.int (by omega),p6,ZeF kj,
     _,rfl,_,rfl,l,_,_,.int c,rfl,rfl,.of p7,?_,_,rfl,_,_,rfl,rfl,.inr ⟨by omega,by omega⟩,_,_,rfl,rfl,r,_,_,k+j,rfl,congrArg V.int (show (k:Int)+(j:Int)=((k+j:Nat):Int) by omega),p6,?_,?_⟩
    ·have:=Zb6 (a:=J.set k c) (i:=k) (by rw[bg];omega)
     rw[t7] at this;exact this
    ·rw[Za];exact Vu kj
    ·refine⟨cur.set (k+j) (co cur (k+j)-c*co ds j),_,_,rfl,(sm2.trans (Zv.upd nT)).updr r6,?_,?_,?_,?_⟩
     ·rw[Zz o8];exact p7
     ·rw[Zu,Vk]
     ·rw[bg];exact o7
     ·rw[<-n9,Uq hj,Num.qIn]
      rfl
   ·rintro M O ⟨cur,u6,u7,rfl,sm2,n6,o6,o7,n9⟩
    rw[Za,fO,Num.qIn] at n9;refine⟨J.set k c,cur,_,_,_,rfl,sm2,n6,o6,by rw[bg];exact o9,o7,?_⟩;rw[show N-(i+1)=k by omega,n9];exact hq
  ·rintro o0 H' ⟨J,rest,v5,v6,v7,rfl,sm,n8,o5,o9,p3,hq⟩
   rw[cC,Num.Zih] at hq;rw[hq] at n8;exact⟨_,rfl,q l H' sm n8⟩
end N46
namespace L2
open PySem PySem.Spec PyProof.Rows
def Zi4 (K:aa)(ta:TA):TI:=λσ H R=>ta σ H λvs M=>∃a q j,vs=[.ref a]/\(Wx K j a q\/XQ K j a q)/\Zv j M/\∀J O,ZjO J O q->(∀Y,Zv j Y->O Y)->R J M
theorem Zn4 {elts:List Expr}{x1}{pt:Pos}{l:Expr}{ta:TA}{p pos:Pos}(hm:X.mg "enumerate"=none)(ha:PA X [l] ta)(hg:Y8 X.env.scope "enumerate"=true:=by kernel_rfl)(hs:starEach [l] X.env=[(false,eval l X.env)]:=by rfl) :
  PI X (.Tuple elts x1 pt) (.Call (.Name "enumerate" p) [l] [] pos) (Zi4 X.K ta):=by
 intro M s σ H R I h;refine Call_ (Jt I (Xh hg) hm (show bootBuiltins "enumerate"=some (.type "enumerate") by kernel_rfl) (bA (Yz (ha pos M s σ H _ I h) λus s1 ⟨vs,H1,j,r1,q1⟩=>?_) hs rfl));obtain⟨a,xs,Hx,e,J,sm,q⟩:=q1;subst e;cases r1 with
 |cons r rr=>
  cases rr;cases (show _=ax a from r);have sz:∀b,b∈[s1.heap.objs.size+1,s1.heap.objs.size]->s1.heap.objs.size<=b:=λb hb=>by
   rcases aF.mp hb with rfl|hb
   ·exact g9 _
   ·have:b=s1.heap.objs.size:=by simpa using hb
    rw[this];exact Zq _
  rcases J with J|J
  ·obtain⟨O,rv,p,hz⟩:=j.list (sm.seq J)
   refine call_enumerate_list p.isList λg ge Y gs gk=>eC ge ?_;exact⟨_,[s1.heap.objs.size+1,s1.heap.objs.size],_,_,H1,rfl,j.kept (t':=s1.toks) gk,Uv a _ _ (bu (cM _)),⟨⟨_,ge⟩,Y⟩,λb hb=>j.fpOk (sz b hb) (j.hok.fresh (sz b hb)),q _ _ Zac λH' s'=>s'.seq J⟩
  ·obtain⟨O,rv,p,hz⟩:=j.tuple (sm.tup J)
   refine PyY.Zaq (show s1.heap.IsTuple a O.toArray from p) λg ge Y gs gk=>eC ge ?_;exact⟨_,[s1.heap.objs.size+1,s1.heap.objs.size],_,_,H1,rfl,j.kept (t':=s1.toks) gk,Uu a _ _ (bu (cM _)),⟨⟨_,ge⟩,Y⟩,λb hb=>j.fpOk (sz b hb) (j.hok.fresh (sz b hb)),q _ _ Zcb λH' s'=>s'.tup J⟩
theorem Zn5 (K:aa){elts:List Expr}{q}{pt:Pos}{l:Expr}{j:TA}{p pos:Pos}(J:X.mg "enumerate"=none)(M:PA X [l] j)(O:X.K=K:=by rfl)(Y:Y8 X.env.scope "enumerate"=true:=by kernel_rfl)(hs:starEach [l] X.env=[(false,eval l X.env)]:=by rfl) :
  PI X (.Tuple elts q pt) (.Call (.Name "enumerate" p) [l] [] pos) (Zi4 K j):=O▸Zn4 J M Y hs
end L2
namespace N46
open PySem L2 PySem.Spec PyProof.Rows
open Num
def lsN (n:Nat):TZ:=Js n (Yy n)
def Y5 (n:Nat):Nat:=(lsN n).length-1
def RN (n:Nat):T8:=RT n (Yy n)
def Vy (n:Nat):Bool:=Num.chk n (Yy n) && decide (((Num.Js n (Yy n)).length:Int)=ZbI n+1)
theorem Zp0:([1,2,3,4,5,6,7,8,9,10,11,12,13,14,15,16].all Vy)=true:=by decide +kernel
theorem ZpZ:([17,18,19,20,21,22,23,24].all Vy)=true:=by decide +kernel
theorem ZpY:([25,26,27,28,29,30].all Vy)=true:=by decide +kernel
theorem ZpX:([31,32,33,34,35].all Vy)=true:=by decide +kernel
theorem ZpW:([36,37,38,39,40].all Vy)=true:=by decide +kernel
theorem ZpV:([41,42,43,44].all Vy)=true:=by decide +kernel
theorem ZpU:([45,46,47].all Vy)=true:=by decide +kernel
theorem ZpT:([48,49,50].all Vy)=true:=by decide +kernel
theorem ZpS:([51,52,53].all Vy)=true:=by decide +kernel
theorem ZpR:([54,55,56].all Vy)=true:=by decide +kernel
theorem Zoj:([57,58].all Vy)=true:=by decide +kernel
theorem Zoi:([59,60].all Vy)=true:=by decide +kernel
theorem all2 {p:Nat->Bool}{a b:T7}(h:a.all p=true)(g:b.all p=true):(a++b).all p=true:=by rw[List.all_append,h,g];rfl
theorem Zoh {n:Nat}(j:1<=n)(q:n<=60):Vy n=true:=aD.mp (all2 Zp0 (all2 ZpZ (all2 ZpY (all2 ZpX (all2 ZpW (all2 ZpV (all2 ZpU (all2 ZpT (all2 ZpS (all2 ZpR (all2 Zoj Zoi))))))))))) n (by
 show n∈dA 1 60;exact List.mem_range'_1.mpr ⟨j,by omega⟩)
theorem V3 {n:Nat}(j:1<=n)(q:n<=60):Good n (Yy n) (lsN n) (Y5 n) (RN n)/\(Y5 n:Int)=ZbI n:=by
 have h:=Zoh j q;unfold Vy at h;rw[ag] at h;have g:=ZlA j h.1;refine⟨g,?_⟩;have e:=of_decide_eq_true h.2;have:=g.l2;unfold Y5 lsN;omega
inductive Zbq (vs:TV) (H:Hp) (Q:VK) (E03:XK):Prop
 |mk (n:Nat):(vs=[.int n])->(1<=n)->(n<=60)->(∀l H',Zv H H'->H' l=some (.lst ((lsN n).map V.int))->Q (.ref l) H')->Zbq vs H Q E03
inductive Zbo (K:aa) (vs:TV) (H:Hp) (Q:VK) (E03:XK):Prop
 |mk (n:Nat) (a:Addr) (ws:TZ):(vs=[.int n,.ref a])->(1<=n)->(n<=60)->((Wx K H a (ws.map V.int)\/XQ K H a (ws.map V.int)))->(ws.length<=100000)->(∀q H',Zv H H'->H' q=some (.tup ((Vo n (Y5 n) (RN n) ws).map V.int))->Q (.ref q) H')->Zbo K vs H Q E03
theorem Zjq (xs:TV){k:Nat}(h:k<=xs.length):X2 xs none (some (k:Int))=xs.take k:=by
 unfold X2;rw[HT.Xx];have e:HT.Ww xs.length 0 none=0:=rfl;rw[e,iL,cB,Nat.min_eq_left h]
theorem U3 {s:TZ×Int}{j:TZ}(h:Vr s j=true):small s.1=true/\2<=s.1.length/\s.1.length<=61/\1<=s.2/\s.2<=60:=by
 have g:Zli s=true:=by
  cases j with
  |nil=>exact h
  |cons p j=>
   rw[Num.Vr] at h;simp only[ag] at h;exact h.1.1.1
 unfold Zli at g;simp only[ag,decide_eq_true_eq] at g;exact⟨g.1.1.1.1,g.1.1.1.2,g.1.1.2,g.1.2,g.2⟩
theorem ZeA {s:TZ×Int}{p:Int}{j:TZ}(h:Vr s (p::j)=true):2<=p/\p<=60/\Vr (XX s p) j=true:=by
 rw[Num.Vr] at h;simp only[ag,decide_eq_true_eq] at h;exact⟨h.1.1.2,h.1.2,h.2⟩
theorem ZiA (F:WB K "least_sum" "least_sum" ZhT f fd)(GP:Fn P w K mg base Yg 1 "primes_of" ["n"] UE)(GS:Fn P w K mg base Yg 1 "stretched" ["powers", "step"] (Zhv K))(GQ:Fn P w K mg base Yg 1 "quotient" ["powers", "divisor"] (Zhw K)) :
  Z4 P w K mg base Yg 2 f fd ["n"] Zbq:=by
 refine F.ok (FS (N:=["n", "found", "built", "p"])) (λvs H Q E h=>?_) (λo0 A n9 s H vs Q E hr h=>?_)
 ·obtain⟨n,rfl,_⟩:=h;rfl
 ·obtain⟨n,rfl,n1,n60,q⟩:=h
  obtain⟨G,_⟩:=V3 n1 n60;refine⟨_,Zs (ZG 1 rfl (ZV (pc (V0 J1 Zx) (pc Zx Zt))))
   (Zs (ZG 2 rfl Zx)
   (Zs (ZN am rfl (itL K (Wn GP hr ZM (pc (vn 0) Zt))) (gn 3)
    (Zs (ZG 1 rfl (Wn GQ hr ZM (pc (Wn GS hr ZM (pc (vn 1) (pc (vn 3) Zt))) (pc (vn 1) Zt))))
    (Zw (ZG 2 rfl (Zy ZQ (vn 2) (vn 3))))))
   (Zw (ZE (Wn GS hr ZM (pc (vn 1) (pc (Zy WC (vn 0) (vn 2)) Zt))))))),?_⟩
  refine⟨_,rfl,JY,λl0 n0=>?_⟩;have s0:Zv H (upd H l0 (.lst [.int (-1),.int 1])):=Zv.upd n0;refine⟨_,rfl,n,rfl,n1,n60,λlp H1 s1 hp=>⟨lp,rfl,⟨_,.of hp⟩,?_⟩⟩;refine WV (YV (K:=K) (.of hp)) (λi M Y=>∃(st:TZ×Int) (O:Addr) (v3:TU),M=[some (.int n),some (.ref O),some (.int st.2),v3]/\Zv H1 Y/\Y O=some (.lst (st.1.map V.int))/\Vr st ((Yy n).drop i)=true/\
    ((Yy n).drop i).foldl XX st=(Yy n).foldl XX ([-1,1],1))
   ⟨([-1,1],1),l0,_,rfl,Zv.refl _,s1 _ _ Zu,G.ls,rfl⟩ (λi M Y h=>h.choose_spec.choose_spec.choose_spec.2.1) ?_ ?_
  ·rintro i x M Y hx ⟨st,O,v3,rfl,sm,hf,J,j⟩
   obtain⟨hi,rfl⟩:=Vp hx;rw[Uq hi] at J j;obtain⟨p2,o5,n6⟩:=ZeA J;obtain⟨c1,c2,c3,c4,c5⟩:=U3 J;generalize o6:co (Yy n) i=p at *;have ep:(p.toNat:Int)=p:=by omega
   have n8:(st.1.length-1)*p.toNat<=60*60:=gM (by omega) (by omega);refine⟨_,rfl,_,rfl,O,st.1,p.toNat,by rw[ep];rfl,.of hf,by omega,by omega,by omega,by omega,λl2 H2 s2 h2=>?_⟩;have o7:st.1.length-1<=(st.1.length-1)*p.toNat:=Nat.le_mul_of_pos_right _ (by omega);refine⟨_,rfl,l2,O,_,_,rfl,.of h2,.of (s2 _ _ hf),by omega,by rw[Ze5];omega,by rw[Ze5];omega,c1,λl3 H3 s3 h3=>?_⟩;refine⟨_,rfl,_,rfl,_,_,rfl,rfl,.inl ⟨by omega,by omega⟩,?_⟩;exact⟨XX st p,l3,_,rfl,(sm.trans s2).trans s3,h3,n6,j⟩
  ·rintro M Y ⟨st,O,v3,rfl,sm,hf,J,j⟩
   rw[Za,fO] at J j;obtain⟨c1,c2,c3,c4,c5⟩:=U3 J;have hd:0<=(n:Int) / st.2/\(n:Int) / st.2<=n:=⟨j6 (by omega) (by omega),Int.ediv_le_self _ (by omega)⟩;have n8:(st.1.length-1)*((n:Int) / st.2).toNat<=60*60:=gM (by omega) (by omega);refine⟨_,rfl,_,rfl,_,rfl,_,_,rfl,rfl,⟨by omega,by omega⟩,O,st.1,((n:Int) / st.2).toNat,by rw[Int.toNat_of_nonneg hd.1];rfl,.of hf,by omega,by omega,by omega,by omega,λl4 H4 s4 h4=>?_⟩;refine q l4 H4 (((s0.trans s1).trans sm).trans s4) ?_;rw[h4];unfold lsN Js;rw[<-j];rfl
theorem Ziy (F:WB K "number_of" "number_of" ZhR f fd)(T:Bl mg)(T2:Bl2 mg)(GL:Fn P w K mg base Yg 2 "least_sum" ["n"] Zbq):Z4 P w K mg base Yg 3 f fd ["n", "powers"] (Zbo K):=by
 refine F.ok (FS (N:=["n", "powers", "least", "top", "rest", "k", "x", "high", "j"])) (λvs H Q E h=>?_) (λx0 A r9 s H vs Q E hr h=>?_)
 ·obtain⟨n,a,ws,rfl,_⟩:=h;rfl
 ·obtain⟨n,a,ws,rfl,n1,n60,hS,x9,q⟩:=h
  obtain⟨G,_⟩:=V3 n1 n60;refine⟨_,Zs (ZG 2 rfl (Wn GL hr ZM (pc (vn 0) Zt)))
   (Zs (ZG 3 rfl (Zy YB (cb (Ym K) T.len (pc (vn 2) Zt)) Zx))
   (Zs (ZG 4 rfl (Zy W9 (ZV (pc Zx Zt)) (vn 0)))
   (Zs (ZN am rfl (Zn5 K T2.enumerate (pc (vn 1) Zt)) (g2 K 5 6 rfl (gn 5) (gn 6))
    (Zw (Uh (vn 4) (Zy ZY (vn 5) (vn 0)) Zb7 (vn 6) Ju YR)))
   (Zs (ZN am rfl (Zpi T.range (pc (Zy YB (vn 0) Zx) (pc (Zy YB (vn 3) Zx) (pc (V0 J1 Zx) Zt)))) (gn 5)
    (Zs (ZG 7 rfl (ZD (WU K) (vn 4) (vn 5) (λ_ _=>rfl)))
    (Zw (Y3 (ZL WI (vn 7) Zx (ZR _))
     (Zw (ZN am rfl (Zaa K T2.enumerate (pc (vn 2) Zt)) (g2 K 8 6 rfl (gn 8) (gn 6))
      (Zw (Uh (vn 4) (Zy Yt (Zy YB (vn 5) (vn 3)) (vn 8)) Zb7 (Zy ZQ (vn 7) (vn 6)) Zi0 YR)))) Ya))))
   (Zw (ZE (ct ZX T.tuple (pc (Vn Ze8 (vn 4) Uj (Ui (vn 3))) Zt)))))))),?_⟩
  refine⟨_,rfl,n,rfl,n1,n60,λll H1 s1 o6=>?_⟩;have o9:(((lsN n).map V.int).length:Int)-1=(Y5 n:Int):=by
   rw[Za,G.l2];omega
  have tn:=G.tn;have t1:=G.t1;refine⟨_,rfl,ll,_,rfl,.inl (.of o6),_,_,rfl,rfl,?_⟩;refine⟨JY,λl0 n0=>?_⟩;have s2:=s1.trans (Zv.upd (o:=.lst [.int 0]) n0);refine⟨_,rfl,l0,_,_,rfl,rfl,Zu,by omega,by omega,?_,λl nl=>?_⟩
  ·rw[Zj]
   show 1*n<=sizeLine;have e:=JL;omega
  rw[Zj,Zh7];have p3:H l=none:=s2.free nl;have p4:=Zv.upd (o:=.lst ((aq n (0:Int)).map V.int)) nl _ _ (Zv.upd (o:=.lst [.int 0]) n0 _ _ o6);have p6:l≠ll:=λz=>by
   rw[z,Zv.upd (o:=.lst [.int 0]) n0 _ _ o6] at nl;cases nl
  have s3:=s2.trans (Zv.upd (o:=.lst ((aq n (0:Int)).map V.int)) nl);refine⟨_,rfl,a,_,H,rfl,hS,s3,λJ At S t5=>?_⟩;refine Je S (λi n8 H'=>∃(M:TZ) (v5 v6:TU),n8=[some (.int n),some (.ref a),some (.ref ll),some (.int ((((lsN n).map V.int).length:Int)-1)),some (.ref l),v5,v6,none,none]/\Zv H H'/\H' ll=some (.lst ((lsN n).map V.int))/\H' l=some (.lst (M.map V.int))/\M.length=n/\
    Xi n (ws.drop i) i M=Wj n ws)
   ⟨_,_,_,rfl,s3,p4,Zu,cR ..,rfl⟩ (λi n8 H' h=>t5 _ h.choose_spec.choose_spec.choose_spec.2.1) ?_ ?_
  ·rintro i y n8 H' T' hy ⟨M,v5,v6,rfl,sm,o7,o8,n9,o0⟩ nT
   obtain⟨hi,rfl⟩:=Vp hy;have p7:i % n<M.length:=by rw[n9];exact bi _ n1
   have eM:V.int ((i:Int) % (n:Int))=V.int ((i % n:Nat):Int):=congrArg V.int (by omega);have p8:=Zv.upd (o:=.tup [.int i,.int (co ws i)]) nT _ _ o8;refine⟨T',_,rfl,.of Zu,rfl,_,_,rfl,_,_,rfl,rfl,_,rfl,_,rfl,_,rfl,_,_,rfl,rfl,(by show (0:Int)<n;omega),l,_,i % n,.int (co M (i % n)),rfl,eM,p8,ZeF p7,_,rfl,_,_,rfl,rfl,l,_,_,i % n,rfl,eM,p8,?_,?_⟩
   ·rw[Za];exact Vu p7
   ·refine⟨M.set (i % n) (co M (i % n)+co ws i),_,_,rfl,(sm.trans (Zv.upd nT)).updr p3,?_,?_,?_,?_⟩
    ·rw[Zz (bf p6)];exact Zv.upd nT _ _ o7
    ·rw[Zu,Vk]
    ·rw[bg];exact n9
    ·rw[<-o0,Uq hi,Num.Xi]
  ·rintro n8 H' ⟨M,v5,v6,rfl,sm,o7,o8,n9,o0⟩
   rw[Za,fO,Num.Xi] at o0;refine⟨_,rfl,_,_,rfl,rfl,_,rfl,_,_,rfl,rfl,_,rfl,_,_,rfl,⟨by omega,by omega,by omega,by omega⟩,?_⟩;rw[show (((n:Int)-1)-((((lsN n).map V.int).length:Int)-1-1)).toNat=n-Y5 n by omega];refine Zdp (λi n8 H'=>∃(M:TZ) (v5 v6 v7 v8:TU),n8=[some (.int n),some (.ref a),some (.ref ll),some (.int ((((lsN n).map V.int).length:Int)-1)),some (.ref l),v5,v6,v7,v8]/\Zv H H'/\H' ll=some (.lst ((lsN n).map V.int))/\H' l=some (.lst (M.map V.int))/\M.length=n/\
     (∀j,co (WJ M (RN n)) j=co (WJ (Wj n ws) (RN n)) j)/\∀t,n-i<=t->co M t=0)
    ⟨M,_,_,_,_,rfl,sm,o7,o8,n9,λj=>by rw[o0],λt ht=>WL (by omega)⟩ ?_ ?_
   ·rintro i q0 t6 hi ⟨c2,t7,t8,t9,u5,rfl,sm2,n6,O,Y,hP,hz⟩
    generalize hk:n-1-i=k;have ek:(n:Int)-1-(i:Int)=(k:Int):=by omega
    rw[ek];have u9:k<n:=by omega
    have w8:Y5 n<=k:=by omega
    refine⟨_,rfl,_,rfl,l,_,_,.int (co c2 k),rfl,rfl,.of O,Zb6 (by omega),?_⟩;refine⟨_,rfl,rfl,_,rfl,Ye (λhh=>?_) (λhh=>?_)⟩
    ·refine⟨_,rfl,ll,rfl,.inl ⟨⟨_,.of n6⟩,?_⟩⟩
     obtain⟨r1,r2,r3,r4⟩:=Zh8 G Y u9 w8;refine Je Zac (λj o5 H3=>∃(c3:TZ) (u6 u8:TU),o5=[some (.int n),some (.ref a),some (.ref ll),some (.int ((((lsN n).map V.int).length:Int)-1)),some (.ref l),some (.int k),u6,some (.int (co c2 k)),u8]/\Zv H H3/\H3 ll=some (.lst ((lsN n).map V.int))/\H3 l=some (.lst (c3.map V.int))/\c3.length=n/\
       qIn ((lsN n).drop j) (k-Y5 n+j) (co c2 k) c3=qIn (lsN n) (k-Y5 n) (co c2 k) c2)
      ⟨c2,_,_,rfl,sm2,n6,O,Y,rfl⟩ (λj o5 H3 h=>.of h.choose_spec.choose_spec.choose_spec.2.2.1) ?_ ?_
     ·rintro j y o5 H3 T' hy ⟨c3,u6,u8,rfl,sm3,g1,g2,g3,g4⟩ nT
      obtain⟨hj,rfl⟩:=Vp hy;have y4:=G.l2;have kj:k-Y5 n+j<c3.length:=by omega
      have eI:V.int ((k:Int)-((((lsN n).map V.int).length:Int)-1)+(j:Int))=V.int ((k-Y5 n+j:Nat):Int):=congrArg V.int (by omega);have r6:=Zv.upd (o:=.tup [.int j,.int (co (lsN n) j)]) nT _ _ g2;have cb:=Zah G.sm j;refine⟨T',_,rfl,.of Zu,rfl,_,_,rfl,_,_,rfl,rfl,_,rfl,_,rfl,_,rfl,_,_,rfl,rfl,_,rfl,_,_,rfl,rfl,l,_,k-Y5 n+j,.int (co c3 (k-Y5 n+j)),rfl,eI,r6,ZeF kj,_,rfl,_,rfl,_,_,rfl,rfl,.inr ⟨by omega,by omega⟩,_,_,rfl,rfl,l,_,_,k-Y5 n+j,rfl,eI,r6,?_,?_⟩
      ·rw[Za];exact Vu kj
      ·refine⟨c3.set (k-Y5 n+j) (co c3 (k-Y5 n+j)-co c2 k*co (lsN n) j),_,_,rfl,(sm3.trans (Zv.upd nT)).updr p3,?_,?_,?_,?_⟩
       ·rw[Zz (bf p6)];exact Zv.upd nT _ _ g1
       ·rw[Zu,Vk]
       ·rw[bg];exact g3
       ·rw[<-g4,Uq hj,Num.qIn]
        rfl
     ·rintro o5 H3 ⟨c3,u6,u8,rfl,sm3,g1,g2,g3,g4⟩
      rw[Za,fO,Num.qIn] at g4;refine⟨c3,_,_,_,_,rfl,sm3,g1,g2,g3,λj=>?_,λt ht=>?_⟩
      ·rw[g4,r2 j];exact hP j
      ·rw[g4]
       by_cases e:t=k
       ·rw[e];exact r3
       ·rw[r4 t (by omega)];exact hz t (by omega)
    ·have h0:co c2 k=0:=by
      apply aj;intro w9;apply hh;rw[Yu];simp[w9]
     refine⟨c2,_,_,_,_,rfl,sm2,n6,O,Y,hP,λt ht=>?_⟩;by_cases e:t=k
     ·rw[e];exact h0
     ·exact hz t (by omega)
   ·rintro q0 t6 ⟨c2,t7,t8,t9,u5,rfl,sm2,n6,O,Y,hP,hz⟩
    refine⟨_,rfl,_,rfl,_,rfl,l,_,rfl,.of O,λp1 h1=>⟨p1,_,rfl,.inl ⟨.of Zu,λqq r8=>?_⟩⟩⟩;rw[o9,Zjq _ (by rw[Za];omega),<-kC] at r8 ⊢;refine q qq _ ((sm2.trans (Zv.upd h1)).trans (Zv.upd r8)) ?_;rw[Zu,Zks G Y (λt ht=>hz t (by omega)) hP ws rfl]
end N46
namespace C46
open PySem L2 PySem.Spec PyProof.Rows
open Tb Pm
noncomputable abbrev ZhS:Stmt:=tq 29
def bkM (p x:Nat):Nat:=((ac p).find? λy=>y*x % p == 1).getD 0
theorem Zp3 {p x y j:Nat}(M:y<p)(q:j<p)(h:y*x % p=1)(h':j*x % p=1):y=j:=by
 have J:y*(j*x) % p=y % p:=by rw[<-Nat.mul_mod_mod,h',iR]
 have O:j*(y*x) % p=j % p:=by rw[<-Nat.mul_mod_mod,h,iR]
 have Y:y*(j*x)=j*(y*x):=by rw[<-kK,fw y j,kK]
 rw[Y,O,aT M,aT q] at J;exact J.symm
theorem ZmD {p x y:Nat}(j:y<p)(h:y*x % p=1):bkM p x=y:=by
 unfold bkM;cases q:(ac p).find? λy=>y*x % p == 1 with
 |none=>
  have:=jc.mp q y (af.mpr j);rw[h] at this;exact absurd rfl this
 |some z=>
  have J:=af.mp (gP q);have M:z*x % p=1:=eq_of_beq (jV (p:=λy=>y*x % p == 1) q);exact Zp3 J j M h
def ofF (n r p:Nat)(q:Int)(z:Nat)(o:Nat->Int)(j:Nat):Int:=if j % (n / r)=0 then q*(bkM p r:Int)*Wo r (λk=>o k*((z ^ (j*k % n) % p:Nat):Int)) % (p:Int) else 0
def ZiG (n:Nat)(v:Nat->Int):TZ:=Num.Vo n (N46.Y5 n) (N46.RN n) ((ac n).map v)
inductive Zbp (vs:TV) (H:Hp) (Q:VK) (E03:XK):Prop
 |mk (wa oa ra:Addr) (r m n p z:Nat) (share:Int) (wk one:Nat->Int):(vs=[.ref wa,.ref oa,.int share,.ref ra,.int p])->(H wa=some (.lst (ZI r wk)))->(H oa=some (.lst (ZI m one)))->(H ra=some (.lst (Jo p z n)))->(1<=n)->(n<=60)->(m<=60)->(1<=r)->(r<=n)->(r<p)->(p<=100000)->(PrM p)->(ZjI m p one)->((∀k,k<r->∃c:Nat,c<m/\wk k=(c:Int)))->(-(2 ^ 40)<share)->(share<2 ^ 40)->(∀q H',Zv H H'->H' q=some (.tup ((ZiG n (ofF n r p share z λk=>one (wk k).toNat)).map V.int))->Q (.ref q) H')->Zbp vs H Q E03
theorem ZpK {J:It}{q:Hp->Prop}{xs:TV}(S:ZjO J q xs):ZeQ J q (((ac xs.length).map nV).zip xs) where
 go:=λi H h j=>S.go i H h (by rw[eX,Za,Zg,lI] at j;exact j)
 yld:=λi H x M h O=>by
  obtain⟨T,y,rfl,Y,rfl,e⟩:=S.yld i H x M h O;have j:=(ae.mp e).1;refine⟨T,.int i,y,rfl,Y,rfl,?_⟩;rw[gQ,Zc,ah j];exact⟨rfl,e⟩
 stop:=λi H h j=>S.stop i H h (by rw[eX,Za,Zg,lI] at j;exact j)
theorem Zkw {p z n k:Nat}(h:k<n):X8 (Jo p z n) (k:Int)=some (V.int ((z ^ k % p:Nat):Int)):=by
 refine ZH ?_;unfold Jo;rw[Zc,ah h];rfl
theorem ZeY {n j:Nat}(v:Nat->Int)(x:Int)(h:j<n):(ZI n v).set j (V.int x)=ZI n λi=>if i=j then x else v i:=by
 refine a7 λi=>?_;by_cases q:i<n
 ·rw[Yn _ q,jr]
  by_cases e:j=i
  ·subst e
   rw[if_pos rfl,if_pos (by rw[Z1];exact q),if_pos rfl]
  ·rw[if_neg e,Yn _ q,if_neg (λz=>e z.symm)]
 ·rw[ai (by rw[bg,Z1];omega),ai (by rw[Z1];omega)]
theorem JM (n:Nat):(aq n [V.int 0]).flatten=ZI n λ_=>0:=by
 have:∀k a,(aq k [V.int 0]).flatten=(dA a k).map λ_=>V.int 0:=λk=>by
  induction k with
  |zero=>intro a;rfl
  |succ k j=>intro a;rw[ba,bZ,j (a+1),eE,aG];rfl
 unfold ZI;rw[this n 0,<-eh]
theorem Ziz (F:WB K "number_at" "number_at" ZhS f fd)(T:Bl mg)(T2:ZeV mg)(T5:BlT mg)(GB:Fn P w K mg base Yg 1 "back_by" ["p", "x"] J6)(GN:Fn P w K mg base Yg 3 "number_of" ["n", "powers"] (N46.Zbo K)):Z4 P w K mg base Yg 4 f fd ["walk", "one", "share", "roots", "p"] Zbp:=by
 refine F.ok (FS (N:=["walk", "one", "share", "roots", "p", "n", "step", "part", "often", "j"])) (λvs H Q E h=>?_) (λp4 A o5 s H vs Q E hr h=>?_)
 ·obtain⟨M,oa,ra,r,m,n,p,z,share,wk,one,rfl,_⟩:=h;rfl
 ·obtain⟨M,oa,ra,r,m,n,p,z,share,wk,one,rfl,hW,hO,hR,n1,n60,m60,r1,rn,rp,pl,pr,vo,o6,p6,p7,q⟩:=h
  refine⟨_,Zs (ZG 5 rfl (cb (Ym K) T.len (pc (vn 3) Zt)))
   (Zs (ZG 6 rfl (Zy WC (vn 5) (cb (Ym K) T.len (pc (vn 0) Zt))))
   (Zs (ZG 7 rfl (Zy ZQ (vn 2) (Wn GB hr ZM (pc (vn 4) (pc (cb (Ym K) T.len (pc (vn 0) Zt)) Zt)))))
   (Zs (ZG 8 rfl (Zy W9 (ZV (pc Zx Zt)) (vn 5)))
   (Zs (ZN am rfl (Zq1 T.range (pc Zx (pc (vn 5) (pc (vn 6) Zt)))) (gnf 9 rfl)
    (Zw (Jp (Zy ZY (Zy ZQ (vn 7) (cb (sumK K rfl) T5.sum (pc (cmp ["k", "c"] [1,3,9,5] ["k", "c", "one", "roots", "j", "n"] rfl (Zaa K T2.enumerate (pc (vn 0) Zt)) (λ_ _ _ _ _=>g2 K 0 1 rfl (gn 0) (gn 1)) (λ_ _ _ _ _=>ZP)
     (λ_ _ _ _ _=>Zy ZQ (ZD (WU K) (vn 2) (vn 1) (λ_ _=>rfl)) (ZD (WU K) (vn 3) (Zy ZY (Zy ZQ (vn 4) (vn 0)) (vn 5)) (λ_ _=>rfl)))) Zt))) (vn 4)) (Xd (vn 8) (vn 9) YR))))
   (Zw (ZE (Wn GN hr ZM (pc (vn 5) (pc (vn 8) Zt))))))))),?_⟩
  have p2:=pr.p2;have sz:=JL;have o7:1<=n / r:=Nat.div_pos rn (by omega);have p8:n / r<=n:=gu _ _;have q0:((n:Nat):Int) / ((r:Nat):Int)=((n / r:Nat):Int):=rfl;refine⟨_,rfl,ra,_,rfl,.inl (.of hR),?_⟩;rw[Ug];refine⟨_,rfl,_,rfl,M,_,rfl,.inl (.of hW),?_⟩;rw[Z1];refine⟨_,_,rfl,rfl,⟨by omega,by omega⟩,_,rfl,_,rfl,_,rfl,M,_,rfl,.inl (.of hW),?_⟩;rw[Z1];obtain⟨y0,y1,y2,y3⟩:=pr.iv r (by omega) rp;refine⟨p,_,rfl,p2,pl,⟨y0,y1,y2,by rw[<-aI,<-a9,y3];rfl⟩,λy a1 a2 a3=>?_⟩;have hy:y*r % p=1:=by
   have:((y*r % p:Nat):Int)=1:=by rw[a9,aI];exact a3
   omega
  have eb:=ZmD a2 hy;refine⟨_,_,rfl,rfl,.inl ⟨by omega,by omega⟩,?_⟩;refine⟨JY,λl0 o8=>⟨_,rfl,l0,_,_,rfl,rfl,Zu,by omega,by omega,by show 1*((n:Int)).toNat<=sizeLine;omega,λL nL=>?_⟩⟩;rw[Zj,JM];have s1:=Zv.upd (H:=H) (o:=.lst [.int 0]) o8;have o9:H L=none:=s1.free nL;have s2:=s1.trans (Zv.upd (o:=.lst (ZI n λ_=>0)) nL);have h2:upd (upd H l0 (.lst [.int 0])) L (.lst (ZI n λ_=>0)) L=some (.lst (ZI n λ_=>0)):=Zu;generalize upd (upd H l0 (.lst [.int 0])) L (.lst (ZI n λ_=>0))=H2 at s2 h2 ⊢;refine⟨_,rfl,_,rfl,n,n / r,rfl,o7,by omega,by omega,?_⟩;refine Zjb (λi n6 H'=>∃v9:TU,n6=[some (.ref M),some (.ref oa),some (.int share),some (.ref ra),some (.int (p:Nat)),some (.int (n:Nat)),some (.int ((n / r:Nat):Int)),some (.int (share*(y:Int))),some (.ref L),v9]/\Zv H H'/\H' L=some (.lst (ZI n λj=>if j<i*(n / r) then ofF n r p share z (λk=>one (wk k).toNat) j else 0)))
   ⟨_,rfl,s2,by rw[h2];congr 2;exact Wy λj _=>by rw[if_neg (by omega)]⟩ ?_ ?_
  ·rintro i n6 H3 hi ⟨v9,rfl,s3,h3⟩
   have hj:i*(n / r)<n:=by
    unfold W5 at hi;have:(i+1)*(n / r)<=n+n / r-1:=aW (cY _ hi) (Nat.div_mul_le_self _ _);rw[cq] at this;omega
   have ej:(0:Int)+(i:Int)*((n / r:Nat):Int)=((i*(n / r):Nat):Int):=by rw[aI];omega
   rw[ej];generalize O:i*(n / r)=j at hj;have n8:=s3 _ _ hW;refine⟨_,rfl,_,rfl,M,rfl,.inl ⟨⟨_,.of n8⟩,?_⟩⟩;have zi:ZeQ (ZlY K M) (λH=>Wx K H M (ZI r wk)) ((ZI r λk=>(k:Int)).zip (ZI r wk)):=by
    have:=ZpK (Zac (K:=K) (a:=M) (xs:=ZI r wk));rw[Z1] at this;exact this
   refine XE zi (λH' sm=>.of (sm _ _ n8)) (Zv.refl H3) [some (.ref oa),some (.ref ra),some (.int (j:Nat)),some (.int (n:Nat))] rfl (λk c=>one c.toNat*((z ^ (j*k.toNat % n) % p:Nat):Int)) (by omega) (λk H4 hk s4 R g=>?_) (λD H4 nD s4 hD=>?_)
   ·obtain⟨c,hc,ec⟩:=o6 k hk
    have J:=s3.trans s4;have g1:=vo.ge c hc;have r6:=vo.lt c hc;rw[ec] at g ⊢;rw[Zj,Zj] at g;have n9:((j:Nat):Int)*((k:Nat):Int) % ((n:Nat):Int)=((j*k % n:Nat):Int):=by rw[a9,aI]
    have p3:X8 (Jo p z n) (((j:Nat):Int)*((k:Nat):Int) % ((n:Nat):Int))=some (V.int ((z ^ (j*k % n) % p:Nat):Int)):=by
     rw[n9];exact Zkw (bi _ (by omega))
    refine⟨_,rfl,_,rfl,oa,_,_,_,rfl,rfl,.of (J _ _ hO),ZH (Yn one hc),_,rfl,_,rfl,_,rfl,_,_,rfl,rfl,.inl ⟨by omega,by omega⟩,_,rfl,_,_,rfl,rfl,(by show (0:Int)<(n:Int);omega),ra,_,_,_,rfl,rfl,.of (J _ _ hR),p3,_,_,rfl,rfl,.inl ⟨by omega,by omega⟩,g⟩
   ·rw[Jv] at hD
    have yb:(y:Int)<100000:=by omega
    have mb:-(2 ^ 64)<share*(y:Int)/\share*(y:Int)<2 ^ 64:=by
     have h1:(y:Int) ≥ 1:=by omega
     constructor
     ·have:share*(y:Int) ≥ -(2 ^ 40)*100000:=by
       have a:share*(y:Int) ≥ (-(2 ^ 40))*(y:Int):=dk (by omega) (by omega);have b:(-(2 ^ 40):Int)*(y:Int) ≥ -(2 ^ 40)*100000:=by omega
       omega
      omega
     ·have:share*(y:Int)<=(2 ^ 40)*(y:Int):=dk (by omega) (by omega)
      omega
    have J:=s3.trans s4;refine⟨D,_,rfl,.of hD,_,_,rfl,rfl,.inl mb,_,rfl,_,_,rfl,rfl,(by show (0:Int)<(p:Int);omega),_,rfl,_,rfl,L,_,_,j,rfl,rfl,s4 _ _ h3,Jc (by rw[Z1];exact hj),?_⟩;refine⟨_,rfl,J.updr o9,?_⟩;rw[Zu,ZeY _ _ hj];congr 2;refine Wy λa ha=>?_;have Y:j % (n / r)=0:=by rw[<-O];exact Nat.mul_mod_left _ _
    by_cases e1:a=j
    ·rw[if_pos e1,if_pos (by rw[e1,<-O,cq];omega),e1]
     unfold ofF;rw[if_pos Y,eb];rfl
    ·rw[if_neg e1]
     by_cases e2:a<j
     ·rw[if_pos (by rw[O];exact e2),if_pos (by rw[cq,O];omega)]
     ·rw[if_neg (by rw[O];exact e2)]
      by_cases e3:a<(i+1)*(n / r)
      ·rw[if_pos e3]
       unfold ofF;rw[if_neg];intro hz;rw[cq,O] at e3;obtain⟨q1,o0⟩:=bj hz;obtain⟨q2,r8⟩:=bj Y;have:i<q1:=by
        apply aj;intro zz;have h4:(n / r)*q1<=(n / r)*i:=gA _ (by omega);rw[<-o0,fw,O] at h4;omega
       have h5:(n / r)*(i+1)<=(n / r)*q1:=gA _ (by omega);rw[<-o0,jT,iR,fw,O] at h5;omega
      ·rw[if_neg e3]
  ·rintro n6 H3 ⟨v9,rfl,s3,h3⟩
   have big:n<=W5 n (n / r)*(n / r):=by
    unfold W5;have h1:=Nat.div_add_mod (n+n / r-1) (n / r);have h2:=bi (n+n / r-1) (show 0<n / r by omega);rw[fw] at h1;omega
   have e3:(ZI n λj=>if j<W5 n (n / r)*(n / r) then ofF n r p share z (λk=>one (wk k).toNat) j else 0)=ZI n (ofF n r p share z λk=>one (wk k).toNat):=Wy λj hj=>if_pos (by omega)
   rw[e3,Jv] at h3;refine⟨_,rfl,_,rfl,n,L,_,rfl,n1,n60,.inl (.of h3),by rw[Za,Zg];omega,λq' H4 s4 h4=>?_⟩;exact q q' H4 (s3.trans s4) h4
noncomputable abbrev ZhN:Stmt:=tq 19
def Xv (t:T9)(n p:Nat)(e:Nat->Nat->Nat)(z:Nat)(j:Nat->Nat)(s x:Nat):TZ:=ZiG n (ofF n (rdT t x) p ((t.length:Int)*(bkM p (j s):Int)) z λk=>(e s (it t x k):Int))
def Jn (t:T9)(n p m:Nat)(e:Nat->Nat->Nat)(z:Nat)(j:Nat->Nat)(s:Nat):T8:=(ac m).map λc=>Xv t n p e z j s (ZK t c)
def ZeR (H:Hp)(r:Addr)(yss:X0):Prop:=∃cs:TW,H r=some (.tup (cs.map V.ref))/\cs.length=yss.length/\∀(i:Nat) c,cs[i]?=some c->∃j,yss[i]?=some j/\RowT H c j
inductive Zbj (vs:TV) (H:Hp) (Q:VK) (E03:XK):Prop
 |mk (g:Addr) (t:T9) (n p m:Nat) (e ω φ:Nat->Nat->Nat) (z:Nat) (dg:Nat->Nat):(vs=[.ref g])->(GT H g t)->(PW t)->(TD t n p m e ω φ z dg)->(∀r yss H',Zv H H'->ZeR H' r yss->yss.Perm ((ac m).map (Jn t n p m e z dg))->yss.Pairwise (λa b=>PyZ.Vq b a=false)->Q (.ref r) H')->Zbj vs H Q E03
theorem _root_.L2.RowT.mono {H j:Hp}{a:Addr}{ys:T8}(h:RowT H a ys)(s:Zv H j):RowT j a ys:=by
 obtain⟨q,J,M,O⟩:=h;refine⟨q,s _ _ J,M,λi c Y=>?_⟩;obtain⟨y,g1,g2⟩:=O i c Y;exact⟨y,g1,s _ _ g2⟩
section
variable {dg:Nat->Nat}
theorem Zh9 {a r:Nat}(R:Rd t a r){x:Nat}(h:it t a x=0):x % r=0:=by
 rw[U7 R] at h;apply aj;intro z;exact R.nz (x % r) (by omega) (bi _ R.r1) h
theorem Zn6 {a r:Nat}(R:Rd t a r){x:Nat}(h:x % r=0):it t a x=0:=by
 rw[U7 R,h];rfl
theorem _root_.Tb.TD.round (D:TD t n p m e ω φ z dg){rs:Nat->Nat}(R:∀a,a<t.length->Rd t a (rs a)){f:Nat}(L:Lc rs t.length f):f=n:=by
 have q:n % f=0:=L.mn n λa j=>Zh9 (R a j) (D.all a j);have J:f % n=0:=D.mn f λa j=>Zn6 (R a j) (L.dv a j);have M:=L.f1;have O:=D.n1;have Y:=ik (by omega) (bj q);have d2:=ik (by omega) (bj J);omega
theorem _root_.Tb.TD.rd (D:TD t n p m e ω φ z dg){a r:Nat}(j:a<t.length)(R:Rd t a r):r<=n/\r<p:=by
 have h:=Zh9 R (D.all a j);have M:=D.n1;have q:=ik (by omega) (bj h);obtain⟨J,O,_⟩:=D.fit.st;exact⟨q,by omega⟩
end
theorem Ziu (F:WB K "table_of" "table_of" ZhN f fd)(T:Bl mg)(T2:ZeV mg)(GR:Fn P w K mg base Yg 2 "full_round" ["group"] Zd7)(GF:Fn P w K mg base Yg 1 "fit_prime" ["n", "count"] ZhC)(u9:Fn P w K mg base Yg 1 "root_powers" ["n", "p"] Zbl)(GW:Fn P w K mg base Yg 6 "power_walks" ["group"] Zbg)(GC:Fn P w K mg base Yg 6 "counts_of" ["group"] UH)(GA:Fn P w K mg base Yg 4 "taken_apart" ["counts", "p"] Zbs)(GB:Fn P w K mg base Yg 1 "back_by" ["p", "x"] J6)(G1:Fn P w K mg base Yg 1 "first_of" ["one", "count", "p"] (Zbr K))(GN:Fn P w K mg base Yg 4 "number_at" ["walk", "one", "share", "roots", "p"] Zbp):Z4 P w K mg base Yg 7 f fd ["group"] Zbj:=by
 refine F.ok (FS (N:=["group", "n", "p", "roots", "walks", "rows", "one", "share"])) (λvs H Q E h=>?_) (λcdv A w8 s H vs Q E hr h=>?_)
 ·obtain⟨g,t,n,p,m,e,ω,φ,z,dg,rfl,_⟩:=h;rfl
 ·obtain⟨g,t,n,p,m,e,ω,φ,z,dg,rfl,G,Pt,D,q⟩:=h
  refine⟨_,Zs (ZG 1 rfl (Wn GR hr ZM (pc (vn 0) Zt)))
   (Zs (ZG 2 rfl (Wn GF hr ZM (pc (vn 1) (pc (cb (Ym K) T.len (pc (vn 0) Zt)) Zt))))
   (Zs (ZG 3 rfl (Wn u9 hr ZM (pc (vn 1) (pc (vn 2) Zt))))
   (Zs (ZG 4 rfl (Wn GW hr ZM (pc (vn 0) Zt)))
   (Zs (ZG 5 rfl (ZV Zt))
   (Zs (ZN am rfl (itL K (Wn GA hr ZM (pc (Wn GC hr ZM (pc (vn 0) Zt)) (pc (vn 2) Zt)))) (gnf 6 rfl)
    (Zs (ZG 7 rfl (Zy ZQ (cb (Ym K) T.len (pc (vn 0) Zt)) (Wn GB hr ZM (pc (vn 2) (pc (Wn G1 hr ZM (pc (vn 6) (pc (cb (Ym K) T.len (pc (vn 0) Zt)) (pc (vn 2) Zt)))) Zt)))))
    (Zw (YJ (WH aJ aR aU Yb (vn 5)
     (pc (ct ZX T.tuple (pc (cmp ["walk"] [6,7,3,2] ["walk", "one", "share", "roots", "p"] rfl (itL K (vn 4)) (λ_ _ _ _ _=>gn 0) (λ_ _ _ _ _=>ZP)
      (λ_ _ _ _ _=>Wn GN hr ZM (pc (vn 0) (pc (vn 1) (pc (vn 2) (pc (vn 3) (pc (vn 4) Zt))))))) Zt)) Zt))))))
   (Zw (ZE (ct ZX T.tuple (pc (cb (Zap hr.units) T2.sorted (pc (vn 5) Zt)) Zt))))))))),?_⟩
  have sz:=JL;have n60:=D.n60;have N60:=Pt.n60;have N1:=Pt.n1;have C:=D.cd;have p2:=C.pr.p2;have pl:=D.fit.lt;have m1:=C.m1;have m60:=ZlN C Pt;have mc:=C.mc;have U:=YU Pt;obtain⟨gs,u1,u2,_⟩:=id G;have el:(gs.map V.ref).length=t.length:=by rw[Za,u2]
  have p7:∀a,a<t.length->Rd t a (rdT t a):=λa ha=>by
   obtain⟨r,R⟩:=Pt.rd a ha;rw[UR R];exact R
  refine⟨_,rfl,g,t,rdT t,rfl,G,Pt,p7,λfr H1 s1 L=>?_⟩;have w9:=D.round p7 L;subst w9;refine⟨_,rfl,_,rfl,g,_,rfl,.inr (.of (s1 _ _ u1)),fr,t.length,p,by rw[el];rfl,D.n1,n60,by omega,D.fit,λH2 s2=>?_⟩;refine⟨_,rfl,_,rfl,fr,p,z,rfl,D.n1,n60,p2,pl,D.rt,λRo H3 nRo s3 x0=>?_⟩;have p8:=(s1.trans s2).trans s3;refine⟨_,rfl,g,t,rfl,G.mono p8,Pt,λWk ws H4 s4 W4=>?_⟩;rw[<-mc] at W4;refine⟨JY,λL nL=>?_⟩;have s5:=Zv.upd (H:=H4) (o:=.lst []) nL;have h5:upd H4 L (.lst []) L=some (.lst ([]:TV)):=Zu;generalize upd H4 L (.lst [])=H5 at s5 h5 ⊢;have r9:=(p8.trans s4).trans s5;have x9:H L=none:=(p8.trans s4).free nL;refine⟨_,rfl,g,t,rfl,G.mono r9,Pt,λCn H6 s6 C6=>?_⟩;rw[<-mc] at C6;refine⟨_,rfl,Cn,t,p,m,e,ω,φ,rfl,C,Pt,pl,C6,λSm cs ss H7 s7 S7=>?_⟩;have q0:=(r9.trans s6).trans s7;have h7:=(s6.trans s7) _ _ h5;obtain⟨S1,S2,S3,S4⟩:=S7;have o7:ss.length=m:=by rw[S3.length_eq,Zg]
  have n8:∀{b:Addr}{xs:TV},xs≠[]->H7 b=some (.lst xs)->b≠L:=λ{b xs} hx hb=>ZbO hb h7 hx;have neT:∀{b:Addr}{xs:TV},H7 b=some (.tup xs)->b≠L:=λ{b xs} hb z=>by rw[z,h7] at hb;cases hb
  have t5:cs.map V.ref≠[]:=λz=>by
   have:=congrArg eB z;rw[Za,S2,o7] at this;simp at this;omega
  have t6:∀{k:Nat}{v:Nat->Int},1<=k->ZI k v≠[]:=λ{k v} hk z=>by
   have:=congrArg eB z;rw[Z1] at this;simp at this;omega
  have y4:=VQ S1 (n8 t5 S1);refine⟨Sm,rfl,⟨_,.of S1⟩,?_⟩;have W7:H7 Wk=some (.lst (ws.map V.ref)):=(s5.trans (s6.trans s7)) _ _ W4.at';have R7:H7 Ro=some (.lst (Jo p z fr)):=(s4.trans (s5.trans (s6.trans s7))) _ _ x0;have n9:(ws.map V.ref).length=m:=by rw[Za,W4.len]
  refine WV (H0:=but H7 L) (YV (K:=K) (.of y4)) (λi o8 H'=>∃(rs:TW) (v6 v7:TU),o8=[some (.ref g),some (.int (fr:Nat)),some (.int (p:Nat)),some (.ref Ro),some (.ref Wk),some (.ref L),v6,v7]/\Zv (but H7 L) H'/\H' L=some (.lst (rs.map V.ref))/\rs.length=i/\∀(j:Nat) c,rs[j]?=some c->RowT H' c (Jn t fr p m e z dg (ss.getD j 0)))
   ⟨[],_,_,rfl,λb o hb=>(ZbM hb).2,h7,rfl,λj c O=>by simp at O⟩ (λi o8 H' h=>by
    obtain⟨_,_,_,_,sm,_⟩:=h;exact sm) ?_ ?_
  ·rintro i y o8 H8 hy ⟨rs,v6,v7,rfl,s8,h8,rl,o9⟩
   have hi:i<m:=by
    have:=(ae.mp hy).1;rw[Za,S2,o7] at this;exact this
   rw[Zc,Zf (show i<cs.length by omega)] at hy;cases hy;have ho:=S4 i _ (Zf (show i<cs.length by omega));generalize cs[i]'(by omega)=oa at ho ⊢;have J:ss.getD i 0<m:=by
    have:ss.getD i 0∈ss:=by rw[Zb,Zf (by omega)];exact bB _
    exact af.mp (S3.mem_iff.mp this)
   generalize y6:ss.getD i 0=M at ho J;have k8:∀{b:Addr}{o:HO},H7 b=some o->b≠L->H8 b=some o:=λ{b o} hb Y=>s8 b o (VQ hb Y);have t7:=k8 ho (n8 (t6 m1) ho);have u8:=k8 (q0 _ _ u1) (neT (q0 _ _ u1));have W8:=k8 W7 (n8 (λY=>by rw[Y] at n9;simp at n9;omega) W7);have t8:Jo p z fr≠[]:=λY=>by
    have:=congrArg eB Y;rw[Ug] at this;have:=D.n1;simp at *;omega
   have R8:=k8 R7 (n8 t8 R7);have Zh7:ZK t 0=0:=by
    have h0:0<(ZC t t.length).length:=by omega
    exact ((U.z _ (U.rl 0 h0)).mp (U.rn 0 h0))
   have e0:EC t e M 0=e M 0:=by unfold EC;rw[Zh7]
   have elt:=C.elt M 0 J (by omega);refine⟨_,rfl,g,_,rfl,.inr (.of u8),_,rfl,_,rfl,_,rfl,g,_,rfl,.inr (.of u8),_,rfl,oa,(ac m).map λc=>((EC t e M c:Nat):Int),e M 0,t.length,p,dg M,by rw[el];rfl,.of (by rw[t7,Jv]),?_,by omega,N60,p2,pl,D.d1 M J,D.dl M J,D.dq M J,λd' a b=>D.dm M d' J a b,?_⟩
   ·rw[Zc,ah (by omega)]
    show some ((EC t e M 0:Nat):Int)=_;rw[e0]
   have y8:=D.dp M J;have dg1:=D.d1 M J;obtain⟨y0,y1,y2,y3⟩:=C.pr.iv (dg M) (by omega) y8;refine⟨p,_,rfl,p2,pl,⟨y0,y1,y2,by rw[<-aI,<-a9,y3];rfl⟩,λy a1 a2 a3=>?_⟩;have hy:y*dg M % p=1:=by
    have:((y*dg M % p:Nat):Int)=1:=by rw[a9,aI];exact a3
    omega
   have eb:=ZmD a2 hy;refine⟨_,_,rfl,rfl,.inr ⟨by omega,by omega⟩,?_⟩;rw[el];refine⟨_,rfl,.inl ⟨rfl,_,.of h8⟩,_,rfl,Wk,rfl,⟨_,.of W8⟩,?_⟩;refine Pm.Wt (W:=Addr) id (λc a H=>H a=some (.tup ((Xv t fr p e z dg M (ZK t c)).map V.int))) (λ_ _=>True) (YV (K:=K) (.of W8)) [some (.ref oa),some (.int ((t.length:Int)*(y:Int))),some (.ref Ro),some (.int (p:Nat))] rfl (by rw[n9];omega) (λk a H H' sm h=>sm _ _ h) (λa H H' sm h=>trivial) (λk a H0' H1' D' o ys ys' h1 h2 h3 h4=>by rw[Zz (λY=>by rw[Y,h4] at h1;cases h1)];exact h1) (λc x hx H9 s9 R k9=>?_) (λD9 as H9 nD9 s9 y9 t9 has _=>?_)
   ·have O:c<m:=by
     have:=(ae.mp hx).1;rw[n9] at this;exact this
    rw[Zc,Zf (show c<ws.length by have:=W4.len;omega)] at hx;cases hx;have hw:=W4.it c _ (Zf (show c<ws.length by have:=W4.len;omega));generalize ws[c]'(by have:=W4.len;omega)=wa at hw ⊢;have p3:=U.rl c (by omega);have Rr:=p7 _ p3;have rr:=D.rd p3 Rr;have u5:=(s5.trans (s6.trans s7)) _ _ hw;have hw8:=k8 u5 (n8 (t6 Rr.r1) u5);have tl:(t.length:Int)<=60:=by omega
    have shb:(t.length:Int)*(y:Int)<2 ^ 40:=by
     have:(t.length:Int)*(y:Int)<=60*(y:Int):=dk tl (by omega);omega
    have sha:0<=(t.length:Int)*(y:Int):=Int.mul_nonneg (by omega) (by omega);refine⟨_,rfl,_,rfl,_,rfl,_,rfl,_,rfl,wa,oa,Ro,rdT t (ZK t c),m,fr,p,z,_,_,_,rfl,s9 _ _ hw8,s9 _ _ t7,s9 _ _ R8,D.n1,n60,m60,Rr.r1,rr.1,rr.2,pl,C.pr,⟨λc _=>by omega,λc O=>?_⟩,λk hk=>?_,by omega,shb,λq' n6 o0 p4=>?_⟩
    ·have:=C.elt M (ZK t c) J (U.rl c (by omega))
     show ((e M (ZK t c):Nat):Int)<(p:Int);omega
    ·exact⟨Yl t (it t (ZK t c) k),by have:=U.lt _ (Jd Pt p3 k);omega,rfl⟩
    ·refine k9 q' n6 o0 ?_ trivial
     rw[p4];show some (HO.tup ((ZiG fr (ofF fr (rdT t (ZK t c)) p ((t.length:Int)*(y:Int)) z λk=>((EC t e M (wkF t (ZK t c) k).toNat:Nat):Int))).map V.int))=_;unfold Xv;rw[eb];congr 3;congr 2;funext k;unfold wkF;rw[Zj,<-C.at Pt J (Jd Pt p3 k)]
   ·refine⟨D9,_,rfl,.inl ⟨.of y9,λtp r6=>?_⟩⟩
    have o0:=Zv.upd (H:=H9) (o:=.tup (as.map λw=>V.ref (id w))) r6;have hT:upd H9 tp (.tup (as.map λw=>V.ref (id w))) tp=some (.tup (as.map V.ref)):=Zu;generalize upd H9 tp (.tup (as.map λw=>V.ref (id w)))=n6 at o0 hT ⊢;have o5:=s9.trans o0;have p4:=o5 _ _ h8;refine⟨L,_,_,rfl,rfl,p4,by rw[Za,rl];omega,?_⟩;have keep:∀{b:Addr}{xs:TV},n6 b=some (.tup xs)->upd n6 L (.lst (rs.map V.ref++[.ref tp])) b=some (.tup xs):=λ{b xs} hb=>by
     rw[Zz (λY=>by rw[Y,p4] at hb;cases hb)];exact hb
    have o6:∀{b:Addr}{ys:T8},RowT n6 b ys->RowT (upd n6 L (.lst (rs.map V.ref++[.ref tp]))) b ys:=λ{b ys} hb=>by
     obtain⟨bs,b1,b2,b3⟩:=hb;refine⟨bs,keep b1,b2,λj c O=>?_⟩;obtain⟨yy,c1,c2⟩:=b3 j c O;exact⟨yy,c1,keep c2⟩
    rw[n9] at t9;refine⟨rs++[tp],_,_,rfl,λb o hb=>?_,by rw[Zu,aN];rfl,by rw[Zd,rl];rfl,λj c O=>?_⟩
    ·rw[Zz (ZbM hb).1]
     exact (s8.trans o5) b o hb
    ·by_cases hj:j<rs.length
     ·rw[au hj] at O
      exact o6 ((o9 j c O).mono o5)
     ·have hl:=(ae.mp O).1
      rw[Zd,Zk] at hl;have ec:j=rs.length:=by omega
      rw[av (by omega),ec,cC] at O;cases O;rw[ec,rl,y6];refine o6 ⟨as,hT,by unfold Jn;rw[Za,Zg,t9],λc a ha=>?_⟩;have hcm:c<m:=by
       have:=(ae.mp ha).1;omega
      refine⟨Xv t fr p e z dg M (ZK t c),by unfold Jn;rw[Zc,ah hcm];rfl,o0 _ _ (has c a ha).1⟩
  ·rintro o8 H8 ⟨rs,v6,v7,rfl,s8,h8,rl,o9⟩
   rw[Za,S2,o7] at rl;have yl:(ss.map (Jn t fr p m e z dg)).length=m:=by rw[Za,o7]
   have p6:∀j,j<m->(ss.map (Jn t fr p m e z dg))[j]?=some (Jn t fr p m e z dg (ss.getD j 0)):=λj hj=>by
    rw[Zc,Zf (by omega),Zb,Zf (by omega)];rfl
   refine⟨_,rfl,L,rs,ss.map (Jn t fr p m e z dg),rfl,.inl h8,by omega,by omega,λj a ha=>?_,λLs js nLs pm pw=>?_⟩
   ·have hj:j<m:=by
     have:=(ae.mp ha).1;omega
    exact⟨_,p6 j hj,λY=>by
     have:=congrArg eB Y;unfold Jn at this;rw[Za,Zg] at this;simp at this;omega,o9 j a ha⟩
   ·refine⟨Ls,_,rfl,.inl ⟨.of Zu,λtp r6=>?_⟩⟩
    have sA:=Zv.upd (H:=H8) (o:=.lst ((js.map λi=>rs.getD i 0).map V.ref)) nLs;have sB:=Zv.upd (H:=upd H8 Ls (.lst ((js.map λi=>rs.getD i 0).map V.ref))) (o:=.tup ((js.map λi=>rs.getD i 0).map V.ref)) r6;have r8:=sA.trans sB;have hT:upd (upd H8 Ls (.lst ((js.map λi=>rs.getD i 0).map V.ref))) tp (.tup ((js.map λi=>rs.getD i 0).map V.ref)) tp=some (.tup ((js.map λi=>rs.getD i 0).map V.ref)):=Zu;generalize upd (upd H8 Ls (.lst ((js.map λi=>rs.getD i 0).map V.ref))) tp (.tup ((js.map λi=>rs.getD i 0).map V.ref))=H9 at r8 hT ⊢;rw[rl] at pm;have jl:js.length=m:=by rw[pm.length_eq,Zg]
    refine q tp (js.map λi=>(ss.map (Jn t fr p m e z dg)).getD i []) H9 (λb o hb=>r8 _ _ (s8 b o (VQ (q0 _ _ hb) (λY=>by rw[Y,x9] at hb;cases hb)))) ⟨js.map λi=>rs.getD i 0,hT,by rw[Za,Za],λi c O=>?_⟩ ?_ pw
    ·rw[Zc] at O
     cases hj:js[i]? with
     |none=>rw[hj] at O;cases O
     |some j=>
      rw[hj] at O;have hjm:j<m:=af.mp (pm.mem_iff.mp (az hj));have ec:c=rs.getD j 0:=(aB O).symm;have hrj:rs[j]?=some c:=by rw[ec,Zb,Zf (by omega)];rfl
      refine⟨_,by rw[Zc,hj];rfl,?_⟩;have:=(o9 j c hrj).mono r8;show RowT H9 c ((ss.map (Jn t fr p m e z dg)).getD j []);rw[Zb,p6 j hjm];exact this
    ·have h1:(js.map λi=>(ss.map (Jn t fr p m e z dg)).getD i []).Perm ((ac m).map λi=>(ss.map (Jn t fr p m e z dg)).getD i []):=pm.map _
     have h2:((ac m).map λi=>(ss.map (Jn t fr p m e z dg)).getD i [])=ss.map (Jn t fr p m e z dg):=by
      refine a7 λj=>?_;by_cases hj:j<m
      ·rw[p6 j hj,Zc,ah hj]
       show some ((ss.map (Jn t fr p m e z dg)).getD j [])=_;rw[Zb,p6 j hj];rfl
      ·rw[ai (by rw[Za,Zg];omega),ai (by omega)]
     rw[h2] at h1;exact h1.trans (S3.map _)
noncomputable abbrev Zma:Stmt:=tq 42
noncomputable abbrev Zme:Stmt:=tq 43
noncomputable abbrev Zmb:Stmt:=tq 45
noncomputable abbrev Zpd:Stmt:=tq 47
inductive ZdZ (vs:TV) (H:Hp) (Q:VK) (E03:XK):Prop
 |mk (n:Nat) (a:Addr) (xs:TZ):(vs=[.int n,.ref a])->(H a=some (.tup (xs.map V.int)))->(xs.length<=n)->(n<=60)->(∀l H',H l=none->Zv H H'->H' l=some (.lst (ZI n (Num.co xs)))->Q (.ref l) H')->ZdZ vs H Q E03
inductive Zd0 (vs:TV) (H:Hp) (Q:VK) (E03:XK):Prop
 |mk (n:Nat) (a b:Addr) (k:Int) (u v:Nat->Int):(vs=[.ref a,.ref b,.int k])->(n<=60)->(H a=some (.lst (ZI n u)))->(H b=some (.lst (ZI n v)))->(-(2 ^ 64)<k)->(k<2 ^ 64)->(∀l H',Zv H H'->H' l=some (.lst (ZI n λi=>u i+k*v i))->Q (.ref l) H')->Zd0 vs H Q E03
inductive Zd3 (vs:TV) (H:Hp) (Q:VK) (E03:XK):Prop
 |mk (n:Nat) (a b:Addr) (u v:Nat->Int):(vs=[.int n,.ref a,.ref b])->(1<=n)->(n<=60)->(H a=some (.lst (ZI n u)))->(H b=some (.lst (ZI n v)))->((∀i j,i<n->j<n->Zl2 (u i) (v j)))->(∀l w H',Zv H H'->H' l=some (.lst (ZI n w))->(∀j,Num.me n (N46.RN n) w j=Num.mm n (N46.RN n) u v j)->Q (.ref l) H')->Zd3 vs H Q E03
inductive ZhG (vs:TV) (H:Hp) (Q:VK) (E03:XK):Prop
 |mk (a b:Nat):(vs=[.int a,.int b])->(Q (.bl (decide (i0 a b=1))) H)->ZhG vs H Q E03
theorem Zhd {n:Nat}{xs:TZ}(h:xs.length<=n):xs.map V.int++(aq (n-xs.length) [V.int 0]).flatten=ZI n (Num.co xs):=by
 have e:(aq (n-xs.length) [V.int 0]).flatten=aq (n-xs.length) (V.int 0):=by
  generalize n-xs.length=k;induction k with
  |zero=>rfl
  |succ k q=>rw[ba,bZ,q,ba];rfl
 rw[e];refine a7 λi=>?_;by_cases j:i<xs.length
 ·rw[au (by rw[Za];exact j),Zc,Num.Wv j,Yn _ (by omega)]
  rfl
 ·rw[av (by rw[Za];omega),Za,bQ]
  by_cases J:i<n
  ·rw[if_pos (by omega),Yn _ J,Num.WL (by omega)]
  ·rw[if_neg (by omega)]
   exact (ai (by rw[Z1];omega)).symm
theorem ZkU (F:WB K "_law_wide" "_law_wide" Zma f fd)(T:Bl mg):Z4 P w K mg base Yg 1 f fd ["_law_n", "_law_number"] ZdZ:=by
 refine F.ok (FS (N:=["_law_n", "_law_number"])) (λvs H Q E h=>?_) (λn6 A j s H vs Q E hr h=>?_)
 ·obtain⟨n,a,xs,rfl,_⟩:=h;rfl
 ·obtain⟨n,a,xs,rfl,ha,hx,n60,q⟩:=h
  refine⟨_,Zw (ZE (Zy VF (ct WX T.list (pc (vn 1) Zt)) (Zy W9 (ZV (pc Zx Zt)) (Zy YB (vn 0) (cb (Ym K) T.len (pc (vn 1) Zt)))))),?_⟩;have sz:=JL;refine⟨_,rfl,a,_,rfl,.inr (.of ha),λl1 n1=>?_⟩;obtain⟨H1,J,s1,h1⟩:=UX (o:=.lst (xs.map V.int)) n1;rw[J];refine⟨JY,λl2 n2=>?_⟩;obtain⟨H2,M,s2,h2⟩:=UX (o:=.lst [.int 0]) n2;rw[M];refine⟨_,rfl,_,rfl,a,_,rfl,.inr (.of (s2 _ _ (s1 _ _ ha))),_,_,rfl,rfl,l2,_,_,rfl,rfl,h2,?_,?_,?_,λl3 n3=>?_⟩
  ·rw[Za];omega
  ·rw[Za];omega
  ·rw[Za];show 1*_<=_;omega
  ·rw[Za,show ((n:Int)-(xs.length:Nat)).toNat=n-xs.length by omega]
   obtain⟨H3,O,Y,h3⟩:=UX (o:=.lst (aq (n-xs.length) [V.int 0]).flatten) n3;rw[O];refine⟨l1,l3,_,_,rfl,rfl,Y _ _ (s2 _ _ h1),h3,?_,λl4 n4=>?_⟩
   ·rw[Za,Zb2];show _+_*1<=_;omega
   ·rw[Zhd hx]
    exact q l4 _ (((s1.trans s2).trans Y).free n4) (((s1.trans s2).trans Y).trans (Zv.upd n4)) Zu
theorem ZkV (F:WB K "_law_sum" "_law_sum" Zmb f fd)(T5:BlT mg):Z4 P w K mg base Yg 1 f fd ["_law_one", "_law_other", "_law_often"] Zd0:=by
 refine F.ok (FS (N:=["_law_one", "_law_other", "_law_often"])) (λvs H Q E h=>?_) (λn6 A M s H vs Q E hr h=>?_)
 ·obtain⟨n,a,b,k,u,v,rfl,_⟩:=h;rfl
 ·obtain⟨n,a,b,k,u,v,rfl,n60,ha,hb,k1,k2,q⟩:=h
  refine⟨_,Zw (ZE (cmp ["_law_a", "_law_b"] [2] ["_law_a", "_law_b", "_law_often"] rfl (Zj0 K T5.zip (pc (vn 0) (pc (vn 1) Zt))) (λ_ _ _ _ _=>g2 K 0 1 rfl (gn 0) (gn 1)) (λ_ _ _ _ _=>ZP) (λ_ _ _ _ _=>Zy Yt (vn 0) (Zy ZQ (vn 2) (vn 1))))),?_⟩;refine⟨_,rfl,_,rfl,a,b,false,false,_,_,H,rfl,.lst (.of ha),.lst (.of hb),Zv.refl _,λJ At S' O=>?_⟩;refine XE S' O (Zv.refl _) [some (.int k)] rfl (λx y=>x+k*y) (by omega) (λj Y hj s4 R' g=>?_) (λD Y nD s4 hD=>q D Y s4 hD);exact⟨_,rfl,_,rfl,_,rfl,_,_,rfl,rfl,.inl ⟨k1,k2⟩,_,_,rfl,rfl,g⟩
theorem ZkZ (F:WB K "_law_mul" "_law_mul" Zme f fd)(T:Bl mg):Z4 P w K mg base Yg 1 f fd ["_law_n", "_law_one", "_law_other"] Zd3:=by
 refine F.ok (FS (N:=["_law_n", "_law_one", "_law_other", "_law_found", "_law_j", "_law_k", "_law_spot"])) (λvs H Q E h=>?_) (λo0 A n8 s H vs Q E hr h=>?_)
 ·obtain⟨n,a,b,u,v,rfl,_⟩:=h;rfl
 ·obtain⟨n,a,b,u,v,rfl,n1,n60,ha,hb,hm,q⟩:=h
  refine⟨_,Zs (ZG 3 rfl (Zy W9 (ZV (pc Zx Zt)) (vn 0)))
   (Zs (ZN am rfl (WG T.range (pc (vn 0) Zt)) (gn 4)
   (Zw (Y3 (ZL WI (ZD (WU K) (vn 1) (vn 4) (λ_ _=>rfl)) Zx (ZR _)) (Zw (ZN am rfl (WG T.range (pc (vn 0) Zt)) (gn 5)
   (Zs (ZG 6 rfl (Zy ZY (Zy Yt (vn 4) (vn 5)) (vn 0)))
   (Zw (Jp (Zy Yt (ZD (WU K) (vn 3) (vn 6) (λ_ _=>rfl)) (Zy ZQ (ZD (WU K) (vn 1) (vn 4) (λ_ _=>rfl)) (ZD (WU K) (vn 2) (vn 5) (λ_ _=>rfl)))) (Xd (vn 3) (vn 6) YR)))))) Ya)))
   (Zw (ZE (vn 3)))),?_⟩
  have sz:=JL;refine⟨JY,λl2 n2=>?_⟩;obtain⟨H2,n9,s2,h2⟩:=UX (o:=.lst [.int 0]) n2;rw[n9];refine⟨_,rfl,l2,_,_,rfl,rfl,h2,by omega,by omega,(by show 1*_<=_;omega),λl n3=>?_⟩;rw[Zj,JM];have nl:H l=none:=by
   cases e:H l with
   |none=>rfl
   |some o=>rw[s2 _ _ e] at n3;cases n3
  refine⟨_,rfl,n,rfl,by omega,by omega,?_⟩;rw[Zj];refine ZT (λi O H'=>∃(c:Nat->Int) (v4 v5 v6:TU),O=[some (.int n),some (.ref a),some (.ref b),some (.ref l),v4,v5,v6]/\Zv H H'/\H' l=some (.lst (ZI n c))/\∀j,Num.me n (N46.RN n) c j=Num.ZF i λa=>Num.ZF n λb=>u a*v b*Num.rh n (N46.RN n) (a+b) j)
   ⟨_,_,_,_,rfl,s2.trans (Zv.upd n3),Zu,λj=>Num.ZbT j⟩ ?_ ?_
  ·rintro i O H' hi ⟨c,v4,v5,v6,rfl,sm,hl,hc⟩
   rw[show (0:Int)+(i:Int)=(i:Int) by omega];refine⟨_,rfl,_,rfl,a,_,_,_,rfl,rfl,.of (sm _ _ ha),ZH (Yn u hi),rfl,_,rfl,?_⟩;refine Ye (λh0=>?_) (λh0=>?_)
   ·refine⟨_,rfl,n,rfl,by omega,by omega,?_⟩
    rw[Zj];refine ZT (λk Y H3=>∃(M:Nat->Int) (w5 w6:TU),Y=[some (.int n),some (.ref a),some (.ref b),some (.ref l),some (.int i),w5,w6]/\Zv H H3/\H3 l=some (.lst (ZI n M))/\∀j,Num.me n (N46.RN n) M j=Num.me n (N46.RN n) c j+Num.ZF k λb=>u i*v b*Num.rh n (N46.RN n) (i+b) j)
     ⟨c,_,_,rfl,sm,hl,λj=>(a5 _).symm⟩ ?_ ?_
    ·rintro k Y H3 hk ⟨M,w5,w6,rfl,sm3,J,n6⟩
     rw[show (0:Int)+(k:Int)=(k:Int) by omega];have hq:(i+k) % n<n:=bi _ n1;have eM:((i:Int)+(k:Int)) % (n:Int)=(((i+k) % n:Nat):Int):=by push_cast;rfl
     refine⟨_,rfl,_,rfl,_,_,rfl,rfl,_,rfl,_,_,rfl,rfl,(by show (0:Int)<n;omega),?_⟩;refine⟨_,rfl,_,rfl,l,_,_,_,rfl,rfl,.of J,by rw[eM];exact ZH (Yn M hq),_,rfl,_,rfl,a,_,_,_,rfl,rfl,.of (sm3 _ _ ha),ZH (Yn u hi),_,rfl,_,rfl,b,_,_,_,rfl,rfl,.of (sm3 _ _ hb),ZH (Yn v hk),_,_,rfl,rfl,hm i k hi hk,_,_,rfl,rfl,_,rfl,_,rfl,l,_,_,(i+k) % n,rfl,rfl,J,by rw[Z1,eM];exact Jc hq,?_⟩;rw[ZeY _ _ hq];refine⟨_,_,_,rfl,sm3.updr nl,Zu,λj=>?_⟩;rw[Num.ZiN _ _ hq,n6,Num.YC,show M ((i+k) % n)+u i*v k-M ((i+k) % n)=u i*v k by omega,Num.Zkr];omega
    ·rintro Y H3 ⟨M,w5,w6,rfl,sm3,J,n6⟩
     refine⟨M,_,_,_,rfl,sm3,J,λj=>?_⟩;rw[n6,hc,Num.YC]
   ·have h0:u i=0:=aj λz=>h0 (by rw[decide_eq_false (λe=>z (V.int.inj e))];rfl)
    refine⟨c,_,_,_,rfl,sm,hl,λj=>?_⟩;rw[hc,Num.YC,Num.Y1 n (λb=>u i*v b*Num.rh n (N46.RN n) (i+b) j) (λt _=>by rw[h0,bc,bc]),a5]
  ·rintro O H' ⟨c,v4,v5,v6,rfl,sm,hl,hc⟩
   exact⟨_,rfl,q l c H' sm hl hc⟩
theorem ZnD (F:WB K "_law_alone" "_law_alone" Zpd f fd):Z4 P w K mg base Yg 1 f fd ["_law_k", "_law_n"] ZhG:=by
 refine F.ok (FS (N:=["_law_k", "_law_n"])) (λvs H Q E h=>?_) (λn8 A n6 s H vs Q E hr h=>?_)
 ·obtain⟨a,b,rfl,_⟩:=h;rfl
 ·obtain⟨a,b,rfl,q⟩:=h
  refine⟨_,Zs (Yq am (ZL Zip (vn 1) Zx (ZR _)) (Zw (Znd (i:=0) (j:=1) rfl (Z9 (by kernel_rfl)) rfl rfl (by decide) (Wb (by kernel_rfl)) (Wb (by kernel_rfl)) (pc (vn 1) (pc (Zy ZY (vn 0) (vn 1)) Zt)) rfl)))
   (Zw (ZE (Ul V1 (vn 0) Zx (ZR _)))),?_⟩
  refine Yh (λm M H'=>∃(Y J:Nat),M=[some (.int Y),some (.int J)]/\H'=H/\J<=m/\i0 Y J=i0 a b) (λM H'=>∃J:TU,M=[some (.int (i0 a b:Nat)),J]/\H'=H) ?hend ⟨b,a,b,rfl,rfl,Zq _,rfl⟩ ?turn
  case hend=>
   rintro M H' ⟨J,rfl,rfl⟩;refine⟨_,rfl,rfl,?_⟩;rw[show decide (V.int ((i0 a b:Nat):Int)=V.int 1)=decide (i0 a b=1) from by rw[cV,decide_eq_true_eq,decide_eq_true_eq];exact⟨λh=>by have:=V.int.inj h;omega,λh=>by rw[h];rfl⟩];exact q
  case turn=>
   rintro O m M H' ⟨Y,J,rfl,rfl,c1,c2⟩;refine⟨_,rfl,_,_,rfl,rfl,_,rfl,?_⟩;refine Ye (λh1=>?_) (λh1=>?_)
   ·have h1:(0:Int)<(J:Int):=of_decide_eq_true h1
    refine⟨_,λ_ _ z=>z,_,rfl,_,rfl,_,rfl,_,_,rfl,rfl,h1,_,_,rfl,m-1,by omega,J,Y % J,rfl,rfl,?_,?_⟩
    ·have:=bi Y (show 0<J by omega)
     omega
    ·rw[<-c2,Nat.gcd_comm Y J,Nat.gcd_rec J Y,Nat.gcd_comm]
   ·have h1:¬(0:Int)<(J:Int):=λz=>h1 (decide_eq_true z)
    have b0:J=0:=by omega
    rw[b0,Nat.gcd_zero_right] at c2;exact O _ _ ⟨_,by rw[c2],rfl⟩
noncomputable abbrev Zmd:Stmt:=tq 46
def prm (p:Nat):Bool:=(ac (p-2)).all λk=>p % (k+2) != 0
def pls (n i:Nat):T7:=((ac i).map (· + 2)).filter λp=>n % p == 0 && prm p
theorem UT (n i:Nat):pls n (i+1)=pls n i++if (n % (i+2) == 0 && prm (i+2))=true then [i+2] else []:=by
 unfold pls;rw[bR,aN,mQ];congr 1;show List.filter _ [i+2]=_;rw[jF];rfl
def Zpq (n:Nat):Bool:=n == 0 || (pls n (n-1)).map (n / ·) == Num.Jx n (N46.Yy n)
theorem ZkC:(ac 61).all Zpq=true:=by decide +kernel
theorem Zgj {n:Nat}(q:1<=n)(j:n<=60):(pls n (n-1)).map (n / ·)=Num.Jx n (N46.Yy n):=by
 have:=aD.mp ZkC n (af.mpr (by omega));unfold Zpq at this;rw[bh,beq_iff_eq,beq_iff_eq] at this;exact this.resolve_left (by omega)
inductive Zd2 (vs:TV) (H:Hp) (Q:VK) (E03:XK):Prop
 |mk (n:Nat) (a:Addr) (u:Nat->Int):(vs=[.int n,.ref a])->(1<=n)->(n<=60)->(H a=some (.lst (ZI n u)))->(∀b H',Zv H H'->(b=true↔∀j,j<N46.Y5 n->Num.me n (N46.RN n) u j=0)->Q (.bl b) H')->Zd2 vs H Q E03
theorem Zf8 (n:Nat)(c:Nat->Int):((ZI n c).countP (λz=>Uo z (.int 0))=n)↔∀k,k<n->c k=0:=by
 have j:=List.countP_eq_length (p:=λz=>Uo z (.int 0)) (l:=ZI n c);rw[Z1] at j;rw[j];unfold ZI;constructor
 ·intro h k q
  have:=h (V.int (c k)) (aE.mpr ⟨k,af.mpr q,rfl⟩);exact beq_iff_eq.mp this
 ·intro h z J
  obtain⟨k,q,rfl⟩:=aE.mp J;exact beq_iff_eq.mpr (h k (af.mp q))
theorem ZcA (n:Nat)(c:Nat->Int):(ZI n c).all WK=true:=aD.mpr λz j=>by
 obtain⟨k,_,rfl⟩:=aE.mp j;rfl
theorem Zlb {p:Nat}:(!inV (.int 0) (ZI (p-2) λk=>((p:Int) % (2+(k:Int)))))=prm p:=by
 unfold inV ZI prm;rw[fk,List.not_any_eq_all_not];congr 1;funext k;show (!((p:Int) % (2+(k:Int)) == 0))=(p % (k+2) != 0);rw[show (p:Int) % (2+(k:Int))=((p % (k+2):Nat):Int) by rw[show (2:Int)+(k:Int)=((k+2:Nat):Int) by omega];rfl];rw[cV];simp only[dX,beq_eq_false_iff_ne,bne_iff_ne,ne_eq];omega
theorem ZkY (F:WB K "_law_is_nought" "_law_is_nought" Zmd f fd)(T:Bl mg):Z4 P w K mg base Yg 1 f fd ["_law_n", "_law_row"] Zd2:=by
 refine F.ok (FS (N:=["_law_n", "_law_row", "_law_p"])) (λvs H Q E h=>?_) (λn9 A n6 s H vs Q E hr h=>?_)
 ·obtain⟨n,a,u,rfl,_⟩:=h;rfl
 ·obtain⟨n,a,u,rfl,n1,n60,ha,q⟩:=h
  refine⟨_,Zs (ZN am rfl (ZhZ T.range (pc Zx (pc (Zy Yt (vn 0) Zx) Zt))) (gnf 2 rfl)
   (Zw (Y3 (Zeo (ZL V1 (Zy ZY (vn 0) (vn 2)) Zx (ZR _)) (ZbH (ZL (Zrb K) Zx (cmp ["_law_k"] [2] ["_law_k", "_law_p"] rfl (ZhZ T.range (pc Zx (pc (vn 2) Zt))) (λ_ _ _ _ _=>gn 0) (λ_ _ _ _ _=>ZP) (λ_ _ _ _ _=>Zy ZY (vn 1) (vn 0))) (by rfl)))).pt (Zw (ZG 1 rfl (cmp ["_law_k"] [1,0,2] ["_law_k", "_law_row", "_law_n", "_law_p"] rfl (WG T.range (pc (vn 0) Zt)) (λ_ _ _ _ _=>gn 0) (λ_ _ _ _ _=>ZP) (λ_ _ _ _ _=>Zy YB (ZD (WU K) (vn 1) (vn 0) (λ_ _=>rfl)) (ZD (WU K) (vn 1) (Zy ZY (Zy YB (vn 0) (Zy WC (vn 2) (vn 3))) (vn 2)) (λ_ _=>rfl)))))) Ya)))
   (Zw (ZE (Ul V1 (Zin K aJ lW PySem.F.type_list_count (Zpy K) (vn 1) (pc Zx Zt)) (vn 0) (ZR _)))),?_⟩
  refine⟨_,rfl,_,_,rfl,rfl,_,_,rfl,⟨by omega,by omega,by omega,by omega⟩,?_⟩;rw[show ((n:Int)+1-2).toNat=n-1 by omega];refine ZT (λi j M=>∃(r:Addr) (v2:TU),j=[some (.int n),some (.ref r),v2]/\Zv H M/\M r=some (.lst (ZI n (Num.X7 n ((pls n i).map (n / ·)) u))))
   ⟨a,_,rfl,Zv.refl _,ha⟩ ?_ ?_
  ·rintro i j M hi ⟨r,v2,rfl,sm,hb⟩
   have e2:(2:Int)+(i:Int)=((i+2:Nat):Int):=by omega
   rw[e2];refine⟨_,rfl,_,rfl,_,_,rfl,rfl,(by show (0:Int)<((i+2:Nat):Int);omega),rfl,_,rfl,?_⟩;refine Ye (λh0=>?_) (λh0=>?_)
   ·have h0:n % (i+2)=0:=by
     have:=V.int.inj (of_decide_eq_true h0);have e:(n:Int) % ((i+2:Nat):Int)=((n % (i+2):Nat):Int):=rfl;rw[e] at this;omega
    refine⟨_,rfl,_,_,rfl,⟨by omega,by omega,by omega,by omega⟩,?_⟩;rw[show (((i+2:Nat):Int)-2).toNat=i by omega];refine YZ (Wp 2 i) [some (.int ((i+2:Nat):Int))] rfl (λk=>.int (((i+2:Nat):Int) % (2+(k:Int)))) (by rw[Za,Z7];omega) (λk y hy H2 s2 R g=>?_) (λD H2 nD s2 hD=>?_)
    ·obtain⟨hk,rfl⟩:=UM hy
     exact⟨_,rfl,_,rfl,_,_,rfl,rfl,(by show (0:Int)<2+(k:Int);omega),g H2 (Zv.refl _)⟩
    ·rw[Za,Z7] at hD
     have hD:H2 D=some (.lst (ZI i λk=>((i+2:Nat):Int) % (2+(k:Int)))):=hD;have ep:=Zlb (p:=i+2);rw[show i+2-2=i by omega] at ep;refine⟨D,_,rfl,.inl (.of hD),rfl,ZcA _ _,prm (i+2),congrArg V.bl ((if_pos rfl).trans ep),?_⟩;have J:=s2 _ _ hb;refine Ye (λh1=>?_) (λh1=>?_)
     ·have hs:n / (i+2)<=n:=gu _ _
      refine⟨_,rfl,n,rfl,by omega,by omega,?_⟩;rw[Zj];generalize hg:Num.X7 n ((pls n i).map (n / ·)) u=c at hb J;refine YZ (Wp 0 n) [some (.ref r),some (.int n),some (.int ((i+2:Nat):Int))] rfl (λk=>.int (Num.lk n (n / (i+2)) c k)) (by rw[Za,Z7];omega) (λk y hy H3 s3 R g=>?_) (λD3 H3 o0 s3 O=>?_)
      ·obtain⟨hk,rfl⟩:=Vm hy
       have Y:=s3 _ _ J;have eD:(n:Int) / ((i+2:Nat):Int)=((n / (i+2):Nat):Int):=rfl;have eM:((k:Int)-((n / (i+2):Nat):Int)) % (n:Int)=(((k+(n-n / (i+2))) % n:Nat):Int):=by
        have e:(k:Int)-((n / (i+2):Nat):Int)=((k+(n-n / (i+2)):Nat):Int)+(-1)*(n:Int):=by omega
        rw[e,Int.add_mul_emod_self_right];omega
       refine⟨_,rfl,_,rfl,r,_,_,_,rfl,rfl,.of Y,ZH (Yn c hk),_,rfl,_,rfl,_,rfl,_,rfl,_,_,rfl,rfl,⟨by omega,by omega⟩,_,_,rfl,rfl,_,rfl,_,_,rfl,rfl,(by show (0:Int)<n;omega),r,_,_,.int (c ((k+(n-n / (i+2))) % n)),rfl,rfl,.of Y,?_,_,_,rfl,rfl,g H3 (Zv.refl _)⟩;rw[eD,eM];exact ZH (Yn c (bi _ n1))
      ·rw[Za,Z7] at O
       refine⟨D3,_,rfl,(sm.trans s2).trans s3,?_⟩;rw[O,UT,if_pos (by rw[h1,h0];rfl),aN,<-hg];unfold Num.X7;rw[jt];rfl
     ·refine⟨r,_,rfl,sm.trans s2,?_⟩
      rw[J,UT,if_neg (by rw[gX.mpr h1,ka];decide),gm]
   ·refine⟨r,_,rfl,sm,?_⟩
    have h0:¬n % (i+2)=0:=λz=>h0 (decide_eq_true (congrArg V.int (by
     have e:(n:Int) % ((i+2:Nat):Int)=((n % (i+2):Nat):Int):=rfl;rw[e,z];rfl)))
    rw[hb,UT,if_neg (by rw[beq_eq_false_iff_ne.mpr h0,j9];decide),gm]
  ·rintro j M ⟨r,v2,rfl,sm,hb⟩
   rw[Zgj n1 n60] at hb;refine⟨_,rfl,.inl ⟨rfl,_,.of hb⟩,r,_,_,rfl,rfl,hb,rfl,ZcA _ _,_,rfl,rfl,?_⟩;refine q _ M sm ?_;obtain⟨_,n8,_⟩:=N46.ZiD n1 n60;rw[<-Num.ZnE (N46.V3 n1 n60).1 (λp hp=>(n8 p hp).1) u,decide_eq_true_eq];unfold Num.Nou;rw[<-Zf8];exact⟨λh=>by have:=V.int.inj h;omega,λh=>by rw[h]⟩
section
variable {dg:Nat->Nat}
theorem ZdO (P:PW t){s x y:Nat}(ec:∀x y,x<t.length->y<t.length->e s (tb t x y)=e s x)(j:x<t.length)(q:y<t.length):Xv t n p e z dg s (tb t x y)=Xv t n p e z dg s x:=by
 unfold Xv;rw[Zm5 P j q];congr 2;funext k;rw[ZiW P j q,ec _ _ (Jd P j k) q]
theorem Zkt (P:PW t)(O:Ord t.length o){x:Nat}(J:x<t.length):rdT (ren t o) x=rdT t (o.getD x 0):=by
 unfold rdT;rw[WP O];have j:(λr=>it (ren t o) x (r+1) == 0)=λr=>it t (o.getD x 0) (r+1) == 0:=funext λr=>by
  have Y:=ZcV P O J (r+1);have M:=Jd (JP P O) (a:=x) (by rw[WP O];exact J) (r+1);rw[WP O] at M;rw[<-Y];by_cases q:it (ren t o) x (r+1)=0
  ·rw[q,O.z]
  ·have q2:o.getD (it (ren t o) x (r+1)) 0≠0:=λw=>q (inj O M P.n1 (w.trans O.z.symm))
   rw[beq_eq_false_iff_ne.mpr q,beq_eq_false_iff_ne.mpr q2]
 rw[j]
theorem ZmI (P:PW t)(O:Ord t.length o){s x:Nat}(j:x<t.length):Xv (ren t o) n p (λs x=>e s (o.getD x 0)) z dg s x=Xv t n p e z dg s (o.getD x 0):=by
 unfold Xv;rw[Zkt P O j,WP O];congr 2;funext k;show ((e s (o.getD (it (ren t o) x k) 0):Nat):Int)=_;rw[ZcV P O j]
end
section
variable {dg:Nat->Nat}
theorem ZdN (P:PW t)(D:TD t n p m e ω φ z dg){s y:Nat}(hs:s<m)(J:y<t.length):Yl t y<m/\Xv t n p e z dg s (ZK t (Yl t y))=Xv t n p e z dg s y:=by
 have se:=JH P t.length (Zq _) y J;have j:Yl t y<(ZC t t.length).length:=dD.mpr (by
  obtain⟨c,q,M⟩:=aY.mp se;exact⟨c,q,M⟩)
 have mc:=D.cd.mc;refine⟨by rw[mc];exact j,?_⟩;obtain⟨q,M⟩:=Zck P j;obtain⟨b,hb,O⟩:=Zcl P j;have Y:y∈ZZ t b:=by
  rw[<-O];have this:=fZ (xs:=ZC t t.length) (p:=λc:T7=>c.contains y) (w:=j);rw[Zb,Zf j];exact aA.mp this
 rw[O] at q M;have e1:ZK t (Yl t y)=(ZZ t b).getD 0 0:=by unfold ZK;rw[O]
 rw[e1];obtain⟨u,hu,eu⟩:=(Yf P hb).mp q;obtain⟨v,hv,ev⟩:=(Yf P hb).mp Y;have ec:=λx y hx J=>D.cd.ec s x y hs hx J;rw[<-eu,<-ev,ZdO P ec hb hu,ZdO P ec hb hv]
theorem Ux {j yss:X0}(q:j.Perm yss)(J:j.Pairwise λa b=>PyZ.Vq b a=false)(M:yss.Pairwise λa b=>PyZ.Vq b a=false):j=yss:=
 jQ (le:=λa b=>PyZ.Vq b a=false) (λa b _ _ x y=>PyZ.ZbU y x) J M q
end
theorem Jr (p:Nat->Bool):∀n,((ac n).filter p).length=sm n λw=>Wm (p w)
 |0=>rfl
 |n+1=>by
  rw[bR,mQ,Zd,Jr p n,YI];congr 1;cases h:p n with
  |true=>rw[List.filter_cons_of_pos h];rfl
  |false=>rw[List.filter_cons_of_neg (by rw[h];decide)];rfl
theorem Zog (b:Nat):(ZZ t b).length=sm t.length λa=>Wm (V8 t b a):=Jr _ _
theorem UZ {b a:Nat}(P:PW t)(hb:b<t.length):V8 t b a=true↔a∈ZZ t b:=by rw[Xm,Yf P hb]
theorem Zof (P:PW t){b y:Nat}(hb:b<t.length)(J:y∈ZZ t b):ZZ t y=ZZ t b:=by
 have q:=X4 J;refine List.filter_congr λa M=>?_;have j:=af.mp M;show V8 t y a=V8 t b a;rw[cV,UZ P q,UZ P hb];constructor
 ·intro h
  exact Yr P hb j J (Yr P j q (YK P j) h)
 ·intro h
  exact Yr P q j (Yr P q hb (YK P q) J) (Yr P j hb (YK P j) h)
theorem Zoe (P:PW t){c:Nat}(j:c<(ZC t t.length).length):(ZC t t.length).getD c []=ZZ t (ZK t c):=by
 obtain⟨b,hb,J⟩:=Zcl P j;have q:=(Zck P j).1;unfold ZK;rw[J] at q ⊢;exact (Zof P hb q).symm
noncomputable abbrev Zo8:Stmt:=tq 44
noncomputable abbrev Zo3:Stmt:=tq 48
noncomputable abbrev ZmZ:Stmt:=tq 39
noncomputable abbrev Zpa:Stmt:=tq 41
def flV (n:Nat)(u:Nat->Int)(k:Nat):Int:=u ((n-k) % n)
inductive ZhB (vs:TV) (H:Hp) (Q:VK) (E03:XK):Prop
 |mk (n:Nat) (a:Addr) (u:Nat->Int):(vs=[.int n,.ref a])->(1<=n)->(n<=60)->(H a=some (.lst (ZI n u)))->(∀l H',Zv H H'->H' l=some (.lst (ZI n (flV n u)))->Q (.ref l) H')->ZhB vs H Q E03
def Zj3 (n:Nat):T7:=((ac n).map (· + 1)).filter λk=>decide (i0 k n=1)
def wyP (n:Nat):V->Bool
 | .int z=>decide (i0 z.toNat n=1)
 |_=>false
theorem ZoK (n:Nat):(((Y6 1 n).map V.int).filter (wyP n)).map id=(Zj3 n).map nV:=by
 unfold Zj3 Y6;rw[List.map_id,aK,jW,jW,aK];have e:((V.int ∘ λi:Nat=>(1:Int)+(i:Int)))=nV ∘ λx=>x+1:=funext λi=>by
  show V.int (1+(i:Int))=V.int ((i+1:Nat):Int);congr 1;omega
 rw[e];congr 1
theorem Zj2:((ac 61).all λn=>n == 0 || ((Zj3 n).length:Int) == N46.ZbI n)=true:=by decide +kernel
theorem Zj1 {n:Nat}(q:1<=n)(j:n<=60):(Zj3 n).length=N46.Y5 n:=by
 have h:=aD.mp Zj2 n (af.mpr (by omega));rw[bh,beq_iff_eq,beq_iff_eq] at h;have J:=(N46.V3 q j).2;have:=h.resolve_left (by omega);omega
inductive Zhx (vs:TV) (H:Hp) (Q:VK) (E03:XK):Prop
 |mk (n:Nat):(vs=[.int n])->(1<=n)->(n<=60)->(∀H',Zv H H'->Q (.int (N46.Y5 n:Nat)) H')->Zhx vs H Q E03
def cnT (t:T9)(k i j x:Nat):Nat:=if Yl t x=i/\Yl t (ZO t (Yx t x) (ZK t k))=j then 1 else 0
def cnL (t:T9)(i j k:Nat):Nat:=sm t.length (cnT t k i j)
def cnK (t:T9)(K X i j k:Nat):Nat:=if k<K then cnL t i j k else if k=K then sm X (cnT t k i j) else 0
inductive ZhE (vs:TV) (H:Hp) (Q:VK) (E03:XK):Prop
 |mk (g L1 D1:Addr) (t:T9) (bs:TW) (kvs:List (YL×V)):(vs=[.ref g,.ref L1,.ref D1])->(GT H g t)->(PW t)->(LsC H L1 bs (ZC t t.length))->(H D1=some (.dK kvs))->((∀a:Nat,a<t.length->Y0 kvs (.inl (a:Int))=some (.int (Yl t a:Nat))))->(∀L A B H',N3 H H' L (ZC t t.length).length A B (cnL t)->Q (.ref L) H')->ZhE vs H Q E03
inductive ZhD (vs:TV) (H:Hp) (Q:VK) (E03:XK):Prop
 |mk (g:Addr) (t:T9):(vs=[.ref g])->(GT H g t)->(PW t)->(∀r L2 L3 L1 D1 bs kvs A B (n:Nat) H',Zv H H'->H' r=some (.tup [.int n,.int (t.length:Nat),.ref L2,.ref L3,.ref L1,.ref D1])->H' L2=some (.lst (ZI (ZC t t.length).length λc=>((((ZC t t.length).getD c []).length:Nat):Int)))->N3 H H' L3 (ZC t t.length).length A B (cnL t)->LsC H' L1 bs (ZC t t.length)->H' D1=some (.dK kvs)->(∀a:Nat,a<t.length->Y0 kvs (.inl (a:Int))=some (.int (Yl t a:Nat)))->Lc (rdT t) t.length n->Q (.ref r) H')->ZhD vs H Q E03
theorem Zny (F:WB K "_law_flip" "_law_flip" Zo8 f fd)(T:Bl mg):Z4 P w K mg base Yg 1 f fd ["_law_n", "_law_one"] ZhB:=by
 refine F.ok (FS (N:=["_law_n", "_law_one"])) (λY H Q E h=>?_) (λn6 A J s H Y Q E hr h=>?_)
 ·obtain⟨n,a,u,rfl,_⟩:=h;rfl
 ·obtain⟨n,a,u,rfl,n1,n60,ha,q⟩:=h
  refine⟨_,Zw (ZE (cmp ["_law_k"] [1,0] ["_law_k", "_law_one", "_law_n"] rfl (WG T.range (pc (vn 0) Zt)) (λ_ _ _ _ _=>gn 0) (λ_ _ _ _ _=>ZP) (λ_ _ _ _ _=>ZD (WU K) (vn 1) (Zy ZY (Zy YB (vn 2) (vn 0)) (vn 2)) (λ_ _=>rfl)))),?_⟩;refine⟨_,rfl,n,rfl,by omega,by omega,?_⟩;rw[Zj];refine YZ (Wp 0 n) [some (.ref a),some (.int n)] rfl (λk=>.int (flV n u k)) (by rw[Za,Z7];omega) (λk y hy M O R g=>?_) (λD3 M n8 O j=>?_)
  ·obtain⟨hk,rfl⟩:=Vm hy
   have eM:((n:Int)-(k:Int)) % (n:Int)=(((n-k) % n:Nat):Int):=by
    rw[show (n:Int)-(k:Int)=((n-k:Nat):Int) by omega];rfl
   exact⟨_,rfl,_,rfl,_,rfl,_,_,rfl,rfl,_,rfl,_,_,rfl,rfl,(by show (0:Int)<n;omega),a,_,_,_,rfl,rfl,.of (O _ _ ha),by rw[eM];exact ZH (Yn u (bi _ n1)),g M (Zv.refl _)⟩
  ·rw[Za,Z7] at j
   exact q D3 M O j
theorem Znt (F:WB K "_law_places" "_law_places" Zo3 f fd)(T:Bl mg)(GA:Fn P w K mg base Yg 1 "_law_alone" ["_law_k", "_law_n"] ZhG):Z4 P w K mg base Yg 2 f fd ["_law_n"] Zhx:=by
 refine F.ok (FS (N:=["_law_n"])) (λvs H Q E h=>?_) (λn6 A J s H vs Q E hr h=>?_)
 ·obtain⟨n,rfl,_⟩:=h;rfl
 ·obtain⟨n,rfl,n1,n60,q⟩:=h
  refine⟨_,Zw (ZE (cb (Ym K) T.len (pc (cmp ["_law_k"] [0] ["_law_k", "_law_n"] rfl (ZhZ T.range (pc Zx (pc (Zy Yt (vn 0) Zx) Zt))) (λ_ _ _ _ _=>gn 0) (λ_ _ _ _ _=>ZkD (Wz (Wn GA hr ZM (pc (vn 0) (pc (vn 1) Zt))))) (λ_ _ _ _ _=>vn 0)) Zt))),?_⟩;refine⟨_,rfl,_,_,rfl,rfl,_,_,rfl,⟨by omega,by omega,by omega,by omega⟩,?_⟩;rw[show ((n:Int)+1-1).toNat=n by omega];refine ZgX (Wp 1 n) [some (.int n)] rfl (wyP n) id (by rw[Za,Z7];omega) (λi x H' hx s' R R' g1 g0=>?_) (λL7 M n8 O j=>?_)
  ·obtain⟨hi,rfl⟩:=UM hx
   have e1:(1:Int)+(i:Int)=((i+1:Nat):Int):=by omega
   rw[e1] at g1 g0 ⊢;refine⟨_,rfl,_,rfl,i+1,n,rfl,_,rfl,?_⟩;refine Ye (λY=>?_) (λY=>?_)
   ·exact⟨_,rfl,g1 Y H' (Zv.refl _)⟩
   ·exact g0 (gX.mpr Y) H' (Zv.refl _)
  rw[ZoK] at j;refine⟨L7,_,rfl,.inl (.of j),?_⟩;rw[Za,Zj1 n1 n60];exact q M O
theorem ZnB (F:WB K "_law_counts" "_law_counts" ZmZ f fd)(T:Bl mg):Z4 P w K mg base Yg 1 f fd ["_law_group_here", "_law_classes_here", "_law_met"] ZhE:=by
 refine F.ok (FS (N:=["_law_group_here", "_law_classes_here", "_law_met", "_law_backs", "_law_many", "_law_found", "_law_k", "_law_x", "_law_y", "_law_line"])) (λvs H Q E h=>?_) (λo8 A o9 s H vs Q E hr h=>?_)
 ·obtain⟨g,L1,D1,t,bs,p3,rfl,_⟩:=h;rfl
 ·obtain⟨g,L1,D1,t,bs,p3,rfl,G,Y,LC,hD,hv,q⟩:=h
  have hu:(A.deeper (envOfC "_law_counts" (Z0 ZmZ) s.heap.objs.size f o8)).units+1<cLine:=by have:=hr.un;omega
  refine⟨_,Zs (ZbA 3 ["_law_row"] [] ["_law_row"] rfl rfl (itT K (vn 0)) (λ_ _ _ _ _=>gn 0) (λ_ _ _ _ _=>ZP) (λ_ _ _ _ _=>ZbK eK e9 gK (ZmN K) (vn 0) (pc Zx Zt)))
   (Zs (ZG 4 rfl (cb (Ym K) T.len (pc (vn 1) Zt)))
   (Zs (ZbA 5 ["_law_i"] [4] ["_law_i", "_law_many"] rfl rfl (WG T.range (pc (vn 4) Zt)) (λ_ _ _ _ _=>gn 0) (λ_ _ _ _ _=>ZP) (λ_ _ _ _ _=>cmp ["_law_j"] [1] ["_law_j", "_law_many"] rfl (WG (by exact T.range) (pc (vn 1) Zt)) (λ_ _ _ _ _=>gn 0) (λ_ _ _ _ _=>ZP) (λ_ _ _ _ _=>Zy W9 (ZV (pc Zx Zt)) (vn 1))))
   (Zs (ZN am rfl (WG T.range (pc (vn 4) Zt)) (gn 6)
   (Zw (ZN am rfl (WG T.range (pc (cb (Ym K) T.len (pc (vn 0) Zt)) Zt)) (gn 7)
   (Zs (ZG 8 rfl (ZD (JE K) (ZD (JE K) (vn 0) (ZD (WU K) (vn 3) (vn 7) (λ_ _=>rfl)) (λ_ _=>rfl)) (ZD (WU K) (ZD (WU K) (vn 1) (vn 6) (λ_ _=>rfl)) Zx (λ_ _=>rfl)) (λ_ _=>rfl)))
   (Zs (ZG 9 rfl (ZD (WU K) (ZD (WU K) (vn 5) (Jh hu (vn 2) (vn 7) (λ_ _=>rfl)) (λ_ _=>rfl)) (Jh hu (vn 2) (vn 8) (λ_ _=>rfl)) (λ_ _=>rfl)))
   (Zw (Jp (Zy Yt (ZD (WU K) (vn 9) (vn 6) (λ_ _=>rfl)) Zx) (Xd (vn 9) (vn 6) YR))))))))
   (Zw (ZE (vn 5)))))),?_⟩
  have sz:=JL;have N1:=Y.n1;have r6:=Y.n60;have ul:=Wc (t:=t) t.length;have U:=YU Y;have m1:1<=(ZC t t.length).length:=by
   have:=U.lt 0 N1;omega
  obtain⟨gs,u1,u2,u3⟩:=id G;have el:(gs.map V.ref).length=t.length:=by rw[Za,u2]
  refine⟨_,rfl,g,rfl,⟨_,.of u1⟩,?_⟩;refine YZ (We (K:=K) (.of u1)) [] rfl (λa=>nV (Yx t a)) (by rw[el];omega) (λi y hy H' s' R' kk=>?_) (λBk H1 nB s1 hB=>?_)
  ·obtain⟨r,n6,rfl⟩:=UP hy
   have hi:i<t.length:=by rw[<-u2];exact (ae.mp n6).1
   have hz:=(u3 i r n6).mono s';obtain⟨b1,b2⟩:=Yc Y hi;have hl:=Xy Y hi;refine⟨_,rfl,⟨_,_,rfl,hz⟩,r,_,.int 0,Yx t i,rfl,rfl,hz.sq,rfl,?_,by rw[Za,hl];exact b1,λz J=>?_,λm z hm J=>?_,kk H' (Zv.refl _)⟩
   ·rw[aD]
    intro z J;obtain⟨k,_,rfl⟩:=aE.mp J;rfl
   ·rw[J8 Y hi b1,b2] at J
    cases J;decide
   ·have n8:m<t.length:=by omega
    rw[J8 Y hi n8] at J;cases J;have:ZO t i m≠0:=λz=>by
     have:=Xo Y hi n8 z;omega
    show decide ((ZO t i m:Int)=0)=false;exact decide_eq_false (by omega)
  rw[el] at hB;have bl:(bs.map V.ref).length=(ZC t t.length).length:=by rw[Za,LC.2.1]
  refine⟨_,rfl,L1,_,rfl,.inl (.of (LC.mono s1).1),?_⟩;rw[bl];generalize hm:(ZC t t.length).length=m at *;refine⟨_,rfl,m,rfl,by omega,by omega,?_⟩;rw[Zj];have rl:((Y6 0 m).map V.int).length=m:=by rw[Za,Z7]
  refine Za3 (Wp 0 m) [some (.int m)] rfl (by rw[rl];omega) rl m1 (λi y hy H3 s3 R k=>?_) (λL A B H3 nL N=>?_)
  ·refine⟨_,rfl,m,rfl,by omega,by omega,?_⟩
   rw[Zj];refine Za4 (Wp 0 m) [some (.int m)] rfl (by rw[rl];omega) rl (λj y' r8 H4 s4 R' k'=>?_) (λw' H4 s4 M p4=>k w' H4 s4 M p4);refine⟨JY,λl0 p6=>?_⟩;have s5:=Zv.upd (H:=H4) (o:=.lst [.int 0]) p6;refine⟨_,rfl,l0,_,_,rfl,rfl,Zu,by omega,by omega,(by show 1*((m:Int)).toNat<=sizeLine;omega),λb nb=>?_⟩;rw[Zj];have e0:(aq m [V.int 0]).flatten=(Yd m λ_=>0).map nV:=by
    rw[JM];unfold ZI Yd;rw[aK];rfl
   rw[e0];exact k' b _ (s5.trans (Zv.upd nb)) Zu (s5.free nb)
  refine⟨_,rfl,m,rfl,by omega,by omega,?_⟩;rw[Zj];refine ZT (λk O H'=>∃v6 v7 v8 v9:TU,O=[some (.ref g),some (.ref L1),some (.ref D1),some (.ref Bk),some (.int m),some (.ref L),v6,v7,v8,v9]/\N3 H1 H' L m A B (cnK t k 0))
   ⟨_,_,_,_,rfl,N.congr λi j k _ _ _=>by unfold cnK;rw[if_neg (by omega)];split <;> rfl⟩ ?_ ?_
  ·rintro k O H4 hk ⟨v6,v7,v8,v9,rfl,N4⟩
   rw[show (0:Int)+(k:Int)=(k:Int) by omega];refine⟨_,rfl,g,_,rfl,.inr (.of (N4.sm _ _ (s1 _ _ u1))),_,rfl,by omega,by rw[el];omega,?_⟩;rw[el,Zj];refine ZT (λx O H'=>∃v7 v8 v9:TU,O=[some (.ref g),some (.ref L1),some (.ref D1),some (.ref Bk),some (.int m),some (.ref L),some (.int (k:Nat)),v7,v8,v9]/\N3 H1 H' L m A B (cnK t k x))
    ⟨_,_,_,rfl,N4⟩ ?_ ?_
   ·rintro x O H5 hx ⟨v7,v8,v9,rfl,N5⟩
    rw[show (0:Int)+(x:Int)=(x:Int) by omega];have p7:k<(ZC t t.length).length:=by rw[hm];exact hk
    obtain⟨e1,e2⟩:=Zck Y p7;have n9:=U.rl k hk;have b0:(((ZC t t.length).getD k []).map nV)[0]?=some (nV (ZK t k)):=by
     rw[Zc,Wr (kU e1)];rfl
    have gb:bs[k]?=some (bs.getD k 0):=by rw[Zb,Zf (by rw[LC.2.1,hm];exact hk)];rfl
    have o0:=(LC.mono s1).mono N5.sm;obtain⟨b1,b2⟩:=Yc Y hx;have gk:((ac t.length).map λa=>nV (Yx t a))[x]?=some (nV (Yx t x)):=by
     rw[Zc,ah hx];rfl
    obtain⟨r9,r2,p8,_,q0,g3,g4⟩:=((G.mono s1).mono N5.sm).at Y b1;have hy:=Y.lt _ _ b1 n9;have ix:=U.lt x hx;have iy:=U.lt _ hy;have o5:=N5.sm _ _ (s1 _ _ hD);have o6:=JJ.k (k:=.inl ((x:Nat):Int)) o5;rw[hv _ hx] at o6;have o7:=JJ.k (k:=.inl ((ZO t (Yx t x) (ZK t k):Nat):Int)) o5;rw[hv _ hy] at o7;have t1:((ac m).map λi=>V.ref (A i))[Yl t x]?=some (.ref (A (Yl t x))):=by rw[Zc,ah ix];rfl
    have t2:((ac m).map λj=>V.ref (B (Yl t x) j))[Yl t (ZO t (Yx t x) (ZK t k))]?=some (.ref (B (Yl t x) (Yl t (ZO t (Yx t x) (ZK t k))))):=by rw[Zc,ah iy];rfl
    have t3:((Yd m (cnK t k x (Yl t x) (Yl t (ZO t (Yx t x) (ZK t k))))).map nV)[k]?=some (nV (cnK t k x (Yl t x) (Yl t (ZO t (Yx t x) (ZK t k))) k)):=by
     unfold Yd;rw[Zc,Zc,ah hk];rfl
    have lw:=N5.low _ _ ix iy;refine⟨_,rfl,_,rfl,_,rfl,Bk,_,_,_,rfl,rfl,.of (N5.sm _ _ hB),ZH gk,g,_,_,_,rfl,rfl,.of p8,q0,_,rfl,_,rfl,L1,_,_,_,rfl,rfl,.of o0.1,ZH (by rw[Zc,gb];rfl),bs.getD k 0,_,_,_,rfl,rfl,.of (o0.2.2 k _ gb).2,ZH (j:=0) b0,r2,_,_,_,rfl,rfl,g3.sq,g4 _ n9,?_⟩;refine⟨_,rfl,_,rfl,_,rfl,D1,_,rfl,o6,L,_,_,_,rfl,rfl,.of N5.top,ZH t1,_,rfl,_,rfl,D1,_,rfl,o7,A (Yl t x),_,_,_,rfl,rfl,.of (N5.mid _ ix),ZH t2,?_⟩;refine⟨_,rfl,_,rfl,_,_,_,_,rfl,rfl,.of lw,ZH t3,_,_,rfl,rfl,_,rfl,_,rfl,_,_,_,k,rfl,rfl,lw,?_,?_⟩
    ·rw[Za,UN]
     exact Jc hk
    ·have pt:=N5.put (v:=cnK t k x (Yl t x) (Yl t (ZO t (Yx t x) (ZK t k))) k+1) ix iy hk
     refine⟨_,_,_,rfl,pt.congr λi j k' hi hj t5=>?_⟩;unfold cnK;by_cases z1:k'<k
     ·rw[if_neg (by omega),if_pos z1,if_pos z1]
     ·by_cases z2:k'=k
      ·rw[z2,if_neg (bw k),if_pos rfl,if_neg (bw k),if_pos rfl,if_neg (bw k),if_pos rfl,YI]
       unfold cnT;by_cases z3:Yl t x=i/\Yl t (ZO t (Yx t x) (ZK t k))=j
       ·rw[if_pos z3,if_pos ⟨z3.1.symm,z3.2.symm,rfl⟩,z3.1,z3.2]
       ·rw[if_neg z3,if_neg (λz=>z3 ⟨z.1.symm,z.2.1.symm⟩),dH]
      ·rw[if_neg (λz=>z2 z.2.2),if_neg z1,if_neg z2,if_neg z1,if_neg z2]
   ·rintro O H5 ⟨v7,v8,v9,rfl,N5⟩
    refine⟨_,_,_,_,rfl,N5.congr λi j k' _ _ _=>?_⟩;unfold cnK;by_cases z1:k'<k
    ·rw[if_pos z1,if_pos (by omega)]
    ·by_cases z2:k'=k
     ·rw[if_neg z1,if_pos z2,if_pos (by omega),z2]
      rfl
     ·rw[if_neg z1,if_neg z2,if_neg (by omega)]
      split <;> rfl
  ·rintro O H4 ⟨v6,v7,v8,v9,rfl,N4⟩
   refine⟨_,rfl,q L A B H4 ⟨s1.trans N4.sm,N4.m1,N4.top,N4.mid,λi j hi hj=>?_,N4.inj,λi j hi hj=>s1.free (N4.nw i j hi hj)⟩⟩;rw[N4.low i j hi hj];refine congrArg (λl=>some (HO.lst (gH nV l))) (Wg λk hk=>?_);unfold cnK;rw[if_pos hk]
theorem ZnA (F:WB K "_law_facts" "_law_facts" Zpa f fd)(T:Bl mg)(GC:Fn P w K mg base Yg 1 "_law_classes" ["_law_group_here"] Zd9)(o0:Fn P w K mg base Yg 1 "_law_round" ["_law_group_here"] UD)(o5:Fn P w K mg base Yg 1 "_law_counts" ["_law_group_here", "_law_classes_here", "_law_met"] ZhE):Z4 P w K mg base Yg 2 f fd ["_law_group_here"] ZhD:=by
 refine F.ok (FS (N:=["_law_group_here", "_law_classes_here", "_law_met", "_law_sizes"])) (λvs H Q E h=>?_) (λo9 A o6 s H vs Q E hr h=>?_)
 ·obtain⟨g,t,rfl,_⟩:=h;rfl
 ·obtain⟨g,t,rfl,G,Pt,q⟩:=h
  refine⟨_,Zs (Jp (Wn GC hr ZM (pc (vn 0) Zt)) (g2 K 1 2 rfl (gn 1) (gn 2)))
   (Zs (ZbA 3 ["_law_one"] [] ["_law_one"] rfl rfl (itL K (vn 1)) (λ_ _ _ _ _=>gn 0) (λ_ _ _ _ _=>ZP) (λ_ _ _ _ _=>cb (Ym K) (by exact T.len) (pc (vn 0) Zt)))
   (Zw (ZE (UW (pc (Wn o0 hr ZM (pc (vn 0) Zt)) (pc (cb (Ym K) T.len (pc (vn 0) Zt)) (pc (vn 3) (pc (Wn o5 hr ZM (pc (vn 0) (pc (vn 1) (pc (vn 2) Zt)))) (pc (vn 1) (pc (vn 2) Zt)))))))))),?_⟩
  have sz:=JL;have p3:=Pt.n60;have ul:=Wc (t:=t) t.length;refine⟨_,rfl,g,t,rfl,G,Pt,λc1 L1 D1 bs n6 H1 s1 h1 O n8 hv=>?_⟩;refine⟨c1,_,rfl,.of h1,rfl,_,_,rfl,_,_,rfl,rfl,?_⟩;refine⟨_,rfl,L1,rfl,⟨_,.of O.1⟩,?_⟩;refine YZ (YV (K:=K) (.of O.1)) [] rfl (λc=>.int ((((ZC t t.length).getD c []).length:Nat):Int)) (by rw[Za,O.2.1];omega) (λi y hy H' s' R' kk=>?_) (λL2 H2 p4 s2 n9=>?_)
  ·obtain⟨b,hb,rfl⟩:=UP hy
   have o7:=s' _ _ (O.2.2 i b hb).2;refine⟨_,rfl,b,_,rfl,.inl (.of o7),?_⟩;rw[Za];exact kk H' (Zv.refl _)
  rw[Za,O.2.1] at n9;have o8:∀a,a<t.length->Rd t a (rdT t a):=λa ha=>by
   obtain⟨r,R⟩:=Pt.rd a ha;rw[UR R];exact R
  have G2:=(G.mono s1).mono s2;refine⟨_,rfl,g,t,rdT t,rfl,G2,Pt,o8,λn H3 s3 L3=>?_⟩;obtain⟨gs,u1,u2,_⟩:=G2.mono s3;have el:(gs.map V.ref).length=t.length:=by rw[Za,u2]
  refine⟨_,rfl,g,_,rfl,.inr (.of u1),?_⟩;rw[el];have J:=s2.trans s3;refine⟨_,rfl,_,rfl,_,rfl,_,rfl,g,L1,D1,t,bs,n6,rfl,G2.mono s3,Pt,O.mono J,J _ _ n8,hv,λL A B H4 M=>?_⟩;refine⟨_,rfl,_,rfl,JY,λr nr=>?_⟩;have s5:=Zv.upd (H:=H4) (o:=.tup [.int n,.int (t.length:Nat),.ref L2,.ref L,.ref L1,.ref D1]) nr;have Y:=(J.trans M.sm).trans s5;exact q r L2 L L1 D1 bs n6 A B n _ (s1.trans Y) Zu (s5 _ _ (M.sm _ _ (s3 _ _ n9))) ⟨s1.trans (J.trans (M.mono s5).sm),M.m1,s5 _ _ M.top,λi hi=>s5 _ _ (M.mid i hi),λi j hi hj=>s5 _ _ (M.low i j hi hj),M.inj,λi j hi hj=>(s1.trans J).free (M.nw i j hi hj)⟩ (O.mono Y) (Y _ _ n8) hv L3
def xvB (t:T9)(D:Dt)(Y:Dx):Bool:=
 decide (N46.Y5 D.n=Y.top) && (N46.RN D.n == Y.R) && fA D.rp.length λs=>fA D.rp.length λc=>
  Num.Vo D.n Y.top Y.R ((ac D.n).map (ofF D.n (rdT t (D.rp.getD c 0)) D.p ((t.length:Int)*(bkM D.p (D.dg.getD s 0):Int)) D.z λk=>(VR D.E s (D.cl.getD (it t (D.rp.getD c 0) k) 0):Int))) == at3 Y.X s c
def rx (f:Bool)(n k:Nat):Nat:=if f then (n-k) % n else k % n
def pfS (f:Bool)(n:Nat)(R:T8)(a:TZ):TZ->Nat->TZ->TZ
 | [],_,ZJ=>ZJ
 |x::b,k,ZJ=>pfS f n R a b (k+1) (if x=0 then ZJ else Num.Zdk (Num.vsc x a) (Num.Zei R (rx f n k)) ZJ)
def szD (D:Dt)(c:Nat):Nat:=(D.cl.filter (· == c)).length
def Zkp (D:Dt)(Y:Dx)(s:Nat):Nat->TZ
 |0=>aq Y.top 0
 |c+1=>pfS true D.n Y.R (Num.vsc (szD D c) (at3 Y.X s c)) (at3 Y.X s c) 0 (Zkp D Y s c)
def gaV (t:T9)(D:Dt)(Y:Dx)(s i j:Nat):Nat->TZ
 |0=>aq Y.top 0
 |y+1=>if D.cl.getD y 0=j then Num.Vb (gaV t D Y s i j y) (at3 Y.X s (D.cl.getD (ZO t (D.rp.getD i 0) y) 0)) else gaV t D Y s i j y
def hdL (top:Nat)(x:Int):TZ:=x::aq (top-1) 0
def puB (t:T9)(D:Dt)(Y:Dx):Bool:=
 D.cl.length == t.length && fA D.rp.length λs=>decide (1<=Num.co (at3 Y.X s 0) 0) && at3 Y.X s 0 == hdL Y.top (Num.co (at3 Y.X s 0) 0) && Zkp D Y s D.rp.length == hdL Y.top t.length &&
 (fA D.rp.length λi=>fA D.rp.length λj=>pfS false D.n Y.R (Num.vsc (szD D j) (at3 Y.X s i)) (at3 Y.X s j) 0 (aq Y.top 0) == Num.vsc (Num.co (at3 Y.X s 0) 0) (gaV t D Y s i j t.length)) &&
 (fA D.rp.length λq=>s == q || fE D.rp.length λc=>at3 Y.X s c != at3 Y.X q c) && fA D.rp.length λc=>(at3 Y.X s c).all λx=>decide (-(2 ^ 20)<x) && decide (x<2 ^ 20)
noncomputable def xB (i:Nat):Bool:=xvB (tbC.getD i []) (Zdw.getD i d0).2 (dxC.getD i dx0) && puB (tbC.getD i []) (Zdw.getD i d0).2 (dxC.getD i dx0)
theorem xBa:∀i,i<31->xB i=true
 |0,_|1,_|2,_|3,_|4,_|5,_|6,_|7,_|8,_|9,_|10,_|11,_|12,_|13,_|14,_|15,_|16,_|17,_|18,_|19,_|20,_|21,_|22,_|23,_|24,_|25,_|26,_|27,_|28,_|29,_|30,_=>by decide +kernel
 |n+31,h=>by omega
def mmp (n:Nat)(a b:TZ)(z:Nat):Int:=Num.mm n (N46.RN n) (Num.co a) (Num.co b) z
def mmf (n:Nat)(a b:TZ)(z:Nat):Int:=Num.mm n (N46.RN n) (Num.co a) (flV n (Num.co b)) z
structure PuC (t:T9)(n m:Nat)(X:Nat->Nat->TZ):Prop where
 len:∀s x,(X s x).length=N46.Y5 n
 bd:∀s x i,s<m->x<t.length->-(2 ^ 20)<Num.co (X s x) i/\Num.co (X s x) i<2 ^ 20
 fs:∀s,s<m->1<=Num.co (X s 0) 0/\X s 0=hdL (N46.Y5 n) (Num.co (X s 0) 0)
 pr:∀s x u z,s<m->x<t.length->u<t.length->((sm t.length λy=>Wm (V8 t u y):Nat):Int)*mmp n (X s x) (X s u) z=Num.co (X s 0) 0*Num.ZF t.length λy=>(Wm (V8 t u y):Int)*Num.co (X s (ZO t x y)) z
 mt:∀s z,s<m->Num.ZF t.length (λx=>mmf n (X s x) (X s x) z)=if z=0 then (t.length:Int) else 0
 un:∀s s',s<m->s'<m->s≠s'->∃x,x<t.length/\X s x≠X s' x
theorem Uf (f:Nat->Nat):∀n,((sm n f:Nat):Int)=Num.ZF n λx=>(f x:Int)
 |0=>rfl
 |n+1=>by rw[YI,Num.YC,dR,Uf f n]
theorem Zbc {t:T9}{n p:Nat}{e:Nat->Nat->Nat}{z:Nat}{dg:Nat->Nat}(s x:Nat):(Xv t n p e z dg s x).length=N46.Y5 n:=by unfold Xv ZiG;exact Num.JB _ _ _ _
theorem Znb {t:T9}{o:T7}{n p m:Nat}{e:Nat->Nat->Nat}{z:Nat}{dg:Nat->Nat}(P:PW t)(O:Ord t.length o)(F:PuC t n m (Xv t n p e z dg)):PuC (ren t o) n m (Xv (ren t o) n p (λs x=>e s (o.getD x 0)) z dg):=by
 have len:(ren t o).length=t.length:=WP O;have P':=JP P O;have n1:=P.n1;have z0:o.getD 0 0=0:=O.z;have su:∀F:Nat->Int,Num.ZF t.length (λx=>F (o.getD x 0))=Num.ZF t.length F:=λF=>Num.Ue (λc hc=>YS O hc) (λa b ha hb h=>by rw[<-Zej O ha,h,Zej O hb]) F;have J:∀{s x:Nat},x<t.length->Xv (ren t o) n p (λs x=>e s (o.getD x 0)) z dg s x=Xv t n p e z dg s (o.getD x 0):=λj=>ZmI P O j;refine⟨λs x=>Zbc s x,λs x i M j=>?_,λs M=>?_,λs x u q M j hu=>?_,λs q M=>?_,λs s' h1 h2 ne=>?_⟩
 ·rw[len] at j
  rw[J j];exact F.bd s _ i M (YS O j)
 ·rw[J (by omega),z0]
  exact F.fs s M
 ·rw[len] at j hu
  have h:=F.pr s _ _ q M (YS O j) (YS O hu);rw[J j,J hu,J (by omega),z0,len,Z5 (λy Y=>by rw[Zh1 P O hu Y]),Zh0 O (λy=>Wm (V8 t (o.getD u 0) y)),h];congr 1;rw[<-su];refine Num.ZA _ _ _ λy Y=>?_;have hm:=P'.lt x y (by rw[len];exact j) (by rw[len];exact Y);rw[len] at hm;rw[Zh1 P O hu Y,J hm,VE P O j Y]
 ·rw[len,<-F.mt s q M,<-su λx=>mmf n (Xv t n p e z dg s x) (Xv t n p e z dg s x) q]
  exact Num.ZA _ _ _ λy Y=>by rw[J Y]
 ·obtain⟨x,j,h⟩:=F.un s s' h1 h2 ne
  have hp:=Wh O j;refine⟨pos o x,by rw[len];exact hp.1,?_⟩;rw[J hp.1,J hp.1,hp.2];exact h
theorem Zpe {n k:Nat}(j:1<=n)(f:Bool):rx f n k<n:=by
 unfold rx;split <;> exact bi _ j
def pm (f:Bool)(n:Nat)(R:T8)(a b:TZ)(z:Nat):Int:=Num.ZF n λq=>Num.co b q*Num.ZF n λi=>Num.co a i*Num.rh n R (i+rx f n q) z
theorem ZnJ (n:Nat)(a b:TZ)(z:Nat):mmf n a b z=pm true n (N46.RN n) a b z:=by
 unfold mmf pm Num.mm flV rx;rw[Num.W1 n n (λj J=>Num.co a J*Num.co b ((n-j) % n)*Num.rh n (N46.RN n) (J+j) z),<-Num.Zka];refine Num.ZA _ _ _ λq M=>?_;rw[Num.Yv];refine Num.ZA _ _ _ λi _=>?_;rw[Num.Zjd M,bG (Num.co a i),aZ,if_pos rfl]
theorem ZnH (n:Nat)(a b:TZ)(z:Nat):mmp n a b z=pm false n (N46.RN n) a b z:=by
 unfold mmp pm Num.mm rx;rw[Num.W1 n n (λj J=>Num.co a J*Num.co b j*Num.rh n (N46.RN n) (J+j) z)];refine Num.ZA _ _ _ λq M=>?_;rw[Num.Yv];refine Num.ZA _ _ _ λi _=>?_;rw[bG (Num.co a i),aZ,if_neg (by decide),aT M]
theorem Zjv {n:Nat}{R:T8}(f:Bool)(j:1<=n)(hR:R.length=n)(a:TZ)(z:Nat):∀(b:TZ) (k:Nat) (ZJ:TZ),Num.co (pfS f n R a b k ZJ) z=Num.co ZJ z+Num.ZF b.length λq=>Num.co b q*Num.ZF n λi=>Num.co a i*Num.rh n R (i+rx f n (k+q)) z
 | [],k,ZJ=>by rw[pfS];exact (a5 _).symm
 |x::b,k,ZJ=>by
  rw[pfS,Zjv f j hR a z b (k+1),Zi,Num.ZF,Num.YG];have e:Num.co (if x=0 then ZJ else Num.Zdk (Num.vsc x a) (Num.Zei R (rx f n k)) ZJ) z=Num.co ZJ z+x*Num.ZF n λi=>Num.co a i*Num.rh n R (i+rx f n (k+0)) z:=by
   by_cases h:x=0
   ·rw[if_pos h,h,bc,a5]
   ·rw[if_neg h,Num.Zch,Num.ZeM hR (Zpe j f),dH,Num.Yv]
    congr 1;refine Num.ZA _ _ _ λi _=>?_;rw[Num.JT,aZ]
  rw[e,kO];congr 2;refine Num.ZA _ _ _ λq _=>?_;rw[Num.Y2,show k+1+q=k+(q+1) by omega]
theorem ZmB {n:Nat}{R:T8}(f:Bool)(j:1<=n)(hR:R.length=n){a b:TZ}(hb:b.length<=n)(z:Nat)(k:Int)(ZJ:TZ):Num.co (pfS f n R (Num.vsc k a) b 0 ZJ) z=Num.co ZJ z+k*pm f n R a b z:=by
 rw[Zjv f j hR];unfold pm;rw[Num.Zhs hb (λq J _=>by rw[Num.WL J,bc]),Num.Yv];congr 1;refine Num.ZA _ _ _ λq _=>?_;rw[gE,nO,Num.Yv k];congr 1;refine Num.ZA _ _ _ λi _=>?_;rw[Num.JT,aZ]
theorem Us (k j:Nat):Num.co (aq k 0) j=0:=by
 unfold Num.co;rw[Zb,bQ];split <;> rfl
theorem Zn9 (top:Nat)(x:Int)(z:Nat):Num.co (hdL top x) z=if z=0 then x else 0:=by
 unfold hdL;cases z with
 |zero=>rw[Num.YG,if_pos rfl]
 |succ z=>rw[Num.Y2,Us,if_neg (by omega)]
theorem Zl9 (l:T7)(c:Nat):(l.filter (· == c)).length=sm l.length λy=>Wm (decide (l.getD y 0=c)):=by
 have e:l=(ac l.length).map λy=>l.getD y 0:=a7 λi=>by
  by_cases j:i<l.length
  ·rw[Zc,ah j,Zf j]
   show _=some (l.getD i 0);rw[Zb,Zf j];rfl
  ·rw[ai (by omega),ai (by rw[Za,Zg];omega)]
 have h:=congrArg (λk=>(k.filter (· == c)).length) e;rw[jW,Za,Jr] at h;exact h
theorem Zjw {t:T9}{D:Dt}{Y:Dx}(s i j z:Nat):∀N,Num.co (gaV t D Y s i j N) z=Num.ZF N λy=>(Wm (decide (D.cl.getD y 0=j)):Int)*Num.co (at3 Y.X s (D.cl.getD (ZO t (D.rp.getD i 0) y) 0)) z
 |0=>Us _ _
 |N+1=>by
  rw[gaV,Num.YC];by_cases h:D.cl.getD N 0=j
  ·rw[if_pos h,Num.Wu,Zjw s i j z N,decide_eq_true h]
   exact congrArg _ (fc _).symm
  ·rw[if_neg h,Zjw s i j z N,decide_eq_false h]
   exact ((congrArg _ (bc _)).trans (a5 _)).symm
section
variable {nu rep:Nat->Nat}{N:Nat}
theorem UA (U:Nus t nu rep N)(G:Nat->Int)(q:∀w,w<t.length->G (rep (nu w))=G w):Num.ZF N (λk=>((siz t nu k:Nat):Int)*G (rep k))=Num.ZF t.length G:=by
 have e:∀k,((siz t nu k:Nat):Int)*G (rep k)=Num.ZF t.length λw=>(Wm (decide (nu w=k)):Int)*G (rep k):=λk=>by
  unfold siz;rw[Uf,bG,Num.Yv];exact Num.ZA _ _ _ λw _=>bG _ _
 rw[Num.ZA _ _ _ λk _=>e k,Num.W1];refine Num.ZA _ _ _ λw j=>?_;rw[Num.Jw N (nu w) _ (U.lt w j) (λk _ ne=>by rw[decide_eq_false (bf ne)];exact bc _),decide_eq_true rfl,q w j];exact fc _
end
theorem Zng {t:T9}{n m:Nat}{X:Nat->Nat->TZ}(P:PW t)(U:Nus t (Yl t) (ZK t) m)(F:PuC t n m X){s:Nat}(hs:s<m)(hc:∀x,x<t.length->X s (ZK t (Yl t x))=X s x){i j:Nat}(hi:i<m)(M:j<m)(z:Nat) :
  Num.co (X s 0) 0*Num.ZF m (λk=>((siz t (Yl t) k:Nat):Int)*(((cnL t i j k:Nat):Int)*Num.co (X s (ZK t k)) z))=((siz t (Yl t) i:Nat):Int)*(((siz t (Yl t) j:Nat):Int)*mmp n (X s (ZK t i)) (X s (ZK t j)) z):=by
 have cn:∀k,k<m->cnL t i j k=Vw t (Yl t) i j (ZK t k):=λk _=>Z5 λx _=>by
  unfold cnT;rw[<-Zlv,<-Bool.decide_and];unfold Wm;by_cases h:Yl t x=i/\Yl t (ZO t (Yx t x) (ZK t k))=j
  ·rw[if_pos h,decide_eq_true h];rfl
  ·rw[if_neg h,decide_eq_false h];rfl
 rw[Num.ZA m _ (λk=>((siz t (Yl t) k:Nat):Int)*(((Vw t (Yl t) i j (ZK t k):Nat):Int)*Num.co (X s (ZK t k)) z)) λk hk=>by rw[cn k hk]];rw[UA U (λw=>((Vw t (Yl t) i j w:Nat):Int)*Num.co (X s w) z) λw hw=>by rw[Zob P U hw,hc w hw]];have e1:∀w,w<t.length->((Vw t (Yl t) i j w:Nat):Int)*Num.co (X s w) z=Num.ZF t.length λx=>(Wm (decide (Yl t x=i)):Int)*((Wm (decide (Yl t (ZO t (Yx t x) w)=j)):Int)*Num.co (X s w) z):=λw _=>by
  unfold Vw;rw[Uf,bG,Num.Yv];exact Num.ZA _ _ _ λx _=>by rw[bG,aI,aZ]
 rw[Num.ZA _ _ _ e1,Num.W1,Num.Yv];have e2:∀x,x<t.length->Num.co (X s 0) 0*Num.ZF t.length (λw=>(Wm (decide (Yl t x=i)):Int)*((Wm (decide (Yl t (ZO t (Yx t x) w)=j)):Int)*Num.co (X s w) z))=(((siz t (Yl t) j:Nat):Int)*mmp n (X s (ZK t i)) (X s (ZK t j)) z)*(Wm (decide (Yl t x=i)):Int):=λx q=>by
  obtain⟨O,b2⟩:=Yc P q;have hl:=Zar P q;have Y:=U.rl j M;rw[<-Num.Yv,<-Num.Ue (m:=t.length) (π:=ZO t x) (λy J=>P.lt _ _ q J) (λa b ha hb h=>by rw[<-P.one a ha,<-P.one b hb,<-hl,P.ass _ _ _ O q ha,P.ass _ _ _ O q hb,h]) (λw=>(Wm (decide (Yl t (ZO t (Yx t x) w)=j)):Int)*Num.co (X s w) z)];have e3:Num.ZF t.length (λy=>(Wm (decide (Yl t (ZO t (Yx t x) (ZO t x y))=j)):Int)*Num.co (X s (ZO t x y)) z)=Num.ZF t.length λy=>(Wm (V8 t (ZK t j) y):Int)*Num.co (X s (ZO t x y)) z:=Num.ZA _ _ _ λy J=>by
   rw[<-P.ass _ _ _ O q J,hl,P.one y J,Zal P Y J,U.rn j M]
  have e4:siz t (Yl t) j=sm t.length λy=>Wm (V8 t (ZK t j) y):=Z5 λy J=>by rw[Zal P Y J,U.rn j M]
  rw[e3,e4,nO,<-F.pr s x _ z hs q Y,bG];by_cases h:Yl t x=i
  ·rw[<-h,hc x q]
  ·rw[decide_eq_false h]
   exact (bv _).trans (bv _).symm
 rw[Num.ZA _ _ _ e2,<-Num.Yv,<-Uf,bG];rfl
theorem ZkA {t:T9}{bs:T7}{D:Dt}{Y:Dx}(P:PW t)(h:tdB t bs D=true)(q:xvB t D Y=true)(M:puB t D Y=true):PuC t D.n D.rp.length (Xv t D.n D.p (eD D) D.z λs=>D.dg.getD s 0):=by
 have T:=Zl5 P h;have C:ClW t (λx=>D.cl.getD x 0) (λk=>D.rp.getD k 0) D.rp.length:=by
  unfold tdB at h;simp only[ag] at h;obtain⟨⟨⟨⟨⟨⟨⟨⟨⟨⟨⟨⟨⟨⟨⟨_,_⟩,_⟩,_⟩,_⟩,_⟩,_⟩,_⟩,h9⟩,n9⟩,_⟩,_⟩,_⟩,_⟩,_⟩,_⟩:=h;exact Zjz P h9 n9
 have n1:=T.n1;have Gd:=(N46.V3 n1 T.n60).1;have tn:=Gd.tn;unfold xvB at q;rw[ag,ag,decide_eq_true_eq] at q;obtain⟨⟨n6,O⟩,o0⟩:=q;have O:=eq_of_beq O;have hR:Y.R.length=D.n:=by rw[<-O];exact Gd.len
 generalize hX:(Xv t D.n D.p (eD D) D.z λs=>D.dg.getD s 0)=X;have xl:∀s x,(X s x).length=N46.Y5 D.n:=λs x=>by rw[<-hX];exact Zbc s x
 have n8:∀s x y,s<D.rp.length->x<t.length->y<t.length->X s (tb t x y)=X s x:=λs x y j q J=>by rw[<-hX];exact ZdO P (λa b ha hb=>T.cd.ec s a b j ha hb) q J
 have at':∀s x,s<D.rp.length->x<t.length->X s x=at3 Y.X s (D.cl.getD x 0):=λs x j q=>by
  have hc:=C.lt x q;obtain⟨y,J,ey⟩:=C.tr x q;have h1:=n8 s _ y j (C.rl _ hc) J;rw[ey] at h1;rw[h1,<-eq_of_beq (Yw (Yw o0 j) hc),<-hX];unfold Xv ZiG;rw[n6,O];rfl
 have rp:∀s c,s<D.rp.length->c<D.rp.length->X s (D.rp.getD c 0)=at3 Y.X s c:=λs c j hc=>by rw[at' s _ j (C.rl c hc),C.rn c hc]
 unfold puB at M;rw[ag] at M;obtain⟨hl,M⟩:=M;have hl:=eq_of_beq hl;have c0:D.cl.getD 0 0=0:=(C.z 0 P.n1).mpr rfl;have U:∀s,s<D.rp.length->_:=λs j=>Yw M j;simp only[ag,decide_eq_true_eq] at U;have sz:∀u,u<t.length->(sm t.length λy=>Wm (V8 t u y))=szD D (D.cl.getD u 0):=λu M=>by
  unfold szD;rw[Zl9,hl];exact Z5 λy J=>by rw[C.cj P M J]
 refine⟨xl,λs x i j q=>?_,λs j=>?_,λs x u z j q M=>?_,λs z j=>?_,λs s' h1 h2 ne=>?_⟩
 ·rw[at' s x j q]
  by_cases hi:i<(at3 Y.X s (D.cl.getD x 0)).length
  ·have:=aD.mp (Yw (U s j).2 (C.lt x q)) _ (az (Num.Wv hi))
   rw[ag,decide_eq_true_eq,decide_eq_true_eq] at this;exact this
  ·rw[Num.WL (by omega)]
   exact⟨by decide,by decide⟩
 ·rw[at' s 0 j P.n1,c0,n6]
  exact⟨(U s j).1.1.1.1.1,eq_of_beq (U s j).1.1.1.1.2⟩
 ·have hi:=C.lt x q
  have hj:=C.lt u M;have hr:=C.rl _ hi;obtain⟨g,hg,eg⟩:=C.tr x q;have e:Num.co _ z=Num.co _ z:=congrArg (λl=>Num.co l z) (eq_of_beq (Yw (Yw (U s j).1.1.2 hi) hj));rw[ZmB false n1 hR (by rw[<-at' s u j M,xl];exact tn),Us,ce,Num.JT,Zjw,<-O,<-ZnH,<-at' s x j q,<-at' s u j M] at e;rw[sz u M,e,at' s 0 j P.n1,c0];congr 1;rw[<-Num.Ue (m:=t.length) (π:=λy=>tb t y g) (λy J=>XM P J hg) (λa b ha hb h=>by
   have h1:=Xt P ha hg;have h2:=Xt P hb hg;rw[show tb t a g=tb t b g from h] at h1;exact h1.symm.trans h2) (λy=>(Wm (V8 t u y):Int)*Num.co (X s (ZO t x y)) z)]
  refine Num.ZA _ _ _ λy J=>?_;show _=(Wm (V8 t u (tb t y g)):Int)*Num.co (X s (ZO t x (tb t y g))) z;have hm:=P.lt _ _ hr J;rw[<-at' s _ j hm,C.cj P M (XM P J hg),C.con y g J hg,<-n8 s _ g j hm hg,Uw P hg hr J,eg]
 ·have e:Num.co _ z=Num.co _ z:=congrArg (λl=>Num.co l z) (eq_of_beq (U s j).1.1.1.2)
  rw[Zn9] at e;rw[<-e];have rV:∀c,c<=D.rp.length->Num.co (Zkp D Y s c) z=Num.ZF c λc=>((szD D c:Nat):Int)*mmf D.n (at3 Y.X s c) (at3 Y.X s c) z:=λc=>by
   induction c with
   |zero=>intro _;exact Us _ _
   |succ c ih=>
    intro hc;rw[Zkp,ZmB true n1 hR (by rw[<-rp s c j (by omega),xl];exact tn),ih (by omega),Num.YC,<-O,<-ZnJ]
  rw[rV _ (Zq _)];have NU:Nus t (λx=>D.cl.getD x 0) (λk=>D.rp.getD k 0) D.rp.length:=⟨C.lt,C.con,λx y q J h=>Xm.mp (by rw[C.cj P q J];exact decide_eq_true h.symm),C.rl,C.rn,C.z⟩;rw[<-UA NU (λx=>mmf D.n (X s x) (X s x) z) λw hw=>by rw[rp s _ j (C.lt w hw),<-at' s w j hw]];refine Num.ZA _ _ _ λc hc=>?_;unfold szD siz;rw[Zl9,hl,rp s c j hc]
 ·have:=Yw (U s h1).1.2 h2
  rw[beq_eq_false_iff_ne.mpr ne,fW] at this;obtain⟨c,hc,h⟩:=Zds this;refine⟨_,C.rl c hc,?_⟩;rw[rp s c h1 hc,rp s' c h2 hc];exact λz=>absurd (beq_iff_eq.mpr z) (by rw[bne,dX] at h;rw[h];decide)
theorem ZpO:∀x∈Zdw,x.2.rp.length<=10:=by
 have:(Zdw.all λx=>decide (x.2.rp.length<=10))=true:=by decide +kernel
 exact λx j=>of_decide_eq_true (aD.mp this x j)
theorem ZnK {t:T9}{os:T7}(h:MkC t)(O:Ord t.length os):∃(n p m:Nat) (e M Y:Nat->Nat->Nat) (z:Nat) (J:Nat->Nat),m<=10/\TD (ren t os) n p m e M Y z J/\PuC (ren t os) n m (Xv (ren t os) n p e z J):=by
 have P:=ZbR h;obtain⟨i,hi⟩:=bn h;have il:=(ae.mp hi).1;have n6:tbC.length=31:=by decide +kernel
 have j:=okC i (by omega);have q:=xBa i (by omega);unfold okB at j;unfold xB at q;have et:tbC.getD i []=t:=by rw[Zb,hi];rfl
 rw[et] at j q;simp only[ag] at j q;have n8:Zdw.length=31:=by decide +kernel
 have D:=Zl5 P j.2;exact⟨_,_,_,_,_,_,_,_,ZpO (Zdw.getD i d0) (by rw[Zb,Zf (by omega)];exact bB _),D.ren P O,Znb P O (ZkA P j.2 q.1 q.2)⟩
noncomputable abbrev Zo6:Stmt:=tq 49
inductive Zhz (vs:TV) (H:Hp) (Q:VK) (E03:XK):Prop
 |mk (n:Nat) (a:Addr) (ys:T8):(vs=[.int n,.int (ys.length:Nat),.ref a])->(1<=n)->(n<=60)->(RowT H a ys)->((∀y∈ys,y.length=N46.Y5 n))->(∀H',Zv H H'->Q (.bl true) H')->Zhz vs H Q E03
theorem Znw (F:WB K "_law_is_spread" "_law_is_spread" Zo6 f fd)(T:Bl mg)(GP:Fn P w K mg base Yg 2 "_law_places" ["_law_n"] Zhx):Z4 P w K mg base Yg 3 f fd ["_law_n", "_law_many", "_law_thing"] Zhz:=by
 refine F.ok (FS (N:=["_law_n", "_law_many", "_law_thing", "_law_wide_here", "_law_number", "_law_one"])) (λvs H Q E h=>?_) (λn9 A n6 s H vs Q E hr h=>?_)
 ·obtain⟨n,a,ys,rfl,_⟩:=h;rfl
 ·obtain⟨n,a,ys,rfl,n1,n60,RT,hy,q⟩:=h
  refine⟨_,Zs (Y3 (VX (XV (Wz (cb (ZiX K "tuple") T.isi (pc (vn 2) (pc (tyv "tuple" T.tuple) Zt))))) (XU (ZL WI (cb (Ym K) T.len (pc (vn 2) Zt)) (vn 1) (ZR _)))).pt (Zw (ZE Xe)) Ya)
   (Zs (ZG 3 rfl (Wn GP hr ZM (pc (vn 0) Zt)))
   (Zs (ZN am rfl (itT K (vn 2)) (gn 4)
   (Zs (Y3 (VX (XV (Wz (cb (ZiX K "tuple") T.isi (pc (vn 4) (pc (tyv "tuple" T.tuple) Zt))))) (XU (ZL WI (cb (Ym K) T.len (pc (vn 4) Zt)) (vn 3) (ZR _)))).pt (Zw (ZE Xe)) Ya)
   (Zw (ZN am rfl (itT K (vn 4)) (gn 5)
   (Zw (Y3 (VX (XV (Wz (cb (ZiX K "int") T.isi (pc (vn 5) (pc (tyv "int" T.int) Zt))))) (XU (Wz (cb (ZiX K "bool") T.isi (pc (vn 5) (pc (tyv "bool" T.bool) Zt)))))).pt (Zw (ZE Xe)) Ya))))))
   (Zw (ZE Xe)))),?_⟩
  obtain⟨rs,h1,h2,h3⟩:=id RT;refine⟨_,rfl,_,_,rfl,⟨.tup h1,by decide⟩,_,rfl,?_⟩;refine Ye (λh=>absurd h (by decide)) (λ_=>?_);refine⟨_,rfl,a,_,rfl,.inr (.of h1),_,rfl,rfl,_,rfl,?_⟩;refine Ye (λh=>absurd h (by rw[Za,h2];simp)) (λ_=>?_);refine⟨_,rfl,n,rfl,n1,n60,λH1 s1=>?_⟩;refine⟨_,rfl,a,rfl,⟨_,.of (s1 _ _ h1)⟩,?_⟩;refine WV (We (K:=K) (.of (s1 _ _ h1))) (λk J Y=>∃v4 M:TU,J=[some (.int n),some (.int (ys.length:Nat)),some (.ref a),some (.int (N46.Y5 n:Nat)),v4,M]/\Zv H1 Y) ⟨_,_,rfl,Zv.refl _⟩ (λi J Y h=>by obtain⟨_,_,_,sm⟩:=h;exact sm) ?_ ?_
  ·rintro k y J H2 n8 ⟨v4,M,rfl,s2⟩
   obtain⟨b,hb,rfl⟩:=UP n8;obtain⟨y,e1,O⟩:=h3 k b hb;have O:=s2 _ _ (s1 _ _ O);refine⟨_,rfl,_,_,rfl,⟨.tup O,by decide⟩,_,rfl,?_⟩;refine Ye (λh=>absurd h (by decide)) (λ_=>?_);refine⟨_,rfl,b,_,rfl,.inr (.of O),_,rfl,rfl,_,rfl,?_⟩;refine Ye (λh=>absurd h (by rw[Za,hy y (az e1)];simp)) (λ_=>?_);refine⟨_,rfl,b,rfl,⟨_,.of O⟩,?_⟩;refine WV (We (K:=K) (.of O)) (λk J Y=>∃M:TU,J=[some (.int n),some (.int (ys.length:Nat)),some (.ref a),some (.int (N46.Y5 n:Nat)),some (.ref b),M]/\Zv H2 Y) ⟨_,rfl,Zv.refl _⟩ (λi J Y h=>by obtain⟨_,_,sm⟩:=h;exact sm) ?_ ?_
   ·rintro j v J H3 hv ⟨M,rfl,s3⟩
    obtain⟨x,_,rfl⟩:∃x,y[j]?=some x/\v=.int x:=by
     rw[Zc] at hv;cases e:y[j]? with
     |none=>rw[e] at hv;cases hv
     |some r=>rw[e] at hv;exact⟨r,rfl,(aB hv).symm⟩
    refine⟨_,rfl,_,_,rfl,⟨.int x,by decide⟩,_,rfl,?_⟩;refine Ye (λh=>absurd h (by decide)) (λ_=>?_);refine⟨_,rfl,_,_,rfl,⟨.int x,by decide⟩,_,rfl,?_⟩;refine Ye (λh=>absurd h (by decide)) (λ_=>?_);exact⟨_,rfl,s3⟩
   ·rintro J H3 ⟨M,rfl,s3⟩
    exact⟨_,_,rfl,s2.trans s3⟩
  ·rintro J H2 ⟨v4,M,rfl,s2⟩
   exact q H2 (s1.trans s2)
noncomputable abbrev Zo7:Stmt:=tq 50
def RwC (H:Hp)(L:Addr)(n m:Nat)(j:Nat->TZ):Prop:=∃rs:TW,H L=some (.lst (rs.map V.ref))/\rs.length=m/\∀(c:Nat) r,rs[c]?=some r->H r=some (.lst (ZI n (Num.co (j c))))
theorem RwC.mono {H j:Hp}{L:Addr}{n m:Nat}{q:Nat->TZ}(h:RwC H L n m q)(s:Zv H j):RwC j L n m q:=by
 obtain⟨J,M,O,Y⟩:=h;exact⟨J,s _ _ M,O,λc r hc=>s _ _ (Y c r hc)⟩
theorem RwC.at {H:Hp}{L:Addr}{n m:Nat}{j:Nat->TZ}(h:RwC H L n m j){c:Nat}(M:c<m):∃(xs:TV) (r:Addr),H L=some (.lst xs)/\X8 xs (c:Int)=some (.ref r)/\H r=some (.lst (ZI n (Num.co (j c)))):=by
 obtain⟨rs,q,O,J⟩:=h;have e:rs[c]?=some (rs.getD c 0):=by rw[Zb,Zf (by omega)];rfl
 exact⟨_,rs.getD c 0,q,ZH (by rw[Zc,e];rfl),J c _ e⟩
theorem Zhe {n:Nat}(j:1<=n)(x:Int):[V.int x]++(aq (n-1) [V.int 0]).flatten=ZI n λi=>if i=0 then x else 0:=by
 rw[JM];obtain⟨k,rfl⟩:∃k,n=k+1:=⟨n-1,by omega⟩;unfold ZI;rw[kQ,aG,aK];rfl
theorem Zlf {n:Nat}(J:1<=n)(j:n<=60)(x:Int){z:Nat}(hz:z<N46.Y5 n):Num.me n (N46.RN n) (λi=>if i=0 then x else 0) z=if z=0 then x else 0:=by
 have q:=(N46.V3 J j).1;have e:=Num.ZiN (n:=n) (R:=N46.RN n) (λ_=>0) x (show 0<n by omega) z;rw[e,Num.ZbT];have:Num.rh n (N46.RN n) 0 z=if z=0 then 1 else 0:=by
  unfold Num.rh;rw[lG,q.un 0 q.t1,Num.Jk hz]
 rw[this];split <;> omega
structure FaC (H:Hp)(r:Addr)(n N m:Nat)(sz:Nat->Nat)(cn:Nat->Nat->Nat->Nat):Prop where
 n1:1<=n
 n60:n<=60
 N60:N<=60
 m1:1<=m
 m60:m<=60
 s60:∀c,c<m->sz c<=60
 c60:∀i j k,cn i j k<=60
 st:∃(L2 L3:Addr) (x4 x5:V) (A:Nat->Addr) (B:Nat->Nat->Addr) (Hb:Hp),H r=some (.tup [.int n,.int N,.ref L2,.ref L3,x4,x5])/\H L2=some (.lst (ZI m λc=>((sz c:Nat):Int)))/\N3 Hb H L3 m A B cn
theorem FaC.mono {H j:Hp}{r:Addr}{n N m:Nat}{sz:Nat->Nat}{q:Nat->Nat->Nat->Nat}(F:FaC H r n N m sz q)(s:Zv H j):FaC j r n N m sz q:=by
 obtain⟨L2,J,M,O,A,B,Y,a,b,c⟩:=F.st;exact⟨F.n1,F.n60,F.N60,F.m1,F.m60,F.s60,F.c60,L2,J,M,O,A,B,Y,s _ _ a,s _ _ b,c.mono s⟩
structure PuZ (n N m:Nat)(sz:Nat->Nat)(cn:Nat->Nat->Nat->Nat)(Z:Nat->TZ):Prop where
 len:∀c,(Z c).length=N46.Y5 n
 bd:∀c i,c<m->-(2 ^ 20)<Num.co (Z c) i/\Num.co (Z c) i<2 ^ 20
 fs:1<=Num.co (Z 0) 0/\Z 0=hdL (N46.Y5 n) (Num.co (Z 0) 0)
 pr:∀i j z,i<m->j<m->Num.co (Z 0) 0*Num.ZF m (λk=>((sz k:Nat):Int)*(((cn i j k:Nat):Int)*Num.co (Z k) z))=((sz i:Nat):Int)*(((sz j:Nat):Int)*mmp n (Z i) (Z j) z)
 mt:∀z,Num.ZF m (λc=>((sz c:Nat):Int)*mmf n (Z c) (Z c) z)=if z=0 then (N:Int) else 0
theorem ZqZ {H:Hp}{a:Addr}{m:Nat}{Z:Nat->TZ}(h:RowT H a ((ac m).map Z)):∃rs:TW,H a=some (.tup (rs.map V.ref))/\rs.length=m/\∀(c:Nat) r,rs[c]?=some r->H r=some (.tup ((Z c).map V.int)):=by
 obtain⟨rs,M,j,O⟩:=h;rw[Za,Zg] at j;refine⟨rs,M,j,λc r q=>?_⟩;obtain⟨y,J,Y⟩:=O c r q;have:c<m:=by rw[<-j];exact (ae.mp q).1
 rw[Zc,ah this] at J;cases J;exact Y
inductive ZhA (vs:TV) (H:Hp) (Q:VK) (E03:XK):Prop
 |mk (r a:Addr) (n N m:Nat) (sz:Nat->Nat) (cn:Nat->Nat->Nat->Nat) (Z:Nat->TZ):(vs=[.ref r,.ref a])->(FaC H r n N m sz cn)->(PuZ n N m sz cn Z)->(RowT H a ((ac m).map Z))->(∀H',Zv H H'->Q (.str "") H')->ZhA vs H Q E03
theorem Zoa (x:Int)(k:Nat):(X2 ((hdL (k+1) x).map V.int) (some 1) none).countP (λz=>Uo z (.int 0))=k:=by
 have e:X2 ((hdL (k+1) x).map V.int) (some 1) none=aq k (V.int 0):=by
  unfold X2 hdL;rw[show ((1:Int))=((1:Nat):Int) from rfl,HT.Xx,HT.ZcP,aG,Zi,Za,Ze,List.map_replicate];rw[show min 1 (k+1-1+1)=1 by omega,show k+1-1=k by omega,mG,iL,show k+1-1=k by omega,iz (by rw[Ze];exact Zq _)]
 rw[e,List.countP_replicate];rfl
theorem Zpw {n:Nat}(u:Nat->Int)(x y:Int)(z:Nat):Num.me n (N46.RN n) (λi=>u i*x*y) z=x*(y*Num.me n (N46.RN n) u z):=by
 have e:Num.me n (N46.RN n) (λi=>u i*x*y) z=Num.me n (N46.RN n) (λi=>0+x*y*u i) z:=Num.ZiO (λi _=>by rw[ce,aZ,bG]) z;rw[e,Num.Zey (λ_=>0),Num.ZbT,ce,aZ]
theorem Zp2 {d:Int}{x y:Nat}(J:-(2 ^ 20)<d)(M:d<2 ^ 20)(j:x<=60)(q:y<=60):-(2 ^ 64)<0-d*(x:Int)*(y:Int)/\0-d*(x:Int)*(y:Int)<2 ^ 64:=by
 have h:(d*(x:Int)*(y:Int)).natAbs<=2 ^ 20*60*60:=by
  rw[Int.natAbs_mul,Int.natAbs_mul,jm,jm];exact gM (gM (by omega) j) q
 omega
noncomputable abbrev st9 (r a L2 j:Addr)(n N:Nat)(q J:V)(d:Int)(M:Addr)(l:List TU):List TU:=some (.ref r)::some (.ref a)::some (.int n)::some (.int N)::some (.ref L2)::some (.ref j)::some q::some J::some (.int d)::some (.ref M)::l
theorem Znx (F:WB K "_law_fault" "_law_fault" Zo7 f fd)(T:Bl mg)(GW:Fn P w K mg base Yg 1 "_law_wide" ["_law_n", "_law_number"] ZdZ)(GS:Fn P w K mg base Yg 1 "_law_sum" ["_law_one", "_law_other", "_law_often"] Zd0)(GM:Fn P w K mg base Yg 1 "_law_mul" ["_law_n", "_law_one", "_law_other"] Zd3)(q0:Fn P w K mg base Yg 1 "_law_flip" ["_law_n", "_law_one"] ZhB)(GN:Fn P w K mg base Yg 1 "_law_is_nought" ["_law_n", "_law_row"] Zd2):Z4 P w K mg base Yg 2 f fd ["_law_facts_here", "_law_spread"] ZhA:=by
 refine F.ok (FS (N:=["_law_facts_here", "_law_spread", "_law_n", "_law_count", "_law_sizes", "_law_counts_here", "_law_classes_here", "_law_met", "_law_first", "_law_rows", "_law_i", "_law_j", "_law_left", "_law_k"])) (λvs H Q E h=>?_) (λx9 A r6 s H vs Q E hr h=>?_)
 ·obtain⟨r,a,n,N,m,sz,cn,Z,rfl,_⟩:=h;rfl
 ·obtain⟨r,a,n,N,m,sz,cn,Z,rfl,FA,PZ,RT,q⟩:=h
  refine⟨_,Zs (Jp (vn 0) (ZbJ rfl (YE (gnf 2 rfl) (YE (gn 3) (YE (gnf 4 rfl) (YE (gn 5) (YE (gn 6) (YE (gn 7) Uk))))))))
   (Zs (ZG 8 rfl (ZD (JE K) (ZD (JE K) (vn 1) Zx (λ_ _=>rfl)) Zx (λ_ _=>rfl)))
   (Zs (Y3 (VX (ZL Zc5 (vn 8) Zx (ZR _)) (XU (ZL WI (ZbK eK ly PySem.F.type_tuple_count (ZoP K) (Vn (ZoZ K) (ZD (JE K) (vn 1) Zx (λ_ _=>rfl)) (Ui Zx) Uj) (pc Zx Zt)) (Zy YB (cb (Ym K) T.len (pc (ZD (JE K) (vn 1) Zx (λ_ _=>rfl)) Zt)) Zx) (ZR _)))).pt (Zw (ZE Y7)) Ya)
   (Zs (ZbA 9 ["_law_number"] [2] ["_law_number", "_law_n"] rfl rfl (itT K (vn 1)) (λ_ _ _ _ _=>gn 0) (λ_ _ _ _ _=>ZP) (λ_ _ _ _ _=>Wn GW hr ZM (pc (vn 1) (pc (vn 0) Zt))))
   (Zs (ZN am rfl (WG T.range (pc (cb (Ym K) T.len (pc (vn 9) Zt)) Zt)) (gnf 10 rfl)
   (Zw (ZN am rfl (WG T.range (pc (Zy Yt (vn 10) Zx) Zt)) (gnf 11 rfl)
   (Zs (ZG 12 rfl (Wn GM hr ZM (pc (vn 2) (pc (ZD (WU K) (vn 9) (vn 10) (λ_ _=>rfl)) (pc (ZD (WU K) (vn 9) (vn 11) (λ_ _=>rfl)) Zt)))))
   (Zs (ZbA 12 ["_law_one"] [4,10,11] ["_law_one", "_law_sizes", "_law_i", "_law_j"] rfl rfl (itL K (vn 12)) (λ_ _ _ _ _=>gn 0) (λ_ _ _ _ _=>ZP) (λ_ _ _ _ _=>Zy ZQ (Zy ZQ (vn 0) (ZD (WU K) (vn 1) (vn 2) (λ_ _=>rfl))) (ZD (WU K) (vn 1) (vn 3) (λ_ _=>rfl))))
   (Zs (ZN am rfl (WG T.range (pc (cb (Ym K) T.len (pc (vn 9) Zt)) Zt)) (gn 13)
   (Zw (ZG 12 rfl (Wn GS hr ZM (pc (vn 12) (pc (ZD (WU K) (vn 9) (vn 13) (λ_ _=>rfl)) (pc (Zy YB Zx (Zy ZQ (Zy ZQ (vn 8) (ZD (WU K) (vn 4) (vn 13) (λ_ _=>rfl))) (ZD (WU K) (ZD (WU K) (ZD (WU K) (vn 5) (vn 10) (λ_ _=>rfl)) (vn 11) (λ_ _=>rfl)) (vn 13) (λ_ _=>rfl)))) Zt)))))))
   (Zw (Y3 (XV (Wz (Wn GN hr ZM (pc (vn 2) (pc (vn 12) Zt))))) (Zw (ZE Y7)) Ya))))))))
   (Zs (ZG 12 rfl (Zy VF (ZV (pc (Zy YB Zx (vn 3)) Zt)) (Zy W9 (ZV (pc Zx Zt)) (Zy YB (vn 2) Zx))))
   (Zs (ZN am rfl (WG T.range (pc (cb (Ym K) T.len (pc (vn 9) Zt)) Zt)) (gnf 10 rfl)
   (Zw (ZG 12 rfl (Wn GS hr ZM (pc (vn 12) (pc (Wn GM hr ZM (pc (vn 2) (pc (ZD (WU K) (vn 9) (vn 10) (λ_ _=>rfl)) (pc (Wn q0 hr ZM (pc (vn 2) (pc (ZD (WU K) (vn 9) (vn 10) (λ_ _=>rfl)) Zt))) Zt)))) (pc (ZD (WU K) (vn 4) (vn 10) (λ_ _=>rfl)) Zt)))))))
   (Zw (ZE (Zc2 (Wz (Wn GN hr ZM (pc (vn 2) (pc (vn 12) Zt)))) Y7 Y7))))))))),?_⟩
  have JL:=JL;obtain⟨n1,n60,N60,m1,m60,s60,c60,L2,L3,x4,x5,A',B,Hb,hF,h2,r8⟩:=FA;obtain⟨rs,a1,a2,a3⟩:=ZqZ RT;refine⟨_,rfl,r,_,rfl,.of hF,rfl,_,_,rfl,_,_,rfl,_,_,rfl,_,_,rfl,_,_,rfl,_,_,rfl,rfl,?_⟩;have Gd:=(N46.V3 n1 n60).1;have t1:=Gd.t1;have tn:=Gd.tn;have g0:rs[0]?=some (rs.getD 0 0):=by rw[Zb,Zf (by omega)];rfl
  have z0:=a3 0 _ g0;obtain⟨f1,f2⟩:=PZ.fs;obtain⟨b1,b2⟩:=PZ.bd 0 0 m1;have pr:=PZ.pr;generalize Num.co (Z 0) 0=d at f1 f2 b1 b2 pr;rw[f2] at z0;have ga:X8 (rs.map V.ref) 0=some (.ref (rs.getD 0 0)):=ZH (j:=0) (by rw[Zc,g0];rfl);refine⟨_,rfl,a,_,_,_,rfl,rfl,.of a1,ga,rs.getD 0 0,_,_,_,rfl,rfl,.of z0,ZH (j:=0) rfl,?_⟩;refine⟨_,rfl,_,_,rfl,rfl,_,rfl,?_⟩;refine Ye (λh=>absurd (of_decide_eq_true h) (by omega)) (λ_=>?_);obtain⟨tp,r9⟩:∃k,N46.Y5 n=k+1:=⟨N46.Y5 n-1,by omega⟩;rw[r9] at z0;refine⟨_,rfl,a,_,_,_,rfl,rfl,.of a1,ga,_,rfl,rs.getD 0 0,_,rfl,.of z0,?_,λp0 H0 s0 hz=>⟨⟨_,_,rfl,hz⟩,p0,_,.int 0,rfl,rfl,hz.sq,rfl,?_,?_⟩⟩
  ·rintro⟨e,_⟩
   rw[show (some (1:Int))=some ((1:Nat):Int) from rfl,HT.Xx,Za] at e;unfold hdL at e;rw[Zi] at e;omega
  ·refine aD.mpr λx hx=>?_
   obtain⟨y,_,rfl⟩:=aE.mp (List.mem_of_mem_drop (List.mem_of_mem_take hx));rfl
  rw[Zoa];refine⟨_,rfl,a,_,_,_,rfl,rfl,.of (s0 _ _ a1),ga,rs.getD 0 0,_,rfl,.inr (.of (s0 _ _ z0)),_,_,rfl,rfl,rfl,_,rfl,?_⟩;refine Ye (λh=>absurd h ?_) (λ_=>?_)
  ·unfold hdL
   rw[Za,Zi,Ze];show ¬(!decide (V.int (tp:Int)=V.int (((tp+1-1+1:Nat):Int)-1)))=true;rw[show (((tp+1-1+1:Nat):Int)-1)=(tp:Int) by omega];simp
  refine⟨_,rfl,a,rfl,⟨_,.of (s0 _ _ a1)⟩,?_⟩;refine Wt (W:=Addr) id (λj w H=>H w=some (.lst (ZI n (Num.co (Z j))))) (λw H=>H w=none) (We (K:=K) (.of (s0 _ _ a1))) [some (.int n)] rfl (by rw[Za,a2];omega) (λi w H H' s h=>s _ _ h) (λw H H' s h=>s.free h) (λi w H0 H1 D o ys y4 h h0 h1 h2=>by rw[Zz (λz=>by rw[z,h1] at h0;cases h0)];exact h) (λj y hy H2 s2 R2 k2=>?_) (λRw t5 H1 t6 s1 p3 vl p4 _=>?_)
  ·obtain⟨b,hb,rfl⟩:=UP hy
   exact⟨_,rfl,_,rfl,n,b,_,rfl,s2 _ _ (s0 _ _ (a3 j b hb)),by rw[PZ.len];exact tn,n60,λl H5 nl s5 hl=>k2 l H5 s5 hl nl⟩
  have RW:RwC H1 Rw n m Z:=⟨t5,p3,by rw[vl,Za,a2],λc r hc=>(p4 c r hc).1⟩;have o0:=s0.trans s1;have o5:=o0 _ _ h2;have N1:=r8.mono o0;have y6:∀{H':Hp}{xs:TV}{M:Nat},H' Rw=some (.lst xs)->RwC H' Rw n M Z->xs.length=M:=λh ⟨rs,k1,k2,_⟩=>by
   rw[h] at k1;cases k1;rw[Za,k2]
  clear t6 p3 vl p4 hz;obtain⟨y8,o6,lR⟩:∃xs:TV,H1 Rw=some (.lst xs)/\xs.length=m:=by
   obtain⟨rs,k1,k2,_⟩:=id RW;exact⟨_,k1,by rw[Za,k2]⟩
  refine⟨_,rfl,Rw,_,rfl,.inl (.of o6),_,rfl,by omega,by omega,?_⟩;rw[lR,Zj];refine ZT (λi J H'=>∃n6 Y n8 O:TU,J=st9 r a L2 L3 n N x4 x5 d Rw [n6,Y,n8,O]/\Zv H1 H') ⟨_,_,_,_,rfl,Zv.refl _⟩ ?_ ?_
  ·rintro i J H2 hi ⟨n6,Y,n8,O,rfl,s2⟩
   rw[show (0:Int)+(i:Int)=(i:Int) by omega];refine⟨_,rfl,_,_,rfl,rfl,_,rfl,by omega,by omega,?_⟩;rw[show ((i:Int)+1).toNat=i+1 by omega];refine ZT (λj J H'=>∃Y n8 O:TU,J=st9 r a L2 L3 n N x4 x5 d Rw [some (.int (i:Nat)),Y,n8,O]/\Zv H1 H') ⟨_,_,_,rfl,s2⟩ ?_ ?_
   ·rintro j J H3 hj ⟨Y,n8,O,rfl,s3⟩
    rw[show (0:Int)+(j:Int)=(j:Int) by omega];have n9:j<m:=by omega
    obtain⟨t7,r1,u1,u2,u3⟩:=(RW.mono s3).at hi;obtain⟨y9,r2,c1,c2,c3⟩:=(RW.mono s3).at n9;refine⟨_,rfl,_,rfl,_,rfl,Rw,_,_,_,rfl,rfl,.of u1,u2,_,rfl,_,rfl,Rw,_,_,_,rfl,rfl,.of c1,c2,n,r1,r2,_,_,rfl,n1,n60,u3,c3,λi1 i2 _ _=>.inl ?_,λl6 w6 H4 s4 h4 m4=>?_⟩
    ·obtain⟨q1,q2⟩:=PZ.bd i i1 hi
     exact⟨by omega,by omega⟩
    have p6:=s3.trans s4;refine⟨_,rfl,l6,rfl,⟨_,.of h4⟩,?_⟩;refine YZ (YV (K:=K) (.of h4)) [some (.ref L2),some (.int (i:Nat)),some (.int (j:Nat))] rfl (λk=>.int (w6 k*((sz i:Nat):Int)*((sz j:Nat):Int))) (by rw[Z1];omega) (λk y hy H5 s5 R g=>?_) (λla H5 _ s5 p7=>?_)
    ·have hk:k<n:=by
      have:=(ae.mp hy).1;rw[Z1] at this;exact this
     rw[Yn _ hk] at hy;cases hy;have hh:=s5 _ _ (p6 _ _ o5);have p1:=s60 i hi;have p2:=s60 j n9;exact⟨_,rfl,_,rfl,_,rfl,L2,_,_,_,rfl,rfl,.of hh,ZH (Yn _ hi),_,_,rfl,rfl,.inr ⟨by omega,by omega⟩,_,rfl,_,rfl,L2,_,_,_,rfl,rfl,.of hh,ZH (Yn _ n9),_,_,rfl,rfl,.inr ⟨by omega,by omega⟩,g H5 (Zv.refl _)⟩
    rw[Z1] at p7;have o7:=p6.trans s5;refine⟨_,rfl,Rw,_,rfl,.inl (.of (o7 _ _ o6)),_,rfl,by omega,by omega,?_⟩;rw[lR,Zj];refine ZT (λk J H'=>∃(c:Nat->Int) (la:Addr) (O:TU),J=st9 r a L2 L3 n N x4 x5 d Rw [some (.int (i:Nat)),some (.int (j:Nat)),some (.ref la),O]/\Zv H5 H'/\H' la=some (.lst (ZI n c))/\∀z,Num.me n (N46.RN n) c z=Num.me n (N46.RN n) (λk=>w6 k*((sz i:Nat):Int)*((sz j:Nat):Int)) z+Num.ZF k λk=>(0-d*((sz k:Nat):Int)*((cn i j k:Nat):Int))*Num.me n (N46.RN n) (Num.co (Z k)) z)
     ⟨_,la,_,rfl,Zv.refl _,p7,λz=>(a5 _).symm⟩ ?_ ?_
    ·rintro k J H6 hk ⟨c,lc,O,rfl,s6,h6,hc⟩
     rw[show (0:Int)+(k:Int)=(k:Int) by omega];have o8:=o7.trans s6;obtain⟨xs3,r3,d1,d2,d3⟩:=(RW.mono o8).at hk;have NN:=N1.mono o8;have p1:=s60 k hk;have p2:=c60 i j k;have t8:((ac m).map λi=>V.ref (A' i))[i]?=some (.ref (A' i)):=by rw[Zc,ah hi];rfl
     have t2:((ac m).map λj=>V.ref (B i j))[j]?=some (.ref (B i j)):=by rw[Zc,ah n9];rfl
     have t3:((Yd m (cn i j)).map nV)[k]?=some (nV (cn i j k)):=by
      unfold Yd;rw[Zc,Zc,ah hk];rfl
     refine⟨_,rfl,_,rfl,_,rfl,Rw,_,_,_,rfl,rfl,.of d1,d2,_,rfl,_,rfl,_,rfl,L2,_,_,_,rfl,rfl,.of (o8 _ _ o5),ZH (Yn _ hk),_,_,rfl,rfl,.inl ⟨by omega,by omega⟩,_,rfl,_,rfl,L3,_,_,_,rfl,rfl,.of NN.top,ZH t8,_,rfl,A' i,_,_,_,rfl,rfl,.of (NN.mid i hi),ZH t2,_,rfl,B i j,_,_,_,rfl,rfl,.of (NN.low i j hi n9),ZH t3,_,_,rfl,rfl,.inr ⟨by omega,by omega⟩,_,_,rfl,rfl,n,lc,r3,_,c,_,rfl,n60,h6,d3,?_,?_,λl7 H7 s7 h7=>?_⟩
     ·exact (Zp2 b1 b2 p1 p2).1
     ·exact (Zp2 b1 b2 p1 p2).2
     refine⟨_,l7,_,rfl,s6.trans s7,h7,λz=>?_⟩;rw[Num.Zey,hc,Num.YC,kO]
    ·rintro J H6 ⟨c,lc,O,rfl,s6,h6,hc⟩
     refine⟨_,rfl,_,rfl,n,lc,c,rfl,n1,n60,h6,λb H7 s7 hb=>?_⟩;have bt:b=true:=hb.mpr λz hz=>by
      rw[hc,Zpw,m4];have e:=pr i j z hi n9;have e2:Num.ZF m (λk=>(0-d*((sz k:Nat):Int)*((cn i j k:Nat):Int))*Num.me n (N46.RN n) (Num.co (Z k)) z)=-1*(d*Num.ZF m (λk=>((sz k:Nat):Int)*(((cn i j k:Nat):Int)*Num.co (Z k) z))):=by
       rw[Num.Yv,Num.Yv];refine Num.ZA _ _ _ λk hk=>?_;rw[Num.Zle Gd (by rw[PZ.len];exact Zq _) hz,Int.zero_sub,fe,fe,fc,aZ,aZ]
      rw[e2,e];unfold mmp;omega
     subst bt;refine⟨_,rfl,?_⟩;refine Ye (λh0=>absurd h0 (by decide)) (λ_=>?_);exact⟨_,_,_,rfl,(o7.trans s6).trans s7⟩
   ·rintro J H3 ⟨Y,n8,O,rfl,s3⟩
    exact⟨_,_,_,_,rfl,s3⟩
  ·rintro J H2 ⟨n6,Y,n8,O,rfl,s2⟩
   refine⟨_,rfl,_,_,rfl,rfl,JY,λl1 t9=>?_⟩;obtain⟨H3,e3,s3,h3⟩:=UX (o:=.lst [(λi j:Int=>V.int (i-j)) 0 (N:Int)]) t9;rw[e3];refine⟨JY,λl2 u5=>?_⟩;obtain⟨H4,e4,s4,h4⟩:=UX (o:=.lst [.int 0]) u5;rw[e4];refine⟨_,rfl,_,_,rfl,rfl,l2,_,_,rfl,rfl,h4,by omega,by omega,(by show 1*_<=_;omega),λl3 u9=>?_⟩;rw[show ((n:Int)-1).toNat=n-1 by omega];obtain⟨H5,e5,s5,h5⟩:=UX (o:=.lst (aq (n-1) [V.int 0]).flatten) u9;rw[e5];refine⟨l1,l3,_,_,rfl,rfl,s5 _ _ (s4 _ _ h3),h5,(by rw[Zb2];show 1+_*1<=_;omega),λl4 w8=>?_⟩;rw[show [(λi j:Int=>V.int (i-j)) 0 (N:Int)]=[V.int (0-(N:Int))] from rfl,Zhe n1];obtain⟨H6,e6,s6,h6⟩:=UX (o:=.lst (ZI n λi=>if i=0 then 0-(N:Int) else 0)) w8
   rw[e6];have o9:=(((s2.trans s3).trans s4).trans s5).trans s6;refine⟨_,rfl,Rw,_,rfl,.inl (.of (o9 _ _ o6)),_,rfl,by omega,by omega,?_⟩;rw[lR,Zj];refine ZT (λk J H'=>∃(c:Nat->Int) (la:Addr) (n6 Y O:TU),J=st9 r a L2 L3 n N x4 x5 d Rw [n6,Y,some (.ref la),O]/\Zv H6 H'/\H' la=some (.lst (ZI n c))/\∀z,Num.me n (N46.RN n) c z=Num.me n (N46.RN n) (λi=>if i=0 then 0-(N:Int) else 0) z+Num.ZF k λc=>((sz c:Nat):Int)*mmf n (Z c) (Z c) z)
    ⟨_,l4,_,_,_,rfl,Zv.refl _,h6,λz=>(a5 _).symm⟩ ?_ ?_
   ·rintro k J H7 hk ⟨c,la,n6,Y,O,rfl,s7,h7,hc⟩
    rw[show (0:Int)+(k:Int)=(k:Int) by omega];have p8:=o9.trans s7;obtain⟨t7,r1,u1,u2,u3⟩:=(RW.mono p8).at hk;have p1:=s60 k hk;refine⟨_,rfl,_,rfl,_,rfl,_,rfl,Rw,_,_,_,rfl,rfl,.of u1,u2,_,rfl,_,rfl,_,rfl,Rw,_,_,_,rfl,rfl,.of u1,u2,n,r1,_,rfl,n1,n60,u3,λl5 H8 s8 h8=>?_⟩;refine⟨n,r1,l5,_,_,rfl,n1,n60,s8 _ _ u3,h8,λi1 i2 _ _=>.inl ?_,λl6 w6 H9 s9 h9 m9=>?_⟩
    ·obtain⟨q1,q2⟩:=PZ.bd k i1 hk
     exact⟨by omega,by omega⟩
    refine⟨_,rfl,_,rfl,L2,_,_,_,rfl,rfl,.of (s9 _ _ (s8 _ _ (p8 _ _ o5))),ZH (Yn _ hk),n,la,l6,((sz k:Nat):Int),c,w6,rfl,n60,s9 _ _ (s8 _ _ h7),h9,by omega,by omega,λl7 H10 w9 x0=>?_⟩;refine⟨_,l7,_,_,_,rfl,((s7.trans s8).trans s9).trans w9,x0,λz=>?_⟩;rw[Num.Zey,m9,hc,Num.YC,kO];rfl
   ·rintro J H7 ⟨c,la,n6,Y,O,rfl,s7,h7,hc⟩
    refine⟨_,rfl,_,rfl,n,la,c,rfl,n1,n60,h7,λb H8 s8 hb=>?_⟩;have bt:b=true:=hb.mpr λz hz=>by
     rw[hc,Zlf n1 n60 _ hz,PZ.mt];split <;> omega
    subst bt;exact⟨_,rfl,q H8 (((o0.trans o9).trans s7).trans s8)⟩
def dTI (j:T8):fq:=.tuple (j.map λq=>ci (q.map aP))
theorem Zfo {K:aa}{H:Hp}:∀(rs:TW) (q:T8),rs.length=q.length->(∀(i:Nat) b,rs[i]?=some b->∃y,q[i]?=some y/\H b=some (.tup (y.map V.int)))->WO K H (rs.map V.ref) (q.map λxs=>ci (xs.map aP))
 | [],[],_,_=>.nil
 | [],_::_,h,_=>by cases h
 |_::_,[],h,_=>by cases h
 |b::bs,y::J,h,g=>by
  obtain⟨y',M,O⟩:=g 0 b rfl;cases M;exact .cons (.tup (.of O) (WO.ints _)) (Zfo bs J (cF h) λj c Y=>g (j+1) c Y)
theorem Zfh {K:aa}{H:Hp}{r:Addr}{j:T8}(h:RowT H r j):RdD K H (.ref r) (dTI j):=by
 obtain⟨q,J,M,O⟩:=h;exact .tup (.of J) (Zfo q j M O)
def dTb (yss:X0):fq:=.tuple (yss.map dTI)
theorem UQ {K:aa}{H:Hp}:∀(rs:TW) (yss:X0),rs.length=yss.length->(∀(i:Nat) b,rs[i]?=some b->∃y,yss[i]?=some y/\RowT H b y)->WO K H (rs.map V.ref) (yss.map dTI)
 | [],[],_,_=>.nil
 | [],_::_,h,_=>by cases h
 |_::_,[],h,_=>by cases h
 |b::bs,y::yss,h,g=>by
  obtain⟨O,q,J⟩:=g 0 b rfl;cases q;exact .cons (Zfh J) (UQ bs yss (cF h) λj c M=>g (j+1) c M)
theorem Vd {K:aa}{H:Hp}{r:Addr}{yss:X0}(h:ZeR H r yss):RdD K H (.ref r) (dTb yss):=by
 obtain⟨j,q,J,M⟩:=h;exact .tup (.of q) (UQ j yss J M)
theorem Zkh {z:Int}(h:z.natAbs<2 ^ 200):Sml 0 0 (.int z):=by
 obtain⟨j,_,_,q,_,_⟩:=Vj (ns:=[z]) (λn J=>by
  rw[aQ.mp J];exact h)
 simp only[aG,eF,eV,dM,dS] at j q;exact⟨j,rfl,aV _,q,aV _⟩
theorem ZlE {yss:X0}(O:yss.length<=10)(Y:∀ys∈yss,ys.length<=10)(J:∀ys∈yss,∀y∈ys,y.length<=60/\∀z∈y,z.natAbs<2 ^ 200):Sml 3 (10*(10*(60*1+1)+1)) (dTb yss):=by
 refine Sml.tup (by rw[Za];exact O) λd q=>?_;obtain⟨ys,j,rfl⟩:=aE.mp q;refine Sml.tup (by rw[Za];exact Y ys j) λd q=>?_;obtain⟨y,M,rfl⟩:=aE.mp q;refine Sml.tup (b:=0) (by rw[Za];exact (J ys j y M).1) λd q=>?_;obtain⟨z,hz,rfl⟩:=aE.mp q;exact Zkh ((J ys j y M).2 z hz)
end C46
namespace Tb
theorem ZkR {n:Nat}{o:T7}{k a:Nat}(O:Ord n o)(k1:1<=k)(M:k<n)(a1:1<=a)(Y:a<n):Ord n ((o.set k (o.getD a 0)).set a (o.getD k 0)):=by
 have j:k<o.length:=by rw[O.len];exact M
 have q:a<o.length:=by rw[O.len];exact Y
 have ek:o.getD k 0=o[k]:=by rw[Zb,Zf j];rfl
 have ea:o.getD a 0=o[a]:=by rw[Zb,Zf q];rfl
 have pm:((o.set k (o.getD a 0)).set a (o.getD k 0)).Perm o:=by rw[ek,ea];exact List.set_set_perm j q
 refine⟨by rw[bg,bg,O.len],pm.nodup_iff.mpr O.nd,λv J=>pm.mem_iff.mpr (O.all v J),λv J=>O.lt v (pm.mem_iff.mp J),?_⟩;have z:=O.z;rw[Zb] at z ⊢;rw[fY (by omega),fY (by omega)];exact z
theorem Zgn {n:Nat}(q:1<=n):Ord n (ac n):=⟨Zg,de,λv j=>af.mpr j,λv j=>af.mp j,by rw[Zb,ah (by omega)];rfl⟩
end Tb
namespace C46
open PySem L2 PySem.Spec PyProof.Rows
open Tb Pm
noncomputable abbrev Zmc:Stmt:=tq 37
inductive Zd1 (vs:TV) (H:Hp) (Q:VK) (E03:XK):Prop
 |mk (p q g:Addr) (b:Nat) (t:T9):(vs=[.ref p,.ref g])->(WM H p q b)->(b+60<2 ^ 60)->(GT H g t)->(PW t)->(∀g' os H',Tk p H H'->WM H' p q (b+60)->Ord t.length os->GT H' g' (ren t os)->Q (.ref g') H')->Zd1 vs H Q E03
theorem Tk.updN {p l:Addr}{H j:Hp}{o:HO}(a:Tk p H j)(h:H l=none):Tk p H (upd j l o):=λc u e n=>by
 rw[Zz (λz=>by rw[z,h] at e;cases e)];exact a c u e n
def Zjl (t:T9)(os:T7)(a:Nat):V->V
 | .int z=>.int (pos os (ZO t a z.toNat):Nat)
 |y=>y
theorem Zjk (t:T9)(os:T7)(a:Nat):(os.map nV).map (Zjl t os a)=(os.map λb=>pos os (ZO t a b)).map nV:=by
 rw[aK,aK];refine aX λb _=>?_;show V.int (pos os (ZO t a (b:Int).toNat):Nat)=nV (pos os (ZO t a b));rw[Zj];rfl
def Zn1 (os:T7):V->V
 | .int z=>.int (pos os z.toNat:Nat)
 |y=>y
theorem ZkW (F:WB K "_law_renamed" "_law_renamed" Zmc f fd)(T:BlB mg)(GD:Fn P w K mg base Yg 1 "_law_draw" ["_law_feed_here", "_law_many"] UG):Z4 P w K mg base Yg 2 f fd ["_law_feed_here", "_law_group_here"] Zd1:=by
 refine F.ok (FS (N:=["_law_feed_here", "_law_group_here", "_law_order", "_law_k", "_law_at", "_law_spots"])) (λvs H Q E h=>?_) (λu5 A q0 s H vs Q E hr h=>?_)
 ·obtain⟨p,q,g,b,t,rfl,_⟩:=h;rfl
 ·obtain⟨p,q,g,b,t,rfl,T0,hb,G0,Pt,k⟩:=h
  refine⟨_,Zs (ZG 2 rfl (ct (ZaD rfl) T.list (pc (ct V9 T.range (pc (cb (Ym K) T.len (pc (vn 1) Zt)) Zt)) Zt)))
   (Zs (ZN am rfl (ZhZ T.range (pc Zx (pc (cb (Ym K) T.len (pc (vn 1) Zt)) Zt))) (gn 3)
    (Zs (ZG 4 rfl (Zy Yt Zx (Wn GD hr ZM (pc (vn 0) (pc (Zy YB (cb (Ym K) T.len (pc (vn 1) Zt)) Zx) Zt)))))
    (Zw (Jp (UW (pc (ZD (WU K) (vn 2) (vn 4) (λ_ _=>rfl)) (pc (ZD (WU K) (vn 2) (vn 3) (λ_ _=>rfl)) Zt))) (ZbJ rfl (YE (Xd (vn 2) (vn 3) YR) (YE (Xd (vn 2) (vn 4) YR) Uk)))))))
   (Zs (ZG 5 rfl (cmp ["_law_a"] [2] ["_law_a", "_law_order"] rfl (WG T.range (pc (cb (Ym K) T.len (pc (vn 1) Zt)) Zt)) (λ_ _ _ _ _=>gn 0) (λ_ _ _ _ _=>ZP) (λ_ _ _ _ _=>Zin K aJ lV PySem.F.type_list_index (Zre K hr.units) (vn 1) (pc (vn 0) Zt))))
   (Zw (ZE (ct ZX T.tuple (pc (cmp ["_law_a"] [2,5,1] ["_law_a", "_law_order", "_law_spots", "_law_group_here"] rfl (itL K (vn 2)) (λ_ _ _ _ _=>gnf 0 rfl) (λ_ _ _ _ _=>ZP) (λ_ _ _ _ _=>ct (Zhk K) (by exact T.tuple) (pc (cmp ["_law_b"] [2,3,0] ["_law_b", "_law_spots", "_law_group_here", "_law_a"] rfl (itL K (vn 1)) (λ_ _ _ _ _=>gn 0) (λ_ _ _ _ _=>ZP) (λ_ _ _ _ _=>ZD (WU K) (vn 1) (ZD (JE K) (ZD (JE K) (vn 2) (vn 3) (λ_ _=>rfl)) (vn 0) (λ_ _=>rfl)) (λ_ _=>rfl))) Zt))) Zt)))))),?_⟩
  have sz:=JL;have n1:=Pt.n1;have u9:=Pt.n60;obtain⟨gs,u1,u2,u3⟩:=id G0;have Y:(gs.map V.ref).length=t.length:=by rw[Za,u2]
  refine⟨_,rfl,g,_,rfl,.inr (.of u1),?_⟩;rw[Y];refine⟨_,rfl,λr0 r6=>⟨r0,0,_,rfl,Zu,⟨by omega,by omega,by omega,by omega⟩,by omega,λl o5=>?_⟩⟩;rw[show ((t.length:Int)-0).toNat=t.length by omega];have s1:Zv H (upd H r0 (.rng 0 (t.length:Int))):=Zv.upd r6;have nl:H l=none:=s1.free o5;have s2:=s1.trans (Zv.upd (o:=.lst ((Y6 0 t.length).map V.int)) o5);have h2:upd (upd H r0 (.rng 0 (t.length:Int))) l (.lst ((Y6 0 t.length).map V.int)) l=some (.lst ((ac t.length).map nV)):=by rw[Zu,Zm3]
  have np:=T0.neN nl;generalize upd (upd H r0 (.rng 0 (t.length:Int))) l (.lst ((Y6 0 t.length).map V.int))=H2 at s2 h2 ⊢;refine⟨_,rfl,g,_,rfl,.inr (.of (s2 _ _ u1)),?_⟩;rw[Y];refine⟨_,_,rfl,⟨by omega,by omega,by omega,by omega⟩,?_⟩;rw[show ((t.length:Int)-1).toNat=t.length-1 by omega];refine ZT (λi n6 H'=>∃(v w u:TU) (os:T7),n6=[some (.ref p),some (.ref g),some (.ref l),v,w,u]/\Tk p H H'/\WM H' p q (b+i)/\Ord t.length os/\H' l=some (.lst (os.map nV))) ⟨_,_,_,_,rfl,Tk.of s2,T0.mono s2,Zgn n1,h2⟩ ?_ ?_
  ·rintro i n6 H3 hi ⟨v,w,u,os,rfl,d3,T3,O3,h3⟩
   have G3:=GT.tk T0 d3 G0;obtain⟨r8,w1,w2,_⟩:=id G3;have r9:(r8.map V.ref).length=t.length:=by rw[Za,w2]
   refine⟨_,rfl,_,rfl,g,_,rfl,.inr (.of w1),?_⟩;rw[r9];refine⟨_,_,rfl,rfl,p,q,_,b+i,rfl,T3,by omega,by omega,by omega,λr H4 t5 w8 d4 T4=>?_⟩;obtain⟨j,rfl⟩:=cG t5;have h4:=d4.lst T3 h3;have hj:1+j<t.length:=by omega
   have o6:1+i<t.length:=by omega
   have ej:(1:Int)+(j:Int)=((1+j:Nat):Int):=by omega
   have ei:(1:Int)+(i:Int)=((1+i:Nat):Int):=by omega
   have gj:(os.map nV)[1+j]?=some (nV (os.getD (1+j) 0)):=by rw[Zc,Wr (by rw[O3.len];exact hj)];rfl
   have gi:(os.map nV)[1+i]?=some (nV (os.getD (1+i) 0)):=by rw[Zc,Wr (by rw[O3.len];exact o6)];rfl
   have lm:(os.map nV).length=t.length:=by rw[Za,O3.len]
   refine⟨_,_,rfl,rfl,_,rfl,_,rfl,l,_,_,_,rfl,rfl,.of h4,by rw[ej];exact ZH gj,_,rfl,_,rfl,l,_,_,_,rfl,rfl,.of h4,by rw[ei];exact ZH gi,JY,λc nc=>?_⟩;have s5:=Zv.upd (H:=H4) (o:=.tup [nV (os.getD (1+j) 0),nV (os.getD (1+i) 0)]) nc;have h5:=s5 _ _ h4;have o7:upd H4 c (.tup [nV (os.getD (1+j) 0),nV (os.getD (1+i) 0)]) c=some (.tup [nV (os.getD (1+j) 0),nV (os.getD (1+i) 0)]):=Zu;have T5:=T4.mono s5;have d5:=(d3.trans d4).trans (Tk.of s5);generalize upd H4 c (.tup [nV (os.getD (1+j) 0),nV (os.getD (1+i) 0)])=H5 at s5 h5 o7 T5 d5 ⊢;refine⟨c,_,rfl,.of o7,rfl,_,_,rfl,_,rfl,_,rfl,l,_,_,1+i,rfl,rfl,h5,by rw[ei];exact Jc (by omega),_,_,rfl,_,rfl,_,rfl,l,_,_,1+j,rfl,rfl,Zu,by rw[ej];exact Jc (by rw[bg];omega),rfl,?_⟩;refine⟨_,_,_,_,rfl,(d5.updN nl).updN nl,?_,ZkR O3 (by omega) o6 (by omega) hj,?_⟩
   ·have:=(T5.put (o:=.lst ((os.map nV).set (1+i) (nV (os.getD (1+j) 0)))) np.1 np.2).put (o:=.lst (((os.map nV).set (1+i) (nV (os.getD (1+j) 0))).set (1+j) (nV (os.getD (1+i) 0)))) np.1 np.2
    rw[show b+(i+1)=b+i+1 by omega];exact this
   ·rw[Zu,kS,kS]
  ·rintro n6 H3 ⟨v,w,u,os,rfl,d3,T3,O,hL⟩
   have Gx:=GT.tk T0 d3 G0;clear u1 u2 u3 Y;obtain⟨gs,u1,u2,_⟩:=id Gx;have Y:(gs.map V.ref).length=t.length:=by rw[Za,u2]
   refine⟨_,rfl,g,_,rfl,.inr (.of u1),_,rfl,by rw[Y];omega,by rw[Y];omega,?_⟩;rw[Y,Zj];refine JG (Wp 0 t.length) [some (.ref l)] rfl (Zn1 os) (by rw[Za,Z7];omega) (λj x J hx s' R' gg=>?_) (λD w9 nD s3 hD=>?_)
   ·obtain⟨a,ha,rfl⟩:∃a,a<t.length/\x=.int (a:Nat):=⟨j,Vm hx⟩
    obtain⟨pl,pv⟩:=Wh O ha;have o8:=s' _ _ hL;have eo:os.map nV=(os.map λk:Nat=>((k:Nat):Int)).map V.int:=by rw[aK];rfl
    refine⟨_,rfl,.inl ⟨rfl,_,.of o8⟩,_,rfl,?_⟩;refine⟨l,(os.map λk:Nat=>((k:Nat):Int)).map V.int,(os.map λk:Nat=>((k:Nat):Int)).map aP,.int (a:Nat),.int (a:Nat),pos os a,rfl,rfl,by rw[<-eo];exact o8,WO.ints _,.int _,Xn _,rfl,by simp[cT],by rw[Za,Za,O.len];exact pl,λd M=>?_,λm d hm M=>?_,?_⟩
    ·have ho:=Wr (o:=os) (i:=pos os a) (by rw[O.len];exact pl)
     rw[Zc,Zc,ho,pv] at M;cases M;rw[ZfQ];exact decide_eq_true rfl
    ·have o9:m<os.length:=by rw[O.len];omega
     have ho:=Wr (o:=os) o9;rw[Zc,Zc,ho] at M;cases M;rw[ZfQ];refine decide_eq_false λz=>?_;have p3:=List.not_of_lt_findIdx (p:=(· == a)) (xs:=os) hm;have n8:os[m]=os.getD m 0:=by
      rw[Zf o9] at ho;exact aB ho
     rw[n8,beq_eq_false_iff_ne] at p3;have z:((os.getD m 0:Nat):Int)=((a:Nat):Int):=z;exact p3 (by omega)
    ·have:=gg J (Zv.refl _)
     show R' (.int (pos os a:Nat)) J;have e:Zn1 os (.int (a:Nat))=V.int (pos os a:Nat):=by
      show V.int (pos os (a:Int).toNat:Nat)=_;rw[Zj]
     rw[e] at this;exact this
   ·have eD:((Y6 0 t.length).map V.int).map (Zn1 os)=(ac t.length).map λa=>nV (pos os a):=by
     rw[Zm3,aK];refine aX λa _=>?_;show V.int (pos os (a:Int).toNat:Nat)=_;rw[Zj];rfl
    rw[eD] at hD;have n9:=s3 _ _ hL;have G3:=Gx.mono s3;refine⟨_,rfl,l,rfl,⟨_,.of n9⟩,?_⟩;refine Wt (W:=Addr) id (λi w H3=>Tz H3 w ((os.map λb=>pos os (ZO t (os.getD i 0) b)).map nV)) (λ_ _=>True) (YV (K:=K) (.of n9)) [some (.ref l),some (.ref D),some (.ref g)] rfl (by rw[Za,O.len];omega) (λi w H3 J s h=>h.mono s) (λw H3 J s h=>trivial) (λi w H0 H1 D o ys x0 h h0 h1 h2=>Tz.updL h h2) (λi y hy H4 s4 R kR=>?_) (λD2 ws H4 x9 s4 t6 wl hw _=>?_)
    ·obtain⟨a,ha,rfl⟩:=XW hy
     have p4:a<t.length:=O.lt a (az ha);have hd:os.getD i 0=a:=by rw[Zb,ha];rfl
     have p6:=s4 _ _ n9;refine⟨_,rfl,l,rfl,⟨_,.of p6⟩,?_⟩;refine JG (YV (K:=K) (.of p6)) [some (.ref D),some (.ref g),some (.int (a:Nat))] rfl (Zjl t os a) (by rw[Za,O.len];omega) (λj x J hx s' R' gg=>?_) (λD5 H5 y4 s5 p7=>?_)
     ·obtain⟨b,hb,rfl⟩:=XW hx
      have p8:b<t.length:=O.lt b (az hb);obtain⟨q1,q2,q3,_,q4,q5,q6⟩:=(G3.mono (s4.trans s')).at Pt p4;have t7:=Pt.lt a b p4 p8;have t8:=(s4.trans s') _ _ hD;have t9:((ac t.length).map λa=>nV (pos os a))[ZO t a b]?=some (nV (pos os (ZO t a b))):=by rw[Zc,ah t7];rfl
      refine⟨_,rfl,_,rfl,_,rfl,g,_,_,_,rfl,rfl,.of q3,q4,_,rfl,q2,_,_,_,rfl,rfl,q5.sq,q6 b p8,D,_,_,_,rfl,rfl,.of t8,ZH t9,?_⟩;have:=gg J (Zv.refl _);have e:Zjl t os a (.int (b:Nat))=V.int (pos os (ZO t a b):Nat):=by
       show V.int (pos os (ZO t a (b:Int).toNat):Nat)=_;rw[Zj]
      rw[e] at this;exact this
     ·rw[Zjk] at p7
      refine⟨D5,_,rfl,.of p7,λtr H6 nt s6 hz=>?_⟩;exact kR tr H6 (s5.trans s6) (by rw[hd];exact hz) trivial
    ·rw[Za] at wl
     have R:ZjL H4 D2 ws (λi=>os.map λb=>pos os (ZO t (os.getD i 0) b)):=⟨t6,λi r hr=>(hw i r hr).1⟩;refine⟨D2,_,rfl,.inl ⟨.of R.1,λgg o0=>?_⟩⟩;have GG:=Zqk R wl (Zv.upd o0) Zu;have er:((ac os.length).map λi=>os.map λb=>pos os (ZO t (os.getD i 0) b))=ren t os:=by
      unfold ren;refine a7 λi=>?_;rw[Zc,Zc];by_cases hi:i<os.length
      ·rw[ah hi,Wr hi]
       rfl
      ·rw[ai (by rw[Zg];omega),ai (by omega)]
       rfl
     rw[er] at GG;exact k gg os _ (d3.trans (Tk.of ((s3.trans s4).trans (Zv.upd o0)))) ((T3.mono ((s3.trans s4).trans (Zv.upd o0))).le (by omega)) O GG
noncomputable abbrev Zo5:Stmt:=tq 51
theorem Vt:∀yss:X0,bX (yss.map dTI)=true/\bx (yss.map dTI)<=10
 | []=>⟨rfl,aV _⟩
 |q::yss=>by
  obtain⟨a,b⟩:=Vt yss;rw[aG];have d1:∀j:TZ,bx (j.map aP)=0:=λj=>by
   induction j with
   |nil=>rfl
   |cons n j J=>rw[aG,bx,J];rfl
  have M:bx (q.map λj=>ci (j.map aP))<=5:=by
   induction q with
   |nil=>exact aV _
   |cons n j J=>
    rw[aG,bx,cT,d1];omega
  have e:(dTI q).depth=bx (q.map λj=>ci (j.map aP))+1:=rfl;refine⟨by rw[bX,a,dS];exact Jm q,?_⟩;rw[bx,e];omega
theorem ZfG (ys:T8):(dTI ys).canLay0=true/\(dTI ys).depth<=60:=by
 obtain⟨a,b⟩:=Vt [ys];rw[aG,eF,bx] at b;exact⟨Jm ys,by omega⟩
theorem ZlH {a b:T8}(h:(dTI a).eqv (dTI b)=true):a=b:=by
 have q:∀x y:TZ,gx (.tuple (x.map aP)) (.tuple (y.map aP))=decide (x=y):=λx y=>by
  show iP _ _=_;exact lq _ _
 have J:∀a b:T8,iP (a.map λj=>ci (j.map aP)) (b.map λj=>ci (j.map aP))=true->a=b:=λa=>by
  induction a with
  |nil=>
   intro b h;cases b with
   |nil=>rfl
   |cons y b=>cases h
  |cons x a M=>
   intro b h;cases b with
   |nil=>cases h
   |cons y b=>
    rw[aG,aG,iP,ag,q,decide_eq_true_eq] at h;rw[h.1,M b h.2]
 exact J _ _ h
inductive Zhy (vs:TV) (H:Hp) (Q:VK) (E03:XK):Prop
 |mk (r tb:Addr) (n N m:Nat) (sz:Nat->Nat) (cn:Nat->Nat->Nat->Nat) (yss:X0):(vs=[.ref r,.ref tb])->(FaC H r n N m sz cn)->(ZeR H tb yss)->(yss.length=m)->((∀ys∈yss,∃Z,ys=(ac m).map Z/\PuZ n N m sz cn Z))->(yss.Pairwise (λa b=>PyZ.Vq b a=false))->(yss.Nodup)->(∀H',Zv H H'->Q (.bl true) H')->Zhy vs H Q E03
theorem Znv (F:WB K "_law_is_table" "_law_is_table" Zo5 f fd)(T:Bl mg)(T2:ZeV mg)(o9:Fn P w K mg base Yg 3 "_law_is_spread" ["_law_n", "_law_many", "_law_thing"] Zhz)(p3:Fn P w K mg base Yg 2 "_law_fault" ["_law_facts_here", "_law_spread"] ZhA):Z4 P w K mg base Yg 4 f fd ["_law_facts_here", "_law_table"] Zhy:=by
 refine F.ok (FS (N:=["_law_facts_here", "_law_table", "_law_k"])) (λvs H Q E h=>?_) (λt5 A p4 s H vs Q E hr h=>?_)
 ·obtain⟨r,tb,n,N,m,sz,cn,J,rfl,_⟩:=h;rfl
 ·obtain⟨r,tb,n,N,m,sz,cn,J,rfl,FA,TA,ym,hy,pw,nd,q⟩:=h
  refine⟨_,Zs (Y3 (VX (XV (Wz (cb (ZiX K "tuple") T.isi (pc (vn 1) (pc (tyv "tuple" T.tuple) Zt))))) (VX (ZL WI (cb (Ym K) T.len (pc (vn 1) Zt)) (cb (Ym K) T.len (pc (ZD (JE K) (vn 0) Zx (λ_ _=>rfl)) Zt)) (ZR _)) (XU (ZL (neC K hr.units) (ct (lsK K) T.list (pc (vn 1) Zt)) (cb (Zap hr.units) T2.sorted (pc (vn 1) Zt)) (ZR _))))).pt (Zw (ZE Xe)) Ya)
   (Zs (ZN am rfl (WG T.range (pc (cb (Ym K) T.len (pc (vn 1) Zt)) Zt)) (gn 2)
   (Zs (Y3 (VX (XV (Wz (Wn o9 hr ZM (pc (ZD (JE K) (vn 0) Zx (λ_ _=>rfl)) (pc (cb (Ym K) T.len (pc (vn 1) Zt)) (pc (ZD (JE K) (vn 1) (vn 2) (λ_ _=>rfl)) Zt)))))) (XU (ZL (Zrk K hr.units) (ZD (JE K) (vn 1) (vn 2) (λ_ _=>rfl)) (Vn (ZoZ K) (vn 1) Uj (Ui (vn 2))) (by rfl)))).pt (Zw (ZE Xe)) Ya)
   (Zw (Y3 (ZL WI (Wn p3 hr ZM (pc (vn 0) (pc (ZD (JE K) (vn 1) (vn 2) (λ_ _=>rfl)) Zt))) Y7 (ZR _)) (Zw (ZE Xe)) Ya))))
   (Zw (ZE Xe))),?_⟩
  have JL:=JL;have t6:=FA.m60;have m1:=FA.m1;obtain⟨L2,L3,x4,x5,A',B,Hb,hF,h2,_⟩:=FA.st;obtain⟨cs,c1,c2,c3⟩:=id TA;have cl:(cs.map V.ref).length=m:=by rw[Za,c2,ym]
  refine⟨_,rfl,_,_,rfl,⟨.tup c1,by decide⟩,_,rfl,?_⟩;refine Ye (λh=>absurd h (by decide)) (λ_=>?_);refine⟨_,rfl,tb,_,rfl,.inr (.of c1),_,rfl,r,_,_,_,rfl,rfl,.of hF,rfl,L2,_,rfl,.inl (.of h2),rfl,_,rfl,?_⟩;refine Ye (λh=>absurd h (by rw[Z1,cl];simp)) (λ_=>?_);refine⟨_,rfl,tb,_,rfl,.inr (.of c1),λl nl=>?_⟩;obtain⟨H1,e1,s1,h1⟩:=UX (o:=.lst (cs.map V.ref)) nl;rw[e1];have p6:=s1 _ _ c1;have n6:∀(i:Nat) c,cs[i]?=some c->∃M,J[i]?=some M/\RowT H1 c M:=λi c hc=>by
   obtain⟨M,Y,g2⟩:=c3 i c hc;exact⟨M,Y,g2.mono s1⟩
  refine⟨_,rfl,tb,cs,J,rfl,.inr p6,c2,by omega,λi c hc=>?_,λD js nD pm pj=>?_⟩
  ·obtain⟨M,Y,g2⟩:=n6 i c hc
   obtain⟨Z,e,_⟩:=hy M (az Y);refine⟨M,Y,λz=>?_,g2⟩;rw[z] at e;have:=congrArg eB e;rw[Za,Zg,eY] at this;omega
  obtain⟨H2,e2,s2,p7⟩:=UX (o:=.lst ((js.map λi=>cs.getD i 0).map V.ref)) nD;rw[e2];have n8:=s1.trans s2;have ey:js.map (λi=>J.getD i [])=J:=by
   refine Ux ?_ pj pw;have h:=pm.map λi=>J.getD i [];have e:(ac cs.length).map (λi=>J.getD i [])=J:=a7 λi=>by
    rw[Zc];by_cases hi:i<cs.length
    ·rw[ah hi,Zf (by omega)]
     show some (J.getD i [])=_;rw[Zb,Zf (by omega)];rfl
    ·rw[ai (by rw[Zg];omega),ai (by omega)]
     rfl
   rw[e] at h;exact h
  have o5:gq (.list (J.map dTI))=true:=by
   obtain⟨a,b⟩:=Vt J;have b':(PyData.list (J.map dTI)).depth<=60:=by
    rw[cT];omega
   have a':(PyData.list (J.map dTI)).canLay0=true:=a;unfold gq;simp only[a',Bool.true_and,dS,decide_eq_true_eq];omega
  have p8:WO K H2 ((js.map λi=>cs.getD i 0).map V.ref) (J.map dTI):=by
   rw[<-ey];refine UQ _ _ (by rw[Za,Za]) λi b hb=>?_;rw[Zc] at hb ⊢;cases hj:js[i]? with
   |none=>rw[hj] at hb;cases hb
   |some j=>
    rw[hj] at hb;have q0:j<cs.length:=af.mp (pm.mem_iff.mp (az hj));have ec:b=cs.getD j 0:=(aB hb).symm;have r6:cs[j]?=some b:=by rw[ec,Zb,Zf q0];rfl
    obtain⟨M,Y,g2⟩:=n6 j b r6;exact⟨_,rfl,by show RowT H2 b (J.getD j []);rw[Zb,Y];exact g2.mono s2⟩
  refine⟨_,_,.lst (.of (s2 _ _ h1)) (UQ cs J c2 λi c hc=>?_),.lst (.of p7) p8,o5,o5,_,rfl,?_⟩
  ·obtain⟨M,Y,g2⟩:=n6 i c hc
   exact⟨M,Y,g2.mono s2⟩
  refine Ye (λh=>absurd h (by rw[SeqAt.eqv_refl (.list (J.map dTI)) (Vt J).1];decide)) (λ_=>?_);refine⟨_,rfl,tb,_,rfl,.inr (.of (n8 _ _ c1)),_,rfl,by omega,by omega,?_⟩;rw[cl,Zj];refine ZT (λk n9 H'=>∃v2:TU,n9=[some (.ref r),some (.ref tb),v2]/\Zv H2 H') ⟨_,rfl,Zv.refl _⟩ ?_ ?_
  ·rintro k n9 H3 hk ⟨v2,rfl,s3⟩
   rw[show (0:Int)+(k:Int)=(k:Int) by omega];have O:=n8.trans s3;have ck:cs[k]?=some (cs.getD k 0):=by rw[Zb,Zf (by omega)];rfl
   obtain⟨M,Y,g2⟩:=c3 k _ ck;have g2:=g2.mono O;obtain⟨Z,rfl,PZ⟩:=hy M (az Y);have ak:X8 (cs.map V.ref) (k:Int)=some (.ref (cs.getD k 0)):=ZH (by rw[Zc,ck];rfl);have t7:=FA.mono O;refine⟨_,rfl,r,_,_,_,rfl,rfl,.of (O _ _ hF),rfl,_,rfl,tb,_,rfl,.inr (.of (O _ _ c1)),_,rfl,_,rfl,tb,_,_,_,rfl,rfl,.of (O _ _ c1),ak,n,cs.getD k 0,_,?_,FA.n1,FA.n60,g2,λy hy=>?_,λH4 s4=>?_⟩
   ·rw[cl,Za,Zg]
    rfl
   ·obtain⟨c,_,rfl⟩:=aE.mp hy
    exact PZ.len c
   refine⟨_,rfl,?_⟩;refine Ye (λh=>absurd h (by decide)) (λ_=>?_);have o6:=O.trans s4;have o7:=o6 _ _ c1;refine⟨_,rfl,_,rfl,tb,_,_,_,rfl,rfl,.of o7,ak,_,rfl,_,rfl,_,rfl,tb,_,rfl,.of o7,?_,λp5 H5 s5 hz=>?_⟩
   ·rintro⟨_,e⟩
    rw[HT.Xx,cl] at e;omega
   have o0:=o6.trans s5;have ec:X2 (cs.map V.ref) none (some (k:Int))=(cs.take k).map V.ref:=by
    unfold X2;rw[HT.ZcP,HT.Xx,cl,iL,show min k m-0=k by omega,kC]
   rw[ec] at hz;refine⟨p5,_,(J.take k).map dTI,dTI ((ac m).map Z),rfl,.inr hz.sq,UQ _ _ (by rw[a8,a8,c2]) λi c hc=>?_,Zfh ((g2.mono s4).mono s5),(Vt _).1,(ZfG _).1,(ZfG _).2,?_⟩
   ·have hi:i<k:=by
     have:=(ae.mp hc).1;rw[a8] at this;omega
    rw[ic hi] at hc ⊢;obtain⟨M,e1,e2⟩:=c3 i c hc;exact⟨M,e1,e2.mono o0⟩
   have o8:(((J.take k).map dTI).any λy=>y.eqv (dTI ((ac m).map Z)))=false:=by
    rw[jw];intro y hy h;obtain⟨x,hx,rfl⟩:=aE.mp hy;obtain⟨i,hi⟩:=bn hx;have r8:i<k:=by
     have:=(ae.mp hi).1;rw[a8] at this;omega
    rw[ic r8,ZlH h] at hi;have e1:=(ae.mp hi).2;have e2:=(ae.mp Y).2;have:=(nH nd).mp (e1.trans e2.symm);omega
   rw[if_neg (by decide),o8];refine⟨_,rfl,?_⟩;refine Ye (λh=>absurd h (by decide)) (λ_=>?_);have r9:=o0 _ _ c1;refine⟨_,rfl,_,rfl,_,rfl,tb,_,_,_,rfl,rfl,.of r9,ak,r,cs.getD k 0,n,N,m,sz,cn,Z,rfl,FA.mono o0,PZ,(g2.mono s4).mono s5,λH6 s6=>?_⟩;refine⟨rfl,_,rfl,?_⟩;refine Ye (λh=>absurd h (by simp)) (λ_=>?_);exact⟨_,rfl,((s3.trans s4).trans s5).trans s6⟩
  ·rintro n9 H3 ⟨v2,rfl,s3⟩
   exact q H3 (n8.trans s3)
theorem Zfk {X:Cx}(K:aa){k:Nat}(j:JI k X.A)(q:X.K=K:=by rfl):YA X (.builtin "repr") (_root_.L2.I_call_repr K):=q▸Zg2 j
def GkC (H:Hp)(g:Addr)(yss:X0):Prop:=∃(t:T9) (n j m:Nat) (e J M:Nat->Nat->Nat) (z:Nat) (q:Nat->Nat),GT H g t/\PW t/\TD t n j m e J M z q/\yss.Perm ((ac m).map (Jn t n j m e z q))/\yss.Pairwise (λa b=>PyZ.Vq b a=false)/\ZlZ (dTb yss)
theorem ZeR.mono {H j:Hp}{r:Addr}{yss:X0}(h:ZeR H r yss)(s:Zv H j):ZeR j r yss:=by
 obtain⟨q,J,M,O⟩:=h;refine⟨q,s _ _ J,M,λi c Y=>?_⟩;obtain⟨ys,g1,g2⟩:=O i c Y;exact⟨ys,g1,g2.mono s⟩
theorem GkC.mono {H j:Hp}{g:Addr}{yss:X0}(h:GkC H g yss)(s:Zv H j):GkC j g yss:=by
 obtain⟨t,n,pp,m,e,q,J,z,dg,M,h⟩:=h;exact⟨t,n,pp,m,e,q,J,z,dg,M.mono s,h⟩
section
variable {dg:Nat->Nat}
theorem Zkl (P:PW t){c:Nat}(j:c<(ZC t t.length).length):siz t (Yl t) c=((ZC t t.length).getD c []).length:=by
 have U:=YU P;have q:=U.rl c j;rw[Zoe P j,Zog];exact Z5 λy J=>by rw[Zal P q J,U.rn c j]
theorem Zeg {f:Nat->Nat}(h:∀x,f x<=1):∀n,sm n f<=n
 |0=>Zq _
 |n+1=>by rw[YI];exact Nat.add_le_add (Zeg h n) (h n)
theorem Zna (P:PW t)(D:TD t n p m e ω φ z dg)(F:PuC t n m (Xv t n p e z dg)){s:Nat}(J:s<m):PuZ n t.length m (siz t (Yl t)) (cnL t) (λc=>Xv t n p e z dg s (ZK t c)):=by
 have U:=YU P;rw[<-D.cd.mc] at U;have M:∀x,x<t.length->Xv t n p e z dg s (ZK t (Yl t x))=Xv t n p e z dg s x:=λx Y=>(ZdN P D J Y).2;have O:ZK t 0=0:=(U.z _ (U.rl 0 D.cd.m1)).mp (U.rn 0 D.cd.m1);refine⟨λc=>Zbc s _,λc i h=>F.bd s _ i J (U.rl c h),?_,λi j q hi hj=>?_,λq=>?_⟩
 ·rw[O]
  exact F.fs s J
 ·rw[O]
  exact Zng P U F J M hi hj q
 ·rw[<-F.mt s q J]
  exact UA U (λx=>mmf n (Xv t n p e z dg s x) (Xv t n p e z dg s x) q) λw hw=>by rw[M w hw]
theorem Zkn (P:PW t)(D:TD t n p m e ω φ z dg)(F:PuC t n m (Xv t n p e z dg)):((ac m).map (Jn t n p m e z dg)).Nodup:=by
 rw[mR,fh];refine cN (λ{a b} j hb ne h=>?_) de;have j:=af.mp j;have hb:=af.mp hb;obtain⟨x,q,w⟩:=F.un a b j hb ne;obtain⟨J,M⟩:=ZdN P D j q;refine w ?_;rw[<-M,<-(ZdN P D hb q).2];have:=congrArg (λl=>l[Yl t x]?) h;unfold Jn at this;simp only[Zc,ah J] at this;exact aB this
theorem Zje (P:PW t)(D:TD t n p m e ω φ z dg)(F:PuC t n m (Xv t n p e z dg))(M:m<=10){yss:X0}(h:yss.Perm ((ac m).map (Jn t n p m e z dg))):ZlZ (dTb yss):=by
 have U:=YU P;rw[<-D.cd.mc] at U;refine (ZlE (by rw[h.length_eq,Za,Zg];exact M) (λO j=>?_) λO j y J=>?_).fit (by decide) (by decide)
 ·obtain⟨s,_,rfl⟩:=aE.mp (h.mem_iff.mp j)
  unfold Jn;rw[Za,Zg];exact M
 ·obtain⟨s,Y,rfl⟩:=aE.mp (h.mem_iff.mp j)
  obtain⟨c,hc,rfl⟩:=aE.mp J;refine⟨?_,λq hq=>?_⟩
  ·rw[Zbc]
   have:=(N46.V3 D.n1 D.n60).1.tn;have:=D.n60;omega
  ·obtain⟨i,hi⟩:=bn hq
   have b:=F.bd s _ i (af.mp Y) (U.rl c (af.mp hc));have e:Num.co (Xv t n p e z dg s (ZK t c)) i=q:=by
    unfold Num.co;rw[Zb,hi];rfl
   rw[e] at b;have:(2:Nat) ^ 20<2 ^ 200:=by decide +kernel
   omega
end
inductive ZcI (K:aa) (vs:TV) (H:Hp) (Q:VK) (E03:XK):Prop
 |mk (a:Addr) (ns:TZ):(vs=[.ref a])->(Wx K H a (ns.map V.int))->(ns.length<=63)->(∀H',Q (.bl true) H')->ZcI K vs H Q E03
theorem Znu (F:WB K "law" "law" Zo4 f fd)(T:Bl mg)(r9:Fn P w K mg base Yg 1 "_law_feed" ["_law_script"] (Zd8 K))(GD:Fn P w K mg base Yg 1 "_law_draw" ["_law_feed_here", "_law_many"] UG)(GG:Fn P w K mg base Yg 2 "_law_group" ["_law_feed_here", "_law_most"] UF)(GR:Fn P w K mg base Yg 2 "_law_renamed" ["_law_feed_here", "_law_group_here"] Zd1)
  (t5:Fn P w K mg base Yg 2 "_law_facts" ["_law_group_here"] ZhD) (o0:Fn P w K mg base Yg 7 "table_of" ["group"] Zbj) (t6:Fn P w K mg base Yg 4 "_law_is_table" ["_law_facts_here", "_law_table"] Zhy):Z4 P w K mg base Yg 8 f fd ["_law_script"] (ZcI K):=by
 refine F.ok (FS (N:=["_law_script", "_law_feed_here", "_law_last", "_law_turn", "_law_group_here", "_law_table"])) (λvs H Q E h=>?_) (λcdv A t7 s H vs Q E O h=>?_)
 ·obtain⟨a,ns,rfl,_⟩:=h;rfl
 ·obtain⟨a,ns,rfl,hS,hl,q⟩:=h
  refine⟨_,Zs (ZG 1 rfl (Wn r9 O ZM (pc (vn 0) Zt)))
   (Zs (ZG 2 rfl Znm)
   (Zs (ZN am rfl (WG T.range (pc Zx Zt)) (gn 3)
   (Zs (ZG 4 rfl (Wn GR O ZM (pc (vn 1) (pc (Wn GG O ZM (pc (vn 1) (pc (ZD (WU K) (ZV (pc Zx (pc Zx (pc Zx (pc Zx Zt))))) (Wn GD O ZM (pc (vn 1) (pc Zx Zt))) (λ_ _=>rfl)) Zt))) Zt))))
   (Zs (ZG 5 rfl (Wn o0 O ZM (pc (vn 4) Zt)))
   (Zs (Y3 (XV (Wz (Wn t6 O ZM (pc (Wn t5 O ZM (pc (vn 4) Zt)) (pc (vn 5) Zt))))) (Zw (ZE Xe)) Ya)
   (Zs (Y3 (Zeo (Zep (ZkM (vn 2))) (ZbH (ZL WI (cb (Zfk K O) T.repr (pc (Wn o0 O ZM (pc (ZD (JE K) (vn 2) Zx (λ_ _=>rfl)) Zt)) Zt)) (ZD (JE K) (vn 2) Zx (λ_ _=>rfl)) (ZR _)))).pt (Zw (ZE Xe)) Ya)
   (Zw (ZG 2 rfl (UW (pc (vn 4) (pc (cb (Zfk K O) T.repr (pc (vn 5) Zt)) Zt))))))))))
   (Zw (ZE (Ul V1 (cb (Zfk K O) T.repr (pc (Wn o0 O ZM (pc (vn 4) Zt)) Zt)) (cb (Zfk K O) T.repr (pc (vn 5) Zt)) (ZR _)))))),?_⟩
  have sz:=JL;refine⟨_,rfl,a,ns,rfl,hS,λp q' H1 s1 np T1=>?_⟩;refine⟨2,rfl,by omega,by omega,?_⟩;refine ZT (λk o5 H'=>∃(v2 v3 v4 v5:TU) (b:Nat),o5=[some (.ref a),some (.ref p),v2,v3,v4,v5]/\WM H' p q' b/\b<=100*k/\(v2=some .non/\k=0\/∃la g tb J,v2=some (.ref la)/\v4=some (.ref g)/\v5=some (.ref tb)/\H' la=some (.tup [.ref g,.str (dTb J).shown])/\GkC H' g J/\ZeR H' tb J)) ⟨_,_,_,_,0,rfl,T1,by omega,.inl ⟨rfl,rfl⟩⟩ ?_ ?_
  ·rintro k o5 H2 hk ⟨v2,v3,v4,v5,b,rfl,T2,bk,old⟩
   refine⟨_,rfl,_,rfl,JY,λl nl=>?_⟩;obtain⟨H3,e3,s3,t8⟩:=UX (o:=.lst [.int 14,.int 14,.int 21,.int 31]) nl;rw[e3];have T3:=T2.mono s3;refine⟨_,rfl,p,q',_,_,rfl,T3,by omega,by decide,by decide,λr H4 r0 r1 k4 T4=>?_⟩;have t9:=k4.lst T3 t8;obtain⟨ms,hm,m1,u5⟩:∃ms:Nat,X8 [V.int 14,.int 14,.int 21,.int 31] r=some (.int (ms:Nat))/\1<=ms/\ms<=31:=by
    have:r=0\/r=1\/r=2\/r=3:=by omega
    rcases this with rfl|rfl|rfl|rfl
    ·exact⟨14,rfl,by decide,by decide⟩
    ·exact⟨14,rfl,by decide,by decide⟩
    ·exact⟨21,rfl,by decide,by decide⟩
    ·exact⟨31,rfl,by decide,by decide⟩
   refine⟨l,_,_,_,rfl,rfl,.of t9,hm,p,q',_,ms,rfl,T4,by omega,m1,u5,λg0 t0 H5 k5 T5 G5 mk=>?_⟩;refine⟨p,q',g0,_,t0,rfl,T5,by omega,G5,ZbR mk,λg os H6 k6 T6 O6 G6=>?_⟩;have Y:=JP (ZbR mk) O6;obtain⟨n,pp,m,e,ω,φ,z,dg,o9,D,Pu⟩:=ZnK mk O6;generalize ren t0 os=t at G6 Y D Pu;have p3:Tk p H2 H6:=(((Tk.of s3).trans k4).trans k5).trans k6;have mc:=D.cd.mc;refine⟨_,rfl,g,t,n,pp,m,e,ω,φ,z,dg,rfl,G6,Y,D,λtb J H7 s7 A7 n6 p4=>?_⟩;refine⟨_,rfl,g,t,rfl,G6.mono s7,Y,λr L2 L3 L1 D1 bs kvs A' B n' H8 s8 u9 p6 N8 _ _ _ Ln=>?_⟩;have en:n'=n:=D.round (λa ha=>by
    obtain⟨r,R⟩:=Y.rd a ha;rw[UR R];exact R) Ln
   subst en;rw[<-mc] at N8 p6;have N60:=Y.n60;have ul:=Wc (t:=t) t.length;have yl:J.length=m:=by rw[n6.length_eq,Za,Zg]
   have n9:∀c,c<m->siz t (Yl t) c=((ZC t t.length).getD c []).length/\siz t (Yl t) c<=60:=λc hc=>⟨Zkl Y (by rw[<-mc];exact hc),aW (Zeg (λx=>by unfold Wm;split <;> decide) _) N60⟩
   have FA:FaC H8 r n' t.length m (siz t (Yl t)) (cnL t):=⟨D.n1,D.n60,N60,D.cd.m1,by omega,λc hc=>(n9 c hc).2,λi j k=>aW (Zeg (λx=>by unfold cnT;split <;> decide) _) N60,L2,L3,_,_,A',B,_,u9,by
    rw[p6];unfold ZI;exact congrArg (λl=>some (HO.lst l)) (aX λc hc=>congrArg (λx:Nat=>V.int (x:Int)) (n9 c (af.mp hc)).1.symm),N8⟩
   refine⟨_,rfl,r,tb,n',t.length,m,siz t (Yl t),cnL t,J,rfl,FA,A7.mono s8,yl,λys hy=>?_,p4,n6.nodup_iff.mpr (Zkn Y D Pu),λH9 s9=>?_⟩
   ·obtain⟨s,hs,rfl⟩:=aE.mp (n6.mem_iff.mp hy)
    exact⟨_,rfl,Zna Y D Pu (af.mp hs)⟩
   refine⟨_,rfl,?_⟩;refine Ye (λh=>absurd h (by decide)) (λ_=>?_);have n8:=(s7.trans s8).trans s9;have Gk:GkC H9 g J:=⟨t,n',pp,m,e,ω,φ,z,dg,G6.mono n8,Y,D,n6,p4,Zje Y D Pu o9 n6⟩;have A9:=(A7.mono s8).mono s9;have ft:=Zje Y D Pu o9 n6;rcases old with ⟨rfl,rfl⟩|⟨la,g1,tb1,p7,rfl,rfl,rfl,p8,w8,_⟩
   ·refine⟨_,rfl,_,rfl,?_⟩
    refine Ye (λh=>absurd h (by simp)) (λ_=>?_);refine Ye (λh=>absurd h (by decide)) (λ_=>?_);refine⟨_,rfl,_,rfl,_,_,rfl,Vd A9,ft,JY,λl2 o6=>?_⟩;have M:=Zv.upd (o:=.tup [.ref g,.str (dTb J).shown]) o6;exact⟨_,_,_,_,_,rfl,T6.mono (n8.trans M),by omega,.inr ⟨l2,g,tb,J,rfl,rfl,rfl,Zu,Gk.mono M,A9.mono M⟩⟩
   ·have q0:=n8 _ _ (p3.tup T2 p8)
    obtain⟨t',n1,p1,w9,e1,x0,x9,z1,y4,G1,P1,y6,y8,y9,ft1⟩:=w8;refine⟨_,rfl,_,rfl,?_⟩;refine Ye (λ_=>?_) (λh=>absurd (by simp) h);refine⟨_,rfl,la,_,_,_,rfl,rfl,.of q0,rfl,g1,t',n1,p1,w9,e1,x0,x9,z1,y4,rfl,(GT.tk T2 p3 G1).mono n8,P1,y6,λtb2 o7 H10 o8 A10 r6 r8=>?_⟩;have ex:o7=p7:=Ux (r6.trans y8.symm) r8 y9;subst ex;refine⟨_,_,rfl,Vd A10,ft1,_,rfl,la,_,_,_,rfl,rfl,.of (o8 _ _ q0),rfl,rfl,_,rfl,?_⟩;refine Ye (λh=>absurd h (by simp)) (λ_=>?_);refine⟨_,rfl,_,rfl,_,_,rfl,Vd (A9.mono o8),ft,JY,λl2 o6=>?_⟩;have M:=o8.trans (Zv.upd (o:=.tup [.ref g,.str (dTb J).shown]) o6);exact⟨_,_,_,_,_,rfl,T6.mono (n8.trans M),by omega,.inr ⟨l2,g,tb,J,rfl,rfl,rfl,Zu,Gk.mono M,A9.mono M⟩⟩
  ·rintro o5 H2 ⟨v2,v3,v4,v5,b,rfl,T2,bk,old⟩
   rcases old with ⟨_,z⟩|⟨la,g,tb,J,rfl,rfl,rfl,p8,Gk,A2⟩
   ·cases z
   ·obtain⟨t,n,pp,m,e,ω,φ,z,dg,G,Y,D,hp,pw,ft⟩:=Gk
    refine⟨_,rfl,g,t,n,pp,m,e,ω,φ,z,dg,rfl,G,Y,D,λtb2 o7 H3 s3 A3 hp3 pw3=>?_⟩;have ex:o7=J:=Ux (hp3.trans hp.symm) pw3 pw;subst ex;refine⟨_,_,rfl,Vd A3,ft,_,rfl,_,_,rfl,Vd (A2.mono s3),ft,rfl,?_⟩;rw[decide_eq_true rfl];exact q H3
theorem all_mk {l:gY}{w:World}{K:aa}{h:Heap}{mg:TX}{fa:Addr}(X:K.In h)(G:h.Ns mainGlobals mg)(hfa:mg "law"=some (.ref fa))
  (d1:ZB K "_law_feed" Zmj) (d2:ZB K "_law_draw" ZhW) (d3:ZB K "_law_twisted" ZhM) (d4:ZB K "_law_by_perms" Zpc) (d5:ZB K "_law_times_of" Zeh) (d6:ZB K "_law_group" ZhU) (d7:ZB K "_law_renamed" Zmc) (d8:ZB K "_law_classes" ZcQ) (d9:ZB K "_law_round" Zfb) (d10:ZB K "_law_counts" ZmZ) (d11:ZB K "_law_facts" Zpa) (d12:ZB K "round_of" ZhO) (d13:ZB K "full_round" Zmi) (d14:ZB K "fit_prime" Zo9) (d15:ZB K "root_powers" ZhP) (d16:ZB K "back" Zmk) (d17:ZB K "turned_by" Zfa) (d18:ZB K "turnings" ZaO) (d19:ZB K "classes_of" UK) (d20:ZB K "holders" Zmh) (d21:ZB K "class_numbers" ZcO) (d22:ZB K "power_walks" ZhL) (d23:ZB K "counts_of" Zfd) (d24:ZB K "less_often" Zmf) (d25:ZB K "back_by" Zfe) (d26:ZB K "last_part" Zmg) (d27:ZB K "parts_by" ZhQ) (d28:ZB K "taken_apart" ZhX) (d29:ZB K "first_of" ZhV) (d30:ZB K "primes_of" N46.Zfc) (d31:ZB K "stretched" N46.Zo1) (d32:ZB K "quotient" N46.Zo2) (d33:ZB K "least_sum" N46.ZhT) (d34:ZB K "number_of" N46.ZhR) (d35:ZB K "number_at" ZhS) (d36:ZB K "table_of" ZhN) (d37:ZB K "_law_alone" Zpd) (d38:ZB K "_law_places" Zo3) (d39:ZB K "_law_is_spread" Zo6) (d40:ZB K "_law_wide" Zma) (d41:ZB K "_law_sum" Zmb) (d42:ZB K "_law_mul" Zme) (d43:ZB K "_law_flip" Zo8) (d44:ZB K "_law_is_nought" Zmd) (d45:ZB K "_law_fault" Zo7) (d46:ZB K "_law_is_table" Zo5) (d47:ZB K "law" Zo4)
  (z1:bo K mainGlobals "list"=some none) (z2:bo K mainGlobals "len"=some none) (z3:bo K mainGlobals "range"=some none) (z4:bo K mainGlobals "tuple"=some none) (z5:bo K mainGlobals "sorted"=some none) (z6:bo K mainGlobals "set"=some none) (z7:bo K mainGlobals "abs"=some none) (z8:bo K mainGlobals "isinstance"=some none) (z9:bo K mainGlobals "all"=some none) (z10:bo K mainGlobals "repr"=some none) (z11:bo K mainGlobals "any"=some none) (z12:bo K mainGlobals "int"=some none) (z13:bo K mainGlobals "bool"=some none) (z14:bo K mainGlobals "enumerate"=some none) (z15:bo K mainGlobals "zip"=some none) (z16:bo K mainGlobals "sum"=some none) (z17:bo K mainGlobals "max"=some none) :
  ∃fd:FuncData,(∀(s:Shared) (v:Value),jp s fd ⟨[v],[]⟩ [("_law_script",v)])/\∀base:Heap,K.In base->base.Ns mainGlobals mg->Z4 l.prog w K mg base Yg 8 fa fd ["_law_script"] (ZcI K):=by
 have q:BlB mg:=⟨aw X G z1,aw X G z2,aw X G z3,aw X G z4,aw X G z5⟩;have j:Bl mg:=⟨aw X G z1,aw X G z2,aw X G z7,aw X G z3,aw X G z4,aw X G z8,aw X G z9,aw X G z6,aw X G z10,aw X G z11,aw X G z12,aw X G z13⟩;have J:ZeV mg:=⟨aw X G z5,aw X G z14⟩;have Y:BlT mg:=⟨aw X G z15,aw X G z16⟩;have n8:N46.Bl mg:=⟨aw X G z1,aw X G z2,aw X G z7,aw X G z3,aw X G z4,aw X G z8,aw X G z9,aw X G z6,aw X G z10,aw X G z11,aw X G z12,aw X G z13⟩;have n9:N46.Bl2 mg:=⟨aw X G z14,aw X G z17⟩;refine d47.law X G hfa (λbase f fd nb kb F=>?_) (λ_ _ _ _ _ _ _ _=>.of_eq rfl);have fn:=@ZB.fn l.prog w K mg base h;have u9:=fn d1 X G (λf fd F=>Zk4 F q) (λ_ _ _ _ _ _=>bd1 λ_=>rfl);have n6:=fn d2 X G (λf fd F=>Zk5 F q) (λ_ _ _ _ _ _=>bd2 λ_ _=>rfl);have p3:=fn d3 X G (λf fd F=>Zit F q) (λ_ _ _ _ _ _=>bd4 λ_ _ _ _=>rfl);have o7:=fn d4 X G (λf fd F=>ZnC F q) (λ_ _ _ _ _ _=>bd1 λ_=>rfl);have o8:=fn d5 X G (λf fd F=>Zgq F q) (λ_ _ _ _ _ _=>bd1 λ_=>rfl);have r9:=fn d6 X G (λf fd F=>Zgt F q n6 p3 o7 o8) (λ_ _ _ _ _ _=>bd2 λ_ _=>rfl);have p4:=fn d7 X G (λf fd F=>ZkW F q n6) (λ_ _ _ _ _ _=>bd2 λ_ _=>rfl);have p6:=fn d8 X G (λf fd F=>Zk6 F q (aw X G z6)) (λ_ _ _ _ _ _=>bd1 λ_=>rfl);have t5:=fn d9 X G (λf fd F=>Zgr F q) (λ_ _ _ _ _ _=>bd1 λ_=>rfl);have p7:=fn d10 X G (λf fd F=>ZnB F j) (λ_ _ _ _ _ _=>bd3 λ_ _ _=>rfl);have t6:=fn d11 X G (λf fd F=>ZnA F j p6 t5 p7) (λ_ _ _ _ _ _=>bd1 λ_=>rfl);have g_round_of:=fn d12 X G (λf fd F=>Ziv F) (λ_ _ _ _ _ _=>bd2 λ_ _=>rfl);have t7:=fn d13 X G (λf fd F=>Zk3 F j g_round_of) (λ_ _ _ _ _ _=>bd1 λ_=>rfl);have w8:=fn d14 X G (λf fd F=>Znz F j) (λ_ _ _ _ _ _=>bd2 λ_ _=>rfl);have p8:=fn d15 X G (λf fd F=>Ziw F j) (λ_ _ _ _ _ _=>bd2 λ_ _=>rfl);have g_back:=fn d16 X G (λf fd F=>Zk7 F) (λ_ _ _ _ _ _=>bd2 λ_ _=>rfl);have w9:=fn d17 X G (λf fd F=>Zgp F g_back) (λ_ _ _ _ _ _=>bd3 λ_ _ _=>rfl);have g_turnings:=fn d18 X G (λf fd F=>Zc6 F j J w9) (λ_ _ _ _ _ _=>bd2 λ_ _=>rfl);have M:=fn d19 X G (λf fd F=>Zet F j g_turnings) (λ_ _ _ _ _ _=>bd1 λ_=>rfl);have g_holders:=fn d20 X G (λf fd F=>Zk2 F j J) (λ_ _ _ _ _ _=>bd2 λ_ _=>rfl);have O:=fn d21 X G (λf fd F=>ZkX F j M g_holders) (λ_ _ _ _ _ _=>bd1 λ_=>rfl);have q0:=fn d22 X G (λf fd F=>Zis F O M) (λ_ _ _ _ _ _=>bd1 λ_=>rfl);have x0:=fn d23 X G (λf fd F=>Zgu F j J M O) (λ_ _ _ _ _ _=>bd1 λ_=>rfl);have t8:=fn d24 X G (λf fd F=>Zk0 F Y) (λ_ _ _ _ _ _=>bd4 λ_ _ _ _=>rfl);have o0:=fn d25 X G (λf fd F=>Zgv F) (λ_ _ _ _ _ _=>bd2 λ_ _=>rfl);have x9:=fn d26 X G (λf fd F=>Zk1 F j t8 o0) (λ_ _ _ _ _ _=>bd3 λ_ _ _=>rfl);have g_parts_by:=fn d27 X G (λf fd F=>Zix F j Y x9) (λ_ _ _ _ _ _=>bd3 λ_ _ _=>rfl);have r6:=fn d28 X G (λf fd F=>ZiC F j g_parts_by) (λ_ _ _ _ _ _=>bd2 λ_ _=>rfl);have g_first_of:=fn d29 X G (λf fd F=>ZiB F) (λ_ _ _ _ _ _=>bd3 λ_ _ _=>rfl);have y4:=fn d30 X G (λf fd F=>N46.Zgs F n8) (λ_ _ _ _ _ _=>bd1 λ_=>rfl);have y6:=fn d31 X G (λf fd F=>N46.Znr F n8 n9) (λ_ _ _ _ _ _=>bd2 λ_ _=>rfl);have g_quotient:=fn d32 X G (λf fd F=>N46.Zns F n8 n9) (λ_ _ _ _ _ _=>bd2 λ_ _=>rfl);have y8:=fn d33 X G (λf fd F=>N46.ZiA F y4 y6 g_quotient) (λ_ _ _ _ _ _=>bd1 λ_=>rfl);have y9:=fn d34 X G (λf fd F=>N46.Ziy F n8 n9 y8) (λ_ _ _ _ _ _=>bd2 λ_ _=>rfl);have g_number_at:=fn d35 X G (λf fd F=>Ziz F j J Y o0 y9) (λ_ _ _ _ _ _=>bd5 λ_ _ _ _ _=>rfl);have g_table_of:=fn d36 X G (λf fd F=>Ziu F j J t7 w8 p8 q0 x0 r6 o0 g_first_of g_number_at) (λ_ _ _ _ _ _=>bd1 λ_=>rfl);have t9:=fn d37 X G (λf fd F=>ZnD F) (λ_ _ _ _ _ _=>bd2 λ_ _=>rfl);have r8:=fn d38 X G (λf fd F=>Znt F j t9) (λ_ _ _ _ _ _=>bd1 λ_=>rfl);have o5:=fn d39 X G (λf fd F=>Znw F j r8) (λ_ _ _ _ _ _=>bd3 λ_ _ _=>rfl);have g__law_wide:=fn d40 X G (λf fd F=>ZkU F j) (λ_ _ _ _ _ _=>bd2 λ_ _=>rfl);have g__law_sum:=fn d41 X G (λf fd F=>ZkV F Y) (λ_ _ _ _ _ _=>bd3 λ_ _ _=>rfl);have g__law_mul:=fn d42 X G (λf fd F=>ZkZ F j) (λ_ _ _ _ _ _=>bd3 λ_ _ _=>rfl);have g__law_flip:=fn d43 X G (λf fd F=>Zny F j) (λ_ _ _ _ _ _=>bd2 λ_ _=>rfl);have o6:=fn d44 X G (λf fd F=>ZkY F j) (λ_ _ _ _ _ _=>bd2 λ_ _=>rfl);have u5:=fn d45 X G (λf fd F=>Znx F j g__law_wide g__law_sum g__law_mul g__law_flip o6) (λ_ _ _ _ _ _=>bd2 λ_ _=>rfl);have o9:=fn d46 X G (λf fd F=>Znv F j J o5 u5) (λ_ _ _ _ _ _=>bd2 λ_ _=>rfl);exact Znu F j u9 n6 r9 p4 t6 g_table_of o9
theorem walk {l:gY}{q:Program}{loose:List Str}{Y:TX->Heap->Prop}{M:World->Heap->Prop}{d:DefRec}{K:Params->aa}(hn:l.most=some 63)(J:d.params.defaults=[])
  (hY:∀(w:World) (h:Heap),M w h->(K w.params).In h)
  (F:∀(w:World) (j:TX) (O:Addr) (h:Heap),(K w.params).In h->h.Ns mainGlobals j->j d.name=some (.ref O)->
   ∃fd:FuncData,(∀(s:Shared) (u:Value),jp s fd ⟨[u],[]⟩ [("_law_script",u)])/\∀base:Heap,(K w.params).In base->base.Ns mainGlobals j->Z4 l.prog w (K w.params) j base Yg 8 O fd ["_law_script"] (ZcI (K w.params))) :
  mv q loose Y M l.row.toRowW d [] (λf vs=>mf f vs):=
 L2.Zbd (n:=63) (k:=8) (x:="_law_script") (CX:=λ_=>Yg) (sp:=λw=>ZcI (K w.params)) hn (by decide) J ⟨rfl,by decide,by decide,rfl⟩ hY F (λ_ _ a ns hl _ hS=>⟨a,ns,rfl,hS,hl,λ_=>rfl⟩) λ_ _ _ _ _ z=>z
end C46
namespace PySem.W.Fast
def tw14775517924674434360:=0
def tw10838026658385452720:=0
def tw14491590434037558099:=0
def tw10630650330314591654:=0
def tw7519436974272091472:=0
def tw8381249414572694059:=0
def tw6004997970882732957:=0
def tw1336471118677786689:=0
def tw14735692166099054844:=0
def tw9780775104029329480:=0
def tw12321106491997927340:=0
def tw17652061224200183587:=0
def tw11136066480045261705:=0
def tw10671284903495699165:=0
def tw15601831639572049459:=0
def tw4445990104517188080:=0
def tw5655184184751172211:=0
def tw10166592027455295070:=0
def tw17274516260673847159:=0
def tw1957939329903391603:=0
def tw17830638426377722475:=0
def tw8612067974528405670:=0
def tw15458765732933978002:=0
def tw16205444268857548128:=0
def tw3459524636563396983:=0
def tw3974608970826583175:=0
def tw16847285408526365054:=0
def tw1101274564810345949:=0
def tw10801941940914902243:=0
def tw4022645713839572591:=0
def tw4224120990117092789:=0
def tw13101620956026966308:=0
def tw14294222463659110932:=0
def tw17127190663960851663:=0
def tw1359633144107171888:=0
def tw11940946658358050251:=0
def tw10109669006127952230:=0
def tw16632627489218298454:=0
def tw5152548140936622926:=0
def tw17665870729476476247:=0
def tw14483127654368452799:=0
def tw6078473618902143350:=0
def tw10966077234323511062:=0
def tw6077410705487374106:=0
def tw5245397487480732579:=0
def tw4804863146498634341:=0
def tw14011502657086624972:=0
def tw2311905893370724342:=0
def tw114696001803803300:=0
def tw6987020812890906933:=0
def tw16293189588499573747:=0
def tw3367593876123039891:=0
def tw8132178746990575213:=0
def tw4977986348452404113:=0
def tw1738280496076441690:=0
def tw17718593843678008411:=0
def tw2955528080742129269:=0
def tw14294662242370889566:=0
def tw3287538218301203437:=0
def tw6097166712964612021:=0
def tw6016503340938255749:=0
def tw4066837729023022857:=0
def tw11100350844183289689:=0
def tw16219029947925697470:=0
def tw9716763732582152691:=0
def tw10832802894528903408:=0
def tw3259581266457812938:=0
def tw17837109224853673712:=0
def tw2199603173740008342:=0
def tw6290069362574600650:=0
def tw1110057996565755244:=0
def tw4135248302007343611:=0
def tw17825876687233339777:=0
def tw10511882115664567181:=0
def tw13289065435271154151:=0
def tw5563415737330753447:=0
def tw11870420427812499180:=0
def tw17689242728715509502:=0
def tw5641577970085489616:=0
def tw4688311340508673223:=0
def tw7882454478538826048:=0
def tw11778794453915719230:=0
def tw2648235489743431:=0
def tw11351286028899059509:=0
def tw10186790777005893641:=0
def tw7312855635123362329:=0
def tw16295875780418215273:=0
def tw17349062521890883967:=0
def tw1572501582335427257:=0
def tw1054939842800153141:=0
def tw1665481913692154464:=0
def tw14181444185866111740:=0
def tw14961152031754970527:=0
def tw5032024894198058051:=0
def tw10912028892387229397:=0
def tw11687869624217933073:=0
def tw15240210146901267249:=0
def tw5232705036220074934:=0
def tw13539101238605785304:=0
def tw9687835612659333777:=0
def tw10422633088968564169:=0
def tw3844543834642772684:=0
def tw9456119056397511433:=0
def tw17357755623974260574:=0
def tw2297435951445425655:=0
def tw3566247876525093305:=0
def tw11054083124788607232:=0
def tw9928184187116568392:=0
def tw1755332132101703019:=0
def tw18289411675709424470:=0
def tw16359684561406401527:=0
def tw6639948366821931455:=0
def tw8042800711743592571:=0
def tw17943941204975509211:=0
def tw10721328516495457282:=0
def tw6799073467748999096:=0
def tw5569573106814253563:=0
def tw13948601327393992483:=0
def tw12655792120187785641:=0
def tw6752727606744455635:=0
def tw9623390913477597527:=0
def tw14346381110365655491:=0
def tw9587994978945330977:=0
def tw12334136061839626438:=0
def tw7883101880606678100:=0
def tw12607793929352438287:=0
def tw13014622531733766947:=0
def tw8755102415746027142:=0
def tw540234219678697392:=0
def tw17193651018433579807:=0
def tw13966490108571194045:=0
def tw11062399449388004430:=0
def tw13987141687302192417:=0
def tw16976031846938192503:=0
def tw11703661165764021281:=0
def tw6923417311501697927:=0
def tw6731773670694007701:=0
def tw3932826441363883957:=0
def tw14365124879526078469:=0
def tw14175797680094601535:=0
def tw12935073363328205653:=0
def tw1302862690438225263:=0
def tw14954160608210237796:=0
def tw12113169448311890396:=0
def tw6787899968754741982:=0
def tw11326496982564377032:=0
def tw14825382849492021293:=0
def tw15804506066678429452:=0
def tw13169998894756591479:=0
def tw4241039101104152703:=0
def tw15275020678853402777:=0
def tw6067526887615962001:=0
def tw10336707785408440956:=0
def tw11165525720842578882:=0
def tw10911549929918466783:=0
def tw10079208601678529328:=0
def tw18374122756572452979:=0
def tw4261520445231813749:=0
def tw4869054079701237316:=0
def tw14966140604564717558:=0
def tw7547450072182805567:=0
def tw613221483767697925:=0
def tw8426263298807152303:=0
def tw4105144421329848791:=0
def tw9766235713447977254:=0
def tw9732058436498224810:=0
def tw7647765235155908999:=0
def tw12836256775433874434:=0
def tw10999953137544227854:=0
def tw16667987042845397384:=0
def tw15483879809682792752:=0
def tw6725663132722942218:=0
def tw14116823883250690596:=0
def tw14070806974456907675:=0
def tw15498042519138704604:=0
def tw15260458852823803127:=0
def tw3206878364174656216:=0
def tw12137152991145159280:=0
def tw13471555193964125530:=0
def tw9876200626647212252:=0
def tw16460545452352668074:=0
def tw7153659941677351518:=0
def tw1191753621057406648:=0
def tw12496548527505792938:=0
def tw12686550806339551559:=0
def tw842592845376157528:=0
def tw12707829963324299586:=0
def tw11273230052083653711:=0
def tw5996063508799301738:=0
def tw18415490181980690866:=0
def tw16137912622600936801:=0
def tw6261543194226747683:=0
def tw4842724620245908510:=0
def tw265268239823434297:=0
def tw458070272181477834:=0
def tw2706566153965446720:=0
def tw6583836637820499582:=0
def tw1957673875431202819:=0
def tw8906758689506959196:=0
def tw271245052811861513:=0
def tw10663325002500591090:=0
def tw15940479255758053171:=0
def tw15096134134456743777:=0
def tw1451660131214070561:=0
def tw8903192225961094549:=0
def tw4735233853387039073:=0
def tw13984385335671012672:=0
def tw793029575795193895:=0
def tw10120521015374052221:=0
def tw12712552538178191403:=0
def tw7059309614281155382:=0
def tw10425806591859648176:=0
def tw16538172199743274401:=0
def tw17276921398920721342:=0
def tw2426357021257628329:=0
def tw13152234497026832643:=0
def tw9742418799708205232:=0
def tw11782519603860018522:=0
def tw5911205701555232050:=0
def tw15923786060760745097:=0
def tw6175931934834530402:=0
def tw3613216075860109326:=0
def tw9621338669820788679:=0
def tw16030181556341870069:=0
def tw15737444384507088043:=0
def tw10846302426339132090:=0
def tw12792543098369644156:=0
def tw16370632207192873501:=0
def tw13667790609559553696:=0
def tw1970484256789028197:=0
def tw5220191643491727263:=0
def tw431297738593734309:=0
def tw3852022981469111998:=0
def tw18384596748620522698:=0
def tw7962535172646147380:=0
def tw17832691361966271737:=0
def tw7069215945105987202:=0
def tw10561278203164034782:=0
def tw16002519123639171184:=0
def tw5662888349988355480:=0
def tw12020931249592404660:=0
def tw15663087487500576088:=0
def tw14729430278161796887:=0
def tw13094513143962792644:=0
def tw12944963650313456714:=0
def tw7058286682203906756:=0
def tw5722163796616366320:=0
def tw7802886111712044249:=0
def tw3982556440180075756:=0
def tw6422192704221801930:=0
def tw6825930791849798476:=0
def tw881663832661818803:=0
def tw12727166448122719340:=0
def tw9757150565667149607:=0
def tw849976205482113240:=0
def tw8653448205264933502:=0
def tw5945065999945367663:=0
def tw222985399356473666:=0
def tw2583943122787093504:=0
def tw14320193936938313421:=0
def tw7926918923397970700:=0
def tw13543594740461312332:=0
def tw6025130220005432894:=0
def tw6874040383139803131:=0
def tw8629366785397512236:=0
end PySem.W.Fast
open PySem PySem.W PyProof.Rows
set_option maxRecDepth 100000 in
set_option maxHeartbeats 0 in
theorem PySem.Challenge.cw_classtab_k46_whole_the_table_holds : PySem.Challenge.rw_classtab_k46_whole_the_table.Holds := by
 w_on;o_law;k_head;(case hw=>w_witness2)
 k_fill
 refine C46.walk (l:=PySem.Challenge.rw_classtab_k46_whole_the_table) rfl rfl (fun w h Y=>PySem.W.kIn_of Y) ?F
 case F=>
  intro w mg fa h KX G hmg
  refine' C46.all_mk KX G hmg (L2.ZB.mk ?_ ?_ ?_ ?_) (L2.ZB.mk ?_ ?_ ?_ ?_) (L2.ZB.mk ?_ ?_ ?_ ?_) (L2.ZB.mk ?_ ?_ ?_ ?_) (L2.ZB.mk ?_ ?_ ?_ ?_) (L2.ZB.mk ?_ ?_ ?_ ?_) (L2.ZB.mk ?_ ?_ ?_ ?_) (L2.ZB.mk ?_ ?_ ?_ ?_) (L2.ZB.mk ?_ ?_ ?_ ?_) (L2.ZB.mk ?_ ?_ ?_ ?_) (L2.ZB.mk ?_ ?_ ?_ ?_) (L2.ZB.mk ?_ ?_ ?_ ?_) (L2.ZB.mk ?_ ?_ ?_ ?_) (L2.ZB.mk ?_ ?_ ?_ ?_) (L2.ZB.mk ?_ ?_ ?_ ?_) (L2.ZB.mk ?_ ?_ ?_ ?_) (L2.ZB.mk ?_ ?_ ?_ ?_) (L2.ZB.mk ?_ ?_ ?_ ?_) (L2.ZB.mk ?_ ?_ ?_ ?_) (L2.ZB.mk ?_ ?_ ?_ ?_) (L2.ZB.mk ?_ ?_ ?_ ?_) (L2.ZB.mk ?_ ?_ ?_ ?_) (L2.ZB.mk ?_ ?_ ?_ ?_) (L2.ZB.mk ?_ ?_ ?_ ?_) (L2.ZB.mk ?_ ?_ ?_ ?_) (L2.ZB.mk ?_ ?_ ?_ ?_) (L2.ZB.mk ?_ ?_ ?_ ?_) (L2.ZB.mk ?_ ?_ ?_ ?_) (L2.ZB.mk ?_ ?_ ?_ ?_) (L2.ZB.mk ?_ ?_ ?_ ?_) (L2.ZB.mk ?_ ?_ ?_ ?_) (L2.ZB.mk ?_ ?_ ?_ ?_) (L2.ZB.mk ?_ ?_ ?_ ?_) (L2.ZB.mk ?_ ?_ ?_ ?_) (L2.ZB.mk ?_ ?_ ?_ ?_) (L2.ZB.mk ?_ ?_ ?_ ?_) (L2.ZB.mk ?_ ?_ ?_ ?_) (L2.ZB.mk ?_ ?_ ?_ ?_) (L2.ZB.mk ?_ ?_ ?_ ?_) (L2.ZB.mk ?_ ?_ ?_ ?_) (L2.ZB.mk ?_ ?_ ?_ ?_) (L2.ZB.mk ?_ ?_ ?_ ?_) (L2.ZB.mk ?_ ?_ ?_ ?_) (L2.ZB.mk ?_ ?_ ?_ ?_) (L2.ZB.mk ?_ ?_ ?_ ?_) (L2.ZB.mk ?_ ?_ ?_ ?_) (L2.ZB.mk ?_ ?_ ?_ ?_) ?_ ?_ ?_ ?_ ?_ ?_ ?_ ?_ ?_ ?_ ?_ ?_ ?_ ?_ ?_ ?_ ?_
  any_goals k_is
  all_goals kernel_rfl
