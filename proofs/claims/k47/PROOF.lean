import PyProof.Rows.All
import Wide.All
import OpenK.AllK
import Wide.FinOn
import Lean
import PyProof.EqAt
import PyProof.EqKinds
import PyProof.TupleCall
import PyProof.DictWalks
import KE.KDictSum
import KE.KSortTup
import PyProof.EnumMake
import PyProof.EnumFor
import PyProof.TupleIter
import PyProof.Rows.Range3
import PyProof.AutoListH
import KE.LcSums
import PyProof.ZipIter
import PySem.Challenge.RW_classtab_k47_whole_upright
abbrev Y4:=List (List (List Nat))
abbrev X0:=List (List (List Int))
abbrev T9:=List (List Nat)
abbrev T8:=List (List Int)
abbrev T7:=List Nat
abbrev TZ:=List Int
abbrev TY:=PySem.Value->PySem.Shared->Prop
abbrev TX:=PySem.Str->Option PySem.Value
abbrev TW:=List PySem.Addr
open PySem.W renaming Frag->aa,mg_none_of->av,nsIn->bi,fnOf->b8,keepIn->dG,codeIn->eZ,kas_rev->e7,kas_sort->gt,OpenLaw->gA,cellsFrom_some->gK,methodObj->iJ,kat_nil->iN,KasT->jF,lks_uniq->lI,kat_sorted->lJ,WalkO->lK,listOf->mr,kas_tail3->mv,mg_of->mM
open List renaming range->ac,getElem?_eq_some_iff->ae,mem_range->af,replicate->ah,getElem?_range->aj,getElem?_eq_none->ak,mem_cons_of_mem->ao,getElem?_append_left->aq,mem_cons_self->ar,getElem?_append_right->au,contains_iff_mem->aw,all_eq_true->az,mem_of_getElem?->aB,mem_cons->aD,mem_map->aE,map_map->aH,replicate_succ->aK,map_cons->aN,map_append->aO,mem_append_right->aP,mem_singleton->aS,any_eq_true->aU,map_congr_left->aW,flatten_cons->a6,ext_getElem?->a7,length_set->ba,getElem_mem->bn,getElem?_of_mem->bo,getElem?_replicate->bz,Perm->bD,range_succ->bG,mem_append->bH,length_take->bI,length_drop->bJ,nodup_cons->bN,drop_eq_getElem_cons->bR,filterMap_cons->bS,mem_append_left->bU,length_replicate->bZ,findIdx_lt_length->cB,perm_ext_iff_of_nodup->cD,take_add_one->cM,length->cN,any_cons->cR,take_length->cU,tail_cons->cW,nodup_range->cY,lookup_cons->cZ,range'->de,range_eq_range'->dP,nodup_nil->dQ,findIdx_getElem->dR,range'_succ->dY,not_mem_nil->dZ,filter_cons->ee,any_map->ef,pairwise_iff_getElem->eG,length_zip->eS,length_nil->eV,find?_cons->eW,append_nil->eX,take_zero->e9,length_pos_of_mem->fc,drop_eq_nil_of_le->fe,drop_length->fw,getElem?_set_ne->fH,length_map->fN,map_nil->fU,map_inj_right->f6,getElem?_take->f7,mem_of_find?_eq_some->gh,getElem?_zip_eq_some->gm,getElem?_eq_none_iff->gq,pairwise_map->gw,append_assoc->gx,pairwise_singleton->gR,map->gS,length_eq_zero_iff->gU,pairwise_lt_range->hG,mem_filter->ig,filter_map->ii,any_append->ij,pairwise_append->ip,map_eq_cons_iff->iq,mem_filterMap->iP,lookup_append->iQ,find?_eq_none->iR,filter_append->iS,take_sublist->i6,getElem?_set->i7,foldl_append->i9,findIdx_lt_length_of_exists->ja,of_mem_zip->jA,foldl_cons->jB,find?_some->jC,find?_range_eq_some->j3,not_any_eq_all_not->kh,take_of_length_le->km,range_succ_eq_map->ko,map_set->kq,getElem?_set_self->ku,any_nil->kw,length_filter_le->kU,getElem?_toArray->kW,filterMap_append->kZ,mem_erase_of_ne->lA,length_eraseIdx->lB,map_eq_nil_iff->lR,filter_sublist->lS,zip_cons_cons->lZ,pairwise_cons->ma,foldl->md,nodup_append->mF,getElem?_inj->mG,filter_congr->mH,getElem_map->mO,ext_getElem->mP,countP_cons->mQ,cons_append->mR
open Bool renaming and_eq_true->ag,false_ne_true->aF,or_eq_true->aY,eq_iff_iff->bT,false_eq_true->di,not_eq_true'->ff,false_or->fF,eq_false_iff->gy,or_false->gI,false_and->jM,and_false->jN,and_true->j4
open Classical renaming byContradiction->ai,propDecidable->jD
open PySem.PassesOwn renaming never->am
open PySem.Value renaming ref->ax,none->be,type->b9,int->fR,bool->iK,isInt_shape->iU,notImplemented->kD,str->mw
open Nat renaming ne_of_lt->ay,lt_of_lt_of_le->aC,mod_eq_of_lt->aT,zero_le->a5,le_trans->a8,mod_lt->bc,dvd_of_mod_eq_zero->bf,ne_of_gt->bq,lt_of_le_of_ne->bu,lt_irrefl->bK,succ_mul->ci,sub_zero->ck,sub_self->cn,lt_or_ge->cp,lt_succ_self->cC,le_of_lt->cO,mul_comm->dw,add_sub_cancel->dz,not_lt_zero->dC,mod_add_mod->dD,le_of_succ_le->dJ,mul_le_mul_right->dS,le_add_right->eE,add_zero->eF,zero_mul->fk,lt_succ_of_lt->fm,lt_of_succ_lt_succ->fo,le_of_not_lt->fC,min_le_left->fO,div_le_self->fP,mul_le_mul_left->fS,zero_add->fX,le_succ->gE,add_mod_right->gF,le_of_dvd->gP,succ_lt_succ->gX,mod_self->ie,mul_one->iB,gcd->iI,lt_trichotomy->jd,lt_trans->je,succ_ne_zero->jw,mul_add->jz,mul_le_mul->jT,lt_of_mul_lt_mul_left->jZ,mul_assoc->ke,add_lt_add_iff_right->kf,add_assoc->kg,zero_mod->kO,succ_pos->kP,min_self->kQ,add_comm->kS,mod_mod->lQ,mod_eq_sub_mod->mE
open Option.some renaming inj->aA
open Int renaming natCast_mul->aG,natCast_emod->aX,add_zero->a9,zero_mul->bg,mul_zero->bx,mul_assoc->bB,mul_emod->bF,emod_lt_of_pos->bO,emod_nonneg->bX,zero_add->cq,eq_ofNat_of_zero_le->cw,mul_comm->cQ,mul_le_mul_of_nonneg_right->c9,natCast_nonneg->dA,natCast_ediv->eL,natCast_add->eY,emod_eq_of_lt->fq,mul_one->fJ,emod_emod_of_dvd->fK,one_mul->gG,neg_mul->gH,sub_emod->ik,sub_mul->iC,mul_sub->iD,add_mul->iE,dvd_refl->jf,ediv_nonneg->jH,sub_zero->lc,mul_add->lU,lt_of_lt_of_le->mI,lt_of_le_of_lt->mJ
open PySem renaming Spec->aI,mem_of_lookup->bv,wpAny_newObj_type->bE,wpAny_call_entry->bM,wpAny_callSpecial?_slot->bP,codeAny_builtin->bV,Builtin->cg,wpAny_mono->cr,wpAny_holding->cI,call_meets->cK,Scope->cL,plainId_quiet->c6,wpAny_setField->dk,wpAny_field->dE,wpAny_passesOwn->dM,wpAny_truthy_bool->dU,wpAny_pyIter_enum->dW,NameKind->eP,wpAny_setField_rec->fg,wpAny_rule->fh,codeAny_mono->fz,wpAny_attempt->fQ,sizeLine_eq->fV,wpAny_seqItems->gJ,IsEnum->gM,wpAny_pyIter_list->gZ,ItemsOf->g8,IsRangeIter->g9,wpAny_typeOf->ir,wpAny_pyNext_range_end->iu,wpAny_pyIter_rangeiter->iw,PyData->iz,wpAny_execs_nil->iG,wpAny_fieldsOf->iT,BindsTo->i0,wpAny_standAt->jg,wpAny_pyIter_tuple->jj,wpAny_pyIter_range->jm,wpAny_load->jo,wpAny_Call_Name_kw->jp,typeIs_int->jq,tupleKind_room_in1->jr,wpAny_isInstance->jO,wpAny_askSetting->jP,noFill_tuple_add->jQ,wpAny_of_eq->jU,wpAny_ite_split->j5,codeAny_of_tree->j6,wpAny_runValue->kx,wpAny_letOwnedTupleGo_enum->kA,isSubtype_type->kB,Paired->kF,Operator->kG,Meets->kH,Drawn->kK,wpAny_binaryOp_repeat_ref->lq,wpAny_newList->lC,wpAny_comprehension_free->lD,seq_tuple_add->lE,rangeSize_one->lF,call->lG,wpAny_Call_method_late->mh,seqSlot_of->mo,concat_meets->mq,wpAny_isTrue_Compare1->mK,builtinLookup_eq_fast->mL
open PySem.F renaming plainAttrs_list->aJ,slot_list_append->aQ,type_list_append->aR,called_set->bY,slot_tuple_index->cS,type_tuple_index->eA,slot_tuple_iterator_next->eB,plainAttrs_tuple->eC,plain_list_iadd->eQ,slot_tuple_mul->eR,slot_enumerate_next->fG,args_tuple_add_2->f8,entry_tuple_add->gu,slot_tuple_add->gN,called_tuple->ic,slot_int_rmul->io,args_tuple_mul_2->jc,plain_proto_collect->ji,entry_tuple_mul->jt,plain_extend_loop->jy,slot_tuple_rmul->jL,args_tuple_iterator_next_1->jR,plain_set_new->jX,entry_tuple_iterator_next->jY,slot_list_lt->j8,args_object_init_2->j9,slot_list_insert->kI,slot_list_extend->kJ,slot_list_index->lu,slot_list_count->lx,args_enumerate_next_1->ly,entry_enumerate_next->lN
open Array renaming getElem?_eq_getElem->aM,getElem?_eq_none->cy,getD_eq_getD_getElem?->cz,getElem?_toList->cG,size_extract->fY,perm_iff_toList_perm->jI,toArray_toList->lh,getD->lV,toList_push->mf
open PySem.PyData renaming int->aV,canLayAll0->cu,tuple->cx,depthAll->df,depth->dO,eqv->gQ,canLay0->im
open PyProof.Rows renaming IntsAre->aZ,callWith_type1->bm,AllBare->iA,firstMet_length_le->ju,assignInOrder_cons->jv,get?_update_seq->kc,boot_range->kN,firstMet_succ->lO,subscriptTail_builtinR->mD
open Ne renaming symm->bd
open PySem.Builtin.Range renaming rangeSize->bh,small->ce,rangeFitsLong->iH
open PySem.Heap renaming SameBut->bj,get?_update_self->bw,get?_update_other->bQ,size_push->bW,size_update->jh,get?_push_ne->mC
open PySem.Obj renaming data_mapFields->br,mapSeq->cH,isFreed_of_fields->cJ,cls_mapFields->gC,mapFields->gL,putSet->iW
open PySem.Around renaming under_plainId->bA
open PySem.Heap.SameBut renaming update->bC
open Nat.succ renaming inj->cv
open ForInStep renaming yield->cF
open List.Perm renaming refl->cP,swap->lT
open List.Pairwise renaming sublist->cT,imp_of_mem->dH,nil->eK,map->fI
open PySem.Builtin.SmallTypes renaming nextOf->c7,ownedTupleHandOut->fZ,ownedTupleIsFree->f9
open PySem.Builtin.List renaming listExtendWith->c8,listTooLong->dI,listLengthHint->ft,listFitsIndex->fv,listSameRef->iZ
open PySem.NameKind renaming cell->db,free->fj
open Option renaming map_some->dh,isSome_iff_exists->gf,isSome_map->lP,getD_none->lY
open PyProof.Rows.F renaming plain_set_update_loop->dB,entry_set_update_loop->gD
open PySem.SetTable renaming grown->dF,below->lX,slot->mz,fits->mB
open False renaming elim->dN
open PySem.AutoSeq1 renaming sub_tuple_tuple->dX,idx_int->iO
open PySem.Str renaming ofString->eh
open PySem.MeetsSeq3 renaming plain_eq_loop->eO,entry_eq_loop->jx
open PySem.SeqAt renaming items_eqAt->fu,any_by_data->gc,shaped->iV,EqAt->kE,notIn_tupleAt->lr,notIn_listAt->lM
open PySem.SeqAt.EqAt renaming int_int->fM,str_int->jV,int_str->jW
open PySem.Data renaming cell->fW,fields->gv
open PyProof.Rows.IsTup renaming new->gO
open True renaming intro->gY
open Sum renaming inl->hU,inr->jb
open Std.Legacy renaming Range->iF
open PySem.Builtin.Tuple renaming tupleTooMany->iL,tupleItemsOf->iM,tupleExact->iY
open PySem.Heap.IsListIter renaming extBut->iX
open Prod renaming fst->i5
open PySem.pickOrder renaming go->jE
open PySem.Calls renaming Name_function_global->jG,callWith_builtin->ka,evalArgs_plain->kL,call_function_entry->lz
open PySem.Paired renaming length->jK
open PyProof renaming noPylong_small->jS
open PySem.IsRange renaming new->j7
open PySem.W.UpdF renaming head->ki
open PySem.Walks renaming range->kC,list->lH
open PySem.W.KatTups renaming cons->lL,nil->lW
open PySem.Heap.IsTuple renaming typeIs->mN
set_option Elab.async false
set_option linter.all false
set_option maxRecDepth 100000
theorem Za {α j:Type _}{l:List α}{f:α->j}:(l.map f).length=l.length:=fN ..
theorem Zb {α:Type _}{l:List α}{i:Nat}{a:α}:l.getD i a=l[i]?.getD a:=List.getD_eq_getElem?_getD ..
theorem Zc {α j:Type _}{f:α->j}{l:List α}{i:Nat}:(l.map f)[i]?=l[i]?.map f:=List.getElem?_map ..
theorem Zd {α:Type _}{a b:List α}:(a++b).length=a.length+b.length:=List.length_append ..
theorem Ze {α:Type _}{n:Nat}{a:α}:(ah n a).length=n:=bZ ..
theorem Zf {α:Type _}{l:List α}{i:Nat}(h:i<l.length):l[i]?=some l[i]:=List.getElem?_eq_getElem h
theorem Zg {n:Nat}:(ac n).length=n:=List.length_range ..
theorem Zh {α:Type _}{l:List α}:l.toArray.size=l.length:=List.size_toArray ..
theorem Zi {α:Type _}{a:α}{l:List α}:(a::l).length=l.length+1:=List.length_cons ..
theorem Zj (n:Nat):(n:Int).toNat=n:=Int.toNat_natCast n
theorem Zk {α:Type _}{a:α}:[a].length=1:=List.length_singleton ..
noncomputable abbrev Zl:=@PySem.wpAny_bind
noncomputable abbrev Zm:=@PySem.wpAny_pure
noncomputable abbrev Zn:=@PySem.Heap.get?_push_of_some
noncomputable abbrev Zo:=@PySem.Heap.get?_push_size
noncomputable abbrev Zp:=@PySem.Heap.lt_size
noncomputable abbrev Zq:=@Nat.le_refl
noncomputable abbrev Zr.{u}:=@Array.length_toList.{u}
namespace L2
open PySem PySem.Spec PyProof.Rows
noncomputable abbrev YQ:=Sum Int Str
def ZaM:YQ->Value->Bool
 | .inl k,v=>Value.isInt k v
 | .inr x,v=>Value.isStrOf x v
def ZqK (w:World):YQ->Int
 | .inl k=>hashInt k
 | .inr x=>hashStr w x
theorem YA:∀{k:YQ}{v:Value},ZaM k v=true->(∃i t,k=hU i/\v=fR i t)\/(∃x t,k=jb x/\v=mw x t)
 | .inl i,v,h=>by
  obtain⟨t,e⟩:=iU (k:=i) (v:=v) h;exact .inl ⟨i,t,rfl,e⟩
 | .inr x,v,h=>by
  obtain⟨t,e⟩:=Value.isStrOf_shape (x:=x) (v:=v) h;exact .inr ⟨x,t,rfl,e⟩
theorem Zgt (i:Int)(t:Tok):ZaM (.inl i) (.int i t)=true:=by simp[ZaM,Value.isInt]
theorem Zgs (x:Str)(t:Tok):ZaM (.inr x) (.str x t)=true:=by simp[ZaM,Value.isStrOf]
theorem Znz (a b:Int):decide ((hU a:YQ)=hU b)=(a == b):=by
 by_cases e:a=b
 ·subst e;simp
 ·have h:¬(hU a:YQ)=hU b:=λq=>e (Sum.inl.inj q)
  rw[decide_eq_false h];exact (beq_eq_false_iff_ne.mpr e).symm
theorem Znw (a b:Str):decide ((jb a:YQ)=jb b)=decide (a=b):=by
 by_cases e:a=b
 ·subst e;simp
 ·have h:¬(jb a:YQ)=jb b:=λq=>e (Sum.inr.inj q)
  rw[decide_eq_false h,decide_eq_false e]
theorem Zny (a:Int)(b:Str):decide ((hU a:YQ)=jb b)=false:=decide_eq_false (λq=>nomatch q)
theorem Znx (a:Str)(b:Int):decide ((jb a:YQ)=hU b)=false:=decide_eq_false (λq=>nomatch q)
noncomputable def YN (prog:Program)(w:World):PySem.KeyKind prog w YQ where
 is:=ZaM
 hash:=ZqK w
 inj:=λv a b M hb=>by
  rcases YA M with ⟨i,t,rfl,rfl⟩|⟨x,t,rfl,rfl⟩
  ·rcases YA hb with ⟨j,u,rfl,e⟩|⟨y,u,rfl,e⟩
   ·injection e with q _;rw[q]
   ·exact nomatch e
  ·rcases YA hb with ⟨j,u,rfl,e⟩|⟨y,u,rfl,e⟩
   ·exact nomatch e
   ·injection e with q _;rw[q]
 byValue:=λk v h=>by
  rcases YA h with ⟨i,t,rfl,rfl⟩|⟨x,t,rfl,rfl⟩ <;> rfl
 pyHash:=λJ h=>by
  rcases YA J with ⟨i,t,rfl,rfl⟩|⟨x,t,rfl,rfl⟩
  ·exact wpAny_pyHash_int h
  ·exact wpAny_pyHash_str h
 eqBool:=λO J h=>by
  rcases YA O with ⟨i,t,rfl,rfl⟩|⟨x,t,rfl,rfl⟩
  ·rcases YA J with ⟨j,u,rfl,rfl⟩|⟨y,u,rfl,rfl⟩
   ·rw[Znz] at h;exact wpAny_eqBool_int h
   ·rw[Zny] at h;exact jW i t y u _ _ _ _ h
  ·rcases YA J with ⟨j,u,rfl,rfl⟩|⟨y,u,rfl,rfl⟩
   ·rw[Znx] at h;exact jV x t j u _ _ _ _ h
   ·rw[Znw] at h;exact wpAny_eqBool_str h
 «strs»:=λk x t v h=>by
  rcases YA h with ⟨i,u,rfl,e⟩|⟨y,u,rfl,e⟩
  ·exact nomatch e
  ·injection e with q _
   subst q;cases v <;> rfl
theorem Zc5 (prog:Program)(w:World)(i:Int)(t:Tok):(YN prog w).is (.inl i) (.int i t)=true:=Zgt i t
theorem Zc4 (prog:Program)(w:World)(x:Str)(t:Tok):(YN prog w).is (.inr x) (.str x t)=true:=Zgs x t
inductive V where
 |non|bl (b:Bool)|int (i:Int)|str (x:Str)|byt (b:Array UInt8)|flt (b:UInt64)|ref (a:Addr)|ty (n:String)
 deriving DecidableEq
abbrev TV:=List V
abbrev TU:=Option V
def RelV:V->Value->Prop
 | .non,u=>u=be
 | .bl b,u=>u=iK b
 | .int i,u=>∃t,u=fR i t
 | .str x,u=>∃t,u=mw x t
 | .byt b,u=>∃t,u=Value.bytes b t
 | .flt b,u=>∃t,u=Value.float b t
 | .ref a,u=>u=ax a
 | .ty n,u=>u=b9 n
noncomputable abbrev ZO:TV->List Value->Prop:=kF RelV
theorem ZO.length {xs:TV}{us:List Value}(r:ZO xs us):xs.length=us.length:=jK r
theorem ZO.get:∀{xs:TV}{us:List Value}{i:Nat}{x:V},ZO xs us->xs[i]?=some x->∃u,us[i]?=some u/\RelV x u
 |_,_,_,_,.nil,e=>by simp at e
 |_,_,0,_,.cons r _,e=>by simp at e;subst e;exact⟨_,rfl,r⟩
 |_,_,i+1,x,.cons _ t,e=>by
  obtain⟨u,j,q⟩:=ZO.get (i:=i) (x:=x) t (by simpa using e);exact⟨u,by simpa using j,q⟩
theorem ZO.set {x:V}{u:Value}(r:RelV x u):∀{xs:TV}{us:List Value} (i:Nat),ZO xs us->ZO (xs.set i x) (us.set i u)
 |_,_,_,.nil=>.nil
 |_,_,0,.cons _ t=>.cons r t
 |_,_,i+1,.cons q t=>.cons q (ZO.set r i t)
theorem ZO.append:∀{xs ys:TV}{us j:List Value},ZO xs us->ZO ys j->ZO (xs++ys) (us++j)
 |_,_,_,_,.nil,s=>s
 |_,_,_,_,.cons r t,s=>.cons r (ZO.append t s)
theorem ZO.take:∀{xs:TV}{us:List Value} (n:Nat),ZO xs us->ZO (xs.take n) (us.take n)
 |_,_,0,_=>.nil
 |_,_,_+1,.nil=>.nil
 |_,_,n+1,.cons r t=>.cons r (ZO.take n t)
theorem ZO.drop:∀{xs:TV}{us:List Value} (n:Nat),ZO xs us->ZO (xs.drop n) (us.drop n)
 |_,_,0,r=>r
 |_,_,_+1,.nil=>.nil
 |_,_,n+1,.cons _ t=>ZO.drop n t
def Zas:TU->Option Value->Prop
 |some v,some u=>RelV v u
 |none,none=>True
 |_,_=>False
def KV {j:Type}:List (j×V)->List (j×Value)->Prop:=kF λ(p:j×V) (q:j×Value)=>p.1=q.1/\RelV p.2 q.2
def kV:YQ->V
 | .inl i=>.int i
 | .inr x=>.str x
inductive HO where
 |lst (xs:TV)
 |tup (xs:TV)
 |dK (kvs:List (YQ×V))|dT (kvs:List (List YQ×V))
 |set (S:Int->Bool) (n:Nat)
 |ins (C dx:Addr) (fs:List (Str×V))
 |own (x:Addr)
 |xd (fs:List (Str×V))
 |met (f x:Addr)
 |rng (lo hi:Int)
 |frz (o:Obj) (u:HO)
 |tbl (ps:Array Value)
 |ext (φ:Heap->Prop)
noncomputable abbrev Hp:=Addr->Option HO
def upd (H:Hp)(a:Addr)(o:HO):Hp:=λb=>if b=a then some o else H b
theorem Zu {H:Hp}{a:Addr}{o:HO}:upd H a o a=some o:=by unfold upd;rw[if_pos rfl]
theorem Zz {H:Hp}{a b:Addr}{o:HO}(h:b≠a):upd H a o b=H b:=by unfold upd;rw[if_neg h]
theorem ZjR {H:Hp}{a:Addr}{o u:HO}:upd (upd H a o) a u=upd H a u:=by
 funext b;unfold upd;split <;> rfl
theorem Zix {H:Hp}{a b:Addr}{o u:HO}(h:H a=some o)(h':H b=some u)(d:o≠u):a≠b:=by
 intro e;subst e;rw[h] at h';exact d (aA h')
theorem Yn {H:Hp}{a b:Addr}{o:HO}(h:H a=some o)(h':H b=none):a≠b:=by
 intro e;subst e;rw[h] at h';cases h'
section
variable (P:Program)(w:World)
def YK (H:Hp)(h:Heap)(a:Addr):HO->Prop
 | .lst M=>M.length<=sizeLine/\∃(j:List Value) (n:Nat),ZO M j/\h.get? a=some {cls:=.type "list",data:=.seq j.toArray n}
 | .tup M=>M.length<=sizeLine/\∃j:List Value,ZO M j/\IsTup h a j.toArray
 | .dK J=>J.length<=sizeLine/\(a == sysModules)=false/\∃vs,KV J vs/\h.DictOf (YN P w) a vs
 | .dT J=>J.length<=sizeLine/\(a == sysModules)=false/\∃M:List (List YQ×Addr×Value),
   kF (λ(p:List YQ×V) (q:List YQ×Addr×Value)=>p.1=q.1/\H q.2.1=some (.tup (p.1.map kV))/\RelV p.2 q.2.2) J M/\
   ∃o es ep,h.get? a=some o/\o.ExactDict/\o.data=.dict es ep/\es.toList=M.map (entryOfKey (tupleKind (YN P w)))/\(M.map (·.1)).Nodup
 | .set S n=>h.SetOf (intKind P w) a S n
 | .ins C Y fs=>H Y=some (.own a)/\fs.length<=1000/\Y≠a/\h.get? a=some (PySem.W.instObj C Y)/\
   ∃O,h.Ns1 Y O/\(∀f,Zas (fs.lookup f) (O f))/\PySem.Within O (fs.map (·.1))
 | .own _=>∃o,h.get? a=some o
 | .xd fs=>∃O,h.Ns1 a O/\∀f,Zas (fs.lookup f) (O f)
 | .rng lo hi=>∃t u v,h.get? a=some {cls:=.type "range",data:=.fields #[.int lo t,.int hi u,.int 1 v]}
 | .frz o u=>h.get? a=some o/\YK H h a u
 | .tbl ps=>h.get? a=some {cls:=.none,data:=.fields ps}
 | .met f x=>h.get? a=some (iJ (.ref f) (.ref x))
 | .ext φ=>φ h/\(∃o,h.get? a=some o)/\∀h1 h2:Heap,φ h1->(∀o,h1.get? a=some o->h2.get? a=some o)->φ h2
def VA (H:Hp)(h:Heap):Prop:=∀a o,H a=some o->YK P w H h a o
end
section
variable {P:Program}{w:World}{H H':Hp}{h h':Heap}{a:Addr}{o:HO}
theorem YK.lt (x:YK P w H h a o):a<h.objs.size:=by
 cases o with
 |lst q=>obtain⟨_,_,_,_,e⟩:=x;exact Zp e
 |tup q=>obtain⟨_,_,_,p⟩:=x;exact p.lt
 |dK j=>obtain⟨_,_,_,_,o,_,_,e,_⟩:=x;exact Zp e
 |dT j=>obtain⟨_,_,_,_,o,_,_,e,_⟩:=x;exact Zp e
 |set S n=>obtain⟨o,_,_,_,e,_⟩:=x;exact Zp e
 |ins C J fs=>obtain⟨_,_,_,e,_⟩:=x;exact Zp e
 |own y=>obtain⟨_,e⟩:=x;exact Zp e
 |xd fs=>obtain⟨_,⟨_,_,_,e,_⟩,_⟩:=x;exact Zp e
 |rng lo M=>obtain⟨_,_,_,e⟩:=x;exact Zp e
 |frz O u=>obtain⟨e,_⟩:=x;exact Zp e
 |tbl Y=>exact Zp (show h.get? a=some _ from x)
 |met f y=>exact Zp (show h.get? a=some _ from x)
 |ext φ=>obtain⟨_,⟨_,e⟩,_⟩:=x;exact Zp e
theorem kF.mapP {α J:Type}{F G:α->J->Prop}:∀{j:List α}{q:List J},kF F j q->(∀a b,F a b->G a b)->kF G j q
 |_,_,.nil,_=>.nil
 |_,_,.cons r t,f=>.cons (f _ _ r) (kF.mapP t f)
theorem YK.stay (x:YK P w H h a o)(k:∀b u,(b=a\/H b=some (.own a))->h.get? b=some u->h'.get? b=some u)
  (ho:∀b,H b=some (.own a)->H' b=some (.own a)) (ht:∀b xs,H b=some (.tup xs)->H' b=some (.tup xs)):YK P w H' h' a o:=by
 induction o with
 |lst xs=>obtain⟨z,O,n,r,e⟩:=x;exact⟨z,O,n,r,k _ _ (.inl rfl) e⟩
 |tup xs=>obtain⟨z,O,r,j,e,c⟩:=x;exact⟨z,O,r,j,k _ _ (.inl rfl) e,c⟩
 |dK Y=>obtain⟨z,y,vs,r,j,J,M,e,c⟩:=x;exact⟨z,y,vs,r,j,J,M,k _ _ (.inl rfl) e,c⟩
 |dT Y=>
  obtain⟨z,y,xs,r,j,J,M,e,c⟩:=x;exact⟨z,y,xs,kF.mapP r λp q z=>⟨z.1,ht _ _ z.2.1,z.2.2⟩,j,J,M,k _ _ (.inl rfl) e,c⟩
 |set S n=>obtain⟨j,J,M,t,e,c⟩:=x;exact⟨j,J,M,t,k _ _ (.inl rfl) e,c⟩
 |ins C dx fs=>
  obtain⟨d,z,ne,e,mA,⟨od,J,M,e2,c⟩,r⟩:=x;exact⟨ho _ d,z,ne,k _ _ (.inl rfl) e,mA,⟨od,J,M,k _ _ (.inr d) e2,c⟩,r⟩
 |own y=>obtain⟨j,e⟩:=x;exact⟨j,k _ _ (.inl rfl) e⟩
 |xd fs=>obtain⟨mA,⟨od,J,M,e,c⟩,r⟩:=x;exact⟨mA,⟨od,J,M,k _ _ (.inl rfl) e,c⟩,r⟩
 |rng lo hi=>obtain⟨t,u,v,e⟩:=x;exact⟨t,u,v,k _ _ (.inl rfl) e⟩
 |frz j u ih=>obtain⟨e,q⟩:=x;exact⟨k _ _ (.inl rfl) e,ih q⟩
 |tbl ps=>
  have e:h.get? a=some {cls:=.none,data:=.fields ps}:=x;show h'.get? a=some {cls:=.none,data:=.fields ps};exact k a _ (.inl rfl) e
 |met f y=>
  have e:h.get? a=some (iJ (.ref f) (.ref y)):=x;show h'.get? a=some (iJ (.ref f) (.ref y));exact k a _ (.inl rfl) e
 |ext φ=>obtain⟨p,⟨o,e⟩,st⟩:=x;exact⟨st _ _ p λo q=>k _ _ (.inl rfl) q,⟨o,k _ _ (.inl rfl) e⟩,st⟩
theorem VA.lt (x:VA P w H h)(e:H a=some o):a<h.objs.size:=(x a o e).lt
theorem VA.fresh (x:VA P w H h)(e:h.objs.size<=a):H a=none:=by
 cases q:H a with
 |none=>rfl
 |some u=>exact absurd (aC (x.lt q) e) (bK _)
theorem VA.kept (x:VA P w H h)(k:∀b u,h.get? b=some u->h'.get? b=some u):VA P w H h':=λa o e=>
 (x a o e).stay (λb u _ q=>k b u q) (λ_ q=>q) λ_ _ q=>q
theorem VA.laid (x:VA P w H h)(k:∀b u,h.get? b=some u->h'.get? b=some u)(M:h.objs.size<=a)(j:YK P w (upd H a o) h' a o):VA P w (upd H a o) h':=λb u e=>by
 have J:=x.fresh M;by_cases hb:b=a
 ·subst hb;rw[Zu] at e;cases e;exact j
 ·rw[Zz hb] at e
  exact (x b u e).stay (λc v _ q=>k c v q) (λc q=>by rw[Zz (Yn q J)];exact q) λc O q=>by rw[Zz (Yn q J)];exact q
end
def Rd (H:Hp)(a:Addr)(u:HO):Prop:=H a=some u\/∃o,H a=some (.frz o u)
theorem Rd.ok {P:Program}{w:World}{H:Hp}{h:Heap}{a:Addr}{u:HO}(r:Rd H a u)(x:VA P w H h):YK P w H h a u:=by
 rcases r with r|⟨o,r⟩
 ·exact x a u r
 ·obtain⟨_,q⟩:=x a _ r
  exact q
def Mut:Option HO->Prop
 |some (.lst _)=>True
 |some (.dK _)=>True
 |some (.dT _)=>True
 |some (.set _ _)=>True
 |some (.ins _ _ _)=>True
 |some (.ext _)=>True
 |_=>False
section
variable {P:Program}{w:World}{H:Hp}{h h':Heap}{x e:Addr}{o':HO}
theorem VA.write (ok:VA P w H h)(O:Mut (H x))(he:e=x\/H e=some (.own x))(k:∀b u,b≠e->h.get? b=some u->h'.get? b=some u)(m5:∃u,h'.get? e=some u)
  (m6:YK P w (upd H x o') h' x o'):VA P w (upd H x o') h':=λb u q=>by
 have J:∀c y,H c=some (.own y)->c≠x:=λc y r z=>by subst z;rw[r] at O;exact O
 have M:∀c Y,H c=some (.tup Y)->c≠x:=λc Y r z=>by subst z;rw[r] at O;exact O
 by_cases hb:b=x
 ·subst hb;rw[Zu] at q;cases q;exact m6
 ·rw[Zz hb] at q
  by_cases j:b=e
  ·have q':H b=some (.own x):=by
    rcases he with z|z
    ·exact absurd (j.trans z) hb
    ·rw[j];exact z
   rw[q] at q';cases q';obtain⟨v,hv⟩:=m5;exact⟨v,by rw[j];exact hv⟩
  ·refine (ok b u q).stay (λc v hc r=>k c v ?_ r) (λc r=>by rw[Zz (J c b r)];exact r) λc Y r=>by rw[Zz (M c Y r)];exact r
   rcases hc with rfl|hc
   ·exact j
   ·rintro rfl
    rcases he with z|z
    ·exact J c b hc z
    ·rw[hc] at z;cases z;exact hb rfl
end
structure Un (fs ex:TW)(H H':Hp)(h h':Heap):Prop where
 keep:∀b o,h.get? b=some o->H b=none->b∉fs->b∉ex->h'.get? b=some o
 slot:∀b o,h.get? b=some o->H b=none->b∈fs->b∉ex->∃sl,h'.get? b=some {o with slots:=sl}
 free:∀b o,h.get? b=some o->H b=none->b∉ex->H' b=none
 there:∀b o,h.get? b=some o->b∉ex->∃o',h'.get? b=some o'
 tups:∀b xs,H b=some (.tup xs)->H' b=some (.tup xs)
 frzs:∀b o u,H b=some (.frz o u)->H' b=some (.frz o u)
 tbls:∀b ps,H b=some (.tbl ps)->∃more,H' b=some (.tbl (ps++more))
section
variable {fs fs' ex ex':TW}{H H1 H2:Hp}{h h1 h2 h':Heap}{a x e:Addr}{o:HO}
theorem Un.any (u:Un fs ex H H1 h h1){b:Addr}{j:Obj}(q:h.get? b=some j)(n:H b=none)(J:b∉ex):∃M,h1.get? b=some {j with slots:=M}:=by
 by_cases hb:b∈fs
 ·exact u.slot b j q n hb J
 ·exact⟨j.slots,u.keep b j q n hb J⟩
theorem Un.kept (k:∀b u,h.get? b=some u->h'.get? b=some u):Un fs ex H H h h':=
 ⟨λb j q _ _ _=>k b j q,λb j q _ _ _=>⟨j.slots,k b j q⟩,λ_ _ _ n _=>n,λb j q _=>⟨j,k b j q⟩,λ_ _ q=>q,λ_ _ _ q=>q,λ_ J q=>⟨#[],by rw[q];simp⟩⟩
theorem Un.refl:Un fs ex H H h h:=Un.kept λ_ _ q=>q
theorem Un.laid (k:∀b u,h.get? b=some u->h'.get? b=some u)(J:h.objs.size<=a)(j:H a=none):Un fs ex H (upd H a o) h h' where
 keep:=λb u q _ _ _=>k b u q
 slot:=λb u q _ _ _=>⟨u.slots,k b u q⟩
 free:=λb u q n _=>by rw[Zz (ay (aC (Zp q) J))];exact n
 there:=λb u q _=>⟨u,k b u q⟩
 tups:=λb M q=>by rw[Zz (Yn q j)];exact q
 frzs:=λb u M q=>by rw[Zz (Yn q j)];exact q
 tbls:=λb O q=>⟨#[],by rw[Zz (Yn q j),q];simp⟩
theorem Un.write (J:Mut (H x))(he:e=x\/H e=some (.own x))(k:∀b u,b≠e->h.get? b=some u->h'.get? b=some u)(M:∃u,h'.get? e=some u):Un fs ex H (upd H x o) h h':=by
 have Y:∀b,H b=none->b≠x:=λb n z=>by subst z;rw[n] at J;exact J
 have hb:∀b,H b=none->b≠e:=λb n z=>by
  subst z;rcases he with r|r
  ·exact Y b n r
  ·rw[n] at r;cases r
 have O:∀b u,H b=some u->¬Mut (some u)->b≠x:=λb u q nm z=>by subst z;rw[q] at J;exact nm J
 refine⟨λb u q n _ _=>k b u (hb b n) q,λb u q n _ _=>⟨u.slots,k b u (hb b n) q⟩,λb u q n _=>by rw[Zz (Y b n)];exact n,λb u q _=>?_,
  λb xs q=>by rw[Zz (O b _ q λz=>z)];exact q,λb u xs q=>by rw[Zz (O b _ q λz=>z)];exact q,λb ps q=>⟨#[],by rw[Zz (O b _ q λz=>z),q];simp⟩⟩
 by_cases j:b=e
 ·subst j;exact M
 ·exact⟨u,k b u j q⟩
end
def trk (h:Heap)(H:Hp):TW:=(ac h.objs.size).filter λa=>(H a).isSome
def ZbV (h:Heap)(H:Hp):Heap:=PySem.W.hideAll h (trk h H)
theorem Zgx (h:Heap)(H:Hp):(ZbV h H).objs.size=h.objs.size:=PySem.W.hideAll_size _ _
theorem ZiS {h:Heap}{H:Hp}{b:Addr}{o:Obj}(e:h.get? b=some o)(n:H b=none):(ZbV h H).get? b=some o:=
 PySem.W.hideAll_get _ e λj=>by
  have q:(H b).isSome=true:=(ig.mp j).2;rw[n] at q;simp at q
theorem ZkS {h:Heap}{H:Hp}{b:Addr}{o:Obj}(e:(ZbV h H).get? b=some o):h.get? b=some o/\H b=none:=by
 have j:h.get? b=some o:=PySem.W.of_hideAll (trk h H) e;refine⟨j,?_⟩;cases q:H b with
 |none=>rfl
 |some x=>
  have J:b∈trk h H:=ig.mpr ⟨af.mpr (Zp j),by simp[q]⟩;have z:(ZbV h H).get? b=none:=PySem.W.hideAll_none (trk h H) J;rw[z] at e;cases e
structure Mod (K:aa)(mg:TX)(base:Heap):Prop where
 kin:K.In base
 glob:base.Ns mainGlobals mg
 blt:∃mb,base.Ns builtinsNs mb/\∀x:Str,x ≠ "__name__"->mb x=bootBuiltins x
 nolimit:base.NoLimit
structure Cx where
 prog:Program
 w:World
 K:aa
 mg:Str->Option Value
 base:Heap
 A:Around
 N:List Str
 s₀:Shared
 H₀:Hp
 env:Env
 outer:List Env
 stack:List Env
 ex:TW
 fn:Str->Bool
 calm:Bool
 pn:List (Addr×Obj)
 xe:Value->Shared->Prop
def frs (l:List Env):TW:=l.filterMap (·.frame)
noncomputable abbrev Cx.fs (X:Cx):TW:=frs X.outer
def Vis (j:cL)(x:Str):Prop:=j.names.lookup x=some .local\/j.names.lookup x=some .cell\/j.names.lookup x=some .free
def Loc (j:cL)(x:Str):Prop:=j.names.lookup x=some .local\/j.names.lookup x=some .cell
def Look (env:Env)(h:Heap)(m:TX)(x:Str)(u:Value):Prop:=
 (env.kindOf x=some .local/\m x=some u)\/((env.kindOf x=some .cell\/env.kindOf x=some .free)/\∃c,env.cells.lookup x=some c/\h.IsCell c (some u))
structure Cx.Ok (X:Cx):Prop where
 mod:Mod X.K X.mg X.base
 kind:X.env.scope.kind=.function
 glob:X.env.globals=mainGlobals
 blt:X.env.builtins=builtinsNs
 above:X.s₀.heap.objs.size<=X.env.locals
 inj:∀x y c,X.env.cells.lookup x=some c->X.env.cells.lookup y=some c->x=y
 has:∀x,(X.env.kindOf x=some .cell\/X.env.kindOf x=some .free)->∃c,X.env.cells.lookup x=some c
 cab:∀x c,X.fn x=true->X.env.cells.lookup x=some c->X.s₀.heap.objs.size<=c
 hd:X.calm=true->X.A.handled=none
 frames:X.A.frames=some X.stack
 stk:X.stack=X.outer\/(X.stack=X.env::X.outer/\X.env.frame=some X.env.locals)
 exf:∀b∈X.ex,b≠X.env.locals/\∀x c,X.env.cells.lookup x=some c->c≠b
 bs:∀b o,X.base.get? b=some o->X.s₀.heap.get? b=some o/\X.H₀ b=none
 bsz:X.base.objs.size<=X.s₀.heap.objs.size
 noex:∀b o,X.base.get? b=some o->b∉X.ex
 exfs:∀b∈X.ex,b∉X.fs
 funs:X.s₀.heap.FunFrames X.base X.outer
 frf:∀b∈X.fs,X.H₀ b=none
structure Inv (X:Cx)(pins:List (Addr×Obj))(σ:List TU)(H:Hp)(s:Shared):Prop where
 ok:X.Ok
 os:s.os=X.s₀.os
 bare:iA s.gens
 base:Un X.fs X.ex X.H₀ H X.s₀.heap s.heap
 loc:∃m,s.heap.Ns X.env.locals m/\∀(i:Nat) (x:Str) (v:V),X.N[i]?=some x->σ[i]?=some (some v)->Vis X.env.scope x->∃u,RelV v u/\Look X.env s.heap m x u
 cell:∀x c,X.env.cells.lookup x=some c->∃v,s.heap.IsCell c v
 free:H X.env.locals=none
 freeC:∀x c,X.env.cells.lookup x=some c->H c=none
 pin:∀p∈X.pn++pins,s.heap.get? p.1=some p.2/\H p.1=none/\p.1≠X.env.locals/\p.1∉X.fs/\∀v,p.2.data≠.cell v
 hok:VA X.prog X.w H s.heap
 len:σ.length=X.N.length
section
variable {X:Cx}{pins:List (Addr×Obj)}{σ:List TU}{H H':Hp}{s:Shared}{h':Heap}
theorem Cx.Ok.nofr (ok:X.Ok){b:Addr}{o:Obj}(e:X.base.get? b=some o):b∉X.fs:=λhb=>by
 have:=(ok.funs.mem hb).1;rw[e] at this;cases this
theorem Inv.bs (I:Inv X pins σ H s):∀b o,X.base.get? b=some o->s.heap.get? b=some o/\H b=none:=λb o e=>
 ⟨I.base.keep b o (I.ok.bs b o e).1 (I.ok.bs b o e).2 (I.ok.nofr e) (I.ok.noex b o e),I.base.free b o (I.ok.bs b o e).1 (I.ok.bs b o e).2 (I.ok.noex b o e)⟩
theorem Inv.bk (I:Inv X pins σ H s):∀b o,X.base.get? b=some o->s.heap.get? b=some o:=λb o e=>(I.bs b o e).1
theorem Inv.mod (I:Inv X pins σ H s):Mod X.K X.mg X.base:=I.ok.mod
theorem Inv.kIn (I:Inv X pins σ H s):X.K.In s.heap:=I.ok.mod.kin.keeps I.bk
theorem Inv.lt (I:Inv X pins σ H s):X.env.locals<s.heap.objs.size:=let ⟨_,j,_⟩:=I.loc;j.lt
theorem Inv.sz (I:Inv X pins σ H s):X.s₀.heap.objs.size<=s.heap.objs.size:=a8 I.ok.above (cO I.lt)
theorem Inv.nofs (I:Inv X pins σ H s){a:Addr}(h:s.heap.objs.size<=a):a∉X.fs:=λhb=>by
 obtain⟨_,o,j,_⟩:=I.ok.funs.mem hb;exact absurd (aC (Zp j) (a8 I.sz h)) (bK _)
theorem Inv.cne (I:Inv X pins σ H s):∀x c,X.env.cells.lookup x=some c->c≠X.env.locals:=λx c e z=>by
 obtain⟨v,o,J,hd⟩:=I.cell x c e;obtain⟨m,⟨M,O,Y,j,q,_⟩,_⟩:=I.loc;rw[z,j] at J;cases J;rw[q] at hd;cases hd
theorem Inv.funs (I:Inv X pins σ H s):s.heap.FunFrames X.base X.outer:=by
 have all:∀(l:List Env),(∀b∈frs l,b∈X.fs)->X.s₀.heap.FunFrames X.base l->s.heap.FunFrames X.base l:=by
  intro l;induction l with
  |nil=>intro _ _;trivial
  |cons env r J=>
   intro q M;obtain⟨O,⟨L,o,hf,Y,ho,hd⟩,hr⟩:=M;have j:L∈X.fs:=q L (by unfold frs;rw[bS,hf];exact ar);obtain⟨sl,e⟩:=I.base.slot L o ho (I.ok.frf L j) j λz=>I.ok.exfs L z j;exact⟨O,⟨L,_,hf,Y,e,hd⟩,J (λb hb=>q b (by unfold frs;rw[bS,hf];exact ao _ hb)) hr⟩
 exact all X.outer (λ_ hb=>hb) I.ok.funs
theorem Inv.stack (I:Inv X pins σ H s):s.heap.FunFrames X.base X.stack:=by
 rcases I.ok.stk with e|⟨e,hf⟩
 ·rw[e];exact I.funs
 ·rw[e]
  obtain⟨m,j,_⟩:=I.loc;refine .cons (by rw[I.ok.kind];decide) hf j ?_ I.funs;exact Heap.get?_none_of_le (a8 I.ok.bsz I.ok.above)
theorem Inv.stkSub (I:Inv X pins σ H s):∀b∈frs X.stack,b∈X.env.locals::X.fs:=λb hb=>by
 rcases I.ok.stk with e|⟨e,hf⟩
 ·rw[e] at hb;exact ao _ hb
 ·rw[e] at hb
  unfold frs at hb;rw[bS,hf] at hb;exact hb
theorem Inv.stkFree (I:Inv X pins σ H s):∀b∈frs X.stack,H b=none:=λb hb=>by
 rcases aD.mp (I.stkSub b hb) with e|hb
 ·rw[e];exact I.free
 ·obtain⟨_,o,j,_⟩:=I.ok.funs.mem hb
  exact I.base.free b o j (I.ok.frf b hb) λz=>I.ok.exfs b z hb
theorem Inv.step {g':Array GenState}{t':Nat}{d':kK}{ch:TW}(I:Inv X pins σ H s)
  (J:∀b∈ch,(b∈X.ex\/X.s₀.heap.objs.size<=b)/\b≠X.env.locals/\(∀x c,X.env.cells.lookup x=some c->c≠b)/\∀p∈X.pn++pins,p.1≠b)
  (keep:∀b o,b≠X.env.locals->b∉X.fs->b∉ch->s.heap.get? b=some o->H b=none->h'.get? b=some o)
  (slot:∀b o,b≠X.env.locals->b∈X.fs->b∉ch->s.heap.get? b=some o->H b=none->∃sl,h'.get? b=some {o with slots:=sl}) (free:∀b o,b∉ch->s.heap.get? b=some o->H b=none->H' b=none)
  (there:∀b o,b∉ch->s.heap.get? b=some o->∃o',h'.get? b=some o')
  (m5:∀b xs,H b=some (.tup xs)->H' b=some (.tup xs)) (m6:∀b o u,H b=some (.frz o u)->H' b=some (.frz o u)) (m8:∀b ps,H b=some (.tbl ps)->∃n6,H' b=some (.tbl (ps++n6)))
  (ns:∀m,s.heap.Ns X.env.locals m->h'.Ns X.env.locals m) (hok:VA X.prog X.w H' h') (hg:iA g') :
  Inv X pins σ H' {s with heap:=h',gens:=g',drawn:=d',toks:=t'}:=by
 have n8:∀b o,X.s₀.heap.get? b=some o->b≠X.env.locals:=λb o e=>ay (aC (Zp e) I.ok.above);have neC:∀b o,X.s₀.heap.get? b=some o->b∉X.ex->b∉ch:=λb o e j hb=>by
  rcases (J b hb).1 with z|z
  ·exact j z
  ·exact absurd (aC (Zp e) z) (bK _)
 have M:∀x c,X.env.cells.lookup x=some c->∀v,s.heap.IsCell c v->h'.IsCell c v:=λx c e v ⟨o,ho,hd⟩=>by
  have O:c∉ch:=λz=>(J c z).2.2.1 x c e rfl;by_cases hc:c∈X.fs
  ·obtain⟨sl,q⟩:=slot c o (I.cne x c e) hc O ho (I.freeC x c e)
   exact⟨_,q,hd⟩
  ·exact⟨o,keep c o (I.cne x c e) hc O ho (I.freeC x c e),hd⟩
 refine⟨I.ok,I.os,hg,⟨λb o e n hb j=>?_,λb o e n hb j=>?_,λb o e n j=>?_,λb o e j=>?_,λb xs e=>m5 b xs (I.base.tups b xs e),λb o xs e=>m6 b o xs (I.base.frzs b o xs e),λb ps e=>?_⟩,?_,λx c e=>?_,?_,λx c e=>?_,λp hp=>?_,hok,I.len⟩
 ·exact keep b o (n8 b o e) hb (neC b o e j) (I.base.keep b o e n hb j) (I.base.free b o e n j)
 ·obtain⟨sl,Y⟩:=I.base.slot b o e n hb j
  obtain⟨n9,e2⟩:=slot b _ (n8 b o e) hb (neC b o e j) Y (I.base.free b o e n j);exact⟨n9,e2⟩
 ·obtain⟨o',Y⟩:=I.base.there b o e j
  exact free b o' (neC b o e j) Y (I.base.free b o e n j)
 ·obtain⟨o',Y⟩:=I.base.there b o e j
  exact there b o' (neC b o e j) Y
 ·obtain⟨m1,Y⟩:=I.base.tbls b ps e
  obtain⟨m2,e2⟩:=m8 b _ Y;exact⟨m1++m2,by rw[e2,Array.append_assoc]⟩
 ·obtain⟨m,hn,hl⟩:=I.loc
  refine⟨m,ns m hn,λi x v Y e2 e3=>?_⟩;obtain⟨u,r,l⟩:=hl i x v Y e2 e3;refine⟨u,r,?_⟩;rcases l with l|⟨k,c,e,z⟩
  ·exact .inl l
  ·exact .inr ⟨k,c,e,M x c e _ z⟩
 ·obtain⟨v,z⟩:=I.cell x c e
  exact⟨v,M x c e v z⟩
 ·obtain⟨m,⟨o,_,_,ho,_⟩,_⟩:=I.loc
  exact free _ o (λz=>(J _ z).2.1 rfl) ho I.free
 ·obtain⟨v,o,ho,hd⟩:=I.cell x c e
  exact free c o (λz=>(J c z).2.2.1 x c e rfl) ho (I.freeC x c e)
 ·obtain⟨e,n,ne,nf,d⟩:=I.pin p hp
  have O:p.1∉ch:=λz=>(J p.1 z).2.2.2 p hp rfl;exact⟨keep p.1 p.2 ne nf O e n,free p.1 p.2 O e n,ne,nf,d⟩
theorem Inv.un {t':Nat}(I:Inv X pins σ H s)(u:Un X.fs [] H H' s.heap h')(q:VA X.prog X.w H' h'):Inv X pins σ H' {s with heap:=h',toks:=t'}:=by
 obtain⟨m,⟨o,es,ep,O,r⟩,_⟩:=id I.loc;obtain⟨sl,Y⟩:=u.any O I.free (by simp);exact I.step (g':=s.gens) (d':=s.drawn) (ch:=[]) (λ_ z=>nomatch z) (λb o _ hb _ e n=>u.keep b o e n hb (by simp)) (λb o _ hb _ e n=>u.slot b o e n hb (by simp)) (λb o _ e n=>u.free b o e n (by simp)) (λb o _ e=>u.there b o e (by simp)) u.tups u.frzs u.tbls (λm' hm=>by
  obtain⟨o',J,M,j,r'⟩:=hm;rw[O] at j;cases j;exact⟨_,J,M,Y,r'⟩) q I.bare
theorem Inv.call {g':Array GenState}{t':Nat}{d':kK}{ch:TW}(I:Inv X pins σ H s)(u:Un (frs X.stack) ch H H' s.heap h')(M:VA X.prog X.w H' h')(hg:iA g')
  (q:∀b∈ch,(b∈X.ex\/X.s₀.heap.objs.size<=b)/\b≠X.env.locals/\(∀x c,X.env.cells.lookup x=some c->c≠b)/\∀p∈X.pn++pins,p.1≠b) :
  Inv X pins σ H' {s with heap:=h',gens:=g',drawn:=d',toks:=t'}:=by
 obtain⟨m,⟨o,es,ep,ho,r⟩,_⟩:=id I.loc;obtain⟨sl,O⟩:=u.any ho I.free λz=>(q _ z).2.1 rfl;exact I.step (ch:=ch) q (λb o O hb j e n=>u.keep b o e n (λz=>(aD.mp (I.stkSub b z)).elim O hb) j) (λb o _ _ j e n=>u.any e n j) (λb o j e n=>u.free b o e n j) (λb o j e=>u.there b o e j) u.tups u.frzs u.tbls (λm' hm=>by
  obtain⟨o',Y,m5,J,r'⟩:=hm;rw[ho] at J;cases J;exact⟨_,Y,m5,O,r'⟩) M hg
theorem Inv.turned {t':Nat}{it:Addr}(I:Inv X pins σ H s)(k:∀b o,b≠it->s.heap.get? b=some o->h'.get? b=some o)(O:H it=none)(M:it≠X.env.locals)
  (Y:it∈X.ex\/X.s₀.heap.objs.size<=it) (h2:∀x c,X.env.cells.lookup x=some c->c≠it) (h3:∀p∈X.pn++pins,p.1≠it):Inv X pins σ H {s with heap:=h',toks:=t'}:=by
 have J:∀b u,H b=some u->b≠it:=λb u e z=>by rw[z,O] at e;cases e
 refine I.step (g':=s.gens) (d':=s.drawn) (ch:=[it]) (λb hb=>?_) (λb o _ _ j e _=>k b o (λz=>j (by simp[z])) e) (λb o _ _ j e _=>⟨o.slots,k b o (λz=>j (by simp[z])) e⟩) (λ_ _ _ _ n=>n)
  (λb o j e=>⟨o,k b o (λz=>j (by simp[z])) e⟩) (λ_ _ e=>e) (λ_ _ _ e=>e) (λb ps e=>⟨#[],by rw[e];simp⟩) (λm hm=>?_) (λb u e=>?_) I.bare
 ·have e:b=it:=by simpa using hb
  subst e;exact⟨Y,M,h2,h3⟩
 ·obtain⟨o,es,ep,ho,r⟩:=hm
  exact⟨o,es,ep,k _ o (bd M) ho,r⟩
 ·refine (I.hok b u e).stay (λc v j q=>k c v ?_ q) (λ_ q=>q) λ_ _ q=>q
  rcases j with z|z
  ·rw[z];exact J b u e
  ·exact J c _ z
theorem Inv.tok (I:Inv X pins σ H s)(t:Nat):Inv X pins σ H {s with toks:=t}:=I.un (h':=s.heap) (t':=t) Un.refl I.hok
theorem Inv.kept {t':Nat}(I:Inv X pins σ H s)(k:∀b u,s.heap.get? b=some u->h'.get? b=some u):Inv X pins σ H {s with heap:=h',toks:=t'}:=I.un (Un.kept k) (I.hok.kept k)
theorem Inv.laid {a:Addr}{o:HO}{t':Nat}(I:Inv X pins σ H s)(k:∀b u,s.heap.get? b=some u->h'.get? b=some u)(j:s.heap.objs.size<=a)(q:YK X.prog X.w (upd H a o) h' a o) :
  Inv X pins σ (upd H a o) {s with heap:=h',toks:=t'}:=I.un (Un.laid k j (I.hok.fresh j)) (I.hok.laid k j q)
theorem Inv.write {x e:Addr}{o:HO}{t':Nat}(I:Inv X pins σ H s)(J:Mut (H x))(M:e=x\/H e=some (.own x))(k:∀b u,b≠e->s.heap.get? b=some u->h'.get? b=some u)(j:∃u,h'.get? e=some u)
  (q:YK X.prog X.w (upd H x o) h' x o):Inv X pins σ (upd H x o) {s with heap:=h',toks:=t'}:=I.un (Un.write J M k j) (I.hok.write J M k j q)
theorem Inv.pins_of {j:List (Addr×Obj)}(I:Inv X pins σ H s)(h:∀p∈j,s.heap.get? p.1=some p.2/\H p.1=none/\p.1≠X.env.locals/\p.1∉X.fs/\∀v,p.2.data≠.cell v):Inv X j σ H s:=
 ⟨I.ok,I.os,I.bare,I.base,I.loc,I.cell,I.free,I.freeC,λp q=>(bH.mp q).elim (λz=>I.pin p (bU _ z)) (h p),I.hok,I.len⟩
theorem Zc0 {N:List Str}(q:N.Nodup){i j:Nat}{x:Str}(a:N[i]?=some x)(b:N[j]?=some x):i=j:=by
 obtain⟨O,J⟩:=ae.mp a;obtain⟨Y,M⟩:=ae.mp b;exact (List.getElem_inj q).mp (J.trans M.symm)
theorem Zaz {M:Model}{A:Around}{E:TY}{i:Nat}{x:Str}{v:V}{u:Value}{Q:Unit->Shared->Prop}(I:Inv X pins σ H s)(hN:X.N.Nodup)(hi:X.N[i]?=some x)(hx:Loc X.env.scope x)(r:RelV v u)
  (h:∀s',Inv X pins (σ.set i (some v)) H s'->(∃a,bj a s.heap s'.heap/\(a=X.env.locals\/X.env.cells.lookup x=some a))->Q () s') (hf:X.fn x=true\/X.env.scope.names.lookup x=some .local:=by first|exact .inl rfl|exact .inr rfl|assumption):wpAny M A (storeName X.env x u) Q E s:=by
 obtain⟨m,hn,hl⟩:=id I.loc;have n6:(X.env.scope.kind == .class || (X.env.scope.kind == .module && X.env.locals != X.env.globals))=false:=by rw[I.ok.kind];rfl
 have m6:i < σ.length:=by rw[I.len];exact (ae.mp hi).1
 have cne:=I.cne;have O:∀{a:Addr}{h':Heap},(∃o,s.heap.get? a=some o/\H a=none)->bj a s.heap h'->VA X.prog X.w H h':=λ{a h'} ha J b ob e=>by
  obtain⟨_,_,m5⟩:=ha;refine (I.hok b ob e).stay (λc w' hc q=>(J.2 c ?_).trans q) (λ_ q=>q) λ_ _ q=>q;rintro rfl;rcases hc with rfl|hc
  ·rw[m5] at e;cases e
  ·rw[m5] at hc;cases hc
 rcases hx with hk|hk
 ·refine wpAny_storeName_local hk hn (λh' o8 J=>?_) n6
  obtain⟨oL,_,_,o9,_⟩:=id hn;refine h _ ⟨I.ok,I.os,I.bare,⟨λb o e n hb hx=>?_,λb o e n hb hx=>?_,I.base.free,λb o e hx=>?_,I.base.tups,I.base.frzs,I.base.tbls⟩,⟨_,o8,λj y v' Y e2 e3=>?_⟩,λy c e=>?_,I.free,I.freeC,λp hp=>?_,O ⟨oL,o9,I.free⟩ J,by simpa using I.len⟩ ⟨_,J,.inl rfl⟩
  ·exact (J.2 b (ay (aC (Zp e) I.ok.above))).trans (I.base.keep b o e n hb hx)
  ·obtain⟨sl,Y⟩:=I.base.slot b o e n hb hx
   exact⟨sl,(J.2 b (ay (aC (Zp e) I.ok.above))).trans Y⟩
  ·obtain⟨o',Y⟩:=I.base.there b o e hx
   exact⟨o',(J.2 b (ay (aC (Zp e) I.ok.above))).trans Y⟩
  ·by_cases hj:j=i
   ·subst hj
    rw[hi] at Y;cases Y;rw[ku m6] at e2;cases e2;exact⟨u,r,.inl ⟨hk,by simp⟩⟩
   ·rw[fH (bd hj)] at e2
    obtain⟨u',r',q⟩:=hl j y v' Y e2 e3;refine⟨u',r',?_⟩;rcases q with ⟨k,e⟩|⟨k,c,e,z⟩
    ·refine .inl ⟨k,?_⟩
     have:y≠x:=λe=>hj (Zc0 hN Y (e▸hi));simp[this,e]
    ·exact .inr ⟨k,c,e,z.sameBut J (cne y c e)⟩
  ·obtain⟨w',z⟩:=I.cell y c e
   exact⟨w',z.sameBut J (cne y c e)⟩
  ·obtain⟨e,n,ne,nf,d⟩:=I.pin p hp
   exact⟨(J.2 p.1 ne).trans e,n,ne,nf,d⟩
 ·have m8:X.fn x=true:=by
   rcases hf with z|z
   ·exact z
   ·rw[z] at hk;cases hk
  obtain⟨c,hc⟩:=I.ok.has x (.inl hk);obtain⟨w',z⟩:=I.cell x c hc;refine wpAny_storeName_cell I.ok.kind hk hc z (λh' n8 J=>?_);obtain⟨oc,n9,o0⟩:=id z;refine h {s with heap:=h'} ⟨I.ok,I.os,I.bare,⟨λb o e n hb hx=>?_,λb o e n hb hx=>?_,I.base.free,λb o e hx=>?_,I.base.tups,I.base.frzs,I.base.tbls⟩,⟨m,hn.sameBut J (bd (cne x c hc)),λj y v' Y e2 e3=>?_⟩,λy c' e=>?_,I.free,I.freeC,λp hp=>?_,O ⟨oc,n9,I.freeC x c hc⟩ J,by simpa using I.len⟩ ⟨c,J,.inr hc⟩
  ·exact (J.2 b (ay (aC (Zp e) (I.ok.cab x c m8 hc)))).trans (I.base.keep b o e n hb hx)
  ·obtain⟨sl,Y⟩:=I.base.slot b o e n hb hx
   exact⟨sl,(J.2 b (ay (aC (Zp e) (I.ok.cab x c m8 hc)))).trans Y⟩
  ·obtain⟨o',Y⟩:=I.base.there b o e hx
   exact⟨o',(J.2 b (ay (aC (Zp e) (I.ok.cab x c m8 hc)))).trans Y⟩
  ·by_cases hj:j=i
   ·subst hj
    rw[hi] at Y;cases Y;rw[ku m6] at e2;cases e2;exact⟨u,r,.inr ⟨.inl hk,c,hc,n8⟩⟩
   ·rw[fH (bd hj)] at e2
    obtain⟨u',r',q⟩:=hl j y v' Y e2 e3;refine⟨u',r',?_⟩;rcases q with q|⟨k,c',e,z'⟩
    ·exact .inl q
    ·refine .inr ⟨k,c',e,z'.sameBut J ?_⟩
     rintro rfl;exact hj (Zc0 hN Y (I.ok.inj _ _ _ e hc▸hi))
  ·by_cases o7:c'=c
   ·subst o7;exact⟨_,n8⟩
   ·obtain⟨w2,z2⟩:=I.cell y c' e
    exact⟨w2,z2.sameBut J o7⟩
  ·obtain⟨e,n,ne,nf,d⟩:=I.pin p hp
   refine⟨(J.2 p.1 ?_).trans e,n,ne,nf,d⟩;intro q;rw[q,n9] at e;have q':oc=p.2:=aA e;exact d w' (by rw[<-q'];exact o0)
theorem WB {M:Model}{A:Around}{E:TY}{i:Nat}{x:Str}{v:V}{u:Value}{Q:Unit->Shared->Prop}(I:Inv X pins σ H s)(j:X.N.Nodup)(q:X.N[i]?=some x)(J:Loc X.env.scope x)(r:RelV v u)
  (h:∀s',Inv X pins (σ.set i (some v)) H s'->Q () s') (O:X.fn x=true\/X.env.scope.names.lookup x=some .local:=by first|exact .inl rfl|exact .inr rfl|assumption):wpAny M A (storeName X.env x u) Q E s:=
 Zaz I j q J r (λs' Y _=>h s' Y) O
theorem Inv.call' {s':Shared}{ch:TW}(I:Inv X pins σ H s)(Y:s'.os=s.os)(u:Un (frs X.stack) ch H H' s.heap s'.heap)(j:VA X.prog X.w H' s'.heap)(hg:iA s'.gens)
  (q:∀b∈ch,(b∈X.ex\/X.s₀.heap.objs.size<=b)/\b≠X.env.locals/\(∀x c,X.env.cells.lookup x=some c->c≠b)/\∀p∈X.pn++pins,p.1≠b):Inv X pins σ H' s':=by
 obtain⟨h',J,M,O,o'⟩:=s';have e:o'=s.os:=Y;subst e;exact I.call (g':=J) (t':=O) (d':=M) u j hg q
end
noncomputable abbrev XK:=Value->Option Addr->Hp->Prop
noncomputable abbrev St:=List TU
noncomputable abbrev VK:=V->Hp->Prop
noncomputable abbrev TE:=St->Hp->VK->Prop
noncomputable abbrev TT:=St->Hp->(Bool->Hp->Prop)->Prop
noncomputable abbrev TA:=St->Hp->(TV->Hp->Prop)->Prop
structure WT where
 nx:St->Hp->Prop
 rt:VK
 bk:St->Hp->Prop:=λ_ _=>False
 ct:St->Hp->Prop:=λ_ _=>False
noncomputable abbrev TS:=WT->St->Hp->Prop
def EP (X:Cx)(j:List (Addr×Obj))(J:St)(Q:VK)(u:Value)(s':Shared):Prop:=∃v q,Inv X j J q s'/\RelV v u/\Q v q
def TP (X:Cx)(j:List (Addr×Obj))(J:St)(Q:Bool->Hp->Prop)(b:Bool)(s':Shared):Prop:=∃q,Inv X j J q s'/\Q b q
def AP (X:Cx)(j:List (Addr×Obj))(M:St)(Q:TV->Hp->Prop)(O:List Value)(s':Shared):Prop:=∃q J,Inv X j M J s'/\ZO q O/\Q q J
def SP (X:Cx)(q:List (Addr×Obj))(D:WT)(f:Flow)(s':Shared):Prop:=
 match f with
 | .next=>∃ j J,Inv X q j J s'/\D.nx j J
 | .brk=>∃ j J,Inv X q j J s'/\D.bk j J
 | .cont=>∃ j J,Inv X q j J s'/\D.ct j J
 | .ret u=>∃v j J,Inv X q j J s'/\RelV v u/\D.rt v J
def PE (X:Cx)(e:Expr)(t:TE):Prop:=
 ∀(j:List (Addr×Obj)) (s:Shared) (q:St) (H:Hp) (Q:VK),Inv X j q H s->t q H Q->wpAny (model X.prog X.w) X.A (eval e X.env) (EP X j q Q) X.xe s
def PT (X:Cx)(e:Expr)(t:TT):Prop:=
 ∀(j:List (Addr×Obj)) (s:Shared) (q:St) (H:Hp) (Q:Bool->Hp->Prop),Inv X j q H s->t q H Q->wpAny (model X.prog X.w) X.A (isTrue e X.env (eval e X.env)) (TP X j q Q) X.xe s
def PW (X:Cx)(e:Expr)(t:TT):Prop:=
 ∀(q:Sem Value) (j:List (Addr×Obj)) (s:Shared) (J:St) (H:Hp) (Q:Bool->Hp->Prop),Inv X j J H s->t J H Q->wpAny (model X.prog X.w) X.A (isTrue e X.env q) (TP X j J Q) X.xe s
theorem PW.pt {X:Cx}{e:Expr}{t:TT}(h:PW X e t):PT X e t:=h _
def PA (X:Cx)(J:List Expr)(t:TA):Prop:=
 ∀(pos:Pos) (j:List (Addr×Obj)) (s:Shared) (q:St) (H:Hp) (Q:TV->Hp->Prop),Inv X j q H s->t q H Q->wpAny (model X.prog X.w) X.A (spliced (backTo pos (starEach J X.env))) (AP X j q Q) X.xe s
def PS (X:Cx)(st:Stmt)(t:TS):Prop:=
 ∀(j:List (Addr×Obj)) (s:Shared) (q:St) (H:Hp) (D:WT),Inv X j q H s->t D q H->wpAny (model X.prog X.w) X.A (exec st X.env) (SP X j D) X.xe s
def PSs (X:Cx)(st:List Stmt)(t:TS):Prop:=
 ∀(j:List (Addr×Obj)) (s:Shared) (q:St) (H:Hp) (D:WT),Inv X j q H s->t D q H->wpAny (model X.prog X.w) X.A (execs st X.env) (SP X j D) X.xe s
theorem Yw {α:Type}{t:Sem α}{Q j:α->Shared->Prop}{M:Model}{A:Around}{E:TY}{s:Shared}(h:wpAny M A t Q E s)(q:∀a s,Q a s->j a s):wpAny M A t j E s:=cr h q λ_ _ x=>x
section
variable {X:Cx}
inductive Zmy (i:Nat) (σ:L2.St) (H:Hp) (Q:VK):Prop
 |mk (v:_):(σ[i]?=some (some v))->(Q v H)->Zmy i σ H Q
def tC (v:V):TE:=λ_ H Q=>Q v H
theorem Zm1 {i:Nat}{x:Str}{pos:Pos}(hN:X.N[i]?=some x)(hv:Vis X.env.scope x)(O:(x == ("__debug__":Str))=false:=by decide)(Y:(x == ("__classdict__":Str))=false:=by decide):PE X (.Name x pos) (Zmy i):=by
 intro M s σ H Q I h;obtain⟨v,e,h⟩:=h;obtain⟨m,hn,hl⟩:=I.loc;obtain⟨u,r,l⟩:=hl i x v hN e hv;have q:EP X M σ Q u s:=⟨v,H,I,r,h⟩;rcases l with ⟨J,hm⟩|⟨J,c,hc,j⟩
 ·exact wpAny_Name (wpAny_loadName_local I.ok.kind J hn hm q) O
 ·rcases J with J|J
  ·exact wpAny_Name (wpAny_loadName_cell I.ok.kind J hc j q) O
  ·exact wpAny_Name (wpAny_loadName_free I.ok.kind J hc j q Y) O
theorem Zx {i j pos}:PE X (.Constant (.int i) j pos) (tC (.int i)):=λ_ _ _ H _ I h=>wpAny_Constant_int ⟨.int i,H,I.tok _,⟨_,rfl⟩,h⟩
theorem V0 {b j pos}:PE X (.Constant (.bool b) j pos) (tC (.bl b)):=λ_ _ _ H _ I h=>Constant_bool ⟨.bl b,H,I,rfl,h⟩
theorem W5 {x j pos}:PE X (.Constant (.str x) j pos) (tC (.str x)):=λ_ _ _ H _ I h=>Calls.Constant_str ⟨.str x,H,I.tok _,⟨_,rfl⟩,h⟩
def Gl (X:Cx)(x:Str):Prop:=X.env.kindOf x=some .globalImplicit
theorem Zk4 {E:TY}{j:List (Addr×Obj)}{s:Shared}{σ:St}{H:Hp}{x:Str}{u:Value}{pos:Pos}{Q:TY}(I:Inv X j σ H s)(q:Gl X x)(J:X.mg x=some u)(h:Q u s)
  (M:(x == ("__debug__":Str))=false:=by decide):wpAny (model X.prog X.w) X.A (eval (.Name x pos) X.env) Q E s:=
 jG I.ok.kind q (Calls.loadGlobal_global (by rw[I.ok.glob];exact I.mod.glob.keeps I.bk) J h) M
theorem JN {E:TY}{j:List (Addr×Obj)}{s:Shared}{σ:St}{H:Hp}{x:Str}{u:Value}{pos:Pos}{Q:TY}(I:Inv X j σ H s)(q:Gl X x)(J:X.mg x=none)(M:bootBuiltins x=some u)(h:Q u s)
  (O:x ≠ "__name__":=by decide) (Y:(x == ("__debug__":Str))=false:=by decide):wpAny (model X.prog X.w) X.A (eval (.Name x pos) X.env) Q E s:=by
 obtain⟨mb,h1,h2⟩:=I.mod.blt;exact jG I.ok.kind q (Calls.loadGlobal_builtin (by rw[I.ok.glob];exact I.mod.glob.keeps I.bk) J (by rw[I.ok.blt];exact h1.keeps I.bk) ((h2 x O).trans M) h) Y
variable {a b:Expr}{ta tb:TE}{pos:Pos}
def PC (X:Cx)(op:CmpOp)(a b:Expr)(t:TE):Prop:=
 ∀(j:List (Addr×Obj)) (s:Shared) (M:St) (H:Hp) (Q:VK),Inv X j M H s->t M H Q->
  wpAny (model X.prog X.w) X.A (eval a X.env) (λv q=>wpAny (model X.prog X.w) X.A (eval b X.env) (λu J=>wpAny (model X.prog X.w) X.A (compareOp op v u) (EP X j M Q) X.xe J) X.xe q) X.xe s
inductive iBl (Q:Bool->Hp->Prop) (x:V) (H:Hp):Prop
 |mk (c:Bool):x=.bl c->Q c H->iBl Q x H
def tB (t:TE):TT:=λj H Q=>t j H (iBl Q)
theorem Zh5 {op:CmpOp}{t:TE}(h:PC X op a b t)(M:behindInMarks op b=false:=by first|exact j _ (by decide) (by decide)|rfl):PT X (.Compare a [op] [b] pos) (tB t):=by
 intro J s O H Q I Y;refine mK (Yw (h J s O H _ I Y) λv s1 M=>Yw M λu s2 h2=>Yw h2 λc s3 ⟨x,H1,I1,r1,q1⟩=>?_) M;obtain⟨d,rfl,q⟩:=q1;cases r1;exact dU ⟨H1,I1,q⟩
theorem Xa {e:Expr}{t:TE}(h:PE X e t)(M:∀j,isTrue e X.env j=(do let v <-j;standAt e.pos;holding [v] (truthy v)):=by intro _;rfl):PT X e (tB t):=by
 intro J s O H Q I Y;refine isTrue_plain (Yw (h J s O H _ I Y) λv s1 ⟨x,H1,I1,r1,q1⟩=>?_) (M _);obtain⟨d,rfl,q⟩:=q1;cases r1;exact dU ⟨H1,I1,q⟩
variable {tA tB':TT}{rest:List Expr}
def Zqq (t u:TT):TT:=λj H Q=>t j H λc q=>if c=true then u j q Q else Q false q
def tOr (t u:TT):TT:=λj H Q=>t j H λc q=>if c=true then Q true q else u j q Q
def Zql (t:TT):TT:=λj H Q=>t j H λc q=>Q (!c) q
theorem Ze7 (q:PT X a tA):PW X (.BoolOp .And [a] pos) tA:=by
 intro M j s J H Q I h;refine isTrue_and (Yw (q j s J H Q I h) λc O e=>?_);cases c with
 |true=>exact isTrue_and_nil e
 |false=>exact e
theorem Zd9 (q:PT X a tA):PW X (.BoolOp .Or [a] pos) tA:=by
 intro M j s J H Q I h;refine isTrue_or (Yw (q j s J H Q I h) λc O e=>?_);cases c with
 |false=>exact isTrue_or_nil e
 |true=>exact e
theorem Zh3 (Y:PT X a tA)(hb:PW X (.BoolOp .And (b::rest) pos) tB'):PW X (.BoolOp .And (a::b::rest) pos) (Zqq tA tB'):=by
 intro wh j s q H Q I h;refine isTrue_and (Yw (Y j s q H _ I h) λc s1 ⟨J,M,O⟩=>?_);cases c with
 |true=>exact hb wh j s1 q J Q M O
 |false=>exact⟨J,M,O⟩
theorem Zh2 (Y:PT X a tA)(hb:PW X (.BoolOp .Or (b::rest) pos) tB'):PW X (.BoolOp .Or (a::b::rest) pos) (tOr tA tB'):=by
 intro wh j s q H Q I h;refine isTrue_or (Yw (Y j s q H _ I h) λc s1 ⟨J,M,O⟩=>?_);cases c with
 |true=>exact⟨J,M,O⟩
 |false=>exact hb wh j s1 q J Q M O
theorem Zby (q:PT X a tA):PT X (.UnaryOp .Not a pos) (Zql tA):=by
 intro j s J H Q I h;exact isTrue_not (q j s J H (λc M=>Q (!c) M) I h)
def Zow (ta tb:TE):TE:=λj H Q=>ta j H λx q=>∃c,x=.bl c/\if c=true then tb j q Q else Q (.bl false) q
theorem Zm2 {op}{t:TE}(h:PE X a t):PE X (.BoolOp op [a] pos) t:=λj s q H Q I J=>BoolOp_one (h j s q H Q I J)
theorem Zm3 (Y:PE X a ta)(hb:PE X (.BoolOp .And (b::rest) pos) tb):PE X (.BoolOp .And (a::b::rest) pos) (Zow ta tb):=by
 intro j s J H Q I h;refine BoolOp_and (Yw (Y j s J H _ I h) λv s1 ⟨x,M,O,r1,q⟩=>?_);obtain⟨c,rfl,q⟩:=q;cases r1;refine dU ?_;cases c with
 |true=>exact hb j s1 J M Q O q
 |false=>exact⟨.bl false,M,O,rfl,q⟩
def tIf (t:TT)(ta tb:TE):TE:=λj H Q=>t j H λc q=>if c=true then ta j q Q else tb j q Q
theorem Zh8 {c:Expr}(hc:PT X c tA)(ha:PE X a ta)(hb:PE X b tb):PE X (.IfExp c a b pos) (tIf tA ta tb):=by
 intro j s q H Q I h;refine wpAny_IfExp (Yw (hc j s q H _ I h) λd J ⟨M,O,Y⟩=>?_);cases d with
 |true=>exact ha j J q M Q O Y
 |false=>exact hb j J q M Q O Y
end
def Ws (K:aa)(H:Hp)(a:Addr)(xs:TV):Prop:=
 Rd H a (.lst xs)\/
  ∃(o:Obj) (j:Array Value) (n:Nat),K.lookup a=some o/\o.cls=.type "list"/\o.dict=none/\o.data=.seq j n/\j.size<=sizeLine/\ZO xs j.toList
def Xp (K:aa)(H:Hp)(a:Addr)(xs:TV):Prop:=
 Rd H a (.tup xs)\/
  ∃(o:Obj) (j:Array Value) (n:Nat),K.lookup a=some o/\o.cls=.type "tuple"/\o.data=.seq j n/\j.size<=sizeLine/\ZO xs j.toList
def Zq3:Value->TU
 | .none=>some .non
 | .bool b=>some (.bl b)
 | .int i _=>some (.int i)
 | .str x _=>some (.str x)
 | .bytes b _=>some (.byt b)
 | .float b _=>some (.flt b)
 | .ref a=>some (.ref a)
 | .type n=>some (.ty n)
 |_=>none
theorem RelV.abs {x:V}{u:Value}(r:RelV x u):Zq3 u=some x:=by
 cases x with
 |non=>cases r;rfl
 |bl _=>cases r;rfl
 |int _=>obtain⟨t,rfl⟩:=r;rfl
 |str _=>obtain⟨t,rfl⟩:=r;rfl
 |byt _=>obtain⟨t,rfl⟩:=r;rfl
 |flt _=>obtain⟨t,rfl⟩:=r;rfl
 |ref _=>cases r;rfl
 |ty _=>cases r;rfl
theorem RelV.inj {x y:V}{u:Value}(r:RelV x u)(q:RelV y u):x=y:=aA (r.abs.symm.trans q.abs)
theorem ZO.inj:∀{xs ys:TV}{us:List Value},ZO xs us->ZO ys us->xs=ys
 |_,_,_,.nil,.nil=>rfl
 |_,_,_,.cons r t,.cons j q=>by rw[r.inj j,ZO.inj t q]
section
variable {X:Cx}{pins:List (Addr×Obj)}{σ:St}{H:Hp}{s:Shared}{a:Addr}{xs ys:TV}
theorem Ws.of {K:aa}(h:H a=some (.lst xs)):Ws K H a xs:=.inl (.inl h)
theorem Xp.of {K:aa}(h:H a=some (.tup xs)):Xp K H a xs:=.inl (.inl h)
theorem Inv.list (I:Inv X pins σ H s)(h:Ws X.K H a xs):∃j:List Value,ZO xs j/\PlainL s.heap a j.toArray/\xs.length<=sizeLine:=by
 rcases h with h|⟨o,j,n,q,J,hd,M,O,r⟩
 ·obtain⟨z,j,n,r,e⟩:=h.ok I.hok
  exact⟨j,r,⟨_,n,e,rfl,rfl,rfl⟩,z⟩
 ·refine⟨j.toList,r,⟨o,n,I.kIn a o q,J,hd,by simpa using M⟩,?_⟩
  have e:=r.length;simp only[Zr] at e;omega
theorem Inv.tuple (I:Inv X pins σ H s)(h:Xp X.K H a xs):∃j:List Value,ZO xs j/\IsTup s.heap a j.toArray/\xs.length<=sizeLine:=by
 rcases h with h|⟨o,j,n,q,J,M,O,r⟩
 ·obtain⟨z,j,r,p⟩:=h.ok I.hok
  exact⟨j,r,p,z⟩
 ·refine⟨j.toList,r,⟨o,I.kIn a o q,J,n,by simpa using M⟩,?_⟩
  have e:=r.length;simp only[Zr] at e;omega
theorem Inv.list_inj (I:Inv X pins σ H s)(h:Ws X.K H a xs)(h':Ws X.K H a ys):xs=ys:=by
 obtain⟨q,r,⟨o,n,e,_,_,d⟩,_⟩:=I.list h;obtain⟨j,O,⟨Y,n',J,_,_,M⟩,_⟩:=I.list h';rw[e] at J;cases J;rw[d] at M;injection M with d1 _;have:q=j:=by simpa using congrArg Array.toList d1
 subst this;exact r.inj O
theorem Inv.tuple_inj (I:Inv X pins σ H s)(h:Xp X.K H a xs)(h':Xp X.K H a ys):xs=ys:=by
 obtain⟨q,r,⟨o,e,_,n,d⟩,_⟩:=I.tuple h;obtain⟨j,O,⟨Y,J,_,n',M⟩,_⟩:=I.tuple h';rw[e] at J;cases J;rw[d] at M;injection M with d1 _;have:q=j:=by simpa using congrArg Array.toList d1
 subst this;exact r.inj O
end
noncomputable abbrev Cx.wish (X:Cx)(E:TY):Cx:={X with xe:=E}
noncomputable abbrev Cx.nox (X:Cx):Cx:=X.wish λ_ _=>False
theorem Cx.Ok.wish {X:Cx}(ok:X.Ok)(E:TY):(X.wish E).Ok:=
 ⟨ok.mod,ok.kind,ok.glob,ok.blt,ok.above,ok.inj,ok.has,ok.cab,ok.hd,ok.frames,ok.stk,ok.exf,ok.bs,ok.bsz,ok.noex,ok.exfs,ok.funs,ok.frf⟩
theorem Cx.Ok.unwish {X:Cx}{E:TY}(ok:(X.wish E).Ok):X.Ok:=
 ⟨ok.mod,ok.kind,ok.glob,ok.blt,ok.above,ok.inj,ok.has,ok.cab,ok.hd,ok.frames,ok.stk,ok.exf,ok.bs,ok.bsz,ok.noex,ok.exfs,ok.funs,ok.frf⟩
section
variable {X:Cx}{pins:List (Addr×Obj)}{σ:St}{H:Hp}{s:Shared}{E:TY}
theorem Inv.wish (I:Inv X pins σ H s)(E:TY):Inv (X.wish E) pins σ H s:=⟨I.ok.wish E,I.os,I.bare,I.base,I.loc,I.cell,I.free,I.freeC,I.pin,I.hok,I.len⟩
theorem Inv.unwish (I:Inv (X.wish E) pins σ H s):Inv X pins σ H s:=⟨I.ok.unwish,I.os,I.bare,I.base,I.loc,I.cell,I.free,I.freeC,I.pin,I.hok,I.len⟩
theorem SP.unwish {D:WT}{f:Flow}{s':Shared}(h:SP (X.wish E) pins D f s'):SP X pins D f s':=by
 cases f with
 |next=>obtain⟨j,J,I,q⟩:=h;exact⟨j,J,I.unwish,q⟩
 |brk=>obtain⟨j,J,I,q⟩:=h;exact⟨j,J,I.unwish,q⟩
 |cont=>obtain⟨j,J,I,q⟩:=h;exact⟨j,J,I.unwish,q⟩
 |ret u=>obtain⟨v,j,J,I,r,q⟩:=h;exact⟨v,j,J,I.unwish,r,q⟩
theorem PSs.nox {st:List Stmt}{t:TS}(h:PSs X.nox st t):PSs X st t:=λpins s σ H D I j=>
 cr (h pins s σ H D (I.wish _) j) (λ_ _ q=>q.unwish) λ_ _ z=>dN z
end
section
variable {X:Cx}{st:Stmt}{rest:List Stmt}{t u:TS}{e:Expr}{te:TE}{pos:Pos}
def Zor:TS:=λD j H=>D.nx j H
noncomputable def WT.sq (D:WT)(n:St->Hp->Prop):WT:={D with nx:=n}
def WT.lp (D:WT)(n:St->Hp->Prop):WT:={D with nx:=n,ct:=n,bk:=D.nx}
def Zmz (t u:TS):TS:=λD j H=>t (D.sq (u D)) j H
theorem YF:PSs X [] Zor:=λ_ _ j H _ I h=>iG ⟨j,H,I,h⟩
theorem Zs (M:PS X st t)(O:PSs X rest u):PSs X (st::rest) (Zmz t u):=by
 intro j s Y H D I h;refine wpAny_execs_cons (Yw (M j s Y H (D.sq (u D)) I h) λf s1 q=>?_);cases f with
 |next=>
  obtain⟨J,H',I',q⟩:=q;exact O j s1 J H' D I' q
 |ret v=>exact q
 |brk=>exact q
 |cont=>exact q
theorem Zw (J:PS X st t):PSs X [st] t:=by
 intro j s M H D I h;refine wpAny_execs_cons (Yw (J j s M H D I h) λf O q=>?_);cases f with
 |next=>exact iG q
 |ret v=>exact q
 |brk=>exact q
 |cont=>exact q
theorem Inv.quiet {j:List (Addr×Obj)}{σ:St}{H:Hp}{s:Shared}(I:Inv X j σ H s):interactive X.env=false:=by simp[interactive,I.ok.kind]
def ZlK (te:TE):TS:=λD j H=>te j H λ_ q=>D.nx j q
theorem YG (J:PE X e te)(M:swapsWith e none pos.line X.env=pure false:=by rfl):PS X (.Expr e pos) (ZlK te):=by
 intro j s q H D I h;exact wpAny_Expr_any (Yw (J j s q H _ I h) λv s1 ⟨x,O,Y,r1,q1⟩=>⟨q,O,Y,q1⟩) I.quiet M
def Zqj (te:TE):TS:=λD j H=>te j H D.rt
theorem ZK (q:PE X e te):PS X (.Return (some e) pos) (Zqj te):=by
 intro j s σ H D I h;exact wpAny_Return_some (Yw (q j s σ H _ I h) λv Y ⟨x,J,M,r1,O⟩=>⟨x,σ,J,M,r1,O⟩)
def Zqm (c:TT)(t u:TS):TS:=λD j H=>c j H λb q=>if b=true then t D j q else u D j q
theorem WN {c:Expr}{a b:List Stmt}{J:TT}(hc:PT X c J)(ha:PSs X a t)(hb:PSs X b u):PS X (.If c a b pos) (Zqm J t u):=by
 intro j s q H D I h;refine wpAny_If (Yw (hc j s q H _ I h) λd M ⟨O,Y,q1⟩=>?_);cases d with
 |true=>exact ha j M q O D Y q1
 |false=>exact hb j M q O D Y q1
end
noncomputable abbrev TG:=V->St->Hp->(St->Hp->Prop)->Prop
noncomputable abbrev TGs:=TV->St->Hp->(St->Hp->Prop)->Prop
def PG (X:Cx)(j:Expr)(t:TG):Prop:=
 ∀(q:List (Addr×Obj)) (s:Shared) (M:St) (H:Hp) (v:V) (u:Value) (Q:St->Hp->Prop),Inv X q M H s->RelV v u->t v M H Q->
  wpAny (model X.prog X.w) X.A (assign j X.env u) (λ_ Y=>∃ J O,Inv X q J O Y/\Q J O) X.xe s
def PGs (X:Cx)(ts:List Expr)(t:TGs):Prop:=
 ∀(j:List (Addr×Obj)) (s:Shared) (J:St) (H:Hp) (M:TV) (O:List Value) (Q:St->Hp->Prop),Inv X j J H s->ZO M O->t M J H Q->
  wpAny (model X.prog X.w) X.A (assignInOrder ((assignEach ts X.env).map (·.2)) O) (λ_ s'=>∃ q Y,Inv X j q Y s'/\Q q Y) X.xe s
noncomputable abbrev Zjt:=V->V->V->Hp->(Hp->Prop)->Prop
def Zn2 (X:Cx)(t:Zjt):Prop:=
 ∀(j:List (Addr×Obj)) (s:Shared) (q:St) (H:Hp) (o i v:V) (J M u:Value) (Q:Hp->Prop),Inv X j q H s->RelV o J->RelV i M->RelV v u->t o i v H Q->
  wpAny (model X.prog X.w) X.A (setItem J M u) (λ_ Y=>∃O,Inv X j q O Y/\Q O) X.xe s
noncomputable abbrev TIp:=V->V->Hp->VK->Prop
def PIp (X:Cx)(op:kG)(t:TIp):Prop:=
 ∀(j:List (Addr×Obj)) (s:Shared) (q:St) (H:Hp) (x y:V) (v u:Value) (Q:VK),Inv X j q H s->RelV x v->RelV y u->t x y H Q->
  wpAny (model X.prog X.w) X.A (inplaceOp op v u) (EP X j q Q) X.xe s
section
variable {X:Cx}{pos:Pos}
def Yj (i:Nat):TG:=λv j H Q=>Q (j.set i (some v)) H
theorem Zfa {i:Nat}{x:Str}(q:X.N.Nodup)(J:X.N[i]?=some x)(M:Loc X.env.scope x)(O:X.fn x=true\/X.env.scope.names.lookup x=some .local:=by first|exact .inl rfl|exact .inr rfl|assumption):PG X (.Name x pos) (Yj i):=by
 intro j s σ H v u Q I r h;exact wpAny_assign_Name (WB I q J M r (λs' Y=>⟨_,H,Y,h⟩) O)
inductive Zgz (vs:TV) (σ:L2.St) (H:Hp) (Q:(L2.St->Hp->Prop)):Prop
 |mk:(vs=[])->(Q σ H)->Zgz vs σ H Q
inductive JT (t:TG) (u:TGs) (vs:TV) (σ:L2.St) (H:Hp) (Q:(L2.St->Hp->Prop)):Prop
 |mk (v:_) (r:_):(vs=v::r)->(t v σ H λσ' H'=>u r σ' H' Q)->JT t u vs σ H Q
theorem Vn:PGs X [] Zgz:=by
 intro j s q H J M Q I r h;obtain⟨e,h⟩:=h;subst e;cases r;exact assignInOrder_nil ⟨q,H,I,h⟩
theorem Z2 {e:Expr}{q:List Expr}{t:TG}{u:TGs}(M:PG X e t)(O:PGs X q u)
  (Y:(assignEach (e::q) X.env).map (·.2)=assign e X.env::(assignEach q X.env).map (·.2):=by rfl):PGs X (e::q) (JT t u):=by
 intro j s σ H vs us Q I r h;obtain⟨v,vr,e1,h⟩:=h;subst e1;cases r with
 |cons r rr=>
  rw[Y];refine jv (Yw (M j s σ H _ _ _ I r h) λ_ s1 ⟨J,H1,I1,q1⟩=>?_);exact O j s1 J H1 _ _ Q I1 rr q1
inductive Zgy (K:aa) (n:Nat) (t:TGs) (v:V) (σ:L2.St) (H:Hp) (Q:(L2.St->Hp->Prop)):Prop
 |mk (a:_) (xs:_):(v=.ref a)->(Xp K H a xs)->(xs.length=n)->(t xs σ H Q)->Zgy K n t v σ H Q
theorem UI {q:List Expr}{k:Nat}{t:TGs}{n:Nat}(hc:X.calm=true)(h:PGs X q t)
  (hn:(assignEach q X.env).length=n:=by rfl) (J:(assignEach q X.env).findIdx? (·.1)=none:=by rfl):PG X (.Tuple q k pos) (Zgy X.K n t):=by
 intro j s O H v u Q I r M;obtain⟨a,xs,e1,hq,hl,M⟩:=M;subst e1;cases r;obtain⟨m5,Y,ht,hz⟩:=I.tuple hq;refine assign_Tuple_tuple (I.ok.hd hc) ht (by simp[hn,<-hl,Y.length]) J λh' hx=>?_;have I1:Inv X j O H {s with heap:=h'}:=I.kept (t':=s.toks) λb o e=>hx b o (ay (Zp e)) e;exact h j _ O H xs _ Q I1 (by simpa using Y) M
def ZqQ (q J:TE)(t:Zjt):TG:=λv j H Q=>q j H λo M=>J j M λi O=>t o i v O λY=>Q j Y
theorem Xc {o i:Expr}{to M:TE}{t:Zjt}(O:PE X o to)(Y:PE X i M)(hs:Zn2 X t)
  (ha:∀v,assign (.Subscript o i pos) X.env v=(do
   let q <-holding [v] (eval o X.env)
   let iv <-holding [v,q] (eval i X.env)
   standAt pos
   holding [v,q,iv] (setItem q iv v)
   release [v,q,iv] []):=by intro _;rfl):PG X (.Subscript o i pos) (ZqQ to M t):=by
 intro j s J H v u Q I r h;rw[ha];refine Zl (cI (Yw (O j s J H _ I h) λq s1 ⟨x,H1,I1,r1,q1⟩=>?_));refine Zl (cI (Yw (Y j s1 J H1 _ I1 q1) λiv s2 ⟨y,H2,I2,r2,q2⟩=>?_));refine Zl (jg (Zl (cI (Yw (hs j s2 J H2 x y v q iv u _ I2 r1 r2 r q2) λ_ s3 ⟨H3,I3,q3⟩=>?_))));exact wpAny_release ⟨J,H3,I3,q3⟩
def ZdI (q:TE)(g:TG):TS:=λD j H=>q j H λx J=>g x j J D.nx
theorem W2 {J e:Expr}{M:TE}{g:TG}(Y:PE X e M)(hg:PG X J g)(hs:swapsWithSole [J] e pos.line X.env=pure false:=by rfl)(hw:swappedStores [J] e X.env=pure none:=by rfl)
  (h1:(assignEach [J] X.env).map (·.2)=[assign J X.env]:=by rfl):PS X (.Assign [J] e pos) (ZdI M g):=by
 intro j s O H D I h;refine wpAny_Assign_stores (Yw (Y j s O H _ I h) λv s1 ⟨x,H1,I1,r1,q1⟩=>?_) hs hw;rw[h1];exact Yw (hg j s1 O H1 x v _ I1 r1 q1) λ_ s2 q=>q
theorem ZmS {i:Nat}{x:Str}{e:Expr}{J:TE}{j:Pos}(M:X.N.Nodup)(O:X.N[i]?=some x)(Y:Loc X.env.scope x)(he:PE X e J)(hs:swapsWith e (some (.Name x j)) pos.line X.env=pure false:=by rfl)(hf:X.fn x=true\/X.env.scope.names.lookup x=some .local:=by first|exact .inl rfl|exact .inr rfl|assumption) :
  PS X (.Assign [.Name x j] e pos) (ZdI J (Yj i)):=by
 intro q s σ H D I h;refine wpAny_Assign_Name (Yw (he q s σ H _ I h) λv s1 ⟨y,H1,I1,r1,q1⟩=>?_) hs;exact WB I1 M O Y r1 (λs2 I2=>⟨_,H1,I2,q1⟩) hf
def Zqk (i j:Nat)(J:TA):TS:=λD q H=>J q H λM O=>∃v w,M=[v,w]/\D.nx ((q.set i (some v)).set j (some w)) O
theorem ZmT {i j:Nat}{x y:Str}{a b:Expr}{ta:TA}{px py pt:Pos}{kt k2 O}(hc:X.calm=true)(hN:X.N.Nodup)(hi:X.N[i]?=some x)(hj:X.N[j]?=some y)(m5:i≠j)
  (hx:X.env.scope.names.lookup x=some .local) (hy:X.env.scope.names.lookup y=some .local) (ha:PA X [a,b] ta)
  (hw:swappedStores [.Tuple [.Name x px,.Name y py] kt pt] (.Tuple [a,b] k2 O) X.env=pure (some [x,y]))
  (hs:swapsWithSole [.Tuple [.Name x px,.Name y py] kt pt] (.Tuple [a,b] k2 O) pos.line X.env=pure false:=by rfl) :
  PS X (.Assign [.Tuple [.Name x px,.Name y py] kt pt] (.Tuple [a,b] k2 O) pos) (Zqk i j ta):=by
 intro M s σ H D I h;rw[exec_Assign_arm];refine Zl (jg ?_);rw[hs];refine Zl (Zm ?_);rw[if_neg (by decide)];refine Zl (Tuple_ (Yw (ha _ M s σ H _ I h) λus s1 ⟨vs,H1,I1,r1,q1⟩=>?_));obtain⟨v,w,e1,q1⟩:=q1;subst e1;obtain⟨Y,u2,rfl,rv,m6⟩:∃Y u2,us=[Y,u2]/\RelV v Y/\RelV w u2:=by
  cases r1 with
  |cons p q=>
   cases q with
   |cons p' q'=>
    cases q';exact⟨_,_,rfl,p,p'⟩
 refine bE ?_ (by show 2<=sizeLine;decide);have I2:Inv X M σ H1 {s1 with heap:=s1.heap.push {cls:=.type "tuple",data:=.seq [Y,u2].toArray}}:=I1.kept (t':=s1.toks) λb o e=>Zn _ e;rw[hw];refine Zl (Zm ?_);show wpAny (model X.prog X.w) X.A (do rule "assign.swapped-stores";let J <-unpackItems (.ref s1.heap.objs.size) 2 none;assignInOrder [λv=>bindName X.env y v,λv=>bindName X.env x v] J.reverse;pure Flow.next) _ _ _
 refine Zl (fh (Zl (unpackItems_tuple (items:=#[Y,u2]) (I.ok.hd hc) (gO s1.heap _) λh' m8=>?_)));have I3:=I2.kept (h':=h') (t':=s1.toks) λb o e=>m8 b o (ay (Zp e)) e;show wpAny _ _ (assignInOrder [λv=>bindName X.env y v,λv=>bindName X.env x v] [u2,Y] >>= λ_=>pure Flow.next) _ _ _;refine Zl (jv (wpAny_bindName (WB I3 hN hj (.inl hy) m6 (λs2 I4=>?_) (.inr hy))));refine jv (wpAny_bindName (WB I4 hN hi (.inl hx) rv (λs3 I5=>assignInOrder_nil (Zm ?_)) (.inr hx)));rw[List.set_comm _ _ (bd m5)] at I5;exact⟨_,H1,I5,q1⟩
inductive Zov (i:Nat) (te:TE) (ti:TIp) (D:WT) (σ:L2.St) (H:Hp):Prop
 |mk (x:_):(σ[i]?=some (some x))->(te σ H λy H1=>ti x y H1 λz H2=>D.nx (σ.set i (some z)) H2)->Zov i te ti D σ H
theorem Xb {i:Nat}{x:Str}{e:Expr}{te:TE}{op:kG}{ti:TIp}{M:Pos}(hN:X.N.Nodup)(hi:X.N[i]?=some x)(hx:Loc X.env.scope x)(he:PE X e te)(ho:PIp X op ti)(hf:X.fn x=true\/X.env.scope.names.lookup x=some .local:=by first|exact .inl rfl|exact .inr rfl|assumption) :
  PS X (.AugAssign (.Name x M) op e pos) (Zov i te ti):=by
 intro j s σ H D I h;obtain⟨v,e1,h⟩:=h;obtain⟨m,hn,hl⟩:=I.loc;have m5:Vis X.env.scope x:=by rcases hx with k|k;exact .inl k;exact .inr (.inl k)
 obtain⟨u,r,l⟩:=hl i x v hi e1 m5;refine wpAny_AugAssign_Name ?_;have go:wpAny (model X.prog X.w) X.A (eval e X.env) (λw O=>wpAny (model X.prog X.w) X.A (inplaceOp op u w) (λr Y=>wpAny (model X.prog X.w) X.A (storeName X.env x r) (λ_=>SP X j D .next) X.xe Y) X.xe O) X.xe s:=by
  refine Yw (he j s σ H _ I h) λw s1 ⟨y,H1,I1,r1,q1⟩=>?_;refine Yw (ho j s1 σ H1 v y u w _ I1 r r1 q1) λz s2 ⟨zv,H2,I2,r2,q2⟩=>?_;exact WB I2 hN hi hx r2 (λs3 I3=>⟨_,H2,I3,q2⟩) hf
 rcases l with ⟨q,hm⟩|⟨q,c,hc,J⟩
 ·exact wpAny_loadName_local I.ok.kind q hn hm go
 ·rcases q with q|q
  ·exact wpAny_loadName_cell I.ok.kind q hc J go
  ·rcases hx with k|k
   ·have:X.env.scope.names.lookup x=some .free:=q
    rw[k] at this;cases this
   ·have:X.env.scope.names.lookup x=some .free:=q
    rw[k] at this;cases this
def Zou (O Y te:TE)(j:V->V->Hp->VK->Prop)(M:TIp)(q:Zjt):TS:=λD J H=>O J H λo H1=>Y J H1 λi H2=>j o i H2 λx H3=>te J H3 λy H4=>M x y H4 λz H5=>q o i z H5 λH6=>D.nx J H6
def Zn3 (X:Cx)(t:V->V->Hp->VK->Prop):Prop:=
 ∀(j:List (Addr×Obj)) (s:Shared) (q:St) (H:Hp) (o i:V) (J M:Value) (Q:VK),Inv X j q H s->RelV o J->RelV i M->t o i H Q->
  wpAny (model X.prog X.w) X.A (getItem J M) (EP X j q Q) X.xe s
theorem Uc {o i e:Expr}{to ti te:TE}{J:V->V->Hp->VK->Prop}{m5:TIp}{M:Zjt}{op:kG}{m6:Pos}(ho:PE X o to)(hi:PE X i ti)(hg:Zn3 X J)(he:PE X e te)(hp:PIp X op m5)(hs:Zn2 X M)
  (ha:∀O iv q,augStore i O iv q=(do holding [q,O,iv] (setItem O iv q);release [q,O,iv] [];pure .next):=by intros;rfl):PS X (.AugAssign (.Subscript o i m6) op e pos) (Zou to ti te J m5 M):=by
 intro j s Y H D I h;refine wpAny_AugAssign_SubscriptAny (Yw (ho j s Y H _ I h) λO s1 ⟨x1,H1,I1,r1,q1⟩=>?_) ha;refine Yw (hi j s1 Y H1 _ I1 q1) λiv s2 ⟨x2,H2,I2,r2,q2⟩=>?_;refine Yw (hg j s2 Y H2 x1 x2 O iv _ I2 r1 r2 q2) λm8 s3 ⟨x3,H3,I3,r3,q3⟩=>?_;refine Yw (he j s3 Y H3 _ I3 q3) λv s4 ⟨x4,H4,I4,r4,q4⟩=>?_;refine Yw (hp j s4 Y H4 x3 x4 m8 v _ I4 r3 r4 q4) λq s5 ⟨x5,H5,I5,r5,q5⟩=>?_;exact Yw (hs j s5 Y H5 x1 x2 x5 O iv q _ I5 r1 r2 r5 q5) λ_ s6 ⟨H6,I6,q6⟩=>⟨Y,H6,I6,q6⟩
inductive ipI (f:Int->Int->Int) (x:V) (y:V) (H:Hp) (Q:VK):Prop
 |mk (i:_) (j:_):(x=.int i)->(y=.int j)->(Q (.int (f i j)) H)->ipI f x y H Q
theorem Js:PIp X .Add (ipI λi j=>i+j):=by
 intro J s σ H x y v u Q I M O h;obtain⟨i,j,Y,e2,q⟩:=h;subst Y;subst e2;obtain⟨t,rfl⟩:=M;obtain⟨t',rfl⟩:=O;exact iadd_int ⟨.int _,H,I.tok _,⟨_,rfl⟩,q⟩
theorem ZiL:PIp X .Sub (ipI λi j=>i-j):=by
 intro J s σ H x y v u Q I M O h;obtain⟨i,j,Y,e2,q⟩:=h;subst Y;subst e2;obtain⟨t,rfl⟩:=M;obtain⟨t',rfl⟩:=O;exact isub_int ⟨.int _,H,I.tok _,⟨_,rfl⟩,q⟩
end
section
variable {X:Cx}{pos:Pos}
def Zg9 (c:TT)(tb:TS):TS:=λD j H=>∃W:Nat->St->Hp->Prop,(∃m,W m j H)/\∀m j H,W m j H->
 c j H λb J=>if b=true then ∃N:St->Hp->Prop,(∀ q M,N q M->∃O,O<m/\W O q M)/\tb (D.lp N) j J else D.nx j J
theorem Yp {c:Expr}{body:List Stmt}{tc:TT}{tb:TS}(hp:PassesOwn (model X.prog X.w) X.A X.env X.xe)(hc:PT X c tc)(hb:PSs X body tb):PS X (.While c body [] pos) (Zg9 tc tb):=by
 intro j s σ H D I h;obtain⟨W,⟨m0,w0⟩,turn⟩:=h;refine wpAny_While (codeAny_whileLoop (λn s'=>∃ M H',Inv X j M H' s'/\W n M H') ?_ m0 ⟨σ,H,I,w0⟩);rintro n s1 ⟨J,H1,I1,w1⟩;refine dM hp (Yw (hc j s1 J H1 _ I1 (turn n J H1 w1)) λb s2 ⟨H2,I2,Y⟩=>?_);cases b with
 |true=>
  obtain⟨N,hN,Y⟩:=Y;rw[if_pos rfl];refine dM hp (Yw (hb j s2 J H2 _ I2 Y) λf s3 q3=>?_);cases f with
  |next=>
   obtain⟨q,O,I3,n3⟩:=q3;obtain⟨m',hm,w3⟩:=hN q O n3;exact⟨m',hm,q,O,I3,w3⟩
  |cont=>
   obtain⟨q,O,I3,n3⟩:=q3;obtain⟨m',hm,w3⟩:=hN q O n3;exact⟨m',hm,q,O,I3,w3⟩
  |brk=>exact q3
  |ret v=>exact q3
 |false=>
  rw[if_neg aF];exact iG ⟨J,H2,I2,Y⟩
end
structure It where
 go:Nat->Hp->Prop
 yld:Nat->Hp->V->Hp->Prop
 stop:Nat->Hp->Prop
def Zat (X:Cx)(j:List (Addr×Obj))(H:Hp)(b:Addr):Prop:=
 H b=none/\b≠X.env.locals/\b∉X.fs/\(b∈X.ex\/X.s₀.heap.objs.size<=b)/\(∀x c,X.env.cells.lookup x=some c->c≠b)/\∀p∈X.pn++j,p.1≠b
theorem Inv.fpOk {X:Cx}{j:List (Addr×Obj)}{σ:St}{H J:Hp}{s:Shared}{b:Addr}(I:Inv X j σ H s)(hb:s.heap.objs.size<=b)(M:J b=none):Zat X j J b:=by
 refine⟨M,bq (aC I.lt hb),I.nofs hb,.inr (a8 I.sz hb),λx c e z=>?_,λp O z=>?_⟩
 ·obtain⟨v,q⟩:=I.cell x c e
  exact absurd (aC q.lt (by rw[z];exact hb)) (bK _)
 ·exact absurd (aC (Zp (I.pin p O).1) (by rw[z];exact hb)) (bK _)
structure Zar (P:Program)(w:World)(K:aa)(tg:Expr)(J:It)(fp:TW)(it:Addr)(tn:Nat->Heap->Prop):Prop where
 mem:it∈fp
 obj:∀i h,tn i h->∀b∈fp,∃o,h.get? b=some o/\∀v,o.data≠.cell v
 keep:∀i h h',tn i h->(∀b∈fp,∀o,h.get? b=some o->h'.get? b=some o)->tn i h'
 item:∀(X:Cx),X.prog=P->X.w=w->X.K=K->X.calm=true->∀(i:Nat) (pins:List (Addr×Obj)) (s:Shared) (σ:St) (H:Hp) (E:TY),Inv X pins σ H s->(∀b∈fp,Zat X pins H b)->tn i s.heap->J.go i H->
  wpAny (model P w) X.A (pyNext (.ref it)) (λr s1=>∃u,r=some u/\
   wpAny (model P w) X.A (letOwnedTupleGo tg (.ref it) u) (λ_ s2=>∃x H',Inv X pins σ H' s2/\RelV x u/\J.yld i H x H'/\tn (i+1) s2.heap/\∀b∈fp,H' b=none) E s1) E s
 done:∀(X:Cx),X.prog=P->X.w=w->X.K=K->X.calm=true->∀(i:Nat) (pins:List (Addr×Obj)) (s:Shared) (σ:St) (H:Hp) (E:TY),Inv X pins σ H s->(∀b∈fp,Zat X pins H b)->tn i s.heap->J.stop i H->
  wpAny (model P w) X.A (pyNext (.ref it)) (λr s1=>r=none/\Inv X pins σ H s1) E s
 self:∀(A:Around) (i:Nat) (s:Shared) (Q:TY) (E:TY),tn i s.heap->Q (.ref it) s->wpAny (model P w) A (pyIter (.ref it)) Q E s
noncomputable abbrev TI:=St->Hp->(It->Hp->Prop)->Prop
def PIE (X:Cx)(j:List (Addr×Obj))(σ:St)(tg:Expr)(R:It->Hp->Prop)(q:Value)(O:Shared):Prop:=
 ∃(it:Addr) (Y:TW) (tn:Nat->Heap->Prop) (J:It) (M:Hp),q=.ref it/\Inv X j σ M O/\Zar X.prog X.w X.K tg J Y it tn/\tn 0 O.heap/\(∀b∈Y,Zat X j M b)/\R J M
def PI (X:Cx)(M q:Expr)(O:TI):Prop:=
 ∀(j:List (Addr×Obj)) (s:Shared) (J:St) (H:Hp) (R:It->Hp->Prop),Inv X j J H s->O J H R->
  wpAny (model X.prog X.w) X.A (eval q X.env) (λv Y=>wpAny (model X.prog X.w) X.A (pyIter v) (PIE X j J M R) X.xe Y) X.xe s
theorem Zde {M:Model}{A:Around}{E:TY}{s:Shared}{q:Expr}{it:Addr}{u:Value}{o:Obj}{n:String}{vs:Array Value}{Q:Unit->Shared->Prop}(J:s.heap.get? it=some o)(O:o.cls=.type n)(hd:o.data=.fields vs)
    (Y:["enumerate", "zip", "dict_itemiterator", "dict_reverseitemiterator", "odict_iterator", "itertools.zip_longest", "itertools.pairwise"].contains n=false) (j:Q () s):wpAny M A (letOwnedTupleGo q (.ref it) u) Q E s:=by
  unfold letOwnedTupleGo;cases q <;> first
    |exact Zm j
    |(cases u <;> first
        |exact Zm j
        | (refine Zl (jo J ?_)
           rw[O,hd];show wpAny M A (if (["enumerate", "zip", "dict_itemiterator", "dict_reverseitemiterator", "odict_iterator", "itertools.zip_longest", "itertools.pairwise"].contains n && vs[0]? == some (rawInt _))=true then _ else _) Q E s
           rw[if_neg (by intro h;rw[Y,jM] at h;cases h)];exact Zm j))
def Itl (K:aa)(a:Addr):It:=
 ⟨λi H=>∃j x,Ws K H a j/\j[i]?=some x,λi H x q=>q=H/\∀j,Ws K H a j->j[i]?=some x,λi H=>∃j,Ws K H a j/\j.length<=i⟩
def Itt (K:aa)(a:Addr):It:=
 ⟨λi H=>∃j x,Xp K H a j/\j[i]?=some x,λi H x q=>q=H/\∀j,Xp K H a j->j[i]?=some x,λi H=>∃j,Xp K H a j/\j.length<=i⟩
def Itr (lo:Int)(n:Nat):It:=⟨λi _=>i<n,λi H x j=>j=H/\x=.int (lo+i),λi _=>n<=i⟩
theorem ZfX {P:Program}{w:World}{K:aa}{tg:Expr}(a it:Addr):Zar P w K tg (Itl K a) [it] it (λi h=>h.IsListIter it a i) where
 mem:=by simp
 obj:=λi h st b hb=>by
  have e:b=it:=by simpa using hb
  subst e;obtain⟨o,e,c,d⟩:=st;exact⟨o,e,λv z=>by rw[d] at z;cases z⟩
 keep:=λi h J st k=>st.at λo e=>k it (by simp) o e
 item:=by
  intro X Y hw hK hc i j s σ H E I M st hg;subst Y hw hK;obtain⟨xs,x,O,hx⟩:=hg;obtain⟨m5,rv,p,hz⟩:=I.list O;obtain⟨u,hu,ru⟩:=rv.get hx;obtain⟨f0,f1,f2,f3,f4,f5⟩:=M it (by simp);refine wpAny_pyNext_list_item st p.isList (x:=u) (by simpa using hu) λJ q sb=>?_;have I1:Inv X j σ H {s with heap:=J}:=I.turned (t':=s.toks) (λb o hb e=>(sb.2 b hb).trans e) f0 f1 f3 f4 f5;obtain⟨o,e,c,d⟩:=id q;exact⟨u,rfl,Zde (s:={s with heap:=J}) e c d (by decide) ⟨x,H,I1,ru,⟨rfl,λys hy=>by rw[I.list_inj hy O];exact hx⟩,q,λb hb=>(M b hb).1⟩⟩
 done:=by
  intro X Y hw hK hc i j s σ H E I M st hg;subst Y hw hK;obtain⟨xs,O,hx⟩:=hg;obtain⟨m5,rv,p,hz⟩:=I.list O;obtain⟨f0,f1,f2,f3,f4,f5⟩:=M it (by simp);have hl:=rv.length;exact wpAny_pyNext_list_end (I.ok.hd hc) st p.isList (by simp;omega) λJ eb=>⟨rfl,I.turned (t':=s.toks) (λb o hb e=>eb b o hb e) f0 f1 f3 f4 f5⟩
 self:=λ_ _ _ _ _ st h=>wpAny_pyIter_listiter st h
theorem ZdE {P:Program}{w:World}{K:aa}{tg:Expr}(a it:Addr):Zar P w K tg (Itt K a) [it] it (λi h=>h.IsTupleIter it a i) where
 mem:=by simp
 obj:=λi h st b hb=>by
  have e:b=it:=by simpa using hb
  subst e;obtain⟨o,e,c,d⟩:=st;exact⟨o,e,λv z=>by rw[d] at z;cases z⟩
 keep:=λi h M st k=>st.at λo e=>k it (by simp) o e
 item:=by
  intro X hP hw hK hc i j s σ H E I O st hg;subst hP hw hK;obtain⟨xs,x,Y,hx⟩:=hg;obtain⟨q,rv,p,hz⟩:=I.tuple Y;obtain⟨u,hu,ru⟩:=rv.get hx;obtain⟨f0,f1,f2,f3,f4,f5⟩:=O it (by simp);refine wpAny_pyNext_tuple_item st (show s.heap.IsTuple a q.toArray from p) (x:=u) (by simpa using hu) λM J sb=>?_;have I1:Inv X j σ H {s with heap:=M}:=I.turned (t':=s.toks) (λb o hb e=>(sb.2 b hb).trans e) f0 f1 f3 f4 f5;obtain⟨o,e,c,d⟩:=id J;exact⟨u,rfl,Zde (s:={s with heap:=M}) e c d (by decide) ⟨x,H,I1,ru,⟨rfl,λys hy=>by rw[I.tuple_inj hy Y];exact hx⟩,J,λb hb=>(O b hb).1⟩⟩
 done:=by
  intro X hP hw hK hc i j s σ H E I O st hg;subst hP hw hK;obtain⟨xs,Y,hx⟩:=hg;obtain⟨q,rv,p,hz⟩:=I.tuple Y;obtain⟨f0,f1,f2,f3,f4,f5⟩:=O it (by simp);have hl:=rv.length;exact wpAny_pyNext_tuple_end (I.ok.hd hc) st (show s.heap.IsTuple a q.toArray from p) (by simp;omega) λM eb=>⟨rfl,I.turned (t':=s.toks) (λb o hb e=>eb b o hb e) f0 f1 f3 f4 f5⟩
 self:=λ_ _ _ _ _ st h=>wpAny_pyIter_tupleiter st h
theorem ZdF {P:Program}{w:World}{K:aa}{tg:Expr}(it:Addr)(lo:Int)(n:Nat):Zar P w K tg (Itr lo n) [it] it (λi h=>g9 h it (lo+(i:Nat)*1) ((n:Int)-(i:Nat)) 1) where
 mem:=by simp
 obj:=λi h st b hb=>by
  have e:b=it:=by simpa using hb
  subst e;exact⟨_,st,λv z=>by
   have z':gv _=fW v:=z;cases z'⟩
 keep:=λi h J st k=>k it (by simp) _ st
 item:=by
  intro X O Y hK hc i j s σ H E I M st hg;subst O Y hK;obtain⟨f0,f1,f2,f3,f4,f5⟩:=M it (by simp);have W:=kC (prog:=X.prog) (w:=X.w) (I.ok.hd hc) it lo 1 n;refine W.item i s _ _ hg st λv J tk hv q kk=>?_;obtain⟨t,rfl⟩:=hv;have I1:Inv X j σ H {s with heap:=J,toks:=tk}:=I.turned (λb o hb e=>kk b o (by simpa using hb) e) f0 f1 f3 f4 f5;refine⟨_,rfl,Zde (s:={s with heap:=J,toks:=tk}) (n:="range_iterator") q rfl rfl (by decide) ⟨.int (lo+i),H,I1,⟨t,?_⟩,⟨rfl,rfl⟩,q,λb hb=>(M b hb).1⟩⟩;rw[fJ]
 done:=by
  intro X O Y hK hc i j s σ H E I M st hg;subst O Y hK;obtain⟨f0,f1,f2,f3,f4,f5⟩:=M it (by simp);exact iu (I.ok.hd hc) st (by have:n<=i:=hg;omega) λJ eb=>⟨rfl,I.turned (t':=s.toks) (λb o hb e=>eb b o hb e) f0 f1 f3 f4 f5⟩
 self:=λ_ _ _ _ _ st h=>iw st h
section
variable {X:Cx}{tg:Expr}
inductive iLi (K:aa) (R:It->Hp->Prop) (x:V) (H:Hp):Prop
 |mk (a:Addr):x=.ref a->(∃xs,Ws K H a xs)->R (Itl K a) H->iLi K R x H
def Zl8 (K:aa)(j:TE):TI:=λq H R=>j q H (iLi K R)
inductive iTi (K:aa) (R:It->Hp->Prop) (x:V) (H:Hp):Prop
 |mk (a:Addr):x=.ref a->(∃xs,Xp K H a xs)->R (Itt K a) H->iTi K R x H
def Zo9 (K:aa)(j:TE):TI:=λq H R=>j q H (iTi K R)
theorem Zko {l:Expr}{O:TE}(Y:PE X l O):PI X tg l (Zl8 X.K O):=by
 intro j s σ H R I h;refine Yw (Y j s σ H _ I h) λv J ⟨x,H1,M,r1,q1⟩=>?_;obtain⟨a,e,⟨xs,hq⟩,q⟩:=q1;subst e;cases r1;obtain⟨m5,rv,p,hz⟩:=M.list hq;refine gZ p.isList ?_;refine⟨J.heap.objs.size,[J.heap.objs.size],_,_,H1,rfl,M.kept (t':=J.toks) λb o e=>Zn _ e,ZfX a _,⟨_,Zo _ rfl,rfl,rfl⟩,λb hb=>?_,q⟩;have e:b=J.heap.objs.size:=by simpa using hb
 subst e;exact M.fpOk (Zq _) (M.hok.fresh (Zq _))
theorem ZmY {l:Expr}{Y:TE}(hl:PE X l Y):PI X tg l (Zo9 X.K Y):=by
 intro j s σ H R I h;refine Yw (hl j s σ H _ I h) λv J ⟨x,H1,M,r1,q1⟩=>?_;obtain⟨a,e,⟨xs,hq⟩,q⟩:=q1;subst e;cases r1;obtain⟨O,rv,p,hz⟩:=M.tuple hq;refine jj (show J.heap.IsTuple a O.toArray from p) ?_;refine⟨J.heap.objs.size,[J.heap.objs.size],_,_,H1,rfl,M.kept (t':=J.toks) λb o e=>Zn _ e,ZdE a _,⟨_,Zo _ rfl,rfl,rfl⟩,λb hb=>?_,q⟩;have e:b=J.heap.objs.size:=by simpa using hb
 subst e;exact M.fpOk (Zq _) (M.hok.fresh (Zq _))
theorem ZcQ {J:List (Addr×Obj)}{σ:St}{H:Hp}{s:Shared}{R:It->Hp->Prop}{E:TY}{lo j:Int}{t u v:Tok}{tk:Nat}(I:Inv X J σ H s)(O:-(2 ^ 62)<=lo)(Y:lo<2 ^ 62)(h3:-(2 ^ 62)<=j)(h4:j<2 ^ 62)
  (q:R (Itr lo (j-lo).toNat) H):wpAny (model X.prog X.w) X.A (pyIter (.ref s.heap.objs.size)) (PIE X J σ tg R) E {s with heap:=s.heap.push {cls:=.type "range",data:=.fields #[.int lo t,.int j u,.int 1 v]},toks:=tk}:=by
 refine jm (j7 ..) (small_one O Y h3 h4) ?_;have M:Inv X J σ H {s with heap:=s.heap.push {cls:=.type "range",data:=.fields #[.int lo t,.int j u,.int 1 v]},toks:=tk}:=I.kept λb o e=>Zn _ e;refine⟨(s.heap.push {cls:=.type "range",data:=.fields #[.int lo t,.int j u,.int 1 v]}).objs.size,[(s.heap.push {cls:=.type "range",data:=.fields #[.int lo t,.int j u,.int 1 v]}).objs.size],_,_,H,rfl,
  M.kept (t':=tk) λb o e=>Zn _ e,ZdF _ lo (j-lo).toNat,?_,λb hb=>?_,q⟩
 ·have e1:lo+((0:Nat):Int)*1=lo:=by simp
  have e2:(((j-lo).toNat:Nat):Int)-((0:Nat):Int)=bh lo j 1:=by rw[lF];split <;> omega
  show g9 _ _ (lo+((0:Nat):Int)*1) ((((j-lo).toNat:Nat):Int)-((0:Nat):Int)) 1;rw[e1,e2];exact Zo _ rfl
 ·have e:b=(s.heap.push {cls:=.type "range",data:=.fields #[.int lo t,.int j u,.int 1 v]}).objs.size:=by simpa using hb
  subst e;exact M.fpOk (Zq _) (M.hok.fresh (Zq _))
inductive iR1 (R:It->Hp->Prop) (vs:TV) (H1:Hp):Prop
 |mk (j:Int):vs=[.int j]->-(2 ^ 62)<=j->j<2 ^ 62->R (Itr 0 j.toNat) H1->iR1 R vs H1
def Zl7 (j:TA):TI:=λq H R=>j q H (iR1 R)
inductive iR2 (R:It->Hp->Prop) (vs:TV) (H1:Hp):Prop
 |mk (i j:Int):vs=[.int i,.int j]->(-(2 ^ 62)<=i/\i<2 ^ 62/\-(2 ^ 62)<=j/\j<2 ^ 62)->R (Itr i (j-i).toNat) H1->iR2 R vs H1
def Zl6 (j:TA):TI:=λq H R=>j q H (iR2 R)
theorem Zf8 {a:Expr}{O:TA}{p pos:Pos}(Y:Gl X "range")(hm:X.mg "range"=none)(ha:PA X [a] O)(hs:starEach [a] X.env=[(false,eval a X.env)]:=by rfl):PI X tg (.Call (.Name "range" p) [a] [] pos) (Zl7 O):=by
 intro J s σ H R I h;refine Call_ (JN I Y hm kN (bm (Yw (ha pos J s σ H _ I h) λus s1 ⟨vs,H1,I1,r1,M⟩=>?_) hs rfl));obtain⟨j,e,M,q2,q⟩:=M;subst e;cases r1 with
 |cons r rr=>
  cases rr;obtain⟨t,rfl⟩:=r;exact call_range_1 (ZcQ I1 (by omega) (by omega) M q2 (by simpa using q))
theorem Zf7 {a b:Expr}{ta:TA}{p pos:Pos}(hg:Gl X "range")(hm:X.mg "range"=none)(ha:PA X [a,b] ta)(hs:starEach [a,b] X.env=[(false,eval a X.env),(false,eval b X.env)]:=by rfl)(J:starEach [b] X.env=[(false,eval b X.env)]:=by rfl) :
  PI X tg (.Call (.Name "range" p) [a,b] [] pos) (Zl6 ta):=by
 intro M s σ H R I h;refine Call_ (JN I hg hm kN (bm (Yw (ha pos M s σ H _ I h) λus s1 ⟨vs,H1,I1,r1,O⟩=>?_) (by rw[hs,J]) (by rw[J];rfl)));obtain⟨i,j,e,⟨O,q2,q3,q4⟩,q⟩:=O;subst e;cases r1 with
 |cons r Y=>
  cases Y with
  |cons r' Y=>
   cases Y;obtain⟨t,rfl⟩:=r;obtain⟨t',rfl⟩:=r';exact call_range_2 (ZcQ I1 O q2 q3 q4 q)
def Zqn (wi:TI)(g:TG)(tb:TS):TS:=λD j H=>wi j H λJ H1=>∃W:Nat->Nat->St->Hp->Prop,(∃m,W 0 m j H1)/\∀i m j H,W i m j H->
 (J.stop i H/\D.nx j H)\/(J.go i H/\∃N:St->Hp->Prop,(∀ q M,N q M->∃Y,Y<m/\W (i+1) Y q M)/\∀x M,J.yld i H x M->g x j M λO H2=>tb (D.lp N) O H2)
def UH (j:TW)(h:Heap):List (Addr×Obj):=j.filterMap λb=>(h.get? b).map λo=>(b,o)
theorem JM {j:TW}{h:Heap}{b:Addr}{o:Obj}(hb:b∈j)(e:h.get? b=some o):(b,o)∈UH j h:=iP.mpr ⟨b,hb,by rw[e];rfl⟩
theorem Zgj {j:TW}{h:Heap}{p:Addr×Obj}(J:p∈UH j h):p.1∈j/\h.get? p.1=some p.2:=by
 obtain⟨b,hb,e⟩:=iP.mp J;cases q:h.get? b with
 |none=>rw[q] at e;cases e
 |some o=>
  rw[q] at e;have M:(b,o)=p:=aA e;subst M;exact⟨hb,q⟩
theorem Inv.pinned {j:List (Addr×Obj)}{σ:St}{H:Hp}{s:Shared}{q:TW}(I:Inv X j σ H s)(M:∀b∈q,Zat X j H b)(O:∀b∈q,∃o,s.heap.get? b=some o/\∀v,o.data≠.cell v):Inv X (j++UH q s.heap) σ H s:=
 I.pins_of λp Y=>(bH.mp Y).elim (λz=>I.pin p (aP _ z)) λz=>by
  obtain⟨hb,e⟩:=Zgj z;obtain⟨f0,f1,f2,_⟩:=M p.1 hb;obtain⟨o,J,d⟩:=O p.1 hb;rw[e] at J;cases J;exact⟨e,f0,f1,f2,d⟩
theorem Inv.unpinned {j pl:List (Addr×Obj)}{σ:St}{H:Hp}{s:Shared}(I:Inv X (j++pl) σ H s):Inv X j σ H s:=I.pins_of λp q=>I.pin p (aP _ (bU _ q))
theorem ZN {iter:Expr}{body:List Stmt}{wi:TI}{g:TG}{tb:TS}{pos:Pos}(hp:PassesOwn (model X.prog X.w) X.A X.env X.xe)(hc:X.calm=true)(hi:PI X tg iter wi)(hg:PG X tg g)(hb:PSs X body tb)
  (hs:∀x,foldedSetIterable iter X.env x=pure x:=by intro _;rfl):PS X (.For tg iter body [] pos) (Zqn wi g tb):=by
 intro j s σ H D I h;refine wpAny_For (Yw (hi j s σ H _ I h) λv s1 h1=>Yw h1 λo7 s2 h2=>?_) hs;obtain⟨it,fp,tn,J,H2,e,I2,T,n6,f2,W,⟨m0,w0⟩,turn⟩:=h2;subst e;have M:∀{H':Hp},(∀b∈fp,H' b=none)->∀b∈fp,Zat X j H' b:=λhn b hb=>⟨hn b hb,(f2 b hb).2⟩;refine codeAny_forLoop_any (λn s'=>∃i O H',Inv X j O H' s'/\tn i s'.heap/\(∀b∈fp,H' b=none)/\W i n O H') ?_ m0 ⟨0,σ,H2,I2,n6,λb hb=>(f2 b hb).1,w0⟩;rintro n s3 ⟨i,Y,H3,I3,m6,m8,w3⟩;rcases turn i n Y H3 w3 with ⟨stop,qn⟩|⟨go,N,hN,step⟩
 ·refine dM hp (Yw (T.done X rfl rfl rfl hc i j s3 Y H3 X.xe I3 (M m8) m6 stop) λr s4 ⟨hr,I4⟩=>?_)
  subst hr;exact iG ⟨Y,H3,I4,qn⟩
 ·refine dM hp (Yw (T.item X rfl rfl rfl hc i j s3 Y H3 X.xe I3 (M m8) m6 go) λr s4 ⟨u,hr,h4⟩=>?_)
  subst hr;refine dM hp (Yw h4 λ_ s5 ⟨x,H5,I5,r5,y5,m5,n8⟩=>?_);have n9:=I5.pinned (M n8) (T.obj _ _ m5);refine dM hp (Yw (hg _ s5 Y H5 x u _ n9 r5 (step x H5 y5)) λ_ s6 ⟨o0,H6,I6,q6⟩=>?_);refine dM hp (Yw (hb _ s6 o0 H6 _ I6 q6) λf s7 q7=>?_);have again:∀{q:St}{H7:Hp},Inv X (j++UH fp s5.heap) q H7 s7->N q H7->∃m,m<n/\∃i O H',Inv X j O H' s7/\tn i s7.heap/\(∀b∈fp,H' b=none)/\W i m O H':=λ{q H7} I7 n7=>by
   obtain⟨m',hm,w7⟩:=hN q H7 n7;refine⟨m',hm,i+1,q,H7,I7.unpinned,T.keep _ _ _ m5 λb hb o e=>(I7.pin (b,o) (aP _ (aP _ (JM hb e)))).1,λb hb=>?_,w7⟩;obtain⟨o,e,d⟩:=T.obj _ _ m5 b hb;exact (I7.pin (b,o) (aP _ (aP _ (JM hb e)))).2.1
  cases f with
  |next=>obtain⟨q,H7,I7,n7⟩:=q7;exact again I7 n7
  |cont=>obtain⟨q,H7,I7,n7⟩:=q7;exact again I7 n7
  |brk=>obtain⟨q,H7,I7,q7⟩:=q7;exact⟨q,H7,I7.unpinned,q7⟩
  |ret v=>obtain⟨x7,q,H7,I7,r7,q7⟩:=q7;exact⟨x7,q,H7,I7.unpinned,r7,q7⟩
end
theorem ZiW {K:aa}{a:Addr}{xs:TV}{g:TG}{tb:TS}{D:WT}{σ:St}{H:Hp}(Pv:Nat->St->Hp->Prop)(h0:Pv 0 σ H)(hl:∀i σ H,i<=xs.length->Pv i σ H->Ws K H a xs)
  (hs:∀i x σ H,xs[i]?=some x->Pv i σ H->g x σ H λj Y=>tb (D.lp (Pv (i+1))) j Y) (hd:∀ σ H,Pv xs.length σ H->D.nx σ H) :
  ∃W:Nat->Nat->St->Hp->Prop,(∃m,W 0 m σ H)/\∀i m σ H,W i m σ H->
   ((Itl K a).stop i H/\D.nx σ H)\/((Itl K a).go i H/\∃N:St->Hp->Prop,(∀ J M,N J M->∃m',m'<m/\W (i+1) m' J M)/\∀x M,(Itl K a).yld i H x M->g x σ M λj Y=>tb (D.lp N) j Y):=by
 refine⟨λi m σ H=>m=xs.length-i/\i<=xs.length/\Pv i σ H,⟨xs.length,by simp,a5 _,h0⟩,?_⟩;rintro i m σ H ⟨rfl,hi,p⟩;have q:=hl i σ H hi p;by_cases O:i<xs.length
 ·refine .inr ⟨⟨xs,xs[i],q,by simp[O]⟩,Pv (i+1),λJ M p'=>⟨xs.length-(i+1),by omega,rfl,O,p'⟩,λx M y=>?_⟩
  obtain⟨e,y⟩:=y;subst e;exact hs i x σ _ (y xs q) p
 ·have e:i=xs.length:=by omega
  subst e;exact .inl ⟨⟨xs,q,Zq _⟩,hd σ H p⟩
theorem Zfy {K:aa}{a:Addr}{xs:TV}{g:TG}{tb:TS}{D:WT}{σ:St}{H:Hp}(Pv:Nat->St->Hp->Prop)(h0:Pv 0 σ H)(hl:∀i σ H,i<=xs.length->Pv i σ H->Xp K H a xs)
  (hs:∀i x σ H,xs[i]?=some x->Pv i σ H->g x σ H λj Y=>tb (D.lp (Pv (i+1))) j Y) (hd:∀ σ H,Pv xs.length σ H->D.nx σ H) :
  ∃W:Nat->Nat->St->Hp->Prop,(∃m,W 0 m σ H)/\∀i m σ H,W i m σ H->
   ((Itt K a).stop i H/\D.nx σ H)\/((Itt K a).go i H/\∃N:St->Hp->Prop,(∀ J M,N J M->∃m',m'<m/\W (i+1) m' J M)/\∀x M,(Itt K a).yld i H x M->g x σ M λj Y=>tb (D.lp N) j Y):=by
 refine⟨λi m σ H=>m=xs.length-i/\i<=xs.length/\Pv i σ H,⟨xs.length,by simp,a5 _,h0⟩,?_⟩;rintro i m σ H ⟨rfl,hi,p⟩;have q:=hl i σ H hi p;by_cases O:i<xs.length
 ·refine .inr ⟨⟨xs,xs[i],q,by simp[O]⟩,Pv (i+1),λJ M p'=>⟨xs.length-(i+1),by omega,rfl,O,p'⟩,λx M y=>?_⟩
  obtain⟨e,y⟩:=y;subst e;exact hs i x σ _ (y xs q) p
 ·have e:i=xs.length:=by omega
  subst e;exact .inl ⟨⟨xs,q,Zq _⟩,hd σ H p⟩
theorem Z0 {lo:Int}{n:Nat}{g:TG}{tb:TS}{D:WT}{σ:St}{H:Hp}(Pv:Nat->St->Hp->Prop)(h0:Pv 0 σ H)
  (hs:∀i σ H,i<n->Pv i σ H->g (.int (lo+i)) σ H λj O=>tb (D.lp (Pv (i+1))) j O) (hd:∀ σ H,Pv n σ H->D.nx σ H) :
  ∃W:Nat->Nat->St->Hp->Prop,(∃m,W 0 m σ H)/\∀i m σ H,W i m σ H->
   ((Itr lo n).stop i H/\D.nx σ H)\/((Itr lo n).go i H/\∃N:St->Hp->Prop,(∀ q J,N q J->∃Y,Y<m/\W (i+1) Y q J)/\∀x J,(Itr lo n).yld i H x J->g x σ J λj O=>tb (D.lp N) j O):=by
 refine⟨λi m σ H=>m=n-i/\i<=n/\Pv i σ H,⟨n,by simp,a5 _,h0⟩,?_⟩;rintro i m σ H ⟨rfl,hi,p⟩;by_cases M:i<n
 ·refine .inr ⟨M,Pv (i+1),λq J p'=>⟨n-(i+1),by omega,rfl,M,p'⟩,λx J y=>?_⟩
  obtain⟨e,y⟩:=y;subst e y;exact hs i σ _ M p
 ·have e:i=n:=by omega
  subst e;exact .inl ⟨Zq _,hd σ H p⟩
noncomputable abbrev R2:=V->V->Hp->VK->Prop
def XR (X:Cx)(f:Value->Value->Sem Value)(r:R2):Prop:=
 ∀(j:List (Addr×Obj)) (s:Shared) (q:St) (H:Hp) (x y:V) (v u:Value) (Q:VK),Inv X j q H s->RelV x v->RelV y u->r x y H Q->
  wpAny (model X.prog X.w) X.A (f v u) (EP X j q Q) X.xe s
def UnR (X:Cx)(f:Value->Sem Value)(r:V->Hp->VK->Prop):Prop:=
 ∀(j:List (Addr×Obj)) (s:Shared) (q:St) (H:Hp) (x:V) (v:Value) (Q:VK),Inv X j q H s->RelV x v->r x H Q->
  wpAny (model X.prog X.w) X.A (f v) (EP X j q Q) X.xe s
def YV (X:Cx)(f:Value)(r:TV->Hp->VK->Prop):Prop:=
 ∀(j:List (Addr×Obj)) (s:Shared) (q:St) (H:Hp) (J:TV) (M:List Value) (Q:VK),Inv X j q H s->ZO J M->r J H Q->
  wpAny (model X.prog X.w) X.A (call f M) (EP X j q Q) X.xe s
def tOp (r:R2)(q tb:TE):TE:=λj H Q=>q j H λx J=>tb j J λy M=>r x y M Q
def tUn (r:V->Hp->VK->Prop)(j:TE):TE:=λq H Q=>j q H λx J=>r x J Q
inductive rI (C:Int->Int->Prop) (g:Int->Int->V) (x:V) (y:V) (H:Hp) (Q:VK):Prop
 |mk (i:_) (j:_):(x=.int i)->(y=.int j)->(C i j)->(Q (g i j) H)->rI C g x y H Q
inductive rI0 (g:Int->Int->V) (x:V) (y:V) (H:Hp) (Q:VK):Prop
 |mk (i:_) (j:_):(x=.int i)->(y=.int j)->(Q (g i j) H)->rI0 g x y H Q
inductive rU (g:Int->V) (x:V) (H:Hp) (Q:VK):Prop
 |mk (i:_):(x=.int i)->(Q (g i) H)->rU g x H Q
section
variable {X:Cx}{a b c:Expr}{ta tb tc:TE}{pos:Pos}
theorem ZnT (ha:PE X a ta)(hb:PE X b tb){j:List (Addr×Obj)}{s:Shared}{σ:St}{H:Hp}{R:V->V->Hp->Prop}(I:Inv X j σ H s)
  (h:ta σ H λx Y=>tb σ Y λy q=>R x y q) {Q:TY}{f:Value->Value->Sem Value}
  (hf:∀v u O x y q,Inv X j σ q O->RelV x v->RelV y u->R x y q->wpAny (model X.prog X.w) X.A (f v u) Q X.xe O) :
  wpAny (model X.prog X.w) X.A (eval a X.env) (λv J=>wpAny (model X.prog X.w) X.A (eval b X.env) (λu M=>wpAny (model X.prog X.w) X.A (f v u) Q X.xe M) X.xe J) X.xe s:=by
 refine Yw (ha j s σ H _ I h) λv s1 ⟨x,Y,I1,r1,q1⟩=>?_;refine Yw (hb j s1 σ Y _ I1 q1) λu O ⟨y,q,I2,r2,q2⟩=>?_;exact hf v u O x y q I2 r1 r2 q2
theorem Zy {op:kG}{r:R2}(J:XR X (binaryOp op) r)(M:PE X a ta)(hb:PE X b tb):PE X (.BinOp a op b pos) (tOp r ta tb):=by
 intro j s O H Q I h;exact wpAny_BinOp (ZnT M hb I h λv u Y x y H2 I2 rx ry q=>J j Y O H2 x y v u Q I2 rx ry q)
theorem Vo {op:UnaryOp}{r:V->Hp->VK->Prop}(J:UnR X (unaryOp op) r)(M:PE X a ta):PE X (.UnaryOp op a pos) (tUn r ta):=by
 intro j s q H Q I h;exact UnaryOp_ (Yw (M j s q H _ I h) λv O ⟨x,Y,I1,r1,q1⟩=>J j O q Y x v Q I1 r1 q1)
theorem opI {f:Value->Value->Sem Value}{C:Int->Int->Prop}{g:Int->Int->Int}
  (rule:∀(i j:Int) (t u:Tok) (s:Shared) (Q:TY) (E:TY),C i j->Q (.int (g i j) s.toks) {s with toks:=s.toks+1}->wpAny (model X.prog X.w) X.A (f (.int i t) (.int j u)) Q E s) :
  XR X f (rI C λi j=>.int (g i j)):=by
 intro J s σ H x y v u Q I M O h;obtain⟨i,j,rfl,rfl,Y,q⟩:=h;obtain⟨t,rfl⟩:=M;obtain⟨t',rfl⟩:=O;exact rule i j t t' s _ _ Y ⟨.int (g i j),H,I.tok _,⟨_,rfl⟩,q⟩
theorem ZoZ {f:Value->Value->Sem Value}{g:Int->Int->Int}
  (rule:∀(i j:Int) (t u:Tok) (s:Shared) (Q:TY) (E:TY),Q (.int (g i j) s.toks) {s with toks:=s.toks+1}->wpAny (model X.prog X.w) X.A (f (.int i t) (.int j u)) Q E s) :
  XR X f (rI0 λi j=>.int (g i j)):=by
 intro J s σ H x y v u Q I M O h;obtain⟨i,j,rfl,rfl,q⟩:=h;obtain⟨t,rfl⟩:=M;obtain⟨Y,rfl⟩:=O;exact rule i j t Y s _ _ ⟨.int (g i j),H,I.tok _,⟨_,rfl⟩,q⟩
theorem ZkC {f:Value->Value->Sem Value}{g:Int->Int->Bool}
  (rule:∀(i j:Int) (t u:Tok) (s:Shared) (Q:TY) (E:TY),Q (.bool (g i j)) s->wpAny (model X.prog X.w) X.A (f (.int i t) (.int j u)) Q E s) :
  XR X f (rI0 λi j=>.bl (g i j)):=by
 intro J s σ H x y v u Q I M O h;obtain⟨i,j,rfl,rfl,q⟩:=h;obtain⟨t,rfl⟩:=M;obtain⟨Y,rfl⟩:=O;exact rule i j t Y s _ _ ⟨.bl (g i j),H,I,rfl,q⟩
def Zrb (i j:Int):Prop:=0<j/\j<1073741824
def Zra (i j:Int):Prop:=0<=j/\j<=1000000/\i.natAbs<2 ^ 64
def ZlF (i j:Int):Prop:=(-(2 ^ 64)<i/\i<2 ^ 64)\/(-(2 ^ 64)<j/\j<2 ^ 64)
theorem ZlF.ok {i j:Int}(h:ZlF i j):IntMulOk i j:=by
 rcases h with ⟨q,J⟩|⟨q,J⟩
 ·exact .of_left (intBits_le_64 q J)
 ·exact .of_right (intBits_le_64 q J)
theorem Ym:XR X (binaryOp .Add) (rI0 λi j=>.int (i+j)):=ZoZ λ_ _ _ _ _ _ _ q=>add_int q
theorem YC:XR X (binaryOp .Sub) (rI0 λi j=>.int (i-j)):=ZoZ λ_ _ _ _ _ _ _ q=>sub_int q
theorem ZS:XR X (binaryOp .Mult) (rI ZlF λi j=>.int (i*j)):=opI λ_ _ _ _ _ _ _ J q=>mul_int q J.ok
theorem Wn:XR X (binaryOp .FloorDiv) (rI Zrb λi j=>.int (i / j)):=opI λi j _ _ _ _ _ J q=>by
 have M:(0:Int)<j:=J.1;have O:j<1073741824:=J.2;exact floordiv_int (by omega) (by rw[Int.fdiv_eq_ediv_of_nonneg i (by omega)];exact q) (.inl (jS (by omega)))
theorem ZV:XR X (binaryOp .Mod) (rI (λ_ j=>0<j) λi j=>.int (i % j)):=opI λi j _ _ _ _ _ J q=>by
 have M:(0:Int)<j:=J;exact mod_int' (by omega) (by rw[Int.fmod_eq_emod_of_nonneg i (by omega)];exact q)
theorem Zm5:XR X (binaryOp .Pow) (rI Zra λi j=>.int (i ^ j.toNat)):=opI λ_ _ _ _ _ _ _ J q=>pow_int_small J.1 J.2.1 J.2.2 q
theorem unI {f:Value->Sem Value}{g:Int->Int}
  (rule:∀(i:Int) (t:Tok) (s:Shared) (Q:TY) (E:TY),Q (.int (g i) s.toks) {s with toks:=s.toks+1}->wpAny (model X.prog X.w) X.A (f (.int i t)) Q E s) :
  UnR X f (rU λi=>.int (g i)):=by
 intro j s M H x v Q I J h;obtain⟨i,rfl,q⟩:=h;obtain⟨t,rfl⟩:=J;exact rule i t s _ _ ⟨.int (g i),H,I.tok _,⟨_,rfl⟩,q⟩
theorem JH:UnR X (unaryOp .USub) (rU λi=>.int (-i)):=unI λ_ _ _ _ _ q=>neg_int q
end
def Zox:V->V->Bool
 | .non,.non=>true | .non,.int _=>true | .int _,.non=>true | .non,.bl _=>true | .bl _,.non=>true | .non,.str _=>true | .str _,.non=>true
 | .int _,.int _=>true | .bl _,.bl _=>true | .str _,.str _=>true | .byt _,.byt _=>true
 | .int _,.str _=>true | .str _,.int _=>true | .bl _,.str _=>true | .str _,.bl _=>true
 |_,_=>false
inductive rEq (x:V) (y:V) (H:Hp) (Q:VK):Prop
 |mk:(Zox x y=true)->(Q (.bl (decide (x=y))) H)->rEq x y H Q
inductive rNe (x:V) (y:V) (H:Hp) (Q:VK):Prop
 |mk:(Zox x y=true)->(Q (.bl (!decide (x=y))) H)->rNe x y H Q
theorem Yu {i j:Int}:decide (V.int i=V.int j)=(i == j):=by
 rw[bT];simp
theorem Zi8 {i j:Bool}:decide (V.bl i=V.bl j)=(i == j):=by
 rw[bT];simp
theorem ZfH {i j:Str}:decide (V.str i=V.str j)=(i == j):=by
 rw[bT];simp
theorem ZfI {i j:Array UInt8}:decide (V.byt i=V.byt j)=(i.toList == j.toList):=by
 rw[bT];cases i;cases j;simp
section
variable {X:Cx}{a b c:Expr}{ta tb tc:TE}{pos:Pos}
theorem Z3 {j:List (Addr×Obj)}{σ:St}{H:Hp}{s:Shared}{Q:VK}{k J:Bool}(I:Inv X j σ H s)(q:Q (.bl k) H)(e:k=J):EP X j σ Q (.bool J) s:=by
 subst e;exact⟨.bl k,H,I,rfl,q⟩
theorem XM:XR X (compareOp .Eq) rEq:=by
 intro m5 s σ H x y v u Q I Y J h;obtain⟨O,q⟩:=h;cases x with
 |non=>
  cases Y;cases y with
  |non=>cases J;exact PySem.EqNone.eq_none_none (Z3 I q (by simp))
  |bl j=>cases J;exact PySem.EqNone.eq_none_bool (Z3 I q (by simp))
  |int j=>obtain⟨M,rfl⟩:=J;exact PySem.EqNone.eq_none_int (Z3 I q (by simp))
  |str j=>obtain⟨M,rfl⟩:=J;exact PySem.EqNone.eq_none_str (Z3 I q (by simp))
  |_=>exact absurd (show false=true from O) aF
 |bl i=>
  cases Y;cases y with
  |non=>cases J;exact PySem.EqNone.eq_bool_none (Z3 I q (by simp))
  |bl j=>cases J;exact eq_bool (Z3 I q Zi8)
  |str j=>obtain⟨M,rfl⟩:=J;exact PySem.EqMixed.eq_bool_str (Z3 I q (by simp))
  |_=>exact absurd (show false=true from O) aF
 |int i=>
  obtain⟨t,rfl⟩:=Y;cases y with
  |non=>cases J;exact PySem.EqNone.eq_int_none (Z3 I q (by simp))
  |int j=>obtain⟨M,rfl⟩:=J;exact eq_int (Z3 I q Yu)
  |str j=>obtain⟨M,rfl⟩:=J;exact PySem.EqMixed.eq_int_str (Z3 I q (by simp))
  |_=>exact absurd (show false=true from O) aF
 |str i=>
  obtain⟨t,rfl⟩:=Y;cases y with
  |non=>cases J;exact PySem.EqNone.eq_str_none (Z3 I q (by simp))
  |bl j=>cases J;exact PySem.EqMixed.eq_str_bool (Z3 I q (by simp))
  |int j=>obtain⟨M,rfl⟩:=J;exact PySem.EqMixed.eq_str_int (Z3 I q (by simp))
  |str j=>obtain⟨M,rfl⟩:=J;exact eq_str (Z3 I q ZfH)
  |_=>exact absurd (show false=true from O) aF
 |byt i=>
  obtain⟨t,rfl⟩:=Y;cases y with
  |byt j=>obtain⟨M,rfl⟩:=J;exact PySem.W.eq_bytes (Z3 I q ZfI)
  |_=>exact absurd (show false=true from O) aF
 |_=>cases y <;> exact absurd (show false=true from O) aF
theorem Jy:XR X (compareOp .NotEq) rNe:=by
 intro m5 s σ H x y v u Q I Y J h;obtain⟨O,q⟩:=h;cases x with
 |non=>
  cases Y;cases y with
  |non=>cases J;exact PySem.EqNone.ne_none_none (Z3 I q (by simp))
  |bl j=>cases J;exact PySem.EqNone.ne_none_bool (Z3 I q (by simp))
  |int j=>obtain⟨M,rfl⟩:=J;exact PySem.EqNone.ne_none_int (Z3 I q (by simp))
  |str j=>obtain⟨M,rfl⟩:=J;exact PySem.EqNone.ne_none_str (Z3 I q (by simp))
  |_=>exact absurd (show false=true from O) aF
 |bl i=>
  cases Y;cases y with
  |non=>cases J;exact PySem.EqNone.ne_bool_none (Z3 I q (by simp))
  |bl j=>cases J;exact ne_bool (Z3 I q (congrArg not Zi8))
  |str j=>obtain⟨M,rfl⟩:=J;exact PySem.EqMixed.ne_bool_str (Z3 I q (by simp))
  |_=>exact absurd (show false=true from O) aF
 |int i=>
  obtain⟨t,rfl⟩:=Y;cases y with
  |non=>cases J;exact PySem.EqNone.ne_int_none (Z3 I q (by simp))
  |int j=>obtain⟨M,rfl⟩:=J;exact ne_int (Z3 I q (congrArg not Yu))
  |str j=>obtain⟨M,rfl⟩:=J;exact PySem.EqMixed.ne_int_str (Z3 I q (by simp))
  |_=>exact absurd (show false=true from O) aF
 |str i=>
  obtain⟨t,rfl⟩:=Y;cases y with
  |non=>cases J;exact PySem.EqNone.ne_str_none (Z3 I q (by simp))
  |bl j=>cases J;exact PySem.EqMixed.ne_str_bool (Z3 I q (by simp))
  |int j=>obtain⟨M,rfl⟩:=J;exact PySem.EqMixed.ne_str_int (Z3 I q (by simp))
  |str j=>obtain⟨M,rfl⟩:=J;exact ne_str (Z3 I q (congrArg not ZfH))
  |_=>exact absurd (show false=true from O) aF
 |byt i=>
  obtain⟨t,rfl⟩:=Y;cases y with
  |byt j=>obtain⟨M,rfl⟩:=J;exact PySem.W.ne_bytes (Z3 I q (congrArg not ZfI))
  |_=>exact absurd (show false=true from O) aF
 |_=>cases y <;> exact absurd (show false=true from O) aF
theorem Zfc:XR X (compareOp .Lt) (rI0 λi j=>.bl (decide (i<j))):=ZkC λ_ _ _ _ _ _ _ q=>lt_int q
theorem ZoX:XR X (compareOp .LtE) (rI0 λi j=>.bl (decide (i<=j))):=ZkC λ_ _ _ _ _ _ _ q=>le_int q
theorem Zid:XR X (compareOp .Gt) (rI0 λi j=>.bl (decide (j<i))):=ZkC λ_ _ _ _ _ _ _ q=>gt_int q
theorem ZoY:XR X (compareOp .GtE) (rI0 λi j=>.bl (decide (j<=i))):=ZkC λ_ _ _ _ _ _ _ q=>ge_int q
theorem ZW (b:Expr){op:CmpOp}(h:op≠.In:=by decide)(j:op≠.NotIn:=by decide):behindInMarks op b=false:=by
 have q:(op == CmpOp.In)=false:=by cases op <;> first|rfl|exact absurd rfl h
 have J:(op == CmpOp.NotIn)=false:=by cases op <;> first|rfl|exact absurd rfl j
 cases b <;> simp[behindInMarks,q,J]
theorem JK {op:CmpOp}{r:R2}(J:XR X (compareOp op) r)(M:PE X a ta)(hb:PE X b tb)(O:behindInMarks op b=false):PE X (.Compare a [op] [b] pos) (tOp r ta tb):=by
 intro j s Y H Q I h;exact wpAny_Compare1 (ZnT M hb I h λv u s2 x y H2 I2 rx ry q=>J j s2 Y H2 x y v u Q I2 rx ry q) O
inductive iTs (Q:Bool->Hp->Prop) (x:V) (H:Hp):Prop
 |mk (c:Bool):x=.bl c->Q c H->iTs Q x H
def Zoo (t:TE):TT:=λj H Q=>t j H (iTs Q)
theorem ZP {op:CmpOp}{r:R2}(J:XR X (compareOp op) r)(M:PE X a ta)(hb:PE X b tb)(O:behindInMarks op b=false):PT X (.Compare a [op] [b] pos) (Zoo (tOp r ta tb)):=by
 intro j s q H Q I h;refine mK (Yw (M j s q H _ I h) λv Y ⟨x,H1,I1,r1,q1⟩=>Yw (hb j Y q H1 _ I1 q1) λu s2 ⟨y,H2,I2,r2,q2⟩=>
  Yw (J j s2 q H2 x y v u _ I2 r1 r2 q2) λc s3 ⟨z,H3,I3,r3,k,e,q3⟩=>?_) O
 subst e;cases r3;exact dU ⟨H3,I3,q3⟩
theorem X1:(sizeLine:Nat)<2 ^ 63:=by rw[fV];decide
theorem vals1 {x:V}{us:List Value}(r:ZO [x] us):∃u,us=[u]/\RelV x u:=by
 cases r with
 |cons r1 j=>cases j;exact⟨_,rfl,r1⟩
theorem ZaY:YV X (.type "int") (λxs H Q=>(∃i,xs=[.int i]/\Q (.int i) H)\/∃k,xs=[.bl k]/\Q (.int (if k then 1 else 0)) H):=by
 intro j s J H xs M Q I r h;rcases h with ⟨i,rfl,q⟩|⟨k,rfl,q⟩
 ·obtain⟨u,rfl,t,rfl⟩:=vals1 r
  exact call_int_int ⟨.int i,H,I,⟨_,rfl⟩,q⟩
 ·obtain⟨u,rfl,r1⟩:=vals1 r
  cases r1;exact call_int_bool ⟨.int (if k then 1 else 0),H,I.tok _,⟨_,rfl⟩,q⟩
end
section
variable {prog:Program}{w:World}{A:Around}{E:TY}{s:Shared}{K:aa}{x dx C f:Addr}{mA:TX}{name:Str}{v:Value}
end
theorem Zas.some_of {v:V}{o:Option Value}(r:Zas (some v) o):∃u,o=some u/\RelV v u:=by
 cases o with
 |none=>exact (show False from r).elim
 |some u=>exact⟨u,rfl,r⟩
section
variable {P:Program}{w:World}{H H':Hp}{h h':Heap}{a C dx:Addr}{fs fs':List (Str×V)}
end
section
variable {X:Cx}{pins:List (Addr×Obj)}{σ:St}{H:Hp}{s:Shared}{a C dx:Addr}{fs:List (Str×V)}{f:Str}{v:V}{A:Around}{E:TY}
end
section
variable {X:Cx}{o e value:Expr}{f:Str}{pos pos' tpos:Pos}{ta tv:TE}
end
section
variable {X:Cx}{pins:List (Addr×Obj)}{σ:St}{H:Hp}{s:Shared}{A:Around}{E:TY}{Q:TY}{c:Value}{b:Bool}
end
structure JY (k:Nat)(A:Around):Prop where
 hd:A.handled=none
 dp:A.depth+3*k+5<recursionLimit
 un:A.units+16*k+200<cLine
 gd:A.guards=some []
theorem JY.mono {j k:Nat}{A:Around}(r:JY k A)(h:j<=k):JY j A:=⟨r.hd,by have:=r.dp;omega,by have:=r.un;omega,r.gd⟩
theorem JY.deeper {k:Nat}{A:Around}(r:JY (k+1) A)(env:Env):JY k (A.deeper env):=
 ⟨r.hd,by have:=r.dp;show A.depth+1+3*k+5<_;omega,by have:=r.un;show A.units+3+16*k+200<_;omega,r.gd⟩
theorem JY.depth {k:Nat}{A:Around}(r:JY k A):A.depth<recursionLimit:=by have:=r.dp;omega
theorem JY.units {k:Nat}{A:Around}(r:JY k A):A.units+64<cLine:=by have:=r.un;omega
def Zha:TA:=λ_ H Q=>Q [] H
def Ul (q:TE)(J:TA):TA:=λj H Q=>q j H λx M=>J j M λO Y=>Q (x::O) Y
section
variable {X:Cx}{e:Expr}{es:List Expr}{te:TE}{t:TA}{pos:Pos}
theorem Zt:PA X [] Zha:=λ_ _ _ _ H Q I h=>Calls.spliced_nil ⟨[],H,I,.nil,h⟩
theorem Zkx (J:PE X e te)(M:PA X es t)(O:starEach (e::es) X.env=(false,eval e X.env)::starEach es X.env:=by rfl):PA X (e::es) (Ul te t):=by
 intro pos j s q H Q I h;rw[O];show wpAny _ _ (spliced ((false,eval e X.env)::backTo pos (starEach es X.env))) _ _ s;refine Calls.spliced_cons (Yw (J j s q H _ I h) λu Y ⟨x,H1,I1,r1,q1⟩=>?_);exact Yw (M pos j Y q H1 _ I1 q1) λus s2 ⟨xs,H2,I2,r2,q2⟩=>⟨x::xs,H2,I2,.cons r1 r2,q2⟩
inductive iTu (Q:VK) (xs:TV) (H:Hp):Prop
 |mk:xs.length<=sizeLine->(∀p,H p=none->Q (.ref p) (upd H p (.tup xs)))->iTu Q xs H
def Zqi (t:TA):TE:=λj H Q=>t j H (iTu Q)
inductive iLs (Q:VK) (xs:TV) (H:Hp):Prop
 |mk:xs.length<=sizeLine->(∀p,H p=none->Q (.ref p) (upd H p (.lst xs)))->iLs Q xs H
def ZmA (t:TA):TE:=λj H Q=>t j H (iLs Q)
theorem XW {Y}(h:PA X es t):PE X (.Tuple es Y pos) (Zqi t):=by
 intro j s σ H Q I hq;refine wpAny_Tuple_spliced (Yw (h pos j s σ H _ I hq) λus J ⟨xs,M,O,r,z,q⟩=>⟨by rw[<-r.length];exact z,?_⟩);have hf:M J.heap.objs.size=none:=O.hok.fresh (Zq _);refine⟨.ref J.heap.objs.size,upd M J.heap.objs.size (.tup xs),O.laid (t':=J.toks) (λb u e=>Zn _ e) (Zq _) ?_,rfl,q _ hf⟩;exact⟨z,us,r,⟨_,Zo _ rfl,rfl,_,rfl⟩⟩
theorem ZR (h:PA X es t):PE X (.List es pos) (ZmA t):=by
 intro j s Y H Q I hq;refine wpAny_List_spliced (Yw (h pos j s Y H _ I hq) λus J ⟨xs,M,O,r,z,q⟩=>⟨by rw[<-r.length];exact z,?_⟩);have hf:M J.heap.objs.size=none:=O.hok.fresh (Zq _);refine⟨.ref J.heap.objs.size,upd M J.heap.objs.size (.lst xs),O.laid (t':=J.toks) (λb u e=>Zn _ e) (Zq _) ?_,rfl,q _ hf⟩;exact⟨z,us,0,r,Zo _ rfl⟩
end
noncomputable abbrev Sp:=TV->Hp->VK->XK->Prop
noncomputable abbrev CXT:=List Env->Hp->Shared->XK->Value->Shared->Prop
structure ZlD (P:Program)(w:World)(K:aa)(mg:TX)(base:Heap)(A:Around)(outer:List Env)(s:Shared)(H:Hp):Prop where
 frames:A.frames=some outer
 mod:Mod K mg base
 bs:∀b o,base.get? b=some o->s.heap.get? b=some o/\H b=none
 bsz:base.objs.size<=s.heap.objs.size
 funs:s.heap.FunFrames base outer
 frf:∀b∈frs outer,H b=none
 hok:VA P w H s.heap
 bare:iA s.gens
def CE (outer:List Env)(P:Program)(w:World)(H:Hp)(s:Shared)(Q:VK)(u:Value)(s':Shared):Prop:=
 ∃v j,s'.os=s.os/\iA s'.gens/\Un (frs outer) [] H j s.heap s'.heap/\VA P w j s'.heap/\RelV v u/\Q v j
def CR (CX:CXT)(outer:List Env)(P:Program)(w:World)(H:Hp)(s:Shared)(Q:VK)(E:XK)(r:Result)(s':Shared):Prop:=
 match r with
 | .ok (.ret u)=>CE outer P w H s Q u s'
 | .ok _=>False
 | .error e=>CX outer H s E e s'
structure Z8 (P:Program)(w:World)(K:aa)(mg:TX)(base:Heap)(CX:CXT)(k:Nat)(f:Addr)(fd:FuncData)(ps:List Str)(sp:Sp):Prop where
 len:∀vs H Q E,sp vs H Q E->vs.length=ps.length
 run:∀(A:Around) (outer:List Env) (s:Shared) (H:Hp) (args:Args) (us:List Value) (vs:TV) (Q:VK) (E:XK),JY k A->ZlD P w K mg base A outer s H->i0 s fd args (ps.zip us)->ZO vs us->sp vs H Q E->
  codeAny (model P w) A (.call (.ref f) args) (CR CX outer P w H s Q E) s
section
variable {X:Cx}{pins:List (Addr×Obj)}{σ:St}{H:Hp}{s s':Shared}
theorem Inv.env0 (I:Inv X pins σ H s):ZlD X.prog X.w X.K X.mg X.base X.A X.stack s H:=
 ⟨I.ok.frames,I.ok.mod,I.bs,a8 I.ok.bsz I.sz,I.stack,I.stkFree,I.hok,I.bare⟩
theorem Inv.after {Q:VK}{u:Value}(I:Inv X pins σ H s)(h:CE X.stack X.prog X.w H s Q u s'):EP X pins σ Q u s':=by
 obtain⟨v,J,os,bare,un,hok,r,q⟩:=h;obtain⟨M,g,d,t,j⟩:=s';obtain rfl:j=s.os:=os;exact⟨v,J,I.call (h':=M) (g':=g) (d':=d) (t':=t) (ch:=[]) un hok bare (λb z=>absurd z (by simp)),r,q⟩
end
def ZlL (sp:Sp)(j:TV)(E:XK)(t:TA):TE:=λq H Q=>t q H λJ M=>sp (J++j) M Q E
def Binds (K:aa)(fd:FuncData)(q:List Str)(J:List Value):Prop:=
 ∀(s:Shared) (j:List Value),K.In s.heap->(j++J).length=q.length->i0 s fd ⟨j,[]⟩ (q.zip (j++J))
theorem Binds.all {K:aa}{fd:FuncData}{j:List Str}(h:∀us:List Value,us.length=j.length->bindArgs fd ⟨us,[]⟩=pure (j.zip us)):Binds K fd j []:=λs us _ q=>by
 rw[eX] at q ⊢;exact .of_eq (h us q)
def Zcj (CX:CXT)(X:Cx)(E:XK):Prop:=∀(j:List (Addr×Obj)) (J:St) (H:Hp) (s:Shared) (e:Value) (q:Shared),Inv X j J H s->CX X.stack H s E e q->X.xe e q
section
variable {X:Cx}{CX:CXT}{k:Nat}{f C:Addr}{fd:FuncData}{ps:List Str}{sp:Sp}{dvs:TV}{ds:List Value}{E:XK}{x m:Str}{p pos apos:Pos}{e o:Expr}{es:List Expr}{ta:TE}{t:TA}
theorem ZmJ {j:List (Addr×Obj)}{σ:St}{H:Hp}{s:Shared}{Q:VK}{us:List Value}{vs:TV}(F:Z8 X.prog X.w X.K X.mg X.base CX k f fd ps sp)(M:JY k X.A)(hb:Binds X.K fd ps ds)(O:ZO dvs ds)(Y:Zcj CX X E)
  (I:Inv X j σ H s) (r:ZO vs us) (h:sp (vs++dvs) H Q E):wpAny (model X.prog X.w) X.A (call (.ref f) us) (EP X j σ Q) X.xe s:=by
 have J:ZO (vs++dvs) (us++ds):=r.append O;have hl:(us++ds).length=ps.length:=by rw[<-J.length];exact F.len _ _ _ _ h
 refine wpAny_call (fz (F.run X.A X.stack s H ⟨us,[]⟩ (us++ds) (vs++dvs) Q E M I.env0 (hb s us I.kIn hl) J h) λr s' q=>?_);cases r with
 |error e=>exact Y j σ H s e s' I q
 |ok fl=>
  cases fl with
  |ret u=>exact I.after q
  |next=>exact dN q
  |brk=>exact dN q
  |cont=>exact dN q
theorem Zkt (F:Z8 X.prog X.w X.K X.mg X.base CX k f fd ps sp)(hr:JY k X.A)(hg:Gl X x)(hm:X.mg x=some (.ref f))(hk:dG X.K (.ref f)=true)(hb:Binds X.K fd ps ds)(hd:ZO dvs ds)(hx:Zcj CX X E)
  (ha:PA X (e::es) t) (J:(x == ("__debug__":Str))=false:=by decide) (he:starEach (e::es) X.env=(false,eval e X.env)::starEach es X.env:=by rfl) (M:(backTo pos (starEach es X.env)).any (·.1)=false:=by rfl) :
  PE X (.Call (.Name x p) (e::es) [] pos) (ZlL sp dvs E t):=by
 intro j s σ H Q I h;refine jp (Zk4 I hg hm ?_ J);refine PySem.W.callWith_K (h₀:=X.base) I.ok.mod.kin hk (Yw (ha pos j s σ H _ I h) λus s1 ⟨vs,H1,Y,r,q⟩=>⟨Y.kIn,?_⟩) he M;exact ZmJ F hr hb hd hx Y r q
end
section
variable {X:Cx}{CX:CXT}{k:Nat}{f C:Addr}{fd:FuncData}{ps ks:List Str}{sp:Sp}{E:XK}{x m:Str}{p pos apos kpos:Pos}{e o:Expr}{es:List Expr}{kws:List Keyword}{te ta:TE}{t tk:TA}{nm:Option Str}
variable {g:List Value->List Value->List Value}{gV:TV->TV->TV}
end
structure Ui (N P:List Str)(sc:cL):Prop where
 kind:sc.kind=.function
 co:sc.isCoroutine=false
 gen:sc.isGenerator=false
 nd:N.Nodup
 pre:N.take P.length=P
 par:∀x∈P,sc.names.lookup x=some .local\/sc.names.lookup x=some .cell
 nofree:∀y∈sc.names,y.2≠.free
theorem FS {N P:List Str}{j:cL}(a:j.kind=.function:=by rfl)(b:j.isCoroutine=false:=by rfl)(c:j.isGenerator=false:=by rfl)(d:N.Nodup:=by decide +kernel)(e:N.take P.length=P:=by rfl)(f:∀x∈P,j.names.lookup x=some .local\/j.names.lookup x=some .cell:=by decide +kernel)(g:∀y∈j.names,y.2≠.free:=by decide +kernel):Ui N P j:=⟨a,b,c,d,e,f,g⟩
theorem bd1 {α:Type}{f g:List Value->α}(h:∀a,f [a]=g [a])(j:List Value)(l:j.length=1):f j=g j:=by
  cases j with
  |nil=>cases l
  |cons a r=>cases r with
    |nil=>exact h a
    |cons b r=>simp at l
theorem bd2 {α:Type}{f g:List Value->α}(h:∀a b,f [a,b]=g [a,b])(j:List Value)(l:j.length=2):f j=g j:=by
  cases j with
  |nil=>cases l
  |cons a r=>exact bd1 (f:=λr=>f (a::r)) (g:=λr=>g (a::r)) (h a) r (cv l)
theorem bd3 {α:Type}{f g:List Value->α}(h:∀a b c,f [a,b,c]=g [a,b,c])(j:List Value)(l:j.length=3):f j=g j:=by
  cases j with
  |nil=>cases l
  |cons a r=>exact bd2 (f:=λr=>f (a::r)) (g:=λr=>g (a::r)) (h a) r (cv l)
theorem bd4 {α:Type}{f g:List Value->α}(h:∀a b c d,f [a,b,c,d]=g [a,b,c,d])(j:List Value)(l:j.length=4):f j=g j:=by
  cases j with
  |nil=>cases l
  |cons a r=>exact bd3 (f:=λr=>f (a::r)) (g:=λr=>g (a::r)) (h a) r (cv l)
theorem bd5 {α:Type}{f g:List Value->α}(h:∀a b c d e,f [a,b,c,d,e]=g [a,b,c,d,e])(j:List Value)(l:j.length=5):f j=g j:=by
  cases j with
  |nil=>cases l
  |cons a r=>exact bd4 (f:=λr=>f (a::r)) (g:=λr=>g (a::r)) (h a) r (cv l)
theorem ZaZ {kindOf:Str->Option eP}{x:Str}:∀{binds:List (Str×Value)}{m:TX},(∀v,(x,v)∉binds)->bindL kindOf binds m x=m x
 | [],_,_=>rfl
 |(n,v)::r,m,h=>by
  unfold bindL;rw[ZaZ λw j=>h w (ao _ j)];split
  ·have:x≠n:=by rintro rfl;exact h v ar
   simp[this]
  ·rfl
theorem Za1 {kindOf:Str->Option eP}{x:Str}:∀{binds:List (Str×Value)}{m:TX},(∀v,(x,v)∉binds)->bindC kindOf binds m x=m x
 | [],_,_=>rfl
 |(n,v)::r,m,h=>by
  unfold bindC;rw[Za1 λw j=>h w (ao _ j)];split
  ·rfl
  ·have:x≠n:=by rintro rfl;exact h v ar
   simp[this]
theorem Za0 {kindOf:Str->Option eP}{x:Str}{v:Value}:∀{P:List Str}{vs:List Value}{i:Nat}{m:TX},P.Nodup->P[i]?=some x->vs[i]?=some v->kindOf x=some .local->
  bindL kindOf (P.zip vs) m x=some v
 | [],_,_,_,_,h,_,_=>by simp at h
 |_::_,[],_,_,_,_,h,_=>by simp at h
 |p::P,w::vs,0,m,nd,j,q,J=>by
  simp at j q;subst j;subst q;show bindL kindOf ((p,w)::P.zip vs) m p=_;unfold bindL;rw[ZaZ λv M=>(bN.mp nd).1 (jA M).1,if_pos J];simp
 |p::P,w::vs,i+1,m,nd,j,q,J=>by
  show bindL kindOf ((p,w)::P.zip vs) m x=_;unfold bindL;exact Za0 (i:=i) (bN.mp nd).2 (by simpa using j) (by simpa using q) J
theorem Za2 {kindOf:Str->Option eP}{x:Str}{v:Value}:∀{P:List Str}{vs:List Value}{i:Nat}{m:TX},P.Nodup->P[i]?=some x->vs[i]?=some v->kindOf x≠some .local->
  bindC kindOf (P.zip vs) m x=some v
 | [],_,_,_,_,h,_,_=>by simp at h
 |_::_,[],_,_,_,_,h,_=>by simp at h
 |p::P,w::vs,0,m,nd,j,q,J=>by
  simp at j q;subst j;subst q;show bindC kindOf ((p,w)::P.zip vs) m p=_;unfold bindC;rw[Za1 λv M=>(bN.mp nd).1 (jA M).1,if_neg J];simp
 |p::P,w::vs,i+1,m,nd,j,q,J=>by
  show bindC kindOf ((p,w)::P.zip vs) m x=_;unfold bindC;exact Za2 (i:=i) (bN.mp nd).2 (by simpa using j) (by simpa using q) J
def start (N:List Str)(vs:TV):St:=vs.map some++ah (N.length-vs.length) none
def Zdm (CX:CXT)(P:Program)(w:World)(K:aa)(mg:TX)(base:Heap)(N:List Str)(j:Str)(scope:cL)(f:Addr)(J:Value)(A:Around)(outer:List Env)(s:Shared)(H:Hp)(E:XK):Cx where
 prog:=P
 w:=w
 K:=K
 mg:=mg
 base:=base
 A:=A.deeper (envOfC j scope s.heap.objs.size f J)
 N:=N
 s₀:=s
 H₀:=H
 env:=envOfC j scope s.heap.objs.size f J
 outer:=outer
 stack:=envOfC j scope s.heap.objs.size f J::outer
 ex:=[]
 calm:=true
 fn:=λ_=>true
 pn:=[]
 xe:=λe M=>wpAny (model P w) (A.deeper (envOfC j scope s.heap.objs.size f J)) (leaving (envOfC j scope s.heap.objs.size f J) e) (λ_ q=>CX outer H s E e q) (λO q=>CX outer H s E O q) M
theorem Zdt {j:cL}{n:Nat}{x:Str}(h:j.names.lookup x=some .cell):∃c,(cellsFrom n j.names []).lookup x=some c:=by
 have q:=gK j.names n [] (.inl h);exact gf.mp q
theorem Zgv {CX:CXT}{P:Program}{w:World}{K:aa}{mg:TX}{base:Heap}{N M:List Str}{qual:Str}{scope:cL}{f:Addr}{cd:Value}{A:Around}{outer:List Env}{s s1:Shared}{H:Hp}{E:XK}{us:List Value}{vs:TV}
  (S:Ui N M scope) (hd:A.handled=none) (J:ZlD P w K mg base A outer s H) (hl:vs.length=M.length) (r:ZO vs us)
  (x:InCallC s s.heap.objs.size (bindL (envOfC qual scope s.heap.objs.size f cd).kindOf (M.zip us) λ_=>none) (cellsFrom (s.heap.objs.size+1) scope.names []) (bindC (envOfC qual scope s.heap.objs.size f cd).kindOf (M.zip us) λ_=>none) s1) :
  Inv (Zdm CX P w K mg base N qual scope f cd A outer s H E) [] (start N vs) H s1:=by
 have m6:M.length<=N.length:=by have:=congrArg cN S.pre;rw[bI] at this;omega
 obtain⟨h1,tk,rfl,hk⟩:=x.done;have O:∀b:Addr,b∉(Zdm CX P w K mg base N qual scope f cd A outer s H E).ex:=λb z=>absurd (show b∈([]:TW) from z) (by simp);refine⟨⟨J.mod,S.kind,rfl,rfl,Zq _,λy z c h1 j=>?_,λy Y=>?_,λy c _ h=>?_,λ_=>hd,Around.frames_deeper J.frames,.inr ⟨rfl,rfl⟩,λb z=>absurd z (O b),J.bs,J.bsz,λb _ _=>O b,λb z=>absurd z (O b),J.funs,J.frf⟩,
  rfl,J.bare,Un.kept hk,⟨_,x.toInCall.ns,λi y v h1 j h3=>?_⟩,λy c h=>⟨_,x.cell y c h⟩,J.hok.fresh (Zq _),λy c h=>?_,λp hp=>absurd (show p∈([]:List (Addr×Obj)) from hp) (by simp),J.hok.kept hk,?_⟩
 ·exact name_of_addr x.apart (bv h1) (bv j)
 ·have Y:scope.names.lookup y=some .cell\/scope.names.lookup y=some .free:=Y
  rcases Y with Y|Y
  ·exact Zdt Y
  ·exact absurd rfl (S.nofree _ (bv Y))
 ·exact cO (x.above y c (bv h))
 ·have hi:i<vs.length:=by
   unfold start at j;by_cases hi:i<vs.length
   ·exact hi
   ·rw[au (by simpa using hi)] at j
    rw[bz] at j;split at j <;> cases j
  have ha:vs[i]?=some v:=by
   unfold start at j;rw[aq (by simpa using hi),Zc] at j;cases e:vs[i]? with
   |none=>rw[e] at j;cases j
   |some a=>rw[e] at j;cases j;rfl
  obtain⟨u,hu,rv⟩:=r.get ha;have hp:M[i]?=some y:=by
   rw[<-S.pre,List.getElem?_take_of_lt (by omega)];exact h1
  have m5:M.Nodup:=by rw[<-S.pre];exact S.nd.sublist (i6 _ _)
  refine⟨u,rv,?_⟩;rcases S.par y (aB hp) with k|k
  ·exact .inl ⟨k,Za0 m5 hp hu k⟩
  ·obtain⟨c,e⟩:=Zdt (n:=s.heap.objs.size+1) k
   refine .inr ⟨.inl k,c,e,?_⟩;have q:=x.cell y c e;rw[Za2 m5 hp hu (by show scope.names.lookup y≠_;rw[k];decide)] at q;exact q
 ·exact J.hok.fresh (cO (x.above y c (bv h)))
 ·unfold start
  show _=N.length;rw[Zd,Za,Ze];omega
theorem Zpe {CX:CXT}{P:Program}{w:World}{K:aa}{mg:TX}{base:Heap}{k:Nat}{f:Addr}{name j:Str}{params:Arguments}{body:List Stmt}{scope:cL}{dV kV m8 pm M ct oc:Value}{an od:Option Addr}
  {n9:Array (Option Value)}{N ps:List Str}{sp:Sp} (lk:K.lookup f=some ⟨oc,od,.func (b8 name j params body scope dV kV m8 pm an M ct),n9⟩) (o0:eZ K M j=true) (S:Ui N ps scope)
  (len:∀vs H Q E,sp vs H Q E->vs.length=ps.length)
  (m5:∀(A:Around) (outer:List Env) (s:Shared) (H:Hp) (vs:TV) (Q:VK) (E:XK),JY k (A.deeper (envOfC j scope s.heap.objs.size f M))->sp vs H Q E->
   ∃t,PSs (Zdm CX P w K mg base N j scope f M A outer s H E) body t/\t {nx:=λ_ Y=>Q .non Y,rt:=Q} (start N vs) H) :
  Z8 P w K mg base CX (k+1) f (b8 name j params body scope dV kV m8 pm an M ct) ps sp:=by
 refine⟨len,λA outer s H args us vs Q E hr e0 hb r n6=>?_⟩;have hl:=len _ _ _ _ n6;have KX:K.In s.heap:=e0.mod.kin.keeps λb o e=>(e0.bs b o e).1;have o7:s.heap.NoLimit:=e0.mod.nolimit.keeps λb o e=>(e0.bs b o e).1;have m6:∀y∈ps.zip us,scope.names.lookup y.1=some .local\/(scope.names.lookup y.1=some .cell/\((cellsFrom (s.heap.objs.size+1) scope.names []).lookup y.1).isSome=true):=λ⟨n,v⟩ hy=>by
  rcases S.par n (jA hy).1 with q|q
  ·exact .inl q
  ·exact .inr ⟨q,gK _ _ _ (.inl q)⟩
 refine codeAny_call_function hr.depth (KX _ _ lk) rfl S.co S.gen rfl (PySem.W.codeRec_of KX o0) (hb _ _ _ _ ?_);refine wpAny_newFunctionEnv_cells S.kind m6 λenv he s1 x=>?_;subst he;refine⟨o7.keeps x.toInCall.keep,codeAny_func ?_⟩;obtain⟨t,ht,hq⟩:=m5 A outer s H vs Q E (hr.deeper _) n6;have I:Inv (Zdm CX P w K mg base N j scope f M A outer s H E) [] (start N vs) H s1:=Zgv S hr.hd e0 hl r x;refine cr (ht [] s1 (start N vs) H _ I hq) (λfl s' hs=>?_) λe s' hs=>hs;have n8:∀{O:St}{Y:Hp}{v:V}{u:Value},Inv (Zdm CX P w K mg base N j scope f M A outer s H E) [] O Y s'->RelV v u->Q v Y->CE outer P w H s Q u s':=
  λ{O Y v u} J rv q=>⟨v,Y,J.os,J.bare,J.base,J.hok,rv,q⟩
 cases fl with
 |ret u=>
  obtain⟨v,O,Y,J,rv,q⟩:=hs;exact n8 J rv q
 |next=>
  obtain⟨O,Y,J,q⟩:=hs;exact n8 (v:=V.non) (u:=be) J rfl q
 |brk=>
  obtain⟨_,_,_,q⟩:=hs;exact dN q
 |cont=>
  obtain⟨_,_,_,q⟩:=hs;exact dN q
section
variable {X:Cx}{x:Str}{p pos:Pos}{e:Expr}{es:List Expr}{t:TA}{id T:String}{r:TV->Hp->VK->Prop}
def tCB (r:TV->Hp->VK->Prop)(t:TA):TE:=λj H Q=>t j H λq J=>r q J Q
theorem Zia (O:YV X (.builtin id) r)(Y:Gl X x)(hm:X.mg x=none)(hv:bootBuiltins x=some (.builtin id))(ha:PA X (e::es) t)(hn:x ≠ "__name__":=by decide)(q:(x == ("__debug__":Str))=false:=by decide)
  (he:starEach (e::es) X.env=(false,eval e X.env)::starEach es X.env:=by rfl) (J:(backTo pos (starEach es X.env)).any (·.1)=false:=by rfl):PE X (.Call (.Name x p) (e::es) [] pos) (tCB r t):=by
 intro j s M H Q I h;refine jp (JN I Y hm hv ?_ hn q);exact PyProof.Rows.callWith_builtin1 (Yw (ha pos j s M H _ I h) λus s1 ⟨vs,H1,I1,r1,q1⟩=>O j s1 M H1 vs us Q I1 r1 q1) he J
theorem Zf9 (O:YV X (.type T) r)(Y:Gl X x)(hm:X.mg x=none)(hv:bootBuiltins x=some (.type T))(ha:PA X (e::es) t)(hn:x ≠ "__name__":=by decide)(q:(x == ("__debug__":Str))=false:=by decide)
  (he:starEach (e::es) X.env=(false,eval e X.env)::starEach es X.env:=by rfl) (J:(backTo pos (starEach es X.env)).any (·.1)=false:=by rfl):PE X (.Call (.Name x p) (e::es) [] pos) (tCB r t):=by
 intro j s M H Q I h;refine jp (JN I Y hm hv ?_ hn q);exact bm (Yw (ha pos j s M H _ I h) λus s1 ⟨vs,H1,I1,r1,q1⟩=>O j s1 M H1 vs us Q I1 r1 q1) he J
end
end L2
namespace HT
open PySem PyProof.Rows
section
open PySem.SeqAt
open PySem.AutoSeq1 (wpAny_loadPart')
open PySem.MeetsSeq PySem.MeetsSeq2 PySem.MeetsSeq3
end
section
variable {prog:Program}{w:World}{A:Around}{E:TY}{s:Shared}
theorem Zlt {t b:Addr}{vs j:List Value}{Q:TY}(ht:IsTup s.heap t vs.toArray)(hb:IsTup s.heap b j.toArray)(hv:vs≠[])
  (h1:j=[]->Q (.ref t) s) (h2:j≠[]->Q (.ref s.heap.objs.size) {s with heap:=s.heap.push {cls:=.type "tuple",data:=.seq (vs++j).toArray}})
  (hsz:vs.length+j.length<=sizeLine):wpAny (model prog w) A (binaryOp .Add (.ref t) (.ref b)) Q E s:=by
 obtain⟨⟨cls,dd,data,sl⟩,ho,hc,n,hd⟩:=id ht;obtain⟨⟨m5,J,data2,M⟩,q,O,n2,Y⟩:=id hb;simp only at hc hd O Y;subst hc hd O Y;have e:vs.toArray++j.toArray=(vs++j).toArray:=by simp
 by_cases hw:j=[]
 ·exact mq ⟨_,ho,rfl⟩ ⟨_,q,rfl⟩ jQ lE gN gu (f8 _ _)
   (tuple_addW1 t b vs.toArray j.toArray n n2 dd J sl M (by simpa using hv) (by simp[hw])) ⟨ho,q,h1 hw⟩
 ·refine mq ⟨_,ho,rfl⟩ ⟨_,q,rfl⟩ jQ lE gN gu (f8 _ _)
   (tuple_addW2 t b vs.toArray j.toArray n n2 dd J sl M (by simpa using hv) (by simpa using hw) (by rw[Zh,Zh];exact hsz)) ⟨ho,q,?_⟩
  rw[e];exact h2 hw
def sIx (n d:Nat):Option Int->Nat
 |none=>d
 |some v=>if v<0 then (v+(n:Int)).toNat else min v.toNat n
theorem ZeS (n d k:Nat):sIx n d (some (k:Int))=min k n:=by
 show (if (k:Int)<0 then ((k:Int)+(n:Int)).toNat else min (k:Int).toNat n)=min k n
 rw[if_neg (by omega),Zj]
end
end HT
namespace L2
open PySem PySem.Spec PyProof.Rows
noncomputable abbrev TO:=St->Hp->(Option Int->Hp->Prop)->Prop
def PO (X:Cx)(e:Option Expr)(t:TO):Prop:=
 ∀(j:List (Addr×Obj)) (s:Shared) (q:St) (H:Hp) (Q:Option Int->Hp->Prop),Inv X j q H s->t q H Q->
  wpAny (model X.prog X.w) X.A (evalPart e X.env) (λu M=>∃o J,Inv X j q J M/\IsPart u o/\Q o J) X.xe s
def ZjX:TO:=λ_ H Q=>Q none H
inductive iPt (Q:Option Int->Hp->Prop) (x:V) (H:Hp):Prop
 |mk (i:Int):x=.int i->Q (some i) H->iPt Q x H
def Zop (t:TE):TO:=λj H Q=>t j H (iPt Q)
theorem intsAre_of {ns:TZ}:∀{us:List Value},ZO (ns.map V.int) us->aZ us ns:=by
 induction ns with
 |nil=>intro us r;rw[fU] at r;cases r;exact .nil
 |cons n ns j=>
  intro us r;rw[aN] at r;cases r with
  |cons q J=>
   obtain⟨t,e⟩:=q;subst e;exact .cons n t (j J)
section
variable {X:Cx}{e:Expr}{te:TE}{lo hi:Option Expr}{tl th:TO}{pos p2:Pos}
theorem Ze9:PO X none ZjX:=by
 intro j s q H Q I h;rw[evalPart_none];exact Zm ⟨none,H,I,.none,h⟩
theorem Ze8 (h:PE X e te):PO X (some e) (Zop te):=by
 intro j s J H Q I M;rw[evalPart_some];refine Yw (h j s J H _ I M) λu s1 ⟨x,O,Y,r1,q1⟩=>?_;obtain⟨i,rfl,q⟩:=q1;obtain⟨t,rfl⟩:=r1;exact⟨some i,O,Y,.int i t,q⟩
def SlR (X:Cx)(r:V->Option Int->Option Int->Hp->VK->Prop):Prop:=
 ∀(j:List (Addr×Obj)) (s:Shared) (q:St) (H:Hp) (x:V) (v J M:Value) (lo hi:Option Int) (O:Addr) (Q:VK),Inv X j q H s->RelV x v->s.heap.IsSliceOf O J M .none->IsPart J lo->IsPart M hi->r x lo hi H Q->
  ∃T id,typeLookup (.type T) "__getitem__"=pure (some (.builtin id))/\s.TypeIs v T/\wpAny (model X.prog X.w) X.A (getItem v (.ref O)) (EP X j q Q) X.xe s
def tSl (r:V->Option Int->Option Int->Hp->VK->Prop)(te:TE)(tl th:TO):TE:=λj H Q=>te j H λx q=>tl j q λl J=>th j J λu M=>r x l u M Q
theorem ZcU {r:V->Option Int->Option Int->Hp->VK->Prop}(hr:SlR X r)(he:PE X e te)(hl:PO X lo tl)(hu:PO X hi th):PE X (.Subscript e (.Slice lo hi none p2) pos) (tSl r te tl th):=by
 intro j s M H Q I h;refine Subscript_ (Yw (he j s M H _ I h) λv s1 ⟨x,H1,I1,r1,q1⟩=>?_);refine wpAny_Slice (Yw (hl j s1 M H1 _ I1 q1) λO s2 ⟨l,H2,I2,pl,q2⟩=>Yw (hu j s2 M H2 _ I2 q2) λY J ⟨u,H3,I3,pu,q3⟩=>?_);rw[evalPart_none];refine Zm ?_;have I4:Inv X j M H3 {J with heap:=J.heap.push {cls:=.type "slice",data:=.fields #[O,Y,.none]}}:=I3.kept (t':=J.toks) λb ob q=>Zn _ q;obtain⟨T,id,hT,ht,hg⟩:=hr j {J with heap:=J.heap.push {cls:=.type "slice",data:=.fields #[O,Y,.none]}} M H3 x v O Y l u J.heap.objs.size Q I4 r1 (Heap.IsSliceOf.new ..) pl pu q3;show wpAny (model X.prog X.w) X.A (subscriptTail e (.Slice lo hi none p2) v (.ref J.heap.objs.size)) (EP X j M Q) X.xe {J with heap:=J.heap.push {cls:=.type "slice",data:=.fields #[O,Y,.none]}};exact tail_any (ops:=[.ref J.heap.objs.size,v]) ht hT hg (by with_unfolding_all rfl)
def Zdo (xs:TV)(lo hi:Option Int):TV:=(xs.drop (HT.sIx xs.length 0 lo)).take (HT.sIx xs.length xs.length hi-HT.sIx xs.length 0 lo)
theorem Zdn (xs:TV)(lo hi:Option Int):(Zdo xs lo hi).length<=xs.length:=by
 unfold Zdo;rw[bI,bJ];omega
inductive Zl1 (K:aa) (x:V) (y:V) (H:Hp) (Q:VK):Prop
 |mk (a:_) (b:_) (xs:_) (ys:_):(x=.ref a)->(y=.ref b)->(Xp K H a xs)->(Xp K H b ys)->(xs≠[])->(xs.length+ys.length<=sizeLine)->((ys=[]->Q (.ref a) H))->((ys≠[]->∀p,H p=none->Q (.ref p) (upd H p (.tup (xs++ys)))))->Zl1 K x y H Q
theorem ZO.nil_iff {xs:TV}{us:List Value}(r:ZO xs us):us=[]↔xs=[]:=by
 cases r with
 |nil=>simp
 |cons _ _=>simp
theorem ZkB:XR X (binaryOp .Add) (Zl1 X.K):=by
 intro J s σ H x y v u Q I Y ry h;obtain⟨a,b,xs,ys,rfl,rfl,ha,hb,hx,M,q1,q2⟩:=h;cases Y;cases ry;obtain⟨m5,r1,p1,_⟩:=I.tuple ha;obtain⟨O,j,p2,_⟩:=I.tuple hb;refine HT.Zlt p1 p2 (λz=>hx (r1.nil_iff.mp z)) (λz=>⟨.ref a,H,I,rfl,q1 (j.nil_iff.mp z)⟩) (λz=>?_) (by rw[<-r1.length,<-j.length];exact M);refine⟨.ref s.heap.objs.size,_,I.laid (t':=s.toks) (o:=.tup (xs++ys)) (λb ob q=>Zn _ q) (Zq _) ?_,rfl,q2 (λw=>z (j.nil_iff.mpr w)) _ (I.hok.fresh (Zq _))⟩;exact⟨by rw[Zd];exact M,_,r1.append j,gO _ _⟩
end
def ixN (n:Nat)(i:Int):Option Nat:=if 0<=i then (if i<n then some i.toNat else none) else if -(n:Int)<=i then some (i+n).toNat else none
def Vx {α:Type}(xs:List α)(i:Int):Option α:=(ixN xs.length i).bind λj=>xs[j]?
theorem Zft {n:Nat}{i:Int}{j:Nat}(h:ixN n i=some j):seqIndex? i n=some j/\j<n/\-(n:Int)<=i/\i<n:=by
 unfold ixN at h;by_cases J:0<=i
 ·rw[if_pos J] at h
  by_cases q:i<n
  ·rw[if_pos q] at h
   have e:i.toNat=j:=aA h;exact⟨by rw[seqIndex_of J q,e],by omega,by omega,q⟩
  ·rw[if_neg q] at h;cases h
 ·rw[if_neg J] at h
  by_cases q:-(n:Int)<=i
  ·rw[if_pos q] at h
   have e:(i+n).toNat=j:=aA h;exact⟨by rw[seqIndex_neg (by omega) q,e],by omega,q,by omega⟩
  ·rw[if_neg q] at h;cases h
theorem ZfP {α:Type}{xs:List α}{i:Int}{v:α}(h:Vx xs i=some v):∃j,seqIndex? i xs.length=some j/\xs[j]?=some v/\j<xs.length/\-(xs.length:Int)<=i/\i<xs.length:=by
 unfold Vx at h;cases e:ixN xs.length i with
 |none=>rw[e] at h;cases h
 |some j=>
  rw[e] at h;obtain⟨q,J,M,O⟩:=Zft e;exact⟨j,q,h,J,M,O⟩
theorem ZI {α:Type}{xs:List α}{j:Nat}{v:α}(h:xs[j]?=some v):Vx xs (j:Int)=some v:=by
 have q:j<xs.length:=(ae.mp h).1;have e:ixN xs.length (j:Int)=some j:=by
  unfold ixN;rw[if_pos (by omega),if_pos (by omega)];simp
 unfold Vx;rw[e];exact h
theorem Zad {α:Type}(xs:List α)(v:α):Vx (xs++[v]) (-1)=some v:=by
 have j:(xs++[v]).length=xs.length+1:=by simp
 have e:ixN (xs++[v]).length (-1)=some xs.length:=by
  unfold ixN;rw[j,if_neg (by decide),if_pos (by omega)];congr 1;omega
 unfold Vx;rw[e];show (xs++[v])[xs.length]?=some v;simp
def ZlA (b:Expr):Prop:=∀o i,subscripted b false o i=operate [o,i] (getItem o i)
def IxR (X:Cx)(r:R2):Prop:=
 ∀(J j:Expr) (q:List (Addr×Obj)) (s:Shared) (M:St) (H:Hp) (x y:V) (v u:Value) (Q:VK),Inv X q M H s->RelV x v->RelV y u->r x y H Q->
  subscripted j false v u=operate [v,u] (getItem v u)->wpAny (model X.prog X.w) X.A (subscriptTail J j v u) (EP X q M Q) X.xe s
def MtR (X:Cx)(id:String)(r:V->TV->Hp->VK->Prop):Prop:=
 ∀(j:List (Addr×Obj)) (s:Shared) (q:St) (H:Hp) (x:V) (J:TV) (v:Value) (M:List Value) (Q:VK),Inv X j q H s->RelV x v->ZO J M->r x J H Q->
  wpAny (model X.prog X.w) X.A (call (.builtin id) (v::M)) (EP X j q Q) X.xe s
section
variable {X:Cx}{a b:Expr}{ta tb:TE}{pos:Pos}
theorem ZD {r:R2}(J:IxR X r)(M:PE X a ta)(hb:PE X b tb)(O:ZlA b):PE X (.Subscript a b pos) (tOp r ta tb):=by
 intro j s Y H Q I h;exact Subscript_ (ZnT M hb I h λv u s2 x y H2 I2 rx ry q=>J a b j s2 Y H2 x y v u Q I2 rx ry q (O _ _))
inductive ZmQ (K:aa) (x:V) (y:V) (H:Hp) (Q:VK):Prop
 |mk (p:_) (xs:_) (i:_) (v:_):(x=.ref p)->(y=.int i)->(Ws K H p xs)->(Vx xs i=some v)->(Q v H)->ZmQ K x y H Q
inductive ZmP (K:aa) (x:V) (y:V) (H:Hp) (Q:VK):Prop
 |mk (p:_) (xs:_) (i:_) (v:_):(x=.ref p)->(y=.int i)->(Xp K H p xs)->(Vx xs i=some v)->(Q v H)->ZmP K x y H Q
theorem Zla:IxR X (ZmQ X.K):=by
 intro O Y J s σ H x y v u Q I rx ry h hs;obtain⟨p,xs,i,z,rfl,rfl,hq,he,q⟩:=h;cases rx;obtain⟨t,rfl⟩:=ry;obtain⟨m5,r,pl,hz⟩:=I.list hq;obtain⟨j,M,h2,h3,h4,h5⟩:=ZfP he;obtain⟨w,ew,m6⟩:=r.get h2;have hl:=r.length;have hn:=X1;have fin:EP X J σ Q w s:=⟨z,H,I,m6,q⟩;by_cases h0:0<=i
 ·have hj:i.toNat=j:=by
   rw[seqIndex_of h0 h5] at M;exact aA M
  exact item_listR pl.isList h0 (by omega) (by rw[hj];simpa using ew) fin hs
 ·have hj:(i+(m5.toArray.size:Int)).toNat=j:=by
   rw[seqIndex_neg (by omega) h4] at M;rw[Zh,<-hl];exact aA M
  exact mD (x:=w) pl.isList.typeIs slot_list_getitem.lookup
   (wpAny_getItem_list_neg (Q:=λr s'=>r=w/\EP X J σ Q r s') pl.isList (by omega) (by rw[Zh] <;> omega) (by omega) (by rw[hj];simpa using ew) ⟨rfl,fin⟩) hs
theorem ZnA:IxR X (ZmP X.K):=by
 intro M O J s σ H x y v u Q I rx ry h hs;obtain⟨p,xs,i,z,rfl,rfl,hq,he,q⟩:=h;cases rx;obtain⟨t,rfl⟩:=ry;obtain⟨m5,r,pl,hz⟩:=I.tuple hq;obtain⟨j,h1,h2,h3,h4,h5⟩:=ZfP he;obtain⟨w,ew,Y⟩:=r.get h2;have hl:=r.length;have hn:=X1;have fin:EP X J σ Q w s:=⟨z,H,I,Y,q⟩;exact mD (x:=w) pl.typeIs slot_tuple_getitem.lookup
  (getItem_tuple (j:=j) (Q:=λr s'=>r=w/\EP X J σ Q r s') pl (by omega) (by omega) (by rw[Zh,<-hl];exact h1) (by simpa using ew) ⟨rfl,fin⟩) hs
theorem Zeh (q:List Value)(n j:Nat)(u:Value):cH (·.setIfInBounds j u) {cls:=.type "list",data:=.seq q.toArray n}={cls:=.type "list",data:=.seq (q.set j u).toArray n}:=by
 simp[cH]
theorem Inv.lst {q:List (Addr×Obj)}{σ:St}{H:Hp}{s:Shared}{p:Addr}{xs:TV}(I:Inv X q σ H s)(h:H p=some (.lst xs)) :
  ∃(j:List Value) (n:Nat),ZO xs j/\s.heap.get? p=some {cls:=.type "list",data:=.seq j.toArray n}/\xs.length<=sizeLine:=by
 obtain⟨z,j,n,r,e⟩:=I.hok p _ h;exact⟨j,n,r,e,z⟩
theorem Inv.lstUpd {j:List (Addr×Obj)}{σ:St}{H:Hp}{s:Shared}{p:Addr}{xs ys:TV}{J its':List Value}{n M:Nat}{f:Obj->Obj}(I:Inv X j σ H s)(h:H p=some (.lst xs))
  (O:s.heap.get? p=some {cls:=.type "list",data:=.seq J.toArray n}) (hf:f {cls:=.type "list",data:=.seq J.toArray n}={cls:=.type "list",data:=.seq its'.toArray M}) (r:ZO ys its') (hz:ys.length<=sizeLine) (t:Nat) :
  Inv X j σ (upd H p (.lst ys)) {s with heap:=s.heap.update p f,toks:=t}:=by
 have e:(s.heap.update p f).get? p=some {cls:=.type "list",data:=.seq its'.toArray M}:=by
  rw[bw f O (by rw[hf] <;> rfl),hf]
 refine I.write (x:=p) (e:=p) (by rw[h];trivial) (.inl rfl) (λb u hb q=>(bQ _ _ (bd hb)).trans q) ⟨_,e⟩ ?_;exact⟨hz,its',M,r,e⟩
inductive ZlY (o:V) (i:V) (v:V) (H:Hp) (Q:(Hp->Prop)):Prop
 |mk (p:_) (xs:_) (k:_) (j:_):(o=.ref p)->(i=.int k)->(H p=some (.lst xs))->(ixN xs.length k=some j)->(Q (upd H p (.lst (xs.set j v))))->ZlY o i v H Q
theorem YS:Zn2 X ZlY:=by
 intro J s σ H o i v ov iv u Q I ro ri rv h;obtain⟨p,xs,k,j,rfl,rfl,hp,hj,q⟩:=h;cases ro;obtain⟨t,rfl⟩:=ri;obtain⟨M,n,r,Y,hz⟩:=I.lst hp;obtain⟨O,h2,h3,h4⟩:=Zft hj;have hl:=r.length;have hn:=X1;have I':Inv X J σ (upd H p (.lst (xs.set j v))) {s with heap:=s.heap.update p (cH (·.setIfInBounds j u))}:=
  I.lstUpd hp Y (Zeh M n j u) (r.set rv j) (by rw[ba];exact hz) s.toks
 by_cases h0:0<=k
 ·have hk:k.toNat=j:=by
   rw[seqIndex_of h0 h4] at O;exact aA O
  exact PySem.W.ki_setAt Y h0 (by omega) (by rw[Zh,<-hl];exact h4) (by rw[hk];exact⟨_,I',q⟩)
 ·have hk:(k+(M.toArray.size:Int)).toNat=j:=by
   rw[seqIndex_neg (by omega) h3] at O;rw[Zh,<-hl];exact aA O
  exact PySem.W.ki_setBack Y (by omega) (by rw[Zh,<-hl];exact h3) (by omega) (by rw[hk];exact⟨_,I',q⟩)
theorem Zbr (lo j:Option Int)(n:Nat):(sliceBounds lo j none n).1=((HT.sIx n 0 lo:Nat):Int)/\(sliceBounds lo j none n).2.1=((HT.sIx n n j:Nat):Int)/\(sliceBounds lo j none n).2.2=1:=by
 refine⟨?_,?_,rfl⟩
 ·cases lo with
  |none=>simp[sliceBounds,HT.sIx]
  |some i=>
   simp only[sliceBounds,HT.sIx,lY,show (1:Int) > 0 by decide,if_true];by_cases h:i<0
   ·simp only[h,if_true] <;> omega
   ·simp only[h,if_false] <;> omega
 ·cases j with
  |none=>simp[sliceBounds,HT.sIx]
  |some i=>
   simp only[sliceBounds,HT.sIx,lY,show (1:Int) > 0 by decide,if_true];by_cases h:i<0
   ·simp only[h,if_true] <;> omega
   ·simp only[h,if_false] <;> omega
theorem Zah (j:List Value)(lo q:Option Int):slicePick j.toArray lo q none=((j.drop (HT.sIx j.length 0 lo)).take (HT.sIx j.length j.length q-HT.sIx j.length 0 lo)).toArray:=by
 obtain⟨J,M,O⟩:=Zbr lo q j.toArray.size;unfold slicePick;rw[J,M,O];simp only[sliceRange_one,pick_run,Zh] <;> rfl
inductive ZoO (K:aa) (x:V) (lo:Option Int) (hi:Option Int) (H:Hp) (Q:VK):Prop
 |mk (a:_) (xs:_):(x=.ref a)->(Ws K H a xs)->(∀p,H p=none->Q (.ref p) (upd H p (.lst (Zdo xs lo hi))))->ZoO K x lo hi H Q
theorem ZeN:SlR X (ZoO X.K):=by
 intro M s σ H x v vl vu lo J sl Q I Y hs pl pu h;obtain⟨a,xs,rfl,hx,q⟩:=h;cases Y;obtain⟨m5,r,O,hz⟩:=I.list hx;have j:=r.length;refine⟨"list",_,slot_list_getitem.lookup,O.isList.typeIs,?_⟩;refine wpAny_getItem_list_slice O.isList hs pl pu .none (by simp) ?_ (by rw[Zh] <;> omega)
 rw[Zah,<-j];refine⟨.ref s.heap.objs.size,_,I.laid (t':=s.toks) (o:=.lst (Zdo xs lo J)) (λb ob q=>Zn _ q) (Zq _) ?_,rfl,q _ (I.hok.fresh (Zq _))⟩;exact⟨a8 (Zdn xs lo J) hz,_,0,(r.drop (HT.sIx xs.length 0 lo)).take (HT.sIx xs.length xs.length J-HT.sIx xs.length 0 lo),Zo _ rfl⟩
def Je:V->Bool
 | .non=>true
 | .bl _=>true
 | .int _=>true
 | .str _=>true
 |_=>false
def eqV:V->V->Bool
 | .non,.non=>true
 | .bl a,.bl b=>a == b
 | .bl a,.int b=>(if a then 1 else 0) == b
 | .int a,.bl b=>a == (if b then 1 else 0)
 | .int a,.int b=>a == b
 | .str a,.str b=>a == b
 |_,_=>false
theorem ZnH {A:Around}{s:Shared}{y x:V}{u v:Value}(J:RelV y u)(j:RelV x v)(O:Je y=true)(M:Je x=true):kE A s u v (eqV y x):=by
 cases y with
 |non=>
  cases J;cases x with
  |non=>cases j;exact SeqAt.EqAt.same _
  |bl b=>cases j;exact SeqAt.EqAt.none_bool b
  |int b=>obtain⟨t,rfl⟩:=j;exact SeqAt.EqAt.none_int b t
  |str b=>obtain⟨t,rfl⟩:=j;exact SeqAt.EqAt.none_str b t
  |_=>exact absurd (show false=true from M) aF
 |bl a=>
  cases J;cases x with
  |non=>cases j;exact SeqAt.EqAt.bool_none a
  |bl b=>cases j;exact SeqAt.EqAt.bool_bool a b
  |int b=>obtain⟨t,rfl⟩:=j;exact SeqAt.EqAt.bool_int a b t
  |str b=>obtain⟨t,rfl⟩:=j;exact SeqAt.EqAt.bool_str a b t
  |_=>exact absurd (show false=true from M) aF
 |int a=>
  obtain⟨q,rfl⟩:=J;cases x with
  |non=>cases j;exact SeqAt.EqAt.int_none a q
  |bl b=>cases j;exact SeqAt.EqAt.int_bool a q b
  |int b=>obtain⟨t,rfl⟩:=j;exact fM a q b t
  |str b=>obtain⟨t,rfl⟩:=j;exact jW a q b t
  |_=>exact absurd (show false=true from M) aF
 |str a=>
  obtain⟨q,rfl⟩:=J;cases x with
  |non=>cases j;exact SeqAt.EqAt.str_none a q
  |bl b=>cases j;exact SeqAt.EqAt.str_bool a q b
  |int b=>obtain⟨t,rfl⟩:=j;exact jV a q b t
  |str b=>obtain⟨t,rfl⟩:=j;exact SeqAt.EqAt.str_str a q b t
  |_=>exact absurd (show false=true from M) aF
 |_=>exact absurd (show false=true from O) aF
def eqU (x:V)(u:Value):Bool:=match u with
 | .none=>eqV .non x
 | .bool b=>eqV (.bl b) x
 | .int i _=>eqV (.int i) x
 | .str z _=>eqV (.str z) x
 |_=>false
theorem Zb2 {x y:V}{u:Value}(r:RelV y u)(f:Je y=true):eqU x u=eqV y x:=by
 cases y with
 |non=>cases r;rfl
 |bl b=>cases r;rfl
 |int i=>obtain⟨t,rfl⟩:=r;rfl
 |str z=>obtain⟨t,rfl⟩:=r;rfl
 |_=>exact absurd (show false=true from f) aF
theorem Zch {x:V}:∀{xs:TV}{us:List Value},ZO xs us->xs.all Je=true->us.any (eqU x)=xs.any λy=>eqV y x
 |_,_,.nil,_=>rfl
 |y::xs,u::us,.cons r t,f=>by
  rw[List.all_cons,ag] at f;rw[cR,cR,Zb2 r f.1,Zch t f.2]
theorem Xf {A:Around}{s:Shared}{x:V}{v:Value}(q:RelV x v)(J:Je x=true):∀{xs:TV}{us:List Value},ZO xs us->xs.all Je=true->∀u∈us,kE A s u v (eqU x u)
 |_,_,.nil,_=>λu j=>by cases j
 |y::xs,u::us,.cons r t,f=>λM j=>by
  rw[List.all_cons,ag] at f;rcases aD.mp j with rfl|j
  ·rw[Zb2 r f.1];exact ZnH r q f.1 J
  ·exact Xf q J t f.2 M j
def inV (x:V)(xs:TV):Bool:=xs.any λy=>eqV y x
inductive rIn (K:aa) (neg:Bool) (x:V) (y:V) (H:Hp) (Q:VK):Prop
 |mk (p:_) (xs:_):(y=.ref p)->((Ws K H p xs\/Xp K H p xs))->(Je x=true)->(xs.all Je=true)->(Q (.bl (if neg then !inV x xs else inV x xs)) H)->rIn K neg x y H Q
theorem ZbD:XR X (compareOp .NotIn) (rIn X.K true):=by
 intro O s σ H x y v u Q I Y ry h;obtain⟨p,xs,rfl,J,fx,fs,q⟩:=h;cases ry;rcases J with J|J
 ·obtain⟨j,r,pl,hz⟩:=I.list J
  refine lM (eqU x) pl.isList (λw M=>Xf Y fx r fs w (by simpa using M)) ⟨.bl _,H,I,rfl,?_⟩;rw[show j.toArray.any (eqU x)=j.any (eqU x) by simp,Zch r fs];exact q
 ·obtain⟨j,r,pl,hz⟩:=I.tuple J
  refine lr (eqU x) pl (λw M=>Xf Y fx r fs w (by simpa using M)) ⟨.bl _,H,I,rfl,?_⟩;rw[show j.toArray.any (eqU x)=j.any (eqU x) by simp,Zch r fs];exact q
inductive I_call_len_seq (K:aa) (xs:TV) (H:Hp) (Q:VK):Prop
 |mk (p:_) (ys:_):(xs=[.ref p])->((Ws K H p ys\/Xp K H p ys))->(Q (.int ys.length) H)->I_call_len_seq K xs H Q
theorem Zcd:YV X (.builtin "len") (_root_.L2.I_call_len_seq X.K):=by
 intro O s σ H xs us Q I r h;obtain⟨p,Y,rfl,j,q⟩:=h;obtain⟨u,rfl,rx⟩:=vals1 r;cases rx;have hn:=X1;rcases j with j|j
 ·obtain⟨J,M,pl,hz⟩:=I.list j
  have hlen:=M.length;exact Calls.call_len_list pl.isList (by simp only[Zh] <;> omega) ⟨.int Y.length,H,I.tok _,⟨s.toks+1,by rw[Zh,hlen]⟩,q⟩
 ·obtain⟨J,M,pl,hz⟩:=I.tuple j
  have hlen:=M.length;exact len_tuple pl (by simp only[Zh] <;> omega) ⟨.int Y.length,H,I.tok _,⟨s.toks+1,by rw[Zh,hlen]⟩,q⟩
inductive I_call_list_of (K:aa) (xs:TV) (H:Hp) (Q:VK):Prop
 |mk (p:_) (ys:_):(xs=[.ref p])->((Ws K H p ys\/Xp K H p ys))->(∀l,H l=none->Q (.ref l) (upd H l (.lst ys)))->I_call_list_of K xs H Q
theorem JQ:YV X (.type "list") (_root_.L2.I_call_list_of X.K):=by
 intro Y s σ H xs us Q I r h;obtain⟨p,ys,rfl,hq,q⟩:=h;obtain⟨u,rfl,rx⟩:=vals1 r;cases rx;have m5:∀(j:List Value),ZO ys j->ys.length<=sizeLine->∀(J:Heap) (M:Nat),(∀b o',s.heap.get? b=some o'->J.get? b=some o')->
   J.get? s.heap.objs.size=some {cls:=.type "list",dict:=none,data:=.seq j.toArray M,slots:=#[]}->EP X Y σ Q (.ref s.heap.objs.size) {s with heap:=J}:=λj O hz J M kp e=>
  ⟨.ref s.heap.objs.size,_,I.laid (t':=s.toks) kp (Zq _) (show YK X.prog X.w _ J _ (.lst ys) from ⟨hz,j,M,O,e⟩),rfl,q _ (I.hok.fresh (Zq _))⟩
 rcases hq with hq|hq
 ·obtain⟨j,O,pl,hz⟩:=I.list hq
  have m6:=O.length;obtain⟨o,ho,hc,n,hd⟩:=pl.isList;exact call_list_seq p (.inl rfl) ho hc hd (λJ M kp e=>m5 j O hz J M kp e) (by simp only[Zh] <;> omega)
 ·obtain⟨j,O,pl,hz⟩:=I.tuple hq
  have m6:=O.length;obtain⟨o,ho,hc,n,hd⟩:=pl;exact call_list_seq p (.inr rfl) ho hc hd (λJ M kp e=>m5 j O hz J M kp e) (by simp only[Zh] <;> omega)
inductive I_call_tuple_of (K:aa) (xs:TV) (H:Hp) (Q:VK):Prop
 |mk (p:_) (ys:_):(xs=[.ref p])->(((Ws K H p ys/\∀l,H l=none->Q (.ref l) (upd H l (.tup ys)))\/(Xp K H p ys/\Q (.ref p) H)))->I_call_tuple_of K xs H Q
theorem ZY:YV X (.type "tuple") (_root_.L2.I_call_tuple_of X.K):=by
 intro j s σ H xs us Q I r h;obtain⟨p,ys,rfl,h⟩:=h;obtain⟨u,rfl,rx⟩:=vals1 r;cases rx;rcases h with ⟨O,q⟩|⟨O,q⟩
 ·obtain⟨J,Y,pl,hz⟩:=I.list O
  have m5:=Y.length;refine call_tuple_list pl.isList (λM kp=>?_) (by simp only[Zh] <;> omega)
  have I1:Inv X j σ H {s with heap:=M}:=I.kept (t':=s.toks) kp;have I2:Inv X j σ (upd H M.objs.size (.tup ys)) {s with heap:=M.push {cls:=.type "tuple",data:=.seq J.toArray}}:=
   I1.laid (t':=s.toks) (λb o e=>Zn _ e) (Zq _) (show YK X.prog X.w _ _ _ (.tup ys) from ⟨hz,J,Y,gO _ _⟩)
  exact⟨.ref M.objs.size,_,I2,rfl,q _ (I1.hok.fresh (Zq _))⟩
 ·obtain⟨J,Y,pl,hz⟩:=I.tuple O
  exact call_tuple_same pl ⟨.ref p,H,I,rfl,q⟩
def tyV (K:aa)(T:String)(x:V)(H:Hp):Prop:=match x with
 | .str _=>T = "str"
 | .int _=>T = "int"
 | .ref p=>(T = "list"/\∃q,Ws K H p q)\/(T = "tuple"/\∃o,K.lookup p=some o/\o.cls=.type "tuple"/\o.dict=none)\/
   (T = "dict"/\((∃j,H p=some (.dK j))\/∃j,H p=some (.dT j)))\/(T = "set"/\∃S n,H p=some (.set S n))
 |_=>False
theorem Zms {q:List (Addr×Obj)}{σ:St}{H:Hp}{s:Shared}{T:String}{x:V}{v:Value}(I:Inv X q σ H s)(r:RelV x v)(J:tyV X.K T x H) :
  s.TypeIs v T/\∀a,v=.ref a->∃Y,s.heap.get? a=some Y/\Y.dict=none:=by
 cases x with
 |str z=>
  obtain⟨t,rfl⟩:=r;cases (show T = "str" from J);exact⟨typeIs_str s z t,λ_ e=>nomatch e⟩
 |int i=>
  obtain⟨t,rfl⟩:=r;cases (show T = "int" from J);exact⟨jq s i t,λ_ e=>nomatch e⟩
 |ref p=>
  cases r;rcases J with ⟨rfl,xs,hq⟩|⟨rfl,o,j,hc,hd⟩|⟨rfl,j⟩|⟨rfl,S,n,j⟩
  ·obtain⟨m5,_,pl,_⟩:=I.list hq
   refine⟨pl.isList.typeIs,λa e=>?_⟩;cases e;obtain⟨o,n,e,c,hd,_⟩:=pl;exact⟨o,e,hd⟩
  ·refine⟨⟨o,I.kIn p o j,hc⟩,λa e=>?_⟩
   cases e;exact⟨o,I.kIn _ o j,hd⟩
  ·have z:∃o,s.heap.get? p=some o/\o.ExactDict:=by
    rcases j with ⟨M,j⟩|⟨M,j⟩
    ·obtain⟨_,_,_,_,o,_,_,e,ex,_⟩:=I.hok p _ j
     exact⟨o,e,ex⟩
    ·obtain⟨_,_,_,_,o,_,_,e,ex,_⟩:=I.hok p _ j
     exact⟨o,e,ex⟩
   obtain⟨o,e,ex⟩:=z;refine⟨⟨o,e,ex.1⟩,λa O=>?_⟩;cases O;exact⟨o,e,ex.2.1⟩
  ·obtain⟨o,_,_,_,e,ex,_⟩:=I.hok p _ j
   refine⟨⟨o,e,ex.1⟩,λa O=>?_⟩;cases O;exact⟨o,e,ex.2.1⟩
 |_=>exact dN J
inductive iBM (K:aa) (T:String) (r:V->TV->Hp->VK->Prop) (t:TA) (σ:St) (Q:VK) (x:V) (H:Hp):Prop
 |mk:tyV K T x H->(t σ H λxs H2=>r x xs H2 Q)->iBM K T r t σ Q x H
def tBM (K:aa)(T:String)(r:V->TV->Hp->VK->Prop)(q:TE)(t:TA):TE:=λj H Q=>q j H (iBM K T r t j Q)
variable {o e:Expr}{es:List Expr}{to:TE}{t:TA}{name:Str}{apos cpos:Pos}{T id:String}{r:V->TV->Hp->VK->Prop}
theorem WC (pa:PlainAttrs T)(slot:Slot T name id)(Y:typeOf (.builtin id)=pure (.type "method_descriptor"))(hm:MtR X id r)(ho:PE X o to)(ha:PA X (e::es) t)
  (J:attributeBase o name X.env (eval o X.env)=eval o X.env:=by rfl)
  (O:((backTo cpos (starEach (e::es) X.env)).all (λx=>!x.1) && (backToKw cpos (keywordEach [] X.env)).all (λx=>x.1.isSome)
   && decide ((e::es).length+([]:List Keyword).length+(if ([]:List Keyword).isEmpty then 0 else 1)<30))=true:=by rfl)
  (M:(apos.endLine == cpos.line)=true:=by rfl) (hs:starEach (e::es) X.env=(false,eval e X.env)::starEach es X.env:=by rfl) (q:(backTo cpos (starEach es X.env)).any (·.1)=false:=by rfl) :
  PE X (.Call (.Attribute o name apos) (e::es) [] cpos) (tBM X.K T r to t):=by
 intro j s σ H Q I h;refine mh J O M rfl (Yw (ho j s σ H _ I h) λv s1 ⟨x,H1,I1,r1,ty,q1⟩=>?_);obtain⟨h1,h2⟩:=Zms I1 r1 ty;refine⟨T,id,pa,slot,Y,h1,h2,?_⟩;have hA:=ha cpos j s1 σ H1 _ I1 q1;rw[hs] at hA ⊢;refine ka (by show (false || (backTo cpos (starEach es X.env)).any (·.1))=false;rw[q] <;> rfl) (kL ?_)
 exact Yw hA λus s2 ⟨vs,H2,I2,r2,q2⟩=>hm j s2 σ H2 x vs v us Q I2 r1 r2 q2
end
def MtM (X:Cx)(id:String)(r:V->TV->Hp->VK->Prop):Prop:=
 ∀(j:List (Addr×Obj)) (s:Shared) (q:St) (H:Hp) (x:V) (J:TV) (v:Value) (M:List Value) (Q:VK),Inv X j q H s->RelV x v->ZO J M->r x J H Q->
  wpAny (model X.prog X.w) X.A (call (.builtin id) (v::M)) (EP X j q Q) X.xe s
theorem ZO.one {x:V}{us:List Value}(h:ZO [x] us):∃u,us=[u]/\RelV x u:=by
 cases h with
 |cons r t=>cases t;exact⟨_,rfl,r⟩
theorem ZO.rep {xs:TV}{us:List Value}(h:ZO xs us):∀k:Nat,ZO (ah k xs).flatten (ah k us).flatten
 |0=>.nil
 |k+1=>by
  rw[aK,aK,a6,a6];exact ZO.append h (ZO.rep h k)
theorem foldl_rep (j:List Value):∀(k:Nat) (ZE:List Value),
  md (λq J=>q++J) ZE.toArray (ah k j.toArray)=(ZE++(ah k j).flatten).toArray
 |0,ZE=>by simp
 |k+1,ZE=>by
  have e:ZE.toArray++j.toArray=(ZE++j).toArray:=by simp
  have M:(ZE++j)++(ah k j).flatten=ZE++(ah (k+1) j).flatten:=by
   rw[aK,a6,gx]
  rw[<-M,<-foldl_rep j k (ZE++j),<-e,aK,jB]
section
variable {X:Cx}{pins:List (Addr×Obj)}{σ:St}{H:Hp}{s:Shared}{l b:Addr}{xs ys zs:TV}
theorem Inv.lset {j its':List Value}{n:Nat}{f:Array Value->Array Value}{t':Nat}(I:Inv X pins σ H s)(J:H l=some (.lst xs))
  (e:s.heap.get? l=some {cls:=.type "list",data:=.seq j.toArray n}) (M:f j.toArray=its'.toArray) (O:ZO ys its') (hz:ys.length<=sizeLine) :
  Inv X pins σ (upd H l (.lst ys)) {s with heap:=s.heap.update l (cH f),toks:=t'}:=by
 have q:=PySem.IsL.update e f;rw[M] at q;refine I.write (x:=l) (e:=l) (by rw[J];exact trivial) (.inl rfl) (λb' u hb Y=>(bQ s.heap (cH f) (bd hb)).trans Y) ⟨_,q⟩ ?_;exact⟨hz,its',_,O,q⟩
theorem Inv.lnew {j:List Value}{t':Nat}(I:Inv X pins σ H s)(J:ZO ys j)(hz:ys.length<=sizeLine) :
  Inv X pins σ (upd H s.heap.objs.size (.lst ys)) {s with heap:=s.heap.push {cls:=.type "list",data:=.seq j.toArray},toks:=t'}:=
 I.laid (λ_ _ q=>Zn _ q) (Zq _) ⟨hz,j,0,J,Zo _ rfl⟩
theorem Inv.fresh (I:Inv X pins σ H s):H s.heap.objs.size=none:=I.hok.fresh (Zq _)
theorem Inv.lstM (I:Inv X pins σ H s)(q:H l=some (.lst xs)):xs.length<=sizeLine/\∃(j:List Value) (n:Nat),ZO xs j/\xs.length=j.length/\s.heap.get? l=some {cls:=.type "list",data:=.seq j.toArray n}:=by
 obtain⟨z,j,n,r,e⟩:=I.hok l _ q;exact⟨z,j,n,r,r.length,e⟩
theorem ZcZ {n:Nat}(h:n<=sizeLine):dI n=false:=by
 unfold dI;exact decide_eq_false (by omega)
end
section
variable {X:Cx}
inductive Ze4 (x:V) (vs:TV) (H:Hp) (Q:VK):Prop
 |mk (l:_) (xs:_) (y:_):(x=.ref l)->(vs=[y])->(H l=some (.lst xs))->(xs.length<sizeLine)->(Q .non (upd H l (.lst (xs++[y]))))->Ze4 x vs H Q
theorem Ye:MtM X "list.append" Ze4:=by
 intro J s σ H x vs v us Q I Y rv h;obtain⟨l,xs,y,rfl,rfl,M,hz,q⟩:=h;cases Y;obtain⟨u,rfl,ru⟩:=rv.one;obtain⟨z,j,n,r,hl,e⟩:=I.lstM M;refine cK aQ ⟨_,e,rfl⟩ F.entry_list_append (F.args_list_append_2 _ _) (PySem.list_append l j.toArray n u (by rw[Zh];omega)) ⟨e,?_⟩;refine⟨.non,_,I.lset (its':=j++[u]) M e (by simp) (r.append (.cons ru .nil)) ?_,rfl,q⟩;rw[Zd,Zk];omega
inductive Ze3 (x:V) (vs:TV) (H:Hp) (Q:VK):Prop
 |mk (l:_) (b:_) (xs:_) (zs:_):(x=.ref l)->(vs=[.ref b])->(H l=some (.lst xs))->(H b=some (.lst zs))->(xs.length+zs.length<=sizeLine)->(Q .non (upd H l (.lst (xs++zs))))->Ze3 x vs H Q
theorem Zgp:MtM X "list.extend" Ze3:=by
 intro Y s σ H x vs v us Q I rx rv h;obtain⟨l,b,xs,zs,rfl,rfl,hH,hB,hz,q⟩:=h;cases rx;obtain⟨u,rfl,ru⟩:=rv.one;cases ru;obtain⟨z,J,n,r,hl,e⟩:=I.lstM hH;obtain⟨z2,j,n2,r2,m6,e2⟩:=I.lstM hB;have O:J.toArray.size+j.toArray.size<=sizeLine:=by rw[Zh,Zh];omega
 have M:¬(!J.toArray.isEmpty && dI (J.toArray.size+j.toArray.size))=true:=by
  rw[ZcZ O,jN];exact aF
 refine cK kJ ⟨_,e,rfl⟩ F.entry_list_extend (F.args_list_extend_2 _ _)
  (AutoSeq1.list_extend_list_list_0 l J.toArray n b j.toArray n2 M (by rw[Zh];omega) (by omega)) ⟨e,e2,?_⟩
 refine⟨.non,_,I.lset (its':=J++j) hH e (by simp) (r.append r2) ?_,rfl,q⟩;rw[Zd];omega
inductive ZoQ (x:V) (y:V) (H:Hp) (Q:VK):Prop
 |mk (l:_) (b:_) (xs:_) (zs:_):(x=.ref l)->(y=.ref b)->(H l=some (.lst xs))->(H b=some (.lst zs))->(xs.length+zs.length<=sizeLine)->(∀p,H p=none->Q (.ref p) (upd H p (.lst (xs++zs))))->ZoQ x y H Q
theorem VE:XR X (binaryOp .Add) ZoQ:=by
 intro M s σ H x y v u Q I O Y h;obtain⟨l,b,xs,zs,rfl,rfl,hH,hB,hz,q⟩:=h;cases O;cases Y;obtain⟨z,J,n,r,hl,e⟩:=I.lstM hH;obtain⟨z2,j,n2,r2,m5,e2⟩:=I.lstM hB;refine PySem.P.add_list e e2 ?_ (by rw[Zh,Zh];omega);have ea:J.toArray++j.toArray=(J++j).toArray:=by simp
 rw[ea];exact⟨.ref _,_,I.lnew (t':=s.toks) (r.append r2) (by rw[Zd];omega),rfl,q _ I.fresh⟩
inductive ZoP (x:V) (y:V) (H:Hp) (Q:VK):Prop
 |mk (l:_) (k:_) (xs:_):(x=.ref l)->(y=.int k)->(H l=some (.lst xs))->(-(2 ^ 63)<=k)->(k<2 ^ 63)->(xs.length*k.toNat<=sizeLine)->(∀p,H p=none->Q (.ref p) (upd H p (.lst (ah k.toNat xs).flatten)))->ZoP x y H Q
theorem Xz {α:Type}(xs:List α)(k:Nat):(ah k xs).flatten.length=k*xs.length:=by
 induction k with
 |zero=>simp
 |succ k j=>rw[aK,a6,Zd,j,ci,kS]
theorem WJ:XR X (binaryOp .Mult) ZoP:=by
 intro m6 s σ H x y v u Q I rx ry h;obtain⟨l,k,xs,rfl,rfl,hH,h1,h2,hz,q⟩:=h;cases rx;obtain⟨t,rfl⟩:=ry;obtain⟨z,j,n,r,hl,e⟩:=I.lstM hH;have M:j.toArray.size*k.toNat<=sizeLine:=by rw[Zh,<-hl];exact hz
 have O:¬j.toArray.size*k.toNat > (2 ^ 63-1) / 8:=by
  have:(sizeLine:Nat)<=(2 ^ 63-1) / 8:=by decide
  omega
 have Y:¬(!fv k)=true:=by
  rw[fitsIndex_both h1 h2];exact aF
 have J:¬dI (j.toArray.size*k.toNat)=true:=by
  rw[ZcZ M];exact aF
 have m5:md (λx1 x2=>x1++x2) #[] (ah (if j.toArray.isEmpty=true then 0 else k.toNat) j.toArray)=(ah k.toNat j).flatten.toArray:=by
  have f0:∀m:Nat,md (λx1 x2=>x1++x2) #[] (ah m j.toArray)=(ah m j).flatten.toArray:=λm=>by
   have:=foldl_rep j m [];rw[List.nil_append] at this;exact this
  rw[f0];cases j with
  |nil=>simp
  |cons a r'=>rw[if_neg (by simp)]
 refine lq (T:="list") (U:="int") (by decide) ⟨_,e,rfl⟩ (λs'=>jq s' k t) noFill_list_mul F.fills_int_mul io repeat_list F.slot_int_index.lookup
  (cK io (jq s k t) F.entry_int_rmul (F.args_int_rmul_2 _ _) (int___rmul___int_list k t l j.toArray n)
   ⟨e,rfl,⟨_,e,rfl⟩,cK F.slot_list_mul ⟨_,e,rfl⟩ F.entry_list_mul (F.args_list_mul_2 _ _) (AutoListH.list___mul___list_int_3 l j.toArray n k t Y O J) ⟨e,?_⟩⟩)
 rw[m5];exact⟨.ref _,_,I.lnew (t':=s.toks) (r.rep k.toNat) (by rw[Xz,dw];exact hz),rfl,q _ I.fresh⟩
end
section
variable {prog:Program}{w:World}{A:Around}{E:TY}{s:Shared}
end
section
variable {X:Cx}
end
end L2
namespace Att
open PySem PySem.W PySem.Calls PyProof.Rows
theorem V5 {P:Params}{h:Heap}:∀(ns:TZ) (vs:List Value),WellAll P h vs (ns.map WData.int)->aZ vs ns:=by
 intro ns;induction ns with
 |nil=>
  intro vs w;rw[fU] at w;cases w;exact .nil
 |cons n ns j=>
  intro vs w;rw[aN] at w;cases w with
  |cons a b=>
   cases a;exact .cons _ _ (j _ b)
theorem Zf1 {l:gA}{n:Nat}(hn:l.most=some n){P:Params}{h:Heap}{args:List WData}{Vb:List Value}
  (j:l.row.toRowW.claim.pre args=true) (Y:WellAll P h Vb args) :
  ∃a vs ns,Vb=[ax a]/\args=[WData.list (ns.map WData.int)]/\h.get? a=some {cls:=.type "list",data:=.seq vs.toArray}/\aZ vs ns/\ns.length<=n:=by
 have m5:WShape.hasAll [] args [.list .int]=true:=(pre_splitW j).1;have hc:l.pre.holds [] {args:=args}=true:=(pre_splitW j).2;obtain⟨d,r,rfl,h1,h2⟩:=hasAllW_cons m5;obtain rfl:=hasAllW_nil h2;obtain⟨xs,rfl,h3⟩:=hasW_list h1;obtain⟨ns,rfl⟩:=items_int h3;have hlen:ns.length<=n:=by
  unfold OpenLaw.pre at hc;have M:(WTm.not (.lt (.lit (.int (n:Int))) (.len (.arg 0)))).holds [] {args:=[.list (ns.map .int)]}=true:=by
   have M:=(holds_andW hc).1;rw[hn] at M;exact M
  have O:=condW_of M (w_not (w_lt w_lit (w_len_list (w_arg rfl))));rw[Za] at O;refine fC λq=>?_;have q':(n:Int)<((ns.length:Nat):Int):=by omega
  first
   |(rw[decide_eq_true q'] at O;exact absurd O (by decide))
   |(simp at O;omega)
 cases Y with
 |cons w1 w2=>
  cases w2;cases w1 with
  |list ho J=>exact⟨_,_,ns,rfl,rfl,ho,V5 ns _ J,hlen⟩
theorem Zf5 (l:gA)(args:List WData):l.row.toRowW.claim.post args (.bool true) args=true:=
 postW_of (r:=l.row.toRowW) (X:=(true == true))
  (show WShape.has [] (.bool true) .bool=true by first|rfl|decide|simp[WShape.has,WShape.arms,WShape.armsAll])
  (show (WTm.eq .res (.lit (.bool true))).value [] {args:=args,res:=some (.bool true),after:=args}=some (.bool (true == true)) from w_eq_bool (w_res rfl) w_lit) rfl
theorem Zdv {l:gA}{n:Nat}{q:Program}{loose:List Str}{XP:TX->Heap->Prop}{YP:World->Heap->Prop}{d:DefRec}
  (hn:l.most=some n) (m6:d.params.defaults=[])
  (call:∀(w:World) (s₀ j:Shared) (mg mb:TX) (M:Addr) (o:Obj) (pm cd J:Value) (a:Addr) (vs:List Value) (ns:TZ),
   Ground q loose [] XP w s₀ mg mb j.heap->YP w j.heap->
   j.heap.get? M=some o->o.data=.func (docDef d.name d.params d.body d.scope pm cd J)->j.heap.CodeRec cd d.name->mg d.name=some (.ref M)->
   j.heap.get? a=some {cls:=.type "list",data:=.seq vs.toArray}->aZ vs ns->ns.length<=n->j.gens=#[]->
   codeAny (model l.prog w) callerA (.call (.ref M) ⟨[.ref a],[]⟩) (λr s'=>r=.ok (.ret (.bool true))/\OldK j.heap s'.heap/\s'.os=j.os/\iA s'.gens) j) :
  lK q loose XP YP l.row.toRowW d [] (λf vs=>lG f vs):=by
 intro w s₀ j mg mb G Y M o pm cd J dV kV ho hd m8 hD n6 hg args Vb as O n9 o0 n8 o7;obtain rfl:dV=.none:=Dflts.none hD m6;obtain rfl:kV=.none:=Dflts.noKw hD;obtain⟨a,vs,ns,rfl,rfl,m5,hints,hlen⟩:=Zf1 hn O n8;refine enter_call (fz (call w s₀ j mg mb M o pm cd J a vs ns G Y ho (fd_plain hd) m8 n6 m5 hints hlen hg) λr s' hq=>?_);obtain⟨rfl,h2,h3,h4⟩:=hq;exact⟨.inl ⟨.bool true,.bool true,[],rfl,λ_=>rfl,.bool true,Zf5 l _,λ_=>⟨eK,λ_ hm=>(nomatch hm)⟩⟩,h2,h3,h4⟩
section
variable {prog:Program}{w:World}{A:Around}{E:TY}{s:Shared}{K:Frag}
end
end Att
namespace L2
open PySem PySem.Spec PyProof.Rows
theorem Zav:∀{vs:List Value}{ns:TZ},aZ vs ns->ZO (ns.map V.int) vs
 |_,_,.nil=>.nil
 |_,_,.cons n t h=>.cons ⟨t,rfl⟩ (Zav h)
def Zn4 (H:Hp):Prop:=∀b,H b=none\/∃o j,H b=some (.frz o (.lst j))
theorem ZiF {P:Program}{w:World}{K:aa}{mg mb:TX}{CX:CXT}{k:Nat}{fa a:Addr}{fd:FuncData}{x:Str}{sp:Sp}{j:Shared}{vs:List Value}{ns:TZ}
  (KX:K.In j.heap) (m5:j.heap.Ns mainGlobals mg) (hb:j.heap.Ns builtinsNs mb) (n9:∀x:Str,x ≠ "__name__"->mb x=bootBuiltins x) (m6:j.heap.NoLimit) (hg:j.gens=#[])
  (ha:j.heap.get? a=some {cls:=.type "list",data:=.seq vs.toArray}) (hi:aZ vs ns) (hl:ns.length<=sizeLine) (hr:JY k callerA)
  (F:∀base:Heap,K.In base->base.Ns mainGlobals mg->Z8 P w K mg base CX k fa fd [x] sp) (Y:∀(s:Shared) (u:Value),i0 s fd ⟨[u],[]⟩ [(x,u)])
  (o0:∀H:Hp,Zn4 H->Ws K H a (ns.map V.int)->sp [.ref a] H (λv _=>v=.bl true) λ_ _ _=>False)
  (o7:∀H e s',CX [] H j (λ_ _ _=>False) e s'->False) :
  codeAny (model P w) callerA (.call (.ref fa) ⟨[.ref a],[]⟩) (λr s'=>r=.ok (.ret (.bool true))/\OldK j.heap s'.heap/\s'.os=j.os/\iA s'.gens) j:=by
 have rv:=Zav hi;have m8:=hi.length;have O:∀H:Hp,Zn4 H->Ws K H a (ns.map V.int)->VA P w H j.heap->(∀b,H b≠none->b=a)->(H a≠none->K.lookup a=none)->
   codeAny (model P w) callerA (.call (.ref fa) ⟨[.ref a],[]⟩) (λr s'=>r=.ok (.ret (.bool true))/\OldK j.heap s'.heap/\s'.os=j.os/\iA s'.gens) j:=by
  intro H hO hS hok hA hK;have J:∀{b:Addr}{o:Obj},j.heap.get? b=some o->H b=none->(ZbV j.heap H).get? b=some o:=λe n=>ZiS e n;have o8:∀{b:Addr}{o:Obj}{es:Array DictEntry}{ep:Nat},j.heap.get? b=some o->o.data=.dict es ep->H b=none:=λ{b o es ep} e d=>by
   cases q:H b with
   |none=>rfl
   |some u=>
    have e':b=a:=hA b (by rw[q];simp);subst e';rw[ha] at e;cases e;have d':Data.seq vs.toArray _=Data.dict es ep:=d;cases d'
  have M:∀{b:Addr}{m:TX},j.heap.Ns b m->(ZbV j.heap H).Ns b m:=λ{b m} ⟨o,es,ep,e,d,r⟩=>⟨o,es,ep,J e (o8 e d),d,r⟩;have n6:K.In (ZbV j.heap H):=λb o e=>J (KX b o e) (by
   cases q:H b with
   |none=>rfl
   |some u=>
    have e':b=a:=hA b (by rw[q];simp);subst e';rw[hK (by rw[q];simp)] at e;cases e)
  have hM:Mod K mg (ZbV j.heap H):=⟨n6,M m5,⟨mb,M hb,n9⟩,let ⟨mc,h1,h2⟩:=m6;⟨mc,M h1,h2⟩⟩;have e0:ZlD P w K mg (ZbV j.heap H) callerA [] j H:=⟨rfl,hM,λb o e=>ZkS e,Nat.le_of_eq (Zgx _ _),trivial,λb hb=>absurd (show b∈([]:TW) from hb) (by simp),hok,.of_eq hg⟩;refine fz ((F _ n6 (M m5)).run callerA [] j H ⟨[.ref a],[]⟩ [.ref a] [.ref a] _ _ hr e0 (Y j (.ref a)) (.cons rfl .nil) (o0 H hO hS)) λr s' h=>?_;cases r with
  |error e=>exact (o7 H e s' h).elim
  |ok fl=>
   cases fl with
   |next=>exact dN h
   |brk=>exact dN h
   |cont=>exact dN h
   |ret u=>
    obtain⟨v,H',os,bare,un,n8,r',q⟩:=h;have q':v=.bl true:=q;subst q';obtain rfl:u=iK true:=r';refine⟨rfl,OldK.of_keep λb o e=>?_,os,bare⟩;cases q:H b with
    |none=>exact un.keep b o e q (by intro z;exact absurd (show b∈([]:TW) from z) (by simp)) (by simp)
    |some u=>
     rcases hO b with z|⟨ob,xs,z⟩
     ·rw[q] at z;cases z
     ·have z2:=un.frzs b ob _ z
      obtain⟨e1,_⟩:=hok b _ z;obtain⟨e2,_⟩:=n8 b _ z2;rw[e] at e1;cases e1;exact e2
 cases hk:K.lookup a with
 |some o=>
  have e:=KX a o hk;rw[ha] at e;cases e;refine O (λ_=>none) (λ_=>.inl rfl) (.inr ⟨_,vs.toArray,_,hk,rfl,rfl,rfl,by rw[Zh,m8];exact hl,by simpa using rv⟩) (λb u z=>by have z':(none:Option HO)=some u:=z;cases z') (λb z=>absurd rfl z) λz=>absurd rfl z
 |none=>
  refine O (λb=>if b=a then some (.frz {cls:=.type "list",data:=.seq vs.toArray} (.lst (ns.map V.int))) else none) (λb=>?_) (.inl (.inr ⟨{cls:=.type "list",data:=.seq vs.toArray},if_pos rfl⟩)) (λb u z=>?_) (λb z=>?_) λ_=>hk
  ·by_cases hb:b=a
   ·exact .inr ⟨_,_,if_pos hb⟩
   ·exact .inl (if_neg hb)
  ·by_cases hb:b=a
   ·have z':=(if_pos hb).symm.trans z
    cases z';subst hb;exact⟨ha,by rw[Za];exact hl,vs,_,rv,ha⟩
   ·have z':=(if_neg hb).symm.trans z
    cases z'
  ·by_cases hb:b=a
   ·exact hb
   ·exact absurd (if_neg hb) z
theorem Za5 {l:gA}{n k:Nat}{q:Program}{loose:List Str}{XP:TX->Heap->Prop}{YP:World->Heap->Prop}{d:DefRec}{K:Params->aa}{CX:World->CXT}{sp:World->Sp}{x:Str}
  (hn:l.most=some n) (m6:n<=sizeLine) (m8:d.params.defaults=[]) (hr:JY k callerA)
  (hY:∀(w:World) (h:Heap),YP w h->(K w.params).In h)
  (F:∀(w:World) (M:TX) (fa:Addr) (h:Heap),(K w.params).In h->h.Ns mainGlobals M->M d.name=some (.ref fa)->
   ∃fd:FuncData,(∀(s:Shared) (u:Value),i0 s fd ⟨[u],[]⟩ [(x,u)])/\
    ∀base:Heap,(K w.params).In base->base.Ns mainGlobals M->Z8 l.prog w (K w.params) M base (CX w) k fa fd [x] (sp w))
  (n6:∀(w:World) (H:Hp) (a:Addr) (ns:TZ),ns.length<=n->Zn4 H->Ws (K w.params) H a (ns.map V.int)->sp w [.ref a] H (λv _=>v=.bl true) λ_ _ _=>False)
  (n8:∀(w:World) (H:Hp) (s:Shared) (e:Value) (s':Shared),CX w [] H s (λ_ _ _=>False) e s'->False) :
  lK q loose XP YP l.row.toRowW d [] (λf vs=>lG f vs):=by
 refine Att.Zdv hn m8 λw o0 O M mb fa o pm cd o7 a vs ns G Y ho hd o8 n9 m5 J j hg=>?_;have KX:=hY w _ Y;obtain⟨fd,hb,hF⟩:=F w M fa _ KX G.T.g n9;exact ZiF KX G.T.g G.T.b G.T.builtins G.T.nolimit hg m5 J (a8 j m6) hr hF hb (λH hO hS=>n6 w H a ns j hO hS) λH e s'=>n8 w H O e s'
def Wy (s:Stmt):Arguments:=match s with
 | .FunctionDef _ a _ _ _ _ _ _ _ _=>a
 |_=>{posonlyargs:=[],args:=[],vararg:=none,kwonlyargs:=[],kw_defaults:=[],kwarg:=none,defaults:=[]}
def Wq (s:Stmt):List Stmt:=match s with
 | .FunctionDef _ _ b _ _ _ _ _ _ _=>b
 |_=>[]
def Z1 (s:Stmt):cL:=match s with
 | .FunctionDef _ _ _ _ _ _ j _ _ _=>j
 |_=>{kind:=.function,names:=[],isGenerator:=false,isCoroutine:=false}
noncomputable abbrev Yd:CXT:=λ_ _ _ _ _ _=>False
noncomputable abbrev E0:XK:=λ_ _ _=>False
theorem ZL {X:Cx}:Zcj Yd X E0:=λ_ _ _ _ _ _ _ h=>h.elim
structure WA (K:aa)(x qual:Str)(st:Stmt)(f:Addr)(fd:FuncData):Prop where
 ex:∃(oc:Value) (od:Option Addr) (kV doc pm:Value) (an:Option Addr) (cdv ct:Value) (osl:Array (Option Value)),
  fd=b8 x qual (Wy st) (Wq st) (Z1 st) .none kV doc pm an cdv ct/\K.lookup f=some ⟨oc,od,.func fd,osl⟩/\eZ K cdv qual=true
 kp:dG K (.ref f)=true
section
variable {P:Program}{w:World}{K:aa}{mg:TX}{base:Heap}
theorem WA.ok {x j:Str}{st:Stmt}{f:Addr}{fd:FuncData}{N O:List Str}{k:Nat}{sp:Sp}(F:WA K x j st f fd)(S:Ui N O (Z1 st))(len:∀vs H Q E,sp vs H Q E->vs.length=O.length)
  (M:∀(J:Value) (A:Around) (outer:List Env) (s:Shared) (H:Hp) (vs:TV) (Q:VK) (E:XK),JY k (A.deeper (envOfC j (Z1 st) s.heap.objs.size f J))->sp vs H Q E->
   ∃t,PSs (Zdm Yd P w K mg base N j (Z1 st) f J A outer s H E).nox (Wq st) t/\t {nx:=λ_ H'=>Q .non H',rt:=Q} (start N vs) H):Z8 P w K mg base Yd (k+1) f fd O sp:=by
 obtain⟨oc,od,kV,doc,pm,an,J,ct,m6,rfl,lk,Y⟩:=F.ex;refine Zpe lk Y S len λA outer s H vs Q E hr m5=>?_;obtain⟨t,h,q⟩:=M J A outer s H vs Q E hr m5;exact⟨t,h.nox,q⟩
theorem WA.binds {x j:Str}{st:Stmt}{f:Addr}{fd:FuncData}{J:List Str}(F:WA K x j st f fd)
  (h:∀(kV doc pm:Value) (an:Option Addr) (q ct:Value) (us:List Value),us.length=J.length->bindArgs (b8 x j (Wy st) (Wq st) (Z1 st) .none kV doc pm an q ct) ⟨us,[]⟩=pure (J.zip us)):Binds K fd J []:=by
 obtain⟨Y,od,kV,doc,pm,an,q,ct,M,rfl,lk,O⟩:=F.ex;exact .all (h kV doc pm an q ct)
theorem Zen {x j:Str}{st:Stmt}{f:Addr}{M:Value}{O an:Option Addr}{J:Array (Option Value)}{kV doc pm q ct:Value}(l:K.lookup f=some ⟨M,O,.func (b8 x j (Wy st) (Wq st) (Z1 st) .none kV doc pm an q ct),J⟩)
  (c:eZ K q j=true) (k:dG K (.ref f)=true):WA K x j st f (b8 x j (Wy st) (Wq st) (Z1 st) .none kV doc pm an q ct):=⟨⟨M,O,kV,doc,pm,an,q,ct,J,rfl,l,c⟩,k⟩
end
section
variable {X:Cx}
end
theorem YE {c A B:Prop} [Decidable c](j:c->A)(q:¬c->B):if c then A else B:=by
 by_cases h:c
 ·rw[if_pos h]
  exact j h
 ·rw[if_neg h]
  exact q h
def Zv (H j:Hp):Prop:=∀b o,H b=some o->j b=some o
theorem Zv.refl (H:Hp):Zv H H:=λ_ _ h=>h
theorem Zv.trans {H j q:Hp}(a:Zv H j)(b:Zv j q):Zv H q:=λc o h=>b c o (a c o h)
theorem Zv.free {H j:Hp}(e:Zv H j){l:Addr}(h:j l=Option.none):H l=Option.none:=by
 cases q:H l with
 |none=>rfl
 |some o=>
  rw[e l o q] at h;cases h
theorem Zv.seq {K:aa}{H j:Hp}{a:Addr}{xs:TV}(e:Zv H j)(h:Ws K H a xs):Ws K j a xs:=by
 rcases h with (h|⟨o,h⟩)|h
 ·exact .inl (.inl (e _ _ h))
 ·exact .inl (.inr ⟨o,e _ _ h⟩)
 ·exact .inr h
end L2
set_option maxHeartbeats 4000000
namespace L2
open PySem PySem.Spec PyProof.Rows
structure JD (N:List Str)(esc:cL)(own:List Str)(caps:T7)(N':List Str)(sc:cL):Prop where
 kind:sc.kind=.function
 ndn:(sc.names.map (·.1)).Nodup
 uniq:∀y∈sc.names,y.2=.local->sc.names.lookup y.1=some .local
 nd:N'.Nodup
 eqN:N'=own++caps.map λj=>N.getD j ""
 cap:∀j∈caps,j<N.length/\sc.names.lookup (N.getD j "")=some .free
 fr:∀y∈sc.names,y.2=.free->esc.names.lookup y.1=some .cell\/esc.names.lookup y.1=some .free
def JX (J:List Str)(q:T7)(M:St):St:=ah J.length none++q.map λj=>(M[j]?).join
theorem X7 {env:Env}:∀(names:List (Str×eP)) (ZE:List (Str×Addr)),(∀y∈names,y.2=.free->∃c,env.cells.lookup y.1=some c)->(∀y c,ZE.lookup y=some c->env.cells.lookup y=some c)->
  ∃cl,(forIn names ZE (λx r=>if (x.2 == fj)=true then (do let c <-cellOf env x.1;pure (cF ((x.1,c)::r))) else pure (cF r)):Sem (List (Str×Addr)))=pure cl/\
   (∀y c,cl.lookup y=some c->env.cells.lookup y=some c)/\(∀y,(∃c,ZE.lookup y=some c)->∃c,cl.lookup y=some c)/\∀y∈names,y.2=.free->∃c,cl.lookup y.1=some c
 | [],ZE,_,M=>⟨ZE,rfl,M,λ_ h=>h,λ_ h=>absurd h (by simp)⟩
 | (n,k)::r,ZE,hn,M=>by
  rw[List.forIn_cons];by_cases hk:k=.free
  ·subst hk
   obtain⟨c,hc⟩:=hn (n,.free) ar rfl;have m5:∀y d,((n,c)::ZE).lookup y=some d->env.cells.lookup y=some d:=λy d e=>by
    rw[cZ] at e;cases q:y == n with
    |true=>rw[q] at e;cases e;rw[beq_iff_eq.mp q];exact hc
    |false=>rw[q] at e;exact M y d e
   obtain⟨cl,e,h1,O,h3⟩:=X7 r ((n,c)::ZE) (λy j=>hn y (ao _ j)) m5;have hh:∀y,(∃d,ZE.lookup y=some d)->∃d,((n,c)::ZE).lookup y=some d:=λy ⟨d,hd⟩=>by
    rw[cZ];cases q:y == n with
    |true=>exact⟨c,rfl⟩
    |false=>exact⟨d,hd⟩
   have hs:∃d,((n,c)::ZE).lookup n=some d:=⟨c,by rw[cZ,beq_self_eq_true]⟩;refine⟨cl,?_,h1,λy j=>O y (hh y j),λy j Y=>?_⟩
   ·have J:cellOf env n=pure c:=by simp only[cellOf,hc]
    simp only[beq_self_eq_true,if_true,J];simp only[pure_bind];exact e
   ·rcases aD.mp j with rfl|j
    ·exact O _ hs
    ·exact h3 y j Y
  ·obtain⟨cl,e,h1,O,h3⟩:=X7 r ZE (λy j=>hn y (ao _ j)) M
   refine⟨cl,?_,h1,O,λy j Y=>?_⟩
   ·have hb:(k == fj)=false:=by simpa using hk
    simp only[hb,di,if_false,pure_bind];exact e
   ·rcases aD.mp j with rfl|j
    ·exact absurd Y hk
    ·exact h3 y j Y
theorem U7 {scope:cL}{env:Env}(h:∀y∈scope.names,y.2=.free->∃c,env.cells.lookup y.1=some c) :
  ∃cl,closureFor scope env=pure cl/\(∀y c,cl.lookup y=some c->env.cells.lookup y=some c)/\∀y∈scope.names,y.2=.free->∃c,cl.lookup y.1=some c:=by
 obtain⟨cl,e,j,_,J⟩:=X7 (env:=env) scope.names [] h (λy c e=>by simp at e);refine⟨cl,?_,j,J⟩;have q:closureFor scope env=((forIn scope.names ([]:List (Str×Addr)) (λx r=>if (x.2 == fj)=true then (do let c <-cellOf env x.1;pure (cF ((x.1,c)::r))) else pure (cF r)):Sem (List (Str×Addr))) >>= λM=>pure M):=rfl
 rw[q,e];rfl
theorem W9 {names:List (Str×eP)}{x:Str}{k:eP}(h:names.lookup x=some k):(x,k)∈names:=bv h
theorem Wo {env:Env}{x:Str}:∀{names:List (Str×eP)}{k:eP},
  (names.map λ(n,k)=>if (k == fj && env.scope.kind == .function && env.kindOf n == some .cell) then (n,db) else (n,k)).lookup x=some k->
  names.lookup x=some k\/(k=.cell/\names.lookup x=some .free)
 | [],_,h=>by simp at h
 | (n,j)::r,k,h=>by
  have O:=@Wo env x r k;have h:List.lookup x ((if (j == fj && env.scope.kind == .function && env.kindOf n == some .cell)=true then (n,db) else (n,j))::_)=some k:=h
  rw[cZ];by_cases J:(j == fj && env.scope.kind == .function && env.kindOf n == some .cell)=true
  ·rw[if_pos J,cZ] at h
   have M:j=.free:=by
    simp only[ag,beq_iff_eq] at J;exact J.1.1
   cases q:x == n with
   |true=>rw[q] at h;cases h;right;exact⟨rfl,by rw[M]⟩
   |false=>rw[q] at h;exact O h
  ·rw[if_neg J,cZ] at h
   cases q:x == n with
   |true=>rw[q] at h;cases h;left;rfl
   |false=>rw[q] at h;exact O h
section
variable {X:Cx}
def Zjl (scope:cL)(x:Str):Bool:=scope.names.any λy=>y.1 == x && (match y.2 with | .cell=>true|_=>false)
theorem ZgL {scope:cL}{x:Str}(h:Zjl scope x=true):(x,db)∈scope.names:=by
 unfold Zjl at h;obtain⟨⟨n,k⟩,hm,j⟩:=aU.mp h;rw[ag] at j;obtain⟨q,J⟩:=j;have e:n=x:=by simpa using q
 subst e;cases k <;> first|exact hm|cases J
theorem VH {x:Str}{k:eP}:∀{names:List (Str×eP)},(names.map (·.1)).Nodup->(x,k)∈names->names.lookup x=some k
 | [],_,h=>by cases h
 | (n,j)::r,nd,h=>by
  rw[aN,bN] at nd;rw[cZ];rcases aD.mp h with e|h
  ·cases e
   simp
  ·have:(x == n)=false:=by
    refine gy.mpr λz=>nd.1 ?_;rw[<-beq_iff_eq.mp z];exact aE.mpr ⟨_,h,rfl⟩
   rw[this];exact VH nd.2 h
theorem XF:∀(names:List (Str×eP)) (n:Nat) (ZE:List (Str×Addr)),cellsFrom n names ZE=cellsFrom n names []++ZE
 | [],n,ZE=>rfl
 |(x,k)::r,n,ZE=>by
  unfold cellsFrom;by_cases j:(k == db)=true
  ·rw[if_pos j,if_pos j,XF r (n+1) ((x,n)::ZE),XF r (n+1) [(x,n)],gx]
   rfl
  ·rw[if_neg j,if_neg j,XF r n ZE]
theorem VO {x:Str}{c:Addr}:∀(names:List (Str×eP)) (n:Nat) (ZE:List (Str×Addr)),(x,c)∈cellsFrom n names ZE->(x,db)∈names\/(x,c)∈ZE
 | [],n,ZE,h=>.inr h
 | (y,k)::r,n,ZE,h=>by
  unfold cellsFrom at h;by_cases j:(k == db)=true
  ·rw[if_pos j] at h
   rcases VO r (n+1) _ h with z|z
   ·exact .inl (ao _ z)
   ·rcases aD.mp z with e|z
    ·cases e
     have:k=.cell:=by cases k <;> first|rfl|cases j
     rw[this];exact .inl ar
    ·exact .inr z
  ·rw[if_neg j] at h
   rcases VO r n _ h with z|z
   ·exact .inl (ao _ z)
   ·exact .inr z
theorem ZkW {M:Model}{A:Around}{E:TY}{s:Shared}{scope:cL}{globals:Addr}{cl:List (Str×Addr)}{qual:Str}{j:Env}{Q:Env->Shared->Prop}
  (Y:Q (newEnv scope s.heap.objs.size globals (cellsFrom (s.heap.objs.size+1) scope.names cl) qual none .none (some j) builtinsNs) {s with heap:=pushCells (s.heap.push {cls:=.type "dict",data:=.dict #[]}) scope.names}) :
  wpAny M A (newFunctionEnv scope globals cl [] qual none .none (some j)) Q E s:=by
 unfold newFunctionEnv;refine Zl (wpAny_alloc ?_);refine Zl (wpAny_layCells _ (λO kind q=>by cases J:kind == db <;> simp[J]) _ _ _ _ ?_)
 rw[show ({s with heap:=s.heap.push {cls:=.type (if (some j).isSome=true then "dict" else "frame"),data:=.dict #[]}}:Shared).heap.objs.size=s.heap.objs.size+1 from bW ..]
 exact Zl (by rw[List.forIn_nil];exact Zm (Zm Y))
def Y5 (X:Cx)(scope:cL)(j:List (Str×Addr))(q:List Str)(C:Addr)(s:Shared)(H:Hp)(ex:TW):Cx:=
 {X with N:=q,s₀:=s,H₀:=H,env:=compEnvC scope j C X.env,outer:=X.stack,ex:=ex,fn:=Zjl scope,pn:=[],xe:=λ_ _=>False}
def Jh (m5:List Str)(q:T7)(g:TG)(tc:TT)(te:TE)(σ:St)(Q:VK)(J:It)(H1:Hp):Prop:=∀D,H1 D=none->
 ∃W:Nat->Nat->St->Hp->Prop,(∃m,W 0 m (JX m5 q σ) (upd H1 D (.lst [])))/\∀i m M O,W i m M O->
  (J.stop i O/\Q (.ref D) O)\/(J.go i O/\∃N:St->Hp->Prop,(∀ Y H2,N Y H2->∃m',m'<m/\W (i+1) m' Y H2)/\∀x H2,J.yld i O x H2->g x M H2 λj H3=>tc j H3 λb H4=>
   if b=true then te j H4 λv H5=>∃xs,H5 D=some (.lst xs)/\xs.length<sizeLine/\N j (upd H5 D (.lst (xs++[v]))) else N j H4)
def ZeG (q:List Str)(j:T7)(O:TI)(g:TG)(Y:TT)(te:TE):TE:=λM H Q=>O M H λJ H1=>Jh q j g Y te M Q J H1
def WM:TT:=λ_ H Q=>Q true H
def PIf (X:Cx)(q:List Expr)(t:TT):Prop:=
 ∀(j:List (Addr×Obj)) (s:Shared) (J:St) (H:Hp) (Q:Bool->Hp->Prop),Inv X j J H s->t J H Q->
  wpAny (model X.prog X.w) X.A (forIn q true λc r=>if r=true then do let ok <-isTrue c X.env (eval c X.env);pure (cF ok) else pure (cF r)) (TP X j J Q) X.xe s
theorem ZM:PIf X [] WM:=λ_ _ _ H _ I h=>wpAny_tests_nil ⟨H,I,h⟩
theorem Zbz {c:Expr}{t:TT}(h:PT X c t):PIf X [c] t:=λj s J H Q I q=>wpAny_tests_one (h j s J H Q I q)
theorem Xk {prog:Program}{w:World}{A:Around}{R:Result->Shared->Prop}{s:Shared}{elt j iter:Expr}{ifs:List Expr}{scope:cL}{pos:Pos}{it ZE:Value}{env:Env}(I:Nat->Shared->Prop)
  (turn:∀n s,I n s->wpAny (model prog w) A (pyNext it) (λr q=>match r with
   |none=>R (.ok .next) q
   |some v=>wpAny (model prog w) A (letOwnedTupleGo j it v) (λ_ J=>wpAny (model prog w) A (assign j env v) (λ_ Y=>
     wpAny (model prog w) A (forIn ifs true λc r=>if r=true then do let ok <-isTrue c env (eval c env);pure (cF ok) else pure (cF r)) (λok M=>
      if ok=true then wpAny (model prog w) A (eval elt env) (λx m5=>
       wpAny (model prog w) A (call (.builtin "list.append") [ZE,x]) (λ_ m6=>∃m,m<n/\I m m6) (λ_ _=>False) m5) (λ_ _=>False) M
      else ∃m,m<n/\I m M) (λ_ _=>False) Y) (λ_ _=>False) J) (λ_ _=>False) q) (λ_ _=>False) s)
  (n:Nat) (h:I n s) :
  codeAny (model prog w) A (.compLoop (.ListComp elt [⟨j,iter,ifs,0⟩] scope pos) 0 it ZE env) R s:=by
 refine codeAny_loop rfl I (λn s hI=>?_) n h;show wpAny _ A ((compTurn (.ListComp elt [⟨j,iter,ifs,0⟩] scope pos) 0 it ZE env).onRaise (λx=>do noteFrame x env;theTreesLotGoes x)) _ _ s
 refine wpAny_noted ?_;rw[compTurn_list];refine Zl (jg (Zl (cr (turn n s hI) (λr q m8=>?_) λ_ _ O=>O.elim)));cases r with
 |none=>exact Zm m8
 |some v=>
  refine Zl (cr m8 (λ_ J n8=>?_) λ_ _ O=>O.elim);refine Zl (cr n8 (λ_ Y n9=>Zl (cr n9 (λok M n6=>?_) λ_ _ O=>O.elim)) λ_ _ O=>O.elim);cases ok with
  |false=>exact Zm ⟨rfl,n6⟩
  |true=>
   exact Zl (Zl (cr n6 (λx m5 o0=>Zl (cr o0 (λ_ m6 o7=>Zm (Zm ⟨rfl,o7⟩)) λ_ _ O=>O.elim)) λ_ _ O=>O.elim))
theorem U2 {own:List Str}{o9:T7}{N':List Str}{esc scope:cL}{elt iter tg:Expr}{ifs:List Expr}{pos:Pos}{g:TG}{tc:TT}{te:TE}{cl:List (Str×Addr)}
  (hesc:X.env.scope=esc) (S:JD X.N esc own o9 N' scope) (hc:X.calm=true)
  (m6:∀y c,cl.lookup y=some c->X.env.cells.lookup y=some c) (t7:∀y∈scope.names,y.2=.free->∃c,cl.lookup y.1=some c)
  (hg:∀cl C s H ex,PG (Y5 X scope cl N' C s H ex) tg g) (ht:∀cl C s H ex,PIf (Y5 X scope cl N' C s H ex) ifs tc) (he:∀cl C s H ex,PE (Y5 X scope cl N' C s H ex) elt te)
  {n6:List (Addr×Obj)}{σ:St}{H2:Hp}{s2:Shared}{it:Addr}{fp:TW}{tn:Nat->Heap->Prop}{J:It}{Q:VK}{RR:Value->Addr->Result->Shared->Prop}{E:TY}
  (I2:Inv X n6 σ H2 s2) (T:Zar X.prog X.w X.K tg J fp it tn) (u9:tn 0 s2.heap) (f2:∀b∈fp,Zat X n6 H2 b)
  (h:Jh own o9 g tc te σ Q J H2)
  (hRR:∀D C s' m H',s'.heap.Ns C m->C≠X.env.locals->(∀x c,X.env.cells.lookup x=some c->c≠C)->X.s₀.heap.objs.size<=C->(∀p∈X.pn++n6,p.1≠C)->H' C=none->Q (.ref D) H'->(∀h',bj C s'.heap h'->Inv X n6 σ H' {s' with heap:=h'})->RR (.ref D) C (.ok .next) s') :
  wpAny (model X.prog X.w) X.A (newList []) (λZE s₃=>wpAny (model X.prog X.w) X.A (newFunctionEnv scope X.env.globals cl [] X.env.qual none .none (some X.env)) (λt8 s₄=>
   codeAny (model X.prog X.w) X.A (.compStart (.ListComp elt [⟨tg,iter,ifs,0⟩] scope pos) 0 (.ref it) ZE {t8 with scope:=relabel scope X.env}) (RR ZE t8.locals) s₄) E s₃) E s2:=by
 refine bE (ZkW ?_)
 try dsimp only
 have hD:H2 s2.heap.objs.size=none:=I2.hok.fresh (Zq _);obtain⟨W,⟨m0,w0⟩,turn⟩:=h _ hD;generalize w8:s2.heap.push {cls:=.type "list",dict:=none,data:=.seq ([]:List Value).toArray}=O;have hC:O.objs.size=s2.heap.objs.size+1:=by rw[<-w8,bW]
 have t9:∀b o,s2.heap.get? b=some o->O.get? b=some o:=λb o e=>w8▸Zn _ e;have I3:Inv X n6 σ (upd H2 s2.heap.objs.size (.lst [])) {s2 with heap:=O,toks:=s2.toks}:=
  I2.laid (t':=s2.toks) t9 (Zq _) ⟨a5 _,[],0,.nil,w8▸Zo _ rfl⟩
 generalize w9:pushCells (O.push {cls:=.type "dict",data:=.dict #[]}) scope.names=n8;have k1:∀b o,O.get? b=some o->n8.get? b=some o:=λb o e=>w9▸pushCells_keeps _ _ b o (Zn _ e);have p8:n8.Ns O.objs.size (λ_=>none):=w9▸(Heap.Ns.new O (.type "dict")).keeps (pushCells_keeps _ _);have q0:CellsOk n8 (O.objs.size+1) (cellsFrom (O.objs.size+1) scope.names []):=by
  have q:=cellsFrom_ok scope.names (O.push {cls:=.type "dict",data:=.dict #[]}) (O.objs.size+1) [] ⟨λ_ _ hm=>(nomatch hm),eK⟩ (by rw[bW];exact Zq _);rw[bW,w9] at q;exact q
 have p3:cellsFrom (O.objs.size+1) scope.names cl=cellsFrom (O.objs.size+1) scope.names []++cl:=XF _ _ _;have o0:∀y,scope.names.lookup y=some .cell->∃c,(cellsFrom (O.objs.size+1) scope.names []).lookup y=some c:=λy hy=>gf.mp (gK scope.names (O.objs.size+1) [] (.inl hy));generalize hcA:cellsFrom (O.objs.size+1) scope.names []=cA at q0 p3 o0;have memA:∀y c,cA.lookup y=some c->(y,db)∈scope.names:=λy c e=>by
  have:=bv e;rw[<-hcA] at this;rcases VO _ _ _ this with z|z
  ·exact z
  ·cases z
 generalize hcE:cellsFrom (O.objs.size+1) scope.names cl=cE at p3;have p4:∀y c,cE.lookup y=some c->cA.lookup y=some c\/(cA.lookup y=none/\cl.lookup y=some c):=λy c e=>by
  rw[p3,iQ] at e;cases q:cA.lookup y with
  |none=>rw[q] at e;exact .inr ⟨rfl,by simpa using e⟩
  |some c'=>rw[q] at e;exact .inl (by simpa using e)
 have lkF:∀y c,scope.names.lookup y=some .free->cl.lookup y=some c->cE.lookup y=some c:=λy c hy e=>by
  rw[p3,iQ];cases q:cA.lookup y with
  |none=>simpa using e
  |some c'=>
   have:=VH S.ndn (memA y c' q);rw[hy] at this;cases this
 have fpn:∀b∈fp,upd H2 s2.heap.objs.size (.lst []) b=none:=λb hb=>by
  obtain⟨o,ho,_⟩:=T.obj _ _ u9 b hb;rw[Zz (ay (Zp ho))];exact (f2 b hb).1
 have p6:∀b∈fp,b<O.objs.size:=λb hb=>by
  obtain⟨o,ho,_⟩:=T.obj _ _ u9 b hb;rw[hC];exact fm (Zp ho)
 generalize M:Y5 X scope cE N' O.objs.size {s2 with heap:=O,toks:=s2.toks} (upd H2 s2.heap.objs.size (.lst [])) fp=X';have hfs:X'.fs=frs X.stack:=by rw[<-M];rfl
 have x9:∀y,X'.env.kindOf y=some .cell\/X'.env.kindOf y=some .free->∃c,cE.lookup y=some c:=λy hy=>by
  have hy':(relabel scope X.env).names.lookup y=some .cell\/(relabel scope X.env).names.lookup y=some .free:=by rw[<-M] at hy;exact hy
  have hf:scope.names.lookup y=some .free->∃c,cE.lookup y=some c:=λhf=>by
   obtain⟨c,o7⟩:=t7 _ (W9 hf) rfl;exact⟨c,lkF y c hf o7⟩
  have r6:scope.names.lookup y=some .cell->∃c,cE.lookup y=some c:=λhf=>by
   obtain⟨c,o7⟩:=o0 y hf;exact⟨c,by rw[p3,iQ,o7];rfl⟩
  rcases hy' with q|q
  ·rcases Wo q with z|z
   ·exact r6 z
   ·exact hf z.2
  ·rcases Wo q with z|z
   ·exact hf z
   ·exact absurd z.1 (by decide)
 have m8:X'.env.cells=cE:=by rw[<-M];rfl
 have n9:X'.env.locals=O.objs.size:=by rw[<-M];rfl
 have cne:∀x c,cl.lookup x=some c->c≠O.objs.size/\c<O.objs.size:=λx c e=>by
  obtain⟨v,q⟩:=I3.cell x c (m6 x c e);exact⟨ay q.lt,q.lt⟩
 have Y:∀x c,cA.lookup x=some c->O.objs.size+1<=c:=λx c e=>(q0.empty x c (bv e)).2;have injE:∀x y c,cE.lookup x=some c->cE.lookup y=some c->x=y:=λx y c a b=>by
  rcases p4 x c a with a|⟨_,a⟩ <;> rcases p4 y c b with b|⟨_,b⟩
  ·exact name_of_addr q0.apart (bv a) (bv b)
  ·have h1:O.objs.size+1<=c:=Y x c a
   exact absurd (aC (cne y c b).2 (dJ h1)) (bK _)
  ·have h1:O.objs.size+1<=c:=Y y c b
   exact absurd (aC (cne x c a).2 (dJ h1)) (bK _)
  ·exact I3.ok.inj x y c (m6 x c a) (m6 y c b)
 have ok':X'.Ok:=by
  refine M▸⟨I3.ok.mod,S.kind,I3.ok.glob,I3.ok.blt,Zq _,injE,?_,?cab,I3.ok.hd,I3.ok.frames,.inl rfl,?_,?_,?_,?_,?_,I3.stack,I3.stkFree⟩
  ·intro y hy
   exact x9 y (by rw[<-M];exact hy)
  ·intro x c z e
   have hm:=VH S.ndn (ZgL z);rcases p4 x c e with e|⟨n,_⟩
   ·exact dJ (Y x c e)
   ·obtain⟨c',o7⟩:=o0 x hm
    rw[n] at o7;cases o7
  ·intro b hb
   refine⟨ay (p6 b hb),λx c e=>?_⟩;rcases p4 x c e with e|⟨_,e⟩
   ·have h1:O.objs.size+1<=c:=Y x c e
    exact λz=>absurd (aC (p6 b hb) (dJ h1)) (by rw[z];exact bK _)
   ·exact (f2 b hb).2.2.2.2.1 x c (m6 x c e)
  ·exact I3.bs
  ·exact a8 I3.ok.bsz I3.sz
  ·intro b o e hb
   rcases (f2 b hb).2.2.2.1 with z|z
   ·exact I3.ok.noex b o e z
   ·exact absurd (aC (Zp e) (a8 I3.ok.bsz z)) (bK _)
  ·intro b hb z
   rcases aD.mp (I3.stkSub b z) with e|e
   ·exact (f2 b hb).2.1 e
   ·exact (f2 b hb).2.2.1 e
 have I4:Inv X' [] (JX own o9 σ) (upd H2 s2.heap.objs.size (.lst [])) {s2 with heap:=n8,toks:=s2.toks}:=by
  refine⟨ok',M▸rfl,I3.bare,?_,⟨_,by rw[n9];exact p8,?_⟩,?_,?_,?_,?_,?_,?_⟩
  ·rw[<-M];exact Un.kept k1
  ·intro i x v hN o8 hV
   have y4:N'[i]?=some x:=by rw[<-M] at hN;exact hN
   unfold JX at o8;by_cases hi:i<own.length
   ·rw[aq (by simpa using hi),bz] at o8
    rw[if_pos hi] at o8;cases o8
   ·rw[au (by simpa using hi),Ze,Zc] at o8
    rw[S.eqN,au (by omega),Zc] at y4;cases hj:o9[i-own.length]? with
    |none=>rw[hj] at o8;cases o8
    |some j=>
     rw[hj] at o8 y4;have hx:X.N.getD j ""=x:=aA y4;obtain⟨hjl,p7⟩:=S.cap j (aB hj);rw[hx] at p7;have hjN:X.N[j]?=some x:=by
      rw[Zf hjl,<-hx,Zb,Zf hjl];rfl
     have hv:σ[j]?=some (some v):=by
      have q:(σ[j]?).join=some v:=aA o8;cases q':σ[j]? with
      |none=>rw[q'] at q;cases q
      |some o=>rw[q'] at q;rw[show o=some v from q]
     have y6:=S.fr (x,.free) (W9 p7) rfl;rw[<-hesc] at y6;obtain⟨m,hn,hl⟩:=I3.loc;have visX:Vis X.env.scope x:=y6.elim (λz=>.inr (.inl z)) λz=>.inr (.inr z);obtain⟨u,ru,look⟩:=hl j x v hjN hv visX;refine⟨u,ru,?_⟩;obtain⟨c,r6⟩:=t7 (x,.free) (W9 p7) rfl;rcases look with ⟨a,_⟩|⟨_,c',o7,y8⟩
     ·rcases y6 with z|z
      ·rw[show X.env.kindOf x=X.env.scope.names.lookup x from rfl,z] at a;cases a
      ·rw[show X.env.kindOf x=X.env.scope.names.lookup x from rfl,z] at a;cases a
     ·have:c'=c:=by rw[m6 _ _ r6] at o7;cases o7;rfl
      subst this;refine .inr ⟨?_,c',by rw[m8];exact lkF _ _ p7 r6,y8.keeps k1⟩;rcases hV with q|q|q
      ·have q':(relabel scope X.env).names.lookup x=some .local:=by rw[<-M] at q;exact q
       rcases Wo q' with z|z
       ·rw[p7] at z;cases z
       ·exact absurd z.1 (by decide)
      ·exact .inl q
      ·exact .inr q
  ·intro x c e
   rw[m8] at e;rcases p4 x c e with e|⟨_,e⟩
   ·exact⟨_,(q0.empty x c (bv e)).1⟩
   ·obtain⟨v,q⟩:=I3.cell x c (m6 x c e)
    exact⟨v,q.keeps k1⟩
  ·rw[n9];exact I3.hok.fresh (Zq _)
  ·intro x c e
   rw[m8] at e;rcases p4 x c e with e|⟨_,e⟩
   ·exact I3.hok.fresh (dJ (Y x c e))
   ·exact I3.freeC x c (m6 x c e)
  ·intro p hp
   have:p∈([]:List (Addr×Obj)):=by rw[<-M] at hp;exact hp
   cases this
  ·rw[<-M];exact I3.hok.kept k1
  ·rw[<-M]
   show (JX own o9 σ).length=N'.length;unfold JX;rw[S.eqN,Zd,Zd,Ze,Za,Za]
 have pX:X'.prog=X.prog:=by rw[<-M];rfl
 have wX:X'.w=X.w:=by rw[<-M];rfl
 have KX:X'.K=X.K:=by rw[<-M];rfl
 have AX:X'.A=X.A:=by rw[<-M];rfl
 have cX:X'.calm=true:=by rw[<-M];exact hc
 have xX:X'.xe=λ_ _=>False:=by rw[<-M];rfl
 have envX:X'.env=compEnvC scope cE O.objs.size X.env:=by rw[<-M];rfl
 have exX:X'.ex=fp:=by rw[<-M];rfl
 have hg':PG X' tg g:=M▸hg _ _ _ _ _;have ht':PIf X' ifs tc:=M▸ht _ _ _ _ _;have he':PE X' elt te:=M▸he _ _ _ _ _;have y9:∀{H':Hp},(∀b∈fp,H' b=none)->∀b∈fp,Zat X' [] H' b:=λ{H'} hn b hb=>by
  refine⟨hn b hb,?_,?_,?_,?_,?_⟩
  ·rw[n9];exact ay (p6 b hb)
  ·rw[hfs];intro z
   rcases aD.mp (I3.stkSub b z) with e|e
   ·exact (f2 b hb).2.1 e
   ·exact (f2 b hb).2.2.1 e
  ·rw[exX];exact .inl hb
  ·intro x c e
   rw[m8] at e;rcases p4 x c e with e|⟨_,e⟩
   ·have h1:O.objs.size+1<=c:=Y x c e
    exact λz=>absurd (aC (p6 b hb) (dJ h1)) (by rw[z];exact bK _)
   ·exact (f2 b hb).2.2.2.2.1 x c (m6 x c e)
  ·intro p hp
   have:p∈([]:List (Addr×Obj)):=by rw[<-M] at hp;exact hp
   cases this
 have st1:tn 0 n8:=T.keep _ _ _ u9 λb hb o e=>k1 b o (t9 b o e);have back:∀{m5:St}{H':Hp}{s':Shared}{pp:List (Addr×Obj)}{h':Heap},Inv X' pp m5 H' s'->bj O.objs.size s'.heap h'->Inv X n6 σ H' {s' with heap:=h'}:=λ{m5 H' s' pp h'} I' sb=>by
  have u:=I'.base;rw[hfs,exX] at u;have hs0:X'.s₀.heap=O:=by rw[<-M];rfl
  have hH0:X'.H₀=upd H2 s2.heap.objs.size (.lst []):=by rw[<-M];rfl
  rw[hs0,hH0] at u;have ne:∀b o,O.get? b=some o->b≠O.objs.size:=λb o e=>ay (Zp e);have hCn:H' O.objs.size=none:=by have:=I'.free;rw[n9] at this;exact this
  refine I3.call' (s':={s' with heap:=h'}) (ch:=fp) ?_ ⟨?_,?_,?_,?_,?_,?_,?_⟩ ?_ I'.bare ?_
  ·have:=I'.os;rw[<-M] at this;exact this
  ·intro b o e n hb hx;exact sb.extBut b o (ne b o e) (u.keep b o e n hb hx)
  ·intro b o e n hb hx
   obtain⟨sl,q⟩:=u.slot b o e n hb hx;exact⟨sl,sb.extBut b _ (ne b o e) q⟩
  ·exact u.free
  ·intro b o e hx
   obtain⟨o',q⟩:=u.there b o e hx;exact⟨o',sb.extBut b _ (ne b o e) q⟩
  ·exact u.tups
  ·exact u.frzs
  ·exact u.tbls
  ·have hok:=I'.hok
   rw[pX,wX] at hok;intro a o e;refine (hok a o e).stay (λb v hb r=>sb.extBut b v ?_ r) (λb r=>r) λb xs r=>r;rcases hb with rfl|hb
   ·intro z;rw[z,hCn] at e;cases e
   ·intro z;rw[z,hCn] at hb;cases hb
  ·intro b hb
   refine⟨(f2 b hb).2.2.2.1,(f2 b hb).2.1,(f2 b hb).2.2.2.2.1,(f2 b hb).2.2.2.2.2⟩
 have u5:∀s3:Shared,s3={s2 with heap:=n8,toks:=s2.toks}->
   codeAny (model X.prog X.w) X.A (.compLoop (.ListComp elt [⟨tg,iter,ifs,0⟩] scope pos) 0 (.ref it) (.ref s2.heap.objs.size) (compEnvC scope cE O.objs.size X.env)) (RR (.ref s2.heap.objs.size) O.objs.size) s3:=by
  rintro s3 rfl;refine Xk (λn s'=>∃i m5 H',Inv X' [] m5 H' s'/\tn i s'.heap/\(∀b∈fp,H' b=none)/\W i n m5 H') ?_ m0 ⟨0,_,_,I4,st1,fpn,w0⟩;rintro n s5 ⟨i,r8,H5,I5,st5,fr5,w5⟩;rcases turn i n r8 H5 w5 with ⟨stop,qn⟩|⟨go,N,hN,step⟩
  ·have q:=T.done X' pX wX KX cX i [] s5 r8 H5 (λ_ _=>False) I5 (y9 fr5) st5 stop
   rw[AX] at q;refine Yw q λr s6 ⟨hr,I6⟩=>?_;subst hr;obtain⟨m,hn,_⟩:=I6.loc;rw[n9] at hn;refine hRR _ _ s6 m H5 hn ?_ ?_ I3.sz ?_ ?_ qn λh' sb=>back I6 sb
   ·exact bq I3.lt
   ·intro x c e
    obtain⟨v,q⟩:=I3.cell x c e;exact ay q.lt
   ·intro pp hpp
    exact ay (Zp (I3.pin pp hpp).1)
   ·have:=I6.free;rw[n9] at this;exact this
  ·have q:=T.item X' pX wX KX cX i [] s5 r8 H5 (λ_ _=>False) I5 (y9 fr5) st5 go
   rw[AX] at q;refine Yw q λr s6 ⟨u,hr,h6⟩=>?_;subst hr;refine Yw h6 λ_ s7 ⟨x,H7,I7,r7,y7,st7,fr7⟩=>?_;have I7':=I7.pinned (y9 fr7) (T.obj _ _ st7);have q8:=hg' _ s7 r8 H7 x u _ I7' r7 (step x H7 y7);rw[pX,wX,AX,envX,xX] at q8;refine Yw q8 λ_ s8 ⟨r9,H8,I8,q8⟩=>?_;have q9:=ht' _ s8 r9 H8 _ I8 q8;rw[pX,wX,AX,envX,xX] at q9;have again:∀{m5:St}{H':Hp}{s':Shared},Inv X' ([]++UH fp s7.heap) m5 H' s'->N m5 H'->∃m,m<n/\∃i m5 H',Inv X' [] m5 H' s'/\tn i s'.heap/\(∀b∈fp,H' b=none)/\W i m m5 H':=λ{m5 H' s'} I' n'=>by
    obtain⟨m',hm,w'⟩:=hN m5 H' n';refine⟨m',hm,i+1,m5,H',I'.unpinned,T.keep _ _ _ st7 λb hb o e=>(I'.pin (b,o) (aP _ (aP _ (JM hb e)))).1,λb hb=>?_,w'⟩;obtain⟨o,e,d⟩:=T.obj _ _ st7 b hb;exact (I'.pin (b,o) (aP _ (aP _ (JM hb e)))).2.1
   refine Yw q9 λok s9 ⟨H9,I9,q9⟩=>?_;cases ok with
   |false=>
    simp only[di,if_false] at q9 ⊢;exact again I9 q9
   |true=>
    simp only[if_true] at q9 ⊢;have t5:=he' _ s9 r9 H9 _ I9 q9;rw[pX,wX,AX,envX,xX] at t5;refine Yw t5 λy s10 ⟨v,H10,I10,rv,xs,hxs,hz,t5⟩=>?_;have t6:=Ye (X:=X') _ s10 r9 H10 (.ref s2.heap.objs.size) [v] (.ref s2.heap.objs.size) [y] (λ_ H'=>N r9 H') I10 rfl (.cons rv .nil) ⟨_,xs,v,rfl,rfl,hxs,hz,t5⟩;rw[pX,wX,AX,xX] at t6;exact Yw t6 λ_ s11 ⟨_,H11,I11,_,t6⟩=>again I11 t6
 exact codeAny_compStart_list (u5 _ rfl) (T.self _ 0 _ _ _ st1 (u5 _ rfl))
theorem Zks {own:List Str}{j:T7}{N':List Str}{m5 scope:cL}{elt iter tg:Expr}{ifs:List Expr}{pos:Pos}{wi:TI}{g:TG}{tc:TT}{te:TE}
  (M:X.env.scope=m5) (S:JD X.N m5 own j N' scope) (hc:X.calm=true) (hi:PI X tg iter wi)
  (hg:∀Y C s H ex,PG (Y5 X scope Y N' C s H ex) tg g) (ht:∀Y C s H ex,PIf (Y5 X scope Y N' C s H ex) ifs tc) (he:∀Y C s H ex,PE (Y5 X scope Y N' C s H ex) elt te)
  (hs:∀x,foldedSetIterable iter X.env x=pure x:=by intro _;rfl) :
  PE X (.ListComp elt [⟨tg,iter,ifs,0⟩] scope pos) (ZeG own j wi g tc te):=by
 intro O s σ H Q I h;obtain⟨Y,n6,m6,m8⟩:=U7 (scope:=scope) (env:=X.env) λy hy hf=>by
  have:=S.fr y hy hf;rw[<-M] at this;exact I.ok.has y.1 this
 rw[eval_ListComp];refine lD (use:=none) rfl hs n6 S.kind S.uniq (Yw (hi O s σ H _ I h) λv s1 h1=>Yw h1 λn9 s2 h2=>?_);obtain⟨it,fp,tn,J,H2,e,I2,T,n8,f2,q⟩:=h2;subst e;refine U2 (RR:=λZE C=>compPost (model X.prog X.w) X.A X.xe none (EP X O σ Q) ZE C) M S hc m6 m8 hg ht he I2 T n8 f2 q ?_;intro D C s' m H' hn _ _ _ _ _ q' hb;exact⟨m,hn,λh' sb=>⟨.ref D,H',hb h' sb,rfl,q'⟩⟩
theorem Zea {own:List Str}{M:T7}{N':List Str}{m5 scope:cL}{elt iter tg:Expr}{ifs:List Expr}{pos O py:Pos}{y:Str}{i:Nat}{wi:TI}{g:TG}{tc:TT}{te:TE}
  (Y:X.env.scope=m5) (S:JD X.N m5 own M N' scope) (hc:X.calm=true) (hi:PI X tg iter wi)
  (hg:∀cl C s H ex,PG (Y5 X scope cl N' C s H ex) tg g) (ht:∀cl C s H ex,PIf (Y5 X scope cl N' C s H ex) ifs tc) (he:∀cl C s H ex,PE (Y5 X scope cl N' C s H ex) elt te)
  (hN:X.N.Nodup) (hy:X.N[i]?=some y) (hx:Loc X.env.scope y) (hf:X.fn y=true\/X.env.scope.names.lookup y=some .local)
  (n9:swapsWith (.ListComp elt [⟨tg,iter,ifs,0⟩] scope pos) (some (.Name y py)) O.line X.env=pure true)
  (hs:∀x,foldedSetIterable iter X.env x=pure x:=by intro _;rfl) :
  PS X (.Assign [.Name y py] (.ListComp elt [⟨tg,iter,ifs,0⟩] scope pos) O) (ZdI (ZeG own M wi g tc te) (Yj i)):=by
 intro j s σ H D0 I h;obtain⟨cl,o0,m6,m8⟩:=U7 (scope:=scope) (env:=X.env) λy hy hf=>by
  have:=S.fr y hy hf;rw[<-Y] at this;exact I.ok.has y.1 this
 rw[exec_Assign_Name_used _ _ _ _ n9];refine Zl (jg (Zl ?_));show wpAny _ X.A (do let _ <-comprehension (.ListComp elt [⟨tg,iter,ifs,0⟩] scope pos) scope X.env _ (newList []) false (eval iter X.env) (some (assign (.Name y py) X.env))) _ _ s
 refine Zl (cr (lD (use:=some (assign (.Name y py) X.env)) (Q:=λ_ s'=>SP X j D0 .next s') rfl hs o0 S.kind S.uniq
  (Yw (hi j s σ H _ I h) λv s1 h1=>Yw h1 λq0 s2 h2=>?_)) (λ_ s' hq=>Zm (Zm hq)) λ_ _ e=>e)
 obtain⟨it,fp,tn,J,H2,e,I2,T,o7,f2,q⟩:=h2;subst e;refine U2 (RR:=λZE C=>compPost (model X.prog X.w) X.A X.xe (some (assign (.Name y py) X.env)) (λ_ s'=>SP X j D0 .next s') ZE C) Y S hc m6 m8 hg ht he I2 T o7 f2 q ?_;intro D C s' m H' hn n6 n8 o8 o9 p3 q' hb;have I':Inv X j σ H' s':=hb s'.heap (.refl ..);show wpAny _ X.A (assign (.Name y py) X.env (.ref D)) _ _ s';refine wpAny_assign_Name (Zaz I' hN hy hx (v:=.ref D) rfl (λp4 p6 ⟨a,sb,ha⟩=>?_) hf);have p7:C≠a:=by
  rcases ha with rfl|ha
  ·exact n6
  ·exact λz=>n8 y a ha z.symm
 refine⟨m,hn.sameBut sb p7,λh' p8=>⟨_,H',?_,q'⟩⟩;exact p6.turned (t':=p4.toks) (λb o hb e=>p8.extBut b o hb e) p3 n6 (.inr o8) n8 o9
end
section
variable {κ:Type} [DecidableEq κ]
def YZ (j:List (κ×V))(k:κ):TU:=(j.find? λq=>decide (q.1=k)).map (·.2)
def WP (j:List (κ×V))(k:κ)(v:V):List (κ×V):=
 if (j.any λq=>decide (q.1=k))=true then j.map (λq=>if q.1=k then (q.1,v) else q) else j++[(k,v)]
theorem YW {p:κ×V}{r:List (κ×V)}{k:κ}(e:p.1=k):YZ (p::r) k=some p.2:=by simp[YZ,eW,e]
theorem YX {p:κ×V}{r:List (κ×V)}{k:κ}(e:¬p.1=k):YZ (p::r) k=YZ r k:=by simp[YZ,eW,e]
theorem WX (k:κ):∀j:List (κ×V),(j.any λq=>decide (q.1=k))=(YZ j k).isSome
 | []=>rfl
 |p::r=>by
  rw[cR];by_cases e:p.1=k
  ·simp only[YW e,decide_eq_true e,Bool.true_or,Option.isSome_some]
  ·rw[YX e,decide_eq_false e,fF];exact WX k r
theorem Zcq (k j:κ)(y:V):∀q:List (κ×V),YZ (q.map λJ=>if J.1=k then (J.1,y) else J) j=(YZ q j).map λx=>if j=k then y else x
 | []=>rfl
 |p::r=>by
  have M:=Zcq k j y r;rw[aN];by_cases h:p.1=k
  ·rw[if_pos h]
   by_cases e:p.1=j
   ·rw[YW (p:=(p.1,y)) e,YW e,dh,if_pos (e.symm.trans h)]
   ·rw[YX (p:=(p.1,y)) e,YX e,M]
  ·rw[if_neg h]
   by_cases e:p.1=j
   ·rw[YW (p:=p) e,YW e,dh,if_neg (λz=>h (e.trans z))]
   ·rw[YX (p:=p) e,YX e,M]
theorem Zaw (k j:κ)(y:V):∀q:List (κ×V),YZ q k=none->YZ (q++[(k,y)]) j=if j=k then some y else YZ q j
 | [],_=>by
  by_cases e:k=j
  ·rw[if_pos e.symm];exact YW (p:=(k,y)) e
  ·rw[if_neg (λz=>e z.symm)];exact YX (p:=(k,y)) e
 |p::r,J=>by
  rw[mR];have M:¬p.1=k:=λz=>by rw[YW z] at J;cases J
  rw[YX M] at J;have O:=Zaw k j y r J;by_cases e:p.1=j
  ·rw[YW e,YW e,if_neg (λz=>M (e.trans z))]
  ·rw[YX e,YX e,O]
theorem Zg1 (J:List (κ×V))(k j:κ)(y:V):YZ (WP J k y) j=if j=k then some y else YZ J j:=by
 unfold WP;by_cases a:(J.any λM=>decide (M.1=k))=true
 ·rw[if_pos a,Zcq]
  rw[WX] at a;by_cases e:j=k
  ·obtain⟨x,O⟩:=gf.mp a
   rw[if_pos e,e,O,dh,if_pos rfl]
  ·rw[if_neg e]
   cases YZ J j with
   |none=>rfl
   |some x=>rw[dh,if_neg e]
 ·rw[if_neg a]
  refine Zaw k j y J ?_;rw[WX] at a;cases q:YZ J k with
  |none=>rfl
  |some x=>rw[q] at a;exact (a rfl).elim
theorem Jl (j:List (κ×V))(k:κ)(v:V):(WP j k v).length<=j.length+1:=by
 unfold WP;split
 ·rw[Za];omega
 ·rw[Zd,Zi,eV];omega
theorem Zh4 {j:List (κ×V)}{k:κ}(v:V)(h:YZ j k=none):WP j k v=j++[(k,v)]:=by
 unfold WP;rw[WX,h];exact if_neg (by decide)
theorem Zas.isSome_eq {o:TU}{u:Option Value}(r:Zas o u):o.isSome=u.isSome:=by
 cases o with
 |none=>cases u with
  |none=>rfl
  |some _=>exact (show False from r).elim
 |some _=>cases u with
  |none=>exact (show False from r).elim
  |some _=>rfl
theorem KV.val {j:List (κ×V)}{vs:List (κ×Value)}(r:KV j vs)(k:κ):Zas (YZ j k) (valueAt vs k):=by
 unfold KV at r;induction r with
 |nil=>exact gY
 | @cons p q ps J h t Y=>
  obtain⟨O,h2⟩:=h;by_cases e:p.1=k
  ·have M:q.1=k:=O.symm.trans e
   have b:valueAt (q::J) k=some q.2:=by simp[valueAt,eW,M]
   rw[YW e,b];exact h2
  ·have M:¬q.1=k:=λz=>e (O.trans z)
   have b:valueAt (q::J) k=valueAt J k:=by simp[valueAt,eW,M]
   rw[YX e,b];exact Y
theorem KV.any {j:List (κ×V)}{vs:List (κ×Value)}(r:KV j vs)(k:κ):(j.any λq=>decide (q.1=k))=vs.any λq=>decide (q.1=k):=by
 unfold KV at r;induction r with
 |nil=>rfl
 |cons h t J=>rw[cR,cR,J,h.1]
theorem KV.repl {J:List (κ×V)}{vs:List (κ×Value)}(r:KV J vs)(k:κ){y:V}{u:Value}(O:RelV y u) :
  KV (J.map λj=>if j.1=k then (j.1,y) else j) (vs.map λj=>if j.1=k then (j.1,u) else j):=by
 unfold KV at r ⊢;induction r with
 |nil=>exact .nil
 | @cons p q ps qs h t Y=>
  rw[aN,aN];refine .cons ?_ Y;obtain⟨M,h2⟩:=h;by_cases e:p.1=k
  ·rw[if_pos e,if_pos (M.symm.trans e)];exact⟨M,O⟩
  ·rw[if_neg e,if_neg (λz=>e (M.trans z))];exact⟨M,h2⟩
theorem KV.put {j:List (κ×V)}{vs:List (κ×Value)}(r:KV j vs)(k:κ){y:V}{u:Value}(q:RelV y u):KV (WP j k y) (stored vs k u):=by
 unfold WP stored;rw[r.any k];by_cases e:(vs.any λJ=>decide (J.1=k))=true
 ·rw[if_pos e,if_pos e];exact r.repl k q
 ·rw[if_neg e,if_neg e];exact Paired.snoc r ⟨rfl,q⟩
theorem KV.length {j:List (κ×V)}{vs:List (κ×Value)}(r:KV j vs):j.length=vs.length:=jK r
end
theorem Zdd {P:Program}{w:World}{k:YQ}{u:Value}(r:RelV (kV k) u):(YN P w).is k u=true:=by
 cases k with
 |inl i=>obtain⟨t,e⟩:=(show ∃t,u=fR i t from r);subst e;exact Zc5 P w i t
 |inr x=>obtain⟨t,e⟩:=(show ∃t,u=mw x t from r);subst e;exact Zc4 P w x t
theorem ZaN {P:Program}{w:World}:∀{j:List YQ}{us:List Value},ZO (j.map kV) us->ItemsAre (YN P w) j us
 | [],_,r=>by rw[fU] at r;cases r;exact .nil
 |k::j,_,r=>by
  rw[aN] at r;cases r with
  |cons h t=>exact .cons (Zdd h) (ZaN t)
noncomputable abbrev KT (H:Hp):List (List YQ×V)->List (List YQ×Addr×Value)->Prop:=kF λp q=>p.1=q.1/\H q.2.1=some (.tup (p.1.map kV))/\RelV p.2 q.2.2
theorem KT.val {H:Hp}{j:List (List YQ×V)}{xs:List (List YQ×Addr×Value)}(r:KT H j xs)(k:List YQ):Zas (YZ j k) ((atKey xs k).map (·.2)):=by
 induction r with
 |nil=>exact gY
 | @cons p q ps J h t Y=>
  obtain⟨O,_,h2⟩:=h;by_cases e:p.1=k
  ·have M:q.1=k:=O.symm.trans e
   have b:atKey (q::J) k=some q.2:=by simp[atKey,eW,M]
   rw[YW e,b];exact h2
  ·have M:¬q.1=k:=λz=>e (O.trans z)
   have b:atKey (q::J) k=atKey J k:=by simp[atKey,eW,M]
   rw[YX e,b];exact Y
theorem KT.repl {H:Hp}{j:List (List YQ×V)}{xs:List (List YQ×Addr×Value)}(r:KT H j xs)(k:List YQ){y:V}{u:Value}(Y:RelV y u) :
  KT H (j.map λM=>if M.1=k then (M.1,y) else M) (xs.map (putAt k u)):=by
 induction r with
 |nil=>exact .nil
 | @cons p q ps qs h t ih=>
  rw[aN,aN];refine .cons ?_ ih;obtain⟨J,O,h3⟩:=h;unfold putAt;by_cases e:p.1=k
  ·rw[if_pos e,if_pos (J.symm.trans e)];exact⟨J,O,Y⟩
  ·rw[if_neg e,if_neg (λz=>e (J.trans z))];exact⟨J,O,h3⟩
theorem KT.put {H:Hp}{j:List (List YQ×V)}{xs:List (List YQ×Addr×Value)}(r:KT H j xs)(k:List YQ){b:Addr}{y:V}{u:Value}(hb:H b=some (.tup (k.map kV)))(J:RelV y u) :
  KT H (WP j k y) (storedH xs k b u):=by
 have e:(j.any λM=>decide (M.1=k))=(atKey xs k).isSome:=by
  rw[WX,(r.val k).isSome_eq,lP]
 unfold WP storedH;rw[e];by_cases q:(atKey xs k).isSome=true
 ·rw[if_pos q,if_pos q];exact r.repl k J
 ·rw[if_neg q,if_neg q];exact Paired.snoc r ⟨rfl,hb,J⟩
theorem KT.keeps {H q:Hp}{j:List (List YQ×V)}{xs:List (List YQ×Addr×Value)}(r:KT H j xs)(J:∀b ys,H b=some (.tup ys)->q b=some (.tup ys)):KT q j xs:=
 kF.mapP r λ_ _ z=>⟨z.1,J _ _ z.2.1,z.2.2⟩
section
variable {P:Program}{w:World}{H:Hp}{h:Heap}{a:Addr}
theorem ZlX {u:HO}(ok:VA P w H h)(e:Rd H a u):YK P w H h a u:=e.ok ok
theorem ZfG {j:List (YQ×V)}(ok:VA P w H h)(e:Rd H a (.dK j)):j.length<=sizeLine/\(a == sysModules)=false/\∃vs,KV j vs/\h.DictOf (YN P w) a vs:=
 show YK P w H h a (.dK j) from ZlX ok e
theorem Zmg {j:List (YQ×V)}(ok:VA P w H h)(e:H a=some (.dK j)):j.length<=sizeLine/\(a == sysModules)=false/\∃vs,KV j vs/\h.DictOf (YN P w) a vs:=ZfG ok (.inl e)
theorem ZbU {j:List YQ}(ok:VA P w H h)(e:H a=some (.tup (j.map kV))):(tupleKind (YN P w)).is h j a:=by
 obtain⟨_,q,r,o,J,M,n,O⟩:=(show YK P w H h a (.tup (j.map kV)) from ok a _ e);exact⟨o,q.toArray,n,J,M,O,by simpa using ZaN r⟩
theorem ZfF {j:List (List YQ×V)}(ok:VA P w H h)(e:Rd H a (.dT j)):j.length<=sizeLine/\(a == sysModules)=false/\
  ∃xs,KT H j xs/\h.DictOfH (tupleKind (YN P w)) a xs:=by
 obtain⟨z,y,xs,r,o,O,Y,h1,h2,h3,h4,h5⟩:=(show YK P w H h a (.dT j) from ZlX ok e);refine⟨z,y,xs,r,o,O,Y,h1,h2,h3,h4,λx J=>?_,h5⟩;have all:∀{l:List (List YQ×V)}{m:List (List YQ×Addr×Value)},KT H l m->∀x∈m,(tupleKind (YN P w)).is h x.1 x.2.1:=by
  intro l m q;induction q with
  |nil=>intro x J;exact nomatch J
  | @cons p q ps qs M t ih=>
   intro x J;rcases aD.mp J with e|J
   ·subst e
    exact ZbU ok (by rw[<-M.1];exact M.2.1)
   ·exact ih x J
 exact all r x J
theorem Zpj {j:List (List YQ×V)}(ok:VA P w H h)(e:H a=some (.dT j)):j.length<=sizeLine/\(a == sysModules)=false/\
  ∃xs,KT H j xs/\h.DictOfH (tupleKind (YN P w)) a xs:=ZfF ok (.inl e)
end
def Ji (H:Hp)(a:Addr)(y:V)(r:TU):Prop:=
 (∃j k,Rd H a (.dK j)/\y=kV k/\r=YZ j k)\/∃j k b,Rd H a (.dT j)/\y=.ref b/\H b=some (.tup (k.map kV))/\r=YZ j k
def VW (H:Hp)(a:Addr)(y v:V)(q:Hp):Prop:=
 (∃j k,H a=some (.dK j)/\y=kV k/\j.length<sizeLine/\q=upd H a (.dK (WP j k v)))\/
 ∃j k b,H a=some (.dT j)/\y=.ref b/\H b=some (.tup (k.map kV))/\j.length<sizeLine/\q=upd H a (.dT (WP j k v))
theorem Ji.k {H:Hp}{a:Addr}{j:List (YQ×V)}{k:YQ}(e:H a=some (.dK j)):Ji H a (kV k) (YZ j k):=.inl ⟨j,k,.inl e,rfl,rfl⟩
theorem Ji.t {H:Hp}{a b:Addr}{j:List (List YQ×V)}{k:List YQ}(e:H a=some (.dT j))(q:H b=some (.tup (k.map kV))):Ji H a (.ref b) (YZ j k):=.inr ⟨j,k,b,.inl e,rfl,q,rfl⟩
theorem VW.k {H:Hp}{a:Addr}{j:List (YQ×V)}{k:YQ}{v:V}(e:H a=some (.dK j))(q:j.length<sizeLine):VW H a (kV k) v (upd H a (.dK (WP j k v))):=.inl ⟨j,k,e,rfl,q,rfl⟩
theorem VW.t {H:Hp}{a b:Addr}{j:List (List YQ×V)}{k:List YQ}{v:V}(e:H a=some (.dT j))(q:H b=some (.tup (k.map kV)))(J:j.length<sizeLine) :
  VW H a (.ref b) v (upd H a (.dT (WP j k v))):=.inr ⟨j,k,b,e,rfl,q,J,rfl⟩
section
variable {X:Cx}{pins:List (Addr×Obj)}{σ:St}{H:Hp}{s:Shared}{a:Addr}{y v:V}{u r:Value}{o:TU}{A:Around}{E:TY}
theorem Inv.big (I:Inv X pins σ H s):sysModules<s.heap.objs.size:=by
 have h:mainGlobals<s.heap.objs.size:=(I.mod.glob.keeps I.bk).lt;exact je (by decide) h
theorem ZgH {Q:TY}(hu:A.units+1<cLine)(I:Inv X pins σ H s)(g:Ji H a y (some v))(ry:RelV y u)(h:∀q s',Inv X pins σ H s'->RelV v q->Q q s') :
  wpAny (model X.prog X.w) A (getItem (.ref a) u) Q E s:=by
 rcases g with ⟨J,k,e,M,l⟩|⟨J,k,b,e,M,eb,l⟩
 ·subst M
  obtain⟨z,hd,vs,rel,O⟩:=ZfG I.hok e;obtain⟨q,Y,j⟩:=Zas.some_of (v:=v) (o:=valueAt vs k) (by rw[l];exact rel.val k);exact wpAny_getItem_of (Zdd ry) O.mapOf Y (h q _ (I.tok _) j)
 ·subst M
  cases (show u=ax b from ry);obtain⟨z,hd,xs,rel,O⟩:=ZfF I.hok e;obtain⟨q,Y,j⟩:=Zas.some_of (v:=v) (o:=(atKey xs k).map (·.2)) (by rw[l];exact rel.val k);obtain⟨p,hp,m5⟩:=Option.map_eq_some_iff.mp Y;refine wpAny_getItem_heap (jr hu) (ZbU I.hok eb) O hp ?_;rw[m5];exact h q _ (I.tok _) j
theorem Zlm {Q:TY}(Y:A.units+1<cLine)(I:Inv X pins σ H s)(g:Ji H a y o)(O:RelV y u)(h:∀s',Inv X pins σ H s'->Q (.bool (!o.isSome)) s') :
  wpAny (model X.prog X.w) A (compareOp .NotIn u (.ref a)) Q E s:=by
 rcases g with ⟨j,k,e,J,l⟩|⟨j,k,b,e,J,eb,l⟩
 ·subst J
  obtain⟨z,hd,vs,rel,M⟩:=ZfG I.hok e;refine wpAny_notIn_of (Zdd O) hd M.mapOf ?_;rw[<-(rel.val k).isSome_eq,<-l];exact h _ (I.tok _)
 ·subst J
  cases (show u=ax b from O);obtain⟨z,hd,xs,rel,M⟩:=ZfF I.hok e;refine wpAny_notIn_heap (jr Y) (ZbU I.hok eb) hd M ?_;have q:=(rel.val k).isSome_eq;rw[lP] at q;rw[<-q,<-l];exact h _ (I.tok _)
theorem Zb4 {h':Heap}{t':Nat}{j:HO}(I:Inv X pins σ H s)(M:Mut (H a))(O:bj a s.heap h')(Y:∃q,h'.get? a=some q)(J:YK X.prog X.w (upd H a j) h' a j) :
  Inv X pins σ (upd H a j) {s with heap:=h',toks:=t'}:=
 I.write (x:=a) (e:=a) M (.inl rfl) (λb q hb z=>(O.2 b hb).trans z) Y J
theorem Zi7 {P:Program}{w:World}{q:Hp}{h':Heap}{j:List (YQ×V)}{vs:List (YQ×Value)}(z:j.length<=sizeLine)(hd:(a == sysModules)=false)(rel:KV j vs)(J:h'.DictOf (YN P w) a vs) :
  YK P w q h' a (.dK j):=⟨z,hd,vs,rel,J⟩
theorem ZgG {H':Hp}{Q:Unit->Shared->Prop}(hu:A.units+1<cLine)(I:Inv X pins σ H s)(g:VW H a y v H')(ry:RelV y u)(rv:RelV v r)(h:∀s',Inv X pins σ H' s'->Q () s') :
  wpAny (model X.prog X.w) A (setItem (.ref a) u r) Q E s:=by
 rcases g with ⟨j,k,e,O,l,Y⟩|⟨j,k,b,e,O,eb,l,Y⟩
 ·subst O Y
  obtain⟨z,hd,vs,rel,dd⟩:=Zmg I.hok e;have hz:vs.length<=sizeLine:=by rw[<-rel.length];exact z
  have hl:(WP j k v).length<=sizeLine:=by have:=Jl j k v;omega
  refine wpAny_setItem_pairs (hsz:=hz) (Zdd ry) dd λh' J hs=>h _ ?_;have he:∃q,h'.get? a=some q:=by obtain⟨q,_,_,M,_⟩:=J;exact⟨q,M⟩
  exact Zb4 I (by rw[e];exact gY) hs he (Zi7 hl hd (rel.put k rv) J)
 ·subst O Y
  cases (show u=ax b from ry);obtain⟨z,hd,xs,rel,dd⟩:=Zpj I.hok e;have hz:xs.length<=sizeLine:=by rw[<-jK rel];exact z
  have hl:(WP j k v).length<=sizeLine:=by have:=Jl j k v;omega
  refine wpAny_setItem_heap (hsz:=hz) (jr hu) (ZbU I.hok eb) dd λh' J hs=>h _ ?_;obtain⟨q,es,ep,M,h2,h3,h4,_,h5⟩:=J;refine Zb4 I (by rw[e];exact gY) hs ⟨q,M⟩ ⟨hl,hd,_,(rel.put k eb rv).keeps λc ys ec=>?_,q,es,ep,M,h2,h3,h4,h5⟩;rw[Zz (Zix ec e (λz=>nomatch z))];exact ec
end
section
variable {X:Cx}{pins:List (Addr×Obj)}{σ:St}{H:Hp}{s:Shared}{a:Addr}{kvs:List (YQ×V)}{k:YQ}{u:Value}{A:Around}{E:TY}
end
def ZpJ (i:Expr):Prop:=∀j iv,subscripted i false j iv=operate [j,iv] (getItem j iv)
theorem Zj0 {prog:Program}{w:World}{A:Around}{E:TY}{s:Shared}{env:Env}{value j:Expr}{pos:Pos}{T id:String}{Q:TY}
  (hl:typeLookup (.type T) "__getitem__"=pure (some (.builtin id))) (hs:ZpJ j)
  (h:wpAny (model prog w) A (eval value env) (λo M=>wpAny (model prog w) A (eval j env) (λi q=>q.TypeIs o T/\wpAny (model prog w) A (getItem o i) Q E q) E M) E s) :
  wpAny (model prog w) A (eval (.Subscript value j pos) env) Q E s:=by
 refine Subscript_ (cr h (λo M m5=>cr m5 (λi q J=>?_) λ_ _ x=>x) λ_ _ x=>x);obtain⟨hT,J⟩:=J;unfold subscriptTail;refine Zl ?_;rw[getitemInPython_of_ne hT.not_modules];refine Zl (wpAny_specialOf hT hl ?_);have Y:wpAny (model prog w) A (subscripted j false o i) (λr O=>wpAny (model prog w) A (letTemporaryGo value o r >>= λ_=>pure r) Q E O) E q:=by
  rw[hs o i];exact wpAny_operating (cr J (λr O m6=>Zl (wpAny_letTemporaryGo (Zm m6))) λ_ _ x=>x)
 first
  |exact Zm (Zl Y)
  |exact Zl (Zm (Zl Y))
  |exact Zl Y
theorem Zdl {X:Cx}{j:List (Addr×Obj)}{σ:St}{H:Hp}{s:Shared}{a:Addr}{y:V}{o:TU}(I:Inv X j σ H s)(g:Ji H a y o):s.TypeIs (.ref a) "dict":=by
 rcases g with ⟨q,k,e,_,_⟩|⟨q,k,b,e,_,_,_⟩
 ·obtain⟨_,_,M,_,J⟩:=ZfG I.hok e
  exact J.typeIs
 ·obtain⟨_,_,xs,_,J⟩:=ZfF I.hok e
  exact J.typeIs
inductive iDG (Q:VK) (x y:V) (H:Hp):Prop
 |mk (a:Addr) (v:V):x=.ref a->Ji H a y (some v)->Q v H->iDG Q x y H
def Zot (q J:TE):TE:=λj H Q=>q j H λx M=>J j M (iDG Q x)
def ZjY (J M:TE):TE:=λj H Q=>J j H λy O=>M j O λx q=>∃a o,x=.ref a/\Ji q a y o/\Q (.bl (!o.isSome)) q
inductive iDP (D:WT) (σ:St) (x v y:V) (H3:Hp):Prop
 |mk (a:Addr) (H4:Hp):x=.ref a->VW H3 a y v H4->D.nx σ H4->iDP D σ x v y H3
def ZoF (q J M:TE):TS:=λD j H=>M j H λv O=>q j O λx Y=>J j Y (iDP D j x v)
section
variable {X:Cx}{o i e value:Expr}{pos pos' tpos:Pos}{td ty tv:TE}
theorem Ww (O:X.A.units+1<cLine)(Y:PE X o td)(hi:PE X i ty)(hs:ZpJ i):PE X (.Subscript o i pos) (Zot td ty):=by
 intro j s J H Q I h;refine Zj0 PySem.F.slot_dict_getitem.lookup hs (Yw (Y j s J H _ I h) λu s1 ⟨x,H1,I1,rx,q1⟩=>Yw (hi j s1 J H1 _ I1 q1) λiv s2 ⟨y,H2,M,ry,a,v,ex,g,q2⟩=>?_);subst ex;obtain rfl:u=ax a:=rx;exact⟨Zdl M g,ZgH O M g ry λw' s3 I3 q=>⟨v,H2,I3,q,q2⟩⟩
theorem ZaH (J:X.A.units+1<cLine)(M:PE X i ty)(O:PE X o td):PC X .NotIn i o (ZjY ty td):=by
 intro j s q H Q I h;refine Yw (M j s q H _ I h) λiv Y ⟨y,H1,I1,ry,q1⟩=>Yw (O j Y q H1 _ I1 q1) λu s2 ⟨x,H2,I2,rx,a,ov,ex,g,q2⟩=>?_;subst ex;obtain rfl:u=ax a:=rx;exact Zlm J I2 g ry λs3 I3=>⟨.bl (!ov.isSome),H2,I3,rfl,q2⟩
theorem Xu (J:X.A.units+1<cLine)(M:PE X o td)(O:PE X i ty)(Y:PE X value tv)(hs:swapsWith value (some (.Subscript o i pos')) pos.line X.env=pure false) :
  PS X (.Assign [.Subscript o i pos'] value pos) (ZoF td ty tv):=by
 intro j s q H D I h;refine wpAny_Assign_Subscript (Yw (Y j s q H _ I h) λr s1 ⟨v,H1,I1,rv,q1⟩=>Yw (M j s1 q H1 _ I1 q1) λu s2 ⟨x,H2,I2,rx,q2⟩=>Yw (O j s2 q H2 _ I2 q2) λiv s3 ⟨y,H3,I3,ry,a,H4,ex,g,q3⟩=>?_) hs;subst ex;obtain rfl:u=ax a:=rx;exact ZgG J I3 g ry rv λs4 I4=>⟨q,H4,I4,q3⟩
end
theorem Zdk {P:Program}{w:World}{H:Hp}(h:Heap)(hb:sysModules<h.objs.size):YK P w H (h.push {cls:=.type "dict",data:=.dict #[]}) h.objs.size (.dK []):=
 ⟨a5 _,beq_eq_false_iff_ne.mpr (bd (ay hb)),[],.nil,Heap.DictOf.new h⟩
theorem Zi6 {P:Program}{w:World}{H:Hp}(h:Heap)(hb:sysModules<h.objs.size):YK P w H (h.push {cls:=.type "dict",data:=.dict #[]}) h.objs.size (.dT []):=
 ⟨a5 _,beq_eq_false_iff_ne.mpr (bd (ay hb)),[],.nil,_,#[],0,Zo _ rfl,⟨rfl,rfl,rfl⟩,rfl,rfl,dQ⟩
def ZmC:TE:=λ_ H Q=>∀p,H p=none->Q (.ref p) (upd H p (.dK []))
def ZmB:TE:=λ_ H Q=>∀p,H p=none->Q (.ref p) (upd H p (.dT []))
section
variable {X:Cx}{pos:Pos}
theorem ZcV:PE X (.Dict [] [] pos) ZmC:=λj s J H Q I h=>
 wpAny_Dict_empty ⟨.ref s.heap.objs.size,_,I.laid (a:=s.heap.objs.size) (o:=.dK []) (t':=s.toks) (λ_ _ q=>Zn _ q) (Zq _) (Zdk s.heap I.big),rfl,h _ (I.hok.fresh (Zq _))⟩
theorem Zh9:PE X (.Dict [] [] pos) ZmB:=λj s J H Q I h=>
 wpAny_Dict_empty ⟨.ref s.heap.objs.size,_,I.laid (a:=s.heap.objs.size) (o:=.dT []) (t':=s.toks) (λ_ _ q=>Zn _ q) (Zq _) (Zi6 s.heap I.big),rfl,h _ (I.hok.fresh (Zq _))⟩
end
def ZdH:List (TE×TE)->St->Hp->(List (V×V)->Hp->Prop)->Prop
 | [],_,H,Q=>Q [] H
 |(tk,j)::r,σ,H,Q=>tk σ H λx q=>j σ q λy J=>ZdH r σ J λM O=>Q ((x,y)::M) O
noncomputable abbrev VV:List (V×V)->List (Value×Value)->Prop:=kF λp q=>RelV p.1 q.1/\RelV p.2 q.2
def PPs (X:Cx)(pos:Pos)(J:List (Option Expr))(j:List Expr)(M:List (TE×TE)):Prop:=
 ∀(q:List (Addr×Obj)) (s:Shared) (O:St) (H:Hp) (Q:List (V×V)->Hp->Prop),Inv X q O H s->ZdH M O H Q->
  wpAny (model X.prog X.w) X.A (evalPairs (pairTrees J j X.env pos)) (λvs s'=>∃Y H',Inv X q O H' s'/\VV Y vs/\Q Y H') X.xe s
theorem Zkl {X:Cx}{pos:Pos}:PPs X pos [] [] []:=λj s q H Q I h=>pairTrees_nil_walk ⟨[],H,I,.nil,h⟩
theorem UE {X:Cx}{pos:Pos}{k v:Expr}{M:List (Option Expr)}{vs:List Expr}{tk O:TE}{q:List (TE×TE)}(Y:PE X k tk)(hv:PE X v O)(hr:PPs X pos M vs q) :
  PPs X pos (some k::M) (v::vs) ((tk,O)::q):=λj s J H Q I h=>
 pairTrees_cons_walk (Yw (Y j s J H _ I h) λu s1 ⟨x,H1,I1,rx,q1⟩=>Yw (hv j s1 J H1 _ I1 q1) λw2 s2 ⟨y,H2,I2,ry,q2⟩=>
  Yw (hr j s2 J H2 _ I2 q2) λws s3 ⟨ps,H3,I3,rel,q3⟩=>⟨(x,y)::ps,H3,I3,.cons ⟨rx,ry⟩ rel,q3⟩)
def UJ (q j:List (YQ×V)):List (YQ×V):=j.foldl (λZE J=>WP ZE J.1 J.2) q
theorem KV.merge:∀{more:List (YQ×V)}{rs:List (YQ×Value)}{j:List (YQ×V)}{vs:List (YQ×Value)},KV more rs->KV j vs->KV (UJ j more) (merged vs rs):=by
 intro more rs j vs r;unfold KV at r;induction r generalizing j vs with
 |nil=>intro q;exact q
 | @cons p q O Y h t J=>
  intro M;have e:KV (WP j p.1 p.2) (stored vs q.1 q.2):=by
   have:=M.put p.1 h.2;rw[<-h.1];exact this
  exact J e
theorem XN:∀(q j:List (YQ×V)),(UJ j q).length<=j.length+q.length
 | [],j=>by show j.length<=j.length+0;omega
 |p::r,j=>by
  have J:=XN r (WP j p.1 p.2);have M:=Jl j p.1 p.2;show (UJ (WP j p.1 p.2) r).length<=_;rw[Zi];omega
theorem U8 {P:Program}{w:World}:∀{j:List (YQ×V)}{M:List (Value×Value)},VV (j.map λO=>(kV O.1,O.2)) M->∃J,Carries (YN P w) M J/\KV j J
 | [],_,r=>by rw[fU] at r;cases r;exact⟨[],gY,.nil⟩
 |p::j,_,r=>by
  rw[aN] at r;cases r with
  | @cons a b as bs h t=>
   obtain⟨J,c,q⟩:=U8 (P:=P) (w:=w) t;obtain⟨b1,Y⟩:=b;exact⟨(p.1,Y)::J,⟨Zdd h.1,rfl,c⟩,.cons ⟨rfl,h.2⟩ q⟩
def Zos (q:List (TE×TE)):TE:=λO H Q=>∀p,H p=none->ZdH q O (upd H p (.dK [])) λY J=>J p=some (.dK [])/\∃j:List (YQ×V),Y=j.map (λM=>(kV M.1,M.2))/\j.length<=15/\Q (.ref p) (upd J p (.dK (UJ [] j)))
theorem Zkr {X:Cx}{pos:Pos}{keys:List (Option Expr)}{values:List Expr}{j:List (TE×TE)}(h:PPs X pos keys values j)(J:keys.all (·.isSome)=true)(hl:keys.length=values.length)(h0:keys≠[])
  (m5:keys.length<=15):PE X (.Dict keys values pos) (Zos j):=by
 intro M s σ H Q I q;have hn:=I.hok.fresh (Zq s.heap.objs.size);have I1:=I.laid (a:=s.heap.objs.size) (o:=.dK []) (h':=s.heap.push {cls:=.type "dict",data:=.dict #[]}) (t':=s.toks) (λ_ _ q=>Zn _ q) (Zq _) (Zdk s.heap I.big);refine wpAny_Dict_walk (knd:=YN X.prog X.w) J hl h0 m5 (Yw (h M _ σ _ _ I1 (q _ hn)) λws s2 ⟨ps,H2,I2,rel,e,O,ep,lk,q2⟩=>?_);subst ep;obtain⟨rs,c,rk⟩:=U8 (P:=X.prog) (w:=X.w) rel;obtain⟨z,hd,m8,r0,dd⟩:=Zmg I2.hok e;cases r0;refine⟨rs,c,dd,λh' Y hs=>⟨.ref s.heap.objs.size,_,?_,rfl,q2⟩⟩;have hz:(UJ [] O).length<=sizeLine:=by
  have h1:=XN O [];rw[eV] at h1;rw[fV];omega
 have he:∃q,h'.get? s.heap.objs.size=some q:=by obtain⟨q,_,_,hq,_⟩:=Y;exact⟨q,hq⟩
 exact Zb4 I2 (by rw[e];exact gY) hs he (Zi7 hz hd (rk.merge .nil) Y)
section
variable {X:Cx}{pins:List (Addr×Obj)}{σ:St}{H:Hp}{s:Shared}{a:Addr}{y d:V}{u r:Value}{o:TU}{A:Around}{E:TY}
end
section
variable {X:Cx}{o e f:Expr}{apos cpos:Pos}{td ty tx:TE}
end
section
variable {X:Cx}{pins:List (Addr×Obj)}{σ:St}{H:Hp}{s:Shared}{a:Addr}{kvs:List (YQ×V)}{A:Around}{E:TY}
end
section
variable {X:Cx}{pins:List (Addr×Obj)}{σ:St}{H:Hp}{s:Shared}{a:Addr}{y:V}{u:Value}{A:Around}{E:TY}
end
mutual
inductive RdD (K:aa) (H:Hp):V->iz->Prop where
 |non:RdD K H .non .none
 |bl (b:Bool):RdD K H (.bl b) (.bool b)
 |int (i:Int):RdD K H (.int i) (.int i)
 |str (x:Str):RdD K H (.str x) (.str x)
 |lst {a:Addr}{xs:TV}{ds:List iz} (h:Ws K H a xs) (r:WH K H xs ds):RdD K H (.ref a) (.list ds)
 |tup {a:Addr}{xs:TV}{ds:List iz} (h:Xp K H a xs) (r:WH K H xs ds):RdD K H (.ref a) (.tuple ds)
inductive WH (K:aa) (H:Hp):TV->List iz->Prop where
 |nil:WH K H [] []
 |cons {x:V}{xs:TV}{d:iz}{ds:List iz} (h:RdD K H x d) (r:WH K H xs ds):WH K H (x::xs) (d::ds)
end
section
variable {K:aa}{H H':Hp}
theorem Zv.tup {a:Addr}{xs:TV}(e:Zv H H')(h:Xp K H a xs):Xp K H' a xs:=by
 rcases h with (h|⟨o,h⟩)|h
 ·exact .inl (.inl (e _ _ h))
 ·exact .inl (.inr ⟨o,e _ _ h⟩)
 ·exact .inr h
theorem Zv.upd {p:Addr}{o:HO}(h:H p=none):Zv H (upd H p o):=λb u e=>by rw[Zz (Yn e h)];exact e
theorem Zv.updr {p:Addr}{o:HO}(s:Zv H H')(h:H p=none):Zv H (L2.upd H' p o):=λb u e=>by rw[Zz (Yn e h)];exact s b u e
mutual
theorem RdD.mono (s:Zv H H'):∀{v:V}{d:iz},RdD K H v d->RdD K H' v d
 |_,_,.non=>.non
 |_,_,.bl b=>.bl b
 |_,_,.int i=>.int i
 |_,_,.str x=>.str x
 |_,_,.lst h r=>.lst (s.seq h) (WH.mono s r)
 |_,_,.tup h r=>.tup (s.tup h) (WH.mono s r)
theorem WH.mono (s:Zv H H'):∀{v:TV}{d:List iz},WH K H v d->WH K H' v d
 |_,_,.nil=>.nil
 |_,_,.cons h r=>.cons (RdD.mono s h) (WH.mono s r)
end
theorem WH.ints:∀ns:TZ,WH K H (ns.map V.int) (ns.map aV)
 | []=>.nil
 |n::r=>.cons (.int n) (WH.ints r)
end
section
variable {X:Cx}{pins:List (Addr×Obj)}{σ:St}{H:Hp}{s:Shared}
mutual
theorem Inv.reads (I:Inv X pins σ H s):∀{v:V}{d:iz}{u:Value},RdD X.K H v d->RelV v u->∃as,Reads s.heap u d as
 |_,_,_,.non,r=>by cases (show _=be from r);exact⟨_,.none⟩
 |_,_,_,.bl b,r=>by cases (show _=iK b from r);exact⟨_,.bool b⟩
 |_,_,_,.int i,r=>by obtain⟨t,rfl⟩:=r;exact⟨_,.int i t⟩
 |_,_,_,.str x,r=>by obtain⟨t,rfl⟩:=r;exact⟨_,.str x t⟩
 |_,_,_,.lst (a:=a) h q,r=>by
  cases (show _=ax a from r);obtain⟨j,J,⟨o,n,e,c,_,d⟩,_⟩:=I.list h;obtain⟨as,M⟩:=Inv.readsAll I q J;exact⟨_,.list e c d (by simpa using M)⟩
 |_,_,_,.tup (a:=a) h q,r=>by
  cases (show _=ax a from r);obtain⟨j,J,⟨o,e,c,n,d⟩,_⟩:=I.tuple h;obtain⟨as,M⟩:=Inv.readsAll I q J;exact⟨_,.tuple e c d (by simpa using M)⟩
theorem Inv.readsAll (I:Inv X pins σ H s):∀{v:TV}{d:List iz}{u:List Value},WH X.K H v d->ZO v u->∃as,ReadsAll s.heap u d as
 |_,_,_,.nil,r=>by cases r;exact⟨_,.nil⟩
 |_,_,_,.cons h q,r=>by
  cases r with
  |cons r j=>
   obtain⟨O,J⟩:=Inv.reads I h r;obtain⟨Y,M⟩:=Inv.readsAll I q j;exact⟨_,.cons J M⟩
end
end
section
variable {X:Cx}
inductive I_op_neD (K:aa) (x:V) (y:V) (H:Hp) (Q:VK):Prop
 |mk (dx:_) (dy:_):(RdD K H x dx)->(RdD K H y dy)->(iV dx=true)->(iV dy=true)->(Q (.bl (!gQ dx dy)) H)->I_op_neD K x y H Q
theorem Zm6 (J:X.A.units+64<cLine):XR X (compareOp .NotEq) (_root_.L2.I_op_neD X.K):=by
 intro j s σ H x y v u Q I M O ⟨dx,dy,Y,h2,s1,s2,q⟩;obtain⟨as,r1⟩:=I.reads Y M;obtain⟨bs,r2⟩:=I.reads h2 O;exact SeqAt.compareNe_shaped r1 r2 s1 s2 J ⟨.bl _,H,I,rfl,q⟩
theorem Zmv {prog:Program}{w:World}{A:Around}{j:List Value}{bs:List Bool}(r:ZO (bs.map V.bl) j):TruthOf prog w A (λi v=>j.toArray[i]?=some v) (λi=>bs.getD i false):=by
 intro i v s Q E q M;rw[kW] at q;have hi:i<j.length:=(ae.mp q).1;have O:=r.length;rw[Za] at O;have hb:(bs.map V.bl)[i]?=some (.bl (bs.getD i false)):=by
  rw[Zc,Zb,Zf (by omega)];rfl
 obtain⟨u,J,Y⟩:=r.get hb;rw[q] at J;cases J;cases (show v=iK _ from Y);exact dU M
theorem Zf3 {bs:List Bool}:((ac bs.length).any λi=>bs.getD i false)=bs.any id:=by
 have:(ac bs.length).map (λi=>bs.getD i false)=bs:=by
  apply mP
  ·simp
  ·intro i j q;simp at j;simp[j]
 conv=>rhs;rw[<-this,ef]
 rfl
inductive I_call_any (K:aa) (xs:TV) (H:Hp) (Q:VK):Prop
 |mk (a:Addr) (bs:List Bool):(xs=[.ref a])->(Ws K H a (bs.map V.bl))->(Q (.bl (bs.any id)) H)->I_call_any K xs H Q
theorem Zjm (hc:X.calm=true):YV X (.builtin "any") (_root_.L2.I_call_any X.K):=by
 intro M s σ H xs us Q I r h;obtain⟨a,bs,rfl,hq,q⟩:=h;obtain⟨u,rfl,ru⟩:=vals1 r;cases ru;obtain⟨j,O,p,hz⟩:=I.list hq;have Y:=O.length;rw[Za] at Y;refine call_any_walk (gZ p.isList ?_);have J:a≠s.heap.objs.size:=by obtain⟨o,n,e,_⟩:=p;exact ay (Zp e)
 refine⟨s.heap.objs.size,_,_,_,_,_,(λi=>bs.getD i false),rfl,lH (A:=X.A.in1) (I.ok.hd hc) _ a J j.toArray,⟨⟨_,Zo _ rfl,rfl,rfl⟩,p.isList.push _⟩,Zmv O,λh' tk k=>?_⟩;rw[Zh,<-Y,Zf3];refine⟨.bl _,H,I.kept (t':=tk) λb o e=>k b o ?_ (Zn _ e),rfl,q⟩;simpa using ay (Zp e)
end
theorem JE:(16777216:Nat)=sizeLine:=by decide
theorem JF {k:Nat}(h:k<=16777216:=by first|decide|simp):k<=sizeLine:=JE▸h
theorem XX {H:Hp}{l:Addr}{o:HO}(h:H l=none):∃j,upd H l o=j/\Zv H j/\j l=some o:=⟨_,rfl,Zv.upd h,Zu⟩
theorem J6 {bs:TW}{i:Nat}{y:V}(h:(bs.map V.ref)[i]?=some y):∃b,bs[i]?=some b/\y=.ref b:=by
 rw[Zc] at h;cases e:bs[i]? with
 |none=>rw[e] at h;cases h
 |some r=>rw[e] at h;exact⟨r,rfl,(aA h).symm⟩
noncomputable abbrev JS (ns:TZ)(n:Nat):TZ:=firstMet (λi=>ns.getD i 0) n
section
variable {prog:Program}{w:World}{A:Around}{E:TY}{s:Shared}
end
theorem Zfw:∀{ns:TZ}{us:List Value},ZO (ns.map V.int) us->aZ us ns
 | [],_,.nil=>.nil
 |n::r,_,.cons h t=>by
  obtain⟨k,rfl⟩:=(show ∃t,_=fR n t from h);exact .cons n k (Zfw t)
section
variable {X:Cx}
inductive I_call_range1 (xs:TV) (H:Hp) (Q:VK):Prop
 |mk (j:Int):(xs=[.int j])->(∀p,H p=none->Q (.ref p) (upd H p (.rng 0 j)))->I_call_range1 xs H Q
theorem V4:YV X (.type "range") _root_.L2.I_call_range1:=by
 intro J s O H Y us Q I r h;obtain⟨j,rfl,q⟩:=h;obtain⟨u,rfl,M⟩:=vals1 r;obtain⟨t,rfl⟩:=M;exact call_range_1 ⟨.ref s.heap.objs.size,_,I.laid (a:=s.heap.objs.size) (o:=.rng 0 j) (λb o e=>Zn _ e) (Zq _) ⟨_,_,_,Zo _ rfl⟩,rfl,q _ (I.hok.fresh (Zq _))⟩
def Y3 (lo:Int)(n:Nat):TZ:=(ac n).map λi:Nat=>lo+(i:Int)
theorem ZcL {lo:Int}{n i:Nat}(h:i<n):(Y3 lo n)[i]?=some (lo+i):=by unfold Y3;rw[Zc,aj h];rfl
theorem Z7 {lo:Int}{n:Nat}:(Y3 lo n).length=n:=by unfold Y3;rw[Za,Zg]
theorem Zau {lo:Int}{n:Nat}{ZE:Array Value}(h:g8 (λi v=>∃t,v=.int (lo+i*1) t) ZE n):ZO ((Y3 lo n).map V.int) ZE.toList:=by
 have go:∀(l:List Value) (k:Nat),(∀(j:Nat) v,l[j]?=some v->∃t,v=.int (lo+((k+j:Nat):Int)) t)->ZO (((de k l.length).map λi:Nat=>lo+(i:Int)).map V.int) l:=by
  intro l;induction l with
  |nil=>intro k _;exact .nil
  |cons x r M=>
   intro k J;rw[Zi,dY];refine .cons ?_ (M (k+1) λj v q=>?_)
   ·obtain⟨t,e⟩:=J 0 x rfl
    exact⟨t,e⟩
   ·obtain⟨t,e⟩:=J (j+1) v q
    exact⟨t,by rw[e];congr 2;omega⟩
 have e:=go ZE.toList 0 λj v q=>by
  rw[cG] at q;obtain⟨t,e⟩:=h.2 j v q;exact⟨t,by rw[e];congr 1 <;> omega⟩
 rw[Zr,h.1] at e;unfold Y3;rw[dP];exact e
inductive I_call_list_rng (xs:TV) (H:Hp) (Q:VK):Prop
 |mk (a:Addr) (lo hi:Int):(xs=[.ref a])->(H a=some (.rng lo hi))->((-(2 ^ 62)<=lo/\lo<2 ^ 62/\-(2 ^ 62)<=hi/\hi<2 ^ 62))->((hi-lo).toNat<=sizeLine)->(∀l,H l=none->Q (.ref l) (upd H l (.lst ((Y3 lo (hi-lo).toNat).map V.int))))->I_call_list_rng xs H Q
theorem Zap (O:X.calm=true):YV X (.type "list") _root_.L2.I_call_list_rng:=by
 intro J s σ H xs us Q I r h;obtain⟨a,lo,hi,rfl,Y,⟨b1,b2,b3,b4⟩,M,q⟩:=h;obtain⟨u,rfl,ru⟩:=vals1 r;cases ru;obtain⟨t,u,v,e⟩:=(show ∃t u v,s.heap.get? a=some {cls:=.type "range",data:=.fields #[.int lo t,.int hi u,.int 1 v]} from I.hok a _ Y);refine call_list_range (n:=(hi-lo).toNat) (I.ok.hd O) e (small_one b1 b2 b3 b4) (by rw[lF];split <;> omega) M λh' tk ZE c' hk hl j=>?_
 exact⟨.ref _,_,I.laid (a:=s.heap.objs.size) (o:=.lst ((Y3 lo (hi-lo).toNat).map V.int)) (t':=tk) hk (Zq _) ⟨by rw[Za,Z7];exact M,ZE.toList,c',Zau j,by simpa using hl⟩,rfl,q _ (I.hok.fresh (Zq _))⟩
end
def Jq:List Str->Bool
 | []=>true
 |x::r=>!(r.contains x) && Jq r
theorem Ya:∀{l:List Str},Jq l=true->l.Nodup
 | [],_=>dQ
 |x::r,h=>by
  unfold Jq at h;simp only[ag,ff] at h;refine bN.mpr ⟨λz=>?_,Ya h.2⟩;have:=aw.mpr z;rw[h.1] at this;cases this
def ZaP (j:cL)(x:Str):Bool:=match j.names.lookup x with
 |some .local=>true
 |some .cell=>true
 |_=>false
theorem YY {j:cL}{x:Str}(h:ZaP j x=true):Loc j x:=by
 unfold ZaP at h;split at h
 ·rename_i e;exact .inl e
 ·rename_i e;exact .inr e
 ·cases h
def JO (j:cL)(x:Str):Bool:=match j.names.lookup x with
 |some .local=>true
 |_=>false
theorem Y7 {j:cL}{x:Str}(h:JO j x=true):j.names.lookup x=some .local:=by
 unfold JO at h;split at h
 ·rename_i e;exact e
 ·cases h
def ZiK (j:cL)(x:Str):Bool:=match j.names.lookup x with
 |some .local=>true
 |some .cell=>true
 |some .free=>true
 |_=>false
theorem ZiJ {j:cL}{x:Str}(h:ZiK j x=true):Vis j x:=by
 unfold ZiK at h;split at h
 ·rename_i e;exact .inl e
 ·rename_i e;exact .inr (.inl e)
 ·rename_i e;exact .inr (.inr e)
 ·cases h
def Wc (j:cL)(x:Str):Bool:=match j.names.lookup x with
 |some .globalImplicit=>true
 |_=>false
def Wv:Expr->Bool
 | .Starred _ _=>false
 |_=>true
theorem Jv {e:Expr}{j:List Expr}{env:Env}(h:Wv e=true):starEach (e::j) env=(false,eval e env)::starEach j env:=by cases e <;> first|rfl|cases h
def Xw:List Expr->Bool
 | []=>true
 |e::r=>Wv e && Xw r
theorem Jk {env:Env}{pos:Pos}:∀{j:List Expr},Xw j=true->(backTo pos (starEach j env)).any (·.1)=false
 | [],_=>rfl
 |e::r,h=>by
  unfold Xw at h;rw[ag] at h;rw[Jv h.1];exact Jk h.2
section
variable {X:Cx}
theorem pc {e:Expr}{j:List Expr}{q:TE}{t:TA}(J:PE X e q)(M:PA X j t)(O:Wv e=true:=by rfl):PA X (e::j) (Ul q t):=Zkx J M (Jv O)
theorem XQ {x:Str}(h:Wc X.env.scope x=true):Gl X x:=by
 unfold Wc at h;split at h
 ·rename_i e;exact e
 ·cases h
theorem vn (i:Nat){x:Str}{pos:Pos}(q:X.N[i]?=some x:=by rfl)(J:ZiK X.env.scope x=true:=by kernel_rfl)(M:(x == ("__debug__":Str))=false:=by kernel_rfl)(j:(x == ("__classdict__":Str))=false:=by kernel_rfl) :
  PE X (.Name x pos) (Zmy i):=Zm1 q (ZiJ J) M j
theorem gn (i:Nat){x:Str}{pos:Pos}(q:X.N[i]?=some x:=by rfl)(J:Jq X.N=true:=by kernel_rfl)(j:JO X.env.scope x=true:=by kernel_rfl):PG X (.Name x pos) (Yj i):=
 Zfa (Ya J) q (.inl (Y7 j)) (.inr (Y7 j))
theorem gnf (i:Nat){x:Str}{pos:Pos}(j:X.fn x=true)(q:X.N[i]?=some x:=by rfl)(J:Jq X.N=true:=by kernel_rfl)(M:ZaP X.env.scope x=true:=by kernel_rfl):PG X (.Name x pos) (Yj i):=
 Zfa (Ya J) q (YY M) (.inl j)
theorem ZH (i:Nat){x:Str}{e:Expr}{q:TE}{pos j:Pos}(J:X.fn x=true)(M:PE X e q)(O:X.N[i]?=some x:=by rfl)(Y:Jq X.N=true:=by kernel_rfl)(hx:ZaP X.env.scope x=true:=by kernel_rfl)
  (hs:swapsWith e (some (.Name x j)) pos.line X.env=pure false:=by rfl):PS X (.Assign [.Name x j] e pos) (ZdI q (Yj i)):=
 ZmS (Ya Y) O (YY hx) M hs (.inl J)
theorem cb {x:Str}{id:String}{r:TV->Hp->VK->Prop}{e:Expr}{j:List Expr}{t:TA}{p pos:Pos}(J:YV X (.builtin id) r)(M:X.mg x=none)(O:PA X (e::j) t)(Y:Wc X.env.scope x=true:=by kernel_rfl)(hv:bootBuiltins x=some (.builtin id):=by kernel_rfl)
  (hn:x ≠ "__name__":=by decide) (hd:(x == ("__debug__":Str))=false:=by kernel_rfl) (he:Wv e=true:=by rfl) (q:Xw j=true:=by rfl) :
  PE X (.Call (.Name x p) (e::j) [] pos) (tCB r t):=Zia J (XQ Y) M hv O hn hd (Jv he) (Jk q)
theorem ct {x:Str}{T:String}{r:TV->Hp->VK->Prop}{e:Expr}{j:List Expr}{t:TA}{p pos:Pos}(J:YV X (.type T) r)(M:X.mg x=none)(O:PA X (e::j) t)(Y:Wc X.env.scope x=true:=by kernel_rfl)(hv:bootBuiltins x=some (.type T):=by kernel_rfl)
  (hn:x ≠ "__name__":=by decide) (hd:(x == ("__debug__":Str))=false:=by kernel_rfl) (he:Wv e=true:=by rfl) (q:Xw j=true:=by rfl) :
  PE X (.Call (.Name x p) (e::j) [] pos) (tCB r t):=Zf9 J (XQ Y) M hv O hn hd (Jv he) (Jk q)
theorem WI {q a:Expr}{j:TA}{p pos:Pos}(J:X.mg "range"=none)(M:PA X [a] j)(O:Wc X.env.scope "range"=true:=by kernel_rfl)(Y:starEach [a] X.env=[(false,eval a X.env)]:=by rfl):PI X q (.Call (.Name "range" p) [a] [] pos) (Zl7 j):=Zf8 (XQ O) J M Y
theorem ZhJ {J a b:Expr}{q:TA}{p pos:Pos}(M:X.mg "range"=none)(O:PA X [a,b] q)(Y:Wc X.env.scope "range"=true:=by kernel_rfl)(hs:starEach [a,b] X.env=[(false,eval a X.env),(false,eval b X.env)]:=by rfl)(j:starEach [b] X.env=[(false,eval b X.env)]:=by rfl) :
  PI X J (.Call (.Name "range" p) [a,b] [] pos) (Zl6 q):=Zf7 (XQ Y) M O hs j
end
def Fn (P:Program)(w:World)(K:aa)(j:TX)(base:Heap)(CX:CXT)(k:Nat)(x:Str)(q:List Str)(sp:Sp):Prop:=
 ∃f J,Z8 P w K j base CX k f J q sp/\j x=some (.ref f)/\dG K (.ref f)=true/\Binds K J q []
section
variable {X:Cx}
theorem Wh {CX:CXT}{k j:Nat}{x:Str}{M:List Str}{sp:Sp}{E:XK}{e:Expr}{q:List Expr}{t:TA}{p pos:Pos}(G:Fn X.prog X.w X.K X.mg X.base CX k x M sp)(O:JY j X.A)(Y:Zcj CX X E)(ha:PA X (e::q) t)(hk:k<=j:=by decide)
  (hg:Wc X.env.scope x=true:=by kernel_rfl) (hd:(x == ("__debug__":Str))=false:=by kernel_rfl) (he:Wv e=true:=by rfl) (J:Xw q=true:=by rfl) :
  PE X (.Call (.Name x p) (e::q) [] pos) (ZlL sp [] E t):=by
 obtain⟨f,fd,F,hm,kp,b⟩:=G;exact Zkt F (O.mono hk) (XQ hg) hm kp b .nil Y ha hd (Jv he) (Jk J)
end
theorem Fn.mk {P:Program}{w:World}{K:aa}{mg:TX}{base h:Heap}{CX:CXT}{k:Nat}{x:Str}{J:List Str}{sp:Sp}{st:Stmt}{f:Addr}{Y:Value}{od M:Option Addr}{O:Array (Option Value)}{kV q pm j ct:Value}(X:K.In h)(G:h.Ns mainGlobals mg)
  (a:bi K mainGlobals x=some (some (.ref f))) (l:K.lookup f=some ⟨Y,od,.func (b8 x x (Wy st) (Wq st) (Z1 st) .none kV q pm M j ct),O⟩) (c:eZ K j x=true) (kp:dG K (.ref f)=true)
  (hok:∀fd,WA K x x st f fd->Z8 P w K mg base CX k f fd J sp)
  (hb:∀(kV q pm:Value) (M:Option Addr) (j ct:Value) (us:List Value),us.length=J.length->bindArgs (b8 x x (Wy st) (Wq st) (Z1 st) .none kV q pm M j ct) ⟨us,[]⟩=pure (J.zip us)) :
  Fn P w K mg base CX k x J sp:=
 ⟨f,_,hok _ (Zen l c kp),mM X G a,kp,(Zen l c kp).binds hb⟩
section
variable {X:Cx}
theorem JW (K:aa)(j:X.K=K:=by rfl):IxR X (ZmP K):=j▸ZnA
theorem Jb (K:aa)(j:X.K=K:=by rfl):IxR X (ZmQ K):=j▸Zla
theorem Zo0 (K:aa)(j:X.K=K:=by rfl):XR X (compareOp .NotIn) (rIn K true):=j▸ZbD
noncomputable abbrev Zqx (K:aa):TV->Hp->VK->Prop:=_root_.L2.I_call_len_seq K
theorem Yt (K:aa)(j:X.K=K:=by rfl):YV X (.builtin "len") (Zqx K):=j▸Zcd
theorem itT (K:aa){q l:Expr}{j:TE}(J:PE X l j)(M:X.K=K:=by rfl):PI X q l (Zo9 K j):=M▸ZmY J
theorem itL (K:aa){q l:Expr}{j:TE}(J:PE X l j)(M:X.K=K:=by rfl):PI X q l (Zl8 K j):=M▸Zko J
end
def Zb5 (N:List Str)(M:cL)(O:List Str)(q:T7)(Y:List Str)(J:cL):Bool:=
 (J.kind == .function) && Jq (J.names.map (·.1)) && J.names.all (λy=>y.2 != .local || JO J y.1) && Jq Y && decide (Y=O++q.map λj=>N.getD j "") &&
  q.all (λj=>decide (j<N.length) && (match J.names.lookup (N.getD j "") with|some .free=>true|_=>false)) &&
  J.names.all (λy=>y.2 != .free || (match M.names.lookup y.1 with|some .cell=>true|some .free=>true|_=>false))
theorem JD.of {N:List Str}{M:cL}{own:List Str}{J:T7}{Y:List Str}{sc:cL}(h:Zb5 N M own J Y sc=true):JD N M own J Y sc:=by
 unfold Zb5 at h;simp only[ag,az,decide_eq_true_eq,beq_iff_eq,bne_iff_ne,ne_eq,aY] at h;obtain⟨⟨⟨⟨⟨⟨h1,h2⟩,h3⟩,h4⟩,h5⟩,h6⟩,h7⟩:=h;refine⟨h1,Ya h2,λy O e=>?_,Ya h4,h5,λj hj=>⟨(h6 j hj).1,?_⟩,λy O e=>?_⟩
 ·rcases h3 y O with z|z
  ·exact absurd e z
  ·exact Y7 z
 ·have:=(h6 j hj).2
  split at this
  ·rename_i z;exact z
  ·cases this
 ·rcases h7 y O with z|z
  ·exact absurd e z
  ·split at z
   ·rename_i q;exact .inl q
   ·rename_i q;exact .inr q
   ·cases z
theorem cmp {X:Cx}(q:List Str)(j:T7)(M:List Str){scope:cL}{elt iter O:Expr}{ifs:List Expr}{pos:Pos}{Y:TI}{g:TG}{tc:TT}{te:TE}(hc:X.calm=true)(hi:PI X O iter Y)
  (hg:∀J C s H ex,PG (Y5 X scope J M C s H ex) O g) (ht:∀J C s H ex,PIf (Y5 X scope J M C s H ex) ifs tc) (he:∀J C s H ex,PE (Y5 X scope J M C s H ex) elt te)
  (hS:Zb5 X.N X.env.scope q j M scope=true:=by kernel_rfl) (hs:∀x,foldedSetIterable iter X.env x=pure x:=by intro _;rfl) :
  PE X (.ListComp elt [⟨O,iter,ifs,0⟩] scope pos) (ZeG q j Y g tc te):=Zks rfl (.of hS) hc hi hg ht he hs
section
variable {X:Cx}
inductive Zl0 (x:V) (y:V) (H:Hp) (Q:VK):Prop
 |mk (a b:Addr) (xs ys:TV):(x=.ref a)->(y=.ref b)->(H a=some (.tup xs))->(H b=some (.tup ys))->(xs.length+ys.length<=sizeLine)->(∀p H',Zv H H'->H' p=some (.tup (xs++ys))->Q (.ref p) H')->Zl0 x y H Q
theorem ZkA:XR X (binaryOp .Add) Zl0:=by
 intro j s σ H x y v u Q I rx ry h;obtain⟨a,b,xs,ys,rfl,rfl,Y,hb,hz,q⟩:=h;by_cases hx:xs=[]
 ·subst hx
  cases rx;cases ry;obtain⟨n8,r1,p1,_⟩:=I.tuple (Xp.of Y);obtain⟨m8,r2,p2,_⟩:=I.tuple (Xp.of hb);cases r1;obtain⟨⟨n9,dd,data,sl⟩,ho,hc,n,hd⟩:=id p1;obtain⟨⟨n6,m5,data2,m6⟩,J,M,n2,O⟩:=id p2;simp only at hc hd M O;subst hc hd M O;exact mq ⟨_,ho,rfl⟩ ⟨_,J,rfl⟩ jQ lE gN gu (f8 _ _) (tuple_addW0 a b _ _ n n2 dd m5 sl m6 rfl) ⟨ho,J,⟨.ref b,H,I,rfl,q b H (Zv.refl H) hb⟩⟩
 ·refine ZkB j s σ H _ _ v u Q I rx ry ⟨a,b,xs,ys,rfl,rfl,.of Y,.of hb,hx,hz,λe=>?_,λe p hp=>q p _ (Zv.upd hp) Zu⟩
  subst e;exact q a H (Zv.refl H) (by rw[eX];exact Y)
end
theorem Yh {c:TT}{tb:TS}{D:WT}{σ:St}{H:Hp}(Pv:Nat->St->Hp->Prop)(q:St->Hp->Prop)(hend:∀ σ H,q σ H->D.nx σ H)(h0:∃m,Pv m σ H)
  (turn:(∀ σ H,q σ H->D.nx σ H)->∀m σ H,Pv m σ H->c σ H λb J=>if b=true then ∃N:St->Hp->Prop,(∀ j M,N j M->∃O,O<m/\Pv O j M)/\tb (D.lp N) σ J else D.nx σ J) :
  Zg9 c tb D σ H:=⟨Pv,h0,turn hend⟩
structure WG (J:It)(H:Hp)(xs:TV):Prop where
 go:∀(i:Nat) H',Zv H H'->i<xs.length->J.go i H'
 yld:∀(i:Nat) H' x H2,Zv H H'->i<xs.length->J.yld i H' x H2->H2=H'/\xs[i]?=some x
 stop:∀H',Zv H H'->J.stop xs.length H'
theorem WG.mono {J:It}{H q:Hp}{xs:TV}(s:Zv H q)(S:WG J H xs):WG J q xs:=
 ⟨λi j e=>S.go i j (s.trans e),λi j x M e=>S.yld i j x M (s.trans e),λj e=>S.stop j (s.trans e)⟩
theorem Wa {K:aa}{H:Hp}{a:Addr}{xs:TV}(h:Xp K H a xs):WG (Itt K a) H xs:=
 ⟨λi j s q=>⟨xs,_,s.tup h,Zf q⟩,λi j x J s _ y=>⟨y.1,y.2 xs (s.tup h)⟩,λj s=>⟨xs,s.tup h,Zq _⟩⟩
theorem Ys {K:aa}{H:Hp}{a:Addr}{xs:TV}(h:Ws K H a xs):WG (Itl K a) H xs:=
 ⟨λi j s q=>⟨xs,_,s.seq h,Zf q⟩,λi j x J s _ y=>⟨y.1,y.2 xs (s.seq h)⟩,λj s=>⟨xs,s.seq h,Zq _⟩⟩
theorem Wi {H:Hp}(lo:Int)(n:Nat):WG (Itr lo n) H ((Y3 lo n).map V.int):=by
 have q:((Y3 lo n).map V.int).length=n:=by rw[Za,Z7]
 refine⟨λi J s j=>by rw[q] at j;exact j,λi J x M s j y=>?_,λJ s=>by show n<=_;rw[q];exact Zq _⟩;rw[q] at j;exact⟨y.1,by rw[y.2,Zc,ZcL j];rfl⟩
theorem Zdp {J:It}{own:List Str}{O:T7}{g:TG}{tc:TT}{te:TE}{σ:St}{H:Hp}{Q:VK}{xs:TV}(S:WG J H xs)(cs:St)(m6:JX own O σ=none::cs)(f:V->TU)(hz:xs.length<=1000000)
  (hs:∀(i:Nat) x v0 j,xs[i]?=some x->Zv H j->∀(R:St->V->Hp->Prop) (R':St->Hp->Prop),(∀v H5,f x=some v->Zv j H5->R (some x::cs) v H5)->(∀Y,f x=none->Zv j Y->R' (some x::cs) Y)->
   g x (v0::cs) j λq H3=>tc q H3 λb Y=>if b=true then te q Y (R q) else R' q Y)
  (hd:∀D j,H D=none->Zv H j->j D=some (.lst (xs.filterMap f))->Q (.ref D) j) :
  Jh own O g tc te σ Q J H:=by
 intro D hD;refine⟨λi m m5 j=>m=xs.length-i/\i<=xs.length/\(∃v0,m5=v0::cs)/\Zv H j/\j D=some (.lst ((xs.take i).filterMap f)),⟨_,rfl,a5 _,⟨none,m6⟩,Zv.upd hD,by rw[Zu,e9];rfl⟩,?_⟩;rintro i m m5 j ⟨rfl,hi,⟨v0,rfl⟩,s,hl⟩;by_cases M:i<xs.length
 ·refine .inr ⟨S.go i j s M,_,λn6 H2 z=>z,λx H2 y=>?_⟩
  obtain⟨rfl,hx⟩:=S.yld i j x H2 s M y;have ht:xs.take (i+1)=xs.take i++[x]:=by rw[cM,hx];rfl
  have m8:((xs.take i).filterMap f).length<=i:=a8 (List.length_filterMap_le _ _) (by rw[bI];omega);refine hs i x v0 H2 hx s _ _ (λv H5 e s5=>?_) (λY e s4=>?_)
  ·refine⟨_,s5 _ _ hl,?_,xs.length-(i+1),by omega,rfl,M,⟨_,rfl⟩,(s.trans s5).updr hD,?_⟩
   ·have:(16777216:Nat)=sizeLine:=by decide
    omega
   ·rw[Zu,ht,kZ,bS,e];rfl
  ·refine⟨xs.length-(i+1),by omega,rfl,M,⟨_,rfl⟩,s.trans s4,?_⟩
   rw[s4 _ _ hl,ht,kZ,bS,e];simp
 ·have e:i=xs.length:=by omega
  subst e;refine .inl ⟨S.stop j s,hd D j hD s ?_⟩;rw[hl,cU]
theorem WQ {J:It}{g:TG}{tb:TS}{D:WT}{σ:St}{H0 H:Hp}{xs:TV}(S:WG J H0 xs)(Pv:Nat->St->Hp->Prop)(h0:Pv 0 σ H)(hS:∀i σ H,Pv i σ H->Zv H0 H)
  (hs:∀(i:Nat) x σ H,xs[i]?=some x->Pv i σ H->g x σ H λq Y=>tb (D.lp (Pv (i+1))) q Y) (hd:∀ σ H,Pv xs.length σ H->D.nx σ H) :
  ∃W:Nat->Nat->St->Hp->Prop,(∃m,W 0 m σ H)/\∀i m σ H,W i m σ H->
   (J.stop i H/\D.nx σ H)\/(J.go i H/\∃N:St->Hp->Prop,(∀ M j,N M j->∃m',m'<m/\W (i+1) m' M j)/\∀x j,J.yld i H x j->g x σ j λq Y=>tb (D.lp N) q Y):=by
 refine⟨λi m σ H=>m=xs.length-i/\i<=xs.length/\Pv i σ H,⟨_,rfl,a5 _,h0⟩,?_⟩;rintro i m σ H ⟨rfl,hi,p⟩;have s:=hS i σ H p;by_cases O:i<xs.length
 ·refine .inr ⟨S.go i H s O,Pv (i+1),λM j p'=>⟨xs.length-(i+1),by omega,rfl,O,p'⟩,λx j y=>?_⟩
  obtain⟨rfl,hx⟩:=S.yld i H x j s O y;exact hs i x σ _ hx p
 ·have e:i=xs.length:=by omega
  subst e;exact .inl ⟨S.stop H s,hd σ H p⟩
theorem tT {A B:Hp->Prop}{σ:St}{H:Hp}(h:A H):WM σ H λb j=>if b=true then A j else B j:=by
 show if true=true then A H else B H
 rw[if_pos rfl];exact h
theorem Zfz {α j:Type}(g:α->j):∀xs:List α,xs.filterMap (λy=>some (g y))=xs.map g
 | []=>rfl
 |x::r=>by rw[bS,aN,Zfz g r]
theorem Zme {α j:Type}(p:α->Bool)(g:α->j):∀xs:List α,xs.filterMap (λy=>if p y=true then some (g y) else none)=(xs.filter p).map g
 | []=>rfl
 |x::r=>by
  rw[bS,ee,Zme p g r];by_cases h:p x=true
  ·rw[if_pos h,if_pos h];rfl
  ·rw[if_neg h,if_neg h]
theorem ZqL {c A B:Prop} [Decidable c](j:¬c)(h:B):if c then A else B:=by rw[if_neg j];exact h
theorem JC {J:It}{own:List Str}{M:T7}{O:TE}{σ:St}{H:Hp}{Q:VK}{xs:TV}(S:WG J H xs)(q:St)(m5:JX own M σ=none::q)(f:V->V)(hz:xs.length<=1000000)
  (hs:∀(i:Nat) x j,xs[i]?=some x->Zv H j->∀R:VK,(∀Y,Zv j Y->R (f x) Y)->O (some x::q) j R)
  (hd:∀D j,H D=none->Zv H j->j D=some (.lst (xs.map f))->Q (.ref D) j):Jh own M (Yj 0) WM O σ Q J H:=by
 refine Zdp S q m5 (λx=>some (f x)) hz (λi x v0 j hx s R R' h1 h2=>?_) λD j hD s hl=>hd D j hD s (by rw[hl,Zfz]);show WM (some x::q) j λb H4=>if b=true then O (some x::q) H4 (R (some x::q)) else R' (some x::q) H4
 exact tT (A:=λH4=>O (some x::q) H4 (R (some x::q))) (hs i x j hx s _ λY s5=>h1 _ Y rfl s5)
theorem VN {J:It}{own:List Str}{q:T7}{tc:TT}{te:TE}{σ:St}{H:Hp}{Q:VK}{xs:TV}(S:WG J H xs)(O:St)(m5:JX own q σ=none::O)(p:V->Bool)(f:V->V)(hz:xs.length<=1000000)
  (hs:∀(i:Nat) x j,xs[i]?=some x->Zv H j->∀(R:VK) (Y:Hp->Prop),(p x=true->∀H5,Zv j H5->R (f x) H5)->(p x=false->∀M,Zv j M->Y M)->tc (some x::O) j λb M=>if b=true then te (some x::O) M R else Y M)
  (hd:∀D j,H D=none->Zv H j->j D=some (.lst ((xs.filter p).map f))->Q (.ref D) j):Jh own q (Yj 0) tc te σ Q J H:=by
 refine Zdp S O m5 (λx=>if p x=true then some (f x) else none) hz (λi x v0 j hx s R Y h1 h2=>?_) λD j hD s hl=>hd D j hD s (by rw[hl,Zme])
 exact hs i x j hx s (R (some x::O)) (Y (some x::O)) (λe H5 s5=>h1 _ H5 (by rw[if_pos e]) s5) λe M s4=>h2 M (by rw[if_neg (by rw[e];decide)]) s4
def ZB (K:aa)(x:Str)(st:Stmt):Prop:=
 ∃(f:Addr) (M:Value) (O Y:Option Addr) (q:Array (Option Value)) (kV J pm j ct:Value),bi K mainGlobals x=some (some (.ref f))/\
  K.lookup f=some ⟨M,O,.func (b8 x x (Wy st) (Wq st) (Z1 st) .none kV J pm Y j ct),q⟩/\eZ K j x=true/\dG K (.ref f)=true
theorem ZB.mk {K:aa}{x:Str}{st:Stmt}{f:Addr}{J:Value}{M an:Option Addr}{q:Array (Option Value)}{kV doc pm j ct:Value}(a:bi K mainGlobals x=some (some (.ref f)))
  (l:K.lookup f=some ⟨J,M,.func (b8 x x (Wy st) (Wq st) (Z1 st) .none kV doc pm an j ct),q⟩) (c:eZ K j x=true) (k:dG K (.ref f)=true):ZB K x st:=
 ⟨f,J,M,an,q,kV,doc,pm,j,ct,a,l,c,k⟩
theorem ZB.fn {P:Program}{w:World}{K:aa}{mg:TX}{base h:Heap}{CX:CXT}{k:Nat}{x:Str}{q:List Str}{sp:Sp}{st:Stmt}(D:ZB K x st)(X:K.In h)(G:h.Ns mainGlobals mg)
  (J:∀f fd,WA K x x st f fd->Z8 P w K mg base CX k f fd q sp)
  (hb:∀(kV doc pm:Value) (an:Option Addr) (j ct:Value) (us:List Value),us.length=q.length->bindArgs (b8 x x (Wy st) (Wq st) (Z1 st) .none kV doc pm an j ct) ⟨us,[]⟩=pure (q.zip us)) :
  Fn P w K mg base CX k x q sp:=by
 obtain⟨f,O,Y,an,M,kV,doc,pm,j,ct,a,l,c,kp⟩:=D;exact Fn.mk X G a l c kp (λfd F=>J f fd F) hb
theorem ZB.law {P:Program}{w:World}{K:aa}{mg:TX}{h:Heap}{CX:CXT}{k:Nat}{x:Str}{p:Str}{sp:Sp}{st:Stmt}{M:Addr}(D:ZB K x st)(X:K.In h)(G:h.Ns mainGlobals mg)(q:mg x=some (.ref M))
  (J:∀(base:Heap) f fd,base.Ns mainGlobals mg->K.In base->WA K x x st f fd->Z8 P w K mg base CX k f fd [p] sp)
  (hb:∀(kV doc pm:Value) (an:Option Addr) (j ct:Value) (s:Shared) (u:Value),i0 s (b8 x x (Wy st) (Wq st) (Z1 st) .none kV doc pm an j ct) ⟨[u],[]⟩ [(p,u)]) :
  ∃fd:FuncData,(∀(s:Shared) (u:Value),i0 s fd ⟨[u],[]⟩ [(p,u)])/\∀base:Heap,K.In base->base.Ns mainGlobals mg->Z8 P w K mg base CX k M fd [p] sp:=by
 obtain⟨f,oc,od,an,O,kV,doc,pm,j,ct,a,l,c,kp⟩:=D;have e:=q.symm.trans (mM X G a);cases e;exact⟨_,λs u=>hb kV doc pm an j ct s u,λbase Y nb=>J base _ _ nb Y (Zen l c kp)⟩
theorem YD {α:Type} [DecidableEq α]:∀(l j:List α),l.Nodup->(∀a∈l,a∈j)->l.length<=j.length
 | [],_,_,_=>a5 _
 |a::r,j,nd,h=>by
  obtain⟨M,O⟩:=bN.mp nd;have J:a∈j:=h a ar;have:=YD r (j.erase a) O λb hb=>by
   have q:b≠a:=λe=>M (e▸hb);exact (lA q).mpr (h b (ao _ hb))
  rw[List.length_erase_of_mem J] at this;have Y:0<j.length:=fc J;rw[Zi];omega
theorem JA (val:Nat->Int):∀i,(firstMet val i).Nodup
 |0=>dQ
 |i+1=>by
  have j:=JA val i;rw[lO];unfold step_dedup;split
  ·exact j
  ·rename_i h
   refine mF.mpr ⟨j,bN.mpr ⟨by simp,dQ⟩,?_⟩;intro a q b hb e;rw[aS.mp hb] at e;apply h
   first
    |exact aU.mpr ⟨a,q,by simp[e]⟩
    |simpa [e] using q
theorem Zfi (val:Nat->Int)(i:Nat)(k:Int):k∈firstMet val i↔∃j,j<i/\val j=k:=by
 have h:=firstMet_any val i k;constructor
 ·intro M
  have:(firstMet val i).any (· == k)=true:=aU.mpr ⟨k,M,by simp⟩;rw[h] at this;obtain⟨x,q,e⟩:=aU.mp this;obtain⟨j,J,rfl⟩:=aE.mp q;exact⟨j,af.mp J,by simpa using e⟩
 ·rintro⟨j,J,rfl⟩
  have:((ac i).map val).any (· == val j)=true:=aU.mpr ⟨val j,aE.mpr ⟨j,af.mpr J,rfl⟩,by simp⟩;rw[<-h] at this;obtain⟨x,q,e⟩:=aU.mp this;have:x=val j:=by simpa using e
  exact this▸q
theorem Ziv:fillsNumberSlot (.type "tuple") "mul"=pure false:=
 PySem.fillsNumberSlot_seq (id:="tuple.__mul__") (r:=some (.builtin "tuple.__rmul__")) eR.lookup (by decide +kernel) jL.lookup (by decide +kernel)
theorem Zqw:seqRepeat? (.type "tuple")=pure (some (.builtin "tuple.__mul__")):=by
 unfold seqRepeat?;rw[mo (T:="tuple") (name:="__mul__") (id:="tuple.__mul__") eR.lookup (by decide +kernel),mo (T:="tuple") (name:="__rmul__") (id:="tuple.__rmul__") jL.lookup (by decide +kernel)];rfl
noncomputable abbrev tob (j:Option Addr)(items:Array Value)(n:Nat)(q:Array (Option Value)):Obj:={cls:=.type "tuple",dict:=j,data:=.seq items n,slots:=q}
theorem ZoN (a:Int)(t:Tok)(l:Addr)(items:Array Value)(n:Nat)(q:Option Addr)(J:Array (Option Value)) :
  kH (cg.«int.__rmul__» ⟨[.int a t,.ref l],[]⟩) (λ_ R s=>s.heap.get? l=some (tob q items n J)/\R (.ok (.ret kD)) s):=.of_wp λj w A R s h=>by
 obtain⟨M,g,d,tk,os⟩:=s;obtain⟨O,h⟩:=h
 wp_walk;exact⟨_,rfl,h⟩
theorem Zo3 (l:Addr)(items:Array Value)(n:Nat)(q:Option Addr)(J:Array (Option Value))(t:Tok) :
  kH (cg.«tuple.__mul__» ⟨[.ref l,.int 1 t],[]⟩) (λ_ R s=>s.heap.get? l=some (tob q items n J)/\R (.ok (.ret (.ref l))) s):=.of_wp λj w A R s h=>by
 obtain⟨O,g,d,tk,os⟩:=s;obtain⟨M,h⟩:=h;have Y:=iO;have f2:=dX
 wp_walk using wpAny_loadPart' M
 exact⟨_,rfl,h⟩
theorem Zo4 (l:Addr)(items:Array Value)(n:Nat)(q:Option Addr)(J:Array (Option Value))(t:Tok)(O:items.isEmpty=false) :
  kH (cg.«tuple.__mul__» ⟨[.ref l,.int 0 t],[]⟩) (λ_ R s=>s.heap.get? l=some (tob q items n J)/\R (.ok (.ret (.ref s.heap.objs.size))) {s with heap:=s.heap.push {cls:=.type "tuple",data:=.seq #[]}}):=.of_wp λj w A R s h=>by
 obtain⟨Y,g,d,tk,os⟩:=s;obtain⟨M,h⟩:=h;have f1:=iO;have f2:=dX
 wp_walk using wpAny_loadPart' M
 exact⟨_,rfl,h⟩
theorem Zo2 (l:Addr)(items:Array Value)(n:Nat)(J:Option Addr)(M:Array (Option Value))(k:Int)(t:Tok)(O:¬(decide (k < -(2 ^ 63)) || decide (k ≥ 2 ^ 63))=true)(Y:¬(items.isEmpty || k == 1)=true)(h3:¬(decide (k<=0) || items.isEmpty)=true)
  (h4:¬((items.size:Int)*k > (2 ^ 63-1) / 8)) (h5:¬iL ((items.size:Int)*k)=true) (h6:((ah k.toNat items).foldl (· ++ ·) #[]).size<=sizeLine) :
  kH (cg.«tuple.__mul__» ⟨[.ref l,.int k t],[]⟩) (λ_ R s=>s.heap.get? l=some (tob J items n M)/\R (.ok (.ret (.ref s.heap.objs.size))) {s with heap:=s.heap.push {cls:=.type "tuple",data:=.seq ((ah k.toNat items).foldl (· ++ ·) #[])}}):=.of_wp λq w A R s h=>by
 obtain⟨hp,g,d,tk,os⟩:=s;obtain⟨j,h⟩:=h;have f1:=iO;have f2:=dX
 wp_walk using wpAny_loadPart' j
 rw[if_neg O]
 wp_walk using wpAny_loadPart' j
 all_goals (try rw[if_neg Y])
 all_goals (try wp_walk using wpAny_loadPart' j)
 all_goals (try rw[if_neg h3])
 all_goals (try wp_walk using wpAny_loadPart' j)
 all_goals (try rw[if_neg h4])
 all_goals (try wp_walk using wpAny_loadPart' j)
 all_goals (try rw[if_neg h5])
 all_goals (try wp_walk using wpAny_loadPart' j)
 all_goals first|exact⟨_,rfl,h⟩|exact h6
theorem ZaQ (j:List Value):∀(m:Nat) (ZE:List Value),(ah m j.toArray).foldl (· ++ ·) ZE.toArray=(ZE++(ah m j).flatten).toArray
 |0,ZE=>by simp
 |m+1,ZE=>by
  rw[aK,jB,aK,a6,<-gx];have:ZE.toArray++j.toArray=(ZE++j).toArray:=by simp
  rw[this];exact ZaQ j m (ZE++j)
section
variable {X:Cx}
theorem ZO.repl {xs:TV}{us:List Value}(r:ZO xs us):∀m:Nat,ZO (ah m xs).flatten (ah m us).flatten
 |0=>.nil
 |m+1=>by rw[aK,aK,a6,a6];exact r.append (ZO.repl r m)
inductive ZlZ (x:V) (y:V) (H:Hp) (Q:VK):Prop
 |mk (a:Addr) (xs:TV) (k:Nat):(x=.ref a)->(y=.int k)->(H a=some (.tup xs))->(xs≠[])->(xs.length*k<=1000000)->(k<=1000000)->(∀p H',Zv H H'->H' p=some (.tup (ah k xs).flatten)->Q (.ref p) H')->ZlZ x y H Q
theorem Zfb:XR X (binaryOp .Mult) ZlZ:=by
 intro m6 s σ H x y v u Q I rx ry h;obtain⟨a,xs,k,rfl,rfl,ha,hx,hz,hk,q⟩:=h;cases rx;obtain⟨t,rfl⟩:=ry;obtain⟨j,r1,p1,_⟩:=I.tuple (Xp.of ha);have hl:=r1.length;have m5:j≠[]:=λe=>by rw[e] at r1;cases r1;exact hx rfl
 have M:j.toArray.isEmpty=false:=by cases j with|nil=>exact absurd rfl m5|cons _ _=>rfl
 obtain⟨⟨m8,Y,data,sl⟩,J,hc,n,hd⟩:=id p1;simp only at hc hd;subst hc hd;have sz:=JE;have fl:(ah ((k:Nat):Int).toNat j.toArray).foldl (· ++ ·) #[]=((ah k j).flatten).toArray:=by
  have:=ZaQ j k [];rw[Zj];simpa using this
 have O:((ah k j).flatten).length=k*j.length:=Xz j k;refine lq (T:="tuple") (U:="int") (by decide) ⟨_,J,rfl⟩ (λs'=>jq s' k t) Ziv F.fills_int_mul io Zqw F.slot_int_index.lookup
  (cK io (jq s k t) F.entry_int_rmul (F.args_int_rmul_2 _ _) (ZoN k t a j.toArray n Y sl) ⟨J,rfl,⟨_,J,rfl⟩,?_⟩)
 by_cases k0:k=0
 ·subst k0
  refine cK eR ⟨_,J,rfl⟩ jt (jc _ _) (Zo4 a j.toArray n Y sl t M) ⟨J,?_⟩;exact⟨.ref s.heap.objs.size,_,I.laid (t':=s.toks) (o:=.tup []) (λb ob q=>Zn _ q) (Zq _) ⟨a5 _,[],.nil,gO _ _⟩,rfl,q _ _ (Zv.upd (I.hok.fresh (Zq _))) (by rw[Zu];rfl)⟩
 by_cases k1:k=1
 ·subst k1
  refine cK eR ⟨_,J,rfl⟩ jt (jc _ _) (Zo3 a j.toArray n Y sl t) ⟨J,?_⟩;exact⟨.ref a,H,I,rfl,q _ _ (Zv.refl H) (by rw[ha];simp)⟩
 ·refine cK eR ⟨_,J,rfl⟩ jt (jc _ _) (Zo2 a j.toArray n Y sl k t ?_ ?_ ?_ ?_ ?_ ?_) ⟨J,?_⟩
  ·simp only[aY,decide_eq_true_eq,not_or];omega
  ·rw[M];simp;omega
  ·rw[M];simp;omega
  ·rw[Zh,<-hl]
   have:((xs.length*k:Nat):Int)<=1000000:=by omega
   rw[aG] at this;omega
  ·unfold iL
   rw[Zh,<-hl];have:((xs.length*k:Nat):Int)<=1000000:=by omega
   rw[aG] at this;simp only[decide_eq_true_eq];omega
  ·rw[fl,Zh,O,<-hl,dw];omega
  ·rw[fl]
   exact⟨.ref s.heap.objs.size,_,I.laid (t':=s.toks) (o:=.tup (ah k xs).flatten) (λb ob q=>Zn _ q) (Zq _) ⟨by rw[Xz,dw];omega,_,ZO.repl r1 k,gO _ _⟩,rfl,q _ _ (Zv.upd (I.hok.fresh (Zq _))) Zu⟩
end
theorem gT {q:TE}{N:St->Hp->Prop}{J:St->V->Hp->Prop}{x:V}{O:TU}{cs:St}{H:Hp}(h:q (some x::cs) H (J (some x::cs))):Yj 0 x (O::cs) H λj Y=>WM j Y λb M=>if b=true then q j M (J j) else N j M:=by
 show if true=true then q (some x::cs) H (J (some x::cs)) else N (some x::cs) H
 rw[if_pos rfl];exact h
theorem U1 {J:It}{own:List Str}{q:T7}{te:TE}{σ:St}{H:Hp}{Q:VK}{xs:TV}(G:Addr->Nat->TV->Hp->Prop)(cs:St)(m5:JX own q σ=none::cs)(hz:xs.length<=1000000)
  (S:∀D i ys j,H D=none->j D=some (.lst ys)->G D i ys j->(i<xs.length->J.go i j/\∀x O,J.yld i j x O->O=j/\xs[i]?=some x)/\(i=xs.length->J.stop i j))
  (h0:∀D,H D=none->G D 0 [] (upd H D (.lst [])))
  (hs:∀D (i:Nat) x ys j,H D=none->j D=some (.lst ys)->xs[i]?=some x->G D i ys j->∀R:VK,(∀v H5,H5 D=some (.lst ys)->G D (i+1) (ys++[v]) (upd H5 D (.lst (ys++[v])))->R v H5)->te (some x::cs) j R)
  (hd:∀D ys j,H D=none->j D=some (.lst ys)->ys.length=xs.length->G D xs.length ys j->Q (.ref D) j):Jh own q (Yj 0) WM te σ Q J H:=by
 intro D hD;refine⟨λi m Y j=>m=xs.length-i/\i<=xs.length/\(∃v0,Y=v0::cs)/\∃ys,j D=some (.lst ys)/\ys.length=i/\G D i ys j,⟨_,rfl,a5 _,⟨none,m5⟩,[],Zu,rfl,h0 D hD⟩,?_⟩;rintro i m Y j ⟨rfl,hi,⟨v0,rfl⟩,ys,hl,hy,g⟩;obtain⟨S1,S2⟩:=S D i ys j hD hl g;by_cases M:i<xs.length
 ·refine .inr ⟨(S1 M).1,_,λm6 O z=>z,λx O y=>?_⟩
  obtain⟨rfl,hx⟩:=(S1 M).2 x O y;refine gT ?_;refine hs D i x ys O hD hl hx g _ λv H5 h5 g5=>⟨ys,h5,?_,xs.length-(i+1),by omega,rfl,M,⟨_,rfl⟩,ys++[v],Zu,by rw[Zd];simp[hy],g5⟩;have:(16777216:Nat)=sizeLine:=by decide
  omega
 ·have e:i=xs.length:=by omega
  exact .inl ⟨S2 e,hd D ys j hD hl (by omega) (e▸g)⟩
theorem Zai {X:Cx}(i:Nat)(J:List Str)(j:T7)(O:List Str){scope:cL}{elt iter Y:Expr}{ifs:List Expr}{pos q py:Pos}{y:Str}{wi:TI}{g:TG}{tc:TT}{te:TE}(hc:X.calm=true)(hf:X.fn y=true)(hi:PI X Y iter wi)
  (hg:∀M C s H ex,PG (Y5 X scope M O C s H ex) Y g) (ht:∀M C s H ex,PIf (Y5 X scope M O C s H ex) ifs tc) (he:∀M C s H ex,PE (Y5 X scope M O C s H ex) elt te)
  (hS:Zb5 X.N X.env.scope J j O scope=true:=by kernel_rfl) (hy:X.N[i]?=some y:=by rfl) (hN:Jq X.N=true:=by kernel_rfl) (hx:ZaP X.env.scope y=true:=by kernel_rfl)
  (m5:swapsWith (.ListComp elt [⟨Y,iter,ifs,0⟩] scope pos) (some (.Name y py)) q.line X.env=pure true:=by rfl) (hs:∀x,foldedSetIterable iter X.env x=pure x:=by intro _;rfl) :
  PS X (.Assign [.Name y py] (.ListComp elt [⟨Y,iter,ifs,0⟩] scope pos) q) (ZdI (ZeG J j wi g tc te) (Yj i)):=Zea rfl (.of hS) hc hi hg ht he (Ya hN) hy (YY hx) (.inl hf) m5 hs
end L2
namespace HT
open PySem PyProof.Rows
section
variable {prog:Program}{w:World}{A:Around}{E:TY}{s:Shared}
end
end HT
namespace L2
open PySem PySem.Spec PyProof.Rows
section
variable {X:Cx}{e:Expr}{te ts:TE}{st:Expr}{pos p2:Pos}
end
end L2
namespace HT
open PySem PyProof.Rows
section
variable {prog:Program}{w:World}{A:Around}{E:TY}{s:Shared}
end
end HT
namespace L2
open PySem PySem.Spec PyProof.Rows
section
variable {X:Cx}
end
end L2
namespace PyS
open PySem PySem.SetTable
def VT (p:Array Nat):Prop:=p.toList.Pairwise (· < ·)
theorem VT.lt {p:Array Nat}(h:VT p){i j:Nat}{x y:Nat}(q:i<j)(J:p[i]?=some x)(M:p[j]?=some y):x<y:=by
 rw[<-cG] at J M;obtain⟨O,rfl⟩:=ae.mp J;obtain⟨Y,rfl⟩:=ae.mp M;exact eG.mp h i j O Y q
structure ZeB (p:Array Nat)(j k:Nat):Prop where
 le:k<=p.size
 lo:∀i x,i<k->p[i]?=some x->x<j
 hi:∀i x,k<=i->p[i]?=some x->j<=x
theorem Zek {p:Array Nat}(h:VT p)(j:Nat):∀(q lo hi:Nat),lo<=hi->hi<=p.size->hi-lo<=q->(∀i x,i<lo->p[i]?=some x->x<j)->(∀i x,hi<=i->p[i]?=some x->j<=x)->ZeB p j (below.go p j q lo hi)
 |0,lo,hi,h1,O,h3,Y,h5=>by
  have:lo=hi:=by omega
  subst this;exact⟨O,Y,h5⟩
 |q+1,lo,hi,h1,O,h3,Y,h5=>by
  unfold below.go;by_cases J:lo<hi
  ·rw[if_pos J]
   try dsimp only
   have hm:(lo+hi) / 2<p.size:=by omega
   have M:p[(lo+hi) / 2]?=some p[(lo+hi) / 2]:=aM hm;have eg:p.getD ((lo+hi) / 2) j=p[(lo+hi) / 2]:=by rw[cz,M];rfl
   rw[eg];by_cases hc:p[(lo+hi) / 2]<j
   ·rw[if_pos hc]
    refine Zek h j q _ _ (by omega) O (by omega) (λi x m5 e=>?_) h5;by_cases e1:i=(lo+hi) / 2
    ·subst e1
     rw[M] at e;cases e;exact hc
    ·exact je (h.lt (by omega) e M) hc
   ·rw[if_neg hc]
    refine Zek h j q _ _ (by omega) (by omega) (by omega) Y λi x m5 e=>?_;by_cases e1:i=(lo+hi) / 2
    ·subst e1
     rw[M] at e;cases e;omega
    ·have:=h.lt (by omega) M e
     omega
  ·rw[if_neg J]
   have:lo=hi:=by omega
   subst this;exact⟨O,Y,h5⟩
theorem Za3 {p:Array Nat}(h:VT p)(j:Nat):ZeB p j (below p j):=Zek h j _ _ _ (a5 _) (Zq _) (by omega) (λi x q=>absurd q (dC _)) (λi x q e=>by
 rw[cy q] at e;cases e)
theorem ZeB.uniq {p:Array Nat}{j k q:Nat}(a:ZeB p j k)(b:ZeB p j q):k=q:=by
 have J:∀{k q:Nat},ZeB p j k->ZeB p j q->¬k<q:=λ{k q} a b M=>by
  have O:k<p.size:=aC M b.le;have e:p[k]?=some p[k]:=aM O;have Y:=b.lo k _ M e;have h2:=a.hi k _ (Zq _) e;omega
 have:=J a b;have:=J b a;omega
theorem VT.insert {p:Array Nat}(h:VT p){j:Nat}(M:p[below p j]?≠some j):VT (insertAt p (below p j) j):=by
 have c:=Za3 h j;generalize below p j=k at c M;unfold VT;rw[toList_insertAt];have O:∀y∈p.toList.take k,y<j:=λy q=>by
  obtain⟨i,hi,rfl⟩:=List.mem_take_iff_getElem.mp q;have:i<p.size:=by rw[<-Zr];omega
  exact c.lo i _ (by omega) (by rw[aM this];simp)
 have Y:∀y∈p.toList.drop k,j<y:=λy q=>by
  obtain⟨i,hi,rfl⟩:=List.mem_drop_iff_getElem.mp q;have J:k+i<p.size:=by rw[Zr] at hi;omega
  have h1:=c.hi (k+i) p[k+i] (by omega) (by rw[aM J]);have h2:p[k+i]≠j:=λz=>by
   by_cases e:i=0
   ·subst e
    exact M (by rw[<-z];exact aM (by simpa using J))
   ·have hk:k<p.size:=by omega
    have h3:=h.lt (i:=k) (j:=k+i) (by omega) (aM hk) (aM J);have h4:=c.hi k _ (Zq _) (aM hk);omega
  show j<p.toList[k+i];rw[Array.getElem_toList];omega
 rw[ip];refine⟨cT (i6 k _) h,?_,λa ha b hb=>?_⟩
 ·rw[ma]
  exact⟨Y,cT (List.drop_sublist k _) h⟩
 ·rcases aD.mp hb with hb|hb
  ·rw[hb];exact O a ha
  ·exact je (O a ha) (Y b hb)
theorem VY {t:SetTable}(Y:t.dummies=#[]){hashAt:Nat->Int}{h:Int}:∀(q:Nat) (p:Probe),p.dummy=none->∀{j:Nat}{d:Option Nat},probe.go t hashAt h q p=some (.empty j d)->t.slot j=.empty/\d=none
 |0,p,_,j,d,e=>by
  unfold probe.go at e;cases e
 |q+1,p,M,j,d,e=>by
  unfold probe.go at e;cases J:t.slot p.j with
  |empty=>
   rw[J] at e;dsimp only at e;have e:=aA e;injection e with e1 e2;subst e1;exact⟨J,by rw[<-e2];exact M⟩
  |dummy=>
   exfalso;unfold mz at J;dsimp only at J;split at J
   ·cases J
   ·split at J
    ·rename_i O
     unfold has at O;rw[Y] at O;simp at O
    ·cases J
  |live i=>
   rw[J] at e;dsimp only at e;split at e
   ·cases e
   ·refine VY Y q _ ?_ e
    unfold advance;split
    ·exact M
    ·exact M
theorem ZgA {t:SetTable}(O:t.dummies=#[]){h:Int}{j:Nat}{b:Bool}(e:t.freeSlot h=some (j,b)):t.place[below t.place j]?≠some j:=by
 unfold SetTable.freeSlot at e;split at e
 ·rename_i Y d' e'
  have e:=aA e;injection e with J e2;obtain⟨q,h2⟩:=VY O _ _ rfl e';subst h2;have J:Y=j:=J;subst J;unfold mz at q;dsimp only at q;split at q
  ·cases q
  ·rename_i M
   intro z;exact M (by rw[z];simp)
 ·cases e
structure Wk (t:SetTable)(led:Bool):Prop where
 rise:VT t.place
 dum:t.dummies=#[]
 led:t.led=led
theorem Zd5 (n:Nat):VT (Array.range n):=by
 unfold VT;rw[Array.toList_range];exact hG
theorem Wk.standIn {t:SetTable}{led:Bool}(h:t.led=led)(n:Nat):Wk (t.standIn n) led:=⟨Zd5 n,rfl,h⟩
theorem Wk.lay {t:SetTable}{led:Bool}(W:Wk t led)(J:Array (Int×Value))(h:Int)(x:Value):Wk (layNew t J h x).2.1 led:=by
 unfold layNew;split
 ·rename_i slot M e
  try dsimp only
  have j:=ZgA W.dum e;have q:Wk (t.put slot).1 led:=by
   unfold put
   try dsimp only
   refine⟨W.rise.insert j,?_,W.led⟩
   try dsimp only
   rw[W.dum];unfold has;simp
  unfold SetTable.orStandIn;split
  ·exact q
  ·exact .standIn q.led _
 ·exact .standIn W.led _
theorem Zkw {n:Nat}(g:Nat->Option Nat):(((ac n).filterMap λj=>(g j).map (j,·)).map (·.1)).Pairwise (· < ·):=by
 have e:∀l:T7,(l.filterMap λj=>(g j).map (j,·)).map (·.1)=l.filter λj=>(g j).isSome:=λl=>by
  induction l with
  |nil=>rfl
  |cons a l q=>
   rw[bS,ee];cases h:g a with
   |none=>rw[Option.map_none];dsimp only;rw[q];rfl
   |some b=>rw[dh];dsimp only;rw[aN,q];rfl
 rw[e];exact cT lS hG
theorem Wk.relay {t:SetTable}{led:Bool}(W:Wk t led)(M:Array (Int×Value))(j:Nat):Wk (relayAll t M j).2.1 led:=by
 unfold relayAll;split
 ·rename_i t' q e
  try dsimp only
  split
  ·dsimp only
   unfold relaid laid at e;cases O:layClean (sizeAbove j-1) (M.map (·.1)) with
   |none=>rw[O] at e;cases e
   |some J=>
    rw[O] at e;have e:=aA e;injection e with Y e2;subst Y;refine⟨?_,rfl,W.led⟩;unfold VT;exact Zkw _
  ·exact .standIn W.led _
 ·exact .standIn W.led _
theorem Wk.plain {t:SetTable}{led:Bool}(W:Wk t led)(b:Bool):Wk {t with plain:=b} led:=⟨W.rise,W.dum,W.led⟩
theorem Wk.fresh (led:Bool):Wk (SetTable.fresh 0 0 led) led:=⟨eK,rfl,rfl⟩
theorem Zfg {p:Array Nat}(h:VT p){i:Nat}{slot:Nat}(M:i<=p.size)(J:(i=0/\slot=0)\/(∃j x,i=j+1/\p[j]?=some x/\slot=x+1)):below p slot=i:=by
 refine (Za3 h slot).uniq ⟨M,λk x O e=>?_,λk x O e=>?_⟩
 ·rcases J with ⟨rfl,_⟩|⟨j,y,rfl,q,rfl⟩
  ·omega
  ·by_cases Y:k=j
   ·subst Y
    rw[q] at e;cases e;omega
   ·have:=h.lt (by omega) e q
    omega
 ·rcases J with ⟨_,rfl⟩|⟨j,y,rfl,q,rfl⟩
  ·omega
  ·have:=h.lt (by omega) q e
   omega
theorem X4 {α:Type}:∀{l:List α}{i:Nat}{x:α},l[i]?=some x->bD (x::l.eraseIdx i) l
 | [],i,x,e=>by cases e
 |a::l,0,x,e=>by cases e;exact cP _
 |a::l,i+1,x,e=>by
  rw[List.getElem?_cons_succ] at e;rw[List.eraseIdx_cons_succ];exact (lT a x _).trans ((X4 e).cons a)
theorem ZaG {α:Type}(next:Nat->Nat):∀(j k:Nat) (left:List α) (out:Array α),left.length<=j->bD (jE next j k left out).toList (out.toList++left)
 |0,k,left,out,h=>by
  have:left=[]:=gU.mp (by omega);subst this;unfold jE;rw[eX]
 |j+1,k,left,out,h=>by
  unfold jE;split
  ·rename_i x e
   have q:=(ae.mp e).1;refine (ZaG next j (k+1) _ _ (by rw[lB];split <;> omega)).trans ?_
   rw[mf,gx];refine List.Perm.append_left _ ?_;exact X4 e
  ·rename_i e
   have:left=[]:=by
    rcases left with _|⟨a,l⟩
    ·rfl
    ·exfalso
     rw[gq] at e;have:=bc (next k) (show 0<(a::l).length by rw[Zi];omega);omega
   subst this;rw[eX]
theorem W3 {α:Type}(next:Nat->Nat)(xs:Array α):bD (pickOrder next xs).toList xs.toList:=by
 unfold pickOrder;have:=ZaG next xs.size 0 xs.toList #[] (by rw[Zr];exact Zq _);simpa using this
end PyS
namespace PyS
open PySem
theorem Z6:Slot "set_iterator" "__next__" "set_iterator.__next__":=
 .of (owner:="set_iterator") (n:="__next__") (by rw[typeLookup_type,mL];kernel_rfl) (by decide +kernel) (by decide +kernel) (by decide +kernel)
  (by first|exact .inl (by decide +kernel)|exact .inr (by decide +kernel)) (by rw[kB];kernel_rfl)
theorem Wx:entryFor table "set_iterator.__next__"=some cg.«set_iterator.__next__»:=entryFor_of_tree (by kernel_rfl)
theorem ZcW:Manifest.owners.lookup (String.ofList ['r','o','t','a','r','e','t','i','_','t','e','s'].reverse)=some Manifest.sig_set_iterator:=by kernel_rfl
theorem WS (a:Value):argsOk "set_iterator.__next__" ⟨[a],[]⟩:=by
 unfold argsOk;rw[signature?_of (id:="set_iterator.__next__") (n:=['_','_','t','x','e','n','_','_']) (o:=['r','o','t','a','r','e','t','i','_','t','e','s']) (by kernel_rfl) ZcW];kernel_rfl
theorem Vj:Slot "set_iterator" "__iter__" "set_iterator.__iter__":=
 .of (owner:="set_iterator") (n:="__iter__") (by rw[typeLookup_type,mL];kernel_rfl) (by decide +kernel) (by decide +kernel) (by decide +kernel)
  (by first|exact .inl (by decide +kernel)|exact .inr (by decide +kernel)) (by rw[kB];kernel_rfl)
theorem Zal:entryFor table "set_iterator.__iter__"=some cg.«dict_keyiterator.__iter__»:=entryFor_alias (id':="dict_keyiterator.__iter__") (by kernel_rfl) rfl (by decide +kernel) (by kernel_rfl)
theorem Zcg (a:Value):argsOk "set_iterator.__iter__" ⟨[a],[]⟩:=by
 unfold argsOk;rw[signature?_of (id:="set_iterator.__iter__") (n:=['_','_','r','e','t','i','_','_']) (o:=['r','o','t','a','r','e','t','i','_','t','e','s']) (by kernel_rfl) ZcW];kernel_rfl
theorem UX:entryFor table "set.__iter__"=some cg.«frozenset.__iter__»:=entryFor_alias (id':="frozenset.__iter__") (by kernel_rfl) rfl (by decide +kernel) (by kernel_rfl)
def JU (h:Heap)(a:Addr)(j:Array (Int×Value))(ep:Nat)(t:SetTable):Prop:=∃o,h.get? a=some o/\o.ExactSet/\o.data=.set j ep t/\t.fits j.size=true
def Y9 (h:Heap)(I:Addr)(first:Value)(i:Nat)(a:Addr)(n ep:Nat):Prop:=∃o,h.get? I=some o/\o.cls=.type "set_iterator"/\o.data=.fields #[first,.int i 0,.ref a,.int n 0,.int ep 0]
theorem JU.keep {h h':Heap}{a:Addr}{j:Array (Int×Value)}{ep:Nat}{t:SetTable}(S:JU h a j ep t)(k:∀o,h.get? a=some o->h'.get? a=some o):JU h' a j ep t:=let ⟨o,e,r⟩:=S;⟨o,k o e,r⟩
theorem Y9.keep {h h':Heap}{I:Addr}{first:Value}{i:Nat}{a:Addr}{n ep:Nat}(S:Y9 h I first i a n ep)(k:∀o,h.get? I=some o->h'.get? I=some o):Y9 h' I first i a n ep:=let ⟨o,e,r⟩:=S;⟨o,k o e,r⟩
section
variable {prog:Program}{w:World}{A:Around}{E:TY}{s:Shared}{I a:Addr}{es:Array (Int×Value)}{ep:Nat}{t:SetTable}{first:Value}{i n:Nat}
theorem Y9.typeIs (h:Y9 s.heap I first i a n ep):s.TypeIs (.ref I) "set_iterator":=let ⟨o,e,c,_⟩:=h;⟨o,e,c⟩
theorem JU.typeIs (h:JU s.heap a es ep t):s.TypeIs (.ref a) "set":=let ⟨o,e,c,_⟩:=h;⟨o,e,c.1⟩
theorem JU.state (h:JU s.heap a es ep t){Q:(Array (Int×Value)×Nat×SetTable)->Shared->Prop}(q:Q (es,ep,t) s):wpAny (model prog w) A (setState a) Q E s:=let ⟨_,e,_,d,f⟩:=h;wpAny_setState_of e d f q
theorem JU.entries (h:JU s.heap a es ep t){Q:Array (Int×Value)->Shared->Prop}(q:Q es s):wpAny (model prog w) A (setEntries a) Q E s:=by
 unfold setEntries;exact Zl (h.state (Zm q))
theorem JU.epoch (h:JU s.heap a es ep t){Q:Nat->Shared->Prop}(q:Q ep s):wpAny (model prog w) A (setEpoch a) Q E s:=by
 unfold setEpoch;exact Zl (h.state (Zm q))
theorem Zce {Q:Bool->Shared->Prop}(q:Q (w.params.followText "set-order") s):wpAny (model prog w) A setsByText Q E s:=by
 unfold setsByText;exact Zl (jP (Zm q))
theorem Y9.turn {h:Heap}{o:Obj}(e:h.get? I=some o)(c:o.cls=.type "set_iterator")(d:o.data=.fields #[first,.int i 0,.ref a,.int n 0,.int ep 0])(next:Value) :
  Y9 ((h.update I (gL (·.setIfInBounds 0 next))).update I (gL (·.setIfInBounds 1 (rawInt ((i:Int)+1))))) I next (i+1) a n ep:=by
 have q:=bw (gL (·.setIfInBounds 0 next)) e (cJ (br d _));have j:=br d (·.setIfInBounds 0 next);refine⟨_,bw _ q (cJ (br j _)),?_,?_⟩
 ·rw[gC,gC,c]
 ·rw[br j]
  simp[rawInt]
theorem Zc2 {slot:Nat}{Q:Option Value->Shared->Prop}(j:Y9 s.heap I (.int slot 0) i a n ep)(M:JU s.heap a es ep t)(O:es.size=n){x:Value}{nx:Nat}
  (Y:∀{R:Option (Value×Nat)->Shared->Prop}{A':Around}{E':TY},R (some (x,nx)) s->wpAny (model prog w) A' (setNext a slot i ep) R E' s)
  (q:∀h',Y9 h' I (.int nx 0) (i+1) a n ep->bj I s.heap h'->Q (some x) {s with heap:=h'}):wpAny (model prog w) A (pyNext (.ref I)) Q E s:=by
 obtain⟨o,e,c,d⟩:=id j;unfold pyNext;refine Zl (fQ (bP (name:=eh "__next__") j.typeIs Z6 (bM Z6 j.typeIs Wx ?_ (WS _))));unfold cg.«set_iterator.__next__»;refine Zl (Zm ?_);refine Zl (iT e d ?_);refine Zl (M.entries ?_);rw[O];rw[if_neg (by simp)];show wpAny _ _ (setNext a slot i ep >>= _) _ _ s;refine Zl (Y ?_)
 try dsimp only
 refine Zl (dk e d (by simp) ?_);have h1:=bw (gL (·.setIfInBounds 0 (rawInt nx))) e (cJ (br d _));have d1:=br d (·.setIfInBounds 0 (rawInt nx));refine Zl (dk h1 d1 (by simp) ?_);exact Zm ⟨_,rfl,Zm (q _ (Y9.turn e c d _) ((bC ..).trans (bC ..)))⟩
theorem Zcw {h:Heap}{Q:Option Value->Shared->Prop}{F:Fin->Shared->Prop}(j:A.handled=none)(q:∀h',(∀b o,h.get? b=some o->h'.get? b=some o)->Q none {s with heap:=h'}) :
  wpAny (model prog w) A.in1 (do let x <-newExc (.type "StopIteration") [];raiseNew (α:=Fin) x) F (λe s'=>wpAny (model prog w) A (do let b <-isInstance e (.type "StopIteration");if b=true then pure none else throw e) Q E s') {s with heap:=h}:=by
 refine Zl ?_;unfold newExc newTuple;refine Zl (bE (Q:=_) ?_ (by size_fits));refine Zl (m:=firstArgMember _ _) (jU (a:=be) (by first|rfl|(unfold firstArgMember;rfl)) ?_)
 refine bE (Q:=_) ?_ (by size_fits);unfold raiseNew;refine Zl (wpAny_handled ?_);rw[show A.in1.handled=none from j];refine Zl (Zm (wpAny_throw ?_));refine Zl (jO (T:="StopIteration") (b:=true) ⟨_,Zo _ rfl,rfl⟩ isSubtype_stop ?_);exact Zm (q _ λb o e=>Zn _ (Zn _ e))
theorem ZfE {slot:Nat}{Q:Option Value->Shared->Prop}(O:A.handled=none)(j:Y9 s.heap I (.int slot 0) i a n ep)(Y:JU s.heap a es ep t)(hn:es.size=n)
  (hN:∀{R:Option (Value×Nat)->Shared->Prop}{A':Around}{E':TY},R none s->wpAny (model prog w) A' (setNext a slot i ep) R E' s)
  (q:∀h',(∀b o,b≠I->s.heap.get? b=some o->h'.get? b=some o)->Q none {s with heap:=h'}):wpAny (model prog w) A (pyNext (.ref I)) Q E s:=by
 obtain⟨o,e,c,d⟩:=id j;unfold pyNext;refine Zl (fQ (bP (name:=eh "__next__") j.typeIs Z6 (bM Z6 j.typeIs Wx ?_ (WS _))));unfold cg.«set_iterator.__next__»;refine Zl (Zm ?_);refine Zl (iT e d ?_);refine Zl (Y.entries ?_);rw[hn];rw[if_neg (by simp)];show wpAny _ _ (setNext a slot i ep >>= _) _ _ s;refine Zl (hN ?_)
 try dsimp only
 refine Zl (dk e d (by simp) ?_);exact Zcw O λh' k=>q h' λb M hb e'=>k b M ((bC s.heap I _).extBut b M hb e')
theorem Zff (j:w.params.followText "set-order"=true)(J:JU s.heap a es ep t){slot:Nat}{R:Option (Value×Nat)->Shared->Prop}
  (q:R (((pickOrder (w.params.setOrder a ep) es)[i]?).map λe=>(e.2,slot)) s):wpAny (model prog w) A (setNext a slot i ep) R E s:=by
 unfold setNext;refine Zl (J.state ?_)
 try dsimp only
 refine Zl (Zce ?_);rw[j,if_pos rfl,if_neg (by simp)];refine Zl ?_;unfold setWalk;refine Zl (J.state ?_)
 try dsimp only
 refine Zl (Zce ?_);rw[j,if_pos rfl];exact Zl (jP (Zm (Zm q)))
theorem ZcY (J:w.params.followText "set-order"=false)(M:JU s.heap a es ep t)(hd:t.plain=true\/es.size<=1)(O:t.led=true){slot:Nat}{R:Option (Value×Nat)->Shared->Prop}
  (q:R (match es[lX t.place slot]?,t.place[lX t.place slot]? with|some (_,x),some j=>some (x,j+1)|_,_=>none) s):wpAny (model prog w) A (setNext a slot i ep) R E s:=by
 unfold setNext;refine Zl (M.state ?_)
 try dsimp only
 refine Zl (Zce ?_);rw[J,if_neg (by decide)];show wpAny _ _ (if (!t.plain && decide (es.size > 1))=true then _ else _) _ _ s
 rw[if_neg (by
  rcases hd with hd|hd
  ·rw[hd];simp
  ·rw[decide_eq_false (by omega),jN];decide)]
 show wpAny _ _ ((if (!t.led && !es.isEmpty)=true then _ else _) >>= _) _ _ s
 rw[O];exact Zl (Zm (Zm q))
theorem Zee {T0:Addr}{J:Array Value}{pl:Nat}{Q:Option Value->Shared->Prop}(j:Y9 s.heap I (.ref T0) i a n ep)(Y:∃o k,s.heap.get? T0=some o/\o.data=.seq J k)(M:JU s.heap a es ep t)(hn:es.size=n)(hp:J[i]?=some (.int pl 0)){h:Int}{x:Value}(hx:es[pl]?=some (h,x))
  (q:∀h',Y9 h' I (.ref T0) (i+1) a n ep->bj I s.heap h'->Q (some x) {s with heap:=h'}):wpAny (model prog w) A (pyNext (.ref I)) Q E s:=by
 obtain⟨o,e,c,d⟩:=id j;obtain⟨ot,k,et,dt⟩:=Y;unfold pyNext;refine Zl (fQ (bP (name:=eh "__next__") j.typeIs Z6 (bM Z6 j.typeIs Wx ?_ (WS _))));unfold cg.«set_iterator.__next__»;refine Zl (Zm ?_);refine Zl (iT e d ?_);refine Zl (M.entries ?_);rw[hn];rw[if_neg (by simp)];show wpAny _ _ (seqItems? (.ref T0) >>= _) _ _ s;refine Zl (gJ et dt ?_)
 try dsimp only
 rw[Zj,hp];show wpAny _ _ (setNextDrawn a pl ep >>= _) _ _ s;refine Zl ?_;unfold setNextDrawn;refine Zl (M.state ?_)
 try dsimp only
 rw[if_neg (by simp),hx];refine Zm ?_;refine Zl (dk e d (by simp) ?_);refine Zm ⟨_,rfl,Zm (q _ ⟨_,bw _ e (cJ (br d _)),?_,?_⟩ (bC ..))⟩
 ·rw[gC,c]
 ·rw[br d]
  simp[rawInt]
theorem ZgD {T0:Addr}{J:Array Value}{Q:Option Value->Shared->Prop}(Y:A.handled=none)(j:Y9 s.heap I (.ref T0) i a n ep)(hT:∃o k,s.heap.get? T0=some o/\o.data=.seq J k)(hS:JU s.heap a es ep t)(hn:es.size=n)(hp:J[i]?=none)
  (q:∀h',(∀b o,b≠I->s.heap.get? b=some o->h'.get? b=some o)->Q none {s with heap:=h'}):wpAny (model prog w) A (pyNext (.ref I)) Q E s:=by
 obtain⟨o,e,c,d⟩:=id j;obtain⟨ot,k,et,dt⟩:=hT;unfold pyNext;refine Zl (fQ (bP (name:=eh "__next__") j.typeIs Z6 (bM Z6 j.typeIs Wx ?_ (WS _))));unfold cg.«set_iterator.__next__»;refine Zl (Zm ?_);refine Zl (iT e d ?_);refine Zl (hS.entries ?_);rw[hn];rw[if_neg (by simp)];show wpAny _ _ (seqItems? (.ref T0) >>= _) _ _ s;refine Zl (gJ et dt ?_)
 try dsimp only
 rw[Zj,hp]
 try dsimp only
 refine Zl (dk e d (by simp) ?_);have h1:=bw (gL (·.setIfInBounds 0 (rawInt 0))) e (cJ (br d _));have d1:=br d (·.setIfInBounds 0 (rawInt 0));refine Zl (dk h1 d1 (by simp) ?_);exact Zcw Y λh' k=>q h' λb O hb e'=>k b O (((bC s.heap I _).trans (bC _ I _)).extBut b O hb e')
theorem ZgK {src:Source}{m:Nat}{Q:Nat->Shared->Prop}(j:m≠0)(q:∀k J,k<m->Q k {s with drawn:=J}):wpAny (model prog w) A (choose src m) Q E s:=λ_ _ _=>⟨j,q _ _ (bc _ (by omega))⟩
theorem ZaS {α:Type}:∀(m:Nat) (xs:List α) {s:Shared}{Q:List α->Shared->Prop},xs.length<=m->(∀ys M,bD ys xs->Q ys {s with drawn:=M})->wpAny (model prog w) A (drawOrder m xs) Q E s
 |0,xs,s,Q,h,q=>by
  have:xs=[]:=gU.mp (by omega);subst this;unfold drawOrder;exact Zm (q [] s.drawn (cP _))
 |m+1,[],s,Q,h,q=>by
  unfold drawOrder;exact Zm (q [] s.drawn (cP _))
 |m+1,x::xs,s,Q,h,q=>by
  unfold drawOrder;refine Zl (ZgK (by rw[Zi];omega) λk M j=>?_);rw[Zf j]
  try dsimp only
  refine Zl (ZaS m _ (by rw[lB,if_pos j];omega) λys J O=>Zm ?_);exact q _ J ((O.cons _).trans (X4 (Zf j)))
end
section
variable {prog:Program}{w:World}{A:Around}{E:TY}{s:Shared}{I a:Addr}{es:Array (Int×Value)}{ep:Nat}{t:SetTable}{first:Value}{i n:Nat}
theorem Zbs {Q:TY}(j:Y9 s.heap I first i a n ep)(q:Q (.ref I) s):wpAny (model prog w) A (pyIter (.ref I)) Q E s:=by
 refine wpAny_pyIter_slot j.typeIs Vj (bM Vj j.typeIs Zal ?_ (Zcg _));show wpAny _ _ (ret (.ref I)) _ _ s;exact Zm ⟨_,rfl, "set_iterator",_,j.typeIs,Z6.lookup,q⟩
def Vb (es:Array (Int×Value)):List Value:=es.toList.map (·.2)
theorem ZfT (hh:A.handled=none)(O:w.params.followText "set-order"=true)(q:a≠I) :
  Walks prog w A I [I,a] [I] es.size (λi v=>((pickOrder (w.params.setOrder a ep) es).toList.map (·.2))[i]?=some v) (λi h=>Y9 h I (.int 0 0) i a es.size ep/\JU h a es ep t) where
 sub:=λb hb=>by simp at hb;simp[hb]
 frame:=λ_ _ _ st k=>⟨st.1.keep λo e=>k I (by simp) o e,st.2.keep λo e=>k a (by simp) o e⟩
 item:=λi s Q E hi st j=>by
  have J:=W3 (w.params.setOrder a ep) es;have hl:(pickOrder (w.params.setOrder a ep) es).size=es.size:=by rw[<-Zr,J.length_eq,Zr]
  have e:(pickOrder (w.params.setOrder a ep) es)[i]?=some ((pickOrder (w.params.setOrder a ep) es)[i]'(by omega)):=aM (by omega);generalize (pickOrder (w.params.setOrder a ep) es)[i]'(by omega)=y at e;refine Zc2 (slot:=0) (x:=y.2) (nx:=0) st.1 st.2 rfl (λ{R A' E'} r=>Zff O st.2 (by rw[e];exact r)) λM i' Y=>?_;refine j y.2 M s.toks ?_ ⟨i',st.2.keep λo e=>Y.extBut a o q e⟩ λb o hb e=>Y.extBut b o (λz=>hb (by simp[z])) e;rw[Zc,cG,e];rfl
 done:=λs Q E st j=>by
  have J:=W3 (w.params.setOrder a ep) es;have hl:(pickOrder (w.params.setOrder a ep) es).size=es.size:=by rw[<-Zr,J.length_eq,Zr]
  refine ZfE (slot:=0) hh st.1 st.2 rfl (λ{R A' E'} r=>Zff O st.2 (by rw[cy (by omega)];exact r)) λM k=>j M s.toks λb o hb e=>k b o (λz=>hb (by simp[z])) e
 self:=λ_ _ _ _ st j=>Zbs st.1 j
theorem ZdC (hh:A.handled=none)(ht:w.params.followText "set-order"=false)(hd:t.plain=true\/es.size<=1)(W:Wk t true)(Y:a≠I) :
  Walks prog w A I [I,a] [I] es.size (λi v=>(Vb es)[i]?=some v) (λi h=>∃slot:Nat,((i=0/\slot=0)\/(∃j x,i=j+1/\t.place[j]?=some x/\slot=x+1))/\Y9 h I (.int slot 0) i a es.size ep/\JU h a es ep t) where
 sub:=λb hb=>by simp at hb;simp[hb]
 frame:=λ_ _ _ st k=>by
  obtain⟨slot,M,J,q⟩:=st;exact⟨slot,M,J.keep λo e=>k I (by simp) o e,q.keep λo e=>k a (by simp) o e⟩
 item:=λi s Q E hi st O=>by
  obtain⟨slot,M,J,q⟩:=st;have hf:t.place.size=es.size:=by
   obtain⟨_,_,_,_,f⟩:=q;simp only[mB,ag,beq_iff_eq] at f;exact f.1
  have hb:=Zfg W.rise (i:=i) (slot:=slot) (by omega) M;have e1:es[i]?=some es[i]:=aM hi;have e2:t.place[i]?=some (t.place[i]'(by omega)):=aM (by omega);generalize es[i]=y at e1;generalize t.place[i]'(by omega)=j at e2;refine Zc2 (slot:=slot) (x:=y.2) (nx:=j+1) J q rfl (λ{R A' E'} r=>ZcY ht q hd W.led (by rw[hb,e1,e2];exact r)) λh' i' sb=>?_;refine O y.2 h' s.toks ?_ ⟨j+1,.inr ⟨i,j,rfl,e2,rfl⟩,i',q.keep λo e=>sb.extBut a o Y e⟩ λb o hb e=>sb.extBut b o (λz=>hb (by simp[z])) e;show (es.toList.map (·.2))[i]?=some y.2;rw[Zc,cG,e1];rfl
 done:=λs Q E st O=>by
  obtain⟨slot,M,J,q⟩:=st;have hf:t.place.size=es.size:=by
   obtain⟨_,_,_,_,f⟩:=q;simp only[mB,ag,beq_iff_eq] at f;exact f.1
  have hb:=Zfg W.rise (i:=es.size) (slot:=slot) (by omega) M;refine ZfE (slot:=slot) hh J q rfl (λ{R A' E'} r=>ZcY ht q hd W.led (by rw[hb,cy (Zq _)];exact r)) λh' k=>O h' s.toks λb o hb e=>k b o (λz=>hb (by simp[z])) e
 self:=λ_ _ _ _ st O=>by
  obtain⟨slot,M,J,q⟩:=st;exact Zbs J O
theorem ZdD (hh:A.handled=none){T0:Addr}{j:T7}(M:bD j (ac es.size))(m5:a≠I)(m6:T0≠I) :
  Walks prog w A I [I,a,T0] [I] es.size (λi v=>(j.filterMap λp=>(es[p]?).map (·.2))[i]?=some v) (λi h=>Y9 h I (.ref T0) i a es.size ep/\JU h a es ep t/\∃o k,h.get? T0=some o/\o.data=.seq (j.map λ(p:Nat)=>rawInt p).toArray k) where
 sub:=λb hb=>by simp at hb;simp[hb]
 frame:=λ_ _ _ st k=>by
  obtain⟨Y,O,o,k0,J,h4⟩:=st;exact⟨Y.keep λo e=>k I (by simp) o e,O.keep λo e=>k a (by simp) o e,o,k0,k T0 (by simp) o J,h4⟩
 item:=λi s Q E hi st hQ=>by
  obtain⟨Y,O,J⟩:=st;have hl:j.length=es.size:=by rw[M.length_eq,Zg]
  have e0:j[i]?=some (j[i]'(by omega)):=Zf (by omega);have hm:j[i]'(by omega)<es.size:=af.mp (M.mem_iff.mp (bn _));generalize j[i]'(by omega)=pl at e0 hm;have e1:es[pl]?=some es[pl]:=aM hm;generalize es[pl]=y at e1;obtain⟨hv,x⟩:=y;refine Zee (pl:=pl) Y J O rfl (by simp[e0,rawInt]) e1 λh' i' sb=>?_;obtain⟨o,k0,J,h4⟩:=J;refine hQ x h' s.toks ?_ ⟨i',O.keep λo e=>sb.extBut a o m5 e,o,k0,sb.extBut T0 o m6 J,h4⟩ λb o hb e=>sb.extBut b o (λz=>hb (by simp[z])) e;have all:∀(l:T7),(∀p∈l,p<es.size)->(l.filterMap λp=>(es[p]?).map (·.2))=l.map λp=>(es.getD p (0,.none)).2:=λl=>by
   induction l with
   |nil=>intro _;rfl
   |cons p l ih=>
    intro h;have M:=h p ar;rw[bS,aM M,dh,aN,ih λq hq=>h q (ao _ hq)]
    try dsimp only
    rw[cz,aM M];rfl
  rw[all j λp hm=>af.mp (M.mem_iff.mp hm),Zc,e0,dh,cz,e1];rfl
 done:=λs Q E st hQ=>by
  obtain⟨Y,O,J⟩:=st;have hl:j.length=es.size:=by rw[M.length_eq,Zg]
  refine ZgD hh Y J O rfl (by rw[cy (by simp[hl])]) λh' k=>hQ h' s.toks λb o hb e=>k b o (λz=>hb (by simp[z])) e
 self:=λ_ _ _ _ st hQ=>Zbs st.1 hQ
theorem Zhu (hz:es.size<=sizeLine)(M:JU s.heap a es ep t)(W:Wk t (!w.params.followText "set-order")){Q:TY}
  (q:∀(I:Addr) (fp:TW) (h':Heap) (dr:kK) (L:List Value) (St:Nat->Heap->Prop),s.heap.objs.size<=I->(∀b∈fp,b=a\/s.heap.objs.size<=b)->(∀b o,s.heap.get? b=some o->h'.get? b=some o)->bD L (Vb es)->
   (∀A':Around,A'.handled=none->Walks prog w A' I fp [I] es.size (λi v=>L[i]?=some v) St)->St 0 h'->Q (.ref I) {s with heap:=h',drawn:=dr}) :
  wpAny (model prog w) A (pyIter (.ref a)) Q E s:=by
 have ha:a<s.heap.objs.size:=let ⟨o,e,_⟩:=M;Zp e;refine wpAny_pyIter_slot M.typeIs F.slot_set_iter (bM F.slot_set_iter M.typeIs UX ?_ (F.args_set_iter_1 _));unfold cg.«frozenset.__iter__»;show wpAny _ _ (pure a >>= _) _ _ s;refine Zl (Zm ?_);refine Zl ?_;unfold Builtin.Frozenset.sizeOf;refine Zl (M.entries (Zm ?_));refine Zl ?_;unfold setDrawn;refine Zl (M.state ?_)
 try dsimp only
 refine Zl (Zce (Zm ?_));show wpAny _ _ (if (!w.params.followText "set-order" && (!t.plain && decide (es.size > 1)))=true then _ else _) _ _ s
 by_cases J:(!w.params.followText "set-order" && (!t.plain && decide (es.size > 1)))=true
 ·rw[if_pos J]
  refine Zl (ZaS _ _ (by rw[Zg];exact Zq _) λO dr hp=>?_);have hl:O.length=es.size:=by rw[hp.length_eq,Zg]
  unfold newTuple;refine Zl (bE ?_ (by show (gS (λ(i:Nat)=>rawInt i) O).toArray.size<=sizeLine;rw[Zh,Za,hl];exact hz));have h1:(s.heap.push {cls:=.type "tuple",data:=.seq (gS (λ(i:Nat)=>rawInt i) O).toArray}).get? s.heap.objs.size=some {cls:=.type "tuple",data:=.seq (gS (λ(i:Nat)=>rawInt i) O).toArray}:=Zo _ rfl;have m5:∀b o,s.heap.get? b=some o->(s.heap.push {cls:=.type "tuple",data:=.seq (gS (λ(i:Nat)=>rawInt i) O).toArray}).get? b=some o:=λb o e=>Zn _ e;have m6:(s.heap.push {cls:=.type "tuple",data:=.seq (gS (λ(i:Nat)=>rawInt i) O).toArray}).objs.size=s.heap.objs.size+1:=bW ..;generalize s.heap.push {cls:=.type "tuple",data:=.seq (gS (λ(i:Nat)=>rawInt i) O).toArray}=g1 at h1 m5 m6 ⊢;have m8:JU g1 a es ep t:=M.keep λo e=>m5 a o e;refine Zl (JU.epoch (s:={s with heap:=g1,drawn:=dr}) m8 ?_);refine Zl ?_;unfold newFields;refine bE (Zm ⟨_,rfl, "set_iterator",_,⟨_,Zo _ rfl,rfl⟩,Z6.lookup,?_⟩) (by size_fits);refine q g1.objs.size [g1.objs.size,a,s.heap.objs.size] _ dr _ (λi h=>Y9 h g1.objs.size (.ref s.heap.objs.size) i a es.size ep/\JU h a es ep t/\∃o k,h.get? s.heap.objs.size=some o/\o.data=.seq (O.map λ(p:Nat)=>rawInt p).toArray k) (by omega) (λb hb=>?_) (λb o e=>Zn _ (m5 b o e)) ?_
   (λA' hh=>ZdD hh hp (ay (by rw[m6];exact fm ha)) (ay (by rw[m6];exact cC _))) ⟨⟨_,Zo _ rfl,rfl,rfl⟩,m8.keep λo e=>Zn _ e,_,_,Zn _ h1,rfl⟩
  ·simp only[aD,dZ,or_false] at hb
   rcases hb with rfl|rfl|rfl
   ·right;omega
   ·left;rfl
   ·right;omega
  ·refine (hp.filterMap _).trans ?_
   have e:((ac es.size).filterMap λp=>(es[p]?).map (·.2))=Vb es:=by
    unfold Vb;rw[<-filterMap_getElem?_range es,List.map_filterMap]
   rw[e]
 ·rw[if_neg J]
  refine Zl (Zm ?_);refine Zl (M.epoch ?_);refine Zl ?_;unfold newFields;refine bE (Zm ⟨_,rfl, "set_iterator",_,⟨_,Zo _ rfl,rfl⟩,Z6.lookup,?_⟩) (by size_fits);have Y:∀b∈[s.heap.objs.size,a],b=a\/s.heap.objs.size<=b:=λb hb=>by
   simp only[aD,dZ,or_false] at hb;rcases hb with rfl|rfl
   ·right;omega
   ·left;rfl
  cases ht:w.params.followText "set-order" with
  |true=>
   refine q s.heap.objs.size [s.heap.objs.size,a] _ s.drawn _ (λi h=>Y9 h s.heap.objs.size (.int 0 0) i a es.size ep/\JU h a es ep t) (Zq _) Y (λb o e=>Zn _ e) ?_
    (λA' hh=>ZfT hh ht (ay ha)) ⟨⟨_,Zo _ rfl,rfl,rfl⟩,M.keep λo e=>Zn _ e⟩
   exact (W3 _ es).map _
  |false=>
   rw[ht] at W J;refine q s.heap.objs.size [s.heap.objs.size,a] _ s.drawn _ (λi h=>∃slot:Nat,((i=0/\slot=0)\/(∃j x,i=j+1/\t.place[j]?=some x/\slot=x+1))/\Y9 h s.heap.objs.size (.int slot 0) i a es.size ep/\JU h a es ep t) (Zq _) Y (λb o e=>Zn _ e) (cP _)
    (λA' hh=>ZdC hh ht ?_ W (ay ha)) ⟨0,.inl ⟨rfl,rfl⟩,⟨_,Zo _ rfl,rfl,rfl⟩,M.keep λo e=>Zn _ e⟩
   cases hp:t.plain with
   |true=>exact .inl rfl
   |false=>
    rw[hp] at J;right;by_cases h1:es.size > 1
    ·exfalso
     apply J;simp[h1]
    ·omega
end
end PyS
namespace PyS
open PySem PySem.W PyProof.Rows PySem.Calls PyProof.V PySem.Spec
section
variable {prog:Program}{w:World}{A:Around}{E:TY}{s:Shared}{a:Addr}{es:Array (Int×Value)}{ep:Nat}{t:SetTable}
theorem ZiR {r:Addr}{Q:Bool->Shared->Prop}(J:s.TypeIs (.ref r) "set")(h:Q false s):wpAny (model prog w) A (ft (.ref r)) Q E s:=by
 unfold ft;refine Zl (wpAny_specialOf J PySem.F.slot_set_len.lookup ?_);generalize q:("set.__len__":String)=M
 wp_delta
 rw[show splitId M=some ("set", "__len__") from by subst q;decide +kernel];subst q;refine Zl (jO (T:="set") (b:=true) J (by rw[kB];kernel_rfl) ?_);refine j5 (λj=>absurd j (by decide)) (λ_=>?_);refine j5 (λ_=>?_) (λj=>absurd (by decide +kernel) j);refine Zl (ir J ?_);exact Zm h
theorem ZiI {L:List Value}{ZE:Array Value}{n:Nat}(q:L.length=n)(h:g8 (λi v=>L[i]?=some v) ZE n):ZE.toList=L:=by
 refine a7 λi=>?_;by_cases j:i<n
 ·have e:ZE[i]?=some (ZE[i]'(by rw[h.1];exact j)):=aM _
  rw[cG,e];exact (h.2 i _ e).symm
 ·rw[ak (by rw[Zr,h.1];omega),ak (by omega)]
structure Src (prog:Program)(w:World)(T:String)(a d:Addr)(n:Nat)(Good:(Nat->Value->Prop)->Prop)(OK:Heap->Prop):Prop where
 type:∀s:Shared,OK s.heap->s.TypeIs (.ref a) T
 there:∀s:Shared,OK s.heap->d<s.heap.objs.size
 keep:∀h h':Heap,OK h->(∀b o,h.get? b=some o->h'.get? b=some o)->OK h'
 notList:(b9 T == b9 "list")=false
 notTuple:(b9 T == b9 "tuple")=false
 hint:∀(A:Around) (E:TY) (s:Shared) (Q:Bool->Shared->Prop),OK s.heap->Q false s->wpAny (model prog w) A (ft (.ref a)) Q E s
 iter:∀(A:Around) (E:TY) (s:Shared) (Q:TY),OK s.heap->
  (∀(I:Addr) (fp:TW) (h':Heap) (dr:kK) (P:Nat->Value->Prop) (St:Nat->Heap->Prop),s.heap.objs.size<=I->(∀b∈fp,b=a\/b=d\/s.heap.objs.size<=b)->(∀b o,s.heap.get? b=some o->h'.get? b=some o)->Good P->
   (∀A':Around,A'.handled=none->Walks prog w A' I fp [I] n P St)->St 0 h'->Q (.ref I) {s with heap:=h',drawn:=dr})->wpAny (model prog w) A (pyIter (.ref a)) Q E s
section
variable {T:String}{d:Addr}{n:Nat}{Good:(Nat->Value->Prop)->Prop}{OK:Heap->Prop}
theorem ZdM {R:Result->Shared->Prop}(C:Src prog w T a d n Good OK)(hh:A.handled=none)(hz:n<=sizeLine)(m5:OK s.heap)(S:Addr)(m8:S≠a)(o7:S≠d)(res:Value)(Y:Nat)(hL:s.heap.get? S=some {cls:=.type "list",data:=.seq #[] Y})
  (hR:∀h' dr tk (q:Array Value) c' P,(∀b o,b≠S->s.heap.get? b=some o->h'.get? b=some o)->h'.get? S=some {cls:=.type "list",dict:=none,data:=.seq q c',slots:=#[]}->Good P->g8 P q n->R (.ok (.ret res)) {s with heap:=h',drawn:=dr,toks:=tk}) :
  wpAny (model prog w) A.in1 (c8 (.ref S) (.ref a) res)
   (λfin s'=>match fin with | .done f=>R (.ok f) s' | .again c'=>c'.quiet=true/\codeAny (model prog w) A c' R s') (λe s'=>R (.error e) s') s:=by
 have o8:S<s.heap.objs.size:=Zp hL;unfold c8;refine Zl (ir (T:=T) (C.type s m5) ?_);have h1:iZ (.ref S) (.ref a)=false:=by simp[iZ,m8]
 simp only[h1,C.notList,C.notTuple,gI,di,if_false];refine Zl (C.iter _ _ _ _ m5 λI fp h' dr P St hI o9 hk hp n6 st=>?_);have n8:S∉fp:=λz=>by
  rcases o9 S z with e|e|e
  ·exact m8 e
  ·exact o7 e
  ·exact absurd o8 (Nat.not_lt.mpr e)
 have key:∀(h:Heap) (J tk:Nat),St 0 h->(∀b o,b≠S->s.heap.get? b=some o->h.get? b=some o)->
   h.get? S=some {cls:=.type "list",data:=.seq #[] J}->codeAny (model prog w) A (.builtin "list.extend.loop" ⟨[.ref S,.ref I,res],[]⟩) R {s with heap:=h,drawn:=dr,toks:=tk}:=by
  intro h J tk p3 hk j;refine codeAny_extend_loopS (n6 A.in1 hh).toS hz S n8 res n 0 _ #[] J rfl (a5 _) p3 j (ItemsOf.nil _) λs' q c' hm p4 n9=>?_;rw[Moved.eq_with hm];refine hR s'.heap dr s'.toks q c' P (λb o hb e=>hm.heap b o (λM=>?_) (hk b o hb e)) p4 hp n9;rcases aD.mp M with e'|M
  ·exact hb e'
  ·exact absurd (Zp e) (by rw[aS.mp M];exact Nat.not_lt.mpr hI)
 have j:=hk S _ hL;refine Zl (cI (C.hint _ _ {s with heap:=h',drawn:=dr} _ (C.keep _ _ m5 λb o e=>hk b o e) ?_));refine j5 (λ_=>?_) (λ_=>Zm ⟨c6 jy _,key _ Y _ st (λb o _ e=>hk b o e) j⟩);refine Zl (fh ?_);refine Zl ?_;show wpAny _ _ (updateSeq S (·.push .none) >>= λ_=>updateSeq S (·.pop)) _ _ _;refine Zl (wpAny_updateSeq j rfl ?_);have O:=bw (cH (·.push be)) j rfl;refine wpAny_updateSeq (hz:=by seq_fits) O rfl ?_;have m6:=bw (cH (·.pop)) O rfl;refine Zm ⟨c6 jy _,key _ _ _ ?_ (λb o hb e=>?_) m6⟩
 ·refine (n6 A.in1 hh).frame 0 _ _ st λb hb o e=>?_
  have o0:b≠S:=λh=>n8 (h▸hb);exact (bQ _ _ (bd o0)).trans ((bQ _ _ (bd o0)).trans e)
 ·exact (bQ _ _ (bd hb)).trans ((bQ _ _ (bd hb)).trans (hk b o e))
theorem Zcy {R:List Value->Shared->Prop}(C:Src prog w T a d n Good OK)(hh:A.handled=none)(hz:n<=sizeLine)(O:OK s.heap)
  (h:∀(h':Heap) (dr:kK) (tk:Nat) (ZE:Array Value) (P:Nat->Value->Prop),s.heap.objs.size<h'.objs.size->(∀b o,s.heap.get? b=some o->h'.get? b=some o)->Good P->g8 P ZE n->R ZE.toList {s with heap:=h',drawn:=dr,toks:=tk}) :
  wpAny (model prog w) A (collect (.ref a)) R E s:=by
 have ha:a<s.heap.objs.size:=let ⟨o,e,_⟩:=C.type s O;Zp e;unfold collect;refine Zl (kx (bV entry_proto_collect' ?_));rw[bA ji _];show wpAny _ A.in1 (newList [] >>= λl=>again (.builtin "list.__iadd__" ⟨[l,.ref a],[]⟩)) _ _ s;refine Zl (bE ?_);refine Zm ⟨c6 eQ _,bV entry_list_iadd' ?_⟩;rw[bA eQ _];have Y:(s.heap.push {cls:=.type "list",data:=.seq ([]:List Value).toArray}).get? s.heap.objs.size=some {cls:=.type "list",data:=.seq #[]}:=Zo _ rfl;show wpAny _ A.in1 (c8 (.ref s.heap.objs.size) (.ref a) (.ref s.heap.objs.size)) _ _ _;have m5:=ZdM (prog:=prog) (w:=w) (A:=A) (s:={s with heap:=s.heap.push {cls:=.type "list",data:=.seq ([]:List Value).toArray}})
  (R:=λ(q:Result) (s':Shared)=>∃(h':Heap) (dr:kK) (tk:Nat) (j:Array Value) (c':Nat) (P:Nat->Value->Prop),q=.ok (.ret (.ref s.heap.objs.size))/\s'={s with heap:=h',drawn:=dr,toks:=tk}/\
   (∀b o,s.heap.get? b=some o->h'.get? b=some o)/\h'.get? s.heap.objs.size=some {cls:=.type "list",dict:=none,data:=.seq j c',slots:=#[]}/\Good P/\g8 P j n)
  C hh hz (C.keep _ _ O λb o e=>Zn _ e) s.heap.objs.size (bq ha) (bq (C.there _ O)) (.ref s.heap.objs.size) 0 Y
  (λh' dr tk j c' P hk M hg J=>⟨h',dr,tk,j,c',P,rfl,rfl,λb o e=>hk b o (ay (Zp e)) (Zn _ e),M,hg,J⟩)
 refine cr m5 (λm6 s' x=>?_) λe s' x=>?_
 ·cases m6 with
  |done f=>
   obtain⟨h',dr,tk,j,c',P,e,rfl,hk,M,hg,J⟩:=x;cases e;show wpAny _ A (load s.heap.objs.size >>= _) _ _ _;refine Zl (jo M ?_);exact Zm (h h' dr tk j P (Zp M) hk hg J)
  |again m8=>
   refine⟨x.1,fz x.2 λq n6 y=>?_⟩;obtain⟨h',dr,tk,j,c',P,rfl,rfl,hk,M,hg,J⟩:=y;show wpAny _ A (load s.heap.objs.size >>= _) _ _ _;refine Zl (jo M ?_);exact Zm (h h' dr tk j P (Zp M) hk hg J)
 ·obtain⟨_,_,_,_,_,_,e',_⟩:=x
  cases e'
def Zed:Value->Int
 | .int k _=>k
 |_=>0
theorem ZiO:∀{l:List Value}{ns:TZ},aZ l ns->ns=l.map Zed
 |_,_,.nil=>rfl
 |_,_,.cons n t r=>by rw[aN,<-ZiO r];rfl
theorem ZiN:∀{l:List Value}{ns:TZ},aZ l ns->∀v∈l,∃k t,v=.int k t
 |_,_,.nil,v,h=>by cases h
 |_,_,.cons n t r,v,h=>by
  rcases aD.mp h with h|h
  ·exact⟨n,t,h⟩
  ·exact ZiN r v h
theorem ZiM:∀{l:List Value},(∀v∈l,∃k t,v=.int k t)->aZ l (l.map Zed)
 | [],_=>.nil
 |v::l,h=>by
  obtain⟨k,t,rfl⟩:=h v ar;exact .cons k t (ZiM λu j=>h u (ao _ j))
theorem Zlf {l j:List Value}{ns:TZ}(p:bD j l)(h:aZ l ns):aZ j (j.map Zed)/\bD (j.map Zed) ns:=
 ⟨ZiM λv q=>ZiN h v (p.mem_iff.mp q),by rw[ZiO h];exact p.map _⟩
theorem ZdL {Q:TY}(C:Src prog w T a d n Good OK)(hh:A.handled=none)(m8:n<64)(Y:OK s.heap){ns:TZ}(hi:∀P ZE,Good P->g8 P ZE n->aZ ZE.toList (ZE.toList.map Zed)/\bD (ZE.toList.map Zed) ns)
    (q:∀(D:Addr) (h':Heap) (dr:kK) (tk:Nat) (out:List Value) (j:TZ) (c:Nat),s.heap.objs.size<=D->(∀b o,s.heap.get? b=some o->h'.get? b=some o)->h'.get? D=some (seqObj "list" out.toArray c)->aZ out j->bD j ns->j.Pairwise (· ≤ ·)->Q (.ref D) {s with heap:=h',drawn:=dr,toks:=tk}) :
    wpAny (model prog w) A (call (.builtin "sorted") [.ref a]) Q E s:=by
  have hz : n ≤ sizeLine := by have:(16777216:Nat)=sizeLine:=by decide
                               omega
  refine lz kind_sorted plain_sorted entry_sorted (args_sorted1 _) ?_;unfold cg.«sorted»;refine Zl (m:=checkCount "sorted" 1 1 _) (Zm ?_);refine Zl (Zcy (A:=A.in1) C hh hz Y λh' dr tk ZE P O hk hg J=>?_);obtain⟨i1,i2⟩:=hi P ZE hg J;have hl:ZE.toList.length=n:=by rw[Zr];exact J.1
  generalize ZE.toList=M at i1 i2 hl ⊢;refine Zl (lC ?_ (by rw[hl];exact hz));have ho:(h'.push {cls:=.type "list",data:=.seq M.toArray}).get? h'.objs.size=some (seqObj "list" M.toArray 0):=Zo _ rfl;have m5:∀b o,s.heap.get? b=some o->(h'.push {cls:=.type "list",data:=.seq M.toArray}).get? b=some o:=λb o e=>Zn _ (hk b o e);refine Zl (cI ?_);refine bM slot_list_sort ⟨_,ho,rfl⟩ entry_list_sort (list_sort_tree (n:=0) (vs:=M) ho i1 (by omega) λout j hI m6 hP=>⟨.none,rfl,?_⟩) (args_list_sort _);refine Zm ⟨_,rfl,?_⟩;have o1:=kc ho (λ_=>(#[]:Array Value));have o2:=Zn (seqObj "tuple" M.toArray 0) o1;have o3:=Zn (seqObj "list" #[] 0) o2;have o4:=kc o3 (λ_=>out);refine q h'.objs.size _ dr tk out.toList j _ (cO O) (λb o e=>?_) (by rw[lh];exact o4) hI (m6.trans i2) hP;have hb:b≠h'.objs.size:=ay (je (Zp e) O);unfold sortedHeap;rw[bQ _ _ (bd hb)];refine Zn _ (Zn _ ?_);rw[bQ _ _ (bd hb)];exact m5 b o e
end
theorem Zj2 (hz:es.size<=sizeLine)(W:Wk t (!w.params.followText "set-order")):Src prog w "set" a a es.size (λP=>∃L:List Value,bD L (Vb es)/\P=λi v=>L[i]?=some v) (λh=>JU h a es ep t) where
 type:=λs h=>JU.typeIs h
 there:=λs S=>let ⟨o,e,_⟩:=JU.typeIs (s:=s) S;Zp e
 keep:=λh M S k=>S.keep (k a)
 notList:=by decide
 notTuple:=by decide
 hint:=λA E s Q S q=>ZiR (JU.typeIs S) q
 iter:=λA E s Q S q=>Zhu hz S W λI O M Y L St hI j hk hp J st=>q I O M Y _ St hI (λb hb=>(j b hb).elim .inl λz=>.inr (.inr z)) hk ⟨L,hp,rfl⟩ J st
theorem ZdW {ns:TZ}{Q:TY}(Y:A.handled=none)(M:es.size<64)(hS:JU s.heap a es ep t)(W:Wk t (!w.params.followText "set-order"))(hi:aZ (Vb es) ns)
    (q:∀(D:Addr) (h':Heap) (dr:kK) (tk:Nat) (out:List Value) (j:TZ) (c:Nat),s.heap.objs.size<=D->(∀b o,s.heap.get? b=some o->h'.get? b=some o)->h'.get? D=some (seqObj "list" out.toArray c)->aZ out j->bD j ns->j.Pairwise (· ≤ ·)->Q (.ref D) {s with heap:=h',drawn:=dr,toks:=tk}) :
    wpAny (model prog w) A (call (.builtin "sorted") [.ref a]) Q E s:=by
  have hz : es.size ≤ sizeLine := by have:(16777216:Nat)=sizeLine:=by decide
                                     omega
  refine ZdL (Zj2 (ep:=ep) hz W) Y M hS (ns:=ns) (λP ZE hg J=>?_) q;obtain⟨L,O,rfl⟩:=hg;rw[ZiI (by rw[O.length_eq];unfold Vb;rw[Za,Zr]) J];exact Zlf O hi
section
variable {K:Type} [DecidableEq K]{knd:PySem.KeyKind prog w K}{kvs:List (K×Value)}
end
end
structure SX (prog:Program)(w:World)(h:Heap)(a:Addr)(es:Array (Int×Value))(ep:Nat)(t:SetTable)(S:Int->Bool)(n:Nat):Prop where
 at_:JU h a es ep t
 el:ElemsOf (intKind prog w) es.toList
 mem:∀k,S k=true↔∃e∈es.toList,(intKind prog w).is k e.2=true
 sb:es.size<scanBound
 sz:es.size=n
 wk:Wk t (!w.params.followText "set-order")
def Vz (prog:Program)(w:World)(h:Heap)(a:Addr)(S:Int->Bool)(n:Nat):Prop:=∃j q t,SX prog w h a j q t S n
section
variable {prog:Program}{w:World}{A:Around}{E:TY}{s:Shared}{a:Addr}
theorem Vz.keep {h h':Heap}{S:Int->Bool}{n:Nat}(X:Vz prog w h a S n)(k:∀o,h.get? a=some o->h'.get? a=some o):Vz prog w h' a S n:=by
 obtain⟨j,q,t,X⟩:=X;exact⟨j,q,t,X.at_.keep k,X.el,X.mem,X.sb,X.sz,X.wk⟩
theorem Vz.congr {h:Heap}{S j:Int->Bool}{n q:Nat}(X:Vz prog w h a S n)(e:∀k,S k=j k)(J:n=q):Vz prog w h a j q:=by
 have:S=j:=funext e;subst this;subst J;exact X
theorem stored {h:Heap}{q es':Array (Int×Value)}{ep:Nat}{t t':SetTable}(S:JU h a q ep t)(hf:t'.fits es'.size=true):JU (h.update a (iW es' t')) a es' (ep+1) t':=by
 obtain⟨o,e,x,d,_⟩:=S;have j:=bw (iW es' t') e (by rw[putSet_of es' t' d];rfl);rw[putSet_of es' t' d] at j;exact⟨_,j,x,rfl,hf⟩
theorem WB {j es':Array (Int×Value)}{ep:Nat}{t t':SetTable}{Q:Unit->Shared->Prop}(S:JU s.heap a j ep t)(hz:es'.size<=sizeLine)(q:Q () {s with heap:=s.heap.update a (iW es' t')}):wpAny (model prog w) A (storeSet a es' t') Q E s:=by
 obtain⟨o,e,x,d,_⟩:=S;exact wpAny_storeSet_of e d q hz
theorem Zdw {g:Bool->Sem Unit}(hg:∀(b:Bool) (O:Shared) (Q':Unit->Shared->Prop),Q' () O->wpAny (model prog w) A (g b) Q' E O){es j:Array (Int×Value)}{ep:Nat}{t q:SetTable}{led:Bool}(S:JU s.heap a es ep t)(hz:j.size<=sizeLine)(f2:q.fits j.size=true)(w2:Wk q led)
  {Y:Bool}{R:Option Bool->Shared->Prop} (fin:∀(h':Heap) (es':Array (Int×Value)) (n8:Nat) (t':SetTable),bj a s.heap h'->JU h' a es' n8 t'->bD es'.toList j.toList->Wk t' led->R (some true) {s with heap:=h'}) :
  wpAny (model prog w) A (do
    storeSet a j q
    if (!Y && q.tooFull)=true then do
      g (relayAll q j (dF j.size)).2.2
      storeSet a (relayAll q j (dF j.size)).1 (relayAll q j (dF j.size)).2.1
      pure (some true)
     else pure (some true)) R E s:=by
 refine Zl (WB S hz ?_);have S2:=stored S (es':=j) f2;have m5:=bC s.heap a (iW j q);generalize s.heap.update a (iW j q)=h2 at S2 m5 ⊢;by_cases J:(!Y && q.tooFull)=true
 ·rw[if_pos J]
  have M:=relayAll_perm q j (dF j.size);have m6:=relayAll_fits q j (dF j.size);have m8:=w2.relay j (dF j.size);generalize relayAll q j (dF j.size)=Rl at M m6 m8 ⊢;obtain⟨n6,t3,n9⟩:=Rl;dsimp only at M m6 m8 ⊢;have o0:n6.size=j.size:=by rw[<-Zr,M.length_eq,Zr]
  refine Zl (hg _ _ _ ?_);refine Zl (WB (s:={s with heap:=h2}) S2 (by rw[o0];exact hz) ?_);exact Zm (fin _ n6 _ t3 (m5.trans (bC _ a _)) (stored S2 m6) M m8)
 ·rw[if_neg J]
  exact Zm (fin h2 j _ q m5 S2 (cP _) w2)
theorem add_int {S:Int->Bool}{n:Nat}{k:Int}{x:Value}{Q:Bool->Shared->Prop}(m8:(intKind prog w).is k x=true)(o0:x.scannable=true)(X:Vz prog w s.heap a S n)(o7:n+1<scanBound)
  (q:∀b h',bj a s.heap h'->Vz prog w h' a (λk'=>S k' || decide (k'=k)) (if S k then n else n+1)->Q b {s with heap:=h'}) :
  wpAny (model prog w) A (setAddHashed a x ((intKind prog w).hash k)) Q E s:=by
 obtain⟨es,ep,t,X⟩:=X;obtain⟨o,e1,e2,e3,e4⟩:=id X.at_;unfold setAddHashed setAddHashedIn;refine cI (Zl (X.at_.state ?_))
 try dsimp only
 rw[byScan_of o0 X.sb X.el];simp only[↓reduceIte];unfold setAddByScan;refine Zl (Zl (fh (Zl (wpAny_setScan_of m8 e1 e3 e4 X.el ?_))));cases hr:List.findIdx? (λe=>(intKind prog w).is k e.2) es.toList with
 |some j=>
  obtain⟨hj,p7,_⟩:=List.findIdx?_eq_some_iff_getElem.mp hr;have n9:S k=true:=(X.mem k).mpr ⟨_,bn hj,p7⟩;refine Zm (Zm ?_);have:=q false s.heap (Heap.SameBut.refl a s.heap) ⟨es,ep,t,X.at_,X.el,λk'=>?_,X.sb,by rw[n9];exact X.sz,X.wk⟩
  ·exact this
  ·rw[aY,decide_eq_true_eq,<-X.mem k']
   exact⟨λh=>h.elim id λe=>by rw[e];exact n9,.inl⟩
 |none=>
  have n9:S k=false:=by
   cases hk:S k with
   |false=>rfl
   |true=>
    obtain⟨e,he,hp⟩:=(X.mem k).mp hk;have:=List.findIdx?_eq_none_iff.mp hr e he;rw[hp] at this;exact Bool.noConfusion this
  try dsimp only
  have J:=layNew_perm t es ((intKind prog w).hash k) x;have M:=layNew_fits t es ((intKind prog w).hash k) x;have n6:=X.wk.lay es ((intKind prog w).hash k) x;generalize layNew t es ((intKind prog w).hash k) x=L at J M n6 ⊢;obtain⟨m6,t1,r6,o9⟩:=L;dsimp only at J M n6 ⊢;rw[mf] at J;have p8:∀(b:Bool) {Y:Shared}{Q':Unit->Shared->Prop},Q' () Y->wpAny (model prog w) A (match b with|true=>rule "set.scan.the-table-gave-way" |false=>pure ()) Q' E Y:=
   λb Y Q' hq=>by cases b <;> first|exact Zm hq|exact fh hq
  have p3:m6.size=n+1:=by rw[<-Zr,J.length_eq,Zd,Zr,X.sz];rfl
  have q0:ElemsOf (intKind prog w) m6.toList:=(X.el.push m8 o0).perm J;have p4:∀k',(S k' || decide (k'=k))=true↔∃e∈m6.toList,(intKind prog w).is k' e.2=true:=mem_push_iff m8 X.mem J;have o8:m6.size<scanBound:=by rw[p3];exact o7
  have zl:∀m,m<scanBound->m<=sizeLine:=λm h=>fits_of_scanBound h;have p6:∀(h':Heap) (O:Array (Int×Value)) (m5:Nat) (t':SetTable),bj a s.heap h'->JU h' a O m5 t'->bD O.toList m6.toList->Wk t' (!w.params.followText "set-order")->Q true {s with heap:=h'}:=λh' O m5 t' sb at' hp n8=>by
   have hs:O.size=m6.size:=by rw[<-Zr,hp.length_eq,Zr]
   refine q true h' sb ⟨O,m5,t',at',q0.perm hp,λk'=>?_,by rw[hs];exact o8,by rw[n9,hs];exact p3,n8⟩;rw[p4 k'];exact⟨λ⟨e,he,r⟩=>⟨e,hp.mem_iff.mpr he,r⟩,λ⟨e,he,r⟩=>⟨e,hp.mem_iff.mp he,r⟩⟩
  refine Zl (p8 o9 ?_);split
  ·refine Zl ?_
   rw[hashByValue_scannable 8 o0];refine Zm ?_;refine Zdw (λb Y Q' hq=>?_) X.at_ (zl _ o8) ?_ ?_ λh' O m5 t' sb at' hp n8=>Zm (p6 h' O m5 t' sb at' hp n8)
   ·cases b <;> first|exact Zm hq|exact fh hq
   ·split
    ·exact M
    ·exact SetTable.fits_plain_off M
   ·split
    ·exact n6
    ·exact n6.plain false
  ·refine Zl (Zm ?_)
   simp only[↓reduceIte];refine Zdw (λb Y Q' hq=>?_) X.at_ (zl _ o8) M n6 λh' O m5 t' sb at' hp n8=>Zm (p6 h' O m5 t' sb at' hp n8);cases b <;> first|exact Zm hq|exact fh hq
end
section
variable {prog:Program}{w:World}{A:Around}{R:Result->Shared->Prop}{I:Addr}{fp wr:TW}{G:Array GenState->Array GenState->Prop}{n:Nat}{P:Nat->Value->Prop}{St:Nat->Shared->Prop}
theorem Zg2 (W:WalksS prog w A.in1 I fp wr G n P St)(S:Addr)(O:S∉fp)(val:Nat->Int)(Y:∀i v,P i v->∃t,v=.int (val i) t)(hb:n+1<scanBound) :
  ∀(k i:Nat) (s:Shared),n-i=k->i<=n->St i s->Vz prog w s.heap S (λM=>(firstMet val i).any (· == M)) (firstMet val i).length->
   (∀s',Moved (S::wr) G s s'->Vz prog w s'.heap S (λM=>(firstMet val n).any (· == M)) (firstMet val n).length->R (.ok (.ret .none)) s')->
   codeAny (model prog w) A (.builtin "set.update.loop" ⟨[.ref S,.ref I],[]⟩) R s:=by
 have m5:S∉wr:=λh=>O (W.sub _ h);have j:∀b∈wr,b∈S::wr:=λb hb=>ao _ hb;intro k;induction k with
 |zero=>
  intro i s hk hi q hS hR;have o0:i=n:=by omega
  subst o0;refine bV gD ?_;rw[bA dB _];show wpAny _ A.in1 (pyNext (.ref I) >>= _) _ _ s;refine Zl (W.done s _ _ q λs' hm=>?_);show wpAny _ A.in1 (ret be) _ _ s';exact Zm (hR s' (hm.mono j) (hS.keep λo e=>hm.heap S o m5 e))
 |succ k ih=>
  intro i s hk hi q hS hR;have m6:i<n:=by omega
  refine bV gD ?_;rw[bA dB _];show wpAny _ A.in1 (pyNext (.ref I) >>= _) _ _ s;refine Zl (W.item i s _ _ m6 q λv s' hP m8 hm=>?_);obtain⟨t,rfl⟩:=Y i v hP;have o7:=hS.keep λo e=>hm.heap S o m5 e;show wpAny _ A.in1 (holding [fR (val i) t] (setAdd S (.int (val i) t)) >>= _) _ _ s';refine Zl (cI ?_);unfold setAdd;refine cI ?_;refine Zl ((intKind prog w).pyHash (k:=val i) (intKind_is _ _ _ _) ?_);have J:(firstMet val i).length+1<scanBound:=by have:=ju val i;omega
  refine add_int (s:={s' with toks:=s'.toks+1}) (intKind_is _ _ _ _) rfl o7 J λ_ h' n6 o8=>?_;have o9:Vz prog w h' S (λM=>(firstMet val (i+1)).any (· == M)) (firstMet val (i+1)).length:=
   o8.congr (λM=>by rw[lO,step_any]) (by rw[lO,step_length])
  refine Zm ⟨c6 dB _,ih (i+1) _ (by omega) m6 (W.frame _ s' _ _ m8 (gE _) λb hb o e=>?_) o9 λp3 n8 n9=>?_⟩
  ·rw[n6.2 b (λh:b=S=>O (by rw[<-h];exact hb))];exact e
  ·refine hR p3 (Moved.trans W.gtrans ((hm.mono j).then_heap (gE _) λb o hb e=>?_) n8) n9
   rw[n6.2 b (λh:b=S=>hb (by rw[h];exact ar))];exact e
end
section
variable {prog:Program}{w:World}{A:Around}{E:TY}{s:Shared}
theorem Zj7 (a:Value){Q₁:TY}
  (h:Q₁ (.ref s.heap.objs.size) {s with heap:=s.heap.push {cls:=.type "set",dict:=none,data:=.set #[] 0 (.fresh 0 0 (!w.params.followText "set-order"))}}) :
  codeAny (model prog w) A (.call (.builtin "set.__new__") ⟨[.type "set",a],[]⟩) (wants Q₁ E) s:=by
 refine j6 ?_;show wpAny _ A.in1 (do checkBuiltinCall "set.__new__" ⟨[.type "set",a],[]⟩;again (.builtin "set.__new__" ⟨[.type "set",a],[]⟩)) _ _ s
 refine Zl (jU (PySem.F.newCall_set_1 a) (Zm ⟨c6 jX _,bV PySem.F.entry_set_new ?_⟩));rw[bA jX _];unfold cg.«set.__new__» Builtin.Frozenset.newClass;have j:=sub_set_self;obtain⟨q,g,d,tk,os⟩:=s
 try dsimp only
 wp_walk
 refine jP (Zm ?_)
 try dsimp only
 simp only[newObj];refine Zl (wpAny_alloc (Zm ?_));exact Zm h
theorem Zli {h:Heap}{a:Addr}(e:h.get? a=some {cls:=.type "set",dict:=none,data:=.set #[] 0 (.fresh 0 0 (!w.params.followText "set-order"))}):Vz prog w h a (λ_=>false) 0:=
 ⟨#[],0,_,⟨_,e,⟨rfl,rfl,rfl⟩,rfl,rfl⟩,λx j=>(by simp at j),λk=>(by simp),by unfold scanBound;decide,rfl,Wk.fresh _⟩
noncomputable abbrev ZfR (prog:Program)(w:World)(s:Shared)(ns:TZ)(n:Nat)(h':Heap):Prop:=
 Vz prog w h' s.heap.objs.size (λj=>(L2.JS ns n).any (· == j)) (L2.JS ns n).length/\∀b o,b<s.heap.objs.size->s.heap.get? b=some o->h'.get? b=some o
theorem ZcE {l:Addr}{items:Array Value}{ns:TZ}{Q:TY}(hh:A.handled=none)(hl:s.heap.IsList l items)(hi:aZ items.toList ns)(hb:items.size+1<scanBound)
  (h:∀(h':Heap) (tk:Nat),ZfR prog w s ns items.size h'->Q (.ref s.heap.objs.size) {s with heap:=h',toks:=tk}):wpAny (model prog w) A (call (.type "set") [.ref l]) Q E s:=by
 obtain⟨c,tl,r6⟩:=bY.mro;have o8:=bY.made;have r8:=bY.sub;refine wpAny_call (j6 ?_);show wpAny _ _ (callAny (.type "set") _) _ _ _;refine Zm ⟨Code.quiet_builtin _ (by decide +kernel),bV PySem.F.entry_type_call ?_⟩;rw[Around.under_plain (weight_type_call_type "set" [.ref l] []) rfl];have h1:=bY.notType;have h2:=bY.canCreate;have t8:=PySem.F.typeCall_set_1 (.ref l)
 repeat (any_goals (first|assumption|wp_step))
 let J:Obj:={cls:=.type "set",dict:=none,data:=.set #[] 0 (.fresh 0 0 (!w.params.followText "set-order"))}
 refine fz (Zj7 (.ref l) (E:=E) (Q₁:=λm8 M=>m8=.ref s.heap.objs.size/\M={s with heap:=s.heap.push J}) ⟨rfl,rfl⟩) λr M hr=>?_;cases r with
 |error e=>exact hr
 |ok fl=>
  cases fl with
  |ret m8=>
   obtain⟨rfl,rfl⟩:=hr;have hS:(s.heap.push J).get? s.heap.objs.size=some J:=Zo _ rfl;have hT:Shared.TypeIs {s with heap:=s.heap.push J} (.ref s.heap.objs.size) "set":=⟨_,hS,rfl⟩;have t9:=bY.init.lookup;have u5:=bY.init.bind (.ref s.heap.objs.size)
   repeat (any_goals (first|assumption|wp_step))
   refine fz (codeAny_call_builtin (R:=wants (λr O=>r=.none/\∃h' tk,O={s with heap:=h',toks:=tk}/\ZfR prog w s ns items.size h') E) bY.init.plain PySem.F.entry_set_init (check_set_init_1 hT ?_)) λn6 O j=>?_
   ·obtain⟨ol,hol,n8,nl,n9⟩:=id hl
    obtain⟨t5,m5,o9,q⟩:=ol;simp only at n8 n9;subst n8;subst n9;have Y:(s.heap.push J).get? l=some {cls:=.type "list",dict:=m5,data:=.seq items nl,slots:=q}:=Zn _ hol;have t6:=PySem.F.sub_list_set;have t7:=PySem.F.sub_list_frozenset;have u9:(b9 "list" == b9 "dict")=false:=by decide
    have p3:(s.heap.push J).IsList l items:=⟨_,Y,rfl,nl,rfl⟩;unfold cg.«set.__init__» noKeywords Builtin.Frozenset.updateFrom;generalize p4:pyIter=PI
    wp_walk
    subst p4;refine gZ p3 ?_;refine Zl (kx ?_);have o0:l<s.heap.objs.size:=Zp hol;have o7:l≠(s.heap.push J).objs.size:=by rw[bW];exact ay (fm o0)
    have p6:s.heap.objs.size∉[(s.heap.push J).objs.size,l]:=by
     rw[bW];intro z;rcases aD.mp z with z|z
     ·exact absurd z (ay (cC _))
     ·exact absurd (aS.mp z) (bq o0)
    refine Zg2 ((lH (A:=A.in1.in1.in1) (by simp[hh]) _ l o7 items).toS) s.heap.objs.size p6 (λi=>ns.getD i 0) (λi v hv=>IntsAre.int_at hi i v (by rw[cG];exact hv)) hb (items.size-0) 0 _ (by omega) (a5 _)
     ⟨⟨_,Zo _ rfl,rfl,rfl⟩,⟨_,Zn _ Y,rfl,nl,rfl⟩⟩ ?hS0 ?hR
    case hS0=>exact (Zli (Zn _ hS)).congr (λ_=>rfl) rfl
    case hR=>
     intro s' hm p7;obtain⟨h',g',d',p8,q0⟩:=s';obtain rfl:g'=s.gens:=hm.gens;obtain rfl:d'=s.drawn:=hm.drawn;obtain rfl:q0=s.os:=hm.os;show wpAny _ _ _ _ _ _;refine Zm ?_;show wpAny _ _ (ret be) _ _ _;refine Zm ⟨rfl,h',p8,rfl,p7,λb o hb e=>hm.heap b o (λz=>?_) (Zn _ (Zn _ e))⟩;rcases aD.mp z with z|z
     ·exact absurd z (ay hb)
     ·refine absurd (aS.mp z) (ay ?_);rw[bW];exact fm hb
   ·cases n6 with
    |error e=>exact j
    |ok m6=>
     cases m6 with
     |ret r=>
      obtain⟨rfl,h',tk,rfl,he⟩:=j
      repeat (any_goals (first|assumption|wp_step))
      exact h _ _ he
     |_=>exact j.elim
  |_=>exact hr.elim
end
end PyS
namespace L2
open PySem PySem.Spec PyProof.Rows
theorem VZ:∀{M L:TZ},M.Nodup->(∀x∈M,x∈L)->L.length=M.length->bD L M
 | [],L,_,_,h=>by
  have:L=[]:=gU.mp (by simpa using h);subst this;exact cP _
 |x::M,L,j,J,h=>by
  have hx:=J x ar;have O:=List.perm_cons_erase hx;rw[bN] at j;refine O.trans ((VZ j.2 (λy Y=>?_) ?_).cons x)
  ·have q:y≠x:=λz=>j.1 (z▸Y)
   exact (lA q).mpr (J y (ao _ Y))
  ·have:=O.length_eq
   rw[Zi] at this;rw[Zi] at h;omega
theorem ZeF:∀{out:List Value}{ns:TZ},aZ out ns->ZO (ns.map V.int) out
 |_,_,.nil=>.nil
 |_,_,.cons n t r=>.cons ⟨t,rfl⟩ (ZeF r)
def ZcF (prog:Program)(w:World)(a:Addr)(M:TZ):HO:=.ext λh=>PyS.Vz prog w h a (λk=>M.any (· == k)) M.length
section
variable {X:Cx}{pins:List (Addr×Obj)}{σ:L2.St}{H:Hp}{s:Shared}
theorem Inv.drawn (I:Inv X pins σ H s)(d:kK):Inv X pins σ H {s with drawn:=d}:=⟨I.ok,I.os,I.bare,I.base,I.loc,I.cell,I.free,I.freeC,I.pin,I.hok,I.len⟩
inductive I_call_setL (K:aa) (P0:Program) (w0:World) (xs:TV) (H:Hp) (Q:VK):Prop
 |mk (a:Addr) (ns:TZ):(xs=[.ref a])->(Ws K H a (ns.map V.int))->(ns.length<1000)->(∀p,H p=none->Q (.ref p) (upd H p (ZcF P0 w0 p (JS ns ns.length))))->I_call_setL K P0 w0 xs H Q
theorem ZaX (Y:X.calm=true):YV X (.type "set") (_root_.L2.I_call_setL X.K X.prog X.w):=by
 intro pins s σ H xs us Q I r h;obtain⟨a,ns,rfl,hq,hn,q⟩:=h;obtain⟨u,rfl,ru⟩:=vals1 r;cases ru;obtain⟨j,M,p,hz⟩:=I.list hq;have O:j.toArray.size=ns.length:=by rw[Zh,<-M.length,Za]
 refine PyS.ZcE (I.ok.hd Y) p.isList (ns:=ns) (by simpa using Zfw M) (by rw[O];unfold scanBound;omega) λh' tk ⟨J,e2⟩=>?_;rw[O] at J;refine⟨.ref _,_,I.laid (a:=s.heap.objs.size) (o:=ZcF X.prog X.w s.heap.objs.size (JS ns ns.length)) (t':=tk) (λb o e=>e2 b o (Zp e) e) (Zq _) ⟨J,?_,λh1 h2 x k=>x.keep k⟩,rfl,q _ (I.hok.fresh (Zq _))⟩;obtain⟨es,ep,t,⟨o,e,_⟩,_⟩:=J;exact⟨o,e⟩
inductive I_call_sortS (P0:Program) (w0:World) (xs:TV) (H:Hp) (Q:VK):Prop
 |mk (a:Addr) (M:TZ):(xs=[.ref a])->(H a=some (ZcF P0 w0 a M))->(M.Nodup)->(M.length<64)->(∀l ns,H l=none->bD ns M->ns.Pairwise (· ≤ ·)->Q (.ref l) (upd H l (.lst (ns.map V.int))))->I_call_sortS P0 w0 xs H Q
theorem Zab (hc:X.calm=true):YV X (.builtin "sorted") (_root_.L2.I_call_sortS X.prog X.w):=by
 intro pins s σ H xs us Q I r h;obtain⟨a,M,rfl,ha,hn,m5,q⟩:=h;obtain⟨u,rfl,ru⟩:=vals1 r;cases ru;obtain⟨J,_,_⟩:=(show YK X.prog X.w H s.heap a (ZcF X.prog X.w a M) from I.hok a _ ha);obtain⟨es,ep,t,J⟩:=J;have O:∀v∈PyS.Vb es,∃k tk,v=.int k tk:=λv hv=>by
  obtain⟨e,he,rfl⟩:=aE.mp hv;obtain⟨⟨k,hk,_⟩,_⟩:=J.el e he;obtain⟨tk,et⟩:=iU hk;exact⟨k,tk,et⟩
 have m6:=PyS.ZiM O;have hp:bD ((PyS.Vb es).map PyS.Zed) M:=by
  refine VZ hn (λx hx=>?_) ?_
  ·have hS:M.any (· == x)=true:=aU.mpr ⟨x,hx,by simp⟩
   obtain⟨e,he,hk⟩:=(J.mem x).mp hS;obtain⟨tk,et⟩:=iU hk;refine aE.mpr ⟨e.2,aE.mpr ⟨e,he,rfl⟩,?_⟩;rw[et];rfl
  ·unfold PyS.Vb
   rw[Za,Za,Zr];exact J.sz
 refine PyS.ZdW (I.ok.hd hc) (by rw[J.sz];exact m5) J.at_ J.wk m6 λD h' dr tk out j c hD kp m8 hi Y hP=>?_;have hl:ZO (j.map V.int) out:=ZeF hi;have sz:=JE;have n6:j.length=M.length:=(Y.trans hp).length_eq;refine⟨.ref D,_,(I.laid (a:=D) (o:=.lst (j.map V.int)) (t':=tk) kp hD ⟨by rw[Za];omega,out,c,hl,m8⟩).drawn dr,rfl,q _ j (I.hok.fresh hD) (Y.trans hp) hP⟩
end
section
variable {X:Cx}{pins:List (Addr×Obj)}{σ:L2.St}{H:Hp}{s:Shared}
end
end L2
namespace Tb
def ZQ (t:T9)(a b:Nat):Nat:=(t.getD a []).getD b 0
def it (t:T9)(a:Nat):Nat->Nat
 |0=>0
 |k+1=>ZQ t (it t a k) a
structure Rd (t:T9)(a r:Nat):Prop where
 r1:1<=r
 rn:r<=t.length
 dv:t.length % r=0
 z:it t a r=0
 nz:∀k,1<=k->k<r->it t a k≠0
 bk:ZQ t a (it t a (r-1))=0
 un:∀b,b<t.length->ZQ t a b=0->b=it t a (r-1)
structure PW (t:T9):Prop where
 n1:1<=t.length
 n60:t.length<=60
 len:∀row∈t,row.length=t.length
 lt:∀a b,a<t.length->b<t.length->ZQ t a b<t.length
 one:∀a,a<t.length->ZQ t 0 a=a
 rd:∀a,a<t.length->∃r,Rd t a r
 oneR:∀a,a<t.length->ZQ t a 0=a
 ass:∀a b c,a<t.length->b<t.length->c<t.length->ZQ t (ZQ t a b) c=ZQ t a (ZQ t b c)
section
variable {t:T9}{a r:Nat}
theorem Jc (P:PW t)(j:a<t.length):∀k,it t a k<t.length
 |0=>P.n1
 |k+1=>P.lt _ _ (Jc P j k) j
theorem Zej (P:PW t)(j:a<t.length):it t a 1=a:=P.one a j
theorem ZnB (R:Rd t a r)(k:Nat):it t a (r+k)=it t a k:=by
 induction k with
 |zero=>exact R.z
 |succ k j=>rw[Nat.add_succ,it,it,j]
theorem UT (R:Rd t a r)(k:Nat):it t a k=it t a (k % r):=by
 have q:=R.r1;induction k using Nat.strongRecOn with
 |_ k j=>
  by_cases h:k<r
  ·rw[aT h]
  ·have e:k=r+(k-r):=by omega
   rw[mE (by omega),<-j (k-r) (by omega),<-ZnB R (k-r),<-e]
end
def rdB (t:T9)(n a:Nat):Nat->Nat->Nat->Bool
 |0,_,_=>false
 |f+1,k,prev=>
  let x:=ZQ t prev a
  match x with
  |0=>decide (n % (k+1)=0) && decide (k+1<=n) && decide (ZQ t a prev=0) && ((ac n).all λb=>decide (b=prev) || !decide (ZQ t a b=0))
  |y+1=>rdB t n a f (k+1) (y+1)
def fq1 {β:Type}(m:Nat)(k:Nat->β):β:=match m with
 |0=>k 0
 |m+1=>k (m+1)
theorem ZiU {β:Type}(m:Nat)(k:Nat->β):fq1 m k=k m:=by cases m <;> rfl
def fql {β:Type}:T7->(T7->β)->β
 | [],k=>k []
 |x::j,k=>fq1 x λy=>fql j λq=>k (y::q)
theorem ZbZ {β:Type}:∀(a:T7) (k:T7->β),fql a k=k a
 | [],k=>rfl
 |x::j,k=>by rw[fql,ZiU,ZbZ j]
def ZnX (ZE:T7)(y:Nat):T7:=if ZE.contains y then ZE else ZE++[y]
def ZgP (t:T9)(gens:T7):Nat->Nat->T7->T7
 |0,_,ZE=>ZE
 |f+1,i,ZE=>match ZE[i]? with
  |none=>ZE
  |some x=>fql (gens.foldl (λZE g=>fq1 (ZQ t x g) λy=>ZnX ZE y) ZE) λZE=>ZgP t gens f (i+1) ZE
def Zfx (t:T9):Nat->Nat->T7->T7->T7
 |0,_,gens,_=>gens
 |f+1,a,gens,ZE=>if ZE.contains a then Zfx t f (a+1) gens ZE else fql (ZgP t (gens++[a]) t.length 0 [0]) λZE=>Zfx t f (a+1) (gens++[a]) ZE
def liB (t:T9)(g:Nat):Bool:=decide (g<t.length) && t.all λj=>(t.getD (j.getD g 0) [] == (t.getD g []).map λc=>j.getD c 0)
def asG (t:T9)(gens:T7):Bool:=gens.all (liB t) && fql (ZgP t gens t.length 0 [0]) λZE=>(ac t.length).all λa=>ZE.contains a
def asB (t:T9):Bool:=fql (Zfx t t.length 0 [] [0]) (asG t)
def ZoS (t:T9):Bool:=decide (1<=t.length) && decide (t.length<=60) && (t.all λrow=>decide (row.length=t.length) && row.all λx=>decide (x<t.length)) && ((ac t.length).all λa=>decide (ZQ t 0 a=a) && rdB t t.length a t.length 0 0)
def pwB (t:T9):Bool:=ZoS t && ((ac t.length).all λa=>decide (ZQ t a 0=a)) && asB t
def Pr (t:T9)(a:Nat):Prop:=a<t.length/\∀x y,x<t.length->y<t.length->ZQ t (ZQ t x a) y=ZQ t x (ZQ t a y)
theorem Zo6 {t:T9}(Y:∀row∈t,row.length=t.length){g:Nat}(h:liB t g=true):Pr t g:=by
 unfold liB at h;simp only[az,ag,beq_iff_eq,decide_eq_true_eq] at h;obtain⟨q,h⟩:=h;refine⟨q,λx y M hy=>?_⟩;have hm:t.getD x []∈t:=by
  rw[Zb,Zf M];exact bn M
 have J:t.getD g []∈t:=by
  rw[Zb,Zf q];exact bn q
 have h1:=h _ hm;unfold ZQ;rw[h1];have m5:=Y _ J;generalize t.getD g []=O at *;have j:y<O.length:=by omega
 rw[Zb,Zc,Zf j,Zb (l:=O),Zf j];rfl
theorem Pr.times {t:T9}(lt:∀a b,a<t.length->b<t.length->ZQ t a b<t.length){a g:Nat}(j:Pr t a)(q:Pr t g):Pr t (ZQ t a g):=by
 refine⟨lt _ _ j.1 q.1,λx y J M=>?_⟩;rw[<-j.2 x g J q.1,q.2 _ y (lt _ _ J j.1) M,j.2 x _ J (lt _ _ q.1 M),q.2 a y j.1 M]
theorem ZfO {t:T9}(lt:∀a b,a<t.length->b<t.length->ZQ t a b<t.length){gens:T7}(hg:∀g∈gens,Pr t g):∀(f i:Nat) (ZE:T7),(∀a∈ZE,Pr t a)->∀a∈ZgP t gens f i ZE,Pr t a
 |0,i,ZE,h=>by unfold ZgP;exact h
 |f+1,i,ZE,h=>by
  unfold ZgP;split
  ·exact h
  ·rename_i x hx
   rw[ZbZ];refine ZfO lt hg f (i+1) _ ?_;have O:=h x (aB hx);have Y:∀(J ZE:T7),(∀g∈J,Pr t g)->(∀a∈ZE,Pr t a)->∀a∈J.foldl (λZE g=>fq1 (ZQ t x g) λy=>ZnX ZE y) ZE,Pr t a:=λJ=>by
    induction J with
    |nil=>intro ZE _ h;exact h
    |cons g J ih=>
     intro ZE M q;rw[jB];refine ih _ (λg' m5=>M g' (ao _ m5)) λa j=>?_;rw[ZiU] at j;unfold ZnX at j;split at j
     ·exact q a j
     ·rcases bH.mp j with j|j
      ·exact q a j
      ·rw[aS.mp j]
       exact O.times lt (M g ar)
   exact Y gens ZE hg h
theorem ZnV {t:T9}(n1:1<=t.length)(O:∀row∈t,row.length=t.length)(lt:∀a b,a<t.length->b<t.length->ZQ t a b<t.length)(one:∀a,a<t.length->ZQ t 0 a=a)(j:∀a,a<t.length->ZQ t a 0=a)(h:asB t=true):∀a b c,a<t.length->b<t.length->c<t.length->ZQ t (ZQ t a b) c=ZQ t a (ZQ t b c):=by
 intro a b c q hb Y;unfold asB at h;rw[ZbZ] at h;generalize Zfx t t.length 0 [] [0]=M at h;unfold asG at h;rw[ZbZ,ag,az,az] at h;have h0:Pr t 0:=⟨by omega,λx y hx hy=>by rw[j x hx,one y hy]⟩;have J:=ZfO lt (λg hg=>Zo6 O (h.1 g hg)) t.length 0 [0] (λa q=>by rw[aS.mp q];exact h0) b (aw.mp (h.2 b (af.mpr hb)));exact J.2 a c q Y
theorem ZhU {t:T9}{a:Nat}:∀(f k prev:Nat),prev=it t a k->(∀j,1<=j->j<=k->it t a j≠0)->rdB t t.length a f k prev=true->∃r,Rd t a r
 |0,k,prev,_,_,h=>by cases h
 |f+1,k,prev,e,M,h=>by
  unfold rdB at h;have ex:it t a (k+1)=ZQ t prev a:=by rw[it,e]
  cases q:ZQ t prev a with
  |zero=>
   simp only[q,ag,decide_eq_true_eq,az,aY,ff,decide_eq_false_iff_not] at h;obtain⟨⟨⟨O,Y⟩,h3⟩,h4⟩:=h;refine⟨k+1,by omega,Y,O,by rw[ex,q],λj J jk=>M j J (by omega),by rw[dz,<-e];exact h3,λb hb hm=>?_⟩;rw[dz,<-e];exact (h4 b (af.mpr hb)).resolve_right λz=>z hm
  |succ y=>
   simp only[q] at h;refine ZhU f (k+1) (y+1) (by rw[ex,q]) (λj J jk=>?_) h;by_cases ej:j=k+1
   ·rw[ej,ex,q]
    exact jw _
   ·exact M j J (by omega)
theorem ZmR {t:T9}(h:pwB t=true):PW t:=by
 unfold pwB at h;rw[ag,ag] at h;obtain⟨⟨h,M⟩,O⟩:=h;unfold ZoS at h;simp only[ag,decide_eq_true_eq,az] at h;obtain⟨⟨⟨h1,h2⟩,Y⟩,h4⟩:=h;have lt:∀a b,a<t.length->b<t.length->ZQ t a b<t.length:=λa b q hb=>by
  unfold ZQ;have hm:t.getD a []∈t:=by
   rw[Zb,Zf q];exact bn q
  obtain⟨hl,hx⟩:=Y _ hm;generalize t.getD a []=row at *;have J:b<row.length:=by omega
  refine hx _ ?_;rw[Zb,Zf J];exact bn J
 have oneR:∀a,a<t.length->ZQ t a 0=a:=λa q=>of_decide_eq_true (az.mp M a (af.mpr q));have one:∀a,a<t.length->ZQ t 0 a=a:=λa q=>(h4 a (af.mpr q)).1;refine⟨h1,h2,λrow hr=>(Y row hr).1,lt,one,λa q=>?_,oneR,ZnV h1 (λrow hr=>(Y row hr).1) lt one oneR O⟩
 ·exact ZhU _ 0 0 rfl (λj j1 j0=>by omega) (h4 a (af.mpr q)).2
def pos (o:T7)(v:Nat):Nat:=o.findIdx (· == v)
def ren (t:T9)(o:T7):T9:=o.map λa=>o.map λb=>pos o (ZQ t a b)
structure Ord (n:Nat)(o:T7):Prop where
 len:o.length=n
 nd:o.Nodup
 all:∀v,v<n->v∈o
 lt:∀v∈o,v<n
 z:o.getD 0 0=0
section
variable {t:T9}{o:T7}
theorem Wp {o:T7}{i:Nat}(h:i<o.length):o[i]?=some (o.getD i 0):=by
 rw[Zb,Zf h];rfl
theorem Wm {n v:Nat}(O:Ord n o)(q:v<n):pos o v<n/\o.getD (pos o v) 0=v:=by
 have hm:=O.all v q;have j:o.findIdx (· == v)<o.length:=ja ⟨v,hm,by simp⟩;refine⟨by rw[<-O.len];exact j,?_⟩;have J:=dR (w:=j);have M:o[o.findIdx (· == v)]=v:=by simpa using J
 unfold pos;rw[Zb,Zf j];exact M
theorem inj {n i j:Nat}(O:Ord n o)(q:i<n)(M:j<n)(e:o.getD i 0=o.getD j 0):i=j:=by
 have J:=Wp (o:=o) (i:=i) (by rw[O.len];exact q);have Y:=Wp (o:=o) (i:=j) (by rw[O.len];exact M);rw[e] at J;exact (mG (by rw[O.len];exact q) O.nd).mp (J.trans Y.symm)
theorem YT {n i:Nat}(O:Ord n o)(j:i<n):o.getD i 0<n:=O.lt _ (aB (Wp (by rw[O.len];exact j)))
theorem Zbw:(ren t o).length=o.length:=by unfold ren;rw[Za]
theorem ZbH {n i j:Nat}(O:Ord n o)(q:i<n)(J:j<n):ZQ (ren t o) i j=pos o (ZQ t (o.getD i 0) (o.getD j 0)):=by
 unfold ZQ ren;have M:=Wp (o:=o) (i:=i) (by rw[O.len];exact q);have Y:=Wp (o:=o) (i:=j) (by rw[O.len];exact J);rw[Zb (l:=o.map _),Zc,M];show (o.map λb=>pos o ((t.getD (o.getD i 0) []).getD b 0)).getD j 0=_;rw[Zb,Zc,Y];rfl
theorem W1 (P:PW t)(O:Ord t.length o):PW (ren t o):=by
 have L:(ren t o).length=t.length:=by rw[Zbw,O.len]
 have back:∀i j,i<t.length->j<t.length->o.getD (ZQ (ren t o) i j) 0=ZQ t (o.getD i 0) (o.getD j 0):=λi j hi hj=>by
  rw[ZbH O hi hj];exact (Wm O (P.lt _ _ (YT O hi) (YT O hj))).2
 have lt:∀i j,i<t.length->j<t.length->ZQ (ren t o) i j<t.length:=λi j hi hj=>by
  rw[ZbH O hi hj];exact (Wm O (P.lt _ _ (YT O hi) (YT O hj))).1
 have n1:=P.n1;have M:∀a,a<t.length->∀k,it (ren t o) a k<t.length/\o.getD (it (ren t o) a k) 0=it t (o.getD a 0) k:=λa ha k=>by
  induction k with
  |zero=>exact⟨n1,O.z⟩
  |succ k ih=>
   rw[it,it];exact⟨lt _ _ ih.1 ha,by rw[back _ _ ih.1 ha,ih.2]⟩
 have zz:∀i,i<t.length->(i=0↔o.getD i 0=0):=λi hi=>by
  constructor
  ·intro e;rw[e,O.z]
  ·intro e;exact inj O hi n1 (by rw[e,O.z])
 refine⟨by omega,by have:=P.n60;omega,λrow hr=>?_,λa b ha hb=>by rw[L];exact lt a b (by omega) (by omega),λa ha=>?_,λa ha=>?_,λa ha=>?_,λa b c ha hb hc=>?_⟩
 ·unfold ren at hr
  obtain⟨a,_,rfl⟩:=aE.mp hr;rw[Za,Zbw]
 ·refine inj O (lt 0 a n1 (by omega)) (by omega) ?_
  rw[back 0 a n1 (by omega),O.z,P.one _ (YT O (by omega))]
 ·have q:a<t.length:=by omega
  obtain⟨r,R⟩:=P.rd _ (YT O q);have m5:∀k,it (ren t o) a k=0↔it t (o.getD a 0) k=0:=λk=>by
   rw[zz _ (M a q k).1,(M a q k).2]
  refine⟨r,R.r1,by rw[L];exact R.rn,by rw[L];exact R.dv,(m5 r).mpr R.z,λk k1 kr z=>R.nz k k1 kr ((m5 k).mp z),?_,λb hb hm=>?_⟩
  ·refine (zz _ (lt _ _ q (M a q _).1)).mpr ?_
   rw[back _ _ q (M a q _).1,(M a q _).2];exact R.bk
  ·have J:b<t.length:=by omega
   refine inj O J (M a q _).1 ?_;rw[(M a q _).2];refine R.un _ (YT O J) ?_;rw[<-back a b q J,hm,O.z]
 ·refine inj O (lt a 0 (by omega) n1) (by omega) ?_
  rw[back a 0 (by omega) n1,O.z,P.oneR _ (YT O (by omega))]
 ·have q:a<t.length:=by omega
  have J:b<t.length:=by omega
  have Y:c<t.length:=by omega
  refine inj O (lt _ _ (lt _ _ q J) Y) (lt _ _ q (lt _ _ J Y)) ?_;rw[back _ _ (lt _ _ q J) Y,back _ _ q J,back _ _ q (lt _ _ J Y),back _ _ J Y];exact P.ass _ _ _ (YT O q) (YT O J) (YT O Y)
end
def upTo (r st:Nat):Nat->Nat->Nat
 |0,f=>f
 |k+1,f=>if f % r=0 then f else upTo r st k (f+st)
theorem Zax {r st B:Nat}(j:1<=st)(hB:B % r=0)(q:B % st=0):∀(k f:Nat),f % st=0->f<=B->B-f<k*st->(∀x,x % st=0->x % r=0->1<=x->x<f->False)->upTo r st k f % r=0/\upTo r st k f % st=0/\f<=upTo r st k f/\upTo r st k f<=B/\(∀x,x % st=0->x % r=0->1<=x->x<upTo r st k f->False)
 |0,f,J,M,O,_=>by rw[fk] at O;omega
 |k+1,f,J,M,O,h4=>by
  unfold upTo;by_cases h:f % r=0
  ·rw[if_pos h]
   exact⟨h,J,Zq _,M,h4⟩
  ·rw[if_neg h]
   have fB:f≠B:=λz=>h (z▸hB);obtain⟨u,rfl⟩:=bf J;obtain⟨v,rfl⟩:=bf q;have uv:u<v:=jZ (bu M fB);have h5:st*u+st<=st*v:=by
    have:=fS st (show u+1<=v by omega);rw[jz,iB] at this;exact this
   have:=Zax j hB q k (st*u+st) (by rw[gF,Nat.mul_mod_right]) h5 (by rw[ci] at O;omega) λx x1 Y x3 x4=>?_
   ·exact⟨this.1,this.2.1,by omega,this.2.2.2.1,this.2.2.2.2⟩
   ·by_cases hx:x<st*u
    ·exact h4 x x1 Y x3 hx
    ·obtain⟨y,rfl⟩:=bf x1
     have y1:u<=y:=Nat.le_of_mul_le_mul_left (by omega) j;have y2:y<u+1:=jZ (a:=st) (by rw[jz,iB];exact x4);have:y=u:=by omega
     rw[this] at Y;exact h Y
theorem ZbI {x d r:Nat}(q:x % r=0)(hd:d % r=0):x % d % r=0:=by
 have J:=Nat.mod_add_div x d;have M:(d*(x / d)) % r=0:=by rw[Nat.mul_mod,hd,fk,kO]
 have j:(x % d+d*(x / d)) % r=0:=by rw[J];exact q
 rw[Nat.add_mod,M,eF,lQ] at j;exact j
structure Lc (rs:Nat->Nat)(i f:Nat):Prop where
 f1:1<=f
 dv:∀a,a<i->f % rs a=0
 mn:∀x,(∀a,a<i->x % rs a=0)->x % f=0
theorem Lc.step {rs:Nat->Nat}{i f B:Nat}(L:Lc rs i f)(hB:1<=B)(j:∀a,a<i+1->B % rs a=0){k:Nat}(hk:B<k):Lc rs (i+1) (upTo (rs i) f k f):=by
 have q:B % f=0:=L.mn B λa J=>j a (by omega);have M:=L.f1;have fB:f<=B:=gP (by omega) (bf q);obtain⟨O,Y,h3,h4,h5⟩:=Zax (r:=rs i) M (j i (by omega)) q k f (ie f) fB (by
  have:k*1<=k*f:=fS k M;omega) λx x1 x2 x3 x4=>by
   have:=gP (by omega) (bf x1);omega
 refine⟨by omega,λa J=>?_,λx hx=>?_⟩
 ·by_cases e:a=i
  ·rw[e];exact O
  ·have:=L.dv a (by omega)
   obtain⟨u,hu⟩:=bf Y;rw[hu,Nat.mul_mod,this,fk,kO]
 ·have xf:x % f=0:=L.mn x λa J=>hx a (by omega)
  apply ai;intro z;exact h5 (x % upTo (rs i) f k f) (ZbI xf Y) (ZbI (hx i (by omega)) O) (by omega) (bc _ (by omega))
end Tb
namespace L2
open PySem PySem.Spec PyProof.Rows
section
variable {X:Cx}
inductive ZhZ (K:aa) (neg:Bool) (x:V) (y:V) (H:Hp) (Q:VK):Prop
 |mk (p:_) (xs:_) (ds:_) (dx:_):(y=.ref p)->((Ws K H p xs\/Xp K H p xs))->(WH K H xs ds)->(RdD K H x dx)->(cu ds=true)->(dx.canLay0=true)->(dx.depth<=60)->(Q (.bl (if neg then !(ds.any λy=>y.eqv dx) else ds.any λy=>y.eqv dx)) H)->ZhZ K neg x y H Q
theorem Zm7 (hu:X.A.units+64<cLine):XR X (compareOp .In) (ZhZ X.K false):=by
 intro Y s σ H x y v u Q I rx ry h;obtain⟨p,xs,ds,dx,rfl,j,hs,hd,M,c2,dp,q⟩:=h;cases ry;obtain⟨bs,r1⟩:=I.reads hd rx;rcases j with j|j
 ·obtain⟨O,r,pl,hz⟩:=I.list j
  obtain⟨as,J⟩:=I.readsAll hs r;refine SeqAt.in_listAt _ pl.isList (fu (by simpa using J) r1 M c2 (by omega)) ⟨.bl _,H,I,rfl,?_⟩;rw[gc (by simpa using J) M];exact q
 ·obtain⟨O,r,pl,hz⟩:=I.tuple j
  obtain⟨as,J⟩:=I.readsAll hs r;refine SeqAt.in_tupleAt _ pl (fu (by simpa using J) r1 M c2 (by omega)) ⟨.bl _,H,I,rfl,?_⟩;rw[gc (by simpa using J) M];exact q
theorem Zgb (hu:X.A.units+64<cLine):XR X (compareOp .NotIn) (ZhZ X.K true):=by
 intro Y s σ H x y v u Q I rx ry h;obtain⟨p,xs,ds,dx,rfl,j,hs,hd,M,c2,dp,q⟩:=h;cases ry;obtain⟨bs,r1⟩:=I.reads hd rx;rcases j with j|j
 ·obtain⟨O,r,pl,hz⟩:=I.list j
  obtain⟨as,J⟩:=I.readsAll hs r;refine lM _ pl.isList (fu (by simpa using J) r1 M c2 (by omega)) ⟨.bl _,H,I,rfl,?_⟩;rw[gc (by simpa using J) M];exact q
 ·obtain⟨O,r,pl,hz⟩:=I.tuple j
  obtain⟨as,J⟩:=I.readsAll hs r;refine lr _ pl (fu (by simpa using J) r1 M c2 (by omega)) ⟨.bl _,H,I,rfl,?_⟩;rw[gc (by simpa using J) M];exact q
theorem ZqN (K:aa)(j:X.A.units+64<cLine)(q:X.K=K:=by rfl):XR X (compareOp .In) (ZhZ K false):=q▸Zm7 j
theorem Zo1 (K:aa)(j:X.A.units+64<cLine)(q:X.K=K:=by rfl):XR X (compareOp .NotIn) (ZhZ K true):=q▸Zgb j
end
theorem Xm:∀ns:TZ,cu (ns.map aV)=true
 | []=>rfl
 |n::ns=>by
  show (im (.int n) && cu (ns.map aV))=true;rw[Xm ns];rfl
theorem X9 (ns:TZ):im (.tuple (ns.map aV))=true:=Xm ns
theorem WF:∀yss:T8,cu (yss.map λns=>cx (ns.map aV))=true
 | []=>rfl
 |y::yss=>by
  show (im (.tuple (y.map aV)) && cu (yss.map λns=>cx (ns.map aV)))=true;rw[WF yss,X9];rfl
theorem Jf:∀ns:TZ,df (ns.map aV)<=1
 | []=>by decide
 |n::ns=>by
  have:=Jf ns;show max (dO (.int n)) (df (ns.map aV))<=1;have e:dO (.int n)<=1:=by simp[dO]
  omega
end L2
namespace L2
open PySem
theorem ZaT (ns:TZ):dO (.tuple (ns.map aV))<=60:=by
 have:=Jf ns;show df (ns.map aV)+1<=60;omega
end L2
namespace PyZ
open PySem
theorem Zag (l:Addr)(items:Array Value)(x:Value)(e:Value->Bool)(j:Nat)(hj:j<items.size)(J:e items[j]=true)(M:∀(m:Nat) (hm:m<items.size),m<j->e items[m]=false) :
  kH (cg.«tuple.index» {pos:=[ax l,x]}) λA R s=>
   s.heap.IsTuple l items/\(∀(y:Value),y∈items->kE A.in1 s y x (e y))/\
    R (Except.ok (Flow.ret (fR (↑j) s.toks))) {heap:=s.heap,gens:=s.gens,drawn:=s.drawn,toks:=s.toks+1,os:=s.os}:=by
 intro m6 w A R s h;obtain⟨hl,he,h⟩:=h;obtain⟨oa,ha,_,na,da⟩:=hl;unfold cg.«tuple.index»;refine Zl ?_;show wpAny _ _ (pure (ax l,[x])) _ _ s;refine Zm ?_;show wpAny _ _ (iM (ax l) >>= _) _ _ s;refine Zl ?_;unfold iM;refine Zl (gJ ha da ?_);refine Zm ?_;show wpAny _ _ (pure 0 >>= _) _ _ s;refine Zl (Zm ?_);show wpAny _ _ (pure items.size >>= _) _ _ s;refine Zl (Zm ?_);refine Zl ?_;rw[kQ,Std.Legacy.Range.forIn_eq_forIn_range'];have O:(de ([0:items.size]:iF).start ([0:items.size]:iF).size ([0:items.size]:iF).step)=de 0 items.size:=by
  show de 0 ((items.size-0+1-1) / 1) 1=_;rw[Nat.div_one,ck,dz]
 rw[O];refine wpAny_forIn_list _ (λrest b Y=>Y=s/\b=(none,())/\∃k,rest=de k (items.size-k)/\k<=j) _ ?_ ?_ _ _ ⟨rfl,rfl,0,rfl,a5 _⟩
 ·rintro i rest b Y ⟨rfl,rfl,k,q,hk⟩
  have hs:items.size-k=(items.size-(k+1))+1:=by omega
  rw[hs,dY] at q;obtain⟨rfl,rfl⟩:=List.cons.inj q;have hi:i<items.size:=by omega
  rw[aM hi];show wpAny _ _ (eqBool items[i] x >>= _) _ _ _;refine Zl (he items[i] (Array.getElem_mem hi) _ _ _ _ ?_);by_cases m5:i=j
  ·subst m5
   rw[J,if_pos rfl];refine Zl ?_;unfold retInt;refine Zl (wpAny_mkInt ?_);refine Zm ?_;refine Zm ?_;show wpAny _ _ (pure _) _ _ _;exact Zm h
  ·rw[M i hi (by omega),if_neg aF]
   refine Zm ?_;exact⟨rfl,rfl,i+1,rfl,by omega⟩
 ·rintro b Y ⟨rfl,rfl,k,q,hk⟩
  have:items.size-k=0:=by
   have:=congrArg cN q;rw[List.length_range'] at this;exact this.symm
  omega
end PyZ
namespace L2
open PySem PySem.Spec PyProof.Rows
section
variable {X:Cx}
inductive ZhV (K:aa) (x:V) (vs:TV) (H:Hp) (Q:VK):Prop
 |mk (p:_) (xs:_) (y:_) (j:Nat):(x=.ref p)->(vs=[y])->(Xp K H p xs)->(Je y=true)->(xs.all Je=true)->(j<xs.length)->((∀z,xs[j]?=some z->eqV z y=true))->((∀m z,m<j->xs[m]?=some z->eqV z y=false))->(Q (.int j) H)->ZhV K x vs H Q
theorem Zgl:MtR X "tuple.index" (ZhV X.K):=by
 intro o0 s σ H x vs v us Q I rx rv h;obtain⟨p,xs,y,j,rfl,rfl,hq,fy,fs,hj,h1,h2,q⟩:=h;cases rx;obtain⟨u,rfl,ru⟩:=rv.one;obtain⟨J,r,pl,hz⟩:=I.tuple hq;have hl:=r.length;have M:∀(m:Nat) (z:V),xs[m]?=some z->Je z=true:=λm z hm=>az.mp fs z (aB hm);have eu:∀(m:Nat) (hm:m<J.toArray.size),∃z,xs[m]?=some z/\eqU y J.toArray[m]=eqV z y:=λm hm=>by
  have O:m<xs.length:=by rw[hl];simpa using hm
  obtain⟨w,hw,m8⟩:=r.get (Zf O);have n6:J.toArray[m]=w:=by
   have:=(ae.mp hw).2;simpa using this
  exact⟨_,Zf O,by rw[n6];exact Zb2 m8 (M m _ (Zf O))⟩
 have m6:j<J.toArray.size:=by rw[Zh,<-hl];exact hj
 have n8:s.TypeIs (.ref p) "tuple":=mN pl;refine cK cS n8 F.entry_tuple_index (F.args_tuple_index_2 _ _) (PyZ.Zag p J.toArray u (eqU y) j m6 ?_ ?_) ⟨pl,λw hw=>Xf ru fy r fs w (by simpa using hw),?_⟩
 ·obtain⟨z,Y,m5⟩:=eu j m6
  rw[m5];exact h1 z Y
 ·intro m hm n9
  obtain⟨z,Y,m5⟩:=eu m hm;rw[m5];exact h2 m z n9 Y
 ·exact⟨.int j,H,I.kept (t':=s.toks+1) λb o e=>e,⟨_,rfl⟩,q⟩
inductive ZhX (K:aa) (x:V) (vs:TV) (H:Hp) (Q:VK):Prop
 |mk (p:_) (xs:_) (ds:_) (dy:_) (y:_) (j:Nat):(x=.ref p)->(vs=[y])->(H p=some (.lst xs))->(WH K H xs ds)->(RdD K H y dy)->(cu ds=true)->(dy.canLay0=true)->(dy.depth<=60)->(j<ds.length)->((∀d,ds[j]?=some d->d.eqv dy=true))->((∀m d,m<j->ds[m]?=some d->d.eqv dy=false))->(Q (.int j) H)->ZhX K x vs H Q
theorem Zgm (hu:X.A.units+64<cLine):MtR X "list.index" (ZhX X.K):=by
 intro m8 s σ H x vs v us Q I rx rv h;obtain⟨p,xs,ds,dy,y,j,rfl,rfl,hp,hs,hd,c1,c2,dp,hj,h1,h2,q⟩:=h;cases rx;obtain⟨u,rfl,ru⟩:=rv.one;obtain⟨z,J,n,r,hl,e⟩:=I.lstM hp;obtain⟨bs,r1⟩:=I.reads hd ru;obtain⟨as,ra⟩:=I.readsAll hs r;have hm:=SeqAt.readsAll_map ds J as c1 ra;have hlen:J.length=ds.length:=by rw[<-hm,Za]
 have M:∀(m:Nat) (Y:m<J.toArray.size),ds[m]?=some (SeqAt.readOf s.heap J.toArray[m]):=λm Y=>by
  have m5:m<J.length:=by simpa using Y
  rw[<-hm,Zc,Zf m5];simp
 have O:j<J.toArray.size:=by rw[Zh,hlen];exact hj
 have sz:=X1;refine cK lu ⟨_,e,rfl⟩ F.entry_list_index (F.args_list_index_2 _ _) (SeqAt.list_indexAt p J.toArray n none #[] u (λy=>(SeqAt.readOf s.heap y).eqv dy) j O (by omega) (h1 _ (M j O)) λm Y m6=>h2 m _ m6 (M m Y)) ⟨e,fu (by simpa using ra) r1 c1 c2 (by omega),?_⟩;exact⟨.int j,H,I.kept (t':=s.toks+1) λb o e=>e,⟨_,rfl⟩,q⟩
theorem ZjU (K:aa)(j:X.K=K:=by rfl):MtR X "tuple.index" (ZhV K):=j▸Zgl
theorem ZqI (K:aa)(j:X.A.units+64<cLine)(q:X.K=K:=by rfl):MtR X "list.index" (ZhX K):=q▸Zgm j
end
end L2
namespace PyZ
open PySem PyProof PyProof.Rows
def XV (n:Nat)(cmp:Nat->Nat->Bool){α:Type}:jF α->Option α
 | .ret a=>some a
 | .ask i j k=>if i<n/\j<n then XV n cmp (k (cmp i j)) else none
theorem XA {α:Type}{n:Nat}{cmp:Nat->Nat->Bool}{ask:Nat->Nat->(Bool->Shared->Prop)->Shared->Prop}{s:Shared}(h:∀i j C,i<n->j<n->C (cmp i j) s->ask i j C s):∀(t:jF α) (a:α) (Q:α->Shared->Prop),XV n cmp t=some a->Q a s->W.KasT.kasWp ask t Q s
 | .ret b,a,Q,e,q=>by
  cases (aA e);exact q
 | .ask i j k,a,Q,e,q=>by
  rw[XV] at e;by_cases J:i<n/\j<n
  ·rw[if_pos J] at e
   exact h i j _ J.1 J.2 (XA h (k (cmp i j)) a Q e q)
  ·rw[if_neg J] at e
   cases e
def Zaj (fin:Bool):TZ->TZ->Bool
 | [],_=>fin
 |_::_,[]=>fin
 |x::j,y::q=>if x=y then Zaj fin j q else decide (x<y)
def JV (xs ys:TZ):Bool:=Zaj (decide (xs.length<ys.length)) xs ys
section
variable {prog:Program}{w:World}{A:Around}{E:TY}{s:Shared}
theorem ZiH {fin:Bool}{Q:Bool->Shared->Prop}:∀(j vs:List Value) (xs ys:TZ) (i:Nat),aZ j xs->aZ vs ys->Q (Zaj fin xs ys) s->W.KatLex prog w A true fin Q (j.zip vs) i s
 | [],vs,xs,ys,i,J,M,q=>by
  cases J;exact iN q
 |_::_,[],xs,ys,i,J,M,q=>by
  cases M;cases xs with
  |nil=>exact iN q
  |cons x xs=>exact iN q
 |u::j,v::vs,xs,ys,i,J,M,q=>by
  cases J with
  |cons x t1 Y=>
   cases M with
   |cons y t2 r2=>
    rename_i xs ys
    rw[lZ];refine W.kat_cons ?_;refine fM _ _ _ _ prog w _ _ ?_;rw[Zaj] at q;by_cases e:x=y
    ·rw[if_pos e] at q
     rw[show (x == y)=true from beq_iff_eq.mpr e];exact W.kat_yes (ZiH j vs xs ys (i+1) Y r2 q)
    ·rw[if_neg e] at q
     rw[show (x == y)=false from beq_eq_false_iff_ne.mpr e];refine W.kat_no ?_;by_cases O:i=0
     ·subst O
      exact oneLt_int q
     ·have:(true && i == 0)=false:=by simp[O]
      rw[this];exact W.kat_one _ _ (lt_int q)
def Zan (h:Heap)(L:Addr):Heap:={h with objs:=h.objs.extract 0 L}
theorem YU {h:Heap}{L b:Addr}(hb:b<L):(Zan h L).get? b=h.get? b:=by
 unfold Zan Heap.get?;have:(h.objs.extract 0 L)[b]?=h.objs[b]?:=by
  rw[Array.getElem?_extract];by_cases j:b<h.objs.size
  ·simp only[ck,fX]
   rw[if_pos (show b<min L h.objs.size from Nat.lt_min.mpr ⟨hb,j⟩)]
  ·rw[cy (fC j)]
   split <;> simp_all
 simp only[this]
theorem WV {h:Heap}{L b:Addr}(hb:L<=b):(Zan h L).get? b=none:=by
 unfold Zan Heap.get?;have:(h.objs.extract 0 L)[b]?=none:=by
  apply cy;rw[fY];exact a8 (by rw[ck];exact fO ..) hb
 simp only[this]
def Yk (h:Heap)(L:Addr):List (Addr×Obj):=(ac h.objs.size).filterMap λa=>if L<a then (h.get? a).map λo=>(a,o) else none
theorem Yo {h:Heap}{L:Addr}{p:Addr×Obj}:p∈Yk h L↔L<p.1/\h.get? p.1=some p.2:=by
 unfold Yk;rw[iP];constructor
 ·rintro⟨a,J,e⟩
  by_cases j:L<a
  ·rw[if_pos j] at e
   cases q:h.get? a with
   |none=>rw[q] at e;cases e
   |some o=>
    rw[q] at e;cases (aA e);exact⟨j,q⟩
  ·rw[if_neg j] at e
   cases e
 ·rintro⟨j,e⟩
  refine⟨p.1,af.mpr (Zp e),?_⟩;rw[if_pos j,e];rfl
theorem Zfr {h:Heap}:∀(as:TW) (yss:T8),as.length=yss.length->(∀(i:Nat) a,as[i]?=some a->∃(q:List Value) (ys:TZ),yss[i]?=some ys/\h.IsTuple a q.toArray/\aZ q ys/\ys≠[])->
  ∃fs:List Value,W.KatTups h (as.map ax) fs/\fs.length=as.length/\∀v∈fs,∃n t,v=fR n t
 | [],[],_,_=>⟨[],lW,rfl,λv j=>by cases j⟩
 | [],_::_,h,_=>by cases h
 |_::_,[],h,_=>by cases h
 |a::as,ys::yss,J,g=>by
  obtain⟨q,M,e,⟨o,O,c,n,d⟩,Y,ne⟩:=g 0 a rfl;cases e;obtain⟨fs,k,l,f⟩:=Zfr as yss (cv J) λi a' hi=>g (i+1) a' hi;cases Y with
  |nil=>exact absurd rfl ne
  |cons z t r=>
   refine⟨fR z t::fs,lL O c d (by simp) k,by rw[Zi,Zi,l],λv j=>?_⟩;rcases aD.mp j with rfl|j
   ·exact⟨_,_,rfl⟩
   ·exact f v j
theorem ZcB {l L:Addr}{m:TX}{as:TW}{yss:T8}{p:Array Nat}{Q:TY}(n8:s.heap.Ns L m)(hl:s.heap.IsList l (as.map ax).toArray)(n2:2<=as.length)(n9:as.length<64)(hy:as.length=yss.length)
  (ht:∀(i:Nat) a,as[i]?=some a->a≠L/\∃(us:List Value) (ys:TZ),yss[i]?=some ys/\s.heap.IsTuple a us.toArray/\aZ us ys/\ys≠[])
  (hp:XV as.length (λi j=>JV (yss.getD i []) (yss.getD j [])) (gt as.length)=some p)
  (q:∀D c h',s.heap.get? D=none->D≠L->(∀b o,b≠L->s.heap.get? b=some o->h'.get? b=some o)->h'.Ns L m->h'.get? D=some (mr (p.toList.map λi=>(as.map ax).getD i be).toArray c)->Q (.ref D) {s with heap:=h'}) :
  wpAny (model prog w) A (call (.builtin "sorted") [.ref l]) Q E s:=by
 have fr:Fr (Zan s.heap L) L s.heap m:=by
  refine⟨n8,λb o e=>?_,?_⟩
  ·by_cases hb:b<L
   ·rw[YU hb] at e;exact e
   ·rw[WV (fC hb)] at e
    cases e
  ·show (s.heap.objs.extract 0 L).size<=L
   rw[fY,ck];exact fO ..
 have nw:News (Zan s.heap L) L s.heap (Yk s.heap L):=λx hx=>by
  obtain⟨J,h2⟩:=Yo.mp hx;exact⟨h2,bq J,WV (cO J)⟩
 have lv:(as.map ax).length=as.length:=fN ..;refine lJ fr nw hl (by rw[lv];exact n2) (by rw[lv];exact n9) λD e1 h' m6 M big=>?_;have kept:∀b o,b≠L->s.heap.get? b=some o->h'.get? b=some o:=λb o hb e=>by
  rcases cp b L with J|J
  ·exact m6.keep b o (by rw[YU J];exact e)
  ·exact (M (b,o) (ao _ (Yo.mpr ⟨bu J (bd hb),e⟩))).1
 have dn:s.heap.get? D=none:=by
  cases e:s.heap.get? D with
  |none=>rfl
  |some o=>
   obtain⟨_,dL,dc⟩:=M _ (ar ..);rcases cp D L with J|J
   ·rw[YU J] at dc
    rw[dc] at e;cases e
   ·exact absurd (big (D,o) (Yo.mpr ⟨bu J (bd dL),e⟩)) (bK _)
 have dL:D≠L:=(M _ (ar ..)).2.1;have m5:∀(i:Nat) a,as[i]?=some a->∃(us:List Value) (ys:TZ),yss[i]?=some ys/\h'.IsTuple a us.toArray/\aZ us ys/\ys≠[]:=λi a hi=>by
  obtain⟨aL,us,ys,e,⟨o,g1,g2⟩,ia,ne⟩:=ht i a hi;exact⟨us,ys,e,⟨o,kept a o aL g1,g2⟩,ia,ne⟩
 obtain⟨fs,kt,fl,fi⟩:=Zfr as yss hy m5;refine W.kat_kind (T:=b9 "int") kt (by omega) (λv hv=>?_) (by decide +kernel) ?_
 ·obtain⟨n,t,rfl⟩:=fi v hv
  intro A Q E s' _ q;exact Zm q
 ·rw[lv]
  have kb:(b9 "int" != b9 "tuple")=true:=by decide +kernel
  rw[kb];refine XA (cmp:=λi j=>JV (yss.getD i []) (yss.getD j [])) (λi j C hi hj c=>?_) _ p _ hp ?_
  ·unfold W.kas_ask
   obtain⟨us,ys,e,⟨o,g1,g2,n1,g3⟩,ia,_⟩:=m5 i as[i] (Zf hi);obtain⟨o0,m8,e2,⟨o2,k1,k2,o8,k3⟩,n6,_⟩:=m5 j as[j] (Zf hj);have v1:(as.map ax).getD i be=.ref as[i]:=by
    rw[Zb,Zc,Zf hi];rfl
   have v2:(as.map ax).getD j be=.ref as[j]:=by
    rw[Zb,Zc,Zf hj];rfl
   have w1:yss.getD i []=ys:=by rw[Zb,e];rfl
   have w2:yss.getD j []=m8:=by rw[Zb,e2];rfl
   rw[v1,v2];refine W.kat_lt g1 g3 k1 k3 ?_;have il:∀{us:List Value}{ys:TZ},aZ us ys->us.length=ys.length:=λ{us ys} h=>by
    induction h with
    |nil=>rfl
    |cons _ _ _ ih=>rw[Zi,Zi,ih]
   refine ZiH us o0 ys m8 0 ia n6 ?_;rw[w1,w2] at c;unfold JV at c;rw[Zh,Zh,il ia,il n6];exact c
  ·refine⟨_,_,m6,M,ki (λx hx=>ay (big x hx)),λo7 c O Y=>?_⟩
   refine q D c o7 dn dL (λb o hb e=>?_) O.ns (Y _ (ar ..)).1;rcases cp b L with J|J
   ·exact O.keep b o (by rw[YU J];exact e)
   ·exact (Y (b,o) (ao _ (Yo.mpr ⟨bu J (bd hb),e⟩))).1
end
end PyZ
namespace L2
open PySem PySem.Spec PyProof.Rows
theorem YK.there {P:Program}{w:World}{H:Hp}{h:Heap}{a:Addr}{o:HO}(x:YK P w H h a o):∃j,h.get? a=some j:=by
 cases o with
 |lst J=>obtain⟨_,_,_,_,e⟩:=x;exact⟨_,e⟩
 |tup J=>obtain⟨_,_,_,j,e,_⟩:=x;exact⟨_,e⟩
 |dK q=>obtain⟨_,_,_,_,o,_,_,e,_⟩:=x;exact⟨_,e⟩
 |dT q=>obtain⟨_,_,_,_,o,_,_,e,_⟩:=x;exact⟨_,e⟩
 |set S n=>obtain⟨o,_,_,_,e,_⟩:=x;exact⟨_,e⟩
 |ins C M fs=>obtain⟨_,_,_,e,_⟩:=x;exact⟨_,e⟩
 |own y=>obtain⟨_,e⟩:=x;exact⟨_,e⟩
 |xd fs=>obtain⟨_,⟨_,_,_,e,_⟩,_⟩:=x;exact⟨_,e⟩
 |rng lo O=>obtain⟨_,_,_,e⟩:=x;exact⟨_,e⟩
 |frz j u=>obtain⟨e,_⟩:=x;exact⟨_,e⟩
 |tbl Y=>exact⟨_,(show h.get? a=some _ from x)⟩
 |met f y=>exact⟨_,(show h.get? a=some _ from x)⟩
 |ext φ=>obtain⟨_,⟨_,e⟩,_⟩:=x;exact⟨_,e⟩
section
variable {X:Cx}{pins:List (Addr×Obj)}{σ:St}{H:Hp}{s:Shared}
theorem Inv.newL {D:Addr}{c:Nat}{h':Heap}{m:TX}{ys:TV}{Y:List Value}(I:Inv X pins σ H s)(hm:s.heap.Ns X.env.locals m)
  (hl:∀(i:Nat) (x:Str) (v:V),X.N[i]?=some x->σ[i]?=some (some v)->Vis X.env.scope x->∃u,RelV v u/\Look X.env s.heap m x u)
  (dn:s.heap.get? D=none) (dL:D≠X.env.locals) (kept:∀b o,b≠X.env.locals->s.heap.get? b=some o->h'.get? b=some o) (n8:h'.Ns X.env.locals m) (hz:ys.length<=sizeLine) (hv:ZO ys Y) (hD:h'.get? D=some {cls:=.type "list",data:=.seq Y.toArray c}) :
  Inv X pins σ (upd H D (.lst ys)) {s with heap:=h'}/\H D=none:=by
 have m6:H D=none:=by
  cases e:H D with
  |none=>rfl
  |some o=>
   obtain⟨ob,e2⟩:=(I.hok D o e).there;rw[dn] at e2;cases e2
 have m5:∀{b:Addr}{o:Obj},s.heap.get? b=some o->b≠D:=λ{b o} e z=>by rw[z,dn] at e;cases e
 have M:∀{b:Addr}{o:HO},H b=some o->b≠D:=λ{b o} e z=>by rw[z,m6] at e;cases e
 have m8:∀{b:Addr}{o:HO},H b=some o->b≠X.env.locals:=λ{b o} e z=>by rw[z,I.free] at e;cases e
 have bL:∀{b:Addr}{o:Obj},X.s₀.heap.get? b=some o->b≠X.env.locals:=λ{b o} e=>ay (aC (Zp e) I.ok.above);refine⟨⟨I.ok,I.os,I.bare,⟨λb o e n hb O=>?_,λb o e n hb O=>?_,λb o e n O=>?_,λb o e O=>?_,λb xs e=>?_,λb o u e=>?_,λb ps e=>?_⟩,⟨m,n8,λj y v e1 e2 e3=>?_⟩,λy J e=>?_,?_,λy J e=>?_,λp hp=>?_,λb ob e=>?_,I.len⟩,m6⟩
 ·exact kept b o (bL e) (I.base.keep b o e n hb O)
 ·obtain⟨sl,e1⟩:=I.base.slot b o e n hb O
  exact⟨sl,kept b _ (bL e) e1⟩
 ·obtain⟨o',e1⟩:=I.base.there b o e O
  rw[Zz (m5 e1)];exact I.base.free b o e n O
 ·obtain⟨o',e1⟩:=I.base.there b o e O
  exact⟨o',kept b _ (bL e) e1⟩
 ·have:=I.base.tups b xs e
  rw[Zz (M this)];exact this
 ·have:=I.base.frzs b o u e
  rw[Zz (M this)];exact this
 ·obtain⟨n6,this⟩:=I.base.tbls b ps e
  exact⟨n6,by rw[Zz (M this)];exact this⟩
 ·obtain⟨u,r,q⟩:=hl j y v e1 e2 e3
  refine⟨u,r,?_⟩;rcases q with ⟨k,e⟩|⟨k,J,e,z⟩
  ·exact .inl ⟨k,e⟩
  ·obtain⟨o,g,rest⟩:=z
   exact .inr ⟨k,J,e,o,kept J o (I.cne y J e) g,rest⟩
 ·obtain⟨w',o,g,rest⟩:=I.cell y J e
  exact⟨w',o,kept J o (I.cne y J e) g,rest⟩
 ·rw[Zz (bd dL)]
  exact I.free
 ·obtain⟨w',o,g,rest⟩:=I.cell y J e
  rw[Zz (m5 g)];exact I.freeC y J e
 ·obtain⟨e,n,ne,nf,d⟩:=I.pin p hp
  exact⟨kept p.1 _ ne e,by rw[Zz (m5 e)];exact n,ne,nf,d⟩
 ·by_cases hb:b=D
  ·subst hb
   rw[Zu] at e;cases (aA e);exact⟨hz,Y,c,hv,hD⟩
  ·rw[Zz hb] at e
   refine (I.hok b ob e).stay (λJ w' hc q=>kept J w' ?_ q) (λJ q=>?_) λJ xs q=>?_
   ·rcases hc with rfl|hc
    ·exact m8 e
    ·exact m8 hc
   ·rw[Zz (M q)]
    exact q
   ·rw[Zz (M q)]
    exact q
theorem WU:∀{as:TW}{us:List Value},ZO (as.map V.ref) us->us=as.map ax
 | [],_,h=>by cases h;rfl
 |a::as,_,h=>by
  cases h with
  |cons r t=>rw[show _=ax a from r,WU t];rfl
theorem JG:∀{ns:TZ}{us:List Value},ZO (ns.map V.int) us->aZ us ns
 | [],_,h=>by cases h;exact .nil
 |n::ns,_,h=>by
  cases h with
  |cons r t=>
   obtain⟨k,rfl⟩:=r;exact .cons n k (JG t)
theorem Jx:∀as:TW,ZO (as.map V.ref) (as.map ax)
 | []=>.nil
 |a::as=>.cons rfl (Jx as)
end
section
variable {X:Cx}
def Tz (H:Hp)(a:Addr)(ys:TV):Prop:=∃o:Obj,H a=some (.frz o (.tup ys))/\o.cls=.type "tuple"/\o.dict=none
theorem Tz.sq {K:aa}{H:Hp}{a:Addr}{ys:TV}(h:Tz H a ys):Xp K H a ys:=by
 obtain⟨o,h,_⟩:=h;exact .inl (.inr ⟨o,h⟩)
theorem Tz.mono {H j:Hp}{a:Addr}{ys:TV}(s:Zv H j)(h:Tz H a ys):Tz j a ys:=by
 obtain⟨o,h,r⟩:=h;exact⟨o,s _ _ h,r⟩
inductive I_call_tupleZ (K:aa) (xs:TV) (H:Hp) (Q:VK):Prop
 |mk (p:_) (ys:_):(xs=[.ref p])->(Ws K H p ys)->(∀l H',H l=none->Zv H H'->Tz H' l ys->Q (.ref l) H')->I_call_tupleZ K xs H Q
theorem Zdu:YV X (.type "tuple") (_root_.L2.I_call_tupleZ X.K):=by
 intro j s O H xs us Q I r h;obtain⟨p,ys,rfl,hq,q⟩:=h;obtain⟨u,rfl,rx⟩:=vals1 r;cases rx;obtain⟨J,Y,pl,hz⟩:=I.list hq;have m5:=Y.length;refine call_tuple_list pl.isList (λM kp=>?_) (by simp only[Zh] <;> omega)
 have I1:Inv X j O H {s with heap:=M}:=I.kept (t':=s.toks) kp;have hf:=I1.hok.fresh (Zq _);have I2:Inv X j O (upd H M.objs.size (.frz {cls:=.type "tuple",data:=.seq J.toArray} (.tup ys))) {s with heap:=M.push {cls:=.type "tuple",data:=.seq J.toArray}}:=
  I1.laid (t':=s.toks) (λb o e=>Zn _ e) (Zq _) ⟨Zo _ rfl,hz,J,Y,gO _ _⟩
 exact⟨.ref M.objs.size,_,I2,rfl,q _ _ hf (Zv.upd hf) ⟨_,Zu,rfl,rfl⟩⟩
variable {o e:Expr}{es:List Expr}{to:TE}{t:TA}{name:Str}{apos cpos:Pos}{id:String}{r:V->TV->Hp->VK->Prop}
inductive Zpc (r:V->TV->Hp->VK->Prop) (t:TA) (σ:St) (Q:VK) (x:V) (H:Hp):Prop
 |mk:(∃p ys,x=.ref p/\Tz H p ys)->(t σ H λxs H2=>r x xs H2 Q)->Zpc r t σ Q x H
def Zqo (r:V->TV->Hp->VK->Prop)(to:TE)(t:TA):TE:=λj H Q=>to j H (Zpc r t j Q)
theorem ZbC (pa:PlainAttrs "tuple")(slot:Slot "tuple" name id)(Y:typeOf (.builtin id)=pure (.type "method_descriptor"))(hm:MtR X id r)(ho:PE X o to)(ha:PA X (e::es) t)
  (J:attributeBase o name X.env (eval o X.env)=eval o X.env:=by rfl)
  (O:((backTo cpos (starEach (e::es) X.env)).all (λx=>!x.1) && (backToKw cpos (keywordEach [] X.env)).all (λx=>x.1.isSome)
   && decide ((e::es).length+([]:List Keyword).length+(if ([]:List Keyword).isEmpty then 0 else 1)<30))=true:=by rfl)
  (M:(apos.endLine == cpos.line)=true:=by rfl) (hs:starEach (e::es) X.env=(false,eval e X.env)::starEach es X.env:=by rfl) (q:(backTo cpos (starEach es X.env)).any (·.1)=false:=by rfl) :
  PE X (.Call (.Attribute o name apos) (e::es) [] cpos) (Zqo r to t):=by
 intro j s σ H Q I h;refine mh J O M rfl (Yw (ho j s σ H _ I h) λv s1 ⟨x,H1,I1,r1,ty,q1⟩=>?_);obtain⟨p,ys,rfl,ob,m5,hc,hd⟩:=ty;cases r1;obtain⟨eo,_⟩:=I1.hok p _ m5;refine⟨"tuple",id,pa,slot,Y,⟨ob,eo,hc⟩,λa e=>?_,?_⟩
 ·cases e
  exact⟨ob,eo,hd⟩
 have hA:=ha cpos j s1 σ H1 _ I1 q1;rw[hs] at hA ⊢;refine ka (by show (false || (backTo cpos (starEach es X.env)).any (·.1))=false;rw[q] <;> rfl) (kL ?_)
 exact Yw hA λus s2 ⟨vs,H2,I2,r2,q2⟩=>hm j s2 σ H2 (.ref p) vs (.ref p) us Q I2 rfl r2 q2
end
end L2
namespace PyZ
open PySem PySem.Spec PyProof.Rows
section
variable {prog:Program}{w:World}{A:Around}{E:TY}{s:Shared}
theorem Zao {R:List Value->Shared->Prop}{r:Addr}{a b c:Int}{t u v:Tok}{n:Nat}(hh:A.handled=none)(hr:IsRange s.heap r a b c t u v)(O:ce a b c=true)
  (hn:bh a b c=n) (m5:n<=2 ^ 24)
  (h:∀(h':Heap) (tk:Nat) (ZE:Array Value),(∀b o,s.heap.get? b=some o->h'.get? b=some o)->g8 (λi v=>∃t,v=.int (a+i*c) t) ZE n->R ZE.toList {s with heap:=h',toks:=tk}) :
  wpAny (model prog w) A (collect (.ref r)) R E s:=by
 unfold collect;refine Zl (kx (bV PySem.F.entry_proto_collect ?_));rw[bA ji _];show wpAny _ A.in1 (newList [] >>= λl=>again (.builtin "list.__iadd__" ⟨[l,.ref r],[]⟩)) _ _ s;refine Zl (bE ?_);refine Zm ⟨c6 eQ _,bV PySem.F.entry_list_iadd ?_⟩;rw[bA eQ _];have Y:(s.heap.push {cls:=.type "list",data:=.seq ([]:List Value).toArray}).get? s.heap.objs.size=some {cls:=.type "list",data:=.seq #[]}:=Zo _ rfl;show wpAny _ A.in1 (c8 (.ref s.heap.objs.size) (.ref r) (.ref s.heap.objs.size)) _ _ _;have m6:=wpAny_extend_range (prog:=prog) (w:=w) (A:=A) (s:={s with heap:=s.heap.push {cls:=.type "list",data:=.seq ([]:List Value).toArray}})
  (R:=λ(q:Result) (s':Shared)=>∃(h':Heap) (tk:Nat) (j:Array Value) (c':Nat),q=.ok (.ret (.ref s.heap.objs.size))/\s'={s with heap:=h',toks:=tk}/\
   (∀b o,s.heap.get? b=some o->h'.get? b=some o)/\h'.get? s.heap.objs.size=some {cls:=.type "list",dict:=none,data:=.seq j c',slots:=#[]}/\g8 (λi v=>∃t,v=.int (a+i*c) t) j n)
  hh (Zn _ hr) O hn m5 s.heap.objs.size (.ref s.heap.objs.size) 0 Y
  (λh' tk j c' hk M J=>⟨h',tk,j,c',rfl,rfl,λb o e=>hk b o (ay (Zp e)) (Zn _ e),M,J⟩)
 refine cr m6 (λm8 s' x=>?_) λe s' x=>?_
 ·cases m8 with
  |done f=>
   obtain⟨h',tk,j,c',e,rfl,hk,M,J⟩:=x;cases e;show wpAny _ A (load s.heap.objs.size >>= _) _ _ _;refine Zl (jo M ?_);exact Zm (h h' tk j hk J)
  |again n6=>
   refine⟨x.1,fz x.2 λq n8 y=>?_⟩;obtain⟨h',tk,j,c',rfl,rfl,hk,M,J⟩:=y;show wpAny _ A (load s.heap.objs.size >>= _) _ _ _;refine Zl (jo M ?_);exact Zm (h h' tk j hk J)
 ·obtain⟨_,_,_,_,e',_⟩:=x
  cases e'
theorem Xj {Q₁:TY}{r:Addr}{a b c:Int}{t u v:Tok}{n:Nat}(hh:A.handled=none)(hr:IsRange s.heap r a b c t u v)(j:ce a b c=true)
  (hn:bh a b c=n) (J:n<=2 ^ 24)
  (h:∀(h':Heap) (tk:Nat) (ZE:Array Value),(∀b o,s.heap.get? b=some o->h'.get? b=some o)->g8 (λi v=>∃t,v=.int (a+i*c) t) ZE n->
   Q₁ (.ref h'.objs.size) {s with heap:=h'.push {cls:=.type "tuple",data:=.seq ZE},toks:=tk}) :
  codeAny (model prog w) A (.call (.builtin "tuple.__new__") ⟨[.type "tuple",.ref r],[]⟩) (wants Q₁ E) s:=by
 refine j6 ?_;show wpAny _ A.in1 (do checkBuiltinCall "tuple.__new__" ⟨[.type "tuple",.ref r],[]⟩;again (.builtin "tuple.__new__" ⟨[.type "tuple",.ref r],[]⟩)) _ _ s
 refine Zl (jU (PySem.F.newCall_tuple_1 _) (Zm ⟨c6 (show plainId "tuple.__new__"=true by decide +kernel) _,bV PySem.F.entry_tuple_new ?_⟩));rw[bA (show plainId "tuple.__new__"=true by decide +kernel) _];have m5:=sub_tuple_self;have M:=init_tuple_lookup;have m6:=madeHere_tuple;have O:s.TypeIs (.ref r) "range":=⟨_,hr,rfl⟩;have Y:n<=sizeLine:=by
  have:(16777216:Nat)=sizeLine:=by decide
  omega
 wp_walk using ir O,Zao (A:=A.in1) hh hr j hn J
 intro h' tk ZE hm q;show wpAny _ _ (iY ZE.toList.toArray >>= λv=>ret v) _ _ _;unfold iY;refine Zl (bE ?_ (by show ZE.toList.toArray.size<=sizeLine;simp only[lh];rw[q.1];exact Y));refine Zm ?_;have e:ZE.toList.toArray=ZE:=by simp
 rw[e];exact h h' tk ZE hm q
theorem VQ {Q:TY}{r:Addr}{a b c:Int}{t u v:Tok}{n:Nat}(hh:A.handled=none)(hr:IsRange s.heap r a b c t u v)(J:ce a b c=true)
  (hn:bh a b c=n) (O:n<=2 ^ 24)
  (h:∀(h':Heap) (tk:Nat) (ZE:Array Value),(∀b o,s.heap.get? b=some o->h'.get? b=some o)->g8 (λi v=>∃t,v=.int (a+i*c) t) ZE n->
   Q (.ref h'.objs.size) {s with heap:=h'.push {cls:=.type "tuple",data:=.seq ZE},toks:=tk}) :
  wpAny (model prog w) A (call (.type "tuple") [.ref r]) Q E s:=by
 refine callType_codes (Q₁:=λM j=>j.TypeIs M "tuple"/\Q M j) ic (PySem.F.typeCall_tuple_1 _) PySem.F.entry_object_init
  (Xj (A:=A.in1) hh hr J hn O λh' tk ZE hk Y=>⟨⟨_,Zo _ rfl,rfl⟩,h h' tk ZE hk Y⟩) λM j q=>?_
 exact⟨q.1,j9 M _,object_init_meets ic.init.lookup ic.made (by decide) prog w A.in1 _ j ⟨q.1,rfl,q.2⟩⟩
end
end PyZ
namespace L2
open PySem PySem.Spec PyProof.Rows
section
variable {X:Cx}
inductive I_call_tuple_rng (xs:TV) (H:Hp) (Q:VK):Prop
 |mk (a:Addr) (lo hi:Int):(xs=[.ref a])->(H a=some (.rng lo hi))->((-(2 ^ 62)<=lo/\lo<2 ^ 62/\-(2 ^ 62)<=hi/\hi<2 ^ 62))->((hi-lo).toNat<=sizeLine)->(∀l,H l=none->Q (.ref l) (upd H l (.tup ((Y3 lo (hi-lo).toNat).map V.int))))->I_call_tuple_rng xs H Q
theorem Zaa (hc:X.calm=true):YV X (.type "tuple") _root_.L2.I_call_tuple_rng:=by
 intro j s O H xs us Q I r h;obtain⟨a,lo,hi,rfl,ha,⟨b1,b2,b3,b4⟩,Y,q⟩:=h;obtain⟨u,rfl,ru⟩:=vals1 r;cases ru;obtain⟨t,u,v,e⟩:=(show ∃t u v,s.heap.get? a=some {cls:=.type "range",data:=.fields #[.int lo t,.int hi u,.int 1 v]} from I.hok a _ ha);refine PyZ.VQ (n:=(hi-lo).toNat) (I.ok.hd hc) e (small_one b1 b2 b3 b4) (by rw[lF];split <;> omega) Y λJ tk ZE hk M=>?_
 have I1:Inv X j O H {s with heap:=J,toks:=tk}:=I.kept (t':=tk) hk;have I2:Inv X j O (upd H J.objs.size (.tup ((Y3 lo (hi-lo).toNat).map V.int))) {s with heap:=J.push {cls:=.type "tuple",data:=.seq ZE},toks:=tk}:=
  I1.laid (t':=tk) (λb o e=>Zn _ e) (Zq _) (show YK X.prog X.w _ _ _ (.tup ((Y3 lo (hi-lo).toNat).map V.int)) from ⟨by rw[Za,Z7];exact Y,ZE.toList,Zau M,by simpa using gO _ _⟩)
 exact⟨.ref J.objs.size,_,I2,rfl,q _ (I1.hok.fresh (Zq _))⟩
end
end L2
namespace PyY
open PySem
open AutoSeq1 (wpAny_loadPart')
section
variable {prog:Program}{w:World}{A:Around}{E:TY}{s:Shared}
theorem Zef {j a:Addr}{k:Nat}{us:Array Value}{y:Value}{Q:TY}(c:s.heap.IsTupleIter j a k)(d:s.heap.IsTuple a us)(e:us[k]?=some y)
  (q:∀g,g.IsTupleIter j a (k+1)->bj j s.heap g->Q y {s with heap:=g}):wpAny (model prog w) A (c7 (.ref j)) Q E s:=by
 obtain⟨oj,J,cj,dj⟩:=id c;obtain⟨oa,O,_,na,Y⟩:=d;unfold c7;refine Zl (bP (name:=eh "__next__") c.typeIs eB (bM eB c.typeIs jY ?_ (jR _)));show wpAny _ _ (field (.ref j) 0 >>= _) _ _ s;refine Zl (dE J dj (x:=.ref a) rfl ?_);show wpAny _ _ (if (ax a == be)=true then _ else _) _ _ s
 rw[if_neg (show ¬((ax a == be)=true) from aF)];show wpAny _ _ (field (.ref j) 1 >>= _) _ _ s;refine Zl (dE J dj (x:=.int k 0) rfl ?_);show wpAny _ _ (seqItems? (.ref a) >>= _) _ _ s;refine Zl (gJ O Y ?_);simp only[Zj,e];refine Zl (dk J dj (by simp) (Zm ⟨y,rfl,Zm (q _ ?_ (bC ..))⟩));refine⟨_,bw _ J (cJ (br dj _)),(gC ..).trans cj,?_⟩;rw[br dj];simp[rawInt]
theorem Zgk {j a:Addr}{k:Nat}{us:Array Value}{Q:TY}(Y:A.handled=none)(c:s.heap.IsTupleIter j a k)(d:s.heap.IsTuple a us)(e:us[k]?=none)
  (q:∀g x,Heap.ExtBut j s.heap g->(∃o,g.get? x=some o/\o.cls=.type "StopIteration")->E (.ref x) {s with heap:=g}):wpAny (model prog w) A (c7 (.ref j)) Q E s:=by
 obtain⟨oj,J,cj,dj⟩:=id c;obtain⟨oa,ha,_,na,da⟩:=d;unfold c7;refine Zl (bP (name:=eh "__next__") c.typeIs eB (bM eB c.typeIs jY ?_ (jR _)));show wpAny _ _ (field (.ref j) 0 >>= _) _ _ s;refine Zl (dE J dj (x:=.ref a) rfl ?_);show wpAny _ _ (if (ax a == be)=true then _ else _) _ _ s
 rw[if_neg (show ¬((ax a == be)=true) from aF)];show wpAny _ _ (field (.ref j) 1 >>= _) _ _ s;refine Zl (dE J dj (x:=.int k 0) rfl ?_);show wpAny _ _ (seqItems? (.ref a) >>= _) _ _ s;refine Zl (gJ ha da ?_);simp only[Zj,e];refine Zl (fh (Zl (dk J dj (by simp) ?_)));show wpAny _ _ (newExc (.type "StopIteration") [] >>= _) _ _ {s with heap:=_};refine Zl ?_;unfold newExc newTuple;refine Zl (bE (Q:=_) ?_ (by size_fits));refine Zl (m:=firstArgMember _ _) (jU (a:=be) (by first|rfl|(unfold firstArgMember;rfl)) ?_)
 refine bE (Q:=_) ?_ (by size_fits);unfold raiseNew;refine Zl (wpAny_handled ?_);have M:A.in1.handled=none:=Y;rw[M];refine Zl (Zm (wpAny_throw (E:=E) ?_));exact q _ _ (((bC ..).extBut.push _).push _) ⟨_,Zo _ rfl,rfl⟩
theorem Zer {n j a:Addr}{k:Nat}{us:Array Value}{y J:Value}{Q:Option Value->Shared->Prop}(b:gM s.heap n j k J)(c:s.heap.IsTupleIter j a k)(d:s.heap.IsTuple a us)(e:us[k]?=some y)(nj:n≠j)
  (q:∀g,IsEnumOut g n j ((k:Int)+1) y s.heap.objs.size->g.IsTupleIter j a (k+1)->g.get? s.heap.objs.size=some {cls:=.type "tuple",data:=.seq #[.int k s.toks,y]}->g.objs.size=s.heap.objs.size+1->
   (∀x o,x≠n->x≠j->s.heap.get? x=some o->g.get? x=some o)->Q (some (.ref s.heap.objs.size)) {s with heap:=g,toks:=s.toks+1}):wpAny (model prog w) A (pyNext (.ref n)) Q E s:=by
 have tn:s.TypeIs (.ref n) "enumerate":=⟨_,b,rfl⟩;unfold pyNext;refine Zl (fQ (bP (name:=eh "__next__") tn fG (bM fG tn lN ?_ (ly _))));obtain⟨M,O,dr,tk,os⟩:=s;show wpAny _ _ (field (.ref n) 2 >>= _) _ _ _;refine Zl (dE b rfl (x:=.ref j) rfl ?_);refine Zl (Zef c d e λY c1 s1=>?_);replace s1:bj j M Y:=s1;have b1:gM Y n j k J:=(s1.2 n nj).trans b;show wpAny _ _ (field (.ref n) 3 >>= _) _ _ ⟨Y,O,dr,tk,os⟩;refine Zl (dE b1 rfl (x:=rawInt k) rfl ?_);show wpAny _ _ (field (.ref n) 4 >>= _) _ _ ⟨Y,O,dr,tk,os⟩;refine Zl (dE b1 rfl (x:=.none) rfl ?_);show wpAny _ _ (mkInt k >>= _) _ _ ⟨Y,O,dr,tk,os⟩;refine Zl (wpAny_mkInt ?_);show wpAny _ _ (setField (.ref n) 3 (rawInt ((k:Int)+1)) >>= _) _ _ ⟨Y,O,dr,tk+1,os⟩;refine Zl (fg b1 (by simp) λg2 b2 s2=>?_);replace s2:bj n Y g2:=s2;replace b2:gM g2 n j ((k:Int)+1) J:=b2;show wpAny _ _ (setField (.ref n) 4 .none >>= _) _ _ ⟨g2,O,dr,tk+1,os⟩;refine Zl (fg b2 (by simp) λg3 b3 s3=>?_);replace s3:bj n g2 g3:=s3;replace b3:gM g3 n j ((k:Int)+1) J:=b3;show wpAny _ _ (newTuple [.int k tk,y] >>= _) _ _ ⟨g3,O,dr,tk+1,os⟩;refine Zl (wpAny_newTuple ?_);have b4:gM (g3.push {cls:=.type "tuple",data:=.seq #[.int k tk,y]}) n j ((k:Int)+1) J:=Zn _ b3;generalize z4:g3.push {cls:=.type "tuple",data:=.seq #[.int k tk,y]}=g4 at b4;have sz:g3.objs.size=M.objs.size:=by rw[s3.1,s2.1,s1.1]
 have nl:n<M.objs.size:=Zp b;have t4:g4.get? M.objs.size=some {cls:=.type "tuple",data:=.seq #[.int k tk,y]}:=by
  rw[<-z4,<-sz];exact Zo _ rfl
 have w4:g4.objs.size=M.objs.size+1:=by
  rw[<-z4,bW,sz]
 have k4:∀x o,x≠n->x≠j->M.get? x=some o->g4.get? x=some o:=λx o xn xj hx=>by
  rw[<-z4];exact Zn _ (s3.extBut x o xn (s2.extBut x o xn (s1.extBut x o xj hx)))
 have c4:g4.IsTupleIter j a (k+1):=by
  obtain⟨o,ho,r⟩:=(c1.extBut s2.extBut (bd nj)).extBut s3.extBut (bd nj);rw[<-z4];exact⟨o,Zn _ ho,r⟩
 show wpAny _ _ (f9 (.ref n) >>= _) _ _ ⟨g4,O,dr,tk+1,os⟩;rw[sz];clear z4 b3 s3 b2 s2 b1 s1 c1 sz g3 g2 Y;refine Zl ?_;unfold f9;refine Zl (dE b4 rfl (x:=.none) rfl (Zm ?_));rw[if_pos rfl];refine Zl (fh (Zl (dE b4 rfl (x:=J) rfl ?_)));refine Zl (fg b4 (by simp) λg5 b5 s5=>?_);replace s5:bj n g4 g5:=s5;replace b5:gM g5 n j ((k:Int)+1) y:=b5;show wpAny _ _ (fZ (.ref n) (.ref M.objs.size) >>= _) _ _ ⟨g5,O,dr,tk+1,os⟩;refine Zl ?_;unfold fZ;refine Zl (fg b5 (by simp) λg6 b6 s6=>?_);replace s6:bj n g5 g6:=s6;replace b6:IsEnumOut g6 n j ((k:Int)+1) y M.objs.size:=b6;refine fg b6 (by simp) λg7 b7 s7=>?_;replace s7:bj n g6 g7:=s7;replace b7:IsEnumOut g7 n j ((k:Int)+1) y M.objs.size:=b7;refine Zl (wpAny_letGo (Zm ⟨_,rfl,Zm (q g7 b7 ?_ ?_ ?_ ?_)⟩))
 ·exact ((c4.extBut s5.extBut (bd nj)).extBut s6.extBut (bd nj)).extBut s7.extBut (bd nj)
 ·exact s7.extBut _ _ (bq nl) (s6.extBut _ _ (bq nl) (s5.extBut _ _ (bq nl) t4))
 ·rw[s7.1,s6.1,s5.1,w4]
 ·exact λx o xn xj hx=>s7.extBut x o xn (s6.extBut x o xn (s5.extBut x o xn (k4 x o xn xj hx)))
theorem ZgC {n j a:Addr}{k:Nat}{us:Array Value}{old:Value}{Q:Option Value->Shared->Prop}(O:A.handled=none)(b:gM s.heap n j k old)(c:s.heap.IsTupleIter j a k)(d:s.heap.IsTuple a us)(e:us[k]?=none)
  (q:∀g,Heap.ExtBut j s.heap g->Q none {s with heap:=g}):wpAny (model prog w) A (pyNext (.ref n)) Q E s:=by
 have J:s.TypeIs (.ref n) "enumerate":=⟨_,b,rfl⟩;unfold pyNext;refine Zl (fQ (bP (name:=eh "__next__") J fG (bM fG J lN ?_ (ly _))));show wpAny _ _ (field (.ref n) 2 >>= _) _ _ _;refine Zl (dE b rfl (x:=.ref j) rfl ?_);refine Zl (Zgk O c d e λg x Y xs=>?_);obtain⟨o,ho,hc⟩:=xs;refine Zl (jO (T:="StopIteration") (b:=true) ⟨o,ho,hc⟩ isSubtype_stop ?_);exact Zm (q _ Y)
theorem ZgB (a:Addr)(q:Array Value)(n:Nat)(M:Option Addr)(O:Array (Option Value)) :
  kH (cg.«enumerate.__new__» ⟨[.type "enumerate",.ref a],[]⟩) (λ_ R s=>s.heap.get? a=some {cls:=.type "tuple",dict:=M,data:=.seq q n,slots:=O}/\
   R (.ok (.ret (.ref (s.heap.push {cls:=.type "tuple_iterator",data:=.fields #[.ref a,.int 0 0]}).objs.size)))
    {s with heap:=(s.heap.push {cls:=.type "tuple_iterator",data:=.fields #[.ref a,.int 0 0]}).push {cls:=.type "enumerate",data:=.fields #[.none,.bool false,.ref s.heap.objs.size,rawInt 0,.none,.none]}}):=
 .of_wp λprog w A R s h=>by
  obtain⟨Y,gg,dr,tk,os⟩:=s;obtain⟨j,h⟩:=h;have sub:=sub_enumerate;have J:Heap.IsTuple (Shared.heap ⟨Y,gg,dr,tk,os⟩) a q:=⟨_,j,rfl,n,rfl⟩
  wp_walk using wpAny_loadPart' j
  refine wpAny_stack_any λst=>Zm ?_;split
  ·rename_i c1 _ _ _ _ _
   cases (c1 == b9 "enumerate") <;> (wp_walk using wpAny_loadPart' j,jj J) <;> exact⟨_,rfl,h⟩
  ·wp_walk using wpAny_loadPart' j,jj J
   exact⟨_,rfl,h⟩
theorem Zac {a:Addr}{us:Array Value}{Q:TY}(O:s.heap.IsTuple a us)
  (h:∀g,gM g (s.heap.objs.size+1) s.heap.objs.size 0 .none->g.IsTupleIter s.heap.objs.size a 0->g.objs.size=s.heap.objs.size+2->(∀b o,s.heap.get? b=some o->g.get? b=some o)->Q (.ref (s.heap.objs.size+1)) {s with heap:=g}) :
  wpAny (model prog w) A (call (.type "enumerate") [.ref a]) Q E s:=by
 obtain⟨⟨Y,dd,dt,sl⟩,ha,hc,n,hd⟩:=O;have j:Y=.type "tuple":=hc;have q:dt=.seq us n:=hd;subst j q;refine callType_new F.called_enumerate (by decide) (F.typeCall_enumerate_1 _) (F.newCall_enumerate_1 _) (λJ=>j9 J _) F.entry_enumerate_new (ZgB a us n dd sl) ⟨ha,?_⟩;have M:(s.heap.push {cls:=.type "tuple_iterator",data:=.fields #[.ref a,.int 0 0]}).objs.size=s.heap.objs.size+1:=bW ..;show _/\_;rw[M];have he:gM ((s.heap.push {cls:=.type "tuple_iterator",data:=.fields #[.ref a,.int 0 0]}).push {cls:=.type "enumerate",data:=.fields #[.none,.bool false,.ref s.heap.objs.size,rawInt 0,.none,.none]}) (s.heap.objs.size+1) s.heap.objs.size 0 .none:=by
  have z:=Zo (s.heap.push {cls:=.type "tuple_iterator",data:=.fields #[.ref a,.int 0 0]}) (o:={cls:=.type "enumerate",data:=.fields #[.none,.bool false,.ref s.heap.objs.size,rawInt 0,.none,.none]}) rfl;rw[M] at z;exact z
 exact⟨⟨_,he,rfl⟩,h _ he ⟨_,Zn _ (Zo _ rfl),rfl,rfl⟩ (by rw[bW,M]) λb o y=>Zn _ (Zn _ y)⟩
end
end PyY
namespace L2
open PySem PySem.Spec PyProof.Rows
section
variable {X:Cx}{pins:List (Addr×Obj)}{σ:St}{H:Hp}{s:Shared}{h':Heap}
theorem Inv.turnLay {t':Nat}{ts:TW}{T:Addr}{o:HO}(I:Inv X pins σ H s)(k:∀b u,b∉ts->s.heap.get? b=some u->h'.get? b=some u)(ht:∀b∈ts,∃u,h'.get? b=some u)(O:∀b∈ts,Zat X pins H b)(Y:s.heap.objs.size<=T)
  (M:YK X.prog X.w (upd H T o) h' T o):Inv X pins σ (upd H T o) {s with heap:=h',toks:=t'}:=by
 have j:H T=none:=I.hok.fresh Y;have J:∀b u,H b=some u->b∉ts:=λb u e z=>by
  have:=(O b z).1;rw[e] at this;cases this
 refine I.call (ch:=ts) (g':=s.gens) (d':=s.drawn) ⟨λb u e _ _ nx=>k b u nx e,λb u e _ _ nx=>⟨u.slots,k b u nx e⟩,λb u e n _=>?_,λb u e nx=>⟨u,k b u nx e⟩,λb ys q=>?_,λb u v q=>?_,λb ps q=>⟨#[],?_⟩⟩
  (λb u e=>?_) I.bare λb hb=>?_
 ·rw[Zz (ay (aC (Zp e) Y))]
  exact n
 ·rw[Zz (Yn q j)]
  exact q
 ·rw[Zz (Yn q j)]
  exact q
 ·rw[Zz (Yn q j),q]
  simp
 ·by_cases hb:b=T
  ·subst hb
   rw[Zu] at e;cases e;exact M
  ·rw[Zz hb] at e
   refine (I.hok b u e).stay (λc v hc q=>k c v ?_ q) (λc r=>by rw[Zz (Yn r j)];exact r) λc ys r=>by rw[Zz (Yn r j)];exact r
   rcases hc with z|z
   ·rw[z]
    exact J b u e
   ·exact J c _ z
 ·obtain⟨f0,f1,f2,f3,f4,f5⟩:=O b hb
  exact⟨f3,f1,f4,f5⟩
theorem Inv.turnedL {t':Nat}{ts:TW}(I:Inv X pins σ H s)(k:∀b u,b∉ts->s.heap.get? b=some u->h'.get? b=some u)(J:∀b∈ts,Zat X pins H b):Inv X pins σ H {s with heap:=h',toks:=t'}:=by
 have j:∀b u,H b=some u->b∉ts:=λb u e z=>by
  have:=(J b z).1;rw[e] at this;cases this
 refine I.call (ch:=ts) (g':=s.gens) (d':=s.drawn) ⟨λb u e _ _ nx=>k b u nx e,λb u e _ _ nx=>⟨u.slots,k b u nx e⟩,λb u e n _=>n,λb u e nx=>⟨u,k b u nx e⟩,λb M q=>q,λb u v q=>q,λb ps q=>⟨#[],by rw[q];simp⟩⟩
  (λb u e=>?_) I.bare λb hb=>?_
 ·refine (I.hok b u e).stay (λc v O q=>k c v ?_ q) (λc r=>r) λc M r=>r
  rcases O with z|z
  ·rw[z]
   exact j b u e
  ·exact j c _ z
 ·obtain⟨f0,f1,f2,Y,f4,f5⟩:=J b hb
  exact⟨Y,f1,f4,f5⟩
end
def ZlC (K:aa)(a:Addr):It:=
 ⟨λi H=>∃j x,Ws K H a j/\j[i]?=some x,λi H x q=>∃T y,x=.ref T/\H T=none/\q=upd H T (.tup [.int i,y])/\∀j,Ws K H a j->j[i]?=some y,λi H=>∃j,Ws K H a j/\j.length<=i⟩
def Zn7 (K:aa)(a:Addr):It:=
 ⟨λi H=>∃j x,Xp K H a j/\j[i]?=some x,λi H x q=>∃T y,x=.ref T/\H T=none/\q=upd H T (.tup [.int i,y])/\∀j,Xp K H a j->j[i]?=some y,λi H=>∃j,Xp K H a j/\j.length<=i⟩
theorem Uk {P:Program}{w:World}{K:aa}{elts:List Expr}{x1}{pos:Pos}(a e it:Addr)(ne:e≠it) :
  Zar P w K (.Tuple elts x1 pos) (ZlC K a) [e,it] e (λi h=>(∃j,gM h e it i j)/\h.IsListIter it a i) where
 mem:=by simp
 obj:=λi h st b hb=>by
  obtain⟨⟨j,J⟩,⟨o,Y,c,d⟩⟩:=st;rcases aD.mp hb with rfl|hb
  ·exact⟨_,J,λv z=>by
    have z':gv _=fW v:=z;cases z'⟩
  ·have q:b=it:=by simpa using hb
   subst q;exact⟨o,Y,λv z=>by rw[d] at z;cases z⟩
 keep:=λi h h' st k=>by
  obtain⟨⟨j,J⟩,M⟩:=st;exact⟨⟨j,k e (by simp) _ J⟩,M.at λo q=>k it (by simp) o q⟩
 item:=by
  intro X hP hw hK hc i m5 s σ H E I hf st hg;subst hP hw hK;obtain⟨⟨j,J⟩,M⟩:=st;obtain⟨xs,x,hq,hx⟩:=hg;obtain⟨n6,rv,p,hz⟩:=I.list hq;obtain⟨u,hu,ru⟩:=rv.get hx;refine wpAny_pyNext_enum_item J M p.isList (x:=u) (by simpa using hu) ne λh1 ho n8 hT o8 hk=>?_;refine⟨_,rfl,kA ho λh2 n9 o0=>?_⟩;have le:e<s.heap.objs.size:=Zp J;have O:bj e h1 h2:=o0;have o7:h2.get? s.heap.objs.size=some {cls:=.type "tuple",data:=.seq #[.int i s.toks,u]}:=(O.2 _ (bq le)).trans hT;have m6:h2.IsListIter it a (i+1):=n8.at λo q=>(O.2 it (bd ne)).trans q;have m8:gM h2 e it ((i+1:Nat):Int) u:=by
   have:=n9;simpa using this
  have nT:H s.heap.objs.size=none:=I.hok.fresh (Zq _);have I2:=I.turnLay (t':=s.toks+1) (h':=h2) (ts:=[e,it]) (T:=s.heap.objs.size) (o:=.tup [.int i,x]) (λb v hb q=>?_) (λb hb=>?_) hf (Zq _) ⟨by show 2<=sizeLine;decide,[.int i s.toks,u],.cons ⟨_,rfl⟩ (.cons ru .nil),_,o7,rfl,0,rfl⟩
  ·refine⟨.ref s.heap.objs.size,_,I2,rfl,⟨_,x,rfl,nT,rfl,λys hy=>by rw[I.list_inj hy hq];exact hx⟩,⟨⟨u,m8⟩,m6⟩,λb hb=>?_⟩
   have fb:=(hf b hb).1;have lb:b<s.heap.objs.size:=by
    rcases aD.mp hb with rfl|hb
    ·exact le
    ·have q:b=it:=by simpa using hb
     subst q;obtain⟨o,Y,_⟩:=M;exact Zp Y
   rw[Zz (ay lb)];exact fb
  ·have q1:b≠e:=λz=>hb (by simp[z])
   have q2:b≠it:=λz=>hb (by simp[z]);exact (O.2 b q1).trans (hk b v q1 q2 q)
  ·rcases aD.mp hb with rfl|hb
   ·exact⟨_,m8⟩
   ·have q:b=it:=by simpa using hb
    subst q;obtain⟨o,Y,_⟩:=m6;exact⟨o,Y⟩
 done:=by
  intro X hP hw hK hc i m5 s σ H E I hf st hg;subst hP hw hK;obtain⟨⟨j,J⟩,M⟩:=st;obtain⟨xs,hq,hx⟩:=hg;obtain⟨n6,rv,p,hz⟩:=I.list hq;have hl:=rv.length;exact wpAny_pyNext_enum_end (I.ok.hd hc) J M p.isList (by simp;omega) λh1 eb=>⟨rfl,I.turnedL (t':=s.toks) (ts:=[e,it]) (λb o hb q=>eb b o (λz=>hb (by simp[z])) q) hf⟩
 self:=λ_ _ _ _ _ st h=>by
  obtain⟨⟨j,J⟩,M⟩:=st;exact dW J h
theorem Uj {P:Program}{w:World}{K:aa}{elts:List Expr}{x1}{pos:Pos}(a e it:Addr)(ne:e≠it) :
  Zar P w K (.Tuple elts x1 pos) (Zn7 K a) [e,it] e (λi h=>(∃j,gM h e it i j)/\h.IsTupleIter it a i) where
 mem:=by simp
 obj:=λi h st b hb=>by
  obtain⟨⟨j,J⟩,⟨o,e1,c,d⟩⟩:=st;rcases aD.mp hb with rfl|hb
  ·exact⟨_,J,λv z=>by
    have z':gv _=fW v:=z;cases z'⟩
  ·have q:b=it:=by simpa using hb
   subst q;exact⟨o,e1,λv z=>by rw[d] at z;cases z⟩
 keep:=λi h h' st k=>by
  obtain⟨⟨j,J⟩,M⟩:=st;exact⟨⟨j,k e (by simp) _ J⟩,M.at λo q=>k it (by simp) o q⟩
 item:=by
  intro X hP hw hK hc i m5 s σ H E I hf st hg;subst hP hw hK;obtain⟨⟨j,J⟩,M⟩:=st;obtain⟨xs,x,hq,hx⟩:=hg;obtain⟨O,rv,p,hz⟩:=I.tuple hq;obtain⟨u,hu,ru⟩:=rv.get hx;refine PyY.Zer J M (show s.heap.IsTuple a O.toArray from p) (y:=u) (by simpa using hu) ne λh1 ho n6 hT o7 hk=>?_;refine⟨_,rfl,kA ho λh2 n8 n9=>?_⟩;have le:e<s.heap.objs.size:=Zp J;have Y:bj e h1 h2:=n9;have o0:h2.get? s.heap.objs.size=some {cls:=.type "tuple",data:=.seq #[.int i s.toks,u]}:=(Y.2 _ (bq le)).trans hT;have m6:h2.IsTupleIter it a (i+1):=n6.at λo q=>(Y.2 it (bd ne)).trans q;have m8:gM h2 e it ((i+1:Nat):Int) u:=by
   have:=n8;simpa using this
  have nT:H s.heap.objs.size=none:=I.hok.fresh (Zq _);have I2:=I.turnLay (t':=s.toks+1) (h':=h2) (ts:=[e,it]) (T:=s.heap.objs.size) (o:=.tup [.int i,x]) (λb v hb q=>?_) (λb hb=>?_) hf (Zq _) ⟨by show 2<=sizeLine;decide,[.int i s.toks,u],.cons ⟨_,rfl⟩ (.cons ru .nil),_,o0,rfl,0,rfl⟩
  ·refine⟨.ref s.heap.objs.size,_,I2,rfl,⟨_,x,rfl,nT,rfl,λys hy=>by rw[I.tuple_inj hy hq];exact hx⟩,⟨⟨u,m8⟩,m6⟩,λb hb=>?_⟩
   have fb:=(hf b hb).1;have lb:b<s.heap.objs.size:=by
    rcases aD.mp hb with rfl|hb
    ·exact le
    ·have q:b=it:=by simpa using hb
     subst q;obtain⟨o,e1,_⟩:=M;exact Zp e1
   rw[Zz (ay lb)];exact fb
  ·have q1:b≠e:=λz=>hb (by simp[z])
   have q2:b≠it:=λz=>hb (by simp[z]);exact (Y.2 b q1).trans (hk b v q1 q2 q)
  ·rcases aD.mp hb with rfl|hb
   ·exact⟨_,m8⟩
   ·have q:b=it:=by simpa using hb
    subst q;obtain⟨o,e1,_⟩:=m6;exact⟨o,e1⟩
 done:=by
  intro X hP hw hK hc i m5 s σ H E I hf st hg;subst hP hw hK;obtain⟨⟨j,J⟩,M⟩:=st;obtain⟨xs,hq,hx⟩:=hg;obtain⟨O,rv,p,hz⟩:=I.tuple hq;have hl:=rv.length;exact PyY.ZgC (I.ok.hd hc) J M (show s.heap.IsTuple a O.toArray from p) (by simp;omega) λh1 eb=>⟨rfl,I.turnedL (t':=s.toks) (ts:=[e,it]) (λb o hb q=>eb b o (λz=>hb (by simp[z])) q) hf⟩
 self:=λ_ _ _ _ _ st h=>by
  obtain⟨⟨j,J⟩,M⟩:=st;exact dW J h
section
variable {X:Cx}
def Zl9 (K:aa)(J:TA):TI:=λM H R=>J M H λO j=>∃a,O=[.ref a]/\(((∃q,Ws K j a q)/\R (ZlC K a) j)\/((∃q,Xp K j a q)/\R (Zn7 K a) j))
theorem Zph {elts:List Expr}{x1}{pt:Pos}{l:Expr}{ta:TA}{p pos:Pos}(hm:X.mg "enumerate"=none)(ha:PA X [l] ta)(hg:Wc X.env.scope "enumerate"=true:=by kernel_rfl)(hs:starEach [l] X.env=[(false,eval l X.env)]:=by rfl) :
  PI X (.Tuple elts x1 pt) (.Call (.Name "enumerate" p) [l] [] pos) (Zl9 X.K ta):=by
 intro J s σ H R I h;refine Call_ (JN I (XQ hg) hm (show bootBuiltins "enumerate"=some (.type "enumerate") by kernel_rfl) (bm (Yw (ha pos J s σ H _ I h) λus s1 ⟨vs,H1,j,r1,q1⟩=>?_) hs rfl));obtain⟨a,e,q⟩:=q1;subst e;cases r1 with
 |cons r rr=>
  cases rr;cases (show _=ax a from r);have sz:∀b,b∈[s1.heap.objs.size+1,s1.heap.objs.size]->s1.heap.objs.size<=b:=λb hb=>by
   rcases aD.mp hb with rfl|hb
   ·exact gE _
   ·have:b=s1.heap.objs.size:=by simpa using hb
    rw[this];exact Zq _
  rcases q with ⟨⟨xs,O⟩,q⟩|⟨⟨xs,O⟩,q⟩
  ·obtain⟨M,rv,p,hz⟩:=j.list O
   refine call_enumerate_list p.isList λg ge Y gs gk=>?_;refine dW ge ?_;exact⟨_,[s1.heap.objs.size+1,s1.heap.objs.size],_,_,H1,rfl,j.kept (t':=s1.toks) gk,Uk a _ _ (bq (cC _)),⟨⟨_,ge⟩,Y⟩,λb hb=>j.fpOk (sz b hb) (j.hok.fresh (sz b hb)),q⟩
  ·obtain⟨M,rv,p,hz⟩:=j.tuple O
   refine PyY.Zac (show s1.heap.IsTuple a M.toArray from p) λg ge Y gs gk=>?_;refine dW ge ?_;exact⟨_,[s1.heap.objs.size+1,s1.heap.objs.size],_,_,H1,rfl,j.kept (t':=s1.toks) gk,Uj a _ _ (bq (cC _)),⟨⟨_,ge⟩,Y⟩,λb hb=>j.fpOk (sz b hb) (j.hok.fresh (sz b hb)),q⟩
theorem UW (K:aa){elts:List Expr}{q}{pt:Pos}{l:Expr}{j:TA}{p pos:Pos}(J:X.mg "enumerate"=none)(M:PA X [l] j)(O:X.K=K:=by rfl)(Y:Wc X.env.scope "enumerate"=true:=by kernel_rfl)(hs:starEach [l] X.env=[(false,eval l X.env)]:=by rfl) :
  PI X (.Tuple elts q pt) (.Call (.Name "enumerate" p) [l] [] pos) (Zl9 K j):=O▸Zph J M Y hs
end
structure Zjw (J:It)(At:Hp->Prop)(xs:TV):Prop where
 go:∀i H,At H->i<xs.length->J.go i H
 yld:∀i H x H2,At H->J.yld i H x H2->∃T y,x=.ref T/\H T=none/\H2=upd H T (.tup [.int i,y])/\xs[i]?=some y
 stop:∀i H,At H->xs.length<=i->J.stop i H
theorem UY {K:aa}{a:Addr}{xs:TV}:Zjw (ZlC K a) (λH=>Ws K H a xs) xs:=
 ⟨λi H h hi=>⟨xs,xs[i],h,by simp[hi]⟩,λi H x O h j=>by
  obtain⟨T,y,e,J,M,q⟩:=j;exact⟨T,y,e,J,M,q xs h⟩,λi H h hi=>⟨xs,h,hi⟩⟩
theorem Zb3 {K:aa}{a:Addr}{xs:TV}:Zjw (Zn7 K a) (λH=>Xp K H a xs) xs:=
 ⟨λi H h hi=>⟨xs,xs[i],h,by simp[hi]⟩,λi H x O h j=>by
  obtain⟨T,y,e,J,M,q⟩:=j;exact⟨T,y,e,J,M,q xs h⟩,λi H h hi=>⟨xs,h,hi⟩⟩
theorem Jd {J:It}{g:TG}{tb:TS}{D:WT}{σ:St}{H:Hp}{At:Hp->Prop}{xs:TV}(S:Zjw J At xs)(Pv:Nat->St->Hp->Prop)(h0:Pv 0 σ H)(hS:∀i σ H,Pv i σ H->At H)
  (hs:∀(i:Nat) y σ H T,xs[i]?=some y->Pv i σ H->H T=none->g (.ref T) σ (upd H T (.tup [.int i,y])) λq Y=>tb (D.lp (Pv (i+1))) q Y) (hd:∀ σ H,Pv xs.length σ H->D.nx σ H) :
  ∃W:Nat->Nat->St->Hp->Prop,(∃m,W 0 m σ H)/\∀i m σ H,W i m σ H->
   (J.stop i H/\D.nx σ H)\/(J.go i H/\∃N:St->Hp->Prop,(∀ M j,N M j->∃m',m'<m/\W (i+1) m' M j)/\∀x j,J.yld i H x j->g x σ j λq Y=>tb (D.lp N) q Y):=by
 refine⟨λi m σ H=>m=xs.length-i/\i<=xs.length/\Pv i σ H,⟨_,rfl,a5 _,h0⟩,?_⟩;rintro i m σ H ⟨rfl,hi,p⟩;have s:=hS i σ H p;by_cases O:i<xs.length
 ·refine .inr ⟨S.go i H s O,Pv (i+1),λM j p'=>⟨xs.length-(i+1),by omega,rfl,O,p'⟩,λx j hy=>?_⟩
  obtain⟨T,y,rfl,hT,rfl,hx⟩:=S.yld i H x j s hy;exact hs i y σ H T hx p hT
 ·have e:i=xs.length:=by omega
  subst e;exact .inl ⟨S.stop _ H s (Zq _),hd σ H p⟩
def Itd (lo:Int)(n:Nat):It:=⟨λi _=>i<n,λi H x j=>j=H/\x=.int (lo-i),λi _=>n<=i⟩
theorem ZfY {P:Program}{w:World}{K:aa}{tg:Expr}(it:Addr)(lo:Int)(n:Nat):Zar P w K tg (Itd lo n) [it] it (λi h=>g9 h it (lo+(i:Nat)*(-1)) ((n:Int)-(i:Nat)) (-1)) where
 mem:=by simp
 obj:=λi h st b hb=>by
  have e:b=it:=by simpa using hb
  subst e;exact⟨_,st,λv z=>by
   have z':gv _=fW v:=z;cases z'⟩
 keep:=λi h J st k=>k it (by simp) _ st
 item:=by
  intro X O Y hK hc i j s σ H E I M st hg;subst O Y hK;obtain⟨f0,f1,f2,f3,f4,f5⟩:=M it (by simp);have W:=kC (prog:=X.prog) (w:=X.w) (I.ok.hd hc) it lo (-1) n;refine W.item i s _ _ hg st λv J tk hv q kk=>?_;obtain⟨t,rfl⟩:=hv;have I1:Inv X j σ H {s with heap:=J,toks:=tk}:=I.turned (λb o hb e=>kk b o (by simpa using hb) e) f0 f1 f3 f4 f5;refine⟨_,rfl,Zde (s:={s with heap:=J,toks:=tk}) (n:="range_iterator") q rfl rfl (by decide) ⟨.int (lo-i),H,I1,⟨t,?_⟩,⟨rfl,rfl⟩,q,λb hb=>(M b hb).1⟩⟩;rw[show lo-(i:Int)=lo+(i:Int)*(-1) by omega]
 done:=by
  intro X O Y hK hc i j s σ H E I M st hg;subst O Y hK;obtain⟨f0,f1,f2,f3,f4,f5⟩:=M it (by simp);exact iu (I.ok.hd hc) st (by have:n<=i:=hg;omega) λJ eb=>⟨rfl,I.turned (t':=s.toks) (λb o hb e=>eb b o hb e) f0 f1 f3 f4 f5⟩
 self:=λ_ _ _ _ _ st h=>iw st h
theorem rangeSize_down (a b:Int):bh a b (-1)=if b<a then a-b else 0:=by
 unfold bh;rw[if_neg (by decide),Int.neg_neg,Int.ediv_one];by_cases h:b<a
 ·rw[if_pos h,if_pos h]
  omega
 ·rw[if_neg h,if_neg h]
theorem small_down {a b:Int}(j:-(2 ^ 62)<=a)(q:a<2 ^ 62)(J:-(2 ^ 62)<=b)(M:b<2 ^ 62):ce a b (-1)=true:=by
 unfold ce;rw[rangeSize_down];simp only[iH,ag,aY,decide_eq_true_eq,beq_iff_eq,show ¬((-1:Int) > 0) by decide,if_false];split <;> omega
def Zpb (q:TA):TI:=λJ H R=>q J H λM O=>∃i j:Int,M=[.int i,.int j,.int (-1)]/\(-(2 ^ 62)<=i/\i<2 ^ 62/\-(2 ^ 62)<=j/\j<2 ^ 62)/\R (Itd i (i-j).toNat) O
theorem ZoM {X:Cx}{tg a b c:Expr}{ta:TA}{p pos:Pos}(hm:X.mg "range"=none)(ha:PA X [a,b,c] ta)(hg:Wc X.env.scope "range"=true:=by kernel_rfl)(hs:starEach [a,b,c] X.env=(false,eval a X.env)::starEach [b,c] X.env:=by rfl)(m5:(backTo pos (starEach [b,c] X.env)).any (·.1)=false:=by rfl) :
  PI X tg (.Call (.Name "range" p) [a,b,c] [] pos) (Zpb ta):=by
 intro M s σ H R I h;refine Call_ (JN I (XQ hg) hm kN (bm (Yw (ha pos M s σ H _ I h) λus s1 ⟨vs,H1,I1,r1,q1⟩=>?_) hs m5));obtain⟨i,j,e,⟨q1,q2,q3,q4⟩,q⟩:=q1;subst e;cases r1 with
 |cons r O=>
  cases O with
  |cons r' O=>
   cases O with
   |cons m6 O=>
    cases O;obtain⟨t,rfl⟩:=r;obtain⟨Y,rfl⟩:=r';obtain⟨J,rfl⟩:=m6;refine call_range_3 (by decide) ?_ (Or.inl (jS (by decide)));refine jm (j7 ..) (small_down q1 q2 q3 q4) ?_;have I2:Inv X M σ H1 {s1 with heap:=s1.heap.push {cls:=.type "range",data:=.fields #[.int i t,.int j Y,.int (-1) J]},toks:=s1.toks}:=I1.kept λb o e=>Zn _ e;refine⟨(s1.heap.push {cls:=.type "range",data:=.fields #[.int i t,.int j Y,.int (-1) J]}).objs.size,[(s1.heap.push {cls:=.type "range",data:=.fields #[.int i t,.int j Y,.int (-1) J]}).objs.size],_,_,H1,rfl,
     I2.kept (t':=s1.toks) λb o e=>Zn _ e,ZfY _ i (i-j).toNat,?_,λb hb=>?_,q⟩
    ·have e1:i+((0:Nat):Int)*(-1)=i:=by simp
     have e2:(((i-j).toNat:Nat):Int)-((0:Nat):Int)=bh i j (-1):=by rw[rangeSize_down];split <;> omega
     show g9 _ _ (i+((0:Nat):Int)*(-1)) ((((i-j).toNat:Nat):Int)-((0:Nat):Int)) (-1);rw[e1,e2];exact Zo _ rfl
    ·have e:b=(s1.heap.push {cls:=.type "range",data:=.fields #[.int i t,.int j Y,.int (-1) J]}).objs.size:=by simpa using hb
     subst e;exact I2.fpOk (Zq _) (I2.hok.fresh (Zq _))
theorem Zdf {lo:Int}{n:Nat}{g:TG}{tb:TS}{D:WT}{σ:St}{H:Hp}(Pv:Nat->St->Hp->Prop)(h0:Pv 0 σ H)
  (hs:∀i σ H,i<n->Pv i σ H->g (.int (lo-i)) σ H λj O=>tb (D.lp (Pv (i+1))) j O) (hd:∀ σ H,Pv n σ H->D.nx σ H) :
  ∃W:Nat->Nat->St->Hp->Prop,(∃m,W 0 m σ H)/\∀i m σ H,W i m σ H->
   ((Itd lo n).stop i H/\D.nx σ H)\/((Itd lo n).go i H/\∃N:St->Hp->Prop,(∀ q J,N q J->∃Y,Y<m/\W (i+1) Y q J)/\∀x J,(Itd lo n).yld i H x J->g x σ J λj O=>tb (D.lp N) j O):=by
 refine⟨λi m σ H=>m=n-i/\i<=n/\Pv i σ H,⟨n,by simp,a5 _,h0⟩,?_⟩;rintro i m σ H ⟨rfl,hi,p⟩;by_cases M:i<n
 ·refine .inr ⟨M,Pv (i+1),λq J p'=>⟨n-(i+1),by omega,rfl,M,p'⟩,λx J hy=>?_⟩
  obtain⟨e,rfl⟩:=hy;subst e;exact hs i σ _ M p
 ·have e:i=n:=by omega
  subst e;exact .inl ⟨Zq _,hd σ H p⟩
theorem g2 (K:aa)(i j:Nat){X:Cx}{x y:Str}{k}{q J pos:Pos}(O:X.calm=true)(Y:PG X (.Name x q) (Yj i))(hy:PG X (.Name y J) (Yj j))(hK:X.K=K:=by rfl)
  (hn:(assignEach [.Name x q,.Name y J] X.env).length=2:=by rfl) (M:(assignEach [.Name x q,.Name y J] X.env).findIdx? (·.1)=none:=by rfl) :
  PG X (.Tuple [.Name x q,.Name y J] k pos) (Zgy K 2 (JT (Yj i) (JT (Yj j) Zgz))):=hK▸UI O (Z2 Y (Z2 hy Vn)) hn M
theorem Zib {X:Cx}(K:aa){o e:Expr}{M:List Expr}{to:TE}{t:TA}{name:Str}{J j:Pos}{T id:String}{r:V->TV->Hp->VK->Prop}(pa:PlainAttrs T)(slot:Slot T name id)(m6:typeOf (.builtin id)=pure (.type "method_descriptor"))(hm:MtR X id r)(ho:PE X o to)(ha:PA X (e::M) t)
  (hK:X.K=K:=by rfl) (O:attributeBase o name X.env (eval o X.env)=eval o X.env:=by rfl)
  (m5:((backTo j (starEach (e::M) X.env)).all (λx=>!x.1) && (backToKw j (keywordEach [] X.env)).all (λx=>x.1.isSome)
   && decide ((e::M).length+([]:List Keyword).length+(if ([]:List Keyword).isEmpty then 0 else 1)<30))=true:=by rfl)
  (Y:(J.endLine == j.line)=true:=by rfl) (hs:starEach (e::M) X.env=(false,eval e X.env)::starEach M X.env:=by rfl) (q:(backTo j (starEach M X.env)).any (·.1)=false:=by rfl) :
  PE X (.Call (.Attribute o name J) (e::M) [] j) (tBM K T r to t):=hK▸WC pa slot m6 hm ho ha O m5 Y hs q
end L2
namespace Pm
open PySem L2 PySem.Spec PyProof.Rows
open Tb
def nV (k:Nat):V:=.int (k:Int)
def GT (H:Hp)(g:Addr)(t:T9):Prop:=∃rs:TW,H g=some (.tup (rs.map V.ref))/\rs.length=t.length/\∀(i:Nat) r,rs[i]?=some r->Tz H r ((t.getD i []).map nV)
theorem GT.mono {H j:Hp}{g:Addr}{t:T9}(s:Zv H j)(G:GT H g t):GT j g t:=by
 obtain⟨q,J,M,O⟩:=G;exact⟨q,s _ _ J,M,λi r Y=>(O i r Y).mono s⟩
theorem JJ {t:T9}(P:PW t){a:Nat}(j:a<t.length):(t.getD a []).length=t.length:=by
 refine P.len _ ?_;rw[Zb,Zf j];exact bn j
theorem Jo {t:T9}(P:PW t){a b:Nat}(j:a<t.length)(hb:b<t.length):((t.getD a []).map nV)[b]?=some (.int (ZQ t a b:Nat)):=by
 have q:=JJ P j;unfold ZQ;generalize t.getD a []=row at *;rw[Zc,Zf (show b<row.length by omega),Zb,Zf (show b<row.length by omega)];rfl
theorem GT.at {H:Hp}{g:Addr}{t:T9}(G:GT H g t)(P:PW t){a:Nat}(J:a<t.length):∃(j:TW) (r:Addr),H g=some (.tup (j.map V.ref))/\j.length=t.length/\Vx (j.map V.ref) (a:Int)=some (.ref r)/\Tz H r ((t.getD a []).map nV)/\∀b,b<t.length->Vx ((t.getD a []).map nV) (b:Int)=some (.int (ZQ t a b:Nat)):=by
 obtain⟨j,M,O,Y⟩:=G;have q:j[a]?=some (j[a]'(by omega)):=Zf (by omega);exact⟨j,_,M,O,ZI (by rw[Zc,q];rfl),Y a _ q,λb hb=>ZI (Jo P J hb)⟩
def Zju (H:Hp)(L:Addr)(rs:TW)(f:Nat->T7):Prop:=H L=some (.lst (rs.map V.ref))/\∀(i:Nat) r,rs[i]?=some r->Tz H r ((f i).map nV)
theorem ZpP {H j:Hp}{L g:Addr}{rs:TW}{f:Nat->T7}{n:Nat}(R:Zju H L rs f)(q:rs.length=n)(s:Zv H j)(M:j g=some (.tup (rs.map V.ref))):GT j g ((ac n).map f):=by
 refine⟨rs,M,by rw[q,Za,Zg],λi r J=>?_⟩;have O:i<n:=by rw[<-q];exact (ae.mp J).1
 rw[Zb,Zc,aj O];exact (R.2 i r J).mono s
theorem ZfD (i j:Int):gQ (.int i) (.int j)=decide (i=j):=by
 first|rfl|simp[gQ]
theorem Ja {n i:Nat}(h:i<n):ixN n (i:Int)=some i:=by
 unfold ixN;rw[if_pos (dA _),if_pos (by omega),Zj]
theorem XY {xs:T7}{i:Nat}{y:V}(h:(xs.map nV)[i]?=some y):∃k,xs[i]?=some k/\y=.int (k:Nat):=by
 rw[Zc] at h;cases e:xs[i]? with
 |none=>rw[e] at h;cases h
 |some k=>rw[e] at h;exact⟨k,rfl,(aA h).symm⟩
def XI (f g:T7):T7:=g.map λi=>f.getD i 0
def nI (xs:T7):TZ:=xs.map λk:Nat=>((k:Nat):Int)
theorem Znm (xs:T7):(nI xs).map V.int=xs.map nV:=by unfold nI;rw[aH];rfl
def TupsAt (H:Hp)(L:Addr)(bs:TW)(yss:T9):Prop:=H L=some (.lst (bs.map V.ref))/\bs.length=yss.length/\∀(i:Nat) b,bs[i]?=some b->H b=some (.tup ((yss.getD i []).map nV))
theorem TupsAt.mono {H j:Hp}{L:Addr}{bs:TW}{yss:T9}(s:Zv H j)(R:TupsAt H L bs yss):TupsAt j L bs yss:=⟨s _ _ R.1,R.2.1,λi b hb=>s _ _ (R.2.2 i b hb)⟩
theorem TupsAt.push {H:Hp}{L:Addr}{bs:TW}{yss:T9}{b:Addr}{ys:T7}(R:TupsAt H L bs yss)(h:H b=some (.tup (ys.map nV))):TupsAt (upd H L (.lst (bs.map V.ref++[.ref b]))) L (bs++[b]) (yss++[ys]):=by
 have ne:∀{b ys},H b=some (.tup ys)->upd H L (.lst (bs.map V.ref++[.ref b])) b=some (.tup ys):=λ{b ys} hb=>by
  rw[Zz (λz=>by rw[z,R.1] at hb;cases hb)];exact hb
 refine⟨by rw[Zu,aO];rfl,by rw[Zd,Zd,R.2.1];rfl,λi c j=>?_⟩;have q:c≠L->upd H L (.lst (bs.map V.ref++[.ref b])) c=H c:=λz=>Zz z;by_cases J:i<bs.length
 ·rw[aq J] at j
  have:=R.2.2 i c j;rw[q (λz=>by rw[z,R.1] at this;cases this),Zb,aq (by rw[<-R.2.1];exact J),<-Zb];exact this
 ·rw[au (by omega)] at j
  have M:i-bs.length=0:=by
   apply ai;intro z;rw[ak (by rw[Zk];omega)] at j;cases j
  rw[M] at j;cases j;have:i=yss.length:=by rw[<-R.2.1];omega
  rw[q (λz=>by rw[z,R.1] at h;cases h),this,Zb,au (Zq _),cn];exact h
theorem Ze1 {K:aa}{H:Hp}:∀(bs:TW) (yss:T9),bs.length=yss.length->(∀(j:Nat) b,bs[j]?=some b->H b=some (.tup ((yss.getD j []).map nV)))->WH K H (bs.map V.ref) (yss.map λns=>cx ((nI ns).map aV))
 | [],[],_,_=>.nil
 | [],_::_,h,_=>by cases h
 |_::_,[],h,_=>by cases h
 |b::bs,y::yss,h,g=>by
  have hb:=g 0 b rfl;have q:H b=some (.tup ((nI y).map V.int)):=by rw[Znm];exact hb
  exact .cons (.tup (.of q) (WH.ints _)) (Ze1 bs yss (cv h) λj J M=>g (j+1) J M)
theorem Ziz {a b:T7}:nI a=nI b↔a=b:=by
 constructor
 ·intro h
  unfold nI at h;exact (f6 (λx y e=>by exact Int.ofNat.inj e)).mp h
 ·intro h;rw[h]
theorem Zpg (a b:T7):gQ (.tuple ((nI a).map aV)) (.tuple ((nI b).map aV))=decide (a=b):=by
 have:gQ (.tuple ((nI a).map aV)) (.tuple ((nI b).map aV))=decide (nI a=nI b):=by
  show PyData.eqvAll _ _=_;exact PySem.W.ked_eqvAll _ _
 rw[this,decide_eq_decide];exact Ziz
theorem Zci (yss:T9)(o:T7):((yss.map λns=>cx ((nI ns).map aV)).any λy=>y.eqv (.tuple ((nI o).map aV)))=yss.contains o:=by
 rw[ef,List.contains_eq_any_beq];congr 1;funext y;show gQ _ _=(o == y);rw[Zpg];by_cases h:y=o
 ·rw[decide_eq_true h,h,beq_self_eq_true]
 ·rw[decide_eq_false h]
  exact (beq_eq_false_iff_ne.mpr (λz=>h z.symm)).symm
def Zi4 (j:T7):V->V
 | .int z=>nV (j.getD z.toNat 0)
 |y=>y
theorem Zdj (j g:T7):(g.map nV).map (Zi4 j)=(XI j g).map nV:=by
 unfold XI;rw[aH,aH];refine aW λb _=>?_;show nV (j.getD (b:Int).toNat 0)=nV (j.getD b 0);rw[Zj]
def Wb (j:T9):T9:=j.map λa=>j.map λb=>j.findIdx (· == XI a b)
def Gk (k:Nat)(y:T7):Prop:=y.length=k/\∀x∈y,x<k
theorem Zjq {k:Nat}{a g:T7}(j:Gk k a)(q:Gk k g):Gk k (XI a g):=by
 unfold XI;refine⟨by rw[Za];exact q.1,λx J=>?_⟩;obtain⟨i,hi,rfl⟩:=aE.mp J;have M:=q.2 i hi;have O:=j.1;rw[Zb,Zf (show i<a.length by omega)];exact j.2 _ (bn _)
theorem TupsAt.get {H:Hp}{L:Addr}{bs:TW}{yss:T9}(R:TupsAt H L bs yss){i:Nat}(j:i<yss.length):∃b,bs[i]?=some b/\Vx (bs.map V.ref) (i:Int)=some (.ref b)/\H b=some (.tup ((yss.getD i []).map nV)):=by
 have hb:i<bs.length:=by rw[R.2.1];exact j
 have e:bs[i]?=some bs[i]:=Zf hb;exact⟨_,e,ZI (by rw[Zc,e];rfl),R.2.2 i _ e⟩
theorem TupsAt.ref {H:Hp}{L:Addr}{bs:TW}{yss:T9}(R:TupsAt H L bs yss){i:Nat}{y:V}(h:(bs.map V.ref)[i]?=some y):∃b,y=.ref b/\i<yss.length/\H b=some (.tup ((yss.getD i []).map nV)):=by
 rw[Zc] at h;cases e:bs[i]? with
 |none=>rw[e] at h;cases h
 |some b=>
  rw[e] at h;refine⟨b,(aA h).symm,?_,R.2.2 i b e⟩;rw[<-R.2.1];exact (ae.mp e).1
theorem getL {yss:T9}{i:Nat}(h:i<yss.length):yss[i]?=some (yss.getD i []):=by
 rw[Zb,Zf h];rfl
theorem ZbK {yss:T9}{i:Nat}(h:i<yss.length):yss.getD i []∈yss:=aB (getL h)
theorem Zl2 {xs:T7}{i:Nat}(h:i<xs.length):Vx (xs.map nV) (i:Int)=some (nV (xs.getD i 0)):=ZI (by rw[Zc,Zf h,Zb,Zf h];rfl)
def Zc3:T9->Hp->(TV->Hp->Prop)->Prop
 | [],H,Q=>Q [] H
 |x::r,H,Q=>iTu (λv j=>Zc3 r j λq J=>Q (v::q) J) (x.map nV) H
theorem Xe:∀(j:T9) (H:Hp) (Q:TV->Hp->Prop),(∀x∈j,x.length<=1000)->
  (∀(bs:TW) (J:Hp),Zv H J->bs.length=j.length->(∀(i:Nat) b,bs[i]?=some b->J b=some (.tup ((j.getD i []).map nV)))->Q (bs.map V.ref) J)->Zc3 j H Q
 | [],H,Q,_,q=>q [] H (Zv.refl _) rfl λi b hb=>by cases hb
 |x::r,H,Q,O,q=>by
  have sz:=JE;refine⟨?_,λp hp=>Xe r _ _ (λy hy=>O y (ao _ hy)) λbs J Y hb hi=>?_⟩
  ·have:=O x ar
   rw[Za];omega
  ·refine q (p::bs) J ((Zv.upd hp).trans Y) (by rw[Zi,Zi,hb]) λi b M=>?_
   cases i with
   |zero=>
    cases M;exact Y _ _ Zu
   |succ i=>exact hi i b M
def Ziw:Y4->Hp->(TV->Hp->Prop)->Prop
 | [],H,Q=>Q [] H
 |j::r,H,Q=>Zc3 j H (iLs λv q=>Ziw r q λJ M=>Q (v::J) M)
theorem V1:∀(j:Y4) (H:Hp) (Q:TV->Hp->Prop),(∀J∈j,J.length<=1000/\∀x∈J,x.length<=1000)->
  (∀(ls:TW) (M:Hp),Zv H M->ls.length=j.length->(∀(i:Nat) l,ls[i]?=some l->H l=none/\∃bs,TupsAt M l bs (j.getD i []))->Q (ls.map V.ref) M)->Ziw j H Q
 | [],H,Q,_,q=>q [] H (Zv.refl _) rfl λi b hb=>by cases hb
 |J::r,H,Q,hl,q=>by
  have sz:=JE;obtain⟨h1,h2⟩:=hl J ar;refine Xe J H _ h2 λbs H1 s1 hb hi=>⟨by rw[Za];omega,λp Y=>V1 r _ _ (λy hy=>hl y (ao _ hy)) λls M s' m5 m6=>?_⟩;have s2:=s1.trans (Zv.upd (o:=.lst (bs.map V.ref)) Y);refine q (p::ls) M (s2.trans s') (by rw[Zi,Zi,m5]) λi l O=>?_;cases i with
  |zero=>
   cases O;refine⟨s1.free Y,bs,TupsAt.mono s' ⟨Zu,hb,λi b m8=>?_⟩⟩;exact Zv.upd (o:=.lst (bs.map V.ref)) Y _ _ (hi i b m8)
  |succ i=>
   obtain⟨h3,h4⟩:=m6 i l O;exact⟨s2.free h3,h4⟩
section
variable {X:Cx}
def teT (x:T7):TE:=λ_ H Q=>iTu Q (x.map nV) H
theorem Zkp (x:T7){j:List Expr}{t:TA}{q}{pos:Pos}(h:PA X j t)(e:t=λ_ H Q=>Q (x.map nV) H):PE X (.Tuple j q pos) (teT x):=by
 subst e;exact XW h
def taN (j:T9):TA:=λ_ H Q=>Zc3 j H Q
theorem Zku:PA X [] (taN []):=Zt
theorem pan {e:Expr}{q:List Expr}{x:T7}{j:T9}(h:PE X e (teT x))(r:PA X q (taN j))(J:Wv e=true:=by rfl):PA X (e::q) (taN (x::j)):=pc h r J
def teL (j:T9):TE:=λ_ H Q=>Zc3 j H (iLs Q)
theorem Zkq {q:List Expr}{j:T9}{pos:Pos}(h:PA X q (taN j)):PE X (.List q pos) (teL j):=ZR h
def taL (j:Y4):TA:=λ_ H Q=>Ziw j H Q
theorem Zkv:PA X [] (taL []):=Zt
theorem pal {e:Expr}{J:List Expr}{q:T9}{j:Y4}(h:PE X e (teL q))(r:PA X J (taL j))(M:Wv e=true:=by rfl):PA X (e::J) (taL (q::j)):=pc h r M
structure QE (X:Cx)(e:Expr)(t:TE):Prop where
 h:PE X e t
structure QA (X:Cx)(es:List Expr)(t:TA):Prop where
 h:PA X es t
structure QS (X:Cx)(st:Stmt)(t:TS):Prop where
 h:PS X st t
structure QSs (X:Cx)(sts:List Stmt)(t:TS):Prop where
 h:PSs X sts t
theorem qi {i:Int}{j}{pos:Pos}:QE X (.Constant (.int i) j pos) (tC (.int i)):=⟨Zx⟩
theorem ZU:QA X [] Zha:=⟨Zt⟩
theorem qa {e:Expr}{j:List Expr}{q:TE}{t:TA}(h:QE X e q)(r:QA X j t)(J:Wv e=true:=by rfl):QA X (e::j) (Ul q t):=⟨pc h.h r.h J⟩
theorem Yi (x:T7){j:List Expr}{t:TA}{q}{pos:Pos}(h:QA X j t)(e:t=λ_ H Q=>Q (x.map nV) H):QE X (.Tuple j q pos) (teT x):=⟨Zkp x h.h e⟩
theorem Jj:QA X [] (taN []):=⟨Zku⟩
theorem J8 {e:Expr}{q:List Expr}{x:T7}{j:T9}(h:QE X e (teT x))(r:QA X q (taN j))(J:Wv e=true:=by rfl):QA X (e::q) (taN (x::j)):=⟨pan h.h r.h J⟩
theorem VX {q:List Expr}{j:T9}{pos:Pos}(h:QA X q (taN j)):QE X (.List q pos) (teL j):=⟨Zkq h.h⟩
theorem Zkg:QA X [] (taL []):=⟨Zkv⟩
theorem qal {e:Expr}{J:List Expr}{q:T9}{j:Y4}(h:QE X e (teL q))(r:QA X J (taL j))(M:Wv e=true:=by rfl):QA X (e::J) (taL (q::j)):=⟨pal h.h r.h M⟩
theorem Zqz {j:List Expr}{t:TA}{pos:Pos}(h:QA X j t):QE X (.List j pos) (ZmA t):=⟨ZR h.h⟩
theorem ZcR (i:Nat){x:Str}{e:Expr}{q:TE}{pos j:Pos}(J:X.fn x=true)(M:QE X e q)(O:X.N[i]?=some x:=by rfl)(Y:Jq X.N=true:=by kernel_rfl)(hx:ZaP X.env.scope x=true:=by kernel_rfl)
  (hs:swapsWith e (some (.Name x j)) pos.line X.env=pure false:=by rfl):QS X (.Assign [.Name x j] e pos) (ZdI q (Yj i)):=⟨ZH i J M.h O Y hx hs⟩
theorem J9 {st:Stmt}{rest:List Stmt}{t u:TS}(j:QS X st t)(q:QSs X rest u):QSs X (st::rest) (Zmz t u):=⟨Zs j.h q.h⟩
theorem Vl {j:TE}{g:TG}{u:TS}{D:WT}{σ:L2.St}{H:Hp}(h:j σ H λx q=>g x σ q (u D)):Zmz (ZdI j g) u D σ H:=h
theorem Zhb (j:Y4){σ:L2.St}{H:Hp}{Q:VK}(O:∀M∈j,M.length<=1000/\∀x∈M,x.length<=1000)(hk:j.length<=1000)
  (q:∀(ls:TW) (J:Hp),Zv H J->ls.length=j.length->(∀(i:Nat) l,ls[i]?=some l->H l=none/\∃bs,TupsAt J l bs (j.getD i []))->∀S,J S=none->Q (.ref S) (upd J S (.lst (ls.map V.ref)))):ZmA (taL j) σ H Q:=by
 have sz:=JE;exact V1 j H _ O λls J Y h1 h2=>⟨by rw[Za];omega,q ls J Y h1 h2⟩
theorem JZ (j:T9){σ:L2.St}{H:Hp}{Q:VK}(M:∀x∈j,x.length<=1000)(hk:j.length<=1000)
  (q:∀(bs:TW) (J:Hp),Zv H J->bs.length=j.length->(∀(i:Nat) b,bs[i]?=some b->J b=some (.tup ((j.getD i []).map nV)))->∀S,J S=none->Q (.ref S) (upd J S (.lst (bs.map V.ref)))):teL j σ H Q:=by
 have sz:=JE;exact Xe j H _ M λbs J O Y h2=>⟨by rw[Za];omega,q bs J O Y h2⟩
end
def CT (H:Hp)(c:Addr)(j:T9):Prop:=∃rs:TW,H c=some (.tup (rs.map V.ref))/\rs.length=j.length/\∀(i:Nat) r,rs[i]?=some r->H r=some (.tup ((j.getD i []).map nV))
theorem CT.mono {H q:Hp}{c:Addr}{j:T9}(s:Zv H q)(h:CT H c j):CT q c j:=by
 obtain⟨J,M,O,Y⟩:=h;exact⟨J,s _ _ M,O,λi r hr=>s _ _ (Y i r hr)⟩
def Yl (n:Nat)(f:Nat->Nat):T7:=(ac n).map f
theorem UB (n:Nat)(f:Nat->Nat):(Yl n f).length=n:=by unfold Yl;rw[Za,Zg]
theorem ZcM {n a k:Nat}(f:Nat->Nat)(j:a<n):((Yl n f).map nV).set a (nV k)=(Yl n λb=>if b=a then k else f b).map nV:=by
 unfold Yl;refine a7 λi=>?_;rw[i7];by_cases q:i<n
 ·by_cases e:a=i
  ·subst e
   rw[if_pos rfl,if_pos (by rw[Za,Za,Zg];exact j),Zc,Zc,aj j];show some (nV k)=some (nV (if a=a then k else f a))
   rw[if_pos rfl]
  ·rw[if_neg e,Zc,Zc,aj q,Zc,Zc,aj q]
   show some (nV (f i))=some (nV (if i=a then k else f i))
   rw[if_neg (λz=>e z.symm)]
 ·have J:a≠i:=by omega
  rw[if_neg J,ak (by rw[Za,Za,Zg];omega),ak (by rw[Za,Za,Zg];omega)]
theorem Wu {n:Nat}{f g:Nat->Nat}(h:∀a,a<n->f a=g a):Yl n f=Yl n g:=aW λa j=>h a (af.mp j)
theorem CT.row {H:Hp}{c:Addr}{j:T9}(h:CT H c j):∃q:TW,H c=some (.tup (q.map V.ref))/\q.length=j.length/\∀(i:Nat) y,(q.map V.ref)[i]?=some y->∃r,y=.ref r/\i<j.length/\H r=some (.tup ((j.getD i []).map nV)):=by
 obtain⟨q,Y,O,h3⟩:=h;refine⟨q,Y,O,λi y J=>?_⟩;rw[Zc] at J;cases M:q[i]? with
 |none=>rw[M] at J;cases J
 |some r=>
  rw[M] at J;cases J;exact⟨r,rfl,by rw[<-O];exact (ae.mp M).1,h3 i r M⟩
theorem ZeW {j:T9}{k:Nat}(q:k<j.length):j.getD k []∈j:=by
 rw[Zb,Zf q];exact bn q
theorem Zbv {n:Nat}{f:Nat->Nat}{a:Nat}(j:a<n):Vx ((Yl n f).map nV) (a:Int)=some (.int (f a:Nat)):=ZI (by
 unfold Yl;rw[Zc,Zc,aj j];rfl)
theorem tupK {X:Cx}(K:aa)(j:X.K=K:=by rfl):YV X (.type "tuple") (_root_.L2.I_call_tuple_of K):=j▸ZY
theorem ZcP {m i:Nat}{a:Nat->Addr}(j:i<m):Vx ((ac m).map λi=>V.ref (a i)) (i:Int)=some (.ref (a i)):=ZI (by rw[Zc,aj j];rfl)
theorem ZcO {m i:Nat}{a:Nat->Addr}{y:V}(h:((ac m).map λi=>V.ref (a i))[i]?=some y):i<m/\y=.ref (a i):=by
 have j:i<m:=by
  have:=(ae.mp h).1;rw[Za,Zg] at this;exact this
 rw[Zc,aj j] at h;exact⟨j,(aA h).symm⟩
theorem Ziy {m i:Nat}{f:Nat->Nat}(j:i<m):((Yl m f).map nV)[i]?=some (.int (f i:Nat)):=by
 unfold Yl;rw[Zc,Zc,aj j];rfl
theorem ZmM (m:Nat):(Y3 0 m).map V.int=(ac m).map nV:=by
 unfold Y3;rw[aH];refine aW λi _=>?_;show V.int (0+(i:Int))=nV i;rw[cq];rfl
theorem Vm {m i:Nat}{y:V}(h:((Y3 0 m).map V.int)[i]?=some y):i<m/\y=.int (i:Nat):=by
 rw[ZmM] at h;have j:i<m:=by
  have:=(ae.mp h).1;rw[Za,Zg] at this;exact this
 rw[Zc,aj j] at h;exact⟨j,(aA h).symm⟩
end Pm
namespace C47
open PySem L2 PySem.Spec PyProof.Rows
open Tb Pm
noncomputable def top (i:Nat):Stmt:=PySem.Challenge.pw_classtab_k47_whole_upright.main.body.getD i (.Pass ⟨0,0,0,0⟩)
noncomputable abbrev ZlV:Stmt:=top 31
noncomputable abbrev ZhG:Stmt:=top 32
structure BlB (mg:TX):Prop where
 list:mg "list"=none
 len:mg "len"=none
 range:mg "range"=none
 tuple:mg "tuple"=none
 sorted:mg "sorted"=none
theorem neC {X:Cx}(K:aa)(j:X.A.units+64<cLine)(q:X.K=K:=by rfl):XR X (compareOp .NotEq) (_root_.L2.I_op_neD K):=q▸Zm6 j
def fdK (q:Addr)(a l:Int):List (YQ×V):=[(.inr "cells",.ref q),(.inr "at",.int a),(.inr "left",.int l)]
def WL (H:Hp)(p q:Addr)(b:Nat):Prop:=∃(j:TZ) (a l:Int),H p=some (.dK (fdK q a l))/\H q=some (.lst (j.map V.int))/\j.length<=63/\0<=l/\0<=a/\a<=b
theorem WL.mono {H j:Hp}{p q:Addr}{b:Nat}(s:Zv H j)(h:WL H p q b):WL j p q b:=by
 obtain⟨J,a,l,M,O,Y⟩:=h;exact⟨J,a,l,s _ _ M,s _ _ O,Y⟩
theorem WL.le {H:Hp}{p q:Addr}{b j:Nat}(h:WL H p q b)(hb:b<=j):WL H p q j:=by
 obtain⟨J,a,l,M,O,Y,h4,h5,h6⟩:=h;exact⟨J,a,l,M,O,Y,h4,h5,by omega⟩
theorem Zlh {H:Hp}{p q:Addr}{a l:Int}(h:H p=some (.dK (fdK q a l))):Ji H p (.str "cells") (some (.ref q)):=Ji.k (k:=.inr "cells") h
theorem ZqP {H:Hp}{p q:Addr}{a l:Int}(h:H p=some (.dK (fdK q a l))):Ji H p (.str "at") (some (.int a)):=Ji.k (k:=.inr "at") h
theorem Zem {H:Hp}{p q:Addr}{a l:Int}(h:H p=some (.dK (fdK q a l))):Ji H p (.str "left") (some (.int l)):=Ji.k (k:=.inr "left") h
theorem ZqD {H:Hp}{p q:Addr}{a l j:Int}(h:H p=some (.dK (fdK q a l))):VW H p (.str "at") (.int j) (upd H p (.dK (fdK q j l))):=VW.k (k:=.inr "at") h (by rw[fV];show 3<_;omega)
theorem Zic {H:Hp}{p q:Addr}{a l j:Int}(h:H p=some (.dK (fdK q a l))):VW H p (.str "left") (.int j) (upd H p (.dK (fdK q a j))):=VW.k (k:=.inr "left") h (by rw[fV];show 3<_;omega)
def Tk (p:Addr)(H j:Hp):Prop:=∀b o,H b=some o->b≠p->j b=some o
theorem Tk.of {p:Addr}{H j:Hp}(s:Zv H j):Tk p H j:=λb o e _=>s b o e
theorem Tk.trans {p:Addr}{H j q:Hp}(a:Tk p H j)(b:Tk p j q):Tk p H q:=λc o e n=>b c o (a c o e n) n
theorem WL.ne {H:Hp}{p q a:Addr}{b:Nat}{o:HO}(h:WL H p q b)(e:H a=some o)(J:∀j,o≠.dK j):a≠p:=λz=>by
 obtain⟨O,c,l,M,_⟩:=h;rw[z,M] at e;exact J _ (aA e).symm
theorem WL.neN {H:Hp}{p q a:Addr}{b:Nat}(h:WL H p q b)(e:H a=none):a≠p/\a≠q:=by
 obtain⟨M,c,l,j,J,_⟩:=h;exact⟨λz=>(by rw[z,j] at e;cases e),λz=>(by rw[z,J] at e;cases e)⟩
theorem WL.put {H:Hp}{p q L:Addr}{b:Nat}{o:HO}(h:WL H p q b)(j:L≠p)(J:L≠q):WL (upd H L o) p q b:=by
 obtain⟨M,c,l,O,Y,h3⟩:=h;exact⟨M,c,l,by rw[Zz (bd j)];exact O,by rw[Zz (bd J)];exact Y,h3⟩
theorem Tk.tup {p q a:Addr}{H j:Hp}{b:Nat}{xs:TV}(d:Tk p H j)(T:WL H p q b)(h:H a=some (.tup xs)):j a=some (.tup xs):=d a _ h (T.ne h λ_ z=>by cases z)
theorem Tk.lst {p q a:Addr}{H j:Hp}{b:Nat}{xs:TV}(d:Tk p H j)(T:WL H p q b)(h:H a=some (.lst xs)):j a=some (.lst xs):=d a _ h (T.ne h λ_ z=>by cases z)
theorem GT.tk {H j:Hp}{p q g:Addr}{b:Nat}{t:T9}(T:WL H p q b)(d:Tk p H j)(G:GT H g t):GT j g t:=by
 obtain⟨M,O,Y,h3⟩:=G;refine⟨M,d.tup T O,Y,λi r hr=>?_⟩;obtain⟨o,J,e2⟩:=h3 i r hr;exact⟨o,d _ _ J (T.ne J λ_ z=>by cases z),e2⟩
theorem Zht (ns:TZ):iV (.list (ns.map aV))=true:=by
 unfold iV;have j:im (.list (ns.map aV))=true:=X9 ns;have q:dO (.list (ns.map aV))<=60:=ZaT ns;simp only[j,Bool.true_and,j4,decide_eq_true_eq];omega
inductive ZdT (K:aa) (vs:TV) (H:Hp) (Q:VK) (E03:XK):Prop
 |mk (a:Addr) (ns:TZ):(vs=[.ref a])->(Ws K H a (ns.map V.int))->(∀p q H',Zv H H'->H p=none->WL H' p q 0->Q (.ref p) H')->ZdT K vs H Q E03
inductive Uw (vs:TV) (H:Hp) (Q:VK) (E03:XK):Prop
 |mk (p q:Addr) (m:Int) (b:Nat):(vs=[.ref p,.int m])->(WL H p q b)->(b<2 ^ 60)->(0<m)->(m<1073741824)->(∀r H',0<=r->r<m->Tk p H H'->WL H' p q (b+1)->Q (.int r) H')->Uw vs H Q E03
theorem Zja (ns:TZ)(lo hi:Option Int):∃j:TZ,Zdo (ns.map V.int) lo hi=j.map V.int/\(∀k:Nat,hi=some (k:Int)->j.length<=k):=by
 refine⟨(ns.drop (HT.sIx ns.length 0 lo)).take (HT.sIx ns.length ns.length hi-HT.sIx ns.length 0 lo),?_,λk e=>?_⟩
 ·unfold Zdo;rw[Za,List.map_take,List.map_drop]
 ·subst e
  rw[bI,HT.ZeS];omega
section
variable {P:Program}{w:World}{K:aa}{mg:TX}{base:Heap}
theorem ZkN {f:Addr}{fd:FuncData}(F:WA K "_law_feed" "_law_feed" ZlV f fd)(T:BlB mg):Z8 P w K mg base Yd 1 f fd ["_law_script"] (ZdT K):=by
 refine F.ok (FS (N:=["_law_script"])) (λvs H Q E h=>?_) (λn6 A m5 s H vs Q E hr h=>?_)
 ·obtain⟨a,ns,rfl,_⟩:=h;rfl
 ·obtain⟨a,ns,rfl,hS,k⟩:=h
  refine⟨_,Zw (ZK (Zkr (UE W5 (ct JQ T.list (pc (ZcU ZeN (vn 0) Ze9 (Ze8 Zx)) Zt)) (UE W5 Zx (UE W5 Zx Zkl))) rfl rfl (by simp) (by decide))),?_⟩;intro p np;obtain⟨J,e,hl⟩:=Zja ns none (some 63);have s0:=Zv.upd (H:=H) (o:=.dK []) np;refine⟨_,rfl,_,rfl,a,_,rfl,s0.seq hS,λp1 h1=>⟨p1,_,rfl,.inl (.of Zu),λq Y=>?_⟩⟩;rw[e] at Y ⊢;have O:upd H p (.dK []) p=some (.dK []):=Zu;generalize upd H p (.dK [])=H1 at s0 h1 Y O ⊢;have s1:=Zv.upd (H:=H1) (o:=.lst (J.map V.int)) h1;generalize upd H1 p1 (.lst (J.map V.int))=H2 at s1 Y ⊢;have s2:=Zv.upd (H:=H2) (o:=.lst (J.map V.int)) Y;have j:upd H2 q (.lst (J.map V.int)) q=some (.lst (J.map V.int)):=Zu;have M:=s2 _ _ (s1 _ _ O);generalize upd H2 q (.lst (J.map V.int))=H3 at s2 j M ⊢;have m6:q≠p:=λz=>by rw[z,M] at j;cases j
  refine⟨M,fdK q 0 0,rfl,(by show 3<=15;decide),?_⟩;refine k p q _ (λb o hb=>?_) np ⟨J,0,0,Zu,by rw[Zz m6];exact j,hl 63 rfl,by decide,by decide,by decide⟩;have m8:b≠p:=λz=>by rw[z,np] at hb;cases hb
  rw[Zz m8];exact s2 _ _ (s1 _ _ (s0 _ _ hb))
theorem ZkO {f:Addr}{fd:FuncData}(F:WA K "_law_draw" "_law_draw" ZhG f fd)(T:BlB mg):Z8 P w K mg base Yd 1 f fd ["_law_feed_here", "_law_many"] Uw:=by
 refine F.ok (FS (N:=["_law_feed_here", "_law_many", "_law_found", "_law_at", "_law_cells", "_law_cell", "_law_number"])) (λvs H Q E h=>?_) (λn8 A n9 s H vs Q E hr h=>?_)
 ·obtain⟨p,q,m,b,rfl,_⟩:=h;rfl
 ·obtain⟨p,q,m,b,rfl,⟨M,a,l,h1,h2,O,l0,a0,ab⟩,hb,m0,m1,k⟩:=h
  have Y:(A.deeper (envOfC "_law_draw" (Z1 ZhG) s.heap.objs.size f n8)).units+1<cLine:=by have:=hr.un;omega
  refine⟨_,Zs (WN (ZP Zid (Ww Y (vn 0) W5 (λ_ _=>rfl)) Zx (ZW _)) (Zs (ZH 2 rfl (Zy ZV (Ww Y (vn 0) W5 (λ_ _=>rfl)) (vn 1)))
   (Zs (Xu Y (vn 0) W5 (Zy Wn (Ww Y (vn 0) W5 (λ_ _=>rfl)) (vn 1)) (by rfl))
   (Zw (ZK (vn 2))))) YF)
   (Zs (ZH 3 rfl (Ww Y (vn 0) W5 (λ_ _=>rfl)))
   (Zs (Xu Y (vn 0) W5 (Zy Ym (vn 3) Zx) (by rfl))
   (Zs (ZH 4 rfl (Ww Y (vn 0) W5 (λ_ _=>rfl)))
   (Zs (ZH 5 rfl (Zh8 (ZP (neC K hr.units) (vn 4) (ZR Zt) (ZW _)) (ZD (Jb K) (vn 4) (Zy ZV (vn 3) (cb (Yt K) T.len (pc (vn 4) Zt))) (λ_ _=>rfl)) (Zy ZS (vn 3) (vn 3))))
   (Zs (WN (Zh3 (ZP ZoY (vn 5) (Zy Zm5 Zx Zx) (ZW _)) (Ze7 (ZP Zfc (vn 3) (cb (Yt K) T.len (pc (vn 4) Zt)) (ZW _)))).pt (Zs (Xu Y (vn 0) W5 (Zy Wn (vn 5) (vn 1)) (by rfl))
   (Zw (ZK (Zy ZV (vn 5) (vn 1))))) YF)
   (Zs (ZH 6 rfl (Zy ZV (Zy ZS (Zy Ym (Zy ZV (vn 5) Zx) Zx) (Zy Ym Zx (Zy ZS Zx (vn 3)))) Zx))
   (Zw (ZK (Zy ZV (Zy Wn (Zy ZV (Zy Ym (Zy ZS (vn 6) Zx) (Zy ZS (Zy ZS (vn 3) (vn 3)) Zx)) Zx) Zx) (vn 1)))))))))),?_⟩
  have m5:q≠p:=λz=>by rw[z,h1] at h2;cases h2
  refine⟨_,rfl,p,_,rfl,Zem h1,_,_,rfl,rfl,_,rfl,?_⟩;refine YE (λh=>?_) (λh=>?_)
  ·refine⟨_,rfl,p,_,rfl,Zem h1,_,rfl,_,_,rfl,rfl,m0,?_⟩
   refine⟨_,rfl,p,_,rfl,Zem h1,_,rfl,_,_,rfl,rfl,⟨m0,m1⟩,_,rfl,p,_,rfl,Zic h1,?_⟩;exact⟨_,rfl,k _ _ (bX _ (by omega)) (bO _ m0) (λb o e hb=>by rw[Zz hb];exact e) ⟨M,a,l / m,Zu,by rw[Zz m5];exact h2,O,jH l0 (by omega),a0,by omega⟩⟩
  ·refine⟨_,rfl,p,_,rfl,ZqP h1,?_⟩
   refine⟨_,rfl,_,_,rfl,rfl,_,rfl,p,_,rfl,ZqD h1,?_⟩;have h3:upd H p (.dK (fdK q (a+1) l)) p=some (.dK (fdK q (a+1) l)):=Zu;have m6:upd H p (.dK (fdK q (a+1) l)) q=some (.lst (M.map V.int)):=by rw[Zz m5];exact h2
   have k3:Tk p H (upd H p (.dK (fdK q (a+1) l))):=λb o e hb=>by rw[Zz hb];exact e
   generalize upd H p (.dK (fdK q (a+1) l))=H3 at h3 m6 k3 ⊢;refine⟨_,rfl,p,_,rfl,Zlh h3,?_⟩;refine⟨_,rfl,JF,λe0 o0=>?_⟩;have s4:=Zv.upd (H:=H3) (o:=.lst []) o0;have k4:=k3.trans (Tk.of s4);have h4:=s4 _ _ h3;have J:=s4 _ _ m6;have m8:upd H3 e0 (.lst []) e0=some (.lst []):=Zu;generalize upd H3 e0 (.lst [])=H4 at s4 k4 h4 J m8 ⊢;refine⟨_,_,.lst (.of J) (WH.ints M),.lst (.of m8) .nil,Zht M,rfl,_,rfl,?_⟩;have len:(M.map V.int).length=M.length:=fN ..;have T4:∀l',0<=l'->WL (upd H4 p (.dK (fdK q (a+1) l'))) p q (b+1):=λl' o7=>⟨M,a+1,l',Zu,by rw[Zz m5];exact J,O,o7,by omega,by omega⟩;refine YE (λn6=>?ca) (λn6=>?cb)
   case' ca=>
    have hn:(0:Int)<M.length:=by
     cases M with
     |nil=>exact absurd n6 (by decide)
     |cons x r=>simp only[Zi];omega
    have r0:=bX a (show (M.length:Int)≠0 by omega);have r1:=bO a hn;obtain⟨j,ej⟩:=cw r0;have hj:j<M.length:=by omega
    refine⟨_,rfl,_,rfl,_,rfl,q,_,rfl,.inl (.of J),?_⟩;rw[len];refine⟨_,_,rfl,rfl,hn,?_⟩
    try dsimp only
    rw[ej];refine⟨q,_,_,_,rfl,rfl,.of J,ZI (j:=j) (by rw[Zc,Zf hj];rfl),?_⟩;generalize M[j]=c
   case' cb=>
    refine⟨_,rfl,_,rfl,_,_,rfl,rfl,.inr ⟨by omega,by omega⟩,?_⟩
    try dsimp only
    generalize a*a=c
   all_goals
    refine⟨_,rfl,_,_,rfl,rfl,⟨by decide,by decide,by decide⟩,_,_,rfl,rfl,_,rfl,?_⟩;refine YE (λhA=>?_) (λhA=>?_)
    ·refine⟨_,rfl,_,rfl,q,_,rfl,.inl (.of J),?_⟩
     rw[len];refine⟨_,_,rfl,rfl,_,rfl,?_⟩;refine YE (λhB=>?_) (λhB=>?_)
     ·have hc:0<=c:=by
       have:=of_decide_eq_true hA;have o8:(10:Int) ^ (18:Int).toNat=1000000000000000000:=by decide
       omega
      refine⟨_,rfl,_,rfl,_,_,rfl,rfl,⟨m0,m1⟩,_,rfl,p,_,rfl,Zic h4,?_⟩;refine⟨_,rfl,_,rfl,_,_,rfl,rfl,m0,?_⟩;exact k _ _ (bX _ (by omega)) (bO _ m0) (k4.trans λb o e hb=>by rw[Zz hb];exact e) (T4 _ (jH hc (by omega)))
     ·refine⟨_,rfl,_,_,rfl,rfl,(by show (0:Int)<_;decide),_,_,rfl,rfl,_,rfl,_,_,rfl,rfl,.inl ⟨by decide,by decide⟩,_,_,rfl,rfl,_,_,rfl,rfl,.inl ⟨by have:=bX c (show (2147483629:Int)≠0 by decide);omega,by have:=bO c (show (0:Int)<2147483629 by decide);omega⟩,_,_,rfl,rfl,(by show (0:Int)<_;decide),?_⟩
      refine⟨_,rfl,_,_,rfl,rfl,.inr ⟨by decide,by decide⟩,_,rfl,_,rfl,_,_,rfl,rfl,.inr ⟨by omega,by omega⟩,_,_,rfl,rfl,.inr ⟨by decide,by decide⟩,_,_,rfl,rfl,_,_,rfl,rfl,(by show (0:Int)<_;decide),_,_,rfl,rfl,⟨by decide,by decide⟩,_,rfl,_,_,rfl,rfl,m0,?_⟩;exact k _ _ (bX _ (by omega)) (bO _ m0) k4 ⟨M,a+1,l,h4,J,O,l0,by omega,by omega⟩
    ·refine⟨_,rfl,_,_,rfl,rfl,(by show (0:Int)<_;decide),_,_,rfl,rfl,_,rfl,_,_,rfl,rfl,.inl ⟨by decide,by decide⟩,_,_,rfl,rfl,_,_,rfl,rfl,.inl ⟨by have:=bX c (show (2147483629:Int)≠0 by decide);omega,by have:=bO c (show (0:Int)<2147483629 by decide);omega⟩,_,_,rfl,rfl,(by show (0:Int)<_;decide),?_⟩
     refine⟨_,rfl,_,_,rfl,rfl,.inr ⟨by decide,by decide⟩,_,rfl,_,rfl,_,_,rfl,rfl,.inr ⟨by omega,by omega⟩,_,_,rfl,rfl,.inr ⟨by decide,by decide⟩,_,_,rfl,rfl,_,_,rfl,rfl,(by show (0:Int)<_;decide),_,_,rfl,rfl,⟨by decide,by decide⟩,_,rfl,_,_,rfl,rfl,m0,?_⟩;exact k _ _ (bX _ (by omega)) (bO _ m0) k4 ⟨M,a+1,l,h4,J,O,l0,by omega,by omega⟩
end
end C47
namespace Pm
open PySem L2 PySem.Spec PyProof.Rows
open Tb
theorem Y8 {W:Type}(m8:W->Addr)(Pr:Nat->W->Hp->Prop)(Y:W->Hp->Prop){J:It}{own:List Str}{m6:T7}{te:TE}{σ:L2.St}{H:Hp}{Q:VK}{xs:TV}(S:WG J H xs)(cs:L2.St)(n9:JX own m6 σ=none::cs)(hn:xs.length<=1000)
  (mono:∀i w H q,Zv H q->Pr i w H->Pr i w q) (n8:∀w H q,Zv H q->Y w q->Y w H) (hu:∀i w H0 H1 D o ys o0,Pr i w H1->Y w H0->H0 D=some (.lst o)->H1 D=some (.lst ys)->Pr i w (upd H1 D (.lst o0)))
  (hs:∀(i:Nat) y,xs[i]?=some y->∀q,Zv H q->∀R:VK,(∀w H5,Zv q H5->Pr i w H5->Y w q->R (.ref (m8 w)) H5)->te (some y::cs) q R)
  (hd:∀D (M:List W) q,H D=none->Zv H q->q D=some (.lst (M.map λw=>V.ref (m8 w)))->M.length=xs.length->(∀(i:Nat) w,M[i]?=some w->Pr i w q/\Y w H)->(∀(i j:Nat) w w',i<j->M[i]?=some w->M[j]?=some w'->∃Hm,Pr i w Hm/\Y w' Hm)->Q (.ref D) q):Jh own m6 (Yj 0) WM te σ Q J H:=by
 refine U1 (xs:=xs) (λD i ys q=>Zv H q/\∃M:List W,ys=M.map (λw=>V.ref (m8 w))/\M.length=i/\(∀(i:Nat) w,M[i]?=some w->Pr i w q/\Y w H/\∃H0 o,H0 D=some (.lst o)/\Y w H0)/\(∀(i j:Nat) w w',i<j->M[i]?=some w->M[j]?=some w'->∃Hm,Pr i w Hm/\Y w' Hm)) cs n9 (by omega) ?_ ?_ ?_ ?_
 ·intro D i ys q hD O p
  have S':=S.mono p.1;exact⟨λhi=>⟨S'.go i q (Zv.refl _) hi,λx H3 y=>S'.yld i q x H3 (Zv.refl _) hi y⟩,λe=>e▸S'.stop q (Zv.refl _)⟩
 ·intro D hD
  exact⟨Zv.upd hD,[],rfl,rfl,(λi w hw=>by cases hw),(λi j w w' _ h=>by cases h)⟩
 ·rintro D i y ys q hD O hy ⟨sm,M,rfl,wl,hw,hp⟩ R k
  refine hs i y hy q sm R λw H5 s5 p5 n5=>?_;have n6:=s5 _ _ O;have lst:∀(b:Nat) v,(M++[w])[b]?=some v->(b<M.length/\M[b]?=some v)\/(b=M.length/\v=w):=λb v hb=>by
   by_cases m5:b<M.length
   ·rw[aq m5] at hb
    exact .inl ⟨m5,hb⟩
   ·rw[au (by omega)] at hb
    have o7:b-M.length=0:=by
     apply ai;intro z;rw[ak (by rw[Zk];omega)] at hb;cases hb
    rw[o7] at hb;cases hb;exact .inr ⟨by omega,rfl⟩
  refine k _ H5 n6 ⟨(sm.trans s5).updr hD,M++[w],by rw[aO];rfl,by rw[Zd,wl];rfl,λb v hv=>?_,λa b v v' o8 ha hb=>?_⟩
  ·rcases lst b v hv with ⟨_,hv⟩|⟨hb,hv⟩
   ·obtain⟨h1,h2,H0,o,h3,h4⟩:=hw b v hv
    exact⟨hu b v H0 H5 D o _ _ (mono b v _ _ s5 h1) h4 h3 n6,h2,H0,o,h3,h4⟩
   ·subst hv
    subst hb;rw[<-wl] at p5;exact⟨hu _ v q H5 D _ _ _ p5 n5 O n6,n8 v _ _ sm n5,q,_,O,n5⟩
  ·rcases lst b v' hb with ⟨m5,hb⟩|⟨m5,hb⟩
   ·rw[aq (by omega)] at ha
    exact hp a b v v' o8 ha hb
   ·subst hb
    rw[aq (by omega)] at ha;exact⟨q,(hw a v ha).1,n5⟩
 ·rintro D ys H5 hD O o9 ⟨sm,M,rfl,wl,hw,hp⟩
  exact hd D M H5 hD sm O wl (λi w h=>⟨(hw i w h).1,(hw i w h).2.1⟩) hp
theorem YI {J:It}{own:List Str}{M:T7}{te:TE}{σ:L2.St}{H:Hp}{Q:VK}{xs:TV}(S:WG J H xs)(cs:L2.St)(m5:JX own M σ=none::cs)(F:Nat->V)(hz:xs.length<=1000)
  (hs:∀(i:Nat) y,xs[i]?=some y->∀j,Zv H j->∀R:VK,(∀O,Zv j O->R (F i) O)->te (some y::cs) j R)
  (hd:∀D j,H D=none->Zv H j->j D=some (.lst ((ac xs.length).map F))->Q (.ref D) j):Jh own M (Yj 0) WM te σ Q J H:=by
 refine U1 (xs:=xs) (λD i ys j=>Zv H j/\ys=(ac i).map F) cs m5 (by omega) ?_ ?_ ?_ ?_
 ·intro D i ys j Y q p
  have S':=S.mono p.1;exact⟨λhi=>⟨S'.go i j (Zv.refl _) hi,λx H3 y=>S'.yld i j x H3 (Zv.refl _) hi y⟩,λe=>e▸S'.stop j (Zv.refl _)⟩
 ·intro D Y
  exact⟨Zv.upd Y,rfl⟩
 ·rintro D i y ys j Y q hy ⟨sm,rfl⟩ R k
  refine hs i y hy j sm R λO s5=>k _ O (s5 _ _ q) ⟨(sm.trans s5).updr Y,?_⟩;rw[bG,aO];rfl
 ·rintro D ys O Y q m6 ⟨sm,rfl⟩
  exact hd D O Y sm q
theorem Zg6 {X:Cx}(K:aa)(j:X.K=K:=by rfl):YV X (.type "tuple") (_root_.L2.I_call_tupleZ K):=j▸Zdu
theorem Tz.updL {H:Hp}{a D:Addr}{ys q:TV}{o:HO}(h:Tz H a ys)(J:H D=some (.lst q)):Tz (upd H D o) a ys:=by
 obtain⟨u,j,M⟩:=h;exact⟨u,by rw[Zz (λz=>by rw[z,J] at j;cases j)];exact j,M⟩
def X2 (y:T7):List YQ:=y.map λx:Nat=>hU (x:Int)
theorem ZiG (y:T7):(X2 y).map kV=y.map nV:=by
 unfold X2;rw[aH];rfl
theorem Zdb {a b:T7}(h:X2 a=X2 b):a=b:=by
 unfold X2 at h;refine (f6 (λx y e=>?_)).mp h;injection e with e;omega
section
variable {fd:T9}{os:T7}
theorem ZiZ (J:fd.Nodup){a b:Nat}(j:a<fd.length)(hb:b<fd.length)(h:fd.getD a []=fd.getD b []):a=b:=by
 have q:=getL j;have M:=getL hb;rw[h,<-M] at q;exact (mG j J).mp q
end
end Pm
namespace Tb
def trn (m r:Nat):Nat->Nat
 |0=>1
 |s+1=>trn m r s*r % m
theorem Zg7 {m:Nat}(j:m<=60)(q:1<=m)(r:Nat):∀s,trn m r s<=60
 |0=>by show 1<=60;omega
 |s+1=>by
  have:=bc (trn m r s*r) (show 0<m by omega);rw[trn];omega
def twV (m k r c a b:Nat):Nat:=(a / k+trn m r (a % k)*(b / k)+c*((a % k+b % k) / k)) % m*k+(a % k+b % k) % k
def twT (m k r c:Nat):T9:=(ac (m*k)).map λa=>(ac (m*k)).map λb=>twV m k r c a b
end Tb
namespace C47
open PySem L2 PySem.Spec PyProof.Rows
open Tb Pm
noncomputable abbrev Zhw:Stmt:=top 33
inductive Za9 (vs:TV) (H:Hp) (Q:VK) (E03:XK):Prop
 |mk (m k r c:Nat):(vs=[.int m,.int k,.int r,.int c])->(1<=m)->(1<=k)->(m<=60)->(k<=60)->(m*k<=60)->(r<=60)->(c<=60)->(∀g H',Zv H H'->GT H' g (twT m k r c)->Q (.ref g) H')->Za9 vs H Q E03
theorem Zk5 (f:Nat->V)(s:Nat):Vx ((ac (s+1)).map f) (-1)=some (f s):=by
 rw[bG,aO];exact Zad _ _
section
variable {P:Program}{w:World}{K:aa}{mg:TX}{base:Heap}
theorem Zih {f:Addr}{fd:FuncData}(F:WA K "_law_twisted" "_law_twisted" Zhw f fd)(T:BlB mg):Z8 P w K mg base Yd 1 f fd ["_law_m", "_law_k", "_law_r", "_law_c"] Za9:=by
 refine F.ok (FS (N:=["_law_m", "_law_k", "_law_r", "_law_c", "_law_turns", "_law_s", "_law_rows_here", "_law_a", "_law_i", "_law_line", "_law_b", "_law_t", "_law_first"])) (λvs H Q E h=>?_) (λp7 A p3 s H vs Q E hr h=>?_)
 ·obtain⟨m,k,r,c,rfl,_⟩:=h;rfl
 ·obtain⟨m,k,r,c,rfl,m1,k1,n8,p8,p6,q0,r6,q⟩:=h
  refine⟨_,Zs (ZH 4 rfl (ZR (pc Zx Zt)))
   (Zs (ZN am rfl (WI T.range (pc (vn 1) Zt)) (gn 5)
   (Zw (YG (WC aJ aQ aR Ye (vn 4) (pc (Zy ZV (Zy ZS (ZD (Jb K) (vn 4) (Vo JH Zx) (λ_ _=>rfl)) (vn 2)) (vn 0)) Zt)))))
   (Zs (ZH 6 rfl (ZR Zt))
   (Zs (ZN am rfl (WI T.range (pc (Zy ZS (vn 0) (vn 1)) Zt)) (gn 7)
   (Zs (ZH 8 rfl (Zy Wn (vn 7) (vn 1)))
   (Zs (ZH 5 rfl (Zy ZV (vn 7) (vn 1)))
   (Zs (ZH 9 rfl (ZR Zt))
   (Zs (ZN am rfl (WI T.range (pc (Zy ZS (vn 0) (vn 1)) Zt)) (gn 10)
   (Zs (ZH 11 rfl (Zy Ym (vn 5) (Zy ZV (vn 10) (vn 1))))
   (Zs (ZH 12 rfl (Zy Ym (Zy Ym (vn 8) (Zy ZS (ZD (Jb K) (vn 4) (vn 5) (λ_ _=>rfl)) (Zy Wn (vn 10) (vn 1)))) (Zy ZS (vn 3) (Zy Wn (vn 11) (vn 1)))))
   (Zw (YG (WC aJ aQ aR Ye (vn 9) (pc (Zy Ym (Zy ZS (Zy ZV (vn 12) (vn 0)) (vn 1)) (Zy ZV (vn 11) (vn 1))) Zt)))))))
   (Zw (YG (WC aJ aQ aR Ye (vn 6) (pc (ct (Zg6 K) T.tuple (pc (vn 9) Zt)) Zt)))))))))
   (Zw (ZK (ct ZY T.tuple (pc (vn 6) Zt))))))),?_⟩
  have sz:=JE;refine⟨JF,λLt n9=>?_⟩;have s1:=Zv.upd (H:=H) (o:=.lst [.int 1]) n9;have h1:upd H Lt (.lst [.int 1]) Lt=some (.lst ((ac (0+1)).map λi=>V.int ((trn m r i:Nat):Int))):=Zu;generalize upd H Lt (.lst [.int 1])=H1 at s1 h1 ⊢;refine⟨_,rfl,_,rfl,by omega,by omega,?_⟩;rw[Zj];refine Z0 (λi J H'=>∃v5 v6 v7 v8 v9 M O Y:TU,J=[some (.int (m:Nat)),some (.int (k:Nat)),some (.int (r:Nat)),some (.int (c:Nat)),some (.ref Lt),v5,v6,v7,v8,v9,M,O,Y]/\Zv H H'/\H' Lt=some (.lst ((ac (i+1)).map λi=>V.int ((trn m r i:Nat):Int)))) ⟨_,_,_,_,_,_,_,_,rfl,s1,h1⟩ ?_ ?_
  ·rintro i J H2 hi ⟨v5,v6,v7,v8,v9,M,O,Y,rfl,s2,h2⟩
   have tl:=Zg7 n8 m1 r i;refine⟨_,rfl,.inl ⟨rfl,_,.of h2⟩,_,rfl,_,rfl,Lt,_,_,_,rfl,rfl,.of h2,Zk5 _ i,_,rfl,_,_,rfl,rfl,.inr ⟨by omega,by omega⟩,_,rfl,_,_,rfl,rfl,(by show (0:Int)<(m:Int);omega),Lt,_,_,rfl,rfl,h2,by rw[Za,Zg];omega,?_⟩;refine⟨_,_,_,_,_,_,_,_,rfl,s2.updr n9,?_⟩;rw[Zu,bG (n:=i+1),aO];rfl
  ·rintro J H2 ⟨v5,v6,v7,v8,v9,M,O,Y,rfl,s2,h2⟩
   refine⟨JF,λLr m5=>?_⟩;have s3:=s2.trans (Zv.upd (H:=H2) (o:=.lst []) m5);have h3:upd H2 Lr (.lst []) Lr=some (.lst ([]:TV)):=Zu;have o0:=(Zv.upd (H:=H2) (o:=.lst []) m5) _ _ h2;have o7:H Lr=none:=s2.free m5;have o8:Lt≠Lr:=λz=>by rw[z,m5] at h2;cases h2
   generalize upd H2 Lr (.lst [])=H3 at s3 h3 o0 ⊢;refine⟨_,rfl,_,rfl,_,_,rfl,rfl,.inr ⟨by omega,by omega⟩,_,rfl,?_,?_,?_⟩
   ·rw[<-aG];omega
   ·rw[<-aG];omega
   rw[<-aG,Zj];refine Z0 (λa J H'=>∃(rs:TW) (v5 v7 v8 v9 M O Y:TU),J=[some (.int (m:Nat)),some (.int (k:Nat)),some (.int (r:Nat)),some (.int (c:Nat)),some (.ref Lt),v5,some (.ref Lr),v7,v8,v9,M,O,Y]/\Zv H H'/\H' Lt=some (.lst ((ac (k+1)).map λi=>V.int ((trn m r i:Nat):Int)))/\H' Lr=some (.lst (rs.map V.ref))/\rs.length=a/\∀(i:Nat) x,rs[i]?=some x->Tz H' x (((ac (m*k)).map λb=>twV m k r c i b).map nV)) ⟨[],_,_,_,_,_,_,_,rfl,s3,o0,h3,rfl,λi x h=>by cases h⟩ ?_ ?_
   ·rintro a J H4 ha ⟨rs,v5,v7,v8,v9,M,O,Y,rfl,s4,m8,h4,rl,n6⟩
    rw[show (0:Int)+(a:Int)=(a:Int) by omega];refine⟨_,rfl,_,rfl,_,_,rfl,rfl,⟨by omega,by omega⟩,?_⟩;refine⟨_,rfl,_,rfl,_,_,rfl,rfl,(by show (0:Int)<(k:Int);omega),?_⟩;refine⟨JF,λLn o9=>?_⟩;have s5:=Zv.upd (H:=H4) (o:=.lst []) o9;have h5:upd H4 Ln (.lst []) Ln=some (.lst ((ac 0).map λb=>nV (twV m k r c a b))):=Zu;generalize upd H4 Ln (.lst [])=H5 at s5 h5 ⊢;refine⟨_,rfl,_,rfl,_,_,rfl,rfl,.inr ⟨by omega,by omega⟩,_,rfl,?_,?_,?_⟩
    ·rw[<-aG];omega
    ·rw[<-aG];omega
    rw[<-aG,Zj];have ed:(a:Int) / (k:Int)=((a / k:Nat):Int):=(eL a k).symm;have em:(a:Int) % (k:Int)=((a % k:Nat):Int):=(aX a k).symm;refine Z0 (λb J H'=>∃(M O Y:TU),J=[some (.int (m:Nat)),some (.int (k:Nat)),some (.int (r:Nat)),some (.int (c:Nat)),some (.ref Lt),some (.int ((a % k:Nat):Int)),some (.ref Lr),some (.int (a:Nat)),some (.int ((a / k:Nat):Int)),some (.ref Ln),M,O,Y]/\Zv H4 H'/\H' Ln=some (.lst ((ac b).map λb=>nV (twV m k r c a b)))) ⟨_,_,_,by rw[<-ed,<-em];rfl,s5,h5⟩ ?_ ?_
    ·rintro b J H6 hb ⟨M,O,Y,rfl,s6,h6⟩
     rw[show (0:Int)+(b:Int)=(b:Int) by omega];have r8:a % k<k:=bc _ (by omega);have tl:=Zg7 n8 m1 r (a % k);have bk:b / k<=60:=a8 (fP _ _) (by omega);have tk:(a % k+b % k) / k<=120:=by
      have:=bc b (show 0<k by omega);exact a8 (fP _ _) (by omega)
     refine⟨_,rfl,_,rfl,_,rfl,_,_,rfl,rfl,(by show (0:Int)<(k:Int);omega),_,_,rfl,rfl,?_⟩
     try dsimp only
     rw[<-aX,<-eY];refine⟨_,rfl,_,rfl,_,rfl,Lt,_,_,_,rfl,rfl,.of (s6 _ _ m8),ZI (j:=a % k) (by rw[Zc,aj (by omega)];rfl),_,rfl,_,rfl,_,_,rfl,rfl,⟨by omega,by omega⟩,?_⟩
     try dsimp only
     rw[<-eL];refine⟨_,_,rfl,rfl,.inr ⟨mI (by decide) (dA _),mJ (Int.ofNat_le.mpr bk) (by decide)⟩,_,_,rfl,rfl,_,rfl,_,rfl,_,rfl,_,_,rfl,rfl,⟨by omega,by omega⟩,?_⟩
     try dsimp only
     rw[<-eL];refine⟨_,_,rfl,rfl,.inr ⟨mI (by decide) (dA _),mJ (Int.ofNat_le.mpr tk) (by decide)⟩,_,_,rfl,rfl,?_⟩
     try dsimp only
     rw[<-aG,<-aG,<-eY,<-eY];refine⟨_,rfl,.inl ⟨rfl,_,.of h6⟩,_,rfl,_,rfl,_,_,rfl,rfl,(by show (0:Int)<(m:Int);omega),_,rfl,_,_,rfl,rfl,.inr ⟨by omega,by omega⟩,_,rfl,_,rfl,_,_,rfl,rfl,(by show (0:Int)<(k:Int);omega),_,_,rfl,rfl,Ln,_,_,rfl,rfl,h6,by rw[Za,Zg];omega,?_⟩;refine⟨_,_,_,rfl,s6.updr o9,?_⟩;rw[Zu,bG,aO]
     try dsimp only
     rw[<-aX,<-aG,<-aX,<-eY];rfl
    ·rintro J H6 ⟨M,O,Y,rfl,s6,h6⟩
     have p4:=s6 _ _ h4;refine⟨_,rfl,.inl ⟨rfl,_,.of p4⟩,_,rfl,Ln,_,rfl,.of h6,λl H7 nl s7 hz=>?_⟩;have m6:=s6.trans s7;have h7:=m6 _ _ h4;refine⟨Lr,_,_,rfl,rfl,h7,by rw[Za,rl];omega,?_⟩;have ez:((ac (m*k)).map λb=>nV (twV m k r c a b))=((ac (m*k)).map λb=>twV m k r c a b).map nV:=by rw[aH];rfl
     rw[ez] at hz;refine⟨rs++[l],_,_,_,_,_,_,_,rfl,(s4.trans m6).updr o7,by rw[Zz o8];exact m6 _ _ m8,by rw[Zu,aO];rfl,by rw[Zd,rl];rfl,λi x hx=>?_⟩;by_cases hi:i<rs.length
     ·rw[aq hi] at hx
      exact Tz.updL ((n6 i x hx).mono m6) h7
     ·have hl:=(ae.mp hx).1
      rw[Zd,Zk] at hl;have ei:i=rs.length:=by omega
      rw[au (by omega),ei,cn] at hx;cases hx;rw[ei,rl];exact Tz.updL hz h7
   ·rintro J H4 ⟨rs,v5,v7,v8,v9,M,O,Y,rfl,s4,m8,h4,rl,n6⟩
    refine⟨_,rfl,Lr,_,rfl,.inl ⟨.of h4,λg ng=>?_⟩⟩;have s5:=Zv.upd (H:=H4) (o:=.tup (rs.map V.ref)) ng;refine q g _ (s4.trans s5) ⟨rs,Zu,by unfold twT;rw[Za,Zg,rl],λi x hx=>?_⟩;have hi:i<m*k:=by rw[<-rl];exact (ae.mp hx).1
    have er:(twT m k r c).getD i []=(ac (m*k)).map λb=>twV m k r c i b:=by unfold twT;rw[Zb,Zc,aj hi];rfl
    rw[er];exact (n6 i x hx).mono s5
end
end C47
namespace PyZ
open PySem PyProof PyProof.Rows
def Runs (n:Nat)(cmp:Nat->Nat->Bool){α:Type}:jF α->(α->Prop)->Prop
 | .ret a,Q=>Q a
 | .ask i j k,Q=>i<n/\j<n/\Runs n cmp (k (cmp i j)) Q
theorem Runs.run {n:Nat}{cmp:Nat->Nat->Bool}{α:Type}{Q:α->Prop}:∀{t:jF α},Runs n cmp t Q->∃a,XV n cmp t=some a/\Q a
 | .ret a,h=>⟨a,rfl,h⟩
 | .ask i j k,h=>by
  obtain⟨J,M,O⟩:=h;obtain⟨a,e,q⟩:=O.run;exact⟨a,by rw[XV,if_pos ⟨J,M⟩];exact e,q⟩
theorem Runs.bind {n:Nat}{cmp:Nat->Nat->Bool}{α q:Type}{f:α->jF q}{Q:q->Prop}:∀{t:jF α},Runs n cmp t (λa=>Runs n cmp (f a) Q)->Runs n cmp (t.bind f) Q
 | .ret a,h=>h
 | .ask i j k,h=>⟨h.1,h.2.1,h.2.2.bind⟩
theorem Runs.mono {n:Nat}{cmp:Nat->Nat->Bool}{α:Type}{Q q:α->Prop}(J:∀a,Q a->q a):∀{t:jF α},Runs n cmp t Q->Runs n cmp t q
 | .ret a,h=>J a h
 | .ask i j k,h=>⟨h.1,h.2.1,h.2.2.mono J⟩
section
variable {n:Nat}{rank:Nat->Nat}
noncomputable abbrev WR (rank:Nat->Nat):Nat->Nat->Bool:=λi j=>decide (rank i<rank j)
def RK (rank:Nat->Nat)(p:Array Nat)(i:Nat):Nat:=rank (p.getD i 0)
structure PmO (n:Nat)(p:Array Nat):Prop where
 pm:p.Perm (ac n).toArray
theorem PmO.size {p:Array Nat}(h:PmO n p):p.size=n:=by
 have:=h.pm.size_eq;simpa using this
theorem PmO.lt {p:Array Nat}(h:PmO n p){i:Nat}(hi:i<n):p.getD i 0<n:=by
 have j:=h.size;have q:p.toList.Perm (ac n):=by have:=h.pm;rw[jI] at this;simpa using this
 have e:p.getD i 0=p[i]'(by omega):=by simp[lV,j,hi]
 rw[e];have J:p[i]'(by omega)∈p.toList:=by simp
 exact af.mp (q.mem_iff.mp J)
theorem Xq {p q:Array Nat}{i j:Nat}(h:p[i]?=q[j]?):RK rank p i=RK rank q j:=by
 unfold RK;rw[cz,cz,h]
theorem ZgR {xs:Array Nat}{src d:Nat}(J:src<xs.size)(M:d<=src)(k:Nat) :
  RK rank (bubble xs src d) k=if k=src-d then RK rank xs src else if src-d<k/\k<=src then RK rank xs (k-1) else RK rank xs k:=by
 have e:=getElem?_bubble J d M k;by_cases j:k=src-d
 ·rw[if_pos j] at e ⊢;exact Xq e
 ·rw[if_neg j] at e ⊢
  by_cases q:src-d<k/\k<=src
  ·rw[if_pos q] at e ⊢;exact Xq e
  ·rw[if_neg q] at e ⊢;exact Xq e
theorem Zez {xs:Array Nat}{i j:Nat}(J:j<=xs.size)(k:Nat):RK rank (e7 xs i j) k=if i<=k/\k<j then RK rank xs (i+j-1-k) else RK rank xs k:=by
 have e:=getElem?_mirror_all (i:=i) J k;unfold e7;by_cases q:i<=k/\k<j
 ·rw[if_pos q] at e ⊢;exact Xq e
 ·rw[if_neg q] at e ⊢;exact Xq e
theorem VU {xs:Array Nat}{i j:Nat}(q:j<=xs.size)(heq:∀k,i<=k->k<j->RK rank xs k=RK rank xs (j-1))(k:Nat):RK rank (e7 xs i j) k=RK rank xs k:=by
 rw[Zez q];split
 ·rw[heq _ (by omega) (by omega),heq k (by omega) (by omega)]
 ·rfl
theorem PmO.rev {p:Array Nat}(h:PmO n p)(i j:Nat):PmO n (e7 p i j):=⟨(mirror_perm p i j _).trans h.pm⟩
theorem PmO.bub {p:Array Nat}(h:PmO n p)(k d:Nat):PmO n (bubble p k d):=⟨(bubble_perm p k d).trans h.pm⟩
def Up (rank:Nat->Nat)(p:Array Nat)(k:Nat):Prop:=∀i j,i<=j->j<k->RK rank p i<=RK rank p j
def Dn (rank:Nat->Nat)(p:Array Nat)(k:Nat):Prop:=∀i j,i<=j->j<k->RK rank p j<=RK rank p i
theorem Up.snoc {p:Array Nat}{k:Nat}(O:1<=k)(h:Up rank p k)(J:RK rank p (k-1)<=RK rank p k):Up rank p (k+1):=λi j q Y=>by
 by_cases e:j=k
 ·subst e
  by_cases M:i=j
  ·rw[M];exact Zq _
  ·exact a8 (h i (j-1) (by omega) (by omega)) J
 ·exact h i j q (by omega)
theorem Dn.snoc {p:Array Nat}{k:Nat}(O:1<=k)(h:Dn rank p k)(J:RK rank p k<=RK rank p (k-1)):Dn rank p (k+1):=λi j q Y=>by
 by_cases e:j=k
 ·subst e
  by_cases M:i=j
  ·rw[M];exact Zq _
  ·exact a8 J (h i (j-1) (by omega) (by omega))
 ·exact h i j q (by omega)
theorem Zex {p:Array Nat}(q:PmO n p):∀(f k:Nat),1<=k->k+f<=n->Up rank p k->Runs n (WR rank) (W.kas_asc p f k) λm=>k<=m/\m<=k+f/\Up rank p m/\(m<k+f->RK rank p m<RK rank p (m-1))
 |0,k,J,M,j=>⟨Zq _,Zq _,j,λz=>absurd z (by omega)⟩
 |f+1,k,J,M,j=>by
  refine⟨q.lt (by omega),q.lt (by omega),?_⟩;by_cases c:rank (p.getD k 0)<rank (p.getD (k-1) 0)
  ·rw[show WR rank _ _=true from decide_eq_true c]
   exact⟨Zq _,by omega,j,λ_=>c⟩
  ·rw[show WR rank _ _=false from decide_eq_false c]
   refine (Zex q f (k+1) (by omega) (by omega) (j.snoc J (by unfold RK;omega))).mono λm ⟨a,b,u,d⟩=>⟨by omega,by omega,u,λz=>d (by omega)⟩
theorem Ug:∀(f:Nat) (p:Array Nat) (k q:Nat),PmO n p->1<=k->k+f<=n->q+1<=k->Dn rank p k->(∀j,k-1-q<=j->j<k->RK rank p j=RK rank p (k-1))->
  Runs n (WR rank) (W.kas_desc f p k q) λr=>PmO n r.1/\1<=r.2.1/\r.2.1<=k+f/\r.2.2+1<=r.2.1/\Dn rank r.1 r.2.1/\∀j,r.2.1-1-r.2.2<=j->j<r.2.1->RK rank r.1 j=RK rank r.1 (r.2.1-1)
 |0,p,k,q,J,M,hk,Y,hd,he=>⟨J,M,Zq _,Y,hd,he⟩
 |f+1,p,k,q,J,M,hk,Y,hd,he=>by
  refine⟨J.lt (by omega),J.lt (by omega),?_⟩;by_cases c:rank (p.getD k 0)<rank (p.getD (k-1) 0)
  ·rw[show WR rank _ _=true from decide_eq_true c]
   show Runs n (WR rank) (if q > 0 then W.kas_desc f (e7 p (k-(q+1)) k) (k+1) 0 else W.kas_desc f p (k+1) 0) _
   have O:=hd.snoc M (cO c);have sz:=J.size;split
   ·have er:∀j,RK rank (e7 p (k-(q+1)) k) j=RK rank p j:=λj=>VU (by omega) (λi a b=>he i (by omega) b) j
    refine (Ug f _ (k+1) 0 (J.rev _ _) (by omega) (by omega) (by omega) (λi j a b=>?_) (λj a b=>?_)).mono λr ⟨a,b,c,d⟩=>⟨a,b,by omega,d⟩
    ·rw[er,er];exact O i j a b
    ·rw[show j=k+1-1 by omega]
   ·refine (Ug f _ (k+1) 0 J (by omega) (by omega) (by omega) O (λj a b=>?_)).mono λr ⟨a,b,c,d⟩=>⟨a,b,by omega,d⟩
    rw[show j=k+1-1 by omega]
  ·rw[show WR rank _ _=false from decide_eq_false c]
   refine⟨J.lt (by omega),J.lt (by omega),?_⟩;by_cases d:rank (p.getD (k-1) 0)<rank (p.getD k 0)
   ·rw[show WR rank _ _=true from decide_eq_true d]
    exact⟨J,M,(show k<=k+(f+1) by omega),Y,hd,he⟩
   ·rw[show WR rank _ _=false from decide_eq_false d]
    have e:RK rank p k=RK rank p (k-1):=by unfold RK;omega
    refine (Ug f _ (k+1) (q+1) J (by omega) (by omega) (by omega) (hd.snoc M (by omega)) (λj a b=>?_)).mono λr ⟨a,b,c,d⟩=>⟨a,b,by omega,d⟩;rw[show k+1-1=k by omega];by_cases ej:j=k
    ·rw[ej]
    ·rw[he j (by omega) (by omega),e]
theorem Zcu {p:Array Nat}{k:Nat}(q:PmO n p)(J:1<=k)(Y:k<=n)(M:Dn rank p k):Runs n (WR rank) (mv k n p) λr=>1<=r.1/\r.1<=n/\PmO n r.2/\Up rank r.2 r.1:=by
 have sz:=q.size;have O:Up rank (e7 p 0 k) k:=λi j a b=>by
  rw[Zez (by omega),Zez (by omega),if_pos ⟨a5 _,by omega⟩,if_pos ⟨a5 _,b⟩];exact M _ _ (by omega) (by omega)
 exact Runs.bind ((Zex (q.rev 0 k) (n-k) k J (by omega) O).mono λm ⟨a,b,c,_⟩=>⟨a8 J a,by show m<=n;omega,q.rev 0 k,c⟩)
theorem V3 {p:Array Nat}{k:Nat}(J:PmO n p)(O:k+1<=n)(M:Dn rank p (k+1)):Runs n (WR rank) (W.kas_descPart k n p) λr=>1<=r.1/\r.1<=n/\PmO n r.2/\Up rank r.2 r.1:=by
 refine Runs.bind ((Ug (n-(k+1)) p (k+1) 0 J (by omega) (by omega) (by omega) M (λj a b=>by rw[show j=k+1-1 by omega])).mono λr ⟨a,b,c,d,e,g⟩=>?_);have sz:=a.size;show Runs n (WR rank) (if r.2.2 > 0 then mv r.2.1 n (e7 r.1 (r.2.1-(r.2.2+1)) r.2.1) else mv r.2.1 n r.1) _
 split
 ·have q:∀j,RK rank (e7 r.1 (r.2.1-(r.2.2+1)) r.2.1) j=RK rank r.1 j:=λj=>VU (by omega) (λi x y=>g i (by omega) y) j
  exact Zcu (a.rev _ _) b (by omega) λi j x y=>by rw[q,q];exact e i j x y
 ·exact Zcu a b (by omega) e
theorem Zjb {p:Array Nat}(q:PmO n p)(h1:1<=n):Runs n (WR rank) (W.kas_count n p) λr=>1<=r.1/\r.1<=n/\PmO n r.2/\Up rank r.2 r.1:=by
 refine Runs.bind ((Zex q (n-1) 1 (Zq _) (by omega) (λi j a b=>by rw[show i=0 by omega,show j=0 by omega];exact Zq _)).mono λm ⟨a,b,c,d⟩=>?_);have sz:=q.size;show Runs n (WR rank) (if (m == n)=true then _ else _) _
 by_cases e:m=n
 ·rw[if_pos (by rw[e];exact beq_self_eq_true n)]
  exact⟨a,by show m<=n;omega,q,c⟩
 ·rw[if_neg (by simpa using e)]
  have O:=d (by omega);have J:Dn rank p m->Dn rank p (m+1):=λh=>h.snoc a (cO O);split
  ·refine⟨q.lt (by omega),q.lt (by omega),?_⟩
   by_cases g:rank (p.getD 0 0)<rank (p.getD (m-1) 0)
   ·rw[show WR rank _ _=true from decide_eq_true g]
    exact⟨a,by show m<=n;omega,q,c⟩
   ·rw[show WR rank _ _=false from decide_eq_false g]
    have all:∀j,j<m->RK rank p j=RK rank p (m-1):=λj Y=>by
     have x:=c 0 j (by omega) Y;have y:=c j (m-1) (by omega) (by omega);unfold RK at x y ⊢;omega
    have M:∀j,RK rank (e7 p 0 m) j=RK rank p j:=λj=>VU (by omega) (λi _ y=>all i y) j;refine V3 (q.rev 0 m) (by omega) λi j x y=>?_;rw[M,M];exact J (λi j x y=>by rw[all i (by omega),all j y];exact Zq _) i j x y
  ·have e1:m=1:=by omega
   subst e1;exact V3 q (by omega) (J λi j x y=>by rw[show i=0 by omega,show j=0 by omega];exact Zq _)
theorem UG {p:Array Nat}{k:Nat}(j:PmO n p)(Y:k<n)(q:Up rank p k):∀(f l r:Nat),r-l<=f->l<=r->r<=k->(∀i,i<l->RK rank p i<=RK rank p k)->(∀i,r<=i->i<k->RK rank p k<RK rank p i)->
  Runs n (WR rank) (W.kas_place p k f l r) λm=>m<=k/\(∀i,i<m->RK rank p i<=RK rank p k)/\∀i,m<=i->i<k->RK rank p k<RK rank p i
 |0,l,r,hf,m5,J,M,O=>by
  have e:l=r:=by omega
  subst e;exact⟨J,M,O⟩
 |f+1,l,r,hf,m5,J,M,O=>by
  show Runs n (WR rank) (if l ≥ r then _ else _) _
  split
  ·have e:l=r:=by omega
   subst e;exact⟨J,M,O⟩
  ·refine⟨j.lt Y,j.lt (by omega),?_⟩
   by_cases c:rank (p.getD k 0)<rank (p.getD ((l+r) / 2) 0)
   ·rw[show WR rank _ _=true from decide_eq_true c]
    refine UG j Y q f l ((l+r) / 2) (by omega) (by omega) (by omega) M λi a b=>?_;exact aC c (q _ _ a b)
   ·rw[show WR rank _ _=false from decide_eq_false c]
    refine UG j Y q f ((l+r) / 2+1) r (by omega) (by omega) J (λi a=>?_) O;have:=q i ((l+r) / 2) (by omega) (by omega);unfold RK at this ⊢;omega
theorem Zjo:∀(f:Nat) (p:Array Nat) (k:Nat),PmO n p->k+f=n->Up rank p k->Runs n (WR rank) (W.kas_bin f p k) λr=>PmO n r/\Up rank r n
 |0,p,k,J,Y,q=>⟨J,by rw[<-Y];exact q⟩
 |f+1,p,k,J,Y,q=>by
  have sz:=J.size;refine Runs.bind ((UG J (by omega) q k 0 k (by omega) (by omega) (Zq _) (λi h=>by omega) (λi a b=>by omega)).mono λl ⟨a,b,c⟩=>?_);refine Zjo f _ (k+1) (J.bub _ _) (by omega) λi j O hj=>?_;have hb:=λx=>ZgR (rank:=rank) (xs:=p) (src:=k) (d:=k-l) (by omega) (by omega) x;rw[hb i,hb j];have el:k-(k-l)=l:=by omega
  rw[el];have m6:=q;by_cases i1:i=l
  ·rw[if_pos i1]
   by_cases M:j=l
   ·rw[if_pos M];exact Zq _
   ·rw[if_neg M,if_pos ⟨by omega,by omega⟩]
    exact cO (c (j-1) (by omega) (by omega))
  ·rw[if_neg i1]
   by_cases i2:l<i/\i<=k
   ·rw[if_pos i2,if_neg (by omega),if_pos ⟨by omega,by omega⟩]
    exact q _ _ (by omega) (by omega)
   ·rw[if_neg i2]
    have il:i<l:=by omega
    by_cases M:j=l
    ·rw[if_pos M];exact b i il
    ·rw[if_neg M]
     by_cases j2:l<j/\j<=k
     ·rw[if_pos j2];exact q _ _ (by omega) (by omega)
     ·rw[if_neg j2];exact q _ _ O (by omega)
theorem ZeL (O:1<=n)(rank:Nat->Nat):∃p,XV n (WR rank) (gt n)=some p/\p.toList.Perm (ac n)/\(p.toList.map rank).Pairwise (· ≤ ·):=by
 have:Runs n (WR rank) (gt n) λp=>PmO n p/\Up rank p n:=by
  refine Runs.bind ((Zjb (rank:=rank) ⟨Array.Perm.refl _⟩ O).mono λr ⟨a,b,c,d⟩=>?_);show Runs n (WR rank) (if r.1<n then _ else _) _
  split
  ·have e:max r.1 1=r.1:=by omega
   rw[e];exact Zjo _ _ _ c (by omega) d
  ·exact⟨c,by rw[show n=r.1 by omega];exact d⟩
 obtain⟨p,e,M,Y⟩:=this.run;refine⟨p,e,?_,?_⟩
 ·have:=M.pm
  rw[jI] at this;simpa using this
 ·have sz:=M.size
  rw[eG];intro i j q J m5;rw[Za] at q J;have li:i<p.size:=by simpa using q
  have lj:j<p.size:=by simpa using J
  have:=Y i j (by omega) (by omega);unfold RK at this;rw[mO,mO];have ei:p.getD i 0=p.toList[i]'q:=by simp[lV,li]
  have ej:p.getD j 0=p.toList[j]'J:=by simp[lV,lj]
  rw[ei,ej] at this;exact this
end
end PyZ
namespace PyZ
open PySem PyProof PyProof.Rows SeqAt
open AutoSeq1 (wpAny_loadPart')
theorem XB {vs:List Value}{ns:TZ}(h:aZ vs ns):∀{i:Nat}{v:Value},vs[i]?=some v->∃n t,ns[i]?=some n/\v=.int n t:=by
 induction h with
 |nil=>intro i v e;simp at e
 |cons n t _ j=>
  intro i v e
  match i,e with
  |0,e=>cases e;exact⟨_,_,rfl,rfl⟩
  |i+1,e=>exact j (i:=i) (by simpa using e)
theorem JB {vs:List Value}{ns:TZ}(h:aZ vs ns):vs.length=ns.length:=by
 induction h with
 |nil=>rfl
 |cons _ _ _ j=>rw[Zi,Zi,j]
theorem ZaL {fin:Bool}{xs ys:TZ}{i:Nat}{x y:Int}(j:xs[i]?=some x)(q:ys[i]?=some y):Zaj fin (xs.drop i) (ys.drop i)=if x=y then Zaj fin (xs.drop (i+1)) (ys.drop (i+1)) else decide (x<y):=by
 have J:=(ae.mp j);have M:=(ae.mp q);obtain⟨O,Y⟩:=J;obtain⟨l2,e2⟩:=M;rw[bR O,bR l2,Y,e2];rfl
theorem UR {fin:Bool}{xs ys:TZ}{i:Nat}(h:xs[i]?=none\/ys[i]?=none):Zaj fin (xs.drop i) (ys.drop i)=fin:=by
 rcases h with h|h
 ·rw[fe (gq.mp h)]
  rfl
 ·rw[fe (as:=ys) (gq.mp h)]
  cases xs.drop i with
  |nil=>rfl
  |cons _ _=>rfl
theorem ZkZ (l b:Addr)(items j:Array Value)(n n2:Nat)(dd m6:Option Addr)(sl m8:Array (Option Value)){xs ys:TZ}(hx:aZ items.toList xs)(hy:aZ j.toList ys)(k:Nat) :
  ∀i:Nat,items.size-i=k->kH (cg.«list.__eq__.loop» ⟨[.ref l,.ref b,rawInt i,rawInt 0],[]⟩)
   (λA R s=>s.heap.get? l=some {cls:=.type "list",dict:=dd,data:=.seq items n,slots:=sl}/\s.heap.get? b=some {cls:=.type "list",dict:=m6,data:=.seq j n2,slots:=m8}/\
    R (.ok (.ret (.bool (Zaj (decide (xs.length<ys.length)) (xs.drop i) (ys.drop i))))) s):=by
 have sx:items.size=xs.length:=by rw[<-JB hx,Zr]
 have sy:j.size=ys.length:=by rw[<-JB hy,Zr]
 induction k with
 |zero=>
  intro i hk q w A R s h;obtain⟨hp,g,d,tk,os⟩:=s;obtain⟨Y,hb,h⟩:=h
  wp_walk using wpAny_loadPart' Y,wpAny_loadPart' hb
  have J:items[((i:Nat):Int).toNat]?=none:=by simp;omega
  rw[UR (.inl (ak (by omega)))] at h;rw[J]
  wp_walk using wpAny_loadPart' Y,wpAny_loadPart' hb
  show R (.ok (.ret (.bool (decide (items.size<j.size))))) _;rw[sx,sy];exact h
 |succ k ih=>
  intro i hk q w A R s h;obtain⟨hp,g,d,tk,os⟩:=s;obtain⟨Y,hb,h⟩:=h
  wp_walk using wpAny_loadPart' Y,wpAny_loadPart' hb
  have m5:i<items.size:=by omega
  have J:items[((i:Nat):Int).toNat]?=some items[i]:=by simp[m5]
  have hc:((i:Int)+1)=((i+1:Nat):Int):=by push_cast;rfl
  by_cases O:i<j.size
  ·have M:j[((i:Nat):Int).toNat]?=some j[i]:=by simp[O]
   obtain⟨x,tx,ex,vx⟩:=XB hx (i:=i) (v:=items[i]) (by simp[m5]);obtain⟨y,ty,ey,vy⟩:=XB hy (i:=i) (v:=j[i]) (by simp[O]);rw[ZaL ex ey] at h;rw[J,M,vx,vy];refine Zl (fM _ _ _ _ q w _ _ ?_);by_cases e:x=y
   ·rw[if_pos e] at h
    rw[show (x == y)=true from beq_iff_eq.mpr e]
    wp_walk
    rw[hc];exact⟨c6 eO _,bV jx (by
     rw[bA eO _];exact ih (i+1) (by omega) q w A R _ ⟨Y,hb,h⟩)⟩
   ·rw[if_neg e] at h
    rw[show (x == y)=false from beq_eq_false_iff_ne.mpr e]
    wp_walk using wpAny_loadPart' Y,wpAny_loadPart' hb
    rw[J,M,vx,vy];refine Zl (lt_int ?_);exact Zm h
  ·have M:j[((i:Nat):Int).toNat]?=none:=by simp;omega
   rw[UR (.inr (ak (by omega)))] at h;rw[J,M]
   wp_walk using wpAny_loadPart' Y,wpAny_loadPart' hb
   show R (.ok (.ret (.bool (decide (items.size<j.size))))) _;rw[sx,sy];exact h
theorem Zk3 (l b:Addr)(items j:Array Value)(n O:Nat)(Y q:Option Addr)(sl J:Array (Option Value)){xs ys:TZ}(hx:aZ items.toList xs)(hy:aZ j.toList ys) :
  kH (cg.«list.__lt__» ⟨[.ref l,.ref b],[]⟩)
   (λA R s=>s.heap.get? l=some {cls:=.type "list",dict:=Y,data:=.seq items n,slots:=sl}/\s.heap.get? b=some {cls:=.type "list",dict:=q,data:=.seq j O,slots:=J}/\
    R (.ok (.ret (.bool (JV xs ys)))) s):=by
 intro M w A R s h;obtain⟨hp,g,d,tk,os⟩:=s;obtain⟨hl,hb,h⟩:=h;have f3:=AutoSeq1.sub_list_list
 wp_walk using wpAny_loadPart' hl,wpAny_loadPart' hb
 exact⟨c6 eO _,bV jx (by
  rw[bA eO _];exact ZkZ l b items j n O Y q sl J hx hy _ 0 rfl M w A R _ ⟨hl,hb,by simpa [JV] using h⟩)⟩
section
variable {prog:Program}{w:World}{A:Around}{E:TY}{s:Shared}
theorem Zeb {l b:Addr}{us vs:List Value}{xs ys:TZ}{Q:Bool->Shared->Prop}(hu:A.units<cLine)(hl:s.heap.IsList l us.toArray)(hb:s.heap.IsList b vs.toArray)(hx:aZ us xs)(hy:aZ vs ys)(h:Q (JV xs ys) s) :
  wpAny (model prog w) A (keyLt' oneType' (.ref l) (.ref b)) Q E s:=by
 obtain⟨ol,Y,c1,n1,d1⟩:=hl;obtain⟨ob,e2,c2,n2,d2⟩:=hb;obtain⟨m8,M,m5,q⟩:=ol;obtain⟨m6,J,O,j⟩:=ob;simp only at c1 d1 c2 d2;subst c1 d1 c2 d2;rw[keyLt'_oneType,oneLt'_eq];simp only[if_true];refine Zl (wpAny_cRoomFor hu ?_);refine Zl (wpAny_callSpecialIfBound?_slot ⟨_,Y,rfl⟩ j8 ?_);refine cK j8 ⟨_,Y,rfl⟩ PySem.F.entry_list_lt (PySem.F.args_list_lt_2 _ _) (Zk3 l b us.toArray vs.toArray n1 n2 M J q j (by simpa using hx) (by simpa using hy)) ⟨Y,e2,?_⟩;exact dU h
end
end PyZ
namespace PyZ
open PySem PyProof PyProof.Rows
theorem ZbO (ys:TZ):JV [] ys=decide (0<ys.length):=rfl
theorem Zc7 (xs:TZ):JV xs []=false:=by
 cases xs with
 |nil=>rfl
 |cons x xs=>
  show decide ((x::xs).length<([]:TZ).length)=false;exact decide_eq_false (by simp)
theorem UM (x y:Int)(xs ys:TZ):JV (x::xs) (y::ys)=if x=y then JV xs ys else decide (x<y):=by
 unfold JV;show (if x=y then Zaj _ xs ys else _)=_
 have e:decide ((x::xs).length<(y::ys).length)=decide (xs.length<ys.length):=by
  simp only[Zi,kf]
 rw[e]
theorem ZbP:∀xs:TZ,JV xs xs=false
 | []=>rfl
 |x::xs=>by rw[UM,if_pos rfl];exact ZbP xs
theorem Ue:∀{xs ys:TZ},JV xs ys=false->JV ys xs=false->xs=ys
 | [],[],_,_=>rfl
 | [],_::_,h,_=>by rw[ZbO] at h;simp at h
 |_::_,[],_,h=>by rw[ZbO] at h;simp at h
 |x::xs,y::ys,j,q=>by
  rw[UM] at j q;by_cases e:x=y
  ·rw[if_pos e] at j
   rw[if_pos e.symm] at q;rw[e,Ue j q]
  ·rw[if_neg e] at j
   rw[if_neg (bd e)] at q;have a:=of_decide_eq_false j;have b:=of_decide_eq_false q;omega
theorem VI:∀{xs ys q:TZ},JV xs ys=true->JV ys q=true->JV xs q=true
 |xs,ys,[],_,h=>by rw[Zc7] at h;cases h
 |xs,[],z::q,h,_=>by rw[Zc7] at h;cases h
 | [],y::ys,z::q,_,_=>by rw[ZbO];exact decide_eq_true (by simp)
 |x::xs,y::ys,z::q,J,j=>by
  rw[UM] at J j ⊢;by_cases O:x=y
  ·rw[if_pos O] at J
   by_cases M:y=z
   ·rw[if_pos M] at j
    rw[if_pos (O.trans M)];exact VI J j
   ·rw[if_neg M] at j
    have:=of_decide_eq_true j;rw[if_neg (by omega)];exact decide_eq_true (by omega)
  ·rw[if_neg O] at J
   have a:=of_decide_eq_true J;by_cases M:y=z
   ·rw[if_neg (by omega)]
    exact decide_eq_true (by omega)
   ·rw[if_neg M] at j
    have:=of_decide_eq_true j;rw[if_neg (by omega)];exact decide_eq_true (by omega)
theorem XU {n:Nat}{cmp q:Nat->Nat->Bool}(h:∀i j,i<n->j<n->cmp i j=q i j){α:Type}:∀t:jF α,XV n cmp t=XV n q t
 | .ret a=>rfl
 | .ask i j k=>by
  rw[XV,XV];by_cases J:i<n/\j<n
  ·rw[if_pos J,if_pos J,h i j J.1 J.2]
   exact XU h _
  ·rw[if_neg J,if_neg J]
theorem VM {α:Type}{p q:α->Bool}:∀{l:List α},(∀x∈l,p x=true->q x=true)->(∃x∈l,p x=false/\q x=true)->l.countP p<l.countP q
 | [],_,⟨x,j,_⟩=>by cases j
 |y::l,h,⟨x,j,J,M⟩=>by
  have le:∀{l:List α},(∀x∈l,p x=true->q x=true)->l.countP p<=l.countP q:=λ{l} h=>List.countP_mono_left h;rw[mQ,mQ];have O:∀x∈l,p x=true->q x=true:=λz Y=>h z (ao _ Y);rcases aD.mp j with e|j
  ·rw[<-e,J,M]
   have:=le O;simp only[di,if_false,if_true];omega
  ·have:=VM O ⟨x,j,J,M⟩
   have hy:=h y ar;cases e1:p y with
   |true=>rw[hy e1];omega
   |false=>
    simp only[di,if_false];split <;> omega
def rkB (yss:T8)(i:Nat):Nat:=(ac yss.length).countP λk=>JV (yss.getD k []) (yss.getD i [])
theorem ZhM {yss:T8}{i j:Nat}(q:i<yss.length)(O:j<yss.length):JV (yss.getD i []) (yss.getD j [])=decide (rkB yss i<rkB yss j):=by
 have J:∀{i j:Nat},i<yss.length->JV (yss.getD i []) (yss.getD j [])=true->rkB yss i<rkB yss j:=λ{i j} q h=>by
  refine VM (λk _ Y=>VI Y h) ⟨i,af.mpr q,ZbP _,h⟩
 cases e:JV (yss.getD i []) (yss.getD j []) with
 |true=>rw[decide_eq_true (J q e)]
 |false=>
  cases M:JV (yss.getD j []) (yss.getD i []) with
  |true=>
   have:=J O M;rw[decide_eq_false (by omega)]
  |false=>
   have:=Ue e M;unfold rkB;rw[this];exact (decide_eq_false (by omega)).symm
theorem Zf0 {yss:T8}(M:1<=yss.length):∃p,XV yss.length (λi j=>JV (yss.getD i []) (yss.getD j [])) (gt yss.length)=some p/\p.toList.Perm (ac yss.length)/\(p.toList.map λi=>yss.getD i []).Pairwise λa b=>JV b a=false:=by
 obtain⟨p,e,q,J⟩:=ZeL M (rkB yss);refine⟨p,(XU (λi j O Y=>ZhM O Y) _).trans e,q,?_⟩;rw[gw] at J ⊢;refine dH (λ{a b} ha hb m5=>?_) J;have la:=af.mp (q.mem_iff.mp ha);have lb:=af.mp (q.mem_iff.mp hb);rw[ZhM lb la];exact decide_eq_false (by omega)
section
variable {prog:Program}{w:World}{A:Around}{E:TY}{s:Shared}
theorem ZjM (vs:List Value)(h:vs.length<2):(vs.toArray.zip vs.toArray).map (·.2)=vs.toArray:=by
 cases vs with
 |nil=>simp
 |cons v r=>
  cases r with
  |nil=>simp
  |cons a b=>exact absurd h (by rw[Zi,Zi];omega)
theorem ZdX {a:Addr}{vs:List Value}{n:Nat}{P:Fin->Shared->Prop}(M:s.heap.get? a=some (seqObj "list" vs.toArray n))(h2:vs.length<2)
  (h:P (.done (.ret .none)) {s with heap:=sortedHeap s.heap a vs vs.toArray}):wpAny (model prog w) A (cg.«list.sort» ⟨[.ref a],[]⟩) P E s:=by
 rw[list_sort_plain];have Y:a<s.heap.objs.size:=Zp M;refine Zl (listItems_at M rfl ?_);refine Zl (listUpdate_at M rfl ?_);obtain⟨O,j⟩:∃O,(s.heap.update a (cH λ_=>#[])).get? a=some (seqObj "list" #[] O):=⟨_,kc M (λ_=>#[])⟩;refine Zl (seqEpoch_at j rfl ?_);refine Zl (wpAny_newTuple ?_);refine Zl (lC ?_);refine cI ?_;have q:(((s.heap.update a (cH λ_=>#[])).push (seqObj "tuple" vs.toArray 0)).push (seqObj "list" #[] 0)).get? a=some (seqObj "list" #[] O):=by
  rw[mC _ _ _ (by rw[size_push',jh];exact ay (fm Y)),mC _ _ _ (by rw[jh];exact ay Y)];exact j
 show wpAny (model prog w) A _ P E {s with heap:=((s.heap.update a (cH λ_=>#[])).push (seqObj "tuple" vs.toArray 0)).push (seqObj "list" #[] 0)}
 try dsimp only
 have m6:vs.toArray.size=vs.length:=by simp
 have J:vs.toArray.size<2:=by omega
 rw[if_pos J,if_pos J];refine Zl (Zm ?_);rw[StateT.run_pure];refine Zl (Zm ?_)
 try dsimp only
 have eo:(arrOf (SortSt.mk' general' (vs.toArray.zip vs.toArray) #[] 7 none)).map (·.2)=vs.toArray:=by
  exact ZjM _ h2
 refine Zl (seqEpoch_at q rfl ?_);refine Zl (listUpdate_at q rfl ?_ (hsz2:=by rw[Array.size_map];show (pairsOf vs).size<=_;rw[pairsOf_size,fV];omega));simp only[bne_self_eq_false,di,if_false];refine Zm ?_;rw[eo];exact h
theorem Vh {l:Addr}{vs:List Value}{Q:TY}(J:s.heap.IsList l vs.toArray)(M:vs.length<2)
  (h:Q (.ref (s.heap.objs.size+1)) {s with heap:=sortedAll s.heap vs vs.toArray}):wpAny (model prog w) A (call (.builtin "sorted") [.ref l]) Q E s:=by
 refine lz kind_sorted plain_sorted entry_sorted (args_sorted1 _) ?_;unfold cg.«sorted»;refine Zl (m:=checkCount "sorted" 1 1 _) (Zm ?_);refine Zl (collect_list J ?_ (by rw[fV];omega));refine Zl (lC ?_ (by rw[fV];omega));have j:((s.heap.push (seqObj "list" #[] 0)).update s.heap.objs.size (cH (· ++ vs.toArray))).objs.size=s.heap.objs.size+1:=by
  rw[jh,size_push']
 have q:(((s.heap.push (seqObj "list" #[] 0)).update s.heap.objs.size (cH (· ++ vs.toArray))).push (seqObj "list" vs.toArray 0)).get? (s.heap.objs.size+1)=some (seqObj "list" vs.toArray 0):=by
  rw[<-j];exact Zo _ rfl
 show wpAny _ _ _ _ _ {s with heap:=((s.heap.push (seqObj "list" #[] 0)).update s.heap.objs.size (cH (· ++ vs.toArray))).push (seqObj "list" vs.toArray 0)};rw[j];refine Zl (cI (bM slot_list_sort ⟨_,q,rfl⟩ entry_list_sort (ZdX q M ⟨_,rfl,?_⟩) (args_list_sort _)));exact Zm ⟨_,rfl,h⟩
end
end PyZ
namespace Pm
section
variable {gs:T9}{n:Nat}
def Srt (yss:T9):Prop:=(yss.map nI).Pairwise (λx y=>PyZ.JV y x=false)
theorem Srt.eq {a b:T9}(j:Srt a)(hb:Srt b)(p:bD a b):a=b:=by
 have:a.map nI=b.map nI:=List.Perm.eq_of_pairwise (le:=λx y:TZ=>PyZ.JV y x=false) (λx y _ _ q J=>PyZ.Ue J q) j hb (p.map nI);exact (f6 (λx y e=>Ziz.mp e)).mp this
end
end Pm
namespace PyZ
open PySem PyProof PyProof.Rows
section
variable {prog:Program}{w:World}{A:Around}{E:TY}{s:Shared}
theorem Zbn {l L:Addr}{m:TX}{as:TW}{yss:T8}{p:Array Nat}{Q:TY}(hu:A.units+2<cLine)(m8:s.heap.Ns L m)(hl:s.heap.IsList l (as.map ax).toArray)(n2:2<=as.length)(n6:as.length<64)(hy:as.length=yss.length)
  (ht:∀(i:Nat) a,as[i]?=some a->a≠L/\∃(us:List Value) (ys:TZ),yss[i]?=some ys/\s.heap.IsList a us.toArray/\aZ us ys)
  (hp:XV as.length (λi j=>JV (yss.getD i []) (yss.getD j [])) (gt as.length)=some p)
  (q:∀D c h',s.heap.get? D=none->D≠L->(∀b o,b≠L->s.heap.get? b=some o->h'.get? b=some o)->h'.Ns L m->h'.get? D=some (mr (p.toList.map λi=>(as.map ax).getD i be).toArray c)->Q (.ref D) {s with heap:=h'}) :
  wpAny (model prog w) A (call (.builtin "sorted") [.ref l]) Q E s:=by
 have fr:Fr (Zan s.heap L) L s.heap m:=by
  refine⟨m8,λb o e=>?_,?_⟩
  ·by_cases hb:b<L
   ·rw[YU hb] at e;exact e
   ·rw[WV (fC hb)] at e
    cases e
  ·show (s.heap.objs.extract 0 L).size<=L
   rw[fY,ck];exact fO ..
 have nw:News (Zan s.heap L) L s.heap (Yk s.heap L):=λx hx=>by
  obtain⟨J,h2⟩:=Yo.mp hx;exact⟨h2,bq J,WV (cO J)⟩
 have lv:(as.map ax).length=as.length:=fN ..;refine lJ fr nw hl (by rw[lv];exact n2) (by rw[lv];exact n6) λD e1 h' m6 M big=>?_;have kept:∀b o,b≠L->s.heap.get? b=some o->h'.get? b=some o:=λb o hb e=>by
  rcases cp b L with J|J
  ·exact m6.keep b o (by rw[YU J];exact e)
  ·exact (M (b,o) (ao _ (Yo.mpr ⟨bu J (bd hb),e⟩))).1
 have dn:s.heap.get? D=none:=by
  cases e:s.heap.get? D with
  |none=>rfl
  |some o=>
   obtain⟨_,dL,dc⟩:=M _ (ar ..);rcases cp D L with J|J
   ·rw[YU J] at dc
    rw[dc] at e;cases e
   ·exact absurd (big (D,o) (Yo.mpr ⟨bu J (bd dL),e⟩)) (bK _)
 have dL:D≠L:=(M _ (ar ..)).2.1;have m5:∀(i:Nat) a,as[i]?=some a->∃(us:List Value) (ys:TZ),yss[i]?=some ys/\h'.IsList a us.toArray/\aZ us ys:=λi a hi=>by
  obtain⟨aL,us,ys,e,⟨o,g1,g2⟩,ia⟩:=ht i a hi;exact⟨us,ys,e,⟨o,kept a o aL g1,g2⟩,ia⟩
 refine W.kas_kind (T:=b9 "list") (by rw[lv];exact n2) (λv hv=>?_) (by decide +kernel) (by decide +kernel) ?_
 ·obtain⟨a,ha,rfl⟩:=aE.mp hv
  obtain⟨i,hi⟩:=bo ha;obtain⟨us,ys,_,⟨o,g1,g2,_⟩,_⟩:=m5 i a hi;intro A Q E s' hk q;refine ir (T:="list") ⟨o,hk _ _ g1,g2⟩ q
 ·rw[lv]
  refine XA (cmp:=λi j=>JV (yss.getD i []) (yss.getD j [])) (λi j C hi hj c=>?_) _ p _ hp ?_
  ·unfold W.kas_ask
   obtain⟨us,ys,e,i1,ia⟩:=m5 i as[i] (Zf hi);obtain⟨o7,n8,e2,i2,n9⟩:=m5 j as[j] (Zf hj);have v1:(as.map ax).getD i be=.ref as[i]:=by
    rw[Zb,Zc,Zf hi];rfl
   have v2:(as.map ax).getD j be=.ref as[j]:=by
    rw[Zb,Zc,Zf hj];rfl
   have w1:yss.getD i []=ys:=by rw[Zb,e];rfl
   have w2:yss.getD j []=n8:=by rw[Zb,e2];rfl
   rw[v1,v2];rw[w1,w2] at c;exact Zeb (by show A.units+1+1<cLine;omega) i1 i2 ia n9 c
  ·refine⟨_,_,m6,M,ki (λx hx=>ay (big x hx)),λo0 c O Y=>?_⟩
   refine q D c o0 dn dL (λb o hb e=>?_) O.ns (Y _ (ar ..)).1;rcases cp b L with J|J
   ·exact O.keep b o (by rw[YU J];exact e)
   ·exact (Y (b,o) (ao _ (Yo.mpr ⟨bu J (bd hb),e⟩))).1
end
end PyZ
namespace L2
open PySem PySem.Spec PyProof.Rows
section
variable {X:Cx}{pins:List (Addr×Obj)}{σ:St}{H:Hp}{s:Shared}
theorem Zfd:∀{as:TW},as.length<2->((ac as.length).map λi=>as.getD i 0)=as
 | [],_=>rfl
 | [_],_=>rfl
theorem Zie {β:Type}:∀{n:Nat},n<2->∀(f:Nat->β) (R:β->β->Prop),((ac n).map f).Pairwise R
 |0,_,_,_=>eK
 |1,_,_,_=>gR _ _
def Zqt (j:Bool)(ys:TZ):HO:=if j then .tup (ys.map V.int) else .lst (ys.map V.int)
inductive Zd7 (tp:Bool) (xs:TV) (H:Hp) (Q:VK):Prop
 |mk (l:Addr) (as:TW) (yss:T8):(xs=[.ref l])->(H l=some (.lst (as.map V.ref)))->(as.length=yss.length)->(as.length<64)->((∀(i:Nat) a,as[i]?=some a->∃ys,yss[i]?=some ys/\ys≠[]/\H a=some (Zqt tp ys)))->(∀D js,H D=none->bD js (ac as.length)->(js.map λi=>yss.getD i []).Pairwise (λa b=>PyZ.JV b a=false)->Q (.ref D) (upd H D (.lst ((js.map λi=>as.getD i 0).map V.ref))))->Zd7 tp xs H Q
theorem Zev (tp:Bool)(hu:X.A.units+64<cLine):YV X (.builtin "sorted") (Zd7 tp):=by
 intro pins s σ H xs us Q I r h;obtain⟨l,j,J,rfl,hl,hy,m8,ht,q⟩:=h;obtain⟨u,rfl,ru⟩:=r.one;cases ru;obtain⟨m,hm,n9⟩:=id I.loc;obtain⟨z,p4,n,rv,hlen,e⟩:=I.lstM hl;have ei:=WU rv;subst ei;have m5:s.heap.IsList l (j.map ax).toArray:=(I.list (.of hl)).elim λp3 hh=>by
  obtain⟨M,pl,_⟩:=hh;have:=WU M;rw[this] at pl;exact pl.isList
 have JE:=JE;have n6:∀{a:Addr}{o:HO},H a=some o->a≠X.env.locals:=λ{a o} e z=>by rw[z,I.free] at e;cases e
 by_cases n2:j.length<2
 ·refine PyZ.Vh m5 (by rw[Za];exact n2) ?_
  obtain⟨e1,he⟩:=sortedAll_at s.heap (j.map ax) (j.map ax).toArray;have n8:∀b o,s.heap.get? b=some o->(sortedAll s.heap (j.map ax) (j.map ax).toArray).get? b=some o:=λb o e=>sortedAll_old e;generalize sortedAll s.heap (j.map ax) (j.map ax).toArray=h' at he n8 ⊢;have m6:s.heap.objs.size<=s.heap.objs.size+1:=gE _;generalize s.heap.objs.size+1=D at he m6 ⊢;have em:=Zfd n2;have o0:=Zie n2 (λi=>J.getD i []) λa b=>PyZ.JV b a=false;have fin:=q D (ac j.length) (I.hok.fresh m6) (cP _) o0;rw[em] at fin;have I':Inv X pins σ (upd H D (.lst (j.map V.ref))) {s with heap:=h',toks:=s.toks}:=I.laid (a:=D) (o:=.lst (j.map V.ref)) (t':=s.toks) n8 m6 ⟨by rw[Za];omega,j.map ax,e1,Jx j,he⟩;exact⟨.ref D,_,I',rfl,fin⟩
 ·obtain⟨p,hp,O,o7⟩:=PyZ.Zf0 (yss:=J) (by omega)
  rw[<-hy] at hp O;have o8:∀i∈p.toList,i<j.length:=λi hi=>af.mp (O.mem_iff.mp hi);have pl:p.toList.length=j.length:=by rw[O.length_eq,Zg]
  have es:(p.toList.map λi=>(j.map ax).getD i be)=(p.toList.map λi=>j.getD i 0).map ax:=by
   rw[aH];refine aW λi hi=>?_;have:=o8 i hi;show (j.map ax).getD i be=ax (j.getD i 0);rw[Zb,Zc,Zf this,Zb,Zf this];rfl
  have fin:∀D c h',s.heap.get? D=none->D≠X.env.locals->(∀b o,b≠X.env.locals->s.heap.get? b=some o->h'.get? b=some o)->h'.Ns X.env.locals m->h'.get? D=some (mr (p.toList.map λi=>(j.map ax).getD i be).toArray c)->
    ∃v H',Inv X pins σ H' {s with heap:=h'}/\RelV v (.ref D)/\Q v H':=λD c h' dn dL kept o9 hD=>by
   rw[es] at hD;obtain⟨I',hH⟩:=I.newL (ys:=(p.toList.map λi=>j.getD i 0).map V.ref) hm n9 dn dL kept o9 (by rw[Za,Za];omega) (Jx _) hD;exact⟨.ref D,_,I',rfl,q D _ hH O o7⟩
  cases tp with
  |true=>
   refine PyZ.ZcB (yss:=J) (p:=p) hm m5 (by omega) m8 hy (λi a hi=>?_) hp fin;obtain⟨ys,e1,ne,Y⟩:=ht i a hi;have Y:H a=some (.tup (ys.map V.int)):=Y;obtain⟨us,M,pt,_⟩:=I.tuple (.of Y);exact⟨n6 Y,us,ys,e1,pt,JG M,ne⟩
  |false=>
   refine PyZ.Zbn (yss:=J) (p:=p) (by omega) hm m5 (by omega) m8 hy (λi a hi=>?_) hp fin;obtain⟨ys,e1,ne,Y⟩:=ht i a hi;have Y:H a=some (.lst (ys.map V.int)):=Y;obtain⟨us,M,pt,_⟩:=I.list (.of Y);exact⟨n6 Y,us,ys,e1,pt.isList,JG M⟩
end
end L2
namespace Pm
open PySem L2 PySem.Spec PyProof.Rows
open Tb
def Vy (fd:T9)(o:T7):T9:=if fd.contains o then fd else fd++[o]
def Y6 (j:T7)(q:T9)(fd:T9):T9:=q.foldl (λfd p=>Vy fd (XI j p)) fd
def bfs (j:T9):Nat->Nat->T9->T9
 |0,_,fd=>fd
 |f+1,at',fd=>if at'<fd.length then bfs j f (at'+1) (Y6 (fd.getD at' []) j fd) else fd
theorem Zdx (fd:T9)(o:T7):fd.length<=(Vy fd o).length:=by
 unfold Vy;split
 ·exact Zq _
 ·rw[Zd];omega
theorem Xt (j:T7):∀(q fd:T9),fd.length<=(Y6 j q fd).length
 | [],fd=>Zq _
 |p::q,fd=>a8 (Zdx fd (XI j p)) (Xt j q (Vy fd (XI j p)))
theorem ZfN (j:T9):∀(f at':Nat) (fd:T9),fd.length<=(bfs j f at' fd).length
 |0,_,fd=>Zq _
 |f+1,at',fd=>by
  unfold bfs;split
  ·exact a8 (Xt _ j fd) (ZfN j f (at'+1) _)
  ·exact Zq _
theorem ZgQ {k:Nat}{fd:T9}{o:T7}(h:∀y∈fd,Gk k y)(j:Gk k o):∀y∈Vy fd o,Gk k y:=by
 unfold Vy;split
 ·exact h
 ·intro y q
  rcases bH.mp q with z|z
  ·exact h y z
  ·rw[aS.mp z];exact j
theorem Zlw {fd:T9}{o:T7}{j:Nat}(h:j<fd.length):(Vy fd o).getD j []=fd.getD j []:=by
 unfold Vy;split
 ·rfl
 ·rw[Zb,aq h,<-Zb]
theorem Zcx (q:T7){j:Nat}:∀(J fd:T9),j<fd.length->(Y6 q J fd).getD j []=fd.getD j []
 | [],fd,_=>rfl
 |p::J,fd,h=>by
  show (Y6 q J (Vy fd (XI q p))).getD j []=_;rw[Zcx q J _ (aC h (Zdx fd _)),Zlw h]
theorem ZdJ (j:T7){q fd:T9}{i:Nat}{g:T7}(h:q[i]?=some g):Y6 j (q.take (i+1)) fd=Vy (Y6 j (q.take i) fd) (XI j g):=by
 unfold Y6;rw[cM,h,i9];rfl
theorem ZdK (j:T7)(q fd:T9)(i:Nat):(Y6 j (q.take i) fd).length<=(Y6 j q fd).length:=by
 have:Y6 j q fd=Y6 j (q.drop i) (Y6 j (q.take i) fd):=by
  unfold Y6;rw[<-i9,List.take_append_drop]
 rw[this];exact Xt _ _ _
end Pm
namespace C47
open PySem L2 PySem.Spec PyProof.Rows
open Tb Pm
noncomputable abbrev ZoH:Stmt:=top 34
noncomputable abbrev Zd2:Stmt:=top 35
structure ByC (k:Nat)(ps fd:T9):Prop where
 k1:1<=k
 k9:k<=9
 p1:1<=ps.length
 p9:ps.length<=9
 pl:∀g∈ps,Gk k g
 fin:bfs ps 61 0 [ac k]=fd
 n60:fd.length<=60
inductive Zho (vs:TV) (H:Hp) (Q:VK) (E03:XK):Prop
 |mk (pl:Addr) (prs:TW) (ps:T9) (k:Nat) (fd:T9):(vs=[.ref pl])->(TupsAt H pl prs ps)->(ByC k ps fd)->(∀L bs H',Zv H H'->TupsAt H' L bs fd->Q (.ref L) H')->Zho vs H Q E03
section
variable {P:Program}{w:World}{K:aa}{mg:TX}{base:Heap}
theorem Zni {f:Addr}{fd:FuncData}(F:WA K "_law_by_perms" "_law_by_perms" ZoH f fd)(T:BlB mg):Z8 P w K mg base Yd 1 f fd ["_law_perms"] Zho:=by
 refine F.ok (FS (N:=["_law_perms", "_law_found", "_law_at", "_law_here", "_law_perm", "_law_other"])) (λvs H Q E h=>?_) (λu5 A r9 s H vs Q E hr h=>?_)
 ·obtain⟨pl,p3,O,k,m5,rfl,_⟩:=h;rfl
 ·obtain⟨pl,p3,O,k,m5,rfl,R0,B,q⟩:=h
  refine⟨_,Zs (ZH 1 rfl (ZR (pc (ct (Zaa rfl) T.tuple (pc (ct V4 T.range (pc (cb (Yt K) T.len (pc (ZD (Jb K) (vn 0) Zx (λ_ _=>rfl)) Zt)) Zt)) Zt)) Zt)))
   (Zs (ZH 2 rfl Zx)
   (Zs (Yp am (ZP Zfc (vn 2) (cb (Yt K) T.len (pc (vn 1) Zt)) (ZW _))
   (Zs (ZH 3 rfl (ZD (Jb K) (vn 1) (vn 2) (λ_ _=>rfl)))
   (Zs (ZH 2 rfl (Zy Ym (vn 2) Zx))
   (Zw (ZN am rfl (itL K (vn 0)) (gn 4)
   (Zs (ZH 5 rfl (ct ZY T.tuple (pc (cmp ["_law_spot"] [3] ["_law_spot", "_law_here"] rfl (itT K (vn 4)) (λ_ _ _ _ _=>gn 0) (λ_ _ _ _ _=>ZM) (λ_ _ _ _ _=>ZD (JW K) (vn 1) (vn 0) (λ_ _=>rfl))) Zt)))
   (Zw (WN (ZP (Zo1 K hr.units) (vn 5) (vn 1) (by rfl)) (Zw (YG (WC aJ aQ aR Ye (vn 1) (pc (vn 5) Zt)))) YF))))))))
   (Zw (ZK (vn 1))))),?_⟩
  have sz:=JE;have k1:=B.k1;have k9:=B.k9;have p1:=B.p1;have p9:=B.p9;have u9:=B.n60;have p4:∀g∈O,Gk k g:=B.pl;obtain⟨b0,_,p6,m6⟩:=R0.get (i:=0) (by omega);have e0:((O.getD 0 []).map nV).length=k:=by rw[Za];exact (p4 _ (ZbK (by omega))).1
  refine⟨_,rfl,pl,_,_,_,rfl,rfl,.of R0.1,p6,b0,_,rfl,.inr (.of m6),_,rfl,λr0 t5=>⟨r0,0,_,rfl,Zu,⟨by omega,by omega,by rw[e0];omega,by rw[e0];omega⟩,by rw[e0];omega,λl hl=>?_⟩⟩;rw[e0] at hl ⊢;have ek:((k:Int)-0).toNat=k:=by omega
  rw[ek] at *;refine⟨JF,λF0 n9=>?_⟩;have s1:Zv H (upd H r0 (.rng 0 (k:Int))):=Zv.upd t5;have s2:=s1.trans (Zv.upd (o:=.tup ((Y3 0 k).map V.int)) hl);have s3:=s2.trans (Zv.upd (o:=.lst [.ref l]) n9);have nF:H F0=none:=s2.free n9;have el:(Y3 0 k).map V.int=(ac k).map nV:=by
   unfold Y3;rw[aH];refine aW λi _=>?_;show V.int (0+(i:Int))=nV i;rw[cq];rfl
  have R1:TupsAt (upd (upd (upd H r0 (.rng 0 (k:Int))) l (.tup ((Y3 0 k).map V.int))) F0 (.lst [.ref l])) F0 [l] [ac k]:=by
   refine⟨Zu,rfl,λi b hb=>?_⟩;cases i with
   |zero=>
    cases hb;rw[Zz (λz=>by rw[<-z,Zu] at n9;cases n9),Zu,el];rfl
   |succ i=>cases hb
  have g0:∀y∈[ac k],Gk k y:=λy hy=>by
   rw[aS.mp hy];exact⟨Zg,λx hx=>af.mp hx⟩
  refine Yh (λm n6 H'=>∃(at':Nat) (bs:TW) (M:T9) (v3 v4 v5:TU),n6=[some (.ref pl),some (.ref F0),some (.int at'),v3,v4,v5]/\Zv H H'/\TupsAt H' F0 bs M/\(∀y∈M,Gk k y)/\m+at'=61/\bfs O m at' M=m5)
   (λn6 H'=>∃(at':Nat) (bs:TW) (v3 v4 v5:TU),n6=[some (.ref pl),some (.ref F0),some (.int at'),v3,v4,v5]/\Zv H H'/\TupsAt H' F0 bs m5/\(∀y∈m5,Gk k y)) ?hend ⟨61,0,_,_,_,_,_,rfl,s3,R1,g0,rfl,B.fin⟩ ?turn
  case turn=>
   rintro o7 m n6 H' ⟨at',bs,M,v3,v4,v5,rfl,sm,R,gd,hm,hb⟩;have bl:(bs.map V.ref).length=M.length:=by rw[Za,R.2.1]
   refine⟨_,rfl,_,rfl,F0,_,rfl,.inl (.of R.1),_,_,rfl,rfl,_,rfl,?_⟩;rw[bl];refine YE (λh1=>?_) (λh1=>?_)
   ·have Y:at'<M.length:=by
     have:=of_decide_eq_true h1;omega
    cases m with
    |zero=>
     have hb:M=m5:=hb;rw[hb] at Y;omega
    |succ m=>
     rw[bfs,if_pos Y] at hb;have p7:(Y6 (M.getD at' []) O M).length<=60:=by
      have:=ZfN O m (at'+1) (Y6 (M.getD at' []) O M);rw[hb] at this;omega
     have o8:Gk k (M.getD at' []):=gd _ (ZbK Y);generalize o9:M.getD at' []=J at *;have t6:(p3.map V.ref).length=O.length:=by rw[Za,R0.2.1]
     obtain⟨m6,_,p8,q0⟩:=R.get Y;rw[o9] at q0;refine⟨_,λ_ _ z=>z,_,rfl,_,rfl,F0,_,_,_,rfl,rfl,.of R.1,p8,_,rfl,_,_,rfl,rfl,_,rfl,pl,rfl,⟨_,.of (sm _ _ R0.1)⟩,?_⟩;refine WQ (H0:=H) (Ys (K:=K) (.of R0.1)) (λi τ HH=>∃(m8:TW) (w3 w4:TU),τ=[some (.ref pl),some (.ref F0),some (.int ((at':Int)+1)),some (.ref m6),w3,w4]/\Zv H HH/\HH m6=some (.tup (J.map nV))/\TupsAt HH F0 m8 (Y6 J (O.take i) M)/\(∀y∈Y6 J (O.take i) M,Gk k y))
      ⟨bs,v4,v5,rfl,sm,q0,R,gd⟩ (λi τ HH h=>h.choose_spec.choose_spec.choose_spec.2.1) ?_ ?_
     ·rintro i y τ HH hy ⟨m8,w3,w4,rfl,sH,hH,R',n8⟩
      obtain⟨b,rfl,hi,r6⟩:=R0.ref hy;have r8:=sH _ _ r6;have gg:Gk k (O.getD i []):=p4 _ (ZbK hi);have pi:O[i]?=some (O.getD i []):=getL hi;generalize O.getD i []=gp at *;have w8:(Y6 J (O.take i) M).length<=60:=a8 (ZdK J O M i) p7;have t8:at'<(Y6 J (O.take i) M).length:=aC Y (Xt J _ M);have t9:(Y6 J (O.take i) M).getD at' []=J:=by rw[Zcx J _ _ Y,o9]
      have o0:=ZdJ J (fd:=M) pi;generalize Y6 J (O.take i) M=zs at *;have gl:=gg.1;have cl:=o8.1;refine⟨_,rfl,b,rfl,⟨_,.of r8⟩,?_⟩;refine JC (Wa (.of r8)) [some (.ref m6)] rfl (Zi4 J) (by rw[Za,gl];omega) (λj x HC hx sC w9 g2=>?_) (λD HD nD sD hD=>?_)
      ·obtain⟨c,hc,rfl⟩:=XY hx
       have x9:c<k:=gg.2 c (aB hc);refine⟨_,rfl,_,rfl,m6,_,_,_,rfl,rfl,.of (sC _ _ hH),Zl2 (by omega),?_⟩;have:=g2 HC (Zv.refl _);have e:Zi4 J (.int (c:Nat))=nV (J.getD c 0):=by
        show nV (J.getD (c:Int).toNat 0)=_;rw[Zj]
       rw[e] at this;exact this
      ·rw[Zdj] at hD
       refine⟨D,_,rfl,.inl ⟨.of hD,λtp t7=>?_⟩⟩;have sE:=sD.trans (Zv.upd (o:=.tup ((XI J gp).map nV)) t7);have hE:upd HD tp (.tup ((XI J gp).map nV)) tp=some (.tup ((XI J gp).map nV)):=Zu;generalize upd HD tp (.tup ((XI J gp).map nV))=HE at sE hE ⊢;have RE:=R'.mono sE;have go:Gk k (XI J gp):=Zjq o8 gg;have ey:(zs.map λns=>cx ((nI ns).map aV))=(zs.map nI).map λns=>cx (ns.map aV):=by rw[aH];rfl
       refine⟨_,rfl,_,rfl,F0,_,(zs.map λns=>cx ((nI ns).map aV)),.tuple ((nI (XI J gp)).map aV),rfl,.inl (.of RE.1),Ze1 _ _ RE.2.1 RE.2.2,.tup (.of (by rw[Znm];exact hE)) (WH.ints _),by rw[ey];exact WF _,X9 _,ZaT _,_,rfl,?_⟩;rw[if_pos rfl,Zci];have zl:=RE.2.1;refine YE (λh2=>?_) (λh2=>?_)
       ·have h2:zs.contains (XI J gp)=false:=by simpa using h2
        have e3:Vy zs (XI J gp)=zs++[XI J gp]:=by
         unfold Vy;rw[if_neg (by rw[h2];decide)]
        refine⟨_,rfl,.inl ⟨rfl,_,.of RE.1⟩,_,rfl,F0,_,_,rfl,rfl,RE.1,by rw[Za];omega,?_⟩;refine⟨m8++[tp],_,_,rfl,(sH.trans sE).updr nF,by rw[Zz (λz=>by have:=sE _ _ hH;rw[z,RE.1] at this;cases this)];exact sE _ _ hH,?_,?_⟩
        ·rw[o0,e3];exact RE.push hE
        ·rw[o0];exact ZgQ n8 go
       ·have h2:zs.contains (XI J gp)=true:=by simpa using h2
        have e3:Vy zs (XI J gp)=zs:=by
         unfold Vy;rw[if_pos h2]
        exact⟨m8,_,_,rfl,sH.trans sE,sE _ _ hH,by rw[o0,e3];exact RE,by rw[o0,e3];exact n8⟩
     ·rintro τ HH ⟨m8,w3,w4,rfl,sH,hH,R',n8⟩
      rw[t6,cU] at R' n8;exact⟨m,by omega,at'+1,m8,_,_,_,_,by rw[eY];rfl,sH,R',n8,by omega,hb⟩
   ·have Y:¬at'<M.length:=λz=>h1 (decide_eq_true (by omega))
    have e:M=m5:=by
     cases m with
     |zero=>exact hb
     |succ m=>rw[bfs,if_neg Y] at hb;exact hb
    subst e;exact o7 _ _ ⟨at',bs,v3,v4,v5,rfl,sm,R,gd⟩
  case hend=>
   rintro n6 H1 ⟨at',bs,v3,v4,v5,rfl,sm,R,gd⟩;exact⟨_,rfl,q F0 bs H1 sm R⟩
end
end C47
namespace Pm
open PySem L2 PySem.Spec PyProof.Rows
open Tb
def kvF (fd:T9)(m:Nat):List (List YQ×V):=(ac m).map λi=>(X2 (fd.getD i []),.int (i:Nat))
theorem Zk8 (fd:T9)(m:Nat):(kvF fd m).length=m:=by unfold kvF;rw[Za,Zg]
theorem Zk7 {fd:T9}(J:fd.Nodup){m:Nat}(M:m<fd.length):WP (kvF fd m) (X2 (fd.getD m [])) (.int (m:Nat))=kvF fd (m+1):=by
 have:(kvF fd m).any (λq=>decide (q.1=X2 (fd.getD m [])))=false:=by
  rw[gy];intro h;rw[aU] at h;obtain⟨q,j,e⟩:=h;obtain⟨i,hi,rfl⟩:=aE.mp j;have hi:=af.mp hi;have:=ZiZ J (by omega) M (Zdb (of_decide_eq_true e));omega
 unfold WP;rw[this];unfold kvF;rw[bG,aO];rfl
theorem Zi3 {fd:T9}{y:T7}(q:y∈fd):fd.findIdx (· == y)<fd.length/\fd.getD (fd.findIdx (· == y)) []=y:=by
 have j:fd.findIdx (· == y)<fd.length:=cB.mpr ⟨y,q,beq_self_eq_true y⟩;refine⟨j,?_⟩;have:=dR (p:=(· == y)) (w:=j);rw[Zb,Zf j];exact eq_of_beq this
theorem Zk6 {fd:T9}(J:fd.Nodup){y:T7}(M:y∈fd):YZ (kvF fd fd.length) (X2 y)=some (.int (fd.findIdx (· == y):Nat)):=by
 obtain⟨q,p2⟩:=Zi3 M;unfold YZ kvF;rw[List.find?_map];have:(ac fd.length).find? ((λO:List YQ×V=>decide (O.1=X2 y)) ∘ λi:Nat=>((X2 (fd.getD i []),V.int (i:Nat)):List YQ×V))=some (fd.findIdx (· == y)):=by
  rw[j3];refine⟨decide_eq_true (show X2 (fd.getD (fd.findIdx (· == y)) [])=X2 y by rw[p2]),af.mpr q,λj Y=>?_⟩;rw[ff];refine decide_eq_false λh=>?_;have:=ZiZ J (by omega) q ((Zdb h).trans p2.symm);omega
 rw[this];rfl
theorem ZjW {fd:T9}{i:Nat}(J:i<fd.length):(Wb fd).getD i []=(ac fd.length).map λj=>fd.findIdx (· == XI (fd.getD i []) (fd.getD j [])):=by
 unfold Wb;rw[Zb,Zc,getL J];show fd.map (λb=>fd.findIdx (· == XI (fd.getD i []) b))=_;refine a7 λj=>?_;rw[Zc,Zc];by_cases q:j<fd.length
 ·rw[getL q,aj q]
  rfl
 ·rw[ak (by omega),ak (by rw[Zg];omega)]
  rfl
theorem ZdZ {H:Hp}{L:Addr}{bs:TW}{fd:T9}{Q:VK}(R:TupsAt H L bs fd)(n6:fd.length<64)(m5:∀y∈fd,y≠[])(q:∀D cs O H',Zv H H'->H D=none->TupsAt H' D cs O->Srt O->bD O fd->Q (.ref D) H'):Zd7 true [.ref L] H Q:=by
 have hl:bs.length=fd.length:=R.2.1;refine⟨L,bs,fd.map nI,rfl,R.1,by rw[hl,Za],by omega,λi a ha=>?_,λD M nD pj hs=>?_⟩
 ·have hi:=(ae.mp ha).1
  have Y:i<fd.length:=by omega
  have h:=R.2.2 i a ha;refine⟨nI (fd.getD i []),by rw[Zc,getL Y];rfl,λz=>?_,?_⟩
  ·refine m5 _ (ZbK Y) ?_
   unfold nI at z;exact lR.mp z
  ·show H a=some (.tup ((nI (fd.getD i [])).map V.int))
   rw[Znm];exact h
 ·have hj:∀j∈M,j<fd.length:=λj hj=>by
   have:=af.mp (pj.mem_iff.mp hj);omega
  have s:=Zv.upd (H:=H) (o:=.lst ((M.map λi=>bs.getD i 0).map V.ref)) nD;refine q D (M.map λi=>bs.getD i 0) (M.map λi=>fd.getD i []) _ s nD ⟨Zu,by rw[Za,Za],λi b hb=>?_⟩ ?_ ?_
  ·rw[Zc] at hb
   cases J:M[i]? with
   |none=>rw[J] at hb;cases hb
   |some j=>
    rw[J] at hb;have hb:bs.getD j 0=b:=aA hb;have n8:=hj j (aB J);have m6:bs[j]?=some (bs.getD j 0):=by rw[Zb,Zf (show j<bs.length by omega)];rfl
    have:=s _ _ (R.2.2 j _ m6);rw[hb] at this;rw[Zb (l:=M.map _),Zc,J];exact this
  ·unfold Srt
   rw[aH];have e:M.map (nI ∘ λi=>fd.getD i [])=M.map λi=>(fd.map nI).getD i []:=aW λj m8=>by
    show nI (fd.getD j [])=_;rw[Zb (l:=fd.map nI),Zc,getL (hj j m8)];rfl
   rw[e];exact hs
  ·have:=pj.map λi=>fd.getD i []
   rw[hl] at this;have e:(ac fd.length).map (λi=>fd.getD i [])=fd:=by
    refine a7 λi=>?_;rw[Zc];by_cases hi:i<fd.length
    ·rw[aj hi,getL hi];rfl
    ·rw[ak (by rw[Zg];omega),ak (by omega)];rfl
   rwa [e] at this
def ZgO (H:Hp)(W:Addr):Hp:=λb=>if b=W then none else H b
theorem Zcf {H:Hp}{W b:Addr}{o:HO}(h:H b=some o)(hb:b≠W):ZgO H W b=some o:=by unfold ZgO;rw[if_neg hb];exact h
theorem Zfe {H:Hp}{W b:Addr}{o:HO}(h:ZgO H W b=some o):b≠W/\H b=some o:=by
 unfold ZgO at h;by_cases z:b=W
 ·rw[if_pos z] at h;cases h
 ·rw[if_neg z] at h
  exact⟨z,h⟩
end Pm
namespace C47
open PySem L2 PySem.Spec PyProof.Rows
open Tb Pm
structure ZpQ (k:Nat)(fs:T9):Prop where
 k1:1<=k
 k9:k<=9
 n60:fs.length<=60
 nd:fs.Nodup
 st:Srt fs
 gk:∀g∈fs,Gk k g
 cl:∀a∈fs,∀b∈fs,XI a b∈fs
inductive Zba (vs:TV) (H:Hp) (Q:VK) (E03:XK):Prop
 |mk (L:Addr) (bs:TW) (fd fs:T9) (k:Nat):(vs=[.ref L])->(TupsAt H L bs fd)->(fd.Perm fs)->(ZpQ k fs)->(∀g H',Zv H H'->GT H' g (Wb fs)->Q (.ref g) H')->Zba vs H Q E03
section
variable {P:Program}{w:World}{K:aa}{mg:TX}{base:Heap}
theorem Zgd {f:Addr}{fd:FuncData}(F:WA K "_law_times_of" "_law_times_of" Zd2 f fd)(T:BlB mg):Z8 P w K mg base Yd 1 f fd ["_law_perms"] Zba:=by
 refine F.ok (FS (N:=["_law_perms", "_law_numbers", "_law_things", "_law_k", "_law_rows_here", "_law_one"])) (λvs H Q E h=>?_) (λp6 A p7 s H vs Q E hr h=>?_)
 ·obtain⟨L,bs,fd,fs,k,rfl,_⟩:=h;rfl
 ·obtain⟨L,bs,fd,fs,k,rfl,R0,pm,Z,q⟩:=h
  have hu:(A.deeper (envOfC "_law_times_of" (Z1 Zd2) s.heap.objs.size f p6)).units+1<cLine:=by have:=hr.un;omega
  refine⟨_,Zs (ZH 1 rfl Zh9)
   (Zs (ZH 2 rfl (cb (Zev true hr.units) T.sorted (pc (vn 0) Zt)))
   (Zs (ZN am rfl (WI T.range (pc (cb (Yt K) T.len (pc (vn 2) Zt)) Zt)) (gn 3)
    (Zw (Xu hu (vn 1) (ZD (Jb K) (vn 2) (vn 3) (λ_ _=>rfl)) (vn 3) (by rfl))))
   (Zs (ZH 4 rfl (ZR Zt))
   (Zs (ZN am rfl (itL K (vn 2)) (gnf 5 rfl)
    (Zw (YG (WC aJ aQ aR Ye (vn 4) (pc (ct (Zg6 K) T.tuple (pc (cmp ["_law_other"] [1,5] ["_law_other", "_law_numbers", "_law_one"] rfl (itL K (vn 2)) (λ_ _ _ _ _=>gn 0) (λ_ _ _ _ _=>ZM)
     (λ_ _ _ _ _=>Ww hu (vn 1) (ct (tupK K) (by exact T.tuple) (pc (cmp ["_law_place"] [2] ["_law_place", "_law_one"] rfl (itT K (vn 0)) (λ_ _ _ _ _=>gn 0) (λ_ _ _ _ _=>ZM) (λ_ _ _ _ _=>ZD (JW K) (vn 1) (vn 0) (λ_ _=>rfl))) Zt)) (λ_ _=>rfl))) Zt)) Zt)))))
   (Zw (ZK (ct ZY T.tuple (pc (vn 4) Zt)))))))),?_⟩
  have sz:=JE;have u5:=Z.n60;have k1:=Z.k1;have k9:=Z.k9;have fl:=pm.length_eq;intro O o0;have s1:=Zv.upd (H:=H) (o:=.dT []) o0;have m5:upd H O (.dT []) O=some (.dT []):=Zu;generalize upd H O (.dT [])=H1 at s1 m5 ⊢;refine⟨_,rfl,?_⟩;unfold Zha
  try dsimp only
  refine ZdZ (R0.mono s1) (by omega) (λy hy z=>?_) λTh cs J H2 s2 p8 R2 hs pz=>?_
  ·have:=(Z.gk y (pm.mem_iff.mp hy)).1
   rw[z] at this;simp at this;omega
  have ez:J=fs:=hs.eq Z.st (pz.trans pm);subst ez;have q0:=s1.trans s2;have o7:=s2 _ _ m5;have r6:O≠Th:=λz=>by rw[z,p8] at m5;cases m5
  have cl:(cs.map V.ref).length=J.length:=by rw[Za,R2.2.1]
  refine⟨_,rfl,Th,_,rfl,.inl (.of R2.1),_,rfl,by rw[cl];omega,by rw[cl];omega,?_⟩;rw[cl,Zj];have kT:∀{Y:Hp},Zv (ZgO H2 O) Y->TupsAt Y Th cs J:=λ{Y} sm=>⟨sm _ _ (Zcf R2.1 (bd r6)),R2.2.1,λi b hb=>sm _ _ (Zcf (R2.2.2 i b hb) λz=>by have:=R2.2.2 i b hb;rw[z,o7] at this;cases this)⟩;refine Z0 (λi M Y=>∃v3 v4 v5:TU,M=[some (.ref L),some (.ref O),some (.ref Th),v3,v4,v5]/\Zv (ZgO H2 O) Y/\Y O=some (.dT (kvF J i))) ⟨_,_,_,rfl,λb o hb=>(Zfe hb).2,o7⟩ ?_ ?_
  ·rintro i M H3 hi ⟨v3,v4,v5,rfl,s3,m6⟩
   rw[show (0:Int)+(i:Int)=(i:Int) by omega];have R3:=kT s3;obtain⟨b,hb,r8,r9⟩:=R3.get hi;refine⟨_,rfl,_,rfl,_,rfl,_,rfl,Th,_,_,_,rfl,rfl,.of R3.1,r8,O,_,rfl,VW.t (k:=X2 (J.getD i [])) m6 (by rw[ZiG];exact r9) (by rw[Zk8];omega),?_⟩;rw[Zk7 Z.nd hi];refine⟨_,_,_,rfl,λb o hb=>?_,Zu⟩;rw[Zz (Zfe hb).1];exact s3 b o hb
  ·rintro M H3 ⟨v3,v4,v5,rfl,s3,m6⟩
   have R3:=kT s3;have o8:Zv H H3:=λb o hb=>s3 b o (Zcf (q0 _ _ hb) λz=>by rw[z,o0] at hb;cases hb);refine⟨JF,λLr m8=>?_⟩;have s4:=Zv.upd (H:=H3) (o:=.lst []) m8;have h4:upd H3 Lr (.lst []) Lr=some (.lst ([]:TV)):=Zu;have u9:H Lr=none:=o8.free m8;generalize upd H3 Lr (.lst [])=H4 at s4 h4 ⊢;have R4:=R3.mono s4;refine⟨_,rfl,Th,rfl,⟨_,.of R4.1⟩,?_⟩;refine WQ (H0:=H3) (Ys (K:=K) (.of R3.1)) (λi M Y=>∃(rs:TW) (v5:TU),M=[some (.ref L),some (.ref O),some (.ref Th),v3,some (.ref Lr),v5]/\Zv H3 Y/\Y Lr=some (.lst (rs.map V.ref))/\rs.length=i/\∀(j:Nat) x,rs[j]?=some x->Tz Y x (((Wb J).getD j []).map nV))
    ⟨[],_,rfl,s4,h4,rfl,λj x h=>by cases h⟩ (λi M Y h=>by
     obtain⟨_,_,_,sm,_⟩:=h;exact sm) ?_ ?_
   ·rintro i y M H5 hy ⟨rs,v5,rfl,s5,h5,rl,n6⟩
    obtain⟨c,rfl,hi,hc⟩:=R3.ref hy;have R5:=R3.mono s5;have t5:=s5 _ _ hc;have gi:=Z.gk _ (ZbK hi);have mi:=ZbK hi;have et:=ZjW hi;refine⟨_,rfl,.inl ⟨rfl,_,.of h5⟩,_,rfl,Th,rfl,⟨_,.of R5.1⟩,?_⟩;refine Pm.YI (Ys (K:=K) (.of R5.1)) [some (.ref O),some (.ref c)] rfl (λj=>nV (J.findIdx (· == XI (J.getD i []) (J.getD j [])))) (by rw[cl];omega) (λj y' t6 H6 s6 R' k6=>?_) (λD6 H6 w8 s6 o9=>?_)
    ·obtain⟨d,rfl,hj,hd⟩:=R5.ref t6
     have gj:=Z.gk _ (ZbK hj);have mj:=ZbK hj;have n8:=s6 _ _ hd;have p3:=s6 _ _ t5;have fin:=k6;generalize J.getD i []=x at gi mi p3 fin;generalize J.getD j []=y at gj mj n8 fin;refine⟨_,rfl,_,rfl,d,rfl,⟨_,.of n8⟩,?_⟩;refine JC (Wa (K:=K) (.of n8)) [some (.ref c)] rfl (Zi4 x) (by rw[Za,gj.1];omega) (λu v H7 hv s7 w9 k7=>?_) (λD7 H7 x9 s7 p4=>?_)
     ·obtain⟨e,he,rfl⟩:=XY hv
      have t7:e<k:=gj.2 e (aB he);refine⟨_,rfl,_,rfl,c,_,_,_,rfl,rfl,.of (s7 _ _ p3),Zl2 (by rw[gi.1];exact t7),?_⟩;have:=k7 H7 (Zv.refl _);have e2:Zi4 x (.int (e:Nat))=nV (x.getD e 0):=by
       show nV (x.getD (e:Int).toNat 0)=_;rw[Zj]
      rw[e2] at this;exact this
     ·rw[Zdj] at p4
      refine⟨D7,_,rfl,.inl ⟨.of p4,λtp t8=>?_⟩⟩;have s8:=s7.trans (Zv.upd (H:=H7) (o:=.tup ((XI x y).map nV)) t8);have h8:upd H7 tp (.tup ((XI x y).map nV)) tp=some (.tup ((XI x y).map nV)):=Zu;generalize upd H7 tp (.tup ((XI x y).map nV))=H8 at s8 h8 ⊢;have t9:=((s5.trans s6).trans s8) _ _ m6;have dg:=Ji.t (k:=X2 (XI x y)) t9 (by rw[ZiG];exact h8);rw[Zk6 Z.nd (Z.cl x mi y mj)] at dg;exact⟨O,_,rfl,dg,fin H8 s8⟩
    ·rw[cl] at o9
     refine⟨D6,_,rfl,.of o9,λl H7 nl s7 hz=>?_⟩;have n9:=s6.trans s7;have h7:=n9 _ _ h5;refine⟨Lr,_,_,rfl,rfl,h7,by rw[Za,rl];omega,?_⟩;refine⟨rs++[l],_,rfl,(s5.trans n9).updr m8,by rw[Zu,aO];rfl,by rw[Zd,rl];rfl,λj x hx=>?_⟩;by_cases hj:j<rs.length
     ·rw[aq hj] at hx
      exact Tz.updL ((n6 j x hx).mono n9) h7
     ·have hl:=(ae.mp hx).1
      rw[Zd,Zk] at hl;have ej:j=rs.length:=by omega
      rw[au (by omega),ej,cn] at hx;cases hx;have ez:((ac J.length).map λj=>nV (J.findIdx (· == XI (J.getD i []) (J.getD j []))))=((Wb J).getD rs.length []).map nV:=by rw[rl,et,aH];rfl
      rw[ej];rw[ez] at hz;exact Tz.updL hz h7
   ·rintro M H5 ⟨rs,v5,rfl,s5,h5,rl,n6⟩
    rw[cl] at rl;refine⟨_,rfl,Lr,_,rfl,.inl ⟨.of h5,λg ng=>?_⟩⟩;have s6:=Zv.upd (H:=H5) (o:=.tup (rs.map V.ref)) ng;exact q g _ ((o8.trans s5).trans s6) ⟨rs,Zu,by unfold Wb;rw[Za,rl],λi x hx=>(n6 i x hx).mono s6⟩
end
end C47
namespace Tb
section
variable {t:T9}
def Yc (t:T9)(a:Nat):Nat:=((ac t.length).find? λb=>ZQ t a b == 0).getD 0
theorem Z4 (P:PW t){a:Nat}(j:a<t.length):Yc t a<t.length/\ZQ t a (Yc t a)=0:=by
 obtain⟨r,R⟩:=P.rd a j;unfold Yc;cases h:(ac t.length).find? λb=>ZQ t a b == 0 with
 |none=>
  exfalso;rw[iR] at h;exact h _ (af.mpr (Jc P j (r-1))) (by rw[R.bk];rfl)
 |some b=>
  have q:=af.mp (gh h);have J:=jC h;exact⟨q,by simpa using J⟩
theorem Zjp (P:PW t){a r:Nat}(j:a<t.length)(R:Rd t a r):it t a (r-1)=Yc t a:=((R.un _ (Z4 P j).1 (Z4 P j).2)).symm
theorem JR (P:PW t){a b:Nat}(j:a<t.length)(hb:b<t.length)(h:ZQ t a b=0):b=Yc t a:=by
 obtain⟨r,R⟩:=P.rd a j;rw[<-Zjp P j R];exact R.un b hb h
theorem Za4 (P:PW t){a:Nat}(j:a<t.length):ZQ t (Yc t a) a=0:=by
 obtain⟨q,O⟩:=Z4 P j;obtain⟨J,M⟩:=Z4 P q;have e:a=Yc t (Yc t a):=by
  have:=P.ass a (Yc t a) (Yc t (Yc t a)) j q J;rw[O,M,P.one _ J,P.oneR a j] at this;exact this.symm
 conv=>lhs;rw[e]
 rw[<-e]
 conv=>lhs;rw[e]
 rw[<-e];rw[show ZQ t (Yc t a) a=ZQ t (Yc t a) (Yc t (Yc t a)) by rw[<-e]];exact M
def tb (t:T9)(b x:Nat):Nat:=ZQ t (ZQ t x b) (Yc t x)
theorem Vd (P:PW t){b x:Nat}(hb:b<t.length)(j:x<t.length):tb t b x<t.length:=P.lt _ _ (P.lt _ _ j hb) (Z4 P j).1
theorem Za6 (P:PW t){b:Nat}(hb:b<t.length):tb t b 0=b:=by
 have j:=P.n1;have e:Yc t 0=0:=(JR P (by omega) (by omega) (P.one 0 (by omega))).symm;unfold tb;rw[e,P.one b hb,P.oneR b hb]
theorem V9 (P:PW t){b x:Nat}(hb:b<t.length)(j:x<t.length):ZQ t (ZQ t (Yc t x) (tb t b x)) x=b:=by
 obtain⟨q,_⟩:=Z4 P j;have J:=Za4 P j;unfold tb;rw[<-P.ass (Yc t x) (ZQ t x b) (Yc t x) q (P.lt _ _ j hb) q,<-P.ass (Yc t x) x b q j hb,J,P.one b hb,P.ass b (Yc t x) x hb q j,J,P.oneR b hb]
theorem Za7 (P:PW t){b k x y:Nat}(hb:b<t.length)(hk:k<t.length)(q:x<t.length)(j:y<t.length)(h:tb t b x=tb t k y):∃z,z<t.length/\tb t b z=k:=by
 obtain⟨J,x2⟩:=Z4 P q;obtain⟨M,y2⟩:=Z4 P j;have yl:=Za4 P j;have Y:=P.lt _ _ M q;refine⟨ZQ t (Yc t y) x,Y,?_⟩;have e1:Yc t (ZQ t (Yc t y) x)=ZQ t (Yc t x) y:=by
  refine (JR P Y (P.lt _ _ J j) ?_).symm;rw[P.ass _ x _ M q (P.lt _ _ J j),<-P.ass x (Yc t x) y q J j,x2,P.one y j,yl]
 have O:=V9 P hk j;rw[<-h] at O;unfold tb at O ⊢;rw[e1,P.ass (Yc t y) x b M q hb,<-P.ass (ZQ t (Yc t y) (ZQ t x b)) (Yc t x) y (P.lt _ _ M (P.lt _ _ q hb)) J j,P.ass (Yc t y) (ZQ t x b) (Yc t x) M (P.lt _ _ q hb) J];exact O
def ZZ (t:T9)(b:Nat):T7:=(ac t.length).filter λa=>(ac t.length).any λx=>tb t b x == a
theorem Yf (P:PW t){b a:Nat}(hb:b<t.length):a∈ZZ t b↔∃x,x<t.length/\tb t b x=a:=by
 unfold ZZ;rw[ig,aU];constructor
 ·rintro⟨_,x,j,e⟩
  exact⟨x,af.mp j,by simpa using e⟩
 ·rintro⟨x,j,e⟩
  exact⟨af.mpr (e▸Vd P hb j),x,af.mpr j,by simpa using e⟩
theorem X6 {b a:Nat}(h:a∈ZZ t b):a<t.length:=af.mp (ig.mp h).1
theorem Zdq (b:Nat):(ZZ t b).Pairwise (· < ·):=cT lS hG
theorem ZfL (b:Nat):(ZZ t b).length<=t.length:=by
 have:=kU (λa=>(ac t.length).any λx=>tb t b x == a) (ac t.length);rw[Zg] at this;exact this
theorem YJ (P:PW t){b:Nat}(hb:b<t.length):b∈ZZ t b:=(Yf P hb).mpr ⟨0,by have:=P.n1;omega,Za6 P hb⟩
theorem Yq (P:PW t){b k a:Nat}(hb:b<t.length)(j:k<t.length)(q:a∈ZZ t b)(J:a∈ZZ t k):k∈ZZ t b:=by
 obtain⟨x,M,O⟩:=(Yf P hb).mp q;obtain⟨y,Y,e2⟩:=(Yf P j).mp J;exact (Yf P hb).mpr (Za7 P hb j M Y (O.trans e2.symm))
def ZA (t:T9):Nat->T9
 |0=>[]
 |k+1=>if (ZA t k).any (·.contains k) then ZA t k else ZA t k++[ZZ t k]
def Yz (j:T9)(a:Nat):Bool:=j.any (·.contains a)
theorem Jn (P:PW t):∀k,k<=t.length->∀c∈ZA t k,∃b,b<k/\c=ZZ t b
 |0,_,c,h=>by cases h
 |k+1,J,c,h=>by
  unfold ZA at h;split at h
  ·obtain⟨b,q,j⟩:=Jn P k (by omega) c h
   exact⟨b,by omega,j⟩
  ·rcases bH.mp h with h|h
   ·obtain⟨b,q,j⟩:=Jn P k (by omega) c h
    exact⟨b,by omega,j⟩
   ·exact⟨k,by omega,aS.mp h⟩
theorem Jg (P:PW t):∀k,k<=t.length->∀b,b<k->Yz (ZA t k) b=true
 |0,_,b,h=>by omega
 |k+1,q,b,h=>by
  unfold Yz ZA;split
  ·rename_i j
   by_cases e:b=k
   ·subst e;exact j
   ·exact Jg P k (by omega) b (by omega)
  ·rw[ij,aY]
   by_cases e:b=k
   ·subst e
    right;rw[cR,kw,gI];exact aw.mpr (YJ P (by omega))
   ·left
    exact Jg P k (by omega) b (by omega)
theorem Vv (P:PW t):∀k,k<=t.length->∀(i j:Nat) (c d:T7) (a:Nat),(ZA t k)[i]?=some c->(ZA t k)[j]?=some d->a∈c->a∈d->i=j
 |0,_,i,j,c,d,a,h,_,_,_=>by cases h
 |k+1,hk,i,j,c,d,a,J,q,Y,h4=>by
  have ih:=Vv P k (by omega);unfold ZA at J q;split at J
  ·rename_i hc
   rw[if_pos hc] at q;exact ih i j c d a J q Y h4
  ·rename_i hc
   rw[if_neg hc] at q;have O:∀c,c∈ZA t k->∀a,a∈c->a∈ZZ t k->False:=λc hm a ha m5=>by
    obtain⟨b,hb,rfl⟩:=Jn P k (by omega) c hm;have:=Yq P (by omega) (by omega) ha m5;exact hc (aU.mpr ⟨_,hm,aw.mpr this⟩)
   by_cases hi:i<(ZA t k).length
   ·rw[aq hi] at J
    by_cases hj:j<(ZA t k).length
    ·rw[aq hj] at q
     exact ih i j c d a J q Y h4
    ·rw[au (by omega)] at q
     have hd:d=ZZ t k:=by
      cases M:j-(ZA t k).length with
      |zero=>rw[M] at q;cases q;rfl
      |succ m=>rw[M] at q;cases q
     subst hd;exact (O c (aB J) a Y h4).elim
   ·rw[au (by omega)] at J
    have m6:c=ZZ t k/\i=(ZA t k).length:=by
     cases M:i-(ZA t k).length with
     |zero=>rw[M] at J;cases J;exact⟨rfl,by omega⟩
     |succ m=>rw[M] at J;cases J
    obtain⟨rfl,ei⟩:=m6;by_cases hj:j<(ZA t k).length
    ·rw[aq hj] at q
     exact (O d (aB q) a h4 Y).elim
    ·rw[au (by omega)] at q
     cases M:j-(ZA t k).length with
     |zero=>omega
     |succ m=>rw[M] at q;cases q
theorem Wr:∀k,(ZA t k).length<=k
 |0=>Zq _
 |k+1=>by
  have:=Wr k;unfold ZA;split
  ·omega
  ·rw[Zd,Zk];omega
end
section
variable {t:T9}
def sm (n:Nat)(f:Nat->Nat):Nat:=((ac n).map f).sum
theorem Yy {n:Nat}{f g:Nat->Nat}(h:∀x,x<n->f x=g x):sm n f=sm n g:=by
 unfold sm;rw[aW λx j=>h x (af.mp j)]
theorem Y1 (n:Nat)(f:Nat->Nat):sm (n+1) f=sm n f+f n:=by
 unfold sm;rw[bG,aO,List.sum_append];simp
theorem Zj4 (n:Nat):sm n (λ_=>0)=0:=by
 induction n with
 |zero=>rfl
 |succ n j=>rw[Y1,j]
theorem ZmF (n:Nat)(f g:Nat->Nat):sm n (λx=>f x+g x)=sm n f+sm n g:=by
 induction n with
 |zero=>rfl
 |succ n j=>rw[Y1,Y1,Y1,j];omega
theorem Zd1 (n k:Nat)(f:Nat->Nat):sm n (λx=>k*f x)=k*sm n f:=by
 induction n with
 |zero=>rfl
 |succ n j=>rw[Y1,Y1,j,jz]
theorem Zj5 (n m:Nat)(f:Nat->Nat->Nat):sm n (λx=>sm m λy=>f x y)=sm m (λy=>sm n λx=>f x y):=by
 induction n with
 |zero=>exact (Zj4 m).symm
 |succ n j=>
  rw[Y1,j,<-ZmF];exact Yy λy _=>(Y1 n λx=>f x y).symm
theorem Zbo {n:Nat}{c d:Nat->Nat}(M:∀x,x<n->c x<n)(O:∀x,x<n->d x<n)(q:∀x,x<n->d (c x)=x)(Y:∀x,x<n->c (d x)=x)(f:Nat->Nat):sm n (λx=>f (c x))=sm n f:=by
 unfold sm;have hp:bD ((ac n).map c) (ac n):=by
  refine (cD ?_ cY).mpr λk=>?_
  ·unfold List.Nodup
   rw[gw];refine dH (λ{a b} ha hb j z=>j ?_) cY;rw[<-q a (af.mp ha),z,q b (af.mp hb)]
  ·rw[aE]
   constructor
   ·rintro⟨x,hx,rfl⟩
    exact af.mpr (M x (af.mp hx))
   ·intro J
    exact⟨d k,af.mpr (O k (af.mp J)),Y k (af.mp J)⟩
 have:=(hp.map f).sum_nat;rw[aH] at this;exact this
theorem ZjV (P:PW t){s:Nat}(q:s<t.length)(f:Nat->Nat):sm t.length (λx=>f (tb t x s))=sm t.length f:=by
 obtain⟨J,O⟩:=Z4 P q;have M:=Za4 P q;have e:Yc t (Yc t s)=s:=(JR P J q M).symm;refine Zbo (c:=λx=>tb t x s) (d:=λx=>tb t x (Yc t s)) (λx j=>Vd P j q) (λx j=>Vd P j J) (λx j=>?_) (λx j=>?_) f
 ·show tb t (tb t x s) (Yc t s)=x
  have:=V9 P j q;unfold tb at this ⊢;rw[e];exact this
 ·show tb t (tb t x (Yc t s)) s=x
  have:=V9 P j J;rw[e] at this;unfold tb at this ⊢;rw[e] at this ⊢;exact this
theorem ZdG (P:PW t){s x y:Nat}(j:s<t.length)(M:x<t.length)(J:y<t.length):tb t (ZQ t x y) s=ZQ t (tb t x s) (tb t y s):=by
 obtain⟨q,_⟩:=Z4 P j;have hl:=Za4 P j;have O:=P.lt _ _ j M;have Y:=P.lt _ _ j J;unfold tb;rw[P.ass (ZQ t s x) (Yc t s) (ZQ t (ZQ t s y) (Yc t s)) O q (P.lt _ _ Y q),<-P.ass (Yc t s) (ZQ t s y) (Yc t s) q Y q,<-P.ass (Yc t s) s y q j J,hl,P.one y J,<-P.ass s x y j M J,P.ass (ZQ t s x) y (Yc t s) O J q]
theorem Xr (P:PW t){s:Nat}(j:s<t.length):tb t 0 s=0:=by
 have q:=P.n1;unfold tb;rw[P.oneR s j,(Z4 P j).2]
theorem Zmw (P:PW t){s x:Nat}(j:s<t.length)(q:x<t.length):Yc t (tb t x s)=tb t (Yc t x) s:=by
 obtain⟨J,M⟩:=Z4 P q;refine (JR P (Vd P q j) (Vd P J j) ?_).symm;rw[<-ZdG P j q J,M,Xr P j]
theorem ZiA (P:PW t){x:Nat}(q:x<t.length)(F:Nat->Nat->Nat):sm t.length (λy=>F y (ZQ t x y))=sm t.length (λw=>F (ZQ t (Yc t x) w) w):=by
 obtain⟨J,O⟩:=Z4 P q;have M:=Za4 P q;have:=Zbo (c:=λy=>ZQ t x y) (d:=λy=>ZQ t (Yc t x) y) (λy j=>P.lt _ _ q j) (λy j=>P.lt _ _ J j) (λy j=>by
  show ZQ t (Yc t x) (ZQ t x y)=y;rw[<-P.ass _ _ _ J q j,M,P.one y j]) (λy j=>by
  show ZQ t x (ZQ t (Yc t x) y)=y;rw[<-P.ass _ _ _ q J j,O,P.one y j]) (λw=>F (ZQ t (Yc t x) w) w)
 rw[<-this];refine Yy λy j=>?_;show F y (ZQ t x y)=F (ZQ t (Yc t x) (ZQ t x y)) (ZQ t x y);rw[<-P.ass _ _ _ J q j,M,P.one y j]
def Xg (b:Bool):Nat:=if b then 1 else 0
theorem Zhr {n z:Nat}(hz:z<n)(f:Nat->Nat):sm n (λw=>Xg (decide (w=z))*f w)=f z:=by
 have j:∀m,m<=n->sm m (λw=>Xg (decide (w=z))*f w)=if z<m then f z else 0:=λm=>by
  induction m with
  |zero=>intro _;rfl
  |succ m q=>
   intro J;rw[Y1,q (by omega)];by_cases e:m=z
   ·subst e
    rw[if_neg (bK _),if_pos (cC _),decide_eq_true rfl];show 0+1*f m=f m;omega
   ·rw[decide_eq_false e]
    show _+0*f m=_;by_cases h:z<m
    ·rw[if_pos h,if_pos (by omega)];omega
    ·rw[if_neg h,if_neg (by omega)];omega
 rw[j n (Zq _),if_pos hz]
def cnA (t:T9)(q:Nat->Nat)(i j z:Nat):Nat:=sm t.length λx=>Xg (decide (q x=i))*Xg (decide (q (ZQ t (Yc t x) z)=j))
section
variable {nu:Nat->Nat}
theorem ZgJ (P:PW t){i j z:Nat}(hz:z<t.length):sm t.length (λx=>sm t.length λy=>Xg (decide (nu x=i))*(Xg (decide (nu y=j))*Xg (decide (ZQ t x y=z))))=cnA t nu i j z:=by
 unfold cnA;refine Yy λx q=>?_;rw[Zd1,ZiA P q (λy w=>Xg (decide (nu y=j))*Xg (decide (w=z)))];congr 1;have:sm t.length (λw=>Xg (decide (nu (ZQ t (Yc t x) w)=j))*Xg (decide (w=z)))=sm t.length (λw=>Xg (decide (w=z))*Xg (decide (nu (ZQ t (Yc t x) w)=j))):=Yy λw _=>dw _ _;rw[this,Zhr hz λw=>Xg (decide (nu (ZQ t (Yc t x) w)=j))]
end
end
structure Nus (t:T9)(nu rep:Nat->Nat)(N:Nat):Prop where
 lt:∀x,x<t.length->nu x<N
 con:∀x s,x<t.length->s<t.length->nu (tb t x s)=nu x
 tr:∀x y,x<t.length->y<t.length->nu x=nu y->∃s,s<t.length/\tb t x s=y
 rl:∀k,k<N->rep k<t.length
 rn:∀k,k<N->nu (rep k)=k
 z:∀x,x<t.length->(nu x=0↔x=0)
section
variable {t:T9}{nu rep:Nat->Nat}{N:Nat}
end
section
variable {t1 t2 T:T9}
end
section
variable {t:T9}{On:Nat->T7}{n:Nat}
end
section
variable {t:T9}{o:T7}
end
section
variable {t:T9}{o o2:T7}
def Yg (t:T9)(b:Nat):Nat:=(ZA t t.length).findIdx (·.contains b)
theorem U5 (P:PW t){b:Nat}(hb:b<t.length):Yg t b<(ZA t t.length).length/\b∈(ZA t t.length).getD (Yg t b) []:=by
 have q:=Jg P t.length (Zq _) b hb;unfold Yz at q;obtain⟨c,J,hm⟩:=aU.mp q;have j:(ZA t t.length).findIdx (·.contains b)<(ZA t t.length).length:=ja ⟨c,J,hm⟩;refine⟨j,?_⟩;have M:=dR (w:=j);unfold Yg;rw[Zb,Zf j];exact aw.mp M
theorem VL {α:Type}{l:List (List α)}{i:Nat}(h:i<l.length):l[i]?=some (l.getD i []):=by
 rw[Zb,Zf h];rfl
theorem Zb9 (P:PW t){b i:Nat}(hb:b<t.length)(j:i<(ZA t t.length).length)(q:b∈(ZA t t.length).getD i []):Yg t b=i:=by
 obtain⟨J,M⟩:=U5 P hb;exact Vv P t.length (Zq _) _ _ _ _ b (VL J) (VL j) M q
theorem U6 (P:PW t){i:Nat}(j:i<(ZA t t.length).length):∃b,b<t.length/\(ZA t t.length).getD i []=ZZ t b:=Jn P t.length (Zq _) _ (aB (VL j))
theorem Zjf (P:PW t){b x:Nat}(hb:b<t.length)(j:x<t.length):Yg t (tb t b x)=Yg t b:=by
 have M:=Vd P hb j;obtain⟨q,J⟩:=U5 P M;obtain⟨c,O,e⟩:=U6 P q;have Y:tb t b x∈ZZ t b:=(Yf P hb).mpr ⟨x,j,rfl⟩;rw[e] at J;have h4:=Yq P O hb J Y;exact (Zb9 P hb q (by rw[e];exact h4)).symm
theorem XE (P:PW t){i:Nat}(q:i<(ZA t t.length).length):((ZA t t.length).getD i []).getD 0 0∈(ZA t t.length).getD i []/\((ZA t t.length).getD i []).getD 0 0<t.length:=by
 obtain⟨b,hb,e⟩:=U6 P q;rw[e];have j:=YJ P hb;have:(ZZ t b).getD 0 0∈ZZ t b:=by
  cases h:ZZ t b with
  |nil=>rw[h] at j;cases j
  |cons x r=>exact ar
 exact⟨this,X6 this⟩
end
def ZG (t:T9)(k:Nat):Nat:=((ZA t t.length).getD k []).getD 0 0
section
variable {t:T9}
theorem JP (P:PW t){k:Nat}(j:k<(ZA t t.length).length):∃b,b<t.length/\(ZA t t.length).getD k []=ZZ t b:=by
 have q:(ZA t t.length).getD k []∈ZA t t.length:=by
  rw[Zb,Zf j];exact bn j
 exact Jn P t.length (Zq _) _ q
theorem ZeZ (P:PW t){k:Nat}(q:k<(ZA t t.length).length):ZG t k∈(ZA t t.length).getD k []:=by
 obtain⟨b,hb,e⟩:=JP P q;unfold ZG;rw[e];have j:=YJ P hb;cases h:ZZ t b with
 |nil=>rw[h] at j;cases j
 |cons x r=>exact ar
theorem ZhO (P:PW t){k:Nat}(j:k<(ZA t t.length).length):ZG t k<t.length:=by
 obtain⟨b,hb,e⟩:=JP P j;have:=ZeZ P j;rw[e] at this;exact X6 this
theorem ZcG (P:PW t){x y:Nat}(j:x<t.length)(M:y<t.length)(h:Yg t x=Yg t y):∃s,s<t.length/\tb t x s=y:=by
 obtain⟨hk,Y⟩:=U5 P j;obtain⟨_,O⟩:=U5 P M;rw[<-h] at O;obtain⟨b,hb,e⟩:=JP P hk;rw[e] at Y O;obtain⟨u,hu,eu⟩:=(Yf P hb).mp Y;have m5:x∈ZZ t x:=YJ P j;have J:b∈ZZ t x:=Yq P j hb m5 Y;have:y∈ZZ t x:=by
  obtain⟨v,hv,ev⟩:=(Yf P hb).mp O;obtain⟨q,hq,eq⟩:=(Yf P j).mp J;have m6:b∈ZZ t y:=Yq P M hb (YJ P M) O;have m8:y∈ZZ t x:=Yq P j M J m6;exact m8
 exact (Yf P j).mp this
theorem ZaW:∀k,(ZA t (k+1))[0]?=some (ZZ t 0)
 |0=>rfl
 |k+1=>by
  have j:=ZaW k;show (if (ZA t (k+1)).any (·.contains (k+1)) then ZA t (k+1) else ZA t (k+1)++[ZZ t (k+1)])[0]?=_
  split
  ·exact j
  ·rw[aq (ae.mp j).1]
   exact j
theorem U4 (P:PW t):Yg t 0=0:=by
 obtain⟨k,j⟩:∃k,t.length=k+1:=⟨t.length-1,by have:=P.n1;omega⟩;have h:=ZaW (t:=t) k;rw[<-j] at h;have q:=(ae.mp h).1;refine Zb9 P P.n1 q ?_;rw[Zb,h];exact YJ P P.n1
theorem YM (P:PW t):Nus t (Yg t) (ZG t) (ZA t t.length).length:=by
 have M:=U4 P;refine⟨λx j=>(U5 P j).1,λx s j J=>Zjf P j J,λx y j O h=>ZcG P j O h,λk q=>ZhO P q,λk q=>Zb9 P (ZhO P q) q (ZeZ P q),λx j=>⟨λh=>?_,λh=>by rw[h];exact M⟩⟩;obtain⟨s,J,e⟩:=ZcG P P.n1 j (M.trans h.symm);rw[Xr P J] at e;exact e.symm
end
def We (n:Nat)(f:Nat->Int):Int:=((ac n).map f).sum
theorem YH (n:Nat)(f:Nat->Int):We (n+1) f=We n f+f n:=by
 unfold We;rw[bG,aO,List.sum_append];simp
theorem Z9 {n:Nat}{f g:Nat->Int}(h:∀x,x<n->f x=g x):We n f=We n g:=by
 unfold We;rw[aW λx j=>h x (af.mp j)]
theorem J5 (n:Nat):We n (λ_=>0)=0:=by
 induction n with
 |zero=>rfl
 |succ n j=>rw[YH,j];rfl
theorem Zbq (n:Nat)(f g:Nat->Int):We n (λx=>f x+g x)=We n f+We n g:=by
 induction n with
 |zero=>rfl
 |succ n j=>rw[YH,YH,YH,j];omega
theorem JI (n:Nat)(k:Int)(f:Nat->Int):We n (λx=>k*f x)=k*We n f:=by
 induction n with
 |zero=>exact (bx k).symm
 |succ n j=>rw[YH,YH,j,lU]
theorem ZcC (n m:Nat)(f:Nat->Nat->Int):We n (λx=>We m λy=>f x y)=We m (λy=>We n λx=>f x y):=by
 induction n with
 |zero=>
  show (0:Int)=_;exact (J5 m).symm
 |succ n j=>
  rw[YH,j,<-Zbq];exact Z9 λy _=>(YH n _).symm
theorem Vi {n:Nat}{p:Int}{f g:Nat->Int}(h:∀x,x<n->f x % p=g x % p):We n f % p=We n g % p:=by
 induction n with
 |zero=>rfl
 |succ n j=>
  rw[YH,YH,Int.add_emod,j λx q=>h x (by omega),h n (by omega),<-Int.add_emod]
theorem ZeM {n z:Nat}(hz:z<n)(f:Nat->Int):We n (λw=>if w=z then f w else 0)=f z:=by
 induction n with
 |zero=>omega
 |succ n j=>
  rw[YH];by_cases e:z=n
  ·subst e
   rw[if_pos rfl];have:We z (λw=>if w=z then f w else 0)=We z (λ_=>0):=Z9 λx q=>if_neg (by omega)
   rw[this,J5,cq]
  ·rw[j (by omega),if_neg (λx=>e x.symm),a9]
theorem Zbp (n:Nat)(f:Nat->Nat):We n (λx=>(f x:Int))=(sm n f:Nat):=by
 induction n with
 |zero=>rfl
 |succ n j=>rw[YH,Y1,j];omega
def cjB (t:T9)(u x:Nat):Bool:=(ac t.length).any λy=>tb t u y == x
theorem X8 {t:T9}{u x:Nat}:cjB t u x=true↔∃y,y<t.length/\tb t u y=x:=by
 unfold cjB;rw[aU];constructor
 ·rintro⟨y,j,e⟩;exact⟨y,af.mp j,eq_of_beq e⟩
 ·rintro⟨y,j,e⟩;exact⟨y,af.mpr j,beq_iff_eq.mpr e⟩
structure PrM (p:Nat):Prop where
 p2:2<=p
 nz:∀a b,0<a->a<p->0<b->b<p->a*b % p≠0
 iv:∀a,0<a->a<p->∃b,0<b/\b<p/\b*a % p=1
structure CD (t:T9)(p m:Nat)(e w f:Nat->Nat->Nat):Prop where
 pr:PrM p
 m1:1<=m
 mc:m=(ZA t t.length).length
 ec:∀s x y,s<m->x<t.length->y<t.length->e s (tb t x y)=e s x
 wc:∀s x y,s<m->x<t.length->y<t.length->w s (tb t x y)=w s x
 elt:∀s x,s<m->x<t.length->e s x<p
 wlt:∀s x,s<m->x<t.length->w s x<p
 eig:∀s u z,s<m->u<t.length->z<t.length->sm t.length (λx=>Xg (cjB t u x)*e s (ZQ t (Yc t x) z)) % p=w s u*e s z % p
 one:∀x,x<t.length->sm m (λs=>e s x) % p=if x=0 then 1 else 0
 du:∀s s',s<m->s'<m->sm t.length (λx=>f s x*e s' x) % p=if s=s' then 1 else 0
 sep:∀s s',s<m->s'<m->(∀u,u<t.length->w s u=w s' u)->s=s'
section
variable {t:T9}{p m:Nat}{e w f:Nat->Nat->Nat}
theorem CD.p0 (C:CD t p m e w f):(p:Int)≠0:=by have:=C.pr.p2;omega
def EC (t:T9)(e:Nat->Nat->Nat)(s c:Nat):Nat:=e s (ZG t c)
theorem CD.at (C:CD t p m e w f)(P:PW t){s x:Nat}(J:s<m)(q:x<t.length):e s x=EC t e s (Yg t x):=by
 have U:=YM P;have j:=U.lt x q;obtain⟨y,M,h⟩:=U.tr (ZG t (Yg t x)) x (U.rl _ j) q (U.rn _ j);have:=C.ec s _ y J (U.rl _ j) M;rw[h] at this;exact this
theorem CD.wat (C:CD t p m e w f)(P:PW t){s x:Nat}(J:s<m)(q:x<t.length):w s x=w s (ZG t (Yg t x)):=by
 have U:=YM P;have j:=U.lt x q;obtain⟨y,M,h⟩:=U.tr (ZG t (Yg t x)) x (U.rl _ j) q (U.rn _ j);have:=C.wc s _ y J (U.rl _ j) M;rw[h] at this;exact this
theorem Zcb (P:PW t){u x:Nat}(j:u<t.length)(J:x<t.length):cjB t u x=decide (Yg t x=Yg t u):=by
 have U:=YM P;by_cases h:Yg t x=Yg t u
 ·rw[decide_eq_true h]
  exact X8.mpr (U.tr u x j J h.symm)
 ·rw[decide_eq_false h]
  cases q:cjB t u x with
  |false=>rfl
  |true=>
   obtain⟨y,M,e⟩:=X8.mp q;have:=U.con u y j M;rw[e] at this;exact absurd this h
theorem CD.LE (C:CD t p m e w f)(P:PW t){s i c:Nat}(J:s<m)(hi:i<m)(hc:c<m) :
  sm m (λj=>EC t e s j*cnA t (Yg t) i j (ZG t c)) % p=w s (ZG t i)*EC t e s c % p:=by
 have U:=YM P;have Y:=C.mc;have M:ZG t i<t.length:=U.rl i (by omega);have q:ZG t c<t.length:=U.rl c (by omega);rw[show w s (ZG t i)*EC t e s c=w s (ZG t i)*e s (ZG t c) from rfl,<-C.eig s _ _ J M q];congr 1;have h1:sm m (λj=>EC t e s j*cnA t (Yg t) i j (ZG t c))=sm m (λj=>sm t.length λx=>Xg (decide (Yg t x=i))*(Xg (decide (Yg t (ZQ t (Yc t x) (ZG t c))=j))*EC t e s j)):=Yy λj _=>by
  unfold cnA;rw[<-Zd1];refine Yy λx _=>?_;rw[dw (EC t e s j),ke]
 rw[h1,Zj5];refine Yy λx O=>?_;rw[Zd1,Zcb P M O,U.rn i (by omega)];congr 1;have hb:=(Z4 P O).1;have hl:Yg t (ZQ t (Yc t x) (ZG t c))<m:=by rw[Y];exact U.lt _ (P.lt _ _ hb q)
 have:=Zhr hl (λj=>EC t e s j);rw[C.at P J (P.lt _ _ hb q),<-this];refine Yy λj _=>?_;congr 2;rw[decide_eq_decide];exact eq_comm
def Vc (t:T9)(p m:Nat)(e:Nat->Nat->Nat)(α:Nat->Int)(c:Nat):Int:=We m (λs=>α s*(EC t e s c:Int)) % (p:Int)
theorem Xn {α j:Nat->Int}(h:∀s,s<m->α s % (p:Int)=j s % (p:Int))(c:Nat):Vc t p m e α c=Vc t p m e j c:=by
 unfold Vc;refine Vi λs q=>?_;rw[bF,h s q,<-bF]
theorem Zjs (α:Nat->Int)(u:Int)(c:Nat):Vc t p m e α c*u % (p:Int)=Vc t p m e (λs=>α s*u) c:=by
 unfold Vc;rw[bF,fK _ (jf _),<-bF,cQ,<-JI];congr 1;refine Z9 λs _=>?_;rw[<-bB,cQ u]
theorem ZnY (α j:Nat->Int)(c:Nat):(Vc t p m e α c-Vc t p m e j c) % (p:Int)=Vc t p m e (λs=>α s - j s) c:=by
 unfold Vc;rw[<-ik];congr 1;have:We m (λs=>(α s - j s)*(EC t e s c:Int))=We m (λs=>α s*(EC t e s c:Int)+(-1)*(j s*(EC t e s c:Int))):=Z9 λs _=>by
  rw[iC];omega
 rw[this,Zbq,JI];omega
theorem Zly (C:CD t p m e w f)(P:PW t){i c:Nat}(q:i<m)(J:c<m)(α:Nat->Int)(k:Int) :
  (We m (λj=>Vc t p m e α j*(cnA t (Yg t) i j (ZG t c):Int))-k*Vc t p m e α c) % (p:Int)=Vc t p m e (λs=>α s*((w s (ZG t i):Int)-k)) c:=by
 have M:We m (λj=>Vc t p m e α j*(cnA t (Yg t) i j (ZG t c):Int)) % (p:Int)=We m (λs=>α s*((w s (ZG t i):Int)*(EC t e s c:Int))) % (p:Int):=by
  have O:We m (λj=>Vc t p m e α j*(cnA t (Yg t) i j (ZG t c):Int)) % (p:Int)=We m (λj=>We m (λs=>α s*(EC t e s j:Int))*(cnA t (Yg t) i j (ZG t c):Int)) % (p:Int):=Vi λj _=>by
   unfold Vc;rw[bF,fK _ (jf _),<-bF]
  rw[O];have Y:We m (λj=>We m (λs=>α s*(EC t e s j:Int))*(cnA t (Yg t) i j (ZG t c):Int))=We m (λs=>α s*We m (λj=>((EC t e s j*cnA t (Yg t) i j (ZG t c):Nat):Int))):=by
   have e3:∀j,We m (λs=>α s*(EC t e s j:Int))*(cnA t (Yg t) i j (ZG t c):Int)=We m (λs=>α s*((EC t e s j*cnA t (Yg t) i j (ZG t c):Nat):Int)):=λj=>by
    rw[cQ,<-JI];refine Z9 λs _=>?_;rw[aG,<-bB,cQ _ (α s),bB,cQ (cnA t (Yg t) i j (ZG t c):Int)]
   rw[Z9 λj _=>e3 j,ZcC];refine Z9 λs _=>?_;rw[<-JI]
  rw[Y];refine Vi λs hs=>?_;rw[Zbp,bF];have:=C.LE P hs q J;have h2:((sm m (λj=>EC t e s j*cnA t (Yg t) i j (ZG t c)):Nat):Int) % (p:Int)=((w s (ZG t i):Int)*(EC t e s c:Int)) % (p:Int):=by
   rw[<-aG,<-aX,<-aX,this]
  rw[h2,<-bF]
 rw[ik,M,<-ik];have h3:(k*Vc t p m e α c) % (p:Int)=(k*We m (λs=>α s*(EC t e s c:Int))) % (p:Int):=by
  unfold Vc;rw[bF,fK _ (jf _),<-bF]
 rw[ik,h3,<-ik];unfold Vc;congr 1;have:We m (λs=>α s*((w s (ZG t i):Int)-k)*(EC t e s c:Int))=We m (λs=>α s*((w s (ZG t i):Int)*(EC t e s c:Int))+(-k)*(α s*(EC t e s c:Int))):=Z9 λs _=>by
  rw[iD,iC,bB,gH,cQ (α s) k,bB k];omega
 rw[this,Zbq,JI,gH];omega
theorem Zmk (C:CD t p m e w f)(P:PW t)(α:Nat->Int)(h:∀c,c<m->Vc t p m e α c=0):∀s,s<m->α s % (p:Int)=0:=by
 intro s O;have U:=YM P;have mc:=C.mc;have M:We t.length (λx=>(f s x:Int)*We m (λj=>α j*(e j x:Int))) % (p:Int)=0:=by
  have:We t.length (λx=>(f s x:Int)*We m (λj=>α j*(e j x:Int))) % (p:Int)=We t.length (λ_=>0) % (p:Int):=Vi λx Y=>by
   have hc:=U.lt x Y;have hv:=h (Yg t x) (by omega);unfold Vc at hv;have:We m (λj=>α j*(e j x:Int))=We m (λj=>α j*(EC t e j (Yg t x):Int)):=Z9 λj J=>by rw[C.at P J Y]
   rw[this,bF,hv];simp
  rw[this,J5];rfl
 have h2:We t.length (λx=>(f s x:Int)*We m (λj=>α j*(e j x:Int)))=We m (λj=>α j*((sm t.length (λx=>f s x*e j x):Nat):Int)):=by
  have e1:∀x,(f s x:Int)*We m (λj=>α j*(e j x:Int))=We m (λj=>α j*((f s x*e j x:Nat):Int)):=λx=>by
   rw[<-JI];refine Z9 λj _=>?_;rw[aG,<-bB,cQ _ (α j),bB]
  rw[Z9 λx _=>e1 x,ZcC];refine Z9 λj _=>?_;rw[JI,Zbp]
 rw[h2] at M;have h3:We m (λj=>α j*((sm t.length (λx=>f s x*e j x):Nat):Int)) % (p:Int)=We m (λj=>if j=s then α j else 0) % (p:Int):=Vi λj J=>by
  have d:=C.du s j O J;have d2:((sm t.length (λx=>f s x*e j x):Nat):Int) % (p:Int)=(if s=j then 1 else 0:Int):=by
   rw[<-aX,d];split <;> rfl
  rw[bF,d2];by_cases q:j=s
  ·rw[if_pos q,if_pos q.symm]
   simp
  ·rw[if_neg q,if_neg (λz=>q z.symm)]
   simp
 rw[h3,ZeM O] at M;exact M
theorem ZpE (C:CD t p m e w f)(P:PW t){s c:Nat}(j:s<m)(J:c<m):Vc t p m e (λs'=>if s'=s then 1 else 0) c=(EC t e s c:Int):=by
 unfold Vc;have:We m (λs'=>(if s'=s then (1:Int) else 0)*(EC t e s' c:Int))=We m (λs'=>if s'=s then (EC t e s' c:Int) else 0):=Z9 λs' _=>by
  split
  ·rw[gG]
  ·rw[bg]
 rw[this,ZeM j];have q:ZG t c<t.length:=(YM P).rl c (by have:=C.mc;omega);have:=C.elt s _ j q;rw[fq (by omega)];unfold EC;omega
theorem ZnZ (C:CD t p m e w f)(P:PW t){c:Nat}(J:c<m):Vc t p m e (λ_=>1) c=if c=0 then 1 else 0:=by
 have U:=YM P;have j:c<(ZA t t.length).length:=by have:=C.mc;omega
 have q:=U.rl c j;unfold Vc;have:We m (λs=>1*(EC t e s c:Int))=((sm m (λs=>e s (ZG t c)):Nat):Int):=by
  rw[<-Zbp];exact Z9 λs _=>gG _
 rw[this,<-aX,C.one _ q];have:ZG t c=0↔c=0:=by
  rw[<-U.z _ q,U.rn c j]
 by_cases h:c=0
 ·rw[if_pos (this.mpr h),if_pos h];rfl
 ·rw[if_neg (λz=>h (this.mp z)),if_neg h];rfl
end
def ffI (w:Nat):Nat->Int
 |0=>1
 |k+1=>ffI w k*((w:Int)-(k:Int))
theorem Zb0 {w:Nat}:∀{k:Nat},w<k->ffI w k=0
 |0,h=>by omega
 |k+1,h=>by
  rw[ffI];by_cases e:w=k
  ·subst e
   rw[Int.sub_self,bx]
  ·rw[Zb0 (by omega),bg]
theorem PrM.nzI {p:Nat}(h:PrM p){a:Int}{b:Nat}(M:a % (p:Int)≠0)(hb:0<b)(j:b<p):a*(b:Int) % (p:Int)≠0:=by
 have O:=h.p2;have p0:(p:Int)≠0:=by omega
 obtain⟨r,q⟩:=cw (bX a p0);have J:=bO a (show (0:Int)<p by omega);rw[bF,q,<-aX b p,<-aG,<-aX,aT j];have:=h.nz r b (by omega) (by omega) hb j;omega
theorem ZiY {p:Nat}(h:PrM p){w:Nat}(hw:w<p):∀{k:Nat},k<=w->ffI w k % (p:Int)≠0
 |0,_=>by
  have:=h.p2;rw[ffI,fq (by omega) (by omega)];decide
 |k+1,j=>by
  rw[ffI,show (w:Int)-(k:Int)=((w-k:Nat):Int) by omega];exact h.nzI (ZiY h hw (by omega)) (by omega) (by omega)
def fcI (p:Nat):Nat->Int
 |0=>1
 |k+1=>fcI p k*((k:Int)+1) % (p:Int)
theorem Zdg (w:Nat):∀k,ffI (w+1) (k+1)=((w:Int)+1)*ffI w k
 |0=>by
  show (1:Int)*(((w+1:Nat):Int)-0)=((w:Int)+1)*1;omega
 |k+1=>by
  rw[ffI,Zdg w k,ffI];have:((w+1:Nat):Int)-((k+1:Nat):Int)=(w:Int)-(k:Int):=by omega
  rw[this,bB]
theorem Zi0 (p:Nat):∀k,fcI p k % (p:Int)=ffI k k % (p:Int)
 |0=>rfl
 |k+1=>by
  rw[fcI,Zdg,fK _ (jf _),bF,Zi0 p k,<-bF,cQ]
theorem Zmf {p:Nat}(j:2<=p):∀k,0<=fcI p k/\fcI p k<(p:Int)
 |0=>by unfold fcI;omega
 |k+1=>by
  rw[fcI];exact⟨bX _ (by omega),bO _ (by omega)⟩
def XH (S:Nat->Bool)(s:Nat):Int:=if S s then 1 else 0
theorem Znq {m:Nat}{S:Nat->Bool}{g:Nat->Nat}(h:∃s,s<m/\S s=true):∃M,(∃s,s<m/\S s=true/\g s=M)/\∀s,s<m->S s=true->g s<=M:=by
 induction m with
 |zero=>obtain⟨s,Y,_⟩:=h;omega
 |succ m ih=>
  by_cases O:∃s,s<m/\S s=true
  ·obtain⟨M,⟨s,Y,h1,h2⟩,h3⟩:=ih O
   by_cases hq:S m=true/\M<g m
   ·refine⟨g m,⟨m,by omega,hq.1,rfl⟩,λj J q=>?_⟩
    by_cases z:j=m
    ·rw[z];exact Zq _
    ·have:=h3 j (by omega) q
     omega
   ·refine⟨M,⟨s,by omega,h1,h2⟩,λj J q=>?_⟩
    by_cases z:j=m
    ·subst z
     by_cases zz:M<g j
     ·exact absurd ⟨q,zz⟩ hq
     ·omega
    ·exact h3 j (by omega) q
  ·obtain⟨s,Y,q⟩:=h
   have:s=m:=by
    by_cases z:s=m
    ·exact z
    ·exact absurd ⟨s,by omega,q⟩ O
   subst this;refine⟨g s,⟨s,by omega,q,rfl⟩,λj J q'=>?_⟩;by_cases z:j=s
   ·rw[z];exact Zq _
   ·exact absurd ⟨j,by omega,q'⟩ O
section
variable {t:T9}{p m:Nat}{e w f:Nat->Nat->Nat}
def lpA (S:Nat->Bool)(g:Nat->Nat)(k s:Nat):Int:=XH S s*ffI (g s) k
theorem Zk2 (S:Nat->Bool)(g:Nat->Nat)(k:Nat):(λs=>lpA S g k s*((g s:Int)-(k:Int)))=lpA S g (k+1):=by
 funext s;unfold lpA;rw[ffI,bB]
theorem Zk1 (S:Nat->Bool)(g:Nat->Nat):lpA S g 0=XH S:=by
 funext s;unfold lpA;rw[ffI,fJ]
theorem Zns (C:CD t p m e w f)(P:PW t){S:Nat->Bool}{g:Nat->Nat}(O:∀s,s<m->g s<p){M:Nat}(Y:∃s,s<m/\S s=true/\g s=M)(h2:∀s,s<m->S s=true->g s<=M)(k:Nat) :
  (∃c,c<m/\Vc t p m e (lpA S g k) c≠0)↔k<=M:=by
 constructor
 ·rintro⟨c,J,h⟩
  by_cases z:k<=M
  ·exact z
  ·refine absurd ?_ h
   have:Vc t p m e (lpA S g k) c=Vc t p m e (λ_=>0) c:=Xn (λs j=>by
    unfold lpA XH;by_cases q:S s=true
    ·have:=h2 s j q
     rw[Zb0 (show g s<k by omega),bx]
    ·rw[if_neg q,bg]) c
   rw[this];unfold Vc;rw[Z9 (g:=λ_=>0) λs _=>bg _,J5];rfl
 ·intro hk
  obtain⟨s,j,q1,q2⟩:=Y;refine ai λhn=>?_;have hz:∀c,c<m->Vc t p m e (lpA S g k) c=0:=λc J=>ai λz=>hn ⟨c,J,z⟩;have:=Zmk C P _ hz s j;unfold lpA XH at this;rw[if_pos q1,gG] at this;exact ZiY C.pr (O s j) (by omega) this
def XG (S:Nat->Bool)(g:Nat->Nat)(M:Nat)(s:Nat):Bool:=S s && decide (g s=M)
theorem Znr (C:CD t p m e w f){S:Nat->Bool}{g:Nat->Nat}{M:Nat}(j:∀s,s<m->S s=true->g s<=M){u:Int}(J:u*fcI p M % (p:Int)=1)(c:Nat) :
  Vc t p m e (lpA S g M) c*u % (p:Int)=Vc t p m e (XH (XG S g M)) c:=by
 rw[Zjs];refine Xn (λs O=>?_) c;unfold lpA XH XG;by_cases q:S s=true
 ·rw[q,if_pos rfl,gG]
  by_cases z:g s=M
  ·rw[decide_eq_true z,z]
   show ffI M M*u % (p:Int)=1 % (p:Int);rw[bF,<-Zi0,<-bF,cQ,J,fq (by omega) (by have:=C.pr.p2;omega)]
  ·have:=j s O q
   rw[decide_eq_false z,Zb0 (show g s<M by omega),bg];rfl
 ·rw[if_neg q,bg,bg]
  have:S s=false:=by cases Y:S s with|true=>exact absurd Y q|false=>rfl
  rw[this];rfl
def ZbQ (S:Nat->Bool)(g:Nat->Nat)(M:Nat)(s:Nat):Bool:=S s && decide (g s<M)
theorem Znt {S:Nat->Bool}{g:Nat->Nat}{M:Nat}(j:∀s,s<m->S s=true->g s<=M)(c:Nat) :
  (Vc t p m e (XH S) c-Vc t p m e (XH (XG S g M)) c) % (p:Int)=Vc t p m e (XH (ZbQ S g M)) c:=by
 rw[ZnY];refine Xn (λs J=>?_) c;congr 1;unfold XH XG ZbQ;cases q:S s with
 |false=>rfl
 |true=>
  have:=j s J q;by_cases z:g s=M
  ·rw[decide_eq_true z,decide_eq_false (by omega)];rfl
  ·rw[decide_eq_false z,decide_eq_true (by omega)];rfl
theorem ZfQ (C:CD t p m e w f)(P:PW t)(S:Nat->Bool):(∃c,c<m/\Vc t p m e (XH S) c≠0)↔∃s,s<m/\S s=true:=by
 constructor
 ·rintro⟨c,M,h⟩
  refine ai λj=>h ?_;have:Vc t p m e (XH S) c=Vc t p m e (λ_=>0) c:=Xn (λs J=>by
   unfold XH;rw[if_neg (λz=>j ⟨s,J,z⟩)]) c
  rw[this];unfold Vc;rw[Z9 (g:=λ_=>0) λs _=>bg _,J5];rfl
 ·rintro⟨s,J,q⟩
  refine ai λj=>?_;have:=Zmk C P _ (λc M=>ai λz=>j ⟨c,M,z⟩) s J;unfold XH at this;rw[if_pos q,fq (by omega) (by have:=C.pr.p2;omega)] at this;cases this
end
structure PtS (m:Nat)(S:Nat->Bool)(g:Nat->Nat)(Ss:List (Nat->Bool)):Prop where
 ne:∀T∈Ss,∃s,s<m/\T s=true
 sub:∀T∈Ss,∀s,s<m->T s=true->S s=true
 cov:∀s,s<m->S s=true->∃T∈Ss,T s=true
 dj:Ss.Pairwise λT T'=>∀s,s<m->T s=true->T' s=true->False
 eq:∀T∈Ss,∀s s',s<m->s'<m->T s=true->T s'=true->g s=g s'
structure PtW (m:Nat)(S:Nat->Bool)(g:Nat->Nat)(Ss:List (Nat->Bool))(R:Nat->Bool):Prop where
 ne:∀T∈Ss,∃s,s<m/\T s=true
 sub:∀T∈Ss,∀s,s<m->T s=true->S s=true
 rs:∀s,s<m->R s=true->S s=true
 cov:∀s,s<m->S s=true->R s=true\/∃T∈Ss,T s=true
 dj:Ss.Pairwise λT T'=>∀s,s<m->T s=true->T' s=true->False
 dr:∀T∈Ss,∀s,s<m->T s=true->R s=true->False
 eq:∀T∈Ss,∀s s',s<m->s'<m->T s=true->T s'=true->g s=g s'
theorem PtW.zero {m:Nat}{S:Nat->Bool}{g:Nat->Nat}:PtW m S g [] S:=
 ⟨λ_ h=>(by cases h),λ_ h=>(by cases h),λs _ h=>h,λs _ h=>.inl h,.nil,λ_ h=>(by cases h),λ_ h=>(by cases h)⟩
theorem PtW.step {m:Nat}{S R:Nat->Bool}{g:Nat->Nat}{Ss:List (Nat->Bool)}(W:PtW m S g Ss R){M:Nat}(h1:∃s,s<m/\R s=true/\g s=M)(h2:∀s,s<m->R s=true->g s<=M):PtW m S g (Ss++[XG R g M]) (ZbQ R g M):=by
 have Y:∀s,XG R g M s=true->R s=true/\g s=M:=λs h=>by
  unfold XG at h;rw[ag,decide_eq_true_eq] at h;exact h
 have lw:∀s,ZbQ R g M s=true->R s=true/\g s<M:=λs h=>by
  unfold ZbQ at h;rw[ag,decide_eq_true_eq] at h;exact h
 have O:∀{T:Nat->Bool},T∈Ss++[XG R g M]->T∈Ss\/T=XG R g M:=λ{T} h=>by
  rcases bH.mp h with h|h
  ·exact .inl h
  ·exact .inr (aS.mp h)
 refine⟨λT J=>?_,λT J s j q=>?_,λs j q=>W.rs s j (lw s q).1,λs j q=>?_,?_,λT J s j q1 q2=>?_,λT J s s' j m5 q q'=>?_⟩
 ·rcases O J with h|rfl
  ·exact W.ne T h
  ·obtain⟨s,j,a,b⟩:=h1
   exact⟨s,j,by unfold XG;rw[a,decide_eq_true b];rfl⟩
 ·rcases O J with h|rfl
  ·exact W.sub T h s j q
  ·exact W.rs s j (Y s q).1
 ·rcases W.cov s j q with h|⟨T,J,h⟩
  ·have:=h2 s j h
   by_cases z:g s=M
   ·exact .inr ⟨_,aP _ ar,by unfold XG;rw[h,decide_eq_true z];rfl⟩
   ·exact .inl (by unfold ZbQ;rw[h,decide_eq_true (by omega)];rfl)
  ·exact .inr ⟨T,bU _ J,h⟩
 ·rw[ip]
  refine⟨W.dj,gR _ _,λT J T' m6 s j q q'=>?_⟩;rw[aS.mp m6] at q';exact W.dr T J s j q (Y s q').1
 ·rcases O J with h|rfl
  ·exact W.dr T h s j q1 (lw s q2).1
  ·have a:=(Y s q1).2
   have b:=(lw s q2).2;omega
 ·rcases O J with h|rfl
  ·exact W.eq T h s s' j m5 q q'
  ·rw[(Y s q).2,(Y s' q').2]
theorem PtW.end {m:Nat}{S R:Nat->Bool}{g:Nat->Nat}{j:List (Nat->Bool)}(W:PtW m S g j R)(h:¬ ∃s,s<m/\R s=true):PtS m S g j:=
 ⟨W.ne,W.sub,λs J q=>by
  rcases W.cov s J q with z|z
  ·exact absurd ⟨s,J,z⟩ h
  ·exact z,W.dj,W.eq⟩
structure XJ (m:Nat)(w:Nat->Nat->Nat)(i:Nat)(Ss:List (Nat->Bool)):Prop where
 ne:∀T∈Ss,∃s,s<m/\T s=true
 cov:∀s,s<m->∃T∈Ss,T s=true
 dj:Ss.Pairwise λT T'=>∀s,s<m->T s=true->T' s=true->False
 eq:∀T∈Ss,∀s s',s<m->s'<m->T s=true->T s'=true->∀j,j<i->w s j=w s' j
theorem XJ.zero {m:Nat}(m1:1<=m)(w:Nat->Nat->Nat):XJ m w 0 [λ_=>true]:=
 ⟨λT q=>⟨0,m1,by rw[aS.mp q]⟩,λs _=>⟨_,ar,rfl⟩,gR _ _,λ_ _ _ _ _ _ _ _ j J=>by omega⟩
inductive FiS (m:Nat) (g:Nat->Nat):List (Nat->Bool)->List (Nat->Bool)->Prop
 |nil:FiS m g [] []
 |snoc {Ss Fs Ts:List (Nat->Bool)}{S:Nat->Bool}:FiS m g Ss Fs->PtS m S g Ts->FiS m g (Ss++[S]) (Fs++Ts)
theorem FiS.out {m:Nat}{g:Nat->Nat}{M O:List (Nat->Bool)}(h:FiS m g M O):(∀T∈O,(∃s,s<m/\T s=true)/\(∃S∈M,∀s,s<m->T s=true->S s=true)/\∀s s',s<m->s'<m->T s=true->T s'=true->g s=g s')/\(∀S∈M,∀s,s<m->S s=true->∃T∈O,T s=true):=by
 induction h with
 |nil=>exact⟨λ_ h=>(by cases h),λ_ h=>(by cases h)⟩
 |snoc h p Y=>
  refine⟨λT j=>?_,λS J s hs q=>?_⟩
  ·rcases bH.mp j with j|j
   ·obtain⟨a,⟨S,J,b⟩,c⟩:=Y.1 T j
    exact⟨a,⟨S,bU _ J,b⟩,c⟩
   ·exact⟨p.ne T j,⟨_,aP _ ar,p.sub T j⟩,p.eq T j⟩
  ·rcases bH.mp J with J|J
   ·obtain⟨T,j,z⟩:=Y.2 S J s hs q
    exact⟨T,bU _ j,z⟩
   ·rw[aS.mp J] at q
    obtain⟨T,j,z⟩:=p.cov s hs q;exact⟨T,aP _ j,z⟩
theorem FiS.dj {m:Nat}{g:Nat->Nat}{Y Fs:List (Nat->Bool)}(h:FiS m g Y Fs)(J:Y.Pairwise λT j=>∀s,s<m->T s=true->j s=true->False):Fs.Pairwise λT j=>∀s,s<m->T s=true->j s=true->False:=by
 induction h with
 |nil=>exact .nil
 |snoc h p ih=>
  rw[ip] at J ⊢;refine⟨ih J.1,p.dj,λT hT j M s O q q'=>?_⟩;obtain⟨_,⟨S,hS,b⟩,_⟩:=h.out.1 T hT;exact J.2.2 S hS _ ar s O (b s O q) (p.sub j M s O q')
theorem XJ.step {m i:Nat}{w:Nat->Nat->Nat}{Ss Fs:List (Nat->Bool)}(A:XJ m w i Ss)(h:FiS m (λs=>w s i) Ss Fs):XJ m w (i+1) Fs:=by
 refine⟨λT O=>(h.out.1 T O).1,λs M=>?_,h.dj A.dj,λT O s Y M J q q' j hj=>?_⟩
 ·obtain⟨S,hS,q⟩:=A.cov s M
  exact h.out.2 S hS s M q
 ·obtain⟨_,⟨S,hS,b⟩,c⟩:=h.out.1 T O
  by_cases z:j=i
  ·rw[z];exact c s Y M J q q'
  ·exact A.eq S hS s Y M J (b s M q) (b Y J q') j (by omega)
def pkS (m:Nat)(T:Nat->Bool):Nat:=((ac m).find? T).getD 0
theorem XL {m:Nat}{T:Nat->Bool}(h:∃s,s<m/\T s=true):pkS m T<m/\T (pkS m T)=true:=by
 obtain⟨s,j,q⟩:=h;unfold pkS;cases z:(ac m).find? T with
 |none=>
  have:=iR.mp z s (af.mpr j);exact absurd q this
 |some x=>exact⟨af.mp (gh z),jC z⟩
theorem ZaF {m:Nat}:∀{J:List (Nat->Bool)},(∀T∈J,∃s,s<m/\T s=true)->(J.Pairwise λT j=>∀s,s<m->T s=true->j s=true->False)->(J.map (pkS m)).Nodup
 | [],_,_=>dQ
 |T::J,M,hd=>by
  rw[ma] at hd;rw[aN,bN];refine⟨λh=>?_,ZaF (λj O=>M j (ao _ O)) hd.2⟩;obtain⟨j,q,z⟩:=aE.mp h;have a:=XL (M T ar);have b:=XL (M j (ao _ q));rw[z] at b;exact hd.1 j q _ a.1 a.2 b.2
theorem XJ.len {m i:Nat}{w:Nat->Nat->Nat}{j:List (Nat->Bool)}(A:XJ m w i j):j.length<=m:=by
 have:=L2.YD (j.map (pkS m)) (ac m) (ZaF A.ne A.dj) (λx q=>by
  obtain⟨T,J,rfl⟩:=aE.mp q;exact af.mpr (XL (A.ne T J)).1)
 rwa [Za,Zg] at this
theorem Zfh {l:T7}{m:Nat}(nd:l.Nodup)(q:∀x∈l,x<m)(len:l.length=m):l.Perm (ac m):=by
 have J:∀x,x<m->x∈l:=λx M=>by
  refine ai λO=>?_;have:=L2.YD (x::l) (ac m) (bN.mpr ⟨O,nd⟩) (λy j=>by
   rcases aD.mp j with rfl|j
   ·exact af.mpr M
   ·exact af.mpr (q y j))
  rw[Zi,Zg] at this;omega
 exact (cD nd cY).mpr λx=>⟨λh=>af.mpr (q x h),λh=>J x (af.mp h)⟩
theorem Zpk {m:Nat}{J:List (Nat->Bool)}(hd:J.Pairwise λT j=>∀s,s<m->T s=true->j s=true->False){T j:Nat->Bool}(h:T∈J)(h':j∈J){s:Nat}(hs:s<m)(q:T s=true)(M:j s=true):T=j:=by
 induction hd with
 |nil=>cases h
 |cons a _ ih=>
  rcases aD.mp h with e1|h1
  ·rcases aD.mp h' with O|Y
   ·rw[e1,O]
   ·rw[e1] at q
    exact (a _ Y s hs q M).elim
  ·rcases aD.mp h' with O|Y
   ·rw[O] at M
    exact (a _ h1 s hs M q).elim
   ·exact ih h1 Y
theorem XJ.full {m i:Nat}{w:Nat->Nat->Nat}{J:List (Nat->Bool)}(A:XJ m w i J)(h:m<=J.length):∀T∈J,∀s s',s<m->s'<m->T s=true->T s'=true->s=s':=by
 have hp:(J.map (pkS m)).Perm (ac m):=Zfh (ZaF A.ne A.dj) (λx hx=>by
  obtain⟨T,j,rfl⟩:=aE.mp hx;exact (XL (A.ne T j)).1) (by rw[Za];have:=A.len;omega)
 have key:∀T∈J,∀s,s<m->T s=true->s=pkS m T:=λT j s O q=>by
  obtain⟨T',M,z⟩:=aE.mp (hp.mem_iff.mpr (af.mpr O));have b:=XL (A.ne T' M);rw[z] at b;rw[Zpk A.dj j M O q b.2,z]
 intro T j s s' O Y q q';rw[key T j s O q,key T j s' Y q']
theorem XJ.skip {m i:Nat}{w:Nat->Nat->Nat}{J:List (Nat->Bool)}(A:XJ m w i J)(h:m<=J.length):XJ m w (i+1) J:=
 ⟨A.ne,A.cov,A.dj,λT O s Y hs M q q' j _=>by rw[A.full h T O s Y hs M q q']⟩
theorem XJ.end {m:Nat}{w:Nat->Nat->Nat}{M:List (Nat->Bool)}(A:XJ m w m M)(O:∀s s',s<m->s'<m->(∀j,j<m->w s j=w s' j)->s=s'):(M.map (pkS m)).Perm (ac m)/\∀T∈M,∀s,s<m->T s=decide (s=pkS m T):=by
 have one:∀T∈M,∀s,s<m->T s=decide (s=pkS m T):=λT J s Y=>by
  have a:=XL (A.ne T J);cases q:T s with
  |true=>exact (decide_eq_true (O s _ Y a.1 (A.eq T J s _ Y a.1 q a.2))).symm
  |false=>
   refine (decide_eq_false λz=>?_).symm;rw[z,a.2] at q;cases q
 refine⟨?_,one⟩;refine (cD (ZaF A.ne A.dj) cY).mpr λx=>⟨λh=>?_,λh=>?_⟩
 ·obtain⟨T,J,rfl⟩:=aE.mp h
  exact af.mpr (XL (A.ne T J)).1
 ·have hx:=af.mp h
  obtain⟨T,J,q⟩:=A.cov x hx;rw[one T J x hx] at q;rw[of_decide_eq_true q];exact aE.mpr ⟨T,J,rfl⟩
def V7 (count p:Nat):Bool:=decide (p*p<=4*count) || (ac (p-2)).any λk=>p % (k+2) == 0
structure ZpR (n count p:Nat):Prop where
 st:∃J,p=(n+1)+J*n/\∀j,j<J->V7 count ((n+1)+j*n)=true
 ok:V7 count p=false
 p2:2<=p
 lt:p<=100000
structure ZpI (p z r:Nat):Prop where
 r1:1<=r
 rp:r<=p
 one:z ^ r % p=1
 nz:∀k,1<=k->k<r->z ^ k % p≠1
def RtP (n p j:Nat):Prop:=(j=1/\n=1)\/(2<=j/\j<p/\n≠1/\∃r:Nat->Nat,(∀z,2<=z->z<=j->ZpI p z (r z))/\(∀z,2<=z->z<j->r z≠n)/\r j=n)
structure TD (t:T9)(n p m:Nat)(e ω φ:Nat->Nat->Nat)(z:Nat)(dg:Nat->Nat):Prop where
 cd:CD t p m e ω φ
 n1:1<=n
 n60:n<=60
 all:∀a,a<t.length->it t a n=0
 mn:∀x,(∀a,a<t.length->it t a x=0)->x % n=0
 fit:ZpR n t.length p
 rt:RtP n p z
 d1:∀s,s<m->1<=dg s
 dp:∀s,s<m->dg s<p
 dl:∀s,s<m->dg s<=1000
 dq:∀s,s<m->((dg s:Int)*(dg s:Int)-(e s 0:Int)*(t.length:Int)) % (p:Int)=0
 dm:∀s d',s<m->1<=d'->d'<dg s->((d':Int)*(d':Int)-(e s 0:Int)*(t.length:Int)) % (p:Int)≠0
structure Dt where
 n:Nat
 p:Nat
 z:Nat
 cl:T7
 rp:T7
 E:T9
 W:T9
 F:T9
 dg:T7
def VS (M:T9)(i j:Nat):Nat:=(M.getD i []).getD j 0
def fA (n:Nat)(f:Nat->Bool):Bool:=(ac n).all f
theorem Yb {n:Nat}{f:Nat->Bool}(h:fA n f=true){i:Nat}(j:i<n):f i=true:=az.mp h i (af.mpr j)
def fE (n:Nat)(f:Nat->Bool):Bool:=(ac n).any f
theorem Zdi {n:Nat}{f:Nat->Bool}(h:fE n f=true):∃i,i<n/\f i=true:=by
 obtain⟨i,hi,q⟩:=aU.mp h;exact⟨i,af.mp hi,q⟩
def prB (p:Nat):Bool:=decide (2<=p) && (fA (p-1) λa=>fA (p-1) λb=>(a+1)*(b+1) % p != 0) && fA (p-1) λa=>fE (p-1) λb=>(b+1)*(a+1) % p == 1
theorem ZoU {p:Nat}(h:prB p=true):PrM p:=by
 unfold prB at h;rw[ag,ag,decide_eq_true_eq] at h;obtain⟨⟨j,J⟩,M⟩:=h;refine⟨j,λa b O Y b0 bp=>?_,λa O Y=>?_⟩
 ·have:=Yb (Yb J (i:=a-1) (by omega)) (i:=b-1) (by omega)
  rw[show a-1+1=a by omega,show b-1+1=b by omega] at this;simpa using this
 ·obtain⟨b,hb,q⟩:=Zdi (Yb M (i:=a-1) (by omega))
  rw[show a-1+1=a by omega] at q;exact⟨b+1,by omega,by omega,eq_of_beq q⟩
def ZiX (n count p:Nat):Nat->Nat->Bool
 |0,q=>decide (q=p) && !V7 count q
 |f+1,q=>if q=p then !V7 count q else V7 count q && ZiX n count p f (q+n)
theorem ZfB {n count p:Nat}:∀{f q:Nat},ZiX n count p f q=true->(∃J,p=q+J*n/\∀j,j<J->V7 count (q+j*n)=true)/\V7 count p=false
 |0,q,h=>by
  rw[ZiX,ag,decide_eq_true_eq] at h;obtain⟨e,h⟩:=h;subst e;exact⟨⟨0,by omega,λj M=>by omega⟩,by simpa using h⟩
 |f+1,q,h=>by
  rw[ZiX] at h;by_cases e:q=p
  ·rw[if_pos e] at h
   subst e;exact⟨⟨0,by omega,λj M=>by omega⟩,by simpa using h⟩
  ·rw[if_neg e,ag] at h
   obtain⟨⟨J,O,Y⟩,h3⟩:=ZfB h.2;refine⟨⟨J+1,by rw[O,ci];omega,λj M=>?_⟩,h3⟩;cases j with
   |zero=>rw[fk,eF];exact h.1
   |succ j=>
    have:=Y j (by omega);rw[ci];rw[show q+(j*n+n)=q+n+j*n by omega];exact this
def Zm4 (p z r:Nat):Bool:=decide (1<=r) && decide (r<=p) && (z ^ r % p == 1) && fA r λk=>k == 0 || z ^ k % p != 1
theorem Zkz {p z r:Nat}(h:Zm4 p z r=true):ZpI p z r:=by
 unfold Zm4 at h;rw[ag,ag,ag,decide_eq_true_eq,decide_eq_true_eq] at h;obtain⟨⟨⟨j,J⟩,M⟩,O⟩:=h;refine⟨j,J,eq_of_beq M,λk k1 Y=>?_⟩;have:=Yb O Y;rw[aY] at this;rcases this with q|q
 ·have:=eq_of_beq q
  omega
 ·simpa using q
def rdZ (p z:Nat):Nat:=(((ac p).find? λr=>z ^ (r+1) % p == 1).getD 0)+1
def rtB (n p j:Nat):Bool:=(j == 1 && n == 1) || (decide (2<=j) && decide (j<p) && n != 1 && (fA (j+1) λz=>decide (z<2) || (Zm4 p z (rdZ p z) && (z == j || rdZ p z != n))) && rdZ p j == n)
theorem ZoK {n p j:Nat}(h:rtB n p j=true):RtP n p j:=by
 unfold rtB at h;rw[aY] at h;rcases h with h|h
 ·rw[ag] at h
  exact .inl ⟨eq_of_beq h.1,eq_of_beq h.2⟩
 ·rw[ag,ag,ag,ag,decide_eq_true_eq,decide_eq_true_eq] at h
  obtain⟨⟨⟨⟨M,O⟩,Y⟩,J⟩,h5⟩:=h;refine .inr ⟨M,O,by simpa using Y,rdZ p,λz z2 zz=>?_,λz z2 zz=>?_,eq_of_beq h5⟩
  ·have:=Yb J (i:=z) (by omega)
   rw[decide_eq_false (by omega),fF,ag] at this;exact Zkz this.1
  ·have:=Yb J (i:=z) (by omega)
   rw[decide_eq_false (by omega),fF,ag,aY] at this;rcases this.2 with q|q
   ·have:=eq_of_beq q
    omega
   ·simpa using q
def itB (t:T9)(n:Nat):Bool:=(fA t.length λa=>it t a n == 0) && fA n λx=>x == 0 || fE t.length λa=>it t a x != 0
def Zjn (t:T9)(bs:T7):Bool:=fA t.length λa=>decide (bs.getD a 0<t.length) && ZQ t a (bs.getD a 0) == 0
def tbL (t:T9)(bs:T7)(b x:Nat):Nat:=ZQ t (ZQ t x b) (bs.getD x 0)
def clB (t:T9)(bs:T7)(D:Dt):Bool:=
 (fA t.length λx=>decide (D.cl.getD x 0<D.rp.length) && ((D.cl.getD x 0 == 0) == (x == 0)) && (fA t.length λs=>D.cl.getD (tbL t bs x s) 0 == D.cl.getD x 0) && fE t.length λs=>tbL t bs (D.rp.getD (D.cl.getD x 0) 0) s == x) &&
 fA D.rp.length λk=>decide (D.rp.getD k 0<t.length) && D.cl.getD (D.rp.getD k 0) 0 == k
def ZqS (t:T9)(bs:T7)(D:Dt):Bool:=fA D.rp.length λs=>fA D.rp.length λi=>fA D.rp.length λc=>
 sm t.length (λx=>Xg (decide (D.cl.getD x 0=i))*VS D.E s (D.cl.getD (ZQ t (bs.getD x 0) (D.rp.getD c 0)) 0)) % D.p == VS D.W s i*VS D.E s c % D.p
noncomputable def tdB (t:T9)(bs:T7)(D:Dt):Bool:=
 prB D.p && decide (D.p<=1000) && decide (1<=D.rp.length) && decide (1<=D.n) && decide (D.n<=60) && itB t D.n && ZiX D.n t.length D.p 60 (D.n+1) && rtB D.n D.p D.z && Zjn t bs && clB t bs D && ZqS t bs D &&
 (fA D.rp.length λs=>fA D.rp.length λc=>decide (VS D.E s c<D.p) && decide (VS D.W s c<D.p)) &&
 (fA D.rp.length λc=>sm D.rp.length (λs=>VS D.E s c) % D.p == if c=0 then 1 else 0) &&
 (fA D.rp.length λs=>fA D.rp.length λj=>sm t.length (λx=>VS D.F s (D.cl.getD x 0)*VS D.E j (D.cl.getD x 0)) % D.p == if s=j then 1 else 0) &&
 (fA D.rp.length λs=>fA D.rp.length λj=>s == j || fE D.rp.length λi=>VS D.W s i != VS D.W j i) &&
 fA D.rp.length λs=>decide (1<=D.dg.getD s 0) && decide (D.dg.getD s 0<D.p) && (((D.dg.getD s 0:Int)*(D.dg.getD s 0:Int)-(VS D.E s 0:Int)*(t.length:Int)) % (D.p:Int) == 0) && fA (D.dg.getD s 0) λd=>d == 0 || ((d:Int)*(d:Int)-(VS D.E s 0:Int)*(t.length:Int)) % (D.p:Int) != 0
section
variable {t:T9}{bs:T7}{D:Dt}
def eD (D:Dt)(s x:Nat):Nat:=VS D.E s (D.cl.getD x 0)
def wD (D:Dt)(s x:Nat):Nat:=VS D.W s (D.cl.getD x 0)
def fD (D:Dt)(s x:Nat):Nat:=VS D.F s (D.cl.getD x 0)
theorem Zew (P:PW t)(h:Zjn t bs=true){a:Nat}(j:a<t.length):bs.getD a 0=Yc t a:=by
 have:=Yb h j;rw[ag,decide_eq_true_eq] at this;exact JR P j this.1 (eq_of_beq this.2)
theorem Zg8 (P:PW t)(h:Zjn t bs=true){b x:Nat}(j:x<t.length):tbL t bs b x=tb t b x:=by
 unfold tbL tb;rw[Zew P h j]
structure ClW (t:T9)(cl rp:Nat->Nat)(m:Nat):Prop where
 lt:∀x,x<t.length->cl x<m
 z:∀x,x<t.length->(cl x=0↔x=0)
 con:∀x s,x<t.length->s<t.length->cl (tb t x s)=cl x
 tr:∀x,x<t.length->∃s,s<t.length/\tb t (rp (cl x)) s=x
 rl:∀k,k<m->rp k<t.length
 rn:∀k,k<m->cl (rp k)=k
theorem Zjk (P:PW t)(hb:Zjn t bs=true)(h:clB t bs D=true):ClW t (λx=>D.cl.getD x 0) (λk=>D.rp.getD k 0) D.rp.length:=by
 unfold clB at h;rw[ag] at h;have g:∀{x},x<t.length->D.cl.getD x 0<D.rp.length/\((D.cl.getD x 0 == 0) == (x == 0))=true/\(fA t.length λs=>D.cl.getD (tbL t bs x s) 0 == D.cl.getD x 0)=true/\(fE t.length λs=>tbL t bs (D.rp.getD (D.cl.getD x 0) 0) s == x)=true:=λ{x} j=>by
  have:=Yb h.1 j;rw[ag,ag,ag,decide_eq_true_eq] at this;exact⟨this.1.1.1,this.1.1.2,this.1.2,this.2⟩
 have g2:∀{k},k<D.rp.length->D.rp.getD k 0<t.length/\D.cl.getD (D.rp.getD k 0) 0=k:=λ{k} J=>by
  have:=Yb h.2 J;rw[ag,decide_eq_true_eq] at this;exact⟨this.1,eq_of_beq this.2⟩
 refine⟨λx j=>(g j).1,λx j=>?_,λx s j M=>?_,λx j=>?_,λk J=>(g2 J).1,λk J=>(g2 J).2⟩
 ·have:=eq_of_beq (g j).2.1
  constructor
  ·intro q
   have q:D.cl.getD x 0=0:=q;rw[q] at this;exact eq_of_beq this.symm
  ·intro q
   rw[q] at this ⊢;exact eq_of_beq this
 ·have:=eq_of_beq (Yb (g j).2.2.1 M)
  rw[Zg8 P hb M] at this;exact this
 ·obtain⟨s,M,q⟩:=Zdi (g j).2.2.2
  have:=eq_of_beq q;rw[Zg8 P hb M] at this;exact⟨s,M,this⟩
variable {cl rp:Nat->Nat}{m:Nat}
theorem ClW.cj (P:PW t)(C:ClW t cl rp m){u x:Nat}(j:u<t.length)(J:x<t.length):cjB t u x=decide (cl x=cl u):=by
 by_cases h:cl x=cl u
 ·rw[decide_eq_true h]
  obtain⟨s1,h1,e1⟩:=C.tr u j;obtain⟨O,h2,Y⟩:=C.tr x J;rw[h] at Y;have M:=C.rl (cl u) (C.lt u j);have n1:=P.n1;have:tb t u 0=tb t (rp (cl u)) s1:=by rw[Za6 P j];exact e1.symm
  obtain⟨z,hz,ez⟩:=Za7 P j M n1 h1 this;have e3:tb t (rp (cl u)) O=tb t x 0:=by rw[Za6 P J];exact Y
  have m1:u∈ZZ t (rp (cl u)):=(Yf P M).mpr ⟨s1,h1,e1⟩;have m2:x∈ZZ t (rp (cl u)):=(Yf P M).mpr ⟨O,h2,Y⟩;have m3:rp (cl u)∈ZZ t u:=(Yf P j).mpr ⟨z,hz,ez⟩;have m4:x∈ZZ t u:=Yq P j J m3 (by
   have:tb t x 0=tb t (rp (cl u)) O:=e3.symm;obtain⟨z2,m5,m6⟩:=Za7 P J M n1 h2 this;exact (Yf P J).mpr ⟨z2,m5,m6⟩)
  exact X8.mpr ((Yf P j).mp m4)
 ·rw[decide_eq_false h]
  cases q:cjB t u x with
  |false=>rfl
  |true=>
   obtain⟨y,hy,e⟩:=X8.mp q;have:=C.con u y j hy;rw[e] at this;exact absurd this h
theorem Zeg {n:Nat}{f:Nat->Nat}(h:∀a b,a<n->b<n->f a=f b->a=b):((ac n).map f).Nodup:=by
 rw[List.Nodup,gw];exact dH (λ{a b} j hb ne e=>ne (h a b (af.mp j) (af.mp hb) e)) cY
theorem ClW.count (P:PW t)(C:ClW t cl rp m):m=(ZA t t.length).length:=by
 have U:=YM P;have q:∀x y,x<t.length->y<t.length->(cl x=cl y↔Yg t x=Yg t y):=λx y j O=>by
  have a:=C.cj P O j;rw[Zcb P O j] at a;exact⟨λh=>by
   rw[decide_eq_true h] at a;exact of_decide_eq_true a,λh=>by
   rw[decide_eq_true h] at a;exact of_decide_eq_true a.symm⟩
 have Y:=L2.YD ((ac m).map λk=>Yg t (rp k)) (ac (ZA t t.length).length) (by
  refine Zeg λa b J hb e=>?_;have:=(q _ _ (C.rl a J) (C.rl b hb)).mpr e;rw[C.rn a J,C.rn b hb] at this;exact this) (λx j=>by
  obtain⟨k,M,rfl⟩:=aE.mp j;exact af.mpr (U.lt _ (C.rl k (af.mp M))))
 have l2:=L2.YD ((ac (ZA t t.length).length).map λk=>cl (ZG t k)) (ac m) (by
  refine Zeg λa b J hb e=>?_;have:=(q _ _ (U.rl a J) (U.rl b hb)).mp e;rw[U.rn a J,U.rn b hb] at this;exact this) (λx j=>by
  obtain⟨k,M,rfl⟩:=aE.mp j;exact af.mpr (C.lt _ (U.rl k (af.mp M))))
 rw[Za,Zg,Zg] at Y l2;omega
theorem ClW.turn (P:PW t)(C:ClW t cl rp m)(E:Nat->Nat)(i:Nat){z y:Nat}(hz:z<t.length)(j:y<t.length):sm t.length (λx=>Xg (decide (cl x=i))*E (cl (ZQ t (Yc t x) (tb t z y))))=sm t.length (λx=>Xg (decide (cl x=i))*E (cl (ZQ t (Yc t x) z))):=by
 rw[<-ZjV P j (λx=>Xg (decide (cl x=i))*E (cl (ZQ t (Yc t x) (tb t z y))))];refine Yy λx q=>?_;rw[C.con x y q j,Zmw P j q,<-ZdG P j (Z4 P q).1 hz,C.con _ y (P.lt _ _ (Z4 P q).1 hz) j]
theorem ZlI (P:PW t)(h:tdB t bs D=true):TD t D.n D.p D.rp.length (eD D) (wD D) (fD D) D.z (λs=>D.dg.getD s 0):=by
 unfold tdB at h;simp only[ag] at h;obtain⟨⟨⟨⟨⟨⟨⟨⟨⟨⟨⟨⟨⟨⟨⟨h1,h2⟩,h3⟩,h4⟩,h5⟩,h6⟩,h7⟩,h8⟩,h9⟩,m6⟩,m8⟩,n6⟩,n8⟩,n9⟩,o0⟩,o7⟩:=h;have o8:=of_decide_eq_true h2;have m1:=of_decide_eq_true h3;have n1:=of_decide_eq_true h4;have n60:=of_decide_eq_true h5;have C:=Zjk P h9 m6;have N1:=P.n1;have pr:=ZoU h1;have O:∀{s c},s<D.rp.length->c<D.rp.length->VS D.E s c<D.p/\VS D.W s c<D.p:=λ{s c} j hc=>by
  have:=Yb (Yb n6 j) hc;rw[ag,decide_eq_true_eq,decide_eq_true_eq] at this;exact this
 have o9:D.cl.getD 0 0=0:=(C.z 0 N1).mpr rfl;have M:∀{s},s<D.rp.length->1<=D.dg.getD s 0/\D.dg.getD s 0<D.p/\((D.dg.getD s 0:Int)*(D.dg.getD s 0:Int)-(VS D.E s 0:Int)*(t.length:Int)) % (D.p:Int)=0/\∀d,1<=d->d<D.dg.getD s 0->((d:Int)*(d:Int)-(VS D.E s 0:Int)*(t.length:Int)) % (D.p:Int)≠0:=λ{s} j=>by
  have:=Yb o7 j;simp only[ag,decide_eq_true_eq] at this;obtain⟨⟨⟨a,b⟩,c⟩,d⟩:=this;refine⟨a,b,eq_of_beq c,λk k1 kd=>?_⟩;have:=Yb d kd;rw[aY] at this;rcases this with q|q
  ·have:=eq_of_beq q
   omega
  ·simpa using q
 have e0:∀s,eD D s 0=VS D.E s 0:=λs=>by unfold eD;rw[o9]
 unfold itB at h6;rw[ag] at h6;have Y:∀a,a<t.length->it t a D.n=0:=λa ha=>eq_of_beq (Yb h6.1 ha);obtain⟨f1,f2⟩:=ZfB h7;refine⟨?_,n1,n60,Y,λx J=>?_,⟨f1,f2,pr.p2,by omega⟩,ZoK h8,λs j=>(M j).1,λs j=>(M j).2.1,λs j=>by have:=(M j).2.1;omega,λs j=>by rw[e0];exact (M j).2.2.1,λs d' j a b=>by rw[e0];exact (M j).2.2.2 d' a b⟩
 ·refine⟨pr,m1,C.count P,λs x y j J hy=>?_,λs x y j J hy=>?_,λs x j J=>(O j (C.lt x J)).1,λs x j J=>(O j (C.lt x J)).2,λs u z j hu hz=>?_,λx J=>?_,λs s' j m5=>?_,λs s' j m5 h=>?_⟩
  ·unfold eD
   have:=C.con x y J hy;rw[this]
  ·unfold wD
   have:=C.con x y J hy;rw[this]
  ·obtain⟨y,hy,ey⟩:=C.tr z hz
   have p3:=C.rl _ (C.lt z hz);have a1:sm t.length (λx=>Xg (cjB t u x)*eD D s (ZQ t (Yc t x) z))=sm t.length (λx=>Xg (decide (D.cl.getD x 0=D.cl.getD u 0))*VS D.E s (D.cl.getD (ZQ t (Yc t x) z) 0)):=Yy λx J=>by rw[C.cj P hu J];rfl
   have a2:=C.turn P (VS D.E s) (D.cl.getD u 0) p3 hy;rw[ey] at a2;rw[a1,a2];have a3:=eq_of_beq (Yb (Yb (Yb m8 j) (C.lt u hu)) (C.lt z hz));have a4:sm t.length (λx=>Xg (decide (D.cl.getD x 0=D.cl.getD u 0))*VS D.E s (D.cl.getD (ZQ t (bs.getD x 0) (D.rp.getD (D.cl.getD z 0) 0)) 0))=sm t.length (λx=>Xg (decide (D.cl.getD x 0=D.cl.getD u 0))*VS D.E s (D.cl.getD (ZQ t (Yc t x) (D.rp.getD (D.cl.getD z 0) 0)) 0)):=Yy λx J=>by rw[Zew P h9 J]
   rw[a4] at a3;exact a3
  ·have:=eq_of_beq (Yb n8 (C.lt x J))
   have e1:sm D.rp.length (λs=>eD D s x)=sm D.rp.length (λs=>VS D.E s (D.cl.getD x 0)):=rfl;rw[e1,this];by_cases q:x=0
   ·rw[if_pos q,if_pos ((C.z x J).mpr q)]
   ·rw[if_neg q,if_neg (λzz=>q ((C.z x J).mp zz))]
  ·exact eq_of_beq (Yb (Yb n9 j) m5)
  ·have:=Yb (Yb o0 j) m5
   rw[aY] at this;rcases this with q|q
   ·exact eq_of_beq q
   ·obtain⟨i,hi,q⟩:=Zdi q
    have:=h (D.rp.getD i 0) (C.rl i hi);unfold wD at this;rw[C.rn i hi] at this;rw[this] at q;simp at q
 ·have p4:∀a,a<t.length->it t a (x % D.n)=0:=λa ha=>by
   obtain⟨r,R⟩:=P.rd a ha;have p6:x % r=0:=by
    have:=J a ha;rw[UT R] at this;apply ai;intro zz;exact R.nz _ (by omega) (bc _ R.r1) this
   have p7:D.n % r=0:=by
    have:=Y a ha;rw[UT R] at this;apply ai;intro zz;exact R.nz _ (by omega) (bc _ R.r1) this
   rw[UT R,ZbI p6 p7];rfl
  apply ai;intro zz;have p8:=bc x (show 0<D.n by omega);have:=Yb h6.2 p8;rw[aY] at this;rcases this with q|q
  ·exact zz (eq_of_beq q)
  ·obtain⟨a,ha,q⟩:=Zdi q
   rw[p4 a ha] at q;simp at q
end
section
variable {t:T9}{o:T7}
theorem UC (P:PW t)(O:Ord t.length o){i j:Nat}(q:i<t.length)(J:j<t.length):o.getD (ZQ (ren t o) i j) 0=ZQ t (o.getD i 0) (o.getD j 0):=by
 rw[ZbH O q J];exact (Wm O (P.lt _ _ (YT O q) (YT O J))).2
theorem Wj (O:Ord t.length o):(ren t o).length=t.length:=by rw[Zbw,O.len]
theorem ZcN (P:PW t)(O:Ord t.length o){a:Nat}(j:a<t.length):∀k,o.getD (it (ren t o) a k) 0=it t (o.getD a 0) k
 |0=>O.z
 |k+1=>by
  have q:=W1 P O;have:=Jc q (a:=a) (by rw[Wj O];exact j) k;rw[Wj O] at this;rw[it,UC P O this j,ZcN P O j k];rfl
theorem Zd4 (P:PW t)(O:Ord t.length o){a:Nat}(j:a<t.length):o.getD (Yc (ren t o) a) 0=Yc t (o.getD a 0):=by
 have M:=W1 P O;have J:=Wj O;obtain⟨q,Y⟩:=Z4 M (a:=a) (by rw[J];exact j);rw[J] at q;refine JR P (YT O j) (YT O q) ?_;rw[<-UC P O j q,Y];exact O.z
theorem ZaD (P:PW t)(O:Ord t.length o){b x:Nat}(hb:b<t.length)(j:x<t.length):o.getD (tb (ren t o) b x) 0=tb t (o.getD b 0) (o.getD x 0):=by
 have J:=W1 P O;have q:=Wj O;have M:=(Z4 J (a:=x) (by rw[q];exact j)).1;have Y:=J.lt x b (by rw[q];exact j) (by rw[q];exact hb);rw[q] at M Y;unfold tb;rw[UC P O Y M,UC P O j hb,Zd4 P O j]
theorem ZmN (O:Ord t.length o){x:Nat}(j:x<t.length):pos o (o.getD x 0)=x:=by
 have h:=Wm O (YT O j);exact inj O h.1 j h.2
theorem ZhK (O:Ord t.length o)(F:Nat->Nat):sm t.length (λx=>F (o.getD x 0))=sm t.length F:=
 Zbo (c:=λx=>o.getD x 0) (d:=λx=>pos o x) (λx j=>YT O j) (λx j=>(Wm O j).1) (λx j=>ZmN O j) (λx j=>(Wm O j).2) F
theorem ZhL (P:PW t)(O:Ord t.length o){u x:Nat}(M:u<t.length)(hx:x<t.length):cjB (ren t o) u x=cjB t (o.getD u 0) (o.getD x 0):=by
 have P':=W1 P O;have j:=Wj O;rw[bT,X8,X8,j];constructor
 ·rintro⟨y,q,e⟩
  exact⟨o.getD y 0,YT O q,by rw[<-ZaD P O M q,e]⟩
 ·rintro⟨y,q,e⟩
  have J:=Wm O q;refine⟨pos o y,J.1,?_⟩;have Y:=Vd P' (b:=u) (x:=pos o y) (by rw[j];exact M) (by rw[j];exact J.1);rw[j] at Y;refine inj O Y hx ?_;rw[ZaD P O M J.1,J.2,e]
variable {n p m:Nat}{e ω φ:Nat->Nat->Nat}{z:Nat}{dg:Nat->Nat}
theorem ZmO (P:PW t)(O:Ord t.length o):ClW (ren t o) (λx=>Yg t (o.getD x 0)) (λk=>pos o (ZG t k)) (ZA t t.length).length:=by
 have P':=W1 P O;have q:=Wj O;have U:=YM P;refine⟨λx j=>?_,λx j=>?_,λx s j M=>?_,λx j=>?_,λk Y=>?_,λk Y=>?_⟩
 ·rw[q] at j;exact U.lt _ (YT O j)
 ·rw[q] at j
  rw[U.z _ (YT O j)];constructor
  ·intro h
   exact inj O j P.n1 (h.trans O.z.symm)
  ·intro h
   rw[h];exact O.z
 ·rw[q] at j M
  show Yg t (o.getD (tb (ren t o) x s) 0)=_;rw[ZaD P O j M];exact U.con _ _ (YT O j) (YT O M)
 ·rw[q] at j ⊢
  have hc:=U.lt _ (YT O j);have hr:=U.rl _ hc;obtain⟨s,M,es⟩:=U.tr (ZG t (Yg t (o.getD x 0))) (o.getD x 0) hr (YT O j) (U.rn _ hc);have hp:=Wm O M;have J:=Wm O hr;refine⟨pos o s,hp.1,?_⟩;have h1:=Vd P' (b:=pos o (ZG t (Yg t (o.getD x 0)))) (x:=pos o s) (by rw[q];exact J.1) (by rw[q];exact hp.1);rw[q] at h1;refine inj O h1 j ?_;rw[ZaD P O J.1 hp.1,hp.2,J.2,es]
 ·rw[q];exact (Wm O (U.rl k Y)).1
 ·show Yg t (o.getD (pos o (ZG t k)) 0)=k
  rw[(Wm O (U.rl k Y)).2];exact U.rn k Y
theorem TD.ren (P:PW t)(O:Ord t.length o)(D:TD t n p m e ω φ z dg):TD (ren t o) n p m (λs x=>e s (o.getD x 0)) (λs x=>ω s (o.getD x 0)) (λs x=>φ s (o.getD x 0)) z dg:=by
 have P':=W1 P O;have M:=Wj O;have C:=D.cd;have lt:∀{x},x<(Tb.ren t o).length->x<t.length:=λ{x} h=>by rw[M] at h;exact h
 have e0:∀s,e s (o.getD 0 0)=e s 0:=λs=>by rw[O.z]
 refine⟨⟨C.pr,C.m1,C.mc.trans ((ZmO P O).count P'),λs x y J j hy=>?_,λs x y J j hy=>?_,λs x J j=>C.elt s _ J (YT O (lt j)),λs x J j=>C.wlt s _ J (YT O (lt j)),λs u z J hu hz=>?_,λx j=>?_,λs s' J Y=>?_,λs s' J Y h=>?_⟩,D.n1,D.n60,λa ha=>?_,λx j=>?_,by rw[M];exact D.fit,D.rt,D.d1,D.dp,D.dl,λs J=>by rw[M];show ((dg s:Int)*(dg s:Int)-(e s (o.getD 0 0):Int)*(t.length:Int)) % (p:Int)=0;rw[e0];exact D.dq s J,λs d' J a b=>by rw[M];show ((d':Int)*(d':Int)-(e s (o.getD 0 0):Int)*(t.length:Int)) % (p:Int)≠0;rw[e0];exact D.dm s d' J a b⟩
 ·show e s (o.getD (tb (Tb.ren t o) x y) 0)=_
  rw[ZaD P O (lt j) (lt hy)];exact C.ec s _ _ J (YT O (lt j)) (YT O (lt hy))
 ·show ω s (o.getD (tb (Tb.ren t o) x y) 0)=_
  rw[ZaD P O (lt j) (lt hy)];exact C.wc s _ _ J (YT O (lt j)) (YT O (lt hy))
 ·rw[M]
  have h1:sm t.length (λx=>Xg (cjB (Tb.ren t o) u x)*e s (o.getD (ZQ (Tb.ren t o) (Yc (Tb.ren t o) x) z) 0))=sm t.length (λx=>(λy=>Xg (cjB t (o.getD u 0) y)*e s (ZQ t (Yc t y) (o.getD z 0))) (o.getD x 0)):=Yy λx j=>by
   have hb:=(Z4 P' (a:=x) (by rw[M];exact j)).1;rw[M] at hb;show _=Xg (cjB t (o.getD u 0) (o.getD x 0))*e s (ZQ t (Yc t (o.getD x 0)) (o.getD z 0));rw[ZhL P O (lt hu) j,UC P O hb (lt hz),Zd4 P O j]
  rw[h1,ZhK O (λy=>Xg (cjB t (o.getD u 0) y)*e s (ZQ t (Yc t y) (o.getD z 0)))];exact C.eig s _ _ J (YT O (lt hu)) (YT O (lt hz))
 ·have:=C.one _ (YT O (lt j))
  rw[this];by_cases h:x=0
  ·rw[if_pos h,h,O.z,if_pos rfl]
  ·rw[if_neg h,if_neg]
   intro q;exact h (inj O (lt j) P.n1 (q.trans O.z.symm))
 ·rw[M,ZhK O (λy=>φ s y*e s' y)]
  exact C.du s s' J Y
 ·refine C.sep s s' J Y λu hu=>?_
  have hp:=Wm O hu;have:=h (pos o u) (by rw[M];exact hp.1);rw[hp.2] at this;exact this
 ·have hi:=Jc P' ha n
  rw[M] at hi;refine inj O hi P.n1 ?_;rw[ZcN P O (lt ha),O.z];exact D.all _ (YT O (lt ha))
 ·refine D.mn x λa ha=>?_
  have hp:=Wm O ha;have:=j (pos o a) (by rw[M];exact hp.1);have h2:=ZcN P O hp.1 x;rw[this,hp.2,O.z] at h2;exact h2.symm
end
def ZgE:Nat->Nat->T7
 |0,_=>[]
 |k+1,x=>x % 64::ZgE k (x / 64)
def dgZ (k x:Nat):TZ:=(ZgE k x).map λ(v:Nat)=>(v:Int)-32
def rwL {α:Type}(k:Nat):Nat->List α->List (List α)
 |0,_=>[]
 |r+1,l=>l.take k::rwL k r (l.drop k)
end Tb
namespace Pm
open Tb
def sm1:T9:=[[3,2,2,0],[4,2,3,2],[4,1,1,0],[5,1,1,0],[2,2,1,0],[5,2,4,0],[4,2,3,0]]
def sm2:T9:=[[3,4,2,0],[7,3,2,0],[1,1,1,0],[3,1,1,0],[2,1,1,0],[6,1,1,0],[5,4,2,0]]
def sm3:T9:=[[6,2,5,0],[3,3,1,0],[7,2,6,0],[8,2,3,0],[8,2,7,4],[8,2,7,0],[7,1,1,0]]
def sm4:T9:=[[4,2,1,0],[8,1,1,0],[8,2,5,0],[9,2,8,0],[9,1,1,0],[4,4,3,0]]
def smC:T9:=sm1++sm2++sm3++sm4
def pm3:Y4:=[[[1,2,0,3],[1,0,3,2]],[[1,2,3,0],[1,0,2,3]],[[1,2,3,4,0],[1,2,0,3,4]]]
def pmI:T9:=[[3,7,2,6,1,5,0,4],[5,2,0,6,3,1,7,4]]
def pc1:T9×T9:=([[1,2,0,3],[1,0,3,2]],[[0,1,2,3],[0,2,3,1],[0,3,1,2],[1,0,3,2],[1,2,0,3],[1,3,2,0],[2,0,1,3],[2,1,3,0],[2,3,0,1],[3,0,2,1],[3,1,0,2],[3,2,1,0]])
def pc2:T9×T9:=([[1,2,3,0],[1,0,2,3]],[[0,1,2,3],[0,1,3,2],[0,2,1,3],[0,2,3,1],[0,3,1,2],[0,3,2,1],[1,0,2,3],[1,0,3,2],[1,2,0,3],[1,2,3,0],[1,3,0,2],[1,3,2,0],[2,0,1,3],[2,0,3,1],[2,1,0,3],[2,1,3,0],[2,3,0,1],[2,3,1,0],[3,0,1,2],[3,0,2,1],[3,1,0,2],[3,1,2,0],[3,2,0,1],[3,2,1,0]])
def pc3:T9×T9:=([[3,7,2,6,1,5,0,4],[5,2,0,6,3,1,7,4]],[[0,1,2,3,4,5,6,7],[0,1,3,4,2,7,5,6],[0,1,4,2,3,6,7,5],[1,0,5,7,6,2,4,3],[1,0,6,5,7,4,3,2],[1,0,7,6,5,3,2,4],[2,5,1,4,7,0,3,6],[2,5,4,7,1,6,0,3],[2,5,7,1,4,3,6,0],[3,7,1,2,6,0,4,5],[3,7,2,6,1,5,0,4],[3,7,6,1,2,4,5,0],[4,6,1,3,5,0,2,7],[4,6,3,5,1,7,0,2],[4,6,5,1,3,2,7,0],[5,2,0,6,3,1,7,4],[5,2,3,0,6,7,4,1],[5,2,6,3,0,4,1,7],[6,4,0,7,2,1,5,3],[6,4,2,0,7,5,3,1],[6,4,7,2,0,3,1,5],[7,3,0,5,4,1,6,2],[7,3,4,0,5,6,2,1],[7,3,5,4,0,2,1,6]])
noncomputable def pc4:T9×T9:=([[1,2,3,4,0],[1,2,0,3,4]],[[0,1,2,3,4],[0,1,3,4,2],[0,1,4,2,3],[0,2,1,4,3],[0,2,3,1,4],[0,2,4,3,1],[0,3,1,2,4],[0,3,2,4,1],[0,3,4,1,2],[0,4,1,3,2],[0,4,2,1,3],[0,4,3,2,1],[1,0,2,4,3],[1,0,3,2,4],[1,0,4,3,2],[1,2,0,3,4],[1,2,3,4,0],[1,2,4,0,3],[1,3,0,4,2],[1,3,2,0,4],[1,3,4,2,0],[1,4,0,2,3],[1,4,2,3,0],[1,4,3,0,2],[2,0,1,3,4],[2,0,3,4,1],[2,0,4,1,3],[2,1,0,4,3],[2,1,3,0,4],[2,1,4,3,0],[2,3,0,1,4],[2,3,1,4,0],[2,3,4,0,1],[2,4,0,3,1],[2,4,1,0,3],[2,4,3,1,0],[3,0,1,4,2],[3,0,2,1,4],[3,0,4,2,1],[3,1,0,2,4],[3,1,2,4,0],[3,1,4,0,2],[3,2,0,4,1],[3,2,1,0,4],[3,2,4,1,0],[3,4,0,1,2],[3,4,1,2,0],[3,4,2,0,1],[4,0,1,2,3],[4,0,2,3,1],[4,0,3,1,2],[4,1,0,3,2],[4,1,2,0,3],[4,1,3,2,0],[4,2,0,1,3],[4,2,1,3,0],[4,2,3,0,1],[4,3,0,2,1],[4,3,1,0,2],[4,3,2,1,0]])
noncomputable def psC:List (T9×T9):=[pc1,pc2,pc3,pc4]
def twX (x:T7):T9:=twT (x.getD 0 0) (x.getD 1 0) (x.getD 2 0) (x.getD 3 0)
def a5D:T7:=ZgE 298 0xe2fd6c873923b697556d39ee7e5796a9164c9926902d8d32dce2465cf2883451c40bae7b8a0adc528c70d83040041040000000040000001040041001001040040001001001001001001001001001001000040040041001001036c70badae59238e281f79d6da6596185d65955134924514103ce34d30c2cb2892081c7185144103082041000e7beb2c70e36df5cf4b6fba6964b2aae99e82ca2481c61440c20408e18a079f69961d71b5d559449338d31140f8e28607de75c6da658e37dbbeb9d35cf1cb0b2baafbada299e59a44503d65d54d448c38d1440ca2c91c8180081
def a5G:T7:=a5D.take 60
def a5H:T7:=(a5D.drop 60).take 60
def a5R:T7->T7->T9->T9
 |p::j,w::q,ZE=>a5R j q (ZE++[(ZE.getD p []).map λy=>(if w=0 then a5G else a5H).getD y 0])
 |_,_,ZE=>ZE
def tA5:T9:=(a5D.drop 238).map λk=>(a5R ((a5D.drop 120).take 59) ((a5D.drop 179).take 59) [ac 60]).getD k []
def tbC:Y4:=smC.map twX++[Wb pc1.2,Wb pc2.2,Wb pc3.2,tA5]
def ivM (p x:Nat):Nat:=((ac p).find? λy=>y*x % p == 1).getD 0
def Zpl (N p:Nat)(bs J j q:T7)(E:T9):T9:=(ac j.length).map λs=>(ac j.length).map λc=>N*VS E s (J.getD (bs.getD (j.getD c 0) 0) 0)*ivM p (q.getD s 0*q.getD s 0 % p) % p
def ZqV (p:Nat)(j:T7)(F:T9):T9:=F.map λr=>(ac r.length).map λc=>r.getD c 0*(j.filter (· == c)).length % p
def ZqX (N n p z:Nat)(bs cl rp dg:T7)(E:T9):T7×Dt:=(bs,⟨n,p,z,cl,rp,E,ZqV p cl (Zpl N p bs cl rp dg E),Zpl N p bs cl rp dg E,dg⟩)
def ZqW (x:Nat):T7×Dt:=match ZgE 5 x with
 | [N,m,n,p,z]=>let r:=ZgE (2*N+2*m+m*m) (x / 1073741824);ZqX N n p z (r.take N) ((r.drop N).take N) ((r.drop (2*N)).take m) (r.drop (2*N+m+m*m)) (rwL m m (r.drop (2*N+m)))
 |_=>([],⟨0,0,0,[],[],[],[],[],[]⟩)
noncomputable def Zam:List (T7×Dt):=[
 0x810420031861860460810010810810050831010031c60c6,
 0x81041046000007145145145208145148148145148205103081003081103081003081107185005344148,
 0x1041044104103042102043101101103081003081001083002144104,
 0x410410492492491440432430441490450c42440c50491030810040c20400420c40032c5145,
 0x1041044104101044101101104041103081003081003081004142104,
 0x20810481401c52001ca28a28a2812840810010810c10c10810090871051832010022ca10a,
 0x81041046000007145145145208145148148145148205103081003081103081007085103181005344148,
 0x208104104208024024b08010024130804530c30c30c30c30130130130504830610308100314110314110308100918b10528720108300234c18c,
 0xc3041055700019715000669a69a69a6939fa69a5f3a92430810020440811020430811020430810c20401ce0cd1464d124420c2943d02d2042009ad5155,
 0x410000010c1041,
 0x410451450c61460c50810020400420021c30c3,
 0x10420810810010010020c2082,
 0x10410410461861861850c61431841410c21831460c51820c11441811811811851030810051030810010831050031c6186,
 0x1010410480000099d70929e79e79e79c29c29e74825e710308100308110308110308110308110308100948f11138720529330d18b401083002a54154,
 0x20810410420401801450400401430c30c30c40c41030c30c40c40c40c31040c610308100308110314110308100b0891071852032810031c618c,
 0x410410410410441041041041040410420821041020820410441040421010840421021011010810841010821010421020440811020441020411020811011021020420442071851030810081c61440c20401050c72060420021c3249,
 0x8208104f05101544f04054144f0156db6db6db6db09b1840810010810c11011010c108100d08b10918720528330100474e14e,
 0x8208104104034400000d0c400038034e10000300d41041041040141004141041040140140141040105028810308100318110318114308110308100708d10318920f28530b3810024481d0,
 0x8208104104d00400000d10c00014034414000c00d41041041041005004141041040140141005040105020610308100308110314118314110308100708510318120f28d30b3890024481d0,
 0x8208104104d00400000d10c00014034414000c00d41041041041005004141041040140141005040105020610308100308110314118314110308100f08d10b1892072853033810024481d0,
 0x410410410596596596590475185d06575014181d91d84015176580571d05195101d70586505d85070591851030810061440c20400420c41460077471c7,
 0x104104104104514514514514c30820104514104820c30514820514820514814814814814130520c04814c045201308145208145208147185103081007185103081003085107181005344208,
 0x104104104104f3cf3cf3cf3cd2410842103c90883c90883c120d0902443d020408124d3c80893c80893c425008d2013c23c23c23c23c7185103081007185103081001083105187002448208,
 0x208104104104104110000040000035010000004000035041041041041040140d34104411040140410104d35041040105040105041040140140140140140435004d10140140d11004434141041004141004140c20718510308100718524308120718510308100b08510f18920328d307381002448290,
 0x20820810410853403cd0811403c508d0403c23c20803d24924924924924814881840810010810c11011411411010c108101108f10d18b2092873053834010024d2192,
 0x410410410410514514514514512c61411101c94491d01011462d11c414b2500464454111504454110491471902c44501514054501511814092c51074442d01871490512071851030810081c61440c20400420c41461c80044c9249,
 0x20810410410410430c000000028028a0c00000000c028924924924924924924410410924924424710624710624424624710710624424610724610724424724610610724924424424424424924910910424424a20718510308100718510324120718510308100d18f10928b205387301083005344290,
 0x30410450001831850c31460c30c30c30810030420c204108308100b1c520a1091830420031c610c,
 0x830410c02c100b2080050861861861c61871852002022470c10031010821040c20440821040830410820410174553cb25641438a2133523071850c408100234c158,
 0xc108204204800008000218618618618010a08324b00a1022432c614218214600c3020412c608518508618510308100418118110110614608608508518510308100e2c834a1cc2465d44564d05523c414304200234c1d8,
 0xc310115b49100b49b4402c20807573cf3cf3c000d4834500c10020c31021020411010c21040c20c20410c11030c21040810420c40430441010c40c108208204108104104204103bb23bb77f5a1d51642fe20eab8a9d1c5d3479aa1b767b39db4953e6c59ca56a4c1838d30b1c520a1091830420037de17c].map ZqW
def d0:T7×Dt:=([],⟨0,0,0,[],[],[],[],[],[]⟩)
noncomputable def okB (i:Nat):Bool:=pwB (tbC.getD i []) && tdB (tbC.getD i []) (Zam.getD i d0).1 (Zam.getD i d0).2
theorem okC:∀i,i<31->okB i=true
 |0,_=>by decide +kernel
 |1,_=>by decide +kernel
 |2,_=>by decide +kernel
 |3,_=>by decide +kernel
 |4,_=>by decide +kernel
 |5,_=>by decide +kernel
 |6,_=>by decide +kernel
 |7,_=>by decide +kernel
 |8,_=>by decide +kernel
 |9,_=>by decide +kernel
 |10,_=>by decide +kernel
 |11,_=>by decide +kernel
 |12,_=>by decide +kernel
 |13,_=>by decide +kernel
 |14,_=>by decide +kernel
 |15,_=>by decide +kernel
 |16,_=>by decide +kernel
 |17,_=>by decide +kernel
 |18,_=>by decide +kernel
 |19,_=>by decide +kernel
 |20,_=>by decide +kernel
 |21,_=>by decide +kernel
 |22,_=>by decide +kernel
 |23,_=>by decide +kernel
 |24,_=>by decide +kernel
 |25,_=>by decide +kernel
 |26,_=>by decide +kernel
 |27,_=>by decide +kernel
 |28,_=>by decide +kernel
 |29,_=>by decide +kernel
 |30,_=>by decide +kernel
 |n+31,h=>by omega
theorem ZmD:Wb pc4.2=tA5:=by decide +kernel
def MkC (t:T9):Prop:=t∈tbC
end Pm
namespace L2
open PySem PySem.Spec PyProof.Rows
section
variable {X:Cx}
inductive Zbx (x:V) (vs:TV) (H:Hp) (Q:VK):Prop
 |mk (l:_) (xs:_) (y:_) (k:Nat):(x=.ref l)->(vs=[.int k,y])->(H l=some (.lst xs))->(k<=xs.length)->(fv (k:Int)=true)->(xs.length<sizeLine)->(Q .non (upd H l (.lst (xs.take k++y::xs.drop k))))->Zbx x vs H Q
theorem Zgo:MtM X "list.insert" Zbx:=by
 intro m6 s σ H x vs v us Q I rx rv h;obtain⟨l,xs,y,k,rfl,rfl,hH,hk,hf,hz,q⟩:=h;cases rx;obtain⟨O,J,rfl,r1,Y⟩:∃O J,us=O::J/\RelV (.int (k:Int)) O/\ZO [y] J:=by
  cases rv with
  |cons r1 Y=>exact⟨_,_,rfl,r1,Y⟩
 obtain⟨u2,rfl,r2⟩:=Y.one;obtain⟨tk,rfl⟩:=r1;obtain⟨z,j,n,r,hl,e⟩:=I.lstM hH;have m8:=r.length;have h1:¬(!fv (k:Int))=true:=by rw[hf];exact aF
 have h2:j.toArray.size<=sizeLine:=by rw[Zh];omega
 have hm:=@PySem.AutoListH.list_insert_list_int_val_1 l j.toArray n (k:Int) tk u2 h1 h2;have ha:=F.args_list_insert_3 (.ref l) (.int (k:Int) tk) u2;have hT:s.TypeIs (.ref l) "list":=⟨_,e,rfl⟩;have M:=F.entry_list_insert;have m5:=kI;generalize hB:cg.«list.insert»=B at hm M;refine cK m5 hT M ha hm ⟨e,?_⟩;refine⟨.non,_,I.lset (its':=j.take k++u2::j.drop k) hH e ?_ ((r.take k).append (.cons r2 (r.drop k))) ?_,rfl,q⟩
 ·have e1:¬((k:Int)<0):=by omega
  simp only[if_neg e1];have e2:min ((k:Int).toNat) j.toArray.size=k:=by rw[Zj,Zh];omega
  rw[e2];simp;exact km (by rw[bJ];exact Zq _)
 ·rw[Zd,Zi,bI,bJ]
  omega
end
end L2
namespace Pm
open PySem L2 PySem.Spec PyProof.Rows
open Tb
section
variable {X:Cx}
theorem Zh0 {op:kG}{r:R2}{a b:Expr}{j tb:TE}{pos:Pos}(q:XR X (binaryOp op) r)(J:PE X a j)(hb:QE X b tb):QE X (.BinOp a op b pos) (tOp r j tb):=⟨Zy q J hb.h⟩
theorem ZoR {o i e:Expr}{to ti te:TE}{q j M:Pos}(ho:PE X o to)(hi:QE X i ti)(he:QE X e te)(m6:Wv i=true:=by rfl)(m8:Wv e=true:=by rfl)
  (O:attributeBase o "insert" X.env (eval o X.env)=eval o X.env:=by rfl)
  (m5:((backTo j (starEach [i,e] X.env)).all (λx=>!x.1) && (backToKw j (keywordEach [] X.env)).all (λx=>x.1.isSome)
   && decide (([i,e]:List Expr).length+([]:List Keyword).length+(if ([]:List Keyword).isEmpty then 0 else 1)<30))=true:=by rfl)
  (Y:(q.endLine == j.line)=true:=by rfl) (hs:starEach [i,e] X.env=(false,eval i X.env)::starEach [e] X.env:=by rfl) (J:(backTo j (starEach [e] X.env)).any (·.1)=false:=by rfl)
  (n6:swapsWith (.Call (.Attribute o "insert" q) [i,e] [] j) none M.line X.env=pure false:=by rfl) :
  QS X (.Expr (.Call (.Attribute o "insert" q) [i,e] [] j) M) (ZlK (tBM X.K "list" Zbx to (Ul ti (Ul te Zha)))):=⟨YG (WC aJ kI PySem.F.type_list_insert Zgo ho (pc hi.h (pc he.h Zt m8) m6) O m5 Y hs J) n6⟩
theorem g4 (K:aa)(i j k l:Nat){X:Cx}{x y z u:Str}{n}{q J M O pos:Pos}(hc:X.calm=true)(hx:PG X (.Name x q) (Yj i))(hy:PG X (.Name y J) (Yj j))(hz:PG X (.Name z M) (Yj k))(hu:PG X (.Name u O) (Yj l))(hK:X.K=K:=by rfl)
  (hn:(assignEach [.Name x q,.Name y J,.Name z M,.Name u O] X.env).length=4:=by rfl) (Y:(assignEach [.Name x q,.Name y J,.Name z M,.Name u O] X.env).findIdx? (·.1)=none:=by rfl) :
  PG X (.Tuple [.Name x q,.Name y J,.Name z M,.Name u O] n pos) (Zgy K 4 (JT (Yj i) (JT (Yj j) (JT (Yj k) (JT (Yj l) Zgz))))):=hK▸UI hc (Z2 hx (Z2 hy (Z2 hz (Z2 hu Vn)))) hn Y
end
def Zck (H:Hp)(M:Addr)(ls:TW)(j:Y4):Prop:=H M=some (.lst (ls.map V.ref))/\ls.length=j.length/\∀(i:Nat) l,ls[i]?=some l->l≠M/\∃bs,TupsAt H l bs (j.getD i [])
theorem Zck.mono {H j:Hp}{M:Addr}{ls:TW}{mn:Y4}(s:Zv H j)(h:Zck H M ls mn):Zck j M ls mn:=
 ⟨s _ _ h.1,h.2.1,λi l q=>let ⟨a,bs,b⟩:=h.2.2 i l q;⟨a,bs,b.mono s⟩⟩
theorem TupsAt.updM {H:Hp}{L M:Addr}{bs:TW}{yss:T9}{vs:TV}{o:HO}(R:TupsAt H L bs yss)(j:H M=some (.lst vs))(q:L≠M):TupsAt (upd H M o) L bs yss:=
 ⟨by rw[Zz q];exact R.1,R.2.1,λi b hb=>by
  have:=R.2.2 i b hb;rw[Zz (λz=>by rw[z,j] at this;cases this)];exact this⟩
theorem TupsAt.cat {H:Hp}{L1 L2 N:Addr}{j J:TW}{M O:T9}(q:TupsAt H L1 j M)(R2:TupsAt H L2 J O)(nN:H N=none):TupsAt (upd H N (.lst (j.map V.ref++J.map V.ref))) N (j++J) (M++O):=by
 have s:=Zv.upd (H:=H) (o:=.lst (j.map V.ref++J.map V.ref)) nN;refine⟨by rw[Zu,aO],by rw[Zd,Zd,q.2.1,R2.2.1],λi b hb=>?_⟩;by_cases Y:i<j.length
 ·rw[aq Y] at hb
  rw[Zb,aq (by rw[<-q.2.1];exact Y),<-Zb];exact s _ _ (q.2.2 i b hb)
 ·rw[au (by omega)] at hb
  rw[Zb,au (by rw[<-q.2.1];omega),<-Zb,<-q.2.1];exact s _ _ (R2.2.2 _ b hb)
def gkB (k:Nat)(y:T7):Bool:=decide (y.length=k) && y.all λx=>decide (x<k)
theorem Zmc {k:Nat}{y:T7}(h:gkB k y=true):Gk k y:=by
 unfold gkB at h;rw[ag,decide_eq_true_eq,az] at h;exact⟨h.1,λx j=>of_decide_eq_true (h.2 x j)⟩
def ndB:T9->Bool
 | []=>true
 |x::r=>!r.contains x && ndB r
theorem Zl3:∀{xs:T9},ndB xs=true->xs.Nodup
 | [],_=>dQ
 |x::r,h=>by
  unfold ndB at h;rw[ag,ff] at h;refine bN.mpr ⟨λj=>?_,Zl3 h.2⟩;rw[aw.mpr j] at h;cases h.1
theorem ZnD {q:T9}(Y:PW (Wb q)):∀a∈q,∀b∈q,XI a b∈q:=by
 intro a ha b hb;obtain⟨i,hi⟩:=bo ha;obtain⟨j,O⟩:=bo hb;have J:(Wb q).length=q.length:=by unfold Wb;rw[Za]
 have il:=(ae.mp hi).1;have jl:=(ae.mp O).1;have h:=Y.lt i j (by rw[J];exact il) (by rw[J];exact jl);have e:ZQ (Wb q) i j=q.findIdx (· == XI a b):=by
  unfold ZQ Wb;rw[Zb,Zb,Zc,hi];show (Option.getD (q.map _)[j]? 0)=_;rw[Zc,O];rfl
 rw[e,J] at h;obtain⟨x,hx,M⟩:=cB.mp h;rw[<-eq_of_beq M];exact hx
def Zj1:T9->Bool
 | []=>true
 |x::r=>(r.all λy=>!PyZ.JV (nI y) (nI x)) && Zj1 r
theorem Zhf:∀{xs:T9},Zj1 xs=true->Srt xs
 | [],_=>eK
 |x::r,h=>by
  unfold Zj1 at h;rw[ag,az] at h;refine List.Pairwise.cons (λy j=>?_) (Zhf h.2);obtain⟨z,q,rfl⟩:=aE.mp j;have:=h.1 z q;simpa using this
theorem ZbJ {t:T9}(h:MkC t):PW t:=by
 obtain⟨i,hi⟩:=bo h;have J:=(ae.mp hi).1;have j:tbC.length=31:=by decide +kernel
 have:=okC i (by omega);unfold okB at this;have q:tbC.getD i []=t:=by rw[Zb,hi];rfl
 rw[q,ag] at this;exact ZmR this.1
end Pm
namespace C47
open PySem L2 PySem.Spec PyProof.Rows
open Tb Pm
def pcB (x:T9×T9):Bool:=
 let k:=(x.1.getD 0 []).length
 decide (1<=k) && decide (k<=9) && decide (1<=x.1.length) && decide (x.1.length<=9) && x.1.all (gkB k) && decide ((bfs x.1 61 0 [ac k]).length<=60) && (bfs x.1 61 0 [ac k]).isPerm x.2 && decide (x.2.length<=60) && ndB x.2 && Zj1 x.2 && x.2.all (gkB k)
theorem ZmU:psC.all pcB=true:=by decide +kernel
theorem Zf4 {x:T9×T9}(j:x∈psC):x=pc1\/x=pc2\/x=pc3\/x=pc4:=by
 unfold psC at j;rcases aD.mp j with h|h
 ·exact .inl h
 rcases aD.mp h with h|h
 ·exact .inr (.inl h)
 rcases aD.mp h with h|h
 ·exact .inr (.inr (.inl h))
 ·exact .inr (.inr (.inr (aS.mp h)))
theorem in1:pc1∈psC:=ar
theorem in2:pc2∈psC:=ao _ ar
theorem in3:pc3∈psC:=ao _ (ao _ ar)
theorem in4:pc4∈psC:=ao _ (ao _ (ao _ ar))
theorem tb1:Wb pc1.2∈[Wb pc1.2,Wb pc2.2,Wb pc3.2,tA5]:=ar
theorem tb2:Wb pc2.2∈[Wb pc1.2,Wb pc2.2,Wb pc3.2,tA5]:=ao _ ar
theorem tb3:Wb pc3.2∈[Wb pc1.2,Wb pc2.2,Wb pc3.2,tA5]:=ao _ (ao _ ar)
theorem tb4:tA5∈[Wb pc1.2,Wb pc2.2,Wb pc3.2,tA5]:=ao _ (ao _ (ao _ ar))
theorem Zh6 (x:T9×T9)(j:x∈psC):MkC (Wb x.2):=by
 rcases Zf4 j with h|h|h|h
 ·rw[h];exact aP _ tb1
 ·rw[h];exact aP _ tb2
 ·rw[h];exact aP _ tb3
 ·rw[h,ZmD];exact aP _ tb4
theorem ZmV {x:T9×T9}(M:x∈psC):∃k fd,ByC k x.1 fd/\fd.Perm x.2/\ZpQ k x.2:=by
 have:=az.mp ZmU x M;unfold pcB at this;simp only[ag,decide_eq_true_eq,az] at this;obtain⟨⟨⟨⟨⟨⟨⟨⟨⟨⟨O,Y⟩,h3⟩,h4⟩,h5⟩,h6⟩,h7⟩,h8⟩,h9⟩,j⟩,q⟩:=this;have P:=ZbJ (Zh6 x M);exact⟨(x.1.getD 0 []).length,bfs x.1 61 0 [ac (x.1.getD 0 []).length],⟨O,Y,h3,h4,λg J=>Zmc (h5 g J),rfl,h6⟩,List.isPerm_iff.mp h7,⟨O,Y,h8,Zl3 h9,Zhf j,λg J=>Zmc (q g J),ZnD P⟩⟩
def smB (x:T7):Bool:=decide (x.length=4) && decide (1<=x.getD 0 0) && decide (1<=x.getD 1 0) && decide (x.getD 0 0<=60) && decide (x.getD 1 0<=60) && decide (x.getD 0 0*x.getD 1 0<=60) && decide (x.getD 2 0<=60) && decide (x.getD 3 0<=60)
theorem ZmG:smC.all smB=true:=by decide +kernel
theorem ZqR {x:T7}(h:x.length=4):x.map nV=[.int (x.getD 0 0:Nat),.int (x.getD 1 0:Nat),.int (x.getD 2 0:Nat),.int (x.getD 3 0:Nat)]:=by
 match x,h with
 | [a,b,c,d],_=>rfl
noncomputable abbrev ZhE:Stmt:=top 36
inductive Uv (vs:TV) (H:Hp) (Q:VK) (E03:XK):Prop
 |mk (p q:Addr) (b:Nat) (ms:Nat):(vs=[.ref p,.int ms])->(WL H p q b)->(b<2 ^ 60)->(1<=ms)->(ms<=31)->(∀g t H',Tk p H H'->WL H' p q (b+1)->GT H' g t->MkC t->Q (.ref g) H')->Uv vs H Q E03
section
variable {P:Program}{w:World}{K:aa}{mg:TX}{base:Heap}
theorem Zgw {j:TE}{v:V}{σ:L2.St}{H:Hp}{Q:TV->Hp->Prop}(h:j σ H λx q=>Q [v,x] q):Ul (tC v) (Ul j Zha) σ H Q:=h
structure Wl (p:Prop):Prop where
 h:p
theorem Zlu {X:Cx}{j:List Stmt}{D:WT}{σ:L2.St}{H:Hp}{t:TS}(h:QSs X j t)(k:Wl (t D σ H)):∃t,PSs X j t/\t D σ H:=⟨t,h.h,k.h⟩
theorem Zgg {f:Addr}{fd:FuncData}(F:WA K "_law_group" "_law_group" ZhE f fd)(T:BlB mg)(GD:Fn P w K mg base Yd 1 "_law_draw" ["_law_feed_here", "_law_many"] Uw)(p7:Fn P w K mg base Yd 1 "_law_twisted" ["_law_m", "_law_k", "_law_r", "_law_c"] Za9)(p8:Fn P w K mg base Yd 1 "_law_by_perms" ["_law_perms"] Zho)(q0:Fn P w K mg base Yd 1 "_law_times_of" ["_law_perms"] Zba):Z8 P w K mg base Yd 2 f fd ["_law_feed_here", "_law_most"] Uv:=by
 refine F.ok (FS (N:=["_law_feed_here", "_law_most", "_law_some", "_law_at", "_law_m", "_law_k", "_law_r", "_law_c", "_law_perms"])) (λvs H Q E h=>?_) (λcdv A r6 s H vs Q E hr h=>?_)
 ·obtain⟨p,q,b,ms,rfl,_⟩:=h;rfl
 ·obtain⟨p,q,b,ms,rfl,T0,hb,m1,m31,k⟩:=h
  refine Zlu (J9 (ZcR 2 rfl (VX (J8 (Yi [3,2,2,0] (qa qi (qa qi (qa qi (qa qi ZU)))) (by rfl)) (J8 (Yi [4,2,3,2] (qa qi (qa qi (qa qi (qa qi ZU)))) (by rfl)) (J8 (Yi [4,1,1,0] (qa qi (qa qi (qa qi (qa qi ZU)))) (by rfl)) (J8 (Yi [5,1,1,0] (qa qi (qa qi (qa qi (qa qi ZU)))) (by rfl)) (J8 (Yi [2,2,1,0] (qa qi (qa qi (qa qi (qa qi ZU)))) (by rfl)) (J8 (Yi [5,2,4,0] (qa qi (qa qi (qa qi (qa qi ZU)))) (by rfl)) (J8 (Yi [4,2,3,0] (qa qi (qa qi (qa qi (qa qi ZU)))) (by rfl)) Jj)))))))))
   (J9 (ZcR 2 rfl (Zh0 VE (vn 2) (VX (J8 (Yi [3,4,2,0] (qa qi (qa qi (qa qi (qa qi ZU)))) (by rfl)) (J8 (Yi [7,3,2,0] (qa qi (qa qi (qa qi (qa qi ZU)))) (by rfl)) (J8 (Yi [1,1,1,0] (qa qi (qa qi (qa qi (qa qi ZU)))) (by rfl)) (J8 (Yi [3,1,1,0] (qa qi (qa qi (qa qi (qa qi ZU)))) (by rfl)) (J8 (Yi [2,1,1,0] (qa qi (qa qi (qa qi (qa qi ZU)))) (by rfl)) (J8 (Yi [6,1,1,0] (qa qi (qa qi (qa qi (qa qi ZU)))) (by rfl)) (J8 (Yi [5,4,2,0] (qa qi (qa qi (qa qi (qa qi ZU)))) (by rfl)) Jj))))))))))
   (J9 (ZcR 2 rfl (Zh0 VE (vn 2) (VX (J8 (Yi [6,2,5,0] (qa qi (qa qi (qa qi (qa qi ZU)))) (by rfl)) (J8 (Yi [3,3,1,0] (qa qi (qa qi (qa qi (qa qi ZU)))) (by rfl)) (J8 (Yi [7,2,6,0] (qa qi (qa qi (qa qi (qa qi ZU)))) (by rfl)) (J8 (Yi [8,2,3,0] (qa qi (qa qi (qa qi (qa qi ZU)))) (by rfl)) (J8 (Yi [8,2,7,4] (qa qi (qa qi (qa qi (qa qi ZU)))) (by rfl)) (J8 (Yi [8,2,7,0] (qa qi (qa qi (qa qi (qa qi ZU)))) (by rfl)) (J8 (Yi [7,1,1,0] (qa qi (qa qi (qa qi (qa qi ZU)))) (by rfl)) Jj))))))))))
   (J9 (ZcR 2 rfl (Zh0 VE (vn 2) (VX (J8 (Yi [4,2,1,0] (qa qi (qa qi (qa qi (qa qi ZU)))) (by rfl)) (J8 (Yi [8,1,1,0] (qa qi (qa qi (qa qi (qa qi ZU)))) (by rfl)) (J8 (Yi [8,2,5,0] (qa qi (qa qi (qa qi (qa qi ZU)))) (by rfl)) (J8 (Yi [9,2,8,0] (qa qi (qa qi (qa qi (qa qi ZU)))) (by rfl)) (J8 (Yi [9,1,1,0] (qa qi (qa qi (qa qi (qa qi ZU)))) (by rfl)) (J8 (Yi [4,4,3,0] (qa qi (qa qi (qa qi (qa qi ZU)))) (by rfl)) Jj)))))))))
   (J9 ⟨ZH 3 rfl (Wh GD hr ZL (pc (vn 0) (pc (vn 1) Zt)))⟩
   (J9 ⟨WN (ZP Zfc (vn 3) (cb (Yt K) T.len (pc (vn 2) Zt)) (ZW _))
    (Zs (W2 (ZD (Jb K) (vn 2) (vn 3) (λ_ _=>rfl)) (g4 K 4 5 6 7 rfl (gn 4) (gn 5) (gn 6) (gn 7)))
    (Zw (ZK (Wh p7 hr ZL (pc (vn 4) (pc (vn 5) (pc (vn 6) (pc (vn 7) Zt)))))))) YF⟩
   (J9 (ZcR 8 rfl (Zqz (qal (VX (J8 (Yi [1,2,0,3] (qa qi (qa qi (qa qi (qa qi ZU)))) (by rfl)) (J8 (Yi [1,0,3,2] (qa qi (qa qi (qa qi (qa qi ZU)))) (by rfl)) Jj))) (qal (VX (J8 (Yi [1,2,3,0] (qa qi (qa qi (qa qi (qa qi ZU)))) (by rfl)) (J8 (Yi [1,0,2,3] (qa qi (qa qi (qa qi (qa qi ZU)))) (by rfl)) Jj))) (qal (VX (J8 (Yi [1,2,3,4,0] (qa qi (qa qi (qa qi (qa qi (qa qi ZU))))) (by rfl)) (J8 (Yi [1,2,0,3,4] (qa qi (qa qi (qa qi (qa qi (qa qi ZU))))) (by rfl)) Jj))) Zkg)))))
   (J9 (ZoR (vn 8) qi (VX (J8 (Yi [3,7,2,6,1,5,0,4] (qa qi (qa qi (qa qi (qa qi (qa qi (qa qi (qa qi (qa qi ZU)))))))) (by rfl)) (J8 (Yi [5,2,0,6,3,1,7,4] (qa qi (qa qi (qa qi (qa qi (qa qi (qa qi (qa qi (qa qi ZU)))))))) (by rfl)) Jj))))
   ⟨Zw (ZK (Wh q0 hr ZL (pc (Wh p8 hr ZL (pc (ZD (Jb K) (vn 8) (Zy YC (vn 3) (cb (Yt K) T.len (pc (vn 2) Zt))) (λ_ _=>rfl)) Zt)) Zt)))⟩)))))))) ?_
  refine⟨?_⟩;have sz:=JE;refine Vl (JZ sm1 (by decide) (by decide) λO H1 s1 l1 i1 S1 n1=>?_);have t1:=s1.trans (Zv.upd (o:=.lst (O.map V.ref)) n1);have R1:TupsAt (upd H1 S1 (.lst (O.map V.ref))) S1 O sm1:=⟨Zu,l1,λi b hb=>Zv.upd (o:=.lst (O.map V.ref)) n1 _ _ (i1 i b hb)⟩;generalize upd H1 S1 (.lst (O.map V.ref))=G1 at t1 R1 ⊢;refine Vl ⟨_,rfl,JZ sm2 (by decide) (by decide) λY H2 s2 l2 i2 S2 n2=>?_⟩;have t2:=s2.trans (Zv.upd (o:=.lst (Y.map V.ref)) n2);have R2:TupsAt (upd H2 S2 (.lst (Y.map V.ref))) S2 Y sm2:=⟨Zu,l2,λi b hb=>Zv.upd (o:=.lst (Y.map V.ref)) n2 _ _ (i2 i b hb)⟩;generalize upd H2 S2 (.lst (Y.map V.ref))=G2 at t2 R2 ⊢;have m8:=R1.mono t2;refine⟨S1,S2,_,_,rfl,rfl,m8.1,R2.1,by rw[Za,Za,m8.2.1,R2.2.1];decide,λN2 m2=>?_⟩;have u2:=(t1.trans t2).trans (Zv.upd (o:=.lst (O.map V.ref++Y.map V.ref)) m2);have Q2:=m8.cat R2 m2;generalize upd G2 N2 (.lst (O.map V.ref++Y.map V.ref))=J2 at u2 Q2 ⊢;refine Vl ⟨_,rfl,JZ sm3 (by decide) (by decide) λb3 H3 s3 l3 i3 S3 n3=>?_⟩;have t3:=s3.trans (Zv.upd (o:=.lst (b3.map V.ref)) n3);have R3:TupsAt (upd H3 S3 (.lst (b3.map V.ref))) S3 b3 sm3:=⟨Zu,l3,λi b hb=>Zv.upd (o:=.lst (b3.map V.ref)) n3 _ _ (i3 i b hb)⟩;generalize upd H3 S3 (.lst (b3.map V.ref))=G3 at t3 R3 ⊢;have n6:=Q2.mono t3;refine⟨N2,S3,_,_,rfl,rfl,n6.1,R3.1,by rw[Za,Za,n6.2.1,R3.2.1];decide,λN3 m3=>?_⟩;have u3:=(u2.trans t3).trans (Zv.upd (o:=.lst ((O++Y).map V.ref++b3.map V.ref)) m3);have Q3:=n6.cat R3 m3;generalize upd G3 N3 (.lst ((O++Y).map V.ref++b3.map V.ref))=J3 at u3 Q3 ⊢;refine Vl ⟨_,rfl,JZ sm4 (by decide) (by decide) λb4 H4 s4 l4 i4 S4 n4=>?_⟩;have t4:=s4.trans (Zv.upd (o:=.lst (b4.map V.ref)) n4);have R4:TupsAt (upd H4 S4 (.lst (b4.map V.ref))) S4 b4 sm4:=⟨Zu,l4,λi b hb=>Zv.upd (o:=.lst (b4.map V.ref)) n4 _ _ (i4 i b hb)⟩;generalize upd H4 S4 (.lst (b4.map V.ref))=G4 at t4 R4 ⊢;have n8:=Q3.mono t4;refine⟨N3,S4,_,_,rfl,rfl,n8.1,R4.1,by rw[Za,Za,n8.2.1,R4.2.1];decide,λN4 m4=>?_⟩;have u4:=(u3.trans t4).trans (Zv.upd (o:=.lst ((O++Y++b3).map V.ref++b4.map V.ref)) m4);have Q4:TupsAt _ N4 (O++Y++b3++b4) smC:=n8.cat R4 m4;generalize upd G4 N4 (.lst ((O++Y++b3).map V.ref++b4.map V.ref))=J4 at u4 Q4 ⊢;generalize O++Y++b3++b4=bs at Q4;have T4:=T0.mono u4;have r8:smC.length=27:=by decide
  refine⟨_,rfl,_,rfl,p,q,_,b,rfl,T4,hb,by omega,by omega,λr H5 r0 r1 k5 T5=>?_⟩;obtain⟨j,rfl⟩:=cw r0;have Q5:TupsAt H5 N4 bs smC:=⟨k5.lst T4 Q4.1,Q4.2.1,λi b hb=>k5.tup T4 (Q4.2.2 i b hb)⟩;have kk:=(Tk.of u4).trans k5;have bl:(bs.map V.ref).length=27:=by rw[Za,Q5.2.1,r8]
  refine⟨_,rfl,_,rfl,N4,_,rfl,.inl (.of Q5.1),_,_,rfl,rfl,_,rfl,?_⟩;rw[bl];refine YE (λhl=>?_) (λhl=>?_)
  ·have hj:j<27:=by
    have:=of_decide_eq_true hl;omega
   have o8:j<smC.length:=by omega
   obtain⟨a,ha,n9,o0⟩:=Q5.get o8;have hm:smC.getD j []∈smC:=ZbK o8;have hs:=az.mp ZmG _ hm;unfold smB at hs;simp only[ag,decide_eq_true_eq] at hs;obtain⟨⟨⟨⟨⟨⟨⟨x1,x2⟩,x3⟩,x4⟩,x5⟩,x6⟩,x7⟩,x8⟩:=hs;have o9:MkC (twX (smC.getD j [])):=bU _ (aE.mpr ⟨_,hm,rfl⟩);generalize smC.getD j []=x at o0 hm x1 x2 x3 x4 x5 x6 x7 x8 o9;rw[ZqR x1] at o0;refine⟨_,rfl,_,rfl,N4,_,_,_,rfl,rfl,.of Q5.1,n9,a,_,rfl,.of o0,rfl,_,_,rfl,_,_,rfl,_,_,rfl,_,_,rfl,rfl,?_⟩;refine⟨_,rfl,_,rfl,_,rfl,_,rfl,x.getD 0 0,x.getD 1 0,x.getD 2 0,x.getD 3 0,rfl,x2,x3,x4,x5,x6,x7,x8,λg H6 s6 G6=>?_⟩;exact k g _ H6 (kk.trans (Tk.of s6)) (T5.mono s6) G6 o9
  ·have hj:27<=j:=by
    have:¬((j:Int)<((27:Nat):Int)):=λz=>hl (decide_eq_true z);omega
   have r9:j-27<4:=by omega
   refine Vl (Zhb pm3 (by decide) (by decide) λls H6 s6 t5 t6 M hM=>?_);have s7:=s6.trans (Zv.upd (H:=H6) (o:=.lst (ls.map V.ref)) hM);have m7:Zck (upd H6 M (.lst (ls.map V.ref))) M ls pm3:=⟨Zu,t5,λi l hl=>by
    obtain⟨u1,cs,u2⟩:=t6 i l hl;refine⟨λz=>?_,cs,u2.mono (Zv.upd hM)⟩;have:=u2.1;rw[z,hM] at this;cases this⟩
   have t7:H5 M=none:=s6.free hM;generalize upd H6 M (.lst (ls.map V.ref))=H7 at s7 m7 ⊢;refine⟨_,rfl,.inl ⟨rfl,_,.of m7.1⟩,Zgw (JZ pmI (by decide) (by decide) λcs H8 s8 l8 i8 S hS=>?_)⟩;have s9:=s8.trans (Zv.upd (o:=.lst (cs.map V.ref)) hS);have RS:TupsAt (upd H8 S (.lst (cs.map V.ref))) S cs pmI:=⟨Zu,l8,λi b hb=>Zv.upd (o:=.lst (cs.map V.ref)) hS _ _ (i8 i b hb)⟩;generalize upd H8 S (.lst (cs.map V.ref))=H9 at s9 RS ⊢;have m9:=m7.mono s9;have ll:ls.length=3:=m9.2.1;have t8:S≠M:=λz=>by
    have:=s8 _ _ m7.1;rw[<-z,hS] at this;cases this
   refine⟨M,_,_,2,rfl,rfl,m9.1,by rw[Za,ll];decide,by decide,by rw[Za,ll,<-sz];decide,?_⟩
   match ls,ll with
   | [J,a1,a2],_=>
    obtain⟨t9,c0,u5⟩:=m9.2.2 0 J rfl;obtain⟨u9,c1,w8⟩:=m9.2.2 1 a1 rfl;obtain⟨w9,c2,x9⟩:=m9.2.2 2 a2 rfl;have v0:=u5.updM (o:=.lst [.ref J,.ref a1,.ref S,.ref a2]) m9.1 t9;have v1:=w8.updM (o:=.lst [.ref J,.ref a1,.ref S,.ref a2]) m9.1 u9;have v2:=x9.updM (o:=.lst [.ref J,.ref a1,.ref S,.ref a2]) m9.1 w9;have v3:=RS.updM (o:=.lst [.ref J,.ref a1,.ref S,.ref a2]) m9.1 t8;have m5:upd H9 M (.lst [.ref J,.ref a1,.ref S,.ref a2]) M=some (.lst [.ref J,.ref a1,.ref S,.ref a2]):=Zu;have o7:Zv H5 (upd H9 M (.lst [.ref J,.ref a1,.ref S,.ref a2])):=(s7.trans s9).updr t7;rw[show List.take 2 (gS V.ref [J,a1,a2])++V.ref S::List.drop 2 (gS V.ref [J,a1,a2])=[.ref J,.ref a1,.ref S,.ref a2] from rfl];generalize upd H9 M (.lst [.ref J,.ref a1,.ref S,.ref a2])=y4 at v0 v1 v2 v3 m5 o7 ⊢;have p3:∃l cs x,[V.ref J,.ref a1,.ref S,.ref a2][j-27]?=some (.ref l)/\x∈psC/\TupsAt y4 l cs x.1:=by
     match j-27,r9 with
     |0,_=>exact⟨J,c0,pc1,rfl,in1,v0⟩
     |1,_=>exact⟨a1,c1,pc2,rfl,in2,v1⟩
     |2,_=>exact⟨S,cs,pc3,rfl,in3,v3⟩
     |3,_=>exact⟨a2,c2,pc4,rfl,in4,v2⟩
    obtain⟨l,ds,x,n9,hx,Rl⟩:=p3;obtain⟨p4,p6,By,pm,Fs⟩:=ZmV hx;have y6:=Q5.mono o7;refine⟨_,rfl,_,rfl,_,rfl,N4,_,rfl,.inl (.of y6.1),_,_,rfl,rfl,M,_,_,_,rfl,rfl,.of m5,?_,l,ds,x.1,p4,p6,rfl,Rl,By,λL es H11 y8 y9=>?_⟩
    ·rw[bl,show (j:Int)-((27:Nat):Int)=((j-27:Nat):Int) by omega]
     exact ZI n9
    ·refine⟨L,es,p6,x.2,p4,rfl,y9,pm,Fs,λg H12 s12 G12=>?_⟩
     have m6:=(o7.trans y8).trans s12;exact k g _ H12 (kk.trans (Tk.of m6)) (T5.mono m6) G12 (Zh6 x hx)
end
end C47
namespace Tb
section
variable {t:T9}
def UU (t:T9)(i a:Nat):Option Nat:=if Yz (ZA t i) a then some ((ZA t i).findIdx (·.contains a)) else none
theorem Zds {i:Nat}(h:Yz (ZA t i) i=false):ZA t (i+1)=ZA t i++[ZZ t i]:=by
 rw[ZA,if_neg (by unfold Yz at h;rw[h];decide)]
theorem Zdr {i:Nat}(h:Yz (ZA t i) i=true):ZA t (i+1)=ZA t i:=by
 rw[ZA,if_pos (by unfold Yz at h;rw[h])]
theorem Zld (P:PW t){i:Nat}(hi:i<t.length)(h:Yz (ZA t i) i=false)(a:Nat):UU t (i+1) a=if a∈ZZ t i then some (ZA t i).length else UU t i a:=by
 have M:=Zds h;unfold UU;rw[M,List.findIdx_append];by_cases q:a∈ZZ t i
 ·have ns:¬ ∃c∈ZA t i,c.contains a=true:=by
   rintro⟨c,O,Y⟩;obtain⟨j,hj⟩:=bo O;have jl:=(ae.mp hj).1;have:=Vv P (i+1) (by omega) j (ZA t i).length c (ZZ t i) a (by rw[M,aq jl];exact hj) (by rw[M,au (Zq _),cn];rfl) (aw.mp Y) q;omega
  have se:Yz (ZA t i++[ZZ t i]) a=true:=by
   unfold Yz;rw[ij,cR,aw.mpr q];simp
  rw[if_pos se,if_pos q,if_neg (λz=>ns (cB.mp z)),List.findIdx_cons,aw.mpr q];simp
 ·have O:(ZZ t i).contains a=false:=by
   cases e:(ZZ t i).contains a with
   |false=>rfl
   |true=>exact absurd (aw.mp e) q
  have se:Yz (ZA t i++[ZZ t i]) a=Yz (ZA t i) a:=by
   unfold Yz;rw[ij,cR,kw,O,gI,gI]
  rw[se,if_neg q];by_cases J:Yz (ZA t i) a=true
  ·rw[if_pos J,if_pos J,if_pos (cB.mpr (by
    obtain⟨c,h1,h2⟩:=aU.mp J;exact⟨c,h1,h2⟩))]
  ·rw[if_neg J,if_neg J]
theorem Zlc {i:Nat}(h:Yz (ZA t i) i=true)(a:Nat):UU t (i+1) a=UU t i a:=by
 unfold UU;rw[Zdr h]
theorem Zle (P:PW t){a:Nat}(j:a<t.length):UU t t.length a=some (Yg t a):=by
 unfold UU Yg;rw[if_pos (Jg P t.length (Zq _) a j)]
end
end Tb
namespace C47
open PySem L2 PySem.Spec PyProof.Rows
open Tb Pm
theorem Zhq {ns M:TZ}{c:T7}(J:bD ns M)(O:ns.Pairwise (· ≤ ·))(Y:M.Nodup)(hm:∀k:Int,k∈M↔∃a∈c,k=(a:Int))(q:c.Pairwise (· < ·)):ns.map V.int=c.map nV:=by
 have e:ns=c.map λa:Nat=>(a:Int):=by
  refine lI (J.trans ?_) O ?_
  ·refine (cD Y ?_).mpr λk=>?_
   ·refine fI _ (λa b (h:a<b)=>?_) q
    omega
   ·rw[hm k,aE]
    exact⟨λ⟨a,j,e⟩=>⟨a,j,e.symm⟩,λ⟨a,j,e⟩=>⟨a,j,e.symm⟩⟩
  ·refine fI _ (λa b (h:a<b)=>?_) q
   omega
 rw[e,aH];rfl
def LsC (H:Hp)(L:Addr)(bs:TW)(j:T9):Prop:=H L=some (.lst (bs.map V.ref))/\bs.length=j.length/\∀(i:Nat) b,bs[i]?=some b->b≠L/\H b=some (.lst ((j.getD i []).map nV))
theorem LsC.mono {H q:Hp}{L:Addr}{bs:TW}{j:T9}(s:Zv H q)(h:LsC H L bs j):LsC q L bs j:=⟨s _ _ h.1,h.2.1,λi b hb=>⟨(h.2.2 i b hb).1,s _ _ (h.2.2 i b hb).2⟩⟩
theorem LsC.updD {H:Hp}{L D:Addr}{bs:TW}{j:T9}{q:List (YQ×V)}{o:HO}(h:LsC H L bs j)(J:H D=some (.dK q)):LsC (upd H D o) L bs j:=
 ⟨by rw[Zz (λz=>by have:=h.1;rw[z,J] at this;cases this)];exact h.1,h.2.1,λi b hb=>⟨(h.2.2 i b hb).1,by
  have:=(h.2.2 i b hb).2;rw[Zz (λz=>by rw[z,J] at this;cases this)];exact this⟩⟩
theorem LsC.push {H:Hp}{L b:Addr}{bs:TW}{q:T9}{c:T7}(h:LsC H L bs q)(hb:H b=some (.lst (c.map nV)))(ne:b≠L):LsC (upd H L (.lst (bs.map V.ref++[.ref b]))) L (bs++[b]) (q++[c]):=by
 refine⟨by rw[Zu,aO];rfl,by rw[Zd,Zd,h.2.1];rfl,λi d j=>?_⟩;by_cases M:i<bs.length
 ·rw[aq M] at j
  obtain⟨O,Y⟩:=h.2.2 i d j;rw[Zz O,Zb,aq (by rw[<-h.2.1];exact M),<-Zb];exact⟨O,Y⟩
 ·rw[au (by omega)] at j
  cases J:i-bs.length with
  |zero=>
   rw[J] at j;cases j;rw[Zz ne,Zb,au (by rw[<-h.2.1];omega),<-h.2.1,J];exact⟨ne,hb⟩
  |succ k=>rw[J] at j;cases j
noncomputable abbrev ZcI:Stmt:=top 38
def vI:Option Nat->TU:=Option.map λn=>V.int (n:Nat)
inductive ZdU (vs:TV) (H:Hp) (Q:VK) (E03:XK):Prop
 |mk (g:Addr) (t:T9):(vs=[.ref g])->(GT H g t)->(PW t)->(∀r L D bs kvs H',Zv H H'->H' r=some (.tup [.ref L,.ref D])->LsC H' L bs (ZA t t.length)->H' D=some (.dK kvs)->(∀a:Nat,a<t.length->YZ kvs (.inl (a:Int))=some (.int (Yg t a:Nat)))->Q (.ref r) H')->ZdU vs H Q E03
section
variable {P:Program}{w:World}{K:aa}{mg:TX}{base:Heap}
theorem ZkP {f:Addr}{fd:FuncData}(F:WA K "_law_classes" "_law_classes" ZcI f fd)(T:BlB mg)(TS:mg "set"=none):Z8 P w K mg base Yd 1 f fd ["_law_group_here"] ZdU:=by
 refine F.ok (FS (N:=["_law_group_here", "_law_backs", "_law_found", "_law_met", "_law_thing", "_law_here", "_law_one"])) (λvs H Q E h=>?_) (λo9 A n8 s H vs Q E hr h=>?_)
 ·obtain⟨g,t,rfl,_⟩:=h;rfl
 ·obtain⟨g,t,rfl,G0,M,k⟩:=h
  have hu:(A.deeper (envOfC "_law_classes" (Z1 ZcI) s.heap.objs.size f o9)).units+1<cLine:=by have:=hr.un;omega
  refine⟨_,Zs (ZH 1 rfl (cmp ["_law_row"] [] ["_law_row"] rfl (itT K (vn 0)) (λ_ _ _ _ _=>gn 0) (λ_ _ _ _ _=>ZM) (λ_ _ _ _ _=>ZbC eC cS eA (ZjU K) (vn 0) (pc Zx Zt))))
   (Zs (ZH 2 rfl (ZR Zt))
   (Zs (ZH 3 rfl ZcV)
   (Zs (ZN am rfl (WI T.range (pc (cb (Yt K) T.len (pc (vn 0) Zt)) Zt)) (gnf 4 rfl)
   (Zw (WN (Zh5 (ZaH hu (vn 4) (vn 3))) (Zs (Zai 5 ["_law_t"] [0,4,1] ["_law_t", "_law_group_here", "_law_thing", "_law_backs"] rfl rfl (WI T.range (pc (cb (Yt K) T.len (pc (vn 0) Zt)) Zt)) (λ_ _ _ _ _=>gn 0) (λ_ _ _ _ _=>ZM) (λ_ _ _ _ _=>ZD (JW K) (ZD (JW K) (vn 1) (ZD (JW K) (ZD (JW K) (vn 1) (vn 0) (λ_ _=>rfl)) (vn 2) (λ_ _=>rfl)) (λ_ _=>rfl)) (ZD (Jb K) (vn 3) (vn 0) (λ_ _=>rfl)) (λ_ _=>rfl)))
   (Zs (ZH 5 rfl (cb (Zab rfl) T.sorted (pc (ct (ZaX rfl) TS (pc (vn 5) Zt)) Zt)))
   (Zs (ZN am rfl (itL K (vn 5)) (gn 6)
   (Zw (Xu hu (vn 3) (vn 6) (cb (Yt K) T.len (pc (vn 2) Zt)) (by rfl))))
   (Zw (YG (WC aJ aQ aR Ye (vn 2) (pc (vn 5) Zt))))))) YF)))
   (Zw (ZK (XW (pc (vn 2) (pc (vn 3) Zt)))))))),?_⟩
  have sz:=JE;have n1:=M.n1;have n60:=M.n60;obtain⟨gs,u1,u2,u3⟩:=id G0;have el:(gs.map V.ref).length=t.length:=by rw[Za,u2]
  refine⟨_,rfl,g,rfl,⟨_,.of u1⟩,?_⟩;refine YI (Wa (K:=K) (.of u1)) [] rfl (λa=>nV (Yc t a)) (by rw[el];omega) (λi y hy O s' R' kk=>?_) (λB H1 nB s1 hB=>?_)
  ·obtain⟨r,p8,rfl⟩:=J6 hy
   have hi:i<t.length:=by rw[<-u2];exact (ae.mp p8).1
   have hz:=(u3 i r p8).mono s';obtain⟨b1,b2⟩:=Z4 M hi;have hl:=JJ M hi;refine⟨_,rfl,⟨_,_,rfl,hz⟩,r,_,.int 0,Yc t i,rfl,rfl,hz.sq,rfl,?_,by rw[Za,hl];exact b1,λz Y=>?_,λm z hm Y=>?_,kk O (Zv.refl _)⟩
   ·rw[az]
    intro z Y;obtain⟨k,_,rfl⟩:=aE.mp Y;rfl
   ·rw[Jo M hi b1,b2] at Y
    cases Y;decide
   ·have q0:m<t.length:=by omega
    rw[Jo M hi q0] at Y;cases Y;have:ZQ t i m≠0:=λz=>by
     have:=JR M hi q0 z;omega
    show decide ((ZQ t i m:Int)=0)=false;exact decide_eq_false (by omega)
  ·rw[el] at hB
   refine⟨JF,λL nL=>λD nD=>?_⟩;have s2:=s1.trans (Zv.upd (H:=H1) (o:=.lst []) nL);have s3:=s2.trans (Zv.upd (o:=.dK []) nD);have t8:H L=none:=s1.free nL;have t9:H D=none:=s2.free nD;have r6:=(Zv.upd (o:=.dK []) nD) _ _ ((Zv.upd (H:=H1) (o:=.lst []) nL) _ _ hB);have r8:=(Zv.upd (o:=.dK []) nD) _ _ (Zu (H:=H1) (a:=L) (o:=.lst []));have r9:=Zu (H:=upd H1 L (.lst [])) (a:=D) (o:=.dK []);have u5:B≠L:=λz=>by rw[z,nL] at hB;cases hB
   generalize upd (upd H1 L (.lst [])) D (.dK [])=H3 at s3 r6 r8 r9 ⊢;refine⟨_,rfl,g,_,rfl,.inr (.of (s3 _ _ u1)),_,rfl,by rw[el];omega,by rw[el];omega,?_⟩;rw[el,Zj];refine Z0 (λi J O=>∃(w4 w5 w6:TU) (bs:TW) (q:List (YQ×V)),J=[some (.ref g),some (.ref B),some (.ref L),some (.ref D),w4,w5,w6]/\Zv H O/\O B=some (.lst ((ac t.length).map λa=>nV (Yc t a)))/\LsC O L bs (ZA t i)/\O D=some (.dK q)/\(∀a:Nat,YZ q (.inl (a:Int))=vI (UU t i a))/\q.length<=60*i)
    ⟨_,_,_,[],[],rfl,s3,r6,⟨r8,rfl,λi b hb=>by cases hb⟩,r9,λa=>rfl,Zq _⟩ ?_ ?_
   ·rintro i J H4 hi ⟨w4,w5,w6,bs,q,rfl,s4,m6,R4,m8,hv,kl⟩
    rw[show (0:Int)+(i:Int)=(i:Int) by omega];refine⟨_,rfl,_,rfl,D,_,rfl,Ji.k (k:=.inl (i:Int)) m8,_,rfl,?_⟩;have p3:(YZ q (.inl (i:Int))).isSome=Yz (ZA t i) i:=by
     rw[hv i];unfold UU vI;cases Yz (ZA t i) i <;> rfl
    rw[p3];refine YE (λh=>?_) (λh=>?_)
    ·have h:Yz (ZA t i) i=false:=by simpa using h
     have eU:=Zds h;refine⟨_,rfl,g,_,rfl,.inr (.of (s4 _ _ u1)),_,rfl,by rw[el];omega,by rw[el];omega,?_⟩;rw[el,Zj];refine YI (Wi 0 t.length) [some (.ref g),some (.int (i:Nat)),some (.ref B)] rfl (λx=>nV (tb t i x)) (by rw[Za,Z7];omega) (λj y hy O s' R' kk=>?_) (λEh H5 nE s5 hE=>?_)
     ·obtain⟨hj,rfl⟩:=Vm hy
      have G':=G0.mono (s4.trans s');obtain⟨rs,r,h1,_,h2,h3,h4⟩:=G'.at M hj;have m1:=M.lt j i hj hi;obtain⟨rs',r',u9,_,w8,w9,x9⟩:=G'.at M m1;have y4:=s' _ _ m6;have gB:((ac t.length).map λa=>nV (Yc t a))[j]?=some (nV (Yc t j)):=by rw[Zc,aj hj];rfl
      refine⟨_,rfl,_,rfl,_,rfl,g,_,_,_,rfl,rfl,.of h1,h2,_,rfl,r,_,_,_,rfl,rfl,h3.sq,h4 i hi,g,_,_,_,rfl,rfl,.of u9,w8,_,rfl,_,rfl,B,_,_,_,rfl,rfl,.of y4,ZI gB,r',_,_,_,rfl,rfl,w9.sq,x9 _ (Z4 M hj).1,?_⟩;exact kk O (Zv.refl _)
     ·rw[Za,Z7] at hE
      have eN:((ac t.length).map λx=>nV (tb t i x))=((ac t.length).map λx=>((tb t i x:Nat):Int)).map V.int:=by rw[aH];rfl
      rw[eN] at hE;generalize hN:((ac t.length).map λx=>((tb t i x:Nat):Int))=N at hE;have nl:N.length=t.length:=by rw[<-hN,Za,Zg]
      refine⟨_,rfl,Eh,N,rfl,.of hE,by omega,λp1 y6=>?_⟩;have s6:=Zv.upd (o:=ZcF P w p1 (JS N N.length)) y6;have ml:(JS N N.length).length<=N.length:=ju _ _;refine⟨p1,JS N N.length,rfl,Zu,JA _ _,by omega,λl ns p4 hp hs=>?_⟩;rw[show (Zdm Yd P w K mg base ["_law_group_here", "_law_backs", "_law_found", "_law_met", "_law_thing", "_law_here", "_law_one"] "_law_classes" (Z1 ZcI) f o9 A n8 s H E).nox.prog=P from rfl,show (Zdm Yd P w K mg base ["_law_group_here", "_law_backs", "_law_found", "_law_met", "_law_thing", "_law_here", "_law_one"] "_law_classes" (Z1 ZcI) f o9 A n8 s H E).nox.w=w from rfl] at p4 ⊢;have s7:=Zv.upd (o:=.lst (ns.map V.int)) p4;have e:=Zhq (c:=ZZ t i) hp hs (JA _ _) (λk=>?_) (Zdq i)
      ·rw[e] at s7 ⊢
       have n9:=Zu (H:=upd H5 p1 (ZcF P w p1 (JS N N.length))) (a:=l) (o:=.lst ((ZZ t i).map nV));have o0:=(s5.trans s6).trans s7;have y8:l≠L:=λz=>by
        have:=(s5.trans s6) _ _ R4.1;rw[<-z,p4] at this;cases this
       generalize upd (upd H5 p1 (ZcF P w p1 (JS N N.length))) l (.lst ((ZZ t i).map nV))=H7 at s7 n9 o0 ⊢;have t5:=o0 _ _ m8;have y9:l≠D:=λz=>by rw[z,t5] at n9;cases n9
       have nBD:B≠D:=λz=>by rw[z,m8] at m6;cases m6
       have cl:=ZfL (t:=t) i;refine⟨_,rfl,l,rfl,⟨_,.of n9⟩,?_⟩;refine ZiW (K:=K) (a:=l) (xs:=(ZZ t i).map nV) (λj J O=>∃(w6:TU) (m5:List (YQ×V)),J=[some (.ref g),some (.ref B),some (.ref L),some (.ref D),some (.int (i:Nat)),some (.ref l),w6]/\Zv H O/\O l=some (.lst ((ZZ t i).map nV))/\O B=some (.lst ((ac t.length).map λa=>nV (Yc t a)))/\LsC O L bs (ZA t i)/\O D=some (.dK m5)/\(∀a:Nat,YZ m5 (.inl (a:Int))=if a∈(ZZ t i).take j then some (.int ((ZA t i).length:Nat)) else vI (UU t i a))/\m5.length<=60*i+j)
        ⟨_,q,rfl,s4.trans o0,n9,o0 _ _ m6,R4.mono o0,t5,λa=>by rw[hv a,e9,if_neg (by simp)],kl⟩ (λj J O _ h=>by
         obtain⟨_,_,_,_,hl',_⟩:=h;exact .of hl') ?_ ?_
       ·rintro j y J H8 hy ⟨w6',m5,rfl,s8,p6,p7,R8,n6,o7,t6⟩
        obtain⟨c,hc,rfl⟩:=XY hy;have hj:j<(ZZ t i).length:=(ae.mp hc).1;have nLD:L≠D:=λz=>by have:=R8.1;rw[z,n6] at this;cases this
        have bl:=R8.2.1;refine⟨_,rfl,L,_,rfl,.inl (.of R8.1),_,rfl,_,rfl,D,_,rfl,VW.k (k:=.inl (c:Int)) n6 (by omega),?_⟩;refine⟨_,_,rfl,s8.updr t9,by rw[Zz y9];exact p6,by rw[Zz nBD];exact p7,R8.updD n6,Zu,λa=>?_,?_⟩
        ·rw[Zg1,o7 a,cM,hc]
         by_cases o8:a=c
         ·rw[if_pos (by rw[o8]),if_pos (by rw[o8];simp),Za,bl]
         ·rw[if_neg (λz=>o8 (by have:=Sum.inl.inj z;omega))]
          by_cases ha:a∈(ZZ t i).take j
          ·rw[if_pos ha,if_pos (bU _ ha)]
          ·rw[if_neg ha,if_neg]
           intro z;rcases bH.mp z with z|z
           ·exact ha z
           ·exact o8 (aS.mp z)
        ·have:=Jl m5 (.inl (c:Int)) (.int ((bs.map V.ref).length:Nat))
         omega
       ·rintro J H8 ⟨w6',m5,rfl,s8,p6,p7,R8,n6,o7,t6⟩
        rw[Za] at o7 t6;have bl:=R8.2.1;have ul:=Wr (t:=t) i;refine⟨_,rfl,.inl ⟨rfl,_,.of R8.1⟩,_,rfl,L,_,_,rfl,rfl,R8.1,by rw[Za];omega,?_⟩;refine⟨_,_,_,bs++[l],m5,rfl,s8.updr t8,by rw[Zz u5];exact p7,by rw[eU];exact R8.push p6 y8,?_,λa=>?_,by omega⟩
        ·rw[Zz (λz=>by have:=R8.1;rw[<-z,n6] at this;cases this)]
         exact n6
        ·rw[o7 a,cU,Zld M hi h]
         by_cases ha:a∈ZZ t i
         ·rw[if_pos ha,if_pos ha];rfl
         ·rw[if_neg ha,if_neg ha]
      ·rw[Zfi]
       constructor
       ·rintro⟨j,hj,e⟩
        have t7:j<t.length:=by omega
        refine⟨tb t i j,(Yf M hi).mpr ⟨j,t7,rfl⟩,?_⟩;rw[<-e,<-hN,Zb,Zc,aj t7];rfl
       ·rintro⟨a,ha,rfl⟩
        obtain⟨x,hx,e⟩:=(Yf M hi).mp ha;refine⟨x,by omega,?_⟩;rw[<-e,<-hN,Zb,Zc,aj hx];rfl
    ·have h:Yz (ZA t i) i=true:=by simpa using h
     exact⟨_,_,_,bs,q,rfl,s4,m6,by rw[Zdr h];exact R4,m8,λa=>by rw[Zlc h];exact hv a,by omega⟩
   ·rintro J H4 ⟨w4,w5,w6,bs,q,rfl,s4,m6,R4,m8,hv,kl⟩
    refine⟨_,rfl,_,rfl,JF,λr nr=>?_⟩;exact k r L D bs q _ (s4.trans (Zv.upd nr)) Zu (R4.mono (Zv.upd nr)) (Zv.upd nr _ _ m8) λa ha=>by rw[hv a,Zle M ha];rfl
end
noncomputable abbrev ZeQ:Stmt:=top 40
inductive Us (vs:TV) (H:Hp) (Q:VK) (E03:XK):Prop
 |mk (g:Addr) (t:T9) (rs:Nat->Nat):(vs=[.ref g])->(GT H g t)->(PW t)->((∀a,a<t.length->Rd t a (rs a)))->(∀(f:Nat) H',Zv H H'->Lc rs t.length f->Q (.int f) H')->Us vs H Q E03
section
variable {P:Program}{w:World}{K:aa}{mg:TX}{base:Heap}
theorem Zge {f:Addr}{fd:FuncData}(F:WA K "_law_round" "_law_round" ZeQ f fd)(T:BlB mg):Z8 P w K mg base Yd 1 f fd ["_law_group_here"] Us:=by
 refine F.ok (FS (N:=["_law_group_here", "_law_found", "_law_thing", "_law_many", "_law_here", "_law_lead"])) (λvs H Q E h=>?_) (λo8 A m8 s H vs Q E hr h=>?_)
 ·obtain⟨g,t,rs,rfl,_⟩:=h;rfl
 ·obtain⟨g,t,rs,rfl,G,Pt,R,q⟩:=h
  refine⟨_,Zs (ZH 1 rfl Zx) (Zs (ZN am rfl (WI T.range (pc (cb (Yt K) T.len (pc (vn 0) Zt)) Zt)) (gn 2)
    (Zs (ZH 3 rfl Zx)
    (Zs (ZH 4 rfl (vn 2))
    (Zs (Yp am (ZP Jy (vn 4) Zx (ZW _))
     (Zs (ZH 4 rfl (ZD (JW K) (ZD (JW K) (vn 0) (vn 4) (λ_ _=>rfl)) (vn 2) (λ_ _=>rfl)))
     (Zw (ZH 3 rfl (Zy Ym (vn 3) Zx)))))
    (Zs (ZH 5 rfl (vn 1))
    (Zs (Yp am (ZP Jy (Zy ZV (vn 5) (vn 3)) Zx (ZW _)) (Zw (ZH 5 rfl (Zy Ym (vn 5) (vn 1)))))
    (Zw (ZH 1 rfl (vn 5)))))))))
   (Zw (ZK (vn 1)))),?_⟩
  have n1:=Pt.n1;have o9:=Pt.n60;obtain⟨gs,g1,g2,_⟩:=id G;have el:(gs.map V.ref).length=t.length:=by rw[Za,g2]
  refine⟨_,rfl,g,_,rfl,.inr (.of g1),_,rfl,by omega,by rw[el];omega,?_⟩;rw[Zj,el];refine Z0 (λi m5 H'=>∃(f:Nat) (v2 v3 v4 v5:TU),m5=[some (.ref g),some (.int f),v2,v3,v4,v5]/\Zv H H'/\Lc rs i f) ⟨1,_,_,_,_,rfl,Zv.refl _,⟨Zq _,λa ha=>absurd ha (dC _),λx _=>Nat.mod_one x⟩⟩ ?_ ?_
  ·rintro i m5 H' hi ⟨f,v2,v3,v4,v5,rfl,sm,L⟩
   rw[show (0:Int)+(i:Int)=(i:Int) by omega];have Ri:=R i hi;have n6:=Ri.r1;have L2:Lc rs (i+1) (upTo (rs i) f 61 f):=L.step (B:=t.length) n1 (λa ha=>(R a (by omega)).dv) (by omega);have m6:=L2.dv i (by omega);have Gm:=G.mono sm;refine⟨_,rfl,?_⟩;refine Yh (λm j M=>∃k:Nat,j=[some (.ref g),some (.int f),some (.int i),some (.int k),some (.int (it t i k:Nat)),v5]/\M=H'/\1<=k/\k<=rs i/\m=rs i-k)
    (λj M=>∃w4:TU,j=[some (.ref g),some (.int f),some (.int i),some (.int (rs i:Nat)),w4,v5]/\M=H') ?hend1 ⟨rs i-1,1,by rw[Zej Pt hi];rfl,rfl,Zq _,n6,rfl⟩ ?turn1
   case turn1=>
    rintro O m j M ⟨k,rfl,rfl,k1,kr,hm⟩;refine⟨_,rfl,rfl,_,rfl,?_⟩;refine YE (λJ=>?_) (λJ=>?_)
    ·have J:it t i k≠0:=λz=>by
      rw[Yu,z] at J;simp at J
     have p3:k<rs i:=bu kr λz=>J (z▸Ri.z);obtain⟨p4,r2,n9,_,o0,g3,g4⟩:=Gm.at Pt (Jc Pt hi k);refine⟨_,λ_ _ z=>z,_,rfl,_,rfl,g,_,_,_,rfl,rfl,.of n9,o0,_,rfl,r2,_,_,_,rfl,rfl,g3.sq,g4 i hi,_,rfl,_,_,rfl,rfl,rs i-(k+1),by omega,k+1,?_,rfl,by omega,by omega,rfl⟩;rfl
    ·have J:it t i k=0:=by
      apply ai;intro z;apply J;rw[Yu];simp[z]
     have:k=rs i:=by
      apply ai;intro z;exact Ri.nz k k1 (by omega) J
     exact O _ _ ⟨_,by rw[this],rfl⟩
   case hend1=>
    rintro j M ⟨w4,rfl,rfl⟩;refine⟨_,rfl,?_⟩;refine Yh (λm j H3=>∃x:Nat,j=[some (.ref g),some (.int f),some (.int i),some (.int (rs i:Nat)),w4,some (.int x)]/\H3=M/\upTo (rs i) f m x=upTo (rs i) f 61 f)
     (λj H3=>j=[some (.ref g),some (.int f),some (.int i),some (.int (rs i:Nat)),w4,some (.int (upTo (rs i) f 61 f:Nat))]/\H3=M) ?hend ⟨61,f,rfl,rfl,rfl⟩ ?turn
    case hend=>
     rintro j H3 ⟨rfl,rfl⟩;exact⟨_,rfl,_,_,_,_,_,rfl,sm,L2⟩
    case turn=>
     rintro O m j H3 ⟨x,rfl,rfl,Y⟩;have eT:(x:Int) % ((rs i:Nat):Int)=((x % rs i:Nat):Int):=by push_cast;rfl
     refine⟨_,rfl,_,rfl,_,_,rfl,rfl,(by show (0:Int)<(rs i:Nat);omega),rfl,_,rfl,?_⟩;refine YE (λJ=>?_) (λJ=>?_)
     ·have J:x % rs i≠0:=λz=>by
       rw[Yu,eT,z] at J;simp at J
      cases m with
      |zero=>
       have Y:x=upTo (rs i) f 61 f:=Y;rw[<-Y] at m6;exact absurd m6 J
      |succ m=>
       rw[Tb.upTo,if_neg J] at Y;exact⟨_,λ_ _ z=>z,_,rfl,_,rfl,_,_,rfl,rfl,m,by omega,x+f,rfl,rfl,Y⟩
     ·have J:x % rs i=0:=by
       apply ai;intro z;apply J;rw[Yu,eT];simp;omega
      have:x=upTo (rs i) f 61 f:=by
       cases m with
       |zero=>exact Y
       |succ m=>rw[Tb.upTo,if_pos J] at Y;exact Y
      exact O _ _ ⟨by rw[this],rfl⟩
  ·rintro m5 H' ⟨f,v2,v3,v4,v5,rfl,sm,L⟩
   exact⟨_,rfl,q f H' sm L⟩
end
structure Bl (mg:TX):Prop where
 list:mg "list"=none
 len:mg "len"=none
 abs:mg "abs"=none
 range:mg "range"=none
 tuple:mg "tuple"=none
 isi:mg "isinstance"=none
 all:mg "all"=none
 set:mg "set"=none
 repr:mg "repr"=none
 any:mg "any"=none
 int:mg "int"=none
 bool:mg "bool"=none
noncomputable abbrev ZlW:Stmt:=top 3
inductive ZdV (K:aa) (vs:TV) (H:Hp) (Q:VK) (E03:XK):Prop
 |mk (g:Addr) (t:T9) (a r:Nat):(vs=[.ref g,.int a])->(GT H g t)->(PW t)->(a<t.length)->(Rd t a r)->(Q (.int (it t a (r-1):Nat)) H)->ZdV K vs H Q E03
section
variable {P:Program}{w:World}{K:aa}{mg:TX}{base:Heap}
theorem ZkQ {f:Addr}{fd:FuncData}(F:WA K "back" "back" ZlW f fd):Z8 P w K mg base Yd 1 f fd ["group", "a"] (ZdV K):=by
 refine F.ok (FS (N:=["group", "a"])) (λvs H Q E h=>?_) (λm5 A Y s H vs Q E hr h=>?_)
 ·obtain⟨g,t,a,r,rfl,_⟩:=h;rfl
 ·obtain⟨g,t,a,r,rfl,G,J,M,R,q⟩:=h
  refine⟨_,Zw (ZK (ZbC eC cS eA (ZjU K) (ZD (JW K) (vn 0) (vn 1) (λ_ _=>rfl)) (pc Zx Zt))),?_⟩;obtain⟨rs,r1,h1,_,h2,h3,h4⟩:=G.at J M;have hl:=JJ J M;have il:=Jc J M (r-1);refine⟨_,rfl,_,rfl,g,_,_,_,rfl,rfl,.of h1,h2,⟨_,_,rfl,h3⟩,r1,_,.int 0,it t a (r-1),rfl,rfl,h3.sq,rfl,?_,by rw[Za,hl];exact il,λz j=>?_,λm z hm j=>?_,q⟩
  ·rw[az]
   intro z j;obtain⟨k,_,rfl⟩:=aE.mp j;rfl
  ·rw[Jo J M il,R.bk] at j
   cases j;decide
  ·have O:m<t.length:=by omega
   rw[Jo J M O] at j;cases j;have:ZQ t a m≠0:=λz=>by
    have:=R.un m O z;omega
   show decide ((ZQ t a m:Int)=0)=false;exact decide_eq_false (by omega)
end
noncomputable abbrev ZeP:Stmt:=top 7
noncomputable abbrev ZaB:Stmt:=top 8
noncomputable abbrev Uy:Stmt:=top 9
noncomputable abbrev ZmH:Stmt:=top 51
structure ZgT (mg:TX):Prop where
 sorted:mg "sorted"=none
 enumerate:mg "enumerate"=none
theorem Zj3 {ns M:TZ}{c:T7}(J:bD ns M)(O:ns.Pairwise (· ≤ ·))(Y:M.Nodup)(hm:∀k:Int,k∈M↔∃a∈c,k=(a:Int))(q:c.Pairwise (· < ·)):ns.map V.int=c.map nV:=by
 have e:ns=c.map λa:Nat=>(a:Int):=by
  refine lI (J.trans ?_) O ?_
  ·refine (cD Y ?_).mpr λk=>?_
   ·refine fI _ (λa b (h:a<b)=>?_) q
    omega
   ·rw[hm k,aE]
    exact⟨λ⟨a,j,e⟩=>⟨a,j,e.symm⟩,λ⟨a,j,e⟩=>⟨a,j,e.symm⟩⟩
  ·refine fI _ (λa b (h:a<b)=>?_) q
   omega
 rw[e,aH];rfl
inductive Uq (vs:TV) (H:Hp) (Q:VK) (E03:XK):Prop
 |mk (g:Addr) (t:T9) (b x:Nat):(vs=[.ref g,.int b,.int x])->(GT H g t)->(PW t)->(b<t.length)->(x<t.length)->(Q (.int (tb t b x:Nat)) H)->Uq vs H Q E03
inductive XT (vs:TV) (H:Hp) (Q:VK) (E03:XK):Prop
 |mk (g:Addr) (t:T9) (b:Nat):(vs=[.ref g,.int b])->(GT H g t)->(PW t)->(b<t.length)->(∀r H',Zv H H'->H' r=some (.tup ((ZZ t b).map nV))->Q (.ref r) H')->XT vs H Q E03
section
variable {P:Program}{w:World}{K:aa}{mg:TX}{base:Heap}
theorem Zgc {f:Addr}{fd:FuncData}(F:WA K "turned_by" "turned_by" ZeP f fd)(O:Fn P w K mg base Yd 1 "back" ["group", "a"] (ZdV K)):Z8 P w K mg base Yd 2 f fd ["group", "b", "t"] Uq:=by
 refine F.ok (FS (N:=["group", "b", "t"])) (λY H Q E h=>?_) (λm5 A M s H Y Q E hr h=>?_)
 ·obtain⟨g,t,b,x,rfl,_⟩:=h;rfl
 ·obtain⟨g,t,b,x,rfl,G,j,hb,J,q⟩:=h
  refine⟨_,Zw (ZK (ZD (JW K) (ZD (JW K) (vn 0) (ZD (JW K) (ZD (JW K) (vn 0) (vn 2) (λ_ _=>rfl)) (vn 1) (λ_ _=>rfl)) (λ_ _=>rfl)) (Wh O hr ZL (pc (vn 0) (pc (vn 2) Zt))) (λ_ _=>rfl))),?_⟩;obtain⟨r,R⟩:=j.rd x J;obtain⟨rs,r1,h1,_,h2,h3,h4⟩:=G.at j J;have ml:=j.lt _ _ J hb;obtain⟨m6,r2,g1,_,g2,g3,g4⟩:=G.at j ml;have q':Q (.int (ZQ t (ZQ t x b) (it t x (r-1)):Nat)) H:=by rw[Zjp j J R];exact q
  exact⟨_,rfl,_,rfl,_,rfl,g,_,_,_,rfl,rfl,.of h1,h2,_,rfl,r1,_,_,_,rfl,rfl,h3.sq,h4 b hb,g,_,_,_,rfl,rfl,.of g1,g2,_,rfl,_,rfl,g,t,x,r,rfl,G,j,J,R,r2,_,_,_,rfl,rfl,g3.sq,g4 _ (Jc j J (r-1)),q'⟩
def fTb (t:T9)(b:Nat):V->V
 | .int z=>nV (tb t b z.toNat)
 |y=>y
theorem ZcX {f:Addr}{fd:FuncData}(F:WA K "turnings" "turnings" ZaB f fd)(T:Bl mg)(T2:ZgT mg)(m5:Fn P w K mg base Yd 2 "turned_by" ["group", "b", "t"] Uq):Z8 P w K mg base Yd 3 f fd ["group", "b"] XT:=by
 refine F.ok (FS (N:=["group", "b"])) (λvs H Q E h=>?_) (λm8 A m6 s H vs Q E hr h=>?_)
 ·obtain⟨g,t,b,rfl,_⟩:=h;rfl
 ·obtain⟨g,t,b,rfl,G,Y,hb,q⟩:=h
  refine⟨_,Zw (ZK (ct ZY T.tuple (pc (cb (Zab rfl) T2.sorted (pc (ct (ZaX rfl) T.set (pc (cmp ["t"] [0,1] ["t", "group", "b"] rfl (WI T.range (pc (cb (Yt K) T.len (pc (vn 0) Zt)) Zt)) (λ_ _ _ _ _=>gn 0) (λ_ _ _ _ _=>ZM)
   (λ_ _ _ _ _=>Wh m5 hr ZL (pc (vn 1) (pc (vn 2) (pc (vn 0) Zt))))) Zt)) Zt)) Zt))),?_⟩
  have n6:=Y.n60;obtain⟨gs,u1,u2,_⟩:=id G;have el:(gs.map V.ref).length=t.length:=by rw[Za,u2]
  refine⟨_,rfl,g,_,rfl,.inr (.of u1),_,rfl,by rw[el];omega,by rw[el];omega,?_⟩;rw[el,Zj];refine JC (Wi 0 t.length) [some (.ref g),some (.int b)] rfl (fTb t b) (by rw[Za,Z7];omega) (λi x H' J sm R gg=>?_) (λD H' hD sm M=>?_)
  ·have hi:i<t.length:=by
    have:=(ae.mp J).1;rw[Za,Z7] at this;exact this
   rw[Zc,ZcL hi] at J;have J:x=.int (i:Int):=by
    have:=aA J;rw[<-this,cq]
   subst J;have fin:=gg H' (Zv.refl _);exact⟨_,rfl,_,rfl,_,rfl,g,t,b,i,rfl,G.mono sm,Y,hb,hi,fin⟩
  ·have e1:((Y3 0 t.length).map V.int).map (fTb t b)=((ac t.length).map λx=>((tb t b x:Nat):Int)).map V.int:=by
    unfold Y3;rw[aH,aH,aH];refine aW λi _=>?_;show nV (tb t b ((0:Int)+(i:Int)).toNat)=V.int _;rw[cq,Zj];rfl
   rw[e1] at M;generalize hN:((ac t.length).map λx=>((tb t b x:Nat):Int))=N at M;have nl:N.length=t.length:=by rw[<-hN,Za,Zg]
   refine⟨D,N,rfl,.of M,by omega,λp1 h1=>?_⟩;have s1:=Zv.upd (o:=ZcF P w p1 (JS N N.length)) h1;have ml:(JS N N.length).length<=N.length:=ju _ _;refine⟨p1,JS N N.length,rfl,Zu,JA _ _,by omega,λl ns h2 hp hs=>?_⟩;have s2:=Zv.upd (o:=.lst (ns.map V.int)) h2;have e:=Zj3 (c:=ZZ t b) hp hs (JA _ _) (λk=>?_) (Zdq b)
   ·refine⟨l,_,rfl,.inl ⟨.of Zu,λr nr=>?_⟩⟩
    exact q r _ (((sm.trans s1).trans s2).trans (Zv.upd nr)) (by rw[<-e];exact Zu)
   ·rw[Zfi]
    constructor
    ·rintro⟨j,hj,e⟩
     have O:j<t.length:=by omega
     refine⟨tb t b j,(Yf Y hb).mpr ⟨j,O,rfl⟩,?_⟩;rw[<-e,<-hN,Zb,Zc,aj O];rfl
    ·rintro⟨a,ha,rfl⟩
     obtain⟨x,J,e⟩:=(Yf Y hb).mp ha;refine⟨x,by omega,?_⟩;rw[<-e,<-hN,Zb,Zc,aj J];rfl
end
end C47
namespace L2
open PySem PySem.Spec PyProof.Rows
section
variable {X:Cx}
inductive I_call_sumL (K:aa) (xs:TV) (H:Hp) (Q:VK):Prop
 |mk (a:Addr) (ns:TZ):(xs=[.ref a])->(Ws K H a (ns.map V.int))->(Q (.int ns.sum) H)->I_call_sumL K xs H Q
theorem ZgM (hc:X.calm=true):YV X (.builtin "sum") (_root_.L2.I_call_sumL X.K):=by
 intro O s σ H j us Q I r h;obtain⟨a,ns,rfl,hq,q⟩:=h;obtain⟨u,rfl,ru⟩:=vals1 r;cases ru;obtain⟨J,rv,p,hz⟩:=I.list hq;have Y:aZ J ns:=intsAre_of rv;obtain⟨j,hx⟩:=Y.allInts.items;have M:s.heap.IsList a (intItems j):=hx▸p.isList;refine sum_intListG (I.ok.hd hc) M λh' tk t' hk=>?_;have e1:ns=j.toList.map (·.1):=by
  rw[<-nums_intItems,<-hx];exact (show numsOf J.toArray.toList=ns from Y.numsOf).symm
 have e2:preSum (numAt j) j.size=ns.sum:=by
  rw[preSum_eq,km (by simp),e1]
 rw[e2];exact⟨.int _,H,I.kept (t':=tk) hk,⟨_,rfl⟩,q⟩
theorem sumK (K:aa)(j:X.calm=true)(q:X.K=K:=by rfl):YV X (.builtin "sum") (_root_.L2.I_call_sumL K):=q▸ZgM j
end
section
variable {X:Cx}
theorem Zmu {prog:Program}{w:World}{A:Around}{j:List Value}{ns:TZ}(r:ZO (ns.map V.int) j):TruthOf prog w A (λi v=>j.toArray[i]?=some v) (λi=>ns.getD i 0 != 0):=by
 intro i v s Q E q M;rw[kW] at q;have hi:i<j.length:=(ae.mp q).1;have O:=r.length;rw[Za] at O;have hb:(ns.map V.int)[i]?=some (.int (ns.getD i 0)):=by
  rw[Zc,Zb,Zf (by omega)];rfl
 obtain⟨u,J,Y⟩:=r.get hb;rw[q] at J;cases J;obtain⟨t,rfl⟩:=Y;exact truthy_int M
theorem Zd6 {ns:TZ}:((ac ns.length).any λi=>ns.getD i 0 != 0)=ns.any (· != 0):=by
 have:(ac ns.length).map (λi=>ns.getD i 0)=ns:=by
  apply mP
  ·simp
  ·intro i j q;simp at j;simp[j]
 conv=>rhs;rw[<-this,ef]
 rfl
inductive I_call_anyI (K:aa) (xs:TV) (H:Hp) (Q:VK):Prop
 |mk (a:Addr) (ns:TZ):(xs=[.ref a])->(Ws K H a (ns.map V.int))->(Q (.bl (ns.any (· != 0))) H)->I_call_anyI K xs H Q
theorem ZgN (hc:X.calm=true):YV X (.builtin "any") (_root_.L2.I_call_anyI X.K):=by
 intro M s σ H xs us Q I r h;obtain⟨a,ns,rfl,hq,q⟩:=h;obtain⟨u,rfl,ru⟩:=vals1 r;cases ru;obtain⟨j,O,p,hz⟩:=I.list hq;have Y:=O.length;rw[Za] at Y;refine call_any_walk (gZ p.isList ?_);have J:a≠s.heap.objs.size:=by obtain⟨o,n,e,_⟩:=p;exact ay (Zp e)
 refine⟨s.heap.objs.size,_,_,_,_,_,(λi=>ns.getD i 0 != 0),rfl,lH (A:=X.A.in1) (I.ok.hd hc) _ a J j.toArray,⟨⟨_,Zo _ rfl,rfl,rfl⟩,p.isList.push _⟩,Zmu O,λh' tk k=>?_⟩;rw[Zh,<-Y,Zd6];refine⟨.bl _,H,I.kept (t':=tk) λb o e=>k b o ?_ (Zn _ e),rfl,q⟩;simpa using ay (Zp e)
theorem ZpB (K:aa)(j:X.calm=true)(q:X.K=K:=by rfl):YV X (.builtin "any") (_root_.L2.I_call_anyI K):=q▸ZgN j
end
def Its (lo st:Int)(n:Nat):It:=⟨λi _=>i<n,λi H x j=>j=H/\x=.int (lo+(i:Int)*st),λi _=>n<=i⟩
theorem ZfW {P:Program}{w:World}{K:aa}{tg:Expr}(it:Addr)(lo st:Int)(n:Nat):Zar P w K tg (Its lo st n) [it] it (λi h=>g9 h it (lo+(i:Nat)*st) ((n:Int)-(i:Nat)) st) where
 mem:=by simp
 obj:=λi h st b hb=>by
  have e:b=it:=by simpa using hb
  subst e;exact⟨_,st,λv z=>by
   have z':gv _=fW v:=z;cases z'⟩
 keep:=λi h M st k=>k it (by simp) _ st
 item:=by
  intro X Y hw hK hc i q s σ H E I O j hg;subst Y hw hK;obtain⟨f0,f1,f2,f3,f4,f5⟩:=O it (by simp);have W:=kC (prog:=X.prog) (w:=X.w) (I.ok.hd hc) it lo st n;refine W.item i s _ _ hg j λv M tk hv J kk=>?_;obtain⟨t,rfl⟩:=hv;have I1:Inv X q σ H {s with heap:=M,toks:=tk}:=I.turned (λb o hb e=>kk b o (by simpa using hb) e) f0 f1 f3 f4 f5;refine⟨_,rfl,Zde (s:={s with heap:=M,toks:=tk}) (n:="range_iterator") J rfl rfl (by decide) ⟨.int (lo+(i:Int)*st),H,I1,⟨t,rfl⟩,⟨rfl,rfl⟩,J,λb hb=>(O b hb).1⟩⟩
 done:=by
  intro X Y hw hK hc i q s σ H E I O j hg;subst Y hw hK;obtain⟨f0,f1,f2,f3,f4,f5⟩:=O it (by simp);exact iu (I.ok.hd hc) j (by have:n<=i:=hg;omega) λM eb=>⟨rfl,I.turned (t':=s.toks) (λb o hb e=>eb b o hb e) f0 f1 f3 f4 f5⟩
 self:=λ_ _ _ _ _ j h=>iw j h
def WZ (n st:Nat):Nat:=(n+st-1) / st
theorem J7 (n st:Nat)(J:1<=st):bh 0 (n:Int) (st:Int)=(WZ n st:Nat):=by
  unfold bh WZ;rw[if_pos (by omega)];by_cases h:(0:Int)<(n:Int)
  · rw[if_pos h]
    have:((n+st-1:Nat):Int)=(n:Int)-0-1+(st:Int):=by omega
    first
    |(rw[eL,this];congr 1;omega)
    | (have j:(n+st-1) / st=(n-1) / st+1:=by
         rw[show n+st-1=(n-1)+st by omega,Nat.add_div_right _ (by omega)]
       rw[j];have q:(n:Int)-0-1=((n-1:Nat):Int):=by omega
       first
       |(rw[q,<-eL];omega)
       |(rw[show (n:Int)-1-0=((n-1:Nat):Int) by omega,<-eL];omega))
  · rw[if_neg h]
    have:n=0:=by omega
    subst this;rw[show 0+st-1=st-1 by omega,Nat.div_eq_of_lt (by omega)];rfl
theorem Zhe (n st:Nat)(j:1<=st):WZ n st<=n:=by
 unfold WZ;by_cases h:n=0
 ·subst h
  rw[show 0+st-1=st-1 by omega,Nat.div_eq_of_lt (by omega)];exact Zq _
 ·rw[Nat.div_le_iff_le_mul_add_pred (by omega)]
  have:n<=st*n:=Nat.le_mul_of_pos_left n (by omega);omega
theorem Zd0 {n st:Nat}(q:1<=st)(J:n<=1000)(j:st<=1000):ce 0 (n:Int) (st:Int)=true:=by
 unfold ce;rw[J7 n st q];have:=Zhe n st q;have M:((WZ n st:Nat):Int)*(st:Int)<=1000000:=by
  have:WZ n st*st<=1000*1000:=jT (by omega) j;rw[<-aG];omega
 have O:0<=((WZ n st:Nat):Int)*(st:Int):=by
  rw[<-aG];omega
 simp only[iH,ag,aY,decide_eq_true_eq,beq_iff_eq];refine⟨by omega,.inr ?_⟩;rw[if_pos (by omega),ag,decide_eq_true_eq,decide_eq_true_eq];omega
def Zpa (j:TA):TI:=λq H R=>j q H λJ M=>∃n st:Nat,J=[.int 0,.int n,.int st]/\1<=st/\n<=1000/\st<=1000/\R (Its 0 st (WZ n st)) M
theorem Zqu {X:Cx}{tg a b c:Expr}{ta:TA}{p pos:Pos}(hm:X.mg "range"=none)(ha:PA X [a,b,c] ta)(hg:Wc X.env.scope "range"=true:=by kernel_rfl)(hs:starEach [a,b,c] X.env=(false,eval a X.env)::starEach [b,c] X.env:=by rfl)(m5:(backTo pos (starEach [b,c] X.env)).any (·.1)=false:=by rfl) :
  PI X tg (.Call (.Name "range" p) [a,b,c] [] pos) (Zpa ta):=by
 intro J s σ H R I h;refine Call_ (JN I (XQ hg) hm kN (bm (Yw (ha pos J s σ H _ I h) λus s1 ⟨vs,H1,I1,r1,q1⟩=>?_) hs m5));obtain⟨n,st,e,M,hn,m6,q⟩:=q1;subst e;cases r1 with
 |cons r O=>
  cases O with
  |cons r' O=>
   cases O with
   |cons m8 O=>
    cases O;obtain⟨t,rfl⟩:=r;obtain⟨Y,rfl⟩:=r';obtain⟨j,rfl⟩:=m8;have lg:((st:Int)).natAbs.log2<9000:=by
     rw[Int.natAbs_natCast];have h1:st.log2<=st:=Nat.log2_le_self st;omega
    refine call_range_3 (by omega) ?_ (Or.inl (PyProof.noPylong_of_log2 lg));refine jm (j7 ..) (Zd0 M hn m6) ?_;have I2:Inv X J σ H1 {s1 with heap:=s1.heap.push {cls:=.type "range",data:=.fields #[.int 0 t,.int (n:Int) Y,.int (st:Int) j]},toks:=s1.toks}:=I1.kept λb o e=>Zn _ e;refine⟨(s1.heap.push {cls:=.type "range",data:=.fields #[.int 0 t,.int (n:Int) Y,.int (st:Int) j]}).objs.size,[(s1.heap.push {cls:=.type "range",data:=.fields #[.int 0 t,.int (n:Int) Y,.int (st:Int) j]}).objs.size],_,_,H1,rfl,
     I2.kept (t':=s1.toks) λb o e=>Zn _ e,ZfW _ 0 (st:Int) (WZ n st),?_,λb hb=>?_,q⟩
    ·have e1:(0:Int)+((0:Nat):Int)*(st:Int)=0:=by simp
     have e2:((WZ n st:Nat):Int)-((0:Nat):Int)=bh 0 (n:Int) (st:Int):=by rw[J7 n st M];omega
     show g9 _ _ ((0:Int)+((0:Nat):Int)*(st:Int)) (((WZ n st:Nat):Int)-((0:Nat):Int)) (st:Int);rw[e1,e2];exact Zo _ rfl
    ·have e:b=(s1.heap.push {cls:=.type "range",data:=.fields #[.int 0 t,.int (n:Int) Y,.int (st:Int) j]}).objs.size:=by simpa using hb
     subst e;exact I2.fpOk (Zq _) (I2.hok.fresh (Zq _))
theorem ZiV {lo st:Int}{n:Nat}{g:TG}{tb:TS}{D:WT}{σ:St}{H:Hp}(Pv:Nat->St->Hp->Prop)(h0:Pv 0 σ H)
  (hs:∀i σ H,i<n->Pv i σ H->g (.int (lo+(i:Int)*st)) σ H λj O=>tb (D.lp (Pv (i+1))) j O) (hd:∀ σ H,Pv n σ H->D.nx σ H) :
  ∃W:Nat->Nat->St->Hp->Prop,(∃m,W 0 m σ H)/\∀i m σ H,W i m σ H->
   ((Its lo st n).stop i H/\D.nx σ H)\/((Its lo st n).go i H/\∃N:St->Hp->Prop,(∀ q J,N q J->∃Y,Y<m/\W (i+1) Y q J)/\∀x J,(Its lo st n).yld i H x J->g x σ J λj O=>tb (D.lp N) j O):=by
 refine⟨λi m σ H=>m=n-i/\i<=n/\Pv i σ H,⟨n,by simp,a5 _,h0⟩,?_⟩;rintro i m σ H ⟨rfl,hi,p⟩;by_cases M:i<n
 ·refine .inr ⟨M,Pv (i+1),λq J p'=>⟨n-(i+1),by omega,rfl,M,p'⟩,λx J hy=>?_⟩
  obtain⟨e,rfl⟩:=hy;subst e;exact hs i σ _ M p
 ·have e:i=n:=by omega
  subst e;exact .inl ⟨Zq _,hd σ H p⟩
end L2
namespace C47
open PySem L2 PySem.Spec PyProof.Rows
open Tb Pm
noncomputable abbrev ZoD:Stmt:=top 20
noncomputable abbrev Zhz:Stmt:=top 21
noncomputable abbrev ZeU:Stmt:=top 22
noncomputable abbrev ZhF:Stmt:=top 28
structure BlT (mg:TX):Prop where
 zip:mg "zip"=none
 sum:mg "sum"=none
inductive J1 (vs:TV) (H:Hp) (Q:VK) (E03:XK):Prop
 |mk (p:Nat) (x:Int):(vs=[.int p,.int x])->(2<=p)->(p<=100000)->((∃y:Nat,1<=y/\y<p/\(y:Int)*x % (p:Int)=1))->(∀y:Nat,1<=y->y<p->(y:Int)*x % (p:Int)=1->Q (.int (y:Nat)) H)->J1 vs H Q E03
inductive Zbk (K:aa) (vs:TV) (H:Hp) (Q:VK) (E03:XK):Prop
 |mk (a:Addr) (xs:TZ) (e N p d:Nat):(vs=[.ref a,.int N,.int p])->(Ws K H a (xs.map V.int))->(xs[0]?=some (e:Int))->(e<=100000)->(N<=60)->(2<=p)->(p<=100000)->(1<=d)->(d<=1000)->(((d:Int)*d-e*N) % (p:Int)=0)->((∀d':Nat,1<=d'->d'<d->((d':Int)*d'-e*N) % (p:Int)≠0))->(Q (.int (d:Nat)) H)->Zbk K vs H Q E03
inductive Zhk (vs:TV) (H:Hp) (Q:VK) (E03:XK):Prop
 |mk (n count p:Nat):(vs=[.int n,.int count])->(1<=n)->(n<=60)->(count<=4000)->(ZpR n count p)->(∀H',Zv H H'->Q (.int p) H')->Zhk vs H Q E03
theorem UA {lo:Int}{n i:Nat}{y:V}(h:((Y3 lo n).map V.int)[i]?=some y):i<n/\y=.int (lo+(i:Int)):=by
 unfold Y3 at h;rw[Zc,Zc] at h;by_cases j:i<n
 ·rw[aj j] at h
  exact⟨j,(aA h).symm⟩
 ·rw[ak (by rw[Zg];omega)] at h
  cases h
section
variable {P:Program}{w:World}{K:aa}{mg:TX}{base:Heap}
theorem Zgi {f:Addr}{fd:FuncData}(F:WA K "back_by" "back_by" ZeU f fd):Z8 P w K mg base Yd 1 f fd ["p", "x"] J1:=by
 refine F.ok (FS (N:=["p", "x", "found"])) (λvs H Q E h=>?_) (λm5 A Y s H vs Q E hr h=>?_)
 ·obtain⟨p,x,rfl,_⟩:=h;rfl
 ·obtain⟨p,x,rfl,p2,pl,⟨y,y1,yp,hy⟩,q⟩:=h
  refine⟨_,Zs (ZH 2 rfl Zx)
   (Zs (Yp am (ZP Jy (Zy ZV (Zy ZS (vn 2) (vn 1)) (vn 0)) Zx (ZW _)) (Zw (Xb (i:=2) (Ya (by kernel_rfl)) rfl (YY (by kernel_rfl)) Zx Js (.inl rfl))))
   (Zw (ZK (vn 2)))),?_⟩
  refine Yh (λm j O=>∃k:Nat,j=[some (.int p),some (.int x),some (.int (k:Nat))]/\O=H/\1<=k/\k<=y/\m=y-k)
   (λj O=>∃k:Nat,j=[some (.int p),some (.int x),some (.int (k:Nat))]/\O=H/\1<=k/\k<p/\(k:Int)*x % (p:Int)=1) ?hend ⟨y-1,1,rfl,rfl,Zq _,y1,rfl⟩ ?turn
  case hend=>
   rintro j O ⟨k,rfl,rfl,k1,kp,hk⟩;exact⟨_,rfl,q k k1 kp hk⟩
  case turn=>
   rintro M m j O ⟨k,rfl,rfl,k1,ky,rfl⟩;refine⟨_,rfl,_,rfl,_,_,rfl,rfl,.inl ⟨by omega,by omega⟩,_,rfl,_,_,rfl,rfl,(by show (0:Int)<(p:Int);omega),rfl,_,rfl,?_⟩;refine YE (λJ=>?_) (λJ=>?_)
   ·have J:(k:Int)*x % (p:Int)≠1:=λz=>by
     rw[Yu,z] at J;simp at J
    have:k≠y:=λz=>by rw[z] at J;exact J hy
    exact⟨_,λ_ _ z=>z,_,rfl,_,_,rfl,rfl,y-(k+1),by omega,k+1,rfl,rfl,by omega,by omega,rfl⟩
   ·have J:(k:Int)*x % (p:Int)=1:=by
     apply ai;intro z;apply J;rw[Yu];simpa using z
    exact M _ _ ⟨k,rfl,rfl,k1,by omega,J⟩
theorem Zip {f:Addr}{fd:FuncData}(F:WA K "first_of" "first_of" ZhF f fd):Z8 P w K mg base Yd 1 f fd ["one", "count", "p"] (Zbk K):=by
 refine F.ok (FS (N:=["one", "count", "p", "d"])) (λvs H Q E h=>?_) (λm8 A m5 s H vs Q E hr h=>?_)
 ·obtain⟨a,xs,e,N,p,d,rfl,_⟩:=h;rfl
 ·obtain⟨a,xs,e,N,p,d,rfl,ha,he,e5,n6,p2,pl,d1,dl,hd,hm,q⟩:=h
  refine⟨_,Zs (ZH 3 rfl Zx)
   (Zs (Yp am (ZP Jy (Zy ZV (Zy YC (Zy ZS (vn 3) (vn 3)) (Zy ZS (ZD (Jb K) (vn 0) Zx (λ_ _=>rfl)) (vn 1))) (vn 2)) Zx (ZW _)) (Zw (Xb (i:=3) (Ya (by kernel_rfl)) rfl (YY (by kernel_rfl)) Zx Js (.inl rfl))))
   (Zw (ZK (vn 3)))),?_⟩
  have h0:(xs.map V.int)[0]?=some (.int (e:Int)):=by rw[Zc,he];rfl
  have m6:Vx (xs.map V.int) 0=some (.int (e:Int)):=by
   show Vx (xs.map V.int) ((0:Nat):Int)=_
   first
   |(rw[O];exact h0)
   |(rw[ZI];exact h0)
   |simpa [Vx] using h0
  refine Yh (λm j Y=>∃k:Nat,j=[some (.ref a),some (.int (N:Nat)),some (.int (p:Nat)),some (.int (k:Nat))]/\Y=H/\1<=k/\k<=d/\m=d-k)
   (λj Y=>j=[some (.ref a),some (.int (N:Nat)),some (.int (p:Nat)),some (.int (d:Nat))]/\Y=H) ?hend ⟨d-1,1,rfl,rfl,Zq _,d1,rfl⟩ ?turn
  case hend=>
   rintro j Y ⟨rfl,rfl⟩;exact⟨_,rfl,q⟩
  case turn=>
   rintro M m j Y ⟨k,rfl,rfl,k1,ky,rfl⟩;refine⟨_,rfl,_,rfl,_,_,rfl,rfl,.inl ⟨by omega,by omega⟩,_,rfl,a,_,_,_,rfl,rfl,ha,m6,_,rfl,_,_,rfl,rfl,.inl ⟨by omega,by omega⟩,_,_,rfl,rfl,_,rfl,_,_,rfl,rfl,(by show (0:Int)<(p:Int);omega),rfl,_,rfl,?_⟩;refine YE (λJ=>?_) (λJ=>?_)
   ·have J:((k:Int)*k-e*N) % (p:Int)≠0:=λz=>by
     rw[Yu,z] at J;simp at J
    have:k≠d:=λz=>by rw[z] at J;exact J hd
    exact⟨_,λ_ _ z=>z,_,rfl,_,_,rfl,rfl,d-(k+1),by omega,k+1,rfl,rfl,by omega,by omega,rfl⟩
   ·have J:((k:Int)*k-e*N) % (p:Int)=0:=by
     apply ai;intro z;apply J;rw[Yu];simpa using z
    have:k=d:=by
     apply ai;intro z;exact hm k k1 (by omega) J
    subst this;exact M _ _ ⟨rfl,rfl⟩
theorem Zne {f:Addr}{fd:FuncData}(F:WA K "fit_prime" "fit_prime" ZoD f fd)(T:Bl mg):Z8 P w K mg base Yd 1 f fd ["n", "count"] Zhk:=by
 refine F.ok (FS (N:=["n", "count", "p"])) (λvs H Q E h=>?_) (λn9 A m8 s H vs Q E hr h=>?_)
 ·obtain⟨n,count,p,rfl,_⟩:=h;rfl
 ·obtain⟨n,count,p,rfl,n1,n60,cl,Fp,q⟩:=h
  refine⟨_,Zs (ZH 2 rfl (Zy Ym (vn 0) Zx))
   (Zs (Yp am (Zh2 (ZP ZoX (Zy ZS (vn 2) (vn 2)) (Zy ZS Zx (vn 1)) (ZW _)) (Zd9 (Xa (cb (Zjm rfl) T.any (pc (cmp ["k"] [2] ["k", "p"] rfl (ZhJ T.range (pc Zx (pc (vn 2) Zt))) (λ_ _ _ _ _=>gn 0) (λ_ _ _ _ _=>ZM) (λ_ _ _ _ _=>JK XM (Zy ZV (vn 1) (vn 0)) Zx (ZW _))) Zt))))).pt
    (Zw (Xb (i:=2) (Ya (by kernel_rfl)) rfl (YY (by kernel_rfl)) (vn 0) Js (.inl rfl))))
   (Zw (ZK (vn 2)))),?_⟩
  obtain⟨J,eJ,hJ⟩:=Fp.st;have pl:=Fp.lt;have p2:=Fp.p2;refine⟨_,rfl,_,_,rfl,rfl,?_⟩;refine Yh (λm M H'=>∃j:Nat,M=[some (.int (n:Nat)),some (.int (count:Nat)),some (.int (((n+1)+j*n:Nat):Int))]/\Zv H H'/\j<=J/\m=J-j)
   (λM H'=>M=[some (.int (n:Nat)),some (.int (count:Nat)),some (.int (p:Nat))]/\Zv H H') ?hend ⟨J,0,by rw[fk,eF];rfl,Zv.refl _,a5 _,rfl⟩ ?turn
  case hend=>
   rintro M H' ⟨rfl,sm⟩;exact⟨_,rfl,q H' sm⟩
  case turn=>
   rintro O m M H' ⟨j,rfl,sm,jJ,rfl⟩;have jn:(n+1)+j*n<=p:=by rw[eJ];have:=dS n jJ;omega
   have n6:V7 count ((n+1)+j*n)=true\/(n+1)+j*n=p:=by
    by_cases z:j=J
    ·exact .inr (by rw[eJ,z])
    ·exact .inl (hJ j (by omega))
   have ok:=Fp.ok;have o0:2<=(n+1)+j*n:=by omega
   have Y:(n+1)+j*n≠p->j<J:=λz=>by
    by_cases e:j=J
    ·exact absurd (by rw[eJ,e]) z
    ·omega
   have m5:(((n+1)+j*n:Nat):Int)+(n:Int)=(((n+1)+(j+1)*n:Nat):Int):=by
    rw[ci];omega
   generalize hx:(n+1)+j*n=x at *;refine⟨_,rfl,_,rfl,_,_,rfl,rfl,.inl ⟨by omega,by omega⟩,_,rfl,_,_,rfl,rfl,.inl ⟨by omega,by omega⟩,_,_,rfl,rfl,_,rfl,?_⟩;refine YE (λh1=>?_) (λh1=>?_)
   ·have h1:x*x<=4*count:=by have:=of_decide_eq_true h1;rw[<-aG] at this;omega
    have hb:V7 count x=true:=by unfold V7;rw[decide_eq_true h1];rfl
    have:=Y (λz=>by rw[z,ok] at hb;cases hb);refine (YE (λ_=>?_) (λh=>absurd rfl h));exact⟨_,λ_ _ z=>z,_,rfl,_,rfl,_,_,rfl,rfl,J-(j+1),by omega,j+1,by rw[<-m5];rfl,sm,by omega,rfl⟩
   ·have h1:¬x*x<=4*count:=λz=>h1 (decide_eq_true (by rw[<-aG];omega))
    refine⟨_,rfl,_,_,rfl,⟨by omega,by omega,by omega,by omega⟩,?_⟩;rw[show ((x:Nat):Int)-2=((x-2:Nat):Int) by omega,Zj];refine JC (Wi 2 (x-2)) [some (.int (x:Nat))] rfl (λy=>match y with | .int z=>.bl ((x:Int) % z == 0)|y=>y) (by rw[Za,Z7];omega) (λi y H2 hy s2 R gg=>?_) (λD H2 hD s2 n8=>?_)
    ·obtain⟨hi,rfl⟩:=UA hy
     have m6:=gg H2 (Zv.refl _);dsimp only at m6;refine⟨_,rfl,_,rfl,_,_,rfl,rfl,(by show (0:Int)<2+(i:Int);omega),rfl,?_⟩;have e:decide (V.int ((x:Int) % (2+(i:Int)))=V.int 0)=((x:Int) % (2+(i:Int)) == 0):=by
      by_cases h:(x:Int) % (2+(i:Int))=0
      ·rw[h];rfl
      ·rw[decide_eq_false (λz=>h (by injection z)),beq_eq_false_iff_ne.mpr h]
     rw[e];exact m6
    ·refine⟨D,(ac (x-2)).map λk=>x % (k+2) == 0,rfl,.of ?_,?_⟩
     ·rw[n8]
      unfold Y3;rw[aH,aH,aH];congr 2;refine aW λi _=>?_;show V.bl ((x:Int) % (2+(i:Int)) == 0)=V.bl (x % (i+2) == 0);congr 1;have:(x:Int) % (2+(i:Int))=((x % (i+2):Nat):Int):=by
       rw[show (2:Int)+(i:Int)=((i+2:Nat):Int) by omega];rfl
      rw[this];cases hq:(x % (i+2) == 0) with
      |true=>rw[eq_of_beq hq];rfl
      |false=>
       have:=ne_of_beq_false hq;exact beq_eq_false_iff_ne.mpr (by omega)
     ·have ea:((ac (x-2)).map λk=>x % (k+2) == 0).any id=(ac (x-2)).any λk=>x % (k+2) == 0:=by rw[ef];rfl
      rw[ea];have eb:V7 count x=((ac (x-2)).any λk=>x % (k+2) == 0):=by unfold V7;rw[decide_eq_false h1,fF]
      rw[<-eb];have sm2:=sm.trans s2;refine⟨_,rfl,YE (λh2=>?_) (λh2=>?_)⟩
      ·have:=Y (λz=>by rw[z,ok] at h2;cases h2)
       exact⟨_,λ_ _ z=>z,_,rfl,_,rfl,_,_,rfl,rfl,J-(j+1),by omega,j+1,by rw[<-m5];rfl,sm2,by omega,rfl⟩
      ·have:x=p:=by
        rcases n6 with z|z
        ·exact absurd z h2
        ·exact z
       subst this;exact O _ _ ⟨rfl,sm2⟩
end
theorem ZqG {a b:Int}(h:(!decide (V.int a=V.int b))=true):a≠b:=λe=>by rw[e,decide_eq_true rfl] at h;cases h
theorem ZqH {a b:Int}(h:¬(!decide (V.int a=V.int b))=true):a=b:=by
 apply ai;intro e;exact h (by rw[decide_eq_false (λz=>e (by injection z))];rfl)
def Jp (p z n:Nat):TV:=(ac n).map λj=>V.int ((z ^ j % p:Nat):Int)
theorem ZcS (p z n:Nat):Jp p z (n+1)=Jp p z n++[V.int ((z ^ n % p:Nat):Int)]:=by
 unfold Jp;rw[bG,aO];rfl
theorem Ub (p z n:Nat):(Jp p z n).length=n:=by unfold Jp;rw[Za,Zg]
theorem Zki (p z k:Nat):((z ^ k % p:Nat):Int)*(z:Int) % (p:Int)=((z ^ (k+1) % p:Nat):Int):=by
 rw[<-aG,<-aX,Nat.pow_succ,Nat.mod_mul_mod]
inductive Zbd (vs:TV) (H:Hp) (Q:VK) (E03:XK):Prop
 |mk (n p z0:Nat):(vs=[.int n,.int p])->(1<=n)->(n<=60)->(2<=p)->(p<=100000)->(RtP n p z0)->(∀L H',H L=none->Zv H H'->H' L=some (.lst (Jp p z0 n))->Q (.ref L) H')->Zbd vs H Q E03
section
variable {P:Program}{w:World}{K:aa}{mg:TX}{base:Heap}
theorem Zik {f:Addr}{fd:FuncData}(F:WA K "root_powers" "root_powers" Zhz f fd)(T:Bl mg):Z8 P w K mg base Yd 1 f fd ["n", "p"] Zbd:=by
 refine F.ok (FS (N:=["n", "p", "z", "powers"])) (λvs H Q E h=>?_) (λp8 A o8 s H vs Q E hr h=>?_)
 ·obtain⟨n,p,z0,rfl,_⟩:=h;rfl
 ·obtain⟨n,p,z0,rfl,n1,n60,p2,pl,R,q⟩:=h
  refine⟨_,Zs (ZH 2 rfl Zx)
   (Zs (ZH 3 rfl (ZR (pc Zx Zt)))
   (Zs (Yp am (ZP Jy (cb (Yt K) T.len (pc (vn 3) Zt)) (vn 0) (ZW _))
    (Zs (Xb (i:=2) (Ya (by kernel_rfl)) rfl (YY (by kernel_rfl)) Zx Js (.inl rfl))
    (Zs (ZH 3 rfl (ZR (pc Zx Zt)))
    (Zw (Yp am (ZP Jy (Zy ZV (Zy ZS (ZD (Jb K) (vn 3) (Vo JH Zx) (λ_ _=>rfl)) (vn 2)) (vn 1)) Zx (ZW _))
     (Zw (YG (WC aJ aQ aR Ye (vn 3) (pc (Zy ZV (Zy ZS (ZD (Jb K) (vn 3) (Vo JH Zx) (λ_ _=>rfl)) (vn 2)) (vn 1)) Zt)))))))))
   (Zw (ZK (vn 3))))),?_⟩
  have p7:(1:Int)=((1 ^ 0 % p:Nat):Int):=by rw[Nat.pow_zero,aT (by omega)];rfl
  have m6:∀z:Nat,V.int 1=V.int ((z ^ 0 % p:Nat):Int):=λz=>by rw[Nat.pow_zero,aT (by omega)];rfl
  have sz:=JE;refine⟨JF,λL0 n8=>?_⟩;have s0:=Zv.upd (H:=H) (o:=.lst [.int 1]) n8;have h0:upd H L0 (.lst [.int 1]) L0=some (.lst (Jp p 1 1)):=by
   rw[Zu];show some (HO.lst [V.int 1])=some (HO.lst [V.int ((1 ^ 0 % p:Nat):Int)]);rw[m6 1]
  generalize upd H L0 (.lst [.int 1])=H0 at s0 h0 ⊢;refine Yh (λm j J=>∃(z k:Nat) (L:Addr),j=[some (.int (n:Nat)),some (.int (p:Nat)),some (.int (z:Nat)),some (.ref L)]/\Zv H J/\H L=none/\J L=some (.lst (Jp p z k))/\1<=z/\k<=p/\z<=z0/\m=z0-z/\(k=n->z=z0)/\(k≠n->z<z0))
   (λj J=>∃(L:Addr),j=[some (.int (n:Nat)),some (.int (p:Nat)),some (.int (z0:Nat)),some (.ref L)]/\Zv H J/\H L=none/\J L=some (.lst (Jp p z0 n))) ?hend ⟨z0-1,1,1,L0,rfl,s0,n8,h0,Zq _,by omega,?_,rfl,?_,?_⟩ ?turn
  case hend=>
   rintro j J ⟨L,rfl,sm,nL,hL⟩;exact⟨_,rfl,q L J nL sm hL⟩
  ·rcases R with ⟨a,b⟩|⟨a,_⟩ <;> omega
  ·rcases R with ⟨a,b⟩|⟨a,_,b,_⟩ <;> omega
  ·rcases R with ⟨a,b⟩|⟨a,_,b,_⟩ <;> omega
  case turn=>
   rintro m8 m j J ⟨z,k,L,rfl,sm,nL,hL,z1,kp,zz,rfl,c1,c2⟩;refine⟨_,rfl,L,_,rfl,.inl (.of hL),_,rfl,rfl,_,rfl,?_⟩;rw[Ub];refine YE (λh1=>?_) (λh1=>?_)
   ·have h1:k≠n:=λe=>by
     rw[e,Yu] at h1;simp at h1
    have zl:=c2 h1;rcases R with ⟨a,b⟩|⟨a,ap,b,r,o9,p3,p4⟩
    ·omega
    ·have O:=o9 (z+1) (by omega) (by omega)
     have r1:=O.r1;have rp:=O.rp;refine⟨_,λ_ _ z=>z,_,rfl,_,_,rfl,rfl,JF,λY n9=>?_⟩;have s1:=Zv.upd (H:=J) (o:=.lst [.int 1]) n9;have o0:upd J Y (.lst [.int 1]) Y=some (.lst (Jp p (z+1) 1)):=by
      rw[Zu];show some (HO.lst [V.int 1])=some (HO.lst [V.int (((z+1) ^ 0 % p:Nat):Int)]);rw[m6 (z+1)]
     have n6:H Y=none:=sm.free n9;have sm1:=sm.trans s1;generalize upd J Y (.lst [.int 1])=H1 at s1 o0 sm1 ⊢;have ez:(z:Int)+1=((z+1:Nat):Int):=by omega
     refine Yh (λm j J=>∃k:Nat,j=[some (.int (n:Nat)),some (.int (p:Nat)),some (.int ((z+1:Nat):Int)),some (.ref Y)]/\Zv H J/\J Y=some (.lst (Jp p (z+1) k))/\1<=k/\k<=r (z+1)/\m=r (z+1)-k)
      (λj J=>j=[some (.int (n:Nat)),some (.int (p:Nat)),some (.int ((z+1:Nat):Int)),some (.ref Y)]/\Zv H J/\J Y=some (.lst (Jp p (z+1) (r (z+1))))) ?hend2 ⟨r (z+1)-1,1,by rw[<-ez];rfl,sm1,o0,Zq _,r1,rfl⟩ ?turn2
     case hend2=>
      rintro j H2 ⟨rfl,sm2,h2⟩;refine⟨z0-(z+1),by omega,z+1,r (z+1),Y,rfl,sm2,n6,h2,by omega,rp,by omega,rfl,λe=>?_,λe=>?_⟩
      ·apply ai
       intro ne;exact p3 (z+1) (by omega) (by omega) e
      ·apply ai
       intro ne;have:z+1=z0:=by omega
       rw[this] at e;exact e p4
     case turn2=>
      rintro m5 m j H2 ⟨k,rfl,sm2,h2,k1,kr,rfl⟩;obtain⟨M,rfl⟩:∃M,k=M+1:=⟨k-1,by omega⟩;have o7:Vx (Jp p (z+1) (M+1)) (-1)=some (V.int (((z+1) ^ M % p:Nat):Int)):=by rw[ZcS];exact Zad _ _
      have nx:=Zki p (z+1) M;refine⟨_,rfl,_,rfl,Y,_,_,_,rfl,rfl,.of h2,o7,_,rfl,_,_,rfl,rfl,.inr ⟨by omega,by omega⟩,_,rfl,_,_,rfl,rfl,(by show (0:Int)<(p:Int);omega),rfl,_,rfl,?_⟩;refine YE (λh3=>?_) (λh3=>?_)
      ·have h3:(z+1) ^ (M+1) % p≠1:=λe=>by
        rw[Yu,nx,e] at h3;simp at h3
       have:M+1≠r (z+1):=λe=>by rw[e] at h3;exact h3 O.one
       refine⟨_,λ_ _ z=>z,_,rfl,.inl ⟨rfl,_,.of h2⟩,_,rfl,_,rfl,Y,_,_,_,rfl,rfl,.of h2,o7,_,rfl,_,_,rfl,rfl,.inr ⟨by omega,by omega⟩,_,rfl,_,_,rfl,rfl,(by show (0:Int)<(p:Int);omega),Y,_,_,rfl,rfl,h2,by rw[Ub];omega,?_⟩;have e5:Jp p (z+1) (M+1)++[V.int (((((z+1) ^ M % p:Nat):Int))*((z+1:Nat):Int) % (p:Int))]=Jp p (z+1) (M+2):=by rw[nx,ZcS p (z+1) (M+1)]
       rw[e5];exact⟨r (z+1)-(M+2),by omega,M+2,rfl,sm2.updr n6,Zu,by omega,by omega,rfl⟩
      ·have h3:(z+1) ^ (M+1) % p=1:=by
        apply ai;intro e;apply h3;rw[Yu,nx,beq_eq_false_iff_ne.mpr (λq=>e (by exact_mod_cast q))];rfl
       have:M+1=r (z+1):=by
        apply ai;intro e;exact O.nz (M+1) (by omega) (by omega) h3
       rw[this] at h2;exact m5 _ _ ⟨rfl,sm2,h2⟩
   ·have h1:k=n:=by
     apply ai;intro e;apply h1;rw[Yu];simp;omega
    subst h1;rw[c1 rfl] at hL ⊢;exact m8 _ _ ⟨L,rfl,sm,nL,hL⟩
end
end C47
namespace L2
open PySem PySem.Spec PyProof.Rows
def SqB (b:Bool)(K:aa)(H:Hp)(a:Addr)(xs:TV):Prop:=match b with
 |true=>False
 |false=>Ws K H a xs
theorem SqB.lst {K:aa}{H:Hp}{a:Addr}{xs:TV}(h:Ws K H a xs):SqB false K H a xs:=h
section
variable {X:Cx}{pins:List (Addr×Obj)}{σ:St}{H:Hp}{s:Shared}
theorem Inv.sqB {a:Addr}{xs:TV}(I:Inv X pins σ H s)(h:Ws X.K H a xs):∃j,ZO xs j/\s.heap.IsList a j.toArray:=by
 obtain⟨j,q,p,_⟩:=I.list h;exact⟨j,q,p.isList⟩
theorem VJ {h:Heap}{j a:Addr}{k:Nat}(x:h.IsListIter j a k):∃o,h.get? j=some o/\∀v,o.data≠.cell v:=by
 obtain⟨o,J,M,q⟩:=x;exact⟨o,J,λv z=>by rw[z] at q;cases q⟩
end
def Itz (K:aa)(a b:Addr):It:=
  ⟨λi H=>∃j q x y,Ws K H a j/\Ws K H b q/\j[i]?=some x/\q[i]?=some y,
   λi H x O=>∃T J M,x=.ref T/\H T=none/\O=upd H T (.tup [J,M])/\(∀j,Ws K H a j->j[i]?=some J)/\∀q,Ws K H b q->q[i]?=some M,
   λi H=>∃j q,Ws K H a j/\Ws K H b q/\(j.length<=i\/q.length<=i)⟩
theorem Zg4 {P:Program}{w:World}{K:aa}{elts:List Expr}{x1}{pos:Pos}(a b z p r i j:Addr)(D:ZipApart z p r i j a b) :
  Zar P w K (.Tuple elts x1 pos) (Itz K a b) [z,p,r,i,j] z (λk h=>IsZip h z p r .none/\IsPair h p (.ref i) (.ref j)/\(∃o1 o2,IsPair h r o1 o2)/\h.IsListIter i a k/\h.IsListIter j b k) where
 mem:=by simp
 obj:=λk h st c hc=>by
  obtain⟨O,M,⟨o1,o2,Y⟩,hi,hj⟩:=st;simp only[aD,dZ,or_false] at hc;rcases hc with rfl|rfl|rfl|rfl|rfl
  ·exact⟨_,O,λv z=>by
    have z':gv _=fW v:=z;cases z'⟩
  ·exact⟨_,M,λv z=>by
    have z':Data.seq _ _=fW v:=z;cases z'⟩
  ·exact⟨_,Y,λv z=>by
    have z':Data.seq _ _=fW v:=z;cases z'⟩
  ·exact VJ hi
  ·exact VJ hj
 keep:=λk h h' st kk=>by
  obtain⟨O,M,⟨o1,o2,Y⟩,hi,hj⟩:=st;exact⟨kk z (by simp) _ O,kk p (by simp) _ M,⟨o1,o2,kk r (by simp) _ Y⟩,Heap.IsListIter.at hi λo q=>kk i (by simp) o q,Heap.IsListIter.at hj λo q=>kk j (by simp) o q⟩
 item:=by
  intro X hP hw hK hc k m8 s σ H E I hf st hg;subst hP hw hK;obtain⟨O,M,⟨o1,o2,Y⟩,hi,hj⟩:=st;obtain⟨xs,ys,x,y,hA,hB,hx,hy⟩:=hg;obtain⟨n6,rv,pa⟩:=I.sqB hA;obtain⟨n8,m5,pb⟩:=I.sqB hB;obtain⟨ux,n9,o0⟩:=rv.get hx;obtain⟨uy,o7,o8⟩:=m5.get hy;refine wpAny_pyNext_zip_item D O M Y hi hj pa pb (x:=ux) (y:=uy) (by simpa using n9) (by simpa using o7) λh1 z1 r1 i1 j1 t1 o9 k1=>?_;refine⟨_,rfl,wpAny_letOwnedTupleGo_zip z1 λh2 z2 s2=>?_⟩;have lt:∀c∈[z,p,r,i,j],c<s.heap.objs.size:=λc J=>by
   simp only[aD,dZ,or_false] at J;rcases J with rfl|rfl|rfl|rfl|rfl
   ·exact Zp O
   ·exact Zp M
   ·exact Zp Y
   ·obtain⟨o,e,_⟩:=VJ hi;exact Zp e
   ·obtain⟨o,e,_⟩:=VJ hj;exact Zp e
  have s3:bj z h1 h2:=s2;have t2:IsPair h2 s.heap.objs.size ux uy:=(s3.2 _ (bq (lt z (by simp)))).trans t1;have nT:H s.heap.objs.size=none:=I.hok.fresh (Zq _);have p2:IsPair h2 p (.ref i) (.ref j):=(s3.2 _ D.TIz).trans (k1 _ _ D.TIz D.TITO D.TIi1 D.TIi2 M);have r2:IsPair h2 r ux uy:=(s3.2 _ D.TOz).trans r1;have i2:=iX i1 s3.extBut D.i1z;have j2:=iX j1 s3.extBut D.i2z;have I2:=I.turnLay (t':=s.toks) (h':=h2) (ts:=[z,p,r,i,j]) (T:=s.heap.objs.size) (o:=.tup [x,y]) (λc o J q=>?_) (λc J=>?_) hf (Zq _) ⟨by show 2<=sizeLine;decide,[ux,uy],.cons o0 (.cons o8 .nil),_,t2,rfl,0,rfl⟩
  ·refine⟨.ref s.heap.objs.size,_,I2,rfl,⟨_,x,y,rfl,nT,rfl,λzs m6=>by rw[I.list_inj m6 hA];exact hx,λzs m6=>by rw[I.list_inj m6 hB];exact hy⟩,⟨z2,p2,⟨_,_,r2⟩,i2,j2⟩,λc J=>?_⟩
   rw[Zz (ay (lt c J))];exact (hf c J).1
  ·have q1:c≠z:=λe=>J (by simp[e])
   have q2:c≠r:=λe=>J (by simp[e]);have q3:c≠i:=λe=>J (by simp[e]);have q4:c≠j:=λe=>J (by simp[e]);exact (s3.2 c q1).trans (k1 c o q1 q2 q3 q4 q)
  ·simp only[aD,dZ,or_false] at J
   rcases J with rfl|rfl|rfl|rfl|rfl
   ·exact⟨_,z2⟩
   ·exact⟨_,p2⟩
   ·exact⟨_,r2⟩
   ·obtain⟨o,e,_⟩:=VJ i2;exact⟨o,e⟩
   ·obtain⟨o,e,_⟩:=VJ j2;exact⟨o,e⟩
 done:=by
  intro X hP hw hK hc k m8 s σ H E I hf st hg;subst hP hw hK;obtain⟨O,M,⟨o1,o2,Y⟩,hi,hj⟩:=st;obtain⟨xs,ys,hA,hB,hl⟩:=hg;obtain⟨n6,rv,pa⟩:=I.sqB hA;obtain⟨n8,m5,pb⟩:=I.sqB hB;have l1:=rv.length;have l2:=m5.length;refine wpAny_pyNext_zip_end (I.ok.hd hc) D O M Y hi hj pa pb ?_ λh1 k1=>⟨rfl,I.turnedL (t':=s.toks) (ts:=[z,p,r,i,j]) (λc o J q=>?_) hf⟩
  ·rcases hl with h|h
   ·exact .inl (by simp;omega)
   ·exact .inr (by simp;omega)
  ·exact k1 c o (λe=>J (by simp[e])) (λe=>J (by simp[e])) (λe=>J (by simp[e])) (λe=>J (by simp[e])) q
 self:=λ_ _ _ _ _ st h=>wpAny_pyIter_zip st.1 h
structure Zey (J:It)(At:Hp->Prop)(ps:List (V×V)):Prop where
 go:∀i H,At H->i<ps.length->J.go i H
 yld:∀i H x H2,At H->J.yld i H x H2->∃T y z,x=.ref T/\H T=none/\H2=upd H T (.tup [y,z])/\ps[i]?=some (y,z)
 stop:∀i H,At H->ps.length<=i->J.stop i H
theorem Zoj {K:aa}{a b:Addr}{xs ys:TV}:Zey (Itz K a b) (λH=>Ws K H a xs/\Ws K H b ys) (xs.zip ys) where
 go:=λi H h j=>by
  rw[eS] at j;exact⟨xs,ys,xs[i]'(by omega),ys[i]'(by omega),h.1,h.2,by simp,by simp⟩
 yld:=λi H x H2 h q=>by
  obtain⟨T,y,z,e,J,M,O,Y⟩:=q;refine⟨T,y,z,e,J,M,?_⟩;rw[gm];exact⟨O xs h.1,Y ys h.2⟩
 stop:=λi H h j=>by
  rw[eS] at j;exact⟨xs,ys,h.1,h.2,by omega⟩
def Zo8 (K:aa)(ta:TA):TI:=λσ H R=>ta σ H λvs q=>∃a b u v M O j,vs=[.ref a,.ref b]/\SqB u K j a M/\SqB v K j b O/\Zv j q/\∀J Y,Zey J Y (M.zip O)->(∀H',Zv j H'->Y H')->R J q
theorem Zqe {X:Cx}{elts:List Expr}{x1}{pt:Pos}{l m:Expr}{ta:TA}{p pos:Pos}(hm:X.mg "zip"=none)(ha:PA X [l,m] ta)(hg:Wc X.env.scope "zip"=true:=by kernel_rfl)(hs:starEach [l,m] X.env=(false,eval l X.env)::starEach [m] X.env:=by rfl)(m5:(backTo pos (starEach [m] X.env)).any (·.1)=false:=by rfl) :
  PI X (.Tuple elts x1 pt) (.Call (.Name "zip" p) [l,m] [] pos) (Zo8 X.K ta):=by
 intro j s σ H R I h;refine Call_ (JN I (XQ hg) hm (show bootBuiltins "zip"=some (.type "zip") by kernel_rfl) (bm (Yw (ha pos j s σ H _ I h) λus s1 ⟨vs,H1,J,r1,q1⟩=>?_) hs m5));obtain⟨a,b,u,v,xs,ys,Hx,e,M,O,sm,q⟩:=q1;subst e;cases u with
 |true=>cases M
 |false=>
 cases v with
 |true=>cases O
 |false=>
 replace M:Ws X.K Hx a xs:=M;replace O:Ws X.K Hx b ys:=O;cases r1 with
 |cons r rr=>
  cases rr with
  |cons r' rr=>
   cases rr;cases (show _=ax a from r);cases (show _=ax b from r');obtain⟨m6,rv,pa⟩:=J.sqB (sm.seq M);obtain⟨m8,n6,pb⟩:=J.sqB (sm.seq O);have la:a<s1.heap.objs.size:=by obtain⟨o,e,_⟩:=pa;exact Zp e
   have lb:b<s1.heap.objs.size:=by obtain⟨o,e,_⟩:=pb;exact Zp e
   have nn:∀{c d:Nat},c<d->(c:Addr)≠d:=λh=>ay h;have D:ZipApart (s1.heap.objs.size+4) (s1.heap.objs.size+2) (s1.heap.objs.size+3) s1.heap.objs.size (s1.heap.objs.size+1) a b:=by
    have n8:(a:Nat)<s1.heap.objs.size:=la;have n9:(b:Nat)<s1.heap.objs.size:=lb;constructor <;> first|exact ay (aC la (eE _ _))|exact ay (aC lb (eE _ _))|exact ay la|exact ay lb|exact ay (by omega)|exact bq (by omega)
   refine call_zip_2 pa pb λg gz gp gr gi gj _ gk=>wpAny_pyIter_zip gz ?_;have sz:∀c∈[s1.heap.objs.size+4,s1.heap.objs.size+2,s1.heap.objs.size+3,s1.heap.objs.size,s1.heap.objs.size+1],s1.heap.objs.size<=c:=λc Y=>by
    simp only[aD,dZ,or_false] at Y;rcases Y with rfl|rfl|rfl|rfl|rfl
    ·exact eE _ _
    ·exact eE _ _
    ·exact eE _ _
    ·exact Zq _
    ·exact eE _ _
   exact⟨_,[s1.heap.objs.size+4,s1.heap.objs.size+2,s1.heap.objs.size+3,s1.heap.objs.size,s1.heap.objs.size+1],_,_,H1,rfl,J.kept (t':=s1.toks) gk,Zg4 a b _ _ _ _ _ D,⟨gz,gp,⟨_,_,gr⟩,gi,gj⟩,λc Y=>J.fpOk (sz c Y) (J.hok.fresh (sz c Y)),q _ _ Zoj λH' s'=>⟨s'.seq M,s'.seq O⟩⟩
theorem ZjN (K:aa){X:Cx}{elts:List Expr}{J}{pt:Pos}{l m:Expr}{q:TA}{p pos:Pos}(M:X.mg "zip"=none)(O:PA X [l,m] q)(Y:X.K=K:=by rfl)(hg:Wc X.env.scope "zip"=true:=by kernel_rfl)(hs:starEach [l,m] X.env=(false,eval l X.env)::starEach [m] X.env:=by rfl)(j:(backTo pos (starEach [m] X.env)).any (·.1)=false:=by rfl) :
  PI X (.Tuple elts J pt) (.Call (.Name "zip" p) [l,m] [] pos) (Zo8 K q):=Y▸Zqe M O hg hs j
theorem Zjc {K:aa}{J:It}{At:Hp->Prop}{own:List Str}{M:T7}{te:TE}{σ:St}{H Hx:Hp}{Q:VK}{q:List (V×V)}(S:Zey J At q)(n8:∀j,Zv Hx j->At j)(sx:Zv Hx H)(O:St)(n9:JX own M σ=none::none::O)(f:V->V->V)(hz:q.length<=1000000)
  (hs:∀(i:Nat) x y j,q[i]?=some (x,y)->Zv H j->∀R:VK,(∀Y,Zv j Y->R (f x y) Y)->te (some x::some y::O) j R)
  (hd:∀D j,H D=none->Zv H j->j D=some (.lst (q.map λp=>f p.1 p.2))->Q (.ref D) j):Jh own M (Zgy K 2 (JT (Yj 0) (JT (Yj 1) Zgz))) WM te σ Q J H:=by
 intro D hD;refine⟨λi m m6 j=>m=q.length-i/\i<=q.length/\(∃v0 v1,m6=v0::v1::O)/\Zv H j/\j D=some (.lst ((q.take i).map λp=>f p.1 p.2)),⟨_,rfl,a5 _,⟨none,none,n9⟩,Zv.upd hD,by rw[Zu,e9];rfl⟩,?_⟩;rintro i m m6 j ⟨rfl,hi,⟨v0,v1,rfl⟩,s,hl⟩;have m5:=n8 j (sx.trans s);by_cases m8:i<q.length
 ·refine .inr ⟨S.go i j m5 m8,λn6 H2=>(∃v0 v1,n6=v0::v1::O)/\Zv H H2/\H2 D=some (.lst ((q.take (i+1)).map λp=>f p.1 p.2)),λn6 H2 z=>⟨q.length-(i+1),by omega,rfl,m8,z.1,z.2.1,z.2.2⟩,λx H2 hy=>?_⟩
  obtain⟨T,y,z,rfl,hT,rfl,hx⟩:=S.yld i j x H2 m5 hy;have ht:q.take (i+1)=q.take i++[(y,z)]:=by rw[cM,hx];rfl
  refine⟨T,_,rfl,.of Zu,rfl,_,_,rfl,_,_,rfl,rfl,?_⟩;refine tT (A:=λH4=>te (some y::some z::O) H4 λv Y=>∃xs,Y D=some (.lst xs)/\xs.length<sizeLine/\(∃v0 v1,(some y::some z::O:St)=v0::v1::O)/\Zv H (upd Y D (.lst (xs++[v])))/\(upd Y D (.lst (xs++[v]))) D=some (.lst ((q.take (i+1)).map λp=>f p.1 p.2))) ?_;refine hs i y z _ hx (s.trans (Zv.upd hT)) _ λY s5=>⟨_,s5 _ _ (Zv.upd hT _ _ hl),?_,⟨_,_,rfl⟩,((s.trans (Zv.upd hT)).trans s5).updr hD,?_⟩
  ·rw[Za,bI]
   have:(16777216:Nat)=sizeLine:=by decide
   omega
  ·rw[Zu,ht,aO]
   rfl
 ·have e:i=q.length:=by omega
  subst e;refine .inl ⟨S.stop _ j m5 (Zq _),hd D j hD s ?_⟩;rw[hl,cU]
end L2
namespace C47
open PySem L2 PySem.Spec PyProof.Rows
open Tb Pm
noncomputable abbrev ZhA:Stmt:=top 25
noncomputable abbrev ZlS:Stmt:=top 26
noncomputable abbrev ZlR:Stmt:=top 27
def ZF (m:Nat)(v:Nat->Int):TV:=(ac m).map λc=>V.int (v c)
theorem ZT (m:Nat)(v:Nat->Int):(ZF m v).length=m:=by unfold ZF;rw[Za,Zg]
theorem Yr {m c:Nat}(v:Nat->Int)(h:c<m):(ZF m v)[c]?=some (V.int (v c)):=by
 unfold ZF;rw[Zc,aj h];rfl
theorem Wt {m:Nat}{v u:Nat->Int}(h:∀c,c<m->v c=u c):ZF m v=ZF m u:=by
 unfold ZF;exact aW λc j=>by rw[h c (af.mp j)]
theorem Jt (m:Nat)(v:Nat->Int):ZF m v=((ac m).map v).map V.int:=by
 unfold ZF;rw[aH];rfl
theorem Zcn (m:Nat)(v:Nat->Int):ZF (m+1) v=ZF m v++[V.int (v m)]:=by
 unfold ZF;rw[bG,aO];rfl
theorem V8 (m:Nat)(v:Nat->Int):((ac m).map v).any (· != 0)=true↔∃c,c<m/\v c≠0:=by
 rw[aU];constructor
 ·rintro⟨x,q,h⟩
  obtain⟨c,j,rfl⟩:=aE.mp q;exact⟨c,af.mp j,by simpa using h⟩
 ·rintro⟨c,j,h⟩
  exact⟨v c,aE.mpr ⟨c,af.mpr j,rfl⟩,by simpa using h⟩
def fI2 (g:Int->Int->Int):V->V->V:=λx y=>match x,y with
 | .int a,.int b=>.int (g a b)
 |_,_=>.non
theorem ZeC {m:Nat}{v u:Nat->Int}:(ZF m v).zip (ZF m u)=(ac m).map λc=>(V.int (v c),V.int (u c)):=by
 unfold ZF;rw[List.zip_map']
theorem XC {K:aa}{J:It}{At:Hp->Prop}{own:List Str}{M:T7}{te:TE}{σ:L2.St}{H Hx:Hp}{Q:VK}{m:Nat}{v u:Nat->Int}(S:Zey J At ((ZF m v).zip (ZF m u)))(O:∀j,Zv Hx j->At j)(sx:Zv Hx H)(Y:L2.St)(m5:JX own M σ=none::none::Y)(g:Int->Int->Int)(hz:m<=1000)
  (hs:∀(i:Nat) j,i<m->Zv H j->∀R:VK,R (.int (g (v i) (u i))) j->te (some (.int (v i))::some (.int (u i))::Y) j R)
  (hd:∀D j,H D=none->Zv H j->j D=some (.lst (ZF m λi=>g (v i) (u i)))->Q (.ref D) j):Jh own M (Zgy K 2 (JT (Yj 0) (JT (Yj 1) Zgz))) WM te σ Q J H:=by
 refine Zjc S O sx Y m5 (fI2 g) (by rw[eS,ZT,ZT];omega) (λi x y j q s R gg=>?_) (λD j nD s hD=>hd D j nD s ?_)
 ·rw[ZeC] at q
  have hi:i<m:=by
   have:=(ae.mp q).1;rw[Za,Zg] at this;exact this
  rw[Zc,aj hi] at q;cases q;exact hs i j hi s R (gg j (Zv.refl _))
 ·rw[hD,ZeC,aH]
  rfl
def LLs (H:Hp)(a:Addr)(m:Nat)(F:Nat->Nat->Int):Prop:=∃cs:TW,H a=some (.lst (cs.map V.ref))/\cs.length=m/\∀(c:Nat) b,cs[c]?=some b->H b=some (.lst (ZF m (F c)))
theorem LLs.mono {H j:Hp}{a:Addr}{m:Nat}{F:Nat->Nat->Int}(h:LLs H a m F)(s:Zv H j):LLs j a m F:=by
 obtain⟨q,J,M,O⟩:=h;exact⟨q,s _ _ J,M,λc b hb=>s _ _ (O c b hb)⟩
def US (m p:Nat)(F:Nat->Nat->Int)(v:Nat->Int)(k:Int)(c:Nat):Int:=(We m (λj=>v j*F c j)-k*v c) % (p:Int)
structure Zjr (m p:Nat)(v:Nat->Int):Prop where
 ge:∀c,c<m->0<=v c
 lt:∀c,c<m->v c<(p:Int)
inductive ZdP (vs:TV) (H:Hp) (Q:VK) (E03:XK):Prop
 |mk (ca oa:Addr) (m k p:Nat) (F:Nat->Nat->Int) (v:Nat->Int):(vs=[.ref ca,.ref oa,.int k,.int p])->(LLs H ca m F)->(H oa=some (.lst (ZF m v)))->(2<=p)->(p<=100000)->(m<=60)->(k<=100000)->(Zjr m p v)->(∀L H',H L=none->Zv H H'->H' L=some (.lst (ZF m (US m p F v k)))->Q (.ref L) H')->ZdP vs H Q E03
section
variable {P:Program}{w:World}{K:aa}{mg:TX}{base:Heap}
theorem Zlj {J:It}{g:TG}{tb:TS}{D:WT}{σ:L2.St}{H:Hp}{At:Hp->Prop}{j:List (V×V)}(S:Zey J At j)(Pv:Nat->L2.St->Hp->Prop)(h0:Pv 0 σ H)(hS:∀i σ H,Pv i σ H->At H)
  (hs:∀(i:Nat) y z σ H T,j[i]?=some (y,z)->Pv i σ H->H T=none->g (.ref T) σ (upd H T (.tup [y,z])) λM H2=>tb (D.lp (Pv (i+1))) M H2) (hd:∀ σ H,Pv j.length σ H->D.nx σ H) :
  ∃W:Nat->Nat->L2.St->Hp->Prop,(∃m,W 0 m σ H)/\∀i m σ H,W i m σ H->
   (J.stop i H/\D.nx σ H)\/(J.go i H/\∃N:L2.St->Hp->Prop,(∀ O q,N O q->∃m',m'<m/\W (i+1) m' O q)/\∀x q,J.yld i H x q->g x σ q λM H2=>tb (D.lp N) M H2):=by
 refine⟨λi m σ H=>m=j.length-i/\i<=j.length/\Pv i σ H,⟨_,rfl,a5 _,h0⟩,?_⟩;rintro i m σ H ⟨rfl,hi,p⟩;have s:=hS i σ H p;by_cases Y:i<j.length
 ·refine .inr ⟨S.go i H s Y,Pv (i+1),λO q p'=>⟨j.length-(i+1),by omega,rfl,Y,p'⟩,λx q hy=>?_⟩
  obtain⟨T,y,z,rfl,hT,rfl,hx⟩:=S.yld i H x q s hy;exact hs i y z σ H T hx p hT
 ·have e:i=j.length:=by omega
  subst e;exact .inl ⟨S.stop _ H s (Zq _),hd σ H p⟩
theorem ZkJ {f:Addr}{fd:FuncData}(F:WA K "less_often" "less_often" ZlR f fd)(T5:BlT mg):Z8 P w K mg base Yd 1 f fd ["columns", "one", "k", "p"] ZdP:=by
 refine F.ok (FS (N:=["columns", "one", "k", "p", "found", "column", "x"])) (λvs H Q E h=>?_) (λn8 A m6 s H vs Q E hr h=>?_)
 ·obtain⟨ca,oa,m,k,p,G,v,rfl,_⟩:=h;rfl
 ·obtain⟨ca,oa,m,k,p,G,v,rfl,hC,hO,p2,pl,n9,kl,vo,q⟩:=h
  refine⟨_,Zs (ZH 4 rfl (ZR Zt))
   (Zs (ZN am rfl (ZjN K T5.zip (pc (vn 0) (pc (vn 1) Zt))) (g2 K 5 6 rfl (gn 5) (gn 6))
    (Zw (YG (WC aJ aQ aR Ye (vn 4)
     (pc (Zy ZV (Zy YC (cb (sumK K rfl) T5.sum (pc (cmp ["y", "often"] [] ["y", "often"] rfl (ZjN K T5.zip (pc (vn 1) (pc (vn 5) Zt))) (λ_ _ _ _ _=>g2 K 0 1 rfl (gn 0) (gn 1)) (λ_ _ _ _ _=>ZM)
      (λ_ _ _ _ _=>Zy ZS (vn 0) (vn 1))) Zt)) (Zy ZS (vn 2) (vn 6))) (vn 3)) Zt)))))
   (Zw (ZK (vn 4)))),?_⟩
  have sz:=JE;obtain⟨cs,c1,c2,c3⟩:=id hC;refine⟨JF,λL nL=>?_⟩;have s0:=Zv.upd (H:=H) (o:=.lst []) nL;have h0:upd H L (.lst []) L=some (.lst (ZF 0 (US m p G v k))):=Zu;generalize upd H L (.lst [])=H0 at s0 h0 ⊢;refine⟨_,rfl,_,rfl,ca,oa,false,false,_,_,H,rfl,.lst (.of c1),.lst (.of hO),s0,λJ At S m8=>?_⟩;have n6:((cs.map V.ref).zip (ZF m v)).length=m:=by rw[eS,Za,ZT,c2];omega
  refine Zlj S (λi M H'=>∃(v5 v6:TU),M=[some (.ref ca),some (.ref oa),some (.int (k:Nat)),some (.int (p:Nat)),some (.ref L),v5,v6]/\Zv H H'/\H' L=some (.lst (ZF i (US m p G v k))))
   ⟨_,_,rfl,s0,h0⟩ (λi M H' h=>?_) ?_ ?_
  ·obtain⟨_,_,_,sm,_⟩:=h
   exact m8 H' sm
  ·rintro i y z M H1 T' Y ⟨v5,v6,rfl,s1,h1⟩ nT
   have hi:i<m:=by
    have:=(ae.mp Y).1;omega
   rw[gm,Yr v hi,Zc,Zf (by omega)] at Y;obtain⟨e1,e2⟩:=Y;cases e1;cases e2;have hb:=c3 i (cs[i]'(by omega)) (Zf (by omega));generalize cs[i]'(by omega)=b at hb ⊢;have s2:=Zv.upd (H:=H1) (o:=.tup [.ref b,.int (v i)]) nT;refine⟨T',_,rfl,.of Zu,rfl,_,_,rfl,_,_,rfl,rfl,?_⟩;have O:=s1.trans s2;have h2:=s2 _ _ h1;generalize upd H1 T' (.tup [.ref b,.int (v i)])=H2 at O h2 ⊢;refine⟨_,rfl,.inl ⟨rfl,_,.of h2⟩,_,rfl,_,rfl,oa,b,false,false,_,_,H,rfl,.lst (.of hO),.lst (.of hb),O,λJ' o0 S' m5=>?_⟩;refine XC S' m5 O [] rfl (λx y=>x*y) (by omega) (λj H3 hj s3 R g=>?_) (λD H3 nD s3 hD=>?_)
   ·have a1:=vo.ge j hj
    have a2:=vo.lt j hj;exact⟨_,rfl,_,rfl,_,_,rfl,rfl,.inl ⟨by omega,by omega⟩,g⟩
   ·rw[Jt] at hD
    refine⟨D,_,rfl,.of hD,_,rfl,_,rfl,_,_,rfl,rfl,.inl ⟨by omega,by omega⟩,_,_,rfl,rfl,_,rfl,_,_,rfl,rfl,(by show (0:Int)<(p:Int);omega),L,_,_,rfl,rfl,s3 _ _ h2,by rw[ZT];omega,?_⟩;have e5:ZF i (US m p G v k)++[V.int ((((ac m).map λj=>v j*G i j).sum-(k:Int)*v i) % (p:Int))]=ZF (i+1) (US m p G v k):=by
     rw[Zcn];rfl
    rw[e5];exact⟨_,_,rfl,(O.trans s3).updr nL,Zu⟩
  ·rintro M H1 ⟨v5,v6,rfl,s1,h1⟩
   rw[n6] at h1;exact⟨_,rfl,q L H1 nL s1 h1⟩
end
def V6 (t:T9)(i c j:Nat):Int:=(cnA t (Yg t) i j (ZG t c):Nat)
def gW (t:T9)(j:Nat->Nat->Nat)(i s:Nat):Nat:=j s (ZG t i)
section
variable {t:T9}{p m:Nat}{e ω φ:Nat->Nat->Nat}
theorem ZlG (C:CD t p m e ω φ)(α:Nat->Int):Zjr m p (Vc t p m e α):=
 ⟨λc _=>bX _ C.p0,λc _=>bO _ (by have:=C.pr.p2;omega)⟩
theorem Zfq (C:CD t p m e ω φ)(j:PW t){i:Nat}(q:i<m)(S:Nat->Bool)(k:Nat):ZF m (US m p (V6 t i) (Vc t p m e (lpA S (gW t ω i) k)) (k:Int))=ZF m (Vc t p m e (lpA S (gW t ω i) (k+1))):=by
 refine Wt λc J=>?_;unfold US V6;rw[Zly C j q J,<-Zk2];rfl
theorem Zmd (C:CD t p m e ω φ)(j:PW t){i:Nat}(J:i<m):∀s,s<m->gW t ω i s<p:=λs q=>C.wlt s _ q ((YM j).rl i (by have:=C.mc;omega))
theorem Zlk (C:CD t p m e ω φ){M:Nat}(O:M<p):∃y:Nat,1<=y/\y<p/\(y:Int)*fcI p M % (p:Int)=1:=by
 have Y:=C.pr.p2;obtain⟨j,q⟩:=Zmf Y M;have J:=ZiY C.pr O (Zq M);rw[<-Zi0,fq j q] at J;obtain⟨a,ha⟩:=cw j;rw[ha] at J q ⊢;obtain⟨b,b1,b2,b3⟩:=C.pr.iv a (by omega) (by omega);exact⟨b,b1,b2,by rw[<-aG,<-aX,b3];rfl⟩
end
inductive ZdQ (vs:TV) (H:Hp) (Q:VK) (E03:XK):Prop
 |mk (ca oa:Addr) (t:T9) (p m:Nat) (e ω φ:Nat->Nat->Nat) (S:Nat->Bool) (i:Nat):(vs=[.ref ca,.ref oa,.int p])->(CD t p m e ω φ)->(PW t)->(i<m)->(p<=100000)->(LLs H ca m (V6 t i))->(H oa=some (.lst (ZF m (Vc t p m e (XH S)))))->((∃s,s<m/\S s=true))->(∀L M H',H L=none->Zv H H'->(∃s,s<m/\S s=true/\gW t ω i s=M)->(∀s,s<m->S s=true->gW t ω i s<=M)->H' L=some (.lst (ZF m (Vc t p m e (XH (XG S (gW t ω i) M)))))->Q (.ref L) H')->ZdQ vs H Q E03
section
variable {P:Program}{w:World}{K:aa}{mg:TX}{base:Heap}
theorem Zls {t:T9}{p m:Nat}{e j q:Nat->Nat->Nat}(C:CD t p m e j q)(J:PW t):m<=60:=by
 have M:=C.mc;have O:=Wr (t:=t) t.length;have Y:=J.n60;omega
theorem ZkK {f:Addr}{fd:FuncData}(F:WA K "last_part" "last_part" ZlS f fd)(T:Bl mg)(GL:Fn P w K mg base Yd 1 "less_often" ["columns", "one", "k", "p"] ZdP)(GB:Fn P w K mg base Yd 1 "back_by" ["p", "x"] J1):Z8 P w K mg base Yd 2 f fd ["columns", "one", "p"] ZdQ:=by
 refine F.ok (FS (N:=["columns", "one", "p", "k", "factor", "left", "after", "undo"])) (λvs H Q E h=>?_) (λp3 A o8 s H vs Q E hr h=>?_)
 ·obtain⟨ca,oa,t,p,m,e,Y,φ,S,i,rfl,_⟩:=h;rfl
 ·obtain⟨ca,oa,t,p,m,e,Y,φ,S,i,rfl,C,Pt,hi,pl,hC,hO,hS,q⟩:=h
  refine⟨_,Zs (ZH 3 rfl Zx)
   (Zs (ZH 4 rfl Zx)
   (Zs (ZH 5 rfl (vn 1))
   (Zs (ZH 6 rfl (Wh GL hr ZL (pc (vn 0) (pc (vn 5) (pc (vn 3) (pc (vn 2) Zt))))))
   (Zs (Yp am (Xa (cb (ZpB K rfl) T.any (pc (vn 6) Zt)))
    (Zs (ZH 5 rfl (vn 6))
    (Zs (Xb (i:=3) (Ya (by kernel_rfl)) rfl (YY (by kernel_rfl)) Zx Js (.inl rfl))
    (Zs (ZH 4 rfl (Zy ZV (Zy ZS (vn 4) (vn 3)) (vn 2)))
    (Zw (ZH 6 rfl (Wh GL hr ZL (pc (vn 0) (pc (vn 5) (pc (vn 3) (pc (vn 2) Zt)))))))))))
   (Zs (ZH 7 rfl (Wh GB hr ZL (pc (vn 2) (pc (vn 4) Zt))))
   (Zw (ZK (cmp ["x"] [7,2] ["x", "undo", "p"] rfl (itL K (vn 5)) (λ_ _ _ _ _=>gn 0) (λ_ _ _ _ _=>ZM) (λ_ _ _ _ _=>Zy ZV (Zy ZS (vn 0) (vn 1)) (vn 2)))))))))),?_⟩
  have p2:=C.pr.p2;have m8:=Zls C Pt;obtain⟨M,m5,m6⟩:=Znq (g:=gW t Y i) hS;have n6:=Zmd C Pt hi;have Mp:M<p:=by obtain⟨s',o9,_,e'⟩:=m5;rw[<-e'];exact n6 s' o9
  have any:=Zns C Pt n6 m5 m6;have n8:H oa=some (.lst (ZF m (Vc t p m e (lpA S (gW t Y i) 0)))):=by rw[Zk1];exact hO
  refine⟨_,rfl,_,rfl,_,rfl,_,rfl,_,rfl,ca,oa,m,0,p,V6 t i,_,rfl,hC,n8,p2,pl,m8,by omega,ZlG C _,λL1 H1 p4 s1 h1=>?_⟩;rw[Zfq C Pt hi] at h1;refine Yh (λx j J=>∃(k:Nat) (l a:Addr),j=[some (.ref ca),some (.ref oa),some (.int (p:Nat)),some (.int (k:Nat)),some (.int (fcI p k)),some (.ref l),some (.ref a),none]/\Zv H J/\J l=some (.lst (ZF m (Vc t p m e (lpA S (gW t Y i) k))))/\J a=some (.lst (ZF m (Vc t p m e (lpA S (gW t Y i) (k+1)))))/\k<=M/\x=M-k)
   (λj J=>∃(l a:Addr),j=[some (.ref ca),some (.ref oa),some (.int (p:Nat)),some (.int (M:Nat)),some (.int (fcI p M)),some (.ref l),some (.ref a),none]/\Zv H J/\J l=some (.lst (ZF m (Vc t p m e (lpA S (gW t Y i) M))))) ?hend ⟨M,0,oa,L1,rfl,s1,s1 _ _ n8,h1,a5 _,rfl⟩ ?turn
  case hend=>
   rintro j J ⟨l,a,rfl,sm,hl⟩;obtain⟨y0,y1,y2,y3⟩:=Zlk C Mp;refine⟨_,rfl,_,rfl,p,_,rfl,p2,pl,⟨y0,y1,y2,y3⟩,λy a1 a2 a3=>?_⟩;refine⟨_,rfl,l,rfl,⟨_,.of hl⟩,?_⟩;refine YI (Ys (K:=K) (.of hl)) [some (.int (y:Nat)),some (.int (p:Nat))] rfl (λc=>V.int (Vc t p m e (XH (XG S (gW t Y i) M)) c)) (by rw[ZT];omega) (λc z hz H2 s2 R k2=>?_) (λD H2 nD s2 hD=>?_)
   ·have hc:c<m:=by
     have:=(ae.mp hz).1;rw[ZT] at this;exact this
    rw[Yr _ hc] at hz;cases hz;refine⟨_,rfl,_,rfl,_,_,rfl,rfl,.inr ⟨by omega,by omega⟩,_,rfl,_,_,rfl,rfl,(by show (0:Int)<(p:Int);omega),?_⟩;have n9:=k2 H2 (Zv.refl _);rw[<-Znr C m6 a3 c] at n9;exact n9
   ·rw[ZT] at hD
    exact q D M H2 (sm.free nD) (sm.trans s2) m5 m6 hD
  case turn=>
   rintro O x j J ⟨k,l,a,rfl,sm,hl,ha,kM,rfl⟩;have o0:=ha;rw[Jt] at o0;refine⟨_,rfl,a,_,rfl,.of o0,_,rfl,?_⟩;refine YE (λh2=>?_) (λh2=>?_)
   ·have:k+1<=M:=(any (k+1)).mp ((V8 _ _).mp h2)
    have ek:(k:Int)+1=((k+1:Nat):Int):=by omega
    obtain⟨f0,f1⟩:=Zmf p2 k;refine⟨_,λ_ _ z=>z,_,rfl,_,rfl,_,_,rfl,rfl,_,rfl,_,rfl,_,_,rfl,rfl,.inl ⟨by omega,by omega⟩,_,rfl,_,_,rfl,rfl,(by show (0:Int)<(p:Int);omega),_,rfl,_,rfl,_,rfl,_,rfl,ca,a,m,k+1,p,V6 t i,_,by rw[<-ek];rfl,hC.mono sm,ha,p2,pl,m8,by omega,ZlG C _,λL2 H2 p6 s2 o7=>?_⟩;rw[Zfq C Pt hi] at o7;exact⟨M-(k+1),by omega,k+1,a,L2,by rw[<-ek];rfl,sm.trans s2,s2 _ _ ha,o7,this,rfl⟩
   ·have:¬k+1<=M:=λz=>h2 ((V8 _ _).mpr ((any (k+1)).mpr z))
    have e2:k=M:=by omega
    subst e2;exact O _ _ ⟨l,a,rfl,sm,hl⟩
end
def WO (H:Hp)(a:Addr)(t:T9)(p m:Nat)(e:Nat->Nat->Nat)(cs:TW)(q:List (Nat->Bool)):Prop:=H a=some (.lst (cs.map V.ref))/\cs.length=q.length/\∀(j:Nat) b,cs[j]?=some b->∃S,q[j]?=some S/\H b=some (.lst (ZF m (Vc t p m e (XH S))))
section
variable {t:T9}{p m:Nat}{e ω φ:Nat->Nat->Nat}
theorem WO.mono {H q:Hp}{a:Addr}{cs:TW}{J:List (Nat->Bool)}(h:WO H a t p m e cs J)(s:Zv H q):WO q a t p m e cs J:=
 ⟨s _ _ h.1,h.2.1,λj b hb=>by
  obtain⟨S,M,O⟩:=h.2.2 j b hb;exact⟨S,M,s _ _ O⟩⟩
theorem WO.push {H:Hp}{a c:Addr}{cs:TW}{q:List (Nat->Bool)}{S:Nat->Bool}(h:WO H a t p m e cs q)(Y:H c=some (.lst (ZF m (Vc t p m e (XH S)))))(hv:∀(j:Nat) b,(cs++[c])[j]?=some b->b≠a):WO (upd H a (.lst (cs.map V.ref++[.ref c]))) a t p m e (cs++[c]) (q++[S]):=by
 refine⟨by rw[Zu,aO];rfl,by rw[Zd,Zd,h.2.1];rfl,λj b hb=>?_⟩;have J:=hv j b hb;by_cases M:j<cs.length
 ·rw[aq M] at hb
  obtain⟨S',h1,h2⟩:=h.2.2 j b hb;exact⟨S',by rw[aq (by rw[<-h.2.1];exact M)];exact h1,by rw[Zz J];exact h2⟩
 ·have hl:=(ae.mp hb).1
  rw[Zd,Zk] at hl;have O:j=cs.length:=by omega
  rw[au (by omega),O,cn] at hb;cases hb;refine⟨S,?_,by rw[Zz J];exact Y⟩;rw[O,h.2.1,au (Zq _),cn];rfl
end
theorem ZbG {H:Hp}{a b:Addr}{xs:TV}{ys:TV}(j:H a=some (.lst xs))(q:H b=some (.lst ys))(h:xs≠ys):a≠b:=λz=>by
 rw[z,q] at j;injection j with j;injection j with j;exact h j.symm
theorem UD {cs:TW}{m:Nat}{v:Nat->Int}(q:1<=m):cs.map V.ref≠ZF m v:=λz=>by
 have h:=congrArg (λl=>l[0]?) z;simp only[Yr v (show 0<m by omega),Zc] at h;cases j:cs[0]? with
 |none=>rw[j] at h;cases h
 |some c=>rw[j] at h;cases h
inductive Zbe (vs:TV) (H:Hp) (Q:VK) (E03:XK):Prop
 |mk (ca oa:Addr) (t:T9) (p m:Nat) (e ω φ:Nat->Nat->Nat) (S:Nat->Bool) (i:Nat):(vs=[.ref ca,.ref oa,.int p])->(CD t p m e ω φ)->(PW t)->(i<m)->(p<=100000)->(LLs H ca m (V6 t i))->(H oa=some (.lst (ZF m (Vc t p m e (XH S)))))->(∀L cs Ss H',H L=none->Zv H H'->PtS m S (gW t ω i) Ss->WO H' L t p m e cs Ss->Q (.ref L) H')->Zbe vs H Q E03
theorem ZjT {m:Nat}{S:Nat->Bool}{g:Nat->Nat}{j:List (Nat->Bool)}{R:Nat->Bool}(W:PtW m S g j R):j.length<=m:=by
 have:=L2.YD (j.map (pkS m)) (ac m) (ZaF W.ne W.dj) (λx q=>by
  obtain⟨T,J,rfl⟩:=aE.mp q;exact af.mpr (XL (W.ne T J)).1)
 rwa [Za,Zg] at this
section
variable {P:Program}{w:World}{K:aa}{mg:TX}{base:Heap}
theorem Zil {f:Addr}{fd:FuncData}(F:WA K "parts_by" "parts_by" ZhA f fd)(T:Bl mg)(T5:BlT mg)(GL:Fn P w K mg base Yd 2 "last_part" ["columns", "one", "p"] ZdQ):Z8 P w K mg base Yd 3 f fd ["columns", "one", "p"] Zbe:=by
 refine F.ok (FS (N:=["columns", "one", "p", "parts", "rest", "part"])) (λvs H Q E h=>?_) (λr8 A p3 s H vs Q E hr h=>?_)
 ·obtain⟨ca,oa,t,p,m,e,ω,φ,S,i,rfl,_⟩:=h;rfl
 ·obtain⟨ca,oa,t,p,m,e,ω,φ,S,i,rfl,C,Pt,hi,pl,hC,hO,q⟩:=h
  refine⟨_,Zs (ZH 3 rfl (ZR Zt))
   (Zs (ZH 4 rfl (vn 1))
   (Zs (Yp am (Xa (cb (ZpB K rfl) T.any (pc (vn 4) Zt)))
    (Zs (ZH 5 rfl (Wh GL hr ZL (pc (vn 0) (pc (vn 4) (pc (vn 2) Zt)))))
    (Zs (YG (WC aJ aQ aR Ye (vn 3) (pc (vn 5) Zt)))
    (Zw (Zai 4 ["x", "y"] [2] ["x", "y", "p"] rfl rfl (ZjN K T5.zip (pc (vn 4) (pc (vn 5) Zt))) (λ_ _ _ _ _=>g2 K 0 1 rfl (gn 0) (gn 1)) (λ_ _ _ _ _=>ZM) (λ_ _ _ _ _=>Zy ZV (Zy YC (vn 0) (vn 1)) (vn 2)))))))
   (Zw (ZK (vn 3))))),?_⟩
  have p2:=C.pr.p2;have r9:=Zls C Pt;have m1:=C.m1;have sz:=JE;have p4:=Zmd C Pt hi;refine⟨JF,λL nL=>?_⟩;have s0:=Zv.upd (H:=H) (o:=.lst []) nL;have h0:upd H L (.lst []) L=some (.lst ([]:TV)):=Zu;generalize upd H L (.lst [])=H0 at s0 h0 ⊢;refine⟨_,rfl,?_⟩;refine Yh (λx Y H'=>∃(cs:TW) (Ss:List (Nat->Bool)) (R:Nat->Bool) (r:Addr) (v5:TU),Y=[some (.ref ca),some (.ref oa),some (.int (p:Nat)),some (.ref L),some (.ref r),v5]/\Zv H H'/\WO H' L t p m e cs Ss/\PtW m S (gW t ω i) Ss R/\H' r=some (.lst (ZF m (Vc t p m e (XH R))))/\∀s,s<m->R s=true->gW t ω i s<x)
   (λY H'=>∃(cs:TW) (Ss:List (Nat->Bool)) (r:Addr) (v5:TU),Y=[some (.ref ca),some (.ref oa),some (.int (p:Nat)),some (.ref L),some (.ref r),v5]/\Zv H H'/\WO H' L t p m e cs Ss/\PtS m S (gW t ω i) Ss) ?hend
   ⟨p,[],[],S,oa,none,rfl,s0,⟨h0,rfl,λj b hb=>by simp at hb⟩,.zero,s0 _ _ hO,λs hs _=>p4 s hs⟩ ?turn
  case hend=>
   rintro Y H' ⟨cs,Ss,r,v5,rfl,sm,hP,hS⟩;exact⟨_,rfl,q L cs Ss H' nL sm hS hP⟩
  case turn=>
   rintro m8 x Y H' ⟨cs,Ss,R,r,v5,rfl,sm,hP,hW,hR,hx⟩;have n6:=hR;rw[Jt] at n6;refine⟨_,rfl,r,_,rfl,.of n6,_,rfl,?_⟩;refine YE (λh2=>?_) (λh2=>?_)
   ·have p6:=(ZfQ C Pt R).mp ((V8 _ _).mp h2)
    refine⟨_,λ_ _ z=>z,_,rfl,_,rfl,_,rfl,ca,r,t,p,m,e,ω,φ,R,i,rfl,C,Pt,hi,pl,hC.mono sm,hR,p6,λL2 M H2 t5 s2 g1 n8 m5=>?_⟩;have O:=hP.mono s2;have n9:=s2 _ _ hR;have sl:=ZjT hW;have m6:∀{b:Addr}{v:Nat->Int},H2 b=some (.lst (ZF m v))->b≠L:=λ{b v} hb=>ZbG hb O.1 (UD m1).symm;have o0:=O.push m5 (λj b hb=>by
     rcases bH.mp (aB hb) with z|z
     ·obtain⟨j',p7⟩:=bo z
      obtain⟨S',_,p8⟩:=O.2.2 j' b p7;exact m6 p8
     ·rw[aS.mp z]
      exact m6 m5)
    refine⟨_,rfl,.inl ⟨rfl,_,.of O.1⟩,_,rfl,L,_,_,rfl,rfl,O.1,by rw[Za,O.2.1];omega,?_⟩;have sm3:Zv H (upd H2 L (.lst (cs.map V.ref++[.ref L2]))):=(sm.trans s2).updr nL;have o7:upd H2 L (.lst (cs.map V.ref++[.ref L2])) r=some (.lst (ZF m (Vc t p m e (XH R)))):=by rw[Zz (m6 n9)];exact n9
    have o8:upd H2 L (.lst (cs.map V.ref++[.ref L2])) L2=some (.lst (ZF m (Vc t p m e (XH (XG R (gW t ω i) M))))):=by rw[Zz (m6 m5)];exact m5
    generalize upd H2 L (.lst (cs.map V.ref++[.ref L2]))=H3 at o0 sm3 o7 o8 ⊢;refine⟨_,rfl,_,rfl,r,L2,false,false,_,_,H3,rfl,.lst (.of o7),.lst (.of o8),Zv.refl _,λJ At S' q0=>?_⟩;refine XC S' q0 (Zv.refl _) [some (.int (p:Nat))] rfl (λa b=>(a-b) % (p:Int)) (by omega) (λj H4 hj s4 R' g=>?_) (λD H4 nD s4 hD=>?_)
    ·exact⟨_,rfl,_,rfl,_,_,rfl,rfl,_,rfl,_,_,rfl,rfl,(by show (0:Int)<(p:Int);omega),g⟩
    ·have e5:(ZF m λj=>(Vc t p m e (XH R) j-Vc t p m e (XH (XG R (gW t ω i) M)) j) % (p:Int))=ZF m (Vc t p m e (XH (ZbQ R (gW t ω i) M))):=Wt λc _=>Znt n8 c
     rw[e5] at hD;refine⟨M,?_,cs++[L2],Ss++[XG R (gW t ω i) M],ZbQ R (gW t ω i) M,D,_,rfl,sm3.trans s4,o0.mono s4,hW.step g1 n8,hD,λs' o9 q'=>?_⟩
     ·obtain⟨s',o9,a,b⟩:=g1
      rw[<-b];exact hx s' o9 a
     ·unfold ZbQ at q'
      rw[ag,decide_eq_true_eq] at q';exact q'.2
   ·have r6:¬ ∃s,s<m/\R s=true:=λz=>h2 ((V8 _ _).mpr ((ZfQ C Pt R).mpr z))
    exact m8 _ _ ⟨cs,Ss,r,v5,rfl,sm,hP,hW.end r6⟩
end
structure KS (kvs:List (YQ×V))(ks:T7):Prop where
 keys:kvs.map (·.1)=ks.map λa:Nat=>(hU (a:Int):YQ)
 nd:ks.Nodup
theorem KS.nil:KS [] []:=⟨rfl,dQ⟩
theorem KS.len {j:List (YQ×V)}{q:T7}(h:KS j q):j.length=q.length:=by
 have:=congrArg cN h.keys;rwa [Za,Za] at this
theorem KS.some {j:List (YQ×V)}{q:T7}(h:KS j q)(a:Nat):(YZ j (.inl (a:Int))).isSome=q.contains a:=by
 rw[<-WX];have e:(j.any λM=>decide (M.1=(.inl (a:Int):YQ)))=(j.map (·.1)).any λk=>decide (k=(.inl (a:Int):YQ)):=by rw[ef];rfl
 rw[e,h.keys,ef];by_cases hm:a∈q
 ·rw[aw.mpr hm,aU]
  exact⟨a,hm,by simp⟩
 ·have J:q.contains a=false:=by
   cases J:q.contains a with
   |false=>rfl
   |true=>exact absurd (aw.mp J) hm
  rw[J,List.any_eq_false];intro b hb z;have z:=of_decide_eq_true z;injection z with z;have:b=a:=by omega
  exact hm (this▸hb)
theorem KS.put {j:List (YQ×V)}{q:T7}(h:KS j q)(a:Nat)(v:V):KS (WP j (.inl (a:Int)) v) (if q.contains a then q else q++[a]):=by
 have M:=h.some a;by_cases J:q.contains a=true
 ·rw[if_pos J]
  rw[J] at M;refine⟨?_,h.nd⟩;unfold WP;rw[if_pos (by rw[WX];exact M),aH,<-h.keys];refine aW λO _=>?_;show (if O.1=_ then (O.1,v) else O).1=O.1
  split <;> rfl
 ·rw[if_neg J]
  have Y:YZ j (.inl (a:Int))=none:=by
   cases hv:YZ j (.inl (a:Int)) with
   |none=>rfl
   |some x=>rw[hv] at M;exact absurd M.symm J
  rw[Zh4 v Y];refine⟨by rw[aO,aO,h.keys];rfl,?_⟩;rw[mF];refine⟨h.nd,by simp,λb hb c hc z=>J ?_⟩;rw[aS.mp hc] at z;exact aw.mpr (z▸hb)
theorem Zkj {j:T7}{a b:Nat}:b∈(if j.contains a then j else j++[a])↔b∈j\/b=a:=by
 split
 ·rename_i h
  exact⟨.inl,λz=>z.elim id λe=>by rw[e];exact aw.mp h⟩
 ·rw[bH,aS]
theorem Zkk (j:T7)(a:Nat):(if j.contains a then j else j++[a]).length<=j.length+1:=by
 split
 ·omega
 ·rw[Zd,Zk];exact Zq _
inductive Jw (vs:TV) (H:Hp) (Q:VK) (E03:XK):Prop
 |mk (g:Addr) (t:T9):(vs=[.ref g])->(GT H g t)->(PW t)->(∀c H',Zv H H'->CT H' c (ZA t t.length)->Q (.ref c) H')->Jw vs H Q E03
theorem _root_.Pm.TupsAt.updD {H:Hp}{L D:Addr}{bs:TW}{yss:T9}{j:List (YQ×V)}{o:HO}(q:H D=some (.dK j))(R:TupsAt H L bs yss):TupsAt (upd H D o) L bs yss:=by
 refine⟨?_,R.2.1,λi b hb=>?_⟩
 ·rw[Zz λz=>by have:=R.1;rw[z,q] at this;cases this]
  exact R.1
 ·rw[Zz λz=>by have:=R.2.2 i b hb;rw[z,q] at this;cases this]
  exact R.2.2 i b hb
theorem _root_.Pm.TupsAt.last {H:Hp}{L r:Addr}{bs:TW}{yss:T9}{ys:T7}(R:TupsAt H L (bs++[r]) (yss++[ys])):H r=some (.tup (ys.map nV)):=by
 have j:=R.2.1;rw[Zd,Zd,Zk,Zk] at j;have:=R.2.2 bs.length r (by rw[au (Zq _),cn];rfl);rw[Zb,au (by omega),show bs.length-yss.length=0 by omega] at this;exact this
theorem Zpn {H:Hp}{L c:Addr}{bs:TW}{yss:T9}(R:TupsAt H L bs yss)(j:H c=none):CT (upd H c (.tup (bs.map V.ref))) c yss:=⟨bs,Zu,R.2.1,λi r q=>Zv.upd j _ _ (R.2.2 i r q)⟩
section
variable {P:Program}{w:World}{K:aa}{mg:TX}{base:Heap}
theorem Zec {f:Addr}{fd:FuncData}(F:WA K "classes_of" "classes_of" Uy f fd)(T:Bl mg)(GN:Fn P w K mg base Yd 3 "turnings" ["group", "b"] XT):Z8 P w K mg base Yd 4 f fd ["group"] Jw:=by
 refine F.ok (FS (N:=["group", "found", "seen", "b", "a"])) (λvs H Q E h=>?_) (λo7 A o8 s H vs Q E hr h=>?_)
 ·obtain⟨g,t,rfl,_⟩:=h;rfl
 ·obtain⟨g,t,rfl,G,Pt,q⟩:=h
  have hu:(A.deeper (envOfC "classes_of" (Z1 Uy) s.heap.objs.size f o7)).units+1<cLine:=by have:=hr.un;omega
  refine⟨_,Zs (ZH 1 rfl (ZR Zt))
   (Zs (ZH 2 rfl ZcV)
   (Zs (ZN am rfl (WI T.range (pc (cb (Yt K) T.len (pc (vn 0) Zt)) Zt)) (gn 3)
    (Zw (WN (Zh5 (ZaH hu (vn 3) (vn 2)))
     (Zs (YG (WC aJ aQ aR Ye (vn 1) (pc (Wh GN hr ZL (pc (vn 0) (pc (vn 3) Zt))) Zt)))
     (Zw (ZN am rfl (itT K (ZD (Jb K) (vn 1) (Vo JH Zx) (λ_ _=>rfl))) (gn 4) (Zw (Xu hu (vn 2) (vn 4) V0 (by rfl)))))) YF)))
   (Zw (ZK (ct ZY T.tuple (pc (vn 1) Zt)))))),?_⟩
  have sz:=JE;have p7:=Pt.n60;refine⟨JF,λL nL=>λD nD=>?_⟩;have s1:=Zv.upd (H:=H) (o:=.lst []) nL;have s2:=s1.trans (Zv.upd (o:=.dK []) nD);have o9:H D=none:=s1.free nD;obtain⟨gs,u1,u2,_⟩:=id (G.mono s2);have el:(gs.map V.ref).length=t.length:=by rw[Za,u2]
  refine⟨_,rfl,g,_,rfl,.inr (.of u1),_,rfl,by rw[el];omega,by rw[el];omega,?_⟩;rw[el,Zj];refine Z0 (λi M H'=>∃(w3 w4:TU) (bs:TW) (J:List (YQ×V)) (ks:T7),M=[some (.ref g),some (.ref L),some (.ref D),w3,w4]/\Zv H H'/\TupsAt H' L bs (ZA t i)/\H' D=some (.dK J)/\KS J ks/\(∀a,a∈ks↔Yz (ZA t i) a=true)/\ks.length<=60*i)
   ⟨_,_,[],[],[],rfl,s2,⟨Zv.upd nD _ _ Zu,rfl,λi b hb=>by cases hb⟩,Zu,.nil,λa=>⟨λz=>(by cases z),λz=>(by cases z)⟩,Zq _⟩ ?_ ?_
  ·rintro i M H3 hi ⟨w3,w4,bs,J,ks,rfl,s3,R,hD,hK,m5,kl⟩
   rw[show (0:Int)+(i:Int)=(i:Int) by omega];refine⟨_,rfl,_,rfl,D,_,rfl,Ji.k (k:=.inl (i:Int)) hD,_,rfl,?_⟩;have n8:(YZ J (.inl (i:Int))).isSome=Yz (ZA t i) i:=by
    rw[hK.some];cases hc:Yz (ZA t i) i with
    |true=>exact aw.mpr ((m5 i).mpr hc)
    |false=>
     cases p3:ks.contains i with
     |false=>rfl
     |true=>rw[(m5 i).mp (aw.mp p3)] at hc;cases hc
   rw[n8];refine YE (λh=>?_) (λh=>?_)
   ·have h:Yz (ZA t i) i=false:=by simpa using h
    have eU:ZA t (i+1)=ZA t i++[ZZ t i]:=by
     rw[ZA,if_neg (by unfold Yz at h;rw[h];decide)]
    refine⟨_,rfl,.inl ⟨rfl,_,.of R.1⟩,_,rfl,_,rfl,g,t,i,rfl,G.mono s3,Pt,hi,λr H4 s4 p4=>?_⟩;have R4:=R.mono s4;have bl:=R4.2.1;have ul:=Wr (t:=t) i;refine⟨L,_,_,rfl,rfl,R4.1,by rw[Za];omega,?_⟩;have R5:=R4.push p4;have n9:upd H4 L (.lst (bs.map V.ref++[.ref r])) D=some (.dK J):=by
     rw[Zz λz=>by have:=s4 _ _ hD;rw[z,R4.1] at this;cases this];exact s4 _ _ hD
    have s5:Zv H (upd H4 L (.lst (bs.map V.ref++[.ref r]))):=(s3.trans s4).updr nL;refine⟨_,rfl,_,rfl,L,_,_,_,rfl,rfl,.of Zu,Zad _ _,r,rfl,⟨_,.of R5.last⟩,?_⟩;generalize upd H4 L (.lst (bs.map V.ref++[.ref r]))=H5 at R5 n9 s5 ⊢;have cl:=ZfL (t:=t) i;refine Zfy (K:=K) (a:=r) (xs:=(ZZ t i).map nV) (λj M H'=>∃(w4:TU) (J:List (YQ×V)) (O:T7),M=[some (.ref g),some (.ref L),some (.ref D),some (.int (i:Nat)),w4]/\Zv H H'/\TupsAt H' L (bs++[r]) (ZA t i++[ZZ t i])/\H' D=some (.dK J)/\KS J O/\(∀a,a∈O↔a∈ks\/a∈(ZZ t i).take j)/\O.length<=60*i+j)
     ⟨_,J,ks,rfl,s5,R5,n9,hK,λa=>⟨.inl,λz=>z.elim id λz=>by rw[e9] at z;cases z⟩,kl⟩ (λj M H' _ h=>by
      obtain⟨_,_,_,_,_,R',_⟩:=h;exact .of R'.last) ?_ ?_
    ·rintro j y M H6 hy ⟨p6,n6,O,rfl,s6,R6,m6,m8,Y,o0⟩
     obtain⟨k,hk,rfl⟩:=XY hy;have hj:j<(ZZ t i).length:=(ae.mp hk).1;refine⟨_,rfl,_,rfl,D,_,rfl,VW.k (k:=.inl (k:Int)) m6 (by rw[m8.len];omega),?_⟩;refine⟨_,_,_,rfl,s6.updr o9,R6.updD m6,Zu,m8.put k (.bl true),λa=>?_,?_⟩
     ·rw[Zkj,Y,cM,hk,bH]
      show _↔a∈ks\/a∈(ZZ t i).take j\/a∈[k];rw[aS];exact⟨λz=>z.elim (λz=>z.elim .inl λz=>.inr (.inl z)) λz=>.inr (.inr z),λz=>z.elim (λz=>.inl (.inl z)) λz=>z.elim (λz=>.inl (.inr z)) .inr⟩
     ·have:=Zkk O k
      omega
    ·rintro M H6 ⟨p6,n6,O,rfl,s6,R6,m6,m8,Y,o0⟩
     rw[Za] at Y o0;refine⟨_,_,bs++[r],n6,O,rfl,s6,by rw[eU];exact R6,m6,m8,λa=>?_,by omega⟩;rw[Y,cU,m5 a,eU];unfold Yz;rw[ij,aY,cR,kw,gI,aw]
   ·have h:Yz (ZA t i) i=true:=by simpa using h
    have eU:ZA t (i+1)=ZA t i:=by
     rw[ZA,if_pos (by unfold Yz at h;rw[h])]
    exact⟨_,_,bs,J,ks,rfl,s3,by rw[eU];exact R,hD,hK,λa=>by rw[eU];exact m5 a,by omega⟩
  ·rintro M H3 ⟨w3,w4,bs,J,ks,rfl,s3,R,hD,hK,m5,kl⟩
   exact⟨_,rfl,L,_,rfl,.inl ⟨.of R.1,λc nc=>q c _ (s3.trans (Zv.upd nc)) (Zpn R nc)⟩⟩
end
noncomputable abbrev ZlT:Stmt:=top 1
noncomputable abbrev ZcH:Stmt:=top 10
def hol (j:T9):Nat->Nat->Nat
 |0,_=>0
 |k+1,a=>if (j.getD k []).contains a then k else hol j k a
inductive ZdR (vs:TV) (H:Hp) (Q:VK) (E03:XK):Prop
 |mk (c:Addr) (css:T9) (n:Nat):(vs=[.ref c,.int n])->(CT H c css)->((∀row∈css,∀a∈row,a<n))->(n<=60)->(css.length<=60)->(∀r H',Zv H H'->H' r=some (.tup ((Yl n (hol css css.length)).map nV))->Q (.ref r) H')->ZdR vs H Q E03
inductive Zbf (vs:TV) (H:Hp) (Q:VK) (E03:XK):Prop
 |mk (g:Addr) (t:T9):(vs=[.ref g])->(GT H g t)->(PW t)->(∀r H',Zv H H'->H' r=some (.tup ((Yl t.length (hol (ZA t t.length) (ZA t t.length).length)).map nV))->Q (.ref r) H')->Zbf vs H Q E03
section
variable {P:Program}{w:World}{K:aa}{mg:TX}{base:Heap}
theorem ZkL {f:Addr}{fd:FuncData}(F:WA K "holders" "holders" ZlT f fd)(T:Bl mg)(T2:ZgT mg):Z8 P w K mg base Yd 1 f fd ["bundles", "count"] ZdR:=by
 refine F.ok (FS (N:=["bundles", "count", "numbers", "k", "members", "a"])) (λvs H Q E h=>?_) (λp3 A n9 s H vs Q E hr h=>?_)
 ·obtain⟨c,J,n,rfl,_⟩:=h;rfl
 ·obtain⟨c,J,n,rfl,C,o0,n60,p4,q⟩:=h
  refine⟨_,Zs (ZH 2 rfl (Zy WJ (ZR (pc Zx Zt)) (vn 1)))
   (Zs (ZN am rfl (UW K T2.enumerate (pc (vn 0) Zt)) (g2 K 3 4 rfl (gn 3) (gn 4))
    (Zw (ZN am rfl (itT K (vn 4)) (gn 5) (Zw (W2 (vn 3) (Xc (vn 2) (vn 5) YS))))))
   (Zw (ZK (ct ZY T.tuple (pc (vn 2) Zt))))),?_⟩
  have sz:=JE;obtain⟨rs,c1,c2,c3⟩:=C.row;refine⟨JF,λl0 o7=>⟨_,rfl,l0,_,_,rfl,rfl,Zu,by omega,by omega,by show 1*((n:Int)).toNat<=sizeLine;omega,λL nL=>?_⟩⟩;rw[Zj];have s1:=Zv.upd (H:=H) (o:=.lst [.int 0]) o7;have o8:H L=none:=s1.free nL;have e0:(ah n [V.int 0]).flatten=(Yl n (hol J 0)).map nV:=by
   unfold Yl;rw[aH];have:∀m k,(ah m [V.int 0]).flatten=(de k m).map λ_=>nV 0:=λm=>by
    induction m with
    |zero=>intro k;rfl
    |succ m ih=>intro k;rw[aK,a6,ih (k+1),dY,aN];rfl
   rw[this n 0,<-dP];rfl
  rw[e0];have s2:=s1.trans (Zv.upd (o:=.lst ((Yl n (hol J 0)).map nV)) nL);refine⟨_,rfl,c,rfl,.inr ⟨⟨_,.of (s2 _ _ c1)⟩,?_⟩⟩;refine Jd (Zb3 (K:=K) (xs:=rs.map V.ref)) (λi M H'=>∃v3 v4 v5:TU,M=[some (.ref c),some (.int (n:Nat)),some (.ref L),v3,v4,v5]/\Zv H H'/\H' L=some (.lst ((Yl n (hol J i)).map nV)))
   ⟨_,_,_,rfl,s2,Zu⟩ (λi M H' h=>by
    obtain⟨_,_,_,_,sm,_⟩:=h;exact sm.tup (.of c1)) ?_ ?_
  ·rintro i y M H3 T' hy ⟨v3,v4,v5,rfl,s3,O⟩ nT
   obtain⟨r,rfl,hi,Y⟩:=c3 i y hy;have s4:=Zv.upd (H:=H3) (o:=.tup [.int (i:Nat),.ref r]) nT;refine⟨T',_,rfl,.of Zu,rfl,_,_,rfl,_,_,rfl,rfl,?_⟩;generalize upd H3 T' (.tup [.int (i:Nat),.ref r])=H4 at s4 ⊢;have m8:=(s3.trans s4) _ _ Y;have hm:J.getD i []∈J:=by
    rw[Zb,Zf hi];exact bn hi
   have m6:=o0 _ hm;generalize n6:J.getD i []=row at Y m8 m6;refine⟨_,rfl,r,rfl,⟨_,.of m8⟩,?_⟩;refine Zfy (K:=K) (a:=r) (xs:=row.map nV) (λj M H'=>∃v5:TU,M=[some (.ref c),some (.int (n:Nat)),some (.ref L),some (.int (i:Nat)),some (.ref r),v5]/\Zv H H'/\H' L=some (.lst ((Yl n λa=>if (row.take j).contains a then i else hol J i a).map nV)))
    ⟨_,rfl,s3.trans s4,by
     have e:(Yl n λa=>if ((row.take 0).contains a)=true then i else hol J i a)=Yl n (hol J i):=Wu λa _=>by rw[e9];rfl
     rw[e];exact s4 _ _ O⟩ (λj M H' _ h=>by
     obtain⟨_,_,sm,_⟩:=h;exact .of (sm _ _ (by rw[<-n6] at Y ⊢;exact Y))) ?_ ?_
   ·rintro j y M H5 hy ⟨o9,rfl,s5,m5⟩
    obtain⟨k,hk,rfl⟩:=XY hy;have n8:k<n:=m6 k (aB hk);refine⟨_,rfl,_,rfl,_,rfl,L,_,_,k,rfl,rfl,m5,Ja (by rw[Za,UB];exact n8),?_⟩;refine⟨_,rfl,s5.updr o8,?_⟩;rw[Zu];have e:=ZcM (k:=i) (λa=>if ((row.take j).contains a)=true then i else hol J i a) n8
    have e2:(Yl n λb=>if b=k then i else if ((row.take j).contains b)=true then i else hol J i b)=Yl n λa=>if ((row.take (j+1)).contains a)=true then i else hol J i a:=Wu λa _=>by
     rw[cM,hk];by_cases h1:a=k
     ·subst h1
      rw[if_pos rfl,if_pos (aw.mpr (aP _ (by simp)))]
     ·rw[if_neg h1]
      by_cases h2:a∈row.take j
      ·rw[if_pos (aw.mpr h2),if_pos (aw.mpr (bU _ h2))]
      ·rw[if_neg (λz=>h2 (aw.mp z)),if_neg (λz=>?_)]
       rcases bH.mp (aw.mp z) with z|z
       ·exact h2 z
       ·exact h1 (by simpa using z)
    rw[e2] at e;exact congrArg (λxs=>some (HO.lst xs)) e
   ·rintro M H5 ⟨o9,rfl,s5,m5⟩
    refine⟨_,_,_,rfl,s5,?_⟩;rw[Za] at m5;rw[m5];have e:(Yl n λa=>if ((row.take row.length).contains a)=true then i else hol J i a)=Yl n (hol J (i+1)):=Wu λa _=>by
     rw[cU,hol,n6]
    rw[e]
  ·rintro M H3 ⟨v3,v4,v5,rfl,s3,O⟩
   rw[Za,c2] at O;exact⟨_,rfl,L,_,rfl,.inl ⟨.of O,λr nr=>q r _ (s3.trans (Zv.upd nr)) Zu⟩⟩
theorem Zlr {t:T9}(j:PW t):∀row∈ZA t t.length,∀a∈row,a<t.length:=λrow q a J=>by
 obtain⟨b,_,rfl⟩:=Jn j t.length (Zq _) row q;exact X6 J
theorem ZkG {f:Addr}{fd:FuncData}(F:WA K "class_numbers" "class_numbers" ZcH f fd)(T:Bl mg)(GC:Fn P w K mg base Yd 4 "classes_of" ["group"] Jw)(GH:Fn P w K mg base Yd 1 "holders" ["bundles", "count"] ZdR):Z8 P w K mg base Yd 5 f fd ["group"] Zbf:=by
 refine F.ok (FS (N:=["group"])) (λvs H Q E h=>?_) (λm5 A j s H vs Q E O h=>?_)
 ·obtain⟨g,t,rfl,_⟩:=h;rfl
 ·obtain⟨g,t,rfl,G,J,q⟩:=h
  refine⟨_,Zw (ZK (Wh GH O ZL (pc (Wh GC O ZL (pc (vn 0) Zt)) (pc (cb (Yt K) T.len (pc (vn 0) Zt)) Zt)))),?_⟩;have n60:=J.n60;refine⟨_,rfl,g,t,rfl,G,J,λc H' Y C=>?_⟩;obtain⟨gs,u1,u2,_⟩:=id (G.mono Y);have el:(gs.map V.ref).length=t.length:=by rw[Za,u2]
  refine⟨_,rfl,g,_,rfl,.inr (.of u1),?_⟩;rw[el];exact⟨c,_,t.length,rfl,C,Zlr J,n60,a8 (Wr _) n60,λr H2 s2 M=>q r H2 (Y.trans s2) M⟩
end
end C47
namespace Tb
def rdT (t:T9)(a:Nat):Nat:=(((ac t.length).find? λr=>it t a (r+1) == 0).getD 0)+1
theorem VD {t:T9}{a r:Nat}(R:Rd t a r):rdT t a=r:=by
 have q:=R.r1;have:(ac t.length).find? (λr=>it t a (r+1) == 0)=some (r-1):=by
  rw[j3];refine⟨by rw[show r-1+1=r by omega,R.z];rfl,af.mpr (by have:=R.rn;omega),λj J=>?_⟩;have:=R.nz (j+1) (by omega) (by omega);simpa using this
 unfold rdT;rw[this];show r-1+1=r;omega
section
variable {t:T9}
theorem Zfu (P:PW t){a s:Nat}(j:a<t.length)(q:s<t.length):∀k,it t (tb t a s) k=tb t (it t a k) s
 |0=>(Xr P q).symm
 |k+1=>by
  rw[it,it,Zfu P j q k,ZdG P q (Jc P j k) j]
theorem Zqh (P:PW t){x s:Nat}(J:x<t.length)(j:s<t.length):tb t x s=0↔x=0:=by
 have M:=P.n1;constructor
 ·intro h
  have q:=V9 P J j;rw[h,P.oneR _ (Z4 P j).1,Za4 P j] at q;exact q.symm
 ·rintro rfl
  exact Xr P j
theorem ZhT (P:PW t){a s:Nat}(q:a<t.length)(J:s<t.length):rdT t (tb t a s)=rdT t a:=by
 unfold rdT;have j:(λr=>it t (tb t a s) (r+1) == 0)=λr=>it t a (r+1) == 0:=funext λr=>?_
 ·rw[j]
 have h:=Zfu P q J (r+1);have M:=Zqh P (Jc P q (r+1)) J;rw[h];cases O:(it t a (r+1) == 0) with
 |true=>
  have:it t a (r+1)=0:=by simpa using O
  simpa using M.mpr this
 |false=>
  have:it t a (r+1)≠0:=by simpa using O
  have:tb t (it t a (r+1)) s≠0:=λz=>this (M.mp z);simpa using this
end
end Tb
namespace C47
open PySem L2 PySem.Spec PyProof.Rows
open Tb Pm
theorem ZiQ {j:T9}{a q:Nat}(M:(j.getD q []).contains a=true)(O:∀k,k<j.length->(j.getD k []).contains a=true->k=q):∀m,m<=j.length->q<m->hol j m a=q
 |0,_,h=>by omega
 |m+1,hm,h=>by
  unfold hol;split
  ·rename_i J
   exact O m (by omega) J
  ·rename_i J
   refine ZiQ M O m (by omega) ?_;by_cases e:q=m
   ·subst e;exact absurd M J
   ·omega
theorem Zji {t:T9}(Y:PW t){a:Nat}(ha:a<t.length):∃j,j<(ZA t t.length).length/\((ZA t t.length).getD j []).contains a=true/\∀k,k<(ZA t t.length).length->((ZA t t.length).getD k []).contains a=true->k=j:=by
 have h:=Jg Y t.length (Zq _) a ha;unfold Yz at h;obtain⟨c,hc,q⟩:=aU.mp h;obtain⟨j,J⟩:=bo hc;have hl:=(ae.mp J).1;have e:(ZA t t.length).getD j []=c:=by rw[Zb,J];rfl
 refine⟨j,hl,by rw[e];exact q,λk M O=>?_⟩;have e2:(ZA t t.length)[k]?=some ((ZA t t.length).getD k []):=by rw[Zb,Zf M];rfl
 exact Vv Y t.length (Zq _) k j _ c a e2 J (aw.mp O) (aw.mp q)
noncomputable abbrev ZeT:Stmt:=top 11
def Xd (t:T9)(a:Nat):Nat:=hol (ZA t t.length) (ZA t t.length).length a
theorem VF {t:T9}(M:PW t){a:Nat}(O:a<t.length):Xd t a<(ZA t t.length).length/\a∈(ZA t t.length).getD (Xd t a) []/\∀k,k<(ZA t t.length).length->a∈(ZA t t.length).getD k []->k=Xd t a:=by
 obtain⟨Y,j,q,J⟩:=Zji M O;have e:Xd t a=Y:=ZiQ q J _ (Zq _) j;rw[e];exact⟨j,aw.mp q,λk hk hm=>J k hk (aw.mpr hm)⟩
theorem Zj8 {t:T9}(J:PW t){k a:Nat}(Y:k<(ZA t t.length).length)(M:a∈(ZA t t.length).getD k []):a<t.length/\Xd t a=k/\∀x,x∈(ZA t t.length).getD k []↔x∈ZZ t a:=by
 obtain⟨b,hb,e⟩:=Jn J t.length (Zq _) _ (ZeW Y);rw[e] at M ⊢;have q:=X6 M;refine⟨q,((VF J q).2.2 k Y (by rw[e];exact M)).symm,λx=>⟨λO=>?_,λO=>?_⟩⟩
 ·have j:=X6 O
  exact Yq J q j (Yq J q hb (YJ J q) M) (Yq J j hb (YJ J j) O)
 ·have j:=X6 O
  exact Yq J hb j M (Yq J j q (YJ J j) O)
theorem ZhI {t:T9}(j:PW t){k:Nat}(J:k<(ZA t t.length).length):∃a r,(ZA t t.length).getD k []=a::r:=by
 obtain⟨b,hb,e⟩:=Jn j t.length (Zq _) _ (ZeW J);have q:=YJ j hb;rw[e];cases h:ZZ t b with
 |nil=>rw[h] at q;cases q
 |cons a r=>exact⟨a,r,rfl⟩
end C47
namespace C47
open PySem L2 PySem.Spec PyProof.Rows
open Tb
open Pm
theorem ZiT {X:Cx}:Zn3 X (λx y H Q=>∃(p:Addr) (xs:TV) (i:Nat) (v:V),x=.ref p/\y=.int i/\H p=some (.lst xs)/\xs[i]?=some v/\Q v H):=by
 intro J s σ H x y O iv Q I Y ry h;obtain⟨p,xs,i,v,rfl,rfl,hp,M,q⟩:=h;cases (show O=ax p from Y);obtain⟨t,rfl⟩:=ry;obtain⟨m5,r,pl,hz⟩:=I.list (.of hp);obtain⟨w,ew,j⟩:=r.get M;have hl:=r.length;have hn:=X1;have hi:i<xs.length:=(ae.mp M).1;exact wpAny_getItem_list pl.isList (dA _) (by omega) (by simpa using ew) ⟨v,H,I,j,q⟩
theorem Y8 {W:Type}(m8:W->Addr)(Pr:Nat->W->Hp->Prop)(Y:W->Hp->Prop){J:It}{own:List Str}{m6:T7}{te:TE}{σ:L2.St}{H:Hp}{Q:VK}{xs:TV}(S:WG J H xs)(cs:L2.St)(n9:JX own m6 σ=none::cs)(hn:xs.length<=1000)
  (mono:∀i w H q,Zv H q->Pr i w H->Pr i w q) (n8:∀w H q,Zv H q->Y w q->Y w H) (hu:∀i w H0 H1 D o ys o0,Pr i w H1->Y w H0->H0 D=some (.lst o)->H1 D=some (.lst ys)->Pr i w (upd H1 D (.lst o0)))
  (hs:∀(i:Nat) y,xs[i]?=some y->∀q,Zv H q->∀R:VK,(∀w H5,Zv q H5->Pr i w H5->Y w q->R (.ref (m8 w)) H5)->te (some y::cs) q R)
  (hd:∀D (M:List W) q,H D=none->Zv H q->q D=some (.lst (M.map λw=>V.ref (m8 w)))->M.length=xs.length->(∀(i:Nat) w,M[i]?=some w->Pr i w q/\Y w H)->(∀(i j:Nat) w w',i<j->M[i]?=some w->M[j]?=some w'->∃Hm,Pr i w Hm/\Y w' Hm)->Q (.ref D) q):Jh own m6 (Yj 0) WM te σ Q J H:=by
 refine U1 (xs:=xs) (λD i ys q=>Zv H q/\∃M:List W,ys=M.map (λw=>V.ref (m8 w))/\M.length=i/\(∀(i:Nat) w,M[i]?=some w->Pr i w q/\Y w H/\∃H0 o,H0 D=some (.lst o)/\Y w H0)/\(∀(i j:Nat) w w',i<j->M[i]?=some w->M[j]?=some w'->∃Hm,Pr i w Hm/\Y w' Hm)) cs n9 (by omega) ?_ ?_ ?_ ?_
 ·intro D i ys q hD O p
  have S':=S.mono p.1;exact⟨λhi=>⟨S'.go i q (Zv.refl _) hi,λx H3 y=>S'.yld i q x H3 (Zv.refl _) hi y⟩,λe=>e▸S'.stop q (Zv.refl _)⟩
 ·intro D hD
  exact⟨Zv.upd hD,[],rfl,rfl,(λi w hw=>by cases hw),(λi j w w' _ h=>by cases h)⟩
 ·rintro D i y ys q hD O hy ⟨sm,M,rfl,wl,hw,hp⟩ R k
  refine hs i y hy q sm R λw H5 s5 p5 n5=>?_;have n6:=s5 _ _ O;have lst:∀(b:Nat) v,(M++[w])[b]?=some v->(b<M.length/\M[b]?=some v)\/(b=M.length/\v=w):=λb v hb=>by
   by_cases m5:b<M.length
   ·rw[aq m5] at hb
    exact .inl ⟨m5,hb⟩
   ·rw[au (by omega)] at hb
    have o7:b-M.length=0:=by
     apply ai;intro z;rw[ak (by rw[Zk];omega)] at hb;cases hb
    rw[o7] at hb;cases hb;exact .inr ⟨by omega,rfl⟩
  refine k _ H5 n6 ⟨(sm.trans s5).updr hD,M++[w],by rw[aO];rfl,by rw[Zd,wl];rfl,λb v hv=>?_,λa b v v' o8 ha hb=>?_⟩
  ·rcases lst b v hv with ⟨_,hv⟩|⟨hb,hv⟩
   ·obtain⟨h1,h2,H0,o,h3,h4⟩:=hw b v hv
    exact⟨hu b v H0 H5 D o _ _ (mono b v _ _ s5 h1) h4 h3 n6,h2,H0,o,h3,h4⟩
   ·subst hv
    subst hb;rw[<-wl] at p5;exact⟨hu _ v q H5 D _ _ _ p5 n5 O n6,n8 v _ _ sm n5,q,_,O,n5⟩
  ·rcases lst b v' hb with ⟨m5,hb⟩|⟨m5,hb⟩
   ·rw[aq (by omega)] at ha
    exact hp a b v v' o8 ha hb
   ·subst hb
    rw[aq (by omega)] at ha;exact⟨q,(hw a v ha).1,n5⟩
 ·rintro D ys H5 hD O o9 ⟨sm,M,rfl,wl,hw,hp⟩
  exact hd D M H5 hD sm O wl (λi w h=>⟨(hw i w h).1,(hw i w h).2.1⟩) hp
structure N3 (Hb H:Hp)(L:Addr)(m:Nat)(A:Nat->Addr)(B:Nat->Nat->Addr)(f:Nat->Nat->Nat->Nat):Prop where
 sm:Zv Hb H
 m1:1<=m
 top:H L=some (.lst ((ac m).map λi=>V.ref (A i)))
 mid:∀i,i<m->H (A i)=some (.lst ((ac m).map λj=>V.ref (B i j)))
 low:∀i j,i<m->j<m->H (B i j)=some (.lst ((Yl m (f i j)).map nV))
 inj:∀i j i' j',i<m->j<m->i'<m->j'<m->B i j=B i' j'->i=i'/\j=j'
 nw:∀i j,i<m->j<m->Hb (B i j)=none
section
variable {Hb H H':Hp}{L:Addr}{m:Nat}{A:Nat->Addr}{B:Nat->Nat->Addr}{f:Nat->Nat->Nat->Nat}
theorem N3.mono (N:N3 Hb H L m A B f)(s:Zv H H'):N3 Hb H' L m A B f:=⟨N.sm.trans s,N.m1,s _ _ N.top,λi q=>s _ _ (N.mid i q),λi j q J=>s _ _ (N.low i j q J),N.inj,N.nw⟩
theorem Ze0 {m:Nat}(q:1<=m){a:Nat->Addr}{f:Nat->Nat}:(HO.lst ((ac m).map λi=>V.ref (a i)))≠.lst ((Yl m f).map nV):=λz=>by
 injection z with z;have:=congrArg (λj:TV=>j[0]?) z;unfold Yl at this;rw[Zc,Zc,Zc,aj (show 0<m by omega)] at this;cases this
theorem N3.put (N:N3 Hb H L m A B f){i j k v:Nat}(hi:i<m)(hj:j<m)(hk:k<m):N3 Hb (upd H (B i j) (.lst (((Yl m (f i j)).map nV).set k (nV v)))) L m A B (λq M O=>if q=i/\M=j/\O=k then v else f q M O):=by
 have nL:L≠B i j:=Zix N.top (N.low i j hi hj) (Ze0 N.m1);have nA:∀q,q<m->A q≠B i j:=λq J=>Zix (N.mid q J) (N.low i j hi hj) (Ze0 N.m1);refine⟨N.sm.updr (N.nw i j hi hj),N.m1,by rw[Zz nL];exact N.top,λq J=>by rw[Zz (nA q J)];exact N.mid q J,λq M J Y=>?_,N.inj,N.nw⟩;by_cases e:q=i/\M=j
 ·obtain⟨rfl,rfl⟩:=e
  rw[Zu,ZcM _ hk];have:(Yl m λb=>if b=k then v else f q M b)=Yl m λO=>if q=q/\M=M/\O=k then v else f q M O:=Wu λb _=>by
   by_cases h:b=k
   ·rw[if_pos h,if_pos ⟨rfl,rfl,h⟩]
   ·rw[if_neg h,if_neg (λz=>h z.2.2)]
  rw[this]
 ·rw[Zz λz=>e (N.inj q M i j J Y hi hj z),N.low q M J Y]
  have:(Yl m (f q M))=Yl m λO=>if q=i/\M=j/\O=k then v else f q M O:=Wu λb _=>by rw[if_neg (λz=>e ⟨z.1,z.2.1⟩)]
  rw[<-this]
theorem N3.congr (N:N3 Hb H L m A B f){g:Nat->Nat->Nat->Nat}(h:∀i j k,i<m->j<m->k<m->f i j k=g i j k):N3 Hb H L m A B g:=⟨N.sm,N.m1,N.top,N.mid,λi j q J=>by rw[N.low i j q J,Wu λk M=>h i j k q J M],N.inj,N.nw⟩
end
def ZlB (m:Nat)(b:Addr)(H:Hp):Prop:=H b=some (.lst ((Yl m λ_=>0).map nV))
structure Zn5 (m:Nat)(w:Addr×TW)(H:Hp):Prop where
 top:H w.1=some (.lst (w.2.map V.ref))
 len:w.2.length=m
 low:∀b∈w.2,ZlB m b H
 nd:∀(i j:Nat) b b',i<j->w.2[i]?=some b->w.2[j]?=some b'->b≠b'
def NwM (w:Addr×TW)(H:Hp):Prop:=H w.1=none/\∀b∈w.2,H b=none
theorem ZaV {m:Nat}{J:It}{own:List Str}{M:T7}{te:TE}{σ:L2.St}{H:Hp}{Q:VK}{xs:TV}(S:WG J H xs)(Y:L2.St)(m5:JX own M σ=none::Y)(hn:xs.length<=1000)(hm:xs.length=m)
  (hs:∀(i:Nat) y,xs[i]?=some y->∀q,Zv H q->∀R:VK,(∀b H5,Zv q H5->ZlB m b H5->q b=none->R (.ref b) H5)->te (some y::Y) q R)
  (hd:∀w q,Zv H q->Zn5 m w q->NwM w H->Q (.ref w.1) q):Jh own M (Yj 0) WM te σ Q J H:=by
 refine Y8 (W:=Addr) id (λ_ b H=>ZlB m b H) (λb H=>H b=none) S Y m5 hn (λi w H q s h=>s _ _ h) (λw H q s h=>s.free h) (λi w H0 H1 D o ys m8 h h0 O _=>?_) (λi y hy q s R k=>hs i y hy q s R k) (λD ws q nD s hD wl hw hp=>?_)
 ·have:w≠D:=λz=>by rw[z,O] at h0;cases h0
  show upd H1 D _ w=_;rw[Zz this];exact h
 ·refine hd (D,ws) q s ⟨hD,by rw[<-hm];exact wl,λb hb=>?_,λi j b b' m6 hi hj z=>?_⟩ ⟨nD,λb hb=>?_⟩
  ·obtain⟨i,hi⟩:=bo hb
   exact (hw i b hi).1
  ·obtain⟨Hm,O,h2⟩:=hp i j b b' m6 hi hj
   have O:Hm b=some _:=O;rw[z,h2] at O;cases O
  ·obtain⟨i,hi⟩:=bo hb
   exact (hw i b hi).2
theorem ZaU {m:Nat}{J:It}{own:List Str}{m8:T7}{te:TE}{σ:L2.St}{H:Hp}{Q:VK}{xs:TV}(S:WG J H xs)(cs:L2.St)(n8:JX own m8 σ=none::cs)(hn:xs.length<=1000)(hm:xs.length=m)(m1:1<=m)
  (hs:∀(i:Nat) y,xs[i]?=some y->∀H',Zv H H'->∀R:VK,(∀w H5,Zv H' H5->Zn5 m w H5->NwM w H'->R (.ref w.1) H5)->te (some y::cs) H' R)
  (hd:∀D A B H',H D=none->N3 H H' D m A B (λ_ _ _=>0)->Q (.ref D) H'):Jh own m8 (Yj 0) WM te σ Q J H:=by
 refine Y8 (W:=Addr×TW) i5 (λ_ w H=>Zn5 m w H) NwM S cs n8 hn (λi w H H' s h=>⟨s _ _ h.top,h.len,λb hb=>s _ _ (h.low b hb),h.nd⟩) (λw H H' s h=>⟨s.free h.1,λb hb=>s.free (h.2 b hb)⟩) (λi w H0 H1 D o ys o0 h h0 h1 _=>?_) (λi y hy H' s R k=>hs i y hy H' s R k) (λD ws H' nD s hD wl hw hp=>?_)
 ·have n1:w.1≠D:=λz=>by have:=h0.1;rw[z,h1] at this;cases this
  have n2:∀b∈w.2,b≠D:=λb hb z=>by have:=h0.2 b hb;rw[z,h1] at this;cases this
  exact⟨by rw[Zz n1];exact h.top,h.len,λb hb=>by show upd H1 D _ b=_;rw[Zz (n2 b hb)];exact h.low b hb,h.nd⟩
 ·rw[hm] at wl
  have wat:∀i,i<m->ws[i]?=some (ws.getD i (0,[])):=λi q=>by rw[Zb,Zf (by omega)];rfl
  have O:∀i j,i<m->j<m->(ws.getD i (0,[])).2[j]?=some ((ws.getD i (0,[])).2.getD j 0):=λi j q Y=>by
   have:=(hw i _ (wat i q)).1.len;rw[Zb (l:=(ws.getD i (0,[])).2),Zf (by omega)];rfl
  refine hd D (λi=>(ws.getD i (0,[])).1) (λi j=>(ws.getD i (0,[])).2.getD j 0) H' nD ⟨s,m1,?_,λi q=>?_,λi j q Y=>?_,λi j i' j' q Y m6 m5 z=>?_,λi j q Y=>?_⟩
  ·rw[hD]
   congr 2;refine a7 λi=>?_;rw[Zc,Zc];by_cases q:i<m
   ·rw[wat i q,aj q]
    rfl
   ·rw[ak (by omega),ak (by rw[Zg];omega)]
    rfl
  ·have M:=(hw i _ (wat i q)).1
   have ml:=M.len;rw[M.top];congr 2;refine a7 λj=>?_;rw[Zc,Zc];by_cases Y:j<m
   ·rw[O i j q Y,aj Y]
    rfl
   ·rw[ak (by omega),ak (by rw[Zg];omega)]
    rfl
  ·exact (hw i _ (wat i q)).1.low _ (aB (O i j q Y))
  ·have n6:∀i j i' j',i<m->j<m->i'<m->j'<m->i<i'->(ws.getD i (0,[])).2.getD j 0≠(ws.getD i' (0,[])).2.getD j' 0:=λi j i' j' q Y m6 m5 n9 z=>by
    obtain⟨Hm,h1,h2⟩:=hp i i' _ _ n9 (wat i q) (wat i' m6);have a1:=h1.low _ (aB (O i j q Y));have a2:=h2.2 _ (aB (O i' j' m6 m5));unfold ZlB at a1;rw[z,a2] at a1;cases a1
   have ei:i=i':=by
    rcases jd i i' with h|h|h
    ·exact absurd z (n6 i j i' j' q Y m6 m5 h)
    ·exact h
    ·exact absurd z.symm (n6 i' j' i j m6 m5 q Y h)
   subst ei;refine⟨rfl,?_⟩;have nd:=(hw i _ (wat i q)).1.nd;rcases jd j j' with h|h|h
   ·exact absurd z (nd j j' _ _ h (O i j q Y) (O i j' q m5))
   ·exact h
   ·exact absurd z.symm (nd j' j _ _ h (O i j' q m5) (O i j q Y))
  ·exact (hw i _ (wat i q)).2.2 _ (aB (O i j q Y))
def C3 (H:Hp)(r:Addr)(m:Nat)(F:Nat->Nat->Nat->Nat):Prop:=∃cs:TW,H r=some (.tup (cs.map V.ref))/\cs.length=m/\∀(i:Nat) c,cs[i]?=some c->CT H c ((ac m).map λj=>Yl m (F i j))
def PrT (m:Nat)(F:Nat->Nat->Nat)(w:Addr×TW)(H:Hp):Prop:=H w.1=some (.tup (w.2.map V.ref))/\w.2.length=m/\∀(j:Nat) r,w.2[j]?=some r->H r=some (.tup ((Yl m (F j)).map nV))
theorem PrT.mono {m:Nat}{F:Nat->Nat->Nat}{w:Addr×TW}{H q:Hp}(h:PrT m F w H)(s:Zv H q):PrT m F w q:=⟨s _ _ h.1,h.2.1,λj r J=>s _ _ (h.2.2 j r J)⟩
theorem PrT.upd {m:Nat}{F:Nat->Nat->Nat}{w:Addr×TW}{H:Hp}{D:Addr}{ys:TV}{o:HO}(h:PrT m F w H)(q:H D=some (.lst ys)):PrT m F w (upd H D o):=
 ⟨by rw[Zz λz=>by have:=h.1;rw[z,q] at this;cases this];exact h.1,h.2.1,λj r J=>by rw[Zz λz=>by have:=h.2.2 j r J;rw[z,q] at this;cases this];exact h.2.2 j r J⟩
theorem PrT.ct {m:Nat}{F:Nat->Nat->Nat}{w:Addr×TW}{H:Hp}(h:PrT m F w H):CT H w.1 ((ac m).map λj=>Yl m (F j)):=by
 refine⟨w.2,h.1,by rw[Za,Zg];exact h.2.1,λi r q=>?_⟩;have J:i<m:=by rw[<-h.2.1];exact (ae.mp q).1
 rw[h.2.2 i r q,Zb,Zc,aj J];rfl
theorem ZgI {m:Nat}{F:Nat->Nat->Nat}{J:It}{own:List Str}{M:T7}{te:TE}{σ:L2.St}{H:Hp}{Q:VK}{xs:TV}(S:WG J H xs)(cs:L2.St)(m5:JX own M σ=none::cs)(hn:xs.length<=1000)(hm:xs.length=m)
  (hs:∀(i:Nat) y,xs[i]?=some y->∀q,Zv H q->∀R:VK,(∀b O,Zv q O->O b=some (.tup ((Yl m (F i)).map nV))->R (.ref b) O)->te (some y::cs) q R)
  (hd:∀D (rs:TW) q,H D=none->Zv H q->q D=some (.lst (rs.map V.ref))->(∀r Y,Y r=some (.tup (rs.map V.ref))->Zv q Y->PrT m F (r,rs) Y)->Q (.ref D) q):Jh own M (Yj 0) WM te σ Q J H:=by
 refine Y8 (W:=Addr) id (λi b H=>H b=some (.tup ((Yl m (F i)).map nV))) (λ_ _=>True) S cs m5 hn (λi w H q s h=>s _ _ h) (λw H q s h=>trivial) (λi w H0 H1 D o ys m6 h h0 h1 h2=>?_) (λi y hy q s R k=>hs i y hy q s R λb O s5 h5=>k b O s5 h5 trivial) (λD ws q nD s hD wl hw hp=>?_)
 ·rw[Zz λz=>by rw[z,h2] at h;cases h]
  exact h
 ·exact hd D ws q nD s hD λr Y hr s2=>⟨hr,by rw[<-hm];exact wl,λj b hb=>s2 _ _ (hw j b hb).1⟩
theorem Zln {m:Nat}{F:Nat->Nat->Nat->Nat}{J:It}{own:List Str}{q:T7}{te:TE}{σ:L2.St}{H:Hp}{Q:VK}{xs:TV}(S:WG J H xs)(cs:L2.St)(m5:JX own q σ=none::cs)(hn:xs.length<=1000)(hm:xs.length=m)
  (hs:∀(i:Nat) y,xs[i]?=some y->∀j,Zv H j->∀R:VK,(∀w M,Zv j M->PrT m (F i) w M->R (.ref w.1) M)->te (some y::cs) j R)
  (hd:∀D (ys:TV) j,H D=none->Zv H j->j D=some (.lst ys)->(∀r Y,Y r=some (.tup ys)->Zv j Y->C3 Y r m F)->Q (.ref D) j):Jh own q (Yj 0) WM te σ Q J H:=by
 refine Y8 (W:=Addr×TW) i5 (λi w H=>PrT m (F i) w H) (λ_ _=>True) S cs m5 hn (λi w H j s h=>h.mono s) (λw H j s h=>trivial) (λi w H0 H1 D o ys m6 h h0 h1 h2=>h.upd h2) (λi y hy j s R k=>hs i y hy j s R λb M s5 h5=>k b M s5 h5 trivial) (λD ws j nD s hD wl hw hp=>?_);refine hd D _ j nD s hD λr Y hr s2=>⟨ws.map i5,by rw[hr,aH];rfl,by rw[Za,<-hm];exact wl,λi c O=>?_⟩;rw[Zc] at O;cases hx:ws[i]? with
 |none=>rw[hx] at O;cases O
 |some w=>
  rw[hx] at O;cases O;exact ((hw i w hx).1.mono s2).ct
def one (q:Nat->Nat)(C:Nat->Nat->Nat->Bool)(i j k x y:Nat):Nat:=Xg (decide (q x=i))*(Xg (decide (q y=j))*Xg (C x y k))
def ZE (n:Nat)(q:Nat->Nat)(C:Nat->Nat->Nat->Bool)(X Y i j k:Nat):Nat:=sm X (λx=>sm n λy=>one q C i j k x y)+sm Y λy=>one q C i j k X y
theorem acc_zero (n:Nat)(q:Nat->Nat)(C:Nat->Nat->Nat->Bool)(i j k:Nat):ZE n q C 0 0 i j k=0:=rfl
theorem Zlx (n:Nat)(q:Nat->Nat)(C:Nat->Nat->Nat->Bool)(X i j k:Nat):ZE n q C X n i j k=ZE n q C (X+1) 0 i j k:=by
 unfold ZE;rw[Y1];rfl
theorem acc_step (n:Nat)(q:Nat->Nat)(C:Nat->Nat->Nat->Bool)(X Y i j k:Nat):ZE n q C X (Y+1) i j k=ZE n q C X Y i j k+one q C i j k X Y:=by
 unfold ZE;rw[Y1];omega
def hdT (t:T9)(k:Nat):Nat:=((ZA t t.length).getD k []).getD 0 0
theorem ZbW {t:T9}(j:PW t){k:Nat}(q:k<(ZA t t.length).length):hdT t k<t.length/\Xd t (hdT t k)=k/\((ZA t t.length).getD k [])[0]?=some (hdT t k):=by
 obtain⟨a,r,e⟩:=ZhI j q;have J:hdT t k=a:=by unfold hdT;rw[e];rfl
 have h:=Zj8 j q (by rw[e];exact ar);rw[J,e];exact⟨h.1,h.2.1,rfl⟩
def Cg (t:T9)(x y k:Nat):Bool:=decide (ZQ t x y=hdT t k)
def cnG (t:T9):Nat->Nat->Nat->Nat:=ZE t.length (Xd t) (Cg t) t.length 0
theorem Zif (q:Nat->Nat)(C:Nat->Nat->Nat->Bool)(i j k x y:Nat):one q C i j k x y=if i=q x/\j=q y/\C x y k=true then 1 else 0:=by
 unfold one;by_cases J:q x=i
 ·rw[decide_eq_true J]
  by_cases M:q y=j
  ·rw[decide_eq_true M]
   cases O:C x y k with
   |true=>rw[if_pos ⟨J.symm,M.symm,rfl⟩];rfl
   |false=>rw[if_neg (λz=>by cases z.2.2)];rfl
  ·rw[decide_eq_false M,if_neg (λz=>M z.2.1.symm)]
   show 1*(0*_)=0;omega
 ·rw[decide_eq_false J,if_neg (λz=>J z.1.symm)]
  show 0*_=0;omega
inductive Ux (vs:TV) (H:Hp) (Q:VK) (E03:XK):Prop
 |mk (g:Addr) (t:T9):(vs=[.ref g])->(GT H g t)->(PW t)->(∀r H',Zv H H'->C3 H' r (ZA t t.length).length (cnG t)->Q (.ref r) H')->Ux vs H Q E03
section
variable {P:Program}{w:World}{K:aa}{mg:TX}{base:Heap}
theorem Zgh {f:Addr}{fd:FuncData}(F:WA K "counts_of" "counts_of" ZeT f fd)(T:Bl mg)(T2:ZgT mg)(GC:Fn P w K mg base Yd 4 "classes_of" ["group"] Jw)(GN:Fn P w K mg base Yd 5 "class_numbers" ["group"] Zbf):Z8 P w K mg base Yd 6 f fd ["group"] Ux:=by
 refine F.ok (FS (N:=["group", "classes", "numbers", "counts", "x", "row", "y", "z", "k"])) (λvs H Q E h=>?_) (λr9 A o7 s H vs Q E hr h=>?_)
 ·obtain⟨g,t,rfl,_⟩:=h;rfl
 ·obtain⟨g,t,rfl,G,O,q⟩:=h
  refine⟨_,Zs (ZH 1 rfl (Wh GC hr ZL (pc (vn 0) Zt)))
   (Zs (ZH 2 rfl (Wh GN hr ZL (pc (vn 0) Zt)))
   (Zs (Zai 3 ["i"] [1] ["i", "classes"] rfl rfl (itT K (vn 1)) (λ_ _ _ _ _=>gn 0) (λ_ _ _ _ _=>ZM)
    (λ_ _ _ _ _=>cmp ["j"] [1] ["j", "classes"] rfl (itT K (vn 1)) (λ_ _ _ _ _=>gn 0) (λ_ _ _ _ _=>ZM)
     (λ_ _ _ _ _=>Zy WJ (ZR (pc Zx Zt)) (cb (Yt K) (by exact T.len) (pc (vn 1) Zt)))))
   (Zs (ZN am rfl (UW K T2.enumerate (pc (vn 0) Zt)) (g2 K 4 5 rfl (gn 4) (gn 5))
    (Zw (ZN am rfl (UW K T2.enumerate (pc (vn 5) Zt)) (g2 K 6 7 rfl (gn 6) (gn 7))
     (Zs (ZH 8 rfl (ZD (JW K) (vn 2) (vn 7) (λ_ _=>rfl)))
     (Zw (WN (ZP XM (ZD (JW K) (ZD (JW K) (vn 1) (vn 8) (λ_ _=>rfl)) Zx (λ_ _=>rfl)) (vn 7) (ZW _))
      (Zw (Uc (ZD (Jb K) (ZD (Jb K) (vn 3) (ZD (JW K) (vn 2) (vn 4) (λ_ _=>rfl)) (λ_ _=>rfl)) (ZD (JW K) (vn 2) (vn 6) (λ_ _=>rfl)) (λ_ _=>rfl)) (vn 8) ZiT Zx Js YS)) YF))))))
   (Zw (ZK (ct ZY T.tuple (pc (cmp ["seconds"] [] ["seconds"] rfl (itL K (vn 3)) (λ_ _ _ _ _=>gn 0) (λ_ _ _ _ _=>ZM)
    (λ_ _ _ _ _=>ct (tupK K) (by exact T.tuple) (pc (cmp ["ends"] [] ["ends"] rfl (itL K (vn 0)) (λ_ _ _ _ _=>gn 0) (λ_ _ _ _ _=>ZM)
     (λ_ _ _ _ _=>ct (tupK K) (by exact T.tuple) (pc (vn 0) Zt))) Zt))) Zt))))))),?_⟩
  have sz:=JE;have t5:=O.n60;have ul:=Wr (t:=t) t.length;have m1:1<=(ZA t t.length).length:=by
   have:=(VF O (show 0<t.length from O.n1)).1;omega
  refine⟨_,rfl,g,t,rfl,G,O,λc H1 s1 C1=>?_⟩;refine⟨_,rfl,g,t,rfl,G.mono s1,O,λr0 H2 s2 m5=>?_⟩;have C2:=C1.mono s2;obtain⟨rs,c1,c2,c3⟩:=C2.row;have cl:(rs.map V.ref).length=(ZA t t.length).length:=by rw[Za,c2]
  replace m5:H2 r0=some (.tup ((Yl t.length (Xd t)).map nV)):=m5;generalize hm:(ZA t t.length).length=m at *;refine⟨_,rfl,c,rfl,⟨_,.of c1⟩,?_⟩;refine ZaU (Wa (K:=K) (.of c1)) [some (.ref c)] rfl (by omega) cl m1 (λi y hy H3 s3 R k=>?_) (λL A B H3 nL N=>?_)
  ·have m6:=s3 _ _ c1
   refine⟨_,rfl,c,rfl,⟨_,.of m6⟩,?_⟩;refine ZaV (Wa (K:=K) (.of m6)) [some (.ref c)] rfl (by omega) cl (λj y' n6 H4 s4 R' k'=>?_) (λw' H4 s4 M o8=>k w' H4 s4 M o8);refine⟨JF,λl0 o9=>?_⟩;have s5:=Zv.upd (H:=H4) (o:=.lst [.int 0]) o9;refine⟨_,rfl,c,_,rfl,.inr (.of (s5 _ _ (s4 _ _ m6))),l0,_,_,rfl,rfl,Zu,by rw[cl];omega,by rw[cl];omega,by rw[cl];show 1*((m:Int)).toNat<=sizeLine;omega,λb nb=>?_⟩;rw[cl,Zj];have e0:(ah m [V.int 0]).flatten=(Yl m λ_=>0).map nV:=by
    unfold Yl;rw[aH];have:∀m k,(ah m [V.int 0]).flatten=(de k m).map λ_=>nV 0:=λm=>by
     induction m with
     |zero=>intro k;rfl
     |succ m ih=>intro k;rw[aK,a6,ih (k+1),dY,aN];rfl
    rw[this m 0,<-dP];rfl
   rw[e0];exact k' b _ (s5.trans (Zv.upd nb)) Zu (s5.free nb)
  have G2:=G.mono (s1.trans s2);obtain⟨gs,u1,u2,u3⟩:=id G2;have el:(gs.map V.ref).length=t.length:=by rw[Za,u2]
  refine⟨_,rfl,g,rfl,.inr ⟨⟨_,.of (N.sm _ _ u1)⟩,?_⟩⟩;refine Jd (Zb3 (K:=K) (xs:=gs.map V.ref)) (λX J H'=>∃v4 v5 v6 v7 v8:TU,J=[some (.ref g),some (.ref c),some (.ref r0),some (.ref L),v4,v5,v6,v7,v8]/\N3 H2 H' L m A B (ZE t.length (Xd t) (Cg t) X 0))
   ⟨_,_,_,_,_,rfl,N.congr λi j k _ _ _=>(acc_zero _ _ _ _ _ _).symm⟩ (λi J H' h=>by
    obtain⟨_,_,_,_,_,_,N'⟩:=h;exact N'.sm.tup (.of u1)) ?_ ?_
  ·rintro X y J H4 T' hy ⟨v4,v5,v6,v7,v8,rfl,N4⟩ nT
   have hX:X<t.length:=by
    have:=(ae.mp hy).1;rw[el] at this;exact this
   have n8:gs[X]?=some (gs[X]'(by omega)):=Zf (by omega);rw[Zc,n8] at hy;cases hy;have row:=u3 X _ n8;generalize gs[X]'(by omega)=r at row;have s5:=Zv.upd (H:=H4) (o:=.tup [.int (X:Nat),.ref r]) nT;refine⟨T',_,rfl,.of Zu,rfl,_,_,rfl,_,_,rfl,rfl,?_⟩;have N5:=N4.mono s5;generalize upd H4 T' (.tup [.int (X:Nat),.ref r])=H5 at s5 N5 ⊢;refine⟨_,rfl,r,rfl,.inr ⟨⟨_,(row.mono N5.sm).sq⟩,?_⟩⟩;refine Jd (Zb3 (K:=K) (xs:=(t.getD X []).map nV)) (λY J H'=>∃v6 v7 v8:TU,J=[some (.ref g),some (.ref c),some (.ref r0),some (.ref L),some (.int (X:Nat)),some (.ref r),v6,v7,v8]/\N3 H2 H' L m A B (ZE t.length (Xd t) (Cg t) X Y))
    ⟨_,_,_,rfl,N5⟩ (λi J H' h=>by
     obtain⟨_,_,_,_,N'⟩:=h;exact (row.mono N'.sm).sq) ?_ ?_
   ·rintro Y y J H6 n9 hy ⟨p3,p4,p6,rfl,N6⟩ p7
    have hY:Y<t.length:=by
     have:=(ae.mp hy).1;rw[Za,JJ O hX] at this;exact this
    rw[Jo O hX hY] at hy;cases hy;have s7:=Zv.upd (H:=H6) (o:=.tup [.int (Y:Nat),.int (ZQ t X Y:Nat)]) p7;refine⟨n9,_,rfl,.of Zu,rfl,_,_,rfl,_,_,rfl,rfl,?_⟩;have N7:=N6.mono s7;generalize upd H6 n9 (.tup [.int (Y:Nat),.int (ZQ t X Y:Nat)])=H7 at s7 N7 ⊢;have hz:ZQ t X Y<t.length:=O.lt _ _ hX hY;obtain⟨kz,t6,p8⟩:=VF O hz;rw[hm] at kz p8;have kX:=(VF O hX).1;have kY:=(VF O hY).1;rw[hm] at kX kY;have m8:=N7.sm _ _ m5;have q0:=N7.sm _ _ c1;obtain⟨h1,h2,h3⟩:=ZbW O (by rw[hm];exact kz);have o0:Xd t (ZQ t X Y)<(rs.map V.ref).length:=by omega
    obtain⟨rk,e1,_,e2⟩:=c3 _ _ (Zf o0);have r6:Vx (rs.map V.ref) (Xd t (ZQ t X Y):Int)=some (.ref rk):=ZI (by rw[Zf o0,e1]);refine⟨_,rfl,_,rfl,r0,_,_,_,rfl,rfl,.of m8,Zbv hz,?_⟩;refine⟨_,rfl,_,rfl,c,_,_,_,rfl,rfl,.of q0,r6,rk,_,_,_,rfl,rfl,.of (N7.sm _ _ e2),ZI (j:=0) (by rw[Zc,h3];rfl),_,rfl,rfl,_,rfl,?_⟩;refine YE (λh=>?_) (λh=>?_)
    ·have he:hdT t (Xd t (ZQ t X Y))=ZQ t X Y:=by
      have h:V.int (hdT t (Xd t (ZQ t X Y)):Nat)=V.int (ZQ t X Y:Nat):=of_decide_eq_true h;injection h with h;omega
     refine⟨_,rfl,_,rfl,_,rfl,r0,_,_,_,rfl,rfl,.of m8,Zbv hX,L,_,_,_,rfl,rfl,.of N7.top,ZcP kX,_,rfl,_,rfl,r0,_,_,_,rfl,rfl,.of m8,Zbv hY,A (Xd t X),_,_,_,rfl,rfl,.of (N7.mid _ kX),ZcP kY,_,rfl,B (Xd t X) (Xd t Y),_,Xd t (ZQ t X Y),_,rfl,rfl,N7.low _ _ kX kY,Ziy kz,_,_,rfl,rfl,B (Xd t X) (Xd t Y),_,_,Xd t (ZQ t X Y),rfl,rfl,N7.low _ _ kX kY,Ja (by rw[Za,UB];exact kz),?_⟩;refine⟨_,_,_,rfl,(N7.put (v:=ZE t.length (Xd t) (Cg t) X Y (Xd t X) (Xd t Y) (Xd t (ZQ t X Y))+1) kX kY kz).congr λi j k hi hj hk=>?_⟩;rw[acc_step,Zif];by_cases e:i=Xd t X/\j=Xd t Y/\k=Xd t (ZQ t X Y)
     ·obtain⟨rfl,rfl,rfl⟩:=e
      rw[if_pos ⟨rfl,rfl,rfl⟩,if_pos ⟨rfl,rfl,decide_eq_true he.symm⟩]
     ·rw[if_neg e,if_neg,eF]
      rintro⟨z1,z2,z3⟩;have z3:ZQ t X Y=hdT t k:=of_decide_eq_true z3;refine e ⟨z1,z2,?_⟩;rw[z3];exact (ZbW O (by rw[hm];exact hk)).2.1.symm
    ·have he:hdT t (Xd t (ZQ t X Y))≠ZQ t X Y:=λz=>h (by rw[z];exact decide_eq_true rfl)
     refine⟨_,_,_,rfl,N7.congr λi j k hi hj hk=>?_⟩;rw[acc_step,Zif,if_neg,eF];rintro⟨z1,z2,z3⟩;have z3:ZQ t X Y=hdT t k:=of_decide_eq_true z3;have:=(ZbW O (by rw[hm];exact hk)).2.1;rw[<-z3] at this;rw[this] at he;exact he z3.symm
   ·rintro J H6 ⟨p3,p4,p6,rfl,N6⟩
    rw[Za,JJ O hX] at N6;exact⟨_,_,_,_,_,rfl,N6.congr λi j k _ _ _=>Zlx _ _ _ _ _ _ _⟩
  ·rintro J H4 ⟨v4,v5,v6,v7,v8,rfl,N4⟩
   rw[el] at N4;have tl:((ac m).map λi=>V.ref (A i)).length=m:=by rw[Za,Zg]
   refine⟨_,rfl,L,rfl,⟨_,.of N4.top⟩,?_⟩;refine Zln (m:=m) (F:=cnG t) (Ys (K:=K) (.of N4.top)) [] rfl (by rw[tl];omega) tl (λi y hy H5 s5 R k=>?_) (λD ys H5 nD s5 hD k=>?_)
   ·obtain⟨hi,rfl⟩:=ZcO hy
    have ml:((ac m).map λj=>V.ref (B i j)).length=m:=by rw[Za,Zg]
    have hA:=s5 _ _ (N4.mid i hi);refine⟨_,rfl,A i,rfl,⟨_,.of hA⟩,?_⟩;refine ZgI (m:=m) (F:=cnG t i) (Ys (K:=K) (.of hA)) [] rfl (by rw[ml];omega) ml (λj y' n6 H6 s6 R' k'=>?_) (λD r8 H6 nD s6 hD k'=>?_)
    ·obtain⟨hj,rfl⟩:=ZcO n6
     refine⟨_,rfl,B i j,_,rfl,.inl ⟨.of ((s5.trans s6) _ _ (N4.low i j hi hj)),λb nb=>?_⟩⟩;exact k' b _ (Zv.upd nb) Zu
    ·refine⟨D,_,rfl,.inl ⟨.of hD,λr nr=>?_⟩⟩
     exact k (r,r8) _ (s6.trans (Zv.upd nr)) (k' r _ Zu (Zv.upd nr))
   ·refine⟨D,_,rfl,.inl ⟨.of hD,λr nr=>?_⟩⟩
    exact q r _ ((((s1.trans s2).trans N4.sm).trans s5).trans (Zv.upd nr)) (k r _ Zu (Zv.upd nr))
end
end C47
namespace C47
open PySem L2 PySem.Spec PyProof.Rows
open Tb Pm
noncomputable abbrev ZhH:Stmt:=top 24
section
variable {t:T9}{p m:Nat}{e ω φ:Nat->Nat->Nat}
theorem ZbF (P:PW t){x:Nat}(j:x<t.length):Xd t x=Yg t x:=by
 obtain⟨q,J,M⟩:=VF P j;exact (Zb9 P j q J).symm
theorem ZnN (P:PW t){i j k:Nat}(M:k<(ZA t t.length).length):cnG t i j k=cnA t (Yg t) i j (ZG t k):=by
 have q:ZG t k<t.length:=(YM P).rl k M;have O:cnG t i j k=cnA t (Xd t) i j (ZG t k):=by
  rw[<-ZgJ P q];show ZE t.length (Xd t) (Cg t) t.length 0 i j k=_;unfold ZE one Cg;rfl
 rw[O];unfold cnA;refine Yy λx J=>?_;rw[ZbF P J,ZbF P (P.lt _ _ (Z4 P J).1 q)]
theorem WO.ext {H:Hp}{a b:Addr}{cs M:TW}{Ss Ts:List (Nat->Bool)}(m1:1<=m)(h:WO H a t p m e cs Ss)(g:WO H b t p m e M Ts):WO (upd H a (.lst (cs.map V.ref++M.map V.ref))) a t p m e (cs++M) (Ss++Ts):=by
 have ne:∀{x:Addr}{v:Nat->Int},H x=some (.lst (ZF m v))->x≠a:=λ{x v} q=>ZbG q h.1 (UD m1).symm;refine⟨by rw[Zu,aO],by rw[Zd,Zd,h.2.1,g.2.1],λj x q=>?_⟩;by_cases hj:j<cs.length
 ·rw[aq hj] at q
  obtain⟨O,Y,J⟩:=h.2.2 j x q;exact⟨O,by rw[aq (by rw[<-h.2.1];exact hj)];exact Y,by rw[Zz (ne J)];exact J⟩
 ·rw[au (by omega)] at q
  obtain⟨O,Y,J⟩:=g.2.2 _ x q;exact⟨O,by rw[au (by rw[<-h.2.1];omega),<-h.2.1];exact Y,by rw[Zz (ne J)];exact J⟩
end
theorem ZeE {t:T9}{p m:Nat}{e j q:Nat->Nat->Nat}(C:CD t p m e j q)(J:PW t):[V.int 1]++(ah (m-1) [V.int 0]).flatten=ZF m (Vc t p m e (XH λ_=>true)):=by
 have m1:=C.m1;have M:ZF m (Vc t p m e (XH λ_=>true))=ZF m (λc=>if c=0 then 1 else 0):=Wt λc O=>ZnZ C J O
 rw[M];obtain⟨k,rfl⟩:∃k,m=k+1:=⟨m-1,by omega⟩;unfold ZF;rw[ko,aN,aH,dz];have:∀k a,(ah k [V.int 0]).flatten=(de a k).map λ_=>V.int 0:=λk=>by
  induction k with
  |zero=>intro a;rfl
  |succ k Y=>intro a;rw[aK,a6,Y (a+1),dY,aN];rfl
 rw[this k 0,<-dP];rfl
structure Zq5 (H:Hp)(L:Addr)(t:T9)(m:Nat)(e:Nat->Nat->Nat)(cs:TW)(ss:T7):Prop where
 at':H L=some (.lst (cs.map V.ref))
 len:cs.length=ss.length
 pm:ss.Perm (ac m)
 it:∀(j:Nat) b,cs[j]?=some b->H b=some (.lst (ZF m λc=>(EC t e (ss.getD j 0) c:Int)))
inductive Zbl (vs:TV) (H:Hp) (Q:VK) (E03:XK):Prop
 |mk (ra:Addr) (t:T9) (p m:Nat) (e ω φ:Nat->Nat->Nat):(vs=[.ref ra,.int p])->(CD t p m e ω φ)->(PW t)->(p<=100000)->(C3 H ra m (cnG t))->(∀L cs ss H',Zv H H'->Zq5 H' L t m e cs ss->Q (.ref L) H')->Zbl vs H Q E03
section
variable {P:Program}{w:World}{K:aa}{mg:TX}{base:Heap}
theorem Ziq {f:Addr}{fd:FuncData}(F:WA K "taken_apart" "taken_apart" ZhH f fd)(T:Bl mg)(GP:Fn P w K mg base Yd 3 "parts_by" ["columns", "one", "p"] Zbe):Z8 P w K mg base Yd 4 f fd ["counts", "p"] Zbl:=by
 refine F.ok (FS (N:=["counts", "p", "found", "seconds", "columns", "finer", "one"])) (λvs H Q E h=>?_) (λt7 A p6 s H vs Q E hr h=>?_)
 ·obtain⟨ra,t,p,m,e,ω,φ,rfl,_⟩:=h;rfl
 ·obtain⟨ra,t,p,m,e,ω,φ,rfl,C,Pt,pl,p7,q⟩:=h
  refine⟨_,Zs (ZH 2 rfl (ZR (pc (Zy VE (ZR (pc Zx Zt)) (Zy WJ (ZR (pc Zx Zt)) (Zy YC (cb (Yt K) T.len (pc (vn 0) Zt)) Zx))) Zt)))
   (Zs (ZN am rfl (itT K (vn 0)) (gnf 3 rfl)
    (Zw (WN (ZP Zfc (cb (Yt K) T.len (pc (vn 2) Zt)) (cb (Yt K) T.len (pc (vn 0) Zt)) (ZW _))
     (Zs (Zai 4 ["k"] [3] ["k", "seconds"] rfl rfl (WI T.range (pc (cb (Yt K) T.len (pc (vn 0) Zt)) Zt)) (λ_ _ _ _ _=>gnf 0 rfl) (λ_ _ _ _ _=>ZM)
      (λ_ _ _ _ _=>cmp ["ends"] [0] ["ends", "k"] rfl (itT K (vn 1)) (λ_ _ _ _ _=>gn 0) (λ_ _ _ _ _=>ZM) (λ_ _ _ _ _=>ZD (JW K) (vn 0) (vn 1) (λ_ _=>rfl))))
     (Zs (ZH 5 rfl (ZR Zt))
     (Zs (ZN am rfl (itL K (vn 2)) (gn 6)
      (Zw (YG (WC aJ kJ PySem.F.type_list_extend Zgp (vn 5) (pc (Wh GP hr ZL (pc (vn 4) (pc (vn 6) (pc (vn 1) Zt)))) Zt)))))
     (Zw (ZH 2 rfl (vn 5)))))) YF)))
   (Zw (ZK (vn 2)))),?_⟩
  have p2:=C.pr.p2;have t8:=Zls C Pt;have m1:=C.m1;have mc:=C.mc;have sz:=JE;obtain⟨rs,c1,c2,c3⟩:=id p7;have cl:(rs.map V.ref).length=m:=by rw[Za,c2]
  refine⟨JF,λa1 p8=>(?_:_)⟩;have s1:=Zv.upd (H:=H) (o:=.lst [.int 1]) p8;have h1:upd H a1 (.lst [.int 1]) a1=some (.lst [.int 1]):=Zu;generalize upd H a1 (.lst [.int 1])=H1 at s1 h1 ⊢;refine⟨JF,λa2 q0=>?_⟩;have s2:=Zv.upd (H:=H1) (o:=.lst [.int 0]) q0;have h2:upd H1 a2 (.lst [.int 0]) a2=some (.lst [.int 0]):=Zu;generalize upd H1 a2 (.lst [.int 0])=H2 at s2 h2 ⊢;have n8:=s1.trans s2;refine⟨_,rfl,ra,_,rfl,.inr (.of (n8 _ _ c1)),_,_,rfl,rfl,a2,_,_,rfl,rfl,h2,by rw[cl];omega,by rw[cl];omega,by rw[cl];show 1*((m:Int)-1).toNat<=sizeLine;omega,λa3 r6=>?_⟩;have et:(((rs.map V.ref).length:Int)-1).toNat=m-1:=by rw[cl];omega
  rw[et];have s3:=Zv.upd (H:=H2) (o:=.lst (ah (m-1) [V.int 0]).flatten) r6;have h3:upd H2 a3 (.lst (ah (m-1) [V.int 0]).flatten) a3=some (.lst (ah (m-1) [V.int 0]).flatten):=Zu;generalize upd H2 a3 (.lst (ah (m-1) [V.int 0]).flatten)=H3 at s3 h3 ⊢;have fl:(ah (m-1) [V.int 0]).flatten.length<=60:=by
   have:=congrArg cN (ZeE C Pt);rw[ZT,Zd] at this;omega
  refine⟨a1,a3,_,_,rfl,rfl,(s2.trans s3) _ _ h1,h3,by show 1+_<=sizeLine;omega,λa4 r8=>?_⟩;rw[ZeE C Pt];have s4:=Zv.upd (H:=H3) (o:=.lst (ZF m (Vc t p m e (XH λ_=>true)))) r8;have h4:upd H3 a4 (.lst (ZF m (Vc t p m e (XH λ_=>true)))) a4=some (.lst (ZF m (Vc t p m e (XH λ_=>true)))):=Zu;generalize upd H3 a4 (.lst (ZF m (Vc t p m e (XH λ_=>true))))=H4 at s4 h4 ⊢;refine⟨JF,λL nL=>?_⟩;have s5:=Zv.upd (H:=H4) (o:=.lst [.ref a4]) nL;have h5:upd H4 L (.lst [.ref a4]) L=some (.lst [.ref a4]):=Zu;generalize upd H4 L (.lst [.ref a4])=H5 at s5 h5 ⊢;have n9:Zv H H5:=((n8.trans s3).trans s4).trans s5;have P5:WO H5 L t p m e [a4] [λ_=>true]:=⟨h5,rfl,λj b hb=>by
   cases j with
   |zero=>cases hb;exact⟨_,rfl,s5 _ _ h4⟩
   |succ j=>cases hb⟩
  refine⟨_,rfl,ra,rfl,⟨_,.of (n9 _ _ c1)⟩,?_⟩;have wj:∀s s',s<m->s'<m->(∀j,j<m->gW t ω j s=gW t ω j s')->s=s':=λs s' hs o0 h=>C.sep s s' hs o0 λu hu=>by
   have hc:=(YM Pt).lt u hu;rw[C.wat Pt hs hu,C.wat Pt o0 hu];exact h (Yg t u) (by omega)
  refine WQ (H0:=H) (Wa (K:=K) (.of c1)) (λi J H'=>∃(l:Addr) (cs:TW) (M:List (Nat->Bool)) (v3 v4 v5 v6:TU),J=[some (.ref ra),some (.int (p:Nat)),some (.ref l),v3,v4,v5,v6]/\Zv H H'/\WO H' l t p m e cs M/\XJ m (λs j=>gW t ω j s) i M)
   ⟨L,_,_,_,_,_,_,rfl,n9,P5,XJ.zero m1 _⟩ (λi J H' h=>by
    obtain⟨_,_,_,_,_,_,_,_,sm,_⟩:=h;exact sm) ?_ ?_
  ·rintro i y J H6 hy ⟨l,cs,M,v3,v4,v5,v6,rfl,s6,O,A6⟩
   have hi:i<m:=by
    have:=(ae.mp hy).1;rw[cl] at this;exact this
   rw[Zc,Zf (show i<rs.length by omega)] at hy;cases hy;obtain⟨es,e1,e2,e3⟩:=c3 i _ (Zf (show i<rs.length by omega));generalize rs[i]'(by omega)=sa at e1 ⊢;rw[Za,Zg] at e2;have el:(es.map V.ref).length=m:=by rw[Za,e2]
   have m6:(cs.map V.ref).length=M.length:=by rw[Za,O.2.1]
   refine⟨_,rfl,l,_,rfl,.inl (.of O.1),_,rfl,ra,_,rfl,.inr (.of (s6 _ _ c1)),_,_,rfl,rfl,_,rfl,?_⟩;rw[m6,cl];refine YE (λo7=>?_) (λo7=>?_)
   ·refine⟨_,rfl,ra,_,rfl,.inr (.of (s6 _ _ c1)),_,rfl,by rw[cl];omega,by rw[cl];omega,?_⟩
    rw[cl,Zj];refine Pm.Y8 (W:=Addr) id (λk a H=>H a=some (.lst (ZF m (V6 t i k)))) (λa H=>H a=none) (Wi 0 m) [some (.ref sa)] rfl (by rw[Za,Z7];omega) (λk a H H' sm h=>sm _ _ h) (λa H H' sm h=>sm.free h) (λk a t9 u5 D o ys u9 h1 h2 h3 h4=>by rw[Zz (λz=>by rw[z,h3] at h2;cases h2)];exact h1) (λk y hy H7 s7 R k7=>?_) (λD ws H7 nD s7 hD wl hw _=>?_)
    ·obtain⟨hk,rfl⟩:=Vm hy
     have Y:=s6.trans s7;refine⟨_,rfl,sa,rfl,⟨_,.of (Y _ _ e1)⟩,?_⟩;refine Pm.YI (Wa (K:=K) (.of (Y _ _ e1))) [some (.int (k:Nat))] rfl (λj=>V.int (V6 t i k j)) (by rw[el];omega) (λj z hz H8 s8 R' k8=>?_) (λD8 H8 r9 s8 o8=>?_)
     ·have hj:j<m:=by
       have:=(ae.mp hz).1;rw[el] at this;exact this
      rw[Zc,Zf (show j<es.length by omega)] at hz;cases hz;have hE:=e3 j _ (Zf (show j<es.length by omega));generalize es[j]'(by omega)=ea at hE ⊢;have row:((ac m).map λj=>Yl m (cnG t i j)).getD j []=Yl m (cnG t i j):=by rw[Zb,Zc,aj hj];rfl
      rw[row] at hE;have t5:Vx ((Yl m (cnG t i j)).map nV) (k:Int)=some (V.int (V6 t i k j)):=by
       refine ZI ?_;unfold Yl;rw[Zc,Zc,aj hk];show some (V.int ((cnG t i j k:Nat):Int))=some (V.int (V6 t i k j));unfold V6;rw[ZnN Pt (by omega)]
      exact⟨_,rfl,_,rfl,ea,_,_,_,rfl,rfl,.of ((Y.trans s8) _ _ hE),t5,k8 H8 (Zv.refl _)⟩
     ·rw[el] at o8
      exact k7 D8 H8 s8 o8 r9
    ·have hL:LLs H7 D m (V6 t i):=⟨ws,hD,by rw[wl,Za,Z7],λc b hb=>(hw c b hb).1⟩
     have Y:=s6.trans s7;have P7:=O.mono s7;refine⟨JF,λFn o9=>?_⟩;have s8:=Zv.upd (H:=H7) (o:=.lst []) o9;have h8:upd H7 Fn (.lst []) Fn=some (.lst ([]:TV)):=Zu;generalize upd H7 Fn (.lst [])=H8 at s8 h8 ⊢;have P8:=P7.mono s8;refine⟨_,rfl,l,rfl,⟨_,.of P8.1⟩,?_⟩;refine WQ (H0:=H7) (Ys (K:=K) (.of P7.1)) (λj J H'=>∃(ds:TW) (Fs:List (Nat->Bool)) (v6:TU),J=[some (.ref ra),some (.int (p:Nat)),some (.ref l),some (.ref sa),some (.ref D),some (.ref Fn),v6]/\Zv H7 H'/\WO H' Fn t p m e ds Fs/\FiS m (gW t ω i) (M.take j) Fs)
      ⟨[],[],_,rfl,s8,⟨h8,rfl,λj b hb=>by simp at hb⟩,by rw[e9];exact .nil⟩ (λj J H' h=>by
       obtain⟨_,_,_,_,sm,_⟩:=h;exact sm) ?_ ?_
     ·rintro j y J H9 hy ⟨ds,Fs,v6,rfl,s9,P9,F9⟩
      have hj:j<M.length:=by
       have:=(ae.mp hy).1;rw[m6] at this;exact this
      rw[Zc,Zf (show j<cs.length by rw[O.2.1];exact hj)] at hy;cases hy;obtain⟨S,hS,hb⟩:=P7.2.2 j _ (Zf (show j<cs.length by rw[O.2.1];exact hj));generalize cs[j]'(by rw[O.2.1];exact hj)=b at hb ⊢;refine⟨_,rfl,.inl ⟨rfl,_,.of P9.1⟩,_,rfl,_,rfl,_,rfl,D,b,t,p,m,e,ω,φ,S,i,rfl,C,Pt,hi,pl,hL.mono s9,s9 _ _ hb,λB bs Ts w8 nB p3 pS pA=>?_⟩;have m8:=P9.mono p3;have m5:FiS m (gW t ω i) (M.take (j+1)) (Fs++Ts):=by
       rw[cM,hS];exact .snoc F9 pS
      have w9:Fs.length+Ts.length<=m:=by
       have hd:=m5.dj (cT (i6 _ _) A6.dj);have:=L2.YD ((Fs++Ts).map (pkS m)) (ac m) (ZaF (λT' n6=>(m5.out.1 T' n6).1) hd) (λx hx=>by
        obtain⟨T',n6,rfl⟩:=aE.mp hx;exact af.mpr (XL (m5.out.1 T' n6).1).1)
       rwa [Za,Zd,Zg] at this
      refine⟨Fn,B,_,_,rfl,rfl,m8.1,pA.1,by rw[Za,Za,m8.2.1,pA.2.1];omega,?_⟩;refine⟨ds++bs,Fs++Ts,_,rfl,(s9.trans p3).updr o9,?_,m5⟩;exact m8.ext m1 pA
     ·rintro J H9 ⟨ds,Fs,v6,rfl,s9,P9,F9⟩
      rw[m6,cU] at F9;exact⟨_,rfl,Fn,ds,Fs,_,_,_,_,rfl,Y.trans s9,P9,A6.step F9⟩
   ·have t6:m<=M.length:=by
     apply ai;intro z;exact o7 (decide_eq_true (by omega))
    exact⟨l,cs,M,_,_,_,_,rfl,s6,O,A6.skip t6⟩
  ·rintro J H6 ⟨l,cs,M,v3,v4,v5,v6,rfl,s6,O,A6⟩
   rw[cl] at A6;obtain⟨hp,p4⟩:=A6.end wj;refine⟨_,rfl,q l cs (M.map (pkS m)) H6 s6 ⟨O.1,by rw[Za];exact O.2.1,hp,λj b hb=>?_⟩⟩;obtain⟨S,h1,h2⟩:=O.2.2 j b hb;rw[h2];congr 2;have hS:S∈M:=aB h1;have e6:(M.map (pkS m)).getD j 0=pkS m S:=by rw[Zb,Zc,h1];rfl
   have pk:=(XL (A6.ne S hS)).1;refine Wt λc hc=>?_;rw[e6,<-ZpE C Pt pk hc];refine Xn (λs hs=>?_) c;unfold XH;rw[p4 S hS s hs];by_cases z:s=pkS m S
   ·rw[if_pos z,if_pos (decide_eq_true z)]
   ·rw[if_neg z,if_neg (by rw[decide_eq_false z];decide)]
end
noncomputable abbrev Zhv:Stmt:=top 23
def wkF (t:T9)(a k:Nat):Int:=(Yg t (it t a k):Nat)
structure ZpD (H:Hp)(L:Addr)(t:T9)(n:Nat)(cs:TW):Prop where
 at':H L=some (.lst (cs.map V.ref))
 len:cs.length=n
 it:∀(c:Nat) b,cs[c]?=some b->H b=some (.lst (ZF (rdT t (ZG t c)) (wkF t (ZG t c))))
inductive Za8 (vs:TV) (H:Hp) (Q:VK) (E03:XK):Prop
 |mk (g:Addr) (t:T9):(vs=[.ref g])->(GT H g t)->(PW t)->(∀L cs H',Zv H H'->ZpD H' L t (ZA t t.length).length cs->Q (.ref L) H')->Za8 vs H Q E03
def but (H:Hp)(W:Addr):Hp:=λb=>if b=W then none else H b
theorem VR {H:Hp}{W b:Addr}{o:HO}(h:H b=some o)(hb:b≠W):but H W b=some o:=by unfold but;rw[if_neg hb];exact h
theorem ZbE {H:Hp}{W b:Addr}{o:HO}(h:but H W b=some o):b≠W/\H b=some o:=by
 unfold but at h;by_cases z:b=W
 ·rw[if_pos z] at h;cases h
 ·rw[if_neg z] at h;exact⟨z,h⟩
theorem Zco {cs:TW}{m:Nat}{v:Nat->Int}(j:1<=m):ZF m v≠cs.map V.ref:=(UD j).symm
section
variable {P:Program}{w:World}{K:aa}{mg:TX}{base:Heap}
theorem Zig {f:Addr}{fd:FuncData}(F:WA K "power_walks" "power_walks" Zhv f fd)(GN:Fn P w K mg base Yd 5 "class_numbers" ["group"] Zbf)(GC:Fn P w K mg base Yd 4 "classes_of" ["group"] Jw):Z8 P w K mg base Yd 6 f fd ["group"] Za8:=by
 refine F.ok (FS (N:=["group", "numbers", "walks", "members", "walk", "a"])) (λvs H Q E h=>?_) (λw8 A p8 s H vs Q E hr h=>?_)
 ·obtain⟨g,t,rfl,_⟩:=h;rfl
 ·obtain⟨g,t,rfl,G,M,q⟩:=h
  refine⟨_,Zs (ZH 1 rfl (Wh GN hr ZL (pc (vn 0) Zt)))
   (Zs (ZH 2 rfl (ZR Zt))
   (Zs (ZN am rfl (itT K (Wh GC hr ZL (pc (vn 0) Zt))) (gn 3)
    (Zs (ZH 4 rfl (ZR (pc Zx Zt)))
    (Zs (ZH 5 rfl (ZD (JW K) (vn 3) Zx (λ_ _=>rfl)))
    (Zs (Yp am (ZP Jy (vn 5) Zx (ZW _))
     (Zs (YG (WC aJ aQ aR Ye (vn 4) (pc (ZD (JW K) (vn 1) (vn 5) (λ_ _=>rfl)) Zt)))
     (Zw (ZH 5 rfl (ZD (JW K) (ZD (JW K) (vn 0) (vn 5) (λ_ _=>rfl)) (ZD (JW K) (vn 3) Zx (λ_ _=>rfl)) (λ_ _=>rfl))))))
    (Zw (YG (WC aJ aQ aR Ye (vn 2) (pc (vn 4) Zt))))))))
   (Zw (ZK (vn 2))))),?_⟩
  have sz:=JE;have w9:=M.n60;have ul:=Wr (t:=t) t.length;have U:=YM M;refine⟨_,rfl,g,t,rfl,G,M,λr0 H1 s1 n6=>?_⟩;replace n6:H1 r0=some (.tup ((Yl t.length (Xd t)).map nV)):=n6;refine⟨JF,λW nW=>?_⟩;have s2:=Zv.upd (H:=H1) (o:=.lst []) nW;have h2:upd H1 W (.lst []) W=some (.lst ([]:TV)):=Zu;generalize upd H1 W (.lst [])=H2 at s2 h2 ⊢;have o7:=s1.trans s2;refine⟨_,rfl,g,t,rfl,G.mono o7,M,λc H3 s3 q0=>?_⟩;have o8:=o7.trans s3;have r6:H W=none:=s1.free nW;obtain⟨rs,c1,c2,c3⟩:=q0.row;have cl:(rs.map V.ref).length=(ZA t t.length).length:=by rw[Za,c2]
  have h3:=s3 _ _ h2;have n8:=(s2.trans s3) _ _ n6;generalize hm:(ZA t t.length).length=m at *;refine⟨c,rfl,⟨_,.of c1⟩,?_⟩;refine WQ (H0:=but H3 W) (Wa (K:=K) (.of (VR c1 (λz=>by rw[z,h3] at c1;cases c1)))) (λi J H'=>∃(cs:TW) (v3 v4 v5:TU),J=[some (.ref g),some (.ref r0),some (.ref W),v3,v4,v5]/\Zv (but H3 W) H'/\ZpD H' W t i cs)
   ⟨[],_,_,_,rfl,λb o hb=>(ZbE hb).2,h3,rfl,λc b hb=>by simp at hb⟩ (λi J H' h=>by
    obtain⟨_,_,_,_,_,sm,_⟩:=h;exact sm) ?_ ?_
  ·rintro i y J O hy ⟨cs,v3,v4,v5,rfl,s4,W4⟩
   obtain⟨r,rfl,hi,Y⟩:=c3 i y hy;have k4:∀{b:Addr}{o:HO},H3 b=some o->b≠W->O b=some o:=λ{b o} hb z=>s4 b o (VR hb z);have hR:=U.rl i (by omega);obtain⟨m5,r8,o9⟩:=ZbW M (k:=i) (by omega);have r9:hdT t i=ZG t i:=rfl;rw[r9] at m5 r8 o9;generalize ha:ZG t i=a at *;obtain⟨rd,R⟩:=M.rd a m5;have t5:=VD R;have r1:=R.r1;have rn:=R.rn;have p3:=k4 Y (λz=>by rw[z,h3] at Y;cases Y);have t6:=k4 n8 (λz=>by rw[z,h3] at n8;cases n8);have G3:=G.mono o8;have G4:GT O g t:=by
    obtain⟨gs,g1,g2,g3⟩:=G3;refine⟨gs,k4 g1 (λz=>by rw[z,h3] at g1;cases g1),g2,λj b hb=>?_⟩;obtain⟨o,ho,t7⟩:=g3 j b hb;exact⟨o,k4 ho (λz=>by rw[z,h3] at ho;cases ho),t7⟩
   refine⟨JF,λwk n9=>?_⟩;have s5:=Zv.upd (H:=O) (o:=.lst [.int 0]) n9;have h5:upd O wk (.lst [.int 0]) wk=some (.lst (ZF 1 (wkF t a))):=by
    rw[Zu];show some (HO.lst [V.int 0])=some (HO.lst [V.int ((Yg t (it t a 0):Nat):Int)]);rw[show it t a 0=0 from rfl,U4 M];rfl
   generalize upd O wk (.lst [.int 0])=H5 at s5 h5 ⊢;have m6:Vx (((ZA t t.length).getD i []).map nV) 0=some (V.int (a:Nat)):=by
    refine ZI (j:=0) ?_;rw[Zc,o9];rfl
   have t8:=s5 _ _ p3;refine⟨_,rfl,r,_,_,_,rfl,rfl,.of t8,m6,?_⟩;have u9:∀{b:Addr}{o:HO},O b=some o->b≠wk:=λ{b o} hb z=>by rw[z,n9] at hb;cases hb
   refine Yh (λx J H'=>∃k:Nat,J=[some (.ref g),some (.ref r0),some (.ref W),some (.ref r),some (.ref wk),some (.int ((it t a k:Nat):Int))]/\Zv O H'/\H' wk=some (.lst (ZF k (wkF t a)))/\1<=k/\k<=rd/\x=rd-k)
    (λJ H'=>∃v5:TU,J=[some (.ref g),some (.ref r0),some (.ref W),some (.ref r),some (.ref wk),v5]/\Zv O H'/\H' wk=some (.lst (ZF rd (wkF t a)))) ?hend ⟨rd-1,1,by rw[Zej M m5];rfl,s5,h5,Zq _,r1,rfl⟩ ?turn
   case hend=>
    rintro J H6 ⟨x9,rfl,s6,h6⟩;have o0:=s6 _ _ W4.at';have p4:∀{b:Addr}{v:Nat->Int}{n:Nat},1<=n->H6 b=some (.lst (ZF n v))->b≠W:=λ{b v n} hn hb=>ZbG hb o0 (Zco hn);refine⟨_,rfl,.inl ⟨rfl,_,.of o0⟩,_,rfl,W,_,_,rfl,rfl,o0,by rw[Za,W4.len];omega,?_⟩;refine⟨cs++[wk],_,_,_,rfl,λb o hb=>?_,⟨by rw[Zu,aO];rfl,by rw[Zd,W4.len];rfl,λc' b hb=>?_⟩⟩
    ·rw[Zz (ZbE hb).1]
     exact (s4.trans s6) b o hb
    ·by_cases t9:c'<cs.length
     ·rw[aq t9] at hb
      have p6:=s6 _ _ (W4.it c' b hb);obtain⟨y4,R'⟩:=M.rd (ZG t c') (U.rl c' (by have:=W4.len;omega));rw[Zz (p4 (by rw[VD R'];exact R'.r1) p6)];exact p6
     ·have hl:=(ae.mp hb).1
      rw[Zd,Zk] at hl;have ec:c'=cs.length:=by omega
      rw[au (by omega),ec,cn] at hb;cases hb;rw[ec,W4.len,ha,t5,Zz (p4 r1 h6)];exact h6
   case turn=>
    rintro m8 x J H6 ⟨k,rfl,s6,h6,k1,kr,rfl⟩;have il:=Jc M m5 k;refine⟨_,rfl,rfl,_,rfl,?_⟩;refine YE (λq1=>?_) (λq1=>?_)
    ·have q1:=ZqG q1
     have kn:k≠rd:=λz=>by rw[z,R.z] at q1;exact q1 rfl
     have u5:=s6 _ _ t6;have p7:Vx ((Yl t.length (Xd t)).map nV) ((it t a k:Nat):Int)=some (V.int (wkF t a k)):=by
      refine ZI ?_;unfold Yl;rw[Zc,Zc,aj il];show some (V.int ((Xd t (it t a k):Nat):Int))=_;rw[ZbF M il];rfl
     refine⟨_,λ_ _ z=>z,_,rfl,.inl ⟨rfl,_,.of h6⟩,_,rfl,_,rfl,r0,_,_,_,rfl,rfl,.of u5,p7,wk,_,_,rfl,rfl,h6,by rw[ZT];omega,?_⟩;rw[<-Zcn];have s7:Zv O (upd H6 wk (.lst (ZF (k+1) (wkF t a)))):=s6.updr n9;have h7:upd H6 wk (.lst (ZF (k+1) (wkF t a))) wk=some (.lst (ZF (k+1) (wkF t a))):=Zu;generalize upd H6 wk (.lst (ZF (k+1) (wkF t a)))=H7 at s7 h7 ⊢;obtain⟨gr,ga,u1,_,u2,u3,u4⟩:=(G4.mono s7).at M il;refine⟨_,rfl,_,rfl,g,_,_,_,rfl,rfl,.of u1,u2,_,rfl,r,_,_,_,rfl,rfl,.of (s7 _ _ p3),m6,ga,_,_,_,rfl,rfl,u3.sq,u4 a m5,?_⟩;exact⟨rd-(k+1),by omega,k+1,rfl,s7,h7,by omega,by omega,rfl⟩
    ·have q1:=ZqH q1
     have:k=rd:=by
      apply ai;intro z;exact R.nz k k1 (by omega) (by omega)
     rw[this] at h6;exact m8 _ _ ⟨_,rfl,s6,h6⟩
  ·rintro J O ⟨cs,v3,v4,v5,rfl,s4,W4⟩
   rw[cl] at W4;exact⟨_,rfl,q W cs O (λb o hb=>s4 b o (VR (o8 _ _ hb) (λz=>by rw[z,r6] at hb;cases hb))) W4⟩
end
end C47
namespace N47
open PySem L2 PySem.Spec PyProof.Rows
def top (i:Nat):Stmt:=PySem.Challenge.pw_classtab_k47_whole_upright.main.body.getD i (.Pass ⟨0,0,0,0⟩)
structure Bl (mg:TX):Prop where
 list:mg "list"=none
 len:mg "len"=none
 abs:mg "abs"=none
 range:mg "range"=none
 tuple:mg "tuple"=none
 isi:mg "isinstance"=none
 all:mg "all"=none
 set:mg "set"=none
 repr:mg "repr"=none
 any:mg "any"=none
 int:mg "int"=none
 bool:mg "bool"=none
section
variable {P:Program}{w:World}{K:aa}{mg:TX}{base:Heap}
end
section
variable {P:Program}{w:World}{K:aa}{mg:TX}{base:Heap}
end
noncomputable abbrev ZeR:Stmt:=top 13
def strip:Nat->Int->Int->Int
 |0,r,_=>r
 |g+1,r,p=>if r % p=0 then strip g (r / p) p else r
def pr:Nat->Int->Int->TZ->TZ
 |0,_,_,ZE=>ZE
 |f+1,r,p,ZE=>if 1<r then pr f (strip 6 r p) (p+1) (if r % p=0 then ZE++[p] else ZE) else ZE
def Zes:Nat->Int->Int->Bool
 |0,r,_=>decide (r<=1)
 |f+1,r,p=>if 1<r then Zes f (strip 6 r p) (p+1) else true
def Yv (n:Int):TZ:=pr 100 n 2 []
def ZbA (n:Int):Int:=(Yv n).foldl (λf p=>f / p*(p-1)) n
def Zpd:Nat->Int->Int->Int
 |0,a,_=>a
 |f+1,a,b=>if 0<b then Zpd f b (a % b) else a
def ZqO (a b:Int):Int:=Zpd 100 a b
def Zl5 (n:Int):Int:=(((Y3 1 n.toNat).filter λk=>decide (ZqO k n=1)).length:Nat)
def okN (n:Nat):Bool:=Zes 100 n 2 && (Yv n).all (λp=>decide (2<=p) && decide (p<=60)) && decide (ZbA n=Zl5 n) && decide (1<=ZbA n) && decide (ZbA n<=60)
theorem ZkR:((ac 61).all λn=>n == 0 || okN n)=true:=by decide +kernel
theorem Zir {n:Nat}(q:1<=n)(J:n<=60):Zes 100 n 2=true/\(∀p∈Yv n,2<=p/\p<=60)/\ZbA n=Zl5 n/\1<=ZbA n/\ZbA n<=60:=by
 have h:=az.mp ZkR n (af.mpr (by omega));have j:(n == 0)=false:=by simp;omega
 rw[j,fF] at h;unfold okN at h;simp only[ag,decide_eq_true_eq,az] at h;exact⟨h.1.1.1.1,h.1.1.1.2,h.1.1.2,h.1.2,h.2⟩
theorem UZ {r p:Int}(J:1<=r)(j:2<=p)(h:r % p=0):1<=r / p/\2*(r / p)<=r:=by
 have e:p*(r / p)=r:=Int.mul_ediv_cancel' (Int.dvd_of_emod_eq_zero h);generalize r / p=q at e;have M:1<=q:=by
  apply ai;intro O;have:p*q<=p*0:=Int.mul_le_mul_of_nonneg_left (by omega) (by omega);omega
 have:2*q<=p*q:=c9 j (by omega);omega
theorem Vg:∀(g:Nat) {r p:Int},1<=r->2<=p->1<=strip g r p/\strip g r p<=r
 |0,r,p,j,_=>⟨j,Int.le_refl _⟩
 |g+1,r,p,j,q=>by
  unfold strip;by_cases h:r % p=0
  ·rw[if_pos h]
   obtain⟨a,b⟩:=UZ j q h;have:=Vg g (r:=r / p) (p:=p) a q;omega
  ·rw[if_neg h];omega
theorem Uo {g:Nat}{r p:Int}(h:¬r % p=0):strip g r p=r:=by
 cases g with
 |zero=>rfl
 |succ g=>unfold strip;rw[if_neg h]
inductive Ut (vs:TV) (H:Hp) (Q:VK) (E03:XK):Prop
 |mk (n:Nat):(vs=[.int n])->(1<=n)->(n<=60)->(∀l H',Zv H H'->H' l=some (.lst ((Yv n).map V.int))->Q (.ref l) H')->Ut vs H Q E03
section
variable {P:Program}{w:World}{K:aa}{mg:TX}{base:Heap}
theorem Zgf {f:Addr}{fd:FuncData}(F:WA K "primes_of" "primes_of" ZeR f fd)(T:Bl mg):Z8 P w K mg base Yd 1 f fd ["n"] Ut:=by
 refine F.ok (FS (N:=["n", "primes", "rest", "p"])) (λvs H Q E h=>?_) (λp4 A o0 s H vs Q E hr h=>?_)
 ·obtain⟨n,rfl,_⟩:=h;rfl
 ·obtain⟨n,rfl,n1,n60,q⟩:=h
  obtain⟨n8,p6,_⟩:=Zir n1 n60;refine⟨_,Zs (ZH 1 rfl (ZR Zt)) (Zs (ZH 2 rfl (vn 0)) (Zs (ZH 3 rfl Zx)
   (Zs (Yp am (ZP Zid (vn 2) Zx (ZW _))
    (Zs (WN (ZP XM (Zy ZV (vn 2) (vn 3)) Zx (ZW _)) (Zw (YG (WC aJ aQ aR Ye (vn 1) (pc (vn 3) Zt)))) YF)
    (Zs (Yp am (ZP XM (Zy ZV (vn 2) (vn 3)) Zx (ZW _)) (Zw (ZH 2 rfl (Zy Wn (vn 2) (vn 3)))))
    (Zw (Xb (i:=3) (Ya (by kernel_rfl)) rfl (YY (by kernel_rfl)) Zx Js (.inl rfl))))))
   (Zw (ZK (vn 1)))))),?_⟩
  refine⟨by decide,λl hl=>⟨_,rfl,?_⟩⟩;have s1:Zv H (upd H l (.lst [])):=Zv.upd hl;refine Yh (λf O H'=>∃(r p:Int) (ZE:TZ),O=[some (.int n),some (.ref l),some (.int r),some (.int p)]/\H'=upd H l (.lst (ZE.map V.int))/\1<=r/\r<=60/\2<=p/\p+f=102/\ZE.length+f<=100/\Zes f r p=true/\pr f r p ZE=Yv n)
   (λO H'=>∃r p:TU,O=[some (.int n),some (.ref l),r,p]/\H'=upd H l (.lst ((Yv n).map V.int))) ?hend ⟨100,n,2,[],rfl,rfl,by omega,by omega,by omega,by omega,by decide,n8,rfl⟩ ?turn
  case hend=>
   rintro O H' ⟨r,p,rfl,rfl⟩;exact⟨_,rfl,q l _ (Zv.upd hl) Zu⟩
  case turn=>
   rintro m8 f O H' ⟨r,p,ZE,rfl,rfl,r1,o7,p2,pf,al,he,hp⟩;refine⟨_,rfl,_,_,rfl,rfl,_,rfl,?_⟩;refine YE (λh1=>?_) (λh1=>?_)
   rotate_left
   ·have h1:¬ 1<r:=λz=>h1 (decide_eq_true z)
    refine m8 _ _ ⟨_,_,rfl,?_⟩;have:pr f r p ZE=ZE:=by cases f with|zero=>rfl|succ f=>unfold pr;rw[if_neg h1]
    rw[<-hp,this]
   have h1:1<r:=of_decide_eq_true h1;obtain⟨g,rfl⟩:∃g,f=g+1:=by
    cases f with
    |zero=>unfold Zes at he;have:=of_decide_eq_true he;omega
    |succ g=>exact⟨g,rfl⟩
   refine⟨_,λ_ _ z=>z,?_⟩;unfold Zes at he;unfold pr at hp;rw[if_pos h1] at he hp;have sz:=JE;refine⟨_,rfl,_,rfl,_,_,rfl,rfl,(by show (0:Int)<p;omega),rfl,_,rfl,?_⟩;obtain⟨j,n6,n9,hA⟩:∃j:TZ,j=(if r % p=0 then ZE++[p] else ZE)/\pr g (strip 6 r p) (p+1) j=Yv n/\j.length<=ZE.length+1:=⟨_,rfl,hp,by split <;> simp⟩
   obtain⟨o8,p7⟩:=Vg 6 (r:=r) (p:=p) r1 p2;refine YE (λh2=>?_) (λh2=>?_)
   ·have h2:r % p=0:=V.int.inj (of_decide_eq_true h2)
    refine⟨_,rfl,.inl ⟨rfl,_,.of Zu⟩,_,rfl,l,_,_,rfl,rfl,Zu,by rw[Za];omega,?_⟩;have e1:upd (upd H l (.lst (ZE.map V.int))) l (.lst (ZE.map V.int++[.int p]))=upd H l (.lst (j.map V.int)):=by
     rw[ZjR,n6,if_pos h2,aO];rfl
    rw[e1];refine Yh (λm J M=>∃(Y:Int) (g':Nat),J=[some (.int n),some (.ref l),some (.int Y),some (.int p)]/\M=upd H l (.lst (j.map V.int))/\1<=Y/\Y<=60/\Y<2 ^ g'/\strip g' Y p=strip 6 r p/\m=Y.toNat)
     (λJ M=>J=[some (.int n),some (.ref l),some (.int (strip 6 r p)),some (.int p)]/\M=upd H l (.lst (j.map V.int))) ?hend2 ⟨_,r,6,rfl,rfl,r1,o7,by omega,rfl,rfl⟩ ?turn2
    case hend2=>
     rintro J M ⟨rfl,rfl⟩;exact⟨_,rfl,_,_,rfl,rfl,g,by omega,strip 6 r p,p+1,j,rfl,rfl,o8,by omega,by omega,by omega,by omega,he,n9⟩
    case turn2=>
     rintro m5 m J M ⟨Y,g',rfl,rfl,a1,a2,a3,a4,rfl⟩;refine⟨_,rfl,_,rfl,_,_,rfl,rfl,(by show (0:Int)<p;omega),rfl,_,rfl,?_⟩;refine YE (λh3=>?_) (λh3=>?_)
     ·have h3:Y % p=0:=V.int.inj (of_decide_eq_true h3)
      obtain⟨b1,b2⟩:=UZ a1 p2 h3;obtain⟨g2,rfl⟩:∃g2,g'=g2+1:=by
       cases g' with
       |zero=>simp at a3;omega
       |succ g2=>exact⟨g2,rfl⟩
      unfold strip at a4;rw[if_pos h3] at a4;refine⟨_,λ_ _ z=>z,_,rfl,_,rfl,_,_,rfl,rfl,⟨by omega,by omega⟩,(Y / p).toNat,by omega,Y / p,g2,rfl,rfl,b1,by omega,?_,a4,rfl⟩;rw[Int.pow_succ] at a3;omega
     ·have h3:¬Y % p=0:=λz=>h3 (decide_eq_true (congrArg V.int z))
      rw[Uo h3] at a4;exact m5 _ _ ⟨by rw[a4],rfl⟩
   ·have h2:¬r % p=0:=λz=>h2 (decide_eq_true (congrArg V.int z))
    have e1:upd H l (.lst (ZE.map V.int))=upd H l (.lst (j.map V.int)):=by rw[n6,if_neg h2]
    rw[e1];have e2:strip 6 r p=r:=Uo h2;refine Yh (λm J M=>J=[some (.int n),some (.ref l),some (.int r),some (.int p)]/\M=upd H l (.lst (j.map V.int)))
     (λJ M=>J=[some (.int n),some (.ref l),some (.int r),some (.int p)]/\M=upd H l (.lst (j.map V.int))) ?hend3 ⟨0,rfl,rfl⟩ ?turn3
    case hend3=>
     rintro J M ⟨rfl,rfl⟩;exact⟨_,rfl,_,_,rfl,rfl,g,by omega,r,p+1,j,rfl,rfl,r1,by omega,by omega,by omega,by omega,e2▸he,e2▸n9⟩
    case turn3=>
     rintro m6 m J M ⟨rfl,rfl⟩;refine⟨_,rfl,_,rfl,_,_,rfl,rfl,(by show (0:Int)<p;omega),rfl,_,rfl,?_⟩;exact ZqL (λz=>h2 (V.int.inj (of_decide_eq_true z))) (m6 _ _ ⟨rfl,rfl⟩)
end
section
variable {P:Program}{w:World}{K:aa}{mg:TX}{base:Heap}
theorem ZhP (m:Nat):(ah m [V.int 0]).flatten=(ah m (0:Int)).map V.int:=by
 induction m with
 |zero=>rfl
 |succ m j=>rw[aK,a6,j,aK];rfl
end
section
variable {P:Program}{w:World}{K:aa}{mg:TX}{base:Heap}
end
end N47
namespace L2
open PySem PySem.Spec PyProof.Rows
end L2
namespace N47
open PySem L2 PySem.Spec PyProof.Rows
section
variable {P:Program}{w:World}{K:aa}{mg:TX}{base:Heap}
end
end N47
set_option maxHeartbeats 1000000
namespace Num
def co (a:TZ)(i:Nat):Int:=a.getD i 0
theorem YO (i:Nat):co [] i=0:=by simp[co]
theorem YB (x:Int)(r:TZ):co (x::r) 0=x:=by simp[co]
theorem Y2 (x:Int)(r:TZ)(i:Nat):co (x::r) (i+1)=co r i:=by simp[co]
theorem WE {a:TZ}{i:Nat}(h:a.length<=i):co a i=0:=by
 unfold co;rw[Zb,ak h];rfl
theorem Wd {a:TZ}{i:Nat}(h:i<a.length):a[i]?=some (co a i):=by
 unfold co;rw[Zb,Zf h];rfl
def XS:TZ->TZ->TZ
 | [],b=>b
 |a,[]=>a
 |x::a,y::b=>(x+y)::XS a b
def vsc (c:Int)(a:TZ):TZ:=a.map (c * ·)
theorem Wz:∀(a b:TZ) (i:Nat),co (XS a b) i=co a i+co b i
 | [],b,i=>by rw[XS,YO,cq]
 |x::a,[],i=>by rw[XS,YO,a9];intro z;cases z
 |x::a,y::b,0=>by rw[XS,YB,YB,YB]
 |x::a,y::b,i+1=>by rw[XS,Y2,Y2,Y2,Wz a b i]
theorem Xl (c:Int):∀(a:TZ) (i:Nat),co (vsc c a) i=c*co a i
 | [],i=>by unfold vsc;rw[fU,YO,bx]
 |x::a,0=>by unfold vsc;rw[aN,YB,YB]
 |x::a,i+1=>by
  have:=Xl c a i;unfold vsc at this ⊢;rw[aN,Y2,Y2,this]
def WD:TZ->T8->TZ
 |_,[]=>[]
 |a,r::j=>XS (vsc (co a 0) r) (WD a.tail j)
theorem Zlp (a:TZ)(i:Nat):co a.tail i=co a (i+1):=by
 cases a with
 |nil=>rw[List.tail_nil,YO,YO]
 |cons x r=>rw[cW,Y2]
theorem ZX (a:TZ)(r:TZ)(q:T8)(j:Nat):co (WD a (r::q)) j=co a 0*co r j+co (WD a.tail q) j:=by
 rw[WD,Wz,Xl]
def ro (R:T8)(i:Nat):TZ:=R.getD i []
theorem Zbt (r:TZ)(j:T8):ro (r::j) 0=r:=by simp[ro]
theorem Zbu (r:TZ)(j:T8)(i:Nat):ro (r::j) (i+1)=ro j i:=by simp[ro]
theorem ZmL (i:Nat):ro [] i=[]:=by simp[ro]
theorem ZbT (j:Nat)(v:Int):∀(a:TZ) (i:Nat) (R:T8),i<a.length->co (WD (a.set i v) R) j=co (WD a R) j+(v-co a i)*co (ro R i) j
 |a,i,[],h=>by rw[ZmL,YO,bx,a9];unfold WD;rfl
 | [],i,r::q,h=>by cases h
 |x::a,0,r::q,h=>by
  rw[List.set_cons_zero,ZX,ZX,YB,YB,Zbt,cW,cW,iC];omega
 |x::a,i+1,r::q,h=>by
  rw[List.set_cons_succ,ZX,ZX,YB,YB,Y2,Zbu,cW,cW,ZbT j v a i q (fo h)];omega
theorem Xy:∀(R:T8) (j:Nat),co (WD [] R) j=0
 | [],j=>by unfold WD;exact YO j
 |r::q,j=>by rw[ZX,YO,List.tail_nil,Xy q j,bg,a9]
theorem ZaJ:∀(m:Nat) (R:T8) (j:Nat),co (WD (ah m 0) R) j=0
 |0,R,j=>Xy R j
 |m+1,[],j=>by unfold WD;exact YO j
 |m+1,r::q,j=>by rw[ZX,aK,YB,cW,ZaJ m q j,bg,a9]
def sig (n:Nat)(R:T8)(j:Nat):TZ->Nat->Int
 | [],_=>0
 |x::q,k=>x*co (ro R (k % n)) j+sig n R j q (k+1)
def Xh (n:Nat):TZ->Nat->TZ->TZ
 | [],_,ZE=>ZE
 |x::j,k,ZE=>Xh n j (k+1) (ZE.set (k % n) (co ZE (k % n)+x))
def Wg (n:Nat)(j:TZ):TZ:=Xh n j 0 (ah n 0)
theorem Zda (n:Nat)(q:0<n)(R:T8)(j:Nat):∀(J:TZ) (k:Nat) (ZE:TZ),ZE.length=n->co (WD (Xh n J k ZE) R) j=co (WD ZE R) j+sig n R j J k
 | [],k,ZE,h=>by rw[Xh,sig,a9]
 |x::M,k,ZE,h=>by
  rw[Xh,Zda n q R j M (k+1) _ (by rw[ba,h]),ZbT j _ ZE (k % n) R (by rw[h];exact bc _ q),sig];have e:co ZE (k % n)+x-co ZE (k % n)=x:=by omega
  rw[e];omega
theorem ZaK (n:Nat)(J:0<n)(R:T8)(q:TZ)(j:Nat):co (WD (Wg n q) R) j=sig n R j q 0:=by
 unfold Wg;rw[Zda n J R j q 0 _ (bZ ..),ZaJ,cq]
def lk (n:Nat)(s:Nat)(g:Nat->Int):Nat->Int:=λk=>g k-g ((k+(n-s)) % n)
def Va (n:Nat)(j:T7)(g:Nat->Int):Nat->Int:=j.foldl (λg s=>lk n s g) g
theorem ZbS (n:Nat):∀(j:T7) (g h:Nat->Int) (k:Nat),Va n j (λt=>g t+h t) k=Va n j g k+Va n j h k
 | [],g,h,k=>rfl
 |s::j,g,h,k=>by
  show Va n j (lk n s λt=>g t+h t) k=Va n j (lk n s g) k+Va n j (lk n s h) k;rw[<-ZbS n j (lk n s g) (lk n s h) k];congr 1;funext t;unfold lk;show g t+h t-(g ((t+(n-s)) % n)+h ((t+(n-s)) % n))=_;omega
theorem ZbR (n:Nat)(c:Int):∀(j:T7) (g:Nat->Int) (k:Nat),Va n j (λt=>c*g t) k=c*Va n j g k
 | [],g,k=>rfl
 |s::j,g,k=>by
  show Va n j (lk n s λt=>c*g t) k=c*Va n j (lk n s g) k;rw[<-ZbR n c j (lk n s g) k];congr 1;funext t;unfold lk;rw[iD]
theorem UP (n:Nat):∀(j:T7) (k:Nat),Va n j (λ_=>0) k=0
 | [],k=>rfl
 |s::j,k=>by
  show Va n j (lk n s λ_=>0) k=0;have:(lk n s λ_=>(0:Int))=λ_=>0:=by funext t;unfold lk;rfl
  rw[this];exact UP n j k
theorem Zfn (n:Nat)(j:T7)(k:Nat):∀(U:T8) (f:TZ),(∀r∈U,Va n j (co r) k=0)->Va n j (co (WD f U)) k=0
 | [],f,h=>by
  have:co (WD f [])=λ_=>0:=by funext t;unfold WD;exact YO t
  rw[this];exact UP n j k
 |r::J,f,h=>by
  have e:co (WD f (r::J))=λt=>co f 0*co r t+co (WD f.tail J) t:=by funext t;exact ZX f r J t
  rw[e,ZbS n j (λt=>co f 0*co r t) (co (WD f.tail J)) k,ZbR,h r ar,Zfn n j k J f.tail λq M=>h q (ao _ M),bx,a9]
theorem Wf (n:Nat)(J:0<n):∀(j:T7) (g h:Nat->Int),(∀t,t<n->g t=h t)->∀k,k<n->Va n j g k=Va n j h k
 | [],g,h,e,k,q=>e k q
 |s::j,g,h,e,k,q=>by
  refine Wf n J j (lk n s g) (lk n s h) (λt M=>?_) k q;unfold lk;rw[e t M,e _ (bc _ J)]
def lkL (n s:Nat)(a:TZ):TZ:=List.zipWith (· - ·) a (a.drop s++a.take s)
theorem Zfo {n s:Nat}{a:TZ}(h:a.length=n):(lkL n s a).length=n:=by
 unfold lkL;rw[List.length_zipWith,Zd,bJ,bI];omega
theorem ZnL {n s k:Nat}{a:TZ}(h:a.length=n)(hs:s<=n)(J:k<n):co (lkL n s a) k=co a k-co a ((k+s) % n):=by
 have hl:(a.drop s++a.take s).length=n:=by
  rw[Zd,bJ,bI];omega
 have M:(lkL n s a)[k]?=some (a[k]'(by omega)-(a.drop s++a.take s)[k]'(by omega)):=by
  unfold lkL;rw[List.getElem?_zipWith,Zf (by omega),Zf (by omega)]
 have g2:=Wd (a:=lkL n s a) (i:=k) (by rw[Zfo h];exact J);rw[M] at g2;have O:co a k=a[k]'(by omega):=by
  have:=Wd (a:=a) (i:=k) (by omega);rw[Zf (by omega)] at this;exact (aA this).symm
 have Y:co a ((k+s) % n)=(a.drop s++a.take s)[k]'(by omega):=by
  have j:(k+s) % n<a.length:=by rw[h];exact bc _ (by omega)
  have:=Wd (a:=a) j;rw[Zf j] at this;rw[<-aA this];by_cases hc:k<n-s
  ·have q:(k+s) % n=k+s:=aT (by omega)
   rw[List.getElem_append_left (by rw[bJ];omega),List.getElem_drop];congr 1;omega
  ·have q:(k+s) % n=k+s-n:=by
    rw[mE (by omega),aT (by omega)]
   rw[List.getElem_append_right (by rw[bJ];omega),List.getElem_take];congr 1;rw[bJ];omega
 rw[O,Y];exact (aA g2).symm
def Znu (n:Nat)(j:T7)(a:TZ):TZ:=j.foldl (λa s=>lkL n (n-s) a) a
theorem ZfJ {n:Nat}:∀(j:T7) (a:TZ),a.length=n->∀k,k<n->co (Znu n j a) k=Va n j (co a) k
 | [],a,h,k,q=>rfl
 |s::j,a,h,k,q=>by
  show co (Znu n j (lkL n (n-s) a)) k=Va n j (lk n s (co a)) k;rw[ZfJ j _ (Zfo h) k q];exact Wf n (by omega) j _ _ (λt J=>ZnL h (Nat.sub_le _ _) J) k q
def ZJ:Nat->(Nat->Int)->Int
 |0,_=>0
 |n+1,f=>f 0+ZJ n λt=>f (t+1)
theorem ZC:∀(n:Nat) (f g:Nat->Int),(∀t,t<n->f t=g t)->ZJ n f=ZJ n g
 |0,f,g,h=>rfl
 |n+1,f,g,h=>by rw[ZJ,ZJ,h 0 (kP _),ZC n _ _ λt j=>h (t+1) (gX j)]
theorem Y0:∀(n:Nat) (f:Nat->Int),(∀t,t<n->f t=0)->ZJ n f=0
 |0,f,h=>rfl
 |n+1,f,h=>by rw[ZJ,h 0 (kP _),Y0 n _ λt j=>h (t+1) (gX j),a9]
theorem J0:∀(n j:Nat) (f:Nat->Int),j<n->(∀t,t<n->t≠j->f t=0)->ZJ n f=f j
 |0,j,f,q,h=>absurd q (dC _)
 |n+1,0,f,q,h=>by rw[ZJ,Y0 n _ λt J=>h (t+1) (gX J) (jw _),a9]
 |n+1,j+1,f,q,h=>by
  rw[ZJ,h 0 (kP _) (jw _).symm,cq];exact J0 n j (λt=>f (t+1)) (fo q) λt J M=>h (t+1) (gX J) λz=>M (cv z)
theorem Um:∀(n:Nat) (f g:Nat->Int),ZJ n (λt=>f t-g t)=ZJ n f-ZJ n g
 |0,f,g=>rfl
 |n+1,f,g=>by
  rw[ZJ,ZJ,ZJ,Um n (λt=>f (t+1)) λt=>g (t+1)];omega
theorem Xx (j:Nat):∀(R:T8) (a:TZ),co (WD a R) j=ZJ R.length λt=>co a t*co (ro R t) j
 | [],a=>by rw[WD,YO];rfl
 |r::q,a=>by
  rw[ZX,Xx j q a.tail,Zi,ZJ,Zbt];congr 1;refine ZC _ _ _ λt J=>?_;rw[Zlp,Zbu]
def YR (n k:Nat):TZ:=(ac n).map λt=>if t=k then 1 else 0
theorem Jm {n k t:Nat}(h:t<n):co (YR n k) t=if t=k then 1 else 0:=by
 unfold YR co;rw[Zb,Zc,aj h];rfl
def stN (step:Nat):TZ->Nat->TZ->TZ
 | [],_,ZE=>ZE
 |x::j,k,ZE=>stN step j (k+1) (ZE.set (k*step) x)
def stM (j:TZ)(step:Nat):TZ:=stN step j 0 (ah ((j.length-1)*step+1) 0)
theorem ZeJ (step:Nat):∀(j:TZ) (k:Nat) (ZE:TZ),(stN step j k ZE).length=ZE.length
 | [],k,ZE=>rfl
 |x::q,k,ZE=>by rw[stN,ZeJ step q,ba]
theorem ZeK (j:TZ)(step:Nat):(stM j step).length=(j.length-1)*step+1:=by unfold stM;rw[ZeJ,Ze]
def qIn:TZ->Nat->Int->TZ->TZ
 | [],_,_,rest=>rest
 |d::j,b,c,rest=>qIn j (b+1) c (rest.set b (co rest b-c*d))
theorem Ze6:∀(j:TZ) (b:Nat) (c:Int) (rest:TZ),(qIn j b c rest).length=rest.length
 | [],b,c,rest=>rfl
 |d::j,b,c,rest=>by rw[qIn,Ze6 j,ba]
def Zh1 (j:TZ)(top:Nat):Nat->TZ->TZ->TZ
 |0,found,_=>found
 |k+1,found,rest=>Zh1 j top k (found.set k (co rest (k+top))) (qIn j k (co rest (k+top)) rest)
def Ze5 (q j:TZ):TZ:=Zh1 j (j.length-1) (q.length-(j.length-1)) (ah (q.length-(j.length-1)) 0) q
theorem Zb6 {a:TZ}{i k:Nat}{v:Int}:co (a.set i v) k=if i=k/\i<a.length then v else co a k:=by
 unfold co;rw[Zb,i7,Zb];by_cases h:i=k
 ·subst h
  by_cases j:i<a.length
  ·rw[if_pos rfl,if_pos j,if_pos ⟨rfl,j⟩];rfl
  ·rw[if_pos rfl,if_neg j,if_neg λz=>j z.2,ak (by omega)]
 ·rw[if_neg h,if_neg λz=>h z.1]
theorem Zd8 (c:Int):∀(j:TZ) (b:Nat) (rest:TZ) (i:Nat),b+j.length<=rest.length->co (qIn j b c rest) i=if b<=i/\i<b+j.length then co rest i-c*co j (i-b) else co rest i
 | [],b,rest,i,h=>by rw[qIn,if_neg (by rw[eV];omega)]
 |d::j,b,rest,i,h=>by
  rw[Zi] at h ⊢;rw[qIn,Zd8 c j (b+1) _ i (by rw[ba];omega),Zb6];by_cases q:i=b
  ·subst q
   rw[if_neg (by omega),if_pos ⟨rfl,by omega⟩,if_pos ⟨Zq _,by omega⟩,cn,YB]
  ·rw[if_neg (show ¬(b=i/\b<rest.length) from λz=>q z.1.symm)]
   by_cases J:b+1<=i/\i<b+1+j.length
   ·rw[if_pos J,if_pos ⟨by omega,by omega⟩,show i-b=(i-(b+1))+1 by omega,Y2]
   ·rw[if_neg J,if_neg (by omega)]
theorem ZiD (d:Int)(q:TZ)(R:T8)(b j:Nat):co (WD (d::q) (R.drop b)) j=d*co (ro R b) j+co (WD q (R.drop (b+1))) j:=by
 by_cases h:b<R.length
 ·rw[bR h,ZX,YB,cW]
  congr 2;unfold ro;rw[Zb,Zf h];rfl
 ·rw[fe (by omega),fe (by omega)]
  unfold ro;rw[Zb,ak (by omega)];show co (WD (d::q) []) j=d*co [] j+co (WD q []) j;rw[WD,WD,YO,bx,a9]
theorem Zfp (c:Int)(R:T8)(j:Nat):∀(q:TZ) (b:Nat) (rest:TZ),b+q.length<=rest.length->co (WD (qIn q b c rest) R) j=co (WD rest R) j-c*co (WD q (R.drop b)) j
 | [],b,rest,h=>by rw[qIn,Xy,bx,lc]
 |d::q,b,rest,h=>by
  rw[Zi] at h;rw[qIn,Zfp c R j q (b+1) _ (by rw[ba];omega),ZbT j _ rest b R (by omega),ZiD,lU];have e:(co rest b-c*d-co rest b)*co (ro R b) j=- (c*(d*co (ro R b) j)):=by
   rw[show co rest b-c*d-co rest b=-(c*d) by omega,gH,bB]
  rw[e];omega
def XZ (s:TZ×Int)(p:Int):TZ×Int:=(Ze5 (stM s.1 p.toNat) s.1,s.2*p)
def Jr (n:Nat)(j:TZ):TZ:=stM (j.foldl XZ ([-1,1],1)).1 ((n:Int) / (j.foldl XZ ([-1,1],1)).2).toNat
def small (a:TZ):Bool:=a.all λx=>decide (x.natAbs<=100)
def Zk0 (s:TZ×Int):Bool:=small s.1 && decide (2<=s.1.length) && decide (s.1.length<=61) && decide (1<=s.2) && decide (s.2<=60)
def Vr (s:TZ×Int):TZ->Bool
 | []=>Zk0 s
 |p::j=>Zk0 s && decide (2<=p) && decide (p<=60) && Vr (XZ s p) j
def W6 (j:TZ)(top:Nat)(r:TZ):TZ:=XS (0::r.take (top-1)) (vsc (- co r (top-1)) (j.take top))
def Z5 (j:TZ)(top:Nat):Nat->TZ->T8
 |0,_=>[]
 |m+1,r=>r::Z5 j top m (W6 j top r)
def RT (n:Nat)(j:TZ):T8:=Z5 (Jr n j) ((Jr n j).length-1) n (YR ((Jr n j).length-1) 0)
def Zlv (a:TZ):Bool:=a.all λx=>x == 0
def Ju (n:Nat)(j:TZ):T7:=j.map λp=>n / p.toNat
def Zg3 (n:Nat)(R:T8)(k:Nat):TZ:=XS (ah n 0) (XS (ro R k) (vsc (-1) (YR n k)))
def Ve (n:Nat)(R:T8)(j s:Nat):Nat->TZ
 |0=>[]
 |m+1=>XS (Ve n R j s m) (ro R ((j+m*s) % n))
theorem Zb8 {a:TZ}(h:Zlv a=true)(i:Nat):co a i=0:=by
 by_cases j:i<a.length
 ·have:=Wd j
  have q:=az.mp h _ (aB this);simpa using q
 ·exact WE (by omega)
theorem U3 {a:TZ}(h:small a=true)(i:Nat):(co a i).natAbs<=100:=by
 by_cases j:i<a.length
 ·have:=Wd j
  have q:=az.mp h _ (aB this);simpa using q
 ·rw[WE (by omega)];decide
structure Good (n:Nat)(ps least:TZ)(top:Nat)(R:T8):Prop where
 n1:1<=n
 ls:Vr ([-1,1],1) ps=true
 l2:least.length=top+1
 t1:1<=top
 tn:top<=n
 sm:small least=true
 mon:co least top=1
 len:R.length=n
 rsm:∀i j,(co (ro R i) j).natAbs<=100
 rlen:∀i,i<n->(ro R i).length=top
 un:∀k,k<top->ro R k=YR top k
 tails:∀m,m<n-top->∀j,co (WD least (R.drop m)) j=0
 look:∀k,k<n->∀t,t<n->Va n (Ju n ps) (λt=>co (ro R k) t-if t=k then 1 else 0) t=0
 row:∀p∈ps,∀a,a<n->∀j,co (Ve n R a (n / p.toNat) p.toNat) j=0
 nz:∀k,k<n->∃j,j<top/\co (ro R k) j≠0
 div:∀p∈ps,p.toNat*(n / p.toNat)=n
theorem ZoL {R:T8}{i:Nat}(h:R.length<=i):ro R i=[]:=by
 unfold ro;rw[Zb,ak h];rfl
def Zpf {β:Type}(x:Int)(k:Int->β):β:=match x with
 | .ofNat m=>(match m with
  |0=>k (.ofNat 0)
  |m+1=>k (.ofNat (m+1)))
 | .negSucc m=>(match m with
  |0=>k (.negSucc 0)
  |m+1=>k (.negSucc (m+1)))
theorem Zll {β:Type}(x:Int)(k:Int->β):Zpf x k=k x:=by
 cases x with
 |ofNat m=>cases m <;> rfl
 |negSucc m=>cases m <;> rfl
def fL {β:Type}:TZ->(TZ->β)->β
 | [],k=>k []
 |x::j,k=>Zpf x λy=>fL j λq=>k (y::q)
theorem Zdh {β:Type}:∀(a:TZ) (k:TZ->β),fL a k=k a
 | [],k=>rfl
 |x::j,k=>by rw[fL,Zll,Zdh j]
def nx (j:TZ)(top:Nat):Nat->TZ->TZ
 |0,r=>r
 |m+1,r=>nx j top m (W6 j top r)
def nxB (j:TZ)(top:Nat):Nat->TZ->(TZ->Bool)->Bool
 |0,r,k=>k r
 |m+1,r,k=>fL (W6 j top r) λq=>nxB j top m q k
theorem Zit (j:TZ)(top:Nat):∀(m:Nat) (r:TZ) (k:TZ->Bool),nxB j top m r k=k (nx j top m r)
 |0,r,k=>rfl
 |m+1,r,k=>by rw[nxB,Zdh,Zit j top m,nx]
def ZeV (j:TZ)(top:Nat):Nat->Nat->TZ->Bool
 |0,_,r=>decide (r=YR top 0)
 |m+1,k,r=>small r && decide (r.length=top) && (decide (top<=k) || decide (r=YR top k)) && fL (W6 j top r) (ZeV j top m (k+1))
def ZjZ (q:TZ)(top s:Nat):Nat->TZ->TZ->Bool
 |0,_,ZE=>Zlv ZE
 |j+1,r,ZE=>fL (XS ZE r) λJ=>nxB q top s r λM=>ZjZ q top s j M J
def Zpy (n:Nat)(q:TZ)(j:TZ)(top:Nat):Bool:=
 decide (2<=j.length) && decide (top+1<=n\/(n=1/\top=1)) && small j && decide (co j top=1) && ZeV j top n 0 (YR top 0) && Zlv (WD j (Z5 j top (top+1) (YR top 0))) &&
  (decide (n=1) || Zlv (Znu n (Ju n q) (j++ah (n-(top+1)) 0))) && q.all (λp=>decide (p.toNat*(n / p.toNat)=n) && ZjZ j top (n / p.toNat) p.toNat (YR top 0) [])
def chk (n:Nat)(q:TZ):Bool:=Vr ([-1,1],1) q && fL (Jr n q) λj=>Zpy n q j (j.length-1)
theorem Uz (j:TZ)(top:Nat):∀(m:Nat) (r:TZ),(Z5 j top m r).length=m
 |0,r=>rfl
 |m+1,r=>by rw[Z5,Zi,Uz j top m]
theorem JL (j:TZ)(top:Nat):∀(m:Nat) (r:TZ),nx j top (m+1) r=W6 j top (nx j top m r)
 |0,r=>rfl
 |m+1,r=>by rw[nx,JL j top m (W6 j top r),nx]
theorem Zis (j:TZ)(top a:Nat):∀(b:Nat) (r:TZ),nx j top (a+b) r=nx j top b (nx j top a r)
 |0,r=>rfl
 |b+1,r=>by rw[Nat.add_succ,JL,JL,Zis j top a b r]
theorem ZeX (j:TZ)(top:Nat):∀(m:Nat) (r:TZ) (k:Nat),k<m->ro (Z5 j top m r) k=nx j top k r
 |0,r,k,h=>absurd h (dC _)
 |m+1,r,0,h=>by rw[Z5,Zbt,nx]
 |m+1,r,k+1,h=>by rw[Z5,Zbu,ZeX j top m _ k (fo h),nx]
theorem ZcK (j:TZ)(top:Nat):∀(m k:Nat) (r:TZ),ZeV j top m k r=true->
  nx j top m r=YR top 0/\∀i,i<m->small (nx j top i r)=true/\(nx j top i r).length=top/\(k+i<top->nx j top i r=YR top (k+i))
 |0,k,r,h=>⟨of_decide_eq_true h,λi J=>absurd J (dC _)⟩
 |m+1,k,r,h=>by
  rw[ZeV,Zdh] at h;simp only[ag,decide_eq_true_eq,aY] at h;obtain⟨⟨⟨M,O⟩,q⟩,Y⟩:=h;obtain⟨g1,g2⟩:=ZcK j top m (k+1) _ Y;refine⟨by rw[nx];exact g1,λi J=>?_⟩;cases i with
  |zero=>
   refine⟨M,O,λz=>?_⟩;rcases q with q|q
   ·omega
   ·exact q
  |succ i=>
   obtain⟨q1,q2,q3⟩:=g2 i (fo J);rw[nx];exact⟨q1,q2,λz=>by rw[q3 (by omega)];congr 1;omega⟩
theorem XD (j:TZ)(top:Nat)(r:TZ)(i:Nat):co (W6 j top r) i=(if i=0\/top<=i then 0 else co r (i-1))-co r (top-1)*co (j.take top) i:=by
 have e:co (0::r.take (top-1)) i=if i=0\/top<=i then 0 else co r (i-1):=by
  cases i with
  |zero=>rw[YB,if_pos (.inl rfl)]
  |succ i=>
   rw[Y2,dz];by_cases h:i<top-1
   ·rw[if_neg (by omega)]
    unfold co;rw[Zb,Zb,f7,if_pos h]
   ·rw[if_pos (by omega)]
    exact WE (by rw[bI];omega)
 unfold W6;rw[Wz,Xl,e,gH];omega
theorem VG (j:TZ)(top:Nat){r:TZ}(h:∀i,co r i=0)(i:Nat):co (W6 j top r) i=0:=by
 rw[XD,h,h,bg];split <;> rfl
theorem Zc1 (j:TZ)(top:Nat)(i:Nat):∀(Q:T8) (a:TZ),co (W6 j top (WD a Q)) i=co (WD a (Q.map (W6 j top))) i
 | [],a=>by
  rw[fU];refine (VG j top (λt=>?_) i).trans ?_
  ·rw[WD];exact YO t
  ·rw[WD];exact (YO i).symm
 |q::J,a=>by
  rw[aN,ZX,<-Zc1 j top i J a.tail,XD,XD,XD,ZX,ZX];by_cases h:i=0\/top<=i
  ·rw[if_pos h,if_pos h,if_pos h,iE,iD,bB]
   omega
  ·rw[if_neg h,if_neg h,if_neg h,iE,iD,bB]
   omega
theorem ZcJ (j:TZ)(top:Nat):∀(m:Nat) (r:TZ),(Z5 j top m r).map (W6 j top)=Z5 j top m (W6 j top r)
 |0,r=>rfl
 |m+1,r=>by rw[Z5,aN,ZcJ j top m,Z5]
theorem Zc9 (q:TZ)(top j:Nat):∀(a:TZ) (m:Nat) (r:TZ),a.length<=m->co (WD a (Z5 q top m r)) j=co (WD a (Z5 q top a.length r)) j
 | [],m,r,h=>by rw[Xy,Xy]
 |x::a,0,r,h=>absurd h (Nat.not_succ_le_zero _)
 |x::a,m+1,r,h=>by
  rw[Zi,Z5,Z5,ZX,ZX,cW,Zc9 q top j a m _ (Nat.le_of_succ_le_succ h)]
theorem ZaR (j:TZ)(top:Nat):∀(b m:Nat) (r:TZ),(Z5 j top m r).drop b=Z5 j top (m-b) (nx j top b r)
 |0,m,r=>by rw[List.drop_zero,ck,nx]
 |b+1,0,r=>by rw[Nat.zero_sub,Z5,Z5,List.drop_nil]
 |b+1,m+1,r=>by rw[Z5,List.drop_succ_cons,ZaR j top b m,nx,Nat.add_sub_add_right]
theorem Zct (q:TZ)(top:Nat){r:TZ}(h:∀j,co (WD q (Z5 q top q.length r)) j=0):∀(m j:Nat),co (WD q (Z5 q top q.length (nx q top m r))) j=0
 |0,j=>h j
 |m+1,j=>by
  rw[JL,<-ZcJ,<-Zc1];exact VG q top (λi=>Zct q top h m i) j
theorem ZeI (q:TZ)(top s:Nat):∀(j:Nat) (r ZE:TZ),ZjZ q top s j r ZE=true->∀i,co ZE i+ZJ j (λt=>co (nx q top (t*s) r) i)=0
 |0,r,ZE,h,i=>by rw[ZJ,a9];exact Zb8 h i
 |j+1,r,ZE,h,i=>by
  rw[ZjZ,Zdh,Zit] at h;have:=ZeI q top s j _ _ h i;rw[Wz] at this;rw[ZJ,fk,nx];have e:(ZJ j λt=>co (nx q top ((t+1)*s) r) i)=ZJ j λt=>co (nx q top (t*s) (nx q top s r)) i:=by
   refine ZC _ _ _ λt _=>?_;rw[<-Zis,ci,kS]
  rw[e];omega
theorem X5 (n:Nat)(R:T8)(a s i:Nat):∀m:Nat,co (Ve n R a s m) i=ZJ m λt=>co (ro R ((a+t*s) % n)) i
 |0=>by rw[Ve,YO];rfl
 |m+1=>by
  have j:∀(m:Nat) (f:Nat->Int),ZJ (m+1) f=ZJ m f+f m:=by
   intro m;induction m with
   |zero=>intro f;rw[ZJ,ZJ,ZJ];omega
   |succ m q=>
    intro f;rw[ZJ,q,ZJ];omega
  rw[Ve,Wz,X5 n R a s i m,j]
theorem Znv (n s:Nat)(j:0<n)(g:Nat->Int)(t:Nat):lk n s (λt=>g ((t+(n-1)) % n)) t=lk n s g ((t+(n-1)) % n):=by
 unfold lk;have e:((t+(n-s)) % n+(n-1)) % n=((t+(n-1)) % n+(n-s)) % n:=by
  rw[dD,dD];congr 1;omega
 show g ((t+(n-1)) % n)-g (((t+(n-s)) % n+(n-1)) % n)=_;rw[e]
theorem Zfm (n:Nat)(q:0<n):∀(j:T7) (g:Nat->Int) (t:Nat),Va n j (λt=>g ((t+(n-1)) % n)) t=Va n j g ((t+(n-1)) % n)
 | [],g,t=>rfl
 |s::j,g,t=>by
  show Va n j (lk n s λt=>g ((t+(n-1)) % n)) t=Va n j (lk n s g) ((t+(n-1)) % n);rw[<-Zfm n q j (lk n s g) t];congr 1;funext u;exact Znv n s q g u
theorem Zlg {n:Nat}{Y:TZ}(n1:1<=n)(h:chk n Y=true):Good n Y (Jr n Y) ((Jr n Y).length-1) (RT n Y):=by
 unfold chk at h;rw[ag,Zdh] at h;obtain⟨a1,h⟩:=h;unfold RT;generalize Jr n Y=q at h ⊢;generalize M:q.length-1=top at h ⊢;unfold Zpy at h;simp only[ag,aY,decide_eq_true_eq,az] at h;obtain⟨⟨⟨⟨⟨⟨⟨h1,h2⟩,h3⟩,h4⟩,h5⟩,h6⟩,h7⟩,h8⟩:=h;have ll:q.length=top+1:=by omega
 obtain⟨m5,rr⟩:=ZcK q top n 0 _ h5;have J:∀k,k<n->ro (Z5 q top n (YR top 0)) k=nx q top k (YR top 0):=λk O=>ZeX q top n _ k O;have tl:∀m j,co (WD q (Z5 q top q.length (nx q top m (YR top 0)))) j=0:=λm j=>Zct q top (λj=>by rw[ll];exact Zb8 h6 j) m j;have t1:1<=top:=by omega
 have tn:top<=n:=by omega
 have u0:∀i,co (YR top 0) i=if i=0 then 1 else 0:=λi=>by
  by_cases hi:i<top
  ·exact Jm hi
  ·rw[WE (by unfold YR;rw[Za,Zg];omega),if_neg (by omega)]
 have n8:∀k,nx q top ((k+1) % n) (YR top 0)=W6 q top (nx q top (k % n) (YR top 0)):=λk=>by
  rw[<-JL];have O:=bc k (show n > 0 by omega);by_cases hc:k % n+1<n
  ·rw[<-dD,aT hc]
  ·have e:k % n+1=n:=by omega
   rw[<-dD,e,ie,m5,nx]
 refine⟨n1,a1,ll,t1,tn,h3,h4,Uz ..,λi j=>?_,λi hi=>by rw[J i hi];exact (rr i hi).2.1,λk O=>?_,λm hm j=>?_,?_,λp hp a ha j=>?_,λk O=>?_,λp hp=>(h8 p hp).1⟩
 ·by_cases hi:i<n
  ·rw[J i hi]
   exact U3 (rr i hi).1 j
  ·rw[ZoL (by rw[Uz];omega),YO];decide
 ·rw[J k (by omega)]
  have:=(rr k (by omega)).2.2 (by omega);rw[this,fX]
 ·rw[ZaR,Zc9 q top j q _ _ (by omega)]
  exact tl m j
 ·
  have base:∀t,t<n->top+1<=n->Va n (Ju n Y) (co q) t=0:=λt M h2=>by
   have h7:=h7.resolve_left (by omega);have e:=ZfJ (n:=n) (Ju n Y) (q++ah (n-(top+1)) 0) (by rw[Zd,Ze];omega) t M;rw[Zb8 h7 t] at e;refine Eq.trans (Wf n (by omega) _ _ _ (λs hs=>?_) t M) e.symm;unfold co;rw[Zb,Zb,List.getElem?_append];by_cases m6:s<q.length
   ·rw[if_pos m6]
   ·rw[if_neg m6,ak (by omega),bz]
    split <;> rfl
  intro k;induction k with
  |zero=>
   intro O t M;refine Eq.trans (Wf n (by omega) _ _ (λ_=>0) (λs hs=>?_) t M) (UP n _ t);rw[J 0 O,nx,u0];split <;> rfl
  |succ k ih=>
   intro O t M;have n9:top+1<=n:=by omega
   have o0:=ih (by omega);have hl:(nx q top k (YR top 0)).length=top:=(rr k (by omega)).2.1;have e:∀s,s<n->co (ro (Z5 q top n (YR top 0)) (k+1)) s-(if s=k+1 then 1 else 0) =
     (λs=>(λt=>co (ro (Z5 q top n (YR top 0)) k) t-if t=k then 1 else 0) ((s+(n-1)) % n)) s+(- co (nx q top k (YR top 0)) (top-1))*co q s:=λs hs=>by
    rw[J (k+1) O,J k (by omega),JL,XD];have ct:co (q.take top) s=if s<top then co q s else 0:=by
     by_cases h:s<top
     ·rw[if_pos h]
      unfold co;rw[Zb,Zb,f7,if_pos h]
     ·rw[if_neg h]
      exact WE (by rw[bI];omega)
    rw[ct];show _=co (nx q top k (YR top 0)) ((s+(n-1)) % n)-(if (s+(n-1)) % n=k then 1 else 0)+(- co (nx q top k (YR top 0)) (top-1))*co q s
    cases s with
    |zero=>
     have e0:(0+(n-1)) % n=n-1:=by rw[fX];exact aT (by omega)
     have c1:¬(0=k+1):=by omega
     have c2:¬(n-1=k):=by omega
     have c3:0<top:=t1;rw[e0,if_pos (.inl rfl),if_pos c3,if_neg c1,if_neg c2,WE (a:=nx q top k (YR top 0)) (i:=n-1) (by omega),gH];omega
    |succ s=>
     have e1:(s+1+(n-1)) % n=s:=by
      rw[show s+1+(n-1)=s+n by omega,gF,aT (by omega)]
     rw[e1,dz];have ei:(if s+1=k+1 then (1:Int) else 0)=if s=k then 1 else 0:=by
      by_cases z:s=k
      ·rw[if_pos z,if_pos (by omega)]
      ·rw[if_neg z,if_neg (by omega)]
     rw[ei,gH];by_cases c1:s+1<top
     ·rw[if_neg (by omega),if_pos c1]
      omega
     ·rw[if_pos (.inr (by omega)),if_neg c1,bx]
      by_cases c2:s+1=top
      ·have:co q (s+1)=1:=by rw[c2];exact h4
       rw[this,show top-1=s by omega,fJ];omega
      ·rw[WE (a:=q) (by omega),WE (a:=nx q top k (YR top 0)) (i:=s) (by omega),bx]
       omega
   rw[Wf n (by omega) _ _ _ e t M,ZbS n _ (λs=>(λt=>co (ro (Z5 q top n (YR top 0)) k) t-if t=k then 1 else 0) ((s+(n-1)) % n)) (λs=>(- co (nx q top k (YR top 0)) (top-1))*co q s) t,Zfm n (by omega) _ (λt=>co (ro (Z5 q top n (YR top 0)) k) t-if t=k then 1 else 0) t,ZbR,base t M n9,
    o0 _ (bc _ (by omega)),bx,a9]
 ·
  rw[X5];have hb:=ZeI q top (n / p.toNat) p.toNat _ _ (h8 p hp).2;have hd:=(h8 p hp).1;have o7:∀a,a<n->∀i,(ZJ p.toNat λt=>co (nx q top ((a+t*(n / p.toNat)) % n) (YR top 0)) i)=0:=by
   intro a;induction a with
   |zero=>
    intro _ i;have:=hb i;rw[YO,cq] at this;rw[<-this];refine ZC _ _ _ λt M=>?_;have:t*(n / p.toNat)<n:=by
     have:t*(n / p.toNat)+(n / p.toNat)<=p.toNat*(n / p.toNat):=by
      rw[<-ci];exact dS _ M
     have o9:0<n / p.toNat:=by
      rcases Nat.eq_zero_or_pos (n / p.toNat) with z|z
      ·rw[z,Nat.mul_zero] at hd;omega
      ·exact z
     omega
    rw[fX,aT this]
   |succ a ih=>
    intro ha i;have m8:=ih (by omega);have e:(ZJ p.toNat λt=>co (nx q top ((a+1+t*(n / p.toNat)) % n) (YR top 0)) i)=ZJ p.toNat λt=>co (W6 q top (nx q top ((a+t*(n / p.toNat)) % n) (YR top 0))) i:=by
     refine ZC _ _ _ λt _=>?_;rw[show a+1+t*(n / p.toNat)=a+t*(n / p.toNat)+1 by omega,n8]
    have n6:∀(m:Nat) (f g:Nat->Int) (c:Int),ZJ m (λt=>f t-g t*c)=ZJ m f-ZJ m g*c:=by
     intro m;induction m with
     |zero=>intro f g c;simp[ZJ]
     |succ m ih=>intro f g c;rw[ZJ,ZJ,ZJ,ih (λt=>f (t+1)) (λt=>g (t+1)) c,iE];omega
    rw[e];simp only[XD];rw[n6 _ (λt=>if i=0\/top<=i then 0 else co (nx q top ((a+t*(n / p.toNat)) % n) (YR top 0)) (i-1)) (λt=>co (nx q top ((a+t*(n / p.toNat)) % n) (YR top 0)) (top-1)),m8 (top-1),bg,lc]
    by_cases hc:i=0\/top<=i
    ·simp only[if_pos hc]
     exact Y0 _ _ λ_ _=>rfl
    ·simp only[if_neg hc]
     exact m8 (i-1)
  rw[<-o7 a ha j];refine ZC _ _ _ λt M=>?_;rw[J _ (bc _ (by omega))]
 ·
  apply ai;intro hz;have z0:∀j,co (nx q top k (YR top 0)) j=0:=λj=>by
   by_cases hj:j<top
   ·apply ai
    intro o8;exact hz ⟨j,hj,by rw[J k O];exact o8⟩
   ·exact WE (by rw[(rr k O).2.1];omega)
  have all:∀d j,co (nx q top (k+d) (YR top 0)) j=0:=by
   intro d;induction d with
   |zero=>exact z0
   |succ d ih=>intro j;rw[<-kg,JL];exact VG q top ih j
  have:=all (n-k) 0;rw[show k+(n-k)=n by omega,m5,u0,if_pos rfl] at this;cases this
def Vp (n top:Nat)(R:T8)(q:TZ):TZ:=(ac top).map λj=>sig n R j q 0
theorem Jz (n top:Nat)(R:T8)(j:TZ):(Vp n top R j).length=top:=by unfold Vp;rw[Za,Zg]
theorem Zb7 {n top:Nat}{R:T8}{q:TZ}{j:Nat}(h:j<top):co (Vp n top R q) j=sig n R j q 0:=by
 unfold Vp co;rw[Zb,Zc,aj h];rfl
theorem Zi5 {a b:TZ}(h:a.length=b.length)(e:∀j,j<a.length->co a j=co b j):a=b:=by
 refine a7 λi=>?_;by_cases q:i<a.length
 ·rw[Wd q,Wd (by omega),e i q]
 ·rw[ak (by omega),ak (by omega)]
section
variable {n:Nat}{ps least:TZ}{top:Nat}{R:T8}(G:Good n ps least top R)
include G
theorem ZhQ {cur:TZ}{k:Nat}(q:cur.length=n)(J:k<n)(M:top<=k):(qIn least (k-top) (co cur k) cur).length=n/\(∀j,co (WD (qIn least (k-top) (co cur k) cur) R) j=co (WD cur R) j)/\
  co (qIn least (k-top) (co cur k) cur) k=0/\∀t,k<t->co (qIn least (k-top) (co cur k) cur) t=co cur t:=by
 have hb:k-top+least.length<=cur.length:=by rw[G.l2,q];omega
 have O:=G.l2;refine⟨by rw[Ze6,q],λj=>?_,?_,λt Y=>?_⟩
 ·rw[Zfp _ _ _ _ _ _ hb,G.tails (k-top) (by omega) j,bx,lc]
 ·rw[Zd8 _ _ _ _ _ hb,if_pos ⟨by omega,by omega⟩,show k-(k-top)=top by omega,G.mon,fJ,Int.sub_self]
 ·rw[Zd8 _ _ _ _ _ hb,if_neg (by omega)]
theorem Zkd {cur f:TZ}(hl:cur.length=n)(hz:∀t,top<=t->co cur t=0)(hP:∀j,co (WD cur R) j=co (WD f R) j)(qs:TZ)(hf:f=Wg n qs):cur.take top=Vp n top R qs:=by
 have q:(cur.take top).length=top:=by rw[bI,hl];have:=G.tn;omega
 refine Zi5 (by rw[q,Jz]) λj J=>?_;rw[q] at J;have M:0<n:=G.n1;rw[Zb7 J,<-ZaK n M,<-hf,<-hP j,Xx];have O:j<n:=aC J G.tn;rw[J0 _ j _ (by rw[G.len];exact O) λt ht Y=>?_]
 ·rw[G.un j J,Jm J,if_pos rfl,fJ]
  unfold co;rw[Zb,Zb,f7,if_pos J]
 ·by_cases h:t<top
  ·rw[G.un t h,Jm J,if_neg (bd Y),bx]
  ·rw[hz t (by omega),bg]
end
theorem V2 (n:Nat):∀(xs:TZ) (k:Nat) (ZE:TZ),ZE.length=n->k+xs.length<=n->(∀t,k<=t->co ZE t=0)->∀t,co (Xh n xs k ZE) t=if t<k then co ZE t else co xs (t-k)
 | [],k,ZE,q,J,j,t=>by
  rw[Xh,YO];split
  ·rfl
  ·exact j t (by omega)
 |x::xs,k,ZE,q,J,j,t=>by
  rw[Zi] at J;have e:k % n=k:=aT (by omega);rw[Xh,e,j k (Zq _),cq,V2 n xs (k+1) _ (by rw[ba,q]) (by omega) (λs Y=>by rw[Zb6,if_neg (by omega)];exact j s (by omega)) t,Zb6];by_cases O:t=k
  ·subst O
   rw[if_pos (cC _),if_pos ⟨rfl,by omega⟩,if_neg (bK _),cn,YB]
  ·by_cases M:t<k
   ·rw[if_pos (by omega),if_neg (by omega),if_pos M]
   ·rw[if_neg (by omega),if_neg M,show t-k=(t-(k+1))+1 by omega,Y2]
theorem Xi {n:Nat}{xs:TZ}(h:xs.length<=n)(t:Nat):co (Wg n xs) t=co xs t:=by
 unfold Wg;rw[V2 n xs 0 _ (bZ ..) (by omega) (λs _=>?_) t,if_neg (dC _),ck];unfold co;rw[Zb,bz];split <;> rfl
section
variable {n:Nat}{ps least:TZ}{top:Nat}{R:T8}(G:Good n ps least top R)
include G
theorem ZiC (j:TZ)(k:Nat)(O:k<n):Va n (Ju n ps) (λt=>co (Wg n (Vp n top R j)) t-co (Wg n j) t) k=0:=by
 have q:0<n:=G.n1;have e:∀t,t<n->co (Wg n (Vp n top R j)) t-co (Wg n j) t=co (WD (Wg n j) ((ac n).map (Zg3 n R))) t:=λt M=>by
  rw[Xi (by rw[Jz];exact G.tn),Xx,Za,Zg];have e1:co (Vp n top R j) t=ZJ n λs=>co (Wg n j) s*co (ro R s) t:=by
   have:=Xx t R (Wg n j);rw[G.len] at this;rw[<-this];by_cases h:t<top
   ·rw[Zb7 h,ZaK n q]
   ·rw[WE (by rw[Jz];omega),this]
    refine (Y0 _ _ λs J=>?_).symm;rw[WE (a:=ro R s) (by rw[G.rlen s J];omega),bx]
  have e2:co (Wg n j) t=ZJ n λs=>co (Wg n j) s*(if t=s then 1 else 0):=by
   rw[J0 n t _ M λs J Y=>by rw[if_neg (bd Y),bx],if_pos rfl,fJ]
  rw[e1]
  conv=>lhs;rw[e2]
  rw[<-Um];refine ZC _ _ _ λs J=>?_;have er:ro ((ac n).map (Zg3 n R)) s=Zg3 n R s:=by
   unfold ro;rw[Zb,Zc,aj J];rfl
  have z:co (ah n (0:Int)) t=0:=by
   unfold co;rw[Zb,bz];split <;> rfl
  rw[er];unfold Zg3;rw[Wz,Wz,Xl,z,Jm M,<-iD];congr 1;split <;> omega
 rw[Wf n q _ _ _ e k O];refine Zfn n _ k _ _ λr hr=>?_;obtain⟨s,J,rfl⟩:=aE.mp hr;have m5:=af.mp J;rw[<-G.look s m5 k O];refine Wf n q _ _ _ (λt M=>?_) k O;have z:co (ah n (0:Int)) t=0:=by
  unfold co;rw[Zb,bz];split <;> rfl
 unfold Zg3;rw[Wz,Wz,Xl,z,Jm M];omega
end
end Num
set_option maxHeartbeats 4000000
namespace N47
open PySem L2 PySem.Spec PyProof.Rows
open Num
noncomputable abbrev Zoy:Stmt:=top 14
noncomputable abbrev ZoA:Stmt:=top 15
noncomputable abbrev ZhD:Stmt:=top 16
noncomputable abbrev ZhB:Stmt:=top 17
structure Bl2 (mg:TX):Prop where
 enumerate:mg "enumerate"=none
 max:mg "max"=none
theorem ZbX {a:TZ}{i:Nat}(h:i<a.length):Vx (a.map V.int) (i:Int)=some (.int (co a i)):=ZI (by rw[Zc,Wd h];rfl)
theorem Vk (a:TZ)(i:Nat)(v:Int):(a.map V.int).set i (V.int v)=(a.set i v).map V.int:=by rw[kq]
theorem Vq {a:TZ}{i:Nat}{y:V}(h:(a.map V.int)[i]?=some y):i<a.length/\y=.int (co a i):=by
 rw[Zc] at h;by_cases j:i<a.length
 ·rw[Wd j] at h
  exact⟨j,(aA h).symm⟩
 ·rw[ak (by omega)] at h
  cases h
theorem Vt {n i:Nat}(h:i<n):ixN n (i:Int)=some i:=by
 unfold ixN;rw[if_pos (dA _),if_pos (by omega),Zj]
theorem Zf2 (m:Nat):(ah m [V.int 0]).flatten=(ah m (0:Int)).map V.int:=ZhP m
theorem ZbY {X:Cx}:Zn3 X (λx y H Q=>∃(p:Addr) (xs:TV) (i:Nat) (v:V),x=.ref p/\y=.int i/\H p=some (.lst xs)/\xs[i]?=some v/\Q v H):=by
 intro J s σ H x y O iv Q I Y ry h;obtain⟨p,xs,i,v,rfl,rfl,hp,M,q⟩:=h;cases (show O=ax p from Y);obtain⟨t,rfl⟩:=ry;obtain⟨m5,r,pl,hz⟩:=I.list (.of hp);obtain⟨w,ew,j⟩:=r.get M;have hl:=r.length;have hn:=X1;have hi:i<xs.length:=(ae.mp M).1;exact wpAny_getItem_list pl.isList (dA _) (by omega) (by simpa using ew) ⟨v,H,I,j,q⟩
inductive Zhg (K:aa) (vs:TV) (H:Hp) (Q:VK) (E03:XK):Prop
 |mk (a:Addr) (ps:TZ) (st:Nat):(vs=[.ref a,.int st])->(Ws K H a (ps.map V.int))->(1<=ps.length)->((ps.length-1)*st<=100000)->(ps.length<=1000)->(st<=1000)->(∀l H',Zv H H'->H' l=some (.lst ((stM ps st).map V.int))->Q (.ref l) H')->Zhg K vs H Q E03
section
variable {P:Program}{w:World}{K:aa}{mg:TX}{base:Heap}
theorem Zm8 {f:Addr}{fd:FuncData}(F:WA K "stretched" "stretched" Zoy f fd)(T:Bl mg)(T2:Bl2 mg):Z8 P w K mg base Yd 1 f fd ["powers", "step"] (Zhg K):=by
 refine F.ok (FS (N:=["powers", "step", "wide", "k", "x"])) (λvs H Q E h=>?_) (λm8 A m5 s H vs Q E hr h=>?_)
 ·obtain⟨a,j,st,rfl,_⟩:=h;rfl
 ·obtain⟨a,j,st,rfl,hS,hl,hb,n6,n8,q⟩:=h
  refine⟨_,Zs (ZH 2 rfl (Zy WJ (ZR (pc Zx Zt)) (Zy Ym (Zy ZS (Zy YC (cb (Yt K) T.len (pc (vn 0) Zt)) Zx) (vn 1)) Zx)))
   (Zs (ZN am rfl (UW K T2.enumerate (pc (vn 0) Zt)) (g2 K 3 4 rfl (gn 3) (gn 4))
    (Zw (W2 (vn 4) (Xc (vn 2) (Zy ZS (vn 3) (vn 1)) YS))))
   (Zw (ZK (vn 2)))),?_⟩
  refine⟨JF,λl0 n0=>?_⟩;have s0:Zv H (upd H l0 (.lst [.int 0])):=Zv.upd n0;refine⟨_,rfl,a,_,rfl,.inl (s0.seq hS),_,_,rfl,rfl,_,rfl,_,_,rfl,rfl,.inl ⟨?_,?_⟩,_,_,rfl,rfl,l0,_,_,rfl,rfl,Zu,?_,?_,?_,λl nl=>?_⟩
  ·rw[Za];omega
  ·rw[Za];omega
  ·rw[Za];have:(0:Int)<=((j.length:Int)-1)*st:=Int.mul_nonneg (by omega) (by omega);omega
  ·rw[Za]
   have:((j.length:Int)-1)*st=(((j.length-1)*st:Nat):Int):=by rw[aG];congr 1;omega
   omega
  ·rw[Za]
   have:((j.length:Int)-1)*st=(((j.length-1)*st:Nat):Int):=by rw[aG];congr 1;omega
   rw[this];show 1*_<=sizeLine;have e:=JE;omega
  have eN:(((j.map V.int).length:Int)-1)*st+1=(((j.length-1)*st+1:Nat):Int):=by
   rw[Za,eY,aG];congr 2;omega
  rw[eN,Zj,Zf2];have m6:H l=none:=s0.free nl;have s1:=s0.trans (Zv.upd (o:=.lst ((ah ((j.length-1)*st+1) (0:Int)).map V.int)) nl);refine⟨_,rfl,a,rfl,.inl ⟨⟨_,s1.seq hS⟩,?_⟩⟩;refine Jd UY (λi O H'=>∃(J:TZ) (v3 v4:TU),O=[some (.ref a),some (.int st),some (.ref l),v3,v4]/\Zv H H'/\H' l=some (.lst (J.map V.int))/\J.length=(j.length-1)*st+1/\stN st (j.drop i) i J=stM j st)
   ⟨_,_,_,rfl,s1,Zu,bZ ..,rfl⟩ (λi O H' h=>h.choose_spec.choose_spec.choose_spec.2.1.seq hS) ?_ ?_
  ·rintro i y O H' T' hy ⟨J,v3,v4,rfl,sm,Y,hlen,M⟩ nT
   obtain⟨hi,rfl⟩:=Vq hy;refine⟨T',_,rfl,.of Zu,rfl,_,_,rfl,_,_,rfl,rfl,_,rfl,_,rfl,_,rfl,_,rfl,_,_,rfl,rfl,.inl ⟨by omega,by omega⟩,l,_,_,i*st,rfl,rfl,Zv.upd nT _ _ Y,?_,?_⟩
   rotate_left
   ·have n9:i*st<J.length:=by
     rw[hlen];have:i*st<=(j.length-1)*st:=dS _ (by omega);omega
    refine⟨J.set (i*st) (co j i),_,_,rfl,(sm.trans (Zv.upd nT)).updr m6,?_,?_,?_⟩
    ·rw[Zu,Vk]
    ·rw[ba];exact hlen
    ·rw[<-M]
     have:j.drop i=co j i::j.drop (i+1):=by
      rw[bR hi];congr 1;have:=Wd hi;rw[Zf hi] at this;exact aA this
     rw[this,Num.stN]
   ·rw[Za]
    have:((i:Int)*(st:Int))=((i*st:Nat):Int):=by rw[aG]
    rw[this];refine Vt ?_;rw[hlen];have:i*st<=(j.length-1)*st:=dS _ (by omega);omega
  ·rintro O H' ⟨J,v3,v4,rfl,sm,Y,hlen,M⟩
   rw[Za,fw,Num.stN] at M;rw[M] at Y;exact⟨_,rfl,q l H' sm Y⟩
end
inductive Zhi (K:aa) (vs:TV) (H:Hp) (Q:VK) (E03:XK):Prop
 |mk (a b:Addr) (ps ds:TZ):(vs=[.ref a,.ref b])->(Ws K H a (ps.map V.int))->(Ws K H b (ds.map V.int))->(1<=ds.length)->(ds.length<=ps.length)->(ps.length<=100000)->(small ds=true)->(∀l H',Zv H H'->H' l=some (.lst ((Ze5 ps ds).map V.int))->Q (.ref l) H')->Zhi K vs H Q E03
theorem Uf {j:TZ}{i:Nat}(q:i<j.length):j.drop i=co j i::j.drop (i+1):=by
 rw[bR q];congr 1;have:=Wd q;rw[Zf q] at this;exact aA this
theorem Zel {a:TZ}{i:Nat}(h:i<a.length):(a.map V.int)[i]?=some (.int (co a i)):=by rw[Zc,Wd h];rfl
section
variable {P:Program}{w:World}{K:aa}{mg:TX}{base:Heap}
theorem Zna {f:Addr}{fd:FuncData}(F:WA K "quotient" "quotient" ZoA f fd)(T:Bl mg)(T2:Bl2 mg):Z8 P w K mg base Yd 1 f fd ["powers", "divisor"] (Zhi K):=by
 refine F.ok (FS (N:=["powers", "divisor", "rest", "top", "found", "k", "j", "x"])) (λvs H Q E h=>?_) (λt7 A p7 s H vs Q E hr h=>?_)
 ·obtain⟨a,b,Y,ds,rfl,_⟩:=h;rfl
 ·obtain⟨a,b,Y,ds,rfl,hA,hB,t8,t9,u5,p8,q⟩:=h
  refine⟨_,Zs (ZH 2 rfl (ct JQ T.list (pc (vn 0) Zt)))
   (Zs (ZH 3 rfl (Zy YC (cb (Yt K) T.len (pc (vn 1) Zt)) Zx))
   (Zs (ZH 4 rfl (Zy WJ (ZR (pc Zx Zt)) (Zy YC (cb (Yt K) T.len (pc (vn 2) Zt)) (vn 3))))
   (Zs (ZN am rfl (ZoM T.range (pc (Zy YC (cb (Yt K) T.len (pc (vn 4) Zt)) Zx) (pc (Vo JH Zx) (pc (Vo JH Zx) Zt)))) (gn 5)
    (Zs (W2 (ZD (Jb K) (vn 2) (Zy Ym (vn 5) (vn 3)) (λ_ _=>rfl)) (Xc (vn 4) (vn 5) YS))
    (Zw (ZN am rfl (UW K T2.enumerate (pc (vn 1) Zt)) (g2 K 6 7 rfl (gn 6) (gn 7))
     (Zw (Uc (vn 2) (Zy Ym (vn 5) (vn 6)) ZbY (Zy ZS (ZD (Jb K) (vn 4) (vn 5) (λ_ _=>rfl)) (vn 7)) ZiL YS))))))
   (Zw (ZK (vn 4)))))),?_⟩
  refine⟨_,rfl,a,_,rfl,.inl hA,λr nr=>?_⟩;have s1:Zv H (upd H r (.lst (Y.map V.int))):=Zv.upd nr;refine⟨_,rfl,b,_,rfl,.inl (s1.seq hB),_,_,rfl,rfl,?_⟩;refine⟨JF,λl0 n0=>?_⟩;have s2:=s1.trans (Zv.upd (o:=.lst [.int 0]) n0);refine⟨_,rfl,r,_,rfl,.inl (.of (Zv.upd n0 _ _ Zu)),_,rfl,_,_,rfl,rfl,l0,_,_,rfl,rfl,Zu,?_,?_,?_,λl nl=>?_⟩
  ·rw[Za,Za];omega
  ·rw[Za,Za];omega
  ·rw[Za,Za]
   show 1*_<=sizeLine;have e:=JE;omega
  have eN:(((Y.map V.int).length:Int)-(((ds.map V.int).length:Int)-1)).toNat=Y.length-(ds.length-1):=by rw[Za,Za];omega
  rw[eN,Zf2];have q0:H r=none:=nr;have r6:H l=none:=s2.free nl;have o7:l≠r:=λz=>by
   rw[z,Zz (λz2=>by rw[z2,Zu] at n0;cases n0),Zu] at nl;cases nl
  have s3:=s2.trans (Zv.upd (o:=.lst ((ah (Y.length-(ds.length-1)) (0:Int)).map V.int)) nl);generalize hN:Y.length-(ds.length-1)=N at *;have r8:(upd (upd (upd H r (.lst (Y.map V.int))) l0 (.lst [.int 0])) l (.lst ((ah N (0:Int)).map V.int))) r=some (.lst (Y.map V.int)):=Zv.upd nl _ _ (Zv.upd n0 _ _ Zu);refine⟨_,rfl,l,_,rfl,.inl (.of Zu),_,_,rfl,rfl,_,rfl,_,rfl,_,_,rfl,⟨by rw[Za,Ze];omega,by rw[Za,Ze];omega,by decide,by decide⟩,?_⟩;rw[Za,Za,Ze];have e2:(((N:Int)-1)-(-1)).toNat=N:=by omega
  rw[e2];refine Zdf (λi n6 H'=>∃(J rest:TZ) (v5 v6 v7:TU),n6=[some (.ref a),some (.ref b),some (.ref r),some (.int ((ds.length:Int)-1)),some (.ref l),v5,v6,v7]/\Zv H H'/\H' l=some (.lst (J.map V.int))/\H' r=some (.lst (rest.map V.int))/\
    J.length=N/\rest.length=Y.length/\Zh1 ds (ds.length-1) (N-i) J rest=Ze5 Y ds)
   ⟨_,_,_,_,_,rfl,s3,Zu,r8,bZ ..,rfl,by rw[ck,Ze5,hN]⟩ ?_ ?_
  ·rintro i n6 H' hi ⟨J,rest,v5,v6,v7,rfl,sm,m6,n8,o8,o9,hq⟩
   generalize hk:N-1-i=k;have ek:(N:Int)-1-(i:Int)=(k:Int):=by omega
   rw[ek];have u9:k<N:=by omega
   have r9:N-i=k+1:=by omega
   rw[r9,Zh1] at hq;have p3:k+(ds.length-1)<rest.length:=by omega
   refine⟨_,rfl,_,rfl,_,rfl,_,_,rfl,rfl,r,_,_,.int (co rest (k+(ds.length-1))),rfl,rfl,.of n8,?_,_,rfl,_,rfl,l,_,_,k,rfl,rfl,m6,?_,?_⟩
   ·have:(k:Int)+((ds.length:Int)-1)=((k+(ds.length-1):Nat):Int):=by omega
    rw[this];exact ZbX p3
   ·rw[Za];exact Vt (by omega)
   generalize hc:co rest (k+(ds.length-1))=c at hq ⊢;rw[Vk];have sm1:Zv H (upd H' l (.lst ((J.set k c).map V.int))):=sm.updr r6;have t5:(upd H' l (.lst ((J.set k c).map V.int))) r=some (.lst (rest.map V.int)):=by rw[Zz (bd o7)];exact n8
   have t6:co (J.set k c) k=c:=by rw[Zb6,if_pos ⟨rfl,by omega⟩]
   refine⟨_,rfl,b,rfl,.inl ⟨⟨_,sm1.seq hB⟩,?_⟩⟩;refine Jd UY (λj M O=>∃(cur:TZ) (u6 u7:TU),M=[some (.ref a),some (.ref b),some (.ref r),some (.int ((ds.length:Int)-1)),some (.ref l),some (.int k),u6,u7]/\Zv H O/\O l=some (.lst ((J.set k c).map V.int))/\O r=some (.lst (cur.map V.int))/\
     cur.length=Y.length/\qIn (ds.drop j) (k+j) c cur=qIn ds k c rest)
    ⟨_,_,_,rfl,sm1,Zu,t5,o9,rfl⟩ (λj M O h=>h.choose_spec.choose_spec.choose_spec.2.1.seq hB) ?_ ?_
   ·rintro j y M O T' hy ⟨cur,u6,u7,rfl,sm2,m5,n9,o0,m8⟩ nT
    obtain⟨hj,rfl⟩:=Vq hy;have kj:k+j<cur.length:=by omega
    have p4:=Zv.upd (o:=.tup [.int j,.int (co ds j)]) nT _ _ n9;have p6:=Zv.upd (o:=.tup [.int j,.int (co ds j)]) nT _ _ m5;have cb:=U3 p8 j;refine⟨T',_,rfl,.of Zu,rfl,_,_,rfl,_,_,rfl,rfl,_,rfl,_,rfl,_,rfl,_,_,rfl,rfl,r,_,k+j,.int (co cur (k+j)),rfl,congrArg V.int (by omega),p4,Zel kj,
     _,rfl,_,rfl,l,_,_,.int c,rfl,rfl,.of p6,?_,_,rfl,_,_,rfl,rfl,.inr ⟨by omega,by omega⟩,_,_,rfl,rfl,r,_,_,k+j,rfl,congrArg V.int (show (k:Int)+(j:Int)=((k+j:Nat):Int) by omega),p4,?_,?_⟩
    ·have:=ZbX (a:=J.set k c) (i:=k) (by rw[ba];omega)
     rw[t6] at this;exact this
    ·rw[Za];exact Vt kj
    ·refine⟨cur.set (k+j) (co cur (k+j)-c*co ds j),_,_,rfl,(sm2.trans (Zv.upd nT)).updr q0,?_,?_,?_,?_⟩
     ·rw[Zz o7];exact p6
     ·rw[Zu,Vk]
     ·rw[ba];exact o0
     ·rw[<-m8,Uf hj,Num.qIn]
      rfl
   ·rintro M O ⟨cur,u6,u7,rfl,sm2,m5,n9,o0,m8⟩
    rw[Za,fw,Num.qIn] at m8;refine⟨J.set k c,cur,_,_,_,rfl,sm2,m5,n9,by rw[ba];exact o8,o0,?_⟩;rw[show N-(i+1)=k by omega,m8];exact hq
  ·rintro n6 H' ⟨J,rest,v5,v6,v7,rfl,sm,m6,n8,o8,o9,hq⟩
   rw[cn,Num.Zh1] at hq;rw[hq] at m6;exact⟨_,rfl,q l H' sm m6⟩
end
end N47
namespace L2
open PySem PySem.Spec PyProof.Rows
section
variable {X:Cx}
def ZiP (K:aa)(ta:TA):TI:=λσ H R=>ta σ H λvs M=>∃a q j,vs=[.ref a]/\(Ws K j a q\/Xp K j a q)/\Zv j M/\∀J O,Zjw J O q->(∀Y,Zv j Y->O Y)->R J M
theorem ZnI {elts:List Expr}{x1}{pt:Pos}{l:Expr}{ta:TA}{p pos:Pos}(hm:X.mg "enumerate"=none)(ha:PA X [l] ta)(hg:Wc X.env.scope "enumerate"=true:=by kernel_rfl)(hs:starEach [l] X.env=[(false,eval l X.env)]:=by rfl) :
  PI X (.Tuple elts x1 pt) (.Call (.Name "enumerate" p) [l] [] pos) (ZiP X.K ta):=by
 intro M s σ H R I h;refine Call_ (JN I (XQ hg) hm (show bootBuiltins "enumerate"=some (.type "enumerate") by kernel_rfl) (bm (Yw (ha pos M s σ H _ I h) λus s1 ⟨vs,H1,j,r1,q1⟩=>?_) hs rfl));obtain⟨a,xs,Hx,e,J,sm,q⟩:=q1;subst e;cases r1 with
 |cons r rr=>
  cases rr;cases (show _=ax a from r);have sz:∀b,b∈[s1.heap.objs.size+1,s1.heap.objs.size]->s1.heap.objs.size<=b:=λb hb=>by
   rcases aD.mp hb with rfl|hb
   ·exact gE _
   ·have:b=s1.heap.objs.size:=by simpa using hb
    rw[this];exact Zq _
  rcases J with J|J
  ·obtain⟨O,rv,p,hz⟩:=j.list (sm.seq J)
   refine call_enumerate_list p.isList λg ge Y gs gk=>dW ge ?_;exact⟨_,[s1.heap.objs.size+1,s1.heap.objs.size],_,_,H1,rfl,j.kept (t':=s1.toks) gk,Uk a _ _ (bq (cC _)),⟨⟨_,ge⟩,Y⟩,λb hb=>j.fpOk (sz b hb) (j.hok.fresh (sz b hb)),q _ _ UY λH' s'=>s'.seq J⟩
  ·obtain⟨O,rv,p,hz⟩:=j.tuple (sm.tup J)
   refine PyY.Zac (show s1.heap.IsTuple a O.toArray from p) λg ge Y gs gk=>dW ge ?_;exact⟨_,[s1.heap.objs.size+1,s1.heap.objs.size],_,_,H1,rfl,j.kept (t':=s1.toks) gk,Uj a _ _ (bq (cC _)),⟨⟨_,ge⟩,Y⟩,λb hb=>j.fpOk (sz b hb) (j.hok.fresh (sz b hb)),q _ _ Zb3 λH' s'=>s'.tup J⟩
theorem ZnJ (K:aa){elts:List Expr}{q}{pt:Pos}{l:Expr}{j:TA}{p pos:Pos}(J:X.mg "enumerate"=none)(M:PA X [l] j)(O:X.K=K:=by rfl)(Y:Wc X.env.scope "enumerate"=true:=by kernel_rfl)(hs:starEach [l] X.env=[(false,eval l X.env)]:=by rfl) :
  PI X (.Tuple elts q pt) (.Call (.Name "enumerate" p) [l] [] pos) (ZiP K j):=O▸ZnI J M Y hs
end
end L2
namespace N47
open PySem L2 PySem.Spec PyProof.Rows
open Num
def lsN (n:Nat):TZ:=Jr n (Yv n)
def YL (n:Nat):Nat:=(lsN n).length-1
def RN (n:Nat):T8:=RT n (Yv n)
def Vw (n:Nat):Bool:=Num.chk n (Yv n) && decide (((Num.Jr n (Yv n)).length:Int)=ZbA n+1)
theorem Zpx:([1,2,3,4,5,6,7,8,9,10,11,12,13,14,15,16].all Vw)=true:=by decide +kernel
theorem Zpw:([17,18,19,20,21,22,23,24].all Vw)=true:=by decide +kernel
theorem Zpv:([25,26,27,28,29,30].all Vw)=true:=by decide +kernel
theorem Zpu:([31,32,33,34,35].all Vw)=true:=by decide +kernel
theorem Zpt:([36,37,38,39,40].all Vw)=true:=by decide +kernel
theorem Zps:([41,42,43,44].all Vw)=true:=by decide +kernel
theorem Zpr:([45,46,47].all Vw)=true:=by decide +kernel
theorem Zpq:([48,49,50].all Vw)=true:=by decide +kernel
theorem Zpp:([51,52,53].all Vw)=true:=by decide +kernel
theorem Zpo:([54,55,56].all Vw)=true:=by decide +kernel
theorem ZnS:([57,58].all Vw)=true:=by decide +kernel
theorem ZnR:([59,60].all Vw)=true:=by decide +kernel
theorem all2 {p:Nat->Bool}{a b:T7}(h:a.all p=true)(g:b.all p=true):(a++b).all p=true:=by rw[List.all_append,h,g];rfl
theorem ZnQ {n:Nat}(j:1<=n)(q:n<=60):Vw n=true:=az.mp (all2 Zpx (all2 Zpw (all2 Zpv (all2 Zpu (all2 Zpt (all2 Zps (all2 Zpr (all2 Zpq (all2 Zpp (all2 Zpo (all2 ZnS ZnR))))))))))) n (by
 show n∈de 1 60;exact List.mem_range'_1.mpr ⟨j,by omega⟩)
theorem UV {n:Nat}(j:1<=n)(q:n<=60):Good n (Yv n) (lsN n) (YL n) (RN n)/\(YL n:Int)=ZbA n:=by
 have h:=ZnQ j q;unfold Vw at h;rw[ag] at h;have g:=Zlg j h.1;refine⟨g,?_⟩;have e:=of_decide_eq_true h.2;have:=g.l2;unfold YL lsN;omega
inductive Zbj (vs:TV) (H:Hp) (Q:VK) (E03:XK):Prop
 |mk (n:Nat):(vs=[.int n])->(1<=n)->(n<=60)->(∀l H',Zv H H'->H' l=some (.lst ((lsN n).map V.int))->Q (.ref l) H')->Zbj vs H Q E03
inductive Zbg (K:aa) (vs:TV) (H:Hp) (Q:VK) (E03:XK):Prop
 |mk (n:Nat) (a:Addr) (ws:TZ):(vs=[.int n,.ref a])->(1<=n)->(n<=60)->((Ws K H a (ws.map V.int)\/Xp K H a (ws.map V.int)))->(ws.length<=100000)->(∀q H',Zv H H'->H' q=some (.tup ((Vp n (YL n) (RN n) ws).map V.int))->Q (.ref q) H')->Zbg K vs H Q E03
theorem Zi9 (xs:TV){k:Nat}(h:k<=xs.length):Zdo xs none (some (k:Int))=xs.take k:=by
 unfold Zdo;rw[HT.ZeS];have e:HT.sIx xs.length 0 none=0:=rfl;rw[e,List.drop_zero,ck,Nat.min_eq_left h]
theorem UO {s:TZ×Int}{j:TZ}(h:Vr s j=true):small s.1=true/\2<=s.1.length/\s.1.length<=61/\1<=s.2/\s.2<=60:=by
 have g:Zk0 s=true:=by
  cases j with
  |nil=>exact h
  |cons p j=>
   rw[Num.Vr] at h;simp only[ag] at h;exact h.1.1.1
 unfold Zk0 at g;simp only[ag,decide_eq_true_eq] at g;exact⟨g.1.1.1.1,g.1.1.1.2,g.1.1.2,g.1.2,g.2⟩
theorem Zei {s:TZ×Int}{p:Int}{j:TZ}(h:Vr s (p::j)=true):2<=p/\p<=60/\Vr (XZ s p) j=true:=by
 rw[Num.Vr] at h;simp only[ag,decide_eq_true_eq] at h;exact⟨h.1.1.2,h.1.2,h.2⟩
section
variable {P:Program}{w:World}{K:aa}{mg:TX}{base:Heap}
theorem Zio {f:Addr}{fd:FuncData}(F:WA K "least_sum" "least_sum" ZhD f fd)(GP:Fn P w K mg base Yd 1 "primes_of" ["n"] Ut)(GS:Fn P w K mg base Yd 1 "stretched" ["powers", "step"] (Zhg K))(GQ:Fn P w K mg base Yd 1 "quotient" ["powers", "divisor"] (Zhi K)) :
  Z8 P w K mg base Yd 2 f fd ["n"] Zbj:=by
 refine F.ok (FS (N:=["n", "found", "built", "p"])) (λvs H Q E h=>?_) (λn6 A m8 s H vs Q E hr h=>?_)
 ·obtain⟨n,rfl,_⟩:=h;rfl
 ·obtain⟨n,rfl,n1,n60,q⟩:=h
  obtain⟨G,_⟩:=UV n1 n60;refine⟨_,Zs (ZH 1 rfl (ZR (pc (Vo JH Zx) (pc Zx Zt))))
   (Zs (ZH 2 rfl Zx)
   (Zs (ZN am rfl (itL K (Wh GP hr ZL (pc (vn 0) Zt))) (gn 3)
    (Zs (ZH 1 rfl (Wh GQ hr ZL (pc (Wh GS hr ZL (pc (vn 1) (pc (vn 3) Zt))) (pc (vn 1) Zt))))
    (Zw (ZH 2 rfl (Zy ZS (vn 2) (vn 3))))))
   (Zw (ZK (Wh GS hr ZL (pc (vn 1) (pc (Zy Wn (vn 0) (vn 2)) Zt))))))),?_⟩
  refine⟨_,rfl,JF,λl0 n0=>?_⟩;have s0:Zv H (upd H l0 (.lst [.int (-1),.int 1])):=Zv.upd n0;refine⟨_,rfl,n,rfl,n1,n60,λlp H1 s1 hp=>⟨lp,rfl,⟨_,.of hp⟩,?_⟩⟩;refine WQ (Ys (K:=K) (.of hp)) (λi M Y=>∃(st:TZ×Int) (O:Addr) (v3:TU),M=[some (.int n),some (.ref O),some (.int st.2),v3]/\Zv H1 Y/\Y O=some (.lst (st.1.map V.int))/\Vr st ((Yv n).drop i)=true/\
    ((Yv n).drop i).foldl XZ st=(Yv n).foldl XZ ([-1,1],1))
   ⟨([-1,1],1),l0,_,rfl,Zv.refl _,s1 _ _ Zu,G.ls,rfl⟩ (λi M Y h=>h.choose_spec.choose_spec.choose_spec.2.1) ?_ ?_
  ·rintro i x M Y hx ⟨st,O,v3,rfl,sm,hf,J,j⟩
   obtain⟨hi,rfl⟩:=Vq hx;rw[Uf hi] at J j;obtain⟨p2,n8,m5⟩:=Zei J;obtain⟨c1,c2,c3,c4,c5⟩:=UO J;generalize n9:co (Yv n) i=p at *;have ep:(p.toNat:Int)=p:=by omega
   have m6:(st.1.length-1)*p.toNat<=60*60:=jT (by omega) (by omega);refine⟨_,rfl,_,rfl,O,st.1,p.toNat,by rw[ep];rfl,.of hf,by omega,by omega,by omega,by omega,λl2 H2 s2 h2=>?_⟩;have o0:st.1.length-1<=(st.1.length-1)*p.toNat:=Nat.le_mul_of_pos_right _ (by omega);refine⟨_,rfl,l2,O,_,_,rfl,.of h2,.of (s2 _ _ hf),by omega,by rw[ZeK];omega,by rw[ZeK];omega,c1,λl3 H3 s3 h3=>?_⟩;refine⟨_,rfl,_,rfl,_,_,rfl,rfl,.inl ⟨by omega,by omega⟩,?_⟩;exact⟨XZ st p,l3,_,rfl,(sm.trans s2).trans s3,h3,m5,j⟩
  ·rintro M Y ⟨st,O,v3,rfl,sm,hf,J,j⟩
   rw[Za,fw] at J j;obtain⟨c1,c2,c3,c4,c5⟩:=UO J;have hd:0<=(n:Int) / st.2/\(n:Int) / st.2<=n:=⟨jH (by omega) (by omega),Int.ediv_le_self _ (by omega)⟩;have m6:(st.1.length-1)*((n:Int) / st.2).toNat<=60*60:=jT (by omega) (by omega);refine⟨_,rfl,_,rfl,_,rfl,_,_,rfl,rfl,⟨by omega,by omega⟩,O,st.1,((n:Int) / st.2).toNat,by rw[Int.toNat_of_nonneg hd.1];rfl,.of hf,by omega,by omega,by omega,by omega,λl4 H4 s4 h4=>?_⟩;refine q l4 H4 (((s0.trans s1).trans sm).trans s4) ?_;rw[h4];unfold lsN Jr;rw[<-j];rfl
theorem Zim {f:Addr}{fd:FuncData}(F:WA K "number_of" "number_of" ZhB f fd)(T:Bl mg)(T2:Bl2 mg)(GL:Fn P w K mg base Yd 2 "least_sum" ["n"] Zbj):Z8 P w K mg base Yd 3 f fd ["n", "powers"] (Zbg K):=by
 refine F.ok (FS (N:=["n", "powers", "least", "top", "rest", "k", "x", "high", "j"])) (λvs H Q E h=>?_) (λw9 A r8 s H vs Q E hr h=>?_)
 ·obtain⟨n,a,ws,rfl,_⟩:=h;rfl
 ·obtain⟨n,a,ws,rfl,n1,n60,hS,x9,q⟩:=h
  obtain⟨G,_⟩:=UV n1 n60;refine⟨_,Zs (ZH 2 rfl (Wh GL hr ZL (pc (vn 0) Zt)))
   (Zs (ZH 3 rfl (Zy YC (cb (Yt K) T.len (pc (vn 2) Zt)) Zx))
   (Zs (ZH 4 rfl (Zy WJ (ZR (pc Zx Zt)) (vn 0)))
   (Zs (ZN am rfl (ZnJ K T2.enumerate (pc (vn 1) Zt)) (g2 K 5 6 rfl (gn 5) (gn 6))
    (Zw (Uc (vn 4) (Zy ZV (vn 5) (vn 0)) ZbY (vn 6) Js YS)))
   (Zs (ZN am rfl (ZoM T.range (pc (Zy YC (vn 0) Zx) (pc (Zy YC (vn 3) Zx) (pc (Vo JH Zx) Zt)))) (gn 5)
    (Zs (ZH 7 rfl (ZD (Jb K) (vn 4) (vn 5) (λ_ _=>rfl)))
    (Zw (WN (ZP Jy (vn 7) Zx (ZW _))
     (Zw (ZN am rfl (UW K T2.enumerate (pc (vn 2) Zt)) (g2 K 8 6 rfl (gn 8) (gn 6))
      (Zw (Uc (vn 4) (Zy Ym (Zy YC (vn 5) (vn 3)) (vn 8)) ZbY (Zy ZS (vn 7) (vn 6)) ZiL YS)))) YF))))
   (Zw (ZK (ct ZY T.tuple (pc (ZcU ZeN (vn 4) Ze9 (Ze8 (vn 3))) Zt)))))))),?_⟩
  refine⟨_,rfl,n,rfl,n1,n60,λll H1 s1 n9=>?_⟩;have o8:(((lsN n).map V.int).length:Int)-1=(YL n:Int):=by
   rw[Za,G.l2];omega
  have tn:=G.tn;have t1:=G.t1;refine⟨_,rfl,ll,_,rfl,.inl (.of n9),_,_,rfl,rfl,?_⟩;refine⟨JF,λl0 n0=>?_⟩;have s2:=s1.trans (Zv.upd (o:=.lst [.int 0]) n0);refine⟨_,rfl,l0,_,_,rfl,rfl,Zu,by omega,by omega,?_,λl nl=>?_⟩
  ·rw[Zj]
   show 1*n<=sizeLine;have e:=JE;omega
  rw[Zj,Zf2];have o9:H l=none:=s2.free nl;have p3:=Zv.upd (o:=.lst ((ah n (0:Int)).map V.int)) nl _ _ (Zv.upd (o:=.lst [.int 0]) n0 _ _ n9);have p4:l≠ll:=λz=>by
   rw[z,Zv.upd (o:=.lst [.int 0]) n0 _ _ n9] at nl;cases nl
  have s3:=s2.trans (Zv.upd (o:=.lst ((ah n (0:Int)).map V.int)) nl);refine⟨_,rfl,a,_,H,rfl,hS,s3,λJ At S r9=>?_⟩;refine Jd S (λi m6 H'=>∃(M:TZ) (v5 v6:TU),m6=[some (.int n),some (.ref a),some (.ref ll),some (.int ((((lsN n).map V.int).length:Int)-1)),some (.ref l),v5,v6,none,none]/\Zv H H'/\H' ll=some (.lst ((lsN n).map V.int))/\H' l=some (.lst (M.map V.int))/\M.length=n/\
    Xh n (ws.drop i) i M=Wg n ws)
   ⟨_,_,_,rfl,s3,p3,Zu,bZ ..,rfl⟩ (λi m6 H' h=>r9 _ h.choose_spec.choose_spec.choose_spec.2.1) ?_ ?_
  ·rintro i y m6 H' T' hy ⟨M,v5,v6,rfl,sm,o0,o7,m8,n6⟩ nT
   obtain⟨hi,rfl⟩:=Vq hy;have p6:i % n<M.length:=by rw[m8];exact bc _ n1
   have eM:V.int ((i:Int) % (n:Int))=V.int ((i % n:Nat):Int):=congrArg V.int (by omega);have p7:=Zv.upd (o:=.tup [.int i,.int (co ws i)]) nT _ _ o7;refine⟨T',_,rfl,.of Zu,rfl,_,_,rfl,_,_,rfl,rfl,_,rfl,_,rfl,_,rfl,_,_,rfl,rfl,(by show (0:Int)<n;omega),l,_,i % n,.int (co M (i % n)),rfl,eM,p7,Zel p6,_,rfl,_,_,rfl,rfl,l,_,_,i % n,rfl,eM,p7,?_,?_⟩
   ·rw[Za];exact Vt p6
   ·refine⟨M.set (i % n) (co M (i % n)+co ws i),_,_,rfl,(sm.trans (Zv.upd nT)).updr o9,?_,?_,?_,?_⟩
    ·rw[Zz (bd p4)];exact Zv.upd nT _ _ o0
    ·rw[Zu,Vk]
    ·rw[ba];exact m8
    ·rw[<-n6,Uf hi,Num.Xh]
  ·rintro m6 H' ⟨M,v5,v6,rfl,sm,o0,o7,m8,n6⟩
   rw[Za,fw,Num.Xh] at n6;refine⟨_,rfl,_,_,rfl,rfl,_,rfl,_,_,rfl,rfl,_,rfl,_,_,rfl,⟨by omega,by omega,by omega,by omega⟩,?_⟩;rw[show (((n:Int)-1)-((((lsN n).map V.int).length:Int)-1-1)).toNat=n-YL n by omega];refine Zdf (λi m6 H'=>∃(M:TZ) (v5 v6 v7 v8:TU),m6=[some (.int n),some (.ref a),some (.ref ll),some (.int ((((lsN n).map V.int).length:Int)-1)),some (.ref l),v5,v6,v7,v8]/\Zv H H'/\H' ll=some (.lst ((lsN n).map V.int))/\H' l=some (.lst (M.map V.int))/\M.length=n/\
     (∀j,co (WD M (RN n)) j=co (WD (Wg n ws) (RN n)) j)/\∀t,n-i<=t->co M t=0)
    ⟨M,_,_,_,_,rfl,sm,o0,o7,m8,λj=>by rw[n6],λt ht=>WE (by omega)⟩ ?_ ?_
   ·rintro i p8 t5 hi ⟨c2,t6,t7,t8,t9,rfl,sm2,m5,O,Y,hP,hz⟩
    generalize hk:n-1-i=k;have ek:(n:Int)-1-(i:Int)=(k:Int):=by omega
    rw[ek];have u5:k<n:=by omega
    have u9:YL n<=k:=by omega
    refine⟨_,rfl,_,rfl,l,_,_,.int (co c2 k),rfl,rfl,.of O,ZbX (by omega),?_⟩;refine⟨_,rfl,rfl,_,rfl,YE (λhh=>?_) (λhh=>?_)⟩
    ·refine⟨_,rfl,ll,rfl,.inl ⟨⟨_,.of m5⟩,?_⟩⟩
     obtain⟨r1,r2,r3,r4⟩:=ZhQ G Y u5 u9;refine Jd UY (λj n8 H3=>∃(c3:TZ) (u6 u8:TU),n8=[some (.int n),some (.ref a),some (.ref ll),some (.int ((((lsN n).map V.int).length:Int)-1)),some (.ref l),some (.int k),u6,some (.int (co c2 k)),u8]/\Zv H H3/\H3 ll=some (.lst ((lsN n).map V.int))/\H3 l=some (.lst (c3.map V.int))/\c3.length=n/\
       qIn ((lsN n).drop j) (k-YL n+j) (co c2 k) c3=qIn (lsN n) (k-YL n) (co c2 k) c2)
      ⟨c2,_,_,rfl,sm2,m5,O,Y,rfl⟩ (λj n8 H3 h=>.of h.choose_spec.choose_spec.choose_spec.2.2.1) ?_ ?_
     ·rintro j y n8 H3 T' hy ⟨c3,u6,u8,rfl,sm3,g1,g2,g3,g4⟩ nT
      obtain⟨hj,rfl⟩:=Vq hy;have y4:=G.l2;have kj:k-YL n+j<c3.length:=by omega
      have eI:V.int ((k:Int)-((((lsN n).map V.int).length:Int)-1)+(j:Int))=V.int ((k-YL n+j:Nat):Int):=congrArg V.int (by omega);have q0:=Zv.upd (o:=.tup [.int j,.int (co (lsN n) j)]) nT _ _ g2;have cb:=U3 G.sm j;refine⟨T',_,rfl,.of Zu,rfl,_,_,rfl,_,_,rfl,rfl,_,rfl,_,rfl,_,rfl,_,_,rfl,rfl,_,rfl,_,_,rfl,rfl,l,_,k-YL n+j,.int (co c3 (k-YL n+j)),rfl,eI,q0,Zel kj,_,rfl,_,rfl,_,_,rfl,rfl,.inr ⟨by omega,by omega⟩,_,_,rfl,rfl,l,_,_,k-YL n+j,rfl,eI,q0,?_,?_⟩
      ·rw[Za];exact Vt kj
      ·refine⟨c3.set (k-YL n+j) (co c3 (k-YL n+j)-co c2 k*co (lsN n) j),_,_,rfl,(sm3.trans (Zv.upd nT)).updr o9,?_,?_,?_,?_⟩
       ·rw[Zz (bd p4)];exact Zv.upd nT _ _ g1
       ·rw[Zu,Vk]
       ·rw[ba];exact g3
       ·rw[<-g4,Uf hj,Num.qIn]
        rfl
     ·rintro n8 H3 ⟨c3,u6,u8,rfl,sm3,g1,g2,g3,g4⟩
      rw[Za,fw,Num.qIn] at g4;refine⟨c3,_,_,_,_,rfl,sm3,g1,g2,g3,λj=>?_,λt ht=>?_⟩
      ·rw[g4,r2 j];exact hP j
      ·rw[g4]
       by_cases e:t=k
       ·rw[e];exact r3
       ·rw[r4 t (by omega)];exact hz t (by omega)
    ·have h0:co c2 k=0:=by
      apply ai;intro w8;apply hh;rw[Yu];simp[w8]
     refine⟨c2,_,_,_,_,rfl,sm2,m5,O,Y,hP,λt ht=>?_⟩;by_cases e:t=k
     ·rw[e];exact h0
     ·exact hz t (by omega)
   ·rintro p8 t5 ⟨c2,t6,t7,t8,t9,rfl,sm2,m5,O,Y,hP,hz⟩
    refine⟨_,rfl,_,rfl,_,rfl,l,_,rfl,.of O,λp1 h1=>⟨p1,_,rfl,.inl ⟨.of Zu,λqq r6=>?_⟩⟩⟩;rw[o8,Zi9 _ (by rw[Za];omega),<-List.map_take] at r6 ⊢;refine q qq _ ((sm2.trans (Zv.upd h1)).trans (Zv.upd r6)) ?_;rw[Zu,Zkd G Y (λt ht=>hz t (by omega)) hP ws rfl]
end
end N47
namespace C47
open PySem L2 PySem.Spec PyProof.Rows
open Tb Pm
noncomputable abbrev ZhC:Stmt:=top 29
def bkM (p x:Nat):Nat:=((ac p).find? λy=>y*x % p == 1).getD 0
theorem Zpz {p x y j:Nat}(M:y<p)(q:j<p)(h:y*x % p=1)(h':j*x % p=1):y=j:=by
 have J:y*(j*x) % p=y % p:=by rw[<-Nat.mul_mod_mod,h',iB]
 have O:j*(y*x) % p=j % p:=by rw[<-Nat.mul_mod_mod,h,iB]
 have Y:y*(j*x)=j*(y*x):=by rw[<-ke,dw y j,ke]
 rw[Y,O,aT M,aT q] at J;exact J.symm
theorem Zmi {p x y:Nat}(j:y<p)(h:y*x % p=1):bkM p x=y:=by
 unfold bkM;cases q:(ac p).find? λy=>y*x % p == 1 with
 |none=>
  have:=iR.mp q y (af.mpr j);rw[h] at this;exact absurd rfl this
 |some z=>
  have J:=af.mp (gh q);have M:z*x % p=1:=eq_of_beq (jC (p:=λy=>y*x % p == 1) q);exact Zpz J j M h
def ofF (n r p:Nat)(q:Int)(z:Nat)(o:Nat->Int)(j:Nat):Int:=if j % (n / r)=0 then q*(bkM p r:Int)*We r (λk=>o k*((z ^ (j*k % n) % p:Nat):Int)) % (p:Int) else 0
def Ziu (n:Nat)(v:Nat->Int):TZ:=Num.Vp n (N47.YL n) (N47.RN n) ((ac n).map v)
inductive Zbh (vs:TV) (H:Hp) (Q:VK) (E03:XK):Prop
 |mk (wa oa ra:Addr) (r m n p z:Nat) (share:Int) (wk one:Nat->Int):(vs=[.ref wa,.ref oa,.int share,.ref ra,.int p])->(H wa=some (.lst (ZF r wk)))->(H oa=some (.lst (ZF m one)))->(H ra=some (.lst (Jp p z n)))->(1<=n)->(n<=60)->(m<=60)->(1<=r)->(r<=n)->(r<p)->(p<=100000)->(PrM p)->(Zjr m p one)->((∀k,k<r->∃c:Nat,c<m/\wk k=(c:Int)))->(-(2 ^ 40)<share)->(share<2 ^ 40)->(∀q H',Zv H H'->H' q=some (.tup ((Ziu n (ofF n r p share z λk=>one (wk k).toNat)).map V.int))->Q (.ref q) H')->Zbh vs H Q E03
theorem Zpi {J:It}{q:Hp->Prop}{xs:TV}(S:Zjw J q xs):Zey J q (((ac xs.length).map nV).zip xs) where
 go:=λi H h j=>S.go i H h (by rw[eS,Za,Zg,kQ] at j;exact j)
 yld:=λi H x M h O=>by
  obtain⟨T,y,rfl,Y,rfl,e⟩:=S.yld i H x M h O;have j:=(ae.mp e).1;refine⟨T,.int i,y,rfl,Y,rfl,?_⟩;rw[gm,Zc,aj j];exact⟨rfl,e⟩
 stop:=λi H h j=>S.stop i H h (by rw[eS,Za,Zg,kQ] at j;exact j)
theorem Zkh {p z n k:Nat}(h:k<n):Vx (Jp p z n) (k:Int)=some (V.int ((z ^ k % p:Nat):Int)):=by
 refine ZI ?_;unfold Jp;rw[Zc,aj h];rfl
theorem ZeD {n j:Nat}(v:Nat->Int)(x:Int)(h:j<n):(ZF n v).set j (V.int x)=ZF n λi=>if i=j then x else v i:=by
 refine a7 λi=>?_;by_cases q:i<n
 ·rw[Yr _ q,i7]
  by_cases e:j=i
  ·subst e
   rw[if_pos rfl,if_pos (by rw[ZT];exact q),if_pos rfl]
  ·rw[if_neg e,Yr _ q,if_neg (λz=>e z.symm)]
 ·rw[ak (by rw[ba,ZT];omega),ak (by rw[ZT];omega)]
theorem WW (n:Nat):(ah n [V.int 0]).flatten=ZF n λ_=>0:=by
 have:∀k a,(ah k [V.int 0]).flatten=(de a k).map λ_=>V.int 0:=λk=>by
  induction k with
  |zero=>intro a;rfl
  |succ k j=>intro a;rw[aK,a6,j (a+1),dY,aN];rfl
 unfold ZF;rw[this n 0,<-dP]
section
variable {P:Program}{w:World}{K:aa}{mg:TX}{base:Heap}
theorem Zin {f:Addr}{fd:FuncData}(F:WA K "number_at" "number_at" ZhC f fd)(T:Bl mg)(T2:ZgT mg)(T5:BlT mg)(GB:Fn P w K mg base Yd 1 "back_by" ["p", "x"] J1)(GN:Fn P w K mg base Yd 3 "number_of" ["n", "powers"] (N47.Zbg K)):Z8 P w K mg base Yd 4 f fd ["walk", "one", "share", "roots", "p"] Zbh:=by
 refine F.ok (FS (N:=["walk", "one", "share", "roots", "p", "n", "step", "part", "often", "j"])) (λvs H Q E h=>?_) (λp3 A n8 s H vs Q E hr h=>?_)
 ·obtain⟨M,oa,ra,r,m,n,p,z,share,wk,one,rfl,_⟩:=h;rfl
 ·obtain⟨M,oa,ra,r,m,n,p,z,share,wk,one,rfl,hW,hO,hR,n1,n60,p4,r1,rn,rp,pl,pr,vo,n9,p6,p7,q⟩:=h
  refine⟨_,Zs (ZH 5 rfl (cb (Yt K) T.len (pc (vn 3) Zt)))
   (Zs (ZH 6 rfl (Zy Wn (vn 5) (cb (Yt K) T.len (pc (vn 0) Zt))))
   (Zs (ZH 7 rfl (Zy ZS (vn 2) (Wh GB hr ZL (pc (vn 4) (pc (cb (Yt K) T.len (pc (vn 0) Zt)) Zt)))))
   (Zs (ZH 8 rfl (Zy WJ (ZR (pc Zx Zt)) (vn 5)))
   (Zs (ZN am rfl (Zqu T.range (pc Zx (pc (vn 5) (pc (vn 6) Zt)))) (gnf 9 rfl)
    (Zw (W2 (Zy ZV (Zy ZS (vn 7) (cb (sumK K rfl) T5.sum (pc (cmp ["k", "c"] [1,3,9,5] ["k", "c", "one", "roots", "j", "n"] rfl (UW K T2.enumerate (pc (vn 0) Zt)) (λ_ _ _ _ _=>g2 K 0 1 rfl (gn 0) (gn 1)) (λ_ _ _ _ _=>ZM)
     (λ_ _ _ _ _=>Zy ZS (ZD (Jb K) (vn 2) (vn 1) (λ_ _=>rfl)) (ZD (Jb K) (vn 3) (Zy ZV (Zy ZS (vn 4) (vn 0)) (vn 5)) (λ_ _=>rfl)))) Zt))) (vn 4)) (Xc (vn 8) (vn 9) YS))))
   (Zw (ZK (Wh GN hr ZL (pc (vn 5) (pc (vn 8) Zt))))))))),?_⟩
  have p2:=pr.p2;have sz:=JE;have o0:1<=n / r:=Nat.div_pos rn (by omega);have p8:n / r<=n:=fP _ _;have q0:((n:Nat):Int) / ((r:Nat):Int)=((n / r:Nat):Int):=rfl;refine⟨_,rfl,ra,_,rfl,.inl (.of hR),?_⟩;rw[Ub];refine⟨_,rfl,_,rfl,M,_,rfl,.inl (.of hW),?_⟩;rw[ZT];refine⟨_,_,rfl,rfl,⟨by omega,by omega⟩,_,rfl,_,rfl,_,rfl,M,_,rfl,.inl (.of hW),?_⟩;rw[ZT];obtain⟨y0,y1,y2,y3⟩:=pr.iv r (by omega) rp;refine⟨p,_,rfl,p2,pl,⟨y0,y1,y2,by rw[<-aG,<-aX,y3];rfl⟩,λy a1 a2 a3=>?_⟩;have hy:y*r % p=1:=by
   have:((y*r % p:Nat):Int)=1:=by rw[aX,aG];exact a3
   omega
  have eb:=Zmi a2 hy;refine⟨_,_,rfl,rfl,.inl ⟨by omega,by omega⟩,?_⟩;refine⟨JF,λl0 o7=>⟨_,rfl,l0,_,_,rfl,rfl,Zu,by omega,by omega,by show 1*((n:Int)).toNat<=sizeLine;omega,λL nL=>?_⟩⟩;rw[Zj,WW];have s1:=Zv.upd (H:=H) (o:=.lst [.int 0]) o7;have o8:H L=none:=s1.free nL;have s2:=s1.trans (Zv.upd (o:=.lst (ZF n λ_=>0)) nL);have h2:upd (upd H l0 (.lst [.int 0])) L (.lst (ZF n λ_=>0)) L=some (.lst (ZF n λ_=>0)):=Zu;generalize upd (upd H l0 (.lst [.int 0])) L (.lst (ZF n λ_=>0))=H2 at s2 h2 ⊢;refine⟨_,rfl,_,rfl,n,n / r,rfl,o0,by omega,by omega,?_⟩;refine ZiV (λi m5 H'=>∃v9:TU,m5=[some (.ref M),some (.ref oa),some (.int share),some (.ref ra),some (.int (p:Nat)),some (.int (n:Nat)),some (.int ((n / r:Nat):Int)),some (.int (share*(y:Int))),some (.ref L),v9]/\Zv H H'/\H' L=some (.lst (ZF n λj=>if j<i*(n / r) then ofF n r p share z (λk=>one (wk k).toNat) j else 0)))
   ⟨_,rfl,s2,by rw[h2];congr 2;exact Wt λj _=>by rw[if_neg (by omega)]⟩ ?_ ?_
  ·rintro i m5 H3 hi ⟨v9,rfl,s3,h3⟩
   have hj:i*(n / r)<n:=by
    unfold WZ at hi;have:(i+1)*(n / r)<=n+n / r-1:=a8 (dS _ hi) (Nat.div_mul_le_self _ _);rw[ci] at this;omega
   have ej:(0:Int)+(i:Int)*((n / r:Nat):Int)=((i*(n / r):Nat):Int):=by rw[aG];omega
   rw[ej];generalize O:i*(n / r)=j at hj;have m6:=s3 _ _ hW;refine⟨_,rfl,_,rfl,M,rfl,.inl ⟨⟨_,.of m6⟩,?_⟩⟩;have zi:Zey (ZlC K M) (λH=>Ws K H M (ZF r wk)) ((ZF r λk=>(k:Int)).zip (ZF r wk)):=by
    have:=Zpi (UY (K:=K) (a:=M) (xs:=ZF r wk));rw[ZT] at this;exact this
   refine XC zi (λH' sm=>.of (sm _ _ m6)) (Zv.refl H3) [some (.ref oa),some (.ref ra),some (.int (j:Nat)),some (.int (n:Nat))] rfl (λk c=>one c.toNat*((z ^ (j*k.toNat % n) % p:Nat):Int)) (by omega) (λk H4 hk s4 R g=>?_) (λD H4 nD s4 hD=>?_)
   ·obtain⟨c,hc,ec⟩:=n9 k hk
    have J:=s3.trans s4;have g1:=vo.ge c hc;have r6:=vo.lt c hc;rw[ec] at g ⊢;rw[Zj,Zj] at g;have m8:((j:Nat):Int)*((k:Nat):Int) % ((n:Nat):Int)=((j*k % n:Nat):Int):=by rw[aX,aG]
    have o9:Vx (Jp p z n) (((j:Nat):Int)*((k:Nat):Int) % ((n:Nat):Int))=some (V.int ((z ^ (j*k % n) % p:Nat):Int)):=by
     rw[m8];exact Zkh (bc _ (by omega))
    refine⟨_,rfl,_,rfl,oa,_,_,_,rfl,rfl,.of (J _ _ hO),ZI (Yr one hc),_,rfl,_,rfl,_,rfl,_,_,rfl,rfl,.inl ⟨by omega,by omega⟩,_,rfl,_,_,rfl,rfl,(by show (0:Int)<(n:Int);omega),ra,_,_,_,rfl,rfl,.of (J _ _ hR),o9,_,_,rfl,rfl,.inl ⟨by omega,by omega⟩,g⟩
   ·rw[Jt] at hD
    have yb:(y:Int)<100000:=by omega
    have mb:-(2 ^ 64)<share*(y:Int)/\share*(y:Int)<2 ^ 64:=by
     have h1:(y:Int) ≥ 1:=by omega
     constructor
     ·have:share*(y:Int) ≥ -(2 ^ 40)*100000:=by
       have a:share*(y:Int) ≥ (-(2 ^ 40))*(y:Int):=c9 (by omega) (by omega);have b:(-(2 ^ 40):Int)*(y:Int) ≥ -(2 ^ 40)*100000:=by omega
       omega
      omega
     ·have:share*(y:Int)<=(2 ^ 40)*(y:Int):=c9 (by omega) (by omega)
      omega
    have J:=s3.trans s4;refine⟨D,_,rfl,.of hD,_,_,rfl,rfl,.inl mb,_,rfl,_,_,rfl,rfl,(by show (0:Int)<(p:Int);omega),_,rfl,_,rfl,L,_,_,j,rfl,rfl,s4 _ _ h3,Ja (by rw[ZT];exact hj),?_⟩;refine⟨_,rfl,J.updr o8,?_⟩;rw[Zu,ZeD _ _ hj];congr 2;refine Wt λa ha=>?_;have Y:j % (n / r)=0:=by rw[<-O];exact Nat.mul_mod_left _ _
    by_cases e1:a=j
    ·rw[if_pos e1,if_pos (by rw[e1,<-O,ci];omega),e1]
     unfold ofF;rw[if_pos Y,eb];rfl
    ·rw[if_neg e1]
     by_cases e2:a<j
     ·rw[if_pos (by rw[O];exact e2),if_pos (by rw[ci,O];omega)]
     ·rw[if_neg (by rw[O];exact e2)]
      by_cases e3:a<(i+1)*(n / r)
      ·rw[if_pos e3]
       unfold ofF;rw[if_neg];intro hz;rw[ci,O] at e3;obtain⟨q1,n6⟩:=bf hz;obtain⟨q2,r8⟩:=bf Y;have:i<q1:=by
        apply ai;intro zz;have h4:(n / r)*q1<=(n / r)*i:=fS _ (by omega);rw[<-n6,dw,O] at h4;omega
       have h5:(n / r)*(i+1)<=(n / r)*q1:=fS _ (by omega);rw[<-n6,jz,iB,dw,O] at h5;omega
      ·rw[if_neg e3]
  ·rintro m5 H3 ⟨v9,rfl,s3,h3⟩
   have big:n<=WZ n (n / r)*(n / r):=by
    unfold WZ;have h1:=Nat.div_add_mod (n+n / r-1) (n / r);have h2:=bc (n+n / r-1) (show 0<n / r by omega);rw[dw] at h1;omega
   have e3:(ZF n λj=>if j<WZ n (n / r)*(n / r) then ofF n r p share z (λk=>one (wk k).toNat) j else 0)=ZF n (ofF n r p share z λk=>one (wk k).toNat):=Wt λj hj=>if_pos (by omega)
   rw[e3,Jt] at h3;refine⟨_,rfl,_,rfl,n,L,_,rfl,n1,n60,.inl (.of h3),by rw[Za,Zg];omega,λq' H4 s4 h4=>?_⟩;exact q q' H4 (s3.trans s4) h4
end
noncomputable abbrev Zhy:Stmt:=top 4
noncomputable abbrev ZlU:Stmt:=top 5
inductive Zbc (vs:TV) (H:Hp) (Q:VK) (E03:XK):Prop
 |mk (g:Addr) (t:T9) (a r:Nat):(vs=[.ref g,.int a])->(GT H g t)->(PW t)->(a<t.length)->(Rd t a r)->(Q (.int r) H)->Zbc vs H Q E03
inductive ZdS (vs:TV) (H:Hp) (Q:VK) (E03:XK):Prop
 |mk (g:Addr) (t:T9) (rs:Nat->Nat):(vs=[.ref g])->(GT H g t)->(PW t)->((∀a,a<t.length->Rd t a (rs a)))->(∀(f:Nat) H',Zv H H'->Lc rs t.length f->Q (.int f) H')->ZdS vs H Q E03
section
variable {P:Program}{w:World}{K:aa}{mg:TX}{base:Heap}
theorem Zij {f:Addr}{fd:FuncData}(F:WA K "round_of" "round_of" Zhy f fd):Z8 P w K mg base Yd 1 f fd ["group", "a"] Zbc:=by
 refine F.ok (FS (N:=["group", "a", "k", "found"])) (λvs H Q E h=>?_) (λm5 A Y s H vs Q E hr h=>?_)
 ·obtain⟨g,t,a,r,rfl,_⟩:=h;rfl
 ·obtain⟨g,t,a,r,rfl,G,Pt,ha,R,q⟩:=h
  refine⟨_,Zs (ZH 2 rfl Zx) (Zs (ZH 3 rfl (vn 1))
   (Zs (Yp am (ZP Jy (vn 3) Zx (ZW _))
    (Zs (ZH 3 rfl (ZD (JW K) (ZD (JW K) (vn 0) (vn 3) (λ_ _=>rfl)) (vn 1) (λ_ _=>rfl)))
    (Zw (Xb (i:=2) (Ya (by kernel_rfl)) rfl (YY (by kernel_rfl)) Zx Js (.inl rfl)))))
   (Zw (ZK (vn 2))))),?_⟩
  have r1:=R.r1;refine⟨_,rfl,?_⟩;refine Yh (λm j O=>∃k:Nat,j=[some (.ref g),some (.int a),some (.int k),some (.int (it t a k:Nat))]/\O=H/\1<=k/\k<=r/\m=r-k)
   (λj O=>∃v3:TU,j=[some (.ref g),some (.int a),some (.int r),v3]/\O=H) ?hend ⟨r-1,1,by rw[Zej Pt ha];rfl,rfl,Zq _,r1,rfl⟩ ?turn
  case hend=>
   rintro j O ⟨v3,rfl,rfl⟩;exact⟨_,rfl,q⟩
  case turn=>
   rintro J m j O ⟨k,rfl,rfl,k1,kr,hm⟩;refine⟨_,rfl,rfl,_,rfl,?_⟩;refine YE (λM=>?_) (λM=>?_)
   ·have M:it t a k≠0:=λz=>by
     rw[Yu,z] at M;simp at M
    have m6:k<r:=bu kr λz=>M (z▸R.z);obtain⟨rs,r2,g1,_,g2,g3,g4⟩:=G.at Pt (Jc Pt ha k);refine⟨_,λ_ _ z=>z,_,rfl,_,rfl,g,_,_,_,rfl,rfl,.of g1,g2,_,rfl,r2,_,_,_,rfl,rfl,g3.sq,g4 a ha,_,rfl,_,_,rfl,rfl,r-(k+1),by omega,k+1,?_,rfl,by omega,by omega,rfl⟩;rfl
   ·have M:it t a k=0:=by
     apply ai;intro z;apply M;rw[Yu];simp[z]
    have:k=r:=by
     apply ai;intro z;exact R.nz k k1 (by omega) M
    exact J _ _ ⟨_,by rw[this],rfl⟩
theorem ZkM {f:Addr}{fd:FuncData}(F:WA K "full_round" "full_round" ZlU f fd)(T:Bl mg)(GR:Fn P w K mg base Yd 1 "round_of" ["group", "a"] Zbc):Z8 P w K mg base Yd 2 f fd ["group"] ZdS:=by
 refine F.ok (FS (N:=["group", "found", "a", "step"])) (λvs H Q E h=>?_) (λn6 A m8 s H vs Q E hr h=>?_)
 ·obtain⟨g,t,rs,rfl,_⟩:=h;rfl
 ·obtain⟨g,t,rs,rfl,G,Pt,R,q⟩:=h
  refine⟨_,Zs (ZH 1 rfl Zx) (Zs (ZN am rfl (WI T.range (pc (cb (Yt K) T.len (pc (vn 0) Zt)) Zt)) (gn 2)
    (Zs (ZH 3 rfl (vn 1))
    (Zw (Yp am (ZP Jy (Zy ZV (vn 1) (Wh GR hr ZL (pc (vn 0) (pc (vn 2) Zt)))) Zx (ZW _)) (Zw (Xb (i:=1) (Ya (by kernel_rfl)) rfl (YY (by kernel_rfl)) (vn 3) Js (.inl rfl)))))))
   (Zw (ZK (vn 1)))),?_⟩
  have n1:=Pt.n1;have n8:=Pt.n60;obtain⟨gs,g1,g2,_⟩:=id G;have el:(gs.map V.ref).length=t.length:=by rw[Za,g2]
  refine⟨_,rfl,g,_,rfl,.inr (.of g1),_,rfl,by omega,by rw[el];omega,?_⟩;rw[Zj,el];refine Z0 (λi m5 H'=>∃(f:Nat) (v2 v3:TU),m5=[some (.ref g),some (.int f),v2,v3]/\Zv H H'/\Lc rs i f) ⟨1,_,_,rfl,Zv.refl _,⟨Zq _,λa ha=>absurd ha (dC _),λx _=>Nat.mod_one x⟩⟩ ?_ ?_
  ·rintro i m5 H' hi ⟨f,v2,v3,rfl,sm,L⟩
   rw[show (0:Int)+(i:Int)=(i:Int) by omega];have Ri:=R i hi;have n9:=Ri.r1;have L2:Lc rs (i+1) (upTo (rs i) f 61 f):=L.step (B:=t.length) n1 (λa ha=>(R a (by omega)).dv) (by omega);have m6:=L2.dv i (by omega);refine⟨_,rfl,?_⟩;refine Yh (λm j J=>∃x:Nat,j=[some (.ref g),some (.int x),some (.int i),some (.int f)]/\J=H'/\upTo (rs i) f m x=upTo (rs i) f 61 f)
    (λj J=>j=[some (.ref g),some (.int (upTo (rs i) f 61 f:Nat)),some (.int i),some (.int f)]/\J=H') ?hend ⟨61,f,rfl,rfl,rfl⟩ ?turn
   case hend=>
    rintro j J ⟨rfl,rfl⟩;exact⟨_,_,_,rfl,sm,L2⟩
   case turn=>
    rintro O m j J ⟨x,rfl,rfl,Y⟩;have eT:(x:Int) % ((rs i:Nat):Int)=((x % rs i:Nat):Int):=by push_cast;rfl
    refine⟨_,rfl,_,rfl,_,rfl,g,t,i,rs i,rfl,G.mono sm,Pt,hi,Ri,_,_,rfl,rfl,(by show (0:Int)<(rs i:Nat);omega),rfl,_,rfl,?_⟩;refine YE (λM=>?_) (λM=>?_)
    ·have M:x % rs i≠0:=λz=>by
      rw[Yu,eT,z] at M;simp at M
     cases m with
     |zero=>
      have Y:x=upTo (rs i) f 61 f:=Y;rw[<-Y] at m6;exact absurd m6 M
     |succ m=>
      rw[Tb.upTo,if_neg M] at Y;exact⟨_,λ_ _ z=>z,_,rfl,_,rfl,_,_,rfl,rfl,m,by omega,x+f,rfl,rfl,Y⟩
    ·have M:x % rs i=0:=by
      apply ai;intro z;apply M;rw[Yu,eT];simp;omega
     have:x=upTo (rs i) f 61 f:=by
      cases m with
      |zero=>exact Y
      |succ m=>rw[Tb.upTo,if_pos M] at Y;exact Y
     exact O _ _ ⟨by rw[this],rfl⟩
  ·rintro m5 H' ⟨f,v2,v3,rfl,sm,L⟩
   exact⟨_,rfl,q f H' sm L⟩
end
end C47
namespace PyZ
open PySem PyProof PyProof.Rows SeqAt
open AutoSeq1 (wpAny_loadPart')
theorem Zg5 (l b:Addr)(items j:Array Value)(n n2:Nat)(dd n8:Option Addr)(sl n9:Array (Option Value)){xs ys:TZ}(hx:aZ items.toList xs)(hy:aZ j.toList ys) :
  kH (cg.«tuple.__lt__» ⟨[.ref l,.ref b],[]⟩)
   (λA R s=>s.heap.get? l=some {cls:=.type "tuple",dict:=dd,data:=.seq items n,slots:=sl}/\s.heap.get? b=some {cls:=.type "tuple",dict:=n8,data:=.seq j n2,slots:=n9}/\
    R (.ok (.ret (.bool (JV xs ys)))) s):=
 .of_wp λm6 w A R s h=>by
  obtain⟨hp,g,d,tk,os⟩:=s;obtain⟨hl,hb,h⟩:=h;have f2:=dX;have sx:items.size=xs.length:=by rw[<-JB hx,Zr]
  have sy:j.size=ys.length:=by rw[<-JB hy,Zr]
  have hZ:(items.toList.zip j.toList).length=min items.size j.size:=by simp
  wp_walk using wpAny_loadPart' hl,wpAny_loadPart' hb,wpAny_forIn_list _ (λrest b s'=>b.1=none/\s'=⟨hp,g,d,tk,os⟩/\∃i,rest=(items.toList.zip j.toList).drop i/\
   R (.ok (.ret (.bool (Zaj (decide (xs.length<ys.length)) (xs.drop i) (ys.drop i))))) ⟨hp,g,d,tk,os⟩) _
  case turn=>
   rintro⟨y,x⟩ rest b s' ⟨M,rfl,i,O,J⟩;have m8:i<(items.toList.zip j.toList).length:=by
    rcases cp i (items.toList.zip j.toList).length with Y|Y
    ·exact Y
    ·rw[List.drop_of_length_le Y] at O;cases O
   have hm:i<min items.size j.size:=hZ▸m8;have h1:i<items.size:=aC hm (fO _ _);have h2:i<j.size:=aC hm (Nat.min_le_right _ _);rw[bR m8] at O;injection O with n6 m5;have o0:y=items[i]:=by have:=congrArg i5 n6;simpa using this
   have o7:x=j[i]:=by have:=congrArg Prod.snd n6;simpa using this
   subst o0 o7;obtain⟨a,ta,ex,vx⟩:=XB hx (i:=i) (v:=items[i]) (by simp[h1]);obtain⟨c,tc,ey,vy⟩:=XB hy (i:=i) (v:=j[i]) (by simp[h2]);rw[ZaL ex ey] at J;rw[vx,vy];refine Zl (fM _ _ _ _ m6 w _ _ ?_);by_cases e:a=c
   ·rw[if_pos e] at J
    rw[show (a == c)=true from beq_iff_eq.mpr e]
    wp_walk
    exact⟨rfl,rfl,i+1,m5,J⟩
   ·rw[if_neg e] at J
    rw[show (a == c)=false from beq_eq_false_iff_ne.mpr e];simp only[Bool.not_false,if_true];refine Zl (fh ?_);refine Zl (show wpAny _ _ (compareOp .Lt (.int a ta) (.int c tc)) _ _ _ from lt_int ?_)
    wp_walk
    exact⟨_,rfl,J⟩
  case fin=>
   rintro⟨b1,b2⟩ s' ⟨M,rfl,i,O,J⟩;simp only at M;subst M;have o9:min items.size j.size<=i:=by
    rcases cp i (items.toList.zip j.toList).length with Y|Y
    ·rw[bR Y] at O;cases O
    ·exact hZ▸Y
   rw[UR (by
    rcases cp i xs.length with q|q
    ·exact .inr (ak (by omega))
    ·exact .inl (ak q))] at J
   wp_walk
   refine⟨_,rfl,?_⟩;rw[sx,sy];exact J
  case h=>
   exact⟨rfl,rfl,0,rfl,h⟩
def ZiE (fin:Bool):T8->T8->Bool
 | [],_=>fin
 |_::_,[]=>fin
 |x::j,y::q=>if x=y then ZiE fin j q else JV x y
def Ud (xs ys:T8):Bool:=ZiE (decide (xs.length<ys.length)) xs ys
def Xo (h:Heap):List Value->T8->Prop
 | [],[]=>True
 |v::q,x::J=>(∃a j,v=.ref a/\h.IsTuple a j/\aZ j.toList x)/\Xo h q J
 |_,_=>False
section
variable {prog:Program}{w:World}{A:Around}{E:TY}{s:Shared}
theorem Zlb {us vs:List Value}{xs ys:TZ}(q:aZ us xs)(j:aZ vs ys)(h:us=vs):xs=ys:=by
 subst h;induction q generalizing ys with
 |nil=>cases j;rfl
 |cons _ _ _ J=>cases j with|cons _ _ r=>rw[J r]
theorem ZnW {xs ys:TZ}:((ac (min xs.length ys.length)).all (λj=>xs.getD j 0 == ys.getD j 0) && xs.length == ys.length)=decide (xs=ys):=by
 by_cases e:xs=ys
 ·subst e
  rw[decide_eq_true rfl,beq_self_eq_true,j4,az];intro j _;exact beq_self_eq_true _
 ·rw[decide_eq_false e]
  cases q:((ac (min xs.length ys.length)).all (λj=>xs.getD j 0 == ys.getD j 0) && xs.length == ys.length) with
  |false=>rfl
  |true=>
   refine absurd ?_ e;rw[ag,az] at q;have M:xs.length=ys.length:=eq_of_beq q.2;refine a7 λi=>?_;by_cases J:i<xs.length
   ·have:=eq_of_beq (q.1 i (af.mpr (by omega)))
    rw[Zf J,Zf (by omega)];rw[Zb,Zb,Zf J,Zf (by omega)] at this;exact congrArg some this
   ·rw[ak (by omega),ak (by omega)]
theorem ZgS {a b:Addr}{us vs:Array Value}{xs ys:TZ}(Y:A.units<cLine)(O:s.heap.IsTuple a us)(hb:s.heap.IsTuple b vs)(J:aZ us.toList xs)(M:aZ vs.toList ys):kE A s (.ref a) (.ref b) (decide (xs=ys)):=by
 by_cases e:a=b
 ·subst e
  obtain⟨o,g1,_,n1,d1⟩:=O;obtain⟨o2,k1,_,n2,q⟩:=hb;rw[g1] at k1;cases k1;rw[d1] at q;injection q with q _;subst q;rw[Zlb J M rfl,decide_eq_true rfl];exact EqAt.same _
 ·have sx:us.size=xs.length:=by rw[<-JB J,Zr]
  have sy:vs.size=ys.length:=by rw[<-JB M,Zr]
  have:=RcAt.tuples (A:=A) (s:=s) (e:=λj=>xs.getD j 0 == ys.getD j 0) O hb Y (λj h1 h2=>by
   obtain⟨x,tx,ex,vx⟩:=XB J (i:=j) (v:=us[j]) (by simp[h1]);obtain⟨y,ty,ey,vy⟩:=XB M (i:=j) (v:=vs[j]) (by simp[h2]);rw[vx,vy,Zb,Zb,ex,ey];exact fM _ _ _ _)
  rw[sx,sy,ZnW] at this;exact EqAt.of_refs e this
theorem ZkY {a b:Addr}{us vs:Array Value}{xs ys:TZ}{Q:TY}(hu:A.units<cLine)(ha:s.heap.IsTuple a us)(hb:s.heap.IsTuple b vs)(hx:aZ us.toList xs)(hy:aZ vs.toList ys)(h:Q (.bool (JV xs ys)) s):wpAny (model prog w) A (compareOp .Lt (.ref a) (.ref b)) Q E s:=by
 obtain⟨⟨m6,dd,data,sl⟩,Y,hc,n,hd⟩:=id ha;obtain⟨⟨m5,M,data2,O⟩,j,q,n2,J⟩:=id hb;simp only at hc hd q J;subst hc hd q J;exact richCompare_meets_room (op:=.Lt) ⟨_,Y,rfl⟩ ⟨_,j,rfl⟩ F.slot_tuple_lt F.entry_tuple_lt (F.args_tuple_lt_2 _ _) (Zg5 a b us vs n n2 dd M sl O hx hy)
  ⟨Y,j,show iK (JV xs ys)≠kD/\Q (.bool (JV xs ys)) s from ⟨(λx=>nomatch x),h⟩⟩ hu
theorem Zfs {fin:Bool}{Q:Bool->Shared->Prop}(O:A.units<cLine):∀(M vs:List Value) (xs ys:T8) (i:Nat),Xo s.heap M xs->Xo s.heap vs ys->Q (ZiE fin xs ys) s->W.KatLex prog w A false fin Q (M.zip vs) i s
 | [],vs,xs,ys,i,j,J,q=>by
  cases xs with
  |nil=>exact iN q
  |cons _ _=>exact j.elim
 |_::_,[],xs,ys,i,j,J,q=>by
  cases ys with
  |cons _ _=>exact J.elim
  |nil=>
   cases xs with
   |nil=>exact iN q
   |cons x xs=>exact iN q
 |u::M,v::vs,xs,ys,i,j,J,q=>by
  cases xs with
  |nil=>exact j.elim
  |cons x xs=>
   cases ys with
   |nil=>exact J.elim
   |cons y ys=>
    obtain⟨⟨a,ua,rfl,Y,ia⟩,r1⟩:=j;obtain⟨⟨b,ub,rfl,tb,ib⟩,r2⟩:=J;rw[lZ];refine W.kat_cons ?_;refine ZgS O Y tb ia ib prog w _ _ ?_;rw[ZiE] at q;by_cases e:x=y
    ·rw[if_pos e] at q
     rw[decide_eq_true e];exact W.kat_yes (Zfs O M vs xs ys (i+1) r1 r2 q)
    ·rw[if_neg e] at q
     rw[decide_eq_false e];refine W.kat_no ?_;rw[jM];exact W.kat_one _ _ (ZkY O Y tb ia ib q)
end
end PyZ
namespace PyZ
open PySem PyProof PyProof.Rows SeqAt
theorem ZbN (ys:T8):Ud [] ys=decide (0<ys.length):=rfl
theorem Zc6 (xs:T8):Ud xs []=false:=by
 cases xs with
 |nil=>rfl
 |cons x xs=>
  show decide ((x::xs).length<([]:T8).length)=false;exact decide_eq_false (by simp)
theorem UL (x y:TZ)(xs ys:T8):Ud (x::xs) (y::ys)=if x=y then Ud xs ys else JV x y:=by
 unfold Ud;show (if x=y then ZiE _ xs ys else _)=_
 have e:decide ((x::xs).length<(y::ys).length)=decide (xs.length<ys.length):=by
  simp only[Zi,kf]
 rw[e]
theorem Zfl:∀xs:T8,Ud xs xs=false
 | []=>rfl
 |x::xs=>by rw[UL,if_pos rfl];exact Zfl xs
theorem Zfk:∀{xs ys:T8},Ud xs ys=false->Ud ys xs=false->xs=ys
 | [],[],_,_=>rfl
 | [],_::_,h,_=>by rw[ZbN] at h;simp at h
 |_::_,[],_,h=>by rw[ZbN] at h;simp at h
 |x::xs,y::ys,j,q=>by
  rw[UL] at j q;by_cases e:x=y
  ·rw[if_pos e] at j
   rw[if_pos e.symm] at q;rw[e,Zfk j q]
  ·rw[if_neg e] at j
   rw[if_neg (bd e)] at q;exact absurd (Ue j q) e
theorem ZaI:∀{xs ys O:T8},Ud xs ys=true->Ud ys O=true->Ud xs O=true
 |xs,ys,[],_,h=>by rw[Zc6] at h;cases h
 |xs,[],z::O,h,_=>by rw[Zc6] at h;cases h
 | [],y::ys,z::O,_,_=>by rw[ZbN];exact decide_eq_true (by simp)
 |x::xs,y::ys,z::O,J,q=>by
  rw[UL] at J q ⊢;by_cases M:x=y
  ·rw[if_pos M] at J
   by_cases j:y=z
   ·rw[if_pos j] at q
    rw[if_pos (M.trans j)];exact ZaI J q
   ·rw[if_neg j] at q
    rw[if_neg (by rw[M];exact j),M];exact q
  ·rw[if_neg M] at J
   by_cases j:y=z
   ·rw[if_neg (by rw[<-j];exact M),<-j]
    exact J
   ·rw[if_neg j] at q
    have Y:=VI J q;rw[if_neg (λe=>by rw[e,ZbP] at Y;cases Y)];exact Y
def rkR (yss:X0)(i:Nat):Nat:=(ac yss.length).countP λk=>Ud (yss.getD k []) (yss.getD i [])
theorem ZeY {yss:X0}{i j:Nat}(q:i<yss.length)(O:j<yss.length):Ud (yss.getD i []) (yss.getD j [])=decide (rkR yss i<rkR yss j):=by
 have J:∀{i j:Nat},i<yss.length->Ud (yss.getD i []) (yss.getD j [])=true->rkR yss i<rkR yss j:=λ{i j} q h=>by
  refine VM (λk _ Y=>ZaI Y h) ⟨i,af.mpr q,Zfl _,h⟩
 cases e:Ud (yss.getD i []) (yss.getD j []) with
 |true=>rw[decide_eq_true (J q e)]
 |false=>
  cases M:Ud (yss.getD j []) (yss.getD i []) with
  |true=>
   have:=J O M;rw[decide_eq_false (by omega)]
  |false=>
   have:=Zfk e M;unfold rkR;rw[this];exact (decide_eq_false (by omega)).symm
theorem ZdY {yss:X0}(M:1<=yss.length):∃p,XV yss.length (λi j=>Ud (yss.getD i []) (yss.getD j [])) (gt yss.length)=some p/\p.toList.Perm (ac yss.length)/\(p.toList.map λi=>yss.getD i []).Pairwise λa b=>Ud b a=false:=by
 obtain⟨p,e,q,J⟩:=ZeL M (rkR yss);refine⟨p,(XU (λi j O Y=>ZeY O Y) _).trans e,q,?_⟩;rw[gw] at J ⊢;refine dH (λ{a b} ha hb m5=>?_) J;have la:=af.mp (q.mem_iff.mp ha);have lb:=af.mp (q.mem_iff.mp hb);rw[ZeY lb la];exact decide_eq_false (by omega)
theorem Xo.len {h:Heap}:∀{us:List Value}{xs:T8},Xo h us xs->us.length=xs.length
 | [],[],_=>rfl
 | [],_::_,h=>h.elim
 |_::_,[],h=>h.elim
 |_::_,_::_,h=>by rw[Zi,Zi,h.2.len]
theorem Zdc {h:Heap}:∀(as:TW) (yss:X0),as.length=yss.length->(∀(i:Nat) a,as[i]?=some a->∃(j:List Value) (ys:T8),yss[i]?=some ys/\h.IsTuple a j.toArray/\Xo h j ys/\ys≠[])->
  ∃fs:List Value,W.KatTups h (as.map ax) fs/\fs.length=as.length/\∀v∈fs,∃a j,v=ax a/\h.IsTuple a j
 | [],[],_,_=>⟨[],lW,rfl,λv q=>by cases q⟩
 | [],_::_,h,_=>by cases h
 |_::_,[],h,_=>by cases h
 |a::as,ys::yss,M,g=>by
  obtain⟨j,O,e,⟨o,Y,c,n,d⟩,J,ne⟩:=g 0 a rfl;cases e;obtain⟨fs,k,l,f⟩:=Zdc as yss (cv M) λi a' hi=>g (i+1) a' hi
  match j,ys,J,ne with
  |_,[],_,ne=>exact absurd rfl ne
  | [],_::_,J,_=>exact J.elim
  |u::j,y::ys,J,_=>
   obtain⟨⟨b,ub,rfl,tb,_⟩,_⟩:=J;refine⟨ax b::fs,lL Y c d (by simp) k,by rw[Zi,Zi,l],λv q=>?_⟩;rcases aD.mp q with rfl|q
   ·exact⟨b,ub,rfl,tb⟩
   ·exact f v q
section
variable {prog:Program}{w:World}{A:Around}{E:TY}{s:Shared}
theorem Zbm {l L:Addr}{m:TX}{as:TW}{yss:X0}{p:Array Nat}{Q:TY}(hu:A.units+2<cLine)(n8:s.heap.Ns L m)(hl:s.heap.IsList l (as.map ax).toArray)(n2:2<=as.length)(n9:as.length<64)(hy:as.length=yss.length)
  (ht:∀h':Heap,(∀b o,b≠L->s.heap.get? b=some o->h'.get? b=some o)->∀(i:Nat) a,as[i]?=some a->∃(us:List Value) (ys:T8),yss[i]?=some ys/\h'.IsTuple a us.toArray/\Xo h' us ys/\ys≠[])
  (hp:XV as.length (λi j=>Ud (yss.getD i []) (yss.getD j [])) (gt as.length)=some p)
  (q:∀D c h',s.heap.get? D=none->D≠L->(∀b o,b≠L->s.heap.get? b=some o->h'.get? b=some o)->h'.Ns L m->h'.get? D=some (mr (p.toList.map λi=>(as.map ax).getD i be).toArray c)->Q (.ref D) {s with heap:=h'}) :
  wpAny (model prog w) A (call (.builtin "sorted") [.ref l]) Q E s:=by
 have fr:Fr (Zan s.heap L) L s.heap m:=by
  refine⟨n8,λb o e=>?_,?_⟩
  ·by_cases hb:b<L
   ·rw[YU hb] at e;exact e
   ·rw[WV (fC hb)] at e
    cases e
  ·show (s.heap.objs.extract 0 L).size<=L
   rw[fY,ck];exact fO ..
 have nw:News (Zan s.heap L) L s.heap (Yk s.heap L):=λx hx=>by
  obtain⟨J,h2⟩:=Yo.mp hx;exact⟨h2,bq J,WV (cO J)⟩
 have lv:(as.map ax).length=as.length:=fN ..;refine lJ fr nw hl (by rw[lv];exact n2) (by rw[lv];exact n9) λD e1 h' m6 M big=>?_;have kept:∀b o,b≠L->s.heap.get? b=some o->h'.get? b=some o:=λb o hb e=>by
  rcases cp b L with J|J
  ·exact m6.keep b o (by rw[YU J];exact e)
  ·exact (M (b,o) (ao _ (Yo.mpr ⟨bu J (bd hb),e⟩))).1
 have dn:s.heap.get? D=none:=by
  cases e:s.heap.get? D with
  |none=>rfl
  |some o=>
   obtain⟨_,dL,dc⟩:=M _ (ar ..);rcases cp D L with J|J
   ·rw[YU J] at dc
    rw[dc] at e;cases e
   ·exact absurd (big (D,o) (Yo.mpr ⟨bu J (bd dL),e⟩)) (bK _)
 have dL:D≠L:=(M _ (ar ..)).2.1;have m5:=ht h' kept;obtain⟨fs,kt,fl,fi⟩:=Zdc as yss hy m5;refine W.kat_kind (T:=b9 "tuple") kt (by omega) (λv hv=>?_) (by decide +kernel) ?_
 ·obtain⟨a,us,rfl,⟨o,g1,g2,_⟩⟩:=fi v hv
  intro A Q E s' hk q;refine ir (T:="tuple") ⟨o,hk _ _ g1,g2⟩ q
 ·rw[lv]
  have kb:(b9 "tuple" != b9 "tuple")=false:=by decide +kernel
  rw[kb];refine XA (cmp:=λi j=>Ud (yss.getD i []) (yss.getD j [])) (λi j C hi hj c=>?_) _ p _ hp ?_
  ·unfold W.kas_ask
   obtain⟨us,ys,e,⟨o,g1,g2,n1,g3⟩,ia,_⟩:=m5 i as[i] (Zf hi);obtain⟨o0,m8,e2,⟨o2,k1,k2,o8,k3⟩,n6,_⟩:=m5 j as[j] (Zf hj);have v1:(as.map ax).getD i be=.ref as[i]:=by
    rw[Zb,Zc,Zf hi];rfl
   have v2:(as.map ax).getD j be=.ref as[j]:=by
    rw[Zb,Zc,Zf hj];rfl
   have w1:yss.getD i []=ys:=by rw[Zb,e];rfl
   have w2:yss.getD j []=m8:=by rw[Zb,e2];rfl
   rw[v1,v2];refine W.kat_lt g1 g3 k1 k3 ?_;refine Zfs (by show A.units+1+1<cLine;omega) us o0 ys m8 0 ia n6 ?_;rw[w1,w2] at c;unfold Ud at c;rw[Zh,Zh,ia.len,n6.len];exact c
  ·refine⟨_,_,m6,M,ki (λx hx=>ay (big x hx)),λo7 c O Y=>?_⟩
   refine q D c o7 dn dL (λb o hb e=>?_) O.ns (Y _ (ar ..)).1;rcases cp b L with J|J
   ·exact O.keep b o (by rw[YU J];exact e)
   ·exact (Y (b,o) (ao _ (Yo.mpr ⟨bu J (bd hb),e⟩))).1
end
end PyZ
namespace L2
open PySem PySem.Spec PyProof.Rows
def RowT (H:Hp)(a:Addr)(ys:T8):Prop:=∃cs:TW,H a=some (.tup (cs.map V.ref))/\cs.length=ys.length/\∀(i:Nat) c,cs[i]?=some c->∃y,ys[i]?=some y/\H c=some (.tup (y.map V.int))
section
variable {X:Cx}{pins:List (Addr×Obj)}{σ:St}{H:Hp}{s:Shared}
inductive ZhW (xs:TV) (H:Hp) (Q:VK):Prop
 |mk (l:Addr) (as:TW) (yss:X0):(xs=[.ref l])->(H l=some (.lst (as.map V.ref)))->(as.length=yss.length)->(as.length<64)->((∀(i:Nat) a,as[i]?=some a->∃ys,yss[i]?=some ys/\ys≠[]/\RowT H a ys))->(∀D js,H D=none->bD js (ac as.length)->(js.map λi=>yss.getD i []).Pairwise (λa b=>PyZ.Ud b a=false)->Q (.ref D) (upd H D (.lst ((js.map λi=>as.getD i 0).map V.ref))))->ZhW xs H Q
theorem Zay (I:Inv X pins σ H s){h':Heap}(kept:∀b o,b≠X.env.locals->s.heap.get? b=some o->h'.get? b=some o):∀(cs:TW) (ys:T8),cs.length=ys.length->(∀(i:Nat) c,cs[i]?=some c->∃y,ys[i]?=some y/\H c=some (.tup (y.map V.int)))->PyZ.Xo h' (cs.map ax) ys
 | [],[],_,_=>trivial
 | [],_::_,h,_=>by cases h
 |_::_,[],h,_=>by cases h
 |c::cs,y::ys,J,g=>by
  obtain⟨y',e,j⟩:=g 0 c rfl;cases e;obtain⟨us,M,⟨o,O,g2⟩,_⟩:=I.tuple (.of j);have q:c≠X.env.locals:=λz=>by rw[z,I.free] at j;cases j
  exact⟨⟨c,us.toArray,rfl,⟨o,kept c o q O,g2⟩,by simpa using JG M⟩,Zay I kept cs ys (cv J) λi Y hi=>g (i+1) Y hi⟩
theorem Zeu (hu:X.A.units+64<cLine):YV X (.builtin "sorted") ZhW:=by
 intro pins s σ H xs us Q I r h;obtain⟨l,j,J,rfl,hl,hy,m8,ht,q⟩:=h;obtain⟨u,rfl,ru⟩:=r.one;cases ru;obtain⟨m,hm,n6⟩:=id I.loc;obtain⟨z,p3,n,rv,hlen,e⟩:=I.lstM hl;have ei:=WU rv;subst ei;have m5:s.heap.IsList l (j.map ax).toArray:=(I.list (.of hl)).elim λo9 hh=>by
  obtain⟨O,pl,_⟩:=hh;have:=WU O;rw[this] at pl;exact pl.isList
 have JE:=JE;have n8:∀{a:Addr}{o:HO},H a=some o->a≠X.env.locals:=λ{a o} e z=>by rw[z,I.free] at e;cases e
 by_cases n2:j.length<2
 ·refine PyZ.Vh m5 (by rw[Za];exact n2) ?_
  obtain⟨e1,he⟩:=sortedAll_at s.heap (j.map ax) (j.map ax).toArray;have m6:∀b o,s.heap.get? b=some o->(sortedAll s.heap (j.map ax) (j.map ax).toArray).get? b=some o:=λb o e=>sortedAll_old e;generalize sortedAll s.heap (j.map ax) (j.map ax).toArray=h' at he m6 ⊢;have Y:s.heap.objs.size<=s.heap.objs.size+1:=gE _;generalize s.heap.objs.size+1=D at he Y ⊢;have em:=Zfd n2;have n9:=Zie n2 (λi=>J.getD i []) λa b=>PyZ.Ud b a=false;have fin:=q D (ac j.length) (I.hok.fresh Y) (cP _) n9;rw[em] at fin;have I':Inv X pins σ (upd H D (.lst (j.map V.ref))) {s with heap:=h',toks:=s.toks}:=I.laid (a:=D) (o:=.lst (j.map V.ref)) (t':=s.toks) m6 Y ⟨by rw[Za];omega,j.map ax,e1,Jx j,he⟩;exact⟨.ref D,_,I',rfl,fin⟩
 ·obtain⟨p,hp,M,o0⟩:=PyZ.ZdY (yss:=J) (by omega)
  rw[<-hy] at hp M;have o7:∀i∈p.toList,i<j.length:=λi hi=>af.mp (M.mem_iff.mp hi);have pl:p.toList.length=j.length:=by rw[M.length_eq,Zg]
  have es:(p.toList.map λi=>(j.map ax).getD i be)=(p.toList.map λi=>j.getD i 0).map ax:=by
   rw[aH];refine aW λi hi=>?_;have:=o7 i hi;show (j.map ax).getD i be=ax (j.getD i 0);rw[Zb,Zc,Zf this,Zb,Zf this];rfl
  refine PyZ.Zbm (yss:=J) (p:=p) (by omega) hm m5 (by omega) m8 hy (λh' kept i a hi=>?_) hp (λD c h' dn dL kept o8 hD=>?_)
  ·obtain⟨ys,e1,ne,cs,ha,cl,hc⟩:=ht i a hi
   obtain⟨us,O,⟨o,g1,g2⟩,_⟩:=I.tuple (.of ha);have eu:=WU O;subst eu;exact⟨_,ys,e1,⟨o,kept a o (n8 ha) g1,g2⟩,Zay I kept cs ys cl hc,ne⟩
  ·rw[es] at hD
   obtain⟨I',hH⟩:=I.newL (ys:=(p.toList.map λi=>j.getD i 0).map V.ref) hm n6 dn dL kept o8 (by rw[Za,Za];omega) (Jx _) hD;exact⟨.ref D,_,I',rfl,q D _ hH M o0⟩
end
end L2
namespace C47
open PySem L2 PySem.Spec PyProof.Rows
open Tb Pm
noncomputable abbrev Zhx:Stmt:=top 19
def Xv (t:T9)(n p:Nat)(e:Nat->Nat->Nat)(z:Nat)(j:Nat->Nat)(s x:Nat):TZ:=Ziu n (ofF n (rdT t x) p ((t.length:Int)*(bkM p (j s):Int)) z λk=>(e s (it t x k):Int))
def W0 (t:T9)(n p m:Nat)(e:Nat->Nat->Nat)(z:Nat)(j:Nat->Nat)(s:Nat):T8:=(ac m).map λc=>Xv t n p e z j s (ZG t c)
def ZpF (H:Hp)(r:Addr)(yss:X0):Prop:=∃cs:TW,H r=some (.tup (cs.map V.ref))/\cs.length=yss.length/\∀(i:Nat) c,cs[i]?=some c->∃j,yss[i]?=some j/\RowT H c j
inductive Zbb (vs:TV) (H:Hp) (Q:VK) (E03:XK):Prop
 |mk (g:Addr) (t:T9) (n p m:Nat) (e ω φ:Nat->Nat->Nat) (z:Nat) (dg:Nat->Nat):(vs=[.ref g])->(GT H g t)->(PW t)->(TD t n p m e ω φ z dg)->(∀r yss H',Zv H H'->ZpF H' r yss->yss.Perm ((ac m).map (W0 t n p m e z dg))->yss.Pairwise (λa b=>PyZ.Ud b a=false)->Q (.ref r) H')->Zbb vs H Q E03
theorem _root_.L2.RowT.mono {H j:Hp}{a:Addr}{ys:T8}(h:RowT H a ys)(s:Zv H j):RowT j a ys:=by
 obtain⟨q,J,M,O⟩:=h;refine⟨q,s _ _ J,M,λi c Y=>?_⟩;obtain⟨y,g1,g2⟩:=O i c Y;exact⟨y,g1,s _ _ g2⟩
section
variable {t:T9}{n p m:Nat}{e ω φ:Nat->Nat->Nat}{z:Nat}{dg:Nat->Nat}
theorem ZhS {a r:Nat}(R:Rd t a r){x:Nat}(h:it t a x=0):x % r=0:=by
 rw[UT R] at h;apply ai;intro z;exact R.nz (x % r) (by omega) (bc _ R.r1) h
theorem ZnK {a r:Nat}(R:Rd t a r){x:Nat}(h:x % r=0):it t a x=0:=by
 rw[UT R,h];rfl
theorem _root_.Tb.TD.round (D:TD t n p m e ω φ z dg){rs:Nat->Nat}(R:∀a,a<t.length->Rd t a (rs a)){f:Nat}(L:Lc rs t.length f):f=n:=by
 have q:n % f=0:=L.mn n λa j=>ZhS (R a j) (D.all a j);have J:f % n=0:=D.mn f λa j=>ZnK (R a j) (L.dv a j);have M:=L.f1;have O:=D.n1;have Y:=gP (by omega) (bf q);have d2:=gP (by omega) (bf J);omega
theorem _root_.Tb.TD.rd (D:TD t n p m e ω φ z dg){a r:Nat}(j:a<t.length)(R:Rd t a r):r<=n/\r<p:=by
 have h:=ZhS R (D.all a j);have M:=D.n1;have q:=gP (by omega) (bf h);obtain⟨J,O,_⟩:=D.fit.st;exact⟨q,by omega⟩
end
section
variable {P:Program}{w:World}{K:aa}{mg:TX}{base:Heap}
theorem Zii {f:Addr}{fd:FuncData}(F:WA K "table_of" "table_of" Zhx f fd)(T:Bl mg)(T2:ZgT mg)(GR:Fn P w K mg base Yd 2 "full_round" ["group"] ZdS)(GF:Fn P w K mg base Yd 1 "fit_prime" ["n", "count"] Zhk)(u5:Fn P w K mg base Yd 1 "root_powers" ["n", "p"] Zbd)(GW:Fn P w K mg base Yd 6 "power_walks" ["group"] Za8)(GC:Fn P w K mg base Yd 6 "counts_of" ["group"] Ux)(GA:Fn P w K mg base Yd 4 "taken_apart" ["counts", "p"] Zbl)(GB:Fn P w K mg base Yd 1 "back_by" ["p", "x"] J1)(G1:Fn P w K mg base Yd 1 "first_of" ["one", "count", "p"] (Zbk K))(GN:Fn P w K mg base Yd 4 "number_at" ["walk", "one", "share", "roots", "p"] Zbh):Z8 P w K mg base Yd 7 f fd ["group"] Zbb:=by
 refine F.ok (FS (N:=["group", "n", "p", "roots", "walks", "rows", "one", "share"])) (λvs H Q E h=>?_) (λcdv A u9 s H vs Q E hr h=>?_)
 ·obtain⟨g,t,n,p,m,e,ω,φ,z,dg,rfl,_⟩:=h;rfl
 ·obtain⟨g,t,n,p,m,e,ω,φ,z,dg,rfl,G,Pt,D,q⟩:=h
  refine⟨_,Zs (ZH 1 rfl (Wh GR hr ZL (pc (vn 0) Zt)))
   (Zs (ZH 2 rfl (Wh GF hr ZL (pc (vn 1) (pc (cb (Yt K) T.len (pc (vn 0) Zt)) Zt))))
   (Zs (ZH 3 rfl (Wh u5 hr ZL (pc (vn 1) (pc (vn 2) Zt))))
   (Zs (ZH 4 rfl (Wh GW hr ZL (pc (vn 0) Zt)))
   (Zs (ZH 5 rfl (ZR Zt))
   (Zs (ZN am rfl (itL K (Wh GA hr ZL (pc (Wh GC hr ZL (pc (vn 0) Zt)) (pc (vn 2) Zt)))) (gnf 6 rfl)
    (Zs (ZH 7 rfl (Zy ZS (cb (Yt K) T.len (pc (vn 0) Zt)) (Wh GB hr ZL (pc (vn 2) (pc (Wh G1 hr ZL (pc (vn 6) (pc (cb (Yt K) T.len (pc (vn 0) Zt)) (pc (vn 2) Zt)))) Zt)))))
    (Zw (YG (WC aJ aQ aR Ye (vn 5)
     (pc (ct ZY T.tuple (pc (cmp ["walk"] [6,7,3,2] ["walk", "one", "share", "roots", "p"] rfl (itL K (vn 4)) (λ_ _ _ _ _=>gn 0) (λ_ _ _ _ _=>ZM)
      (λ_ _ _ _ _=>Wh GN hr ZL (pc (vn 0) (pc (vn 1) (pc (vn 2) (pc (vn 3) (pc (vn 4) Zt))))))) Zt)) Zt))))))
   (Zw (ZK (ct ZY T.tuple (pc (cb (Zeu hr.units) T2.sorted (pc (vn 5) Zt)) Zt))))))))),?_⟩
  have sz:=JE;have n60:=D.n60;have w8:=Pt.n60;have N1:=Pt.n1;have C:=D.cd;have p2:=C.pr.p2;have pl:=D.fit.lt;have m1:=C.m1;have w9:=Zls C Pt;have mc:=C.mc;have U:=YM Pt;obtain⟨gs,u1,u2,_⟩:=id G;have el:(gs.map V.ref).length=t.length:=by rw[Za,u2]
  have p6:∀a,a<t.length->Rd t a (rdT t a):=λa ha=>by
   obtain⟨r,R⟩:=Pt.rd a ha;rw[VD R];exact R
  refine⟨_,rfl,g,t,rdT t,rfl,G,Pt,p6,λfr H1 s1 L=>?_⟩;have x9:=D.round p6 L;subst x9;refine⟨_,rfl,_,rfl,g,_,rfl,.inr (.of (s1 _ _ u1)),fr,t.length,p,by rw[el];rfl,D.n1,n60,by omega,D.fit,λH2 s2=>?_⟩;refine⟨_,rfl,_,rfl,fr,p,z,rfl,D.n1,n60,p2,pl,D.rt,λRo H3 nRo s3 y4=>?_⟩;have p7:=(s1.trans s2).trans s3;refine⟨_,rfl,g,t,rfl,G.mono p7,Pt,λWk ws H4 s4 W4=>?_⟩;rw[<-mc] at W4;refine⟨JF,λL nL=>?_⟩;have s5:=Zv.upd (H:=H4) (o:=.lst []) nL;have h5:upd H4 L (.lst []) L=some (.lst ([]:TV)):=Zu;generalize upd H4 L (.lst [])=H5 at s5 h5 ⊢;have r8:=(p7.trans s4).trans s5;have y6:H L=none:=(p7.trans s4).free nL;refine⟨_,rfl,g,t,rfl,G.mono r8,Pt,λCn H6 s6 C6=>?_⟩;rw[<-mc] at C6;refine⟨_,rfl,Cn,t,p,m,e,ω,φ,rfl,C,Pt,pl,C6,λSm cs ss H7 s7 S7=>?_⟩;have p8:=(r8.trans s6).trans s7;have h7:=(s6.trans s7) _ _ h5;obtain⟨S1,S2,S3,S4⟩:=S7;have o0:ss.length=m:=by rw[S3.length_eq,Zg]
  have m6:∀{b:Addr}{xs:TV},xs≠[]->H7 b=some (.lst xs)->b≠L:=λ{b xs} hx hb=>ZbG hb h7 hx;have neT:∀{b:Addr}{xs:TV},H7 b=some (.tup xs)->b≠L:=λ{b xs} hb z=>by rw[z,h7] at hb;cases hb
  have r9:cs.map V.ref≠[]:=λz=>by
   have:=congrArg cN z;rw[Za,S2,o0] at this;simp at this;omega
  have t5:∀{k:Nat}{v:Nat->Int},1<=k->ZF k v≠[]:=λ{k v} hk z=>by
   have:=congrArg cN z;rw[ZT] at this;simp at this;omega
  have y8:=VR S1 (m6 r9 S1);refine⟨Sm,rfl,⟨_,.of S1⟩,?_⟩;have W7:H7 Wk=some (.lst (ws.map V.ref)):=(s5.trans (s6.trans s7)) _ _ W4.at';have R7:H7 Ro=some (.lst (Jp p z fr)):=(s4.trans (s5.trans (s6.trans s7))) _ _ y4;have m8:(ws.map V.ref).length=m:=by rw[Za,W4.len]
  refine WQ (H0:=but H7 L) (Ys (K:=K) (.of y8)) (λi o7 H'=>∃(rs:TW) (v6 v7:TU),o7=[some (.ref g),some (.int (fr:Nat)),some (.int (p:Nat)),some (.ref Ro),some (.ref Wk),some (.ref L),v6,v7]/\Zv (but H7 L) H'/\H' L=some (.lst (rs.map V.ref))/\rs.length=i/\∀(j:Nat) c,rs[j]?=some c->RowT H' c (W0 t fr p m e z dg (ss.getD j 0)))
   ⟨[],_,_,rfl,λb o hb=>(ZbE hb).2,h7,rfl,λj c O=>by simp at O⟩ (λi o7 H' h=>by
    obtain⟨_,_,_,_,sm,_⟩:=h;exact sm) ?_ ?_
  ·rintro i y o7 H8 hy ⟨rs,v6,v7,rfl,s8,h8,rl,o8⟩
   have hi:i<m:=by
    have:=(ae.mp hy).1;rw[Za,S2,o0] at this;exact this
   rw[Zc,Zf (show i<cs.length by omega)] at hy;cases hy;have ho:=S4 i _ (Zf (show i<cs.length by omega));generalize cs[i]'(by omega)=oa at ho ⊢;have J:ss.getD i 0<m:=by
    have:ss.getD i 0∈ss:=by rw[Zb,Zf (by omega)];exact bn _
    exact af.mp (S3.mem_iff.mp this)
   generalize y9:ss.getD i 0=M at ho J;have k8:∀{b:Addr}{o:HO},H7 b=some o->b≠L->H8 b=some o:=λ{b o} hb Y=>s8 b o (VR hb Y);have t6:=k8 ho (m6 (t5 m1) ho);have u8:=k8 (p8 _ _ u1) (neT (p8 _ _ u1));have W8:=k8 W7 (m6 (λY=>by rw[Y] at m8;simp at m8;omega) W7);have t7:Jp p z fr≠[]:=λY=>by
    have:=congrArg cN Y;rw[Ub] at this;have:=D.n1;simp at *;omega
   have R8:=k8 R7 (m6 t7 R7);have Zf2:ZG t 0=0:=by
    have h0:0<(ZA t t.length).length:=by omega
    exact ((U.z _ (U.rl 0 h0)).mp (U.rn 0 h0))
   have e0:EC t e M 0=e M 0:=by unfold EC;rw[Zf2]
   have elt:=C.elt M 0 J (by omega);refine⟨_,rfl,g,_,rfl,.inr (.of u8),_,rfl,_,rfl,_,rfl,g,_,rfl,.inr (.of u8),_,rfl,oa,(ac m).map λc=>((EC t e M c:Nat):Int),e M 0,t.length,p,dg M,by rw[el];rfl,.of (by rw[t6,Jt]),?_,by omega,w8,p2,pl,D.d1 M J,D.dl M J,D.dq M J,λd' a b=>D.dm M d' J a b,?_⟩
   ·rw[Zc,aj (by omega)]
    show some ((EC t e M 0:Nat):Int)=_;rw[e0]
   have dgp:=D.dp M J;have dg1:=D.d1 M J;obtain⟨y0,y1,y2,y3⟩:=C.pr.iv (dg M) (by omega) dgp;refine⟨p,_,rfl,p2,pl,⟨y0,y1,y2,by rw[<-aG,<-aX,y3];rfl⟩,λy a1 a2 a3=>?_⟩;have hy:y*dg M % p=1:=by
    have:((y*dg M % p:Nat):Int)=1:=by rw[aX,aG];exact a3
    omega
   have eb:=Zmi a2 hy;refine⟨_,_,rfl,rfl,.inr ⟨by omega,by omega⟩,?_⟩;rw[el];refine⟨_,rfl,.inl ⟨rfl,_,.of h8⟩,_,rfl,Wk,rfl,⟨_,.of W8⟩,?_⟩;refine Pm.Y8 (W:=Addr) id (λc a H=>H a=some (.tup ((Xv t fr p e z dg M (ZG t c)).map V.int))) (λ_ _=>True) (Ys (K:=K) (.of W8)) [some (.ref oa),some (.int ((t.length:Int)*(y:Int))),some (.ref Ro),some (.int (p:Nat))] rfl (by rw[m8];omega) (λk a H H' sm h=>sm _ _ h) (λa H H' sm h=>trivial) (λk a H0' H1' D' o ys ys' h1 h2 h3 h4=>by rw[Zz (λY=>by rw[Y,h4] at h1;cases h1)];exact h1) (λc x hx H9 s9 R k9=>?_) (λD9 as H9 nD9 s9 hD9 t8 has _=>?_)
   ·have O:c<m:=by
     have:=(ae.mp hx).1;rw[m8] at this;exact this
    rw[Zc,Zf (show c<ws.length by have:=W4.len;omega)] at hx;cases hx;have hw:=W4.it c _ (Zf (show c<ws.length by have:=W4.len;omega));generalize ws[c]'(by have:=W4.len;omega)=wa at hw ⊢;have o9:=U.rl c (by omega);have Rr:=p6 _ o9;have rr:=D.rd o9 Rr;have t9:=(s5.trans (s6.trans s7)) _ _ hw;have hw8:=k8 t9 (m6 (t5 Rr.r1) t9);have tl:(t.length:Int)<=60:=by omega
    have shb:(t.length:Int)*(y:Int)<2 ^ 40:=by
     have:(t.length:Int)*(y:Int)<=60*(y:Int):=c9 tl (by omega);omega
    have sha:0<=(t.length:Int)*(y:Int):=Int.mul_nonneg (by omega) (by omega);refine⟨_,rfl,_,rfl,_,rfl,_,rfl,_,rfl,wa,oa,Ro,rdT t (ZG t c),m,fr,p,z,_,_,_,rfl,s9 _ _ hw8,s9 _ _ t6,s9 _ _ R8,D.n1,n60,w9,Rr.r1,rr.1,rr.2,pl,C.pr,⟨λc _=>by omega,λc O=>?_⟩,λk hk=>?_,by omega,shb,λq' m5 n6 p3=>?_⟩
    ·have:=C.elt M (ZG t c) J (U.rl c (by omega))
     show ((e M (ZG t c):Nat):Int)<(p:Int);omega
    ·exact⟨Yg t (it t (ZG t c) k),by have:=U.lt _ (Jc Pt o9 k);omega,rfl⟩
    ·refine k9 q' m5 n6 ?_ trivial
     rw[p3];show some (HO.tup ((Ziu fr (ofF fr (rdT t (ZG t c)) p ((t.length:Int)*(y:Int)) z λk=>((EC t e M (wkF t (ZG t c) k).toNat:Nat):Int))).map V.int))=_;unfold Xv;rw[eb];congr 3;congr 2;funext k;unfold wkF;rw[Zj,<-C.at Pt J (Jc Pt o9 k)]
   ·refine⟨D9,_,rfl,.inl ⟨.of hD9,λtp q0=>?_⟩⟩
    have n6:=Zv.upd (H:=H9) (o:=.tup (as.map λw=>V.ref (id w))) q0;have hT:upd H9 tp (.tup (as.map λw=>V.ref (id w))) tp=some (.tup (as.map V.ref)):=Zu;generalize upd H9 tp (.tup (as.map λw=>V.ref (id w)))=m5 at n6 hT ⊢;have n8:=s9.trans n6;have p3:=n8 _ _ h8;refine⟨L,_,_,rfl,rfl,p3,by rw[Za,rl];omega,?_⟩;have keep:∀{b:Addr}{xs:TV},m5 b=some (.tup xs)->upd m5 L (.lst (rs.map V.ref++[.ref tp])) b=some (.tup xs):=λ{b xs} hb=>by
     rw[Zz (λY=>by rw[Y,p3] at hb;cases hb)];exact hb
    have n9:∀{b:Addr}{ys:T8},RowT m5 b ys->RowT (upd m5 L (.lst (rs.map V.ref++[.ref tp]))) b ys:=λ{b ys} hb=>by
     obtain⟨bs,b1,b2,b3⟩:=hb;refine⟨bs,keep b1,b2,λj c O=>?_⟩;obtain⟨yy,c1,c2⟩:=b3 j c O;exact⟨yy,c1,keep c2⟩
    rw[m8] at t8;refine⟨rs++[tp],_,_,rfl,λb o hb=>?_,by rw[Zu,aO];rfl,by rw[Zd,rl];rfl,λj c O=>?_⟩
    ·rw[Zz (ZbE hb).1]
     exact (s8.trans n8) b o hb
    ·by_cases hj:j<rs.length
     ·rw[aq hj] at O
      exact n9 ((o8 j c O).mono n8)
     ·have hl:=(ae.mp O).1
      rw[Zd,Zk] at hl;have ec:j=rs.length:=by omega
      rw[au (by omega),ec,cn] at O;cases O;rw[ec,rl,y9];refine n9 ⟨as,hT,by unfold W0;rw[Za,Zg,t8],λc a ha=>?_⟩;have hcm:c<m:=by
       have:=(ae.mp ha).1;omega
      refine⟨Xv t fr p e z dg M (ZG t c),by unfold W0;rw[Zc,aj hcm];rfl,n6 _ _ (has c a ha).1⟩
  ·rintro o7 H8 ⟨rs,v6,v7,rfl,s8,h8,rl,o8⟩
   rw[Za,S2,o0] at rl;have yl:(ss.map (W0 t fr p m e z dg)).length=m:=by rw[Za,o0]
   have p4:∀j,j<m->(ss.map (W0 t fr p m e z dg))[j]?=some (W0 t fr p m e z dg (ss.getD j 0)):=λj hj=>by
    rw[Zc,Zf (by omega),Zb,Zf (by omega)];rfl
   refine⟨_,rfl,L,rs,ss.map (W0 t fr p m e z dg),rfl,h8,by omega,by omega,λj a ha=>?_,λLs js nLs pm pw=>?_⟩
   ·have hj:j<m:=by
     have:=(ae.mp ha).1;omega
    exact⟨_,p4 j hj,λY=>by
     have:=congrArg cN Y;unfold W0 at this;rw[Za,Zg] at this;simp at this;omega,o8 j a ha⟩
   ·refine⟨Ls,_,rfl,.inl ⟨.of Zu,λtp q0=>?_⟩⟩
    have sA:=Zv.upd (H:=H8) (o:=.lst ((js.map λi=>rs.getD i 0).map V.ref)) nLs;have sB:=Zv.upd (H:=upd H8 Ls (.lst ((js.map λi=>rs.getD i 0).map V.ref))) (o:=.tup ((js.map λi=>rs.getD i 0).map V.ref)) q0;have r6:=sA.trans sB;have hT:upd (upd H8 Ls (.lst ((js.map λi=>rs.getD i 0).map V.ref))) tp (.tup ((js.map λi=>rs.getD i 0).map V.ref)) tp=some (.tup ((js.map λi=>rs.getD i 0).map V.ref)):=Zu;generalize upd (upd H8 Ls (.lst ((js.map λi=>rs.getD i 0).map V.ref))) tp (.tup ((js.map λi=>rs.getD i 0).map V.ref))=H9 at r6 hT ⊢;rw[rl] at pm;have jl:js.length=m:=by rw[pm.length_eq,Zg]
    refine q tp (js.map λi=>(ss.map (W0 t fr p m e z dg)).getD i []) H9 (λb o hb=>r6 _ _ (s8 b o (VR (p8 _ _ hb) (λY=>by rw[Y,y6] at hb;cases hb)))) ⟨js.map λi=>rs.getD i 0,hT,by rw[Za,Za],λi c O=>?_⟩ ?_ pw
    ·rw[Zc] at O
     cases hj:js[i]? with
     |none=>rw[hj] at O;cases O
     |some j=>
      rw[hj] at O;have hjm:j<m:=af.mp (pm.mem_iff.mp (aB hj));have ec:c=rs.getD j 0:=(aA O).symm;have hrj:rs[j]?=some c:=by rw[ec,Zb,Zf (by omega)];rfl
      refine⟨_,by rw[Zc,hj];rfl,?_⟩;have:=(o8 j c hrj).mono r6;show RowT H9 c ((ss.map (W0 t fr p m e z dg)).getD j []);rw[Zb,p4 j hjm];exact this
    ·have h1:(js.map λi=>(ss.map (W0 t fr p m e z dg)).getD i []).Perm ((ac m).map λi=>(ss.map (W0 t fr p m e z dg)).getD i []):=pm.map _
     have h2:((ac m).map λi=>(ss.map (W0 t fr p m e z dg)).getD i [])=ss.map (W0 t fr p m e z dg):=by
      refine a7 λj=>?_;by_cases hj:j<m
      ·rw[p4 j hj,Zc,aj hj]
       show some ((ss.map (W0 t fr p m e z dg)).getD j [])=_;rw[Zb,p4 j hj];rfl
      ·rw[ak (by rw[Za,Zg];omega),ak (by omega)]
     rw[h2] at h1;exact h1.trans (S3.map _)
end
end C47
namespace Num
theorem Yx:∀(n:Nat) (f:Nat->Int),ZJ (n+1) f=ZJ n f+f n
 |0,f=>by rw[ZJ,ZJ,ZJ];omega
 |n+1,f=>by
  rw[ZJ,Yx n λt=>f (t+1),ZJ];omega
theorem Vf:∀(n:Nat) (f g:Nat->Int),ZJ n (λt=>f t+g t)=ZJ n f+ZJ n g
 |0,f,g=>rfl
 |n+1,f,g=>by
  rw[ZJ,ZJ,ZJ,Vf n (λt=>f (t+1)) λt=>g (t+1)];omega
theorem WY (c:Int):∀(n:Nat) (f:Nat->Int),c*ZJ n f=ZJ n λt=>c*f t
 |0,f=>bx c
 |n+1,f=>by rw[ZJ,ZJ,lU,WY c n λt=>f (t+1)]
theorem VC (b:Nat):∀(a:Nat) (f:Nat->Nat->Int),ZJ a (λi=>ZJ b λm=>f m i)=ZJ b λm=>ZJ a λi=>f m i
 |0,f=>by rw[ZJ];exact (Y0 b _ λt _=>rfl).symm
 |a+1,f=>by rw[ZJ,VC b a λm i=>f m (i+1),<-Vf];rfl
def rh (n:Nat)(R:T8)(k j:Nat):Int:=co (ro R (k % n)) j
section
variable {n top:Nat}{least:TZ}{R:T8}
theorem ZhN {k q:Nat}(h:k % n=q % n)(j:Nat):rh n R k j=rh n R q j:=by unfold rh;rw[h]
end
section
variable {n top:Nat}{least:TZ}{R:T8}{ps:TZ}
end
section
variable {n top:Nat}{least:TZ}{R:T8}{ps:TZ}
end
section
variable {n top:Nat}{least:TZ}{R:T8}{ps:TZ}{m top':Nat}{least':TZ}{R':T8}{ps':TZ}
end
def WK (f:Nat->Int):T7->Int
 | []=>0
 |h::j=>f h+WK f j
theorem UN (c:Int):∀(U:T7),WK (λ_=>c) U=(U.length:Int)*c
 | []=>by rw[WK,eV];exact (bg c).symm
 |h::j=>by rw[WK,UN c j,Zi];push_cast;rw[iE,gG,Int.add_comm]
section
variable {n top:Nat}{R:T8}{U:T7}
end
section
variable {n top:Nat}{least:TZ}{R:T8}{ps:TZ}
end
theorem Zc8 (g:Nat->Nat)(f:Nat->Int):∀U:T7,WK f (U.map g)=WK (λh=>f (g h)) U
 | []=>rfl
 |h::j=>by rw[aN,WK,WK,Zc8 g f j]
theorem Zgr (f:Nat->Int){U V:T7}(p:U.Perm V):WK f U=WK f V:=by
 induction p with
 |nil=>rfl
 |cons x _ j=>rw[WK,WK,j]
 |swap x y l=>rw[WK,WK,WK,WK];omega
 |trans _ _ a b=>rw[a,b]
section
variable {n top:Nat}{least:TZ}{R:T8}{ps:TZ}{U:T7}
end
theorem Xs:∀(n:Nat) (f:Nat->Int),ZJ n f=WK f (ac n)
 |0,f=>rfl
 |n+1,f=>by
  rw[Yx,Xs n f,bG];have app:∀(U V:T7),WK f (U++V)=WK f U+WK f V:=by
   intro U V;induction U with
   |nil=>rw[List.nil_append,WK,cq]
   |cons x U j=>rw[mR,WK,WK,j];omega
  rw[app,WK,WK,a9]
section
variable {n top:Nat}{least:TZ}{R:T8}{ps:TZ}
theorem Zhc (G:Good n ps least top R){p:Nat}(q:(p:Int)∈ps)(a j:Nat):ZJ p (λt=>rh n R (a+t*(n / p)) j)=0:=by
 have h:=G.row _ q (a % n) (bc _ G.n1) j;rw[X5,Zj] at h;rw[<-h];refine ZC _ _ _ λt _=>?_;unfold rh;rw[dD]
theorem ZfZ (n:Nat)(j:0<n)(f:Nat->Int):ZJ n (λk=>f ((k+1) % n))=ZJ n f:=by
 obtain⟨m,rfl⟩:∃m,n=m+1:=⟨n-1,by omega⟩;rw[Yx,ie,ZJ,Int.add_comm];congr 1;refine ZC _ _ _ λt q=>?_;rw[aT (by omega)]
theorem Zcv (n:Nat)(j:0<n)(f:Nat->Int):∀c:Nat,ZJ n (λk=>f ((k+c) % n))=ZJ n f
 |0=>ZC _ _ _ λt q=>by rw[eF,aT q]
 |c+1=>by
  rw[<-Zcv n j f c,<-ZfZ n j λk=>f ((k+c) % n)];refine ZC _ _ _ λt _=>?_;rw[dD,show t+1+c=t+(c+1) by omega]
def phi (n:Nat)(R:T8)(g:Nat->Int)(m j:Nat):Int:=ZJ n λk=>g k*rh n R (k+m) j
theorem ZmZ (q:0<n){s:Nat}(J:s<=n)(g:Nat->Int)(m j:Nat):phi n R (lk n s g) m j=phi n R g m j-phi n R g (m+s) j:=by
 unfold phi;rw[<-Zcv n q (λk=>g k*rh n R (k+(m+s)) j) (n-s),<-Um];refine ZC _ _ _ λt _=>?_;unfold lk;rw[iC];congr 2;refine ZhN ?_ j;rw[dD,show t+(n-s)+(m+s)=t+m+n by omega,gF]
theorem ZcT (G:Good n ps least top R):∀(q:TZ) (g:Nat->Int),(∀p∈q,p∈ps/\2<=p)->(∀k,k<n->Va n (Ju n q) g k=0)->∀m j,phi n R g m j=0
 | [],g,_,h,m,j=>by
  unfold phi;refine Y0 _ _ λk M=>?_;have:g k=0:=h k M;rw[this,bg]
 |p::q,g,J,h,m,j=>by
  obtain⟨O,p2⟩:=J p (ar ..);obtain⟨p,rfl⟩:=cw (show 0<=p by omega);have Y:0<n:=G.n1;have hs:n / p<=n:=fP _ _;have z:=ZcT G q (lk n (n / p) g) (λx hx=>J x (ao _ hx)) h;have st:∀m,phi n R g m j=phi n R g (m+n / p) j:=λm=>by
   have:=z m j;rw[ZmZ Y hs] at this;omega
  have stN:∀t,phi n R g (m+t*(n / p)) j=phi n R g m j:=λt=>by
   induction t with
   |zero=>rw[fk,eF]
   |succ t ih=>rw[ci,<-kg,<-st,ih]
  have e:ZJ p (λt=>phi n R g (m+t*(n / p)) j)=0:=by
   unfold phi;rw[VC];refine Y0 _ _ λk _=>?_;rw[<-WY];have:=Zhc G O (k+m) j;rw[ZC _ _ _ λt _=>by rw[<-kg],this,bx]
  rw[ZC _ _ _ λt _=>stN t,Xs,UN,Zg] at e;rcases Int.mul_eq_zero.mp e with z|z
  ·omega
  ·exact z
end
section
variable {n top:Nat}{least:TZ}{R:T8}{ps:TZ}
theorem ZeO (j:Nat):∀(xs:TZ) (k:Nat),sig n R j xs k=ZJ xs.length λt=>co xs t*rh n R (k+t) j
 | [],k=>rfl
 |x::xs,k=>by
  rw[sig,ZeO j xs (k+1),Zi,ZJ];congr 1;refine ZC _ _ _ λt _=>?_;rw[Y2,show k+1+t=k+(t+1) by omega]
end
section
variable {n top:Nat}{least:TZ}{R:T8}{ps:TZ}
def Nou (n:Nat)(ps:TZ)(v:Nat->Int):Prop:=∀k,k<n->Va n (Ju n ps) v k=0
def me (n:Nat)(R:T8)(v:Nat->Int)(j:Nat):Int:=ZJ n λk=>v k*rh n R k j
theorem Zjd {n:Nat}(v:Nat->Int){t:Nat}(j:t<n):co ((ac n).map v) t=v t:=by
 unfold co;rw[Zb,Zc,aj j];rfl
theorem Znp (v:Nat->Int)(j:Nat):sig n R j ((ac n).map v) 0=me n R v j:=by
 rw[ZeO,Za,Zg];refine ZC _ _ _ λt q=>?_;rw[Zjd v q,fX]
theorem Znk (G:Good n ps least top R)(O:∀p∈ps,2<=p)(v:Nat->Int):Nou n ps v↔∀j,j<top->me n R v j=0:=by
 constructor
 ·intro h j _
  exact ZcT G ps v (λp J=>⟨J,O p J⟩) h 0 j
 ·intro h k M
  have L:=ZiC G ((ac n).map v) k M;have z:∀t,co (Vp n top R ((ac n).map v)) t=0:=λt=>by
   by_cases q:t<top
   ·rw[Zb7 q,Znp,h t q]
   ·exact WE (by rw[Jz];omega)
  have e:=Wf n (by omega) (Ju n ps) (λt=>co (Wg n (Vp n top R ((ac n).map v))) t-co (Wg n ((ac n).map v)) t) (λt=>(-1)*v t) (λt q=>by
   show co (Wg n (Vp n top R ((ac n).map v))) t-co (Wg n ((ac n).map v)) t=(-1)*v t;rw[Xi (by rw[Jz];exact G.tn),z,Xi (by rw[Za,Zg];exact Zq _),Zjd v q];omega) k M
  rw[e,ZbR] at L;omega
theorem ZbM (u v:Nat->Int)(c:Int)(j:Nat):me n R (λi=>u i+c*v i) j=me n R u j+c*me n R v j:=by
 unfold me;rw[WY,<-Vf];refine ZC _ _ _ λt _=>?_;rw[iE,bB]
theorem ZbL (j:Nat):me n R (λ_=>0) j=0:=Y0 _ _ λt _=>bg _
theorem ZiB (v:Nat->Int)(x:Int){q:Nat}(J:q<n)(j:Nat):me n R (λi=>if i=q then x else v i) j=me n R v j+(x-v q)*rh n R q j:=by
 unfold me;have e:=J0 n q (λt=>if t=q then (x-v q)*rh n R q j else 0) J (λt _ h=>if_neg h)
 rw[if_pos rfl] at e;rw[<-e,<-Vf];refine ZC _ _ _ λt _=>?_;show (if t=q then x else v t)*rh n R t j=_
 by_cases h:t=q
 ·rw[if_pos h,if_pos h,h,iC];omega
 ·rw[if_neg h,if_neg h,a9]
theorem Zfj (G:Good n ps least top R){xs:TZ}(O:xs.length<=top){j:Nat}(q:j<top):me n R (co xs) j=co xs j:=by
 have Y:=G.tn;unfold me;rw[J0 n j _ (by omega) (λt M h=>?_)]
 ·unfold rh
  rw[aT (by omega),G.un j q,Jm q,if_pos rfl,fJ]
 ·by_cases J:t<top
  ·unfold rh
   rw[aT M,G.un t J,Jm q,if_neg (λz=>h z.symm),bx]
  ·rw[WE (by omega),bg]
def mm (n:Nat)(R:T8)(u v:Nat->Int)(j:Nat):Int:=ZJ n λa=>ZJ n λb=>u a*v b*rh n R (a+b) j
theorem Zhd {f:Nat->Int}{m n:Nat}(h:m<=n)(hz:∀t,m<=t->t<n->f t=0):ZJ n f=ZJ m f:=by
 induction n with
 |zero=>rw[show m=0 by omega]
 |succ n j=>
  by_cases q:m=n+1
  ·rw[q]
  ·rw[Yx,hz n (by omega) (by omega),a9]
   exact j (by omega) λt a b=>hz t a (by omega)
theorem Zkc (k j:Nat):rh n R (k % n) j=rh n R k j:=ZhN (lQ _ _) j
end
def Vs:TZ->T8->TZ->TZ
 | [],_,ZE=>ZE
 |_::_,[],ZE=>ZE
 |x::a,r::R,ZE=>if x=0 then Vs a R ZE else Vs a R (XS ZE (vsc x r))
theorem Uh (j:Nat):∀(a:TZ) (R:T8) (ZE:TZ),co (Vs a R ZE) j=co ZE j+co (WD a R) j
 | [],R,ZE=>by rw[Vs,Xy,a9]
 |x::a,[],ZE=>by rw[Vs,WD,YO,a9]
 |x::a,r::R,ZE=>by
  rw[Vs,ZX,YB];show co (if x=0 then _ else _) j=co ZE j+(x*co r j+co (WD a R) j)
  by_cases h:x=0
  ·rw[if_pos h,Uh j a R ZE,h];omega
  ·rw[if_neg h,Uh j a R _,Wz,Xl];omega
def Zd3 (R:T8)(d:Nat):T8:=R.drop d++R.take d
theorem ZmK {n:Nat}{R:T8}(j:R.length=n){d i:Nat}(q:d<n)(J:i<n):ro (Zd3 R d) i=ro R ((i+d) % n):=by
 unfold ro Zd3;rw[Zb,Zb];by_cases h:i<n-d
 ·rw[aq (by rw[bJ,j];exact h),List.getElem?_drop,aT (by omega),kS]
 ·rw[au (by rw[bJ,j];omega),bJ,j,f7,if_pos (by omega)]
  rw[show (i+d) % n=i-(n-d) by rw[show i+d=(i-(n-d))+n by omega,gF,aT (by omega)]]
theorem Zkb {n:Nat}{R:T8}(j:R.length=n){d:Nat}(q:d<=n):(Zd3 R d).length=n:=by
 unfold Zd3;rw[Zd,bJ,bI,j];omega
theorem Zet {n:Nat}{R:T8}(q:R.length=n){d:Nat}(J:d<n)(a:TZ)(j:Nat):co (WD a (Zd3 R d)) j=ZJ n λi=>co a i*rh n R (i+d) j:=by
 rw[Xx,Zkb q (by omega)];refine ZC _ _ _ λt M=>?_;rw[ZmK q J M];rfl
end Num
namespace L2
open PySem PySem.Spec PyProof.Rows
section
variable {X:Cx}
inductive ZhY (K:aa) (x:V) (vs:TV) (H:Hp) (Q:VK):Prop
 |mk (p:_) (xs:_) (y:_):(x=.ref p)->(vs=[y])->(H p=some (.lst xs))->(Je y=true)->(xs.all Je=true)->(Q (.int (xs.countP (λz=>eqV z y):Nat)) H)->ZhY K x vs H Q
theorem Zgn:MtR X "list.count" (ZhY X.K):=by
 intro m5 s σ H x vs v us Q I rx rv h;obtain⟨p,xs,y,rfl,rfl,hp,fy,fs,q⟩:=h;cases rx;obtain⟨u,rfl,ru⟩:=rv.one;obtain⟨z,J,n,r,hl,e⟩:=I.lstM hp;have hl:=r.length;have j:∀(m:Nat) (z:V),xs[m]?=some z->Je z=true:=λm z M=>az.mp fs z (aB M);have em:J.map (eqU y)=xs.map (λz=>eqV z y):=by
  refine a7 λm=>?_;rw[Zc,Zc];by_cases M:m<xs.length
  ·obtain⟨w,O,Y⟩:=r.get (Zf M)
   rw[O,Zf M];show some (eqU y w)=some (eqV xs[m] y);rw[Zb2 Y (j m _ (Zf M))]
  ·rw[ak (by omega),ak (by omega)]
   rfl
 have ec:J.countP (eqU y)=xs.countP (λz=>eqV z y):=by
  have h1:=congrArg (List.countP id) em;rw[List.countP_map,List.countP_map] at h1;exact h1
 refine cK lx ⟨_,e,rfl⟩ F.entry_list_count (F.args_list_count_2 _ _) (SeqAt.list_countAt p J.toArray n none #[] u (eqU y)) ⟨e,λw O=>Xf ru fy r fs w (by simpa using O),?_⟩;refine⟨.int (xs.countP (λz=>eqV z y):Nat),H,I.kept (t':=s.toks+1) λb o e=>e,⟨s.toks,?_⟩,q⟩;rw[<-ec]
theorem Zo7 (K:aa)(j:X.K=K:=by rfl):MtR X "list.count" (ZhY K):=j▸Zgn
end
end L2
namespace C47
open PySem L2 PySem.Spec PyProof.Rows
open Tb Pm
noncomputable abbrev ZlM:Stmt:=top 42
noncomputable abbrev ZlQ:Stmt:=top 43
noncomputable abbrev ZlN:Stmt:=top 45
noncomputable abbrev ZoI:Stmt:=top 47
inductive ZdN (vs:TV) (H:Hp) (Q:VK) (E03:XK):Prop
 |mk (n:Nat) (a:Addr) (xs:TZ):(vs=[.int n,.ref a])->(H a=some (.tup (xs.map V.int)))->(xs.length<=n)->(n<=60)->(∀l H',H l=none->Zv H H'->H' l=some (.lst (ZF n (Num.co xs)))->Q (.ref l) H')->ZdN vs H Q E03
inductive Ur (vs:TV) (H:Hp) (Q:VK) (E03:XK):Prop
 |mk (n:Nat) (a b:Addr) (k:Int) (u v:Nat->Int):(vs=[.ref a,.ref b,.int k])->(n<=60)->(H a=some (.lst (ZF n u)))->(H b=some (.lst (ZF n v)))->(-(2 ^ 64)<k)->(k<2 ^ 64)->(∀l H',Zv H H'->H' l=some (.lst (ZF n λi=>u i+k*v i))->Q (.ref l) H')->Ur vs H Q E03
inductive Zbi (vs:TV) (H:Hp) (Q:VK) (E03:XK):Prop
 |mk (n:Nat) (a b:Addr) (u v:Nat->Int):(vs=[.int n,.ref a,.ref b])->(1<=n)->(n<=60)->(H a=some (.lst (ZF n u)))->(H b=some (.lst (ZF n v)))->((∀i j,i<n->j<n->ZlF (u i) (v j)))->(∀l w H',Zv H H'->H' l=some (.lst (ZF n w))->(∀j,Num.me n (N47.RN n) w j=Num.mm n (N47.RN n) u v j)->Q (.ref l) H')->Zbi vs H Q E03
inductive Zhp (vs:TV) (H:Hp) (Q:VK) (E03:XK):Prop
 |mk (a b:Nat):(vs=[.int a,.int b])->(Q (.bl (decide (iI a b=1))) H)->Zhp vs H Q E03
theorem ZgZ {n:Nat}{xs:TZ}(h:xs.length<=n):xs.map V.int++(ah (n-xs.length) [V.int 0]).flatten=ZF n (Num.co xs):=by
 have e:(ah (n-xs.length) [V.int 0]).flatten=ah (n-xs.length) (V.int 0):=by
  generalize n-xs.length=k;induction k with
  |zero=>rfl
  |succ k q=>rw[aK,a6,q,aK];rfl
 rw[e];refine a7 λi=>?_;by_cases j:i<xs.length
 ·rw[aq (by rw[Za];exact j),Zc,Num.Wd j,Yr _ (by omega)]
  rfl
 ·rw[au (by rw[Za];omega),Za,bz]
  by_cases J:i<n
  ·rw[if_pos (by omega),Yr _ J,Num.WE (by omega)]
  ·rw[if_neg (by omega)]
   exact (ak (by rw[ZT];omega)).symm
section
variable {P:Program}{w:World}{K:aa}{mg:TX}{base:Heap}
theorem ZkD {f:Addr}{fd:FuncData}(F:WA K "_law_wide" "_law_wide" ZlM f fd)(T:Bl mg):Z8 P w K mg base Yd 1 f fd ["_law_n", "_law_number"] ZdN:=by
 refine F.ok (FS (N:=["_law_n", "_law_number"])) (λvs H Q E h=>?_) (λm5 A j s H vs Q E hr h=>?_)
 ·obtain⟨n,a,xs,rfl,_⟩:=h;rfl
 ·obtain⟨n,a,xs,rfl,ha,hx,n60,q⟩:=h
  refine⟨_,Zw (ZK (Zy VE (ct JQ T.list (pc (vn 1) Zt)) (Zy WJ (ZR (pc Zx Zt)) (Zy YC (vn 0) (cb (Yt K) T.len (pc (vn 1) Zt)))))),?_⟩;have sz:=JE;refine⟨_,rfl,a,_,rfl,.inr (.of ha),λl1 n1=>?_⟩;obtain⟨H1,J,s1,h1⟩:=XX (o:=.lst (xs.map V.int)) n1;rw[J];refine⟨JF,λl2 n2=>?_⟩;obtain⟨H2,M,s2,h2⟩:=XX (o:=.lst [.int 0]) n2;rw[M];refine⟨_,rfl,_,rfl,a,_,rfl,.inr (.of (s2 _ _ (s1 _ _ ha))),_,_,rfl,rfl,l2,_,_,rfl,rfl,h2,?_,?_,?_,λl3 n3=>?_⟩
  ·rw[Za];omega
  ·rw[Za];omega
  ·rw[Za];show 1*_<=_;omega
  ·rw[Za,show ((n:Int)-(xs.length:Nat)).toNat=n-xs.length by omega]
   obtain⟨H3,O,Y,h3⟩:=XX (o:=.lst (ah (n-xs.length) [V.int 0]).flatten) n3;rw[O];refine⟨l1,l3,_,_,rfl,rfl,Y _ _ (s2 _ _ h1),h3,?_,λl4 n4=>?_⟩
   ·rw[Za,Xz];show _+_*1<=_;omega
   ·rw[ZgZ hx]
    exact q l4 _ (((s1.trans s2).trans Y).free n4) (((s1.trans s2).trans Y).trans (Zv.upd n4)) Zu
theorem ZkE {f:Addr}{fd:FuncData}(F:WA K "_law_sum" "_law_sum" ZlN f fd)(T5:BlT mg):Z8 P w K mg base Yd 1 f fd ["_law_one", "_law_other", "_law_often"] Ur:=by
 refine F.ok (FS (N:=["_law_one", "_law_other", "_law_often"])) (λvs H Q E h=>?_) (λm5 A M s H vs Q E hr h=>?_)
 ·obtain⟨n,a,b,k,u,v,rfl,_⟩:=h;rfl
 ·obtain⟨n,a,b,k,u,v,rfl,n60,ha,hb,k1,k2,q⟩:=h
  refine⟨_,Zw (ZK (cmp ["_law_a", "_law_b"] [2] ["_law_a", "_law_b", "_law_often"] rfl (ZjN K T5.zip (pc (vn 0) (pc (vn 1) Zt))) (λ_ _ _ _ _=>g2 K 0 1 rfl (gn 0) (gn 1)) (λ_ _ _ _ _=>ZM) (λ_ _ _ _ _=>Zy Ym (vn 0) (Zy ZS (vn 2) (vn 1))))),?_⟩;refine⟨_,rfl,_,rfl,a,b,false,false,_,_,H,rfl,.lst (.of ha),.lst (.of hb),Zv.refl _,λJ At S' O=>?_⟩;refine XC S' O (Zv.refl _) [some (.int k)] rfl (λx y=>x+k*y) (by omega) (λj Y hj s4 R' g=>?_) (λD Y nD s4 hD=>q D Y s4 hD);exact⟨_,rfl,_,rfl,_,rfl,_,_,rfl,rfl,.inl ⟨k1,k2⟩,_,_,rfl,rfl,g⟩
theorem ZkI {f:Addr}{fd:FuncData}(F:WA K "_law_mul" "_law_mul" ZlQ f fd)(T:Bl mg):Z8 P w K mg base Yd 1 f fd ["_law_n", "_law_one", "_law_other"] Zbi:=by
 refine F.ok (FS (N:=["_law_n", "_law_one", "_law_other", "_law_found", "_law_j", "_law_k", "_law_spot"])) (λvs H Q E h=>?_) (λn6 A m6 s H vs Q E hr h=>?_)
 ·obtain⟨n,a,b,u,v,rfl,_⟩:=h;rfl
 ·obtain⟨n,a,b,u,v,rfl,n1,n60,ha,hb,hm,q⟩:=h
  refine⟨_,Zs (ZH 3 rfl (Zy WJ (ZR (pc Zx Zt)) (vn 0)))
   (Zs (ZN am rfl (WI T.range (pc (vn 0) Zt)) (gn 4)
   (Zw (WN (ZP Jy (ZD (Jb K) (vn 1) (vn 4) (λ_ _=>rfl)) Zx (ZW _)) (Zw (ZN am rfl (WI T.range (pc (vn 0) Zt)) (gn 5)
   (Zs (ZH 6 rfl (Zy ZV (Zy Ym (vn 4) (vn 5)) (vn 0)))
   (Zw (W2 (Zy Ym (ZD (Jb K) (vn 3) (vn 6) (λ_ _=>rfl)) (Zy ZS (ZD (Jb K) (vn 1) (vn 4) (λ_ _=>rfl)) (ZD (Jb K) (vn 2) (vn 5) (λ_ _=>rfl)))) (Xc (vn 3) (vn 6) YS)))))) YF)))
   (Zw (ZK (vn 3)))),?_⟩
  have sz:=JE;refine⟨JF,λl2 n2=>?_⟩;obtain⟨H2,m8,s2,h2⟩:=XX (o:=.lst [.int 0]) n2;rw[m8];refine⟨_,rfl,l2,_,_,rfl,rfl,h2,by omega,by omega,(by show 1*_<=_;omega),λl n3=>?_⟩;rw[Zj,WW];have nl:H l=none:=by
   cases e:H l with
   |none=>rfl
   |some o=>rw[s2 _ _ e] at n3;cases n3
  refine⟨_,rfl,n,rfl,by omega,by omega,?_⟩;rw[Zj];refine Z0 (λi O H'=>∃(c:Nat->Int) (v4 v5 v6:TU),O=[some (.int n),some (.ref a),some (.ref b),some (.ref l),v4,v5,v6]/\Zv H H'/\H' l=some (.lst (ZF n c))/\∀j,Num.me n (N47.RN n) c j=Num.ZJ i λa=>Num.ZJ n λb=>u a*v b*Num.rh n (N47.RN n) (a+b) j)
   ⟨_,_,_,_,rfl,s2.trans (Zv.upd n3),Zu,λj=>Num.ZbL j⟩ ?_ ?_
  ·rintro i O H' hi ⟨c,v4,v5,v6,rfl,sm,hl,hc⟩
   rw[show (0:Int)+(i:Int)=(i:Int) by omega];refine⟨_,rfl,_,rfl,a,_,_,_,rfl,rfl,.of (sm _ _ ha),ZI (Yr u hi),rfl,_,rfl,?_⟩;refine YE (λh0=>?_) (λh0=>?_)
   ·refine⟨_,rfl,n,rfl,by omega,by omega,?_⟩
    rw[Zj];refine Z0 (λk Y H3=>∃(M:Nat->Int) (w5 w6:TU),Y=[some (.int n),some (.ref a),some (.ref b),some (.ref l),some (.int i),w5,w6]/\Zv H H3/\H3 l=some (.lst (ZF n M))/\∀j,Num.me n (N47.RN n) M j=Num.me n (N47.RN n) c j+Num.ZJ k λb=>u i*v b*Num.rh n (N47.RN n) (i+b) j)
     ⟨c,_,_,rfl,sm,hl,λj=>(a9 _).symm⟩ ?_ ?_
    ·rintro k Y H3 hk ⟨M,w5,w6,rfl,sm3,J,m5⟩
     rw[show (0:Int)+(k:Int)=(k:Int) by omega];have hq:(i+k) % n<n:=bc _ n1;have eM:((i:Int)+(k:Int)) % (n:Int)=(((i+k) % n:Nat):Int):=by push_cast;rfl
     refine⟨_,rfl,_,rfl,_,_,rfl,rfl,_,rfl,_,_,rfl,rfl,(by show (0:Int)<n;omega),?_⟩;refine⟨_,rfl,_,rfl,l,_,_,_,rfl,rfl,.of J,by rw[eM];exact ZI (Yr M hq),_,rfl,_,rfl,a,_,_,_,rfl,rfl,.of (sm3 _ _ ha),ZI (Yr u hi),_,rfl,_,rfl,b,_,_,_,rfl,rfl,.of (sm3 _ _ hb),ZI (Yr v hk),_,_,rfl,rfl,hm i k hi hk,_,_,rfl,rfl,_,rfl,_,rfl,l,_,_,(i+k) % n,rfl,rfl,J,by rw[ZT,eM];exact Ja hq,?_⟩;rw[ZeD _ _ hq];refine⟨_,_,_,rfl,sm3.updr nl,Zu,λj=>?_⟩;rw[Num.ZiB _ _ hq,m5,Num.Yx,show M ((i+k) % n)+u i*v k-M ((i+k) % n)=u i*v k by omega,Num.Zkc];omega
    ·rintro Y H3 ⟨M,w5,w6,rfl,sm3,J,m5⟩
     refine⟨M,_,_,_,rfl,sm3,J,λj=>?_⟩;rw[m5,hc,Num.Yx]
   ·have h0:u i=0:=ai λz=>h0 (by rw[decide_eq_false (λe=>z (V.int.inj e))];rfl)
    refine⟨c,_,_,_,rfl,sm,hl,λj=>?_⟩;rw[hc,Num.Yx,Num.Y0 n (λb=>u i*v b*Num.rh n (N47.RN n) (i+b) j) (λt _=>by rw[h0,bg,bg]),a9]
  ·rintro O H' ⟨c,v4,v5,v6,rfl,sm,hl,hc⟩
   exact⟨_,rfl,q l c H' sm hl hc⟩
theorem Znj {f:Addr}{fd:FuncData}(F:WA K "_law_alone" "_law_alone" ZoI f fd):Z8 P w K mg base Yd 1 f fd ["_law_k", "_law_n"] Zhp:=by
 refine F.ok (FS (N:=["_law_k", "_law_n"])) (λvs H Q E h=>?_) (λm6 A m5 s H vs Q E hr h=>?_)
 ·obtain⟨a,b,rfl,_⟩:=h;rfl
 ·obtain⟨a,b,rfl,q⟩:=h
  refine⟨_,Zs (Yp am (ZP Zid (vn 1) Zx (ZW _)) (Zw (ZmT (i:=0) (j:=1) rfl (Ya (by kernel_rfl)) rfl rfl (by decide) (Y7 (by kernel_rfl)) (Y7 (by kernel_rfl)) (pc (vn 1) (pc (Zy ZV (vn 0) (vn 1)) Zt)) rfl)))
   (Zw (ZK (JK XM (vn 0) Zx (ZW _)))),?_⟩
  refine Yh (λm M H'=>∃(Y J:Nat),M=[some (.int Y),some (.int J)]/\H'=H/\J<=m/\iI Y J=iI a b) (λM H'=>∃J:TU,M=[some (.int (iI a b:Nat)),J]/\H'=H) ?hend ⟨b,a,b,rfl,rfl,Zq _,rfl⟩ ?turn
  case hend=>
   rintro M H' ⟨J,rfl,rfl⟩;refine⟨_,rfl,rfl,?_⟩;rw[show decide (V.int ((iI a b:Nat):Int)=V.int 1)=decide (iI a b=1) from by rw[bT,decide_eq_true_eq,decide_eq_true_eq];exact⟨λh=>by have:=V.int.inj h;omega,λh=>by rw[h];rfl⟩];exact q
  case turn=>
   rintro O m M H' ⟨Y,J,rfl,rfl,c1,c2⟩;refine⟨_,rfl,_,_,rfl,rfl,_,rfl,?_⟩;refine YE (λh1=>?_) (λh1=>?_)
   ·have h1:(0:Int)<(J:Int):=of_decide_eq_true h1
    refine⟨_,λ_ _ z=>z,_,rfl,_,rfl,_,rfl,_,_,rfl,rfl,h1,_,_,rfl,m-1,by omega,J,Y % J,rfl,rfl,?_,?_⟩
    ·have:=bc Y (show 0<J by omega)
     omega
    ·rw[<-c2,Nat.gcd_comm Y J,Nat.gcd_rec J Y,Nat.gcd_comm]
   ·have h1:¬(0:Int)<(J:Int):=λz=>h1 (decide_eq_true z)
    have b0:J=0:=by omega
    rw[b0,Nat.gcd_zero_right] at c2;exact O _ _ ⟨_,by rw[c2],rfl⟩
end
noncomputable abbrev ZlP:Stmt:=top 46
def prm (p:Nat):Bool:=(ac (p-2)).all λk=>p % (k+2) != 0
def pls (n i:Nat):T7:=((ac i).map (· + 2)).filter λp=>n % p == 0 && prm p
theorem UF (n i:Nat):pls n (i+1)=pls n i++if (n % (i+2) == 0 && prm (i+2))=true then [i+2] else []:=by
 unfold pls;rw[bG,aO,iS];congr 1;show List.filter _ [i+2]=_;rw[ee];rfl
def ZoV (n:Nat):Bool:=n == 0 || (pls n (n-1)).map (n / ·) == Num.Ju n (N47.Yv n)
theorem Zkm:(ac 61).all ZoV=true:=by decide +kernel
theorem Zf6 {n:Nat}(q:1<=n)(j:n<=60):(pls n (n-1)).map (n / ·)=Num.Ju n (N47.Yv n):=by
 have:=az.mp Zkm n (af.mpr (by omega));unfold ZoV at this;rw[aY,beq_iff_eq,beq_iff_eq] at this;exact this.resolve_left (by omega)
inductive Uu (vs:TV) (H:Hp) (Q:VK) (E03:XK):Prop
 |mk (n:Nat) (a:Addr) (u:Nat->Int):(vs=[.int n,.ref a])->(1<=n)->(n<=60)->(H a=some (.lst (ZF n u)))->(∀b H',Zv H H'->(b=true↔∀j,j<N47.YL n->Num.me n (N47.RN n) u j=0)->Q (.bl b) H')->Uu vs H Q E03
theorem ZfV (n:Nat)(c:Nat->Int):((ZF n c).countP (λz=>eqV z (.int 0))=n)↔∀k,k<n->c k=0:=by
 have j:=List.countP_eq_length (p:=λz=>eqV z (.int 0)) (l:=ZF n c);rw[ZT] at j;rw[j];unfold ZF;constructor
 ·intro h k q
  have:=h (V.int (c k)) (aE.mpr ⟨k,af.mpr q,rfl⟩);exact beq_iff_eq.mp this
 ·intro h z J
  obtain⟨k,q,rfl⟩:=aE.mp J;exact beq_iff_eq.mpr (h k (af.mp q))
theorem Zcp (n:Nat)(c:Nat->Int):(ZF n c).all Je=true:=az.mpr λz j=>by
 obtain⟨k,_,rfl⟩:=aE.mp j;rfl
theorem ZkU {p:Nat}:(!inV (.int 0) (ZF (p-2) λk=>((p:Int) % (2+(k:Int)))))=prm p:=by
 unfold inV ZF prm;rw[ef,kh];congr 1;funext k;show (!((p:Int) % (2+(k:Int)) == 0))=(p % (k+2) != 0);rw[show (p:Int) % (2+(k:Int))=((p % (k+2):Nat):Int) by rw[show (2:Int)+(k:Int)=((k+2:Nat):Int) by omega];rfl];rw[bT];simp only[ff,beq_eq_false_iff_ne,bne_iff_ne,ne_eq];omega
section
variable {P:Program}{w:World}{K:aa}{mg:TX}{base:Heap}
theorem ZkH {f:Addr}{fd:FuncData}(F:WA K "_law_is_nought" "_law_is_nought" ZlP f fd)(T:Bl mg):Z8 P w K mg base Yd 1 f fd ["_law_n", "_law_row"] Uu:=by
 refine F.ok (FS (N:=["_law_n", "_law_row", "_law_p"])) (λvs H Q E h=>?_) (λm8 A m5 s H vs Q E hr h=>?_)
 ·obtain⟨n,a,u,rfl,_⟩:=h;rfl
 ·obtain⟨n,a,u,rfl,n1,n60,ha,q⟩:=h
  refine⟨_,Zs (ZN am rfl (ZhJ T.range (pc Zx (pc (Zy Ym (vn 0) Zx) Zt))) (gnf 2 rfl)
   (Zw (WN (Zh3 (ZP XM (Zy ZV (vn 0) (vn 2)) Zx (ZW _)) (Ze7 (ZP (Zo0 K) Zx (cmp ["_law_k"] [2] ["_law_k", "_law_p"] rfl (ZhJ T.range (pc Zx (pc (vn 2) Zt))) (λ_ _ _ _ _=>gn 0) (λ_ _ _ _ _=>ZM) (λ_ _ _ _ _=>Zy ZV (vn 1) (vn 0))) (by rfl)))).pt (Zw (ZH 1 rfl (cmp ["_law_k"] [1,0,2] ["_law_k", "_law_row", "_law_n", "_law_p"] rfl (WI T.range (pc (vn 0) Zt)) (λ_ _ _ _ _=>gn 0) (λ_ _ _ _ _=>ZM) (λ_ _ _ _ _=>Zy YC (ZD (Jb K) (vn 1) (vn 0) (λ_ _=>rfl)) (ZD (Jb K) (vn 1) (Zy ZV (Zy YC (vn 0) (Zy Wn (vn 2) (vn 3))) (vn 2)) (λ_ _=>rfl)))))) YF)))
   (Zw (ZK (JK XM (Zib K aJ lx PySem.F.type_list_count (Zo7 K) (vn 1) (pc Zx Zt)) (vn 0) (ZW _)))),?_⟩
  refine⟨_,rfl,_,_,rfl,rfl,_,_,rfl,⟨by omega,by omega,by omega,by omega⟩,?_⟩;rw[show ((n:Int)+1-2).toNat=n-1 by omega];refine Z0 (λi j M=>∃(r:Addr) (v2:TU),j=[some (.int n),some (.ref r),v2]/\Zv H M/\M r=some (.lst (ZF n (Num.Va n ((pls n i).map (n / ·)) u))))
   ⟨a,_,rfl,Zv.refl _,ha⟩ ?_ ?_
  ·rintro i j M hi ⟨r,v2,rfl,sm,hb⟩
   have e2:(2:Int)+(i:Int)=((i+2:Nat):Int):=by omega
   rw[e2];refine⟨_,rfl,_,rfl,_,_,rfl,rfl,(by show (0:Int)<((i+2:Nat):Int);omega),rfl,_,rfl,?_⟩;refine YE (λh0=>?_) (λh0=>?_)
   ·have h0:n % (i+2)=0:=by
     have:=V.int.inj (of_decide_eq_true h0);have e:(n:Int) % ((i+2:Nat):Int)=((n % (i+2):Nat):Int):=rfl;rw[e] at this;omega
    refine⟨_,rfl,_,_,rfl,⟨by omega,by omega,by omega,by omega⟩,?_⟩;rw[show (((i+2:Nat):Int)-2).toNat=i by omega];refine YI (Wi 2 i) [some (.int ((i+2:Nat):Int))] rfl (λk=>.int (((i+2:Nat):Int) % (2+(k:Int)))) (by rw[Za,Z7];omega) (λk y hy H2 s2 R g=>?_) (λD H2 nD s2 hD=>?_)
    ·obtain⟨hk,rfl⟩:=UA hy
     exact⟨_,rfl,_,rfl,_,_,rfl,rfl,(by show (0:Int)<2+(k:Int);omega),g H2 (Zv.refl _)⟩
    ·rw[Za,Z7] at hD
     have hD:H2 D=some (.lst (ZF i λk=>((i+2:Nat):Int) % (2+(k:Int)))):=hD;have ep:=ZkU (p:=i+2);rw[show i+2-2=i by omega] at ep;refine⟨D,_,rfl,.inl (.of hD),rfl,Zcp _ _,prm (i+2),congrArg V.bl ((if_pos rfl).trans ep),?_⟩;have J:=s2 _ _ hb;refine YE (λh1=>?_) (λh1=>?_)
     ·have hs:n / (i+2)<=n:=fP _ _
      refine⟨_,rfl,n,rfl,by omega,by omega,?_⟩;rw[Zj];generalize hg:Num.Va n ((pls n i).map (n / ·)) u=c at hb J;refine YI (Wi 0 n) [some (.ref r),some (.int n),some (.int ((i+2:Nat):Int))] rfl (λk=>.int (Num.lk n (n / (i+2)) c k)) (by rw[Za,Z7];omega) (λk y hy H3 s3 R g=>?_) (λD3 H3 n6 s3 O=>?_)
      ·obtain⟨hk,rfl⟩:=Vm hy
       have Y:=s3 _ _ J;have eD:(n:Int) / ((i+2:Nat):Int)=((n / (i+2):Nat):Int):=rfl;have eM:((k:Int)-((n / (i+2):Nat):Int)) % (n:Int)=(((k+(n-n / (i+2))) % n:Nat):Int):=by
        have e:(k:Int)-((n / (i+2):Nat):Int)=((k+(n-n / (i+2)):Nat):Int)+(-1)*(n:Int):=by omega
        rw[e,Int.add_mul_emod_self_right];omega
       refine⟨_,rfl,_,rfl,r,_,_,_,rfl,rfl,.of Y,ZI (Yr c hk),_,rfl,_,rfl,_,rfl,_,rfl,_,_,rfl,rfl,⟨by omega,by omega⟩,_,_,rfl,rfl,_,rfl,_,_,rfl,rfl,(by show (0:Int)<n;omega),r,_,_,.int (c ((k+(n-n / (i+2))) % n)),rfl,rfl,.of Y,?_,_,_,rfl,rfl,g H3 (Zv.refl _)⟩;rw[eD,eM];exact ZI (Yr c (bc _ n1))
      ·rw[Za,Z7] at O
       refine⟨D3,_,rfl,(sm.trans s2).trans s3,?_⟩;rw[O,UF,if_pos (by rw[h1,h0];rfl),aO,<-hg];unfold Num.Va;rw[i9];rfl
     ·refine⟨r,_,rfl,sm.trans s2,?_⟩
      rw[J,UF,if_neg (by rw[gy.mpr h1,jN];decide),eX]
   ·refine⟨r,_,rfl,sm,?_⟩
    have h0:¬n % (i+2)=0:=λz=>h0 (decide_eq_true (congrArg V.int (by
     have e:(n:Int) % ((i+2:Nat):Int)=((n % (i+2):Nat):Int):=rfl;rw[e,z];rfl)))
    rw[hb,UF,if_neg (by rw[beq_eq_false_iff_ne.mpr h0,jM];decide),eX]
  ·rintro j M ⟨r,v2,rfl,sm,hb⟩
   rw[Zf6 n1 n60] at hb;refine⟨_,rfl,.inl ⟨rfl,_,.of hb⟩,r,_,_,rfl,rfl,hb,rfl,Zcp _ _,_,rfl,rfl,?_⟩;refine q _ M sm ?_;obtain⟨_,m6,_⟩:=N47.Zir n1 n60;rw[<-Num.Znk (N47.UV n1 n60).1 (λp hp=>(m6 p hp).1) u,decide_eq_true_eq];unfold Num.Nou;rw[<-ZfV];exact⟨λh=>by have:=V.int.inj h;omega,λh=>by rw[h]⟩
end
section
variable {t:T9}{n p m:Nat}{e ω φ:Nat->Nat->Nat}{z:Nat}{dg:Nat->Nat}{o:T7}
theorem ZgX (P:PW t){s x y:Nat}(ec:∀x y,x<t.length->y<t.length->e s (tb t x y)=e s x)(j:x<t.length)(q:y<t.length):Xv t n p e z dg s (tb t x y)=Xv t n p e z dg s x:=by
 unfold Xv;rw[ZhT P j q];congr 2;funext k;rw[Zfu P j q,ec _ _ (Jc P j k) q]
theorem Zke (P:PW t)(O:Ord t.length o){x:Nat}(J:x<t.length):rdT (ren t o) x=rdT t (o.getD x 0):=by
 unfold rdT;rw[Wj O];have j:(λr=>it (ren t o) x (r+1) == 0)=λr=>it t (o.getD x 0) (r+1) == 0:=funext λr=>by
  have Y:=ZcN P O J (r+1);have M:=Jc (W1 P O) (a:=x) (by rw[Wj O];exact J) (r+1);rw[Wj O] at M;rw[<-Y];by_cases q:it (ren t o) x (r+1)=0
  ·rw[q,O.z]
  ·have q2:o.getD (it (ren t o) x (r+1)) 0≠0:=λw=>q (inj O M P.n1 (w.trans O.z.symm))
   rw[beq_eq_false_iff_ne.mpr q,beq_eq_false_iff_ne.mpr q2]
 rw[j]
theorem Zmp (P:PW t)(O:Ord t.length o){s x:Nat}(j:x<t.length):Xv (ren t o) n p (λs x=>e s (o.getD x 0)) z dg s x=Xv t n p e z dg s (o.getD x 0):=by
 unfold Xv;rw[Zke P O j,Wj O];congr 2;funext k;show ((e s (o.getD (it (ren t o) x k) 0):Nat):Int)=_;rw[ZcN P O j]
end
section
variable {t:T9}{o:T7}{n p m:Nat}{e ω φ:Nat->Nat->Nat}{z:Nat}{dg:Nat->Nat}
theorem Zmo (P:PW t)(D:TD t n p m e ω φ z dg){s y:Nat}(hs:s<m)(J:y<t.length):Yg t y<m/\Xv t n p e z dg s (ZG t (Yg t y))=Xv t n p e z dg s y:=by
 have se:=Jg P t.length (Zq _) y J;have j:Yg t y<(ZA t t.length).length:=cB.mpr (by
  obtain⟨c,q,M⟩:=aU.mp se;exact⟨c,q,M⟩)
 have mc:=D.cd.mc;refine⟨by rw[mc];exact j,?_⟩;obtain⟨q,M⟩:=XE P j;obtain⟨b,hb,O⟩:=U6 P j;have Y:y∈ZZ t b:=by
  rw[<-O];have this:=dR (xs:=ZA t t.length) (p:=λc:T7=>c.contains y) (w:=j);rw[Zb,Zf j];exact aw.mp this
 rw[O] at q M;have e1:ZG t (Yg t y)=(ZZ t b).getD 0 0:=by unfold ZG;rw[O]
 rw[e1];obtain⟨u,hu,eu⟩:=(Yf P hb).mp q;obtain⟨v,hv,ev⟩:=(Yf P hb).mp Y;have ec:=λx y hx J=>D.cd.ec s x y hs hx J;rw[<-eu,<-ev,ZgX P ec hb hu,ZgX P ec hb hv]
def VP (t:T9)(o:T7)(c:Nat):Nat:=Yg t (o.getD (ZG (ren t o) c) 0)
end
section
variable {t:T9}{o:T7}
theorem XO (p:Nat->Bool):∀n,((ac n).filter p).length=sm n λw=>Xg (p w)
 |0=>rfl
 |n+1=>by
  rw[bG,iS,Zd,XO p n,Y1];congr 1;cases h:p n with
  |true=>rw[List.filter_cons_of_pos h];rfl
  |false=>rw[List.filter_cons_of_neg (by rw[h];decide)];rfl
theorem Zjj (b:Nat):(ZZ t b).length=sm t.length λa=>Xg (cjB t b a):=XO _ _
theorem UK {b a:Nat}(P:PW t)(hb:b<t.length):cjB t b a=true↔a∈ZZ t b:=by rw[X8,Yf P hb]
theorem Zjh (P:PW t){b y:Nat}(hb:b<t.length)(J:y∈ZZ t b):ZZ t y=ZZ t b:=by
 have q:=X6 J;refine mH λa M=>?_;have j:=af.mp M;show cjB t y a=cjB t b a;rw[bT,UK P q,UK P hb];constructor
 ·intro h
  exact Yq P hb j J (Yq P j q (YJ P j) h)
 ·intro h
  exact Yq P q j (Yq P q hb (YJ P q) J) (Yq P j hb (YJ P j) h)
theorem Zjg (P:PW t){c:Nat}(j:c<(ZA t t.length).length):(ZA t t.length).getD c []=ZZ t (ZG t c):=by
 obtain⟨b,hb,J⟩:=U6 P j;have q:=(XE P j).1;unfold ZG;rw[J] at q ⊢;exact (Zjh P hb q).symm
theorem ZnO (P:PW t){y:Nat}(M:y<t.length):Yg t y<(ZA t t.length).length/\(ZA t t.length).getD (Yg t y) []=ZZ t y:=by
 have O:=Jg P t.length (Zq _) y M;have j:Yg t y<(ZA t t.length).length:=cB.mpr (by
  obtain⟨c,Y,h2⟩:=aU.mp O;exact⟨c,Y,h2⟩)
 refine⟨j,?_⟩;obtain⟨b,hb,J⟩:=U6 P j;have q:y∈ZZ t b:=by
  rw[<-J];have this:=dR (xs:=ZA t t.length) (p:=λc:T7=>c.contains y) (w:=j);rw[Zb,Zf j];exact aw.mp this
 rw[J];exact (Zjh P hb q).symm
theorem Zhs (P:PW t)(O:Ord t.length o){c:Nat}(j:c<(ZA (ren t o) (ren t o).length).length):((ZA (ren t o) (ren t o).length).getD c []).length=((ZA t t.length).getD (VP t o c) []).length:=by
 have q:=W1 P O;have len:(ren t o).length=t.length:=Wj O;have J:ZG (ren t o) c<t.length:=by
  have:=(XE q j).2;rw[len] at this;unfold ZG;rw[len];exact this
 unfold VP;rw[Zjg q j,Zjj,(ZnO P (YT O J)).2,Zjj,len,<-ZhK O λa=>Xg (cjB t (o.getD (ZG (ren t o) c) 0) a)];exact Yy λa M=>by rw[ZhL P O J M]
end
noncomputable abbrev ZoC:Stmt:=top 44
noncomputable abbrev ZoB:Stmt:=top 48
noncomputable abbrev ZmI:Stmt:=top 39
noncomputable abbrev ZoE:Stmt:=top 41
def flV (n:Nat)(u:Nat->Int)(k:Nat):Int:=u ((n-k) % n)
inductive ZcA (vs:TV) (H:Hp) (Q:VK) (E03:XK):Prop
 |mk (n:Nat) (a:Addr) (u:Nat->Int):(vs=[.int n,.ref a])->(1<=n)->(n<=60)->(H a=some (.lst (ZF n u)))->(∀l H',Zv H H'->H' l=some (.lst (ZF n (flV n u)))->Q (.ref l) H')->ZcA vs H Q E03
def ZjQ (n:Nat):T7:=((ac n).map (· + 1)).filter λk=>decide (iI k n=1)
def wyP (n:Nat):V->Bool
 | .int z=>decide (iI z.toNat n=1)
 |_=>false
theorem Zok (n:Nat):(((Y3 1 n).map V.int).filter (wyP n)).map id=(ZjQ n).map nV:=by
 unfold ZjQ Y3;rw[List.map_id,aH,ii,ii,aH];have e:((V.int ∘ λi:Nat=>(1:Int)+(i:Int)))=nV ∘ λx=>x+1:=funext λi=>by
  show V.int (1+(i:Int))=V.int ((i+1:Nat):Int);congr 1;omega
 rw[e];congr 1
theorem ZjP:((ac 61).all λn=>n == 0 || ((ZjQ n).length:Int) == N47.ZbA n)=true:=by decide +kernel
theorem ZjO {n:Nat}(q:1<=n)(j:n<=60):(ZjQ n).length=N47.YL n:=by
 have h:=az.mp ZjP n (af.mpr (by omega));rw[aY,beq_iff_eq,beq_iff_eq] at h;have J:=(N47.UV q j).2;have:=h.resolve_left (by omega);omega
inductive Zhj (vs:TV) (H:Hp) (Q:VK) (E03:XK):Prop
 |mk (n:Nat):(vs=[.int n])->(1<=n)->(n<=60)->(∀H',Zv H H'->Q (.int (N47.YL n:Nat)) H')->Zhj vs H Q E03
inductive Zhm (vs:TV) (H:Hp) (Q:VK) (E03:XK):Prop
 |mk (g L1 D1:Addr) (t:T9) (bs:TW) (kvs:List (YQ×V)):(vs=[.ref g,.ref L1,.ref D1])->(GT H g t)->(PW t)->(LsC H L1 bs (ZA t t.length))->(H D1=some (.dK kvs))->((∀a:Nat,a<t.length->YZ kvs (.inl (a:Int))=some (.int (Yg t a:Nat))))->(∀L H',Zv H H'->Q (.ref L) H')->Zhm vs H Q E03
inductive Zhl (vs:TV) (H:Hp) (Q:VK) (E03:XK):Prop
 |mk (g:Addr) (t:T9):(vs=[.ref g])->(GT H g t)->(PW t)->(∀r L2 L3 L1 D1 bs kvs (n:Nat) H',Zv H H'->H' r=some (.tup [.int n,.int (t.length:Nat),.ref L2,.ref L3,.ref L1,.ref D1])->H' L2=some (.lst (ZF (ZA t t.length).length λc=>((((ZA t t.length).getD c []).length:Nat):Int)))->LsC H' L1 bs (ZA t t.length)->H' D1=some (.dK kvs)->(∀a:Nat,a<t.length->YZ kvs (.inl (a:Int))=some (.int (Yg t a:Nat)))->Lc (rdT t) t.length n->Q (.ref r) H')->Zhl vs H Q E03
section
variable {P:Program}{w:World}{K:aa}{mg:TX}{base:Heap}
theorem Znd {f:Addr}{fd:FuncData}(F:WA K "_law_flip" "_law_flip" ZoC f fd)(T:Bl mg):Z8 P w K mg base Yd 1 f fd ["_law_n", "_law_one"] ZcA:=by
 refine F.ok (FS (N:=["_law_n", "_law_one"])) (λY H Q E h=>?_) (λm5 A J s H Y Q E hr h=>?_)
 ·obtain⟨n,a,u,rfl,_⟩:=h;rfl
 ·obtain⟨n,a,u,rfl,n1,n60,ha,q⟩:=h
  refine⟨_,Zw (ZK (cmp ["_law_k"] [1,0] ["_law_k", "_law_one", "_law_n"] rfl (WI T.range (pc (vn 0) Zt)) (λ_ _ _ _ _=>gn 0) (λ_ _ _ _ _=>ZM) (λ_ _ _ _ _=>ZD (Jb K) (vn 1) (Zy ZV (Zy YC (vn 2) (vn 0)) (vn 2)) (λ_ _=>rfl)))),?_⟩;refine⟨_,rfl,n,rfl,by omega,by omega,?_⟩;rw[Zj];refine YI (Wi 0 n) [some (.ref a),some (.int n)] rfl (λk=>.int (flV n u k)) (by rw[Za,Z7];omega) (λk y hy M O R g=>?_) (λD3 M m6 O j=>?_)
  ·obtain⟨hk,rfl⟩:=Vm hy
   have eM:((n:Int)-(k:Int)) % (n:Int)=(((n-k) % n:Nat):Int):=by
    rw[show (n:Int)-(k:Int)=((n-k:Nat):Int) by omega];rfl
   exact⟨_,rfl,_,rfl,_,rfl,_,_,rfl,rfl,_,rfl,_,_,rfl,rfl,(by show (0:Int)<n;omega),a,_,_,_,rfl,rfl,.of (O _ _ ha),by rw[eM];exact ZI (Yr u (bc _ n1)),g M (Zv.refl _)⟩
  ·rw[Za,Z7] at j
   exact q D3 M O j
theorem Znb {f:Addr}{fd:FuncData}(F:WA K "_law_places" "_law_places" ZoB f fd)(T:Bl mg)(GA:Fn P w K mg base Yd 1 "_law_alone" ["_law_k", "_law_n"] Zhp):Z8 P w K mg base Yd 2 f fd ["_law_n"] Zhj:=by
 refine F.ok (FS (N:=["_law_n"])) (λvs H Q E h=>?_) (λm5 A J s H vs Q E hr h=>?_)
 ·obtain⟨n,rfl,_⟩:=h;rfl
 ·obtain⟨n,rfl,n1,n60,q⟩:=h
  refine⟨_,Zw (ZK (cb (Yt K) T.len (pc (cmp ["_law_k"] [0] ["_law_k", "_law_n"] rfl (ZhJ T.range (pc Zx (pc (Zy Ym (vn 0) Zx) Zt))) (λ_ _ _ _ _=>gn 0) (λ_ _ _ _ _=>Zbz (Xa (Wh GA hr ZL (pc (vn 0) (pc (vn 1) Zt))))) (λ_ _ _ _ _=>vn 0)) Zt))),?_⟩;refine⟨_,rfl,_,_,rfl,rfl,_,_,rfl,⟨by omega,by omega,by omega,by omega⟩,?_⟩;rw[show ((n:Int)+1-1).toNat=n by omega];refine VN (Wi 1 n) [some (.int n)] rfl (wyP n) id (by rw[Za,Z7];omega) (λi x H' hx s' R R' g1 g0=>?_) (λL7 M m6 O j=>?_)
  ·obtain⟨hi,rfl⟩:=UA hx
   have e1:(1:Int)+(i:Int)=((i+1:Nat):Int):=by omega
   rw[e1] at g1 g0 ⊢;refine⟨_,rfl,_,rfl,i+1,n,rfl,_,rfl,?_⟩;refine YE (λY=>?_) (λY=>?_)
   ·exact⟨_,rfl,g1 Y H' (Zv.refl _)⟩
   ·exact g0 (gy.mpr Y) H' (Zv.refl _)
  rw[Zok] at j;refine⟨L7,_,rfl,.inl (.of j),?_⟩;rw[Za,ZjO n1 n60];exact q M O
theorem Zng {f:Addr}{fd:FuncData}(F:WA K "_law_counts" "_law_counts" ZmI f fd)(T:Bl mg):Z8 P w K mg base Yd 1 f fd ["_law_group_here", "_law_classes_here", "_law_met"] Zhm:=by
 refine F.ok (FS (N:=["_law_group_here", "_law_classes_here", "_law_met", "_law_backs", "_law_many", "_law_found", "_law_k", "_law_x", "_law_y", "_law_line"])) (λvs H Q E h=>?_) (λo7 A o8 s H vs Q E hr h=>?_)
 ·obtain⟨g,L1,D1,t,bs,o9,rfl,_⟩:=h;rfl
 ·obtain⟨g,L1,D1,t,bs,o9,rfl,G,Y,LC,hD,hv,q⟩:=h
  have hu:(A.deeper (envOfC "_law_counts" (Z1 ZmI) s.heap.objs.size f o7)).units+1<cLine:=by have:=hr.un;omega
  refine⟨_,Zs (Zai 3 ["_law_row"] [] ["_law_row"] rfl rfl (itT K (vn 0)) (λ_ _ _ _ _=>gn 0) (λ_ _ _ _ _=>ZM) (λ_ _ _ _ _=>ZbC eC cS eA (ZjU K) (vn 0) (pc Zx Zt)))
   (Zs (ZH 4 rfl (cb (Yt K) T.len (pc (vn 1) Zt)))
   (Zs (Zai 5 ["_law_i"] [4] ["_law_i", "_law_many"] rfl rfl (WI T.range (pc (vn 4) Zt)) (λ_ _ _ _ _=>gn 0) (λ_ _ _ _ _=>ZM) (λ_ _ _ _ _=>cmp ["_law_j"] [1] ["_law_j", "_law_many"] rfl (WI (by exact T.range) (pc (vn 1) Zt)) (λ_ _ _ _ _=>gn 0) (λ_ _ _ _ _=>ZM) (λ_ _ _ _ _=>Zy WJ (ZR (pc Zx Zt)) (vn 1))))
   (Zs (ZN am rfl (WI T.range (pc (vn 4) Zt)) (gn 6)
   (Zw (ZN am rfl (WI T.range (pc (cb (Yt K) T.len (pc (vn 0) Zt)) Zt)) (gn 7)
   (Zs (ZH 8 rfl (ZD (JW K) (ZD (JW K) (vn 0) (ZD (Jb K) (vn 3) (vn 7) (λ_ _=>rfl)) (λ_ _=>rfl)) (ZD (Jb K) (ZD (Jb K) (vn 1) (vn 6) (λ_ _=>rfl)) Zx (λ_ _=>rfl)) (λ_ _=>rfl)))
   (Zs (ZH 9 rfl (ZD (Jb K) (ZD (Jb K) (vn 5) (Ww hu (vn 2) (vn 7) (λ_ _=>rfl)) (λ_ _=>rfl)) (Ww hu (vn 2) (vn 8) (λ_ _=>rfl)) (λ_ _=>rfl)))
   (Zw (W2 (Zy Ym (ZD (Jb K) (vn 9) (vn 6) (λ_ _=>rfl)) Zx) (Xc (vn 9) (vn 6) YS))))))))
   (Zw (ZK (vn 5)))))),?_⟩
  have sz:=JE;have N1:=Y.n1;have q0:=Y.n60;have ul:=Wr (t:=t) t.length;have U:=YM Y;have m1:1<=(ZA t t.length).length:=by
   have:=U.lt 0 N1;omega
  obtain⟨gs,u1,u2,u3⟩:=id G;have el:(gs.map V.ref).length=t.length:=by rw[Za,u2]
  refine⟨_,rfl,g,rfl,⟨_,.of u1⟩,?_⟩;refine YI (Wa (K:=K) (.of u1)) [] rfl (λa=>nV (Yc t a)) (by rw[el];omega) (λi y hy H' s' R' kk=>?_) (λBk H1 nB s1 hB=>?_)
  ·obtain⟨r,m5,rfl⟩:=J6 hy
   have hi:i<t.length:=by rw[<-u2];exact (ae.mp m5).1
   have hz:=(u3 i r m5).mono s';obtain⟨b1,b2⟩:=Z4 Y hi;have hl:=JJ Y hi;refine⟨_,rfl,⟨_,_,rfl,hz⟩,r,_,.int 0,Yc t i,rfl,rfl,hz.sq,rfl,?_,by rw[Za,hl];exact b1,λz J=>?_,λm z hm J=>?_,kk H' (Zv.refl _)⟩
   ·rw[az]
    intro z J;obtain⟨k,_,rfl⟩:=aE.mp J;rfl
   ·rw[Jo Y hi b1,b2] at J
    cases J;decide
   ·have m6:m<t.length:=by omega
    rw[Jo Y hi m6] at J;cases J;have:ZQ t i m≠0:=λz=>by
     have:=JR Y hi m6 z;omega
    show decide ((ZQ t i m:Int)=0)=false;exact decide_eq_false (by omega)
  rw[el] at hB;have bl:(bs.map V.ref).length=(ZA t t.length).length:=by rw[Za,LC.2.1]
  refine⟨_,rfl,L1,_,rfl,.inl (.of (LC.mono s1).1),?_⟩;rw[bl];generalize hm:(ZA t t.length).length=m at *;refine⟨_,rfl,m,rfl,by omega,by omega,?_⟩;rw[Zj];have rl:((Y3 0 m).map V.int).length=m:=by rw[Za,Z7]
  refine ZaU (Wi 0 m) [some (.int m)] rfl (by rw[rl];omega) rl m1 (λi y hy H3 s3 R k=>?_) (λL A B H3 nL N=>?_)
  ·refine⟨_,rfl,m,rfl,by omega,by omega,?_⟩
   rw[Zj];refine ZaV (Wi 0 m) [some (.int m)] rfl (by rw[rl];omega) rl (λj y' r6 H4 s4 R' k'=>?_) (λw' H4 s4 M p3=>k w' H4 s4 M p3);refine⟨JF,λl0 p4=>?_⟩;have s5:=Zv.upd (H:=H4) (o:=.lst [.int 0]) p4;refine⟨_,rfl,l0,_,_,rfl,rfl,Zu,by omega,by omega,(by show 1*((m:Int)).toNat<=sizeLine;omega),λb nb=>?_⟩;rw[Zj];have e0:(ah m [V.int 0]).flatten=(Yl m λ_=>0).map nV:=by
    rw[WW];unfold ZF Yl;rw[aH];rfl
   rw[e0];exact k' b _ (s5.trans (Zv.upd nb)) Zu (s5.free nb)
  refine⟨_,rfl,m,rfl,by omega,by omega,?_⟩;rw[Zj];refine Z0 (λk O H'=>∃v6 v7 v8 v9:TU,O=[some (.ref g),some (.ref L1),some (.ref D1),some (.ref Bk),some (.int m),some (.ref L),v6,v7,v8,v9]/\∃f,N3 H1 H' L m A B f)
   ⟨_,_,_,_,rfl,_,N⟩ ?_ ?_
  ·rintro k O H4 hk ⟨v6,v7,v8,v9,rfl,f4,N4⟩
   rw[show (0:Int)+(k:Int)=(k:Int) by omega];refine⟨_,rfl,g,_,rfl,.inr (.of (N4.sm _ _ (s1 _ _ u1))),_,rfl,by omega,by rw[el];omega,?_⟩;rw[el,Zj];refine Z0 (λx O H'=>∃v7 v8 v9:TU,O=[some (.ref g),some (.ref L1),some (.ref D1),some (.ref Bk),some (.int m),some (.ref L),some (.int (k:Nat)),v7,v8,v9]/\∃f,N3 H1 H' L m A B f)
    ⟨_,_,_,rfl,_,N4⟩ ?_ ?_
   ·rintro x O H5 hx ⟨v7,v8,v9,rfl,f5,N5⟩
    rw[show (0:Int)+(x:Int)=(x:Int) by omega];have p6:k<(ZA t t.length).length:=by rw[hm];exact hk
    obtain⟨e1,e2⟩:=XE Y p6;have m8:=U.rl k hk;have b0:(((ZA t t.length).getD k []).map nV)[0]?=some (nV (ZG t k)):=by
     rw[Zc,Wp (fc e1)];rfl
    have gb:bs[k]?=some (bs.getD k 0):=by rw[Zb,Zf (by rw[LC.2.1,hm];exact hk)];rfl
    have n6:=(LC.mono s1).mono N5.sm;obtain⟨b1,b2⟩:=Z4 Y hx;have gk:((ac t.length).map λa=>nV (Yc t a))[x]?=some (nV (Yc t x)):=by
     rw[Zc,aj hx];rfl
    obtain⟨r8,r2,p7,_,p8,g3,g4⟩:=((G.mono s1).mono N5.sm).at Y b1;have hy:=Y.lt _ _ b1 m8;have ix:=U.lt x hx;have iy:=U.lt _ hy;have n8:=N5.sm _ _ (s1 _ _ hD);have n9:=Ji.k (k:=.inl ((x:Nat):Int)) n8;rw[hv _ hx] at n9;have o0:=Ji.k (k:=.inl ((ZQ t (Yc t x) (ZG t k):Nat):Int)) n8;rw[hv _ hy] at o0;have t1:((ac m).map λi=>V.ref (A i))[Yg t x]?=some (.ref (A (Yg t x))):=by rw[Zc,aj ix];rfl
    have t2:((ac m).map λj=>V.ref (B (Yg t x) j))[Yg t (ZQ t (Yc t x) (ZG t k))]?=some (.ref (B (Yg t x) (Yg t (ZQ t (Yc t x) (ZG t k))))):=by rw[Zc,aj iy];rfl
    have t3:((Yl m (f5 (Yg t x) (Yg t (ZQ t (Yc t x) (ZG t k))))).map nV)[k]?=some (nV (f5 (Yg t x) (Yg t (ZQ t (Yc t x) (ZG t k))) k)):=by
     unfold Yl;rw[Zc,Zc,aj hk];rfl
    have lw:=N5.low _ _ ix iy;refine⟨_,rfl,_,rfl,_,rfl,Bk,_,_,_,rfl,rfl,.of (N5.sm _ _ hB),ZI gk,g,_,_,_,rfl,rfl,.of p7,p8,_,rfl,_,rfl,L1,_,_,_,rfl,rfl,.of n6.1,ZI (by rw[Zc,gb];rfl),bs.getD k 0,_,_,_,rfl,rfl,.of (n6.2.2 k _ gb).2,ZI (j:=0) b0,r2,_,_,_,rfl,rfl,g3.sq,g4 _ m8,?_⟩;refine⟨_,rfl,_,rfl,_,rfl,D1,_,rfl,n9,L,_,_,_,rfl,rfl,.of N5.top,ZI t1,_,rfl,_,rfl,D1,_,rfl,o0,A (Yg t x),_,_,_,rfl,rfl,.of (N5.mid _ ix),ZI t2,?_⟩;refine⟨_,rfl,_,rfl,_,_,_,_,rfl,rfl,.of lw,ZI t3,_,_,rfl,rfl,_,rfl,_,rfl,_,_,_,k,rfl,rfl,lw,?_,?_⟩
    ·rw[Za,UB]
     exact Ja hk
    ·exact⟨_,_,_,rfl,_,N5.put (v:=f5 (Yg t x) (Yg t (ZQ t (Yc t x) (ZG t k))) k+1) ix iy hk⟩
   ·rintro O H5 ⟨v7,v8,v9,rfl,f5,N5⟩
    exact⟨_,_,_,_,rfl,_,N5⟩
  ·rintro O H4 ⟨v6,v7,v8,v9,rfl,f4,N4⟩
   exact⟨_,rfl,q L H4 (s1.trans N4.sm)⟩
theorem Znf {f:Addr}{fd:FuncData}(F:WA K "_law_facts" "_law_facts" ZoE f fd)(T:Bl mg)(GC:Fn P w K mg base Yd 1 "_law_classes" ["_law_group_here"] ZdU)(m8:Fn P w K mg base Yd 1 "_law_round" ["_law_group_here"] Us)(n6:Fn P w K mg base Yd 1 "_law_counts" ["_law_group_here", "_law_classes_here", "_law_met"] Zhm):Z8 P w K mg base Yd 2 f fd ["_law_group_here"] Zhl:=by
 refine F.ok (FS (N:=["_law_group_here", "_law_classes_here", "_law_met", "_law_sizes"])) (λvs H Q E h=>?_) (λo7 A n8 s H vs Q E hr h=>?_)
 ·obtain⟨g,t,rfl,_⟩:=h;rfl
 ·obtain⟨g,t,rfl,G,O,q⟩:=h
  refine⟨_,Zs (W2 (Wh GC hr ZL (pc (vn 0) Zt)) (g2 K 1 2 rfl (gn 1) (gn 2)))
   (Zs (Zai 3 ["_law_one"] [] ["_law_one"] rfl rfl (itL K (vn 1)) (λ_ _ _ _ _=>gn 0) (λ_ _ _ _ _=>ZM) (λ_ _ _ _ _=>cb (Yt K) (by exact T.len) (pc (vn 0) Zt)))
   (Zw (ZK (XW (pc (Wh m8 hr ZL (pc (vn 0) Zt)) (pc (cb (Yt K) T.len (pc (vn 0) Zt)) (pc (vn 3) (pc (Wh n6 hr ZL (pc (vn 0) (pc (vn 1) (pc (vn 2) Zt)))) (pc (vn 1) (pc (vn 2) Zt)))))))))),?_⟩
  have sz:=JE;have o8:=O.n60;have ul:=Wr (t:=t) t.length;refine⟨_,rfl,g,t,rfl,G,O,λc1 L1 D1 bs Y H1 s1 h1 j m5 hv=>?_⟩;refine⟨c1,_,rfl,.of h1,rfl,_,_,rfl,_,_,rfl,rfl,?_⟩;refine⟨_,rfl,L1,rfl,⟨_,.of j.1⟩,?_⟩;refine YI (Ys (K:=K) (.of j.1)) [] rfl (λc=>.int ((((ZA t t.length).getD c []).length:Nat):Int)) (by rw[Za,j.2.1];omega) (λi y hy H' s' R' kk=>?_) (λL2 H2 o9 s2 m6=>?_)
  ·obtain⟨b,hb,rfl⟩:=J6 hy
   have n9:=s' _ _ (j.2.2 i b hb).2;refine⟨_,rfl,b,_,rfl,.inl (.of n9),?_⟩;rw[Za];exact kk H' (Zv.refl _)
  rw[Za,j.2.1] at m6;have o0:∀a,a<t.length->Rd t a (rdT t a):=λa ha=>by
   obtain⟨r,R⟩:=O.rd a ha;rw[VD R];exact R
  have G2:=(G.mono s1).mono s2;refine⟨_,rfl,g,t,rdT t,rfl,G2,O,o0,λn H3 s3 L3=>?_⟩;obtain⟨gs,u1,u2,_⟩:=G2.mono s3;have el:(gs.map V.ref).length=t.length:=by rw[Za,u2]
  refine⟨_,rfl,g,_,rfl,.inr (.of u1),?_⟩;rw[el];have J:=s2.trans s3;refine⟨_,rfl,_,rfl,_,rfl,_,rfl,g,L1,D1,t,bs,Y,rfl,G2.mono s3,O,j.mono J,J _ _ m5,hv,λL H4 s4=>?_⟩;refine⟨_,rfl,_,rfl,JF,λr nr=>?_⟩;have s5:=Zv.upd (H:=H4) (o:=.tup [.int n,.int (t.length:Nat),.ref L2,.ref L,.ref L1,.ref D1]) nr;have M:=(J.trans s4).trans s5;exact q r L2 L L1 D1 bs Y n _ (s1.trans M) Zu (s5 _ _ (s4 _ _ (s3 _ _ m6))) (j.mono M) (M _ _ m5) hv L3
end
noncomputable abbrev ZoG:Stmt:=top 49
noncomputable abbrev Zoz:Stmt:=top 50
def RwC (H:Hp)(L:Addr)(n m:Nat)(j:Nat->TZ):Prop:=∃rs:TW,H L=some (.lst (rs.map V.ref))/\rs.length=m/\∀(c:Nat) r,rs[c]?=some r->H r=some (.lst (ZF n (Num.co (j c))))
theorem RwC.mono {H j:Hp}{L:Addr}{n m:Nat}{q:Nat->TZ}(h:RwC H L n m q)(s:Zv H j):RwC j L n m q:=by
 obtain⟨J,M,O,Y⟩:=h;exact⟨J,s _ _ M,O,λc r hc=>s _ _ (Y c r hc)⟩
theorem RwC.at {H:Hp}{L:Addr}{n m:Nat}{j:Nat->TZ}(h:RwC H L n m j){c:Nat}(M:c<m):∃(xs:TV) (r:Addr),H L=some (.lst xs)/\Vx xs (c:Int)=some (.ref r)/\H r=some (.lst (ZF n (Num.co (j c)))):=by
 obtain⟨rs,q,O,J⟩:=h;have e:rs[c]?=some (rs.getD c 0):=by rw[Zb,Zf (by omega)];rfl
 exact⟨_,rs.getD c 0,q,ZI (by rw[Zc,e];rfl),J c _ e⟩
def RsC (H:Hp)(L:Addr)(n m:Nat)(Z:Nat->Nat->TZ):Prop:=∃ls:TW,H L=some (.lst (ls.map V.ref))/\ls.length=m/\∀(i:Nat) l,ls[i]?=some l->RwC H l n m (Z i)
theorem RsC.mono {H j:Hp}{L:Addr}{n m:Nat}{Z:Nat->Nat->TZ}(h:RsC H L n m Z)(s:Zv H j):RsC j L n m Z:=by
 obtain⟨q,J,M,O⟩:=h;exact⟨q,s _ _ J,M,λc r Y=>(O c r Y).mono s⟩
theorem RsC.at {H:Hp}{L:Addr}{n m:Nat}{Z:Nat->Nat->TZ}(h:RsC H L n m Z){c:Nat}(J:c<m):∃(xs:TV) (r:Addr),H L=some (.lst xs)/\Vx xs (c:Int)=some (.ref r)/\RwC H r n m (Z c):=by
 obtain⟨rs,j,M,q⟩:=h;have e:rs[c]?=some (rs.getD c 0):=by rw[Zb,Zf (by omega)];rfl
 exact⟨_,rs.getD c 0,j,ZI (by rw[Zc,e];rfl),q c _ e⟩
def mmf (n:Nat)(a b:TZ)(z:Nat):Int:=Num.mm n (N47.RN n) (Num.co a) (flV n (Num.co b)) z
def SmZ (m:Nat)(Z:Nat->Nat->TZ):Prop:=∀s c i,s<m->c<m->-(2 ^ 20)<Num.co (Z s c) i/\Num.co (Z s c) i<2 ^ 20
inductive Zhn (vs:TV) (H:Hp) (Q:VK) (E03:XK):Prop
 |mk (r L2 L:Addr) (n N m:Nat) (x3 x4 x5:V) (sz:Nat->Nat) (Z:Nat->Nat->TZ):(vs=[.ref r,.ref L])->(1<=n)->(n<=60)->(N<=60)->(m<=60)->(H r=some (.tup [.int n,.int N,.ref L2,x3,x4,x5]))->(H L2=some (.lst (ZF m λc=>((sz c:Nat):Int))))->((∀c,c<m->1<=sz c/\sz c<=60))->(RsC H L n m Z)->(SmZ m Z)->((∀c c' z,c<m->c'<m->z<N47.YL n->Num.ZJ m (λs=>mmf n (Z s c) (Z s c') z)=if c=c'/\z=0 then ((N / sz c:Nat):Int) else 0))->(∀H',Zv H H'->Q (.bl true) H')->Zhn vs H Q E03
inductive Zhh (vs:TV) (H:Hp) (Q:VK) (E03:XK):Prop
 |mk (r L2 L:Addr) (n N m:Nat) (x3 x4 x5:V) (sz:Nat->Nat) (Z:Nat->Nat->TZ):(vs=[.ref r,.ref L])->(1<=n)->(n<=60)->(N<=60)->(m<=60)->(H r=some (.tup [.int n,.int N,.ref L2,x3,x4,x5]))->(H L2=some (.lst (ZF m λc=>((sz c:Nat):Int))))->((∀c,c<m->1<=sz c/\sz c<=60))->(RsC H L n m Z)->(SmZ m Z)->((∀s s' z,s<m->s'<s->z<N47.YL n->Num.ZJ m (λc=>((sz c:Nat):Int)*mmf n (Z s c) (Z s' c) z)=0))->(∀H',Zv H H'->Q (.bl true) H')->Zhh vs H Q E03
theorem Zg0 {n:Nat}(j:1<=n)(x:Int):[V.int x]++(ah (n-1) [V.int 0]).flatten=ZF n λi=>if i=0 then x else 0:=by
 rw[WW];obtain⟨k,rfl⟩:∃k,n=k+1:=⟨n-1,by omega⟩;unfold ZF;rw[ko,aN,aH];rfl
theorem ZkX {n:Nat}(J:1<=n)(j:n<=60)(x:Int){z:Nat}(hz:z<N47.YL n):Num.me n (N47.RN n) (λi=>if i=0 then x else 0) z=if z=0 then x else 0:=by
 have q:=(N47.UV J j).1;have e:=Num.ZiB (n:=n) (R:=N47.RN n) (λ_=>0) x (show 0<n by omega) z;rw[e,Num.ZbL];have:Num.rh n (N47.RN n) 0 z=if z=0 then 1 else 0:=by
  unfold Num.rh;rw[kO,q.un 0 q.t1,Num.Jm hz]
 rw[this];split <;> omega
section
variable {P:Program}{w:World}{K:aa}{mg:TX}{base:Heap}
theorem Znh {f:Addr}{fd:FuncData}(F:WA K "_law_columns" "_law_columns" ZoG f fd)(T:Bl mg)(GS:Fn P w K mg base Yd 1 "_law_sum" ["_law_one", "_law_other", "_law_often"] Ur)(GM:Fn P w K mg base Yd 1 "_law_mul" ["_law_n", "_law_one", "_law_other"] Zbi)(n8:Fn P w K mg base Yd 1 "_law_flip" ["_law_n", "_law_one"] ZcA)(GN:Fn P w K mg base Yd 1 "_law_is_nought" ["_law_n", "_law_row"] Uu):Z8 P w K mg base Yd 2 f fd ["_law_facts_here", "_law_rows_here"] Zhn:=by
 refine F.ok (FS (N:=["_law_facts_here", "_law_rows_here", "_law_n", "_law_count", "_law_sizes", "_law_counts_here", "_law_classes_here", "_law_met", "_law_i", "_law_j", "_law_found", "_law_row"])) (λvs H Q E h=>?_) (λt6 A n9 s H vs Q E hr h=>?_)
 ·obtain⟨r,L2,L,n,N,m,x3,x4,x5,sz,Z,rfl,_⟩:=h;rfl
 ·obtain⟨r,L2,L,n,N,m,x3,x4,x5,sz,Z,rfl,n1,n60,t7,t8,hF,h2,o0,RS,o7,m5,q⟩:=h
  refine⟨_,Zs (W2 (vn 0) (UI rfl (Z2 (gn 2) (Z2 (gn 3) (Z2 (gn 4) (Z2 (gn 5) (Z2 (gn 6) (Z2 (gn 7) Vn))))))))
   (Zs (ZN am rfl (WI T.range (pc (cb (Yt K) T.len (pc (vn 4) Zt)) Zt)) (gn 8)
   (Zw (ZN am rfl (WI T.range (pc (Zy Ym (vn 8) Zx) Zt)) (gn 9)
   (Zs (ZH 10 rfl (Zy VE (ZR (pc (Zy YC Zx (Zy ZS (ct ZaY T.int (pc (JK XM (vn 8) (vn 9) (ZW _)) Zt)) (Zy Wn (vn 3) (ZD (Jb K) (vn 4) (vn 8) (λ_ _=>rfl))))) Zt)) (Zy WJ (ZR (pc Zx Zt)) (Zy YC (vn 2) Zx))))
   (Zs (ZN am rfl (itL K (vn 1)) (gn 11)
   (Zw (ZH 10 rfl (Wh GS hr ZL (pc (vn 10) (pc (Wh GM hr ZL (pc (vn 2) (pc (ZD (Jb K) (vn 11) (vn 8) (λ_ _=>rfl)) (pc (Wh n8 hr ZL (pc (vn 2) (pc (ZD (Jb K) (vn 11) (vn 9) (λ_ _=>rfl)) Zt))) Zt)))) (pc Zx Zt)))))))
   (Zw (WN (Zby (Xa (Wh GN hr ZL (pc (vn 2) (pc (vn 10) Zt))))) (Zw (ZK V0)) YF)))))))
   (Zw (ZK V0))),?_⟩
  have JE:=JE;refine⟨_,rfl,r,_,rfl,.of hF,rfl,_,_,rfl,_,_,rfl,_,_,rfl,_,_,rfl,_,_,rfl,_,_,rfl,rfl,?_⟩;refine⟨_,rfl,L2,_,rfl,.inl (.of h2),_,rfl,by omega,by rw[ZT];omega,?_⟩;rw[ZT,Zj];refine Z0 (λi J Y=>∃v8 v9 O M:TU,J=[some (.ref r),some (.ref L),some (.int n),some (.int N),some (.ref L2),some x3,some x4,some x5,v8,v9,O,M]/\Zv H Y) ⟨_,_,_,_,rfl,Zv.refl _⟩ ?_ ?_
  ·rintro i J H1 hi ⟨v8,v9,O,M,rfl,s1⟩
   rw[show (0:Int)+(i:Int)=(i:Int) by omega];refine⟨_,rfl,_,_,rfl,rfl,_,rfl,by omega,by omega,?_⟩;rw[show ((i:Int)+1).toNat=i+1 by omega];refine Z0 (λj J Y=>∃v9 O M:TU,J=[some (.ref r),some (.ref L),some (.int n),some (.int N),some (.ref L2),some x3,some x4,some x5,some (.int (i:Nat)),v9,O,M]/\Zv H Y) ⟨_,_,_,rfl,s1⟩ ?_ ?_
   ·rintro j J H2 hj ⟨v9,O,M,rfl,s2⟩
    rw[show (0:Int)+(j:Int)=(j:Int) by omega];have m6:j<m:=by omega
    obtain⟨z1,z2⟩:=o0 i hi;refine⟨_,rfl,_,rfl,rfl,.inr ⟨_,rfl,_,rfl,_,rfl,_,rfl,L2,_,_,_,rfl,rfl,.of (s2 _ _ h2),ZI (Yr _ hi),_,_,rfl,rfl,⟨by omega,by omega⟩,_,_,rfl,rfl,.inl (by split <;> exact⟨by decide,by decide⟩),0,(if decide (V.int (i:Int)=V.int (j:Int))=true then 1 else 0)*((N:Int) / ((sz i:Nat):Int)),rfl,rfl,JF,λl1 o8=>?_⟩⟩
    have ex:(0:Int)-(if decide (V.int (i:Int)=V.int (j:Int))=true then 1 else 0)*((N:Int) / ((sz i:Nat):Int))=if i=j then -((N / sz i:Nat):Int) else 0:=by
     have e0:(N:Int) / ((sz i:Nat):Int)=((N / sz i:Nat):Int):=rfl;rw[e0];by_cases z:i=j
     ·rw[if_pos z,if_pos (decide_eq_true (by rw[z]))];omega
     ·rw[if_neg z,if_neg (λh=>z (by have:=V.int.inj (of_decide_eq_true h);omega))];omega
    generalize o9:(if i=j then -((N / sz i:Nat):Int) else 0)=x0 at ex
    have eu:upd H2 l1 (.lst [(λi j:Int=>V.int (i-j)) 0 ((if decide (V.int (i:Int)=V.int (j:Int))=true then 1 else 0)*((N:Int) / ((sz i:Nat):Int)))])=upd H2 l1 (.lst [.int x0]):=by
     show upd H2 l1 (.lst [.int (0-(if decide (V.int (i:Int)=V.int (j:Int))=true then 1 else 0)*((N:Int) / ((sz i:Nat):Int)))])=_
     rw[ex]
    rw[eu];obtain⟨H3,p3,s3,h3⟩:=XX (o:=.lst [.int x0]) o8;rw[p3];refine⟨JF,λl2 p4=>?_⟩;obtain⟨H4,p6,s4,h4⟩:=XX (o:=.lst [.int 0]) p4;rw[p6];refine⟨_,rfl,_,_,rfl,rfl,l2,_,_,rfl,rfl,h4,by omega,by omega,(by show 1*_<=_;omega),λl3 p7=>?_⟩;rw[show ((n:Int)-1).toNat=n-1 by omega];obtain⟨H5,p8,s5,h5⟩:=XX (o:=.lst (ah (n-1) [V.int 0]).flatten) p7;rw[p8];refine⟨l1,l3,_,_,rfl,rfl,s5 _ _ (s4 _ _ h3),h5,(by rw[Xz];show 1+_*1<=_;omega),λl4 q0=>?_⟩;rw[Zg0 n1];obtain⟨H6,r6,s6,h6⟩:=XX (o:=.lst (ZF n λi=>if i=0 then x0 else 0)) q0
    rw[r6];have m8:=(((s2.trans s3).trans s4).trans s5).trans s6;have r8:=RS.mono m8;obtain⟨ls,a1,a2,a3⟩:=id r8;refine⟨_,rfl,L,rfl,⟨_,.of a1⟩,?_⟩;refine WQ (Ys (K:=K) (.of a1)) (λk J Y=>∃(c:Nat->Int) (la:Addr) (M:TU),J=[some (.ref r),some (.ref L),some (.int n),some (.int N),some (.ref L2),some x3,some x4,some x5,some (.int (i:Nat)),some (.int (j:Nat)),some (.ref la),M]/\Zv H6 Y/\Y la=some (.lst (ZF n c))/\∀z,Num.me n (N47.RN n) c z=Num.me n (N47.RN n) (λi=>if i=0 then x0 else 0) z+Num.ZJ k λs=>mmf n (Z s i) (Z s j) z)
     ⟨_,l4,_,rfl,Zv.refl _,h6,λz=>(a9 _).symm⟩ (λi J Y h=>by obtain⟨_,_,_,_,sm,_⟩:=h;exact sm) ?_ ?_
    ·rintro k y J H7 hy ⟨c,la,M,rfl,s7,h7,hc⟩
     obtain⟨lk,n6,rfl⟩:=J6 hy;have hk:k<m:=by rw[<-a2];exact (ae.mp n6).1
     have RW:=(a3 k lk n6).mono s7;obtain⟨t9,r1,b1,b2,b3⟩:=RW.at hi;obtain⟨u5,r2,c1,c2,c3⟩:=RW.at m6;refine⟨_,rfl,_,rfl,_,rfl,_,rfl,lk,_,_,_,rfl,rfl,.of b1,b2,_,rfl,_,rfl,_,rfl,lk,_,_,_,rfl,rfl,.of c1,c2,n,r2,_,rfl,n1,n60,c3,λl5 H8 s8 h8=>?_⟩;refine⟨n,r1,l5,_,_,rfl,n1,n60,s8 _ _ b3,h8,λi1 i2 _ _=>.inl ?_,λl6 w6 H9 s9 h9 m9=>?_⟩
     ·obtain⟨q1,q2⟩:=o7 k i i1 hk hi
      exact⟨by omega,by omega⟩
     refine⟨n,la,l6,1,c,w6,rfl,n60,s9 _ _ (s8 _ _ h7),h9,by decide,by decide,λl7 u9 r9 t5=>?_⟩;refine⟨_,l7,_,rfl,((s7.trans s8).trans s9).trans r9,t5,λz=>?_⟩;rw[Num.ZbM,gG,m9,hc,Num.Yx,Int.add_assoc];rfl
    ·rintro J H7 ⟨c,la,M,rfl,s7,h7,hc⟩
     rw[Za,a2] at hc;refine⟨_,rfl,_,rfl,n,la,c,rfl,n1,n60,h7,λb H8 s8 hb=>?_⟩;have bt:b=true:=hb.mpr λz hz=>by
      rw[hc,ZkX n1 n60 _ hz,m5 i j z hi m6 hz,<-o9];by_cases e1:i=j
      ·by_cases e2:z=0
       ·rw[if_pos e2,if_pos e1,if_pos ⟨e1,e2⟩];omega
       ·rw[if_neg e2,if_neg (show ¬(i=j/\z=0) from λw=>e2 w.2)];omega
      ·rw[if_neg e1,if_neg (show ¬(i=j/\z=0) from λw=>e1 w.1)]
       split <;> omega
     subst bt;refine⟨_,rfl,?_⟩;refine YE (λh0=>absurd h0 (by decide)) (λ_=>?_);exact⟨_,_,_,rfl,(m8.trans s7).trans s8⟩
   ·rintro J H2 ⟨v9,O,M,rfl,s2⟩
    exact⟨_,_,_,_,rfl,s2⟩
  ·rintro J H1 ⟨v8,v9,O,M,rfl,s1⟩
   exact q H1 s1
theorem Zm9 {f:Addr}{fd:FuncData}(F:WA K "_law_rows" "_law_rows" Zoz f fd)(T:Bl mg)(GS:Fn P w K mg base Yd 1 "_law_sum" ["_law_one", "_law_other", "_law_often"] Ur)(GM:Fn P w K mg base Yd 1 "_law_mul" ["_law_n", "_law_one", "_law_other"] Zbi)(m8:Fn P w K mg base Yd 1 "_law_flip" ["_law_n", "_law_one"] ZcA)(GN:Fn P w K mg base Yd 1 "_law_is_nought" ["_law_n", "_law_row"] Uu):Z8 P w K mg base Yd 2 f fd ["_law_facts_here", "_law_rows_here"] Zhh:=by
 refine F.ok (FS (N:=["_law_facts_here", "_law_rows_here", "_law_n", "_law_count", "_law_sizes", "_law_counts_here", "_law_classes_here", "_law_met", "_law_i", "_law_j", "_law_found", "_law_k"])) (λvs H Q E h=>?_) (λr8 A n6 s H vs Q E hr h=>?_)
 ·obtain⟨r,L2,L,n,N,m,x3,x4,x5,sz,Z,rfl,_⟩:=h;rfl
 ·obtain⟨r,L2,L,n,N,m,x3,x4,x5,sz,Z,rfl,n1,n60,r9,t5,hF,h2,n8,RS,n9,m5,q⟩:=h
  refine⟨_,Zs (W2 (vn 0) (UI rfl (Z2 (gn 2) (Z2 (gn 3) (Z2 (gn 4) (Z2 (gn 5) (Z2 (gn 6) (Z2 (gn 7) Vn))))))))
   (Zs (ZN am rfl (WI T.range (pc (cb (Yt K) T.len (pc (vn 1) Zt)) Zt)) (gn 8)
   (Zw (ZN am rfl (WI T.range (pc (vn 8) Zt)) (gn 9)
   (Zs (ZH 10 rfl (Zy WJ (ZR (pc Zx Zt)) (vn 2)))
   (Zs (ZN am rfl (WI T.range (pc (cb (Yt K) T.len (pc (vn 4) Zt)) Zt)) (gn 11)
   (Zw (ZH 10 rfl (Wh GS hr ZL (pc (vn 10) (pc (Wh GM hr ZL (pc (vn 2) (pc (ZD (Jb K) (ZD (Jb K) (vn 1) (vn 8) (λ_ _=>rfl)) (vn 11) (λ_ _=>rfl)) (pc (Wh m8 hr ZL (pc (vn 2) (pc (ZD (Jb K) (ZD (Jb K) (vn 1) (vn 9) (λ_ _=>rfl)) (vn 11) (λ_ _=>rfl)) Zt))) Zt)))) (pc (ZD (Jb K) (vn 4) (vn 11) (λ_ _=>rfl)) Zt)))))))
   (Zw (WN (Zby (Xa (Wh GN hr ZL (pc (vn 2) (pc (vn 10) Zt))))) (Zw (ZK V0)) YF)))))))
   (Zw (ZK V0))),?_⟩
  have JE:=JE;refine⟨_,rfl,r,_,rfl,.of hF,rfl,_,_,rfl,_,_,rfl,_,_,rfl,_,_,rfl,_,_,rfl,_,_,rfl,rfl,?_⟩;obtain⟨ls,a1,a2,a3⟩:=id RS;have ll:(ls.map V.ref).length=m:=by rw[Za,a2]
  refine⟨_,rfl,L,_,rfl,.inl (.of a1),_,rfl,by omega,by rw[ll];omega,?_⟩;rw[ll,Zj];refine Z0 (λi J H'=>∃v8 v9 O M:TU,J=[some (.ref r),some (.ref L),some (.int n),some (.int N),some (.ref L2),some x3,some x4,some x5,v8,v9,O,M]/\Zv H H') ⟨_,_,_,_,rfl,Zv.refl _⟩ ?_ ?_
  ·rintro i J H1 hi ⟨v8,v9,O,M,rfl,s1⟩
   rw[show (0:Int)+(i:Int)=(i:Int) by omega];refine⟨_,rfl,i,rfl,by omega,by omega,?_⟩;rw[Zj];refine Z0 (λj J H'=>∃v9 O M:TU,J=[some (.ref r),some (.ref L),some (.int n),some (.int N),some (.ref L2),some x3,some x4,some x5,some (.int (i:Nat)),v9,O,M]/\Zv H H') ⟨_,_,_,rfl,s1⟩ ?_ ?_
   ·rintro j J H2 hj ⟨v9,O,M,rfl,s2⟩
    rw[show (0:Int)+(j:Int)=(j:Int) by omega];have o0:j<m:=by omega
    refine⟨JF,λl1 o7=>?_⟩;obtain⟨H3,o8,s3,h3⟩:=XX (o:=.lst [.int 0]) o7;rw[o8];refine⟨_,rfl,l1,_,_,rfl,rfl,h3,by omega,by omega,(by show 1*_<=_;omega),λl4 o9=>?_⟩;rw[Zj,WW];obtain⟨H6,p3,s4,h4⟩:=XX (o:=.lst (ZF n λ_=>0)) o9;rw[p3];have Y:=(s2.trans s3).trans s4;have m6:=RS.mono Y;refine⟨_,rfl,L2,_,rfl,.inl (.of (Y _ _ h2)),_,rfl,by omega,by rw[ZT];omega,?_⟩;rw[ZT,Zj];refine Z0 (λk J H'=>∃(c:Nat->Int) (la:Addr) (M:TU),J=[some (.ref r),some (.ref L),some (.int n),some (.int N),some (.ref L2),some x3,some x4,some x5,some (.int (i:Nat)),some (.int (j:Nat)),some (.ref la),M]/\Zv H6 H'/\H' la=some (.lst (ZF n c))/\∀z,Num.me n (N47.RN n) c z=Num.ZJ k λc=>((sz c:Nat):Int)*mmf n (Z i c) (Z j c) z)
     ⟨_,l4,_,rfl,Zv.refl _,h4,λz=>Num.ZbL z⟩ ?_ ?_
    ·rintro k J H7 hk ⟨c,la,M,rfl,s7,h7,hc⟩
     rw[show (0:Int)+(k:Int)=(k:Int) by omega];obtain⟨t6,p4,d1,d2,p6⟩:=(m6.mono s7).at hi;obtain⟨t7,p7,e1,e2,p8⟩:=(m6.mono s7).at o0;obtain⟨t8,r1,b1,b2,b3⟩:=p6.at hk;obtain⟨t9,r2,c1,c2,c3⟩:=p8.at hk;obtain⟨z1,z2⟩:=n8 k hk;refine⟨_,rfl,_,rfl,_,rfl,_,rfl,L,_,_,_,rfl,rfl,.of d1,d2,_,rfl,p4,_,_,_,rfl,rfl,.of b1,b2,_,rfl,_,rfl,_,rfl,L,_,_,_,rfl,rfl,.of e1,e2,_,rfl,p7,_,_,_,rfl,rfl,.of c1,c2,n,r2,_,rfl,n1,n60,c3,λl5 H8 s8 h8=>?_⟩;refine⟨n,r1,l5,_,_,rfl,n1,n60,s8 _ _ b3,h8,λi1 i2 _ _=>.inl ?_,λl6 w6 H9 s9 h9 m9=>?_⟩
     ·obtain⟨q1,q2⟩:=n9 i k i1 hi hk
      exact⟨by omega,by omega⟩
     refine⟨_,rfl,_,rfl,L2,_,_,_,rfl,rfl,.of (s9 _ _ (s8 _ _ (s7 _ _ (Y _ _ h2)))),ZI (Yr _ hk),n,la,l6,((sz k:Nat):Int),c,w6,rfl,n60,s9 _ _ (s8 _ _ h7),h9,by omega,by omega,λl7 u5 q0 r6=>?_⟩;refine⟨_,l7,_,rfl,((s7.trans s8).trans s9).trans q0,r6,λz=>?_⟩;rw[Num.ZbM,m9,hc,Num.Yx];rfl
    ·rintro J H7 ⟨c,la,M,rfl,s7,h7,hc⟩
     refine⟨_,rfl,_,rfl,n,la,c,rfl,n1,n60,h7,λb H8 s8 hb=>?_⟩;have bt:b=true:=hb.mpr λz hz=>by rw[hc,m5 i j z hi hj hz]
     subst bt;refine⟨_,rfl,?_⟩;refine YE (λh0=>absurd h0 (by decide)) (λ_=>?_);exact⟨_,_,_,rfl,(Y.trans s7).trans s8⟩
   ·rintro J H2 ⟨v9,O,M,rfl,s2⟩
    exact⟨_,_,_,_,rfl,s2⟩
  ·rintro J H1 ⟨v8,v9,O,M,rfl,s1⟩
   exact q H1 s1
end
end C47
namespace Pm
open Tb
structure Dx where
 top:Nat
 R:T8
 X:X0
def ZqU (top k m:Nat)(r:TZ):Dx:=⟨top,(ac top).map (Num.YR top)++rwL top k r,(rwL (m*top) m (r.drop (k*top))).map (rwL top m)⟩
def ZqT (x:Nat):Dx:=match ZgE 3 x with
 | [top,n,m]=>ZqU top (n-top) m (dgZ ((n-top+m*m)*top) (x / 262144))
 |_=>⟨0,[],[]⟩
noncomputable def dxC:List Dx:=[
 0x207e08208a08608608608607e085f85f8207e17c3182,
 0x207a08208208208a08608608608608608607e07e08608608607e08607e08608608607e07e085f8207c5102,
 0x2086086086085f8207e18208618207df8208607e08607e085f8207c4102,
 0x2082086082086082086082086082085f7df7e182082086082082182082086082182086082182081f7df7e082086086081f7df7e082182182082082086182082082181f7df7e086082082085f7df7c5144,
 0x8618617df8617e17e185f7e17c4081,
 0x1f8608217e07e08208208208a17e07df8608208208208208a08208608208608208608208608208608208608207e082085f85f85f8208207e082081f8208207e17e17c4284,
 0x207a08208208208a08608608608608608607e07e08608608607e08607e08608608607e07e085f8207c5102,
 0x208207e08207e08208208208a08208208208a08208608207e08208208207a08208208208a08207e08208618208208207df8208208208608208608208608208608208608208608208608208608208608207e08208608207e08208608207e082085f8208208207e182082082085f8218207e085f8208207e082081f8208207e181f8208607c6304,
 0x1f8217e08207e081f82181f8608208608217e08208208208208208208208208208208208208208208208208208e181f8608208608217df8217e08207e081f8208208208208208208208208208208208208208208208208208208e082082082082082086082082082082082086082082082082082086082082082082082086082082082082082086082082082082082086082082082082082086082081f8208208207e082082182082082082082082082082082086082082082082082086082082082082082086082082182082082082082081f8208208207e082082082082082085f8607e181f8217e085f8217e085f7e181f85f8208208207e08208207e082082081f82082081f8208208207e08208207e082082081f82082081f8208208207e17e085f7e181f8607e181f8607e085f8217c554c,
 0x841041,
 0x2086086085f7e182086181f7e085f7c30c2,
 0x8617e17c2081,
 0x2086086086086086085f8217e085f8217e085f85f8207e17e18208617df8208617df8208618217e07df81f8608607e08607e08607e085f85f8207e17c6182,
 0x208208208207e08208208208208208208208208208208208208208208209208208208208608218208208208208208207e081f8208208208208208208608208208208608208208208608208208208608208208208608208208208608208208208608208208207e08208208208608208208207e082082082086082082082086081f8208208208208208207e082182082082082082082085f82181f8218207e08607e085f8208208208207e082082082081f8208208208207e082082082081f8208208208207e082082082081f8208208208207e181f82181f8208607e08607c5508,
 0x207a07e08208608208a08a07e08207e08208a08608608608608608607e08607e07e08608608608607e08607e08607e08608607e07e085f85f8207e17c6182,
 0x2086086086086086086086086085f7df7df7e182182182086086086182182181f7df7df7e086086085f7e182085f7e182085f7e182086182085f7e085f7e181f7e182086085f7e182182085f7df7e182086181f7e086181f7e086181f7e086086181f7df7e086182181f7e085f7e086182086181f7e181f7e085f7c90c2,
 0x2085f82081f8208608217e17e07e08208208208208208a17e17e07e085f82081f82086082082082082082082089f8208608217e17e07e085f8208208208208208208208a08208208608208208608208208608208208608208208608208208608208208608208208608208207e082082085f85f85f85f8208208207e082082081f8208208207e082082081f8208208207e17e17e17c5386,
 0x208208208208a08207a08208208208208208208208a18218208207a082082082081f81f82082082082089f81f8208207a08208208208218218208208208208a08208608208608208608208608208608208608208608207e08208608208608207e08207e08208608208608208608208608208608207e08208608207e08208608207e08208608208608208608207e08207e082085f8208207e082081f8208207c7204,
 0x208208a08208208207a08208208208208208208208a082079f82182082082082082181f8208208208208a08207a181f82082082082081f8218208208208208a08208608208608208608208608208608208608208608208608207e08208608207e08207e08208608208608208608208608208608207e08208608207e08208608208608207e08208608208608207e08207e082085f8208207e082081f8208207c7204,
 0x208208a08208208207a08208208208208208208208a082079f82182082082082082181f8208208208208a08207a181f82082082082081f8218208208208208a08208608208608208608208608208608208608208608208608207e08208608207e08207e08208608208608208608208608208608207e08208608207e08208608208608207e08208608208608207e08207e082085f8208207e082081f8208207c7204,
 0x2082082086082082086082082086082082086082082086082082086082082085f7df7df7e182082082086082082082182082082086082082082182082082086082086082086082081f7df7df7e082082182082182082182082082082082086182082082082182082082082181f7df7df7e086082082082086082082082086082182081f7df7df7e082086082182082082082082182086082082082082086086082082082082182182082082082086081f7df7df7e082182082082082086082082182082086082082182082086082082182082081f7df7df7e082082085f7df7df7c71c6,
 0x2086086086086086086086085f81f8207e07e18218208608618218207e07df81f8208608607e07e08608607e07e08608607e08607e08607e08607e086181f8208607df8218207e085f8218208607e181f8207e08608607e07e08608607e07e085f8207c8102,
 0x2082086082086082086082086082086082086082086082085f8208207e082081f8208207e18208208608208218208208607e08208207e08608208208607e08208207e086082082086081f82086081f8208208207e08218207e08218208208208608218208608218208208207e081f8207e081f8208208208608608208207e07e08208208608608208207e07e08208208618208207e08208218208207df82082086082081f8208208608207e08208608207e08208608207e08208608207e082085f8208207e082081f8208207c8204,
 0x207a08208207a08208208208208208208a08208208208208208208208208a08a08208207a08208208208208208207a08208208208208208208208208a08208608208608208608208608208608208608208608208608208608208608207e08208607e08207e08208207e08207e08608208608208208608208608207e08208608608208608208207e08207e07e08207e08208208608208608208608208608207e08207e08208608208608207e08207e08208608208608208608208608207e08208608207e08208608207e08208608207e08208608207e08208608608207e08208208608207e07e08208608208207e08208608207e08208607e08208608208208608207e08608207e08208207e08208608208608208608208608207e08207e08208608208608207e08207e082085f8208207e082081f8208207ca204,
 0x207e08618208208207e18207df81f86082082082082082082082089f8608208208208207e07e08618218207df8208208208208208208a18207df8208208207df8608208207e08618208208208208208208a08208207e08208208a08208207e08208207e08208208208208208a08208208608208208608208208608208208608208208608208208608208208608208208608208208608208208608208207e082082085f8208608207e082182081f82085f8208208207e082082081f8208208207e082082081f8208208207e18207e082086081f8208218207c6486,
 0x2082082086082082086082082086082082086082082086082082086082082086082082086082082085f8207e08207e081f82081f8207e182082082086082082082182082082086082082082182082082086082082182082086082082182082086082082182082082081f8207e07e081f81f8207e082082082086082086082086082082081f8207df8207e08208208218208218208218208208207e081f82082082086081f8207e082182082082082086081f8207e082182082082082086081f8207e082182082082082086182082082082082182081f8207e08208608207e081f82082182081f8207e082086082082082082086082182082081f8207e082082086082182082081f8207e082082086082182082081f8207e08208208607e081f82182082082082182082082082181f8207e082081f8207e086082082082086082082082086086082081f8207e08208218208207e081f82082086082081f8207e082082182182082082082082085f8207e08207e081f82081f8207c9246,
 0x207a07a08208208208208208a08208a08a07a08208208208208207a08208a08608608608608608608608608608608608607e07e07e07e08608608608607e08618207df8208618207df8208607e085f8208618207e18207df8208607e085f8207e182085f8207e18208607e086182085f8207df8207e18208608608607e08607e08607e08607e08608608608607e08607e07e08607e085f8207ca102,
 0x207e08208208e085f8217e08608617df82086086086086085f85f8207e17c4182,
 0x208208208208a08207e08208208208a08207e08207e08208208208608208e08208608208608208608208608208608207e08208608208608207e08208608208608207e08208208207e08208df8218207e085f8208207e082081f8208207e181f8208607c5304,
 0x208207e08208208208208208e08208208208208208e08208608208608208608208608208608208608208608208208607e07e08208207a08608207e08608208a08208207e08208607e08207a07e08608608208208a08208607e08208607e08208608607e07e08208208608208208208608208608207a08207e08207e08208a08208608607e07e08208208607e08208607e082085f8218207e085f8208207e082081f8208207e181f8208607c7304,
 0x2182081f7e085f8208218608208208208207e08208208208208208208208df82082186082182081f7e08608208208207e08208208208208208208208e08208208207e08208208207e08208208208208208208208608208208209208208208208608208208208608208208208608208208208608208208208608208208208208208208208208208208208608208208207e082082082095f7e08618607e181f7e082185f8208208608207e082082182081f82082085f7e08218607e181f7df82185f8208208208207e082082082081f8208208208207e082082082081f8208208208207e082082082081f8208208208207e18607df7e085f82186081f7e18208207e082086082081f8208218208207e186081f7e085f82186181f7c5788].map ZqT
def dx0:Dx:=⟨0,[],[]⟩
def VB (M:X0)(s c:Nat):TZ:=(M.getD s []).getD c []
end Pm
namespace C47
open PySem L2 PySem.Spec PyProof.Rows
open Tb Pm
def xvB (t:T9)(D:Dt)(Y:Dx):Bool:=
 decide (N47.YL D.n=Y.top) && (N47.RN D.n == Y.R) && fA D.rp.length λs=>fA D.rp.length λc=>
  Num.Vp D.n Y.top Y.R ((ac D.n).map (ofF D.n (rdT t (D.rp.getD c 0)) D.p ((t.length:Int)*(bkM D.p (D.dg.getD s 0):Int)) D.z λk=>(VS D.E s (D.cl.getD (it t (D.rp.getD c 0) k) 0):Int))) == VB Y.X s c
def pfS (n:Nat)(R:T8)(a:TZ):TZ->Nat->TZ->TZ
 | [],_,ZE=>ZE
 |x::b,k,ZE=>pfS n R a b (k+1) (if x=0 then ZE else Num.Vs (Num.vsc x a) (Num.Zd3 R ((n-k) % n)) ZE)
def szD (D:Dt)(c:Nat):Nat:=(D.cl.filter (· == c)).length
def Zlo (D:Dt)(Y:Dx)(c j:Nat):Nat->TZ
 |0=>ah Y.top 0
 |s+1=>pfS D.n Y.R (VB Y.X s c) (VB Y.X s j) 0 (Zlo D Y c j s)
def Zj9 (D:Dt)(Y:Dx)(s s':Nat):Nat->TZ
 |0=>ah Y.top 0
 |c+1=>pfS D.n Y.R (Num.vsc (szD D c) (VB Y.X s c)) (VB Y.X s' c) 0 (Zj9 D Y s s' c)
def hdL (top:Nat)(x:Int):TZ:=x::ah (top-1) 0
def flR (n:Nat)(R:T8):T8:=(ac n).map λi=>Num.ro R ((n-i) % n)
def rlB (D:Dt)(Y:Dx)(s:Nat):Bool:=fA D.rp.length λc=>Num.Vs (VB Y.X s c) (flR D.n Y.R) (ah Y.top 0) == VB Y.X s c
noncomputable def upB (t:T9)(bs:T7)(D:Dt)(Y:Dx):Bool:=
 (fA D.rp.length λc=>fA D.rp.length λj=>Zlo D Y c j D.rp.length == hdL Y.top (if c=j then ((t.length / szD D c:Nat):Int) else 0)) &&
 (fA D.rp.length λs=>fA D.rp.length λq=>s == q || Zj9 D Y s q D.rp.length == ah Y.top 0) &&
 (fA D.rp.length λs=>decide (1<=Num.co (VB Y.X s 0) 0) && (t.length:Int) % Num.co (VB Y.X s 0) 0 == 0) &&
 (We D.rp.length (λs=>Num.co (VB Y.X s 0) 0*Num.co (VB Y.X s 0) 0) == (t.length:Int)) &&
 (((ac D.rp.length).filter (rlB D Y)).length == ((ac D.rp.length).filter λc=>D.cl.getD (bs.getD (D.rp.getD c 0) 0) 0 == c).length) &&
 (fE D.rp.length λs=>fA D.rp.length λc=>VB Y.X s c == hdL Y.top 1) &&
 (fA D.rp.length λs=>fA D.rp.length λc=>(VB Y.X s c).all λx=>decide (-(2 ^ 20)<x) && decide (x<2 ^ 20))
def nuB (t:T9)(D:Dt):Bool:=(fA t.length λx=>Yg t x == D.cl.getD x 0) && fA D.rp.length λc=>ZG t c == D.rp.getD c 0 && ((ZA t t.length).getD c []).length == szD D c
noncomputable def xB (i:Nat):Bool:=xvB (tbC.getD i []) (Zam.getD i d0).2 (dxC.getD i dx0) && upB (tbC.getD i []) (Zam.getD i d0).1 (Zam.getD i d0).2 (dxC.getD i dx0) && nuB (tbC.getD i []) (Zam.getD i d0).2
theorem xBa:∀i,i<31->xB i=true
 |0,_=>by decide +kernel
 |1,_=>by decide +kernel
 |2,_=>by decide +kernel
 |3,_=>by decide +kernel
 |4,_=>by decide +kernel
 |5,_=>by decide +kernel
 |6,_=>by decide +kernel
 |7,_=>by decide +kernel
 |8,_=>by decide +kernel
 |9,_=>by decide +kernel
 |10,_=>by decide +kernel
 |11,_=>by decide +kernel
 |12,_=>by decide +kernel
 |13,_=>by decide +kernel
 |14,_=>by decide +kernel
 |15,_=>by decide +kernel
 |16,_=>by decide +kernel
 |17,_=>by decide +kernel
 |18,_=>by decide +kernel
 |19,_=>by decide +kernel
 |20,_=>by decide +kernel
 |21,_=>by decide +kernel
 |22,_=>by decide +kernel
 |23,_=>by decide +kernel
 |24,_=>by decide +kernel
 |25,_=>by decide +kernel
 |26,_=>by decide +kernel
 |27,_=>by decide +kernel
 |28,_=>by decide +kernel
 |29,_=>by decide +kernel
 |30,_=>by decide +kernel
 |n+31,h=>by omega
end C47
namespace Num
theorem ZbB {m:Nat}{j:Nat->Nat}(lt:∀c,c<m->j c<m)(inj:∀a b,a<m->b<m->j a=j b->a=b):((ac m).map j).Perm (ac m):=
 Tb.Zfh (Tb.Zeg inj) (λx q=>by
  obtain⟨c,J,rfl⟩:=aE.mp q;exact lt c (af.mp J)) (by rw[Za,Zg])
theorem Ua {m:Nat}{j:Nat->Nat}(lt:∀c,c<m->j c<m)(inj:∀a b,a<m->b<m->j a=j b->a=b)(g:Nat->Int):ZJ m (λc=>g (j c))=ZJ m g:=by
 rw[Xs,Xs,<-Zc8 j g,Zgr g (ZbB lt inj)]
theorem ZfA {n k:Nat}(j:k<n):(n-(n-k) % n) % n=k:=by
 by_cases h:k=0
 ·rw[h,ck,ie,ck,ie]
 ·rw[aT (show n-k<n by omega),show n-(n-k)=k by omega,aT j]
theorem ZeH {n:Nat}(f:Nat->Int):ZJ n (λk=>f ((n-k) % n))=ZJ n f:=by
 refine Ua (λc q=>bc _ (by omega)) (λa b j hb h=>?_) f;rw[<-ZfA j,<-ZfA hb,h]
theorem Zkn {m:Nat}{j:Nat->Nat}(lt:∀c,c<m->j c<m)(inj:∀a b,a<m->b<m->j a=j b->a=b){y:Nat}(q:y<m):∃c,c<m/\j c=y:=by
 have:=(ZbB lt inj).mem_iff.mpr (af.mpr q);obtain⟨c,J,e⟩:=aE.mp this;exact⟨c,af.mp J,e⟩
theorem ZfC {m:Nat}{j:Nat->Nat}(lt:∀c,c<m->j c<m)(inj:∀a b,a<m->b<m->j a=j b->a=b)(p:Nat->Bool):((ac m).filter λc=>p (j c)).length=((ac m).filter p).length:=by
 rw[<-(ZbB lt inj |>.filter p).length_eq,ii,Za];rfl
end Num
namespace C47
open PySem L2 PySem.Spec PyProof.Rows
open Tb Pm
structure UpC (n N m:Nat)(Z:Nat->Nat->TZ)(sz iv:Nat->Nat):Prop where
 len:∀s c,s<m->c<m->(Z s c).length=N47.YL n
 sm:SmZ m Z
 col:∀c c' z,c<m->c'<m->z<N47.YL n->Num.ZJ m (λs=>mmf n (Z s c) (Z s c') z)=if c=c'/\z=0 then ((N / sz c:Nat):Int) else 0
 row:∀s s' z,s<m->s'<m->s≠s'->z<N47.YL n->Num.ZJ m (λc=>((sz c:Nat):Int)*mmf n (Z s c) (Z s' c) z)=0
 fs1:∀s,s<m->1<=Num.co (Z s 0) 0/\(N:Int) % Num.co (Z s 0) 0=0
 fs2:Num.ZJ m (λs=>Num.co (Z s 0) 0*Num.co (Z s 0) 0)=(N:Int)
 own:∃rl:Nat->Bool,(∀s,s<m->(rl s=true↔∀c,c<m->∀z,z<N47.YL n->Num.me n (N47.RN n) (flV n (Num.co (Z s c))) z=Num.co (Z s c) z))/\((ac m).filter rl).length=((ac m).filter λc=>iv c == c).length
 one:∃s,s<m/\∀c,c<m->Z s c=hdL (N47.YL n) 1
theorem X3 {m:Nat}{p q:Nat->Bool}(h:∀c,c<m->p c=q c):(ac m).filter p=(ac m).filter q:=mH λc j=>h c (af.mp j)
theorem Zcs {n N m:Nat}{Z Z':Nat->Nat->TZ}{sz O iv Y:Nat->Nat}(m1:1<=m)(U:UpC n N m Z sz iv)(q:∀s c,s<m->c<m->Z' s c=Z s c)(hs:∀c,c<m->O c=sz c)(hi:∀c,c<m->Y c=iv c):UpC n N m Z' O Y:=by
 refine⟨λs c J j=>by rw[q s c J j];exact U.len s c J j,λs c i J j=>by rw[q s c J j];exact U.sm s c i J j,λc c' z j m5 M=>?_,λs s' z h1 h2 ne M=>?_,λs h=>by rw[q s 0 h m1];exact U.fs1 s h,?_,?_,?_⟩
 ·rw[hs c j,<-U.col c c' z j m5 M]
  exact Num.ZC _ _ _ λs h=>by rw[q s c h j,q s c' h m5]
 ·rw[<-U.row s s' z h1 h2 ne M]
  exact Num.ZC _ _ _ λc j=>by rw[q s c h1 j,q s' c h2 j,hs c j]
 ·rw[<-U.fs2]
  exact Num.ZC _ _ _ λs h=>by rw[q s 0 h m1]
 ·obtain⟨rl,a,b⟩:=U.own
  refine⟨rl,λs h=>?_,?_⟩
  ·rw[a s h]
   exact⟨λw c j z M=>by rw[q s c h j];exact w c j z M,λw c j z M=>by have:=w c j z M;rw[q s c h j] at this;exact this⟩
  ·rw[b]
   exact congrArg cN (X3 λc j=>by rw[hi c j]).symm
 ·obtain⟨s,h,w⟩:=U.one
  exact⟨s,h,λc j=>by rw[q s c h j];exact w c j⟩
theorem Zol {n N m:Nat}{Z:Nat->Nat->TZ}{sz Y J:Nat->Nat}{q:Nat->Nat}(U:UpC n N m Z sz Y)(lt:∀c,c<m->q c<m)(inj:∀a b,a<m->b<m->q a=q b->a=b)(z0:q 0=0)(m5:∀c,c<m->J c<m/\q (J c)=Y (q c)):UpC n N m (λs c=>Z s (q c)) (λc=>sz (q c)) J:=by
 refine⟨λs c hs j=>U.len s _ hs (lt c j),λs c i hs j=>U.sm s _ i hs (lt c j),λc c' z j M hz=>?_,λs s' z h1 h2 ne hz=>?_,λs h=>by show 1<=Num.co (Z s (q 0)) 0/\_ % Num.co (Z s (q 0)) 0=0;rw[z0];exact U.fs1 s h,by show Num.ZJ m (λs=>Num.co (Z s (q 0)) 0*Num.co (Z s (q 0)) 0)=_;rw[z0];exact U.fs2,?_,?_⟩
 ·rw[U.col _ _ z (lt c j) (lt c' M) hz]
  by_cases e:c=c'
  ·rw[e]
   by_cases O:z=0
   ·rw[if_pos ⟨rfl,O⟩,if_pos ⟨rfl,O⟩]
   ·rw[if_neg (λw=>O w.2),if_neg (λw=>O w.2)]
  ·rw[if_neg (λw=>e (inj c c' j M w.1)),if_neg (λw=>e w.1)]
 ·rw[Num.Ua lt inj (λc=>((sz c:Nat):Int)*mmf n (Z s c) (Z s' c) z)]
  exact U.row s s' z h1 h2 ne hz
 ·obtain⟨rl,a,b⟩:=U.own
  refine⟨rl,λs h=>?_,?_⟩
  ·rw[a s h]
   refine⟨λw c j=>w _ (lt c j),λw c j=>?_⟩;obtain⟨c0,h0,rfl⟩:=Num.Zkn lt inj j;exact w c0 h0
  ·rw[b,<-Num.ZfC lt inj (λc=>Y c == c)]
   refine congrArg cN (X3 λc j=>?_);obtain⟨h1,h2⟩:=m5 c j;rw[<-h2,bT,beq_iff_eq,beq_iff_eq];exact⟨λw=>inj _ _ h1 j w,λw=>by rw[w]⟩
 ·obtain⟨s,h,w⟩:=U.one
  exact⟨s,h,λc j=>w _ (lt c j)⟩
theorem Zmq {t:T9}{n p:Nat}{e:Nat->Nat->Nat}{z:Nat}{dg:Nat->Nat}(s x:Nat):(Xv t n p e z dg s x).length=N47.YL n:=by unfold Xv Ziu;exact Num.Jz _ _ _ _
def pm (n:Nat)(R:T8)(a b:TZ)(z:Nat):Int:=Num.ZJ n λq=>Num.co b q*Num.ZJ n λi=>Num.co a i*Num.rh n R (i+(n-q) % n) z
theorem Znn (n:Nat)(a b:TZ)(z:Nat):mmf n a b z=pm n (N47.RN n) a b z:=by
 unfold mmf pm Num.mm flV;rw[Num.VC n n (λj J=>Num.co a J*Num.co b ((n-j) % n)*Num.rh n (N47.RN n) (J+j) z)];rw[<-Num.ZeH];refine Num.ZC _ _ _ λq M=>?_;rw[Num.WY];refine Num.ZC _ _ _ λi _=>?_;rw[Num.ZfA M,cQ (Num.co a i),bB]
theorem Zo5 (n:Nat)(b:TZ)(z:Nat):Num.me n (N47.RN n) (flV n (Num.co b)) z=Num.ZJ n λk=>Num.co b k*Num.rh n (N47.RN n) ((n-k) % n) z:=by
 unfold Num.me flV;rw[<-Num.ZeH];refine Num.ZC _ _ _ λq j=>?_;rw[Num.ZfA j]
theorem Zje {n:Nat}{R:T8}(j:1<=n)(hR:R.length=n)(a:TZ)(z:Nat):∀(b:TZ) (k:Nat) (ZE:TZ),Num.co (pfS n R a b k ZE) z=Num.co ZE z+Num.ZJ b.length λq=>Num.co b q*Num.ZJ n λi=>Num.co a i*Num.rh n R (i+(n-(k+q)) % n) z
 | [],k,ZE=>by rw[pfS];exact (a9 _).symm
 |x::b,k,ZE=>by
  rw[pfS,Zje j hR a z b (k+1),Zi,Num.ZJ,Num.YB];have e:Num.co (if x=0 then ZE else Num.Vs (Num.vsc x a) (Num.Zd3 R ((n-k) % n)) ZE) z=Num.co ZE z+x*Num.ZJ n λi=>Num.co a i*Num.rh n R (i+(n-(k+0)) % n) z:=by
   by_cases h:x=0
   ·rw[if_pos h,h,bg,a9]
   ·rw[if_neg h,Num.Uh,Num.Zet hR (bc _ j),eF,Num.WY]
    congr 1;refine Num.ZC _ _ _ λi _=>?_;rw[Num.Xl,bB]
  rw[e,Int.add_assoc];congr 2;refine Num.ZC _ _ _ λq _=>?_;rw[Num.Y2,show k+1+q=k+(q+1) by omega]
theorem Zmh {n:Nat}{R:T8}(j:1<=n)(hR:R.length=n){a b:TZ}(hb:b.length<=n)(z:Nat)(ZE:TZ):Num.co (pfS n R a b 0 ZE) z=Num.co ZE z+pm n R a b z:=by
 rw[Zje j hR];unfold pm;rw[Num.Zhd hb (λq J _=>by rw[Num.WE J,bg])];congr 1;refine Num.ZC _ _ _ λq _=>?_;rw[fX]
theorem ZmW (n:Nat)(R:T8)(k:Int)(a b:TZ)(z:Nat):pm n R (Num.vsc k a) b z=k*pm n R a b z:=by
 unfold pm;rw[Num.WY];refine Num.ZC _ _ _ λq _=>?_;rw[Int.mul_left_comm,Num.WY k];congr 1;refine Num.ZC _ _ _ λi _=>?_;rw[Num.Xl,bB]
theorem Vu (k j:Nat):Num.co (ah k 0) j=0:=by
 unfold Num.co;rw[Zb,bz];split <;> rfl
theorem ZnM (top:Nat)(x:Int)(z:Nat):Num.co (hdL top x) z=if z=0 then x else 0:=by
 unfold hdL;cases z with
 |zero=>rw[Num.YB,if_pos rfl]
 |succ z=>rw[Num.Y2,Vu,if_neg (by omega)]
theorem ZcD (n:Nat)(f:Nat->Int):We n f=Num.ZJ n f:=by
 induction n with
 |zero=>rfl
 |succ n j=>rw[YH,Num.Yx,j]
theorem Zcr (k:Nat):∀(a b:TZ),a.length=k->b.length=k->(Num.XS a b).length=k
 | [],[],h,_=>h
 | [],y::b,h,g=>by rw[eV] at h;rw[Zi] at g;omega
 |x::a,[],h,g=>by rw[eV] at g;rw[Zi] at h;omega
 |x::a,y::b,h,g=>by
  rw[Num.XS,Zi];rw[Zi] at h g;rw[Zcr (k-1) a b (by omega) (by omega)];omega
theorem UQ (k:Nat):∀(a:TZ) (R:T8) (ZE:TZ),ZE.length=k->(∀r∈R,r.length=k)->(Num.Vs a R ZE).length=k
 | [],_,ZE,h,_=>h
 |_::_,[],ZE,h,_=>h
 |x::a,r::R,ZE,h,g=>by
  rw[Num.Vs];by_cases q:x=0
  ·rw[if_pos q];exact UQ k a R ZE h λr j=>g r (ao _ j)
  ·rw[if_neg q];exact UQ k a R _ (Zcr k _ _ h (by unfold Num.vsc;rw[Za];exact g r (ar ..))) λr j=>g r (ao _ j)
theorem ZnP {t:T9}{bs:T7}{D:Dt}(P:PW t)(h:tdB t bs D=true):ClW t (λx=>D.cl.getD x 0) (λk=>D.rp.getD k 0) D.rp.length/\Zjn t bs=true:=by
 unfold tdB at h;simp only[ag] at h;obtain⟨⟨⟨⟨⟨⟨⟨⟨⟨⟨⟨⟨⟨⟨⟨h1,h2⟩,h3⟩,h4⟩,h5⟩,h6⟩,h7⟩,h8⟩,q⟩,j⟩,J⟩,M⟩,O⟩,Y⟩,m5⟩,m6⟩:=h;exact⟨Zjk P q j,q⟩
theorem ZjS {t:T9}{bs:T7}{D:Dt}{Y:Dx}(P:PW t)(h:tdB t bs D=true)(hx:xvB t D Y=true)(hu:upB t bs D Y=true)(hn:nuB t D=true):UpC D.n t.length D.rp.length (λs c=>Xv t D.n D.p (eD D) D.z (λs=>D.dg.getD s 0) s (ZG t c)) (λc=>((ZA t t.length).getD c []).length) (λc=>Yg t (Yc t (ZG t c))):=by
 obtain⟨C,hb⟩:=ZnP P h;have T:=ZlI P h;have n1:=T.n1;have n6:=T.n60;have m1:=T.cd.m1;have Gd:=(N47.UV n1 n6).1;unfold xvB at hx;rw[ag,ag,decide_eq_true_eq] at hx;obtain⟨⟨O,q⟩,n8⟩:=hx;have q:=eq_of_beq q;have hR:Y.R.length=D.n:=by rw[<-q];exact Gd.len
 unfold nuB at hn;rw[ag] at hn;obtain⟨v1,v2⟩:=hn;have rp:∀c,c<D.rp.length->ZG t c=D.rp.getD c 0/\((ZA t t.length).getD c []).length=szD D c:=λc j=>by
  have:=Yb v2 j;rw[ag] at this;exact⟨eq_of_beq this.1,eq_of_beq this.2⟩
 have rep:∀s c,s<D.rp.length->c<D.rp.length->Xv t D.n D.p (eD D) D.z (λs=>D.dg.getD s 0) s (ZG t c)=VB Y.X s c:=λs c M j=>by
  have:=eq_of_beq (Yb (Yb n8 M) j);rw[(rp c j).1,<-this];unfold Xv Ziu;rw[O,q];rfl
 have J:∀s c,s<D.rp.length->c<D.rp.length->(VB Y.X s c).length=N47.YL D.n:=λs c M j=>by rw[<-rep s c M j,Zmq]
 have n9:∀c,c<D.rp.length->Yg t (Yc t (ZG t c))=D.cl.getD (bs.getD (D.rp.getD c 0) 0) 0:=λc j=>by
  have hr:=C.rl c j;rw[(rp c j).1,Zew P hb hr];exact eq_of_beq (Yb v1 (Z4 P hr).1)
 unfold upB at hu;simp only[ag] at hu;obtain⟨⟨⟨⟨⟨⟨w1,w2⟩,w3⟩,w4⟩,w5⟩,w6⟩,w7⟩:=hu;have tn:=Gd.tn;have m6:∀a b z,mmf D.n a b z=pm D.n Y.R a b z:=λa b z=>by rw[Znn,q]
 have cV:∀c c' z,c<D.rp.length->c'<D.rp.length->∀s,s<=D.rp.length->Num.co (Zlo D Y c c' s) z=Num.ZJ s λs=>mmf D.n (VB Y.X s c) (VB Y.X s c') z:=λc c' z j m5 s=>by
  induction s with
  |zero=>intro _;exact Vu _ _
  |succ s ih=>
   intro M;rw[Zlo,Zmh n1 hR (by rw[J s c' (by omega) m5];exact tn),ih (by omega),Num.Yx,m6]
 have rV:∀s s' z,s<D.rp.length->s'<D.rp.length->∀c,c<=D.rp.length->Num.co (Zj9 D Y s s' c) z=Num.ZJ c λc=>((szD D c:Nat):Int)*mmf D.n (VB Y.X s c) (VB Y.X s' c) z:=λs s' z M o0 c=>by
  induction c with
  |zero=>intro _;exact Vu _ _
  |succ c ih=>
   intro j;rw[Zj9,Zmh n1 hR (by rw[J s' c o0 (by omega)];exact tn),ih (by omega),Num.Yx,ZmW,m6]
 have base:UpC D.n t.length D.rp.length (VB Y.X) (szD D) (λc=>D.cl.getD (bs.getD (D.rp.getD c 0) 0) 0):=by
  refine⟨J,λs c i M j=>?_,λc c' z j m5 hz=>?_,λs s' z h1 h2 ne hz=>?_,λs M=>?_,?_,⟨rlB D Y,λs M=>?_,eq_of_beq w5⟩,?_⟩
  ·by_cases hi:i<(VB Y.X s c).length
   ·have:=az.mp (Yb (Yb w7 M) j) _ (aB (Num.Wd hi))
    rw[ag,decide_eq_true_eq,decide_eq_true_eq] at this;exact this
   ·rw[Num.WE (by omega)]
    exact⟨by decide,by decide⟩
  ·have:=eq_of_beq (Yb (Yb w1 j) m5)
   rw[<-cV c c' z j m5 _ (Zq _),this,ZnM];by_cases e1:c=c'
   ·by_cases e2:z=0
    ·rw[if_pos e2,if_pos e1,if_pos ⟨e1,e2⟩]
    ·rw[if_neg e2,if_neg (λw=>e2 w.2)]
   ·rw[if_neg e1,if_neg (show ¬(c=c'/\z=0) from λw=>e1 w.1)]
    split <;> rfl
  ·have:=Yb (Yb w2 h1) h2
   rw[beq_eq_false_iff_ne.mpr ne,fF] at this;rw[<-rV s s' z h1 h2 _ (Zq _),eq_of_beq this,Vu]
  ·have:=Yb w3 M
   rw[ag,decide_eq_true_eq] at this;exact⟨this.1,eq_of_beq this.2⟩
  ·have:=eq_of_beq w4
   rw[ZcD] at this;exact this
  ·have m8:∀c,c<D.rp.length->((Num.Vs (VB Y.X s c) (flR D.n Y.R) (ah Y.top 0) == VB Y.X s c)=true↔∀z,z<N47.YL D.n->Num.me D.n (N47.RN D.n) (flV D.n (Num.co (VB Y.X s c))) z=Num.co (VB Y.X s c) z):=λc j=>by
    have lf:(flR D.n Y.R).length=D.n:=by unfold flR;rw[Za,Zg]
    have cf:∀z,Num.co (Num.Vs (VB Y.X s c) (flR D.n Y.R) (ah Y.top 0)) z=Num.me D.n (N47.RN D.n) (flV D.n (Num.co (VB Y.X s c))) z:=λz=>by
     rw[Num.Uh,Vu,cq,Num.Xx,lf,Zo5,q];refine Num.ZC _ _ _ λk hk=>?_;congr 1;unfold flR Num.rh;rw[lQ];unfold Num.ro;rw[Zb,Zc,aj hk];rfl
    rw[beq_iff_eq];constructor
    ·intro e z _
     rw[<-cf,e]
    ·intro w
     have ll:(Num.Vs (VB Y.X s c) (flR D.n Y.R) (ah Y.top 0)).length=Y.top:=by
      refine UQ Y.top _ _ _ (bZ ..) λr hr=>?_;obtain⟨i,hi,rfl⟩:=aE.mp hr;rw[<-q,<-O];exact Gd.rlen _ (bc _ n1)
     refine Num.Zi5 (by rw[ll,J s c M j,O]) λz hz=>?_;rw[cf];exact w z (by rw[O];omega)
   unfold rlB;constructor
   ·intro w c j
    exact (m8 c j).mp (Yb w j)
   ·intro w
    refine az.mpr λc j=>?_;exact (m8 c (af.mp j)).mpr (w c (af.mp j))
  ·obtain⟨s,M,w⟩:=Zdi w6
   exact⟨s,M,λc j=>by rw[O];exact eq_of_beq (Yb w j)⟩
 exact Zcs m1 base rep (λc j=>(rp c j).2) n9
theorem ZnU {t:T9}(P:PW t){x s:Nat}(q:x<t.length)(J:s<t.length):Yc t (tb t x s)=tb t (Yc t x) s:=by
 have j:∀y,y<t.length->Yc t y=it t y (rdT t y-1):=λy M=>by
  obtain⟨r,R⟩:=P.rd y M;obtain⟨O,Y⟩:=Z4 P M;rw[VD R];exact R.un _ O Y
 have hl:tb t x s<t.length:=Vd P q J;rw[j _ hl,ZhT P q J,Zfu P q J,<-j x q]
section
variable {t:T9}{o:T7}
theorem ZfK (P:PW t)(O:Ord t.length o){x y:Nat}(j:x<t.length)(q:y<t.length):Yg (ren t o) x=Yg (ren t o) y↔Yg t (o.getD x 0)=Yg t (o.getD y 0):=by
 have M:=W1 P O;have len:(ren t o).length=t.length:=Wj O;have J:=Zcb M (u:=y) (x:=x) (by rw[len];exact q) (by rw[len];exact j);have Y:=Zcb P (u:=o.getD y 0) (x:=o.getD x 0) (YT O q) (YT O j);rw[ZhL P O q j,Y] at J;rw[<-decide_eq_true_eq (p:=Yg (ren t o) x=_),<-decide_eq_true_eq (p:=Yg t _=_),J]
theorem Zlq (P:PW t){x y:Nat}(j:x<t.length)(J:y<t.length)(h:Yg t x=Yg t y):Yg t (Yc t x)=Yg t (Yc t y):=by
 have U:=YM P;obtain⟨s,q,rfl⟩:=U.tr x y j J h;rw[ZnU P j q,U.con _ _ (Z4 P j).1 q]
variable {n p m:Nat}{e ω φ:Nat->Nat->Nat}{z:Nat}{dg:Nat->Nat}
theorem Zmr (P:PW t)(O:Ord t.length o)(D:TD t n p m e ω φ z dg)(Up:UpC n t.length m (λs c=>Xv t n p e z dg s (ZG t c)) (λc=>((ZA t t.length).getD c []).length) (λc=>Yg t (Yc t (ZG t c)))) :
  UpC n (ren t o).length m (λs c=>Xv (ren t o) n p (λs x=>e s (o.getD x 0)) z dg s (ZG (ren t o) c)) (λc=>((ZA (ren t o) (ren t o).length).getD c []).length) (λc=>Yg (ren t o) (Yc (ren t o) (ZG (ren t o) c))):=by
 have len:(ren t o).length=t.length:=Wj O;have P':=W1 P O;have D':=D.ren P O;have U:=YM P;have q:=YM P';rw[<-D.cd.mc] at U;rw[<-D'.cd.mc] at q;have M:∀c,c<m->ZG (ren t o) c<t.length:=λc j=>by have:=q.rl c j;rw[len] at this;exact this
 have J:∀c,c<m->o.getD (ZG (ren t o) c) 0<t.length:=λc j=>YT O (M c j);have lt:∀c,c<m->VP t o c<m:=λc j=>U.lt _ (J c j);have inj:∀a b,a<m->b<m->VP t o a=VP t o b->a=b:=λa b ha hb h=>by
  have:=(ZfK P O (M a ha) (M b hb)).mpr h;rw[q.rn a ha,q.rn b hb] at this;exact this
 have m1:=D.cd.m1;have z0:VP t o 0=0:=by
  have r0:ZG (ren t o) 0=0:=(q.z _ (q.rl 0 m1)).mp (q.rn 0 m1);unfold VP;rw[r0,O.z];exact (U.z 0 P.n1).mpr rfl
 have m5:∀c,c<m->Yg (ren t o) (Yc (ren t o) (ZG (ren t o) c))<m/\VP t o (Yg (ren t o) (Yc (ren t o) (ZG (ren t o) c)))=Yg t (Yc t (ZG t (VP t o c))):=λc j=>by
  have hb:Yc (ren t o) (ZG (ren t o) c)<t.length:=by
   have:=(Z4 P' (q.rl c j)).1;rw[len] at this;exact this
  have h1:Yg (ren t o) (Yc (ren t o) (ZG (ren t o) c))<m:=q.lt _ (by rw[len];exact hb);refine⟨h1,?_⟩;have e1:VP t o (Yg (ren t o) (Yc (ren t o) (ZG (ren t o) c)))=Yg t (o.getD (Yc (ren t o) (ZG (ren t o) c)) 0):=(ZfK P O (M _ h1) hb).mp (q.rn _ h1);rw[e1,Zd4 P O (M c j)];exact Zlq P (J c j) (U.rl _ (lt c j)) (U.rn _ (lt c j)).symm
 have m6:=Zol Up lt inj z0 m5;have Y:UpC n t.length m (λs c=>Xv (ren t o) n p (λs x=>e s (o.getD x 0)) z dg s (ZG (ren t o) c)) (λc=>((ZA (ren t o) (ren t o).length).getD c []).length) (λc=>Yg (ren t o) (Yc (ren t o) (ZG (ren t o) c))):=by
  refine Zcs m1 m6 (λs c hs j=>?_) (λc j=>?_) (λc j=>rfl)
  ·show _=Xv t n p e z dg s (ZG t (VP t o c))
   rw[Zmp P O (M c j)];exact (Zmo P D hs (J c j)).2.symm
  ·exact Zhs P O (c:=c) (by rw[<-D'.cd.mc];exact j)
 rw[<-len] at Y;exact Y
end
theorem Zpm:∀x∈Zam,x.2.rp.length<=10:=by
 have:(Zam.all λx=>decide (x.2.rp.length<=10))=true:=by decide +kernel
 exact λx j=>of_decide_eq_true (az.mp this x j)
theorem Zno {t:T9}{os:T7}(h:MkC t)(O:Ord t.length os):∃(n p m:Nat) (e M Y:Nat->Nat->Nat) (z:Nat) (J:Nat->Nat),m<=10/\TD (ren t os) n p m e M Y z J/\UpC n (ren t os).length m (λs c=>Xv (ren t os) n p e z J s (ZG (ren t os) c)) (λc=>((ZA (ren t os) (ren t os).length).getD c []).length) (λc=>Yg (ren t os) (Yc (ren t os) (ZG (ren t os) c))):=by
 have P:=ZbJ h;obtain⟨i,hi⟩:=bo h;have il:=(ae.mp hi).1;have m5:tbC.length=31:=by decide +kernel
 have j:=okC i (by omega);have q:=xBa i (by omega);unfold okB at j;unfold xB at q;have et:tbC.getD i []=t:=by rw[Zb,hi];rfl
 rw[et] at j q;simp only[ag] at j q;obtain⟨⟨x1,x2⟩,x3⟩:=q;have m6:Zam.length=31:=by decide +kernel
 have D:=ZlI P j.2;exact⟨_,_,_,_,_,_,_,_,Zpm (Zam.getD i d0) (by rw[Zb,Zf (by omega)];exact bn _),D.ren P O,Zmr P O D (ZjS P j.2 x1 x2 x3)⟩
end C47
namespace Tb
theorem Zky {n:Nat}{o:T7}{k a:Nat}(O:Ord n o)(k1:1<=k)(M:k<n)(a1:1<=a)(Y:a<n):Ord n ((o.set k (o.getD a 0)).set a (o.getD k 0)):=by
 have j:k<o.length:=by rw[O.len];exact M
 have q:a<o.length:=by rw[O.len];exact Y
 have ek:o.getD k 0=o[k]:=by rw[Zb,Zf j];rfl
 have ea:o.getD a 0=o[a]:=by rw[Zb,Zf q];rfl
 have pm:((o.set k (o.getD a 0)).set a (o.getD k 0)).Perm o:=by rw[ek,ea];exact List.set_set_perm j q
 refine⟨by rw[ba,ba,O.len],pm.nodup_iff.mpr O.nd,λv J=>pm.mem_iff.mpr (O.all v J),λv J=>O.lt v (pm.mem_iff.mp J),?_⟩;have z:=O.z;rw[Zb] at z ⊢;rw[fH (by omega),fH (by omega)];exact z
theorem Zga {n:Nat}(q:1<=n):Ord n (ac n):=⟨Zg,cY,λv j=>af.mpr j,λv j=>af.mp j,by rw[Zb,aj (by omega)];rfl⟩
end Tb
namespace C47
open PySem L2 PySem.Spec PyProof.Rows
open Tb Pm
noncomputable abbrev ZlO:Stmt:=top 37
inductive ZdO (vs:TV) (H:Hp) (Q:VK) (E03:XK):Prop
 |mk (p q g:Addr) (b:Nat) (t:T9):(vs=[.ref p,.ref g])->(WL H p q b)->(b+60<2 ^ 60)->(GT H g t)->(PW t)->(∀g' os H',Tk p H H'->WL H' p q (b+60)->Ord t.length os->GT H' g' (ren t os)->Q (.ref g') H')->ZdO vs H Q E03
theorem Tk.updN {p l:Addr}{H j:Hp}{o:HO}(a:Tk p H j)(h:H l=none):Tk p H (upd j l o):=λc u e n=>by
 rw[Zz (λz=>by rw[z,h] at e;cases e)];exact a c u e n
def Zi3 (t:T9)(os:T7)(a:Nat):V->V
 | .int z=>.int (pos os (ZQ t a z.toNat):Nat)
 |y=>y
theorem Zi2 (t:T9)(os:T7)(a:Nat):(os.map nV).map (Zi3 t os a)=(os.map λb=>pos os (ZQ t a b)).map nV:=by
 rw[aH,aH];refine aW λb _=>?_;show V.int (pos os (ZQ t a (b:Int).toNat):Nat)=nV (pos os (ZQ t a b));rw[Zj];rfl
def ZnG (os:T7):V->V
 | .int z=>.int (pos os z.toNat:Nat)
 |y=>y
section
variable {P:Program}{w:World}{K:aa}{mg:TX}{base:Heap}
theorem ZkF {f:Addr}{fd:FuncData}(F:WA K "_law_renamed" "_law_renamed" ZlO f fd)(T:BlB mg)(GD:Fn P w K mg base Yd 1 "_law_draw" ["_law_feed_here", "_law_many"] Uw):Z8 P w K mg base Yd 2 f fd ["_law_feed_here", "_law_group_here"] ZdO:=by
 refine F.ok (FS (N:=["_law_feed_here", "_law_group_here", "_law_order", "_law_k", "_law_at", "_law_spots"])) (λvs H Q E h=>?_) (λt9 A p8 s H vs Q E hr h=>?_)
 ·obtain⟨p,q,g,b,t,rfl,_⟩:=h;rfl
 ·obtain⟨p,q,g,b,t,rfl,T0,hb,G0,Pt,k⟩:=h
  refine⟨_,Zs (ZH 2 rfl (ct (Zap rfl) T.list (pc (ct V4 T.range (pc (cb (Yt K) T.len (pc (vn 1) Zt)) Zt)) Zt)))
   (Zs (ZN am rfl (ZhJ T.range (pc Zx (pc (cb (Yt K) T.len (pc (vn 1) Zt)) Zt))) (gn 3)
    (Zs (ZH 4 rfl (Zy Ym Zx (Wh GD hr ZL (pc (vn 0) (pc (Zy YC (cb (Yt K) T.len (pc (vn 1) Zt)) Zx) Zt)))))
    (Zw (W2 (XW (pc (ZD (Jb K) (vn 2) (vn 4) (λ_ _=>rfl)) (pc (ZD (Jb K) (vn 2) (vn 3) (λ_ _=>rfl)) Zt))) (UI rfl (Z2 (Xc (vn 2) (vn 3) YS) (Z2 (Xc (vn 2) (vn 4) YS) Vn)))))))
   (Zs (ZH 5 rfl (cmp ["_law_a"] [2] ["_law_a", "_law_order"] rfl (WI T.range (pc (cb (Yt K) T.len (pc (vn 1) Zt)) Zt)) (λ_ _ _ _ _=>gn 0) (λ_ _ _ _ _=>ZM) (λ_ _ _ _ _=>Zib K aJ lu PySem.F.type_list_index (ZqI K hr.units) (vn 1) (pc (vn 0) Zt))))
   (Zw (ZK (ct ZY T.tuple (pc (cmp ["_law_a"] [2,5,1] ["_law_a", "_law_order", "_law_spots", "_law_group_here"] rfl (itL K (vn 2)) (λ_ _ _ _ _=>gnf 0 rfl) (λ_ _ _ _ _=>ZM) (λ_ _ _ _ _=>ct (Zg6 K) (by exact T.tuple) (pc (cmp ["_law_b"] [2,3,0] ["_law_b", "_law_spots", "_law_group_here", "_law_a"] rfl (itL K (vn 1)) (λ_ _ _ _ _=>gn 0) (λ_ _ _ _ _=>ZM) (λ_ _ _ _ _=>ZD (Jb K) (vn 1) (ZD (JW K) (ZD (JW K) (vn 2) (vn 3) (λ_ _=>rfl)) (vn 0) (λ_ _=>rfl)) (λ_ _=>rfl))) Zt))) Zt)))))),?_⟩
  have sz:=JE;have n1:=Pt.n1;have u5:=Pt.n60;obtain⟨gs,u1,u2,u3⟩:=id G0;have Y:(gs.map V.ref).length=t.length:=by rw[Za,u2]
  refine⟨_,rfl,g,_,rfl,.inr (.of u1),?_⟩;rw[Y];refine⟨_,rfl,λr0 q0=>⟨r0,0,_,rfl,Zu,⟨by omega,by omega,by omega,by omega⟩,by omega,λl n8=>?_⟩⟩;rw[show ((t.length:Int)-0).toNat=t.length by omega];have s1:Zv H (upd H r0 (.rng 0 (t.length:Int))):=Zv.upd q0;have nl:H l=none:=s1.free n8;have s2:=s1.trans (Zv.upd (o:=.lst ((Y3 0 t.length).map V.int)) n8);have h2:upd (upd H r0 (.rng 0 (t.length:Int))) l (.lst ((Y3 0 t.length).map V.int)) l=some (.lst ((ac t.length).map nV)):=by rw[Zu,ZmM]
  have np:=T0.neN nl;generalize upd (upd H r0 (.rng 0 (t.length:Int))) l (.lst ((Y3 0 t.length).map V.int))=H2 at s2 h2 ⊢;refine⟨_,rfl,g,_,rfl,.inr (.of (s2 _ _ u1)),?_⟩;rw[Y];refine⟨_,_,rfl,⟨by omega,by omega,by omega,by omega⟩,?_⟩;rw[show ((t.length:Int)-1).toNat=t.length-1 by omega];refine Z0 (λi m5 H'=>∃(v w u:TU) (os:T7),m5=[some (.ref p),some (.ref g),some (.ref l),v,w,u]/\Tk p H H'/\WL H' p q (b+i)/\Ord t.length os/\H' l=some (.lst (os.map nV))) ⟨_,_,_,_,rfl,Tk.of s2,T0.mono s2,Zga n1,h2⟩ ?_ ?_
  ·rintro i m5 H3 hi ⟨v,w,u,os,rfl,d3,T3,O3,h3⟩
   have G3:=GT.tk T0 d3 G0;obtain⟨r6,w1,w2,_⟩:=id G3;have r8:(r6.map V.ref).length=t.length:=by rw[Za,w2]
   refine⟨_,rfl,_,rfl,g,_,rfl,.inr (.of w1),?_⟩;rw[r8];refine⟨_,_,rfl,rfl,p,q,_,b+i,rfl,T3,by omega,by omega,by omega,λr H4 r9 u9 d4 T4=>?_⟩;obtain⟨j,rfl⟩:=cw r9;have h4:=d4.lst T3 h3;have hj:1+j<t.length:=by omega
   have n9:1+i<t.length:=by omega
   have ej:(1:Int)+(j:Int)=((1+j:Nat):Int):=by omega
   have ei:(1:Int)+(i:Int)=((1+i:Nat):Int):=by omega
   have gj:(os.map nV)[1+j]?=some (nV (os.getD (1+j) 0)):=by rw[Zc,Wp (by rw[O3.len];exact hj)];rfl
   have gi:(os.map nV)[1+i]?=some (nV (os.getD (1+i) 0)):=by rw[Zc,Wp (by rw[O3.len];exact n9)];rfl
   have lm:(os.map nV).length=t.length:=by rw[Za,O3.len]
   refine⟨_,_,rfl,rfl,_,rfl,_,rfl,l,_,_,_,rfl,rfl,.of h4,by rw[ej];exact ZI gj,_,rfl,_,rfl,l,_,_,_,rfl,rfl,.of h4,by rw[ei];exact ZI gi,JF,λc nc=>?_⟩;have s5:=Zv.upd (H:=H4) (o:=.tup [nV (os.getD (1+j) 0),nV (os.getD (1+i) 0)]) nc;have h5:=s5 _ _ h4;have o0:upd H4 c (.tup [nV (os.getD (1+j) 0),nV (os.getD (1+i) 0)]) c=some (.tup [nV (os.getD (1+j) 0),nV (os.getD (1+i) 0)]):=Zu;have T5:=T4.mono s5;have d5:=(d3.trans d4).trans (Tk.of s5);generalize upd H4 c (.tup [nV (os.getD (1+j) 0),nV (os.getD (1+i) 0)])=H5 at s5 h5 o0 T5 d5 ⊢;refine⟨c,_,rfl,.of o0,rfl,_,_,rfl,_,rfl,_,rfl,l,_,_,1+i,rfl,rfl,h5,by rw[ei];exact Ja (by omega),_,_,rfl,_,rfl,_,rfl,l,_,_,1+j,rfl,rfl,Zu,by rw[ej];exact Ja (by rw[ba];omega),rfl,?_⟩;refine⟨_,_,_,_,rfl,(d5.updN nl).updN nl,?_,Zky O3 (by omega) n9 (by omega) hj,?_⟩
   ·have:=(T5.put (o:=.lst ((os.map nV).set (1+i) (nV (os.getD (1+j) 0)))) np.1 np.2).put (o:=.lst (((os.map nV).set (1+i) (nV (os.getD (1+j) 0))).set (1+j) (nV (os.getD (1+i) 0)))) np.1 np.2
    rw[show b+(i+1)=b+i+1 by omega];exact this
   ·rw[Zu,kq,kq]
  ·rintro m5 H3 ⟨v,w,u,os,rfl,d3,T3,O,hL⟩
   have Gx:=GT.tk T0 d3 G0;clear u1 u2 u3 Y;obtain⟨gs,u1,u2,_⟩:=id Gx;have Y:(gs.map V.ref).length=t.length:=by rw[Za,u2]
   refine⟨_,rfl,g,_,rfl,.inr (.of u1),_,rfl,by rw[Y];omega,by rw[Y];omega,?_⟩;rw[Y,Zj];refine JC (Wi 0 t.length) [some (.ref l)] rfl (ZnG os) (by rw[Za,Z7];omega) (λj x J hx s' R' gg=>?_) (λD w8 nD s3 hD=>?_)
   ·obtain⟨a,ha,rfl⟩:∃a,a<t.length/\x=.int (a:Nat):=⟨j,Vm hx⟩
    obtain⟨pl,pv⟩:=Wm O ha;have o7:=s' _ _ hL;have eo:os.map nV=(os.map λk:Nat=>((k:Nat):Int)).map V.int:=by rw[aH];rfl
    refine⟨_,rfl,.inl ⟨rfl,_,.of o7⟩,_,rfl,?_⟩;refine⟨l,(os.map λk:Nat=>((k:Nat):Int)).map V.int,(os.map λk:Nat=>((k:Nat):Int)).map aV,.int (a:Nat),.int (a:Nat),pos os a,rfl,rfl,by rw[<-eo];exact o7,WH.ints _,.int _,Xm _,rfl,by simp[dO],by rw[Za,Za,O.len];exact pl,λd M=>?_,λm d hm M=>?_,?_⟩
    ·have ho:=Wp (o:=os) (i:=pos os a) (by rw[O.len];exact pl)
     rw[Zc,Zc,ho,pv] at M;cases M;rw[ZfD];exact decide_eq_true rfl
    ·have o8:m<os.length:=by rw[O.len];omega
     have ho:=Wp (o:=os) o8;rw[Zc,Zc,ho] at M;cases M;rw[ZfD];refine decide_eq_false λz=>?_;have o9:=List.not_of_lt_findIdx (p:=(· == a)) (xs:=os) hm;have m6:os[m]=os.getD m 0:=by
      rw[Zf o8] at ho;exact aA ho
     rw[m6,beq_eq_false_iff_ne] at o9;have z:((os.getD m 0:Nat):Int)=((a:Nat):Int):=z;exact o9 (by omega)
    ·have:=gg J (Zv.refl _)
     show R' (.int (pos os a:Nat)) J;have e:ZnG os (.int (a:Nat))=V.int (pos os a:Nat):=by
      show V.int (pos os (a:Int).toNat:Nat)=_;rw[Zj]
     rw[e] at this;exact this
   ·have eD:((Y3 0 t.length).map V.int).map (ZnG os)=(ac t.length).map λa=>nV (pos os a):=by
     rw[ZmM,aH];refine aW λa _=>?_;show V.int (pos os (a:Int).toNat:Nat)=_;rw[Zj];rfl
    rw[eD] at hD;have m8:=s3 _ _ hL;have G3:=Gx.mono s3;refine⟨_,rfl,l,rfl,⟨_,.of m8⟩,?_⟩;refine Y8 (W:=Addr) id (λi w H3=>Tz H3 w ((os.map λb=>pos os (ZQ t (os.getD i 0) b)).map nV)) (λ_ _=>True) (Ys (K:=K) (.of m8)) [some (.ref l),some (.ref D),some (.ref g)] rfl (by rw[Za,O.len];omega) (λi w H3 J s h=>h.mono s) (λw H3 J s h=>trivial) (λi w H0 H1 D o ys w9 h h0 h1 h2=>Tz.updL h h2) (λi y hy H4 s4 R kR=>?_) (λD2 ws H4 x9 s4 t5 wl hw _=>?_)
    ·obtain⟨a,ha,rfl⟩:=XY hy
     have p3:a<t.length:=O.lt a (aB ha);have hd:os.getD i 0=a:=by rw[Zb,ha];rfl
     have p4:=s4 _ _ m8;refine⟨_,rfl,l,rfl,⟨_,.of p4⟩,?_⟩;refine JC (Ys (K:=K) (.of p4)) [some (.ref D),some (.ref g),some (.int (a:Nat))] rfl (Zi3 t os a) (by rw[Za,O.len];omega) (λj x J hx s' R' gg=>?_) (λD5 H5 y4 s5 p6=>?_)
     ·obtain⟨b,hb,rfl⟩:=XY hx
      have p7:b<t.length:=O.lt b (aB hb);obtain⟨q1,q2,q3,_,q4,q5,q6⟩:=(G3.mono (s4.trans s')).at Pt p3;have t6:=Pt.lt a b p3 p7;have t7:=(s4.trans s') _ _ hD;have t8:((ac t.length).map λa=>nV (pos os a))[ZQ t a b]?=some (nV (pos os (ZQ t a b))):=by rw[Zc,aj t6];rfl
      refine⟨_,rfl,_,rfl,_,rfl,g,_,_,_,rfl,rfl,.of q3,q4,_,rfl,q2,_,_,_,rfl,rfl,q5.sq,q6 b p7,D,_,_,_,rfl,rfl,.of t7,ZI t8,?_⟩;have:=gg J (Zv.refl _);have e:Zi3 t os a (.int (b:Nat))=V.int (pos os (ZQ t a b):Nat):=by
       show V.int (pos os (ZQ t a (b:Int).toNat):Nat)=_;rw[Zj]
      rw[e] at this;exact this
     ·rw[Zi2] at p6
      refine⟨D5,_,rfl,.of p6,λtr H6 nt s6 hz=>?_⟩;exact kR tr H6 (s5.trans s6) (by rw[hd];exact hz) trivial
    ·rw[Za] at wl
     have R:Zju H4 D2 ws (λi=>os.map λb=>pos os (ZQ t (os.getD i 0) b)):=⟨t5,λi r hr=>(hw i r hr).1⟩;refine⟨D2,_,rfl,.inl ⟨.of R.1,λgg n6=>?_⟩⟩;have GG:=ZpP R wl (Zv.upd n6) Zu;have er:((ac os.length).map λi=>os.map λb=>pos os (ZQ t (os.getD i 0) b))=ren t os:=by
      unfold ren;refine a7 λi=>?_;rw[Zc,Zc];by_cases hi:i<os.length
      ·rw[aj hi,Wp hi]
       rfl
      ·rw[ak (by rw[Zg];omega),ak (by omega)]
       rfl
     rw[er] at GG;exact k gg os _ (d3.trans (Tk.of ((s3.trans s4).trans (Zv.upd n6)))) ((T3.mono ((s3.trans s4).trans (Zv.upd n6))).le (by omega)) O GG
end
def dTI (j:T8):iz:=.tuple (j.map λq=>cx (q.map aV))
theorem Ze2 {K:aa}{H:Hp}:∀(rs:TW) (q:T8),rs.length=q.length->(∀(i:Nat) b,rs[i]?=some b->∃y,q[i]?=some y/\H b=some (.tup (y.map V.int)))->WH K H (rs.map V.ref) (q.map λxs=>cx (xs.map aV))
 | [],[],_,_=>.nil
 | [],_::_,h,_=>by cases h
 |_::_,[],h,_=>by cases h
 |b::bs,y::J,h,g=>by
  obtain⟨y',M,O⟩:=g 0 b rfl;cases M;exact .cons (.tup (.of O) (WH.ints _)) (Ze2 bs J (cv h) λj c Y=>g (j+1) c Y)
theorem Zka {K:aa}{H:Hp}{r:Addr}{j:T8}(h:RowT H r j):RdD K H (.ref r) (dTI j):=by
 obtain⟨q,J,M,O⟩:=h;exact .tup (.of J) (Ze2 q j M O)
theorem ZhR {K:aa}{H:Hp}:∀(rs:TW) (yss:X0),rs.length=yss.length->(∀(i:Nat) b,rs[i]?=some b->∃y,yss[i]?=some y/\RowT H b y)->WH K H (rs.map V.ref) (yss.map dTI)
 | [],[],_,_=>.nil
 | [],_::_,h,_=>by cases h
 |_::_,[],h,_=>by cases h
 |b::bs,y::yss,h,g=>by
  obtain⟨O,q,J⟩:=g 0 b rfl;cases q;exact .cons (Zka J) (ZhR bs yss (cv h) λj c M=>g (j+1) c M)
theorem Zh7 {α β:Type}{f:α->β}{l:List β}:∀{q:List α},l.Perm (q.map f)->∃j:List α,j.Perm q/\l=j.map f:=by
 intro q h;generalize J:q.map f=k at h;induction h generalizing q with
 |nil=>exact⟨[],by rw[lR.mp J],rfl⟩
 |cons x h ih=>
  obtain⟨a,b,rfl,rfl,e⟩:=iq.mp J;obtain⟨j,M,rfl⟩:=ih e;exact⟨a::j,M.cons a,rfl⟩
 |swap x y l=>
  obtain⟨a,b,rfl,rfl,e⟩:=iq.mp J;obtain⟨c,d,rfl,rfl,rfl⟩:=iq.mp e;exact⟨c::a::d,lT a c d,rfl⟩
 |trans _ _ O Y=>
  obtain⟨l2,M,rfl⟩:=Y J;obtain⟨l3,h2,rfl⟩:=O rfl;exact⟨l3,h2.trans M,rfl⟩
theorem U9:∀yss:X0,cu (yss.map dTI)=true
 | []=>rfl
 |j::yss=>by
  rw[aN,cu,U9 yss,j4];exact WF j
theorem Jf:∀ns:TZ,df (ns.map aV)=0
 | []=>rfl
 |n::ns=>by
  rw[aN,df,Jf ns];rfl
theorem U0:∀yss:T8,df (yss.map λns=>cx (ns.map aV))<=1
 | []=>a5 _
 |y::yss=>by
  rw[aN,df];have h:=U0 yss;have j:(cx (y.map aV)).depth=1:=by
   rw[dO,Jf]
  omega
theorem ZgF (yss:T8):(dTI yss).depth<=60:=by
 unfold dTI;rw[dO];have:=U0 yss;omega
theorem ZkV (m:Nat)(f:Nat->Bool):(!inV (.bl false) ((ac m).map λc=>V.bl (f c)))=true↔∀c,c<m->f c=true:=by
 unfold inV;rw[ef,kh,az];constructor
 ·intro h c j
  have:=h c (af.mpr j);cases e:f c with
  |true=>rfl
  |false=>
   rw[show ((λy=>eqV y (V.bl false)) ∘ λc=>V.bl (f c)) c=(f c == false) from rfl,e] at this;cases this
 ·intro h c j
  show (!(f c == false))=true;rw[h c (af.mp j)];rfl
def bkH (t:T9):Option HO->Bool
 |some (.lst (.int x::_))=>decide (Yg t (Yc t x.toNat)=Yg t x.toNat)
 |_=>false
def bkP (H:Hp)(t:T9):V->Bool
 | .ref b=>bkH t (H b)
 |_=>false
inductive Zcz (K:aa) (vs:TV) (H:Hp) (Q:VK) (E03:XK):Prop
 |mk (a:Addr) (ns:TZ):(vs=[.ref a])->(Ws K H a (ns.map V.int))->(ns.length<=63)->(∀H',Q (.bl true) H')->Zcz K vs H Q E03
section
variable {P:Program}{w:World}{K:aa}{mg:TX}{base:Heap}
theorem Znc {f:Addr}{fd:FuncData}(F:WA K "law" "law" ZmH f fd)(T:Bl mg)(T5:BlT mg)(GFe:Fn P w K mg base Yd 1 "_law_feed" ["_law_script"] (ZdT K))(GD:Fn P w K mg base Yd 1 "_law_draw" ["_law_feed_here", "_law_many"] Uw)(GG:Fn P w K mg base Yd 2 "_law_group" ["_law_feed_here", "_law_most"] Uv)(GR:Fn P w K mg base Yd 2 "_law_renamed" ["_law_feed_here", "_law_group_here"] ZdO)
  (GFa:Fn P w K mg base Yd 2 "_law_facts" ["_law_group_here"] Zhl) (GTa:Fn P w K mg base Yd 7 "table_of" ["group"] Zbb) (GW:Fn P w K mg base Yd 1 "_law_wide" ["_law_n", "_law_number"] ZdN) (GN:Fn P w K mg base Yd 1 "_law_is_nought" ["_law_n", "_law_row"] Uu) (GS:Fn P w K mg base Yd 1 "_law_sum" ["_law_one", "_law_other", "_law_often"] Ur) (GFl:Fn P w K mg base Yd 1 "_law_flip" ["_law_n", "_law_one"] ZcA)
  (GCl:Fn P w K mg base Yd 2 "_law_columns" ["_law_facts_here", "_law_rows_here"] Zhn) (GRw:Fn P w K mg base Yd 2 "_law_rows" ["_law_facts_here", "_law_rows_here"] Zhh) (GP:Fn P w K mg base Yd 2 "_law_places" ["_law_n"] Zhj):Z8 P w K mg base Yd 8 f fd ["_law_script"] (Zcz K):=by
 refine F.ok (FS (N:=["_law_script", "_law_feed_here", "_law_group_here", "_law_facts_here", "_law_table", "_law_n", "_law_firsts", "_law_rows_here", "_law_own", "_law_row", "_law_backs", "_law_ones"])) (λvs H Q E h=>?_) (λcdv A outer s H vs Q E hr h=>?_)
 ·obtain⟨a,ns,rfl,_⟩:=h;rfl
 ·obtain⟨a,ns,rfl,hS,hl,q⟩:=h
  have hu:(A.deeper (envOfC "law" (Z1 ZmH) s.heap.objs.size f cdv)).units+1<cLine:=by have:=hr.un;omega
  refine⟨_,Zs (ZH 1 rfl (Wh GFe hr ZL (pc (vn 0) Zt)))
   (Zs (ZH 2 rfl (Wh GR hr ZL (pc (vn 1) (pc (Wh GG hr ZL (pc (vn 1) (pc (ZD (Jb K) (ZR (pc Zx (pc Zx (pc Zx Zt)))) (Wh GD hr ZL (pc (vn 1) (pc Zx Zt))) (λ_ _=>rfl)) Zt))) Zt))))
   (Zs (ZH 3 rfl (Wh GFa hr ZL (pc (vn 2) Zt)))
   (Zs (ZH 4 rfl (Wh GTa hr ZL (pc (vn 2) Zt)))
   (Zs (ZH 5 rfl (ZD (JW K) (vn 3) Zx (λ_ _=>rfl)))
   (Zs (Zai 6 ["_law_row"] [] ["_law_row"] rfl rfl (itT K (vn 4)) (λ_ _ _ _ _=>gn 0) (λ_ _ _ _ _=>ZM) (λ_ _ _ _ _=>ZD (JW K) (ZD (JW K) (vn 0) Zx (λ_ _=>rfl)) Zx (λ_ _=>rfl)))
   (Zs (WN (Zh2 (ZP Jy (cb (sumK K rfl) T5.sum (pc (cmp ["_law_one"] [] ["_law_one"] rfl (itL K (vn 6)) (λ_ _ _ _ _=>gn 0) (λ_ _ _ _ _=>ZM) (λ_ _ _ _ _=>Zy ZS (vn 0) (vn 0))) Zt)) (cb (Yt K) T.len (pc (vn 2) Zt)) (ZW _)) (Zd9 (ZP (neC K hr.units) (cmp ["_law_one"] [2] ["_law_one", "_law_group_here"] rfl (itL K (vn 6)) (λ_ _ _ _ _=>gn 0) (λ_ _ _ _ _=>Zbz (ZP Jy (Zy ZV (cb (Yt K) (by exact T.len) (pc (vn 1) Zt)) (vn 0)) Zx (ZW _))) (λ_ _ _ _ _=>vn 0)) (ZR Zt) (ZW _)))).pt (Zw (ZK V0)) YF)
   (Zs (Zai 7 ["_law_row"] [5] ["_law_row", "_law_n"] rfl rfl (itT K (vn 4)) (λ_ _ _ _ _=>gn 0) (λ_ _ _ _ _=>ZM) (λ_ _ _ _ _=>cmp ["_law_number"] [1] ["_law_number", "_law_n"] rfl (itT K (vn 0)) (λ_ _ _ _ _=>gn 0) (λ_ _ _ _ _=>ZM) (λ_ _ _ _ _=>Wh GW hr ZL (pc (vn 1) (pc (vn 0) Zt)))))
   (Zs (WN (Zh2 (Zby (Xa (Wh GCl hr ZL (pc (vn 3) (pc (vn 7) Zt))))) (Zd9 (Zby (Xa (Wh GRw hr ZL (pc (vn 3) (pc (vn 7) Zt))))))).pt (Zw (ZK V0)) YF)
   (Zs (ZH 8 rfl Zx)
   (Zs (ZN am rfl (itL K (vn 7)) (gn 9)
   (Zw (ZH 8 rfl (Zy Ym (vn 8) (ct ZaY T.int (pc (JK (Zo0 K) V0 (cmp ["_law_one"] [5] ["_law_one", "_law_n"] rfl (itL K (vn 9)) (λ_ _ _ _ _=>gn 0) (λ_ _ _ _ _=>ZM) (λ_ _ _ _ _=>Wh GN hr ZL (pc (vn 1) (pc (Wh GS hr ZL (pc (vn 0) (pc (Wh GFl hr ZL (pc (vn 1) (pc (vn 0) Zt))) (pc (Vo JH Zx) Zt)))) Zt)))) (by rfl)) Zt))))))
   (Zs (Zai 10 ["_law_one"] [3,2] ["_law_one", "_law_facts_here", "_law_group_here"] rfl rfl (itL K (ZD (JW K) (vn 3) Zx (λ_ _=>rfl))) (λ_ _ _ _ _=>gn 0) (λ_ _ _ _ _=>Zbz (ZP XM (Ww hu (ZD (JW K) (vn 1) Zx (λ_ _=>rfl)) (ZbC eC cS eA (ZjU K) (ZD (JW K) (vn 2) (ZD (Jb K) (vn 0) Zx (λ_ _=>rfl)) (λ_ _=>rfl)) (pc Zx Zt)) (λ_ _=>rfl)) (Ww hu (ZD (JW K) (vn 1) Zx (λ_ _=>rfl)) (ZD (Jb K) (vn 0) Zx (λ_ _=>rfl)) (λ_ _=>rfl)) (ZW _))) (λ_ _ _ _ _=>vn 0))
   (Zs (ZH 11 rfl (Zy Zfb (XW (pc (Zy ZkA (XW (pc Zx Zt)) (Zy Zfb (XW (pc Zx Zt)) (Zy YC (Wh GP hr ZL (pc (vn 5) Zt)) Zx))) Zt)) (cb (Yt K) T.len (pc (vn 4) Zt))))
   (Zw (ZK (Zm3 (JK XM (vn 8) (cb (Yt K) T.len (pc (vn 10) Zt)) (ZW _)) (Zm2 (JK (ZqN K hr.units) (vn 11) (vn 4) (by rfl)))))))))))))))))),?_⟩
  have sz:=JE;refine⟨_,rfl,a,ns,rfl,hS,λp q' H1 s1 np T1=>?_⟩;refine⟨_,rfl,_,rfl,JF,λl nl=>?_⟩;obtain⟨H3,eH3,s3,hl3⟩:=XX (o:=.lst [.int 14,.int 21,.int 31]) nl;rw[eH3];have T3:=T1.mono s3;refine⟨_,rfl,p,q',_,_,rfl,T3,by omega,by decide,by decide,λr H4 r0 r1 k4 T4=>?_⟩;have hl4:=k4.lst T3 hl3;obtain⟨ms,hm,m1,m31⟩:∃ms:Nat,Vx [V.int 14,.int 21,.int 31] r=some (.int (ms:Nat))/\1<=ms/\ms<=31:=by
   have:r=0\/r=1\/r=2:=by omega
   rcases this with rfl|rfl|rfl
   ·exact⟨14,rfl,by decide,by decide⟩
   ·exact⟨21,rfl,by decide,by decide⟩
   ·exact⟨31,rfl,by decide,by decide⟩
  refine⟨l,_,_,_,rfl,rfl,.of hl4,hm,p,q',_,ms,rfl,T4,by omega,m1,m31,λg0 t0 H5 k5 T5' G5 mk=>?_⟩;refine⟨p,q',g0,_,t0,rfl,T5',by omega,G5,ZbJ mk,λg os H6 k6 T6 O6 G6=>?_⟩;have Pt:=W1 (ZbJ mk) O6;obtain⟨n,pp,m,e,ω,φ,z,dg,m10,D,Up⟩:=Zno mk O6;generalize ren t0 os=t at G6 Pt D Up;clear T1 T3 T4 T5' k4 k5 k6 hl4 G5 mk O6;have N1:=Pt.n1;have y8:=Pt.n60;have n1:=D.n1;have n60:=D.n60;have mc:=D.cd.mc;have r8:=D.cd.m1;have Gd:=(N47.UV n1 n60).1;have t1:=Gd.t1;have tn:=Gd.tn;have U:=YM Pt;rw[<-mc] at U;have Zf2:ZG t 0=0:=(U.z _ (U.rl 0 r8)).mp (U.rn 0 r8);refine⟨_,rfl,g,t,rfl,G6,Pt,λr L2 L3 L1 D1 bs kvs M H8 s8 hF8 y9 LC8 hD8 hv8 Ln=>?_⟩;have rds:∀a,a<t.length->Rd t a (rdT t a):=λa ha=>by
   obtain⟨r,R⟩:=Pt.rd a ha;rw[VD R];exact R
  have en:M=n:=D.round rds Ln;subst en;refine⟨_,rfl,g,t,M,pp,m,e,ω,φ,z,dg,rfl,G6.mono s8,Pt,D,λr1 xss H9 s9 A9 hp9 _=>?_⟩;rw[<-mc] at y9;have hF9:=s9 _ _ hF8;have h29:=s9 _ _ y9;have LC9:=LC8.mono s9;have hD9:=s9 _ _ hD8;have G9:=(G6.mono s8).mono s9;clear hF8 y9 LC8 hD8 G6 T6;obtain⟨J,r9,rfl⟩:=Zh7 hp9;have ssl:J.length=m:=by rw[r9.length_eq,Zg]
  generalize hZ:(λs c=>Xv t M pp e z dg s (ZG t c))=Z at Up;have u9:∀s,W0 t M pp m e z dg s=(ac m).map (Z s):=λs=>by rw[<-hZ];rfl
  have Y:∀i,i<m->J.getD i 0<m:=λi hi=>by
   have:J.getD i 0∈J:=by rw[Zb,Zf (by omega)];exact bn _
   exact af.mp (r9.mem_iff.mp this)
  have o8:∀i j,i<m->j<m->J.getD i 0=J.getD j 0->i=j:=λi j hi hj h=>by
   have nd:J.Nodup:=r9.nodup_iff.mpr cY;rw[Zb,Zb,Zf (by omega),Zf (by omega)] at h;have h:J[i]=J[j]:=h;rcases jd i j with w|w|w
   ·exact absurd h (eG.mp nd i j (by omega) (by omega) w)
   ·exact w
   ·exact absurd h.symm (eG.mp nd j i (by omega) (by omega) w)
  have ssAt:∀i,i<m->J[i]?=some (J.getD i 0):=λi hi=>by rw[Zb,Zf (by omega)];rfl
  obtain⟨cs,c1,c2,c3⟩:=id A9;have cm:(cs.map V.ref).length=m:=by rw[Za,c2,Za,ssl]
  have p4:∀(i:Nat) (y:V),(cs.map V.ref)[i]?=some y->∃(c:Addr) (ds:TW),y=.ref c/\i<m/\H9 c=some (.tup (ds.map V.ref))/\ds.length=m/\∀(j:Nat) d,ds[j]?=some d->H9 d=some (.tup ((Z (J.getD i 0) j).map V.int)):=λi y hy=>by
   rw[Zc] at hy;cases e:cs[i]? with
   |none=>rw[e] at hy;cases hy
   |some c=>
    rw[e] at hy;obtain⟨ys,h1,ds,d1,d2,d3⟩:=c3 i c e;have hi:i<m:=by rw[<-cm,Za];exact (ae.mp e).1
    rw[Zc,ssAt i hi] at h1;cases h1;rw[u9] at d2 d3;refine⟨c,ds,(aA hy).symm,hi,d1,by rw[d2,Za,Zg],λj d hd=>?_⟩;obtain⟨y',f1,f2⟩:=d3 j d hd;have hj:j<m:=by have:=(ae.mp hd).1;rw[d2,Za,Zg] at this;exact this
    rw[Zc,aj hj] at f1;cases f1;exact f2
  refine⟨_,rfl,r,_,_,_,rfl,rfl,.of hF9,rfl,?_⟩;refine⟨_,rfl,r1,rfl,⟨_,.of c1⟩,?_⟩;refine YI (Wa (K:=K) (.of c1)) [] rfl (λi=>.int (Num.co (Z (J.getD i 0) 0) 0)) (by rw[cm];omega) (λi y hy H' s' R' kk=>?_) (λL6 H10 nL6 s10 n9=>?_)
  ·obtain⟨c,ds,rfl,hi,d1,d2,d3⟩:=p4 i y hy
   have e0:ds[0]?=some (ds.getD 0 0):=by rw[Zb,Zf (by omega)];rfl
   have ln:=Up.len _ 0 (Y i hi) r8;exact⟨_,rfl,c,_,_,_,rfl,rfl,.of (s' _ _ d1),ZI (j:=0) (by rw[Zc,e0];rfl),ds.getD 0 0,_,_,_,rfl,rfl,.of (s' _ _ (d3 0 _ e0)),ZI (j:=0) (by rw[Zc,Num.Wd (by omega)];rfl),kk H' (Zv.refl _)⟩
  rw[cm] at n9;have n9:H10 L6=some (.lst (ZF m λi=>Num.co (Z (J.getD i 0) 0) 0)):=n9;refine⟨_,rfl,L6,rfl,⟨_,.of n9⟩,?_⟩;refine YI (Ys (K:=K) (.of n9)) [] rfl (λi=>.int (Num.co (Z (J.getD i 0) 0) 0*Num.co (Z (J.getD i 0) 0) 0)) (by rw[ZT];omega) (λi y hy H' s' R' kk=>?_) (λL7 H11 nL7 s11 h11=>?_)
  ·have hi:i<m:=by have:=(ae.mp hy).1;rw[ZT] at this;exact this
   rw[Yr _ hi] at hy;cases hy;obtain⟨b1,b2⟩:=Up.sm _ 0 0 (Y i hi) r8;exact⟨_,rfl,_,rfl,_,_,rfl,rfl,.inl ⟨by omega,by omega⟩,kk H' (Zv.refl _)⟩
  rw[ZT] at h11;have hsum:((ac m).map λi=>Num.co (Z (J.getD i 0) 0) 0*Num.co (Z (J.getD i 0) 0) 0).sum=(t.length:Int):=by
   have:=ZcD m λi=>Num.co (Z (J.getD i 0) 0) 0*Num.co (Z (J.getD i 0) 0) 0;unfold We at this;rw[this,Num.Ua Y o8 (λs=>Num.co (Z s 0) 0*Num.co (Z s 0) 0)];exact Up.fs2
  have w8:=s10.trans s11;obtain⟨gs,u1,u2,_⟩:=G9.mono w8;have el:(gs.map V.ref).length=t.length:=by rw[Za,u2]
  refine⟨L7,(ac m).map λi=>Num.co (Z (J.getD i 0) 0) 0*Num.co (Z (J.getD i 0) 0) 0,rfl,.of (by rw[h11,aH];rfl),_,rfl,g,_,rfl,.inr (.of u1),rfl,_,rfl,?_⟩;refine YE (λh0=>absurd h0 (by rw[hsum,el,decide_eq_true rfl];decide)) (λ_=>?_);refine⟨_,rfl,L6,rfl,⟨_,.of (s11 _ _ n9)⟩,?_⟩;refine VN (Ys (K:=K) (.of (s11 _ _ n9))) [some (.ref g)] rfl (λ_=>false) id (by rw[ZT];omega) (λi y H' hy s' R R' g1 g0=>?_) (λL8 H12 nL8 s12 h12=>?_)
  ·have hi:i<m:=by have:=(ae.mp hy).1;rw[ZT] at this;exact this
   rw[Yr _ hi] at hy;cases hy;obtain⟨b1,b2⟩:=Up.fs1 _ (Y i hi);refine⟨_,rfl,g,_,rfl,.inr (.of (s' _ _ u1)),_,rfl,_,_,rfl,rfl,(by show (0:Int)<Num.co (Z (J.getD i 0) 0) 0;omega),rfl,_,rfl,?_⟩;refine YE (λh0=>absurd h0 (by rw[el,decide_eq_true (congrArg V.int b2)];decide)) (λ_=>g0 rfl H' (Zv.refl _))
  have h12:H12 L8=some (.lst []):=by
   rw[h12];have:∀xs:TV,(xs.filter λ_=>false).map id=[]:=λxs=>by induction xs with
    |nil=>rfl
    |cons x xs ih=>rw[ee,if_neg (by decide)];exact ih
   rw[this]
  refine⟨JF,λl9 nl9=>?_⟩;obtain⟨H13,eH13,s13,h13⟩:=XX (o:=.lst []) nl9;rw[eH13];refine⟨.list [],.list [],.lst (.of (s13 _ _ h12)) .nil,.lst (.of h13) .nil,rfl,rfl,_,rfl,?_⟩;refine YE (λh0=>absurd h0 (by decide)) (λ_=>?_);have o9:=(w8.trans s12).trans s13;have c13:=o9 _ _ c1;refine⟨_,rfl,r1,rfl,⟨_,.of c13⟩,?_⟩;refine Y8 (W:=Addr×TW) i5 (λi w H=>H w.1=some (.lst (w.2.map V.ref))/\w.2.length=m/\∀(c:Nat) b,w.2[c]?=some b->H b=some (.lst (ZF M (Num.co (Z (J.getD i 0) c))))) (λw H=>H w.1=none/\∀b∈w.2,H b=none) (Wa (K:=K) (.of c13)) [some (.int M)] rfl (by rw[cm];omega) (λi w H H' s h=>⟨s _ _ h.1,h.2.1,λc b hb=>s _ _ (h.2.2 c b hb)⟩) (λw H H' s h=>⟨s.free h.1,λb hb=>s.free (h.2 b hb)⟩) (λi w H0 H1 D o ys ys' h h0 h1 h2=>?_) (λi y hy H' s' R' kk=>?_) (λL ws H14 nL s14 h14 wl hw _=>?_)
  ·have q1:w.1≠D:=λz=>by have:=h0.1;rw[z,h1] at this;cases this
   have q2:∀b∈w.2,b≠D:=λb hb z=>by have:=h0.2 b hb;rw[z,h1] at this;cases this
   exact⟨by rw[Zz q1];exact h.1,h.2.1,λc b hb=>by rw[Zz (q2 b (aB hb))];exact h.2.2 c b hb⟩
  ·obtain⟨c,ds,rfl,hi,d1,d2,d3⟩:=p4 i y hy
   have d1':=s' _ _ (o9 _ _ d1);refine⟨_,rfl,c,rfl,⟨_,.of d1'⟩,?_⟩;refine Y8 (W:=Addr) id (λj w H=>H w=some (.lst (ZF M (Num.co (Z (J.getD i 0) j))))) (λw H=>H w=none) (Wa (K:=K) (.of d1')) [some (.int M)] rfl (by rw[Za,d2];omega) (λi w H H' s h=>s _ _ h) (λw H H' s h=>s.free h) (λi w H0 H1 D o ys ys' h h0 h1 h2=>by rw[Zz (λz=>by rw[z,h1] at h0;cases h0)];exact h) (λj y hy H2 s2 R2 k2=>?_) (λD2 vs2 H2 nD2 s2 hD2 vl hv2 _=>kk (D2,vs2) H2 s2 ⟨hD2,by rw[vl,Za,d2],λc b hb=>(hv2 c b hb).1⟩ ⟨nD2,λb hb=>?_⟩)
   ·obtain⟨c',m6,rfl⟩:=J6 hy
    have hj:j<m:=by rw[<-d2];exact (ae.mp m6).1
    exact⟨_,rfl,_,rfl,M,c',_,rfl,s2 _ _ (s' _ _ (o9 _ _ (d3 j c' m6))),by rw[Up.len _ j (Y i hi) hj];exact tn,n60,λl H5 nl s5 h5=>k2 l H5 s5 h5 nl⟩
   ·obtain⟨j,hj⟩:=bo hb
    exact (hv2 j b hj).2
  have RS:RsC H14 L M m (λi c=>Z (J.getD i 0) c):=by
   refine⟨ws.map i5,by rw[h14,aH];rfl,by rw[Za,wl,cm],λi l hl=>?_⟩;rw[Zc] at hl;cases e:ws[i]? with
   |none=>rw[e] at hl;cases hl
   |some w0=>
    rw[e] at hl;cases hl;obtain⟨a1,a2,a3⟩:=(hw i w0 e).1;exact⟨w0.2,a1,a2,a3⟩
  have p6:=o9.trans s14;have w9:=p6 _ _ hF9;have x9:=p6 _ _ h29;have hsz:∀c,c<m->1<=((ZA t t.length).getD c []).length/\((ZA t t.length).getD c []).length<=60:=λc O=>by
   have m6:c<(ZA t t.length).length:=by rw[<-mc];exact O
   refine⟨fc (XE Pt m6).1,?_⟩;rw[Zjg Pt m6];unfold ZZ;exact a8 (kU ..) (by rw[Zg];exact y8)
  have smz:SmZ m (λi c=>Z (J.getD i 0) c):=λi c k hi O=>Up.sm _ c k (Y i hi) O;refine⟨_,rfl,_,rfl,r,L2,L,M,t.length,m,_,_,_,λc=>((ZA t t.length).getD c []).length,λi c=>Z (J.getD i 0) c,rfl,n1,n60,y8,by omega,w9,x9,hsz,RS,smz,λc c' z O m6 hz=>?_,λH15 t5=>?_⟩
  ·rw[Num.Ua Y o8 (λs=>mmf M (Z s c) (Z s c') z)]
   exact Up.col c c' z O m6 hz
  refine⟨_,rfl,?_⟩;refine YE (λh0=>absurd h0 (by decide)) (λ_=>?_);refine⟨_,rfl,_,rfl,r,L2,L,M,t.length,m,_,_,_,λc=>((ZA t t.length).getD c []).length,λi c=>Z (J.getD i 0) c,rfl,n1,n60,y8,by omega,t5 _ _ w9,t5 _ _ x9,hsz,RS.mono t5,smz,λi i' z hi hi' hz=>Up.row _ _ z (Y i hi) (Y i' (by omega)) (λw=>by have:=o8 i i' hi (by omega) w;omega) hz,λH16 s16=>?_⟩;refine⟨_,rfl,?_⟩;refine YE (λh0=>absurd h0 (by decide)) (λ_=>?_);have p7:=t5.trans s16;obtain⟨rl,hrl,hown⟩:=Up.own;have RS16:=RS.mono p7;obtain⟨ls,l1,l2,l3⟩:=id RS16;refine⟨_,rfl,L,rfl,⟨_,.of l1⟩,?_⟩;refine WQ (Ys (K:=K) (.of l1)) (λi t6 H'=>∃v9:TU,t6=[some (.ref a),some (.ref p),some (.ref g),some (.ref r),some (.ref r1),some (.int M),some (.ref L6),some (.ref L),some (.int ((((ac i).filter λi=>rl (J.getD i 0)).length:Nat):Int)),v9,none,none]/\Zv H16 H')
   ⟨_,rfl,Zv.refl _⟩ (λi t6 H' h=>by obtain⟨_,_,sm⟩:=h;exact sm) ?_ ?_
  ·rintro i y t6 m8 hy ⟨v9,rfl,t7⟩
   obtain⟨lk,hlk,rfl⟩:=J6 hy;have hi:i<m:=by rw[<-l2];exact (ae.mp hlk).1
   obtain⟨rs,a1,a2,a3⟩:=(l3 i lk hlk).mono t7;obtain⟨rb,hrb⟩:∃rb:Nat->Bool,∀c,(rb c=true↔∀z,z<N47.YL M->Num.me M (N47.RN M) (flV M (Num.co (Z (J.getD i 0) c))) z=Num.co (Z (J.getD i 0) c) z):=⟨λc=>@decide _ (jD _),λc=>@decide_eq_true_iff _ (jD _)⟩;refine⟨_,rfl,_,rfl,lk,rfl,⟨_,.of a1⟩,?_⟩;refine YI (Ys (K:=K) (.of a1)) [some (.int M)] rfl (λc=>.bl (rb c)) (by rw[Za,a2];omega) (λc y hy H' s' R' kk=>?_) (λD2 H18 nD2 s18 t8=>?_)
   ·obtain⟨b,hb,rfl⟩:=J6 hy
    have O:c<m:=by rw[<-a2];exact (ae.mp hb).1
    have p8:H' b=some (.lst (ZF M (Num.co (Z (J.getD i 0) c)))):=s' _ _ (a3 c b hb);refine⟨_,rfl,_,rfl,_,rfl,_,rfl,M,b,_,rfl,n1,n60,p8,λl5 H2 s2 h2=>?_⟩;refine⟨_,rfl,M,b,l5,-1,_,_,rfl,n60,s2 _ _ p8,h2,by decide,by decide,λl6 H3 s3 h3=>?_⟩;refine⟨M,l6,_,rfl,n1,n60,h3,λbb H5 s5 hbb=>?_⟩;have eb:bb=rb c:=by
     rw[bT,hbb,hrb];have ln:=Up.len _ c (Y i hi) O;constructor
     ·intro w z hz
      have:=w z hz;rw[Num.ZbM,Num.Zfj Gd (by omega) hz] at this;omega
     ·intro w z hz
      rw[Num.ZbM,Num.Zfj Gd (by omega) hz,w z hz];omega
    rw[eb];exact kk H5 ((s2.trans s3).trans s5)
   rw[Za,a2] at t8;have hk:(!inV (.bl false) ((ac m).map λc=>V.bl (rb c)))=rl (J.getD i 0):=by
    rw[bT,ZkV,hrl _ (Y i hi)];exact⟨λw c O=>(hrb c).mp (w c O),λw c O=>(hrb c).mpr (w c O)⟩
   refine⟨D2,_,rfl,.inl (.of t8),rfl,az.mpr λz hz=>by obtain⟨c,_,rfl⟩:=aE.mp hz;rfl,.inr ⟨rl (J.getD i 0),congrArg (λb=>[V.bl b]) ((if_pos rfl).trans hk),_,_,rfl,rfl,?_⟩⟩;have e8:((((ac i).filter λi=>rl (J.getD i 0)).length:Nat):Int)+(if rl (J.getD i 0)=true then 1 else 0)=((((ac (i+1)).filter λi=>rl (J.getD i 0)).length:Nat):Int):=by
    rw[bG,iS,Zd];by_cases hq:rl (J.getD i 0)=true
    ·have:([i].filter λi=>rl (J.getD i 0)).length=1:=by rw[ee,if_pos hq];rfl
     rw[this,if_pos hq];omega
    ·have:([i].filter λi=>rl (J.getD i 0)).length=0:=by rw[ee,if_neg hq];rfl
     rw[this,if_neg hq];omega
   refine⟨some (.ref lk),?_,t7.trans s18⟩;rw[<-e8];rfl
  rintro t6 m8 ⟨v9,rfl,t7⟩;rw[show (ls.map V.ref).length=m by rw[Za,l2]];have m5:=(p6.trans p7).trans t7;have q0:=m5 _ _ hF9;have n6:=LC9.mono m5;have y4:=m5 _ _ hD9;have G17:=G9.mono m5;refine⟨_,rfl,r,_,_,_,rfl,rfl,.of q0,rfl,L1,rfl,⟨_,.of n6.1⟩,?_⟩;have bl:bs.length=m:=by rw[n6.2.1,<-mc]
  have bAt:∀c,c<m->bs[c]?=some (bs.getD c 0):=λc O=>by rw[Zb,Zf (by omega)];rfl
  have clc:∀c,c<m->∃n8,(ZA t t.length).getD c []=ZG t c::n8:=λc O=>by
   have m6:c<(ZA t t.length).length:=by rw[<-mc];exact O
   have e1:=fc (XE Pt m6).1;cases e:(ZA t t.length).getD c [] with
   |nil=>rw[e] at e1;cases e1
   |cons x n8=>exact⟨n8,by unfold ZG;rw[e];rfl⟩
  refine VN (Ys (K:=K) (.of n6.1)) [some (.ref r),some (.ref g)] rfl (bkP m8 t) id (by rw[Za,bl];omega) (λi y H' hy s' R R' g1 g0=>?_) (λL10 H18 nL10 s18 t8=>?_)
  ·obtain⟨b,hb,rfl⟩:=J6 hy
   have hi:i<m:=by rw[<-bl];exact (ae.mp hb).1
   obtain⟨n8,er⟩:=clc i hi;have y6:m8 b=some (.lst (((ZA t t.length).getD i []).map nV)):=(n6.2.2 i b hb).2;have p8:=s' _ _ y6;have b0:(((ZA t t.length).getD i []).map nV)[0]?=some (nV (ZG t i)):=by rw[er];rfl
   have o0:=U.rl i hi;obtain⟨b1,b2⟩:=Z4 Pt o0;obtain⟨rs',r2,g1',_,g2',g3,g4⟩:=(G17.mono s').at Pt o0;have hl:=JJ Pt o0;have hg1:=Ji.k (k:=.inl ((Yc t (ZG t i):Nat):Int)) (s' _ _ y4);rw[hv8 _ b1] at hg1;have hg2:=Ji.k (k:=.inl ((ZG t i:Nat):Int)) (s' _ _ y4);rw[hv8 _ o0] at hg2;have hp:bkP m8 t (.ref b)=decide (Yg t (Yc t (ZG t i))=Yg t (ZG t i)):=by
    show bkH t (m8 b)=_;rw[y6,er];rfl
   rw[hp] at g1 g0;refine⟨_,rfl,r,_,_,_,rfl,rfl,.of (s' _ _ q0),rfl,_,rfl,_,rfl,b,_,_,_,rfl,rfl,.of p8,ZI (j:=0) b0,g,_,_,_,rfl,rfl,.of g1',g2',⟨_,_,rfl,g3⟩,r2,_,.int 0,Yc t (ZG t i),rfl,rfl,g3.sq,rfl,?_,by rw[Za,hl];exact b1,λz o7=>?_,λk z hm o7=>?_,D1,_,rfl,hg1,_,rfl,r,_,_,_,rfl,rfl,.of (s' _ _ q0),rfl,_,rfl,b,_,_,_,rfl,rfl,.of p8,ZI (j:=0) b0,D1,_,rfl,hg2,rfl,_,rfl,?_⟩
   ·rw[az]
    intro z o7;obtain⟨k,_,rfl⟩:=aE.mp o7;rfl
   ·rw[Jo Pt o0 b1,b2] at o7
    cases o7;decide
   ·have hm':k<t.length:=by omega
    rw[Jo Pt o0 hm'] at o7;cases o7;have:ZQ t (ZG t i) k≠0:=λz=>by
     have:=JR Pt o0 hm' z;omega
    show decide ((ZQ t (ZG t i) k:Int)=0)=false;exact decide_eq_false (by omega)
   ·refine YE (λh0=>?_) (λh0=>?_)
    ·exact⟨_,rfl,g1 (decide_eq_true (by have:=V.int.inj (of_decide_eq_true h0);omega)) H' (Zv.refl _)⟩
    ·exact g0 (decide_eq_false λw=>h0 (decide_eq_true (by rw[w]))) H' (Zv.refl _)
  have bkl:(((bs.map V.ref).filter (bkP m8 t)).map id).length=((ac m).filter λc=>Yg t (Yc t (ZG t c)) == c).length:=by
   have eb:bs.map V.ref=(ac m).map λc=>V.ref (bs.getD c 0):=by
    refine a7 λc=>?_;rw[Zc,Zc];by_cases O:c<m
    ·rw[bAt c O,aj O];rfl
    ·rw[ak (by omega),ak (by rw[Zg];omega)];rfl
   rw[List.map_id,eb,ii,Za];refine congrArg cN (X3 λc O=>?_);show bkP m8 t (.ref (bs.getD c 0))=_;obtain⟨n8,er⟩:=clc c O;show bkH t (m8 (bs.getD c 0))=_;rw[(n6.2.2 c _ (bAt c O)).2,er];show decide (Yg t (Yc t (ZG t c))=Yg t (ZG t c))=(Yg t (Yc t (ZG t c)) == c);rw[U.rn c O];rfl
  refine⟨JF,λo1 no1=>?_⟩;obtain⟨H19,eH19,s19,h19⟩:=XX (o:=.tup [.int 1]) no1;rw[eH19];refine⟨JF,λo2 no2=>?_⟩;obtain⟨H20,eH20,s20,h20⟩:=XX (o:=.tup [.int 0]) no2;rw[eH20];refine⟨_,rfl,M,rfl,n1,n60,λH21 t9=>?_⟩;refine⟨_,_,rfl,rfl,o2,_,N47.YL M-1,rfl,congrArg V.int (show ((N47.YL M:Nat):Int)-1=((N47.YL M-1:Nat):Int) by omega),t9 _ _ h20,by decide,by show 1*_<=_;omega,by omega,λo3 H22 s22 h22=>?_⟩;refine⟨o1,o3,_,_,rfl,rfl,s22 _ _ (t9 _ _ (s20 _ _ h19)),h22,by rw[Xz];show 1+_*1<=_;omega,λo4 H23 s23 h23=>?_⟩;have e23:[V.int 1]++(ah (N47.YL M-1) [V.int 0]).flatten=(hdL (N47.YL M) 1).map V.int:=by
   unfold hdL;rw[aN,List.map_replicate];have:∀k,(ah k [V.int 0]).flatten=ah k (V.int 0):=λk=>by induction k with
    |zero=>rfl
    |succ k ih=>rw[aK,a6,ih,aK];rfl
   rw[this];rfl
  rw[e23] at h23;refine⟨JF,λo5 no5=>?_⟩;obtain⟨H24,eH24,s24,h24⟩:=XX (o:=.tup [.ref o4]) no5;rw[eH24];have r6:=((((s18.trans s19).trans s20).trans t9).trans (s22.trans s23)).trans s24;have u5:=r6 _ _ (m5 _ _ c1);refine⟨_,rfl,r1,_,rfl,.inr (.of u5),?_⟩;rw[cm];refine⟨o5,_,m,rfl,rfl,h24,by simp,by show 1*_<=_;omega,by omega,λo6 H25 p3 h25=>?_⟩;have s1825:=(((s19.trans s20).trans t9).trans (s22.trans s23)).trans (s24.trans p3);have h1825:=s1825 _ _ t8;refine⟨_,rfl,_,rfl,L10,_,rfl,.inl (.of h1825),rfl,_,rfl,?_⟩;rw[bkl];have eo:((ac m).filter λi=>rl (J.getD i 0)).length=((ac m).filter λc=>Yg t (Yc t (ZG t c)) == c).length:=by
   rw[Num.ZfC Y o8 rl];exact hown
  rw[eo];refine YE (λ_=>?_) (λh0=>absurd (decide_eq_true rfl) h0);obtain⟨s0,hs0,hone⟩:=Up.one;have dones:RdD K H25 (.ref o6) (dTI (W0 t M pp m e z dg s0)):=by
   rw[u9];refine .tup (.of h25) ?_;have er:(ac m).map (Z s0)=ah m (hdL (N47.YL M) 1):=by
    refine a7 λc=>?_;rw[Zc,bz];by_cases O:c<m
    ·rw[aj O,if_pos O];show some (Z s0 c)=_;rw[hone c O]
    ·rw[ak (by rw[Zg];omega),if_neg O];rfl
   rw[er];have h23':=p3 _ _ (s24 _ _ h23);generalize m=k;induction k with
   |zero=>exact .nil
   |succ k ih=>
    rw[aK,a6,aK,aN];exact .cons (.tup (.of h23') (WH.ints _)) ih
  refine⟨_,rfl,_,rfl,r1,_,(J.map (W0 t M pp m e z dg)).map dTI,_,rfl,.inr (.of (p3 _ _ u5)),?_,dones,U9 _,WF _,ZgF _,?_⟩
  ·have A25:ZpF H25 r1 (J.map (W0 t M pp m e z dg)):=by
    refine⟨cs,p3 _ _ u5,c2,λi c O=>?_⟩;obtain⟨ys,a,b⟩:=c3 i c O;exact⟨ys,a,((b.mono m5).mono r6).mono p3⟩
   obtain⟨cs',f1,f2,f3⟩:=A25;rw[p3 _ _ u5] at f1;have:cs'=cs:=by
    have:=HO.tup.inj (aA f1);exact (f6 (λa b h=>V.ref.inj h)).mp this.symm
   subst this;exact ZhR _ _ f2 f3
  ·have hany:(((J.map (W0 t M pp m e z dg)).map dTI).any λy=>y.eqv (dTI (W0 t M pp m e z dg s0)))=true:=by
    refine aU.mpr ⟨dTI (W0 t M pp m e z dg s0),aE.mpr ⟨_,aE.mpr ⟨s0,r9.mem_iff.mpr (af.mpr hs0),rfl⟩,rfl⟩,?_⟩;exact SeqAt.eqv_refl _ (WF _)
   rw[if_neg (by decide),hany];exact q H25
end
theorem all_mk {l:gA}{w:World}{K:aa}{h:Heap}{mg:TX}{fa:Addr}(X:K.In h)(G:h.Ns mainGlobals mg)(hfa:mg "law"=some (.ref fa))
  (d1:ZB K "_law_feed" ZlV) (d2:ZB K "_law_draw" ZhG) (d3:ZB K "_law_twisted" Zhw) (d4:ZB K "_law_by_perms" ZoH) (d5:ZB K "_law_times_of" Zd2) (d6:ZB K "_law_group" ZhE) (d7:ZB K "_law_renamed" ZlO) (d8:ZB K "_law_classes" ZcI) (d9:ZB K "_law_round" ZeQ) (d10:ZB K "_law_counts" ZmI) (d11:ZB K "_law_facts" ZoE) (d12:ZB K "round_of" Zhy) (d13:ZB K "full_round" ZlU) (d14:ZB K "fit_prime" ZoD) (d15:ZB K "root_powers" Zhz) (d16:ZB K "back" ZlW) (d17:ZB K "turned_by" ZeP) (d18:ZB K "turnings" ZaB) (d19:ZB K "classes_of" Uy) (d20:ZB K "holders" ZlT) (d21:ZB K "class_numbers" ZcH) (d22:ZB K "power_walks" Zhv) (d23:ZB K "counts_of" ZeT) (d24:ZB K "less_often" ZlR) (d25:ZB K "back_by" ZeU) (d26:ZB K "last_part" ZlS) (d27:ZB K "parts_by" ZhA) (d28:ZB K "taken_apart" ZhH) (d29:ZB K "first_of" ZhF) (d30:ZB K "primes_of" N47.ZeR) (d31:ZB K "stretched" N47.Zoy) (d32:ZB K "quotient" N47.ZoA) (d33:ZB K "least_sum" N47.ZhD) (d34:ZB K "number_of" N47.ZhB) (d35:ZB K "number_at" ZhC) (d36:ZB K "table_of" Zhx) (d37:ZB K "_law_wide" ZlM) (d38:ZB K "_law_is_nought" ZlP) (d39:ZB K "_law_sum" ZlN) (d40:ZB K "_law_flip" ZoC) (d41:ZB K "_law_mul" ZlQ) (d42:ZB K "_law_columns" ZoG) (d43:ZB K "_law_rows" Zoz) (d44:ZB K "_law_alone" ZoI) (d45:ZB K "_law_places" ZoB) (d46:ZB K "law" ZmH)
  (z1:bi K mainGlobals "list"=some none) (z2:bi K mainGlobals "len"=some none) (z3:bi K mainGlobals "range"=some none) (z4:bi K mainGlobals "tuple"=some none) (z5:bi K mainGlobals "sorted"=some none) (z6:bi K mainGlobals "set"=some none) (z7:bi K mainGlobals "abs"=some none) (z8:bi K mainGlobals "isinstance"=some none) (z9:bi K mainGlobals "all"=some none) (z10:bi K mainGlobals "repr"=some none) (z11:bi K mainGlobals "any"=some none) (z12:bi K mainGlobals "int"=some none) (z13:bi K mainGlobals "bool"=some none) (z14:bi K mainGlobals "enumerate"=some none) (z15:bi K mainGlobals "zip"=some none) (z16:bi K mainGlobals "sum"=some none) (z17:bi K mainGlobals "max"=some none) :
  ∃fd:FuncData,(∀(s:Shared) (v:Value),i0 s fd ⟨[v],[]⟩ [("_law_script",v)])/\∀base:Heap,K.In base->base.Ns mainGlobals mg->Z8 l.prog w K mg base Yd 8 fa fd ["_law_script"] (Zcz K):=by
 have q:BlB mg:=⟨av X G z1,av X G z2,av X G z3,av X G z4,av X G z5⟩;have j:Bl mg:=⟨av X G z1,av X G z2,av X G z7,av X G z3,av X G z4,av X G z8,av X G z9,av X G z6,av X G z10,av X G z11,av X G z12,av X G z13⟩;have M:ZgT mg:=⟨av X G z5,av X G z14⟩;have O:BlT mg:=⟨av X G z15,av X G z16⟩;have n8:N47.Bl mg:=⟨av X G z1,av X G z2,av X G z7,av X G z3,av X G z4,av X G z8,av X G z9,av X G z6,av X G z10,av X G z11,av X G z12,av X G z13⟩;have n9:N47.Bl2 mg:=⟨av X G z14,av X G z17⟩;refine d46.law X G hfa (λbase f fd nb kb F=>?_) (λ_ _ _ _ _ _ _ _=>.of_eq rfl);have fn:=@ZB.fn l.prog w K mg base h;have u9:=fn d1 X G (λf fd F=>ZkN F q) (λ_ _ _ _ _ _=>bd1 λ_=>rfl);have m6:=fn d2 X G (λf fd F=>ZkO F q) (λ_ _ _ _ _ _=>bd2 λ_ _=>rfl);have p3:=fn d3 X G (λf fd F=>Zih F q) (λ_ _ _ _ _ _=>bd4 λ_ _ _ _=>rfl);have o7:=fn d4 X G (λf fd F=>Zni F q) (λ_ _ _ _ _ _=>bd1 λ_=>rfl);have o8:=fn d5 X G (λf fd F=>Zgd F q) (λ_ _ _ _ _ _=>bd1 λ_=>rfl);have t5:=fn d6 X G (λf fd F=>Zgg F q m6 p3 o7 o8) (λ_ _ _ _ _ _=>bd2 λ_ _=>rfl);have p4:=fn d7 X G (λf fd F=>ZkF F q m6) (λ_ _ _ _ _ _=>bd2 λ_ _=>rfl);have p6:=fn d8 X G (λf fd F=>ZkP F q (av X G z6)) (λ_ _ _ _ _ _=>bd1 λ_=>rfl);have t6:=fn d9 X G (λf fd F=>Zge F q) (λ_ _ _ _ _ _=>bd1 λ_=>rfl);have p8:=fn d10 X G (λf fd F=>Zng F j) (λ_ _ _ _ _ _=>bd3 λ_ _ _=>rfl);have t7:=fn d11 X G (λf fd F=>Znf F j p6 t6 p8) (λ_ _ _ _ _ _=>bd1 λ_=>rfl);have g_round_of:=fn d12 X G (λf fd F=>Zij F) (λ_ _ _ _ _ _=>bd2 λ_ _=>rfl);have t8:=fn d13 X G (λf fd F=>ZkM F j g_round_of) (λ_ _ _ _ _ _=>bd1 λ_=>rfl);have w8:=fn d14 X G (λf fd F=>Zne F j) (λ_ _ _ _ _ _=>bd2 λ_ _=>rfl);have q0:=fn d15 X G (λf fd F=>Zik F j) (λ_ _ _ _ _ _=>bd2 λ_ _=>rfl);have g_back:=fn d16 X G (λf fd F=>ZkQ F) (λ_ _ _ _ _ _=>bd2 λ_ _=>rfl);have w9:=fn d17 X G (λf fd F=>Zgc F g_back) (λ_ _ _ _ _ _=>bd3 λ_ _ _=>rfl);have g_turnings:=fn d18 X G (λf fd F=>ZcX F j M w9) (λ_ _ _ _ _ _=>bd2 λ_ _=>rfl);have Y:=fn d19 X G (λf fd F=>Zec F j g_turnings) (λ_ _ _ _ _ _=>bd1 λ_=>rfl);have g_holders:=fn d20 X G (λf fd F=>ZkL F j M) (λ_ _ _ _ _ _=>bd2 λ_ _=>rfl);have m5:=fn d21 X G (λf fd F=>ZkG F j Y g_holders) (λ_ _ _ _ _ _=>bd1 λ_=>rfl);have r6:=fn d22 X G (λf fd F=>Zig F m5 Y) (λ_ _ _ _ _ _=>bd1 λ_=>rfl);have x9:=fn d23 X G (λf fd F=>Zgh F j M Y m5) (λ_ _ _ _ _ _=>bd1 λ_=>rfl);have t9:=fn d24 X G (λf fd F=>ZkJ F O) (λ_ _ _ _ _ _=>bd4 λ_ _ _ _=>rfl);have o0:=fn d25 X G (λf fd F=>Zgi F) (λ_ _ _ _ _ _=>bd2 λ_ _=>rfl);have y4:=fn d26 X G (λf fd F=>ZkK F j t9 o0) (λ_ _ _ _ _ _=>bd3 λ_ _ _=>rfl);have g_parts_by:=fn d27 X G (λf fd F=>Zil F j O y4) (λ_ _ _ _ _ _=>bd3 λ_ _ _=>rfl);have r8:=fn d28 X G (λf fd F=>Ziq F j g_parts_by) (λ_ _ _ _ _ _=>bd2 λ_ _=>rfl);have g_first_of:=fn d29 X G (λf fd F=>Zip F) (λ_ _ _ _ _ _=>bd3 λ_ _ _=>rfl);have y6:=fn d30 X G (λf fd F=>N47.Zgf F n8) (λ_ _ _ _ _ _=>bd1 λ_=>rfl);have y8:=fn d31 X G (λf fd F=>N47.Zm8 F n8 n9) (λ_ _ _ _ _ _=>bd2 λ_ _=>rfl);have g_quotient:=fn d32 X G (λf fd F=>N47.Zna F n8 n9) (λ_ _ _ _ _ _=>bd2 λ_ _=>rfl);have y9:=fn d33 X G (λf fd F=>N47.Zio F y6 y8 g_quotient) (λ_ _ _ _ _ _=>bd1 λ_=>rfl);have g_number_of:=fn d34 X G (λf fd F=>N47.Zim F n8 n9 y9) (λ_ _ _ _ _ _=>bd2 λ_ _=>rfl);have g_number_at:=fn d35 X G (λf fd F=>Zin F j M O o0 g_number_of) (λ_ _ _ _ _ _=>bd5 λ_ _ _ _ _=>rfl);have g_table_of:=fn d36 X G (λf fd F=>Zii F j M t8 w8 q0 r6 x9 r8 o0 g_first_of g_number_at) (λ_ _ _ _ _ _=>bd1 λ_=>rfl);have g__law_wide:=fn d37 X G (λf fd F=>ZkD F j) (λ_ _ _ _ _ _=>bd2 λ_ _=>rfl);have J:=fn d38 X G (λf fd F=>ZkH F j) (λ_ _ _ _ _ _=>bd2 λ_ _=>rfl);have n6:=fn d39 X G (λf fd F=>ZkE F O) (λ_ _ _ _ _ _=>bd3 λ_ _ _=>rfl);have m8:=fn d40 X G (λf fd F=>Znd F j) (λ_ _ _ _ _ _=>bd2 λ_ _=>rfl);have o9:=fn d41 X G (λf fd F=>ZkI F j) (λ_ _ _ _ _ _=>bd3 λ_ _ _=>rfl);have p7:=fn d42 X G (λf fd F=>Znh F j n6 o9 m8 J) (λ_ _ _ _ _ _=>bd2 λ_ _=>rfl);have g__law_rows:=fn d43 X G (λf fd F=>Zm9 F j n6 o9 m8 J) (λ_ _ _ _ _ _=>bd2 λ_ _=>rfl);have u5:=fn d44 X G (λf fd F=>Znj F) (λ_ _ _ _ _ _=>bd2 λ_ _=>rfl);have r9:=fn d45 X G (λf fd F=>Znb F j u5) (λ_ _ _ _ _ _=>bd1 λ_=>rfl);exact Znc F j O u9 m6 t5 p4 t7 g_table_of g__law_wide J n6 m8 p7 g__law_rows r9
theorem walk {l:gA}{q:Program}{loose:List Str}{Y:TX->Heap->Prop}{M:World->Heap->Prop}{d:DefRec}{K:Params->aa}(hn:l.most=some 63)(J:d.params.defaults=[])
  (hY:∀(w:World) (h:Heap),M w h->(K w.params).In h)
  (F:∀(w:World) (j:TX) (O:Addr) (h:Heap),(K w.params).In h->h.Ns mainGlobals j->j d.name=some (.ref O)->
   ∃fd:FuncData,(∀(s:Shared) (u:Value),i0 s fd ⟨[u],[]⟩ [("_law_script",u)])/\∀base:Heap,(K w.params).In base->base.Ns mainGlobals j->Z8 l.prog w (K w.params) j base Yd 8 O fd ["_law_script"] (Zcz (K w.params))) :
  lK q loose Y M l.row.toRowW d [] (λf vs=>lG f vs):=
 L2.Za5 (n:=63) (k:=8) (x:="_law_script") (CX:=λ_=>Yd) (sp:=λw=>Zcz (K w.params)) hn (by decide) J ⟨rfl,by decide,by decide,rfl⟩ hY F (λ_ _ a ns hl _ hS=>⟨a,ns,rfl,hS,hl,λ_=>rfl⟩) λ_ _ _ _ _ z=>z
end C47
namespace PySem.W.Fast
theorem tw10623810850684284434:0=0:=rfl
theorem tw17547786109729911465:0=0:=rfl
theorem tw6932048231920007620:0=0:=rfl
theorem tw9238509982194257511:0=0:=rfl
theorem tw18004410186464470075:0=0:=rfl
theorem tw8888860382367400416:0=0:=rfl
theorem tw6698393852376921384:0=0:=rfl
theorem tw6050148200038282452:0=0:=rfl
theorem tw9279663751702230622:0=0:=rfl
theorem tw16655401250369302562:0=0:=rfl
theorem tw17514429004968169126:0=0:=rfl
theorem tw844580807111698941:0=0:=rfl
theorem tw14197939109699592473:0=0:=rfl
theorem tw13816476197380587041:0=0:=rfl
theorem tw14707824645368331466:0=0:=rfl
theorem tw792377323408348929:0=0:=rfl
theorem tw2179588604811811451:0=0:=rfl
theorem tw1786121181152838600:0=0:=rfl
theorem tw10231014125417732083:0=0:=rfl
theorem tw17000394924942345423:0=0:=rfl
theorem tw6629526508356971137:0=0:=rfl
theorem tw9958767907334060820:0=0:=rfl
theorem tw2668158456590723505:0=0:=rfl
theorem tw9223300499922404867:0=0:=rfl
theorem tw2808541615461633648:0=0:=rfl
theorem tw13626084693378984775:0=0:=rfl
theorem tw10695695415187437116:0=0:=rfl
theorem tw4723378980450549630:0=0:=rfl
theorem tw17689651824492003582:0=0:=rfl
theorem tw8383169665243707833:0=0:=rfl
theorem tw8920103014571011284:0=0:=rfl
theorem tw12783766217809953854:0=0:=rfl
theorem tw5811342836124132215:0=0:=rfl
theorem tw858838105094683989:0=0:=rfl
theorem tw14464164944055522193:0=0:=rfl
theorem tw15444641476903807294:0=0:=rfl
theorem tw7656344385286030218:0=0:=rfl
theorem tw5492222844952941355:0=0:=rfl
theorem tw15729731064731470901:0=0:=rfl
theorem tw11512139710853333185:0=0:=rfl
theorem tw7350400031370360659:0=0:=rfl
theorem tw8576659622668599633:0=0:=rfl
theorem tw8038693475870954531:0=0:=rfl
theorem tw12596726313768238056:0=0:=rfl
theorem tw6536333834862322926:0=0:=rfl
theorem tw12923253434567604174:0=0:=rfl
theorem tw15266083177958432702:0=0:=rfl
theorem tw10514368983876603469:0=0:=rfl
theorem tw14661016209026277628:0=0:=rfl
theorem tw5845401014027370288:0=0:=rfl
theorem tw542428149729826609:0=0:=rfl
theorem tw11570231661062345865:0=0:=rfl
theorem tw16348078441759808739:0=0:=rfl
theorem tw11490296237791799992:0=0:=rfl
theorem tw12385905144820996134:0=0:=rfl
theorem tw4806027205330706994:0=0:=rfl
theorem tw9440232795074734180:0=0:=rfl
theorem tw7068331533205765273:0=0:=rfl
theorem tw13149067963580457060:0=0:=rfl
theorem tw1709474650763674137:0=0:=rfl
theorem tw5230106329475525344:0=0:=rfl
theorem tw2008237481843280880:0=0:=rfl
theorem tw11228346987485172909:0=0:=rfl
theorem tw15410263842879956747:0=0:=rfl
theorem tw13496029079245543000:0=0:=rfl
theorem tw18102092711375206096:0=0:=rfl
theorem tw5586591585563521406:0=0:=rfl
theorem tw17122495130362492938:0=0:=rfl
theorem tw13626328631551175384:0=0:=rfl
theorem tw3556237197309768577:0=0:=rfl
theorem tw5821070493337871888:0=0:=rfl
theorem tw9163950788266137809:0=0:=rfl
theorem tw5088474541808547276:0=0:=rfl
theorem tw4713344060926642308:0=0:=rfl
theorem tw7077666180439596157:0=0:=rfl
theorem tw4970233099205681192:0=0:=rfl
theorem tw13684240901924086834:0=0:=rfl
theorem tw9475212085194136140:0=0:=rfl
theorem tw6466749557929786852:0=0:=rfl
theorem tw2463512485395620477:0=0:=rfl
theorem tw8765159778814418257:0=0:=rfl
theorem tw9554207367221181308:0=0:=rfl
theorem tw575416478497432673:0=0:=rfl
theorem tw9624056619072356820:0=0:=rfl
theorem tw10747420373873568182:0=0:=rfl
theorem tw10770417016407562406:0=0:=rfl
theorem tw7247585599925191664:0=0:=rfl
theorem tw614593440004571250:0=0:=rfl
theorem tw2500318639653940848:0=0:=rfl
theorem tw15510834778873754274:0=0:=rfl
theorem tw15612976017108635950:0=0:=rfl
theorem tw12885496382769294754:0=0:=rfl
theorem tw3699701093272906659:0=0:=rfl
theorem tw5037934843066116643:0=0:=rfl
theorem tw967934257802639240:0=0:=rfl
theorem tw3091486508517979646:0=0:=rfl
theorem tw10741181756074854018:0=0:=rfl
theorem tw5727955167057745540:0=0:=rfl
theorem tw325814853247815376:0=0:=rfl
theorem tw17483764723809325412:0=0:=rfl
theorem tw5422684417367005131:0=0:=rfl
theorem tw10095466042724640135:0=0:=rfl
theorem tw5516140419034565409:0=0:=rfl
theorem tw16781643127745908581:0=0:=rfl
theorem tw5690438926104717337:0=0:=rfl
theorem tw10341388463667075098:0=0:=rfl
theorem tw7067936733102799751:0=0:=rfl
theorem tw6668847705178704722:0=0:=rfl
theorem tw16279343489863024101:0=0:=rfl
theorem tw16387020031715653251:0=0:=rfl
theorem tw3620149904680943103:0=0:=rfl
theorem tw17605569645623552647:0=0:=rfl
theorem tw14507616203969519136:0=0:=rfl
theorem tw3501328166082005778:0=0:=rfl
theorem tw6380019568755032270:0=0:=rfl
theorem tw4686905597954817078:0=0:=rfl
theorem tw14244521593047023038:0=0:=rfl
theorem tw14278212481916614853:0=0:=rfl
theorem tw14167683008657909832:0=0:=rfl
theorem tw18179238064097342637:0=0:=rfl
theorem tw16292066241333735600:0=0:=rfl
theorem tw2695933382380175998:0=0:=rfl
theorem tw1461378253813969074:0=0:=rfl
theorem tw5394441736290192642:0=0:=rfl
theorem tw6148620351007234928:0=0:=rfl
theorem tw1993261249890430918:0=0:=rfl
theorem tw3453465662984192805:0=0:=rfl
theorem tw15547982364504898523:0=0:=rfl
theorem tw10053946622406784687:0=0:=rfl
theorem tw14729101096427796607:0=0:=rfl
theorem tw1363231140384395829:0=0:=rfl
theorem tw449732970298872441:0=0:=rfl
theorem tw4585406751255072561:0=0:=rfl
theorem tw18040344259418920610:0=0:=rfl
theorem tw6242720026315450606:0=0:=rfl
theorem tw11265094115012365489:0=0:=rfl
theorem tw3005550684654565296:0=0:=rfl
theorem tw4450456324883268415:0=0:=rfl
theorem tw8965860819237531096:0=0:=rfl
theorem tw11200557579918210455:0=0:=rfl
theorem tw251801689608928776:0=0:=rfl
theorem tw13043595811239518101:0=0:=rfl
theorem tw537005047407236287:0=0:=rfl
theorem tw4070913564285435438:0=0:=rfl
theorem tw9178417366724790039:0=0:=rfl
theorem tw12654841224659156185:0=0:=rfl
theorem tw18122321510137932761:0=0:=rfl
theorem tw16186858433773523202:0=0:=rfl
theorem tw7581607936475961168:0=0:=rfl
theorem tw6584488177353382683:0=0:=rfl
theorem tw4068361250267498448:0=0:=rfl
theorem tw13671779867017925746:0=0:=rfl
theorem tw16694728071268638268:0=0:=rfl
theorem tw6670538148675055555:0=0:=rfl
theorem tw11178902390741441094:0=0:=rfl
theorem tw12676186162757253987:0=0:=rfl
theorem tw17238154165018513387:0=0:=rfl
theorem tw9128563006054204981:0=0:=rfl
theorem tw12504684951401502147:0=0:=rfl
theorem tw7064385293598349289:0=0:=rfl
theorem tw760439173648283420:0=0:=rfl
theorem tw8340288329830913574:0=0:=rfl
theorem tw9692080498937624485:0=0:=rfl
theorem tw1860582343316750011:0=0:=rfl
theorem tw16489171876142267242:0=0:=rfl
theorem tw16115318960320987610:0=0:=rfl
theorem tw17051702542328094970:0=0:=rfl
theorem tw9051267153089631184:0=0:=rfl
theorem tw16871003827546222949:0=0:=rfl
theorem tw11466608212531773343:0=0:=rfl
theorem tw17639192157638799237:0=0:=rfl
theorem tw15959028674172357610:0=0:=rfl
theorem tw2680462442471639101:0=0:=rfl
theorem tw13663752621037385441:0=0:=rfl
theorem tw10440313007565606579:0=0:=rfl
theorem tw16048352053479364323:0=0:=rfl
theorem tw17374530013119210791:0=0:=rfl
theorem tw7800452189669131213:0=0:=rfl
theorem tw12632876285691924412:0=0:=rfl
theorem tw11129115576008261897:0=0:=rfl
theorem tw13821904035551461857:0=0:=rfl
theorem tw1119802588115705149:0=0:=rfl
theorem tw8863376449218733322:0=0:=rfl
theorem tw5912172907910841230:0=0:=rfl
theorem tw4527047990028828451:0=0:=rfl
theorem tw10404709299446814092:0=0:=rfl
theorem tw11707353175654112373:0=0:=rfl
theorem tw16911406393349452900:0=0:=rfl
theorem tw17291493765481629189:0=0:=rfl
theorem tw8378816000002115463:0=0:=rfl
theorem tw10888516443316670727:0=0:=rfl
theorem tw10946013629628514376:0=0:=rfl
theorem tw15620370954735271398:0=0:=rfl
theorem tw9277733375543000911:0=0:=rfl
theorem tw3275424772033578655:0=0:=rfl
theorem tw13004243960840399722:0=0:=rfl
theorem tw17490751352662600182:0=0:=rfl
theorem tw10654914790325624227:0=0:=rfl
theorem tw4390219379744066899:0=0:=rfl
theorem tw4799159242295585746:0=0:=rfl
theorem tw11432742582479519398:0=0:=rfl
theorem tw9218320248572971666:0=0:=rfl
theorem tw10857806331498852447:0=0:=rfl
theorem tw13297682529518598985:0=0:=rfl
theorem tw12329750856577180776:0=0:=rfl
theorem tw9562762669738375048:0=0:=rfl
theorem tw15291495384704297759:0=0:=rfl
theorem tw262013109293895703:0=0:=rfl
theorem tw11303721463052850063:0=0:=rfl
theorem tw12607174478642591673:0=0:=rfl
theorem tw11887162772403499335:0=0:=rfl
theorem tw1161808925249752356:0=0:=rfl
theorem tw6160197356755219023:0=0:=rfl
theorem tw9055915735315604529:0=0:=rfl
theorem tw8578782393460602636:0=0:=rfl
theorem tw651419417742846501:0=0:=rfl
theorem tw3013109854871456049:0=0:=rfl
theorem tw8391316909814331936:0=0:=rfl
theorem tw18334590759838993845:0=0:=rfl
theorem tw2727006616655045614:0=0:=rfl
theorem tw2322859183761065751:0=0:=rfl
theorem tw461663205034236589:0=0:=rfl
theorem tw12146669097586152775:0=0:=rfl
theorem tw6216354481766250415:0=0:=rfl
theorem tw8890256721466184580:0=0:=rfl
theorem tw7900803106078345957:0=0:=rfl
theorem tw15051871529361172728:0=0:=rfl
theorem tw10073113930458267851:0=0:=rfl
theorem tw5528612813563578125:0=0:=rfl
theorem tw8032663146785543364:0=0:=rfl
theorem tw11389929427436686204:0=0:=rfl
theorem tw10516163411670889705:0=0:=rfl
theorem tw12868418401820072758:0=0:=rfl
theorem tw10940205454887596588:0=0:=rfl
theorem tw14522057446486039750:0=0:=rfl
theorem tw7947225032058144628:0=0:=rfl
theorem tw15885380482820812930:0=0:=rfl
theorem tw6343462765302212885:0=0:=rfl
theorem tw12695617566036087073:0=0:=rfl
theorem tw7567319908212595006:0=0:=rfl
theorem tw9634148193911346595:0=0:=rfl
theorem tw9996389960169714668:0=0:=rfl
theorem tw11570450849748485950:0=0:=rfl
theorem tw15001150455543743219:0=0:=rfl
theorem tw2202136442636385177:0=0:=rfl
theorem tw7595547056436076077:0=0:=rfl
theorem tw9425574658026639445:0=0:=rfl
theorem tw3837414641334735855:0=0:=rfl
theorem tw4040027146039925199:0=0:=rfl
theorem tw1838567522462761525:0=0:=rfl
theorem tw14850439124628744937:0=0:=rfl
theorem tw2692911549976135192:0=0:=rfl
theorem tw11664236613208519902:0=0:=rfl
theorem tw865610912359017392:0=0:=rfl
theorem tw9237898429199667421:0=0:=rfl
theorem tw15071266883082218362:0=0:=rfl
theorem tw7486260629694337593:0=0:=rfl
theorem tw8275931176305722192:0=0:=rfl
theorem tw15045454043741904011:0=0:=rfl
end PySem.W.Fast
open PySem PySem.W PyProof.Rows
set_option maxRecDepth 100000 in
set_option maxHeartbeats 0 in
theorem PySem.Challenge.cw_classtab_k47_whole_upright_holds : PySem.Challenge.rw_classtab_k47_whole_upright.Holds := by
 w_on;o_law;k_head;(case hw=>w_witness2)
 k_fill
 refine C47.walk (l:=PySem.Challenge.rw_classtab_k47_whole_upright) rfl rfl (fun w h Y=>PySem.W.kIn_of Y) ?F
 case F=>
  intro w mg fa h KX G hmg
  refine' C47.all_mk KX G hmg (L2.ZB.mk ?_ ?_ ?_ ?_) (L2.ZB.mk ?_ ?_ ?_ ?_) (L2.ZB.mk ?_ ?_ ?_ ?_) (L2.ZB.mk ?_ ?_ ?_ ?_) (L2.ZB.mk ?_ ?_ ?_ ?_) (L2.ZB.mk ?_ ?_ ?_ ?_) (L2.ZB.mk ?_ ?_ ?_ ?_) (L2.ZB.mk ?_ ?_ ?_ ?_) (L2.ZB.mk ?_ ?_ ?_ ?_) (L2.ZB.mk ?_ ?_ ?_ ?_) (L2.ZB.mk ?_ ?_ ?_ ?_) (L2.ZB.mk ?_ ?_ ?_ ?_) (L2.ZB.mk ?_ ?_ ?_ ?_) (L2.ZB.mk ?_ ?_ ?_ ?_) (L2.ZB.mk ?_ ?_ ?_ ?_) (L2.ZB.mk ?_ ?_ ?_ ?_) (L2.ZB.mk ?_ ?_ ?_ ?_) (L2.ZB.mk ?_ ?_ ?_ ?_) (L2.ZB.mk ?_ ?_ ?_ ?_) (L2.ZB.mk ?_ ?_ ?_ ?_) (L2.ZB.mk ?_ ?_ ?_ ?_) (L2.ZB.mk ?_ ?_ ?_ ?_) (L2.ZB.mk ?_ ?_ ?_ ?_) (L2.ZB.mk ?_ ?_ ?_ ?_) (L2.ZB.mk ?_ ?_ ?_ ?_) (L2.ZB.mk ?_ ?_ ?_ ?_) (L2.ZB.mk ?_ ?_ ?_ ?_) (L2.ZB.mk ?_ ?_ ?_ ?_) (L2.ZB.mk ?_ ?_ ?_ ?_) (L2.ZB.mk ?_ ?_ ?_ ?_) (L2.ZB.mk ?_ ?_ ?_ ?_) (L2.ZB.mk ?_ ?_ ?_ ?_) (L2.ZB.mk ?_ ?_ ?_ ?_) (L2.ZB.mk ?_ ?_ ?_ ?_) (L2.ZB.mk ?_ ?_ ?_ ?_) (L2.ZB.mk ?_ ?_ ?_ ?_) (L2.ZB.mk ?_ ?_ ?_ ?_) (L2.ZB.mk ?_ ?_ ?_ ?_) (L2.ZB.mk ?_ ?_ ?_ ?_) (L2.ZB.mk ?_ ?_ ?_ ?_) (L2.ZB.mk ?_ ?_ ?_ ?_) (L2.ZB.mk ?_ ?_ ?_ ?_) (L2.ZB.mk ?_ ?_ ?_ ?_) (L2.ZB.mk ?_ ?_ ?_ ?_) (L2.ZB.mk ?_ ?_ ?_ ?_) (L2.ZB.mk ?_ ?_ ?_ ?_) ?_ ?_ ?_ ?_ ?_ ?_ ?_ ?_ ?_ ?_ ?_ ?_ ?_ ?_ ?_ ?_ ?_
  any_goals k_is
  all_goals kernel_rfl
