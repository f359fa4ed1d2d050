import PyProof.Rows.All
import Wide.All
import OpenK.AllK
import Wide.FinOn
import Lean
import PyProof.EqAt
import PyProof.EqKinds
import PyProof.TupleCall
import PyProof.DictWalks
import KE.KDictSum
import KE.KSortTup
import PyProof.EnumMake
import PyProof.EnumFor
import PyProof.TupleIter
import PyProof.Rows.Range3
import KE.LcSums
import PyProof.ZipIter
import KE.KTupSum
import PySem.Challenge.RW_classtab_k40_counts_by_tables
open List renaming getElem?_eq_some_iff->aa,range->ac,mem_range->ae,getElem?_eq_none->ag,getElem?_range->ak,getElem?_append_left->am,getElem?_append_right->aq,replicate->av,mem_cons_of_mem->ay,mem_cons_self->aB,contains_iff_mem->aC,mem_of_getElem?->aD,map_cons->aF,mem_cons->aG,mem_map->aI,all_eq_true->aN,mem_singleton->aS,map_append->aT,map_map->aU,mem_append_right->aV,ext_getElem?->aX,map_congr_left->a9,getElem_mem->bc,any_eq_true->bd,replicate_succ->bm,getElem?_zip_eq_some->bo,length_drop->bt,nodup_cons->bD,mem_append->bE,length_set->bK,Perm->bT,drop_eq_getElem_cons->bU,filterMap_cons->bV,mem_append_left->b8,length_take->b9,getElem?_of_mem->ce,flatten_cons->cg,length_zip->cC,length->cJ,take_add_one->cR,range_eq_range'->cS,range'->cT,take_length->c7,tail_cons->c8,range'_succ->c9,not_mem_nil->db,lookup_cons->de,range_succ->dF,length_replicate->dI,perm_ext_iff_of_nodup->dX,nodup_nil->dY,length_eraseIdx->dZ,length_dropLast->d0,nodup_range->eC,sum_cons->eS,find?_cons->eW,map_inj_right->eX,length_eq_zero_iff->eZ,getElem?_replicate->e7,map_nil->fh,drop_eq_nil_of_le->fj,drop_length->fv,any_cons->fC,any_map->fQ,take_zero->fY,getElem?_take->fZ,mem_of_find?_eq_some->gf,getElem?_eq_none_iff->gh,getElem?_set->gq,append_assoc->gt,pairwise_singleton->gL,take_of_length_le->gS,pairwise_lt_range->gU,mem_filter->g9,append_nil->hG,getElem?_toArray->ii,pairwise_append->ir,map_eq_cons_iff->iu,findIdx_getElem->iw,length_reverse->iH,mem_filterMap->iN,lookup_append->iO,getElem?_drop->iP,find?_eq_none->iQ,take_sublist->iY,pairwise_map->iZ,map->i0,findIdx_lt_length_of_exists->i3,eraseIdxIfInBounds_toArray->i7,of_mem_zip->jv,length_nil->jw,length_map->jx,forIn_cons->jy,find?_some->jA,any_append->jB,forIn_nil->jQ,drop_zero->jR,pairwise_iff_getElem->jW,find?_range_eq_some->kc,eraseIdx_cons_succ->kw,range_succ_eq_map->kB,getElem?_set_self->kC,getElem?_eraseIdx->kD,getElem?_dropLast->kF,findIdx_lt_length->kG,any_nil->kH,getElem?_reverse->ly,filterMap_append->lz,mem_erase_of_ne->lF,getElem?_set_ne->lG,filter_sublist->lU,pairwise_cons->l8,foldl->l9,reverse_cons->mB,nodup_append->mC,getElem?_inj->mD,foldl_append->mE,zipIdx_cons->mO,getElem_map->mP,ext_getElem->mQ,countP_cons->mR
open PySem.W renaming Frag->ab,mg_none_of->au,nsIn->bh,fnOf->cw,keepIn->dM,codeIn->eY,kas_rev->ff,OpenLaw->gv,cellsFrom_some->gH,methodObj->iI,KasT->jH,kas_sort->kh,WalkO->lO,kas_tail3->mh,mg_of->mI
open Bool renaming and_eq_true->af,false_ne_true->aJ,or_eq_true->bg,false_eq_true->dz,false_or->fF,and_true->fG,eq_iff_iff->fM,not_eq_true'->gu,or_false->gE,and_self->ke,eq_false_iff->mF
open Classical renaming byContradiction->ah
open PySem.PassesOwn renaming never->ao
open Option.some renaming inj->aw
open Nat renaming ne_of_lt->ax,lt_of_lt_of_le->aE,dvd_of_mod_eq_zero->aW,zero_le->aZ,le_trans->a6,ne_of_gt->bw,mod_eq_of_lt->bF,mod_lt->bW,lt_irrefl->cf,sub_self->cm,succ_mul->cy,lt_of_succ_lt_succ->cI,mul_le_mul_right->cV,lt_succ_self->dh,lt_of_le_of_ne->dB,add_sub_cancel->dC,not_lt_zero->dG,le_of_succ_le->dP,sub_zero->eF,le_of_lt->eG,le_add_right->eK,le_of_dvd->eV,zero_mul->fm,mul_comm->fo,lt_succ_of_lt->fq,mul_le_mul_left->fP,lt_or_ge->fV,mul_one->gB,le_succ->gC,succ_lt_succ->gN,zero_add->gY,add_zero->gZ,mod_add_mod->ig,mul_le_mul->iB,lt_trans->i6,succ_ne_zero->jm,le_of_not_lt->jo,mul_add->ju,min_le_left->jN,lt_of_mul_lt_mul_left->ka,mul_assoc->kq,add_lt_add_iff_right->ku,succ_pos->lq,mod_self->lr,min_self->lu,gcd->lx,log2_lt->lT,mod_eq_sub_mod->mz,lt_trichotomy->mL,add_mod_right->mM
open PySem.F renaming plainAttrs_list->aH,slot_list_append->aM,type_list_append->aO,called_set->cu,slot_tuple_iterator_next->eE,plain_list_iadd->eR,slot_enumerate_next->fH,slot_list_pop->fX,slot_tuple_index->gM,called_tuple->gX,slot_zip_next->iq,plain_proto_collect->je,plain_extend_loop->jt,type_tuple_index->jI,slot_dict_update->jK,plainAttrs_tuple->jL,args_tuple_iterator_next_1->jU,type_list_pop->j6,plain_set_new->j7,entry_tuple_iterator_next->j8,args_object_init_2->km,slot_list_extend->kZ,args_enumerate_next_1->lC,entry_enumerate_next->lP
open Int renaming natCast_mul->aK,natCast_emod->aY,mul_emod->bI,eq_ofNat_of_zero_le->bQ,emod_lt_of_pos->bZ,mul_assoc->ci,zero_mul->cn,mul_zero->cz,emod_nonneg->cD,add_zero->cK,mul_le_mul_of_nonneg_right->di,mul_comm->dD,zero_add->eO,emod_eq_of_lt->ft,emod_emod_of_dvd->fK,natCast_nonneg->f9,neg_mul->gD,sub_emod->ic,mul_one->iC,toNat_of_nonneg->iL,natAbs_natCast->iV,dvd_refl->i9,natCast_ediv->jp,one_mul->jC,mul_sub->jD,sub_zero->lA,sub_mul->lV,add_mul->lW
open Array renaming getElem?_eq_getElem->aP,getElem?_toList->bN,getElem?_eq_none->cF,getD_eq_getD_getElem?->cG,perm_iff_toList_perm->jO,toArray_toList->lB,size_extract->lX,getD->lY,toList_push->ma
open PySem renaming Spec->aQ,wpAny_callSpecial?_slot->bn,wpAny_call_entry->bx,mem_of_lookup->bB,wpAny_newObj_type->bH,wpAny_setField_rec->bM,wpAny_field->bP,wpAny_seqItems->cr,wpAny_mono->cB,codeAny_builtin->cH,wpAny_holding->cN,Scope->cQ,Builtin->cY,wpAny_setField->dA,wpAny_rule->dJ,IsPair->dN,wpAny_passesOwn->dQ,wpAny_attempt->dS,PyData->ed,wpAny_pyIter_enum->eh,NameKind->eP,plainId_quiet->fc,wpAny_pyIter_list->fw,codeAny_mono->fz,sizeLine_eq->fS,wpAny_pyIter_tuple->gF,call_meets->gG,IsEnum->gJ,wpAny_truthy_bool->gO,ItemsOf->gQ,IsRangeIter->gR,wpAny_isInstance->ik,wpAny_pyNext_range_end->ix,wpAny_pyIter_rangeiter->iy,wpAny_execs_nil->iE,IsZip->iF,wpAny_updateSeq_pair->iR,wpAny_fieldsOf->iS,BindsTo->iX,wpAny_standAt->ja,wpAny_onRaise->jb,wpAny_pyIter_range->jf,wpAny_load->jg,wpAny_Call_Name_kw->jh,tupleKind_room_in1->ji,wpAny_typeOf->jE,slot_list_getitem->jF,wpAny_askSetting->jT,wpAny_of_eq->jX,wpAny_letGo->jY,wpAny_ite_split->kf,codeAny_of_tree->kg,ofString_length->kx,wpAny_runValue->kI,wpAny_newTuple->kJ,wpAny_letOwnedTupleGo_enum->kK,isSubtype_type->kO,isSubtype_stop->kQ,Paired->kU,Operator->kW,Drawn->lc,wpAny_newList->lH,wpAny_getItem_list_slice->lI,wpAny_comprehension_free->lJ,evalPart_some->lK,evalPart_none->lL,call->lM,wpAny_Call_method_late->mf,wpAny_isTrue_Compare1->mG,builtinLookup_eq_fast->mH
open PySem.Value renaming ref->aR,none->bX,type->dk,isInt_shape->gb,int->io,bool->iJ,isInt->kS,str->mi
open PySem.PyData renaming int->a7,depthAll->ck,leavesShortAll->cp,leavesShort->cv,canLayAll0->cP,shown->dU,depth->dW,showableAll->eQ,canLay0->fO,hasDictAll->f8,eqv->gK,bulkAll->ie,tuple->iM,showable->jc,hasDict->mJ
open PySem.Builtin.SmallTypes renaming nextOf->a8,ownedTupleIsFree->bv,ownedTupleHandOut->cq
open PySem.Heap renaming SameBut->be,size_push->bu,get?_update_self->bC,get?_update_other->bS,ExtBut->ip,size_update->jd,get?_push_ne->mv
open PySem.Builtin.Range renaming rangeSize->bf,small->cx,rangeFitsLong->iG
open PyProof.Rows renaming callWith_type1->bq,IntsAre->bO,AllBare->iA,assignInOrder_cons->jj,get?_update_seq->ko,boot_range->lf,Subscript_->lh,firstMet_succ->lR,subscriptTail_builtinR->mw
open PySem.Obj renaming data_mapFields->bA,mapSeq->cM,isFreed_of_fields->cO,cls_mapFields->gw,mapFields->gI,putSet->iT
open PySem.Heap.SameBut renaming update->bG
open Ne renaming symm->bJ
open Option renaming map_some->bR,isSome_iff_exists->gc,isSome_map->lS,getD_none->l7
open PySem.Around renaming under_plainId->bY
open ForInStep renaming yield->cL
open PySem.Str renaming ofString->cU
open List.Perm renaming refl->cW,swap->i8,append_left->jS
open List.Pairwise renaming sublist->cZ,nil->fI,imp_of_mem->fJ,map->hU
open Nat.succ renaming inj->c6
open PySem.Builtin.List renaming listExtendWith->df,listTooLong->dO,listLengthHint->fu,listSameRef->iW
open PySem.NameKind renaming cell->dw,free->fk
open PyProof.Rows.F renaming plain_set_update_loop->dE,entry_set_update_loop->gA
open PySem.SetTable renaming grown->dH,below->lZ,slot->mj,fits->mo
open False renaming elim->dR
open PySem.Calls renaming callWith_builtin->fe,evalArgs_plain->im,Name_function_global->jM,call_function_entry->lD,spliced_cons->lQ,spliced_nil->l6
open PySem.SeqAt renaming shaped->fN,EqAt->kT,any_by_data->l5,items_eqAt->mq
open Sum renaming inl->fR,inr->i4
open PySem.Data renaming cell->fU,fields->gm
open True renaming intro->fW
open Std.Legacy renaming Range->iD
open PySem.Builtin.Tuple renaming tupleItemsOf->iK,tupleExact->iU
open PySem.SeqAt.EqAt renaming int_int->jq,str_int->jZ,int_str->j3
open PySem.Heap.IsSliceOf renaming new->jr
open PySem.pickOrder renaming go->jG
open PySem.Paired renaming length->jP
open PyProof renaming noPylong_small->jV
open PyProof.Rows.IsTup renaming new->j9
open PySem.IsRange renaming new->ki
open PySem.Shared renaming heap->kA
open PySem.Walks renaming range->kR,list->lN
open Prod renaming fst->lE
open PySem.Heap.IsTuple renaming typeIs->mK
set_option Elab.async false
set_option linter.all false
set_option maxRecDepth 100000
theorem Za {α j:Type _}{l:List α}{f:α->j}:(l.map f).length=l.length:=jx ..
theorem Zb {α:Type _}{l:List α}{i:Nat}{a:α}:l.getD i a=l[i]?.getD a:=List.getD_eq_getElem?_getD ..
theorem Zc {α j:Type _}{f:α->j}{l:List α}{i:Nat}:(l.map f)[i]?=l[i]?.map f:=List.getElem?_map ..
theorem Zd {α:Type _}{a b:List α}:(a++b).length=a.length+b.length:=List.length_append ..
theorem Ze {α:Type _}{n:Nat}{a:α}:(av n a).length=n:=dI ..
theorem Zf {α:Type _}{l:List α}{i:Nat}(h:i<l.length):l[i]?=some l[i]:=List.getElem?_eq_getElem h
theorem Zg {n:Nat}:(ac n).length=n:=List.length_range ..
theorem Zh {α:Type _}{l:List α}:l.toArray.size=l.length:=List.size_toArray ..
theorem Zi {α:Type _}{a:α}{l:List α}:(a::l).length=l.length+1:=List.length_cons ..
theorem Zj (n:Nat):(n:Int).toNat=n:=Int.toNat_natCast n
theorem Zk {α:Type _}{a:α}:[a].length=1:=List.length_singleton ..
noncomputable abbrev Zl:=@PySem.wpAny_bind
noncomputable abbrev Zm:=@PySem.wpAny_pure
noncomputable abbrev Zn:=@PySem.Heap.get?_push_of_some
noncomputable abbrev Zo:=@PySem.Heap.get?_push_size
noncomputable abbrev Zp:=@PySem.Heap.lt_size
noncomputable abbrev Zq:=@Nat.le_refl
noncomputable abbrev Zr.{u}:=@Array.length_toList.{u}
namespace L2
open PySem PySem.Spec PyProof.Rows
noncomputable abbrev Ym:=Sum Int Str
noncomputable def UW:Ym->Value->Bool
 | .inl k,v=>kS k v
 | .inr x,v=>Value.isStrOf x v
noncomputable def ZoL (w:World):Ym->Int
 | .inl k=>hashInt k
 | .inr x=>hashStr w x
theorem Yk:∀{k:Ym}{v:Value},UW k v=true->(∃i t,k=fR i/\v=io i t)\/(∃x t,k=i4 x/\v=mi x t)
 | .inl i,v,h=>by
  obtain⟨t,e⟩:=gb (k:=i) (v:=v) h;exact .inl ⟨i,t,rfl,e⟩
 | .inr x,v,h=>by
  obtain⟨t,e⟩:=Value.isStrOf_shape (x:=x) (v:=v) h;exact .inr ⟨x,t,rfl,e⟩
theorem Zfc (i:Int)(t:Tok):UW (.inl i) (.int i t)=true:=by simp[UW,kS]
theorem Zfb (x:Str)(t:Tok):UW (.inr x) (.str x t)=true:=by simp[UW,Value.isStrOf]
theorem Zly (a b:Int):decide ((fR a:Ym)=fR b)=(a == b):=by
 by_cases e:a=b
 ·subst e;simp
 ·have h:¬(fR a:Ym)=fR b:=fun q=>e (Sum.inl.inj q)
  rw[decide_eq_false h];exact (beq_eq_false_iff_ne.mpr e).symm
theorem Zlv (a b:Str):decide ((i4 a:Ym)=i4 b)=decide (a=b):=by
 by_cases e:a=b
 ·subst e;simp
 ·have h:¬(i4 a:Ym)=i4 b:=fun q=>e (Sum.inr.inj q)
  rw[decide_eq_false h,decide_eq_false e]
theorem Zlx (a:Int)(b:Str):decide ((fR a:Ym)=i4 b)=false:=decide_eq_false (fun q=>nomatch q)
theorem Zlw (a:Str)(b:Int):decide ((i4 a:Ym)=fR b)=false:=decide_eq_false (fun q=>nomatch q)
noncomputable def Yj (prog:Program)(w:World):PySem.KeyKind prog w Ym where
 is:=UW
 hash:=ZoL w
 inj:=fun v a b M hb=>by
  rcases Yk M with ⟨i,t,rfl,rfl⟩|⟨x,t,rfl,rfl⟩
  ·rcases Yk hb with ⟨j,u,rfl,e⟩|⟨y,u,rfl,e⟩
   ·injection e with q _;rw[q]
   ·exact nomatch e
  ·rcases Yk hb with ⟨j,u,rfl,e⟩|⟨y,u,rfl,e⟩
   ·exact nomatch e
   ·injection e with q _;rw[q]
 byValue:=fun k v h=>by
  rcases Yk h with ⟨i,t,rfl,rfl⟩|⟨x,t,rfl,rfl⟩ <;> rfl
 pyHash:=fun J h=>by
  rcases Yk J with ⟨i,t,rfl,rfl⟩|⟨x,t,rfl,rfl⟩
  ·exact wpAny_pyHash_int h
  ·exact wpAny_pyHash_str h
 eqBool:=fun O J h=>by
  rcases Yk O with ⟨i,t,rfl,rfl⟩|⟨x,t,rfl,rfl⟩
  ·rcases Yk J with ⟨j,u,rfl,rfl⟩|⟨y,u,rfl,rfl⟩
   ·rw[Zly] at h;exact wpAny_eqBool_int h
   ·rw[Zlx] at h;exact j3 i t y u _ _ _ _ h
  ·rcases Yk J with ⟨j,u,rfl,rfl⟩|⟨y,u,rfl,rfl⟩
   ·rw[Zlw] at h;exact jZ x t j u _ _ _ _ h
   ·rw[Zlv] at h;exact wpAny_eqBool_str h
 «strs»:=fun k x t v h=>by
  rcases Yk h with ⟨i,u,rfl,e⟩|⟨y,u,rfl,e⟩
  ·exact nomatch e
  ·injection e with q _
   subst q;cases v <;> rfl
theorem ZbZ (prog:Program)(w:World)(i:Int)(t:Tok):(Yj prog w).is (.inl i) (.int i t)=true:=Zfc i t
theorem ZbY (prog:Program)(w:World)(x:Str)(t:Tok):(Yj prog w).is (.inr x) (.str x t)=true:=Zfb x t
inductive V where
 |non|bl (b:Bool)|int (i:Int)|str (x:Str)|byt (b:Array UInt8)|flt (b:UInt64)|ref (a:Addr)|ty (n:String)
 deriving DecidableEq
noncomputable def RelV:V->Value->Prop
 | .non,u=>u=bX
 | .bl b,u=>u=iJ b
 | .int i,u=>∃t,u=io i t
 | .str x,u=>∃t,u=mi x t
 | .byt b,u=>∃t,u=Value.bytes b t
 | .flt b,u=>∃t,u=Value.float b t
 | .ref a,u=>u=aR a
 | .ty n,u=>u=dk n
noncomputable abbrev ZK:List V->List Value->Prop:=kU RelV
theorem ZK.length {xs:List V}{us:List Value}(r:ZK xs us):xs.length=us.length:=jP r
theorem ZK.get:∀{xs:List V}{us:List Value}{i:Nat}{x:V},ZK xs us->xs[i]?=some x->∃u,us[i]?=some u/\RelV x u
 |_,_,_,_,.nil,e=>by simp at e
 |_,_,0,_,.cons r _,e=>by simp at e;subst e;exact⟨_,rfl,r⟩
 |_,_,i+1,x,.cons _ t,e=>by
  obtain⟨u,j,q⟩:=ZK.get (i:=i) (x:=x) t (by simpa using e);exact⟨u,by simpa using j,q⟩
theorem ZK.set {x:V}{u:Value}(r:RelV x u):∀{xs:List V}{us:List Value} (i:Nat),ZK xs us->ZK (xs.set i x) (us.set i u)
 |_,_,_,.nil=>.nil
 |_,_,0,.cons _ t=>.cons r t
 |_,_,i+1,.cons q t=>.cons q (ZK.set r i t)
theorem ZK.append:∀{xs ys:List V}{us j:List Value},ZK xs us->ZK ys j->ZK (xs++ys) (us++j)
 |_,_,_,_,.nil,s=>s
 |_,_,_,_,.cons r t,s=>.cons r (ZK.append t s)
theorem ZK.take:∀{xs:List V}{us:List Value} (n:Nat),ZK xs us->ZK (xs.take n) (us.take n)
 |_,_,0,_=>.nil
 |_,_,_+1,.nil=>.nil
 |_,_,n+1,.cons r t=>.cons r (ZK.take n t)
theorem ZK.drop:∀{xs:List V}{us:List Value} (n:Nat),ZK xs us->ZK (xs.drop n) (us.drop n)
 |_,_,0,r=>r
 |_,_,_+1,.nil=>.nil
 |_,_,n+1,.cons _ t=>ZK.drop n t
noncomputable def UE:Option V->Option Value->Prop
 |some v,some u=>RelV v u
 |none,none=>True
 |_,_=>False
noncomputable def KV {j:Type}:List (j×V)->List (j×Value)->Prop:=kU fun (p:j×V) (q:j×Value)=>p.1=q.1/\RelV p.2 q.2
noncomputable def kV:Ym->V
 | .inl i=>.int i
 | .inr x=>.str x
inductive HO where
 |lst (xs:List V)
 |tup (xs:List V)
 |dK (kvs:List (Ym×V))|dT (kvs:List (List Ym×V))
 |set (S:Int->Bool) (n:Nat)
 |ins (C dx:Addr) (fs:List (Str×V))
 |own (x:Addr)
 |xd (fs:List (Str×V))
 |met (f x:Addr)
 |rng (lo hi:Int)
 |frz (o:Obj) (u:HO)
 |tbl (ps:Array Value)
 |ext (φ:Heap->Prop)
noncomputable abbrev Hp:=Addr->Option HO
noncomputable def upd (H:Hp)(a:Addr)(o:HO):Hp:=fun b=>if b=a then some o else H b
theorem Zt {H:Hp}{a:Addr}{o:HO}:upd H a o a=some o:=by unfold upd;rw[if_pos rfl]
theorem Zx {H:Hp}{a b:Addr}{o:HO}(h:b≠a):upd H a o b=H b:=by unfold upd;rw[if_neg h]
theorem Zif {H:Hp}{a:Addr}{o u:HO}:upd (upd H a o) a u=upd H a u:=by
 funext b;unfold upd;split <;> rfl
theorem Zg7 {H:Hp}{a b:Addr}{o u:HO}(h:H a=some o)(h':H b=some u)(d:o≠u):a≠b:=by
 intro e;subst e;rw[h] at h';exact d (aw h')
theorem Z4 {H:Hp}{a b:Addr}{o:HO}(h:H a=some o)(h':H b=none):a≠b:=by
 intro e;subst e;rw[h] at h';cases h'
section
variable (P:Program)(w:World)
noncomputable def Yx (H:Hp)(h:Heap)(a:Addr):HO->Prop
 | .lst M=>M.length<=sizeLine/\∃(j:List Value) (n:Nat),ZK M j/\h.get? a=some {cls:=.type "list",data:=.seq j.toArray n}
 | .tup M=>M.length<=sizeLine/\∃j:List Value,ZK M j/\IsTup h a j.toArray
 | .dK J=>J.length<=sizeLine/\(a == sysModules)=false/\∃vs,KV J vs/\h.DictOf (Yj P w) a vs
 | .dT J=>J.length<=sizeLine/\(a == sysModules)=false/\∃M:List (List Ym×Addr×Value),
   kU (fun (p:List Ym×V) (q:List Ym×Addr×Value)=>p.1=q.1/\H q.2.1=some (.tup (p.1.map kV))/\RelV p.2 q.2.2) J M/\
   ∃o es ep,h.get? a=some o/\o.ExactDict/\o.data=.dict es ep/\es.toList=M.map (entryOfKey (tupleKind (Yj P w)))/\(M.map (·.1)).Nodup
 | .set S n=>h.SetOf (intKind P w) a S n
 | .ins C U fs=>H U=some (.own a)/\fs.length<=1000/\U≠a/\h.get? a=some (PySem.W.instObj C U)/\
   ∃O,h.Ns1 U O/\(∀f,UE (fs.lookup f) (O f))/\PySem.Within O (fs.map (·.1))
 | .own _=>∃o,h.get? a=some o
 | .xd fs=>∃O,h.Ns1 a O/\∀f,UE (fs.lookup f) (O f)
 | .rng lo hi=>∃t u v,h.get? a=some {cls:=.type "range",data:=.fields #[.int lo t,.int hi u,.int 1 v]}
 | .frz o u=>h.get? a=some o/\Yx H h a u
 | .tbl ps=>h.get? a=some {cls:=.none,data:=.fields ps}
 | .met f x=>h.get? a=some (iI (.ref f) (.ref x))
 | .ext Y=>Y h/\(∃o,h.get? a=some o)/\∀h1 h2:Heap,Y h1->(∀o,h1.get? a=some o->h2.get? a=some o)->Y h2
noncomputable def XF (H:Hp)(h:Heap):Prop:=∀a o,H a=some o->Yx P w H h a o
end
section
variable {P:Program}{w:World}{H H':Hp}{h h':Heap}{a:Addr}{o:HO}
theorem Yx.lt (x:Yx P w H h a o):a<h.objs.size:=by
 cases o with
 |lst q=>obtain⟨_,_,_,_,e⟩:=x;exact Zp e
 |tup q=>obtain⟨_,_,_,p⟩:=x;exact p.lt
 |dK j=>obtain⟨_,_,_,_,o,_,_,e,_⟩:=x;exact Zp e
 |dT j=>obtain⟨_,_,_,_,o,_,_,e,_⟩:=x;exact Zp e
 |set S n=>obtain⟨o,_,_,_,e,_⟩:=x;exact Zp e
 |ins C J fs=>obtain⟨_,_,_,e,_⟩:=x;exact Zp e
 |own y=>obtain⟨_,e⟩:=x;exact Zp e
 |xd fs=>obtain⟨_,⟨_,_,_,e,_⟩,_⟩:=x;exact Zp e
 |rng lo M=>obtain⟨_,_,_,e⟩:=x;exact Zp e
 |frz O u=>obtain⟨e,_⟩:=x;exact Zp e
 |tbl U=>exact Zp (show h.get? a=some _ from x)
 |met f y=>exact Zp (show h.get? a=some _ from x)
 |ext Y=>obtain⟨_,⟨_,e⟩,_⟩:=x;exact Zp e
theorem kU.mapP {α J:Type}{F G:α->J->Prop}:∀{j:List α}{q:List J},kU F j q->(∀a b,F a b->G a b)->kU G j q
 |_,_,.nil,_=>.nil
 |_,_,.cons r t,f=>.cons (f _ _ r) (kU.mapP t f)
theorem Yx.stay (x:Yx P w H h a o)(k:∀b u,(b=a\/H b=some (.own a))->h.get? b=some u->h'.get? b=some u)
  (ho:∀b,H b=some (.own a)->H' b=some (.own a)) (ht:∀b xs,H b=some (.tup xs)->H' b=some (.tup xs)):Yx P w H' h' a o:=by
 induction o with
 |lst xs=>obtain⟨z,O,n,r,e⟩:=x;exact⟨z,O,n,r,k _ _ (.inl rfl) e⟩
 |tup xs=>obtain⟨z,O,r,j,e,c⟩:=x;exact⟨z,O,r,j,k _ _ (.inl rfl) e,c⟩
 |dK U=>obtain⟨z,y,vs,r,j,J,M,e,c⟩:=x;exact⟨z,y,vs,r,j,J,M,k _ _ (.inl rfl) e,c⟩
 |dT U=>
  obtain⟨z,y,xs,r,j,J,M,e,c⟩:=x;exact⟨z,y,xs,kU.mapP r fun p q z=>⟨z.1,ht _ _ z.2.1,z.2.2⟩,j,J,M,k _ _ (.inl rfl) e,c⟩
 |set S n=>obtain⟨j,J,M,t,e,c⟩:=x;exact⟨j,J,M,t,k _ _ (.inl rfl) e,c⟩
 |ins C dx fs=>
  obtain⟨d,z,ne,e,Y,⟨od,J,M,e2,c⟩,r⟩:=x;exact⟨ho _ d,z,ne,k _ _ (.inl rfl) e,Y,⟨od,J,M,k _ _ (.inr d) e2,c⟩,r⟩
 |own y=>obtain⟨j,e⟩:=x;exact⟨j,k _ _ (.inl rfl) e⟩
 |xd fs=>obtain⟨Y,⟨od,J,M,e,c⟩,r⟩:=x;exact⟨Y,⟨od,J,M,k _ _ (.inl rfl) e,c⟩,r⟩
 |rng lo hi=>obtain⟨t,u,v,e⟩:=x;exact⟨t,u,v,k _ _ (.inl rfl) e⟩
 |frz j u ih=>obtain⟨e,q⟩:=x;exact⟨k _ _ (.inl rfl) e,ih q⟩
 |tbl ps=>
  have e:h.get? a=some {cls:=.none,data:=.fields ps}:=x;show h'.get? a=some {cls:=.none,data:=.fields ps};exact k a _ (.inl rfl) e
 |met f y=>
  have e:h.get? a=some (iI (.ref f) (.ref y)):=x;show h'.get? a=some (iI (.ref f) (.ref y));exact k a _ (.inl rfl) e
 |ext φ=>obtain⟨p,⟨o,e⟩,st⟩:=x;exact⟨st _ _ p fun o q=>k _ _ (.inl rfl) q,⟨o,k _ _ (.inl rfl) e⟩,st⟩
theorem XF.lt (x:XF P w H h)(e:H a=some o):a<h.objs.size:=(x a o e).lt
theorem XF.fresh (x:XF P w H h)(e:h.objs.size<=a):H a=none:=by
 cases q:H a with
 |none=>rfl
 |some u=>exact absurd (aE (x.lt q) e) (cf _)
theorem XF.kept (x:XF P w H h)(k:∀b u,h.get? b=some u->h'.get? b=some u):XF P w H h':=fun a o e=>
 (x a o e).stay (fun b u _ q=>k b u q) (fun _ q=>q) fun _ _ q=>q
theorem XF.laid (x:XF P w H h)(k:∀b u,h.get? b=some u->h'.get? b=some u)(M:h.objs.size<=a)(j:Yx P w (upd H a o) h' a o):XF P w (upd H a o) h':=fun b u e=>by
 have J:=x.fresh M;by_cases hb:b=a
 ·subst hb;rw[Zt] at e;cases e;exact j
 ·rw[Zx hb] at e
  exact (x b u e).stay (fun c v _ q=>k c v q) (fun c q=>by rw[Zx (Z4 q J)];exact q) fun c O q=>by rw[Zx (Z4 q J)];exact q
end
noncomputable def Rd (H:Hp)(a:Addr)(u:HO):Prop:=H a=some u\/∃o,H a=some (.frz o u)
theorem Rd.ok {P:Program}{w:World}{H:Hp}{h:Heap}{a:Addr}{u:HO}(r:Rd H a u)(x:XF P w H h):Yx P w H h a u:=by
 rcases r with r|⟨o,r⟩
 ·exact x a u r
 ·obtain⟨_,q⟩:=x a _ r
  exact q
noncomputable def Mut:Option HO->Prop
 |some (.lst _)=>True
 |some (.dK _)=>True
 |some (.dT _)=>True
 |some (.set _ _)=>True
 |some (.ins _ _ _)=>True
 |some (.ext _)=>True
 |_=>False
section
variable {P:Program}{w:World}{H:Hp}{h h':Heap}{x e:Addr}{o':HO}
theorem XF.write (ok:XF P w H h)(O:Mut (H x))(he:e=x\/H e=some (.own x))(k:∀b u,b≠e->h.get? b=some u->h'.get? b=some u)(m8:∃u,h'.get? e=some u)
  (m9:Yx P w (upd H x o') h' x o'):XF P w (upd H x o') h':=fun b u q=>by
 have J:∀c y,H c=some (.own y)->c≠x:=fun c y r z=>by subst z;rw[r] at O;exact O
 have M:∀c U,H c=some (.tup U)->c≠x:=fun c U r z=>by subst z;rw[r] at O;exact O
 by_cases hb:b=x
 ·subst hb;rw[Zt] at q;cases q;exact m9
 ·rw[Zx hb] at q
  by_cases j:b=e
  ·have q':H b=some (.own x):=by
    rcases he with z|z
    ·exact absurd (j.trans z) hb
    ·rw[j];exact z
   rw[q] at q';cases q';obtain⟨v,hv⟩:=m8;exact⟨v,by rw[j];exact hv⟩
  ·refine (ok b u q).stay (fun c v Y r=>k c v ?_ r) (fun c r=>by rw[Zx (J c b r)];exact r) fun c U r=>by rw[Zx (M c U r)];exact r
   rcases Y with rfl|Y
   ·exact j
   ·rintro rfl
    rcases he with z|z
    ·exact J c b Y z
    ·rw[Y] at z;cases z;exact hb rfl
end
structure Un (fs ex:List Addr)(H H':Hp)(h h':Heap):Prop where
 keep:∀b o,h.get? b=some o->H b=none->b∉fs->b∉ex->h'.get? b=some o
 slot:∀b o,h.get? b=some o->H b=none->b∈fs->b∉ex->∃sl,h'.get? b=some {o with slots:=sl}
 free:∀b o,h.get? b=some o->H b=none->b∉ex->H' b=none
 there:∀b o,h.get? b=some o->b∉ex->∃o',h'.get? b=some o'
 tups:∀b xs,H b=some (.tup xs)->H' b=some (.tup xs)
 frzs:∀b o u,H b=some (.frz o u)->H' b=some (.frz o u)
 tbls:∀b ps,H b=some (.tbl ps)->∃more,H' b=some (.tbl (ps++more))
section
variable {fs fs' ex ex':List Addr}{H H1 H2:Hp}{h h1 h2 h':Heap}{a x e:Addr}{o:HO}
theorem Un.any (u:Un fs ex H H1 h h1){b:Addr}{j:Obj}(q:h.get? b=some j)(n:H b=none)(J:b∉ex):∃M,h1.get? b=some {j with slots:=M}:=by
 by_cases hb:b∈fs
 ·exact u.slot b j q n hb J
 ·exact⟨j.slots,u.keep b j q n hb J⟩
theorem Un.kept (k:∀b u,h.get? b=some u->h'.get? b=some u):Un fs ex H H h h':=
 ⟨fun b j q _ _ _=>k b j q,fun b j q _ _ _=>⟨j.slots,k b j q⟩,fun _ _ _ n _=>n,fun b j q _=>⟨j,k b j q⟩,fun _ _ q=>q,fun _ _ _ q=>q,fun _ J q=>⟨#[],by rw[q];simp⟩⟩
theorem Un.refl:Un fs ex H H h h:=Un.kept fun _ _ q=>q
theorem Un.laid (k:∀b u,h.get? b=some u->h'.get? b=some u)(J:h.objs.size<=a)(j:H a=none):Un fs ex H (upd H a o) h h' where
 keep:=fun b u q _ _ _=>k b u q
 slot:=fun b u q _ _ _=>⟨u.slots,k b u q⟩
 free:=fun b u q n _=>by rw[Zx (ax (aE (Zp q) J))];exact n
 there:=fun b u q _=>⟨u,k b u q⟩
 tups:=fun b M q=>by rw[Zx (Z4 q j)];exact q
 frzs:=fun b u M q=>by rw[Zx (Z4 q j)];exact q
 tbls:=fun b O q=>⟨#[],by rw[Zx (Z4 q j),q];simp⟩
theorem Un.write (J:Mut (H x))(Y:e=x\/H e=some (.own x))(k:∀b u,b≠e->h.get? b=some u->h'.get? b=some u)(M:∃u,h'.get? e=some u):Un fs ex H (upd H x o) h h':=by
 have U:∀b,H b=none->b≠x:=fun b n z=>by subst z;rw[n] at J;exact J
 have hb:∀b,H b=none->b≠e:=fun b n z=>by
  subst z;rcases Y with r|r
  ·exact U b n r
  ·rw[n] at r;cases r
 have O:∀b u,H b=some u->¬Mut (some u)->b≠x:=fun b u q nm z=>by subst z;rw[q] at J;exact nm J
 refine⟨fun b u q n _ _=>k b u (hb b n) q,fun b u q n _ _=>⟨u.slots,k b u (hb b n) q⟩,fun b u q n _=>by rw[Zx (U b n)];exact n,fun b u q _=>?_,
  fun b xs q=>by rw[Zx (O b _ q fun z=>z)];exact q,fun b u xs q=>by rw[Zx (O b _ q fun z=>z)];exact q,fun b ps q=>⟨#[],by rw[Zx (O b _ q fun z=>z),q];simp⟩⟩
 by_cases j:b=e
 ·subst j;exact M
 ·exact⟨u,k b u j q⟩
end
noncomputable def trk (h:Heap)(H:Hp):List Addr:=(ac h.objs.size).filter fun a=>(H a).isSome
noncomputable def ZaR (h:Heap)(H:Hp):Heap:=PySem.W.hideAll h (trk h H)
theorem Zff (h:Heap)(H:Hp):(ZaR h H).objs.size=h.objs.size:=PySem.W.hideAll_size _ _
theorem Zhu {h:Heap}{H:Hp}{b:Addr}{o:Obj}(e:h.get? b=some o)(n:H b=none):(ZaR h H).get? b=some o:=
 PySem.W.hideAll_get _ e fun j=>by
  have q:(H b).isSome=true:=(g9.mp j).2;rw[n] at q;simp at q
theorem Zi5 {h:Heap}{H:Hp}{b:Addr}{o:Obj}(e:(ZaR h H).get? b=some o):h.get? b=some o/\H b=none:=by
 have j:h.get? b=some o:=PySem.W.of_hideAll (trk h H) e;refine⟨j,?_⟩;cases q:H b with
 |none=>rfl
 |some x=>
  have J:b∈trk h H:=g9.mpr ⟨ae.mpr (Zp j),by simp[q]⟩;have z:(ZaR h H).get? b=none:=PySem.W.hideAll_none (trk h H) J;rw[z] at e;cases e
structure Mod (K:ab)(mg:Str->Option Value)(base:Heap):Prop where
 kin:K.In base
 glob:base.Ns mainGlobals mg
 blt:∃mb,base.Ns builtinsNs mb/\∀x:Str,x ≠ "__name__"->mb x=bootBuiltins x
 nolimit:base.NoLimit
structure Cx where
 prog:Program
 w:World
 K:ab
 mg:Str->Option Value
 base:Heap
 A:Around
 N:List Str
 s₀:Shared
 H₀:Hp
 env:Env
 outer:List Env
 stack:List Env
 ex:List Addr
 fn:Str->Bool
 calm:Bool
 pn:List (Addr×Obj)
 xe:Value->Shared->Prop
noncomputable def frs (l:List Env):List Addr:=l.filterMap (·.frame)
noncomputable abbrev Cx.fs (X:Cx):List Addr:=frs X.outer
noncomputable def Vis (j:cQ)(x:Str):Prop:=j.names.lookup x=some .local\/j.names.lookup x=some .cell\/j.names.lookup x=some .free
noncomputable def Loc (j:cQ)(x:Str):Prop:=j.names.lookup x=some .local\/j.names.lookup x=some .cell
noncomputable def Look (env:Env)(h:Heap)(m:Str->Option Value)(x:Str)(u:Value):Prop:=
 (env.kindOf x=some .local/\m x=some u)\/((env.kindOf x=some .cell\/env.kindOf x=some .free)/\∃c,env.cells.lookup x=some c/\h.IsCell c (some u))
structure Cx.Ok (X:Cx):Prop where
 mod:Mod X.K X.mg X.base
 kind:X.env.scope.kind=.function
 glob:X.env.globals=mainGlobals
 blt:X.env.builtins=builtinsNs
 above:X.s₀.heap.objs.size<=X.env.locals
 inj:∀x y c,X.env.cells.lookup x=some c->X.env.cells.lookup y=some c->x=y
 has:∀x,(X.env.kindOf x=some .cell\/X.env.kindOf x=some .free)->∃c,X.env.cells.lookup x=some c
 cab:∀x c,X.fn x=true->X.env.cells.lookup x=some c->X.s₀.heap.objs.size<=c
 hd:X.calm=true->X.A.handled=none
 frames:X.A.frames=some X.stack
 stk:X.stack=X.outer\/(X.stack=X.env::X.outer/\X.env.frame=some X.env.locals)
 exf:∀b∈X.ex,b≠X.env.locals/\∀x c,X.env.cells.lookup x=some c->c≠b
 bs:∀b o,X.base.get? b=some o->X.s₀.heap.get? b=some o/\X.H₀ b=none
 bsz:X.base.objs.size<=X.s₀.heap.objs.size
 noex:∀b o,X.base.get? b=some o->b∉X.ex
 exfs:∀b∈X.ex,b∉X.fs
 funs:X.s₀.heap.FunFrames X.base X.outer
 frf:∀b∈X.fs,X.H₀ b=none
structure Inv (X:Cx)(pins:List (Addr×Obj))(σ:List (Option V))(H:Hp)(s:Shared):Prop where
 ok:X.Ok
 os:s.os=X.s₀.os
 bare:iA s.gens
 base:Un X.fs X.ex X.H₀ H X.s₀.heap s.heap
 loc:∃m,s.heap.Ns X.env.locals m/\∀(i:Nat) (x:Str) (v:V),X.N[i]?=some x->σ[i]?=some (some v)->Vis X.env.scope x->∃u,RelV v u/\Look X.env s.heap m x u
 cell:∀x c,X.env.cells.lookup x=some c->∃v,s.heap.IsCell c v
 free:H X.env.locals=none
 freeC:∀x c,X.env.cells.lookup x=some c->H c=none
 pin:∀p∈X.pn++pins,s.heap.get? p.1=some p.2/\H p.1=none/\p.1≠X.env.locals/\p.1∉X.fs/\∀v,p.2.data≠.cell v
 hok:XF X.prog X.w H s.heap
 len:σ.length=X.N.length
section
variable {X:Cx}{pins:List (Addr×Obj)}{σ:List (Option V)}{H H':Hp}{s:Shared}{h':Heap}
theorem Cx.Ok.nofr (ok:X.Ok){b:Addr}{o:Obj}(e:X.base.get? b=some o):b∉X.fs:=fun hb=>by
 have:=(ok.funs.mem hb).1;rw[e] at this;cases this
theorem Inv.bs (I:Inv X pins σ H s):∀b o,X.base.get? b=some o->s.heap.get? b=some o/\H b=none:=fun b o e=>
 ⟨I.base.keep b o (I.ok.bs b o e).1 (I.ok.bs b o e).2 (I.ok.nofr e) (I.ok.noex b o e),I.base.free b o (I.ok.bs b o e).1 (I.ok.bs b o e).2 (I.ok.noex b o e)⟩
theorem Inv.bk (I:Inv X pins σ H s):∀b o,X.base.get? b=some o->s.heap.get? b=some o:=fun b o e=>(I.bs b o e).1
theorem Inv.mod (I:Inv X pins σ H s):Mod X.K X.mg X.base:=I.ok.mod
theorem Inv.kIn (I:Inv X pins σ H s):X.K.In s.heap:=I.ok.mod.kin.keeps I.bk
theorem Inv.lt (I:Inv X pins σ H s):X.env.locals<s.heap.objs.size:=let ⟨_,j,_⟩:=I.loc;j.lt
theorem Inv.sz (I:Inv X pins σ H s):X.s₀.heap.objs.size<=s.heap.objs.size:=a6 I.ok.above (eG I.lt)
theorem Inv.nofs (I:Inv X pins σ H s){a:Addr}(h:s.heap.objs.size<=a):a∉X.fs:=fun hb=>by
 obtain⟨_,o,j,_⟩:=I.ok.funs.mem hb;exact absurd (aE (Zp j) (a6 I.sz h)) (cf _)
theorem Inv.cne (I:Inv X pins σ H s):∀x c,X.env.cells.lookup x=some c->c≠X.env.locals:=fun x c e z=>by
 obtain⟨v,o,J,hd⟩:=I.cell x c e;obtain⟨m,⟨M,O,U,j,q,_⟩,_⟩:=I.loc;rw[z,j] at J;cases J;rw[q] at hd;cases hd
theorem Inv.funs (I:Inv X pins σ H s):s.heap.FunFrames X.base X.outer:=by
 have all:∀(l:List Env),(∀b∈frs l,b∈X.fs)->X.s₀.heap.FunFrames X.base l->s.heap.FunFrames X.base l:=by
  intro l;induction l with
  |nil=>intro _ _;trivial
  |cons env r J=>
   intro q M;obtain⟨O,⟨L,o,hf,U,Y,hd⟩,hr⟩:=M;have j:L∈X.fs:=q L (by unfold frs;rw[bV,hf];exact aB);obtain⟨sl,e⟩:=I.base.slot L o Y (I.ok.frf L j) j fun z=>I.ok.exfs L z j;exact⟨O,⟨L,_,hf,U,e,hd⟩,J (fun b hb=>q b (by unfold frs;rw[bV,hf];exact ay _ hb)) hr⟩
 exact all X.outer (fun _ hb=>hb) I.ok.funs
theorem Inv.stack (I:Inv X pins σ H s):s.heap.FunFrames X.base X.stack:=by
 rcases I.ok.stk with e|⟨e,hf⟩
 ·rw[e];exact I.funs
 ·rw[e]
  obtain⟨m,j,_⟩:=I.loc;refine .cons (by rw[I.ok.kind];decide) hf j ?_ I.funs;exact Heap.get?_none_of_le (a6 I.ok.bsz I.ok.above)
theorem Inv.stkSub (I:Inv X pins σ H s):∀b∈frs X.stack,b∈X.env.locals::X.fs:=fun b hb=>by
 rcases I.ok.stk with e|⟨e,hf⟩
 ·rw[e] at hb;exact ay _ hb
 ·rw[e] at hb
  unfold frs at hb;rw[bV,hf] at hb;exact hb
theorem Inv.stkFree (I:Inv X pins σ H s):∀b∈frs X.stack,H b=none:=fun b hb=>by
 rcases aG.mp (I.stkSub b hb) with e|hb
 ·rw[e];exact I.free
 ·obtain⟨_,o,j,_⟩:=I.ok.funs.mem hb
  exact I.base.free b o j (I.ok.frf b hb) fun z=>I.ok.exfs b z hb
theorem Inv.step {g':Array GenState}{t':Nat}{d':lc}{ch:List Addr}(I:Inv X pins σ H s)
  (J:∀b∈ch,(b∈X.ex\/X.s₀.heap.objs.size<=b)/\b≠X.env.locals/\(∀x c,X.env.cells.lookup x=some c->c≠b)/\∀p∈X.pn++pins,p.1≠b)
  (keep:∀b o,b≠X.env.locals->b∉X.fs->b∉ch->s.heap.get? b=some o->H b=none->h'.get? b=some o)
  (slot:∀b o,b≠X.env.locals->b∈X.fs->b∉ch->s.heap.get? b=some o->H b=none->∃sl,h'.get? b=some {o with slots:=sl}) (free:∀b o,b∉ch->s.heap.get? b=some o->H b=none->H' b=none)
  (there:∀b o,b∉ch->s.heap.get? b=some o->∃o',h'.get? b=some o')
  (m8:∀b xs,H b=some (.tup xs)->H' b=some (.tup xs)) (m9:∀b o u,H b=some (.frz o u)->H' b=some (.frz o u)) (n4:∀b ps,H b=some (.tbl ps)->∃n6,H' b=some (.tbl (ps++n6)))
  (ns:∀m,s.heap.Ns X.env.locals m->h'.Ns X.env.locals m) (hok:XF X.prog X.w H' h') (hg:iA g') :
  Inv X pins σ H' {s with heap:=h',gens:=g',drawn:=d',toks:=t'}:=by
 have n8:∀b o,X.s₀.heap.get? b=some o->b≠X.env.locals:=fun b o e=>ax (aE (Zp e) I.ok.above);have neC:∀b o,X.s₀.heap.get? b=some o->b∉X.ex->b∉ch:=fun b o e j hb=>by
  rcases (J b hb).1 with z|z
  ·exact j z
  ·exact absurd (aE (Zp e) z) (cf _)
 have M:∀x c,X.env.cells.lookup x=some c->∀v,s.heap.IsCell c v->h'.IsCell c v:=fun x c e v ⟨o,Y,hd⟩=>by
  have O:c∉ch:=fun z=>(J c z).2.2.1 x c e rfl;by_cases hc:c∈X.fs
  ·obtain⟨sl,q⟩:=slot c o (I.cne x c e) hc O Y (I.freeC x c e)
   exact⟨_,q,hd⟩
  ·exact⟨o,keep c o (I.cne x c e) hc O Y (I.freeC x c e),hd⟩
 refine⟨I.ok,I.os,hg,⟨fun b o e n hb j=>?_,fun b o e n hb j=>?_,fun b o e n j=>?_,fun b o e j=>?_,fun b xs e=>m8 b xs (I.base.tups b xs e),fun b o xs e=>m9 b o xs (I.base.frzs b o xs e),fun b ps e=>?_⟩,?_,fun x c e=>?_,?_,fun x c e=>?_,fun p hp=>?_,hok,I.len⟩
 ·exact keep b o (n8 b o e) hb (neC b o e j) (I.base.keep b o e n hb j) (I.base.free b o e n j)
 ·obtain⟨sl,U⟩:=I.base.slot b o e n hb j
  obtain⟨n9,e2⟩:=slot b _ (n8 b o e) hb (neC b o e j) U (I.base.free b o e n j);exact⟨n9,e2⟩
 ·obtain⟨o',U⟩:=I.base.there b o e j
  exact free b o' (neC b o e j) U (I.base.free b o e n j)
 ·obtain⟨o',U⟩:=I.base.there b o e j
  exact there b o' (neC b o e j) U
 ·obtain⟨m1,U⟩:=I.base.tbls b ps e
  obtain⟨m2,e2⟩:=n4 b _ U;exact⟨m1++m2,by rw[e2,Array.append_assoc]⟩
 ·obtain⟨m,hn,hl⟩:=I.loc
  refine⟨m,ns m hn,fun i x v U e2 e3=>?_⟩;obtain⟨u,r,l⟩:=hl i x v U e2 e3;refine⟨u,r,?_⟩;rcases l with l|⟨k,c,e,z⟩
  ·exact .inl l
  ·exact .inr ⟨k,c,e,M x c e _ z⟩
 ·obtain⟨v,z⟩:=I.cell x c e
  exact⟨v,M x c e v z⟩
 ·obtain⟨m,⟨o,_,_,Y,_⟩,_⟩:=I.loc
  exact free _ o (fun z=>(J _ z).2.1 rfl) Y I.free
 ·obtain⟨v,o,Y,hd⟩:=I.cell x c e
  exact free c o (fun z=>(J c z).2.2.1 x c e rfl) Y (I.freeC x c e)
 ·obtain⟨e,n,ne,nf,d⟩:=I.pin p hp
  have O:p.1∉ch:=fun z=>(J p.1 z).2.2.2 p hp rfl;exact⟨keep p.1 p.2 ne nf O e n,free p.1 p.2 O e n,ne,nf,d⟩
theorem Inv.un {t':Nat}(I:Inv X pins σ H s)(u:Un X.fs [] H H' s.heap h')(q:XF X.prog X.w H' h'):Inv X pins σ H' {s with heap:=h',toks:=t'}:=by
 obtain⟨m,⟨o,es,ep,O,r⟩,_⟩:=id I.loc;obtain⟨sl,U⟩:=u.any O I.free (by simp);exact I.step (g':=s.gens) (d':=s.drawn) (ch:=[]) (fun _ z=>nomatch z) (fun b o _ hb _ e n=>u.keep b o e n hb (by simp)) (fun b o _ hb _ e n=>u.slot b o e n hb (by simp)) (fun b o _ e n=>u.free b o e n (by simp)) (fun b o _ e=>u.there b o e (by simp)) u.tups u.frzs u.tbls (fun m' Y=>by
  obtain⟨o',J,M,j,r'⟩:=Y;rw[O] at j;cases j;exact⟨_,J,M,U,r'⟩) q I.bare
theorem Inv.call {g':Array GenState}{t':Nat}{d':lc}{ch:List Addr}(I:Inv X pins σ H s)(u:Un (frs X.stack) ch H H' s.heap h')(M:XF X.prog X.w H' h')(hg:iA g')
  (q:∀b∈ch,(b∈X.ex\/X.s₀.heap.objs.size<=b)/\b≠X.env.locals/\(∀x c,X.env.cells.lookup x=some c->c≠b)/\∀p∈X.pn++pins,p.1≠b) :
  Inv X pins σ H' {s with heap:=h',gens:=g',drawn:=d',toks:=t'}:=by
 obtain⟨m,⟨o,es,ep,ho,r⟩,_⟩:=id I.loc;obtain⟨sl,O⟩:=u.any ho I.free fun z=>(q _ z).2.1 rfl;exact I.step (ch:=ch) q (fun b o O hb j e n=>u.keep b o e n (fun z=>(aG.mp (I.stkSub b z)).elim O hb) j) (fun b o _ _ j e n=>u.any e n j) (fun b o j e n=>u.free b o e n j) (fun b o j e=>u.there b o e j) u.tups u.frzs u.tbls (fun m' hm=>by
  obtain⟨o',U,Y,J,r'⟩:=hm;rw[ho] at J;cases J;exact⟨_,U,Y,O,r'⟩) M hg
theorem Inv.turned {t':Nat}{it:Addr}(I:Inv X pins σ H s)(k:∀b o,b≠it->s.heap.get? b=some o->h'.get? b=some o)(O:H it=none)(M:it≠X.env.locals)
  (U:it∈X.ex\/X.s₀.heap.objs.size<=it) (Y:∀x c,X.env.cells.lookup x=some c->c≠it) (h3:∀p∈X.pn++pins,p.1≠it):Inv X pins σ H {s with heap:=h',toks:=t'}:=by
 have J:∀b u,H b=some u->b≠it:=fun b u e z=>by rw[z,O] at e;cases e
 refine I.step (g':=s.gens) (d':=s.drawn) (ch:=[it]) (fun b hb=>?_) (fun b o _ _ j e _=>k b o (fun z=>j (by simp[z])) e) (fun b o _ _ j e _=>⟨o.slots,k b o (fun z=>j (by simp[z])) e⟩) (fun _ _ _ _ n=>n)
  (fun b o j e=>⟨o,k b o (fun z=>j (by simp[z])) e⟩) (fun _ _ e=>e) (fun _ _ _ e=>e) (fun b ps e=>⟨#[],by rw[e];simp⟩) (fun m hm=>?_) (fun b u e=>?_) I.bare
 ·have e:b=it:=by simpa using hb
  subst e;exact⟨U,M,Y,h3⟩
 ·obtain⟨o,es,ep,ho,r⟩:=hm
  exact⟨o,es,ep,k _ o (bJ M) ho,r⟩
 ·refine (I.hok b u e).stay (fun c v j q=>k c v ?_ q) (fun _ q=>q) fun _ _ q=>q
  rcases j with z|z
  ·rw[z];exact J b u e
  ·exact J c _ z
theorem Inv.tok (I:Inv X pins σ H s)(t:Nat):Inv X pins σ H {s with toks:=t}:=I.un (h':=s.heap) (t':=t) Un.refl I.hok
theorem Inv.kept {t':Nat}(I:Inv X pins σ H s)(k:∀b u,s.heap.get? b=some u->h'.get? b=some u):Inv X pins σ H {s with heap:=h',toks:=t'}:=I.un (Un.kept k) (I.hok.kept k)
theorem Inv.laid {a:Addr}{o:HO}{t':Nat}(I:Inv X pins σ H s)(k:∀b u,s.heap.get? b=some u->h'.get? b=some u)(j:s.heap.objs.size<=a)(q:Yx X.prog X.w (upd H a o) h' a o) :
  Inv X pins σ (upd H a o) {s with heap:=h',toks:=t'}:=I.un (Un.laid k j (I.hok.fresh j)) (I.hok.laid k j q)
theorem Inv.write {x e:Addr}{o:HO}{t':Nat}(I:Inv X pins σ H s)(J:Mut (H x))(M:e=x\/H e=some (.own x))(k:∀b u,b≠e->s.heap.get? b=some u->h'.get? b=some u)(j:∃u,h'.get? e=some u)
  (q:Yx X.prog X.w (upd H x o) h' x o):Inv X pins σ (upd H x o) {s with heap:=h',toks:=t'}:=I.un (Un.write J M k j) (I.hok.write J M k j q)
theorem Inv.pins_of {j:List (Addr×Obj)}(I:Inv X pins σ H s)(h:∀p∈j,s.heap.get? p.1=some p.2/\H p.1=none/\p.1≠X.env.locals/\p.1∉X.fs/\∀v,p.2.data≠.cell v):Inv X j σ H s:=
 ⟨I.ok,I.os,I.bare,I.base,I.loc,I.cell,I.free,I.freeC,fun p q=>(bE.mp q).elim (fun z=>I.pin p (b8 _ z)) (h p),I.hok,I.len⟩
theorem ZbU {N:List Str}(q:N.Nodup){i j:Nat}{x:Str}(a:N[i]?=some x)(b:N[j]?=some x):i=j:=by
 obtain⟨O,J⟩:=aa.mp a;obtain⟨U,M⟩:=aa.mp b;exact (List.getElem_inj q).mp (J.trans M.symm)
theorem UK {M:Model}{A:Around}{E:Value->Shared->Prop}{i:Nat}{x:Str}{v:V}{u:Value}{Q:Unit->Shared->Prop}(I:Inv X pins σ H s)(hN:X.N.Nodup)(hi:X.N[i]?=some x)(hx:Loc X.env.scope x)(r:RelV v u)
  (h:∀s',Inv X pins (σ.set i (some v)) H s'->(∃a,be a s.heap s'.heap/\(a=X.env.locals\/X.env.cells.lookup x=some a))->Q () s') (hf:X.fn x=true\/X.env.scope.names.lookup x=some .local:=by first|exact .inl rfl|exact .inr rfl|assumption):wpAny M A (storeName X.env x u) Q E s:=by
 obtain⟨m,hn,hl⟩:=id I.loc;have n6:(X.env.scope.kind == .class || (X.env.scope.kind == .module && X.env.locals != X.env.globals))=false:=by rw[I.ok.kind];rfl
 have m9:i < σ.length:=by rw[I.len];exact (aa.mp hi).1
 have cne:=I.cne;have O:∀{a:Addr}{h':Heap},(∃o,s.heap.get? a=some o/\H a=none)->be a s.heap h'->XF X.prog X.w H h':=fun {a h'} ha J b ob e=>by
  obtain⟨_,_,m8⟩:=ha;refine (I.hok b ob e).stay (fun c w' Y q=>(J.2 c ?_).trans q) (fun _ q=>q) fun _ _ q=>q;rintro rfl;rcases Y with rfl|Y
  ·rw[m8] at e;cases e
  ·rw[m8] at Y;cases Y
 rcases hx with hk|hk
 ·refine wpAny_storeName_local hk hn (fun h' o6 J=>?_) n6
  obtain⟨oL,_,_,o7,_⟩:=id hn;refine h _ ⟨I.ok,I.os,I.bare,⟨fun b o e n hb hx=>?_,fun b o e n hb hx=>?_,I.base.free,fun b o e hx=>?_,I.base.tups,I.base.frzs,I.base.tbls⟩,⟨_,o6,fun j y v' U e2 e3=>?_⟩,fun y c e=>?_,I.free,I.freeC,fun p hp=>?_,O ⟨oL,o7,I.free⟩ J,by simpa using I.len⟩ ⟨_,J,.inl rfl⟩
  ·exact (J.2 b (ax (aE (Zp e) I.ok.above))).trans (I.base.keep b o e n hb hx)
  ·obtain⟨sl,U⟩:=I.base.slot b o e n hb hx
   exact⟨sl,(J.2 b (ax (aE (Zp e) I.ok.above))).trans U⟩
  ·obtain⟨o',U⟩:=I.base.there b o e hx
   exact⟨o',(J.2 b (ax (aE (Zp e) I.ok.above))).trans U⟩
  ·by_cases hj:j=i
   ·subst hj
    rw[hi] at U;cases U;rw[kC m9] at e2;cases e2;exact⟨u,r,.inl ⟨hk,by simp⟩⟩
   ·rw[lG (bJ hj)] at e2
    obtain⟨u',r',q⟩:=hl j y v' U e2 e3;refine⟨u',r',?_⟩;rcases q with ⟨k,e⟩|⟨k,c,e,z⟩
    ·refine .inl ⟨k,?_⟩
     have:y≠x:=fun e=>hj (ZbU hN U (e▸hi));simp[this,e]
    ·exact .inr ⟨k,c,e,z.sameBut J (cne y c e)⟩
  ·obtain⟨w',z⟩:=I.cell y c e
   exact⟨w',z.sameBut J (cne y c e)⟩
  ·obtain⟨e,n,ne,nf,d⟩:=I.pin p hp
   exact⟨(J.2 p.1 ne).trans e,n,ne,nf,d⟩
 ·have n4:X.fn x=true:=by
   rcases hf with z|z
   ·exact z
   ·rw[z] at hk;cases hk
  obtain⟨c,Y⟩:=I.ok.has x (.inl hk);obtain⟨w',z⟩:=I.cell x c Y;refine wpAny_storeName_cell I.ok.kind hk Y z (fun h' n8 J=>?_);obtain⟨oc,n9,o0⟩:=id z;refine h {s with heap:=h'} ⟨I.ok,I.os,I.bare,⟨fun b o e n hb hx=>?_,fun b o e n hb hx=>?_,I.base.free,fun b o e hx=>?_,I.base.tups,I.base.frzs,I.base.tbls⟩,⟨m,hn.sameBut J (bJ (cne x c Y)),fun j y v' U e2 e3=>?_⟩,fun y c' e=>?_,I.free,I.freeC,fun p hp=>?_,O ⟨oc,n9,I.freeC x c Y⟩ J,by simpa using I.len⟩ ⟨c,J,.inr Y⟩
  ·exact (J.2 b (ax (aE (Zp e) (I.ok.cab x c n4 Y)))).trans (I.base.keep b o e n hb hx)
  ·obtain⟨sl,U⟩:=I.base.slot b o e n hb hx
   exact⟨sl,(J.2 b (ax (aE (Zp e) (I.ok.cab x c n4 Y)))).trans U⟩
  ·obtain⟨o',U⟩:=I.base.there b o e hx
   exact⟨o',(J.2 b (ax (aE (Zp e) (I.ok.cab x c n4 Y)))).trans U⟩
  ·by_cases hj:j=i
   ·subst hj
    rw[hi] at U;cases U;rw[kC m9] at e2;cases e2;exact⟨u,r,.inr ⟨.inl hk,c,Y,n8⟩⟩
   ·rw[lG (bJ hj)] at e2
    obtain⟨u',r',q⟩:=hl j y v' U e2 e3;refine⟨u',r',?_⟩;rcases q with q|⟨k,c',e,z'⟩
    ·exact .inl q
    ·refine .inr ⟨k,c',e,z'.sameBut J ?_⟩
     rintro rfl;exact hj (ZbU hN U (I.ok.inj _ _ _ e Y▸hi))
  ·by_cases o5:c'=c
   ·subst o5;exact⟨_,n8⟩
   ·obtain⟨w2,z2⟩:=I.cell y c' e
    exact⟨w2,z2.sameBut J o5⟩
  ·obtain⟨e,n,ne,nf,d⟩:=I.pin p hp
   refine⟨(J.2 p.1 ?_).trans e,n,ne,nf,d⟩;intro q;rw[q,n9] at e;have q':oc=p.2:=aw e;exact d w' (by rw[<-q'];exact o0)
theorem Wp {M:Model}{A:Around}{E:Value->Shared->Prop}{i:Nat}{x:Str}{v:V}{u:Value}{Q:Unit->Shared->Prop}(I:Inv X pins σ H s)(j:X.N.Nodup)(q:X.N[i]?=some x)(J:Loc X.env.scope x)(r:RelV v u)
  (h:∀s',Inv X pins (σ.set i (some v)) H s'->Q () s') (O:X.fn x=true\/X.env.scope.names.lookup x=some .local:=by first|exact .inl rfl|exact .inr rfl|assumption):wpAny M A (storeName X.env x u) Q E s:=
 UK I j q J r (fun s' U _=>h s' U) O
theorem Inv.call' {s':Shared}{ch:List Addr}(I:Inv X pins σ H s)(U:s'.os=s.os)(u:Un (frs X.stack) ch H H' s.heap s'.heap)(j:XF X.prog X.w H' s'.heap)(Y:iA s'.gens)
  (q:∀b∈ch,(b∈X.ex\/X.s₀.heap.objs.size<=b)/\b≠X.env.locals/\(∀x c,X.env.cells.lookup x=some c->c≠b)/\∀p∈X.pn++pins,p.1≠b):Inv X pins σ H' s':=by
 obtain⟨h',J,M,O,o'⟩:=s';have e:o'=s.os:=U;subst e;exact I.call (g':=J) (t':=O) (d':=M) u j Y q
end
noncomputable abbrev XK:=Value->Option Addr->Hp->Prop
noncomputable abbrev St:=List (Option V)
noncomputable abbrev VK:=V->Hp->Prop
noncomputable abbrev TE:=St->Hp->VK->Prop
noncomputable abbrev TT:=St->Hp->(Bool->Hp->Prop)->Prop
noncomputable abbrev TA:=St->Hp->(List V->Hp->Prop)->Prop
structure J8 where
 nx:St->Hp->Prop
 rt:VK
 bk:St->Hp->Prop:=fun _ _=>False
 ct:St->Hp->Prop:=fun _ _=>False
noncomputable abbrev TS:=J8->St->Hp->Prop
noncomputable def EP (X:Cx)(j:List (Addr×Obj))(J:St)(Q:VK)(u:Value)(s':Shared):Prop:=∃v q,Inv X j J q s'/\RelV v u/\Q v q
noncomputable def TP (X:Cx)(j:List (Addr×Obj))(J:St)(Q:Bool->Hp->Prop)(b:Bool)(s':Shared):Prop:=∃q,Inv X j J q s'/\Q b q
noncomputable def AP (X:Cx)(j:List (Addr×Obj))(M:St)(Q:List V->Hp->Prop)(O:List Value)(s':Shared):Prop:=∃q J,Inv X j M J s'/\ZK q O/\Q q J
noncomputable def SP (X:Cx)(q:List (Addr×Obj))(D:J8)(f:Flow)(s':Shared):Prop:=
 match f with
 | .next=>∃ j J,Inv X q j J s'/\D.nx j J
 | .brk=>∃ j J,Inv X q j J s'/\D.bk j J
 | .cont=>∃ j J,Inv X q j J s'/\D.ct j J
 | .ret u=>∃v j J,Inv X q j J s'/\RelV v u/\D.rt v J
noncomputable def PE (X:Cx)(e:Expr)(t:TE):Prop:=
 ∀(j:List (Addr×Obj)) (s:Shared) (q:St) (H:Hp) (Q:VK),Inv X j q H s->t q H Q->wpAny (model X.prog X.w) X.A (eval e X.env) (EP X j q Q) X.xe s
noncomputable def PT (X:Cx)(e:Expr)(t:TT):Prop:=
 ∀(j:List (Addr×Obj)) (s:Shared) (q:St) (H:Hp) (Q:Bool->Hp->Prop),Inv X j q H s->t q H Q->wpAny (model X.prog X.w) X.A (isTrue e X.env (eval e X.env)) (TP X j q Q) X.xe s
noncomputable def PW (X:Cx)(e:Expr)(t:TT):Prop:=
 ∀(q:Sem Value) (j:List (Addr×Obj)) (s:Shared) (J:St) (H:Hp) (Q:Bool->Hp->Prop),Inv X j J H s->t J H Q->wpAny (model X.prog X.w) X.A (isTrue e X.env q) (TP X j J Q) X.xe s
theorem PW.pt {X:Cx}{e:Expr}{t:TT}(h:PW X e t):PT X e t:=h _
noncomputable def PA (X:Cx)(J:List Expr)(t:TA):Prop:=
 ∀(pos:Pos) (j:List (Addr×Obj)) (s:Shared) (q:St) (H:Hp) (Q:List V->Hp->Prop),Inv X j q H s->t q H Q->wpAny (model X.prog X.w) X.A (spliced (backTo pos (starEach J X.env))) (AP X j q Q) X.xe s
noncomputable def PS (X:Cx)(st:Stmt)(t:TS):Prop:=
 ∀(j:List (Addr×Obj)) (s:Shared) (q:St) (H:Hp) (D:J8),Inv X j q H s->t D q H->wpAny (model X.prog X.w) X.A (exec st X.env) (SP X j D) X.xe s
noncomputable def PSs (X:Cx)(st:List Stmt)(t:TS):Prop:=
 ∀(j:List (Addr×Obj)) (s:Shared) (q:St) (H:Hp) (D:J8),Inv X j q H s->t D q H->wpAny (model X.prog X.w) X.A (execs st X.env) (SP X j D) X.xe s
theorem Yg {α:Type}{t:Sem α}{Q j:α->Shared->Prop}{M:Model}{A:Around}{E:Value->Shared->Prop}{s:Shared}(h:wpAny M A t Q E s)(q:∀a s,Q a s->j a s):wpAny M A t j E s:=cB h q fun _ _ x=>x
section
variable {X:Cx}
noncomputable def ZkC (i:Nat):TE:=fun σ H Q=>∃v,σ[i]?=some (some v)/\Q v H
noncomputable def tC (v:V):TE:=fun _ H Q=>Q v H
theorem Zk0 {i:Nat}{x:Str}{pos:Pos}(hN:X.N[i]?=some x)(hv:Vis X.env.scope x)(O:(x == ("__debug__":Str))=false:=by decide)(U:(x == ("__classdict__":Str))=false:=by decide):PE X (.Name x pos) (ZkC i):=by
 intro M s σ H Q I h;obtain⟨v,e,h⟩:=h;obtain⟨m,hn,hl⟩:=I.loc;obtain⟨u,r,l⟩:=hl i x v hN e hv;have q:EP X M σ Q u s:=⟨v,H,I,r,h⟩;rcases l with ⟨J,hm⟩|⟨J,c,Y,j⟩
 ·exact wpAny_Name (wpAny_loadName_local I.ok.kind J hn hm q) O
 ·rcases J with J|J
  ·exact wpAny_Name (wpAny_loadName_cell I.ok.kind J Y j q) O
  ·exact wpAny_Name (wpAny_loadName_free I.ok.kind J Y j q U) O
theorem Zw {i j pos}:PE X (.Constant (.int i) j pos) (tC (.int i)):=fun _ _ _ H _ I h=>wpAny_Constant_int ⟨.int i,H,I.tok _,⟨_,rfl⟩,h⟩
theorem Zea {b j pos}:PE X (.Constant (.bool b) j pos) (tC (.bl b)):=fun _ _ _ H _ I h=>Constant_bool ⟨.bl b,H,I,rfl,h⟩
theorem WY {x j pos}:PE X (.Constant (.str x) j pos) (tC (.str x)):=fun _ _ _ H _ I h=>Calls.Constant_str ⟨.str x,H,I.tok _,⟨_,rfl⟩,h⟩
noncomputable def Gl (X:Cx)(x:Str):Prop:=X.env.kindOf x=some .globalImplicit
theorem Zji {E:Value->Shared->Prop}{j:List (Addr×Obj)}{s:Shared}{σ:St}{H:Hp}{x:Str}{u:Value}{pos:Pos}{Q:Value->Shared->Prop}(I:Inv X j σ H s)(q:Gl X x)(J:X.mg x=some u)(h:Q u s)
  (M:(x == ("__debug__":Str))=false:=by decide):wpAny (model X.prog X.w) X.A (eval (.Name x pos) X.env) Q E s:=
 jM I.ok.kind q (Calls.loadGlobal_global (by rw[I.ok.glob];exact I.mod.glob.keeps I.bk) J h) M
theorem Jk {E:Value->Shared->Prop}{j:List (Addr×Obj)}{s:Shared}{σ:St}{H:Hp}{x:Str}{u:Value}{pos:Pos}{Q:Value->Shared->Prop}(I:Inv X j σ H s)(q:Gl X x)(J:X.mg x=none)(M:bootBuiltins x=some u)(h:Q u s)
  (O:x ≠ "__name__":=by decide) (U:(x == ("__debug__":Str))=false:=by decide):wpAny (model X.prog X.w) X.A (eval (.Name x pos) X.env) Q E s:=by
 obtain⟨mb,Y,h2⟩:=I.mod.blt;exact jM I.ok.kind q (Calls.loadGlobal_builtin (by rw[I.ok.glob];exact I.mod.glob.keeps I.bk) J (by rw[I.ok.blt];exact Y.keeps I.bk) ((h2 x O).trans M) h) U
variable {a b:Expr}{ta tb:TE}{pos:Pos}
noncomputable def PC (X:Cx)(op:CmpOp)(a b:Expr)(t:TE):Prop:=
 ∀(j:List (Addr×Obj)) (s:Shared) (M:St) (H:Hp) (Q:VK),Inv X j M H s->t M H Q->
  wpAny (model X.prog X.w) X.A (eval a X.env) (fun v q=>wpAny (model X.prog X.w) X.A (eval b X.env) (fun u J=>wpAny (model X.prog X.w) X.A (compareOp op v u) (EP X j M Q) X.xe J) X.xe q) X.xe s
noncomputable def tB (t:TE):TT:=fun j H Q=>t j H fun x q=>∃c,x=.bl c/\Q c q
theorem ZgG {op:CmpOp}{t:TE}(h:PC X op a b t)(M:behindInMarks op b=false:=by first|exact j _ (by decide) (by decide)|rfl):PT X (.Compare a [op] [b] pos) (tB t):=by
 intro J s O H Q I U;refine mG (Yg (h J s O H _ I U) fun v s1 M=>Yg M fun u s2 Y=>Yg Y fun c s3 ⟨x,H1,I1,r1,q1⟩=>?_) M;obtain⟨d,rfl,q⟩:=q1;cases r1;exact gO ⟨H1,I1,q⟩
theorem ZaG {e:Expr}{t:TE}(h:PE X e t)(M:∀j,isTrue e X.env j=(do let v <-j;standAt e.pos;holding [v] (truthy v)):=by intro _;rfl):PT X e (tB t):=by
 intro J s O H Q I U;refine isTrue_plain (Yg (h J s O H _ I U) fun v s1 ⟨x,Y,I1,r1,q1⟩=>?_) (M _);obtain⟨d,rfl,q⟩:=q1;cases r1;exact gO ⟨Y,I1,q⟩
variable {tA tB':TT}{rest:List Expr}
noncomputable def tOr (t u:TT):TT:=fun j H Q=>t j H fun c q=>if c=true then Q true q else u j q Q
theorem ZkU (q:PT X a tA):PW X (.BoolOp .Or [a] pos) tA:=by
 intro M j s J H Q I h;refine isTrue_or (Yg (q j s J H Q I h) fun c O e=>?_);cases c with
 |false=>exact isTrue_or_nil e
 |true=>exact e
theorem Zm7 (U:PT X a tA)(hb:PW X (.BoolOp .Or (b::rest) pos) tB'):PW X (.BoolOp .Or (a::b::rest) pos) (tOr tA tB'):=by
 intro Y j s q H Q I h;refine isTrue_or (Yg (U j s q H _ I h) fun c s1 ⟨J,M,O⟩=>?_);cases c with
 |true=>exact⟨J,M,O⟩
 |false=>exact hb Y j s1 q J Q M O
end
noncomputable def Wx (K:ab)(H:Hp)(a:Addr)(xs:List V):Prop:=
 Rd H a (.lst xs)\/
  ∃(o:Obj) (j:Array Value) (n:Nat),K.lookup a=some o/\o.cls=.type "list"/\o.dict=none/\o.data=.seq j n/\j.size<=sizeLine/\ZK xs j.toList
noncomputable def JF (K:ab)(H:Hp)(a:Addr)(xs:List V):Prop:=
 Rd H a (.tup xs)\/
  ∃(o:Obj) (j:Array Value) (n:Nat),K.lookup a=some o/\o.cls=.type "tuple"/\o.data=.seq j n/\j.size<=sizeLine/\ZK xs j.toList
noncomputable def ZoW:Value->Option V
 | .none=>some .non
 | .bool b=>some (.bl b)
 | .int i _=>some (.int i)
 | .str x _=>some (.str x)
 | .bytes b _=>some (.byt b)
 | .float b _=>some (.flt b)
 | .ref a=>some (.ref a)
 | .type n=>some (.ty n)
 |_=>none
theorem RelV.abs {x:V}{u:Value}(r:RelV x u):ZoW u=some x:=by
 cases x with
 |non=>cases r;rfl
 |bl _=>cases r;rfl
 |int _=>obtain⟨t,rfl⟩:=r;rfl
 |str _=>obtain⟨t,rfl⟩:=r;rfl
 |byt _=>obtain⟨t,rfl⟩:=r;rfl
 |flt _=>obtain⟨t,rfl⟩:=r;rfl
 |ref _=>cases r;rfl
 |ty _=>cases r;rfl
theorem RelV.inj {x y:V}{u:Value}(r:RelV x u)(q:RelV y u):x=y:=aw (r.abs.symm.trans q.abs)
theorem ZK.inj:∀{xs ys:List V}{us:List Value},ZK xs us->ZK ys us->xs=ys
 |_,_,_,.nil,.nil=>rfl
 |_,_,_,.cons r t,.cons j q=>by rw[r.inj j,ZK.inj t q]
section
variable {X:Cx}{pins:List (Addr×Obj)}{σ:St}{H:Hp}{s:Shared}{a:Addr}{xs ys:List V}
theorem Wx.of {K:ab}(h:H a=some (.lst xs)):Wx K H a xs:=.inl (.inl h)
theorem JF.of {K:ab}(h:H a=some (.tup xs)):JF K H a xs:=.inl (.inl h)
theorem Inv.list (I:Inv X pins σ H s)(h:Wx X.K H a xs):∃j:List Value,ZK xs j/\PlainL s.heap a j.toArray/\xs.length<=sizeLine:=by
 rcases h with h|⟨o,j,n,q,J,hd,M,O,r⟩
 ·obtain⟨z,j,n,r,e⟩:=h.ok I.hok
  exact⟨j,r,⟨_,n,e,rfl,rfl,rfl⟩,z⟩
 ·refine⟨j.toList,r,⟨o,n,I.kIn a o q,J,hd,by simpa using M⟩,?_⟩
  have e:=r.length;simp only[Zr] at e;omega
theorem Inv.tuple (I:Inv X pins σ H s)(h:JF X.K H a xs):∃j:List Value,ZK xs j/\IsTup s.heap a j.toArray/\xs.length<=sizeLine:=by
 rcases h with h|⟨o,j,n,q,J,M,O,r⟩
 ·obtain⟨z,j,r,p⟩:=h.ok I.hok
  exact⟨j,r,p,z⟩
 ·refine⟨j.toList,r,⟨o,I.kIn a o q,J,n,by simpa using M⟩,?_⟩
  have e:=r.length;simp only[Zr] at e;omega
theorem Inv.list_inj (I:Inv X pins σ H s)(h:Wx X.K H a xs)(h':Wx X.K H a ys):xs=ys:=by
 obtain⟨q,r,⟨o,n,e,_,_,d⟩,_⟩:=I.list h;obtain⟨j,O,⟨U,Y,J,_,_,M⟩,_⟩:=I.list h';rw[e] at J;cases J;rw[d] at M;injection M with d1 _;have:q=j:=by simpa using congrArg Array.toList d1
 subst this;exact r.inj O
theorem Inv.tuple_inj (I:Inv X pins σ H s)(h:JF X.K H a xs)(h':JF X.K H a ys):xs=ys:=by
 obtain⟨q,r,⟨o,e,_,n,d⟩,_⟩:=I.tuple h;obtain⟨j,O,⟨U,J,_,Y,M⟩,_⟩:=I.tuple h';rw[e] at J;cases J;rw[d] at M;injection M with d1 _;have:q=j:=by simpa using congrArg Array.toList d1
 subst this;exact r.inj O
end
noncomputable abbrev Cx.wish (X:Cx)(E:Value->Shared->Prop):Cx:={X with xe:=E}
noncomputable abbrev Cx.nox (X:Cx):Cx:=X.wish fun _ _=>False
theorem Cx.Ok.wish {X:Cx}(ok:X.Ok)(E:Value->Shared->Prop):(X.wish E).Ok:=
 ⟨ok.mod,ok.kind,ok.glob,ok.blt,ok.above,ok.inj,ok.has,ok.cab,ok.hd,ok.frames,ok.stk,ok.exf,ok.bs,ok.bsz,ok.noex,ok.exfs,ok.funs,ok.frf⟩
theorem Cx.Ok.unwish {X:Cx}{E:Value->Shared->Prop}(ok:(X.wish E).Ok):X.Ok:=
 ⟨ok.mod,ok.kind,ok.glob,ok.blt,ok.above,ok.inj,ok.has,ok.cab,ok.hd,ok.frames,ok.stk,ok.exf,ok.bs,ok.bsz,ok.noex,ok.exfs,ok.funs,ok.frf⟩
section
variable {X:Cx}{pins:List (Addr×Obj)}{σ:St}{H:Hp}{s:Shared}{E:Value->Shared->Prop}
theorem Inv.wish (I:Inv X pins σ H s)(E:Value->Shared->Prop):Inv (X.wish E) pins σ H s:=⟨I.ok.wish E,I.os,I.bare,I.base,I.loc,I.cell,I.free,I.freeC,I.pin,I.hok,I.len⟩
theorem Inv.unwish (I:Inv (X.wish E) pins σ H s):Inv X pins σ H s:=⟨I.ok.unwish,I.os,I.bare,I.base,I.loc,I.cell,I.free,I.freeC,I.pin,I.hok,I.len⟩
theorem SP.unwish {D:J8}{f:Flow}{s':Shared}(h:SP (X.wish E) pins D f s'):SP X pins D f s':=by
 cases f with
 |next=>obtain⟨j,J,I,q⟩:=h;exact⟨j,J,I.unwish,q⟩
 |brk=>obtain⟨j,J,I,q⟩:=h;exact⟨j,J,I.unwish,q⟩
 |cont=>obtain⟨j,J,I,q⟩:=h;exact⟨j,J,I.unwish,q⟩
 |ret u=>obtain⟨v,j,J,I,r,q⟩:=h;exact⟨v,j,J,I.unwish,r,q⟩
theorem PSs.nox {st:List Stmt}{t:TS}(h:PSs X.nox st t):PSs X st t:=fun pins s σ H D I j=>
 cB (h pins s σ H D (I.wish _) j) (fun _ _ q=>q.unwish) fun _ _ z=>dR z
end
section
variable {X:Cx}{st:Stmt}{rest:List Stmt}{t u:TS}{e:Expr}{te:TE}{pos:Pos}
noncomputable def ZmH:TS:=fun D j H=>D.nx j H
noncomputable def ZkD (t u:TS):TS:=fun D j H=>t {D with nx:=u D} j H
theorem YA:PSs X [] ZmH:=fun _ _ j H _ I h=>iE ⟨j,H,I,h⟩
theorem Zs (M:PS X st t)(O:PSs X rest u):PSs X (st::rest) (ZkD t u):=by
 intro j s U H D I h;refine wpAny_execs_cons (Yg (M j s U H {D with nx:=u D} I h) fun f Y q=>?_);cases f with
 |next=>
  obtain⟨J,H',I',q⟩:=q;exact O j Y J H' D I' q
 |ret v=>exact q
 |brk=>exact q
 |cont=>exact q
theorem Zv (J:PS X st t):PSs X [st] t:=by
 intro j s M H D I h;refine wpAny_execs_cons (Yg (J j s M H D I h) fun f O q=>?_);cases f with
 |next=>exact iE q
 |ret v=>exact q
 |brk=>exact q
 |cont=>exact q
theorem Inv.quiet {j:List (Addr×Obj)}{σ:St}{H:Hp}{s:Shared}(I:Inv X j σ H s):interactive X.env=false:=by simp[interactive,I.ok.kind]
noncomputable def ZfZ (te:TE):TS:=fun D j H=>te j H fun _ q=>D.nx j q
theorem Ya (J:PE X e te)(M:swapsWith e none pos.line X.env=pure false:=by rfl):PS X (.Expr e pos) (ZfZ te):=by
 intro j s q H D I h;exact wpAny_Expr_any (Yg (J j s q H _ I h) fun v s1 ⟨x,O,U,r1,Y⟩=>⟨q,O,U,Y⟩) I.quiet M
noncomputable def Zor (te:TE):TS:=fun D j H=>te j H D.rt
theorem ZG (q:PE X e te):PS X (.Return (some e) pos) (Zor te):=by
 intro j s σ H D I h;exact wpAny_Return_some (Yg (q j s σ H _ I h) fun v U ⟨x,J,M,r1,O⟩=>⟨x,σ,J,M,r1,O⟩)
noncomputable def ZmI (c:TT)(t u:TS):TS:=fun D j H=>c j H fun b q=>if b=true then t D j q else u D j q
theorem WN {c:Expr}{a b:List Stmt}{J:TT}(hc:PT X c J)(ha:PSs X a t)(hb:PSs X b u):PS X (.If c a b pos) (ZmI J t u):=by
 intro j s q H D I h;refine wpAny_If (Yg (hc j s q H _ I h) fun d M ⟨O,U,Y⟩=>?_);cases d with
 |true=>exact ha j M q O D U Y
 |false=>exact hb j M q O D U Y
end
noncomputable abbrev TG:=V->St->Hp->(St->Hp->Prop)->Prop
noncomputable abbrev TGs:=List V->St->Hp->(St->Hp->Prop)->Prop
noncomputable def PG (X:Cx)(j:Expr)(t:TG):Prop:=
 ∀(q:List (Addr×Obj)) (s:Shared) (M:St) (H:Hp) (v:V) (u:Value) (Q:St->Hp->Prop),Inv X q M H s->RelV v u->t v M H Q->
  wpAny (model X.prog X.w) X.A (assign j X.env u) (fun _ U=>∃ J O,Inv X q J O U/\Q J O) X.xe s
noncomputable def PGs (X:Cx)(ts:List Expr)(t:TGs):Prop:=
 ∀(j:List (Addr×Obj)) (s:Shared) (J:St) (H:Hp) (M:List V) (O:List Value) (Q:St->Hp->Prop),Inv X j J H s->ZK M O->t M J H Q->
  wpAny (model X.prog X.w) X.A (assignInOrder ((assignEach ts X.env).map (·.2)) O) (fun _ Y=>∃ q U,Inv X j q U Y/\Q q U) X.xe s
noncomputable abbrev Zh6:=V->V->V->Hp->(Hp->Prop)->Prop
noncomputable def Zme (X:Cx)(t:Zh6):Prop:=
 ∀(j:List (Addr×Obj)) (s:Shared) (q:St) (H:Hp) (o i v:V) (J M u:Value) (Q:Hp->Prop),Inv X j q H s->RelV o J->RelV i M->RelV v u->t o i v H Q->
  wpAny (model X.prog X.w) X.A (setItem J M u) (fun _ U=>∃O,Inv X j q O U/\Q O) X.xe s
noncomputable abbrev TIp:=V->V->Hp->VK->Prop
noncomputable def PIp (X:Cx)(op:kW)(t:TIp):Prop:=
 ∀(j:List (Addr×Obj)) (s:Shared) (q:St) (H:Hp) (x y:V) (v u:Value) (Q:VK),Inv X j q H s->RelV x v->RelV y u->t x y H Q->
  wpAny (model X.prog X.w) X.A (inplaceOp op v u) (EP X j q Q) X.xe s
section
variable {X:Cx}{pos:Pos}
noncomputable def Yn (i:Nat):TG:=fun v j H Q=>Q (j.set i (some v)) H
theorem Zd8 {i:Nat}{x:Str}(q:X.N.Nodup)(J:X.N[i]?=some x)(M:Loc X.env.scope x)(O:X.fn x=true\/X.env.scope.names.lookup x=some .local:=by first|exact .inl rfl|exact .inr rfl|assumption):PG X (.Name x pos) (Yn i):=by
 intro j s Y H v u Q I r h;exact wpAny_assign_Name (Wp I q J M r (fun s' U=>⟨_,H,U,h⟩) O)
noncomputable def Zhz:TGs:=fun j q H Q=>j=[]/\Q q H
noncomputable def Xx (t:TG)(u:TGs):TGs:=fun q J H Q=>∃v r,q=v::r/\t v J H fun j M=>u r j M Q
theorem ZiH:PGs X [] Zhz:=by
 intro j s q H J M Q I r h;obtain⟨e,h⟩:=h;subst e;cases r;exact assignInOrder_nil ⟨q,H,I,h⟩
theorem ZbK {e:Expr}{q:List Expr}{t:TG}{u:TGs}(M:PG X e t)(O:PGs X q u)
  (U:(assignEach (e::q) X.env).map (·.2)=assign e X.env::(assignEach q X.env).map (·.2):=by rfl):PGs X (e::q) (Xx t u):=by
 intro j s Y H vs us Q I r h;obtain⟨v,vr,e1,h⟩:=h;subst e1;cases r with
 |cons r rr=>
  rw[U];refine jj (Yg (M j s Y H _ _ _ I r h) fun _ s1 ⟨J,H1,I1,q1⟩=>?_);exact O j s1 J H1 _ _ Q I1 rr q1
noncomputable def Zhy (K:ab)(n:Nat)(t:TGs):TG:=fun v q H Q=>∃a j,v=.ref a/\JF K H a j/\j.length=n/\t j q H Q
theorem ZkZ {q:List Expr}{k:Nat}{t:TGs}{n:Nat}(Y:X.calm=true)(h:PGs X q t)
  (hn:(assignEach q X.env).length=n:=by rfl) (J:(assignEach q X.env).findIdx? (·.1)=none:=by rfl):PG X (.Tuple q k pos) (Zhy X.K n t):=by
 intro j s O H v u Q I r M;obtain⟨a,xs,e1,hq,hl,M⟩:=M;subst e1;cases r;obtain⟨m8,U,ht,hz⟩:=I.tuple hq;refine assign_Tuple_tuple (I.ok.hd Y) ht (by simp[hn,<-hl,U.length]) J fun h' hx=>?_;have I1:Inv X j O H {s with heap:=h'}:=I.kept (t':=s.toks) fun b o e=>hx b o (ax (Zp e)) e;exact h j _ O H xs _ Q I1 (by simpa using U) M
noncomputable def ZoN (q J:TE)(t:Zh6):TG:=fun v j H Q=>q j H fun o M=>J j M fun i O=>t o i v O fun U=>Q j U
theorem VT {o i:Expr}{to M:TE}{t:Zh6}(O:PE X o to)(U:PE X i M)(Y:Zme X t)
  (ha:∀v,assign (.Subscript o i pos) X.env v=(do
   let q <-holding [v] (eval o X.env)
   let iv <-holding [v,q] (eval i X.env)
   standAt pos
   holding [v,q,iv] (setItem q iv v)
   release [v,q,iv] []):=by intro _;rfl):PG X (.Subscript o i pos) (ZoN to M t):=by
 intro j s J H v u Q I r h;rw[ha];refine Zl (cN (Yg (O j s J H _ I h) fun q s1 ⟨x,H1,I1,r1,q1⟩=>?_));refine Zl (cN (Yg (U j s1 J H1 _ I1 q1) fun iv s2 ⟨y,H2,I2,r2,q2⟩=>?_));refine Zl (ja (Zl (cN (Yg (Y j s2 J H2 x y v q iv u _ I2 r1 r2 r q2) fun _ s3 ⟨H3,I3,q3⟩=>?_))));exact wpAny_release ⟨J,H3,I3,q3⟩
noncomputable def ZcG (q:TE)(g:TG):TS:=fun D j H=>q j H fun x J=>g x j J D.nx
theorem VP {J e:Expr}{M:TE}{g:TG}(U:PE X e M)(Y:PG X J g)(hs:swapsWithSole [J] e pos.line X.env=pure false:=by rfl)(hw:swappedStores [J] e X.env=pure none:=by rfl)
  (h1:(assignEach [J] X.env).map (·.2)=[assign J X.env]:=by rfl):PS X (.Assign [J] e pos) (ZcG M g):=by
 intro j s O H D I h;refine wpAny_Assign_stores (Yg (U j s O H _ I h) fun v s1 ⟨x,H1,I1,r1,q1⟩=>?_) hs hw;rw[h1];exact Yg (Y j s1 O H1 x v _ I1 r1 q1) fun _ s2 q=>q
theorem ZkW {i:Nat}{x:Str}{e:Expr}{J:TE}{j:Pos}(M:X.N.Nodup)(O:X.N[i]?=some x)(U:Loc X.env.scope x)(Y:PE X e J)(hs:swapsWith e (some (.Name x j)) pos.line X.env=pure false:=by rfl)(hf:X.fn x=true\/X.env.scope.names.lookup x=some .local:=by first|exact .inl rfl|exact .inr rfl|assumption) :
  PS X (.Assign [.Name x j] e pos) (ZcG J (Yn i)):=by
 intro q s σ H D I h;refine wpAny_Assign_Name (Yg (Y q s σ H _ I h) fun v s1 ⟨y,H1,I1,r1,q1⟩=>?_) hs;exact Wp I1 M O U r1 (fun s2 I2=>⟨_,H1,I2,q1⟩) hf
noncomputable def Zos (i j:Nat)(J:TA):TS:=fun D q H=>J q H fun M O=>∃v w,M=[v,w]/\D.nx ((q.set i (some v)).set j (some w)) O
theorem ZkX {i j:Nat}{x y:Str}{a b:Expr}{ta:TA}{px py pt:Pos}{kt k2 O}(hc:X.calm=true)(hN:X.N.Nodup)(hi:X.N[i]?=some x)(hj:X.N[j]?=some y)(m8:i≠j)
  (hx:X.env.scope.names.lookup x=some .local) (hy:X.env.scope.names.lookup y=some .local) (ha:PA X [a,b] ta)
  (hw:swappedStores [.Tuple [.Name x px,.Name y py] kt pt] (.Tuple [a,b] k2 O) X.env=pure (some [x,y]))
  (hs:swapsWithSole [.Tuple [.Name x px,.Name y py] kt pt] (.Tuple [a,b] k2 O) pos.line X.env=pure false:=by rfl) :
  PS X (.Assign [.Tuple [.Name x px,.Name y py] kt pt] (.Tuple [a,b] k2 O) pos) (Zos i j ta):=by
 intro M s σ H D I h;rw[exec_Assign_arm];refine Zl (ja ?_);rw[hs];refine Zl (Zm ?_);rw[if_neg (by decide)];refine Zl (Tuple_ (Yg (ha _ M s σ H _ I h) fun us s1 ⟨vs,H1,I1,r1,q1⟩=>?_));obtain⟨v,w,e1,q1⟩:=q1;subst e1;obtain⟨U,Y,rfl,rv,m9⟩:∃U Y,us=[U,Y]/\RelV v U/\RelV w Y:=by
  cases r1 with
  |cons p q=>
   cases q with
   |cons p' q'=>
    cases q';exact⟨_,_,rfl,p,p'⟩
 refine bH ?_ (by show 2<=sizeLine;decide);have I2:Inv X M σ H1 {s1 with heap:=s1.heap.push {cls:=.type "tuple",data:=.seq [U,Y].toArray}}:=I1.kept (t':=s1.toks) fun b o e=>Zn _ e;rw[hw];refine Zl (Zm ?_);show wpAny (model X.prog X.w) X.A (do rule "assign.swapped-stores";let J <-unpackItems (.ref s1.heap.objs.size) 2 none;assignInOrder [fun v=>bindName X.env y v,fun v=>bindName X.env x v] J.reverse;pure Flow.next) _ _ _
 refine Zl (dJ (Zl (unpackItems_tuple (items:=#[U,Y]) (I.ok.hd hc) (j9 s1.heap _) fun h' n4=>?_)));have I3:=I2.kept (h':=h') (t':=s1.toks) fun b o e=>n4 b o (ax (Zp e)) e;show wpAny _ _ (assignInOrder [fun v=>bindName X.env y v,fun v=>bindName X.env x v] [Y,U] >>= fun _=>pure Flow.next) _ _ _;refine Zl (jj (wpAny_bindName (Wp I3 hN hj (.inl hy) m9 (fun s2 I4=>?_) (.inr hy))));refine jj (wpAny_bindName (Wp I4 hN hi (.inl hx) rv (fun s3 I5=>assignInOrder_nil (Zm ?_)) (.inr hx)));rw[List.set_comm _ _ (bJ m8)] at I5;exact⟨_,H1,I5,q1⟩
noncomputable def Zox (i:Nat)(j:TE)(q:TIp):TS:=fun D σ H=>∃x,σ[i]?=some (some x)/\j σ H fun y J=>q x y J fun z M=>D.nx (σ.set i (some z)) M
theorem Jt {i:Nat}{x:Str}{e:Expr}{te:TE}{op:kW}{ti:TIp}{M:Pos}(hN:X.N.Nodup)(hi:X.N[i]?=some x)(Y:Loc X.env.scope x)(he:PE X e te)(ho:PIp X op ti)(hf:X.fn x=true\/X.env.scope.names.lookup x=some .local:=by first|exact .inl rfl|exact .inr rfl|assumption) :
  PS X (.AugAssign (.Name x M) op e pos) (Zox i te ti):=by
 intro j s σ H D I h;obtain⟨v,e1,h⟩:=h;obtain⟨m,hn,hl⟩:=I.loc;have m8:Vis X.env.scope x:=by rcases Y with k|k;exact .inl k;exact .inr (.inl k)
 obtain⟨u,r,l⟩:=hl i x v hi e1 m8;refine wpAny_AugAssign_Name ?_;have go:wpAny (model X.prog X.w) X.A (eval e X.env) (fun w O=>wpAny (model X.prog X.w) X.A (inplaceOp op u w) (fun r U=>wpAny (model X.prog X.w) X.A (storeName X.env x r) (fun _=>SP X j D .next) X.xe U) X.xe O) X.xe s:=by
  refine Yg (he j s σ H _ I h) fun w s1 ⟨y,H1,I1,r1,q1⟩=>?_;refine Yg (ho j s1 σ H1 v y u w _ I1 r r1 q1) fun z s2 ⟨zv,H2,I2,r2,q2⟩=>?_;exact Wp I2 hN hi Y r2 (fun s3 I3=>⟨_,H2,I3,q2⟩) hf
 rcases l with ⟨q,hm⟩|⟨q,c,hc,J⟩
 ·exact wpAny_loadName_local I.ok.kind q hn hm go
 ·rcases q with q|q
  ·exact wpAny_loadName_cell I.ok.kind q hc J go
  ·rcases Y with k|k
   ·have:X.env.scope.names.lookup x=some .free:=q
    rw[k] at this;cases this
   ·have:X.env.scope.names.lookup x=some .free:=q
    rw[k] at this;cases this
noncomputable def ZmM (O U Y:TE)(j:V->V->Hp->VK->Prop)(M:TIp)(q:Zh6):TS:=fun D J H=>O J H fun o H1=>U J H1 fun i H2=>j o i H2 fun x H3=>Y J H3 fun y H4=>M x y H4 fun z H5=>q o i z H5 fun H6=>D.nx J H6
noncomputable def Zmg (X:Cx)(t:V->V->Hp->VK->Prop):Prop:=
 ∀(j:List (Addr×Obj)) (s:Shared) (q:St) (H:Hp) (o i:V) (J M:Value) (Q:VK),Inv X j q H s->RelV o J->RelV i M->t o i H Q->
  wpAny (model X.prog X.w) X.A (getItem J M) (EP X j q Q) X.xe s
theorem Vq {o i e:Expr}{to ti te:TE}{J:V->V->Hp->VK->Prop}{Y:TIp}{M:Zh6}{op:kW}{m8:Pos}(ho:PE X o to)(hi:PE X i ti)(hg:Zmg X J)(he:PE X e te)(hp:PIp X op Y)(hs:Zme X M)
  (ha:∀O iv q,augStore i O iv q=(do holding [q,O,iv] (setItem O iv q);release [q,O,iv] [];pure .next):=by intros;rfl):PS X (.AugAssign (.Subscript o i m8) op e pos) (ZmM to ti te J Y M):=by
 intro j s U H D I h;refine wpAny_AugAssign_SubscriptAny (Yg (ho j s U H _ I h) fun O s1 ⟨x1,H1,I1,r1,q1⟩=>?_) ha;refine Yg (hi j s1 U H1 _ I1 q1) fun iv s2 ⟨x2,H2,I2,r2,q2⟩=>?_;refine Yg (hg j s2 U H2 x1 x2 O iv _ I2 r1 r2 q2) fun m9 s3 ⟨x3,H3,I3,r3,q3⟩=>?_;refine Yg (he j s3 U H3 _ I3 q3) fun v s4 ⟨x4,H4,I4,r4,q4⟩=>?_;refine Yg (hp j s4 U H4 x3 x4 m9 v _ I4 r3 r4 q4) fun q s5 ⟨x5,H5,I5,r5,q5⟩=>?_;exact Yg (hs j s5 U H5 x1 x2 x5 O iv q _ I5 r1 r2 r5 q5) fun _ s6 ⟨H6,I6,q6⟩=>⟨U,H6,I6,q6⟩
noncomputable def ipI (f:Int->Int->Int):TIp:=fun x y H Q=>∃i j,x=.int i/\y=.int j/\Q (.int (f i j)) H
theorem W2:PIp X .Add (ipI fun i j=>i+j):=by
 intro J s σ H x y v u Q I M O h;obtain⟨i,j,U,Y,q⟩:=h;subst U;subst Y;obtain⟨t,rfl⟩:=M;obtain⟨t',rfl⟩:=O;exact iadd_int ⟨.int _,H,I.tok _,⟨_,rfl⟩,q⟩
theorem Zho:PIp X .Sub (ipI fun i j=>i-j):=by
 intro J s σ H x y v u Q I M O h;obtain⟨i,j,U,Y,q⟩:=h;subst U;subst Y;obtain⟨t,rfl⟩:=M;obtain⟨t',rfl⟩:=O;exact isub_int ⟨.int _,H,I.tok _,⟨_,rfl⟩,q⟩
end
section
variable {X:Cx}{pos:Pos}
noncomputable def ZfX (c:TT)(tb:TS):TS:=fun D j H=>∃W:Nat->St->Hp->Prop,(∃m,W m j H)/\∀m j H,W m j H->
 c j H fun b J=>if b=true then ∃N:St->Hp->Prop,(∀ q M,N q M->∃O,O<m/\W O q M)/\tb {D with nx:=N,ct:=N,bk:=D.nx} j J else D.nx j J
theorem Z9 {c:Expr}{body:List Stmt}{tc:TT}{tb:TS}(hp:PassesOwn (model X.prog X.w) X.A X.env X.xe)(hc:PT X c tc)(hb:PSs X body tb):PS X (.While c body [] pos) (ZfX tc tb):=by
 intro j s σ H D I h;obtain⟨W,⟨m0,w0⟩,turn⟩:=h;refine wpAny_While (codeAny_whileLoop (fun n s'=>∃ M H',Inv X j M H' s'/\W n M H') ?_ m0 ⟨σ,H,I,w0⟩);rintro n s1 ⟨J,H1,I1,w1⟩;refine dQ hp (Yg (hc j s1 J H1 _ I1 (turn n J H1 w1)) fun b s2 ⟨H2,I2,U⟩=>?_);cases b with
 |true=>
  obtain⟨N,hN,U⟩:=U;rw[if_pos rfl];refine dQ hp (Yg (hb j s2 J H2 _ I2 U) fun f s3 Y=>?_);cases f with
  |next=>
   obtain⟨q,O,I3,n3⟩:=Y;obtain⟨m',hm,w3⟩:=hN q O n3;exact⟨m',hm,q,O,I3,w3⟩
  |cont=>
   obtain⟨q,O,I3,n3⟩:=Y;obtain⟨m',hm,w3⟩:=hN q O n3;exact⟨m',hm,q,O,I3,w3⟩
  |brk=>exact Y
  |ret v=>exact Y
 |false=>
  rw[if_neg aJ];exact iE ⟨J,H2,I2,U⟩
end
structure It where
 go:Nat->Hp->Prop
 yld:Nat->Hp->V->Hp->Prop
 stop:Nat->Hp->Prop
noncomputable def UF (X:Cx)(j:List (Addr×Obj))(H:Hp)(b:Addr):Prop:=
 H b=none/\b≠X.env.locals/\b∉X.fs/\(b∈X.ex\/X.s₀.heap.objs.size<=b)/\(∀x c,X.env.cells.lookup x=some c->c≠b)/\∀p∈X.pn++j,p.1≠b
theorem Inv.fpOk {X:Cx}{j:List (Addr×Obj)}{σ:St}{H J:Hp}{s:Shared}{b:Addr}(I:Inv X j σ H s)(hb:s.heap.objs.size<=b)(M:J b=none):UF X j J b:=by
 refine⟨M,bw (aE I.lt hb),I.nofs hb,.inr (a6 I.sz hb),fun x c e z=>?_,fun p O z=>?_⟩
 ·obtain⟨v,q⟩:=I.cell x c e
  exact absurd (aE q.lt (by rw[z];exact hb)) (cf _)
 ·exact absurd (aE (Zp (I.pin p O).1) (by rw[z];exact hb)) (cf _)
structure UD (P:Program)(w:World)(K:ab)(tg:Expr)(J:It)(fp:List Addr)(it:Addr)(tn:Nat->Heap->Prop):Prop where
 mem:it∈fp
 obj:∀i h,tn i h->∀b∈fp,∃o,h.get? b=some o/\∀v,o.data≠.cell v
 keep:∀i h h',tn i h->(∀b∈fp,∀o,h.get? b=some o->h'.get? b=some o)->tn i h'
 item:∀(X:Cx),X.prog=P->X.w=w->X.K=K->X.calm=true->∀(i:Nat) (pins:List (Addr×Obj)) (s:Shared) (σ:St) (H:Hp) (E:Value->Shared->Prop),Inv X pins σ H s->(∀b∈fp,UF X pins H b)->tn i s.heap->J.go i H->
  wpAny (model P w) X.A (pyNext (.ref it)) (fun r s1=>∃u,r=some u/\
   wpAny (model P w) X.A (letOwnedTupleGo tg (.ref it) u) (fun _ s2=>∃x H',Inv X pins σ H' s2/\RelV x u/\J.yld i H x H'/\tn (i+1) s2.heap/\∀b∈fp,H' b=none) E s1) E s
 done:∀(X:Cx),X.prog=P->X.w=w->X.K=K->X.calm=true->∀(i:Nat) (pins:List (Addr×Obj)) (s:Shared) (σ:St) (H:Hp) (E:Value->Shared->Prop),Inv X pins σ H s->(∀b∈fp,UF X pins H b)->tn i s.heap->J.stop i H->
  wpAny (model P w) X.A (pyNext (.ref it)) (fun r s1=>r=none/\Inv X pins σ H s1) E s
 self:∀(A:Around) (i:Nat) (s:Shared) (Q:Value->Shared->Prop) (E:Value->Shared->Prop),tn i s.heap->Q (.ref it) s->wpAny (model P w) A (pyIter (.ref it)) Q E s
noncomputable abbrev TI:=St->Hp->(It->Hp->Prop)->Prop
noncomputable def PIE (X:Cx)(j:List (Addr×Obj))(σ:St)(tg:Expr)(R:It->Hp->Prop)(q:Value)(O:Shared):Prop:=
 ∃(it:Addr) (U:List Addr) (Y:Nat->Heap->Prop) (J:It) (M:Hp),q=.ref it/\Inv X j σ M O/\UD X.prog X.w X.K tg J U it Y/\Y 0 O.heap/\(∀b∈U,UF X j M b)/\R J M
noncomputable def PI (X:Cx)(M q:Expr)(O:TI):Prop:=
 ∀(j:List (Addr×Obj)) (s:Shared) (J:St) (H:Hp) (R:It->Hp->Prop),Inv X j J H s->O J H R->
  wpAny (model X.prog X.w) X.A (eval q X.env) (fun v U=>wpAny (model X.prog X.w) X.A (pyIter v) (PIE X j J M R) X.xe U) X.xe s
theorem Zcb {M:Model}{A:Around}{E:Value->Shared->Prop}{s:Shared}{q:Expr}{it:Addr}{u:Value}{o:Obj}{n:String}{vs:Array Value}{Q:Unit->Shared->Prop}(J:s.heap.get? it=some o)(O:o.cls=.type n)(hd:o.data=.fields vs)
    (U:["enumerate", "zip", "dict_itemiterator", "dict_reverseitemiterator", "odict_iterator", "itertools.zip_longest", "itertools.pairwise"].contains n=false) (j:Q () s):wpAny M A (letOwnedTupleGo q (.ref it) u) Q E s:=by
  unfold letOwnedTupleGo;cases q <;> first
    |exact Zm j
    |(cases u <;> first
        |exact Zm j
        | (refine Zl (jg J ?_)
           rw[O,hd];show wpAny M A (if (["enumerate", "zip", "dict_itemiterator", "dict_reverseitemiterator", "odict_iterator", "itertools.zip_longest", "itertools.pairwise"].contains n && vs[0]? == some (rawInt _))=true then _ else _) Q E s
           rw[if_neg (by intro h;rw[U,Bool.false_and] at h;cases h)];exact Zm j))
noncomputable def Itl (K:ab)(a:Addr):It:=
 ⟨fun i H=>∃j x,Wx K H a j/\j[i]?=some x,fun i H x q=>q=H/\∀j,Wx K H a j->j[i]?=some x,fun i H=>∃j,Wx K H a j/\j.length<=i⟩
noncomputable def Itt (K:ab)(a:Addr):It:=
 ⟨fun i H=>∃j x,JF K H a j/\j[i]?=some x,fun i H x q=>q=H/\∀j,JF K H a j->j[i]?=some x,fun i H=>∃j,JF K H a j/\j.length<=i⟩
noncomputable def Itr (lo:Int)(n:Nat):It:=⟨fun i _=>i<n,fun i H x j=>j=H/\x=.int (lo+i),fun i _=>n<=i⟩
theorem ZeO {P:Program}{w:World}{K:ab}{tg:Expr}(a it:Addr):UD P w K tg (Itl K a) [it] it (fun i h=>h.IsListIter it a i) where
 mem:=by simp
 obj:=fun i h st b hb=>by
  have e:b=it:=by simpa using hb
  subst e;obtain⟨o,e,c,d⟩:=st;exact⟨o,e,fun v z=>by rw[d] at z;cases z⟩
 keep:=fun i h J st k=>st.at fun o e=>k it (by simp) o e
 item:=by
  intro X U Y hK hc i j s σ H E I M st hg;subst U Y hK;obtain⟨xs,x,O,hx⟩:=hg;obtain⟨m8,rv,p,hz⟩:=I.list O;obtain⟨u,hu,ru⟩:=rv.get hx;obtain⟨f0,f1,f2,f3,f4,f5⟩:=M it (by simp);refine wpAny_pyNext_list_item st p.isList (x:=u) (by simpa using hu) fun J q sb=>?_;have I1:Inv X j σ H {s with heap:=J}:=I.turned (t':=s.toks) (fun b o hb e=>(sb.2 b hb).trans e) f0 f1 f3 f4 f5;obtain⟨o,e,c,d⟩:=id q;exact⟨u,rfl,Zcb (s:={s with heap:=J}) e c d (by decide) ⟨x,H,I1,ru,⟨rfl,fun ys hy=>by rw[I.list_inj hy O];exact hx⟩,q,fun b hb=>(M b hb).1⟩⟩
 done:=by
  intro X U Y hK hc i j s σ H E I M st hg;subst U Y hK;obtain⟨xs,O,hx⟩:=hg;obtain⟨m8,rv,p,hz⟩:=I.list O;obtain⟨f0,f1,f2,f3,f4,f5⟩:=M it (by simp);have hl:=rv.length;exact wpAny_pyNext_list_end (I.ok.hd hc) st p.isList (by simp;omega) fun J eb=>⟨rfl,I.turned (t':=s.toks) (fun b o hb e=>eb b o hb e) f0 f1 f3 f4 f5⟩
 self:=fun _ _ _ _ _ st h=>wpAny_pyIter_listiter st h
theorem ZcC {P:Program}{w:World}{K:ab}{tg:Expr}(a it:Addr):UD P w K tg (Itt K a) [it] it (fun i h=>h.IsTupleIter it a i) where
 mem:=by simp
 obj:=fun i h st b hb=>by
  have e:b=it:=by simpa using hb
  subst e;obtain⟨o,e,c,d⟩:=st;exact⟨o,e,fun v z=>by rw[d] at z;cases z⟩
 keep:=fun i h M st k=>st.at fun o e=>k it (by simp) o e
 item:=by
  intro X Y hw hK hc i j s σ H E I O st hg;subst Y hw hK;obtain⟨xs,x,U,hx⟩:=hg;obtain⟨q,rv,p,hz⟩:=I.tuple U;obtain⟨u,hu,ru⟩:=rv.get hx;obtain⟨f0,f1,f2,f3,f4,f5⟩:=O it (by simp);refine wpAny_pyNext_tuple_item st (show s.heap.IsTuple a q.toArray from p) (x:=u) (by simpa using hu) fun M J sb=>?_;have I1:Inv X j σ H {s with heap:=M}:=I.turned (t':=s.toks) (fun b o hb e=>(sb.2 b hb).trans e) f0 f1 f3 f4 f5;obtain⟨o,e,c,d⟩:=id J;exact⟨u,rfl,Zcb (s:={s with heap:=M}) e c d (by decide) ⟨x,H,I1,ru,⟨rfl,fun ys hy=>by rw[I.tuple_inj hy U];exact hx⟩,J,fun b hb=>(O b hb).1⟩⟩
 done:=by
  intro X Y hw hK hc i j s σ H E I O st hg;subst Y hw hK;obtain⟨xs,U,hx⟩:=hg;obtain⟨q,rv,p,hz⟩:=I.tuple U;obtain⟨f0,f1,f2,f3,f4,f5⟩:=O it (by simp);have hl:=rv.length;exact wpAny_pyNext_tuple_end (I.ok.hd hc) st (show s.heap.IsTuple a q.toArray from p) (by simp;omega) fun M eb=>⟨rfl,I.turned (t':=s.toks) (fun b o hb e=>eb b o hb e) f0 f1 f3 f4 f5⟩
 self:=fun _ _ _ _ _ st h=>wpAny_pyIter_tupleiter st h
theorem ZcD {P:Program}{w:World}{K:ab}{tg:Expr}(it:Addr)(lo:Int)(n:Nat):UD P w K tg (Itr lo n) [it] it (fun i h=>gR h it (lo+(i:Nat)*1) ((n:Int)-(i:Nat)) 1) where
 mem:=by simp
 obj:=fun i h st b hb=>by
  have e:b=it:=by simpa using hb
  subst e;exact⟨_,st,fun v z=>by
   have z':gm _=fU v:=z;cases z'⟩
 keep:=fun i h J st k=>k it (by simp) _ st
 item:=by
  intro X O U Y hc i j s σ H E I M st hg;subst O U Y;obtain⟨f0,f1,f2,f3,f4,f5⟩:=M it (by simp);have W:=kR (prog:=X.prog) (w:=X.w) (I.ok.hd hc) it lo 1 n;refine W.item i s _ _ hg st fun v J tk hv q kk=>?_;obtain⟨t,rfl⟩:=hv;have I1:Inv X j σ H {s with heap:=J,toks:=tk}:=I.turned (fun b o hb e=>kk b o (by simpa using hb) e) f0 f1 f3 f4 f5;refine⟨_,rfl,Zcb (s:={s with heap:=J,toks:=tk}) (n:="range_iterator") q rfl rfl (by decide) ⟨.int (lo+i),H,I1,⟨t,?_⟩,⟨rfl,rfl⟩,q,fun b hb=>(M b hb).1⟩⟩;rw[iC]
 done:=by
  intro X O U Y hc i j s σ H E I M st hg;subst O U Y;obtain⟨f0,f1,f2,f3,f4,f5⟩:=M it (by simp);exact ix (I.ok.hd hc) st (by have:n<=i:=hg;omega) fun J eb=>⟨rfl,I.turned (t':=s.toks) (fun b o hb e=>eb b o hb e) f0 f1 f3 f4 f5⟩
 self:=fun _ _ _ _ _ st h=>iy st h
section
variable {X:Cx}{tg:Expr}
noncomputable def Zkj (K:ab)(q:TE):TI:=fun J H R=>q J H fun x j=>∃a,x=.ref a/\(∃M,Wx K j a M)/\R (Itl K a) j
noncomputable def Znj (K:ab)(q:TE):TI:=fun J H R=>q J H fun x j=>∃a,x=.ref a/\(∃M,JF K j a M)/\R (Itt K a) j
theorem ZiG {l:Expr}{O:TE}(U:PE X l O):PI X tg l (Zkj X.K O):=by
 intro j s Y H R I h;refine Yg (U j s Y H _ I h) fun v J ⟨x,H1,M,r1,q1⟩=>?_;obtain⟨a,e,⟨xs,hq⟩,q⟩:=q1;subst e;cases r1;obtain⟨m8,rv,p,hz⟩:=M.list hq;refine fw p.isList ?_;refine⟨J.heap.objs.size,[J.heap.objs.size],_,_,H1,rfl,M.kept (t':=J.toks) fun b o e=>Zn _ e,ZeO a _,⟨_,Zo _ rfl,rfl,rfl⟩,fun b hb=>?_,q⟩;have e:b=J.heap.objs.size:=by simpa using hb
 subst e;exact M.fpOk (Zq _) (M.hok.fresh (Zq _))
theorem ZkY {l:Expr}{U:TE}(Y:PE X l U):PI X tg l (Znj X.K U):=by
 intro j s σ H R I h;refine Yg (Y j s σ H _ I h) fun v J ⟨x,H1,M,r1,q1⟩=>?_;obtain⟨a,e,⟨xs,hq⟩,q⟩:=q1;subst e;cases r1;obtain⟨O,rv,p,hz⟩:=M.tuple hq;refine gF (show J.heap.IsTuple a O.toArray from p) ?_;refine⟨J.heap.objs.size,[J.heap.objs.size],_,_,H1,rfl,M.kept (t':=J.toks) fun b o e=>Zn _ e,ZcC a _,⟨_,Zo _ rfl,rfl,rfl⟩,fun b hb=>?_,q⟩;have e:b=J.heap.objs.size:=by simpa using hb
 subst e;exact M.fpOk (Zq _) (M.hok.fresh (Zq _))
theorem ZbG {J:List (Addr×Obj)}{σ:St}{H:Hp}{s:Shared}{R:It->Hp->Prop}{E:Value->Shared->Prop}{lo j:Int}{t u v:Tok}{tk:Nat}(I:Inv X J σ H s)(O:-(2 ^ 62)<=lo)(U:lo<2 ^ 62)(Y:-(2 ^ 62)<=j)(h4:j<2 ^ 62)
  (q:R (Itr lo (j-lo).toNat) H):wpAny (model X.prog X.w) X.A (pyIter (.ref s.heap.objs.size)) (PIE X J σ tg R) E {s with heap:=s.heap.push {cls:=.type "range",data:=.fields #[.int lo t,.int j u,.int 1 v]},toks:=tk}:=by
 refine jf (ki ..) (small_one O U Y h4) ?_;have M:Inv X J σ H {s with heap:=s.heap.push {cls:=.type "range",data:=.fields #[.int lo t,.int j u,.int 1 v]},toks:=tk}:=I.kept fun b o e=>Zn _ e;refine⟨(s.heap.push {cls:=.type "range",data:=.fields #[.int lo t,.int j u,.int 1 v]}).objs.size,[(s.heap.push {cls:=.type "range",data:=.fields #[.int lo t,.int j u,.int 1 v]}).objs.size],_,_,H,rfl,
  M.kept (t':=tk) fun b o e=>Zn _ e,ZcD _ lo (j-lo).toNat,?_,fun b hb=>?_,q⟩
 ·have e1:lo+((0:Nat):Int)*1=lo:=by simp
  have e2:(((j-lo).toNat:Nat):Int)-((0:Nat):Int)=bf lo j 1:=by rw[rangeSize_one];split <;> omega
  show gR _ _ (lo+((0:Nat):Int)*1) ((((j-lo).toNat:Nat):Int)-((0:Nat):Int)) 1;rw[e1,e2];exact Zo _ rfl
 ·have e:b=(s.heap.push {cls:=.type "range",data:=.fields #[.int lo t,.int j u,.int 1 v]}).objs.size:=by simpa using hb
  subst e;exact M.fpOk (Zq _) (M.hok.fresh (Zq _))
noncomputable def Zki (q:TA):TI:=fun J H R=>q J H fun M O=>∃j:Int,M=[.int j]/\-(2 ^ 62)<=j/\j<2 ^ 62/\R (Itr 0 j.toNat) O
noncomputable def Zkh (q:TA):TI:=fun J H R=>q J H fun M O=>∃i j:Int,M=[.int i,.int j]/\(-(2 ^ 62)<=i/\i<2 ^ 62/\-(2 ^ 62)<=j/\j<2 ^ 62)/\R (Itr i (j-i).toNat) O
theorem ZeX {a:Expr}{O:TA}{p pos:Pos}(U:Gl X "range")(Y:X.mg "range"=none)(ha:PA X [a] O)(hs:starEach [a] X.env=[(false,eval a X.env)]:=by rfl):PI X tg (.Call (.Name "range" p) [a] [] pos) (Zki O):=by
 intro J s σ H R I h;refine Call_ (Jk I U Y lf (bq (Yg (ha pos J s σ H _ I h) fun us s1 ⟨vs,H1,I1,r1,M⟩=>?_) hs rfl));obtain⟨j,e,M,q2,q⟩:=M;subst e;cases r1 with
 |cons r rr=>
  cases rr;obtain⟨t,rfl⟩:=r;exact call_range_1 (ZbG I1 (by omega) (by omega) M q2 (by simpa using q))
theorem ZeW {a b:Expr}{Y:TA}{p pos:Pos}(hg:Gl X "range")(hm:X.mg "range"=none)(ha:PA X [a,b] Y)(hs:starEach [a,b] X.env=[(false,eval a X.env),(false,eval b X.env)]:=by rfl)(J:starEach [b] X.env=[(false,eval b X.env)]:=by rfl) :
  PI X tg (.Call (.Name "range" p) [a,b] [] pos) (Zkh Y):=by
 intro M s σ H R I h;refine Call_ (Jk I hg hm lf (bq (Yg (ha pos M s σ H _ I h) fun us s1 ⟨vs,H1,I1,r1,O⟩=>?_) (by rw[hs,J]) (by rw[J];rfl)));obtain⟨i,j,e,⟨O,q2,q3,q4⟩,q⟩:=O;subst e;cases r1 with
 |cons r U=>
  cases U with
  |cons r' U=>
   cases U;obtain⟨t,rfl⟩:=r;obtain⟨t',rfl⟩:=r';exact call_range_2 (ZbG I1 O q2 q3 q4 q)
noncomputable def Zot (Y:TI)(g:TG)(tb:TS):TS:=fun D j H=>Y j H fun J H1=>∃W:Nat->Nat->St->Hp->Prop,(∃m,W 0 m j H1)/\∀i m j H,W i m j H->
 (J.stop i H/\D.nx j H)\/(J.go i H/\∃N:St->Hp->Prop,(∀ q M,N q M->∃U,U<m/\W (i+1) U q M)/\∀x M,J.yld i H x M->g x j M fun O H2=>tb {D with nx:=N,ct:=N,bk:=D.nx} O H2)
noncomputable def VS (j:List Addr)(h:Heap):List (Addr×Obj):=j.filterMap fun b=>(h.get? b).map fun o=>(b,o)
theorem Ji {j:List Addr}{h:Heap}{b:Addr}{o:Obj}(hb:b∈j)(e:h.get? b=some o):(b,o)∈VS j h:=iN.mpr ⟨b,hb,by rw[e];rfl⟩
theorem Ze6 {j:List Addr}{h:Heap}{p:Addr×Obj}(J:p∈VS j h):p.1∈j/\h.get? p.1=some p.2:=by
 obtain⟨b,hb,e⟩:=iN.mp J;cases q:h.get? b with
 |none=>rw[q] at e;cases e
 |some o=>
  rw[q] at e;have M:(b,o)=p:=aw e;subst M;exact⟨hb,q⟩
theorem Inv.pinned {j:List (Addr×Obj)}{σ:St}{H:Hp}{s:Shared}{q:List Addr}(I:Inv X j σ H s)(M:∀b∈q,UF X j H b)(O:∀b∈q,∃o,s.heap.get? b=some o/\∀v,o.data≠.cell v):Inv X (j++VS q s.heap) σ H s:=
 I.pins_of fun p U=>(bE.mp U).elim (fun z=>I.pin p (aV _ z)) fun z=>by
  obtain⟨hb,e⟩:=Ze6 z;obtain⟨Y,f1,f2,_⟩:=M p.1 hb;obtain⟨o,J,d⟩:=O p.1 hb;rw[e] at J;cases J;exact⟨e,Y,f1,f2,d⟩
theorem Inv.unpinned {j pl:List (Addr×Obj)}{σ:St}{H:Hp}{s:Shared}(I:Inv X (j++pl) σ H s):Inv X j σ H s:=I.pins_of fun p q=>I.pin p (aV _ (b8 _ q))
theorem ZR {iter:Expr}{body:List Stmt}{wi:TI}{g:TG}{tb:TS}{pos:Pos}(hp:PassesOwn (model X.prog X.w) X.A X.env X.xe)(hc:X.calm=true)(hi:PI X tg iter wi)(hg:PG X tg g)(hb:PSs X body tb)
  (hs:∀x,foldedSetIterable iter X.env x=pure x:=by intro _;rfl):PS X (.For tg iter body [] pos) (Zot wi g tb):=by
 intro j s σ H D I h;refine wpAny_For (Yg (hi j s σ H _ I h) fun v s1 h1=>Yg h1 fun o5 s2 h2=>?_) hs;obtain⟨it,fp,tn,J,H2,e,I2,T,n6,f2,W,⟨m0,w0⟩,turn⟩:=h2;subst e;have M:∀{H':Hp},(∀b∈fp,H' b=none)->∀b∈fp,UF X j H' b:=fun hn b hb=>⟨hn b hb,(f2 b hb).2⟩;refine codeAny_forLoop_any (fun n s'=>∃i O H',Inv X j O H' s'/\tn i s'.heap/\(∀b∈fp,H' b=none)/\W i n O H') ?_ m0 ⟨0,σ,H2,I2,n6,fun b hb=>(f2 b hb).1,w0⟩;rintro n s3 ⟨i,U,H3,I3,m9,n4,w3⟩;rcases turn i n U H3 w3 with ⟨stop,qn⟩|⟨go,N,hN,step⟩
 ·refine dQ hp (Yg (T.done X rfl rfl rfl hc i j s3 U H3 X.xe I3 (M n4) m9 stop) fun r s4 ⟨hr,I4⟩=>?_)
  subst hr;exact iE ⟨U,H3,I4,qn⟩
 ·refine dQ hp (Yg (T.item X rfl rfl rfl hc i j s3 U H3 X.xe I3 (M n4) m9 go) fun r s4 ⟨u,hr,h4⟩=>?_)
  subst hr;refine dQ hp (Yg h4 fun _ s5 ⟨x,H5,I5,r5,y5,m8,n8⟩=>?_);have n9:=I5.pinned (M n8) (T.obj _ _ m8);refine dQ hp (Yg (hg _ s5 U H5 x u _ n9 r5 (step x H5 y5)) fun _ s6 ⟨o0,H6,I6,q6⟩=>?_);refine dQ hp (Yg (hb _ s6 o0 H6 _ I6 q6) fun f s7 q7=>?_);have again:∀{q:St}{Y:Hp},Inv X (j++VS fp s5.heap) q Y s7->N q Y->∃m,m<n/\∃i O H',Inv X j O H' s7/\tn i s7.heap/\(∀b∈fp,H' b=none)/\W i m O H':=fun {q Y} I7 n7=>by
   obtain⟨m',hm,w7⟩:=hN q Y n7;refine⟨m',hm,i+1,q,Y,I7.unpinned,T.keep _ _ _ m8 fun b hb o e=>(I7.pin (b,o) (aV _ (aV _ (Ji hb e)))).1,fun b hb=>?_,w7⟩;obtain⟨o,e,d⟩:=T.obj _ _ m8 b hb;exact (I7.pin (b,o) (aV _ (aV _ (Ji hb e)))).2.1
  cases f with
  |next=>obtain⟨q,Y,I7,n7⟩:=q7;exact again I7 n7
  |cont=>obtain⟨q,Y,I7,n7⟩:=q7;exact again I7 n7
  |brk=>obtain⟨q,Y,I7,q7⟩:=q7;exact⟨q,Y,I7.unpinned,q7⟩
  |ret v=>obtain⟨x7,q,Y,I7,r7,q7⟩:=q7;exact⟨x7,q,Y,I7.unpinned,r7,q7⟩
end
theorem Zet {K:ab}{a:Addr}{xs:List V}{g:TG}{tb:TS}{D:J8}{σ:St}{H:Hp}(Pv:Nat->St->Hp->Prop)(h0:Pv 0 σ H)(hl:∀i σ H,i<=xs.length->Pv i σ H->JF K H a xs)
  (hs:∀i x σ H,xs[i]?=some x->Pv i σ H->g x σ H fun j U=>tb {D with nx:=Pv (i+1),ct:=Pv (i+1),bk:=D.nx} j U) (hd:∀ σ H,Pv xs.length σ H->D.nx σ H) :
  ∃W:Nat->Nat->St->Hp->Prop,(∃m,W 0 m σ H)/\∀i m σ H,W i m σ H->
   ((Itt K a).stop i H/\D.nx σ H)\/((Itt K a).go i H/\∃N:St->Hp->Prop,(∀ J M,N J M->∃Y,Y<m/\W (i+1) Y J M)/\∀x M,(Itt K a).yld i H x M->g x σ M fun j U=>tb {D with nx:=N,ct:=N,bk:=D.nx} j U):=by
 refine⟨fun i m σ H=>m=xs.length-i/\i<=xs.length/\Pv i σ H,⟨xs.length,by simp,aZ _,h0⟩,?_⟩;rintro i m σ H ⟨rfl,hi,p⟩;have q:=hl i σ H hi p;by_cases O:i<xs.length
 ·refine .inr ⟨⟨xs,xs[i],q,by simp[O]⟩,Pv (i+1),fun J M p'=>⟨xs.length-(i+1),by omega,rfl,O,p'⟩,fun x M y=>?_⟩
  obtain⟨e,y⟩:=y;subst e;exact hs i x σ _ (y xs q) p
 ·have e:i=xs.length:=by omega
  subst e;exact .inl ⟨⟨xs,q,Zq _⟩,hd σ H p⟩
theorem Y3 {lo:Int}{n:Nat}{g:TG}{tb:TS}{D:J8}{σ:St}{H:Hp}(Pv:Nat->St->Hp->Prop)(h0:Pv 0 σ H)
  (Y:∀i σ H,i<n->Pv i σ H->g (.int (lo+i)) σ H fun j O=>tb {D with nx:=Pv (i+1),ct:=Pv (i+1),bk:=D.nx} j O) (hd:∀ σ H,Pv n σ H->D.nx σ H) :
  ∃W:Nat->Nat->St->Hp->Prop,(∃m,W 0 m σ H)/\∀i m σ H,W i m σ H->
   ((Itr lo n).stop i H/\D.nx σ H)\/((Itr lo n).go i H/\∃N:St->Hp->Prop,(∀ q J,N q J->∃U,U<m/\W (i+1) U q J)/\∀x J,(Itr lo n).yld i H x J->g x σ J fun j O=>tb {D with nx:=N,ct:=N,bk:=D.nx} j O):=by
 refine⟨fun i m σ H=>m=n-i/\i<=n/\Pv i σ H,⟨n,by simp,aZ _,h0⟩,?_⟩;rintro i m σ H ⟨rfl,hi,p⟩;by_cases M:i<n
 ·refine .inr ⟨M,Pv (i+1),fun q J p'=>⟨n-(i+1),by omega,rfl,M,p'⟩,fun x J y=>?_⟩
  obtain⟨e,y⟩:=y;subst e y;exact Y i σ _ M p
 ·have e:i=n:=by omega
  subst e;exact .inl ⟨Zq _,hd σ H p⟩
noncomputable abbrev R2:=V->V->Hp->VK->Prop
noncomputable def Vx (X:Cx)(f:Value->Value->Sem Value)(r:R2):Prop:=
 ∀(j:List (Addr×Obj)) (s:Shared) (q:St) (H:Hp) (x y:V) (v u:Value) (Q:VK),Inv X j q H s->RelV x v->RelV y u->r x y H Q->
  wpAny (model X.prog X.w) X.A (f v u) (EP X j q Q) X.xe s
noncomputable def UnR (X:Cx)(f:Value->Sem Value)(r:V->Hp->VK->Prop):Prop:=
 ∀(j:List (Addr×Obj)) (s:Shared) (q:St) (H:Hp) (x:V) (v:Value) (Q:VK),Inv X j q H s->RelV x v->r x H Q->
  wpAny (model X.prog X.w) X.A (f v) (EP X j q Q) X.xe s
noncomputable def Yo (X:Cx)(f:Value)(r:List V->Hp->VK->Prop):Prop:=
 ∀(j:List (Addr×Obj)) (s:Shared) (q:St) (H:Hp) (J:List V) (M:List Value) (Q:VK),Inv X j q H s->ZK J M->r J H Q->
  wpAny (model X.prog X.w) X.A (call f M) (EP X j q Q) X.xe s
noncomputable def tOp (r:R2)(q tb:TE):TE:=fun j H Q=>q j H fun x J=>tb j J fun y M=>r x y M Q
noncomputable def tUn (r:V->Hp->VK->Prop)(j:TE):TE:=fun q H Q=>j q H fun x J=>r x J Q
noncomputable def rI (C:Int->Int->Prop)(g:Int->Int->V):R2:=fun x y H Q=>∃i j,x=.int i/\y=.int j/\C i j/\Q (g i j) H
noncomputable def rI0 (g:Int->Int->V):R2:=fun x y H Q=>∃i j,x=.int i/\y=.int j/\Q (g i j) H
noncomputable def rU (g:Int->V):V->Hp->VK->Prop:=fun x H Q=>∃i,x=.int i/\Q (g i) H
section
variable {X:Cx}{a b c:Expr}{ta tb tc:TE}{pos:Pos}
theorem Zl2 (Y:PE X a ta)(hb:PE X b tb){j:List (Addr×Obj)}{s:Shared}{σ:St}{H:Hp}{R:V->V->Hp->Prop}(I:Inv X j σ H s)
  (h:ta σ H fun x U=>tb σ U fun y q=>R x y q) {Q:Value->Shared->Prop}{f:Value->Value->Sem Value}
  (hf:∀v u O x y q,Inv X j σ q O->RelV x v->RelV y u->R x y q->wpAny (model X.prog X.w) X.A (f v u) Q X.xe O) :
  wpAny (model X.prog X.w) X.A (eval a X.env) (fun v J=>wpAny (model X.prog X.w) X.A (eval b X.env) (fun u M=>wpAny (model X.prog X.w) X.A (f v u) Q X.xe M) X.xe J) X.xe s:=by
 refine Yg (Y j s σ H _ I h) fun v s1 ⟨x,U,I1,r1,q1⟩=>?_;refine Yg (hb j s1 σ U _ I1 q1) fun u O ⟨y,q,I2,r2,q2⟩=>?_;exact hf v u O x y q I2 r1 r2 q2
theorem Zz {op:kW}{r:R2}(J:Vx X (binaryOp op) r)(M:PE X a ta)(hb:PE X b tb):PE X (.BinOp a op b pos) (tOp r ta tb):=by
 intro j s O H Q I h;exact wpAny_BinOp (Zl2 M hb I h fun v u U x y Y I2 rx ry q=>J j U O Y x y v u Q I2 rx ry q)
theorem Xn {op:UnaryOp}{r:V->Hp->VK->Prop}(J:UnR X (unaryOp op) r)(M:PE X a ta):PE X (.UnaryOp op a pos) (tUn r ta):=by
 intro j s q H Q I h;exact UnaryOp_ (Yg (M j s q H _ I h) fun v O ⟨x,U,Y,r1,q1⟩=>J j O q U x v Q Y r1 q1)
theorem opI {f:Value->Value->Sem Value}{C:Int->Int->Prop}{g:Int->Int->Int}
  (rule:∀(i j:Int) (t u:Tok) (s:Shared) (Q:Value->Shared->Prop) (E:Value->Shared->Prop),C i j->Q (.int (g i j) s.toks) {s with toks:=s.toks+1}->wpAny (model X.prog X.w) X.A (f (.int i t) (.int j u)) Q E s) :
  Vx X f (rI C fun i j=>.int (g i j)):=by
 intro J s σ H x y v u Q I M O h;obtain⟨i,j,rfl,rfl,U,q⟩:=h;obtain⟨t,rfl⟩:=M;obtain⟨Y,rfl⟩:=O;exact rule i j t Y s _ _ U ⟨.int (g i j),H,I.tok _,⟨_,rfl⟩,q⟩
theorem Znc {f:Value->Value->Sem Value}{g:Int->Int->Int}
  (rule:∀(i j:Int) (t u:Tok) (s:Shared) (Q:Value->Shared->Prop) (E:Value->Shared->Prop),Q (.int (g i j) s.toks) {s with toks:=s.toks+1}->wpAny (model X.prog X.w) X.A (f (.int i t) (.int j u)) Q E s) :
  Vx X f (rI0 fun i j=>.int (g i j)):=by
 intro J s Y H x y v u Q I M O h;obtain⟨i,j,rfl,rfl,q⟩:=h;obtain⟨t,rfl⟩:=M;obtain⟨U,rfl⟩:=O;exact rule i j t U s _ _ ⟨.int (g i j),H,I.tok _,⟨_,rfl⟩,q⟩
theorem Zk9 {f:Value->Value->Sem Value}{g:Int->Int->Bool}
  (rule:∀(i j:Int) (t u:Tok) (s:Shared) (Q:Value->Shared->Prop) (E:Value->Shared->Prop),Q (.bool (g i j)) s->wpAny (model X.prog X.w) X.A (f (.int i t) (.int j u)) Q E s) :
  Vx X f (rI0 fun i j=>.bl (g i j)):=by
 intro J s Y H x y v u Q I M O h;obtain⟨i,j,rfl,rfl,q⟩:=h;obtain⟨t,rfl⟩:=M;obtain⟨U,rfl⟩:=O;exact rule i j t U s _ _ ⟨.bl (g i j),H,I,rfl,q⟩
noncomputable def Zo3 (i j:Int):Prop:=0<j/\j<1073741824
noncomputable def Zo2 (i j:Int):Prop:=0<=j/\j<=1000000/\i.natAbs<2 ^ 64
noncomputable def Zmm (i j:Int):Prop:=(-(2 ^ 64)<i/\i<2 ^ 64)\/(-(2 ^ 64)<j/\j<2 ^ 64)
theorem Zmm.ok {i j:Int}(h:Zmm i j):IntMulOk i j:=by
 rcases h with ⟨q,J⟩|⟨q,J⟩
 ·exact .of_left (intBits_le_64 q J)
 ·exact .of_right (intBits_le_64 q J)
theorem YR:Vx X (binaryOp .Add) (rI0 fun i j=>.int (i+j)):=Znc fun _ _ _ _ _ _ _ q=>add_int q
theorem Wh:Vx X (binaryOp .Sub) (rI0 fun i j=>.int (i-j)):=Znc fun _ _ _ _ _ _ _ q=>sub_int q
theorem ZQ:Vx X (binaryOp .Mult) (rI Zmm fun i j=>.int (i*j)):=opI fun _ _ _ _ _ _ _ J q=>mul_int q J.ok
theorem Jg:Vx X (binaryOp .FloorDiv) (rI Zo3 fun i j=>.int (i / j)):=opI fun i j _ _ _ _ _ J q=>by
 have M:(0:Int)<j:=J.1;have O:j<1073741824:=J.2;exact floordiv_int (by omega) (by rw[Int.fdiv_eq_ediv_of_nonneg i (by omega)];exact q) (.inl (jV (by omega)))
theorem Z3:Vx X (binaryOp .Mod) (rI (fun _ j=>0<j) fun i j=>.int (i % j)):=opI fun i j _ _ _ _ _ J q=>by
 have M:(0:Int)<j:=J;exact mod_int' (by omega) (by rw[Int.fmod_eq_emod_of_nonneg i (by omega)];exact q)
theorem Zk7:Vx X (binaryOp .Pow) (rI Zo2 fun i j=>.int (i ^ j.toNat)):=opI fun _ _ _ _ _ _ _ J q=>pow_int_small J.1 J.2.1 J.2.2 q
theorem unI {f:Value->Sem Value}{g:Int->Int}
  (rule:∀(i:Int) (t:Tok) (s:Shared) (Q:Value->Shared->Prop) (E:Value->Shared->Prop),Q (.int (g i) s.toks) {s with toks:=s.toks+1}->wpAny (model X.prog X.w) X.A (f (.int i t)) Q E s) :
  UnR X f (rU fun i=>.int (g i)):=by
 intro j s M H x v Q I J h;obtain⟨i,rfl,q⟩:=h;obtain⟨t,rfl⟩:=J;exact rule i t s _ _ ⟨.int (g i),H,I.tok _,⟨_,rfl⟩,q⟩
theorem Jc:UnR X (unaryOp .USub) (rU fun i=>.int (-i)):=unI fun _ _ _ _ _ q=>neg_int q
end
noncomputable def ZmO:V->V->Bool
 | .non,.non=>true | .non,.int _=>true | .int _,.non=>true | .non,.bl _=>true | .bl _,.non=>true | .non,.str _=>true | .str _,.non=>true
 | .int _,.int _=>true | .bl _,.bl _=>true | .str _,.str _=>true | .byt _,.byt _=>true
 | .int _,.str _=>true | .str _,.int _=>true | .bl _,.str _=>true | .str _,.bl _=>true
 |_,_=>false
noncomputable def rEq:R2:=fun x y H Q=>ZmO x y=true/\Q (.bl (decide (x=y))) H
noncomputable def rNe:R2:=fun x y H Q=>ZmO x y=true/\Q (.bl (!decide (x=y))) H
theorem Yh {i j:Int}:decide (V.int i=V.int j)=(i == j):=by
 rw[fM];simp
theorem ZhM {i j:Bool}:decide (V.bl i=V.bl j)=(i == j):=by
 rw[fM];simp
theorem Zey {i j:Str}:decide (V.str i=V.str j)=(i == j):=by
 rw[fM];simp
theorem Zez {i j:Array UInt8}:decide (V.byt i=V.byt j)=(i.toList == j.toList):=by
 rw[fM];cases i;cases j;simp
section
variable {X:Cx}{a b c:Expr}{ta tb tc:TE}{pos:Pos}
theorem ZX {j:List (Addr×Obj)}{σ:St}{H:Hp}{s:Shared}{Q:VK}{k J:Bool}(I:Inv X j σ H s)(q:Q (.bl k) H)(e:k=J):EP X j σ Q (.bool J) s:=by
 subst e;exact⟨.bl k,H,I,rfl,q⟩
theorem ZbN:Vx X (compareOp .Eq) rEq:=by
 intro Y s σ H x y v u Q I U J h;obtain⟨O,q⟩:=h;cases x with
 |non=>
  cases U;cases y with
  |non=>cases J;exact PySem.EqNone.eq_none_none (ZX I q (by simp))
  |bl j=>cases J;exact PySem.EqNone.eq_none_bool (ZX I q (by simp))
  |int j=>obtain⟨M,rfl⟩:=J;exact PySem.EqNone.eq_none_int (ZX I q (by simp))
  |str j=>obtain⟨M,rfl⟩:=J;exact PySem.EqNone.eq_none_str (ZX I q (by simp))
  |_=>exact absurd (show false=true from O) aJ
 |bl i=>
  cases U;cases y with
  |non=>cases J;exact PySem.EqNone.eq_bool_none (ZX I q (by simp))
  |bl j=>cases J;exact eq_bool (ZX I q ZhM)
  |str j=>obtain⟨M,rfl⟩:=J;exact PySem.EqMixed.eq_bool_str (ZX I q (by simp))
  |_=>exact absurd (show false=true from O) aJ
 |int i=>
  obtain⟨t,rfl⟩:=U;cases y with
  |non=>cases J;exact PySem.EqNone.eq_int_none (ZX I q (by simp))
  |int j=>obtain⟨M,rfl⟩:=J;exact eq_int (ZX I q Yh)
  |str j=>obtain⟨M,rfl⟩:=J;exact PySem.EqMixed.eq_int_str (ZX I q (by simp))
  |_=>exact absurd (show false=true from O) aJ
 |str i=>
  obtain⟨t,rfl⟩:=U;cases y with
  |non=>cases J;exact PySem.EqNone.eq_str_none (ZX I q (by simp))
  |bl j=>cases J;exact PySem.EqMixed.eq_str_bool (ZX I q (by simp))
  |int j=>obtain⟨M,rfl⟩:=J;exact PySem.EqMixed.eq_str_int (ZX I q (by simp))
  |str j=>obtain⟨M,rfl⟩:=J;exact eq_str (ZX I q Zey)
  |_=>exact absurd (show false=true from O) aJ
 |byt i=>
  obtain⟨t,rfl⟩:=U;cases y with
  |byt j=>obtain⟨M,rfl⟩:=J;exact PySem.W.eq_bytes (ZX I q Zez)
  |_=>exact absurd (show false=true from O) aJ
 |_=>cases y <;> exact absurd (show false=true from O) aJ
theorem JY:Vx X (compareOp .NotEq) rNe:=by
 intro Y s σ H x y v u Q I U J h;obtain⟨O,q⟩:=h;cases x with
 |non=>
  cases U;cases y with
  |non=>cases J;exact PySem.EqNone.ne_none_none (ZX I q (by simp))
  |bl j=>cases J;exact PySem.EqNone.ne_none_bool (ZX I q (by simp))
  |int j=>obtain⟨M,rfl⟩:=J;exact PySem.EqNone.ne_none_int (ZX I q (by simp))
  |str j=>obtain⟨M,rfl⟩:=J;exact PySem.EqNone.ne_none_str (ZX I q (by simp))
  |_=>exact absurd (show false=true from O) aJ
 |bl i=>
  cases U;cases y with
  |non=>cases J;exact PySem.EqNone.ne_bool_none (ZX I q (by simp))
  |bl j=>cases J;exact ne_bool (ZX I q (congrArg not ZhM))
  |str j=>obtain⟨M,rfl⟩:=J;exact PySem.EqMixed.ne_bool_str (ZX I q (by simp))
  |_=>exact absurd (show false=true from O) aJ
 |int i=>
  obtain⟨t,rfl⟩:=U;cases y with
  |non=>cases J;exact PySem.EqNone.ne_int_none (ZX I q (by simp))
  |int j=>obtain⟨M,rfl⟩:=J;exact ne_int (ZX I q (congrArg not Yh))
  |str j=>obtain⟨M,rfl⟩:=J;exact PySem.EqMixed.ne_int_str (ZX I q (by simp))
  |_=>exact absurd (show false=true from O) aJ
 |str i=>
  obtain⟨t,rfl⟩:=U;cases y with
  |non=>cases J;exact PySem.EqNone.ne_str_none (ZX I q (by simp))
  |bl j=>cases J;exact PySem.EqMixed.ne_str_bool (ZX I q (by simp))
  |int j=>obtain⟨M,rfl⟩:=J;exact PySem.EqMixed.ne_str_int (ZX I q (by simp))
  |str j=>obtain⟨M,rfl⟩:=J;exact ne_str (ZX I q (congrArg not Zey))
  |_=>exact absurd (show false=true from O) aJ
 |byt i=>
  obtain⟨t,rfl⟩:=U;cases y with
  |byt j=>obtain⟨M,rfl⟩:=J;exact PySem.W.ne_bytes (ZX I q (congrArg not Zez))
  |_=>exact absurd (show false=true from O) aJ
 |_=>cases y <;> exact absurd (show false=true from O) aJ
theorem ZbM:Vx X (compareOp .Lt) (rI0 fun i j=>.bl (decide (i<j))):=Zk9 fun _ _ _ _ _ _ _ q=>lt_int q
theorem Znb:Vx X (compareOp .LtE) (rI0 fun i j=>.bl (decide (i<=j))):=Zk9 fun _ _ _ _ _ _ _ q=>le_int q
theorem Zeb:Vx X (compareOp .Gt) (rI0 fun i j=>.bl (decide (j<i))):=Zk9 fun _ _ _ _ _ _ _ q=>gt_int q
theorem Z1 (b:Expr){op:CmpOp}(h:op≠.In:=by decide)(j:op≠.NotIn:=by decide):behindInMarks op b=false:=by
 have q:(op == CmpOp.In)=false:=by cases op <;> first|rfl|exact absurd rfl h
 have J:(op == CmpOp.NotIn)=false:=by cases op <;> first|rfl|exact absurd rfl j
 cases b <;> simp[behindInMarks,q,J]
theorem Zd9 {op:CmpOp}{r:R2}(J:Vx X (compareOp op) r)(M:PE X a ta)(hb:PE X b tb)(O:behindInMarks op b=false):PE X (.Compare a [op] [b] pos) (tOp r ta tb):=by
 intro j s U H Q I h;exact wpAny_Compare1 (Zl2 M hb I h fun v u Y x y H2 I2 rx ry q=>J j Y U H2 x y v u Q I2 rx ry q) O
noncomputable def ZmE (t:TE):TT:=fun j H Q=>t j H fun x q=>∃k,x=.bl k/\Q k q
theorem ZT {op:CmpOp}{r:R2}(J:Vx X (compareOp op) r)(M:PE X a ta)(hb:PE X b tb)(O:behindInMarks op b=false):PT X (.Compare a [op] [b] pos) (ZmE (tOp r ta tb)):=by
 intro j s q H Q I h;refine mG (Yg (M j s q H _ I h) fun v U ⟨x,Y,I1,r1,q1⟩=>Yg (hb j U q Y _ I1 q1) fun u s2 ⟨y,H2,I2,r2,q2⟩=>
  Yg (J j s2 q H2 x y v u _ I2 r1 r2 q2) fun c s3 ⟨z,H3,I3,r3,k,e,q3⟩=>?_) O
 subst e;cases r3;exact gO ⟨H3,I3,q3⟩
theorem XT:(sizeLine:Nat)<2 ^ 63:=by rw[fS];decide
theorem vals1 {x:V}{us:List Value}(r:ZK [x] us):∃u,us=[u]/\RelV x u:=by
 cases r with
 |cons r1 j=>cases j;exact⟨_,rfl,r1⟩
theorem vals2 {x y:V}{us:List Value}(r:ZK [x,y] us):∃u j,us=[u,j]/\RelV x u/\RelV y j:=by
 cases r with
 |cons r1 q=>
  cases q with
  |cons J M=>cases M;exact⟨_,_,rfl,r1,J⟩
theorem ZfC (O:X.calm=true):Yo X (.builtin "max") (fun xs H Q=>∃i j,xs=[.int i,.int j]/\Q (.int (if j > i then j else i)) H):=by
 intro M s U H xs Y Q I r h;obtain⟨i,j,rfl,q⟩:=h;obtain⟨u,w',rfl,⟨t,rfl⟩,⟨t',rfl⟩⟩:=vals2 r;refine max_two_ints (I.ok.hd O) fun h' tk k=>⟨_,H,I.kept k,?_,q⟩;by_cases J:j > i
 ·rw[if_pos J,if_pos J];exact⟨_,rfl⟩
 ·rw[if_neg J,if_neg J];exact⟨_,rfl⟩
end
section
variable {prog:Program}{w:World}{A:Around}{E:Value->Shared->Prop}{s:Shared}{K:ab}{x dx C f:Addr}{mA:Str->Option Value}{name:Str}{v:Value}
end
theorem UE.some_of {v:V}{o:Option Value}(r:UE (some v) o):∃u,o=some u/\RelV v u:=by
 cases o with
 |none=>exact (show False from r).elim
 |some u=>exact⟨u,rfl,r⟩
section
variable {P:Program}{w:World}{H H':Hp}{h h':Heap}{a C dx:Addr}{fs fs':List (Str×V)}
end
section
variable {X:Cx}{pins:List (Addr×Obj)}{σ:St}{H:Hp}{s:Shared}{a C dx:Addr}{fs:List (Str×V)}{f:Str}{v:V}{A:Around}{E:Value->Shared->Prop}
end
section
variable {X:Cx}{o e value:Expr}{f:Str}{pos pos' tpos:Pos}{ta tv:TE}
end
section
variable {X:Cx}{pins:List (Addr×Obj)}{σ:St}{H:Hp}{s:Shared}{A:Around}{E:Value->Shared->Prop}{Q:Value->Shared->Prop}{c:Value}{b:Bool}
end
structure W9 (k:Nat)(A:Around):Prop where
 hd:A.handled=none
 dp:A.depth+3*k+5<recursionLimit
 un:A.units+16*k+200<cLine
 gd:A.guards=some []
theorem W9.mono {j k:Nat}{A:Around}(r:W9 k A)(h:j<=k):W9 j A:=⟨r.hd,by have:=r.dp;omega,by have:=r.un;omega,r.gd⟩
theorem W9.deeper {k:Nat}{A:Around}(r:W9 (k+1) A)(env:Env):W9 k (A.deeper env):=
 ⟨r.hd,by have:=r.dp;show A.depth+1+3*k+5<_;omega,by have:=r.un;show A.units+3+16*k+200<_;omega,r.gd⟩
theorem W9.depth {k:Nat}{A:Around}(r:W9 k A):A.depth<recursionLimit:=by have:=r.dp;omega
theorem W9.units {k:Nat}{A:Around}(r:W9 k A):A.units+64<cLine:=by have:=r.un;omega
noncomputable def Zij:TA:=fun _ H Q=>Q [] H
noncomputable def Zbh (q:TE)(J:TA):TA:=fun j H Q=>q j H fun x M=>J j M fun O U=>Q (x::O) U
section
variable {X:Cx}{e:Expr}{es:List Expr}{te:TE}{t:TA}{pos:Pos}
theorem Zu:PA X [] Zij:=fun _ _ _ _ H Q I h=>l6 ⟨[],H,I,.nil,h⟩
theorem ZiR (J:PE X e te)(M:PA X es t)(O:starEach (e::es) X.env=(false,eval e X.env)::starEach es X.env:=by rfl):PA X (e::es) (Zbh te t):=by
 intro pos j s q H Q I h;rw[O];show wpAny _ _ (spliced ((false,eval e X.env)::backTo pos (starEach es X.env))) _ _ s;refine lQ (Yg (J j s q H _ I h) fun u U ⟨x,Y,I1,r1,q1⟩=>?_);exact Yg (M pos j U q Y _ I1 q1) fun us s2 ⟨xs,H2,I2,r2,q2⟩=>⟨x::xs,H2,I2,.cons r1 r2,q2⟩
noncomputable def Zoq (t:TA):TE:=fun J H Q=>t J H fun j q=>j.length<=sizeLine/\∀p,q p=none->Q (.ref p) (upd q p (.tup j))
noncomputable def ZkE (t:TA):TE:=fun J H Q=>t J H fun j q=>j.length<=sizeLine/\∀p,q p=none->Q (.ref p) (upd q p (.lst j))
theorem Zk1 {U}(h:PA X es t):PE X (.Tuple es U pos) (Zoq t):=by
 intro j s Y H Q I hq;refine wpAny_Tuple_spliced (Yg (h pos j s Y H _ I hq) fun us J ⟨xs,M,O,r,z,q⟩=>⟨by rw[<-r.length];exact z,?_⟩);have hf:M J.heap.objs.size=none:=O.hok.fresh (Zq _);refine⟨.ref J.heap.objs.size,upd M J.heap.objs.size (.tup xs),O.laid (t':=J.toks) (fun b u e=>Zn _ e) (Zq _) ?_,rfl,q _ hf⟩;exact⟨z,us,r,⟨_,Zo _ rfl,rfl,_,rfl⟩⟩
theorem ZS (h:PA X es t):PE X (.List es pos) (ZkE t):=by
 intro j s U H Q I Y;refine wpAny_List_spliced (Yg (h pos j s U H _ I Y) fun us J ⟨xs,M,O,r,z,q⟩=>⟨by rw[<-r.length];exact z,?_⟩);have hf:M J.heap.objs.size=none:=O.hok.fresh (Zq _);refine⟨.ref J.heap.objs.size,upd M J.heap.objs.size (.lst xs),O.laid (t':=J.toks) (fun b u e=>Zn _ e) (Zq _) ?_,rfl,q _ hf⟩;exact⟨z,us,0,r,Zo _ rfl⟩
end
noncomputable abbrev Sp:=List V->Hp->VK->XK->Prop
noncomputable abbrev CXT:=List Env->Hp->Shared->XK->Value->Shared->Prop
structure ZjO (P:Program)(w:World)(K:ab)(mg:Str->Option Value)(base:Heap)(A:Around)(outer:List Env)(s:Shared)(H:Hp):Prop where
 frames:A.frames=some outer
 mod:Mod K mg base
 bs:∀b o,base.get? b=some o->s.heap.get? b=some o/\H b=none
 bsz:base.objs.size<=s.heap.objs.size
 funs:s.heap.FunFrames base outer
 frf:∀b∈frs outer,H b=none
 hok:XF P w H s.heap
 bare:iA s.gens
noncomputable def CE (outer:List Env)(P:Program)(w:World)(H:Hp)(s:Shared)(Q:VK)(u:Value)(s':Shared):Prop:=
 ∃v j,s'.os=s.os/\iA s'.gens/\Un (frs outer) [] H j s.heap s'.heap/\XF P w j s'.heap/\RelV v u/\Q v j
noncomputable def CR (CX:CXT)(outer:List Env)(P:Program)(w:World)(H:Hp)(s:Shared)(Q:VK)(E:XK)(r:Result)(s':Shared):Prop:=
 match r with
 | .ok (.ret u)=>CE outer P w H s Q u s'
 | .ok _=>False
 | .error e=>CX outer H s E e s'
structure Z5 (P:Program)(w:World)(K:ab)(mg:Str->Option Value)(base:Heap)(CX:CXT)(k:Nat)(f:Addr)(fd:FuncData)(ps:List Str)(sp:Sp):Prop where
 len:∀vs H Q E,sp vs H Q E->vs.length=ps.length
 run:∀(A:Around) (outer:List Env) (s:Shared) (H:Hp) (args:Args) (us:List Value) (vs:List V) (Q:VK) (E:XK),W9 k A->ZjO P w K mg base A outer s H->iX s fd args (ps.zip us)->ZK vs us->sp vs H Q E->
  codeAny (model P w) A (.call (.ref f) args) (CR CX outer P w H s Q E) s
section
variable {X:Cx}{pins:List (Addr×Obj)}{σ:St}{H:Hp}{s s':Shared}
theorem Inv.env0 (I:Inv X pins σ H s):ZjO X.prog X.w X.K X.mg X.base X.A X.stack s H:=
 ⟨I.ok.frames,I.ok.mod,I.bs,a6 I.ok.bsz I.sz,I.stack,I.stkFree,I.hok,I.bare⟩
theorem Inv.after {Q:VK}{u:Value}(I:Inv X pins σ H s)(h:CE X.stack X.prog X.w H s Q u s'):EP X pins σ Q u s':=by
 obtain⟨v,J,os,bare,un,hok,r,q⟩:=h;obtain⟨M,g,d,t,j⟩:=s';obtain rfl:j=s.os:=os;exact⟨v,J,I.call (h':=M) (g':=g) (d':=d) (t':=t) (ch:=[]) un hok bare (fun b z=>absurd z (by simp)),r,q⟩
end
noncomputable def ZjU (sp:Sp)(j:List V)(E:XK)(t:TA):TE:=fun q H Q=>t q H fun J M=>sp (J++j) M Q E
noncomputable def Binds (K:ab)(J:FuncData)(q:List Str)(ds:List Value):Prop:=
 ∀(s:Shared) (j:List Value),K.In s.heap->(j++ds).length=q.length->iX s J ⟨j,[]⟩ (q.zip (j++ds))
theorem Binds.all {K:ab}{fd:FuncData}{j:List Str}(h:∀us:List Value,us.length=j.length->bindArgs fd ⟨us,[]⟩=pure (j.zip us)):Binds K fd j []:=fun s us _ q=>by
 rw[hG] at q ⊢;exact .of_eq (h us q)
noncomputable def Za7 (CX:CXT)(X:Cx)(E:XK):Prop:=∀(j:List (Addr×Obj)) (J:St) (H:Hp) (s:Shared) (e:Value) (q:Shared),Inv X j J H s->CX X.stack H s E e q->X.xe e q
section
variable {X:Cx}{CX:CXT}{k:Nat}{f C:Addr}{fd:FuncData}{ps:List Str}{sp:Sp}{dvs:List V}{ds:List Value}{E:XK}{x m:Str}{p pos apos:Pos}{e o:Expr}{es:List Expr}{ta:TE}{t:TA}
theorem ZkJ {j:List (Addr×Obj)}{σ:St}{H:Hp}{s:Shared}{Q:VK}{us:List Value}{vs:List V}(F:Z5 X.prog X.w X.K X.mg X.base CX k f fd ps sp)(M:W9 k X.A)(hb:Binds X.K fd ps ds)(O:ZK dvs ds)(U:Za7 CX X E)
  (I:Inv X j σ H s) (r:ZK vs us) (h:sp (vs++dvs) H Q E):wpAny (model X.prog X.w) X.A (call (.ref f) us) (EP X j σ Q) X.xe s:=by
 have J:ZK (vs++dvs) (us++ds):=r.append O;have Y:(us++ds).length=ps.length:=by rw[<-J.length];exact F.len _ _ _ _ h
 refine wpAny_call (fz (F.run X.A X.stack s H ⟨us,[]⟩ (us++ds) (vs++dvs) Q E M I.env0 (hb s us I.kIn Y) J h) fun r s' q=>?_);cases r with
 |error e=>exact U j σ H s e s' I q
 |ok fl=>
  cases fl with
  |ret u=>exact I.after q
  |next=>exact dR q
  |brk=>exact dR q
  |cont=>exact dR q
theorem ZiN (F:Z5 X.prog X.w X.K X.mg X.base CX k f fd ps sp)(Y:W9 k X.A)(hg:Gl X x)(hm:X.mg x=some (.ref f))(hk:dM X.K (.ref f)=true)(hb:Binds X.K fd ps ds)(hd:ZK dvs ds)(hx:Za7 CX X E)
  (ha:PA X (e::es) t) (J:(x == ("__debug__":Str))=false:=by decide) (he:starEach (e::es) X.env=(false,eval e X.env)::starEach es X.env:=by rfl) (M:(backTo pos (starEach es X.env)).any (·.1)=false:=by rfl) :
  PE X (.Call (.Name x p) (e::es) [] pos) (ZjU sp dvs E t):=by
 intro j s σ H Q I h;refine jh (Zji I hg hm ?_ J);refine PySem.W.callWith_K (h₀:=X.base) I.ok.mod.kin hk (Yg (ha pos j s σ H _ I h) fun us s1 ⟨vs,H1,U,r,q⟩=>⟨U.kIn,?_⟩) he M;exact ZkJ F Y hb hd hx U r q
end
section
variable {X:Cx}{CX:CXT}{k:Nat}{f C:Addr}{fd:FuncData}{ps ks:List Str}{sp:Sp}{E:XK}{x m:Str}{p pos apos kpos:Pos}{e o:Expr}{es:List Expr}{kws:List Keyword}{te ta:TE}{t tk:TA}{nm:Option Str}
variable {g:List Value->List Value->List Value}{gV:List V->List V->List V}
end
structure Vy (N P:List Str)(sc:cQ):Prop where
 kind:sc.kind=.function
 co:sc.isCoroutine=false
 gen:sc.isGenerator=false
 nd:N.Nodup
 pre:N.take P.length=P
 par:∀x∈P,sc.names.lookup x=some .local\/sc.names.lookup x=some .cell
 nofree:∀y∈sc.names,y.2≠.free
theorem FS {N P:List Str}{j:cQ}(a:j.kind=.function:=by rfl)(b:j.isCoroutine=false:=by rfl)(c:j.isGenerator=false:=by rfl)(d:N.Nodup:=by decide +kernel)(e:N.take P.length=P:=by rfl)(f:∀x∈P,j.names.lookup x=some .local\/j.names.lookup x=some .cell:=by decide +kernel)(g:∀y∈j.names,y.2≠.free:=by decide +kernel):Vy N P j:=⟨a,b,c,d,e,f,g⟩
theorem bd1 {α:Type}{f g:List Value->α}(h:∀a,f [a]=g [a])(j:List Value)(l:j.length=1):f j=g j:=by
  cases j with
  |nil=>cases l
  |cons a r=>cases r with
    |nil=>exact h a
    |cons b r=>simp at l
theorem bd2 {α:Type}{f g:List Value->α}(h:∀a b,f [a,b]=g [a,b])(j:List Value)(l:j.length=2):f j=g j:=by
  cases j with
  |nil=>cases l
  |cons a r=>exact bd1 (f:=fun r=>f (a::r)) (g:=fun r=>g (a::r)) (h a) r (c6 l)
theorem bd3 {α:Type}{f g:List Value->α}(h:∀a b c,f [a,b,c]=g [a,b,c])(j:List Value)(l:j.length=3):f j=g j:=by
  cases j with
  |nil=>cases l
  |cons a r=>exact bd2 (f:=fun r=>f (a::r)) (g:=fun r=>g (a::r)) (h a) r (c6 l)
theorem bd4 {α:Type}{f g:List Value->α}(h:∀a b c d,f [a,b,c,d]=g [a,b,c,d])(j:List Value)(l:j.length=4):f j=g j:=by
  cases j with
  |nil=>cases l
  |cons a r=>exact bd3 (f:=fun r=>f (a::r)) (g:=fun r=>g (a::r)) (h a) r (c6 l)
theorem bd5 {α:Type}{f g:List Value->α}(h:∀a b c d e,f [a,b,c,d,e]=g [a,b,c,d,e])(j:List Value)(l:j.length=5):f j=g j:=by
  cases j with
  |nil=>cases l
  |cons a r=>exact bd4 (f:=fun r=>f (a::r)) (g:=fun r=>g (a::r)) (h a) r (c6 l)
theorem U8 {kindOf:Str->Option eP}{x:Str}:∀{binds:List (Str×Value)}{m:Str->Option Value},(∀v,(x,v)∉binds)->bindL kindOf binds m x=m x
 | [],_,_=>rfl
 |(n,v)::r,m,h=>by
  unfold bindL;rw[U8 fun w j=>h w (ay _ j)];split
  ·have:x≠n:=by rintro rfl;exact h v aB
   simp[this]
  ·rfl
theorem Zaa {kindOf:Str->Option eP}{x:Str}:∀{binds:List (Str×Value)}{m:Str->Option Value},(∀v,(x,v)∉binds)->bindC kindOf binds m x=m x
 | [],_,_=>rfl
 |(n,v)::r,m,h=>by
  unfold bindC;rw[Zaa fun w j=>h w (ay _ j)];split
  ·rfl
  ·have:x≠n:=by rintro rfl;exact h v aB
   simp[this]
theorem U9 {kindOf:Str->Option eP}{x:Str}{v:Value}:∀{P:List Str}{vs:List Value}{i:Nat}{m:Str->Option Value},P.Nodup->P[i]?=some x->vs[i]?=some v->kindOf x=some .local->
  bindL kindOf (P.zip vs) m x=some v
 | [],_,_,_,_,h,_,_=>by simp at h
 |_::_,[],_,_,_,_,h,_=>by simp at h
 |p::P,w::vs,0,m,nd,j,q,J=>by
  simp at j q;subst j;subst q;show bindL kindOf ((p,w)::P.zip vs) m p=_;unfold bindL;rw[U8 fun v M=>(bD.mp nd).1 (jv M).1,if_pos J];simp
 |p::P,w::vs,i+1,m,nd,j,q,J=>by
  show bindL kindOf ((p,w)::P.zip vs) m x=_;unfold bindL;exact U9 (i:=i) (bD.mp nd).2 (by simpa using j) (by simpa using q) J
theorem Zab {kindOf:Str->Option eP}{x:Str}{v:Value}:∀{P:List Str}{vs:List Value}{i:Nat}{m:Str->Option Value},P.Nodup->P[i]?=some x->vs[i]?=some v->kindOf x≠some .local->
  bindC kindOf (P.zip vs) m x=some v
 | [],_,_,_,_,h,_,_=>by simp at h
 |_::_,[],_,_,_,_,h,_=>by simp at h
 |p::P,w::vs,0,m,nd,j,q,J=>by
  simp at j q;subst j;subst q;show bindC kindOf ((p,w)::P.zip vs) m p=_;unfold bindC;rw[Zaa fun v M=>(bD.mp nd).1 (jv M).1,if_neg J];simp
 |p::P,w::vs,i+1,m,nd,j,q,J=>by
  show bindC kindOf ((p,w)::P.zip vs) m x=_;unfold bindC;exact Zab (i:=i) (bD.mp nd).2 (by simpa using j) (by simpa using q) J
noncomputable def start (N:List Str)(vs:List V):St:=vs.map some++av (N.length-vs.length) none
noncomputable def Zfq (CX:CXT)(P:Program)(w:World)(K:ab)(mg:Str->Option Value)(base:Heap)(N:List Str)(j:Str)(scope:cQ)(f:Addr)(J:Value)(A:Around)(outer:List Env)(s:Shared)(H:Hp)(E:XK):Cx where
 prog:=P
 w:=w
 K:=K
 mg:=mg
 base:=base
 A:=A.deeper (envOfC j scope s.heap.objs.size f J)
 N:=N
 s₀:=s
 H₀:=H
 env:=envOfC j scope s.heap.objs.size f J
 outer:=outer
 stack:=envOfC j scope s.heap.objs.size f J::outer
 ex:=[]
 calm:=true
 fn:=fun _=>true
 pn:=[]
 xe:=fun e M=>wpAny (model P w) (A.deeper (envOfC j scope s.heap.objs.size f J)) (leaving (envOfC j scope s.heap.objs.size f J) e) (fun _ q=>CX outer H s E e q) (fun O q=>CX outer H s E O q) M
theorem Zcn {j:cQ}{n:Nat}{x:Str}(h:j.names.lookup x=some .cell):∃c,(cellsFrom n j.names []).lookup x=some c:=by
 have q:=gH j.names n [] (.inl h);exact gc.mp q
theorem Zfe {CX:CXT}{P:Program}{w:World}{K:ab}{mg:Str->Option Value}{base:Heap}{N M:List Str}{qual:Str}{scope:cQ}{f:Addr}{cd:Value}{A:Around}{outer:List Env}{s s1:Shared}{H:Hp}{E:XK}{us:List Value}{vs:List V}
  (S:Vy N M scope) (hd:A.handled=none) (J:ZjO P w K mg base A outer s H) (hl:vs.length=M.length) (r:ZK vs us)
  (x:InCallC s s.heap.objs.size (bindL (envOfC qual scope s.heap.objs.size f cd).kindOf (M.zip us) fun _=>none) (cellsFrom (s.heap.objs.size+1) scope.names []) (bindC (envOfC qual scope s.heap.objs.size f cd).kindOf (M.zip us) fun _=>none) s1) :
  Inv (Zfq CX P w K mg base N qual scope f cd A outer s H E) [] (start N vs) H s1:=by
 have m9:M.length<=N.length:=by have:=congrArg cJ S.pre;rw[b9] at this;omega
 obtain⟨h1,tk,rfl,hk⟩:=x.done;have O:∀b:Addr,b∉(Zfq CX P w K mg base N qual scope f cd A outer s H E).ex:=fun b z=>absurd (show b∈([]:List Addr) from z) (by simp);refine⟨⟨J.mod,S.kind,rfl,rfl,Zq _,fun y z c h1 j=>?_,fun y U=>?_,fun y c _ h=>?_,fun _=>hd,Around.frames_deeper J.frames,.inr ⟨rfl,rfl⟩,fun b z=>absurd z (O b),J.bs,J.bsz,fun b _ _=>O b,fun b z=>absurd z (O b),J.funs,J.frf⟩,
  rfl,J.bare,Un.kept hk,⟨_,x.toInCall.ns,fun i y v h1 j h3=>?_⟩,fun y c h=>⟨_,x.cell y c h⟩,J.hok.fresh (Zq _),fun y c h=>?_,fun p Y=>absurd (show p∈([]:List (Addr×Obj)) from Y) (by simp),J.hok.kept hk,?_⟩
 ·exact name_of_addr x.apart (bB h1) (bB j)
 ·have U:scope.names.lookup y=some .cell\/scope.names.lookup y=some .free:=U
  rcases U with U|U
  ·exact Zcn U
  ·exact absurd rfl (S.nofree _ (bB U))
 ·exact eG (x.above y c (bB h))
 ·have hi:i<vs.length:=by
   unfold start at j;by_cases hi:i<vs.length
   ·exact hi
   ·rw[aq (by simpa using hi)] at j
    rw[e7] at j;split at j <;> cases j
  have ha:vs[i]?=some v:=by
   unfold start at j;rw[am (by simpa using hi),Zc] at j;cases e:vs[i]? with
   |none=>rw[e] at j;cases j
   |some a=>rw[e] at j;cases j;rfl
  obtain⟨u,hu,rv⟩:=r.get ha;have Y:M[i]?=some y:=by
   rw[<-S.pre,List.getElem?_take_of_lt (by omega)];exact h1
  have m8:M.Nodup:=by rw[<-S.pre];exact S.nd.sublist (iY _ _)
  refine⟨u,rv,?_⟩;rcases S.par y (aD Y) with k|k
  ·exact .inl ⟨k,U9 m8 Y hu k⟩
  ·obtain⟨c,e⟩:=Zcn (n:=s.heap.objs.size+1) k
   refine .inr ⟨.inl k,c,e,?_⟩;have q:=x.cell y c e;rw[Zab m8 Y hu (by show scope.names.lookup y≠_;rw[k];decide)] at q;exact q
 ·exact J.hok.fresh (eG (x.above y c (bB h)))
 ·unfold start
  show _=N.length;rw[Zd,Za,Ze];omega
theorem Znm {CX:CXT}{P:Program}{w:World}{K:ab}{mg:Str->Option Value}{base:Heap}{k:Nat}{f:Addr}{name j:Str}{params:Arguments}{body:List Stmt}{scope:cQ}{dV kV m9 pm M ct oc:Value}{an od:Option Addr}
  {n8:Array (Option Value)}{N ps:List Str}{sp:Sp} (lk:K.lookup f=some ⟨oc,od,.func (cw name j params body scope dV kV m9 pm an M ct),n8⟩) (n9:eY K M j=true) (S:Vy N ps scope)
  (len:∀vs H Q E,sp vs H Q E->vs.length=ps.length)
  (Y:∀(A:Around) (outer:List Env) (s:Shared) (H:Hp) (vs:List V) (Q:VK) (E:XK),W9 k (A.deeper (envOfC j scope s.heap.objs.size f M))->sp vs H Q E->
   ∃t,PSs (Zfq CX P w K mg base N j scope f M A outer s H E) body t/\t {nx:=fun _ U=>Q .non U,rt:=Q} (start N vs) H) :
  Z5 P w K mg base CX (k+1) f (cw name j params body scope dV kV m9 pm an M ct) ps sp:=by
 refine⟨len,fun A outer s H args us vs Q E hr e0 hb r n4=>?_⟩;have hl:=len _ _ _ _ n4;have KX:K.In s.heap:=e0.mod.kin.keeps fun b o e=>(e0.bs b o e).1;have o0:s.heap.NoLimit:=e0.mod.nolimit.keeps fun b o e=>(e0.bs b o e).1;have m8:∀y∈ps.zip us,scope.names.lookup y.1=some .local\/(scope.names.lookup y.1=some .cell/\((cellsFrom (s.heap.objs.size+1) scope.names []).lookup y.1).isSome=true):=fun ⟨n,v⟩ hy=>by
  rcases S.par n (jv hy).1 with q|q
  ·exact .inl q
  ·exact .inr ⟨q,gH _ _ _ (.inl q)⟩
 refine codeAny_call_function hr.depth (KX _ _ lk) rfl S.co S.gen rfl (PySem.W.codeRec_of KX n9) (hb _ _ _ _ ?_);refine wpAny_newFunctionEnv_cells S.kind m8 fun env he s1 x=>?_;subst he;refine⟨o0.keeps x.toInCall.keep,codeAny_func ?_⟩;obtain⟨t,ht,hq⟩:=Y A outer s H vs Q E (hr.deeper _) n4;have I:Inv (Zfq CX P w K mg base N j scope f M A outer s H E) [] (start N vs) H s1:=Zfe S hr.hd e0 hl r x;refine cB (ht [] s1 (start N vs) H _ I hq) (fun fl s' hs=>?_) fun e s' hs=>hs;have n6:∀{O:St}{U:Hp}{v:V}{u:Value},Inv (Zfq CX P w K mg base N j scope f M A outer s H E) [] O U s'->RelV v u->Q v U->CE outer P w H s Q u s':=
  fun {O U v u} J rv q=>⟨v,U,J.os,J.bare,J.base,J.hok,rv,q⟩
 cases fl with
 |ret u=>
  obtain⟨v,O,U,J,rv,q⟩:=hs;exact n6 J rv q
 |next=>
  obtain⟨O,U,J,q⟩:=hs;exact n6 (v:=V.non) (u:=bX) J rfl q
 |brk=>
  obtain⟨_,_,_,q⟩:=hs;exact dR q
 |cont=>
  obtain⟨_,_,_,q⟩:=hs;exact dR q
section
variable {X:Cx}{x:Str}{p pos:Pos}{e:Expr}{es:List Expr}{t:TA}{id T:String}{r:List V->Hp->VK->Prop}
noncomputable def tCB (r:List V->Hp->VK->Prop)(t:TA):TE:=fun j H Q=>t j H fun q J=>r q J Q
theorem ZgJ (O:Yo X (.builtin id) r)(U:Gl X x)(Y:X.mg x=none)(hv:bootBuiltins x=some (.builtin id))(ha:PA X (e::es) t)(hn:x ≠ "__name__":=by decide)(q:(x == ("__debug__":Str))=false:=by decide)
  (he:starEach (e::es) X.env=(false,eval e X.env)::starEach es X.env:=by rfl) (J:(backTo pos (starEach es X.env)).any (·.1)=false:=by rfl):PE X (.Call (.Name x p) (e::es) [] pos) (tCB r t):=by
 intro j s M H Q I h;refine jh (Jk I U Y hv ?_ hn q);exact PyProof.Rows.callWith_builtin1 (Yg (ha pos j s M H _ I h) fun us s1 ⟨vs,H1,I1,r1,q1⟩=>O j s1 M H1 vs us Q I1 r1 q1) he J
theorem ZeY (O:Yo X (.type T) r)(U:Gl X x)(Y:X.mg x=none)(hv:bootBuiltins x=some (.type T))(ha:PA X (e::es) t)(hn:x ≠ "__name__":=by decide)(q:(x == ("__debug__":Str))=false:=by decide)
  (he:starEach (e::es) X.env=(false,eval e X.env)::starEach es X.env:=by rfl) (J:(backTo pos (starEach es X.env)).any (·.1)=false:=by rfl):PE X (.Call (.Name x p) (e::es) [] pos) (tCB r t):=by
 intro j s M H Q I h;refine jh (Jk I U Y hv ?_ hn q);exact bq (Yg (ha pos j s M H _ I h) fun us s1 ⟨vs,H1,I1,r1,q1⟩=>O j s1 M H1 vs us Q I1 r1 q1) he J
end
end L2
namespace HT
open PySem PyProof.Rows
section
open PySem.SeqAt
open PySem.AutoSeq1 (wpAny_loadPart')
open PySem.MeetsSeq PySem.MeetsSeq2 PySem.MeetsSeq3
end
section
variable {prog:Program}{w:World}{A:Around}{E:Value->Shared->Prop}{s:Shared}
noncomputable def Ur (n d:Nat):Option Int->Nat
 |none=>d
 |some v=>if v<0 then (v+(n:Int)).toNat else min v.toNat n
theorem Zbu (n d:Nat):Ur n d none=d:=rfl
theorem Zaw (n d k:Nat):Ur n d (some (k:Int))=min k n:=by
 show (if (k:Int)<0 then ((k:Int)+(n:Int)).toNat else min (k:Int).toNat n)=min k n
 rw[if_neg (by omega),Zj]
end
end HT
namespace L2
open PySem PySem.Spec PyProof.Rows
noncomputable abbrev TO:=St->Hp->(Option Int->Hp->Prop)->Prop
noncomputable def PO (X:Cx)(e:Option Expr)(t:TO):Prop:=
 ∀(j:List (Addr×Obj)) (s:Shared) (q:St) (H:Hp) (Q:Option Int->Hp->Prop),Inv X j q H s->t q H Q->
  wpAny (model X.prog X.w) X.A (evalPart e X.env) (fun u M=>∃o J,Inv X j q J M/\IsPart u o/\Q o J) X.xe s
noncomputable def Zii:TO:=fun _ H Q=>Q none H
noncomputable def ZmF (t:TE):TO:=fun j H Q=>t j H fun x q=>∃i,x=.int i/\Q (some i) q
theorem intsAre_of {ns:List Int}:∀{us:List Value},ZK (ns.map V.int) us->bO us ns:=by
 induction ns with
 |nil=>intro us r;rw[fh] at r;cases r;exact .nil
 |cons n ns j=>
  intro us r;rw[aF] at r;cases r with
  |cons q J=>
   obtain⟨t,e⟩:=q;subst e;exact .cons n t (j J)
section
variable {X:Cx}{e:Expr}{te:TE}{lo hi:Option Expr}{tl th:TO}{pos p2:Pos}
theorem Xm:PO X none Zii:=by
 intro j s q H Q I h;rw[lL];exact Zm ⟨none,H,I,.none,h⟩
theorem Xl (h:PE X e te):PO X (some e) (ZmF te):=by
 intro j s J H Q I M;rw[lK];refine Yg (h j s J H _ I M) fun u s1 ⟨x,O,U,r1,Y⟩=>?_;obtain⟨i,rfl,q⟩:=Y;obtain⟨t,rfl⟩:=r1;exact⟨some i,O,U,.int i t,q⟩
noncomputable def SlR (X:Cx)(r:V->Option Int->Option Int->Hp->VK->Prop):Prop:=
 ∀(j:List (Addr×Obj)) (s:Shared) (q:St) (H:Hp) (x:V) (v J M:Value) (lo hi:Option Int) (O:Addr) (Q:VK),Inv X j q H s->RelV x v->s.heap.IsSliceOf O J M .none->IsPart J lo->IsPart M hi->r x lo hi H Q->
  ∃T id,typeLookup (.type T) "__getitem__"=pure (some (.builtin id))/\s.TypeIs v T/\wpAny (model X.prog X.w) X.A (getItem v (.ref O)) (EP X j q Q) X.xe s
noncomputable def tSl (r:V->Option Int->Option Int->Hp->VK->Prop)(te:TE)(tl th:TO):TE:=fun j H Q=>te j H fun x q=>tl j q fun l J=>th j J fun u M=>r x l u M Q
theorem Ju {r:V->Option Int->Option Int->Hp->VK->Prop}(hr:SlR X r)(he:PE X e te)(hl:PO X lo tl)(hu:PO X hi th):PE X (.Subscript e (.Slice lo hi none p2) pos) (tSl r te tl th):=by
 intro j s M H Q I h;refine lh (Yg (he j s M H _ I h) fun v s1 ⟨x,H1,I1,r1,q1⟩=>?_);refine wpAny_Slice (Yg (hl j s1 M H1 _ I1 q1) fun O s2 ⟨l,H2,I2,pl,q2⟩=>Yg (hu j s2 M H2 _ I2 q2) fun U J ⟨u,Y,I3,pu,q3⟩=>?_);rw[lL];refine Zm ?_;have I4:Inv X j M Y {J with heap:=J.heap.push {cls:=.type "slice",data:=.fields #[O,U,.none]}}:=I3.kept (t':=J.toks) fun b ob q=>Zn _ q;obtain⟨T,id,hT,ht,hg⟩:=hr j {J with heap:=J.heap.push {cls:=.type "slice",data:=.fields #[O,U,.none]}} M Y x v O U l u J.heap.objs.size Q I4 r1 (jr ..) pl pu q3;show wpAny (model X.prog X.w) X.A (subscriptTail e (.Slice lo hi none p2) v (.ref J.heap.objs.size)) (EP X j M Q) X.xe {J with heap:=J.heap.push {cls:=.type "slice",data:=.fields #[O,U,.none]}};exact tail_any (ops:=[.ref J.heap.objs.size,v]) ht hT hg (by with_unfolding_all rfl)
noncomputable def Jo (xs:List V)(lo hi:Option Int):List V:=(xs.drop (HT.Ur xs.length 0 lo)).take (HT.Ur xs.length xs.length hi-HT.Ur xs.length 0 lo)
theorem Ve (xs:List V)(lo hi:Option Int):(Jo xs lo hi).length<=xs.length:=by
 unfold Jo;rw[b9,bt];omega
end
noncomputable def ixN (n:Nat)(i:Int):Option Nat:=if 0<=i then (if i<n then some i.toNat else none) else if -(n:Int)<=i then some (i+n).toNat else none
noncomputable def XH {α:Type}(xs:List α)(i:Int):Option α:=(ixN xs.length i).bind fun j=>xs[j]?
theorem ZaQ {n:Nat}{i:Int}{j:Nat}(h:ixN n i=some j):seqIndex? i n=some j/\j<n/\-(n:Int)<=i/\i<n:=by
 unfold ixN at h;by_cases J:0<=i
 ·rw[if_pos J] at h
  by_cases q:i<n
  ·rw[if_pos q] at h
   have e:i.toNat=j:=aw h;exact⟨by rw[seqIndex_of J q,e],by omega,by omega,q⟩
  ·rw[if_neg q] at h;cases h
 ·rw[if_neg J] at h
  by_cases q:-(n:Int)<=i
  ·rw[if_pos q] at h
   have e:(i+n).toNat=j:=aw h;exact⟨by rw[seqIndex_neg (by omega) q,e],by omega,q,by omega⟩
  ·rw[if_neg q] at h;cases h
theorem ZeE {α:Type}{xs:List α}{i:Int}{v:α}(h:XH xs i=some v):∃j,seqIndex? i xs.length=some j/\xs[j]?=some v/\j<xs.length/\-(xs.length:Int)<=i/\i<xs.length:=by
 unfold XH at h;cases e:ixN xs.length i with
 |none=>rw[e] at h;cases h
 |some j=>
  rw[e] at h;obtain⟨q,J,M,O⟩:=ZaQ e;exact⟨j,q,h,J,M,O⟩
theorem ZU {α:Type}{xs:List α}{j:Nat}{v:α}(h:xs[j]?=some v):XH xs (j:Int)=some v:=by
 have q:j<xs.length:=(aa.mp h).1;have e:ixN xs.length (j:Int)=some j:=by
  unfold ixN;rw[if_pos (by omega),if_pos (by omega)];simp
 unfold XH;rw[e];exact h
theorem Zcr {α:Type}(xs:List α)(v:α):XH (xs++[v]) (-1)=some v:=by
 have j:(xs++[v]).length=xs.length+1:=by simp
 have e:ixN (xs++[v]).length (-1)=some xs.length:=by
  unfold ixN;rw[j,if_neg (by decide),if_pos (by omega)];congr 1;omega
 unfold XH;rw[e];show (xs++[v])[xs.length]?=some v;simp
noncomputable def ZjJ (b:Expr):Prop:=∀o i,subscripted b false o i=operate [o,i] (getItem o i)
noncomputable def IxR (X:Cx)(r:R2):Prop:=
 ∀(J j:Expr) (q:List (Addr×Obj)) (s:Shared) (M:St) (H:Hp) (x y:V) (v u:Value) (Q:VK),Inv X q M H s->RelV x v->RelV y u->r x y H Q->
  subscripted j false v u=operate [v,u] (getItem v u)->wpAny (model X.prog X.w) X.A (subscriptTail J j v u) (EP X q M Q) X.xe s
noncomputable def MtR (X:Cx)(id:String)(r:V->List V->Hp->VK->Prop):Prop:=
 ∀(j:List (Addr×Obj)) (s:Shared) (q:St) (H:Hp) (x:V) (J:List V) (v:Value) (M:List Value) (Q:VK),Inv X j q H s->RelV x v->ZK J M->r x J H Q->
  wpAny (model X.prog X.w) X.A (call (.builtin id) (v::M)) (EP X j q Q) X.xe s
section
variable {X:Cx}{a b:Expr}{ta tb:TE}{pos:Pos}
theorem ZN {r:R2}(J:IxR X r)(M:PE X a ta)(hb:PE X b tb)(O:ZjJ b):PE X (.Subscript a b pos) (tOp r ta tb):=by
 intro j s U H Q I h;exact lh (Zl2 M hb I h fun v u Y x y H2 I2 rx ry q=>J a b j Y U H2 x y v u Q I2 rx ry q (O _ _))
noncomputable def Zm1 (K:ab):R2:=fun x y H Q=>∃p j i v,x=.ref p/\y=.int i/\Wx K H p j/\XH j i=some v/\Q v H
noncomputable def Zm0 (K:ab):R2:=fun x y H Q=>∃p j i v,x=.ref p/\y=.int i/\JF K H p j/\XH j i=some v/\Q v H
theorem Zjl:IxR X (Zm1 X.K):=by
 intro O U J s σ H x y v u Q I rx ry h hs;obtain⟨p,xs,i,z,rfl,rfl,hq,he,q⟩:=h;cases rx;obtain⟨t,rfl⟩:=ry;obtain⟨Y,r,pl,hz⟩:=I.list hq;obtain⟨j,M,h2,h3,h4,h5⟩:=ZeE he;obtain⟨w,ew,m8⟩:=r.get h2;have hl:=r.length;have hn:=XT;have fin:EP X J σ Q w s:=⟨z,H,I,m8,q⟩;by_cases h0:0<=i
 ·have hj:i.toNat=j:=by
   rw[seqIndex_of h0 h5] at M;exact aw M
  exact item_listR pl.isList h0 (by omega) (by rw[hj];simpa using ew) fin hs
 ·have hj:(i+(Y.toArray.size:Int)).toNat=j:=by
   rw[seqIndex_neg (by omega) h4] at M;rw[Zh,<-hl];exact aw M
  exact mw (x:=w) pl.isList.typeIs jF.lookup
   (wpAny_getItem_list_neg (Q:=fun r s'=>r=w/\EP X J σ Q r s') pl.isList (by omega) (by rw[Zh] <;> omega) (by omega) (by rw[hj];simpa using ew) ⟨rfl,fin⟩) hs
theorem Zlz:IxR X (Zm0 X.K):=by
 intro M O J s Y H x y v u Q I rx ry h hs;obtain⟨p,xs,i,z,rfl,rfl,hq,he,q⟩:=h;cases rx;obtain⟨t,rfl⟩:=ry;obtain⟨m8,r,pl,hz⟩:=I.tuple hq;obtain⟨j,h1,h2,h3,h4,h5⟩:=ZeE he;obtain⟨w,ew,U⟩:=r.get h2;have hl:=r.length;have hn:=XT;have fin:EP X J Y Q w s:=⟨z,H,I,U,q⟩;exact mw (x:=w) pl.typeIs slot_tuple_getitem.lookup
  (getItem_tuple (j:=j) (Q:=fun r s'=>r=w/\EP X J Y Q r s') pl (by omega) (by omega) (by rw[Zh,<-hl];exact h1) (by simpa using ew) ⟨rfl,fin⟩) hs
theorem Zc5 (q:List Value)(n j:Nat)(u:Value):cM (·.setIfInBounds j u) {cls:=.type "list",data:=.seq q.toArray n}={cls:=.type "list",data:=.seq (q.set j u).toArray n}:=by
 simp[cM]
theorem Inv.lst {q:List (Addr×Obj)}{σ:St}{H:Hp}{s:Shared}{p:Addr}{xs:List V}(I:Inv X q σ H s)(h:H p=some (.lst xs)) :
  ∃(j:List Value) (n:Nat),ZK xs j/\s.heap.get? p=some {cls:=.type "list",data:=.seq j.toArray n}/\xs.length<=sizeLine:=by
 obtain⟨z,j,n,r,e⟩:=I.hok p _ h;exact⟨j,n,r,e,z⟩
theorem Inv.lstUpd {j:List (Addr×Obj)}{σ:St}{H:Hp}{s:Shared}{p:Addr}{xs ys:List V}{J its':List Value}{n M:Nat}{f:Obj->Obj}(I:Inv X j σ H s)(h:H p=some (.lst xs))
  (O:s.heap.get? p=some {cls:=.type "list",data:=.seq J.toArray n}) (hf:f {cls:=.type "list",data:=.seq J.toArray n}={cls:=.type "list",data:=.seq its'.toArray M}) (r:ZK ys its') (hz:ys.length<=sizeLine) (t:Nat) :
  Inv X j σ (upd H p (.lst ys)) {s with heap:=s.heap.update p f,toks:=t}:=by
 have e:(s.heap.update p f).get? p=some {cls:=.type "list",data:=.seq its'.toArray M}:=by
  rw[bC f O (by rw[hf] <;> rfl),hf]
 refine I.write (x:=p) (e:=p) (by rw[h];trivial) (.inl rfl) (fun b u hb q=>(bS _ _ (bJ hb)).trans q) ⟨_,e⟩ ?_;exact⟨hz,its',M,r,e⟩
noncomputable def ZmZ:V->V->V->Hp->(Hp->Prop)->Prop:=fun o i v H Q=>∃p q k j,o=.ref p/\i=.int k/\H p=some (.lst q)/\ixN q.length k=some j/\Q (upd H p (.lst (q.set j v)))
theorem Y5:Zme X ZmZ:=by
 intro J s σ H o i v ov iv u Q I ro ri rv h;obtain⟨p,xs,k,j,rfl,rfl,hp,hj,q⟩:=h;cases ro;obtain⟨t,rfl⟩:=ri;obtain⟨M,n,r,U,hz⟩:=I.lst hp;obtain⟨O,h2,h3,h4⟩:=ZaQ hj;have Y:=r.length;have hn:=XT;have I':Inv X J σ (upd H p (.lst (xs.set j v))) {s with heap:=s.heap.update p (cM (·.setIfInBounds j u))}:=
  I.lstUpd hp U (Zc5 M n j u) (r.set rv j) (by rw[bK];exact hz) s.toks
 by_cases h0:0<=k
 ·have hk:k.toNat=j:=by
   rw[seqIndex_of h0 h4] at O;exact aw O
  exact PySem.W.ki_setAt U h0 (by omega) (by rw[Zh,<-Y];exact h4) (by rw[hk];exact⟨_,I',q⟩)
 ·have hk:(k+(M.toArray.size:Int)).toNat=j:=by
   rw[seqIndex_neg (by omega) h3] at O;rw[Zh,<-Y];exact aw O
  exact PySem.W.ki_setBack U (by omega) (by rw[Zh,<-Y];exact h3) (by omega) (by rw[hk];exact⟨_,I',q⟩)
theorem Zau (lo j:Option Int)(n:Nat):(sliceBounds lo j none n).1=((HT.Ur n 0 lo:Nat):Int)/\(sliceBounds lo j none n).2.1=((HT.Ur n n j:Nat):Int)/\(sliceBounds lo j none n).2.2=1:=by
 refine⟨?_,?_,rfl⟩
 ·cases lo with
  |none=>simp[sliceBounds,HT.Ur]
  |some i=>
   simp only[sliceBounds,HT.Ur,l7,show (1:Int) > 0 by decide,if_true];by_cases h:i<0
   ·simp only[h,if_true] <;> omega
   ·simp only[h,if_false] <;> omega
 ·cases j with
  |none=>simp[sliceBounds,HT.Ur]
  |some i=>
   simp only[sliceBounds,HT.Ur,l7,show (1:Int) > 0 by decide,if_true];by_cases h:i<0
   ·simp only[h,if_true] <;> omega
   ·simp only[h,if_false] <;> omega
theorem Ux (j:List Value)(lo q:Option Int):slicePick j.toArray lo q none=((j.drop (HT.Ur j.length 0 lo)).take (HT.Ur j.length j.length q-HT.Ur j.length 0 lo)).toArray:=by
 obtain⟨J,M,O⟩:=Zau lo q j.toArray.size;unfold slicePick;rw[J,M,O];simp only[sliceRange_one,pick_run,Zh] <;> rfl
noncomputable def ZoA (K:ab):V->Option Int->Option Int->Hp->VK->Prop:=fun x lo q H Q=>∃a j,x=.ref a/\Wx K H a j/\∀p,H p=none->Q (.ref p) (upd H p (.lst (Jo j lo q)))
theorem Xg:SlR X (ZoA X.K):=by
 intro M s σ H x v vl vu lo J sl Q I U Y pl pu h;obtain⟨a,xs,rfl,hx,q⟩:=h;cases U;obtain⟨m8,r,O,hz⟩:=I.list hx;have j:=r.length;refine⟨"list",_,jF.lookup,O.isList.typeIs,?_⟩;refine lI O.isList Y pl pu .none (by simp) ?_ (by rw[Zh] <;> omega)
 rw[Ux,<-j];refine⟨.ref s.heap.objs.size,_,I.laid (t':=s.toks) (o:=.lst (Jo xs lo J)) (fun b ob q=>Zn _ q) (Zq _) ?_,rfl,q _ (I.hok.fresh (Zq _))⟩;exact⟨a6 (Ve xs lo J) hz,_,0,(r.drop (HT.Ur xs.length 0 lo)).take (HT.Ur xs.length xs.length J-HT.Ur xs.length 0 lo),Zo _ rfl⟩
noncomputable def Vb:V->Bool
 | .non=>true
 | .bl _=>true
 | .int _=>true
 | .str _=>true
 |_=>false
noncomputable def eqV:V->V->Bool
 | .non,.non=>true
 | .bl a,.bl b=>a == b
 | .bl a,.int b=>(if a then 1 else 0) == b
 | .int a,.bl b=>a == (if b then 1 else 0)
 | .int a,.int b=>a == b
 | .str a,.str b=>a == b
 |_,_=>false
theorem ZlO {A:Around}{s:Shared}{y x:V}{u v:Value}(J:RelV y u)(j:RelV x v)(O:Vb y=true)(M:Vb x=true):kT A s u v (eqV y x):=by
 cases y with
 |non=>
  cases J;cases x with
  |non=>cases j;exact SeqAt.EqAt.same _
  |bl b=>cases j;exact SeqAt.EqAt.none_bool b
  |int b=>obtain⟨t,rfl⟩:=j;exact SeqAt.EqAt.none_int b t
  |str b=>obtain⟨t,rfl⟩:=j;exact SeqAt.EqAt.none_str b t
  |_=>exact absurd (show false=true from M) aJ
 |bl a=>
  cases J;cases x with
  |non=>cases j;exact SeqAt.EqAt.bool_none a
  |bl b=>cases j;exact SeqAt.EqAt.bool_bool a b
  |int b=>obtain⟨t,rfl⟩:=j;exact SeqAt.EqAt.bool_int a b t
  |str b=>obtain⟨t,rfl⟩:=j;exact SeqAt.EqAt.bool_str a b t
  |_=>exact absurd (show false=true from M) aJ
 |int a=>
  obtain⟨q,rfl⟩:=J;cases x with
  |non=>cases j;exact SeqAt.EqAt.int_none a q
  |bl b=>cases j;exact SeqAt.EqAt.int_bool a q b
  |int b=>obtain⟨t,rfl⟩:=j;exact jq a q b t
  |str b=>obtain⟨t,rfl⟩:=j;exact j3 a q b t
  |_=>exact absurd (show false=true from M) aJ
 |str a=>
  obtain⟨q,rfl⟩:=J;cases x with
  |non=>cases j;exact SeqAt.EqAt.str_none a q
  |bl b=>cases j;exact SeqAt.EqAt.str_bool a q b
  |int b=>obtain⟨t,rfl⟩:=j;exact jZ a q b t
  |str b=>obtain⟨t,rfl⟩:=j;exact SeqAt.EqAt.str_str a q b t
  |_=>exact absurd (show false=true from M) aJ
 |_=>exact absurd (show false=true from O) aJ
noncomputable def eqU (x:V)(u:Value):Bool:=match u with
 | .none=>eqV .non x
 | .bool b=>eqV (.bl b) x
 | .int i _=>eqV (.int i) x
 | .str z _=>eqV (.str z) x
 |_=>false
theorem ZhI {x y:V}{u:Value}(r:RelV y u)(f:Vb y=true):eqU x u=eqV y x:=by
 cases y with
 |non=>cases r;rfl
 |bl b=>cases r;rfl
 |int i=>obtain⟨t,rfl⟩:=r;rfl
 |str z=>obtain⟨t,rfl⟩:=r;rfl
 |_=>exact absurd (show false=true from f) aJ
theorem Zb0 {A:Around}{s:Shared}{x:V}{v:Value}(q:RelV x v)(J:Vb x=true):∀{xs:List V}{us:List Value},ZK xs us->xs.all Vb=true->∀u∈us,kT A s u v (eqU x u)
 |_,_,.nil,_=>fun u j=>by cases j
 |y::xs,u::us,.cons r t,f=>fun M j=>by
  rw[List.all_cons,af] at f;rcases aG.mp j with rfl|j
  ·rw[ZhI r f.1];exact ZlO r q f.1 J
  ·exact Zb0 q J t f.2 M j
theorem Za3:Yo X (.builtin "len") (fun xs H Q=>∃p ys,xs=[.ref p]/\(Wx X.K H p ys\/JF X.K H p ys)/\Q (.int ys.length) H):=by
 intro O s σ H xs us Q I r h;obtain⟨p,ys,rfl,j,q⟩:=h;obtain⟨u,rfl,U⟩:=vals1 r;cases U;have hn:=XT;rcases j with j|j
 ·obtain⟨J,M,pl,Y⟩:=I.list j
  have hlen:=M.length;exact Calls.call_len_list pl.isList (by simp only[Zh] <;> omega) ⟨.int ys.length,H,I.tok _,⟨s.toks+1,by rw[Zh,hlen]⟩,q⟩
 ·obtain⟨J,M,pl,Y⟩:=I.tuple j
  have hlen:=M.length;exact len_tuple pl (by simp only[Zh] <;> omega) ⟨.int ys.length,H,I.tok _,⟨s.toks+1,by rw[Zh,hlen]⟩,q⟩
theorem XD:Yo X (.type "list") (fun xs H Q=>∃p ys,xs=[.ref p]/\(Wx X.K H p ys\/JF X.K H p ys)/\∀l,H l=none->Q (.ref l) (upd H l (.lst ys))):=by
 intro U s σ H xs us Q I r h;obtain⟨p,ys,rfl,Y,q⟩:=h;obtain⟨u,rfl,rx⟩:=vals1 r;cases rx;have m8:∀(j:List Value),ZK ys j->ys.length<=sizeLine->∀(J:Heap) (M:Nat),(∀b o',s.heap.get? b=some o'->J.get? b=some o')->
   J.get? s.heap.objs.size=some {cls:=.type "list",dict:=none,data:=.seq j.toArray M,slots:=#[]}->EP X U σ Q (.ref s.heap.objs.size) {s with heap:=J}:=fun j O hz J M kp e=>
  ⟨.ref s.heap.objs.size,_,I.laid (t':=s.toks) kp (Zq _) (show Yx X.prog X.w _ J _ (.lst ys) from ⟨hz,j,M,O,e⟩),rfl,q _ (I.hok.fresh (Zq _))⟩
 rcases Y with Y|Y
 ·obtain⟨j,O,pl,hz⟩:=I.list Y
  have m9:=O.length;obtain⟨o,ho,hc,n,hd⟩:=pl.isList;exact call_list_seq p (.inl rfl) ho hc hd (fun J M kp e=>m8 j O hz J M kp e) (by simp only[Zh] <;> omega)
 ·obtain⟨j,O,pl,hz⟩:=I.tuple Y
  have m9:=O.length;obtain⟨o,ho,hc,n,hd⟩:=pl;exact call_list_seq p (.inr rfl) ho hc hd (fun J M kp e=>m8 j O hz J M kp e) (by simp only[Zh] <;> omega)
theorem ZH:Yo X (.type "tuple") (fun xs H Q=>∃p ys,xs=[.ref p]/\((Wx X.K H p ys/\∀l,H l=none->Q (.ref l) (upd H l (.tup ys)))\/(JF X.K H p ys/\Q (.ref p) H))):=by
 intro j s Y H xs us Q I r h;obtain⟨p,ys,rfl,h⟩:=h;obtain⟨u,rfl,rx⟩:=vals1 r;cases rx;rcases h with ⟨O,q⟩|⟨O,q⟩
 ·obtain⟨J,U,pl,hz⟩:=I.list O
  have m8:=U.length;refine call_tuple_list pl.isList (fun M kp=>?_) (by simp only[Zh] <;> omega)
  have I1:Inv X j Y H {s with heap:=M}:=I.kept (t':=s.toks) kp;have I2:Inv X j Y (upd H M.objs.size (.tup ys)) {s with heap:=M.push {cls:=.type "tuple",data:=.seq J.toArray}}:=
   I1.laid (t':=s.toks) (fun b o e=>Zn _ e) (Zq _) (show Yx X.prog X.w _ _ _ (.tup ys) from ⟨hz,J,U,j9 _ _⟩)
  exact⟨.ref M.objs.size,_,I2,rfl,q _ (I1.hok.fresh (Zq _))⟩
 ·obtain⟨J,U,pl,hz⟩:=I.tuple O
  exact call_tuple_same pl ⟨.ref p,H,I,rfl,q⟩
noncomputable def tyV (K:ab)(T:String)(x:V)(H:Hp):Prop:=match x with
 | .str _=>T = "str"
 | .int _=>T = "int"
 | .ref p=>(T = "list"/\∃q,Wx K H p q)\/(T = "tuple"/\∃o,K.lookup p=some o/\o.cls=.type "tuple"/\o.dict=none)\/
   (T = "dict"/\((∃j,H p=some (.dK j))\/∃j,H p=some (.dT j)))\/(T = "set"/\∃S n,H p=some (.set S n))
 |_=>False
theorem ZfR {q:List (Addr×Obj)}{σ:St}{H:Hp}{s:Shared}{T:String}{x:V}{v:Value}(I:Inv X q σ H s)(r:RelV x v)(J:tyV X.K T x H) :
  s.TypeIs v T/\∀a,v=.ref a->∃U,s.heap.get? a=some U/\U.dict=none:=by
 cases x with
 |str z=>
  obtain⟨t,rfl⟩:=r;cases (show T = "str" from J);exact⟨typeIs_str s z t,fun _ e=>nomatch e⟩
 |int i=>
  obtain⟨t,rfl⟩:=r;cases (show T = "int" from J);exact⟨typeIs_int s i t,fun _ e=>nomatch e⟩
 |ref p=>
  cases r;rcases J with ⟨rfl,xs,Y⟩|⟨rfl,o,j,hc,hd⟩|⟨rfl,j⟩|⟨rfl,S,n,j⟩
  ·obtain⟨m8,_,pl,_⟩:=I.list Y
   refine⟨pl.isList.typeIs,fun a e=>?_⟩;cases e;obtain⟨o,n,e,c,hd,_⟩:=pl;exact⟨o,e,hd⟩
  ·refine⟨⟨o,I.kIn p o j,hc⟩,fun a e=>?_⟩
   cases e;exact⟨o,I.kIn _ o j,hd⟩
  ·have z:∃o,s.heap.get? p=some o/\o.ExactDict:=by
    rcases j with ⟨M,j⟩|⟨M,j⟩
    ·obtain⟨_,_,_,_,o,_,_,e,ex,_⟩:=I.hok p _ j
     exact⟨o,e,ex⟩
    ·obtain⟨_,_,_,_,o,_,_,e,ex,_⟩:=I.hok p _ j
     exact⟨o,e,ex⟩
   obtain⟨o,e,ex⟩:=z;refine⟨⟨o,e,ex.1⟩,fun a O=>?_⟩;cases O;exact⟨o,e,ex.2.1⟩
  ·obtain⟨o,_,_,_,e,ex,_⟩:=I.hok p _ j
   refine⟨⟨o,e,ex.1⟩,fun a O=>?_⟩;cases O;exact⟨o,e,ex.2.1⟩
 |_=>exact dR J
noncomputable def Zov (K:ab)(T:String)(r:V->List V->Hp->VK->Prop)(q:TE):TE:=fun J H Q=>q J H fun x j=>tyV K T x j/\r x [] j Q
noncomputable def tBM (K:ab)(T:String)(r:V->List V->Hp->VK->Prop)(J:TE)(t:TA):TE:=fun j H Q=>J j H fun x q=>tyV K T x q/\t j q fun M O=>r x M O Q
variable {o e:Expr}{es:List Expr}{to:TE}{t:TA}{name:Str}{apos cpos:Pos}{T id:String}{r:V->List V->Hp->VK->Prop}
theorem Zk2 (Y:PlainAttrs T)(slot:Slot T name id)(M:typeOf (.builtin id)=pure (.type "method_descriptor"))(hm:MtR X id r)(ho:PE X o to)
  (q:attributeBase o name X.env (eval o X.env)=eval o X.env:=by rfl) (J:(apos.endLine == cpos.line)=true:=by rfl):PE X (.Call (.Attribute o name apos) [] [] cpos) (Zov X.K T r to):=by
 intro j s O H Q I h;refine wpAny_Call_method0_late q J (Yg (ho j s O H _ I h) fun v s1 ⟨x,H1,U,r1,ty,q1⟩=>?_);obtain⟨h1,h2⟩:=ZfR U r1 ty;exact⟨T,id,Y,slot,M,h1,h2,fe rfl (PySem.evalArgs_none (hm j s1 O H1 x [] v [] Q U r1 .nil q1))⟩
theorem Y6 (pa:PlainAttrs T)(slot:Slot T name id)(U:typeOf (.builtin id)=pure (.type "method_descriptor"))(hm:MtR X id r)(ho:PE X o to)(ha:PA X (e::es) t)
  (J:attributeBase o name X.env (eval o X.env)=eval o X.env:=by rfl)
  (O:((backTo cpos (starEach (e::es) X.env)).all (fun x=>!x.1) && (backToKw cpos (keywordEach [] X.env)).all (fun x=>x.1.isSome)
   && decide ((e::es).length+([]:List Keyword).length+(if ([]:List Keyword).isEmpty then 0 else 1)<30))=true:=by rfl)
  (M:(apos.endLine == cpos.line)=true:=by rfl) (hs:starEach (e::es) X.env=(false,eval e X.env)::starEach es X.env:=by rfl) (q:(backTo cpos (starEach es X.env)).any (·.1)=false:=by rfl) :
  PE X (.Call (.Attribute o name apos) (e::es) [] cpos) (tBM X.K T r to t):=by
 intro j s Y H Q I h;refine mf J O M rfl (Yg (ho j s Y H _ I h) fun v s1 ⟨x,H1,I1,r1,ty,q1⟩=>?_);obtain⟨h1,h2⟩:=ZfR I1 r1 ty;refine⟨T,id,pa,slot,U,h1,h2,?_⟩;have hA:=ha cpos j s1 Y H1 _ I1 q1;rw[hs] at hA ⊢;refine fe (by show (false || (backTo cpos (starEach es X.env)).any (·.1))=false;rw[q] <;> rfl) (im ?_)
 exact Yg hA fun us s2 ⟨vs,H2,I2,r2,q2⟩=>hm j s2 Y H2 x vs v us Q I2 r1 r2 q2
end
noncomputable def MtM (X:Cx)(id:String)(r:V->List V->Hp->VK->Prop):Prop:=
 ∀(j:List (Addr×Obj)) (s:Shared) (q:St) (H:Hp) (x:V) (J:List V) (v:Value) (M:List Value) (Q:VK),Inv X j q H s->RelV x v->ZK J M->r x J H Q->
  wpAny (model X.prog X.w) X.A (call (.builtin id) (v::M)) (EP X j q Q) X.xe s
theorem ZK.one {x:V}{us:List Value}(h:ZK [x] us):∃u,us=[u]/\RelV x u:=by
 cases h with
 |cons r t=>cases t;exact⟨_,rfl,r⟩
theorem ZK.zero:∀{us:List Value},ZK [] us->us=[]
 |_,.nil=>rfl
theorem ZK.dropLast {xs:List V}{us:List Value}(h:ZK xs us):ZK xs.dropLast us.dropLast:=by
 induction h with
 |nil=>exact .nil
 |cons r t j=>
  cases t with
  |nil=>exact .nil
  |cons q J=>exact .cons r j
theorem ZK.eraseIdx:∀{xs:List V}{us:List Value} (i:Nat),ZK xs us->ZK (xs.eraseIdx i) (us.eraseIdx i)
 |_,_,_,.nil=>.nil
 |_,_,0,.cons _ t=>t
 |_,_,i+1,.cons r t=>.cons r (ZK.eraseIdx i t)
theorem ZK.reverse {xs:List V}{us:List Value}(h:ZK xs us):ZK xs.reverse us.reverse:=by
 induction h with
 |nil=>exact .nil
 |cons r t j=>rw[mB,mB];exact ZK.append j (.cons r .nil)
theorem ZK.rep {xs:List V}{us:List Value}(h:ZK xs us):∀k:Nat,ZK (av k xs).flatten (av k us).flatten
 |0=>.nil
 |k+1=>by
  rw[bm,bm,cg,cg];exact ZK.append h (ZK.rep h k)
theorem Zdf {α:Type}(l:List α):l.eraseIdx (l.length-1)=l.dropLast:=by
 induction l with
 |nil=>rfl
 |cons a r j=>
  cases r with
  |nil=>rfl
  |cons b r=>
   have e:(a::b::r).length-1=((b::r).length-1)+1:=by
    have q:(a::b::r).length=r.length+2:=rfl;have J:(b::r).length=r.length+1:=rfl;omega
   rw[e,kw,j];all_goals rfl
theorem UV {α:Type}:∀(l:List α) (i:Nat),(l.eraseIdx i).length<=l.length
 | [],_=>Zq _
 |_::_,0=>gC _
 |_::r,i+1=>Nat.succ_le_succ (UV r i)
theorem foldl_rep (j:List Value):∀(k:Nat) (ZF:List Value),
  l9 (fun q J=>q++J) ZF.toArray (av k j.toArray)=(ZF++(av k j).flatten).toArray
 |0,ZF=>by simp
 |k+1,ZF=>by
  have e:ZF.toArray++j.toArray=(ZF++j).toArray:=by simp
  have M:(ZF++j)++(av k j).flatten=ZF++(av (k+1) j).flatten:=by
   rw[bm,cg,gt]
  rw[<-M,<-foldl_rep j k (ZF++j),<-e,bm,List.foldl_cons]
section
variable {X:Cx}{pins:List (Addr×Obj)}{σ:St}{H:Hp}{s:Shared}{l b:Addr}{xs ys zs:List V}
theorem Inv.lset {j its':List Value}{n:Nat}{f:Array Value->Array Value}{t':Nat}(I:Inv X pins σ H s)(J:H l=some (.lst xs))
  (e:s.heap.get? l=some {cls:=.type "list",data:=.seq j.toArray n}) (M:f j.toArray=its'.toArray) (O:ZK ys its') (hz:ys.length<=sizeLine) :
  Inv X pins σ (upd H l (.lst ys)) {s with heap:=s.heap.update l (cM f),toks:=t'}:=by
 have q:=PySem.IsL.update e f;rw[M] at q;refine I.write (x:=l) (e:=l) (by rw[J];exact trivial) (.inl rfl) (fun Y u hb U=>(bS s.heap (cM f) (bJ hb)).trans U) ⟨_,q⟩ ?_;exact⟨hz,its',_,O,q⟩
theorem Inv.lnew {j:List Value}{t':Nat}(I:Inv X pins σ H s)(J:ZK ys j)(hz:ys.length<=sizeLine) :
  Inv X pins σ (upd H s.heap.objs.size (.lst ys)) {s with heap:=s.heap.push {cls:=.type "list",data:=.seq j.toArray},toks:=t'}:=
 I.laid (fun _ _ q=>Zn _ q) (Zq _) ⟨hz,j,0,J,Zo _ rfl⟩
theorem Inv.fresh (I:Inv X pins σ H s):H s.heap.objs.size=none:=I.hok.fresh (Zq _)
theorem Inv.lstM (I:Inv X pins σ H s)(q:H l=some (.lst xs)):xs.length<=sizeLine/\∃(j:List Value) (n:Nat),ZK xs j/\xs.length=j.length/\s.heap.get? l=some {cls:=.type "list",data:=.seq j.toArray n}:=by
 obtain⟨z,j,n,r,e⟩:=I.hok l _ q;exact⟨z,j,n,r,r.length,e⟩
theorem ZbT {n:Nat}(h:n<=sizeLine):dO n=false:=by
 unfold dO;exact decide_eq_false (by omega)
end
section
variable {X:Cx}
noncomputable def ZaD:V->List V->Hp->VK->Prop:=fun x q H Q=>∃l j y,x=.ref l/\q=[y]/\H l=some (.lst j)/\j.length<sizeLine/\Q .non (upd H l (.lst (j++[y])))
theorem ZV:MtM X "list.append" ZaD:=by
 intro J s σ H x vs v us Q I U Y h;obtain⟨l,xs,y,rfl,rfl,M,hz,q⟩:=h;cases U;obtain⟨u,rfl,ru⟩:=Y.one;obtain⟨z,j,n,r,hl,e⟩:=I.lstM M;refine gG aM ⟨_,e,rfl⟩ F.entry_list_append (F.args_list_append_2 _ _) (PySem.list_append l j.toArray n u (by rw[Zh];omega)) ⟨e,?_⟩;refine⟨.non,_,I.lset (its':=j++[u]) M e (by simp) (r.append (.cons ru .nil)) ?_,rfl,q⟩;rw[Zd,Zk];omega
noncomputable def ZiC:V->List V->Hp->VK->Prop:=fun x J H Q=>∃l b j q,x=.ref l/\J=[.ref b]/\H l=some (.lst j)/\H b=some (.lst q)/\j.length+q.length<=sizeLine/\Q .non (upd H l (.lst (j++q)))
theorem Ze8:MtM X "list.extend" ZiC:=by
 intro U s σ H x vs v us Q I rx rv h;obtain⟨l,b,xs,zs,rfl,rfl,Y,hB,hz,q⟩:=h;cases rx;obtain⟨u,rfl,ru⟩:=rv.one;cases ru;obtain⟨z,J,n,r,hl,e⟩:=I.lstM Y;obtain⟨z2,j,n2,r2,m9,e2⟩:=I.lstM hB;have O:J.toArray.size+j.toArray.size<=sizeLine:=by rw[Zh,Zh];omega
 have M:¬(!J.toArray.isEmpty && dO (J.toArray.size+j.toArray.size))=true:=by
  rw[ZbT O,Bool.and_false];exact aJ
 refine gG kZ ⟨_,e,rfl⟩ F.entry_list_extend (F.args_list_extend_2 _ _)
  (AutoSeq1.list_extend_list_list_0 l J.toArray n b j.toArray n2 M (by rw[Zh];omega) (by omega)) ⟨e,e2,?_⟩
 refine⟨.non,_,I.lset (its':=J++j) Y e (by simp) (r.append r2) ?_,rfl,q⟩;rw[Zd];omega
noncomputable def ZoC:V->List V->Hp->VK->Prop:=fun x q H Q=>∃l j y,x=.ref l/\q=[]/\H l=some (.lst j)/\j[j.length-1]?=some y/\Q y (upd H l (.lst j.dropLast))
theorem Zlm:MtM X "list.pop" ZoC:=by
 intro O s σ H x vs v us Q I rx rv h;obtain⟨l,xs,y,rfl,rfl,U,hy,q⟩:=h;cases rx;have J:=rv.zero;subst J;obtain⟨z,j,n,r,hl,e⟩:=I.lstM U;obtain⟨u,hu,ru⟩:=r.get hy;have M:j.toArray[j.toArray.size-1]?=some u:=by
  show j.toArray[j.length-1]?=some u;rw[<-bN,<-hl];exact hu
 refine gG fX ⟨_,e,rfl⟩ F.entry_list_pop (F.args_list_pop_1 _) (MeetsSeq.list_pop_last l j.toArray n u M (by rw[Zh];omega)) ⟨e,?_⟩;refine⟨y,_,I.lset (its':=j.dropLast) U e ?_ r.dropLast ?_,ru,q⟩
 ·show j.toArray.eraseIdxIfInBounds (j.toArray.size-1)=j.dropLast.toArray
  rw[Zh,i7,Zdf]
 ·rw[d0]
  omega
noncomputable def ZkS:V->List V->Hp->VK->Prop:=fun x q H Q=>∃l j i k y,x=.ref l/\q=[.int i]/\H l=some (.lst j)/\-(2 ^ 63)<=i/\i<2 ^ 63/\seqIndex? i j.length=some k/\j[k]?=some y/\Q y (upd H l (.lst (j.eraseIdx k)))
theorem Zhb:MtM X "list.pop" ZkS:=by
 intro M s σ H x vs v us Q I Y rv h;obtain⟨l,xs,i,k,y,rfl,rfl,O,h1,h2,hk,hy,q⟩:=h;cases Y;obtain⟨u,rfl,ru⟩:=rv.one;obtain⟨t,rfl⟩:=ru;obtain⟨z,j,n,r,hl,e⟩:=I.lstM O;obtain⟨w,hw,J⟩:=r.get hy;refine gG fX ⟨_,e,rfl⟩ F.entry_list_pop (F.args_list_pop_2 _ _)
  (MeetsSeq.list_pop_at l j.toArray n i t k w (fitsIndex_both h1 h2) (by rw[Zh,<-hl];exact hk) (by rw[<-bN];exact hw) (by rw[Zh];omega)) ⟨e,?_⟩
 refine⟨y,_,I.lset (its':=j.eraseIdx k) O e ?_ (r.eraseIdx k) ?_,J,q⟩
 ·show j.toArray.eraseIdxIfInBounds k=(j.eraseIdx k).toArray
  rw[i7]
 ·have:=UV xs k
  omega
noncomputable def ZoE:R2:=fun x y H Q=>∃l b j q,x=.ref l/\y=.ref b/\H l=some (.lst j)/\H b=some (.lst q)/\j.length+q.length<=sizeLine/\∀p,H p=none->Q (.ref p) (upd H p (.lst (j++q)))
theorem ZcZ:Vx X (binaryOp .Add) ZoE:=by
 intro M s σ H x y v u Q I O U h;obtain⟨l,b,xs,zs,rfl,rfl,Y,hB,hz,q⟩:=h;cases O;cases U;obtain⟨z,J,n,r,hl,e⟩:=I.lstM Y;obtain⟨z2,j,n2,r2,m8,e2⟩:=I.lstM hB;refine PySem.P.add_list e e2 ?_ (by rw[Zh,Zh];omega);have ea:J.toArray++j.toArray=(J++j).toArray:=by simp
 rw[ea];exact⟨.ref _,_,I.lnew (t':=s.toks) (r.append r2) (by rw[Zd];omega),rfl,q _ I.fresh⟩
noncomputable def ZoB:R2:=fun x y H Q=>∃l k j,x=.ref l/\y=.int k/\H l=some (.lst j)/\-(2 ^ 63)<=k/\k<2 ^ 63/\j.length*k.toNat<=sizeLine/\
 ∀p,H p=none->Q (.ref p) (upd H p (.lst (av k.toNat j).flatten))
theorem Zjh {α:Type}(xs:List α)(k:Nat):(av k xs).flatten.length=k*xs.length:=by
 induction k with
 |zero=>simp
 |succ k j=>rw[bm,cg,Zd,j,cy,Nat.add_comm]
theorem Jv:Vx X (binaryOp .Mult) ZoB:=by
 intro m9 s σ H x y v u Q I rx ry h;obtain⟨l,k,xs,rfl,rfl,hH,h1,h2,hz,q⟩:=h;cases rx;obtain⟨t,rfl⟩:=ry;obtain⟨z,j,n,r,hl,e⟩:=I.lstM hH;have M:j.toArray.size*k.toNat<=sizeLine:=by rw[Zh,<-hl];exact hz
 have O:¬j.toArray.size*k.toNat > (2 ^ 63-1) / 8:=by
  have:(sizeLine:Nat)<=(2 ^ 63-1) / 8:=by decide
  omega
 have Y:¬(!Builtin.List.listFitsIndex k)=true:=by
  rw[fitsIndex_both h1 h2];exact aJ
 have J:¬dO (j.toArray.size*k.toNat)=true:=by
  rw[ZbT M];exact aJ
 have m8:l9 (fun x1 x2=>x1++x2) #[] (av (if j.toArray.isEmpty=true then 0 else k.toNat) j.toArray)=(av k.toNat j).flatten.toArray:=by
  have f0:∀m:Nat,l9 (fun x1 x2=>x1++x2) #[] (av m j.toArray)=(av m j).flatten.toArray:=fun m=>by
   have:=foldl_rep j m [];rw[List.nil_append] at this;exact this
  rw[f0];cases j with
  |nil=>simp
  |cons a r'=>rw[if_neg (by simp)]
 refine wpAny_binaryOp_repeat_ref (T:="list") (U:="int") (by decide) ⟨_,e,rfl⟩ (fun s'=>typeIs_int s' k t) noFill_list_mul F.fills_int_mul F.slot_int_rmul repeat_list F.slot_int_index.lookup
  (gG F.slot_int_rmul (typeIs_int s k t) F.entry_int_rmul (F.args_int_rmul_2 _ _) (int___rmul___int_list k t l j.toArray n)
   ⟨e,rfl,⟨_,e,rfl⟩,gG F.slot_list_mul ⟨_,e,rfl⟩ F.entry_list_mul (F.args_list_mul_2 _ _) (AutoListH.list___mul___list_int_3 l j.toArray n k t Y O J) ⟨e,?_⟩⟩)
 rw[m8];exact⟨.ref _,_,I.lnew (t':=s.toks) (r.rep k.toNat) (by rw[Zjh,fo];exact hz),rfl,q _ I.fresh⟩
end
section
variable {prog:Program}{w:World}{A:Around}{E:Value->Shared->Prop}{s:Shared}
end
section
variable {X:Cx}
end
end L2
namespace Att
open PySem PySem.W PySem.Calls PyProof.Rows
theorem Vj {P:Params}{h:Heap}:∀(ns:List Int) (vs:List Value),WellAll P h vs (ns.map WData.int)->bO vs ns:=by
 intro ns;induction ns with
 |nil=>
  intro vs w;rw[fh] at w;cases w;exact .nil
 |cons n ns j=>
  intro vs w;rw[aF] at w;cases w with
  |cons a b=>
   cases a;exact .cons _ _ (j _ b)
theorem ZeS {l:gv}{n:Nat}(hn:l.most=some n){P:Params}{h:Heap}{args:List WData}{Xa:List Value}
  (j:l.row.toRowW.claim.pre args=true) (U:WellAll P h Xa args) :
  ∃a vs ns,Xa=[aR a]/\args=[WData.list (ns.map WData.int)]/\h.get? a=some {cls:=.type "list",data:=.seq vs.toArray}/\bO vs ns/\ns.length<=n:=by
 have Y:WShape.hasAll [] args [.list .int]=true:=(pre_splitW j).1;have hc:l.pre.holds [] {args:=args}=true:=(pre_splitW j).2;obtain⟨d,r,rfl,h1,h2⟩:=hasAllW_cons Y;obtain rfl:=hasAllW_nil h2;obtain⟨xs,rfl,h3⟩:=hasW_list h1;obtain⟨ns,rfl⟩:=items_int h3;have hlen:ns.length<=n:=by
  unfold OpenLaw.pre at hc;have M:(WTm.not (.lt (.lit (.int (n:Int))) (.len (.arg 0)))).holds [] {args:=[.list (ns.map .int)]}=true:=by
   have M:=(holds_andW hc).1;rw[hn] at M;exact M
  have O:=condW_of M (w_not (w_lt w_lit (w_len_list (w_arg rfl))));rw[Za] at O;refine jo fun q=>?_;have q':(n:Int)<((ns.length:Nat):Int):=by omega
  first
   |(rw[decide_eq_true q'] at O;exact absurd O (by decide))
   |(simp at O;omega)
 cases U with
 |cons w1 w2=>
  cases w2;cases w1 with
  |list ho J=>exact⟨_,_,ns,rfl,rfl,ho,Vj ns _ J,hlen⟩
theorem ZeU (l:gv)(args:List WData):l.row.toRowW.claim.post args (.bool true) args=true:=
 postW_of (r:=l.row.toRowW) (X:=(true == true))
  (show WShape.has [] (.bool true) .bool=true by first|rfl|decide|simp[WShape.has,WShape.arms,WShape.armsAll])
  (show (WTm.eq .res (.lit (.bool true))).value [] {args:=args,res:=some (.bool true),after:=args}=some (.bool (true == true)) from w_eq_bool (w_res rfl) w_lit) rfl
theorem Zcq {l:gv}{n:Nat}{q:Program}{loose:List Str}{XP:(Str->Option Value)->Heap->Prop}{YP:World->Heap->Prop}{d:DefRec}
  (hn:l.most=some n) (m8:d.params.defaults=[])
  (call:∀(w:World) (s₀ j:Shared) (mg mb:Str->Option Value) (M:Addr) (o:Obj) (pm cd J:Value) (a:Addr) (vs:List Value) (ns:List Int),
   Ground q loose [] XP w s₀ mg mb j.heap->YP w j.heap->
   j.heap.get? M=some o->o.data=.func (docDef d.name d.params d.body d.scope pm cd J)->j.heap.CodeRec cd d.name->mg d.name=some (.ref M)->
   j.heap.get? a=some {cls:=.type "list",data:=.seq vs.toArray}->bO vs ns->ns.length<=n->j.gens=#[]->
   codeAny (model l.prog w) callerA (.call (.ref M) ⟨[.ref a],[]⟩) (fun r s'=>r=.ok (.ret (.bool true))/\OldK j.heap s'.heap/\s'.os=j.os/\iA s'.gens) j) :
  lO q loose XP YP l.row.toRowW d [] (fun f vs=>lM f vs):=by
 intro w s₀ j mg mb G Y M o pm cd J dV kV ho hd m9 hD n4 hg args Xa as O n8 n9 n6 o0;obtain rfl:dV=.none:=Dflts.none hD m8;obtain rfl:kV=.none:=Dflts.noKw hD;obtain⟨a,vs,ns,rfl,rfl,U,hints,hlen⟩:=ZeS hn O n6;refine enter_call (fz (call w s₀ j mg mb M o pm cd J a vs ns G Y ho (fd_plain hd) m9 n4 U hints hlen hg) fun r s' hq=>?_);obtain⟨rfl,h2,h3,h4⟩:=hq;exact⟨.inl ⟨.bool true,.bool true,[],rfl,fun _=>rfl,.bool true,ZeU l _,fun _=>⟨fI,fun _ hm=>(nomatch hm)⟩⟩,h2,h3,h4⟩
section
variable {prog:Program}{w:World}{A:Around}{E:Value->Shared->Prop}{s:Shared}{K:Frag}
end
end Att
namespace L2
open PySem PySem.Spec PyProof.Rows
theorem UG:∀{vs:List Value}{ns:List Int},bO vs ns->ZK (ns.map V.int) vs
 |_,_,.nil=>.nil
 |_,_,.cons n t h=>.cons ⟨t,rfl⟩ (UG h)
noncomputable def Zmh (H:Hp):Prop:=∀b,H b=none\/∃o j,H b=some (.frz o (.lst j))
theorem Zhh {P:Program}{w:World}{K:ab}{mg mb:Str->Option Value}{CX:CXT}{k:Nat}{fa a:Addr}{fd:FuncData}{x:Str}{sp:Sp}{j:Shared}{vs:List Value}{ns:List Int}
  (KX:K.In j.heap) (Y:j.heap.Ns mainGlobals mg) (hb:j.heap.Ns builtinsNs mb) (n8:∀x:Str,x ≠ "__name__"->mb x=bootBuiltins x) (m8:j.heap.NoLimit) (hg:j.gens=#[])
  (ha:j.heap.get? a=some {cls:=.type "list",data:=.seq vs.toArray}) (hi:bO vs ns) (hl:ns.length<=sizeLine) (hr:W9 k callerA)
  (F:∀base:Heap,K.In base->base.Ns mainGlobals mg->Z5 P w K mg base CX k fa fd [x] sp) (U:∀(s:Shared) (u:Value),iX s fd ⟨[u],[]⟩ [(x,u)])
  (n9:∀H:Hp,Zmh H->Wx K H a (ns.map V.int)->sp [.ref a] H (fun v _=>v=.bl true) fun _ _ _=>False)
  (o0:∀H e s',CX [] H j (fun _ _ _=>False) e s'->False) :
  codeAny (model P w) callerA (.call (.ref fa) ⟨[.ref a],[]⟩) (fun r s'=>r=.ok (.ret (.bool true))/\OldK j.heap s'.heap/\s'.os=j.os/\iA s'.gens) j:=by
 have rv:=UG hi;have m9:=hi.length;have O:∀H:Hp,Zmh H->Wx K H a (ns.map V.int)->XF P w H j.heap->(∀b,H b≠none->b=a)->(H a≠none->K.lookup a=none)->
   codeAny (model P w) callerA (.call (.ref fa) ⟨[.ref a],[]⟩) (fun r s'=>r=.ok (.ret (.bool true))/\OldK j.heap s'.heap/\s'.os=j.os/\iA s'.gens) j:=by
  intro H hO hS hok hA hK;have J:∀{b:Addr}{o:Obj},j.heap.get? b=some o->H b=none->(ZaR j.heap H).get? b=some o:=fun e n=>Zhu e n;have o5:∀{b:Addr}{o:Obj}{es:Array DictEntry}{ep:Nat},j.heap.get? b=some o->o.data=.dict es ep->H b=none:=fun {b o es ep} e d=>by
   cases q:H b with
   |none=>rfl
   |some u=>
    have e':b=a:=hA b (by rw[q];simp);subst e';rw[ha] at e;cases e;have d':Data.seq vs.toArray _=Data.dict es ep:=d;cases d'
  have M:∀{b:Addr}{m:Str->Option Value},j.heap.Ns b m->(ZaR j.heap H).Ns b m:=fun {b m} ⟨o,es,ep,e,d,r⟩=>⟨o,es,ep,J e (o5 e d),d,r⟩;have n4:K.In (ZaR j.heap H):=fun b o e=>J (KX b o e) (by
   cases q:H b with
   |none=>rfl
   |some u=>
    have e':b=a:=hA b (by rw[q];simp);subst e';rw[hK (by rw[q];simp)] at e;cases e)
  have hM:Mod K mg (ZaR j.heap H):=⟨n4,M Y,⟨mb,M hb,n8⟩,let ⟨mc,h1,h2⟩:=m8;⟨mc,M h1,h2⟩⟩;have e0:ZjO P w K mg (ZaR j.heap H) callerA [] j H:=⟨rfl,hM,fun b o e=>Zi5 e,Nat.le_of_eq (Zff _ _),trivial,fun b hb=>absurd (show b∈([]:List Addr) from hb) (by simp),hok,.of_eq hg⟩;refine fz ((F _ n4 (M Y)).run callerA [] j H ⟨[.ref a],[]⟩ [.ref a] [.ref a] _ _ hr e0 (U j (.ref a)) (.cons rfl .nil) (n9 H hO hS)) fun r s' h=>?_;cases r with
  |error e=>exact (o0 H e s' h).elim
  |ok fl=>
   cases fl with
   |next=>exact dR h
   |brk=>exact dR h
   |cont=>exact dR h
   |ret u=>
    obtain⟨v,H',os,bare,un,n6,r',q⟩:=h;have q':v=.bl true:=q;subst q';obtain rfl:u=iJ true:=r';refine⟨rfl,OldK.of_keep fun b o e=>?_,os,bare⟩;cases q:H b with
    |none=>exact un.keep b o e q (by intro z;exact absurd (show b∈([]:List Addr) from z) (by simp)) (by simp)
    |some u=>
     rcases hO b with z|⟨ob,xs,z⟩
     ·rw[q] at z;cases z
     ·have z2:=un.frzs b ob _ z
      obtain⟨e1,_⟩:=hok b _ z;obtain⟨e2,_⟩:=n6 b _ z2;rw[e] at e1;cases e1;exact e2
 cases hk:K.lookup a with
 |some o=>
  have e:=KX a o hk;rw[ha] at e;cases e;refine O (fun _=>none) (fun _=>.inl rfl) (.inr ⟨_,vs.toArray,_,hk,rfl,rfl,rfl,by rw[Zh,m9];exact hl,by simpa using rv⟩) (fun b u z=>by have z':(none:Option HO)=some u:=z;cases z') (fun b z=>absurd rfl z) fun z=>absurd rfl z
 |none=>
  refine O (fun b=>if b=a then some (.frz {cls:=.type "list",data:=.seq vs.toArray} (.lst (ns.map V.int))) else none) (fun b=>?_) (.inl (.inr ⟨{cls:=.type "list",data:=.seq vs.toArray},if_pos rfl⟩)) (fun b u z=>?_) (fun b z=>?_) fun _=>hk
  ·by_cases hb:b=a
   ·exact .inr ⟨_,_,if_pos hb⟩
   ·exact .inl (if_neg hb)
  ·by_cases hb:b=a
   ·have z':=(if_pos hb).symm.trans z
    cases z';subst hb;exact⟨ha,by rw[Za];exact hl,vs,_,rv,ha⟩
   ·have z':=(if_neg hb).symm.trans z
    cases z'
  ·by_cases hb:b=a
   ·exact hb
   ·exact absurd (if_neg hb) z
theorem Zah {l:gv}{n k:Nat}{q:Program}{loose:List Str}{XP:(Str->Option Value)->Heap->Prop}{YP:World->Heap->Prop}{d:DefRec}{K:Params->ab}{CX:World->CXT}{sp:World->Sp}{x:Str}
  (hn:l.most=some n) (m8:n<=sizeLine) (m9:d.params.defaults=[]) (hr:W9 k callerA)
  (hY:∀(w:World) (h:Heap),YP w h->(K w.params).In h)
  (F:∀(w:World) (M:Str->Option Value) (fa:Addr) (h:Heap),(K w.params).In h->h.Ns mainGlobals M->M d.name=some (.ref fa)->
   ∃fd:FuncData,(∀(s:Shared) (u:Value),iX s fd ⟨[u],[]⟩ [(x,u)])/\
    ∀base:Heap,(K w.params).In base->base.Ns mainGlobals M->Z5 l.prog w (K w.params) M base (CX w) k fa fd [x] (sp w))
  (n4:∀(w:World) (H:Hp) (a:Addr) (ns:List Int),ns.length<=n->Zmh H->Wx (K w.params) H a (ns.map V.int)->sp w [.ref a] H (fun v _=>v=.bl true) fun _ _ _=>False)
  (n6:∀(w:World) (H:Hp) (s:Shared) (e:Value) (s':Shared),CX w [] H s (fun _ _ _=>False) e s'->False) :
  lO q loose XP YP l.row.toRowW d [] (fun f vs=>lM f vs):=by
 refine Att.Zcq hn m9 fun w n9 O M mb fa o pm cd o0 a vs ns G Y ho hd o5 n8 U J j hg=>?_;have KX:=hY w _ Y;obtain⟨fd,hb,hF⟩:=F w M fa _ KX G.T.g n8;exact Zhh KX G.T.g G.T.b G.T.builtins G.T.nolimit hg U J (a6 j m8) hr hF hb (fun H hO hS=>n4 w H a ns j hO hS) fun H e s'=>n6 w H O e s'
noncomputable def Wm (s:Stmt):Arguments:=match s with
 | .FunctionDef _ a _ _ _ _ _ _ _ _=>a
 |_=>{posonlyargs:=[],args:=[],vararg:=none,kwonlyargs:=[],kw_defaults:=[],kwarg:=none,defaults:=[]}
noncomputable def Wa (s:Stmt):List Stmt:=match s with
 | .FunctionDef _ _ b _ _ _ _ _ _ _=>b
 |_=>[]
noncomputable def Z2 (s:Stmt):cQ:=match s with
 | .FunctionDef _ _ _ _ _ _ j _ _ _=>j
 |_=>{kind:=.function,names:=[],isGenerator:=false,isCoroutine:=false}
noncomputable abbrev Yd:CXT:=fun _ _ _ _ _ _=>False
noncomputable abbrev E0:XK:=fun _ _ _=>False
theorem ZL {X:Cx}:Za7 Yd X E0:=fun _ _ _ _ _ _ _ h=>h.elim
structure WB (K:ab)(x qual:Str)(st:Stmt)(f:Addr)(fd:FuncData):Prop where
 ex:∃(oc:Value) (od:Option Addr) (kV doc pm:Value) (an:Option Addr) (cdv ct:Value) (osl:Array (Option Value)),
  fd=cw x qual (Wm st) (Wa st) (Z2 st) .none kV doc pm an cdv ct/\K.lookup f=some ⟨oc,od,.func fd,osl⟩/\eY K cdv qual=true
 kp:dM K (.ref f)=true
section
variable {P:Program}{w:World}{K:ab}{mg:Str->Option Value}{base:Heap}
theorem WB.ok {x j:Str}{st:Stmt}{f:Addr}{fd:FuncData}{N O:List Str}{k:Nat}{sp:Sp}(F:WB K x j st f fd)(S:Vy N O (Z2 st))(len:∀vs H Q E,sp vs H Q E->vs.length=O.length)
  (M:∀(J:Value) (A:Around) (outer:List Env) (s:Shared) (H:Hp) (vs:List V) (Q:VK) (E:XK),W9 k (A.deeper (envOfC j (Z2 st) s.heap.objs.size f J))->sp vs H Q E->
   ∃t,PSs (Zfq Yd P w K mg base N j (Z2 st) f J A outer s H E).nox (Wa st) t/\t {nx:=fun _ H'=>Q .non H',rt:=Q} (start N vs) H):Z5 P w K mg base Yd (k+1) f fd O sp:=by
 obtain⟨oc,od,kV,doc,pm,an,J,ct,m8,rfl,lk,U⟩:=F.ex;refine Znm lk U S len fun A outer s H vs Q E hr Y=>?_;obtain⟨t,h,q⟩:=M J A outer s H vs Q E hr Y;exact⟨t,h.nox,q⟩
theorem WB.binds {x j:Str}{st:Stmt}{f:Addr}{fd:FuncData}{J:List Str}(F:WB K x j st f fd)
  (h:∀(kV doc pm:Value) (an:Option Addr) (q ct:Value) (us:List Value),us.length=J.length->bindArgs (cw x j (Wm st) (Wa st) (Z2 st) .none kV doc pm an q ct) ⟨us,[]⟩=pure (J.zip us)):Binds K fd J []:=by
 obtain⟨U,Y,kV,doc,pm,an,q,ct,M,rfl,lk,O⟩:=F.ex;exact .all (h kV doc pm an q ct)
theorem Zdd {x j:Str}{st:Stmt}{f:Addr}{M:Value}{O an:Option Addr}{J:Array (Option Value)}{kV doc pm q ct:Value}(l:K.lookup f=some ⟨M,O,.func (cw x j (Wm st) (Wa st) (Z2 st) .none kV doc pm an q ct),J⟩)
  (c:eY K q j=true) (k:dM K (.ref f)=true):WB K x j st f (cw x j (Wm st) (Wa st) (Z2 st) .none kV doc pm an q ct):=⟨⟨M,O,kV,doc,pm,an,q,ct,J,rfl,l,c⟩,k⟩
end
section
variable {X:Cx}
end
theorem Y0 {c A B:Prop} [Decidable c](j:c->A)(q:¬c->B):if c then A else B:=by
 by_cases h:c
 ·rw[if_pos h]
  exact j h
 ·rw[if_neg h]
  exact q h
noncomputable def Same (H j:Hp):Prop:=∀b o,H b=some o->j b=some o
theorem Same.refl (H:Hp):Same H H:=fun _ _ h=>h
theorem Same.trans {H j q:Hp}(a:Same H j)(b:Same j q):Same H q:=fun c o h=>b c o (a c o h)
theorem Same.free {H j:Hp}(e:Same H j){l:Addr}(h:j l=Option.none):H l=Option.none:=by
 cases q:H l with
 |none=>rfl
 |some o=>
  rw[e l o q] at h;cases h
theorem Same.seq {K:ab}{H j:Hp}{a:Addr}{xs:List V}(e:Same H j)(h:Wx K H a xs):Wx K j a xs:=by
 rcases h with (h|⟨o,h⟩)|h
 ·exact .inl (.inl (e _ _ h))
 ·exact .inl (.inr ⟨o,e _ _ h⟩)
 ·exact .inr h
end L2
set_option maxHeartbeats 4000000
namespace L2
open PySem PySem.Spec PyProof.Rows
structure Ja (N:List Str)(esc:cQ)(own:List Str)(caps:List Nat)(N':List Str)(sc:cQ):Prop where
 kind:sc.kind=.function
 ndn:(sc.names.map (·.1)).Nodup
 uniq:∀y∈sc.names,y.2=.local->sc.names.lookup y.1=some .local
 nd:N'.Nodup
 eqN:N'=own++caps.map fun j=>N.getD j ""
 cap:∀j∈caps,j<N.length/\sc.names.lookup (N.getD j "")=some .free
 fr:∀y∈sc.names,y.2=.free->esc.names.lookup y.1=some .cell\/esc.names.lookup y.1=some .free
noncomputable def Jp (J:List Str)(q:List Nat)(M:St):St:=av J.length none++q.map fun j=>(M[j]?).join
theorem J7 {env:Env}:∀(names:List (Str×eP)) (ZF:List (Str×Addr)),(∀y∈names,y.2=.free->∃c,env.cells.lookup y.1=some c)->(∀y c,ZF.lookup y=some c->env.cells.lookup y=some c)->
  ∃cl,(forIn names ZF (fun x r=>if (x.2 == fk)=true then (do let c <-cellOf env x.1;pure (cL ((x.1,c)::r))) else pure (cL r)):Sem (List (Str×Addr)))=pure cl/\
   (∀y c,cl.lookup y=some c->env.cells.lookup y=some c)/\(∀y,(∃c,ZF.lookup y=some c)->∃c,cl.lookup y=some c)/\∀y∈names,y.2=.free->∃c,cl.lookup y.1=some c
 | [],ZF,_,M=>⟨ZF,rfl,M,fun _ h=>h,fun _ h=>absurd h (by simp)⟩
 | (n,k)::r,ZF,Y,M=>by
  rw[jy];by_cases hk:k=.free
  ·subst hk
   obtain⟨c,hc⟩:=Y (n,.free) aB rfl;have m8:∀y d,((n,c)::ZF).lookup y=some d->env.cells.lookup y=some d:=fun y d e=>by
    rw[de] at e;cases q:y == n with
    |true=>rw[q] at e;cases e;rw[beq_iff_eq.mp q];exact hc
    |false=>rw[q] at e;exact M y d e
   obtain⟨cl,e,h1,O,h3⟩:=J7 r ((n,c)::ZF) (fun y j=>Y y (ay _ j)) m8;have hh:∀y,(∃d,ZF.lookup y=some d)->∃d,((n,c)::ZF).lookup y=some d:=fun y ⟨d,hd⟩=>by
    rw[de];cases q:y == n with
    |true=>exact⟨c,rfl⟩
    |false=>exact⟨d,hd⟩
   have hs:∃d,((n,c)::ZF).lookup n=some d:=⟨c,by rw[de,beq_self_eq_true]⟩;refine⟨cl,?_,h1,fun y j=>O y (hh y j),fun y j U=>?_⟩
   ·have J:cellOf env n=pure c:=by simp only[cellOf,hc]
    simp only[beq_self_eq_true,if_true,J];simp only[pure_bind];exact e
   ·rcases aG.mp j with rfl|j
    ·exact O _ hs
    ·exact h3 y j U
  ·obtain⟨cl,e,h1,O,h3⟩:=J7 r ZF (fun y j=>Y y (ay _ j)) M
   refine⟨cl,?_,h1,O,fun y j U=>?_⟩
   ·have hb:(k == fk)=false:=by simpa using hk
    simp only[hb,dz,if_false,pure_bind];exact e
   ·rcases aG.mp j with rfl|j
    ·exact absurd U hk
    ·exact h3 y j U
theorem Uh {scope:cQ}{env:Env}(h:∀y∈scope.names,y.2=.free->∃c,env.cells.lookup y.1=some c) :
  ∃cl,closureFor scope env=pure cl/\(∀y c,cl.lookup y=some c->env.cells.lookup y=some c)/\∀y∈scope.names,y.2=.free->∃c,cl.lookup y.1=some c:=by
 obtain⟨cl,e,j,_,J⟩:=J7 (env:=env) scope.names [] h (fun y c e=>by simp at e);refine⟨cl,?_,j,J⟩;have q:closureFor scope env=((forIn scope.names ([]:List (Str×Addr)) (fun x r=>if (x.2 == fk)=true then (do let c <-cellOf env x.1;pure (cL ((x.1,c)::r))) else pure (cL r)):Sem (List (Str×Addr))) >>= fun M=>pure M):=rfl
 rw[q,e];rfl
theorem WQ {names:List (Str×eP)}{x:Str}{k:eP}(h:names.lookup x=some k):(x,k)∈names:=bB h
theorem Y7 {env:Env}{x:Str}:∀{names:List (Str×eP)}{k:eP},
  (names.map fun (n,k)=>if (k == fk && env.scope.kind == .function && env.kindOf n == some .cell) then (n,dw) else (n,k)).lookup x=some k->
  names.lookup x=some k\/(k=.cell/\names.lookup x=some .free)
 | [],_,h=>by simp at h
 | (n,j)::r,k,h=>by
  have O:=@Y7 env x r k;have h:List.lookup x ((if (j == fk && env.scope.kind == .function && env.kindOf n == some .cell)=true then (n,dw) else (n,j))::_)=some k:=h
  rw[de];by_cases J:(j == fk && env.scope.kind == .function && env.kindOf n == some .cell)=true
  ·rw[if_pos J,de] at h
   have M:j=.free:=by
    simp only[af,beq_iff_eq] at J;exact J.1.1
   cases q:x == n with
   |true=>rw[q] at h;cases h;right;exact⟨rfl,by rw[M]⟩
   |false=>rw[q] at h;exact O h
  ·rw[if_neg J,de] at h
   cases q:x == n with
   |true=>rw[q] at h;cases h;left;rfl
   |false=>rw[q] at h;exact O h
section
variable {X:Cx}
noncomputable def ZhY (scope:cQ)(x:Str):Bool:=scope.names.any fun y=>y.1 == x && (match y.2 with | .cell=>true|_=>false)
theorem Zfw {scope:cQ}{x:Str}(h:ZhY scope x=true):(x,dw)∈scope.names:=by
 unfold ZhY at h;obtain⟨⟨n,k⟩,hm,j⟩:=bd.mp h;rw[af] at j;obtain⟨q,J⟩:=j;have e:n=x:=by simpa using q
 subst e;cases k <;> first|exact hm|cases J
theorem XR {x:Str}{k:eP}:∀{names:List (Str×eP)},(names.map (·.1)).Nodup->(x,k)∈names->names.lookup x=some k
 | [],_,h=>by cases h
 | (n,j)::r,nd,h=>by
  rw[aF,bD] at nd;rw[de];rcases aG.mp h with e|h
  ·cases e
   simp
  ·have:(x == n)=false:=by
    refine mF.mpr fun z=>nd.1 ?_;rw[<-beq_iff_eq.mp z];exact aI.mpr ⟨_,h,rfl⟩
   rw[this];exact XR nd.2 h
theorem JR:∀(names:List (Str×eP)) (n:Nat) (ZF:List (Str×Addr)),cellsFrom n names ZF=cellsFrom n names []++ZF
 | [],n,ZF=>rfl
 |(x,k)::r,n,ZF=>by
  unfold cellsFrom;by_cases j:(k == dw)=true
  ·rw[if_pos j,if_pos j,JR r (n+1) ((x,n)::ZF),JR r (n+1) [(x,n)],gt]
   rfl
  ·rw[if_neg j,if_neg j,JR r n ZF]
theorem X1 {x:Str}{c:Addr}:∀(names:List (Str×eP)) (n:Nat) (ZF:List (Str×Addr)),(x,c)∈cellsFrom n names ZF->(x,dw)∈names\/(x,c)∈ZF
 | [],n,ZF,h=>.inr h
 | (y,k)::r,n,ZF,h=>by
  unfold cellsFrom at h;by_cases j:(k == dw)=true
  ·rw[if_pos j] at h
   rcases X1 r (n+1) _ h with z|z
   ·exact .inl (ay _ z)
   ·rcases aG.mp z with e|z
    ·cases e
     have:k=.cell:=by cases k <;> first|rfl|cases j
     rw[this];exact .inl aB
    ·exact .inr z
  ·rw[if_neg j] at h
   rcases X1 r n _ h with z|z
   ·exact .inl (ay _ z)
   ·exact .inr z
theorem Zi7 {M:Model}{A:Around}{E:Value->Shared->Prop}{s:Shared}{scope:cQ}{globals:Addr}{cl:List (Str×Addr)}{qual:Str}{j:Env}{Q:Env->Shared->Prop}
  (U:Q (newEnv scope s.heap.objs.size globals (cellsFrom (s.heap.objs.size+1) scope.names cl) qual none .none (some j) builtinsNs) {s with heap:=pushCells (s.heap.push {cls:=.type "dict",data:=.dict #[]}) scope.names}) :
  wpAny M A (newFunctionEnv scope globals cl [] qual none .none (some j)) Q E s:=by
 unfold newFunctionEnv;refine Zl (wpAny_alloc ?_);refine Zl (wpAny_layCells _ (fun O kind q=>by cases J:kind == dw <;> simp[J]) _ _ _ _ ?_)
 rw[show ({s with heap:=s.heap.push {cls:=.type (if (some j).isSome=true then "dict" else "frame"),data:=.dict #[]}}:Shared).heap.objs.size=s.heap.objs.size+1 from bu ..]
 exact Zl (by rw[jQ];exact Zm (Zm U))
noncomputable def YS (X:Cx)(scope:cQ)(j:List (Str×Addr))(q:List Str)(C:Addr)(s:Shared)(H:Hp)(ex:List Addr):Cx:=
 {X with N:=q,s₀:=s,H₀:=H,env:=compEnvC scope j C X.env,outer:=X.stack,ex:=ex,fn:=ZhY scope,pn:=[],xe:=fun _ _=>False}
noncomputable def WT (m8:List Str)(q:List Nat)(g:TG)(tc:TT)(te:TE)(σ:St)(Q:VK)(J:It)(H1:Hp):Prop:=∀D,H1 D=none->
 ∃W:Nat->Nat->St->Hp->Prop,(∃m,W 0 m (Jp m8 q σ) (upd H1 D (.lst [])))/\∀i m M O,W i m M O->
  (J.stop i O/\Q (.ref D) O)\/(J.go i O/\∃N:St->Hp->Prop,(∀ U Y,N U Y->∃m',m'<m/\W (i+1) m' U Y)/\∀x Y,J.yld i O x Y->g x M Y fun j H3=>tc j H3 fun b H4=>
   if b=true then te j H4 fun v H5=>∃xs,H5 D=some (.lst xs)/\xs.length<sizeLine/\N j (upd H5 D (.lst (xs++[v]))) else N j H4)
noncomputable def Zdw (q:List Str)(j:List Nat)(O:TI)(g:TG)(U:TT)(Y:TE):TE:=fun M H Q=>O M H fun J H1=>WT q j g U Y M Q J H1
noncomputable def Wo:TT:=fun _ H Q=>Q true H
noncomputable def PIf (X:Cx)(q:List Expr)(t:TT):Prop:=
 ∀(j:List (Addr×Obj)) (s:Shared) (J:St) (H:Hp) (Q:Bool->Hp->Prop),Inv X j J H s->t J H Q->
  wpAny (model X.prog X.w) X.A (forIn q true fun c r=>if r=true then do let ok <-isTrue c X.env (eval c X.env);pure (cL ok) else pure (cL r)) (TP X j J Q) X.xe s
theorem ZP:PIf X [] Wo:=fun _ _ _ H _ I h=>wpAny_tests_nil ⟨H,I,h⟩
theorem JB {prog:Program}{w:World}{A:Around}{R:Result->Shared->Prop}{s:Shared}{elt j iter:Expr}{ifs:List Expr}{scope:cQ}{pos:Pos}{it ZF:Value}{env:Env}(I:Nat->Shared->Prop)
  (turn:∀n s,I n s->wpAny (model prog w) A (pyNext it) (fun r q=>match r with
   |none=>R (.ok .next) q
   |some v=>wpAny (model prog w) A (letOwnedTupleGo j it v) (fun _ J=>wpAny (model prog w) A (assign j env v) (fun _ U=>
     wpAny (model prog w) A (forIn ifs true fun c r=>if r=true then do let ok <-isTrue c env (eval c env);pure (cL ok) else pure (cL r)) (fun ok M=>
      if ok=true then wpAny (model prog w) A (eval elt env) (fun x Y=>
       wpAny (model prog w) A (call (.builtin "list.append") [ZF,x]) (fun _ m8=>∃m,m<n/\I m m8) (fun _ _=>False) Y) (fun _ _=>False) M
      else ∃m,m<n/\I m M) (fun _ _=>False) U) (fun _ _=>False) J) (fun _ _=>False) q) (fun _ _=>False) s)
  (n:Nat) (h:I n s) :
  codeAny (model prog w) A (.compLoop (.ListComp elt [⟨j,iter,ifs,0⟩] scope pos) 0 it ZF env) R s:=by
 refine codeAny_loop rfl I (fun n s hI=>?_) n h;show wpAny _ A ((compTurn (.ListComp elt [⟨j,iter,ifs,0⟩] scope pos) 0 it ZF env).onRaise (fun x=>do noteFrame x env;theTreesLotGoes x)) _ _ s
 refine wpAny_noted ?_;rw[compTurn_list];refine Zl (ja (Zl (cB (turn n s hI) (fun r q m9=>?_) fun _ _ O=>O.elim)));cases r with
 |none=>exact Zm m9
 |some v=>
  refine Zl (cB m9 (fun _ J n6=>?_) fun _ _ O=>O.elim);refine Zl (cB n6 (fun _ U n8=>Zl (cB n8 (fun ok M n4=>?_) fun _ _ O=>O.elim)) fun _ _ O=>O.elim);cases ok with
  |false=>exact Zm ⟨rfl,n4⟩
  |true=>
   exact Zl (Zl (cB n4 (fun x Y n9=>Zl (cB n9 (fun _ m8 o0=>Zm (Zm ⟨rfl,o0⟩)) fun _ _ O=>O.elim)) fun _ _ O=>O.elim))
theorem V9 {own:List Str}{o6:List Nat}{N':List Str}{y9 scope:cQ}{elt iter tg:Expr}{ifs:List Expr}{pos:Pos}{g:TG}{tc:TT}{te:TE}{cl:List (Str×Addr)}
  (hesc:X.env.scope=y9) (S:Ja X.N y9 own o6 N' scope) (hc:X.calm=true)
  (m8:∀y c,cl.lookup y=some c->X.env.cells.lookup y=some c) (t0:∀y∈scope.names,y.2=.free->∃c,cl.lookup y.1=some c)
  (hg:∀cl C s H ex,PG (YS X scope cl N' C s H ex) tg g) (ht:∀cl C s H ex,PIf (YS X scope cl N' C s H ex) ifs tc) (he:∀cl C s H ex,PE (YS X scope cl N' C s H ex) elt te)
  {n4:List (Addr×Obj)}{σ:St}{H2:Hp}{s2:Shared}{it:Addr}{fp:List Addr}{tn:Nat->Heap->Prop}{J:It}{Q:VK}{RR:Value->Addr->Result->Shared->Prop}{E:Value->Shared->Prop}
  (I2:Inv X n4 σ H2 s2) (T:UD X.prog X.w X.K tg J fp it tn) (t9:tn 0 s2.heap) (f2:∀b∈fp,UF X n4 H2 b)
  (h:WT own o6 g tc te σ Q J H2)
  (hRR:∀D C s' m H',s'.heap.Ns C m->C≠X.env.locals->(∀x c,X.env.cells.lookup x=some c->c≠C)->X.s₀.heap.objs.size<=C->(∀p∈X.pn++n4,p.1≠C)->H' C=none->Q (.ref D) H'->(∀h',be C s'.heap h'->Inv X n4 σ H' {s' with heap:=h'})->RR (.ref D) C (.ok .next) s') :
  wpAny (model X.prog X.w) X.A (newList []) (fun ZF s₃=>wpAny (model X.prog X.w) X.A (newFunctionEnv scope X.env.globals cl [] X.env.qual none .none (some X.env)) (fun t5 s₄=>
   codeAny (model X.prog X.w) X.A (.compStart (.ListComp elt [⟨tg,iter,ifs,0⟩] scope pos) 0 (.ref it) ZF {t5 with scope:=relabel scope X.env}) (RR ZF t5.locals) s₄) E s₃) E s2:=by
 refine bH (Zi7 ?_);dsimp only;have hD:H2 s2.heap.objs.size=none:=I2.hok.fresh (Zq _);obtain⟨W,⟨m0,w0⟩,turn⟩:=h _ hD;generalize u5:s2.heap.push {cls:=.type "list",dict:=none,data:=.seq ([]:List Value).toArray}=O;have hC:O.objs.size=s2.heap.objs.size+1:=by rw[<-u5,bu]
 have t6:∀b o,s2.heap.get? b=some o->O.get? b=some o:=fun b o e=>u5▸Zn _ e;have I3:Inv X n4 σ (upd H2 s2.heap.objs.size (.lst [])) {s2 with heap:=O,toks:=s2.toks}:=
  I2.laid (t':=s2.toks) t6 (Zq _) ⟨aZ _,[],0,.nil,u5▸Zo _ rfl⟩
 generalize u9:pushCells (O.push {cls:=.type "dict",data:=.dict #[]}) scope.names=n6;have k1:∀b o,O.get? b=some o->n6.get? b=some o:=fun b o e=>u9▸pushCells_keeps _ _ b o (Zn _ e);have p6:n6.Ns O.objs.size (fun _=>none):=u9▸(Heap.Ns.new O (.type "dict")).keeps (pushCells_keeps _ _);have p7:CellsOk n6 (O.objs.size+1) (cellsFrom (O.objs.size+1) scope.names []):=by
  have q:=cellsFrom_ok scope.names (O.push {cls:=.type "dict",data:=.dict #[]}) (O.objs.size+1) [] ⟨fun _ _ hm=>(nomatch hm),fI⟩ (by rw[bu];exact Zq _);rw[bu,u9] at q;exact q
 have o7:cellsFrom (O.objs.size+1) scope.names cl=cellsFrom (O.objs.size+1) scope.names []++cl:=JR _ _ _;have n9:∀y,scope.names.lookup y=some .cell->∃c,(cellsFrom (O.objs.size+1) scope.names []).lookup y=some c:=fun y hy=>gc.mp (gH scope.names (O.objs.size+1) [] (.inl hy));generalize hcA:cellsFrom (O.objs.size+1) scope.names []=cA at p7 o7 n9;have memA:∀y c,cA.lookup y=some c->(y,dw)∈scope.names:=fun y c e=>by
  have:=bB e;rw[<-hcA] at this;rcases X1 _ _ _ this with z|z
  ·exact z
  ·cases z
 generalize hcE:cellsFrom (O.objs.size+1) scope.names cl=cE at o7;have o8:∀y c,cE.lookup y=some c->cA.lookup y=some c\/(cA.lookup y=none/\cl.lookup y=some c):=fun y c e=>by
  rw[o7,iO] at e;cases q:cA.lookup y with
  |none=>rw[q] at e;exact .inr ⟨rfl,by simpa using e⟩
  |some c'=>rw[q] at e;exact .inl (by simpa using e)
 have lkF:∀y c,scope.names.lookup y=some .free->cl.lookup y=some c->cE.lookup y=some c:=fun y c hy e=>by
  rw[o7,iO];cases q:cA.lookup y with
  |none=>simpa using e
  |some c'=>
   have:=XR S.ndn (memA y c' q);rw[hy] at this;cases this
 have fpn:∀b∈fp,upd H2 s2.heap.objs.size (.lst []) b=none:=fun b hb=>by
  obtain⟨o,ho,_⟩:=T.obj _ _ t9 b hb;rw[Zx (ax (Zp ho))];exact (f2 b hb).1
 have o9:∀b∈fp,b<O.objs.size:=fun b hb=>by
  obtain⟨o,ho,_⟩:=T.obj _ _ t9 b hb;rw[hC];exact fq (Zp ho)
 generalize M:YS X scope cE N' O.objs.size {s2 with heap:=O,toks:=s2.toks} (upd H2 s2.heap.objs.size (.lst [])) fp=X';have hfs:X'.fs=frs X.stack:=by rw[<-M];rfl
 have x6:∀y,X'.env.kindOf y=some .cell\/X'.env.kindOf y=some .free->∃c,cE.lookup y=some c:=fun y hy=>by
  have hy':(relabel scope X.env).names.lookup y=some .cell\/(relabel scope X.env).names.lookup y=some .free:=by rw[<-M] at hy;exact hy
  have hf:scope.names.lookup y=some .free->∃c,cE.lookup y=some c:=fun hf=>by
   obtain⟨c,o0⟩:=t0 _ (WQ hf) rfl;exact⟨c,lkF y c hf o0⟩
  have p8:scope.names.lookup y=some .cell->∃c,cE.lookup y=some c:=fun hf=>by
   obtain⟨c,o0⟩:=n9 y hf;exact⟨c,by rw[o7,iO,o0];rfl⟩
  rcases hy' with q|q
  ·rcases Y7 q with z|z
   ·exact p8 z
   ·exact hf z.2
  ·rcases Y7 q with z|z
   ·exact hf z
   ·exact absurd z.1 (by decide)
 have m9:X'.env.cells=cE:=by rw[<-M];rfl
 have n8:X'.env.locals=O.objs.size:=by rw[<-M];rfl
 have cne:∀x c,cl.lookup x=some c->c≠O.objs.size/\c<O.objs.size:=fun x c e=>by
  obtain⟨v,q⟩:=I3.cell x c (m8 x c e);exact⟨ax q.lt,q.lt⟩
 have U:∀x c,cA.lookup x=some c->O.objs.size+1<=c:=fun x c e=>(p7.empty x c (bB e)).2;have injE:∀x y c,cE.lookup x=some c->cE.lookup y=some c->x=y:=fun x y c a b=>by
  rcases o8 x c a with a|⟨_,a⟩ <;> rcases o8 y c b with b|⟨_,b⟩
  ·exact name_of_addr p7.apart (bB a) (bB b)
  ·have h1:O.objs.size+1<=c:=U x c a
   exact absurd (aE (cne y c b).2 (dP h1)) (cf _)
  ·have h1:O.objs.size+1<=c:=U y c b
   exact absurd (aE (cne x c a).2 (dP h1)) (cf _)
  ·exact I3.ok.inj x y c (m8 x c a) (m8 y c b)
 have ok':X'.Ok:=by
  refine M▸⟨I3.ok.mod,S.kind,I3.ok.glob,I3.ok.blt,Zq _,injE,?_,?cab,I3.ok.hd,I3.ok.frames,.inl rfl,?_,?_,?_,?_,?_,I3.stack,I3.stkFree⟩
  ·intro y hy
   exact x6 y (by rw[<-M];exact hy)
  ·intro x c z e
   have hm:=XR S.ndn (Zfw z);rcases o8 x c e with e|⟨n,_⟩
   ·exact dP (U x c e)
   ·obtain⟨c',o0⟩:=n9 x hm
    rw[n] at o0;cases o0
  ·intro b hb
   refine⟨ax (o9 b hb),fun x c e=>?_⟩;rcases o8 x c e with e|⟨_,e⟩
   ·have h1:O.objs.size+1<=c:=U x c e
    exact fun z=>absurd (aE (o9 b hb) (dP h1)) (by rw[z];exact cf _)
   ·exact (f2 b hb).2.2.2.2.1 x c (m8 x c e)
  ·exact I3.bs
  ·exact a6 I3.ok.bsz I3.sz
  ·intro b o e hb
   rcases (f2 b hb).2.2.2.1 with z|z
   ·exact I3.ok.noex b o e z
   ·exact absurd (aE (Zp e) (a6 I3.ok.bsz z)) (cf _)
  ·intro b hb z
   rcases aG.mp (I3.stkSub b z) with e|e
   ·exact (f2 b hb).2.1 e
   ·exact (f2 b hb).2.2.1 e
 have I4:Inv X' [] (Jp own o6 σ) (upd H2 s2.heap.objs.size (.lst [])) {s2 with heap:=n6,toks:=s2.toks}:=by
  refine⟨ok',M▸rfl,I3.bare,?_,⟨_,by rw[n8];exact p6,?_⟩,?_,?_,?_,?_,?_,?_⟩
  ·rw[<-M];exact Un.kept k1
  ·intro i x v hN o5 hV
   have x8:N'[i]?=some x:=by rw[<-M] at hN;exact hN
   unfold Jp at o5;by_cases hi:i<own.length
   ·rw[am (by simpa using hi),e7] at o5
    rw[if_pos hi] at o5;cases o5
   ·rw[aq (by simpa using hi),Ze,Zc] at o5
    rw[S.eqN,aq (by omega),Zc] at x8;cases hj:o6[i-own.length]? with
    |none=>rw[hj] at o5;cases o5
    |some j=>
     rw[hj] at o5 x8;have hx:X.N.getD j ""=x:=aw x8;obtain⟨hjl,p4⟩:=S.cap j (aD hj);rw[hx] at p4;have hjN:X.N[j]?=some x:=by
      rw[Zf hjl,<-hx,Zb,Zf hjl];rfl
     have hv:σ[j]?=some (some v):=by
      have q:(σ[j]?).join=some v:=aw o5;cases q':σ[j]? with
      |none=>rw[q'] at q;cases q
      |some o=>rw[q'] at q;rw[show o=some v from q]
     have x9:=S.fr (x,.free) (WQ p4) rfl;rw[<-hesc] at x9;obtain⟨m,hn,hl⟩:=I3.loc;have visX:Vis X.env.scope x:=x9.elim (fun z=>.inr (.inl z)) fun z=>.inr (.inr z);obtain⟨u,ru,look⟩:=hl j x v hjN hv visX;refine⟨u,ru,?_⟩;obtain⟨c,p8⟩:=t0 (x,.free) (WQ p4) rfl;rcases look with ⟨a,_⟩|⟨_,c',o0,y4⟩
     ·rcases x9 with z|z
      ·rw[show X.env.kindOf x=X.env.scope.names.lookup x from rfl,z] at a;cases a
      ·rw[show X.env.kindOf x=X.env.scope.names.lookup x from rfl,z] at a;cases a
     ·have:c'=c:=by rw[m8 _ _ p8] at o0;cases o0;rfl
      subst this;refine .inr ⟨?_,c',by rw[m9];exact lkF _ _ p4 p8,y4.keeps k1⟩;rcases hV with q|q|q
      ·have q':(relabel scope X.env).names.lookup x=some .local:=by rw[<-M] at q;exact q
       rcases Y7 q' with z|z
       ·rw[p4] at z;cases z
       ·exact absurd z.1 (by decide)
      ·exact .inl q
      ·exact .inr q
  ·intro x c e
   rw[m9] at e;rcases o8 x c e with e|⟨_,e⟩
   ·exact⟨_,(p7.empty x c (bB e)).1⟩
   ·obtain⟨v,q⟩:=I3.cell x c (m8 x c e)
    exact⟨v,q.keeps k1⟩
  ·rw[n8];exact I3.hok.fresh (Zq _)
  ·intro x c e
   rw[m9] at e;rcases o8 x c e with e|⟨_,e⟩
   ·exact I3.hok.fresh (dP (U x c e))
   ·exact I3.freeC x c (m8 x c e)
  ·intro p hp
   have:p∈([]:List (Addr×Obj)):=by rw[<-M] at hp;exact hp
   cases this
  ·rw[<-M];exact I3.hok.kept k1
  ·rw[<-M]
   show (Jp own o6 σ).length=N'.length;unfold Jp;rw[S.eqN,Zd,Zd,Ze,Za,Za]
 have pX:X'.prog=X.prog:=by rw[<-M];rfl
 have wX:X'.w=X.w:=by rw[<-M];rfl
 have KX:X'.K=X.K:=by rw[<-M];rfl
 have AX:X'.A=X.A:=by rw[<-M];rfl
 have cX:X'.calm=true:=by rw[<-M];exact hc
 have xX:X'.xe=fun _ _=>False:=by rw[<-M];rfl
 have envX:X'.env=compEnvC scope cE O.objs.size X.env:=by rw[<-M];rfl
 have exX:X'.ex=fp:=by rw[<-M];rfl
 have hg':PG X' tg g:=M▸hg _ _ _ _ _;have ht':PIf X' ifs tc:=M▸ht _ _ _ _ _;have he':PE X' elt te:=M▸he _ _ _ _ _;have y6:∀{H':Hp},(∀b∈fp,H' b=none)->∀b∈fp,UF X' [] H' b:=fun {H'} hn b hb=>by
  refine⟨hn b hb,?_,?_,?_,?_,?_⟩
  ·rw[n8];exact ax (o9 b hb)
  ·rw[hfs];intro z
   rcases aG.mp (I3.stkSub b z) with e|e
   ·exact (f2 b hb).2.1 e
   ·exact (f2 b hb).2.2.1 e
  ·rw[exX];exact .inl hb
  ·intro x c e
   rw[m9] at e;rcases o8 x c e with e|⟨_,e⟩
   ·have h1:O.objs.size+1<=c:=U x c e
    exact fun z=>absurd (aE (o9 b hb) (dP h1)) (by rw[z];exact cf _)
   ·exact (f2 b hb).2.2.2.2.1 x c (m8 x c e)
  ·intro p hp
   have:p∈([]:List (Addr×Obj)):=by rw[<-M] at hp;exact hp
   cases this
 have st1:tn 0 n6:=T.keep _ _ _ t9 fun b hb o e=>k1 b o (t6 b o e);have back:∀{Y:St}{H':Hp}{s':Shared}{pp:List (Addr×Obj)}{h':Heap},Inv X' pp Y H' s'->be O.objs.size s'.heap h'->Inv X n4 σ H' {s' with heap:=h'}:=fun {Y H' s' pp h'} I' sb=>by
  have u:=I'.base;rw[hfs,exX] at u;have hs0:X'.s₀.heap=O:=by rw[<-M];rfl
  have hH0:X'.H₀=upd H2 s2.heap.objs.size (.lst []):=by rw[<-M];rfl
  rw[hs0,hH0] at u;have ne:∀b o,O.get? b=some o->b≠O.objs.size:=fun b o e=>ax (Zp e);have hCn:H' O.objs.size=none:=by have:=I'.free;rw[n8] at this;exact this
  refine I3.call' (s':={s' with heap:=h'}) (ch:=fp) ?_ ⟨?_,?_,?_,?_,?_,?_,?_⟩ ?_ I'.bare ?_
  ·have:=I'.os;rw[<-M] at this;exact this
  ·intro b o e n hb hx;exact sb.extBut b o (ne b o e) (u.keep b o e n hb hx)
  ·intro b o e n hb hx
   obtain⟨sl,q⟩:=u.slot b o e n hb hx;exact⟨sl,sb.extBut b _ (ne b o e) q⟩
  ·exact u.free
  ·intro b o e hx
   obtain⟨o',q⟩:=u.there b o e hx;exact⟨o',sb.extBut b _ (ne b o e) q⟩
  ·exact u.tups
  ·exact u.frzs
  ·exact u.tbls
  ·have hok:=I'.hok
   rw[pX,wX] at hok;intro a o e;refine (hok a o e).stay (fun b v hb r=>sb.extBut b v ?_ r) (fun b r=>r) fun b xs r=>r;rcases hb with rfl|hb
   ·intro z;rw[z,hCn] at e;cases e
   ·intro z;rw[z,hCn] at hb;cases hb
  ·intro b hb
   refine⟨(f2 b hb).2.2.2.1,(f2 b hb).2.1,(f2 b hb).2.2.2.2.1,(f2 b hb).2.2.2.2.2⟩
 have t7:∀s3:Shared,s3={s2 with heap:=n6,toks:=s2.toks}->
   codeAny (model X.prog X.w) X.A (.compLoop (.ListComp elt [⟨tg,iter,ifs,0⟩] scope pos) 0 (.ref it) (.ref s2.heap.objs.size) (compEnvC scope cE O.objs.size X.env)) (RR (.ref s2.heap.objs.size) O.objs.size) s3:=by
  rintro s3 rfl;refine JB (fun n s'=>∃i Y H',Inv X' [] Y H' s'/\tn i s'.heap/\(∀b∈fp,H' b=none)/\W i n Y H') ?_ m0 ⟨0,_,_,I4,st1,fpn,w0⟩;rintro n s5 ⟨i,q0,H5,I5,st5,fr5,w5⟩;rcases turn i n q0 H5 w5 with ⟨stop,qn⟩|⟨go,N,hN,step⟩
  ·have q:=T.done X' pX wX KX cX i [] s5 q0 H5 (fun _ _=>False) I5 (y6 fr5) st5 stop
   rw[AX] at q;refine Yg q fun r s6 ⟨hr,I6⟩=>?_;subst hr;obtain⟨m,hn,_⟩:=I6.loc;rw[n8] at hn;refine hRR _ _ s6 m H5 hn ?_ ?_ I3.sz ?_ ?_ qn fun h' sb=>back I6 sb
   ·exact bw I3.lt
   ·intro x c e
    obtain⟨v,q⟩:=I3.cell x c e;exact ax q.lt
   ·intro pp hpp
    exact ax (Zp (I3.pin pp hpp).1)
   ·have:=I6.free;rw[n8] at this;exact this
  ·have q:=T.item X' pX wX KX cX i [] s5 q0 H5 (fun _ _=>False) I5 (y6 fr5) st5 go
   rw[AX] at q;refine Yg q fun r s6 ⟨u,hr,h6⟩=>?_;subst hr;refine Yg h6 fun _ s7 ⟨x,H7,I7,r7,y7,y8,fr7⟩=>?_;have I7':=I7.pinned (y6 fr7) (T.obj _ _ y8);have q8:=hg' _ s7 q0 H7 x u _ I7' r7 (step x H7 y7);rw[pX,wX,AX,envX,xX] at q8;refine Yg q8 fun _ s8 ⟨r6,H8,I8,q8⟩=>?_;have q9:=ht' _ s8 r6 H8 _ I8 q8;rw[pX,wX,AX,envX,xX] at q9;have again:∀{Y:St}{H':Hp}{s':Shared},Inv X' ([]++VS fp s7.heap) Y H' s'->N Y H'->∃m,m<n/\∃i Y H',Inv X' [] Y H' s'/\tn i s'.heap/\(∀b∈fp,H' b=none)/\W i m Y H':=fun {Y H' s'} I' n'=>by
    obtain⟨m',hm,w'⟩:=hN Y H' n';refine⟨m',hm,i+1,Y,H',I'.unpinned,T.keep _ _ _ y8 fun b hb o e=>(I'.pin (b,o) (aV _ (aV _ (Ji hb e)))).1,fun b hb=>?_,w'⟩;obtain⟨o,e,d⟩:=T.obj _ _ y8 b hb;exact (I'.pin (b,o) (aV _ (aV _ (Ji hb e)))).2.1
   refine Yg q9 fun ok s9 ⟨H9,I9,q9⟩=>?_;cases ok with
   |false=>
    simp only[dz,if_false] at q9 ⊢;exact again I9 q9
   |true=>
    simp only[if_true] at q9 ⊢;have r8:=he' _ s9 r6 H9 _ I9 q9;rw[pX,wX,AX,envX,xX] at r8;refine Yg r8 fun y s10 ⟨v,H10,I10,rv,xs,hxs,hz,r8⟩=>?_;have r9:=ZV (X:=X') _ s10 r6 H10 (.ref s2.heap.objs.size) [v] (.ref s2.heap.objs.size) [y] (fun _ H'=>N r6 H') I10 rfl (.cons rv .nil) ⟨_,xs,v,rfl,rfl,hxs,hz,r8⟩;rw[pX,wX,AX,xX] at r9;exact Yg r9 fun _ s11 ⟨_,H11,I11,_,r9⟩=>again I11 r9
 exact codeAny_compStart_list (t7 _ rfl) (T.self _ 0 _ _ _ st1 (t7 _ rfl))
theorem ZiM {own:List Str}{j:List Nat}{N':List Str}{Y scope:cQ}{elt iter tg:Expr}{ifs:List Expr}{pos:Pos}{wi:TI}{g:TG}{tc:TT}{te:TE}
  (M:X.env.scope=Y) (S:Ja X.N Y own j N' scope) (hc:X.calm=true) (hi:PI X tg iter wi)
  (hg:∀U C s H ex,PG (YS X scope U N' C s H ex) tg g) (ht:∀U C s H ex,PIf (YS X scope U N' C s H ex) ifs tc) (he:∀U C s H ex,PE (YS X scope U N' C s H ex) elt te)
  (hs:∀x,foldedSetIterable iter X.env x=pure x:=by intro _;rfl) :
  PE X (.ListComp elt [⟨tg,iter,ifs,0⟩] scope pos) (Zdw own j wi g tc te):=by
 intro O s σ H Q I h;obtain⟨U,n4,m8,m9⟩:=Uh (scope:=scope) (env:=X.env) fun y hy hf=>by
  have:=S.fr y hy hf;rw[<-M] at this;exact I.ok.has y.1 this
 rw[eval_ListComp];refine lJ (use:=none) rfl hs n4 S.kind S.uniq (Yg (hi O s σ H _ I h) fun v s1 h1=>Yg h1 fun n8 s2 h2=>?_);obtain⟨it,fp,tn,J,H2,e,I2,T,n6,f2,q⟩:=h2;subst e;refine V9 (RR:=fun ZF C=>compPost (model X.prog X.w) X.A X.xe none (EP X O σ Q) ZF C) M S hc m8 m9 hg ht he I2 T n6 f2 q ?_;intro D C s' m H' hn _ _ _ _ _ q' hb;exact⟨m,hn,fun h' sb=>⟨.ref D,H',hb h' sb,rfl,q'⟩⟩
theorem ZcY {own:List Str}{M:List Nat}{N':List Str}{m8 scope:cQ}{elt iter tg:Expr}{ifs:List Expr}{pos O py:Pos}{y:Str}{i:Nat}{wi:TI}{g:TG}{tc:TT}{te:TE}
  (U:X.env.scope=m8) (S:Ja X.N m8 own M N' scope) (hc:X.calm=true) (hi:PI X tg iter wi)
  (hg:∀cl C s H ex,PG (YS X scope cl N' C s H ex) tg g) (ht:∀cl C s H ex,PIf (YS X scope cl N' C s H ex) ifs tc) (he:∀cl C s H ex,PE (YS X scope cl N' C s H ex) elt te)
  (hN:X.N.Nodup) (hy:X.N[i]?=some y) (hx:Loc X.env.scope y) (hf:X.fn y=true\/X.env.scope.names.lookup y=some .local)
  (n9:swapsWith (.ListComp elt [⟨tg,iter,ifs,0⟩] scope pos) (some (.Name y py)) O.line X.env=pure true)
  (hs:∀x,foldedSetIterable iter X.env x=pure x:=by intro _;rfl) :
  PS X (.Assign [.Name y py] (.ListComp elt [⟨tg,iter,ifs,0⟩] scope pos) O) (ZcG (Zdw own M wi g tc te) (Yn i)):=by
 intro j s σ H D0 I h;obtain⟨cl,o0,m9,n4⟩:=Uh (scope:=scope) (env:=X.env) fun y hy hf=>by
  have:=S.fr y hy hf;rw[<-U] at this;exact I.ok.has y.1 this
 rw[exec_Assign_Name_used _ _ _ _ n9];refine Zl (ja (Zl ?_));show wpAny _ X.A (do let _ <-comprehension (.ListComp elt [⟨tg,iter,ifs,0⟩] scope pos) scope X.env _ (newList []) false (eval iter X.env) (some (assign (.Name y py) X.env))) _ _ s
 refine Zl (cB (lJ (use:=some (assign (.Name y py) X.env)) (Q:=fun _ Y=>SP X j D0 .next Y) rfl hs o0 S.kind S.uniq
  (Yg (hi j s σ H _ I h) fun v s1 h1=>Yg h1 fun p8 s2 h2=>?_)) (fun _ Y hq=>Zm (Zm hq)) fun _ _ e=>e)
 obtain⟨it,fp,tn,J,H2,e,I2,T,o5,f2,q⟩:=h2;subst e;refine V9 (RR:=fun ZF C=>compPost (model X.prog X.w) X.A X.xe (some (assign (.Name y py) X.env)) (fun _ Y=>SP X j D0 .next Y) ZF C) U S hc m9 n4 hg ht he I2 T o5 f2 q ?_;intro D C Y m H' hn n6 n8 o6 o7 o8 q' hb;have I':Inv X j σ H' Y:=hb Y.heap (.refl ..);show wpAny _ X.A (assign (.Name y py) X.env (.ref D)) _ _ Y;refine wpAny_assign_Name (UK I' hN hy hx (v:=.ref D) rfl (fun o9 p4 ⟨a,sb,ha⟩=>?_) hf);have p6:C≠a:=by
  rcases ha with rfl|ha
  ·exact n6
  ·exact fun z=>n8 y a ha z.symm
 refine⟨m,hn.sameBut sb p6,fun h' p7=>⟨_,H',?_,q'⟩⟩;exact p4.turned (t':=o9.toks) (fun b o hb e=>p7.extBut b o hb e) o8 n6 (.inr o6) n8 o7
end
section
variable {κ:Type} [DecidableEq κ]
noncomputable def YY (kvs:List (κ×V))(k:κ):Option V:=(kvs.find? fun j=>decide (j.1=k)).map (·.2)
noncomputable def Wq (kvs:List (κ×V))(k:κ)(v:V):List (κ×V):=
 if (kvs.any fun j=>decide (j.1=k))=true then kvs.map (fun j=>if j.1=k then (j.1,v) else j) else kvs++[(k,v)]
theorem YH {p:κ×V}{r:List (κ×V)}{k:κ}(e:p.1=k):YY (p::r) k=some p.2:=by simp[YY,eW,e]
theorem YI {p:κ×V}{r:List (κ×V)}{k:κ}(e:¬p.1=k):YY (p::r) k=YY r k:=by simp[YY,eW,e]
theorem WL (k:κ):∀kvs:List (κ×V),(kvs.any fun j=>decide (j.1=k))=(YY kvs k).isSome
 | []=>rfl
 |p::r=>by
  rw[fC];by_cases e:p.1=k
  ·simp only[YH e,decide_eq_true e,Bool.true_or,Option.isSome_some]
  ·rw[YI e,decide_eq_false e,fF];exact WL k r
theorem Zbd (k j:κ)(y:V):∀kvs:List (κ×V),YY (kvs.map fun q=>if q.1=k then (q.1,y) else q) j=(YY kvs j).map fun x=>if j=k then y else x
 | []=>rfl
 |p::r=>by
  have J:=Zbd k j y r;rw[aF];by_cases h:p.1=k
  ·rw[if_pos h]
   by_cases e:p.1=j
   ·rw[YH (p:=(p.1,y)) e,YH e,bR,if_pos (e.symm.trans h)]
   ·rw[YI (p:=(p.1,y)) e,YI e,J]
  ·rw[if_neg h]
   by_cases e:p.1=j
   ·rw[YH (p:=p) e,YH e,bR,if_neg (fun z=>h (e.trans z))]
   ·rw[YI (p:=p) e,YI e,J]
theorem UH (k j:κ)(y:V):∀kvs:List (κ×V),YY kvs k=none->YY (kvs++[(k,y)]) j=if j=k then some y else YY kvs j
 | [],_=>by
  by_cases e:k=j
  ·rw[if_pos e.symm];exact YH (p:=(k,y)) e
  ·rw[if_neg (fun z=>e z.symm)];exact YI (p:=(k,y)) e
 |p::r,q=>by
  rw[List.cons_append];have J:¬p.1=k:=fun z=>by rw[YH z] at q;cases q
  rw[YI J] at q;have M:=UH k j y r q;by_cases e:p.1=j
  ·rw[YH e,YH e,if_neg (fun z=>J (e.trans z))]
  ·rw[YI e,YI e,M]
theorem ZfP (kvs:List (κ×V))(k j:κ)(y:V):YY (Wq kvs k y) j=if j=k then some y else YY kvs j:=by
 unfold Wq;by_cases a:(kvs.any fun J=>decide (J.1=k))=true
 ·rw[if_pos a,Zbd]
  rw[WL] at a;by_cases e:j=k
  ·obtain⟨x,M⟩:=gc.mp a
   rw[if_pos e,e,M,bR,if_pos rfl]
  ·rw[if_neg e]
   cases YY kvs j with
   |none=>rfl
   |some x=>rw[bR,if_neg e]
 ·rw[if_neg a]
  refine UH k j y kvs ?_;rw[WL] at a;cases q:YY kvs k with
  |none=>rfl
  |some x=>rw[q] at a;exact (a rfl).elim
theorem WW (kvs:List (κ×V))(k:κ)(v:V):(Wq kvs k v).length<=kvs.length+1:=by
 unfold Wq;split
 ·rw[Za];omega
 ·rw[Zd,Zi,jw];omega
theorem ZgF {kvs:List (κ×V)}{k:κ}(v:V)(h:YY kvs k=none):Wq kvs k v=kvs++[(k,v)]:=by
 unfold Wq;rw[WL,h];exact if_neg (by decide)
theorem UE.isSome_eq {o:Option V}{u:Option Value}(r:UE o u):o.isSome=u.isSome:=by
 cases o with
 |none=>cases u with
  |none=>rfl
  |some _=>exact (show False from r).elim
 |some _=>cases u with
  |none=>exact (show False from r).elim
  |some _=>rfl
theorem KV.val {kvs:List (κ×V)}{vs:List (κ×Value)}(r:KV kvs vs)(k:κ):UE (YY kvs k) (valueAt vs k):=by
 unfold KV at r;induction r with
 |nil=>exact fW
 | @cons p q Y j h t O=>
  obtain⟨M,U⟩:=h;by_cases e:p.1=k
  ·have J:q.1=k:=M.symm.trans e
   have b:valueAt (q::j) k=some q.2:=by simp[valueAt,eW,J]
   rw[YH e,b];exact U
  ·have J:¬q.1=k:=fun z=>e (M.trans z)
   have b:valueAt (q::j) k=valueAt j k:=by simp[valueAt,eW,J]
   rw[YI e,b];exact O
theorem KV.any {kvs:List (κ×V)}{vs:List (κ×Value)}(r:KV kvs vs)(k:κ):(kvs.any fun j=>decide (j.1=k))=vs.any fun j=>decide (j.1=k):=by
 unfold KV at r;induction r with
 |nil=>rfl
 |cons h t q=>rw[fC,fC,q,h.1]
theorem KV.repl {kvs:List (κ×V)}{vs:List (κ×Value)}(r:KV kvs vs)(k:κ){y:V}{u:Value}(M:RelV y u) :
  KV (kvs.map fun j=>if j.1=k then (j.1,y) else j) (vs.map fun j=>if j.1=k then (j.1,u) else j):=by
 unfold KV at r ⊢;induction r with
 |nil=>exact .nil
 | @cons p q Y qs h t O=>
  rw[aF,aF];refine .cons ?_ O;obtain⟨J,U⟩:=h;by_cases e:p.1=k
  ·rw[if_pos e,if_pos (J.symm.trans e)];exact⟨J,M⟩
  ·rw[if_neg e,if_neg (fun z=>e (J.trans z))];exact⟨J,U⟩
theorem KV.put {kvs:List (κ×V)}{vs:List (κ×Value)}(r:KV kvs vs)(k:κ){y:V}{u:Value}(j:RelV y u):KV (Wq kvs k y) (stored vs k u):=by
 unfold Wq stored;rw[r.any k];by_cases e:(vs.any fun q=>decide (q.1=k))=true
 ·rw[if_pos e,if_pos e];exact r.repl k j
 ·rw[if_neg e,if_neg e];exact Paired.snoc r ⟨rfl,j⟩
theorem KV.keys {kvs:List (κ×V)}{vs:List (κ×Value)}(r:KV kvs vs):kvs.map (·.1)=vs.map (·.1):=by
 unfold KV at r;induction r with
 |nil=>rfl
 |cons h t j=>rw[aF,aF,j,h.1]
theorem KV.length {kvs:List (κ×V)}{vs:List (κ×Value)}(r:KV kvs vs):kvs.length=vs.length:=jP r
end
theorem Zca {P:Program}{w:World}{k:Ym}{u:Value}(r:RelV (kV k) u):(Yj P w).is k u=true:=by
 cases k with
 |inl i=>obtain⟨t,e⟩:=(show ∃t,u=io i t from r);subst e;exact ZbZ P w i t
 |inr x=>obtain⟨t,e⟩:=(show ∃t,u=mi x t from r);subst e;exact ZbY P w x t
theorem UY {P:Program}{w:World}:∀{j:List Ym}{us:List Value},ZK (j.map kV) us->ItemsAre (Yj P w) j us
 | [],_,r=>by rw[fh] at r;cases r;exact .nil
 |k::j,_,r=>by
  rw[aF] at r;cases r with
  |cons h t=>exact .cons (Zca h) (UY t)
noncomputable abbrev KT (H:Hp):List (List Ym×V)->List (List Ym×Addr×Value)->Prop:=kU fun p q=>p.1=q.1/\H q.2.1=some (.tup (p.1.map kV))/\RelV p.2 q.2.2
theorem KT.val {H:Hp}{kvs:List (List Ym×V)}{xs:List (List Ym×Addr×Value)}(r:KT H kvs xs)(k:List Ym):UE (YY kvs k) ((atKey xs k).map (·.2)):=by
 induction r with
 |nil=>exact fW
 | @cons p q Y j h t O=>
  obtain⟨M,_,U⟩:=h;by_cases e:p.1=k
  ·have J:q.1=k:=M.symm.trans e
   have b:atKey (q::j) k=some q.2:=by simp[atKey,eW,J]
   rw[YH e,b];exact U
  ·have J:¬q.1=k:=fun z=>e (M.trans z)
   have b:atKey (q::j) k=atKey j k:=by simp[atKey,eW,J]
   rw[YI e,b];exact O
theorem KT.repl {H:Hp}{kvs:List (List Ym×V)}{xs:List (List Ym×Addr×Value)}(r:KT H kvs xs)(k:List Ym){y:V}{u:Value}(O:RelV y u) :
  KT H (kvs.map fun J=>if J.1=k then (J.1,y) else J) (xs.map (putAt k u)):=by
 induction r with
 |nil=>exact .nil
 | @cons p q ps qs h t U=>
  rw[aF,aF];refine .cons ?_ U;obtain⟨j,M,Y⟩:=h;unfold putAt;by_cases e:p.1=k
  ·rw[if_pos e,if_pos (j.symm.trans e)];exact⟨j,M,O⟩
  ·rw[if_neg e,if_neg (fun z=>e (j.trans z))];exact⟨j,M,Y⟩
theorem KT.put {H:Hp}{kvs:List (List Ym×V)}{xs:List (List Ym×Addr×Value)}(r:KT H kvs xs)(k:List Ym){b:Addr}{y:V}{u:Value}(hb:H b=some (.tup (k.map kV)))(j:RelV y u) :
  KT H (Wq kvs k y) (storedH xs k b u):=by
 have e:(kvs.any fun J=>decide (J.1=k))=(atKey xs k).isSome:=by
  rw[WL,(r.val k).isSome_eq,lS]
 unfold Wq storedH;rw[e];by_cases q:(atKey xs k).isSome=true
 ·rw[if_pos q,if_pos q];exact r.repl k j
 ·rw[if_neg q,if_neg q];exact Paired.snoc r ⟨rfl,hb,j⟩
theorem KT.keeps {H j:Hp}{kvs:List (List Ym×V)}{xs:List (List Ym×Addr×Value)}(r:KT H kvs xs)(q:∀b ys,H b=some (.tup ys)->j b=some (.tup ys)):KT j kvs xs:=
 kU.mapP r fun _ _ z=>⟨z.1,q _ _ z.2.1,z.2.2⟩
section
variable {P:Program}{w:World}{H:Hp}{h:Heap}{a:Addr}
theorem Zj8 {u:HO}(ok:XF P w H h)(e:Rd H a u):Yx P w H h a u:=e.ok ok
theorem Zcj {kvs:List (Ym×V)}(ok:XF P w H h)(e:Rd H a (.dK kvs)):kvs.length<=sizeLine/\(a == sysModules)=false/\∃vs,KV kvs vs/\h.DictOf (Yj P w) a vs:=
 show Yx P w H h a (.dK kvs) from Zj8 ok e
theorem Zck {kvs:List (Ym×V)}(ok:XF P w H h)(e:H a=some (.dK kvs)):kvs.length<=sizeLine/\(a == sysModules)=false/\∃vs,KV kvs vs/\h.DictOf (Yj P w) a vs:=Zcj ok (.inl e)
theorem ZaP {j:List Ym}(ok:XF P w H h)(e:H a=some (.tup (j.map kV))):(tupleKind (Yj P w)).is h j a:=by
 obtain⟨_,q,r,o,J,M,n,O⟩:=(show Yx P w H h a (.tup (j.map kV)) from ok a _ e);exact⟨o,q.toArray,n,J,M,O,by simpa using UY r⟩
theorem Zci {kvs:List (List Ym×V)}(ok:XF P w H h)(e:Rd H a (.dT kvs)):kvs.length<=sizeLine/\(a == sysModules)=false/\
  ∃xs,KT H kvs xs/\h.DictOfH (tupleKind (Yj P w)) a xs:=by
 obtain⟨z,y,xs,r,o,M,O,U,Y,h3,h4,h5⟩:=(show Yx P w H h a (.dT kvs) from Zj8 ok e);refine⟨z,y,xs,r,o,M,O,U,Y,h3,h4,fun x j=>?_,h5⟩;have all:∀{l:List (List Ym×V)}{m:List (List Ym×Addr×Value)},KT H l m->∀x∈m,(tupleKind (Yj P w)).is h x.1 x.2.1:=by
  intro l m q;induction q with
  |nil=>intro x j;exact nomatch j
  | @cons p q ps qs J t ih=>
   intro x j;rcases aG.mp j with e|j
   ·subst e
    exact ZaP ok (by rw[<-J.1];exact J.2.1)
   ·exact ih x j
 exact all r x j
theorem Znr {kvs:List (List Ym×V)}(ok:XF P w H h)(e:H a=some (.dT kvs)):kvs.length<=sizeLine/\(a == sysModules)=false/\
  ∃xs,KT H kvs xs/\h.DictOfH (tupleKind (Yj P w)) a xs:=Zci ok (.inl e)
end
noncomputable def WU (H:Hp)(a:Addr)(y:V)(r:Option V):Prop:=
 (∃j k,Rd H a (.dK j)/\y=kV k/\r=YY j k)\/∃j k b,Rd H a (.dT j)/\y=.ref b/\H b=some (.tup (k.map kV))/\r=YY j k
noncomputable def XG (H:Hp)(a:Addr)(y v:V)(q:Hp):Prop:=
 (∃j k,H a=some (.dK j)/\y=kV k/\j.length<sizeLine/\q=upd H a (.dK (Wq j k v)))\/
 ∃j k b,H a=some (.dT j)/\y=.ref b/\H b=some (.tup (k.map kV))/\j.length<sizeLine/\q=upd H a (.dT (Wq j k v))
theorem WU.k {H:Hp}{a:Addr}{kvs:List (Ym×V)}{k:Ym}(e:H a=some (.dK kvs)):WU H a (kV k) (YY kvs k):=.inl ⟨kvs,k,.inl e,rfl,rfl⟩
theorem WU.t {H:Hp}{a b:Addr}{kvs:List (List Ym×V)}{k:List Ym}(e:H a=some (.dT kvs))(j:H b=some (.tup (k.map kV))):WU H a (.ref b) (YY kvs k):=.inr ⟨kvs,k,b,.inl e,rfl,j,rfl⟩
theorem XG.k {H:Hp}{a:Addr}{kvs:List (Ym×V)}{k:Ym}{v:V}(e:H a=some (.dK kvs))(j:kvs.length<sizeLine):XG H a (kV k) v (upd H a (.dK (Wq kvs k v))):=.inl ⟨kvs,k,e,rfl,j,rfl⟩
theorem XG.t {H:Hp}{a b:Addr}{kvs:List (List Ym×V)}{k:List Ym}{v:V}(e:H a=some (.dT kvs))(j:H b=some (.tup (k.map kV)))(q:kvs.length<sizeLine) :
  XG H a (.ref b) v (upd H a (.dT (Wq kvs k v))):=.inr ⟨kvs,k,b,e,rfl,j,q,rfl⟩
section
variable {X:Cx}{pins:List (Addr×Obj)}{σ:St}{H:Hp}{s:Shared}{a:Addr}{y v:V}{u r:Value}{o:Option V}{A:Around}{E:Value->Shared->Prop}
theorem Inv.big (I:Inv X pins σ H s):sysModules<s.heap.objs.size:=by
 have h:mainGlobals<s.heap.objs.size:=(I.mod.glob.keeps I.bk).lt;exact i6 (by decide) h
theorem Zfo {Q:Value->Shared->Prop}(hu:A.units+1<cLine)(I:Inv X pins σ H s)(g:WU H a y (some v))(ry:RelV y u)(h:∀q s',Inv X pins σ H s'->RelV v q->Q q s') :
  wpAny (model X.prog X.w) A (getItem (.ref a) u) Q E s:=by
 rcases g with ⟨J,k,e,M,l⟩|⟨J,k,b,e,M,eb,l⟩
 ·subst M
  obtain⟨z,hd,vs,rel,O⟩:=Zcj I.hok e;obtain⟨q,U,j⟩:=UE.some_of (v:=v) (o:=valueAt vs k) (by rw[l];exact rel.val k);exact wpAny_getItem_of (Zca ry) O.mapOf U (h q _ (I.tok _) j)
 ·subst M
  cases (show u=aR b from ry);obtain⟨z,hd,xs,rel,O⟩:=Zci I.hok e;obtain⟨q,U,j⟩:=UE.some_of (v:=v) (o:=(atKey xs k).map (·.2)) (by rw[l];exact rel.val k);obtain⟨p,hp,Y⟩:=Option.map_eq_some_iff.mp U;refine wpAny_getItem_heap (ji hu) (ZaP I.hok eb) O hp ?_;rw[Y];exact h q _ (I.tok _) j
theorem Zjy {Q:Value->Shared->Prop}(U:A.units+1<cLine)(I:Inv X pins σ H s)(g:WU H a y o)(O:RelV y u)(h:∀s',Inv X pins σ H s'->Q (.bool (!o.isSome)) s') :
  wpAny (model X.prog X.w) A (compareOp .NotIn u (.ref a)) Q E s:=by
 rcases g with ⟨j,k,e,J,l⟩|⟨j,k,b,e,J,Y,l⟩
 ·subst J
  obtain⟨z,hd,vs,rel,M⟩:=Zcj I.hok e;refine wpAny_notIn_of (Zca O) hd M.mapOf ?_;rw[<-(rel.val k).isSome_eq,<-l];exact h _ (I.tok _)
 ·subst J
  cases (show u=aR b from O);obtain⟨z,hd,xs,rel,M⟩:=Zci I.hok e;refine wpAny_notIn_heap (ji U) (ZaP I.hok Y) hd M ?_;have q:=(rel.val k).isSome_eq;rw[lS] at q;rw[<-q,<-l];exact h _ (I.tok _)
theorem Vw {h':Heap}{t':Nat}{j:HO}(I:Inv X pins σ H s)(M:Mut (H a))(O:be a s.heap h')(U:∃q,h'.get? a=some q)(J:Yx X.prog X.w (upd H a j) h' a j) :
  Inv X pins σ (upd H a j) {s with heap:=h',toks:=t'}:=
 I.write (x:=a) (e:=a) M (.inl rfl) (fun b q hb z=>(O.2 b hb).trans z) U J
theorem Zdi {P:Program}{w:World}{j:Hp}{h':Heap}{kvs:List (Ym×V)}{vs:List (Ym×Value)}(z:kvs.length<=sizeLine)(hd:(a == sysModules)=false)(rel:KV kvs vs)(q:h'.DictOf (Yj P w) a vs) :
  Yx P w j h' a (.dK kvs):=⟨z,hd,vs,rel,q⟩
theorem Zfn {H':Hp}{Q:Unit->Shared->Prop}(hu:A.units+1<cLine)(I:Inv X pins σ H s)(g:XG H a y v H')(ry:RelV y u)(rv:RelV v r)(h:∀s',Inv X pins σ H' s'->Q () s') :
  wpAny (model X.prog X.w) A (setItem (.ref a) u r) Q E s:=by
 rcases g with ⟨j,k,e,O,l,U⟩|⟨j,k,b,e,O,eb,l,U⟩
 ·subst O U
  obtain⟨z,hd,vs,rel,Y⟩:=Zck I.hok e;have hz:vs.length<=sizeLine:=by rw[<-rel.length];exact z
  have hl:(Wq j k v).length<=sizeLine:=by have:=WW j k v;omega
  refine wpAny_setItem_pairs (hsz:=hz) (Zca ry) Y fun h' J hs=>h _ ?_;have he:∃q,h'.get? a=some q:=by obtain⟨q,_,_,M,_⟩:=J;exact⟨q,M⟩
  exact Vw I (by rw[e];exact fW) hs he (Zdi hl hd (rel.put k rv) J)
 ·subst O U
  cases (show u=aR b from ry);obtain⟨z,hd,xs,rel,Y⟩:=Znr I.hok e;have hz:xs.length<=sizeLine:=by rw[<-jP rel];exact z
  have hl:(Wq j k v).length<=sizeLine:=by have:=WW j k v;omega
  refine wpAny_setItem_heap (hsz:=hz) (ji hu) (ZaP I.hok eb) Y fun h' J hs=>h _ ?_;obtain⟨q,es,ep,M,h2,h3,h4,_,h5⟩:=J;refine Vw I (by rw[e];exact fW) hs ⟨q,M⟩ ⟨hl,hd,_,(rel.put k eb rv).keeps fun c ys ec=>?_,q,es,ep,M,h2,h3,h4,h5⟩;rw[Zx (Zg7 ec e (fun z=>nomatch z))];exact ec
end
section
variable {X:Cx}{pins:List (Addr×Obj)}{σ:St}{H:Hp}{s:Shared}{a:Addr}{kvs:List (Ym×V)}{k:Ym}{u:Value}{A:Around}{E:Value->Shared->Prop}
end
noncomputable def ZnP (i:Expr):Prop:=∀j iv,subscripted i false j iv=operate [j,iv] (getItem j iv)
theorem Zim {prog:Program}{w:World}{A:Around}{E:Value->Shared->Prop}{s:Shared}{env:Env}{value j:Expr}{pos:Pos}{T id:String}{Q:Value->Shared->Prop}
  (hl:typeLookup (.type T) "__getitem__"=pure (some (.builtin id))) (hs:ZnP j)
  (h:wpAny (model prog w) A (eval value env) (fun o M=>wpAny (model prog w) A (eval j env) (fun i q=>q.TypeIs o T/\wpAny (model prog w) A (getItem o i) Q E q) E M) E s) :
  wpAny (model prog w) A (eval (.Subscript value j pos) env) Q E s:=by
 refine lh (cB h (fun o M Y=>cB Y (fun i q J=>?_) fun _ _ x=>x) fun _ _ x=>x);obtain⟨hT,J⟩:=J;unfold subscriptTail;refine Zl ?_;rw[getitemInPython_of_ne hT.not_modules];refine Zl (wpAny_specialOf hT hl ?_);have U:wpAny (model prog w) A (subscripted j false o i) (fun r O=>wpAny (model prog w) A (letTemporaryGo value o r >>= fun _=>pure r) Q E O) E q:=by
  rw[hs o i];exact wpAny_operating (cB J (fun r O m8=>Zl (wpAny_letTemporaryGo (Zm m8))) fun _ _ x=>x)
 first
  |exact Zm (Zl U)
  |exact Zl (Zm (Zl U))
  |exact Zl U
theorem Zcm {X:Cx}{j:List (Addr×Obj)}{σ:St}{H:Hp}{s:Shared}{a:Addr}{y:V}{o:Option V}(I:Inv X j σ H s)(g:WU H a y o):s.TypeIs (.ref a) "dict":=by
 rcases g with ⟨q,k,e,_,_⟩|⟨q,k,b,e,_,_,_⟩
 ·obtain⟨_,_,M,_,J⟩:=Zcj I.hok e
  exact J.typeIs
 ·obtain⟨_,_,xs,_,J⟩:=Zci I.hok e
  exact J.typeIs
noncomputable def ZmL (J M:TE):TE:=fun j H Q=>J j H fun x O=>M j O fun y q=>∃a v,x=.ref a/\WU q a y (some v)/\Q v q
noncomputable def Zik (J M:TE):TE:=fun j H Q=>J j H fun y O=>M j O fun x q=>∃a o,x=.ref a/\WU q a y o/\Q (.bl (!o.isSome)) q
noncomputable def ZmU (J M O:TE):TS:=fun D j H=>O j H fun v U=>J j U fun x Y=>M j Y fun y H3=>∃a q,x=.ref a/\XG H3 a y v q/\D.nx j q
section
variable {X:Cx}{o i e value:Expr}{pos pos' tpos:Pos}{td ty tv:TE}
theorem WG (O:X.A.units+1<cLine)(U:PE X o td)(Y:PE X i ty)(hs:ZnP i):PE X (.Subscript o i pos) (ZmL td ty):=by
 intro j s J H Q I h;refine Zim PySem.F.slot_dict_getitem.lookup hs (Yg (U j s J H _ I h) fun u s1 ⟨x,H1,I1,rx,q1⟩=>Yg (Y j s1 J H1 _ I1 q1) fun iv s2 ⟨y,H2,M,ry,a,v,ex,g,q2⟩=>?_);subst ex;obtain rfl:u=aR a:=rx;exact⟨Zcm M g,Zfo O M g ry fun w' s3 I3 q=>⟨v,H2,I3,q,q2⟩⟩
theorem UP (J:X.A.units+1<cLine)(M:PE X i ty)(O:PE X o td):PC X .NotIn i o (Zik ty td):=by
 intro j s q H Q I h;refine Yg (M j s q H _ I h) fun iv U ⟨y,Y,I1,ry,q1⟩=>Yg (O j U q Y _ I1 q1) fun u s2 ⟨x,H2,I2,rx,a,ov,ex,g,q2⟩=>?_;subst ex;obtain rfl:u=aR a:=rx;exact Zjy J I2 g ry fun s3 I3=>⟨.bl (!ov.isSome),H2,I3,rfl,q2⟩
theorem JN (J:X.A.units+1<cLine)(M:PE X o td)(O:PE X i ty)(U:PE X value tv)(Y:swapsWith value (some (.Subscript o i pos')) pos.line X.env=pure false) :
  PS X (.Assign [.Subscript o i pos'] value pos) (ZmU td ty tv):=by
 intro j s q H D I h;refine wpAny_Assign_Subscript (Yg (U j s q H _ I h) fun r s1 ⟨v,H1,I1,rv,q1⟩=>Yg (M j s1 q H1 _ I1 q1) fun u s2 ⟨x,H2,I2,rx,q2⟩=>Yg (O j s2 q H2 _ I2 q2) fun iv s3 ⟨y,H3,I3,ry,a,H4,ex,g,q3⟩=>?_) Y;subst ex;obtain rfl:u=aR a:=rx;exact Zfn J I3 g ry rv fun s4 I4=>⟨q,H4,I4,q3⟩
end
theorem Zcl {P:Program}{w:World}{H:Hp}(h:Heap)(hb:sysModules<h.objs.size):Yx P w H (h.push {cls:=.type "dict",data:=.dict #[]}) h.objs.size (.dK []):=
 ⟨aZ _,beq_eq_false_iff_ne.mpr (bJ (ax hb)),[],.nil,Heap.DictOf.new h⟩
theorem ZhJ {P:Program}{w:World}{H:Hp}(h:Heap)(hb:sysModules<h.objs.size):Yx P w H (h.push {cls:=.type "dict",data:=.dict #[]}) h.objs.size (.dT []):=
 ⟨aZ _,beq_eq_false_iff_ne.mpr (bJ (ax hb)),[],.nil,_,#[],0,Zo _ rfl,⟨rfl,rfl,rfl⟩,rfl,rfl,dY⟩
noncomputable def ZkG:TE:=fun _ H Q=>∀p,H p=none->Q (.ref p) (upd H p (.dK []))
noncomputable def ZkF:TE:=fun _ H Q=>∀p,H p=none->Q (.ref p) (upd H p (.dT []))
section
variable {X:Cx}{pos:Pos}
theorem Xo:PE X (.Dict [] [] pos) ZkG:=fun j s J H Q I h=>
 wpAny_Dict_empty ⟨.ref s.heap.objs.size,_,I.laid (a:=s.heap.objs.size) (o:=.dK []) (t':=s.toks) (fun _ _ q=>Zn _ q) (Zq _) (Zcl s.heap I.big),rfl,h _ (I.hok.fresh (Zq _))⟩
theorem ZgI:PE X (.Dict [] [] pos) ZkF:=fun j s J H Q I h=>
 wpAny_Dict_empty ⟨.ref s.heap.objs.size,_,I.laid (a:=s.heap.objs.size) (o:=.dT []) (t':=s.toks) (fun _ _ q=>Zn _ q) (Zq _) (ZhJ s.heap I.big),rfl,h _ (I.hok.fresh (Zq _))⟩
end
noncomputable def ZcF:List (TE×TE)->St->Hp->(List (V×V)->Hp->Prop)->Prop
 | [],_,H,Q=>Q [] H
 |(tk,j)::r,σ,H,Q=>tk σ H fun x q=>j σ q fun y J=>ZcF r σ J fun M O=>Q ((x,y)::M) O
noncomputable abbrev VV:List (V×V)->List (Value×Value)->Prop:=kU fun p q=>RelV p.1 q.1/\RelV p.2 q.2
noncomputable def PPs (X:Cx)(pos:Pos)(keys:List (Option Expr))(j:List Expr)(J:List (TE×TE)):Prop:=
 ∀(q:List (Addr×Obj)) (s:Shared) (M:St) (H:Hp) (Q:List (V×V)->Hp->Prop),Inv X q M H s->ZcF J M H Q->
  wpAny (model X.prog X.w) X.A (evalPairs (pairTrees keys j X.env pos)) (fun Y s'=>∃O U,Inv X q M U s'/\VV O Y/\Q O U) X.xe s
theorem ZiF {X:Cx}{pos:Pos}:PPs X pos [] [] []:=fun j s q H Q I h=>pairTrees_nil_walk ⟨[],H,I,.nil,h⟩
theorem VQ {X:Cx}{pos:Pos}{k v:Expr}{M:List (Option Expr)}{vs:List Expr}{tk O:TE}{q:List (TE×TE)}(U:PE X k tk)(Y:PE X v O)(hr:PPs X pos M vs q) :
  PPs X pos (some k::M) (v::vs) ((tk,O)::q):=fun j s J H Q I h=>
 pairTrees_cons_walk (Yg (U j s J H _ I h) fun u s1 ⟨x,H1,I1,rx,q1⟩=>Yg (Y j s1 J H1 _ I1 q1) fun w2 s2 ⟨y,H2,I2,ry,q2⟩=>
  Yg (hr j s2 J H2 _ I2 q2) fun ws s3 ⟨ps,H3,I3,rel,q3⟩=>⟨(x,y)::ps,H3,I3,.cons ⟨rx,ry⟩ rel,q3⟩)
noncomputable def Wi (kvs j:List (Ym×V)):List (Ym×V):=j.foldl (fun ZF q=>Wq ZF q.1 q.2) kvs
theorem KV.merge:∀{more:List (Ym×V)}{rs:List (Ym×Value)}{kvs:List (Ym×V)}{vs:List (Ym×Value)},KV more rs->KV kvs vs->KV (Wi kvs more) (merged vs rs):=by
 intro more rs kvs vs r;unfold KV at r;induction r generalizing kvs vs with
 |nil=>intro q;exact q
 | @cons p q M O h t j=>
  intro J;have e:KV (Wq kvs p.1 p.2) (stored vs q.1 q.2):=by
   have:=J.put p.1 h.2;rw[<-h.1];exact this
  exact j e
theorem W0:∀(j kvs:List (Ym×V)),(Wi kvs j).length<=kvs.length+j.length
 | [],kvs=>by show kvs.length<=kvs.length+0;omega
 |p::r,kvs=>by
  have q:=W0 r (Wq kvs p.1 p.2);have J:=WW kvs p.1 p.2;show (Wi (Wq kvs p.1 p.2) r).length<=_;rw[Zi];omega
theorem Ui {P:Program}{w:World}:∀{kvs:List (Ym×V)}{J:List (Value×Value)},VV (kvs.map fun M=>(kV M.1,M.2)) J->∃j,Carries (Yj P w) J j/\KV kvs j
 | [],_,r=>by rw[fh] at r;cases r;exact⟨[],fW,.nil⟩
 |p::kvs,_,r=>by
  rw[aF] at r;cases r with
  | @cons a b U bs h t=>
   obtain⟨j,c,q⟩:=Ui (P:=P) (w:=w) t;obtain⟨Y,O⟩:=b;exact⟨(p.1,O)::j,⟨Zca h.1,rfl,c⟩,.cons ⟨rfl,h.2⟩ q⟩
noncomputable def ZmJ (q:List (TE×TE)):TE:=fun O H Q=>∀p,H p=none->ZcF q O (upd H p (.dK [])) fun U J=>J p=some (.dK [])/\∃j:List (Ym×V),U=j.map (fun M=>(kV M.1,M.2))/\j.length<=15/\Q (.ref p) (upd J p (.dK (Wi [] j)))
theorem ZiL {X:Cx}{pos:Pos}{keys:List (Option Expr)}{values:List Expr}{j:List (TE×TE)}(h:PPs X pos keys values j)(J:keys.all (·.isSome)=true)(hl:keys.length=values.length)(h0:keys≠[])
  (Y:keys.length<=15):PE X (.Dict keys values pos) (ZmJ j):=by
 intro M s σ H Q I q;have hn:=I.hok.fresh (Zq s.heap.objs.size);have I1:=I.laid (a:=s.heap.objs.size) (o:=.dK []) (h':=s.heap.push {cls:=.type "dict",data:=.dict #[]}) (t':=s.toks) (fun _ _ q=>Zn _ q) (Zq _) (Zcl s.heap I.big);refine wpAny_Dict_walk (knd:=Yj X.prog X.w) J hl h0 Y (Yg (h M _ σ _ _ I1 (q _ hn)) fun ws s2 ⟨ps,H2,I2,rel,e,O,ep,lk,q2⟩=>?_);subst ep;obtain⟨rs,c,rk⟩:=Ui (P:=X.prog) (w:=X.w) rel;obtain⟨z,hd,m9,r0,dd⟩:=Zck I2.hok e;cases r0;refine⟨rs,c,dd,fun h' U hs=>⟨.ref s.heap.objs.size,_,?_,rfl,q2⟩⟩;have hz:(Wi [] O).length<=sizeLine:=by
  have h1:=W0 O [];rw[jw] at h1;rw[fS];omega
 have he:∃q,h'.get? s.heap.objs.size=some q:=by obtain⟨q,_,_,hq,_⟩:=U;exact⟨q,hq⟩
 exact Vw I2 (by rw[e];exact fW) hs he (Zdi hz hd (rk.merge .nil) U)
structure M1 (X:Cx)(o:Expr)(m:Str)(apos:Pos)(e:Expr)(cpos:Pos):Prop where
 base:attributeBase o m X.env (eval o X.env)=eval o X.env
 few:((backTo cpos (starEach [e] X.env)).all (fun x=>!x.1) && (backToKw cpos (keywordEach [] X.env)).all (fun x=>x.1.isSome)
  && decide (([e]:List Expr).length+([]:List Keyword).length+(if ([]:List Keyword).isEmpty then 0 else 1)<30))=true
 line:(apos.endLine == cpos.line)=true
 trees:backTo cpos (starEach [e] X.env)=[(false,eval e X.env)]
noncomputable def IsD (H:Hp)(a:Addr):Prop:=(∃j,Rd H a (.dK j))\/∃j,Rd H a (.dT j)
theorem ZlE {X:Cx}{J:List (Addr×Obj)}{σ:St}{H:Hp}{s:Shared}{a:Addr}(I:Inv X J σ H s)(d:IsD H a) :
  s.TypeIs (.ref a) "dict"/\(∀b,aR a=.ref b->∃j,s.heap.get? b=some j/\j.dict=none)/\(a == sysModules)=false:=by
 rcases d with ⟨O,e⟩|⟨O,e⟩
 ·obtain⟨_,hd,vs,_,M⟩:=Zcj I.hok e
  refine⟨M.typeIs,fun b q=>?_,hd⟩;cases q;obtain⟨j,_,_,U,Y,_⟩:=M;exact⟨j,U,Y.2.1⟩
 ·obtain⟨_,hd,xs,_,M⟩:=Zci I.hok e
  refine⟨M.typeIs,fun b q=>?_,hd⟩;cases q;obtain⟨j,_,_,U,Y,_⟩:=M;exact⟨j,U,Y.2.1⟩
section
variable {X:Cx}{pins:List (Addr×Obj)}{σ:St}{H:Hp}{s:Shared}{a:Addr}{y d:V}{u r:Value}{o:Option V}{A:Around}{E:Value->Shared->Prop}
end
section
variable {X:Cx}{o e f:Expr}{apos cpos:Pos}{td ty tx:TE}
end
section
variable {X:Cx}{pins:List (Addr×Obj)}{σ:St}{H:Hp}{s:Shared}{a:Addr}{kvs:List (Ym×V)}{A:Around}{E:Value->Shared->Prop}
end
section
variable {X:Cx}{pins:List (Addr×Obj)}{σ:St}{H:Hp}{s:Shared}{a:Addr}{y:V}{u:Value}{A:Around}{E:Value->Shared->Prop}
end
mutual
inductive Uo (K:ab) (H:Hp):V->ed->Prop where
 |non:Uo K H .non .none
 |bl (b:Bool):Uo K H (.bl b) (.bool b)
 |int (i:Int):Uo K H (.int i) (.int i)
 |str (x:Str):Uo K H (.str x) (.str x)
 |lst {a:Addr}{xs:List V}{ds:List ed} (h:Wx K H a xs) (r:WS K H xs ds):Uo K H (.ref a) (.list ds)
 |tup {a:Addr}{xs:List V}{ds:List ed} (h:JF K H a xs) (r:WS K H xs ds):Uo K H (.ref a) (.tuple ds)
inductive WS (K:ab) (H:Hp):List V->List ed->Prop where
 |nil:WS K H [] []
 |cons {x:V}{xs:List V}{d:ed}{ds:List ed} (h:Uo K H x d) (r:WS K H xs ds):WS K H (x::xs) (d::ds)
end
section
variable {K:ab}{H H':Hp}
theorem Same.tup {a:Addr}{xs:List V}(e:Same H H')(h:JF K H a xs):JF K H' a xs:=by
 rcases h with (h|⟨o,h⟩)|h
 ·exact .inl (.inl (e _ _ h))
 ·exact .inl (.inr ⟨o,e _ _ h⟩)
 ·exact .inr h
theorem Same.upd {p:Addr}{o:HO}(h:H p=none):Same H (upd H p o):=fun b u e=>by rw[Zx (Z4 e h)];exact e
theorem Same.updr {p:Addr}{o:HO}(s:Same H H')(h:H p=none):Same H (L2.upd H' p o):=fun b u e=>by rw[Zx (Z4 e h)];exact s b u e
mutual
theorem Uo.mono (s:Same H H'):∀{v:V}{d:ed},Uo K H v d->Uo K H' v d
 |_,_,.non=>.non
 |_,_,.bl b=>.bl b
 |_,_,.int i=>.int i
 |_,_,.str x=>.str x
 |_,_,.lst h r=>.lst (s.seq h) (WS.mono s r)
 |_,_,.tup h r=>.tup (s.tup h) (WS.mono s r)
theorem WS.mono (s:Same H H'):∀{v:List V}{d:List ed},WS K H v d->WS K H' v d
 |_,_,.nil=>.nil
 |_,_,.cons h r=>.cons (Uo.mono s h) (WS.mono s r)
end
theorem WS.ints:∀ns:List Int,WS K H (ns.map V.int) (ns.map a7)
 | []=>.nil
 |n::r=>.cons (.int n) (WS.ints r)
end
section
variable {X:Cx}{pins:List (Addr×Obj)}{σ:St}{H:Hp}{s:Shared}
mutual
theorem Inv.reads (I:Inv X pins σ H s):∀{v:V}{d:ed}{u:Value},Uo X.K H v d->RelV v u->∃as,Reads s.heap u d as
 |_,_,_,.non,r=>by cases (show _=bX from r);exact⟨_,.none⟩
 |_,_,_,.bl b,r=>by cases (show _=iJ b from r);exact⟨_,.bool b⟩
 |_,_,_,.int i,r=>by obtain⟨t,rfl⟩:=r;exact⟨_,.int i t⟩
 |_,_,_,.str x,r=>by obtain⟨t,rfl⟩:=r;exact⟨_,.str x t⟩
 |_,_,_,.lst (a:=a) h q,r=>by
  cases (show _=aR a from r);obtain⟨j,J,⟨o,n,e,c,_,d⟩,_⟩:=I.list h;obtain⟨as,M⟩:=Inv.readsAll I q J;exact⟨_,.list e c d (by simpa using M)⟩
 |_,_,_,.tup (a:=a) h q,r=>by
  cases (show _=aR a from r);obtain⟨j,J,⟨o,e,c,n,d⟩,_⟩:=I.tuple h;obtain⟨as,M⟩:=Inv.readsAll I q J;exact⟨_,.tuple e c d (by simpa using M)⟩
theorem Inv.readsAll (I:Inv X pins σ H s):∀{v:List V}{d:List ed}{u:List Value},WS X.K H v d->ZK v u->∃as,ReadsAll s.heap u d as
 |_,_,_,.nil,r=>by cases r;exact⟨_,.nil⟩
 |_,_,_,.cons h q,r=>by
  cases r with
  |cons r j=>
   obtain⟨O,J⟩:=Inv.reads I h r;obtain⟨U,M⟩:=Inv.readsAll I q j;exact⟨_,.cons J M⟩
end
end
structure ZjN (d:ed):Prop where
 sh:d.showable=true
 nd:d.hasDict=false
 dp:d.depth<=60
 sz:d.shown.length<=sizeLine
section
variable {X:Cx}
theorem Zk8 (O:X.A.units+64<cLine):Vx X (compareOp .NotEq) (fun x y H Q=>∃j J,Uo X.K H x j/\Uo X.K H y J/\fN j=true/\fN J=true/\Q (.bl (!gK j J)) H):=by
 intro M s σ H x y v u Q I U Y ⟨j,J,h1,h2,s1,s2,q⟩;obtain⟨as,r1⟩:=I.reads h1 U;obtain⟨bs,r2⟩:=I.reads h2 Y;exact SeqAt.compareNe_shaped r1 r2 s1 s2 O ⟨.bl _,H,I,rfl,q⟩
theorem ZfB {k:Nat}(hr:W9 k X.A):Yo X (.builtin "repr") (fun xs H Q=>∃x d,xs=[x]/\Uo X.K H x d/\ZjN d/\Q (.str d.shown) H):=by
 intro M s σ H xs us Q I r h;obtain⟨x,d,rfl,hd,F,q⟩:=h;obtain⟨u,rfl,ru⟩:=vals1 r;obtain⟨as,rd⟩:=I.reads hd ru;have m8:X.A.units+61<cLine:=by have:=hr.units;omega
 have j:∀(J:Heap) (u:Tok) (tk:Nat),(∀b o,s.heap.get? b=some o->J.get? b=some o)->EP X M σ Q (.str d.shown u) {s with heap:=J,toks:=tk}:=fun J u tk k=>⟨.str d.shown,H,I.kept k,⟨u,rfl⟩,q⟩;cases rd with
 |none=>exact P.repr_of_none (j s.heap _ _ fun _ _ e=>e)
 |bool b=>exact P.repr_of_bool (by have:=j s.heap s.toks (s.toks+1) fun _ _ e=>e;simpa only[dU] using this)
 |int i t=>exact P.repr_of_int (by simpa only[jc,decide_eq_true_eq] using F.sh) (by have:=j s.heap s.toks (s.toks+1) fun _ _ e=>e;simpa only[dU] using this)
 |str y t=>exact P.repr_of_str (by have:=j s.heap s.toks (s.toks+1) fun _ _ e=>e;simpa only[dU] using this) (by simpa only[dU] using F.sz)
 |list O U Y h4=>exact repr_of_reads' (.list O U Y h4) F.sh (fun z=>by rw[F.nd] at z;cases z) hr.gd (by have:=F.dp;omega) (fun _ _ e=>e) (fun J u tk k=>j J u tk k) F.sz
 |tuple O U Y h4=>exact repr_of_reads' (.tuple O U Y h4) F.sh (fun z=>by rw[F.nd] at z;cases z) hr.gd (by have:=F.dp;omega) (fun _ _ e=>e) (fun J u tk k=>j J u tk k) F.sz
 |dict O U Y h4 h5=>cases hd
theorem Zkz {prog:Program}{w:World}{A:Around}{j:List Value}{bs:List Bool}(r:ZK (bs.map V.bl) j):TruthOf prog w A (fun i v=>j.toArray[i]?=some v) (fun i=>bs.getD i false):=by
 intro i v s Q E q M;rw[ii] at q;have Y:i<j.length:=(aa.mp q).1;have O:=r.length;rw[Za] at O;have hb:(bs.map V.bl)[i]?=some (.bl (bs.getD i false)):=by
  rw[Zc,Zb,Zf (by omega)];rfl
 obtain⟨u,J,U⟩:=r.get hb;rw[q] at J;cases J;cases (show v=iJ _ from U);exact gO M
theorem ZeT {bs:List Bool}:((ac bs.length).any fun i=>bs.getD i false)=bs.any id:=by
 have:(ac bs.length).map (fun i=>bs.getD i false)=bs:=by
  apply mQ
  ·simp
  ·intro i j q;simp at j;simp[j]
 conv=>rhs;rw[<-this,fQ]
 rfl
theorem Zh0 (Y:X.calm=true):Yo X (.builtin "any") (fun xs H Q=>∃(a:Addr) (bs:List Bool),xs=[.ref a]/\Wx X.K H a (bs.map V.bl)/\Q (.bl (bs.any id)) H):=by
 intro M s σ H xs us Q I r h;obtain⟨a,bs,rfl,hq,q⟩:=h;obtain⟨u,rfl,ru⟩:=vals1 r;cases ru;obtain⟨j,O,p,hz⟩:=I.list hq;have U:=O.length;rw[Za] at U;refine call_any_walk (fw p.isList ?_);have J:a≠s.heap.objs.size:=by obtain⟨o,n,e,_⟩:=p;exact ax (Zp e)
 refine⟨s.heap.objs.size,_,_,_,_,_,(fun i=>bs.getD i false),rfl,lN (A:=X.A.in1) (I.ok.hd Y) _ a J j.toArray,⟨⟨_,Zo _ rfl,rfl,rfl⟩,p.isList.push _⟩,Zkz O,fun h' tk k=>?_⟩;rw[Zh,<-U,ZeT];refine⟨.bl _,H,I.kept (t':=tk) fun b o e=>k b o ?_ (Zn _ e),rfl,q⟩;simpa using ax (Zp e)
end
noncomputable abbrev VX (ns:List Int)(n:Nat):List Int:=firstMet (fun i=>ns.getD i 0) n
section
variable {prog:Program}{w:World}{A:Around}{E:Value->Shared->Prop}{s:Shared}
end
theorem Zeq:∀{ns:List Int}{us:List Value},ZK (ns.map V.int) us->bO us ns
 | [],_,.nil=>.nil
 |n::r,_,.cons h t=>by
  obtain⟨k,rfl⟩:=(show ∃t,_=io n t from h);exact .cons n k (Zeq t)
section
variable {X:Cx}
theorem Zcp:Yo X (.type "range") (fun xs H Q=>∃j:Int,xs=[.int j]/\∀p,H p=none->Q (.ref p) (upd H p (.rng 0 j))):=by
 intro J s O H xs U Q I r h;obtain⟨j,rfl,q⟩:=h;obtain⟨u,rfl,M⟩:=vals1 r;obtain⟨t,rfl⟩:=M;exact call_range_1 ⟨.ref s.heap.objs.size,_,I.laid (a:=s.heap.objs.size) (o:=.rng 0 j) (fun b o e=>Zn _ e) (Zq _) ⟨_,_,_,Zo _ rfl⟩,rfl,q _ (I.hok.fresh (Zq _))⟩
noncomputable def Wt (lo:Int)(n:Nat):List Int:=(ac n).map fun i:Nat=>lo+(i:Int)
theorem Zby {lo:Int}{n i:Nat}(h:i<n):(Wt lo n)[i]?=some (lo+i):=by unfold Wt;rw[Zc,ak h];rfl
theorem YK {lo:Int}{n:Nat}:(Wt lo n).length=n:=by unfold Wt;rw[Za,Zg]
theorem ZeM {lo:Int}{n:Nat}{ZF:Array Value}(h:gQ (fun i v=>∃t,v=.int (lo+i*1) t) ZF n):ZK ((Wt lo n).map V.int) ZF.toList:=by
 have go:∀(l:List Value) (k:Nat),(∀(j:Nat) v,l[j]?=some v->∃t,v=.int (lo+((k+j:Nat):Int)) t)->ZK (((cT k l.length).map fun i:Nat=>lo+(i:Int)).map V.int) l:=by
  intro l;induction l with
  |nil=>intro k _;exact .nil
  |cons x r M=>
   intro k J;rw[Zi,c9];refine .cons ?_ (M (k+1) fun j v q=>?_)
   ·obtain⟨t,e⟩:=J 0 x rfl
    exact⟨t,e⟩
   ·obtain⟨t,e⟩:=J (j+1) v q
    exact⟨t,by rw[e];congr 2;omega⟩
 have e:=go ZF.toList 0 fun j v q=>by
  rw[bN] at q;obtain⟨t,e⟩:=h.2 j v q;exact⟨t,by rw[e];congr 1 <;> omega⟩
 rw[Zr,h.1] at e;unfold Wt;rw[cS];exact e
end
noncomputable def WZ:List Str->Bool
 | []=>true
 |x::r=>!(r.contains x) && WZ r
theorem Z0:∀{l:List Str},WZ l=true->l.Nodup
 | [],_=>dY
 |x::r,h=>by
  unfold WZ at h;simp only[af,gu] at h;refine bD.mpr ⟨fun z=>?_,Z0 h.2⟩;have:=aC.mpr z;rw[h.1] at this;cases this
noncomputable def UZ (j:cQ)(x:Str):Bool:=match j.names.lookup x with
 |some .local=>true
 |some .cell=>true
 |_=>false
theorem YL {j:cQ}{x:Str}(h:UZ j x=true):Loc j x:=by
 unfold UZ at h;split at h
 ·rename_i e;exact .inl e
 ·rename_i e;exact .inr e
 ·cases h
noncomputable def Jl (j:cQ)(x:Str):Bool:=match j.names.lookup x with
 |some .local=>true
 |_=>false
theorem YV {j:cQ}{x:Str}(h:Jl j x=true):j.names.lookup x=some .local:=by
 unfold Jl at h;split at h
 ·rename_i e;exact e
 ·cases h
noncomputable def Zhn (j:cQ)(x:Str):Bool:=match j.names.lookup x with
 |some .local=>true
 |some .cell=>true
 |some .free=>true
 |_=>false
theorem Zhm {j:cQ}{x:Str}(h:Zhn j x=true):Vis j x:=by
 unfold Zhn at h;split at h
 ·rename_i e;exact .inl e
 ·rename_i e;exact .inr (.inl e)
 ·rename_i e;exact .inr (.inr e)
 ·cases h
noncomputable def Y1 (j:cQ)(x:Str):Bool:=match j.names.lookup x with
 |some .globalImplicit=>true
 |_=>false
noncomputable def Wv:Expr->Bool
 | .Starred _ _=>false
 |_=>true
theorem W5 {e:Expr}{j:List Expr}{env:Env}(h:Wv e=true):starEach (e::j) env=(false,eval e env)::starEach j env:=by cases e <;> first|rfl|cases h
noncomputable def JO:List Expr->Bool
 | []=>true
 |e::r=>Wv e && JO r
theorem WV {env:Env}{pos:Pos}:∀{j:List Expr},JO j=true->(backTo pos (starEach j env)).any (·.1)=false
 | [],_=>rfl
 |e::r,h=>by
  unfold JO at h;rw[af] at h;rw[W5 h.1];exact WV h.2
section
variable {X:Cx}
theorem pc {e:Expr}{j:List Expr}{q:TE}{t:TA}(J:PE X e q)(M:PA X j t)(O:Wv e=true:=by rfl):PA X (e::j) (Zbh q t):=ZiR J M (W5 O)
theorem JZ {x:Str}(h:Y1 X.env.scope x=true):Gl X x:=by
 unfold Y1 at h;split at h
 ·rename_i e;exact e
 ·cases h
theorem vn (i:Nat){x:Str}{pos:Pos}(q:X.N[i]?=some x:=by rfl)(J:Zhn X.env.scope x=true:=by kernel_rfl)(M:(x == ("__debug__":Str))=false:=by kernel_rfl)(j:(x == ("__classdict__":Str))=false:=by kernel_rfl) :
  PE X (.Name x pos) (ZkC i):=Zk0 q (Zhm J) M j
theorem gn (i:Nat){x:Str}{pos:Pos}(q:X.N[i]?=some x:=by rfl)(J:WZ X.N=true:=by kernel_rfl)(j:Jl X.env.scope x=true:=by kernel_rfl):PG X (.Name x pos) (Yn i):=
 Zd8 (Z0 J) q (.inl (YV j)) (.inr (YV j))
theorem gnf (i:Nat){x:Str}{pos:Pos}(j:X.fn x=true)(q:X.N[i]?=some x:=by rfl)(J:WZ X.N=true:=by kernel_rfl)(M:UZ X.env.scope x=true:=by kernel_rfl):PG X (.Name x pos) (Yn i):=
 Zd8 (Z0 J) q (YL M) (.inl j)
theorem ZE (i:Nat){x:Str}{e:Expr}{q:TE}{pos j:Pos}(J:X.fn x=true)(M:PE X e q)(O:X.N[i]?=some x:=by rfl)(U:WZ X.N=true:=by kernel_rfl)(Y:UZ X.env.scope x=true:=by kernel_rfl)
  (hs:swapsWith e (some (.Name x j)) pos.line X.env=pure false:=by rfl):PS X (.Assign [.Name x j] e pos) (ZcG q (Yn i)):=
 ZkW (Z0 U) O (YL Y) M hs (.inl J)
theorem cb {x:Str}{id:String}{r:List V->Hp->VK->Prop}{e:Expr}{j:List Expr}{t:TA}{p pos:Pos}(J:Yo X (.builtin id) r)(M:X.mg x=none)(O:PA X (e::j) t)(U:Y1 X.env.scope x=true:=by kernel_rfl)(Y:bootBuiltins x=some (.builtin id):=by kernel_rfl)
  (hn:x ≠ "__name__":=by decide) (hd:(x == ("__debug__":Str))=false:=by kernel_rfl) (he:Wv e=true:=by rfl) (q:JO j=true:=by rfl) :
  PE X (.Call (.Name x p) (e::j) [] pos) (tCB r t):=ZgJ J (JZ U) M Y O hn hd (W5 he) (WV q)
theorem ct {x:Str}{T:String}{r:List V->Hp->VK->Prop}{e:Expr}{j:List Expr}{t:TA}{p pos:Pos}(J:Yo X (.type T) r)(M:X.mg x=none)(O:PA X (e::j) t)(U:Y1 X.env.scope x=true:=by kernel_rfl)(Y:bootBuiltins x=some (.type T):=by kernel_rfl)
  (hn:x ≠ "__name__":=by decide) (hd:(x == ("__debug__":Str))=false:=by kernel_rfl) (he:Wv e=true:=by rfl) (q:JO j=true:=by rfl) :
  PE X (.Call (.Name x p) (e::j) [] pos) (tCB r t):=ZeY J (JZ U) M Y O hn hd (W5 he) (WV q)
theorem XM {q a:Expr}{j:TA}{p pos:Pos}(J:X.mg "range"=none)(M:PA X [a] j)(O:Y1 X.env.scope "range"=true:=by kernel_rfl)(U:starEach [a] X.env=[(false,eval a X.env)]:=by rfl):PI X q (.Call (.Name "range" p) [a] [] pos) (Zki j):=ZeX (JZ O) J M U
theorem Zoz {J a b:Expr}{q:TA}{p pos:Pos}(M:X.mg "range"=none)(O:PA X [a,b] q)(U:Y1 X.env.scope "range"=true:=by kernel_rfl)(Y:starEach [a,b] X.env=[(false,eval a X.env),(false,eval b X.env)]:=by rfl)(j:starEach [b] X.env=[(false,eval b X.env)]:=by rfl) :
  PI X J (.Call (.Name "range" p) [a,b] [] pos) (Zkh q):=ZeW (JZ U) M O Y j
end
noncomputable def Fn (P:Program)(w:World)(K:ab)(j:Str->Option Value)(base:Heap)(CX:CXT)(k:Nat)(x:Str)(q:List Str)(sp:Sp):Prop:=
 ∃f J,Z5 P w K j base CX k f J q sp/\j x=some (.ref f)/\dM K (.ref f)=true/\Binds K J q []
section
variable {X:Cx}
theorem Wd {CX:CXT}{k j:Nat}{x:Str}{M:List Str}{sp:Sp}{E:XK}{e:Expr}{q:List Expr}{t:TA}{p pos:Pos}(G:Fn X.prog X.w X.K X.mg X.base CX k x M sp)(O:W9 j X.A)(U:Za7 CX X E)(Y:PA X (e::q) t)(hk:k<=j:=by decide)
  (hg:Y1 X.env.scope x=true:=by kernel_rfl) (hd:(x == ("__debug__":Str))=false:=by kernel_rfl) (he:Wv e=true:=by rfl) (J:JO q=true:=by rfl) :
  PE X (.Call (.Name x p) (e::q) [] pos) (ZjU sp [] E t):=by
 obtain⟨f,fd,F,hm,kp,b⟩:=G;exact ZiN F (O.mono hk) (JZ hg) hm kp b .nil U Y hd (W5 he) (WV J)
end
theorem Fn.mk {P:Program}{w:World}{K:ab}{mg:Str->Option Value}{base h:Heap}{CX:CXT}{k:Nat}{x:Str}{J:List Str}{sp:Sp}{st:Stmt}{f:Addr}{oc:Value}{od M:Option Addr}{O:Array (Option Value)}{kV q U j ct:Value}(X:K.In h)(G:h.Ns mainGlobals mg)
  (a:bh K mainGlobals x=some (some (.ref f))) (l:K.lookup f=some ⟨oc,od,.func (cw x x (Wm st) (Wa st) (Z2 st) .none kV q U M j ct),O⟩) (c:eY K j x=true) (kp:dM K (.ref f)=true)
  (hok:∀Y,WB K x x st f Y->Z5 P w K mg base CX k f Y J sp)
  (hb:∀(kV q U:Value) (M:Option Addr) (j ct:Value) (us:List Value),us.length=J.length->bindArgs (cw x x (Wm st) (Wa st) (Z2 st) .none kV q U M j ct) ⟨us,[]⟩=pure (J.zip us)) :
  Fn P w K mg base CX k x J sp:=
 ⟨f,_,hok _ (Zdd l c kp),mI X G a,kp,(Zdd l c kp).binds hb⟩
section
variable {X:Cx}
theorem Xt (K:ab)(j:X.K=K:=by rfl):IxR X (Zm0 K):=j▸Zlz
theorem V2 (K:ab)(j:X.K=K:=by rfl):IxR X (Zm1 K):=j▸Zjl
noncomputable def ZoD (K:ab):List V->Hp->VK->Prop:=fun xs H Q=>∃p j,xs=[.ref p]/\(Wx K H p j\/JF K H p j)/\Q (.int j.length) H
theorem YF (K:ab)(j:X.K=K:=by rfl):Yo X (.builtin "len") (ZoD K):=j▸Za3
theorem itT (K:ab){q l:Expr}{j:TE}(J:PE X l j)(M:X.K=K:=by rfl):PI X q l (Znj K j):=M▸ZkY J
theorem itL (K:ab){q l:Expr}{j:TE}(J:PE X l j)(M:X.K=K:=by rfl):PI X q l (Zkj K j):=M▸ZiG J
end
noncomputable def ZaZ (N:List Str)(M:cQ)(O:List Str)(q:List Nat)(U:List Str)(J:cQ):Bool:=
 (J.kind == .function) && WZ (J.names.map (·.1)) && J.names.all (fun y=>y.2 != .local || Jl J y.1) && WZ U && decide (U=O++q.map fun j=>N.getD j "") &&
  q.all (fun j=>decide (j<N.length) && (match J.names.lookup (N.getD j "") with|some .free=>true|_=>false)) &&
  J.names.all (fun y=>y.2 != .free || (match M.names.lookup y.1 with|some .cell=>true|some .free=>true|_=>false))
theorem Ja.of {N:List Str}{M:cQ}{own:List Str}{J:List Nat}{U:List Str}{Y:cQ}(h:ZaZ N M own J U Y=true):Ja N M own J U Y:=by
 unfold ZaZ at h;simp only[af,aN,decide_eq_true_eq,beq_iff_eq,bne_iff_ne,ne_eq,bg] at h;obtain⟨⟨⟨⟨⟨⟨h1,h2⟩,h3⟩,h4⟩,h5⟩,h6⟩,h7⟩:=h;refine⟨h1,Z0 h2,fun y O e=>?_,Z0 h4,h5,fun j hj=>⟨(h6 j hj).1,?_⟩,fun y O e=>?_⟩
 ·rcases h3 y O with z|z
  ·exact absurd e z
  ·exact YV z
 ·have:=(h6 j hj).2
  split at this
  ·rename_i z;exact z
  ·cases this
 ·rcases h7 y O with z|z
  ·exact absurd e z
  ·split at z
   ·rename_i q;exact .inl q
   ·rename_i q;exact .inr q
   ·cases z
theorem cmp {X:Cx}(q:List Str)(j:List Nat)(M:List Str){scope:cQ}{elt iter O:Expr}{ifs:List Expr}{pos:Pos}{U:TI}{g:TG}{Y:TT}{te:TE}(hc:X.calm=true)(hi:PI X O iter U)
  (hg:∀J C s H ex,PG (YS X scope J M C s H ex) O g) (ht:∀J C s H ex,PIf (YS X scope J M C s H ex) ifs Y) (he:∀J C s H ex,PE (YS X scope J M C s H ex) elt te)
  (hS:ZaZ X.N X.env.scope q j M scope=true:=by kernel_rfl) (hs:∀x,foldedSetIterable iter X.env x=pure x:=by intro _;rfl) :
  PE X (.ListComp elt [⟨O,iter,ifs,0⟩] scope pos) (Zdw q j U g Y te):=ZiM rfl (.of hS) hc hi hg ht he hs
section
variable {X:Cx}
end
theorem Z6 {c:TT}{tb:TS}{D:J8}{σ:St}{H:Hp}(Pv:Nat->St->Hp->Prop)(q:St->Hp->Prop)(hend:∀ σ H,q σ H->D.nx σ H)(h0:∃m,Pv m σ H)
  (turn:(∀ σ H,q σ H->D.nx σ H)->∀m σ H,Pv m σ H->c σ H fun b J=>if b=true then ∃N:St->Hp->Prop,(∀ j M,N j M->∃O,O<m/\Pv O j M)/\tb {D with nx:=N,ct:=N,bk:=D.nx} σ J else D.nx σ J) :
  ZfX c tb D σ H:=⟨Pv,h0,turn hend⟩
structure Wz (J:It)(H:Hp)(xs:List V):Prop where
 go:∀(i:Nat) H',Same H H'->i<xs.length->J.go i H'
 yld:∀(i:Nat) H' x H2,Same H H'->i<xs.length->J.yld i H' x H2->H2=H'/\xs[i]?=some x
 stop:∀H',Same H H'->J.stop xs.length H'
theorem Wz.mono {J:It}{H q:Hp}{xs:List V}(s:Same H q)(S:Wz J H xs):Wz J q xs:=
 ⟨fun i j e=>S.go i j (s.trans e),fun i j x M e=>S.yld i j x M (s.trans e),fun j e=>S.stop j (s.trans e)⟩
theorem YX {K:ab}{H:Hp}{a:Addr}{xs:List V}(h:JF K H a xs):Wz (Itt K a) H xs:=
 ⟨fun i j s q=>⟨xs,_,s.tup h,Zf q⟩,fun i j x J s _ y=>⟨y.1,y.2 xs (s.tup h)⟩,fun j s=>⟨xs,s.tup h,Zq _⟩⟩
theorem Yz {K:ab}{H:Hp}{a:Addr}{xs:List V}(h:Wx K H a xs):Wz (Itl K a) H xs:=
 ⟨fun i j s q=>⟨xs,_,s.seq h,Zf q⟩,fun i j x J s _ y=>⟨y.1,y.2 xs (s.seq h)⟩,fun j s=>⟨xs,s.seq h,Zq _⟩⟩
theorem JL {H:Hp}(lo:Int)(n:Nat):Wz (Itr lo n) H ((Wt lo n).map V.int):=by
 have q:((Wt lo n).map V.int).length=n:=by rw[Za,YK]
 refine⟨fun i J s j=>by rw[q] at j;exact j,fun i J x M s j y=>?_,fun J s=>by show n<=_;rw[q];exact Zq _⟩;rw[q] at j;exact⟨y.1,by rw[y.2,Zc,Zby j];rfl⟩
theorem ZhT {J:It}{own:List Str}{O:List Nat}{g:TG}{tc:TT}{te:TE}{σ:St}{H:Hp}{Q:VK}{xs:List V}(S:Wz J H xs)(Y:St)(m9:Jp own O σ=none::Y)(f:V->Option V)(hz:xs.length<=1000000)
  (hs:∀(i:Nat) x v0 j,xs[i]?=some x->Same H j->∀(R:St->V->Hp->Prop) (R':St->Hp->Prop),(∀v H5,f x=some v->Same j H5->R (some x::Y) v H5)->(∀U,f x=none->Same j U->R' (some x::Y) U)->
   g x (v0::Y) j fun q H3=>tc q H3 fun b U=>if b=true then te q U (R q) else R' q U)
  (hd:∀D j,H D=none->Same H j->j D=some (.lst (xs.filterMap f))->Q (.ref D) j) :
  WT own O g tc te σ Q J H:=by
 intro D hD;refine⟨fun i m m8 j=>m=xs.length-i/\i<=xs.length/\(∃v0,m8=v0::Y)/\Same H j/\j D=some (.lst ((xs.take i).filterMap f)),⟨_,rfl,aZ _,⟨none,m9⟩,Same.upd hD,by rw[Zt,fY];rfl⟩,?_⟩;rintro i m m8 j ⟨rfl,hi,⟨v0,rfl⟩,s,hl⟩;by_cases M:i<xs.length
 ·refine .inr ⟨S.go i j s M,_,fun n6 H2 z=>z,fun x H2 y=>?_⟩
  obtain⟨rfl,hx⟩:=S.yld i j x H2 s M y;have ht:xs.take (i+1)=xs.take i++[x]:=by rw[cR,hx];rfl
  have n4:((xs.take i).filterMap f).length<=i:=a6 (List.length_filterMap_le _ _) (by rw[b9];omega);refine hs i x v0 H2 hx s _ _ (fun v H5 e s5=>?_) (fun U e s4=>?_)
  ·refine⟨_,s5 _ _ hl,?_,xs.length-(i+1),by omega,rfl,M,⟨_,rfl⟩,(s.trans s5).updr hD,?_⟩
   ·have:(16777216:Nat)=sizeLine:=by decide
    omega
   ·rw[Zt,ht,lz,bV,e];rfl
  ·refine⟨xs.length-(i+1),by omega,rfl,M,⟨_,rfl⟩,s.trans s4,?_⟩
   rw[s4 _ _ hl,ht,lz,bV,e];simp
 ·have e:i=xs.length:=by omega
  subst e;refine .inl ⟨S.stop j s,hd D j hD s ?_⟩;rw[hl,c7]
theorem Y8 {J:It}{g:TG}{tb:TS}{D:J8}{σ:St}{H0 H:Hp}{xs:List V}(S:Wz J H0 xs)(Pv:Nat->St->Hp->Prop)(h0:Pv 0 σ H)(hS:∀i σ H,Pv i σ H->Same H0 H)
  (hs:∀(i:Nat) x σ H,xs[i]?=some x->Pv i σ H->g x σ H fun q U=>tb {D with nx:=Pv (i+1),ct:=Pv (i+1),bk:=D.nx} q U) (hd:∀ σ H,Pv xs.length σ H->D.nx σ H) :
  ∃W:Nat->Nat->St->Hp->Prop,(∃m,W 0 m σ H)/\∀i m σ H,W i m σ H->
   (J.stop i H/\D.nx σ H)\/(J.go i H/\∃N:St->Hp->Prop,(∀ M j,N M j->∃Y,Y<m/\W (i+1) Y M j)/\∀x j,J.yld i H x j->g x σ j fun q U=>tb {D with nx:=N,ct:=N,bk:=D.nx} q U):=by
 refine⟨fun i m σ H=>m=xs.length-i/\i<=xs.length/\Pv i σ H,⟨_,rfl,aZ _,h0⟩,?_⟩;rintro i m σ H ⟨rfl,hi,p⟩;have s:=hS i σ H p;by_cases O:i<xs.length
 ·refine .inr ⟨S.go i H s O,Pv (i+1),fun M j p'=>⟨xs.length-(i+1),by omega,rfl,O,p'⟩,fun x j y=>?_⟩
  obtain⟨rfl,hx⟩:=S.yld i H x j s O y;exact hs i x σ _ hx p
 ·have e:i=xs.length:=by omega
  subst e;exact .inl ⟨S.stop H s,hd σ H p⟩
theorem tT {A B:Hp->Prop}{σ:St}{H:Hp}(h:A H):Wo σ H fun b j=>if b=true then A j else B j:=by
 show if true=true then A H else B H
 rw[if_pos rfl];exact h
theorem Zeu {α j:Type}(g:α->j):∀xs:List α,xs.filterMap (fun y=>some (g y))=xs.map g
 | []=>rfl
 |x::r=>by rw[bV,aF,Zeu g r]
theorem ZoM {c A B:Prop} [Decidable c](j:c)(h:A):if c then A else B:=by rw[if_pos j];exact h
theorem ZlA {c A B:Prop} [Decidable c](j:¬c)(h:B):if c then A else B:=by rw[if_neg j];exact h
theorem Jz {J:It}{own:List Str}{M:List Nat}{O:TE}{σ:St}{H:Hp}{Q:VK}{xs:List V}(S:Wz J H xs)(q:St)(m8:Jp own M σ=none::q)(f:V->V)(hz:xs.length<=1000000)
  (hs:∀(i:Nat) x j,xs[i]?=some x->Same H j->∀R:VK,(∀U,Same j U->R (f x) U)->O (some x::q) j R)
  (hd:∀D j,H D=none->Same H j->j D=some (.lst (xs.map f))->Q (.ref D) j):WT own M (Yn 0) Wo O σ Q J H:=by
 refine ZhT S q m8 (fun x=>some (f x)) hz (fun i x v0 j hx s R R' h1 h2=>?_) fun D j hD s hl=>hd D j hD s (by rw[hl,Zeu]);show Wo (some x::q) j fun b Y=>if b=true then O (some x::q) Y (R (some x::q)) else R' (some x::q) Y
 exact tT (A:=fun Y=>O (some x::q) Y (R (some x::q))) (hs i x j hx s _ fun U s5=>h1 _ U rfl s5)
theorem Xh:∀{ns:List Int},(∀n∈ns,n.natAbs<2 ^ 200)->eQ (ns.map a7)=true/\f8 (ns.map a7)=false/\ck (ns.map a7)=0/\cp 300 (ns.map a7)=true/\ie (ns.map a7)=ns.length/\cP (ns.map a7)=true
 | [],_=>⟨rfl,rfl,rfl,rfl,rfl,rfl⟩
 |n::r,h=>by
  obtain⟨U,M,Y,h4,h5,h6⟩:=Xh (ns:=r) fun m hm=>h m (ay _ hm);have O:=h n aB;have j:n.natAbs.log2<1920:=by
   by_cases q:n.natAbs=0
   ·rw[q];decide +kernel
   ·have:=(lT q).mpr O
    omega
  have J:(dU (.int n)).length<=300:=by
   have M:n.natAbs.log2<200:=by
    by_cases q:n.natAbs=0
    ·rw[q];decide +kernel
    ·exact (lT q).mpr O
   have:=int_text_length_le (k:=200) (by decide) M;simp only[dU];rw[kx];omega
  refine⟨?_,?_,?_,?_,?_,?_⟩
  ·simp only[aF,eQ,jc,U,fG,decide_eq_true_eq];exact j
  ·simp only[aF,f8,mJ,M,gE]
  ·simp only[aF,ck,dW,Y];rfl
  ·simp only[aF,cp,cv,h4,fG,decide_eq_true_eq];exact J
  ·simp only[aF,ie,PyData.bulk,h5,Zi];omega
  ·simp only[aF,cP,fO,h6,fG]
noncomputable def ZC (K:ab)(x:Str)(st:Stmt):Prop:=
 ∃(f:Addr) (M:Value) (O U:Option Addr) (q:Array (Option Value)) (kV J Y j ct:Value),bh K mainGlobals x=some (some (.ref f))/\
  K.lookup f=some ⟨M,O,.func (cw x x (Wm st) (Wa st) (Z2 st) .none kV J Y U j ct),q⟩/\eY K j x=true/\dM K (.ref f)=true
theorem ZC.mk {K:ab}{x:Str}{st:Stmt}{f:Addr}{J:Value}{M an:Option Addr}{q:Array (Option Value)}{kV doc pm j ct:Value}(a:bh K mainGlobals x=some (some (.ref f)))
  (l:K.lookup f=some ⟨J,M,.func (cw x x (Wm st) (Wa st) (Z2 st) .none kV doc pm an j ct),q⟩) (c:eY K j x=true) (k:dM K (.ref f)=true):ZC K x st:=
 ⟨f,J,M,an,q,kV,doc,pm,j,ct,a,l,c,k⟩
theorem ZC.fn {P:Program}{w:World}{K:ab}{mg:Str->Option Value}{base h:Heap}{CX:CXT}{k:Nat}{x:Str}{q:List Str}{sp:Sp}{st:Stmt}(D:ZC K x st)(X:K.In h)(G:h.Ns mainGlobals mg)
  (M:∀f J,WB K x x st f J->Z5 P w K mg base CX k f J q sp)
  (hb:∀(kV doc pm:Value) (an:Option Addr) (j ct:Value) (us:List Value),us.length=q.length->bindArgs (cw x x (Wm st) (Wa st) (Z2 st) .none kV doc pm an j ct) ⟨us,[]⟩=pure (q.zip us)) :
  Fn P w K mg base CX k x q sp:=by
 obtain⟨f,U,Y,an,O,kV,doc,pm,j,ct,a,l,c,kp⟩:=D;exact Fn.mk X G a l c kp (fun J F=>M f J F) hb
theorem ZC.law {P:Program}{w:World}{K:ab}{mg:Str->Option Value}{h:Heap}{CX:CXT}{k:Nat}{x:Str}{p:Str}{sp:Sp}{st:Stmt}{O:Addr}(D:ZC K x st)(X:K.In h)(G:h.Ns mainGlobals mg)(J:mg x=some (.ref O))
  (M:∀(base:Heap) f q,base.Ns mainGlobals mg->K.In base->WB K x x st f q->Z5 P w K mg base CX k f q [p] sp)
  (hb:∀(kV doc pm:Value) (an:Option Addr) (j ct:Value) (s:Shared) (u:Value),iX s (cw x x (Wm st) (Wa st) (Z2 st) .none kV doc pm an j ct) ⟨[u],[]⟩ [(p,u)]) :
  ∃q:FuncData,(∀(s:Shared) (u:Value),iX s q ⟨[u],[]⟩ [(p,u)])/\∀base:Heap,K.In base->base.Ns mainGlobals mg->Z5 P w K mg base CX k O q [p] sp:=by
 obtain⟨f,oc,od,an,U,kV,doc,pm,j,ct,a,l,c,kp⟩:=D;have e:=J.symm.trans (mI X G a);cases e;exact⟨_,fun s u=>hb kV doc pm an j ct s u,fun base Y nb=>M base _ _ nb Y (Zdd l c kp)⟩
theorem Yl {α:Type} [DecidableEq α]:∀(l j:List α),l.Nodup->(∀a∈l,a∈j)->l.length<=j.length
 | [],_,_,_=>aZ _
 |a::r,j,nd,h=>by
  obtain⟨M,O⟩:=bD.mp nd;have J:a∈j:=h a aB;have:=Yl r (j.erase a) O fun b hb=>by
   have q:b≠a:=fun e=>M (e▸hb);exact (lF q).mpr (h b (ay _ hb))
  rw[List.length_erase_of_mem J] at this;have U:0<j.length:=List.length_pos_of_mem J;rw[Zi];omega
theorem XS (val:Nat->Int):∀i,(firstMet val i).Nodup
 |0=>dY
 |i+1=>by
  have j:=XS val i;rw[lR];unfold step_dedup;split
  ·exact j
  ·rename_i h
   refine mC.mpr ⟨j,bD.mpr ⟨by simp,dY⟩,?_⟩;intro a q b hb e;rw[aS.mp hb] at e;apply h
   first
    |exact bd.mpr ⟨a,q,by simp[e]⟩
    |simpa [e] using q
theorem Zjb (val:Nat->Int)(i:Nat)(k:Int):k∈firstMet val i↔∃j,j<i/\val j=k:=by
 have h:=firstMet_any val i k;constructor
 ·intro M
  have:(firstMet val i).any (· == k)=true:=bd.mpr ⟨k,M,by simp⟩;rw[h] at this;obtain⟨x,q,e⟩:=bd.mp this;obtain⟨j,J,rfl⟩:=aI.mp q;exact⟨j,ae.mp J,by simpa using e⟩
 ·rintro⟨j,J,rfl⟩
  have:((ac i).map val).any (· == val j)=true:=bd.mpr ⟨val j,aI.mpr ⟨j,ae.mpr J,rfl⟩,by simp⟩;rw[<-h] at this;obtain⟨x,q,e⟩:=bd.mp this;have:x=val j:=by simpa using e
  exact this▸q
section
variable {X:Cx}
end
theorem gT {q:TE}{N:St->Hp->Prop}{J:St->V->Hp->Prop}{x:V}{O:Option V}{cs:St}{H:Hp}(h:q (some x::cs) H (J (some x::cs))):Yn 0 x (O::cs) H fun j U=>Wo j U fun b M=>if b=true then q j M (J j) else N j M:=by
 show if true=true then q (some x::cs) H (J (some x::cs)) else N (some x::cs) H
 rw[if_pos rfl];exact h
theorem V8 {J:It}{own:List Str}{q:List Nat}{te:TE}{σ:St}{H:Hp}{Q:VK}{xs:List V}(G:Addr->Nat->List V->Hp->Prop)(cs:St)(m8:Jp own q σ=none::cs)(hz:xs.length<=1000000)
  (S:∀D i ys j,H D=none->j D=some (.lst ys)->G D i ys j->(i<xs.length->J.go i j/\∀x O,J.yld i j x O->O=j/\xs[i]?=some x)/\(i=xs.length->J.stop i j))
  (h0:∀D,H D=none->G D 0 [] (upd H D (.lst [])))
  (hs:∀D (i:Nat) x ys j,H D=none->j D=some (.lst ys)->xs[i]?=some x->G D i ys j->∀R:VK,(∀v Y,Y D=some (.lst ys)->G D (i+1) (ys++[v]) (upd Y D (.lst (ys++[v])))->R v Y)->te (some x::cs) j R)
  (hd:∀D ys j,H D=none->j D=some (.lst ys)->ys.length=xs.length->G D xs.length ys j->Q (.ref D) j):WT own q (Yn 0) Wo te σ Q J H:=by
 intro D hD;refine⟨fun i m U j=>m=xs.length-i/\i<=xs.length/\(∃v0,U=v0::cs)/\∃ys,j D=some (.lst ys)/\ys.length=i/\G D i ys j,⟨_,rfl,aZ _,⟨none,m8⟩,[],Zt,rfl,h0 D hD⟩,?_⟩;rintro i m U j ⟨rfl,hi,⟨v0,rfl⟩,ys,hl,hy,g⟩;obtain⟨S1,S2⟩:=S D i ys j hD hl g;by_cases M:i<xs.length
 ·refine .inr ⟨(S1 M).1,_,fun m9 O z=>z,fun x O y=>?_⟩
  obtain⟨rfl,hx⟩:=(S1 M).2 x O y;refine gT ?_;refine hs D i x ys O hD hl hx g _ fun v Y h5 g5=>⟨ys,h5,?_,xs.length-(i+1),by omega,rfl,M,⟨_,rfl⟩,ys++[v],Zt,by rw[Zd];simp[hy],g5⟩;have:(16777216:Nat)=sizeLine:=by decide
  omega
 ·have e:i=xs.length:=by omega
  exact .inl ⟨S2 e,hd D ys j hD hl (by omega) (e▸g)⟩
theorem Zge {X:Cx}(i:Nat)(J:List Str)(j:List Nat)(O:List Str){scope:cQ}{elt iter U:Expr}{ifs:List Expr}{pos q py:Pos}{y:Str}{wi:TI}{g:TG}{tc:TT}{te:TE}(hc:X.calm=true)(hf:X.fn y=true)(hi:PI X U iter wi)
  (hg:∀M C s H ex,PG (YS X scope M O C s H ex) U g) (ht:∀M C s H ex,PIf (YS X scope M O C s H ex) ifs tc) (he:∀M C s H ex,PE (YS X scope M O C s H ex) elt te)
  (hS:ZaZ X.N X.env.scope J j O scope=true:=by kernel_rfl) (hy:X.N[i]?=some y:=by rfl) (hN:WZ X.N=true:=by kernel_rfl) (hx:UZ X.env.scope y=true:=by kernel_rfl)
  (Y:swapsWith (.ListComp elt [⟨U,iter,ifs,0⟩] scope pos) (some (.Name y py)) q.line X.env=pure true:=by rfl) (hs:∀x,foldedSetIterable iter X.env x=pure x:=by intro _;rfl) :
  PS X (.Assign [.Name y py] (.ListComp elt [⟨U,iter,ifs,0⟩] scope pos) q) (ZcG (Zdw J j wi g tc te) (Yn i)):=ZcY rfl (.of hS) hc hi hg ht he (Z0 hN) hy (YL hx) (.inl hf) Y hs
end L2
namespace HT
open PySem PyProof.Rows
section
variable {prog:Program}{w:World}{A:Around}{E:Value->Shared->Prop}{s:Shared}
end
end HT
namespace L2
open PySem PySem.Spec PyProof.Rows
section
variable {X:Cx}{e:Expr}{te ts:TE}{st:Expr}{pos p2:Pos}
end
end L2
namespace HT
open PySem PyProof.Rows
section
variable {prog:Program}{w:World}{A:Around}{E:Value->Shared->Prop}{s:Shared}
end
end HT
namespace L2
open PySem PySem.Spec PyProof.Rows
section
variable {X:Cx}
end
end L2
namespace PyS
open PySem PySem.SetTable
noncomputable def X4 (p:Array Nat):Prop:=p.toList.Pairwise (· < ·)
theorem X4.lt {p:Array Nat}(h:X4 p){i j:Nat}{x y:Nat}(q:i<j)(J:p[i]?=some x)(M:p[j]?=some y):x<y:=by
 rw[<-bN] at J M;obtain⟨O,rfl⟩:=aa.mp J;obtain⟨U,rfl⟩:=aa.mp M;exact jW.mp h i j O U q
structure Zds (p:Array Nat)(j k:Nat):Prop where
 le:k<=p.size
 lo:∀i x,i<k->p[i]?=some x->x<j
 hi:∀i x,k<=i->p[i]?=some x->j<=x
theorem Zda {p:Array Nat}(h:X4 p)(j:Nat):∀(q lo hi:Nat),lo<=hi->hi<=p.size->hi-lo<=q->(∀i x,i<lo->p[i]?=some x->x<j)->(∀i x,hi<=i->p[i]?=some x->j<=x)->Zds p j (below.go p j q lo hi)
 |0,lo,hi,h1,O,h3,U,Y=>by
  have:lo=hi:=by omega
  subst this;exact⟨O,U,Y⟩
 |q+1,lo,hi,h1,O,h3,U,Y=>by
  unfold below.go;by_cases J:lo<hi
  ·rw[if_pos J]
   dsimp only;have hm:(lo+hi) / 2<p.size:=by omega
   have M:p[(lo+hi) / 2]?=some p[(lo+hi) / 2]:=aP hm;have eg:p.getD ((lo+hi) / 2) j=p[(lo+hi) / 2]:=by rw[cG,M];rfl
   rw[eg];by_cases hc:p[(lo+hi) / 2]<j
   ·rw[if_pos hc]
    refine Zda h j q _ _ (by omega) O (by omega) (fun i x m8 e=>?_) Y;by_cases e1:i=(lo+hi) / 2
    ·subst e1
     rw[M] at e;cases e;exact hc
    ·exact i6 (h.lt (by omega) e M) hc
   ·rw[if_neg hc]
    refine Zda h j q _ _ (by omega) (by omega) (by omega) U fun i x m8 e=>?_;by_cases e1:i=(lo+hi) / 2
    ·subst e1
     rw[M] at e;cases e;omega
    ·have:=h.lt (by omega) M e
     omega
  ·rw[if_neg J]
   have:lo=hi:=by omega
   subst this;exact⟨O,U,Y⟩
theorem Zac {p:Array Nat}(h:X4 p)(j:Nat):Zds p j (below p j):=Zda h j _ _ _ (aZ _) (Zq _) (by omega) (fun i x q=>absurd q (dG _)) (fun i x q e=>by
 rw[cF q] at e;cases e)
theorem Zds.uniq {p:Array Nat}{j k q:Nat}(a:Zds p j k)(b:Zds p j q):k=q:=by
 have J:∀{k q:Nat},Zds p j k->Zds p j q->¬k<q:=fun {k q} a b M=>by
  have O:k<p.size:=aE M b.le;have e:p[k]?=some p[k]:=aP O;have U:=b.lo k _ M e;have Y:=a.hi k _ (Zq _) e;omega
 have:=J a b;have:=J b a;omega
theorem X4.insert {p:Array Nat}(h:X4 p){j:Nat}(M:p[below p j]?≠some j):X4 (insertAt p (below p j) j):=by
 have c:=Zac h j;generalize below p j=k at c M;unfold X4;rw[toList_insertAt];have O:∀y∈p.toList.take k,y<j:=fun y q=>by
  obtain⟨i,hi,rfl⟩:=List.mem_take_iff_getElem.mp q;have:i<p.size:=by rw[<-Zr];omega
  exact c.lo i _ (by omega) (by rw[aP this];simp)
 have U:∀y∈p.toList.drop k,j<y:=fun y q=>by
  obtain⟨i,hi,rfl⟩:=List.mem_drop_iff_getElem.mp q;have J:k+i<p.size:=by rw[Zr] at hi;omega
  have h1:=c.hi (k+i) p[k+i] (by omega) (by rw[aP J]);have h2:p[k+i]≠j:=fun z=>by
   by_cases e:i=0
   ·subst e
    exact M (by rw[<-z];exact aP (by simpa using J))
   ·have Y:k<p.size:=by omega
    have h3:=h.lt (i:=k) (j:=k+i) (by omega) (aP Y) (aP J);have h4:=c.hi k _ (Zq _) (aP Y);omega
  show j<p.toList[k+i];rw[Array.getElem_toList];omega
 rw[ir];refine⟨cZ (iY k _) h,?_,fun a ha b hb=>?_⟩
 ·rw[l8]
  exact⟨U,cZ (List.drop_sublist k _) h⟩
 ·rcases aG.mp hb with hb|hb
  ·rw[hb];exact O a ha
  ·exact i6 (O a ha) (U b hb)
theorem X7 {t:SetTable}(U:t.dummies=#[]){hashAt:Nat->Int}{h:Int}:∀(q:Nat) (p:Probe),p.dummy=none->∀{j:Nat}{d:Option Nat},probe.go t hashAt h q p=some (.empty j d)->t.slot j=.empty/\d=none
 |0,p,_,j,d,e=>by
  unfold probe.go at e;cases e
 |q+1,p,M,j,d,e=>by
  unfold probe.go at e;cases J:t.slot p.j with
  |empty=>
   rw[J] at e;dsimp only at e;have e:=aw e;injection e with Y e2;subst Y;exact⟨J,by rw[<-e2];exact M⟩
  |dummy=>
   exfalso;unfold mj at J;dsimp only at J;split at J
   ·cases J
   ·split at J
    ·rename_i O
     unfold has at O;rw[U] at O;simp at O
    ·cases J
  |live i=>
   rw[J] at e;dsimp only at e;split at e
   ·cases e
   ·refine X7 U q _ ?_ e
    unfold advance;split
    ·exact M
    ·exact M
theorem Zfh {t:SetTable}(O:t.dummies=#[]){h:Int}{j:Nat}{b:Bool}(e:t.freeSlot h=some (j,b)):t.place[below t.place j]?≠some j:=by
 unfold SetTable.freeSlot at e;split at e
 ·rename_i U d' Y
  have e:=aw e;injection e with J e2;obtain⟨q,h2⟩:=X7 O _ _ rfl Y;subst h2;have J:U=j:=J;subst J;unfold mj at q;dsimp only at q;split at q
  ·cases q
  ·rename_i M
   intro z;exact M (by rw[z];simp)
 ·cases e
structure Wk (t:SetTable)(led:Bool):Prop where
 rise:X4 t.place
 dum:t.dummies=#[]
 led:t.led=led
theorem ZcU (n:Nat):X4 (Array.range n):=by
 unfold X4;rw[Array.toList_range];exact gU
theorem Wk.standIn {t:SetTable}{led:Bool}(h:t.led=led)(n:Nat):Wk (t.standIn n) led:=⟨ZcU n,rfl,h⟩
theorem Wk.lay {t:SetTable}{led:Bool}(W:Wk t led)(J:Array (Int×Value))(h:Int)(x:Value):Wk (layNew t J h x).2.1 led:=by
 unfold layNew;split
 ·rename_i slot M e
  dsimp only;have j:=Zfh W.dum e;have q:Wk (t.put slot).1 led:=by
   unfold put;dsimp only;refine⟨W.rise.insert j,?_,W.led⟩;dsimp only;rw[W.dum];unfold has;simp
  unfold SetTable.orStandIn;split
  ·exact q
  ·exact .standIn q.led _
 ·exact .standIn W.led _
theorem ZiQ {n:Nat}(g:Nat->Option Nat):(((ac n).filterMap fun j=>(g j).map (j,·)).map (·.1)).Pairwise (· < ·):=by
 have e:∀l:List Nat,(l.filterMap fun j=>(g j).map (j,·)).map (·.1)=l.filter fun j=>(g j).isSome:=fun l=>by
  induction l with
  |nil=>rfl
  |cons a l q=>
   rw[bV,List.filter_cons];cases h:g a with
   |none=>rw[Option.map_none];dsimp only;rw[q];rfl
   |some b=>rw[bR];dsimp only;rw[aF,q];rfl
 rw[e];exact cZ lU gU
theorem Wk.relay {t:SetTable}{led:Bool}(W:Wk t led)(M:Array (Int×Value))(j:Nat):Wk (relayAll t M j).2.1 led:=by
 unfold relayAll;split
 ·rename_i Y q e
  dsimp only;split
  ·dsimp only
   unfold relaid laid at e;cases O:layClean (sizeAbove j-1) (M.map (·.1)) with
   |none=>rw[O] at e;cases e
   |some J=>
    rw[O] at e;have e:=aw e;injection e with U e2;subst U;refine⟨?_,rfl,W.led⟩;unfold X4;exact ZiQ _
  ·exact .standIn W.led _
 ·exact .standIn W.led _
theorem Wk.plain {t:SetTable}{led:Bool}(W:Wk t led)(b:Bool):Wk {t with plain:=b} led:=⟨W.rise,W.dum,W.led⟩
theorem Wk.fresh (led:Bool):Wk (SetTable.fresh 0 0 led) led:=⟨fI,rfl,rfl⟩
theorem Zed {p:Array Nat}(h:X4 p){i:Nat}{slot:Nat}(M:i<=p.size)(J:(i=0/\slot=0)\/(∃j x,i=j+1/\p[j]?=some x/\slot=x+1)):below p slot=i:=by
 refine (Zac h slot).uniq ⟨M,fun k x O e=>?_,fun k x O e=>?_⟩
 ·rcases J with ⟨rfl,_⟩|⟨j,y,rfl,q,rfl⟩
  ·omega
  ·by_cases U:k=j
   ·subst U
    rw[q] at e;cases e;omega
   ·have:=h.lt (by omega) e q
    omega
 ·rcases J with ⟨_,rfl⟩|⟨j,y,rfl,q,rfl⟩
  ·omega
  ·have:=h.lt (by omega) q e
   omega
theorem J6 {α:Type}:∀{l:List α}{i:Nat}{x:α},l[i]?=some x->bT (x::l.eraseIdx i) l
 | [],i,x,e=>by cases e
 |a::l,0,x,e=>by cases e;exact cW _
 |a::l,i+1,x,e=>by
  rw[List.getElem?_cons_succ] at e;rw[kw];exact (i8 a x _).trans ((J6 e).cons a)
theorem UO {α:Type}(next:Nat->Nat):∀(j k:Nat) (left:List α) (out:Array α),left.length<=j->bT (jG next j k left out).toList (out.toList++left)
 |0,k,left,out,h=>by
  have:left=[]:=eZ.mp (by omega);subst this;unfold jG;rw[hG]
 |j+1,k,left,out,h=>by
  unfold jG;split
  ·rename_i x e
   have q:=(aa.mp e).1;refine (UO next j (k+1) _ _ (by rw[dZ];split <;> omega)).trans ?_
   rw[ma,gt];refine jS _ ?_;exact J6 e
  ·rename_i e
   have:left=[]:=by
    rcases left with _|⟨a,l⟩
    ·rfl
    ·exfalso
     rw[gh] at e;have:=bW (next k) (show 0<(a::l).length by rw[Zi];omega);omega
   subst this;rw[hG]
theorem WO {α:Type}(next:Nat->Nat)(xs:Array α):bT (pickOrder next xs).toList xs.toList:=by
 unfold pickOrder;have:=UO next xs.size 0 xs.toList #[] (by rw[Zr];exact Zq _);simpa using this
end PyS
namespace PyS
open PySem
theorem ZZ:Slot "set_iterator" "__next__" "set_iterator.__next__":=
 .of (owner:="set_iterator") (n:="__next__") (by rw[typeLookup_type,mH];kernel_rfl) (by decide +kernel) (by decide +kernel) (by decide +kernel)
  (by first|exact .inl (by decide +kernel)|exact .inr (by decide +kernel)) (by rw[kO];kernel_rfl)
theorem Wl:entryFor table "set_iterator.__next__"=some cY.«set_iterator.__next__»:=entryFor_of_tree (by kernel_rfl)
theorem ZbL:Manifest.owners.lookup (String.ofList ['r','o','t','a','r','e','t','i','_','t','e','s'].reverse)=some Manifest.sig_set_iterator:=by kernel_rfl
theorem WJ (a:Value):argsOk "set_iterator.__next__" ⟨[a],[]⟩:=by
 unfold argsOk;rw[signature?_of (id:="set_iterator.__next__") (n:=['_','_','t','x','e','n','_','_']) (o:=['r','o','t','a','r','e','t','i','_','t','e','s']) (by kernel_rfl) ZbL];kernel_rfl
theorem Xf:Slot "set_iterator" "__iter__" "set_iterator.__iter__":=
 .of (owner:="set_iterator") (n:="__iter__") (by rw[typeLookup_type,mH];kernel_rfl) (by decide +kernel) (by decide +kernel) (by decide +kernel)
  (by first|exact .inl (by decide +kernel)|exact .inr (by decide +kernel)) (by rw[kO];kernel_rfl)
theorem UA:entryFor table "set_iterator.__iter__"=some cY.«dict_keyiterator.__iter__»:=entryFor_alias (id':="dict_keyiterator.__iter__") (by kernel_rfl) rfl (by decide +kernel) (by kernel_rfl)
theorem Za5 (a:Value):argsOk "set_iterator.__iter__" ⟨[a],[]⟩:=by
 unfold argsOk;rw[signature?_of (id:="set_iterator.__iter__") (n:=['_','_','r','e','t','i','_','_']) (o:=['r','o','t','a','r','e','t','i','_','t','e','s']) (by kernel_rfl) ZbL];kernel_rfl
theorem V4:entryFor table "set.__iter__"=some cY.«frozenset.__iter__»:=entryFor_alias (id':="frozenset.__iter__") (by kernel_rfl) rfl (by decide +kernel) (by kernel_rfl)
noncomputable def Jn (h:Heap)(a:Addr)(j:Array (Int×Value))(ep:Nat)(t:SetTable):Prop:=∃o,h.get? a=some o/\o.ExactSet/\o.data=.set j ep t/\t.fits j.size=true
noncomputable def YW (h:Heap)(I:Addr)(first:Value)(i:Nat)(a:Addr)(n ep:Nat):Prop:=∃o,h.get? I=some o/\o.cls=.type "set_iterator"/\o.data=.fields #[first,.int i 0,.ref a,.int n 0,.int ep 0]
theorem Jn.keep {h h':Heap}{a:Addr}{j:Array (Int×Value)}{ep:Nat}{t:SetTable}(S:Jn h a j ep t)(k:∀o,h.get? a=some o->h'.get? a=some o):Jn h' a j ep t:=let ⟨o,e,r⟩:=S;⟨o,k o e,r⟩
theorem YW.keep {h h':Heap}{I:Addr}{first:Value}{i:Nat}{a:Addr}{n ep:Nat}(S:YW h I first i a n ep)(k:∀o,h.get? I=some o->h'.get? I=some o):YW h' I first i a n ep:=let ⟨o,e,r⟩:=S;⟨o,k o e,r⟩
section
variable {prog:Program}{w:World}{A:Around}{E:Value->Shared->Prop}{s:Shared}{I a:Addr}{es:Array (Int×Value)}{ep:Nat}{t:SetTable}{first:Value}{i n:Nat}
theorem YW.typeIs (h:YW s.heap I first i a n ep):s.TypeIs (.ref I) "set_iterator":=let ⟨o,e,c,_⟩:=h;⟨o,e,c⟩
theorem Jn.typeIs (h:Jn s.heap a es ep t):s.TypeIs (.ref a) "set":=let ⟨o,e,c,_⟩:=h;⟨o,e,c.1⟩
theorem Jn.state (h:Jn s.heap a es ep t){Q:(Array (Int×Value)×Nat×SetTable)->Shared->Prop}(q:Q (es,ep,t) s):wpAny (model prog w) A (setState a) Q E s:=let ⟨_,e,_,d,f⟩:=h;wpAny_setState_of e d f q
theorem Jn.entries (h:Jn s.heap a es ep t){Q:Array (Int×Value)->Shared->Prop}(q:Q es s):wpAny (model prog w) A (setEntries a) Q E s:=by
 unfold setEntries;exact Zl (h.state (Zm q))
theorem Jn.epoch (h:Jn s.heap a es ep t){Q:Nat->Shared->Prop}(q:Q ep s):wpAny (model prog w) A (setEpoch a) Q E s:=by
 unfold setEpoch;exact Zl (h.state (Zm q))
theorem Za4 {Q:Bool->Shared->Prop}(q:Q (w.params.followText "set-order") s):wpAny (model prog w) A setsByText Q E s:=by
 unfold setsByText;exact Zl (jT (Zm q))
theorem YW.turn {h:Heap}{o:Obj}(e:h.get? I=some o)(c:o.cls=.type "set_iterator")(d:o.data=.fields #[first,.int i 0,.ref a,.int n 0,.int ep 0])(next:Value) :
  YW ((h.update I (gI (·.setIfInBounds 0 next))).update I (gI (·.setIfInBounds 1 (rawInt ((i:Int)+1))))) I next (i+1) a n ep:=by
 have q:=bC (gI (·.setIfInBounds 0 next)) e (cO (bA d _));have j:=bA d (·.setIfInBounds 0 next);refine⟨_,bC _ q (cO (bA j _)),?_,?_⟩
 ·rw[gw,gw,c]
 ·rw[bA j]
  simp[rawInt]
theorem ZbW {slot:Nat}{Q:Option Value->Shared->Prop}(j:YW s.heap I (.int slot 0) i a n ep)(M:Jn s.heap a es ep t)(O:es.size=n){x:Value}{nx:Nat}
  (U:∀{R:Option (Value×Nat)->Shared->Prop}{Y:Around}{E':Value->Shared->Prop},R (some (x,nx)) s->wpAny (model prog w) Y (setNext a slot i ep) R E' s)
  (q:∀h',YW h' I (.int nx 0) (i+1) a n ep->be I s.heap h'->Q (some x) {s with heap:=h'}):wpAny (model prog w) A (pyNext (.ref I)) Q E s:=by
 obtain⟨o,e,c,d⟩:=id j;unfold pyNext;refine Zl (dS (bn (name:=cU "__next__") j.typeIs ZZ (bx ZZ j.typeIs Wl ?_ (WJ _))));unfold cY.«set_iterator.__next__»;refine Zl (Zm ?_);refine Zl (iS e d ?_);refine Zl (M.entries ?_);rw[O];rw[if_neg (by simp)];show wpAny _ _ (setNext a slot i ep >>= _) _ _ s;refine Zl (U ?_);dsimp only;refine Zl (dA e d (by simp) ?_);have h1:=bC (gI (·.setIfInBounds 0 (rawInt nx))) e (cO (bA d _));have d1:=bA d (·.setIfInBounds 0 (rawInt nx));refine Zl (dA h1 d1 (by simp) ?_);exact Zm ⟨_,rfl,Zm (q _ (YW.turn e c d _) ((bG ..).trans (bG ..)))⟩
theorem Zbj {h:Heap}{Q:Option Value->Shared->Prop}{F:Fin->Shared->Prop}(j:A.handled=none)(q:∀h',(∀b o,h.get? b=some o->h'.get? b=some o)->Q none {s with heap:=h'}) :
  wpAny (model prog w) A.in1 (do let x <-newExc (.type "StopIteration") [];raiseNew (α:=Fin) x) F (fun e s'=>wpAny (model prog w) A (do let b <-isInstance e (.type "StopIteration");if b=true then pure none else throw e) Q E s') {s with heap:=h}:=by
 refine Zl ?_;unfold newExc newTuple;refine Zl (bH (Q:=_) ?_ (by size_fits));refine Zl (m:=firstArgMember _ _) (jX (a:=bX) (by first|rfl|(unfold firstArgMember;rfl)) ?_)
 refine bH (Q:=_) ?_ (by size_fits);unfold raiseNew;refine Zl (wpAny_handled ?_);rw[show A.in1.handled=none from j];refine Zl (Zm (wpAny_throw ?_));refine Zl (ik (T:="StopIteration") (b:=true) ⟨_,Zo _ rfl,rfl⟩ kQ ?_);exact Zm (q _ fun b o e=>Zn _ (Zn _ e))
theorem Zew {slot:Nat}{Q:Option Value->Shared->Prop}(O:A.handled=none)(j:YW s.heap I (.int slot 0) i a n ep)(U:Jn s.heap a es ep t)(Y:es.size=n)
  (hN:∀{R:Option (Value×Nat)->Shared->Prop}{A':Around}{E':Value->Shared->Prop},R none s->wpAny (model prog w) A' (setNext a slot i ep) R E' s)
  (q:∀h',(∀b o,b≠I->s.heap.get? b=some o->h'.get? b=some o)->Q none {s with heap:=h'}):wpAny (model prog w) A (pyNext (.ref I)) Q E s:=by
 obtain⟨o,e,c,d⟩:=id j;unfold pyNext;refine Zl (dS (bn (name:=cU "__next__") j.typeIs ZZ (bx ZZ j.typeIs Wl ?_ (WJ _))));unfold cY.«set_iterator.__next__»;refine Zl (Zm ?_);refine Zl (iS e d ?_);refine Zl (U.entries ?_);rw[Y];rw[if_neg (by simp)];show wpAny _ _ (setNext a slot i ep >>= _) _ _ s;refine Zl (hN ?_);dsimp only;refine Zl (dA e d (by simp) ?_);exact Zbj O fun h' k=>q h' fun b M hb e'=>k b M ((bG s.heap I _).extBut b M hb e')
theorem Zec (j:w.params.followText "set-order"=true)(J:Jn s.heap a es ep t){slot:Nat}{R:Option (Value×Nat)->Shared->Prop}
  (q:R (((pickOrder (w.params.setOrder a ep) es)[i]?).map fun e=>(e.2,slot)) s):wpAny (model prog w) A (setNext a slot i ep) R E s:=by
 unfold setNext;refine Zl (J.state ?_);dsimp only;refine Zl (Za4 ?_);rw[j,if_pos rfl,if_neg (by simp)];refine Zl ?_;unfold setWalk;refine Zl (J.state ?_);dsimp only;refine Zl (Za4 ?_);rw[j,if_pos rfl];exact Zl (jT (Zm (Zm q)))
theorem ZbP (J:w.params.followText "set-order"=false)(M:Jn s.heap a es ep t)(hd:t.plain=true\/es.size<=1)(O:t.led=true){slot:Nat}{R:Option (Value×Nat)->Shared->Prop}
  (q:R (match es[lZ t.place slot]?,t.place[lZ t.place slot]? with|some (_,x),some j=>some (x,j+1)|_,_=>none) s):wpAny (model prog w) A (setNext a slot i ep) R E s:=by
 unfold setNext;refine Zl (M.state ?_);dsimp only;refine Zl (Za4 ?_);rw[J,if_neg (by decide)];show wpAny _ _ (if (!t.plain && decide (es.size > 1))=true then _ else _) _ _ s
 rw[if_neg (by
  rcases hd with hd|hd
  ·rw[hd];simp
  ·rw[decide_eq_false (by omega),Bool.and_false];decide)]
 show wpAny _ _ ((if (!t.led && !es.isEmpty)=true then _ else _) >>= _) _ _ s
 rw[O];exact Zl (Zm (Zm q))
theorem Zc2 {T0:Addr}{J:Array Value}{pl:Nat}{Q:Option Value->Shared->Prop}(j:YW s.heap I (.ref T0) i a n ep)(U:∃o k,s.heap.get? T0=some o/\o.data=.seq J k)(M:Jn s.heap a es ep t)(Y:es.size=n)(hp:J[i]?=some (.int pl 0)){h:Int}{x:Value}(hx:es[pl]?=some (h,x))
  (q:∀h',YW h' I (.ref T0) (i+1) a n ep->be I s.heap h'->Q (some x) {s with heap:=h'}):wpAny (model prog w) A (pyNext (.ref I)) Q E s:=by
 obtain⟨o,e,c,d⟩:=id j;obtain⟨ot,k,et,dt⟩:=U;unfold pyNext;refine Zl (dS (bn (name:=cU "__next__") j.typeIs ZZ (bx ZZ j.typeIs Wl ?_ (WJ _))));unfold cY.«set_iterator.__next__»;refine Zl (Zm ?_);refine Zl (iS e d ?_);refine Zl (M.entries ?_);rw[Y];rw[if_neg (by simp)];show wpAny _ _ (seqItems? (.ref T0) >>= _) _ _ s;refine Zl (cr et dt ?_);dsimp only;rw[Zj,hp];show wpAny _ _ (setNextDrawn a pl ep >>= _) _ _ s;refine Zl ?_;unfold setNextDrawn;refine Zl (M.state ?_);dsimp only;rw[if_neg (by simp),hx];refine Zm ?_;refine Zl (dA e d (by simp) ?_);refine Zm ⟨_,rfl,Zm (q _ ⟨_,bC _ e (cO (bA d _)),?_,?_⟩ (bG ..))⟩
 ·rw[gw,c]
 ·rw[bA d]
  simp[rawInt]
theorem Zfl {T0:Addr}{J:Array Value}{Q:Option Value->Shared->Prop}(U:A.handled=none)(j:YW s.heap I (.ref T0) i a n ep)(Y:∃o k,s.heap.get? T0=some o/\o.data=.seq J k)(hS:Jn s.heap a es ep t)(hn:es.size=n)(hp:J[i]?=none)
  (q:∀h',(∀b o,b≠I->s.heap.get? b=some o->h'.get? b=some o)->Q none {s with heap:=h'}):wpAny (model prog w) A (pyNext (.ref I)) Q E s:=by
 obtain⟨o,e,c,d⟩:=id j;obtain⟨ot,k,et,dt⟩:=Y;unfold pyNext;refine Zl (dS (bn (name:=cU "__next__") j.typeIs ZZ (bx ZZ j.typeIs Wl ?_ (WJ _))));unfold cY.«set_iterator.__next__»;refine Zl (Zm ?_);refine Zl (iS e d ?_);refine Zl (hS.entries ?_);rw[hn];rw[if_neg (by simp)];show wpAny _ _ (seqItems? (.ref T0) >>= _) _ _ s;refine Zl (cr et dt ?_);dsimp only;rw[Zj,hp];dsimp only;refine Zl (dA e d (by simp) ?_);have h1:=bC (gI (·.setIfInBounds 0 (rawInt 0))) e (cO (bA d _));have d1:=bA d (·.setIfInBounds 0 (rawInt 0));refine Zl (dA h1 d1 (by simp) ?_);exact Zbj U fun h' k=>q h' fun b O hb e'=>k b O (((bG s.heap I _).trans (bG _ I _)).extBut b O hb e')
theorem Zfv {src:Source}{m:Nat}{Q:Nat->Shared->Prop}(j:m≠0)(q:∀k J,k<m->Q k {s with drawn:=J}):wpAny (model prog w) A (choose src m) Q E s:=fun _ _ _=>⟨j,q _ _ (bW _ (by omega))⟩
theorem U2 {α:Type}:∀(m:Nat) (xs:List α) {s:Shared}{Q:List α->Shared->Prop},xs.length<=m->(∀ys M,bT ys xs->Q ys {s with drawn:=M})->wpAny (model prog w) A (drawOrder m xs) Q E s
 |0,xs,s,Q,h,q=>by
  have:xs=[]:=eZ.mp (by omega);subst this;unfold drawOrder;exact Zm (q [] s.drawn (cW _))
 |m+1,[],s,Q,h,q=>by
  unfold drawOrder;exact Zm (q [] s.drawn (cW _))
 |m+1,x::xs,s,Q,h,q=>by
  unfold drawOrder;refine Zl (Zfv (by rw[Zi];omega) fun k M j=>?_);rw[Zf j];dsimp only;refine Zl (U2 m _ (by rw[dZ,if_pos j];omega) fun ys J O=>Zm ?_);exact q _ J ((O.cons _).trans (J6 (Zf j)))
end
section
variable {prog:Program}{w:World}{A:Around}{E:Value->Shared->Prop}{s:Shared}{I a:Addr}{es:Array (Int×Value)}{ep:Nat}{t:SetTable}{first:Value}{i n:Nat}
theorem Zav {Q:Value->Shared->Prop}(j:YW s.heap I first i a n ep)(q:Q (.ref I) s):wpAny (model prog w) A (pyIter (.ref I)) Q E s:=by
 refine wpAny_pyIter_slot j.typeIs Xf (bx Xf j.typeIs UA ?_ (Za5 _));show wpAny _ _ (ret (.ref I)) _ _ s;exact Zm ⟨_,rfl, "set_iterator",_,j.typeIs,ZZ.lookup,q⟩
noncomputable def Xa (es:Array (Int×Value)):List Value:=es.toList.map (·.2)
theorem ZeL (Y:A.handled=none)(O:w.params.followText "set-order"=true)(q:a≠I) :
  Walks prog w A I [I,a] [I] es.size (fun i v=>((pickOrder (w.params.setOrder a ep) es).toList.map (·.2))[i]?=some v) (fun i h=>YW h I (.int 0 0) i a es.size ep/\Jn h a es ep t) where
 sub:=fun b hb=>by simp at hb;simp[hb]
 frame:=fun _ _ _ st k=>⟨st.1.keep fun o e=>k I (by simp) o e,st.2.keep fun o e=>k a (by simp) o e⟩
 item:=fun i s Q E hi st j=>by
  have J:=WO (w.params.setOrder a ep) es;have hl:(pickOrder (w.params.setOrder a ep) es).size=es.size:=by rw[<-Zr,J.length_eq,Zr]
  have e:(pickOrder (w.params.setOrder a ep) es)[i]?=some ((pickOrder (w.params.setOrder a ep) es)[i]'(by omega)):=aP (by omega);generalize (pickOrder (w.params.setOrder a ep) es)[i]'(by omega)=y at e;refine ZbW (slot:=0) (x:=y.2) (nx:=0) st.1 st.2 rfl (fun {R A' E'} r=>Zec O st.2 (by rw[e];exact r)) fun M i' U=>?_;refine j y.2 M s.toks ?_ ⟨i',st.2.keep fun o e=>U.extBut a o q e⟩ fun b o hb e=>U.extBut b o (fun z=>hb (by simp[z])) e;rw[Zc,bN,e];rfl
 done:=fun s Q E st j=>by
  have J:=WO (w.params.setOrder a ep) es;have hl:(pickOrder (w.params.setOrder a ep) es).size=es.size:=by rw[<-Zr,J.length_eq,Zr]
  refine Zew (slot:=0) Y st.1 st.2 rfl (fun {R A' E'} r=>Zec O st.2 (by rw[cF (by omega)];exact r)) fun M k=>j M s.toks fun b o hb e=>k b o (fun z=>hb (by simp[z])) e
 self:=fun _ _ _ _ st j=>Zav st.1 j
theorem Zcz (hh:A.handled=none)(ht:w.params.followText "set-order"=false)(hd:t.plain=true\/es.size<=1)(W:Wk t true)(U:a≠I) :
  Walks prog w A I [I,a] [I] es.size (fun i v=>(Xa es)[i]?=some v) (fun i h=>∃slot:Nat,((i=0/\slot=0)\/(∃j x,i=j+1/\t.place[j]?=some x/\slot=x+1))/\YW h I (.int slot 0) i a es.size ep/\Jn h a es ep t) where
 sub:=fun b hb=>by simp at hb;simp[hb]
 frame:=fun _ _ _ st k=>by
  obtain⟨slot,M,J,q⟩:=st;exact⟨slot,M,J.keep fun o e=>k I (by simp) o e,q.keep fun o e=>k a (by simp) o e⟩
 item:=fun i s Q E hi st O=>by
  obtain⟨slot,M,J,q⟩:=st;have hf:t.place.size=es.size:=by
   obtain⟨_,_,_,_,f⟩:=q;simp only[mo,af,beq_iff_eq] at f;exact f.1
  have hb:=Zed W.rise (i:=i) (slot:=slot) (by omega) M;have Y:es[i]?=some es[i]:=aP hi;have e2:t.place[i]?=some (t.place[i]'(by omega)):=aP (by omega);generalize es[i]=y at Y;generalize t.place[i]'(by omega)=j at e2;refine ZbW (slot:=slot) (x:=y.2) (nx:=j+1) J q rfl (fun {R A' E'} r=>ZbP ht q hd W.led (by rw[hb,Y,e2];exact r)) fun h' i' sb=>?_;refine O y.2 h' s.toks ?_ ⟨j+1,.inr ⟨i,j,rfl,e2,rfl⟩,i',q.keep fun o e=>sb.extBut a o U e⟩ fun b o hb e=>sb.extBut b o (fun z=>hb (by simp[z])) e;show (es.toList.map (·.2))[i]?=some y.2;rw[Zc,bN,Y];rfl
 done:=fun s Q E st O=>by
  obtain⟨slot,M,J,q⟩:=st;have hf:t.place.size=es.size:=by
   obtain⟨_,_,_,_,f⟩:=q;simp only[mo,af,beq_iff_eq] at f;exact f.1
  have hb:=Zed W.rise (i:=es.size) (slot:=slot) (by omega) M;refine Zew (slot:=slot) hh J q rfl (fun {R A' E'} r=>ZbP ht q hd W.led (by rw[hb,cF (Zq _)];exact r)) fun h' k=>O h' s.toks fun b o hb e=>k b o (fun z=>hb (by simp[z])) e
 self:=fun _ _ _ _ st O=>by
  obtain⟨slot,M,J,q⟩:=st;exact Zav J O
theorem ZcA (hh:A.handled=none){T0:Addr}{j:List Nat}(M:bT j (ac es.size))(m8:a≠I)(m9:T0≠I) :
  Walks prog w A I [I,a,T0] [I] es.size (fun i v=>(j.filterMap fun p=>(es[p]?).map (·.2))[i]?=some v) (fun i h=>YW h I (.ref T0) i a es.size ep/\Jn h a es ep t/\∃o k,h.get? T0=some o/\o.data=.seq (j.map fun (p:Nat)=>rawInt p).toArray k) where
 sub:=fun b hb=>by simp at hb;simp[hb]
 frame:=fun _ _ _ st k=>by
  obtain⟨U,O,o,k0,J,h4⟩:=st;exact⟨U.keep fun o e=>k I (by simp) o e,O.keep fun o e=>k a (by simp) o e,o,k0,k T0 (by simp) o J,h4⟩
 item:=fun i s Q E hi st Y=>by
  obtain⟨U,O,J⟩:=st;have hl:j.length=es.size:=by rw[M.length_eq,Zg]
  have e0:j[i]?=some (j[i]'(by omega)):=Zf (by omega);have hm:j[i]'(by omega)<es.size:=ae.mp (M.mem_iff.mp (bc _));generalize j[i]'(by omega)=pl at e0 hm;have e1:es[pl]?=some es[pl]:=aP hm;generalize es[pl]=y at e1;obtain⟨hv,x⟩:=y;refine Zc2 (pl:=pl) U J O rfl (by simp[e0,rawInt]) e1 fun h' i' sb=>?_;obtain⟨o,k0,J,h4⟩:=J;refine Y x h' s.toks ?_ ⟨i',O.keep fun o e=>sb.extBut a o m8 e,o,k0,sb.extBut T0 o m9 J,h4⟩ fun b o hb e=>sb.extBut b o (fun z=>hb (by simp[z])) e;have all:∀(l:List Nat),(∀p∈l,p<es.size)->(l.filterMap fun p=>(es[p]?).map (·.2))=l.map fun p=>(es.getD p (0,.none)).2:=fun l=>by
   induction l with
   |nil=>intro _;rfl
   |cons p l ih=>
    intro h;have M:=h p aB;rw[bV,aP M,bR,aF,ih fun q hq=>h q (ay _ hq)];dsimp only;rw[cG,aP M];rfl
  rw[all j fun p hm=>ae.mp (M.mem_iff.mp hm),Zc,e0,bR,cG,e1];rfl
 done:=fun s Q E st Y=>by
  obtain⟨U,O,J⟩:=st;have hl:j.length=es.size:=by rw[M.length_eq,Zg]
  refine Zfl hh U J O rfl (by rw[cF (by simp[hl])]) fun h' k=>Y h' s.toks fun b o hb e=>k b o (fun z=>hb (by simp[z])) e
 self:=fun _ _ _ _ st Y=>Zav st.1 Y
theorem Zgf (hz:es.size<=sizeLine)(M:Jn s.heap a es ep t)(W:Wk t (!w.params.followText "set-order")){Q:Value->Shared->Prop}
  (q:∀(I:Addr) (fp:List Addr) (h':Heap) (dr:lc) (L:List Value) (St:Nat->Heap->Prop),s.heap.objs.size<=I->(∀b∈fp,b=a\/s.heap.objs.size<=b)->(∀b o,s.heap.get? b=some o->h'.get? b=some o)->bT L (Xa es)->
   (∀A':Around,A'.handled=none->Walks prog w A' I fp [I] es.size (fun i v=>L[i]?=some v) St)->St 0 h'->Q (.ref I) {s with heap:=h',drawn:=dr}) :
  wpAny (model prog w) A (pyIter (.ref a)) Q E s:=by
 have ha:a<s.heap.objs.size:=let ⟨o,e,_⟩:=M;Zp e;refine wpAny_pyIter_slot M.typeIs F.slot_set_iter (bx F.slot_set_iter M.typeIs V4 ?_ (F.args_set_iter_1 _));unfold cY.«frozenset.__iter__»;show wpAny _ _ (pure a >>= _) _ _ s;refine Zl (Zm ?_);refine Zl ?_;unfold Builtin.Frozenset.sizeOf;refine Zl (M.entries (Zm ?_));refine Zl ?_;unfold setDrawn;refine Zl (M.state ?_);dsimp only;refine Zl (Za4 (Zm ?_));show wpAny _ _ (if (!w.params.followText "set-order" && (!t.plain && decide (es.size > 1)))=true then _ else _) _ _ s
 by_cases J:(!w.params.followText "set-order" && (!t.plain && decide (es.size > 1)))=true
 ·rw[if_pos J]
  refine Zl (U2 _ _ (by rw[Zg];exact Zq _) fun O dr hp=>?_);have hl:O.length=es.size:=by rw[hp.length_eq,Zg]
  unfold newTuple;refine Zl (bH ?_ (by show (i0 (fun (i:Nat)=>rawInt i) O).toArray.size<=sizeLine;rw[Zh,Za,hl];exact hz));have h1:(s.heap.push {cls:=.type "tuple",data:=.seq (i0 (fun (i:Nat)=>rawInt i) O).toArray}).get? s.heap.objs.size=some {cls:=.type "tuple",data:=.seq (i0 (fun (i:Nat)=>rawInt i) O).toArray}:=Zo _ rfl;have Y:∀b o,s.heap.get? b=some o->(s.heap.push {cls:=.type "tuple",data:=.seq (i0 (fun (i:Nat)=>rawInt i) O).toArray}).get? b=some o:=fun b o e=>Zn _ e;have m8:(s.heap.push {cls:=.type "tuple",data:=.seq (i0 (fun (i:Nat)=>rawInt i) O).toArray}).objs.size=s.heap.objs.size+1:=bu ..;generalize s.heap.push {cls:=.type "tuple",data:=.seq (i0 (fun (i:Nat)=>rawInt i) O).toArray}=g1 at h1 Y m8 ⊢;have m9:Jn g1 a es ep t:=M.keep fun o e=>Y a o e;refine Zl (Jn.epoch (s:={s with heap:=g1,drawn:=dr}) m9 ?_);refine Zl ?_;unfold newFields;refine bH (Zm ⟨_,rfl, "set_iterator",_,⟨_,Zo _ rfl,rfl⟩,ZZ.lookup,?_⟩) (by size_fits);refine q g1.objs.size [g1.objs.size,a,s.heap.objs.size] _ dr _ (fun i h=>YW h g1.objs.size (.ref s.heap.objs.size) i a es.size ep/\Jn h a es ep t/\∃o k,h.get? s.heap.objs.size=some o/\o.data=.seq (O.map fun (p:Nat)=>rawInt p).toArray k) (by omega) (fun b hb=>?_) (fun b o e=>Zn _ (Y b o e)) ?_
   (fun A' hh=>ZcA hh hp (ax (by rw[m8];exact fq ha)) (ax (by rw[m8];exact dh _))) ⟨⟨_,Zo _ rfl,rfl,rfl⟩,m9.keep fun o e=>Zn _ e,_,_,Zn _ h1,rfl⟩
  ·simp only[aG,db,or_false] at hb
   rcases hb with rfl|rfl|rfl
   ·right;omega
   ·left;rfl
   ·right;omega
  ·refine (hp.filterMap _).trans ?_
   have e:((ac es.size).filterMap fun p=>(es[p]?).map (·.2))=Xa es:=by
    unfold Xa;rw[<-filterMap_getElem?_range es,List.map_filterMap]
   rw[e]
 ·rw[if_neg J]
  refine Zl (Zm ?_);refine Zl (M.epoch ?_);refine Zl ?_;unfold newFields;refine bH (Zm ⟨_,rfl, "set_iterator",_,⟨_,Zo _ rfl,rfl⟩,ZZ.lookup,?_⟩) (by size_fits);have U:∀b∈[s.heap.objs.size,a],b=a\/s.heap.objs.size<=b:=fun b hb=>by
   simp only[aG,db,or_false] at hb;rcases hb with rfl|rfl
   ·right;omega
   ·left;rfl
  cases ht:w.params.followText "set-order" with
  |true=>
   refine q s.heap.objs.size [s.heap.objs.size,a] _ s.drawn _ (fun i h=>YW h s.heap.objs.size (.int 0 0) i a es.size ep/\Jn h a es ep t) (Zq _) U (fun b o e=>Zn _ e) ?_
    (fun A' hh=>ZeL hh ht (ax ha)) ⟨⟨_,Zo _ rfl,rfl,rfl⟩,M.keep fun o e=>Zn _ e⟩
   exact (WO _ es).map _
  |false=>
   rw[ht] at W J;refine q s.heap.objs.size [s.heap.objs.size,a] _ s.drawn _ (fun i h=>∃slot:Nat,((i=0/\slot=0)\/(∃j x,i=j+1/\t.place[j]?=some x/\slot=x+1))/\YW h s.heap.objs.size (.int slot 0) i a es.size ep/\Jn h a es ep t) (Zq _) U (fun b o e=>Zn _ e) (cW _)
    (fun A' hh=>Zcz hh ht ?_ W (ax ha)) ⟨0,.inl ⟨rfl,rfl⟩,⟨_,Zo _ rfl,rfl,rfl⟩,M.keep fun o e=>Zn _ e⟩
   cases hp:t.plain with
   |true=>exact .inl rfl
   |false=>
    rw[hp] at J;right;by_cases h1:es.size > 1
    ·exfalso
     apply J;simp[h1]
    ·omega
end
end PyS
namespace PyS
open PySem PySem.W PyProof.Rows PySem.Calls PyProof.V PySem.Spec
section
variable {prog:Program}{w:World}{A:Around}{E:Value->Shared->Prop}{s:Shared}{a:Addr}{es:Array (Int×Value)}{ep:Nat}{t:SetTable}
theorem Zht {r:Addr}{Q:Bool->Shared->Prop}(J:s.TypeIs (.ref r) "set")(h:Q false s):wpAny (model prog w) A (fu (.ref r)) Q E s:=by
 unfold fu;refine Zl (wpAny_specialOf J PySem.F.slot_set_len.lookup ?_);generalize q:("set.__len__":String)=M
 wp_delta
 rw[show splitId M=some ("set", "__len__") from by subst q;decide +kernel];subst q;refine Zl (ik (T:="set") (b:=true) J (by rw[kO];kernel_rfl) ?_);refine kf (fun j=>absurd j (by decide)) (fun _=>?_);refine kf (fun _=>?_) (fun j=>absurd (by decide +kernel) j);refine Zl (jE J ?_);exact Zm h
theorem Zhk {L:List Value}{ZF:Array Value}{n:Nat}(q:L.length=n)(h:gQ (fun i v=>L[i]?=some v) ZF n):ZF.toList=L:=by
 refine aX fun i=>?_;by_cases j:i<n
 ·have e:ZF[i]?=some (ZF[i]'(by rw[h.1];exact j)):=aP _
  rw[bN,e];exact (h.2 i _ e).symm
 ·rw[ag (by rw[Zr,h.1];omega),ag (by omega)]
structure Src (prog:Program)(w:World)(T:String)(a d:Addr)(n:Nat)(Good:(Nat->Value->Prop)->Prop)(OK:Heap->Prop):Prop where
 type:∀s:Shared,OK s.heap->s.TypeIs (.ref a) T
 there:∀s:Shared,OK s.heap->d<s.heap.objs.size
 keep:∀h h':Heap,OK h->(∀b o,h.get? b=some o->h'.get? b=some o)->OK h'
 notList:(dk T == dk "list")=false
 notTuple:(dk T == dk "tuple")=false
 hint:∀(A:Around) (E:Value->Shared->Prop) (s:Shared) (Q:Bool->Shared->Prop),OK s.heap->Q false s->wpAny (model prog w) A (fu (.ref a)) Q E s
 iter:∀(A:Around) (E:Value->Shared->Prop) (s:Shared) (Q:Value->Shared->Prop),OK s.heap->
  (∀(I:Addr) (fp:List Addr) (h':Heap) (dr:lc) (P:Nat->Value->Prop) (St:Nat->Heap->Prop),s.heap.objs.size<=I->(∀b∈fp,b=a\/b=d\/s.heap.objs.size<=b)->(∀b o,s.heap.get? b=some o->h'.get? b=some o)->Good P->
   (∀A':Around,A'.handled=none->Walks prog w A' I fp [I] n P St)->St 0 h'->Q (.ref I) {s with heap:=h',drawn:=dr})->wpAny (model prog w) A (pyIter (.ref a)) Q E s
section
variable {T:String}{d:Addr}{n:Nat}{Good:(Nat->Value->Prop)->Prop}{OK:Heap->Prop}
theorem ZcJ {R:Result->Shared->Prop}(C:Src prog w T a d n Good OK)(hh:A.handled=none)(hz:n<=sizeLine)(Y:OK s.heap)(S:Addr)(m9:S≠a)(o0:S≠d)(res:Value)(U:Nat)(hL:s.heap.get? S=some {cls:=.type "list",data:=.seq #[] U})
  (hR:∀h' dr tk (q:Array Value) c' P,(∀b o,b≠S->s.heap.get? b=some o->h'.get? b=some o)->h'.get? S=some {cls:=.type "list",dict:=none,data:=.seq q c',slots:=#[]}->Good P->gQ P q n->R (.ok (.ret res)) {s with heap:=h',drawn:=dr,toks:=tk}) :
  wpAny (model prog w) A.in1 (df (.ref S) (.ref a) res)
   (fun fin s'=>match fin with | .done f=>R (.ok f) s' | .again c'=>c'.quiet=true/\codeAny (model prog w) A c' R s') (fun e s'=>R (.error e) s') s:=by
 have o5:S<s.heap.objs.size:=Zp hL;unfold df;refine Zl (jE (T:=T) (C.type s Y) ?_);have h1:iW (.ref S) (.ref a)=false:=by simp[iW,m9]
 simp only[h1,C.notList,C.notTuple,gE,dz,if_false];refine Zl (C.iter _ _ _ _ Y fun I fp h' dr P St hI o6 hk hp n4 st=>?_);have n6:S∉fp:=fun z=>by
  rcases o6 S z with e|e|e
  ·exact m9 e
  ·exact o0 e
  ·exact absurd o5 (Nat.not_lt.mpr e)
 have key:∀(h:Heap) (J tk:Nat),St 0 h->(∀b o,b≠S->s.heap.get? b=some o->h.get? b=some o)->
   h.get? S=some {cls:=.type "list",data:=.seq #[] J}->codeAny (model prog w) A (.builtin "list.extend.loop" ⟨[.ref S,.ref I,res],[]⟩) R {s with heap:=h,drawn:=dr,toks:=tk}:=by
  intro h J tk o7 hk j;refine codeAny_extend_loopS (n4 A.in1 hh).toS hz S n6 res n 0 _ #[] J rfl (aZ _) o7 j (ItemsOf.nil _) fun s' q c' hm o8 n8=>?_;rw[Moved.eq_with hm];refine hR s'.heap dr s'.toks q c' P (fun b o hb e=>hm.heap b o (fun M=>?_) (hk b o hb e)) o8 hp n8;rcases aG.mp M with e'|M
  ·exact hb e'
  ·exact absurd (Zp e) (by rw[aS.mp M];exact Nat.not_lt.mpr hI)
 have j:=hk S _ hL;refine Zl (cN (C.hint _ _ {s with heap:=h',drawn:=dr} _ (C.keep _ _ Y fun b o e=>hk b o e) ?_));refine kf (fun _=>?_) (fun _=>Zm ⟨fc jt _,key _ U _ st (fun b o _ e=>hk b o e) j⟩);refine Zl (dJ ?_);refine Zl ?_;show wpAny _ _ (updateSeq S (·.push .none) >>= fun _=>updateSeq S (·.pop)) _ _ _;refine Zl (wpAny_updateSeq j rfl ?_);have O:=bC (cM (·.push bX)) j rfl;refine wpAny_updateSeq (hz:=by seq_fits) O rfl ?_;have m8:=bC (cM (·.pop)) O rfl;refine Zm ⟨fc jt _,key _ _ _ ?_ (fun b o hb e=>?_) m8⟩
 ·refine (n4 A.in1 hh).frame 0 _ _ st fun b hb o e=>?_
  have n9:b≠S:=fun h=>n6 (h▸hb);exact (bS _ _ (bJ n9)).trans ((bS _ _ (bJ n9)).trans e)
 ·exact (bS _ _ (bJ hb)).trans ((bS _ _ (bJ hb)).trans (hk b o e))
theorem Zbk {R:List Value->Shared->Prop}(C:Src prog w T a d n Good OK)(hh:A.handled=none)(hz:n<=sizeLine)(O:OK s.heap)
  (h:∀(h':Heap) (dr:lc) (tk:Nat) (ZF:Array Value) (P:Nat->Value->Prop),s.heap.objs.size<h'.objs.size->(∀b o,s.heap.get? b=some o->h'.get? b=some o)->Good P->gQ P ZF n->R ZF.toList {s with heap:=h',drawn:=dr,toks:=tk}) :
  wpAny (model prog w) A (collect (.ref a)) R E s:=by
 have ha:a<s.heap.objs.size:=let ⟨o,e,_⟩:=C.type s O;Zp e;unfold collect;refine Zl (kI (cH entry_proto_collect' ?_));rw[bY je _];show wpAny _ A.in1 (newList [] >>= fun l=>again (.builtin "list.__iadd__" ⟨[l,.ref a],[]⟩)) _ _ s;refine Zl (bH ?_);refine Zm ⟨fc eR _,cH entry_list_iadd' ?_⟩;rw[bY eR _];have U:(s.heap.push {cls:=.type "list",data:=.seq ([]:List Value).toArray}).get? s.heap.objs.size=some {cls:=.type "list",data:=.seq #[]}:=Zo _ rfl;show wpAny _ A.in1 (df (.ref s.heap.objs.size) (.ref a) (.ref s.heap.objs.size)) _ _ _;have m8:=ZcJ (prog:=prog) (w:=w) (A:=A) (s:={s with heap:=s.heap.push {cls:=.type "list",data:=.seq ([]:List Value).toArray}})
  (R:=fun (q:Result) (s':Shared)=>∃(h':Heap) (dr:lc) (tk:Nat) (j:Array Value) (Y:Nat) (P:Nat->Value->Prop),q=.ok (.ret (.ref s.heap.objs.size))/\s'={s with heap:=h',drawn:=dr,toks:=tk}/\
   (∀b o,s.heap.get? b=some o->h'.get? b=some o)/\h'.get? s.heap.objs.size=some {cls:=.type "list",dict:=none,data:=.seq j Y,slots:=#[]}/\Good P/\gQ P j n)
  C hh hz (C.keep _ _ O fun b o e=>Zn _ e) s.heap.objs.size (bw ha) (bw (C.there _ O)) (.ref s.heap.objs.size) 0 U
  (fun h' dr tk j Y P hk M hg J=>⟨h',dr,tk,j,Y,P,rfl,rfl,fun b o e=>hk b o (ax (Zp e)) (Zn _ e),M,hg,J⟩)
 refine cB m8 (fun m9 s' x=>?_) fun e s' x=>?_
 ·cases m9 with
  |done f=>
   obtain⟨h',dr,tk,j,Y,P,e,rfl,hk,M,hg,J⟩:=x;cases e;show wpAny _ A (load s.heap.objs.size >>= _) _ _ _;refine Zl (jg M ?_);exact Zm (h h' dr tk j P (Zp M) hk hg J)
  |again n4=>
   refine⟨x.1,fz x.2 fun q n6 y=>?_⟩;obtain⟨h',dr,tk,j,Y,P,rfl,rfl,hk,M,hg,J⟩:=y;show wpAny _ A (load s.heap.objs.size >>= _) _ _ _;refine Zl (jg M ?_);exact Zm (h h' dr tk j P (Zp M) hk hg J)
 ·obtain⟨_,_,_,_,_,_,e',_⟩:=x
  cases e'
noncomputable def ZbQ:Value->Int
 | .int k _=>k
 |_=>0
theorem Zhq:∀{l:List Value}{ns:List Int},bO l ns->ns=l.map ZbQ
 |_,_,.nil=>rfl
 |_,_,.cons n t r=>by rw[aF,<-Zhq r];rfl
theorem Zhp:∀{l:List Value}{ns:List Int},bO l ns->∀v∈l,∃k t,v=.int k t
 |_,_,.nil,v,h=>by cases h
 |_,_,.cons n t r,v,h=>by
  rcases aG.mp h with h|h
  ·exact⟨n,t,h⟩
  ·exact Zhp r v h
theorem Zer:∀{l:List Value},(∀v∈l,∃k t,v=.int k t)->bO l (l.map ZbQ)
 | [],_=>.nil
 |v::l,h=>by
  obtain⟨k,t,rfl⟩:=h v aB;exact .cons k t (Zer fun u j=>h u (ay _ j))
theorem Zjn {l j:List Value}{ns:List Int}(p:bT j l)(h:bO l ns):bO j (j.map ZbQ)/\bT (j.map ZbQ) ns:=
 ⟨Zer fun v q=>Zhp h v (p.mem_iff.mp q),by rw[Zhq h];exact p.map _⟩
theorem VF {Q:Value->Shared->Prop}(C:Src prog w T a d n Good OK)(hh:A.handled=none)(n4:n<64)(U:OK s.heap){ns:List Int}(hi:∀P ZF,Good P->gQ P ZF n->bO ZF.toList (ZF.toList.map ZbQ)/\bT (ZF.toList.map ZbQ) ns)
    (q:∀(D:Addr) (h':Heap) (Y:lc) (tk:Nat) (out:List Value) (j:List Int) (c:Nat),s.heap.objs.size<=D->(∀b o,s.heap.get? b=some o->h'.get? b=some o)->h'.get? D=some (seqObj "list" out.toArray c)->bO out j->bT j ns->j.Pairwise (· ≤ ·)->Q (.ref D) {s with heap:=h',drawn:=Y,toks:=tk}) :
    wpAny (model prog w) A (call (.builtin "sorted") [.ref a]) Q E s:=by
  have hz : n ≤ sizeLine := by have:(16777216:Nat)=sizeLine:=by decide
                               omega
  refine lD kind_sorted plain_sorted entry_sorted (args_sorted1 _) ?_;unfold cY.«sorted»;refine Zl (m:=checkCount "sorted" 1 1 _) (Zm ?_);refine Zl (Zbk (A:=A.in1) C hh hz U fun h' Y tk ZF P O hk hg J=>?_);obtain⟨i1,i2⟩:=hi P ZF hg J;have hl:ZF.toList.length=n:=by rw[Zr];exact J.1
  generalize ZF.toList=M at i1 i2 hl ⊢;refine Zl (lH ?_ (by rw[hl];exact hz));have ho:(h'.push {cls:=.type "list",data:=.seq M.toArray}).get? h'.objs.size=some (seqObj "list" M.toArray 0):=Zo _ rfl;have m8:∀b o,s.heap.get? b=some o->(h'.push {cls:=.type "list",data:=.seq M.toArray}).get? b=some o:=fun b o e=>Zn _ (hk b o e);refine Zl (cN ?_);refine bx slot_list_sort ⟨_,ho,rfl⟩ entry_list_sort (list_sort_tree (n:=0) (vs:=M) ho i1 (by omega) fun out j hI m9 hP=>⟨.none,rfl,?_⟩) (args_list_sort _);refine Zm ⟨_,rfl,?_⟩;have o1:=ko ho (fun _=>(#[]:Array Value));have o2:=Zn (seqObj "tuple" M.toArray 0) o1;have o3:=Zn (seqObj "list" #[] 0) o2;have o4:=ko o3 (fun _=>out);refine q h'.objs.size _ Y tk out.toList j _ (eG O) (fun b o e=>?_) (by rw[lB];exact o4) hI (m9.trans i2) hP;have hb:b≠h'.objs.size:=ax (i6 (Zp e) O);unfold sortedHeap;rw[bS _ _ (bJ hb)];refine Zn _ (Zn _ ?_);rw[bS _ _ (bJ hb)];exact m8 b o e
end
theorem Zin (hz:es.size<=sizeLine)(W:Wk t (!w.params.followText "set-order")):Src prog w "set" a a es.size (fun P=>∃L:List Value,bT L (Xa es)/\P=fun i v=>L[i]?=some v) (fun h=>Jn h a es ep t) where
 type:=fun s h=>Jn.typeIs h
 there:=fun s S=>let ⟨o,e,_⟩:=Jn.typeIs (s:=s) S;Zp e
 keep:=fun h M S k=>S.keep (k a)
 notList:=by decide
 notTuple:=by decide
 hint:=fun A E s Q S q=>Zht (Jn.typeIs S) q
 iter:=fun A E s Q S q=>Zgf hz S W fun I O M U L St Y j hk hp J st=>q I O M U _ St Y (fun b hb=>(j b hb).elim .inl fun z=>.inr (.inr z)) hk ⟨L,hp,rfl⟩ J st
theorem ZcM {ns:List Int}{Q:Value->Shared->Prop}(U:A.handled=none)(M:es.size<64)(Y:Jn s.heap a es ep t)(W:Wk t (!w.params.followText "set-order"))(hi:bO (Xa es) ns)
    (q:∀(D:Addr) (h':Heap) (dr:lc) (tk:Nat) (out:List Value) (j:List Int) (c:Nat),s.heap.objs.size<=D->(∀b o,s.heap.get? b=some o->h'.get? b=some o)->h'.get? D=some (seqObj "list" out.toArray c)->bO out j->bT j ns->j.Pairwise (· ≤ ·)->Q (.ref D) {s with heap:=h',drawn:=dr,toks:=tk}) :
    wpAny (model prog w) A (call (.builtin "sorted") [.ref a]) Q E s:=by
  have hz : es.size ≤ sizeLine := by have:(16777216:Nat)=sizeLine:=by decide
                                     omega
  refine VF (Zin (ep:=ep) hz W) U M Y (ns:=ns) (fun P ZF hg J=>?_) q;obtain⟨L,O,rfl⟩:=hg;rw[Zhk (by rw[O.length_eq];unfold Xa;rw[Za,Zr]) J];exact Zjn O hi
section
variable {K:Type} [DecidableEq K]{knd:PySem.KeyKind prog w K}{kvs:List (K×Value)}
theorem Zf3 (lo:(a == sysModules)=false):Src prog w "dict" a a kvs.length (fun P=>P=fun i v=>∃k x,kvs[i]?=some (k,x)/\knd.is k v=true) (fun h=>h.DictAt knd a kvs ep) where
 type:=fun _ hm=>hm.dictOf.typeIs
 there:=fun _ hm=>hm.lt_size
 keep:=fun _ _ hm j=>hm.at' (j a)
 notList:=by decide
 notTuple:=by decide
 hint:=fun _ _ _ _ hm J=>kdl_hint_dict hm.dictOf.typeIs J
 iter:=fun A E s Q hm q=>by
  refine wpAny_pyIter_dict lo hm ?_;refine q s.heap.objs.size [s.heap.objs.size,a] _ s.drawn _ (fun i h=>h.IsKeyIter s.heap.objs.size a i kvs.length ep/\h.DictAt knd a kvs ep) (Zq _) (fun b hb=>?_) (fun b o e=>Zn _ e) rfl
   (fun O M=>Walks.dictKeys M _ a (ax hm.lt_size) kvs ep) ⟨⟨_,Zo _ rfl,rfl,rfl⟩,hm.push _⟩
  simp only[aG,db,or_false] at hb;rcases hb with rfl|rfl
  ·right;right;exact Zq _
  ·left;rfl
end
end
structure SX (prog:Program)(w:World)(h:Heap)(a:Addr)(es:Array (Int×Value))(ep:Nat)(t:SetTable)(S:Int->Bool)(n:Nat):Prop where
 at_:Jn h a es ep t
 el:ElemsOf (intKind prog w) es.toList
 mem:∀k,S k=true↔∃e∈es.toList,(intKind prog w).is k e.2=true
 sb:es.size<scanBound
 sz:es.size=n
 wk:Wk t (!w.params.followText "set-order")
noncomputable def XE (prog:Program)(w:World)(h:Heap)(a:Addr)(S:Int->Bool)(n:Nat):Prop:=∃j q t,SX prog w h a j q t S n
section
variable {prog:Program}{w:World}{A:Around}{E:Value->Shared->Prop}{s:Shared}{a:Addr}
theorem XE.keep {h h':Heap}{S:Int->Bool}{n:Nat}(X:XE prog w h a S n)(k:∀o,h.get? a=some o->h'.get? a=some o):XE prog w h' a S n:=by
 obtain⟨j,q,t,X⟩:=X;exact⟨j,q,t,X.at_.keep k,X.el,X.mem,X.sb,X.sz,X.wk⟩
theorem XE.congr {h:Heap}{S j:Int->Bool}{n q:Nat}(X:XE prog w h a S n)(e:∀k,S k=j k)(J:n=q):XE prog w h a j q:=by
 have:S=j:=funext e;subst this;subst J;exact X
theorem stored {h:Heap}{q es':Array (Int×Value)}{ep:Nat}{t t':SetTable}(S:Jn h a q ep t)(hf:t'.fits es'.size=true):Jn (h.update a (iT es' t')) a es' (ep+1) t':=by
 obtain⟨o,e,x,d,_⟩:=S;have j:=bC (iT es' t') e (by rw[putSet_of es' t' d];rfl);rw[putSet_of es' t' d] at j;exact⟨_,j,x,rfl,hf⟩
theorem Wp {j es':Array (Int×Value)}{ep:Nat}{t t':SetTable}{Q:Unit->Shared->Prop}(S:Jn s.heap a j ep t)(hz:es'.size<=sizeLine)(q:Q () {s with heap:=s.heap.update a (iT es' t')}):wpAny (model prog w) A (storeSet a es' t') Q E s:=by
 obtain⟨o,e,x,d,_⟩:=S;exact wpAny_storeSet_of e d q hz
theorem Zcs {g:Bool->Sem Unit}(hg:∀(b:Bool) (O:Shared) (Q':Unit->Shared->Prop),Q' () O->wpAny (model prog w) A (g b) Q' E O){es j:Array (Int×Value)}{ep:Nat}{t q:SetTable}{led:Bool}(S:Jn s.heap a es ep t)(hz:j.size<=sizeLine)(f2:q.fits j.size=true)(w2:Wk q led)
  {U:Bool}{R:Option Bool->Shared->Prop} (fin:∀(h':Heap) (es':Array (Int×Value)) (n6:Nat) (t':SetTable),be a s.heap h'->Jn h' a es' n6 t'->bT es'.toList j.toList->Wk t' led->R (some true) {s with heap:=h'}) :
  wpAny (model prog w) A (do
    storeSet a j q
    if (!U && q.tooFull)=true then do
      g (relayAll q j (dH j.size)).2.2
      storeSet a (relayAll q j (dH j.size)).1 (relayAll q j (dH j.size)).2.1
      pure (some true)
     else pure (some true)) R E s:=by
 refine Zl (Wp S hz ?_);have S2:=stored S (es':=j) f2;have Y:=bG s.heap a (iT j q);generalize s.heap.update a (iT j q)=h2 at S2 Y ⊢;by_cases J:(!U && q.tooFull)=true
 ·rw[if_pos J]
  have M:=relayAll_perm q j (dH j.size);have m8:=relayAll_fits q j (dH j.size);have m9:=w2.relay j (dH j.size);generalize relayAll q j (dH j.size)=Rl at M m8 m9 ⊢;obtain⟨n4,t3,n8⟩:=Rl;dsimp only at M m8 m9 ⊢;have n9:n4.size=j.size:=by rw[<-Zr,M.length_eq,Zr]
  refine Zl (hg _ _ _ ?_);refine Zl (Wp (s:={s with heap:=h2}) S2 (by rw[n9];exact hz) ?_);exact Zm (fin _ n4 _ t3 (Y.trans (bG _ a _)) (stored S2 m8) M m9)
 ·rw[if_neg J]
  exact Zm (fin h2 j _ q Y S2 (cW _) w2)
theorem add_int {S:Int->Bool}{n:Nat}{k:Int}{x:Value}{Q:Bool->Shared->Prop}(m9:(intKind prog w).is k x=true)(n9:x.scannable=true)(X:XE prog w s.heap a S n)(o0:n+1<scanBound)
  (q:∀b h',be a s.heap h'->XE prog w h' a (fun k'=>S k' || decide (k'=k)) (if S k then n else n+1)->Q b {s with heap:=h'}) :
  wpAny (model prog w) A (setAddHashed a x ((intKind prog w).hash k)) Q E s:=by
 obtain⟨es,ep,t,X⟩:=X;obtain⟨o,e1,e2,e3,e4⟩:=id X.at_;unfold setAddHashed setAddHashedIn;refine cN (Zl (X.at_.state ?_));dsimp only;rw[byScan_of n9 X.sb X.el];simp only[↓reduceIte];unfold setAddByScan;refine Zl (Zl (dJ (Zl (wpAny_setScan_of m9 e1 e3 e4 X.el ?_))));cases hr:List.findIdx? (fun e=>(intKind prog w).is k e.2) es.toList with
 |some j=>
  obtain⟨hj,p4,_⟩:=List.findIdx?_eq_some_iff_getElem.mp hr;have n8:S k=true:=(X.mem k).mpr ⟨_,bc hj,p4⟩;refine Zm (Zm ?_);have:=q false s.heap (Heap.SameBut.refl a s.heap) ⟨es,ep,t,X.at_,X.el,fun k'=>?_,X.sb,by rw[n8];exact X.sz,X.wk⟩
  ·exact this
  ·rw[bg,decide_eq_true_eq,<-X.mem k']
   exact⟨fun h=>h.elim id fun e=>by rw[e];exact n8,.inl⟩
 |none=>
  have n8:S k=false:=by
   cases hk:S k with
   |false=>rfl
   |true=>
    obtain⟨e,he,hp⟩:=(X.mem k).mp hk;have:=List.findIdx?_eq_none_iff.mp hr e he;rw[hp] at this;exact Bool.noConfusion this
  dsimp only;have J:=layNew_perm t es ((intKind prog w).hash k) x;have M:=layNew_fits t es ((intKind prog w).hash k) x;have n4:=X.wk.lay es ((intKind prog w).hash k) x;generalize layNew t es ((intKind prog w).hash k) x=L at J M n4 ⊢;obtain⟨m8,t1,p8,o6⟩:=L;dsimp only at J M n4 ⊢;rw[ma] at J;have p6:∀(b:Bool) {U:Shared}{Q':Unit->Shared->Prop},Q' () U->wpAny (model prog w) A (match b with|true=>rule "set.scan.the-table-gave-way" |false=>pure ()) Q' E U:=
   fun b U Q' hq=>by cases b <;> first|exact Zm hq|exact dJ hq
  have o7:m8.size=n+1:=by rw[<-Zr,J.length_eq,Zd,Zr,X.sz];rfl
  have p7:ElemsOf (intKind prog w) m8.toList:=(X.el.push m9 n9).perm J;have o8:∀k',(S k' || decide (k'=k))=true↔∃e∈m8.toList,(intKind prog w).is k' e.2=true:=mem_push_iff m9 X.mem J;have o5:m8.size<scanBound:=by rw[o7];exact o0
  have zl:∀m,m<scanBound->m<=sizeLine:=fun m h=>fits_of_scanBound h;have o9:∀(h':Heap) (O:Array (Int×Value)) (Y:Nat) (t':SetTable),be a s.heap h'->Jn h' a O Y t'->bT O.toList m8.toList->Wk t' (!w.params.followText "set-order")->Q true {s with heap:=h'}:=fun h' O Y t' sb at' hp n6=>by
   have hs:O.size=m8.size:=by rw[<-Zr,hp.length_eq,Zr]
   refine q true h' sb ⟨O,Y,t',at',p7.perm hp,fun k'=>?_,by rw[hs];exact o5,by rw[n8,hs];exact o7,n6⟩;rw[o8 k'];exact⟨fun ⟨e,he,r⟩=>⟨e,hp.mem_iff.mpr he,r⟩,fun ⟨e,he,r⟩=>⟨e,hp.mem_iff.mp he,r⟩⟩
  refine Zl (p6 o6 ?_);split
  ·refine Zl ?_
   rw[hashByValue_scannable 8 n9];refine Zm ?_;refine Zcs (fun b U Q' hq=>?_) X.at_ (zl _ o5) ?_ ?_ fun h' O Y t' sb at' hp n6=>Zm (o9 h' O Y t' sb at' hp n6)
   ·cases b <;> first|exact Zm hq|exact dJ hq
   ·split
    ·exact M
    ·exact SetTable.fits_plain_off M
   ·split
    ·exact n4
    ·exact n4.plain false
  ·refine Zl (Zm ?_)
   simp only[↓reduceIte];refine Zcs (fun b U Q' hq=>?_) X.at_ (zl _ o5) M n4 fun h' O Y t' sb at' hp n6=>Zm (o9 h' O Y t' sb at' hp n6);cases b <;> first|exact Zm hq|exact dJ hq
end
section
variable {prog:Program}{w:World}{A:Around}{R:Result->Shared->Prop}{I:Addr}{fp wr:List Addr}{G:Array GenState->Array GenState->Prop}{n:Nat}{P:Nat->Value->Prop}{St:Nat->Shared->Prop}
theorem ZfQ (W:WalksS prog w A.in1 I fp wr G n P St)(S:Addr)(O:S∉fp)(val:Nat->Int)(U:∀i v,P i v->∃t,v=.int (val i) t)(hb:n+1<scanBound) :
  ∀(k i:Nat) (s:Shared),n-i=k->i<=n->St i s->XE prog w s.heap S (fun M=>(firstMet val i).any (· == M)) (firstMet val i).length->
   (∀s',Moved (S::wr) G s s'->XE prog w s'.heap S (fun M=>(firstMet val n).any (· == M)) (firstMet val n).length->R (.ok (.ret .none)) s')->
   codeAny (model prog w) A (.builtin "set.update.loop" ⟨[.ref S,.ref I],[]⟩) R s:=by
 have Y:S∉wr:=fun h=>O (W.sub _ h);have j:∀b∈wr,b∈S::wr:=fun b hb=>ay _ hb;intro k;induction k with
 |zero=>
  intro i s hk hi q hS hR;have n9:i=n:=by omega
  subst n9;refine cH gA ?_;rw[bY dE _];show wpAny _ A.in1 (pyNext (.ref I) >>= _) _ _ s;refine Zl (W.done s _ _ q fun s' hm=>?_);show wpAny _ A.in1 (ret bX) _ _ s';exact Zm (hR s' (hm.mono j) (hS.keep fun o e=>hm.heap S o Y e))
 |succ k ih=>
  intro i s hk hi q hS hR;have m8:i<n:=by omega
  refine cH gA ?_;rw[bY dE _];show wpAny _ A.in1 (pyNext (.ref I) >>= _) _ _ s;refine Zl (W.item i s _ _ m8 q fun v s' hP m9 hm=>?_);obtain⟨t,rfl⟩:=U i v hP;have o0:=hS.keep fun o e=>hm.heap S o Y e;show wpAny _ A.in1 (holding [io (val i) t] (setAdd S (.int (val i) t)) >>= _) _ _ s';refine Zl (cN ?_);unfold setAdd;refine cN ?_;refine Zl ((intKind prog w).pyHash (k:=val i) (intKind_is _ _ _ _) ?_);have J:(firstMet val i).length+1<scanBound:=by have:=firstMet_length_le val i;omega
  refine add_int (s:={s' with toks:=s'.toks+1}) (intKind_is _ _ _ _) rfl o0 J fun _ h' n4 o5=>?_;have o6:XE prog w h' S (fun M=>(firstMet val (i+1)).any (· == M)) (firstMet val (i+1)).length:=
   o5.congr (fun M=>by rw[lR,step_any]) (by rw[lR,step_length])
  refine Zm ⟨fc dE _,ih (i+1) _ (by omega) m8 (W.frame _ s' _ _ m9 (gC _) fun b hb o e=>?_) o6 fun o7 n6 n8=>?_⟩
  ·rw[n4.2 b (fun h:b=S=>O (by rw[<-h];exact hb))];exact e
  ·refine hR o7 (Moved.trans W.gtrans ((hm.mono j).then_heap (gC _) fun b o hb e=>?_) n6) n8
   rw[n4.2 b (fun h:b=S=>hb (by rw[h];exact aB))];exact e
end
section
variable {prog:Program}{w:World}{A:Around}{E:Value->Shared->Prop}{s:Shared}
theorem Zis (a:Value){Q₁:Value->Shared->Prop}
  (h:Q₁ (.ref s.heap.objs.size) {s with heap:=s.heap.push {cls:=.type "set",dict:=none,data:=.set #[] 0 (.fresh 0 0 (!w.params.followText "set-order"))}}) :
  codeAny (model prog w) A (.call (.builtin "set.__new__") ⟨[.type "set",a],[]⟩) (wants Q₁ E) s:=by
 refine kg ?_;show wpAny _ A.in1 (do checkBuiltinCall "set.__new__" ⟨[.type "set",a],[]⟩;again (.builtin "set.__new__" ⟨[.type "set",a],[]⟩)) _ _ s
 refine Zl (jX (PySem.F.newCall_set_1 a) (Zm ⟨fc j7 _,cH PySem.F.entry_set_new ?_⟩));rw[bY j7 _];unfold cY.«set.__new__» Builtin.Frozenset.newClass;have j:=sub_set_self;obtain⟨q,g,d,tk,os⟩:=s;dsimp only
 wp_walk
 refine jT (Zm ?_);dsimp only;simp only[newObj];refine Zl (wpAny_alloc (Zm ?_));exact Zm h
theorem Zjq {h:Heap}{a:Addr}(e:h.get? a=some {cls:=.type "set",dict:=none,data:=.set #[] 0 (.fresh 0 0 (!w.params.followText "set-order"))}):XE prog w h a (fun _=>false) 0:=
 ⟨#[],0,_,⟨_,e,⟨rfl,rfl,rfl⟩,rfl,rfl⟩,fun x j=>(by simp at j),fun k=>(by simp),by unfold scanBound;decide,rfl,Wk.fresh _⟩
noncomputable abbrev ZeG (prog:Program)(w:World)(s:Shared)(ns:List Int)(n:Nat)(h':Heap):Prop:=
 XE prog w h' s.heap.objs.size (fun j=>(L2.VX ns n).any (· == j)) (L2.VX ns n).length/\∀b o,b<s.heap.objs.size->s.heap.get? b=some o->h'.get? b=some o
theorem Zbq {l:Addr}{items:Array Value}{ns:List Int}{Q:Value->Shared->Prop}(hh:A.handled=none)(hl:s.heap.IsList l items)(hi:bO items.toList ns)(hb:items.size+1<scanBound)
  (h:∀(h':Heap) (tk:Nat),ZeG prog w s ns items.size h'->Q (.ref s.heap.objs.size) {s with heap:=h',toks:=tk}):wpAny (model prog w) A (call (.type "set") [.ref l]) Q E s:=by
 obtain⟨c,tl,p7⟩:=cu.mro;have o0:=cu.made;have p8:=cu.sub;refine wpAny_call (kg ?_);show wpAny _ _ (callAny (.type "set") _) _ _ _;refine Zm ⟨Code.quiet_builtin _ (by decide +kernel),cH PySem.F.entry_type_call ?_⟩;rw[Around.under_plain (weight_type_call_type "set" [.ref l] []) rfl];have h1:=cu.notType;have h2:=cu.canCreate;have t0:=PySem.F.typeCall_set_1 (.ref l)
 repeat (any_goals (first|assumption|wp_step))
 let J:Obj:={cls:=.type "set",dict:=none,data:=.set #[] 0 (.fresh 0 0 (!w.params.followText "set-order"))}
 refine fz (Zis (.ref l) (E:=E) (Q₁:=fun obj M=>obj=.ref s.heap.objs.size/\M={s with heap:=s.heap.push J}) ⟨rfl,rfl⟩) fun r M hr=>?_;cases r with
 |error e=>exact hr
 |ok fl=>
  cases fl with
  |ret obj=>
   obtain⟨rfl,rfl⟩:=hr;have hS:(s.heap.push J).get? s.heap.objs.size=some J:=Zo _ rfl;have hT:Shared.TypeIs {s with heap:=s.heap.push J} (.ref s.heap.objs.size) "set":=⟨_,hS,rfl⟩;have t5:=cu.init.lookup;have t6:=cu.init.bind (.ref s.heap.objs.size)
   repeat (any_goals (first|assumption|wp_step))
   refine fz (codeAny_call_builtin (R:=wants (fun r O=>r=.none/\∃h' tk,O={s with heap:=h',toks:=tk}/\ZeG prog w s ns items.size h') E) cu.init.plain PySem.F.entry_set_init (check_set_init_1 hT ?_)) fun m9 O j=>?_
   ·obtain⟨ol,Uz,n4,nl,n6⟩:=id hl
    obtain⟨r6,Y,o5,q⟩:=ol;simp only at n4 n6;subst n4;subst n6;have U:(s.heap.push J).get? l=some {cls:=.type "list",dict:=Y,data:=.seq items nl,slots:=q}:=Zn _ Uz;have r8:=PySem.F.sub_list_set;have r9:=PySem.F.sub_list_frozenset;have t7:(dk "list" == dk "dict")=false:=by decide
    have o6:(s.heap.push J).IsList l items:=⟨_,U,rfl,nl,rfl⟩;unfold cY.«set.__init__» noKeywords Builtin.Frozenset.updateFrom;generalize o7:pyIter=PI
    wp_walk
    subst o7;refine fw o6 ?_;refine Zl (kI ?_);have n8:l<s.heap.objs.size:=Zp Uz;have n9:l≠(s.heap.push J).objs.size:=by rw[bu];exact ax (fq n8)
    have o8:s.heap.objs.size∉[(s.heap.push J).objs.size,l]:=by
     rw[bu];intro z;rcases aG.mp z with z|z
     ·exact absurd z (ax (dh _))
     ·exact absurd (aS.mp z) (bw n8)
    refine ZfQ ((lN (A:=A.in1.in1.in1) (by simp[hh]) _ l n9 items).toS) s.heap.objs.size o8 (fun i=>ns.getD i 0) (fun i v hv=>IntsAre.int_at hi i v (by rw[bN];exact hv)) hb (items.size-0) 0 _ (by omega) (aZ _)
     ⟨⟨_,Zo _ rfl,rfl,rfl⟩,⟨_,Zn _ U,rfl,nl,rfl⟩⟩ ?hS0 ?hR
    case hS0=>exact (Zjq (Zn _ hS)).congr (fun _=>rfl) rfl
    case hR=>
     intro s' hm o9;obtain⟨h',g',d',p4,p6⟩:=s';obtain rfl:g'=s.gens:=hm.gens;obtain rfl:d'=s.drawn:=hm.drawn;obtain rfl:p6=s.os:=hm.os;show wpAny _ _ _ _ _ _;refine Zm ?_;show wpAny _ _ (ret bX) _ _ _;refine Zm ⟨rfl,h',p4,rfl,o9,fun b o hb e=>hm.heap b o (fun z=>?_) (Zn _ (Zn _ e))⟩;rcases aG.mp z with z|z
     ·exact absurd z (ax hb)
     ·refine absurd (aS.mp z) (ax ?_);rw[bu];exact fq hb
   ·cases m9 with
    |error e=>exact j
    |ok m8=>
     cases m8 with
     |ret r=>
      obtain⟨rfl,h',tk,rfl,he⟩:=j
      repeat (any_goals (first|assumption|wp_step))
      exact h _ _ he
     |_=>exact j.elim
  |_=>exact hr.elim
end
end PyS
namespace L2
open PySem PySem.Spec PyProof.Rows
theorem X8:∀{M L:List Int},M.Nodup->(∀x∈M,x∈L)->L.length=M.length->bT L M
 | [],L,_,_,h=>by
  have:L=[]:=eZ.mp (by simpa using h);subst this;exact cW _
 |x::M,L,j,J,h=>by
  have Y:=J x aB;have O:=List.perm_cons_erase Y;rw[bD] at j;refine O.trans ((X8 j.2 (fun y U=>?_) ?_).cons x)
  ·have q:y≠x:=fun z=>j.1 (z▸U)
   exact (lF q).mpr (J y (ay _ U))
  ·have:=O.length_eq
   rw[Zi] at this;rw[Zi] at h;omega
theorem Zai:∀{out:List Value}{ns:List Int},bO out ns->ZK (ns.map V.int) out
 |_,_,.nil=>.nil
 |_,_,.cons n t r=>.cons ⟨t,rfl⟩ (Zai r)
noncomputable def Zgg (prog:Program)(w:World)(a:Addr)(M:List Int):HO:=.ext fun h=>PyS.XE prog w h a (fun k=>M.any (· == k)) M.length
section
variable {X:Cx}{pins:List (Addr×Obj)}{σ:L2.St}{H:Hp}{s:Shared}
theorem Inv.drawn (I:Inv X pins σ H s)(d:lc):Inv X pins σ H {s with drawn:=d}:=⟨I.ok,I.os,I.bare,I.base,I.loc,I.cell,I.free,I.freeC,I.pin,I.hok,I.len⟩
theorem ZfA (U:X.calm=true):Yo X (.type "set") (fun xs H Q=>∃(a:Addr) (ns:List Int),xs=[.ref a]/\Wx X.K H a (ns.map V.int)/\ns.length<1000/\∀p,H p=none->Q (.ref p) (upd H p (Zgg X.prog X.w p (VX ns ns.length)))):=by
 intro pins s σ H xs us Q I r h;obtain⟨a,ns,rfl,Y,hn,q⟩:=h;obtain⟨u,rfl,ru⟩:=vals1 r;cases ru;obtain⟨j,M,p,hz⟩:=I.list Y;have O:j.toArray.size=ns.length:=by rw[Zh,<-M.length,Za]
 refine PyS.Zbq (I.ok.hd U) p.isList (ns:=ns) (by simpa using Zeq M) (by rw[O];unfold scanBound;omega) fun h' tk ⟨J,e2⟩=>?_;rw[O] at J;refine⟨.ref _,_,I.laid (a:=s.heap.objs.size) (o:=Zgg X.prog X.w s.heap.objs.size (VX ns ns.length)) (t':=tk) (fun b o e=>e2 b o (Zp e) e) (Zq _) ⟨J,?_,fun h1 h2 x k=>x.keep k⟩,rfl,q _ (I.hok.fresh (Zq _))⟩;obtain⟨es,ep,t,⟨o,e,_⟩,_⟩:=J;exact⟨o,e⟩
theorem Zdl (hc:X.calm=true):Yo X (.builtin "sorted") (fun xs H Q=>∃(a:Addr) (M:List Int),xs=[.ref a]/\H a=some (Zgg X.prog X.w a M)/\M.Nodup/\M.length<64/\∀l ns,H l=none->bT ns M->ns.Pairwise (· ≤ ·)->Q (.ref l) (upd H l (.lst (ns.map V.int)))):=by
 intro pins s σ H xs us Q I r h;obtain⟨a,M,rfl,ha,hn,Y,q⟩:=h;obtain⟨u,rfl,ru⟩:=vals1 r;cases ru;obtain⟨J,_,_⟩:=(show Yx X.prog X.w H s.heap a (Zgg X.prog X.w a M) from I.hok a _ ha);obtain⟨es,ep,t,J⟩:=J;have O:∀v∈PyS.Xa es,∃k tk,v=.int k tk:=fun v hv=>by
  obtain⟨e,he,rfl⟩:=aI.mp hv;obtain⟨⟨k,hk,_⟩,_⟩:=J.el e he;obtain⟨tk,et⟩:=gb hk;exact⟨k,tk,et⟩
 have m8:=PyS.Zer O;have hp:bT ((PyS.Xa es).map PyS.ZbQ) M:=by
  refine X8 hn (fun x hx=>?_) ?_
  ·have hS:M.any (· == x)=true:=bd.mpr ⟨x,hx,by simp⟩
   obtain⟨e,he,hk⟩:=(J.mem x).mp hS;obtain⟨tk,et⟩:=gb hk;refine aI.mpr ⟨e.2,aI.mpr ⟨e,he,rfl⟩,?_⟩;rw[et];rfl
  ·unfold PyS.Xa
   rw[Za,Za,Zr];exact J.sz
 refine PyS.ZcM (I.ok.hd hc) (by rw[J.sz];exact Y) J.at_ J.wk m8 fun D h' dr tk out j c hD kp m9 hi U hP=>?_;have hl:ZK (j.map V.int) out:=Zai hi;have sz:(16777216:Nat)=sizeLine:=by decide
 have n4:j.length=M.length:=(U.trans hp).length_eq;refine⟨.ref D,_,(I.laid (a:=D) (o:=.lst (j.map V.int)) (t':=tk) kp hD ⟨by rw[Za];omega,out,c,hl,m9⟩).drawn dr,rfl,q _ j (I.hok.fresh hD) (U.trans hp) hP⟩
end
section
variable {X:Cx}{pins:List (Addr×Obj)}{σ:L2.St}{H:Hp}{s:Shared}
theorem Zdn (hc:X.calm=true):Yo X (.builtin "sorted") (fun xs H Q=>∃(a:Addr) (kvs:List (Ym×V)) (J:List Int),xs=[.ref a]/\H a=some (.dK kvs)/\kvs.map (·.1)=J.map fR/\J.length<64/\∀l ns,H l=none->bT ns J->ns.Pairwise (· ≤ ·)->Q (.ref l) (upd H l (.lst (ns.map V.int)))):=by
 intro pins s σ H xs us Q I r h;obtain⟨a,kvs,J,rfl,ha,hk,o0,q⟩:=h;obtain⟨u,rfl,ru⟩:=vals1 r;cases ru;obtain⟨z,lo,vs,kv,hD⟩:=Zck I.hok ha;obtain⟨ep,n4⟩:=hD.dictAt;have hl:vs.length=J.length:=by rw[<-kv.length,<-Za (f:=fun p:Ym×V=>p.1),hk,Za]
 have n6:vs.map (·.1)=J.map fR:=by rw[<-kv.keys];exact hk
 refine PyS.VF (PyS.Zf3 (knd:=Yj X.prog X.w) (kvs:=vs) (ep:=ep) lo) (I.ok.hd hc) (by omega) n4 (ns:=J) (fun P ZF hg M=>?_) fun D h' dr tk out O c Y kp n8 hi m8 hP=>?_
 ·subst hg
  have m9:∀i v,ZF.toList[i]?=some v->∃t,v=.int (J.getD i 0) t/\i<J.length:=fun i v e=>by
   rw[bN] at e;obtain⟨k,x,e1,e2⟩:=M.2 i v e;have e3:(vs.map (·.1))[i]?=some k:=by rw[Zc,e1];rfl
   rw[n6,Zc] at e3;cases U:J[i]? with
   |none=>rw[U] at e3;cases e3
   |some j=>
    rw[U] at e3;cases e3;obtain⟨t,et⟩:=gb (show kS j v=true from e2);exact⟨t,by rw[et,Zb,U];rfl,(aa.mp U).1⟩
  have e:ZF.toList.map PyS.ZbQ=J:=by
   refine aX fun i=>?_;rw[Zc];by_cases hi:i<J.length
   ·have hs:i<ZF.toList.length:=by rw[Zr,M.1];omega
    obtain⟨t,e1,_⟩:=m9 i _ (Zf hs);rw[Zf hs,e1,bR,Zf hi,Zb,Zf hi];rfl
   ·rw[ag (by rw[Zr,M.1];omega),ag (by omega)]
    rfl
  refine⟨PyS.Zer fun v hv=>?_,by rw[e]⟩;obtain⟨i,hi⟩:=ce hv;obtain⟨t,e1,_⟩:=m9 i v hi;exact⟨_,t,e1⟩
 ·have n9:ZK (O.map V.int) out:=Zai hi
  have sz:(16777216:Nat)=sizeLine:=by decide
  have o6:O.length=J.length:=m8.length_eq;exact⟨.ref D,_,(I.laid (a:=D) (o:=.lst (O.map V.int)) (t':=tk) kp Y ⟨by rw[Za];omega,out,c,n9,n8⟩).drawn dr,rfl,q _ O (I.hok.fresh Y) m8 hP⟩
noncomputable def ZmK (O U:TE):TE:=fun σ H Q=>O σ H fun x M=>∃a,x=.ref a/\IsD M a/\U σ M fun y J=>∃b q j,y=.ref b/\a≠b/\J a=some (.dK q)/\J b=some (.dK j)/\q.length+j.length<=sizeLine/\Q .non (upd J a (.dK (Wi q j)))
theorem ZiK {o e:Expr}{j J:Pos}{td ty:TE}(ho:PE X o td)(he:PE X e ty)(m:M1 X o "update" j e J):PE X (.Call (.Attribute o "update" j) [e] [] J) (ZmK td ty):=by
 intro pins s σ H Q I h;refine wpAny_Call_method m.base m.few m.line PySem.F.plainAttrs_dict jK PySem.F.type_dict_update (Yg (ho pins s σ H _ I h) fun u s1 ⟨x,H1,I1,rx,a,ex,d,q1⟩=>?_);subst ex;obtain rfl:u=aR a:=rx;obtain⟨t1,t2,_⟩:=ZlE I1 d;refine⟨t1,t2,?_⟩;rw[m.trees];refine fe rfl (im (lQ (Yg (he pins s1 σ H1 _ I1 q1) fun iv s2 ⟨y,H2,O,ry,b,U,more,ey,Y,ha,hb,hz,q2⟩=>l6 ?_)));subst ey;obtain rfl:iv=aR b:=ry;obtain⟨_,lo,vs,kv,hD⟩:=Zck O.hok ha;obtain⟨_,m8,ws,M,m9⟩:=Zck O.hok hb;refine call_meetsIn jK hD.typeIs PySem.F.entry_dict_update (PySem.F.args_dict_update_2 _ _) (meets_dict_update (Yj X.prog X.w) a b Y m8) ⟨vs,ws,hD,m9,by rw[<-kv.length,<-M.length];exact hz,fun h' d1 d2 sb=>?_⟩;have n4:∃q,h'.get? a=some q:=by obtain⟨q,_,_,hq,_⟩:=d1;exact⟨q,hq⟩
 exact⟨.non,_,Vw (t':=s2.toks) O (by rw[ha];exact fW) sb n4 (Zdi (a6 (W0 more U) hz) lo (KV.merge M kv) d1),rfl,q2⟩
end
end L2
namespace C40
open PySem L2 PySem.Spec PyProof.Rows
noncomputable def top (i:Nat):Stmt:=PySem.Challenge.pw_classtab_k40_counts_by_tables.main.body.getD i (.Pass ⟨0,0,0,0⟩)
noncomputable abbrev Zj0:Stmt:=top 35
noncomputable abbrev Zgm:Stmt:=top 36
structure BlB (mg:Str->Option Value):Prop where
 list:mg "list"=none
 len:mg "len"=none
 range:mg "range"=none
 tuple:mg "tuple"=none
 max:mg "max"=none
 sorted:mg "sorted"=none
noncomputable def tpK (c l n:Int):List (Ym×V):=[(.inr "cell",.int c),(.inr "left",.int l),(.inr "turn",.int n)]
noncomputable def Ws (H:Hp)(p:Addr)(b:Nat):Prop:=∃c l n:Int,H p=some (.dK (tpK c l n))/\0<=l/\0<=n/\n<=b
theorem Ws.mono {H j:Hp}{p:Addr}{b:Nat}(s:Same H j)(h:Ws H p b):Ws j p b:=by
 obtain⟨c,l,n,q,J⟩:=h;exact⟨c,l,n,s _ _ q,J⟩
theorem Ws.le {H:Hp}{p:Addr}{b j:Nat}(h:Ws H p b)(hb:b<=j):Ws H p j:=by
 obtain⟨c,l,n,q,J,M,O⟩:=h;exact⟨c,l,n,q,J,M,by omega⟩
theorem ZlH {H:Hp}{p:Addr}{c l n:Int}(h:H p=some (.dK (tpK c l n))):WU H p (.str "cell") (some (.int c)):=WU.k (k:=.inr "cell") h
theorem Zdc {H:Hp}{p:Addr}{c l n:Int}(h:H p=some (.dK (tpK c l n))):WU H p (.str "left") (some (.int l)):=WU.k (k:=.inr "left") h
theorem ZlG {H:Hp}{p:Addr}{c l n:Int}(h:H p=some (.dK (tpK c l n))):WU H p (.str "turn") (some (.int n)):=WU.k (k:=.inr "turn") h
theorem Zk4 {H:Hp}{p:Addr}{c l n j:Int}(h:H p=some (.dK (tpK c l n))):XG H p (.str "left") (.int j) (upd H p (.dK (tpK c j n))):=XG.k (k:=.inr "left") h (by rw[fS];show 3<_;omega)
theorem Zk3 {H:Hp}{p:Addr}{c l n j:Int}(h:H p=some (.dK (tpK c l n))):XG H p (.str "turn") (.int j) (upd H p (.dK (tpK c l j))):=XG.k (k:=.inr "turn") h (by rw[fS];show 3<_;omega)
theorem _root_.L2.Same.upd2 {H:Hp}{p:Addr}{o j:HO}(h:H p=none):Same H (upd (upd H p o) p j):=fun b u e=>by
 have hb:b≠p:=fun z=>by rw[z,h] at e;cases e
 rw[Zx hb,Zx hb];exact e
noncomputable def Tk (p:Addr)(H j:Hp):Prop:=∀b o,H b=some o->b≠p->j b=some o
theorem Tk.of {p:Addr}{H j:Hp}(s:Same H j):Tk p H j:=fun b o e _=>s b o e
theorem Tk.trans {p:Addr}{H j q:Hp}(a:Tk p H j)(b:Tk p j q):Tk p H q:=fun c o e n=>b c o (a c o e n) n
theorem Ws.ne {H:Hp}{p a:Addr}{b:Nat}{o:HO}(h:Ws H p b)(e:H a=some o)(j:∀kvs,o≠.dK kvs):a≠p:=fun z=>by
 obtain⟨c,l,n,q,_⟩:=h;rw[z,q] at e;exact j _ (aw e).symm
theorem Ws.neN {H:Hp}{p a:Addr}{b:Nat}(h:Ws H p b)(e:H a=none):a≠p:=fun z=>by
 obtain⟨c,l,n,j,_⟩:=h;rw[z,j] at e;cases e
theorem Tk.tup {p a:Addr}{H j:Hp}{b:Nat}{xs:List V}(d:Tk p H j)(T:Ws H p b)(h:H a=some (.tup xs)):j a=some (.tup xs):=d a _ h (T.ne h fun _ z=>by cases z)
theorem Tk.lst {p a:Addr}{H j:Hp}{b:Nat}{xs:List V}(d:Tk p H j)(T:Ws H p b)(h:H a=some (.lst xs)):j a=some (.lst xs):=d a _ h (T.ne h fun _ z=>by cases z)
noncomputable def Zf4 (K:ab):Sp:=fun J H Q _=>∃(a:Addr) (q:List Int) (i:Nat),J=[.ref a,.int i]/\Wx K H a (q.map V.int)/\q.length<=63/\∀p j,Same H j->H p=none->Ws j p 0->Q (.ref p) j
noncomputable def ZcK:Sp:=fun q H Q _=>∃(p:Addr) (m:Int) (b:Nat),q=[.ref p,.int m]/\Ws H p b/\b<2 ^ 60/\0<m/\m<1073741824/\∀r j,0<=r->r<m->Tk p H j->Ws j p (b+1)->Q (.int r) j
section
variable {P:Program}{w:World}{K:ab}{mg:Str->Option Value}{base:Heap}
theorem ZiV {f:Addr}{fd:FuncData}(F:WB K "_law_pick" "_law_pick" Zgm f fd):Z5 P w K mg base Yd 1 f fd ["_law_tape_here", "_law_many"] ZcK:=by
 refine F.ok (FS (N:=["_law_tape_here", "_law_many", "_law_turn", "_law_found", "_law_stirred"])) (fun vs H Q E h=>?_) (fun M A O s H vs Q E hr h=>?_)
 ·obtain⟨p,m,b,rfl,_⟩:=h;rfl
 ·obtain⟨p,m,b,rfl,⟨c,l,n,Y,l0,n0,nb⟩,hb,m0,m1,q⟩:=h
  have j:(A.deeper (envOfC "_law_pick" (Z2 Zgm) s.heap.objs.size f M)).units+1<cLine:=by have:=hr.un;omega
  refine⟨_,Zs (ZE 2 rfl (Zz YR (WG j (vn 0) WY (fun _ _=>rfl)) Zw))
   (Zs (JN j (vn 0) WY (vn 2) (by rfl))
   (Zs (WN (ZT Zeb (WG j (vn 0) WY (fun _ _=>rfl)) Zw (Z1 _))
    (Zs (ZE 3 rfl (Zz Z3 (WG j (vn 0) WY (fun _ _=>rfl)) (vn 1)))
    (Zs (JN j (vn 0) WY (Zz Jg (WG j (vn 0) WY (fun _ _=>rfl)) (vn 1)) (by rfl))
    (Zv (ZG (vn 3))))) YA)
   (Zs (ZE 4 rfl (Zz ZQ (Zz YR (Zz YR (Zz Z3 (WG j (vn 0) WY (fun _ _=>rfl)) Zw) (Zz ZQ (Zz ZQ Zw (vn 2)) (vn 2))) Zw) Zw))
   (Zs (ZE 4 rfl (Zz ZQ (Zz YR (Zz Z3 (vn 4) Zw) (Zz ZQ Zw (vn 2))) Zw))
   (Zv (ZG (Zz Z3 (Zz Jg (Zz Z3 (vn 4) Zw) Zw) (vn 1)))))))),?_⟩
  refine⟨_,rfl,p,_,rfl,ZlG Y,_,_,rfl,rfl,?_⟩;refine⟨_,rfl,_,rfl,p,_,rfl,Zk3 Y,?_⟩;have J:upd H p (.dK (tpK c l (n+1))) p=some (.dK (tpK c l (n+1))):=Zt;have U:Tk p H (upd H p (.dK (tpK c l (n+1)))):=fun b o e hb=>by rw[Zx hb];exact e
  generalize upd H p (.dK (tpK c l (n+1)))=H2 at J U ⊢;refine⟨_,rfl,p,_,rfl,Zdc J,_,_,rfl,rfl,_,rfl,?_⟩;refine Y0 (fun h=>?_) (fun h=>?_)
  ·refine⟨_,rfl,p,_,rfl,Zdc J,_,rfl,_,_,rfl,rfl,m0,?_⟩
   refine⟨_,rfl,p,_,rfl,Zdc J,_,rfl,_,_,rfl,rfl,⟨m0,m1⟩,_,rfl,p,_,rfl,Zk4 J,?_⟩;refine⟨_,rfl,q _ _ (cD _ (by omega)) (bZ _ m0) (U.trans fun b o e hb=>by rw[Zx hb];exact e) ⟨c,l / m,n+1,Zt,Int.ediv_nonneg l0 (by omega),by omega,by omega⟩⟩
  ·refine⟨_,rfl,p,_,rfl,ZlH J,_,_,rfl,rfl,(by show (0:Int)<_;decide),_,rfl,_,_,rfl,rfl,.inl ⟨by decide,by decide⟩,_,rfl,_,_,rfl,rfl,.inr ⟨by omega,by omega⟩,_,_,rfl,rfl,_,_,rfl,rfl,_,_,rfl,rfl,.inr ⟨by decide,by decide⟩,?_⟩
   refine⟨_,rfl,_,_,rfl,rfl,(by show (0:Int)<_;decide),_,rfl,_,_,rfl,rfl,.inl ⟨by decide,by decide⟩,_,_,rfl,rfl,_,_,rfl,rfl,.inr ⟨by decide,by decide⟩,?_⟩;refine⟨_,rfl,_,_,rfl,rfl,(by show (0:Int)<_;decide),_,_,rfl,rfl,⟨by decide,by decide⟩,_,rfl,_,_,rfl,rfl,m0,?_⟩;exact q _ _ (cD _ (by omega)) (bZ _ m0) U ⟨c,l,n+1,J,l0,by omega,by omega⟩
theorem ZiU {f:Addr}{fd:FuncData}(F:WB K "_law_tape" "_law_tape" Zj0 f fd)(T:BlB mg):Z5 P w K mg base Yd 1 f fd ["_law_script", "_law_at"] (Zf4 K):=by
 refine F.ok (FS (N:=["_law_script", "_law_at", "_law_cell"])) (fun Y H Q E h=>?_) (fun m8 A O s H Y Q E hr h=>?_)
 ·obtain⟨a,ns,i,rfl,_⟩:=h;rfl
 ·obtain⟨a,ns,i,rfl,M,hn,q⟩:=h
  refine⟨_,Zs (ZE 2 rfl (vn 1))
   (Zs (WN (ZT Zeb (cb (YF K) T.len (pc (vn 0) Zu)) Zw (Z1 _))
    (Zv (ZE 2 rfl (Zz YR (ZN (V2 K) (vn 0) (Zz Z3 (vn 1) (cb (YF K) T.len (pc (vn 0) Zu))) (fun _ _=>rfl)) (Zz Jg (vn 1) (cb (YF K) T.len (pc (vn 0) Zu)))))) YA)
   (Zv (ZG (ZiL (VQ WY (vn 2) (VQ WY (cb (ZfC rfl) T.max (pc Zw (pc (Zz Wh (vn 2) (Zz Zk7 Zw Zw)) Zu))) (VQ WY Zw ZiF))) rfl rfl (by simp) (by decide))))),?_⟩
  have len:(ns.map V.int).length=ns.length:=jx ..;refine⟨_,rfl,_,rfl,a,_,rfl,.inl M,_,_,rfl,rfl,_,rfl,?_⟩;refine Y0 (fun h=>?_) (fun h=>?_)
  ·have h:(0:Int)<(ns.map V.int).length:=of_decide_eq_true h
   rw[len] at h;have m0:=cD (i:Int) (show (ns.length:Int)≠0 by omega);have m1:=bZ (i:Int) h;obtain⟨j,ej⟩:=bQ m0;have hj:j<ns.length:=by omega
   have U:XH (ns.map V.int) (j:Int)=some (.int (ns[j])):=ZU (by rw[Zc,Zf hj];rfl);refine⟨_,rfl,_,rfl,_,rfl,a,_,rfl,.inl M,?_⟩;rw[len];refine⟨_,_,rfl,rfl,h,?_⟩;dsimp only;rw[ej];refine⟨a,_,_,_,rfl,rfl,M,U,_,rfl,_,rfl,a,_,rfl,.inl M,?_⟩;rw[len];refine⟨_,_,rfl,rfl,⟨h,by omega⟩,_,_,rfl,rfl,?_⟩;intro p J;refine⟨_,rfl,_,rfl,_,_,rfl,rfl,⟨by decide,by decide,by decide⟩,_,_,rfl,rfl,_,_,rfl,Zt,tpK (ns[j]+(i:Int) / (ns.length:Int)) (if (ns[j]+(i:Int) / (ns.length:Int))-10 ^ (18:Int).toNat > 0 then (ns[j]+(i:Int) / (ns.length:Int))-10 ^ (18:Int).toNat else 0) 0,rfl,(show 3<=15 by decide),?_⟩
   refine q p _ (Same.upd2 J) J ⟨_,_,0,Zt,?_,by decide,by decide⟩;split <;> omega
  ·generalize (i:Int)=c
   intro p J;refine⟨_,rfl,_,rfl,_,_,rfl,rfl,⟨by decide,by decide,by decide⟩,_,_,rfl,rfl,_,_,rfl,Zt,tpK c (if c-10 ^ (18:Int).toNat > 0 then c-10 ^ (18:Int).toNat else 0) 0,rfl,(show 3<=15 by decide),?_⟩
   refine q p _ (Same.upd2 J) J ⟨_,_,0,Zt,?_,by decide,by decide⟩;split <;> omega
end
end C40
namespace Tb
noncomputable def ZJ (t:List (List Nat))(a b:Nat):Nat:=(t.getD a []).getD b 0
noncomputable def it (t:List (List Nat))(a:Nat):Nat->Nat
 |0=>0
 |k+1=>ZJ t (it t a k) a
structure Rd (t:List (List Nat))(a r:Nat):Prop where
 r1:1<=r
 rn:r<=t.length
 dv:t.length % r=0
 z:it t a r=0
 nz:∀k,1<=k->k<r->it t a k≠0
 bk:ZJ t a (it t a (r-1))=0
 un:∀b,b<t.length->ZJ t a b=0->b=it t a (r-1)
structure PW (t:List (List Nat)):Prop where
 n1:1<=t.length
 n60:t.length<=60
 len:∀row∈t,row.length=t.length
 lt:∀a b,a<t.length->b<t.length->ZJ t a b<t.length
 one:∀a,a<t.length->ZJ t 0 a=a
 rd:∀a,a<t.length->∃r,Rd t a r
 oneR:∀a,a<t.length->ZJ t a 0=a
 ass:∀a b c,a<t.length->b<t.length->c<t.length->ZJ t (ZJ t a b) c=ZJ t a (ZJ t b c)
section
variable {t:List (List Nat)}{a r:Nat}
theorem Wr (P:PW t)(j:a<t.length):∀k,it t a k<t.length
 |0=>P.n1
 |k+1=>P.lt _ _ (Wr P j k) j
theorem Zc8 (P:PW t)(j:a<t.length):it t a 1=a:=P.one a j
theorem ZlB (R:Rd t a r)(k:Nat):it t a (r+k)=it t a k:=by
 induction k with
 |zero=>exact R.z
 |succ k j=>rw[Nat.add_succ,it,it,j]
theorem V3 (R:Rd t a r)(k:Nat):it t a k=it t a (k % r):=by
 have q:=R.r1;induction k using Nat.strongRecOn with
 |_ k j=>
  by_cases h:k<r
  ·rw[bF h]
  ·have e:k=r+(k-r):=by omega
   rw[mz (by omega),<-j (k-r) (by omega),<-ZlB R (k-r),<-e]
end
noncomputable def rdB (t:List (List Nat))(n a:Nat):Nat->Nat->Nat->Bool
 |0,_,_=>false
 |f+1,k,prev=>
  let x:=ZJ t prev a
  match x with
  |0=>decide (n % (k+1)=0) && decide (k+1<=n) && decide (ZJ t a prev=0) && ((ac n).all fun b=>decide (b=prev) || !decide (ZJ t a b=0))
  |y+1=>rdB t n a f (k+1) (y+1)
noncomputable def fq1 {β:Type}(m:Nat)(k:Nat->β):β:=match m with
 |0=>k 0
 |m+1=>k (m+1)
theorem ZhA {β:Type}(m:Nat)(k:Nat->β):fq1 m k=k m:=by cases m <;> rfl
noncomputable def fql {β:Type}:List Nat->(List Nat->β)->β
 | [],k=>k []
 |x::j,k=>fq1 x fun y=>fql j fun q=>k (y::q)
theorem ZaV {β:Type}:∀(a:List Nat) (k:List Nat->β),fql a k=k a
 | [],k=>rfl
 |x::j,k=>by rw[fql,ZhA,ZaV j]
noncomputable def Zl7 (ZF:List Nat)(y:Nat):List Nat:=if ZF.contains y then ZF else ZF++[y]
noncomputable def ZfE (t:List (List Nat))(gens:List Nat):Nat->Nat->List Nat->List Nat
 |0,_,ZF=>ZF
 |f+1,i,ZF=>match ZF[i]? with
  |none=>ZF
  |some x=>fql (gens.foldl (fun ZF g=>fq1 (ZJ t x g) fun y=>Zl7 ZF y) ZF) fun ZF=>ZfE t gens f (i+1) ZF
noncomputable def Zes (t:List (List Nat)):Nat->Nat->List Nat->List Nat->List Nat
 |0,_,gens,_=>gens
 |f+1,a,gens,ZF=>if ZF.contains a then Zes t f (a+1) gens ZF else fql (ZfE t (gens++[a]) t.length 0 [0]) fun ZF=>Zes t f (a+1) (gens++[a]) ZF
noncomputable def liB (t:List (List Nat))(g:Nat):Bool:=decide (g<t.length) && t.all fun j=>(t.getD (j.getD g 0) [] == (t.getD g []).map fun c=>j.getD c 0)
noncomputable def asG (t:List (List Nat))(gens:List Nat):Bool:=gens.all (liB t) && fql (ZfE t gens t.length 0 [0]) fun ZF=>(ac t.length).all fun a=>ZF.contains a
noncomputable def asB (t:List (List Nat)):Bool:=fql (Zes t t.length 0 [] [0]) (asG t)
noncomputable def Zm8 (t:List (List Nat)):Bool:=decide (1<=t.length) && decide (t.length<=60) && (t.all fun row=>decide (row.length=t.length) && row.all fun x=>decide (x<t.length)) && ((ac t.length).all fun a=>decide (ZJ t 0 a=a) && rdB t t.length a t.length 0 0)
noncomputable def pwB (t:List (List Nat)):Bool:=Zm8 t && ((ac t.length).all fun a=>decide (ZJ t a 0=a)) && asB t
noncomputable def Pr (t:List (List Nat))(a:Nat):Prop:=a<t.length/\∀x y,x<t.length->y<t.length->ZJ t (ZJ t x a) y=ZJ t x (ZJ t a y)
theorem Zng {t:List (List Nat)}(U:∀row∈t,row.length=t.length){g:Nat}(h:liB t g=true):Pr t g:=by
 unfold liB at h;simp only[aN,af,beq_iff_eq,decide_eq_true_eq] at h;obtain⟨q,h⟩:=h;refine⟨q,fun x y M hy=>?_⟩;have Y:t.getD x []∈t:=by
  rw[Zb,Zf M];exact bc M
 have J:t.getD g []∈t:=by
  rw[Zb,Zf q];exact bc q
 have h1:=h _ Y;unfold ZJ;rw[h1];have m8:=U _ J;generalize t.getD g []=O at *;have j:y<O.length:=by omega
 rw[Zb,Zc,Zf j,Zb (l:=O),Zf j];rfl
theorem Pr.times {t:List (List Nat)}(lt:∀a b,a<t.length->b<t.length->ZJ t a b<t.length){a g:Nat}(j:Pr t a)(q:Pr t g):Pr t (ZJ t a g):=by
 refine⟨lt _ _ j.1 q.1,fun x y J M=>?_⟩;rw[<-j.2 x g J q.1,q.2 _ y (lt _ _ J j.1) M,j.2 x _ J (lt _ _ q.1 M),q.2 a y j.1 M]
theorem ZeD {t:List (List Nat)}(lt:∀a b,a<t.length->b<t.length->ZJ t a b<t.length){gens:List Nat}(hg:∀g∈gens,Pr t g):∀(f i:Nat) (ZF:List Nat),(∀a∈ZF,Pr t a)->∀a∈ZfE t gens f i ZF,Pr t a
 |0,i,ZF,h=>by unfold ZfE;exact h
 |f+1,i,ZF,h=>by
  unfold ZfE;split
  ·exact h
  ·rename_i x hx
   rw[ZaV];refine ZeD lt hg f (i+1) _ ?_;have O:=h x (aD hx);have U:∀(J ZF:List Nat),(∀g∈J,Pr t g)->(∀a∈ZF,Pr t a)->∀a∈J.foldl (fun ZF g=>fq1 (ZJ t x g) fun y=>Zl7 ZF y) ZF,Pr t a:=fun J=>by
    induction J with
    |nil=>intro ZF _ h;exact h
    |cons g J ih=>
     intro ZF M q;rw[List.foldl_cons];refine ih _ (fun g' Y=>M g' (ay _ Y)) fun a j=>?_;rw[ZhA] at j;unfold Zl7 at j;split at j
     ·exact q a j
     ·rcases bE.mp j with j|j
      ·exact q a j
      ·rw[aS.mp j]
       exact O.times lt (M g aB)
   exact U gens ZF hg h
theorem Zl3 {t:List (List Nat)}(n1:1<=t.length)(O:∀row∈t,row.length=t.length)(lt:∀a b,a<t.length->b<t.length->ZJ t a b<t.length)(one:∀a,a<t.length->ZJ t 0 a=a)(j:∀a,a<t.length->ZJ t a 0=a)(h:asB t=true):∀a b c,a<t.length->b<t.length->c<t.length->ZJ t (ZJ t a b) c=ZJ t a (ZJ t b c):=by
 intro a b c q hb U;unfold asB at h;rw[ZaV] at h;generalize Zes t t.length 0 [] [0]=M at h;unfold asG at h;rw[ZaV,af,aN,aN] at h;have Y:Pr t 0:=⟨by omega,fun x y hx hy=>by rw[j x hx,one y hy]⟩;have J:=ZeD lt (fun g hg=>Zng O (h.1 g hg)) t.length 0 [0] (fun a q=>by rw[aS.mp q];exact Y) b (aC.mp (h.2 b (ae.mpr hb)));exact J.2 a c q U
theorem ZgD {t:List (List Nat)}{a:Nat}:∀(f k prev:Nat),prev=it t a k->(∀j,1<=j->j<=k->it t a j≠0)->rdB t t.length a f k prev=true->∃r,Rd t a r
 |0,k,prev,_,_,h=>by cases h
 |f+1,k,prev,e,M,h=>by
  unfold rdB at h;have ex:it t a (k+1)=ZJ t prev a:=by rw[it,e]
  cases q:ZJ t prev a with
  |zero=>
   simp only[q,af,decide_eq_true_eq,aN,bg,gu,decide_eq_false_iff_not] at h;obtain⟨⟨⟨O,U⟩,Y⟩,h4⟩:=h;refine⟨k+1,by omega,U,O,by rw[ex,q],fun j J jk=>M j J (by omega),by rw[dC,<-e];exact Y,fun b hb hm=>?_⟩;rw[dC,<-e];exact (h4 b (ae.mpr hb)).resolve_right fun z=>z hm
  |succ y=>
   simp only[q] at h;refine ZgD f (k+1) (y+1) (by rw[ex,q]) (fun j J jk=>?_) h;by_cases ej:j=k+1
   ·rw[ej,ex,q]
    exact jm _
   ·exact M j J (by omega)
theorem ZkV {t:List (List Nat)}(h:pwB t=true):PW t:=by
 unfold pwB at h;rw[af,af] at h;obtain⟨⟨h,M⟩,O⟩:=h;unfold Zm8 at h;simp only[af,decide_eq_true_eq,aN] at h;obtain⟨⟨⟨h1,h2⟩,U⟩,h4⟩:=h;have lt:∀a b,a<t.length->b<t.length->ZJ t a b<t.length:=fun a b q hb=>by
  unfold ZJ;have hm:t.getD a []∈t:=by
   rw[Zb,Zf q];exact bc q
  obtain⟨hl,hx⟩:=U _ hm;generalize t.getD a []=row at *;have J:b<row.length:=by omega
  refine hx _ ?_;rw[Zb,Zf J];exact bc J
 have oneR:∀a,a<t.length->ZJ t a 0=a:=fun a q=>of_decide_eq_true (aN.mp M a (ae.mpr q));have one:∀a,a<t.length->ZJ t 0 a=a:=fun a q=>(h4 a (ae.mpr q)).1;refine⟨h1,h2,fun row Y=>(U row Y).1,lt,one,fun a q=>?_,oneR,Zl3 h1 (fun row Y=>(U row Y).1) lt one oneR O⟩
 ·exact ZgD _ 0 0 rfl (fun j j1 j0=>by omega) (h4 a (ae.mpr q)).2
noncomputable def pos (o:List Nat)(v:Nat):Nat:=o.findIdx (· == v)
noncomputable def ren (t:List (List Nat))(o:List Nat):List (List Nat):=o.map fun a=>o.map fun b=>pos o (ZJ t a b)
structure Ord (n:Nat)(o:List Nat):Prop where
 len:o.length=n
 nd:o.Nodup
 all:∀v,v<n->v∈o
 lt:∀v∈o,v<n
 z:o.getD 0 0=0
section
variable {t:List (List Nat)}{o:List Nat}
theorem JP {o:List Nat}{i:Nat}(h:i<o.length):o[i]?=some (o.getD i 0):=by
 rw[Zb,Zf h];rfl
theorem YZ {n v:Nat}(O:Ord n o)(q:v<n):pos o v<n/\o.getD (pos o v) 0=v:=by
 have hm:=O.all v q;have j:o.findIdx (· == v)<o.length:=i3 ⟨v,hm,by simp⟩;refine⟨by rw[<-O.len];exact j,?_⟩;have J:=iw (w:=j);have M:o[o.findIdx (· == v)]=v:=by simpa using J
 unfold pos;rw[Zb,Zf j];exact M
theorem inj {n i j:Nat}(O:Ord n o)(q:i<n)(M:j<n)(e:o.getD i 0=o.getD j 0):i=j:=by
 have J:=JP (o:=o) (i:=i) (by rw[O.len];exact q);have U:=JP (o:=o) (i:=j) (by rw[O.len];exact M);rw[e] at J;exact (mD (by rw[O.len];exact q) O.nd).mp (J.trans U.symm)
theorem Yp {n i:Nat}(O:Ord n o)(j:i<n):o.getD i 0<n:=O.lt _ (aD (JP (by rw[O.len];exact j)))
theorem Vp:(ren t o).length=o.length:=by unfold ren;rw[Za]
theorem ZaH {n i j:Nat}(O:Ord n o)(q:i<n)(J:j<n):ZJ (ren t o) i j=pos o (ZJ t (o.getD i 0) (o.getD j 0)):=by
 unfold ZJ ren;have M:=JP (o:=o) (i:=i) (by rw[O.len];exact q);have U:=JP (o:=o) (i:=j) (by rw[O.len];exact J);rw[Zb (l:=o.map _),Zc,M];show (o.map fun b=>pos o ((t.getD (o.getD i 0) []).getD b 0)).getD j 0=_;rw[Zb,Zc,U];rfl
theorem Jf (P:PW t)(O:Ord t.length o):PW (ren t o):=by
 have L:(ren t o).length=t.length:=by rw[Vp,O.len]
 have back:∀i j,i<t.length->j<t.length->o.getD (ZJ (ren t o) i j) 0=ZJ t (o.getD i 0) (o.getD j 0):=fun i j Y hj=>by
  rw[ZaH O Y hj];exact (YZ O (P.lt _ _ (Yp O Y) (Yp O hj))).2
 have lt:∀i j,i<t.length->j<t.length->ZJ (ren t o) i j<t.length:=fun i j Y hj=>by
  rw[ZaH O Y hj];exact (YZ O (P.lt _ _ (Yp O Y) (Yp O hj))).1
 have n1:=P.n1;have M:∀a,a<t.length->∀k,it (ren t o) a k<t.length/\o.getD (it (ren t o) a k) 0=it t (o.getD a 0) k:=fun a ha k=>by
  induction k with
  |zero=>exact⟨n1,O.z⟩
  |succ k ih=>
   rw[it,it];exact⟨lt _ _ ih.1 ha,by rw[back _ _ ih.1 ha,ih.2]⟩
 have zz:∀i,i<t.length->(i=0↔o.getD i 0=0):=fun i Y=>by
  constructor
  ·intro e;rw[e,O.z]
  ·intro e;exact inj O Y n1 (by rw[e,O.z])
 refine⟨by omega,by have:=P.n60;omega,fun row hr=>?_,fun a b ha hb=>by rw[L];exact lt a b (by omega) (by omega),fun a ha=>?_,fun a ha=>?_,fun a ha=>?_,fun a b c ha hb hc=>?_⟩
 ·unfold ren at hr
  obtain⟨a,_,rfl⟩:=aI.mp hr;rw[Za,Vp]
 ·refine inj O (lt 0 a n1 (by omega)) (by omega) ?_
  rw[back 0 a n1 (by omega),O.z,P.one _ (Yp O (by omega))]
 ·have q:a<t.length:=by omega
  obtain⟨r,R⟩:=P.rd _ (Yp O q);have m8:∀k,it (ren t o) a k=0↔it t (o.getD a 0) k=0:=fun k=>by
   rw[zz _ (M a q k).1,(M a q k).2]
  refine⟨r,R.r1,by rw[L];exact R.rn,by rw[L];exact R.dv,(m8 r).mpr R.z,fun k k1 kr z=>R.nz k k1 kr ((m8 k).mp z),?_,fun b hb hm=>?_⟩
  ·refine (zz _ (lt _ _ q (M a q _).1)).mpr ?_
   rw[back _ _ q (M a q _).1,(M a q _).2];exact R.bk
  ·have J:b<t.length:=by omega
   refine inj O J (M a q _).1 ?_;rw[(M a q _).2];refine R.un _ (Yp O J) ?_;rw[<-back a b q J,hm,O.z]
 ·refine inj O (lt a 0 (by omega) n1) (by omega) ?_
  rw[back a 0 (by omega) n1,O.z,P.oneR _ (Yp O (by omega))]
 ·have q:a<t.length:=by omega
  have J:b<t.length:=by omega
  have U:c<t.length:=by omega
  refine inj O (lt _ _ (lt _ _ q J) U) (lt _ _ q (lt _ _ J U)) ?_;rw[back _ _ (lt _ _ q J) U,back _ _ q J,back _ _ q (lt _ _ J U),back _ _ J U];exact P.ass _ _ _ (Yp O q) (Yp O J) (Yp O U)
end
noncomputable def upTo (r st:Nat):Nat->Nat->Nat
 |0,f=>f
 |k+1,f=>if f % r=0 then f else upTo r st k (f+st)
theorem UI {r st B:Nat}(j:1<=st)(Y:B % r=0)(q:B % st=0):∀(k f:Nat),f % st=0->f<=B->B-f<k*st->(∀x,x % st=0->x % r=0->1<=x->x<f->False)->upTo r st k f % r=0/\upTo r st k f % st=0/\f<=upTo r st k f/\upTo r st k f<=B/\(∀x,x % st=0->x % r=0->1<=x->x<upTo r st k f->False)
 |0,f,J,M,O,_=>by rw[fm] at O;omega
 |k+1,f,J,M,O,h4=>by
  unfold upTo;by_cases h:f % r=0
  ·rw[if_pos h]
   exact⟨h,J,Zq _,M,h4⟩
  ·rw[if_neg h]
   have fB:f≠B:=fun z=>h (z▸Y);obtain⟨u,rfl⟩:=aW J;obtain⟨v,rfl⟩:=aW q;have uv:u<v:=ka (dB M fB);have h5:st*u+st<=st*v:=by
    have:=fP st (show u+1<=v by omega);rw[ju,gB] at this;exact this
   have:=UI j Y q k (st*u+st) (by rw[mM,Nat.mul_mod_right]) h5 (by rw[cy] at O;omega) fun x x1 U x3 x4=>?_
   ·exact⟨this.1,this.2.1,by omega,this.2.2.2.1,this.2.2.2.2⟩
   ·by_cases hx:x<st*u
    ·exact h4 x x1 U x3 hx
    ·obtain⟨y,rfl⟩:=aW x1
     have y1:u<=y:=Nat.le_of_mul_le_mul_left (by omega) j;have y2:y<u+1:=ka (a:=st) (by rw[ju,gB];exact x4);have:y=u:=by omega
     rw[this] at U;exact h U
theorem ZaI {x d r:Nat}(q:x % r=0)(hd:d % r=0):x % d % r=0:=by
 have J:=Nat.mod_add_div x d;have M:(d*(x / d)) % r=0:=by rw[Nat.mul_mod,hd,fm,Nat.zero_mod]
 have j:(x % d+d*(x / d)) % r=0:=by rw[J];exact q
 rw[Nat.add_mod,M,gZ,Nat.mod_mod] at j;exact j
structure Lc (rs:Nat->Nat)(i f:Nat):Prop where
 f1:1<=f
 dv:∀a,a<i->f % rs a=0
 mn:∀x,(∀a,a<i->x % rs a=0)->x % f=0
theorem Lc.step {rs:Nat->Nat}{i f B:Nat}(L:Lc rs i f)(hB:1<=B)(j:∀a,a<i+1->B % rs a=0){k:Nat}(hk:B<k):Lc rs (i+1) (upTo (rs i) f k f):=by
 have q:B % f=0:=L.mn B fun a J=>j a (by omega);have M:=L.f1;have fB:f<=B:=eV (by omega) (aW q);obtain⟨O,U,h3,h4,h5⟩:=UI (r:=rs i) M (j i (by omega)) q k f (lr f) fB (by
  have:k*1<=k*f:=fP k M;omega) fun x x1 x2 x3 x4=>by
   have:=eV (by omega) (aW x1);omega
 refine⟨by omega,fun a J=>?_,fun x Y=>?_⟩
 ·by_cases e:a=i
  ·rw[e];exact O
  ·have:=L.dv a (by omega)
   obtain⟨u,hu⟩:=aW U;rw[hu,Nat.mul_mod,this,fm,Nat.zero_mod]
 ·have xf:x % f=0:=L.mn x fun a J=>Y a (by omega)
  apply ah;intro z;exact h5 (x % upTo (rs i) f k f) (ZaI xf U) (ZaI (Y i (by omega)) O) (by omega) (bW _ (by omega))
end Tb
namespace L2
open PySem PySem.Spec PyProof.Rows
section
variable {X:Cx}
noncomputable def Zm2 (K:ab)(neg:Bool):R2:=fun x y H Q=>∃p J q j,y=.ref p/\(Wx K H p J\/JF K H p J)/\WS K H J q/\Uo K H x j/\cP q=true/\j.canLay0=true/\j.depth<=60/\Q (.bl (if neg then !(q.any fun y=>y.eqv j) else q.any fun y=>y.eqv j)) H
theorem ZeZ (hu:X.A.units+64<cLine):Vx X (compareOp .NotIn) (Zm2 X.K true):=by
 intro U s σ H x y v u Q I rx ry h;obtain⟨p,xs,ds,dx,rfl,j,Y,hd,M,c2,dp,q⟩:=h;cases ry;obtain⟨bs,r1⟩:=I.reads hd rx;rcases j with j|j
 ·obtain⟨O,r,pl,hz⟩:=I.list j
  obtain⟨as,J⟩:=I.readsAll Y r;refine SeqAt.notIn_listAt _ pl.isList (mq (by simpa using J) r1 M c2 (by omega)) ⟨.bl _,H,I,rfl,?_⟩;rw[l5 (by simpa using J) M];exact q
 ·obtain⟨O,r,pl,hz⟩:=I.tuple j
  obtain⟨as,J⟩:=I.readsAll Y r;refine SeqAt.notIn_tupleAt _ pl (mq (by simpa using J) r1 M c2 (by omega)) ⟨.bl _,H,I,rfl,?_⟩;rw[l5 (by simpa using J) M];exact q
theorem Zne (K:ab)(j:X.A.units+64<cLine)(q:X.K=K:=by rfl):Vx X (compareOp .NotIn) (Zm2 K true):=q▸ZeZ j
end
theorem Vf:∀ns:List Int,cP (ns.map a7)=true
 | []=>rfl
 |n::ns=>by
  show (fO (.int n) && cP (ns.map a7))=true;rw[Vf ns];rfl
theorem Uj (ns:List Int):fO (.tuple (ns.map a7))=true:=Vf ns
theorem V7:∀ns:List Int,ck (ns.map a7)<=1
 | []=>by decide
 |n::ns=>by
  have:=V7 ns;show max (dW (.int n)) (ck (ns.map a7))<=1;have e:dW (.int n)<=1:=by simp[dW]
  omega
end L2
namespace L2
open PySem
theorem U3 (ns:List Int):dW (.tuple (ns.map a7))<=60:=by
 have:=V7 ns;show ck (ns.map a7)+1<=60;omega
end L2
namespace PyZ
open PySem
theorem Uw (l:Addr)(items:Array Value)(x:Value)(e:Value->Bool)(j:Nat)(hj:j<items.size)(J:e items[j]=true)(M:∀(m:Nat) (hm:m<items.size),m<j->e items[m]=false) :
  Meets (cY.«tuple.index» {pos:=[aR l,x]}) fun A R s=>
   s.heap.IsTuple l items/\(∀(y:Value),y∈items->kT A.in1 s y x (e y))/\
    R (Except.ok (Flow.ret (io (↑j) s.toks))) {heap:=s.heap,gens:=s.gens,drawn:=s.drawn,toks:=s.toks+1,os:=s.os}:=by
 intro m9 w A R s h;obtain⟨hl,he,h⟩:=h;obtain⟨oa,ha,_,na,da⟩:=hl;unfold cY.«tuple.index»;refine Zl ?_;show wpAny _ _ (pure (aR l,[x])) _ _ s;refine Zm ?_;show wpAny _ _ (iK (aR l) >>= _) _ _ s;refine Zl ?_;unfold iK;refine Zl (cr ha da ?_);refine Zm ?_;show wpAny _ _ (pure 0 >>= _) _ _ s;refine Zl (Zm ?_);show wpAny _ _ (pure items.size >>= _) _ _ s;refine Zl (Zm ?_);refine Zl ?_;rw[lu,Std.Legacy.Range.forIn_eq_forIn_range'];have O:(cT ([0:items.size]:iD).start ([0:items.size]:iD).size ([0:items.size]:iD).step)=cT 0 items.size:=by
  show cT 0 ((items.size-0+1-1) / 1) 1=_;rw[Nat.div_one,eF,dC]
 rw[O];refine wpAny_forIn_list _ (fun rest b U=>U=s/\b=(none,())/\∃k,rest=cT k (items.size-k)/\k<=j) _ ?_ ?_ _ _ ⟨rfl,rfl,0,rfl,aZ _⟩
 ·rintro i rest b U ⟨rfl,rfl,k,q,hk⟩
  have hs:items.size-k=(items.size-(k+1))+1:=by omega
  rw[hs,c9] at q;obtain⟨rfl,rfl⟩:=List.cons.inj q;have Y:i<items.size:=by omega
  rw[aP Y];show wpAny _ _ (eqBool items[i] x >>= _) _ _ _;refine Zl (he items[i] (Array.getElem_mem Y) _ _ _ _ ?_);by_cases m8:i=j
  ·subst m8
   rw[J,if_pos rfl];refine Zl ?_;unfold retInt;refine Zl (wpAny_mkInt ?_);refine Zm ?_;refine Zm ?_;show wpAny _ _ (pure _) _ _ _;exact Zm h
  ·rw[M i Y (by omega),if_neg aJ]
   refine Zm ?_;exact⟨rfl,rfl,i+1,rfl,by omega⟩
 ·rintro b U ⟨rfl,rfl,k,q,hk⟩
  have:items.size-k=0:=by
   have:=congrArg cJ q;rw[List.length_range'] at this;exact this.symm
  omega
end PyZ
namespace L2
open PySem PySem.Spec PyProof.Rows
section
variable {X:Cx}
noncomputable def Zj9 (K:ab):V->List V->Hp->VK->Prop:=fun x q H Q=>∃p xs y,∃j:Nat,x=.ref p/\q=[y]/\JF K H p xs/\Vb y=true/\xs.all Vb=true/\j<xs.length/\(∀z,xs[j]?=some z->eqV z y=true)/\(∀m z,m<j->xs[m]?=some z->eqV z y=false)/\Q (.int j) H
theorem Ze7:MtR X "tuple.index" (Zj9 X.K):=by
 intro n9 s σ H x vs v us Q I rx rv h;obtain⟨p,xs,y,j,rfl,rfl,hq,fy,fs,hj,h1,h2,q⟩:=h;cases rx;obtain⟨u,rfl,ru⟩:=rv.one;obtain⟨J,r,pl,hz⟩:=I.tuple hq;have hl:=r.length;have M:∀(m:Nat) (z:V),xs[m]?=some z->Vb z=true:=fun m z hm=>aN.mp fs z (aD hm);have eu:∀(m:Nat) (hm:m<J.toArray.size),∃z,xs[m]?=some z/\eqU y J.toArray[m]=eqV z y:=fun m hm=>by
  have O:m<xs.length:=by rw[hl];simpa using hm
  obtain⟨w,hw,m9⟩:=r.get (Zf O);have n4:J.toArray[m]=w:=by
   have:=(aa.mp hw).2;simpa using this
  exact⟨_,Zf O,by rw[n4];exact ZhI m9 (M m _ (Zf O))⟩
 have m8:j<J.toArray.size:=by rw[Zh,<-hl];exact hj
 have n6:s.TypeIs (.ref p) "tuple":=mK pl;refine gG gM n6 F.entry_tuple_index (F.args_tuple_index_2 _ _) (PyZ.Uw p J.toArray u (eqU y) j m8 ?_ ?_) ⟨pl,fun w hw=>Zb0 ru fy r fs w (by simpa using hw),?_⟩
 ·obtain⟨z,U,Y⟩:=eu j m8
  rw[Y];exact h1 z U
 ·intro m hm n8
  obtain⟨z,U,Y⟩:=eu m hm;rw[Y];exact h2 m z n8 U
 ·exact⟨.int j,H,I.kept (t':=s.toks+1) fun b o e=>e,⟨_,rfl⟩,q⟩
theorem ZmD (K:ab)(j:X.K=K:=by rfl):MtR X "tuple.index" (Zj9 K):=j▸Ze7
end
end L2
namespace PyZ
open PySem PyProof PyProof.Rows
noncomputable def Vi (n:Nat)(cmp:Nat->Nat->Bool){α:Type}:jH α->Option α
 | .ret a=>some a
 | .ask i j k=>if i<n/\j<n then Vi n cmp (k (cmp i j)) else none
theorem UX {α:Type}{n:Nat}{cmp:Nat->Nat->Bool}{ask:Nat->Nat->(Bool->Shared->Prop)->Shared->Prop}{s:Shared}(h:∀i j C,i<n->j<n->C (cmp i j) s->ask i j C s):∀(t:jH α) (a:α) (Q:α->Shared->Prop),Vi n cmp t=some a->Q a s->W.KasT.kasWp ask t Q s
 | .ret b,a,Q,e,q=>by
  cases (aw e);exact q
 | .ask i j k,a,Q,e,q=>by
  rw[Vi] at e;by_cases J:i<n/\j<n
  ·rw[if_pos J] at e
   exact h i j _ J.1 J.2 (UX h (k (cmp i j)) a Q e q)
  ·rw[if_neg J] at e
   cases e
noncomputable def Zc7 (fin:Bool):List Int->List Int->Bool
 | [],_=>fin
 |_::_,[]=>fin
 |x::j,y::q=>if x=y then Zc7 fin j q else decide (x<y)
noncomputable def ltB (xs ys:List Int):Bool:=Zc7 (decide (xs.length<ys.length)) xs ys
section
variable {prog:Program}{w:World}{A:Around}{E:Value->Shared->Prop}{s:Shared}
noncomputable def Zfr (h:Heap)(L:Addr):Heap:={h with objs:=h.objs.extract 0 L}
theorem Xz {h:Heap}{L b:Addr}(hb:b<L):(Zfr h L).get? b=h.get? b:=by
 unfold Zfr Heap.get?;have:(h.objs.extract 0 L)[b]?=h.objs[b]?:=by
  rw[Array.getElem?_extract];by_cases j:b<h.objs.size
  ·simp only[eF,gY]
   rw[if_pos (show b<min L h.objs.size from Nat.lt_min.mpr ⟨hb,j⟩)]
  ·rw[cF (jo j)]
   split <;> simp_all
 simp only[this]
theorem U4 {h:Heap}{L b:Addr}(hb:L<=b):(Zfr h L).get? b=none:=by
 unfold Zfr Heap.get?;have:(h.objs.extract 0 L)[b]?=none:=by
  apply cF;rw[lX];exact a6 (by rw[eF];exact jN ..) hb
 simp only[this]
noncomputable def Yf (h:Heap)(L:Addr):List (Addr×Obj):=(ac h.objs.size).filterMap fun a=>if L<a then (h.get? a).map fun o=>(a,o) else none
theorem Jj {h:Heap}{L:Addr}{p:Addr×Obj}:p∈Yf h L↔L<p.1/\h.get? p.1=some p.2:=by
 unfold Yf;rw[iN];constructor
 ·rintro⟨a,J,e⟩
  by_cases j:L<a
  ·rw[if_pos j] at e
   cases q:h.get? a with
   |none=>rw[q] at e;cases e
   |some o=>
    rw[q] at e;cases (aw e);exact⟨j,q⟩
  ·rw[if_neg j] at e
   cases e
 ·rintro⟨j,e⟩
  refine⟨p.1,ae.mpr (Zp e),?_⟩;rw[if_pos j,e];rfl
end
end PyZ
namespace L2
open PySem PySem.Spec PyProof.Rows
theorem Yx.there {P:Program}{w:World}{H:Hp}{h:Heap}{a:Addr}{o:HO}(x:Yx P w H h a o):∃j,h.get? a=some j:=by
 cases o with
 |lst J=>obtain⟨_,_,_,_,e⟩:=x;exact⟨_,e⟩
 |tup J=>obtain⟨_,_,_,j,e,_⟩:=x;exact⟨_,e⟩
 |dK q=>obtain⟨_,_,_,_,o,_,_,e,_⟩:=x;exact⟨_,e⟩
 |dT q=>obtain⟨_,_,_,_,o,_,_,e,_⟩:=x;exact⟨_,e⟩
 |set S n=>obtain⟨o,_,_,_,e,_⟩:=x;exact⟨_,e⟩
 |ins C M fs=>obtain⟨_,_,_,e,_⟩:=x;exact⟨_,e⟩
 |own y=>obtain⟨_,e⟩:=x;exact⟨_,e⟩
 |xd fs=>obtain⟨_,⟨_,_,_,e,_⟩,_⟩:=x;exact⟨_,e⟩
 |rng lo O=>obtain⟨_,_,_,e⟩:=x;exact⟨_,e⟩
 |frz j u=>obtain⟨e,_⟩:=x;exact⟨_,e⟩
 |tbl U=>exact⟨_,(show h.get? a=some _ from x)⟩
 |met f y=>exact⟨_,(show h.get? a=some _ from x)⟩
 |ext Y=>obtain⟨_,⟨_,e⟩,_⟩:=x;exact⟨_,e⟩
section
variable {X:Cx}{pins:List (Addr×Obj)}{σ:St}{H:Hp}{s:Shared}
theorem Inv.newL {D:Addr}{c:Nat}{h':Heap}{m:Str->Option Value}{ys:List V}{U:List Value}(I:Inv X pins σ H s)(hm:s.heap.Ns X.env.locals m)
  (hl:∀(i:Nat) (x:Str) (v:V),X.N[i]?=some x->σ[i]?=some (some v)->Vis X.env.scope x->∃u,RelV v u/\Look X.env s.heap m x u)
  (dn:s.heap.get? D=none) (dL:D≠X.env.locals) (kept:∀b o,b≠X.env.locals->s.heap.get? b=some o->h'.get? b=some o) (n6:h'.Ns X.env.locals m) (hz:ys.length<=sizeLine) (hv:ZK ys U) (hD:h'.get? D=some {cls:=.type "list",data:=.seq U.toArray c}) :
  Inv X pins σ (upd H D (.lst ys)) {s with heap:=h'}/\H D=none:=by
 have m8:H D=none:=by
  cases e:H D with
  |none=>rfl
  |some o=>
   obtain⟨ob,e2⟩:=(I.hok D o e).there;rw[dn] at e2;cases e2
 have Y:∀{b:Addr}{o:Obj},s.heap.get? b=some o->b≠D:=fun {b o} e z=>by rw[z,dn] at e;cases e
 have M:∀{b:Addr}{o:HO},H b=some o->b≠D:=fun {b o} e z=>by rw[z,m8] at e;cases e
 have m9:∀{b:Addr}{o:HO},H b=some o->b≠X.env.locals:=fun {b o} e z=>by rw[z,I.free] at e;cases e
 have bL:∀{b:Addr}{o:Obj},X.s₀.heap.get? b=some o->b≠X.env.locals:=fun {b o} e=>ax (aE (Zp e) I.ok.above);refine⟨⟨I.ok,I.os,I.bare,⟨fun b o e n hb O=>?_,fun b o e n hb O=>?_,fun b o e n O=>?_,fun b o e O=>?_,fun b xs e=>?_,fun b o u e=>?_,fun b ps e=>?_⟩,⟨m,n6,fun j y v e1 e2 e3=>?_⟩,fun y J e=>?_,?_,fun y J e=>?_,fun p hp=>?_,fun b ob e=>?_,I.len⟩,m8⟩
 ·exact kept b o (bL e) (I.base.keep b o e n hb O)
 ·obtain⟨sl,e1⟩:=I.base.slot b o e n hb O
  exact⟨sl,kept b _ (bL e) e1⟩
 ·obtain⟨o',e1⟩:=I.base.there b o e O
  rw[Zx (Y e1)];exact I.base.free b o e n O
 ·obtain⟨o',e1⟩:=I.base.there b o e O
  exact⟨o',kept b _ (bL e) e1⟩
 ·have:=I.base.tups b xs e
  rw[Zx (M this)];exact this
 ·have:=I.base.frzs b o u e
  rw[Zx (M this)];exact this
 ·obtain⟨n4,this⟩:=I.base.tbls b ps e
  exact⟨n4,by rw[Zx (M this)];exact this⟩
 ·obtain⟨u,r,q⟩:=hl j y v e1 e2 e3
  refine⟨u,r,?_⟩;rcases q with ⟨k,e⟩|⟨k,J,e,z⟩
  ·exact .inl ⟨k,e⟩
  ·obtain⟨o,g,rest⟩:=z
   exact .inr ⟨k,J,e,o,kept J o (I.cne y J e) g,rest⟩
 ·obtain⟨w',o,g,rest⟩:=I.cell y J e
  exact⟨w',o,kept J o (I.cne y J e) g,rest⟩
 ·rw[Zx (bJ dL)]
  exact I.free
 ·obtain⟨w',o,g,rest⟩:=I.cell y J e
  rw[Zx (Y g)];exact I.freeC y J e
 ·obtain⟨e,n,ne,nf,d⟩:=I.pin p hp
  exact⟨kept p.1 _ ne e,by rw[Zx (Y e)];exact n,ne,nf,d⟩
 ·by_cases hb:b=D
  ·subst hb
   rw[Zt] at e;cases (aw e);exact⟨hz,U,c,hv,hD⟩
  ·rw[Zx hb] at e
   refine (I.hok b ob e).stay (fun J w' hc q=>kept J w' ?_ q) (fun J q=>?_) fun J xs q=>?_
   ·rcases hc with rfl|hc
    ·exact m9 e
    ·exact m9 hc
   ·rw[Zx (M q)]
    exact q
   ·rw[Zx (M q)]
    exact q
theorem JH:∀{as:List Addr}{us:List Value},ZK (as.map V.ref) us->us=as.map aR
 | [],_,h=>by cases h;rfl
 |a::as,_,h=>by
  cases h with
  |cons r t=>rw[show _=aR a from r,JH t];rfl
theorem Vz:∀{ns:List Int}{us:List Value},ZK (ns.map V.int) us->bO us ns
 | [],_,h=>by cases h;exact .nil
 |n::ns,_,h=>by
  cases h with
  |cons r t=>
   obtain⟨k,rfl⟩:=r;exact .cons n k (Vz t)
theorem XO:∀as:List Addr,ZK (as.map V.ref) (as.map aR)
 | []=>.nil
 |a::as=>.cons rfl (XO as)
end
section
variable {X:Cx}
noncomputable def Tz (H:Hp)(a:Addr)(ys:List V):Prop:=∃o:Obj,H a=some (.frz o (.tup ys))/\o.cls=.type "tuple"/\o.dict=none
theorem Tz.sq {K:ab}{H:Hp}{a:Addr}{ys:List V}(h:Tz H a ys):JF K H a ys:=by
 obtain⟨o,h,_⟩:=h;exact .inl (.inr ⟨o,h⟩)
theorem Tz.mono {H j:Hp}{a:Addr}{ys:List V}(s:Same H j)(h:Tz H a ys):Tz j a ys:=by
 obtain⟨o,h,r⟩:=h;exact⟨o,s _ _ h,r⟩
theorem Zco:Yo X (.type "tuple") (fun xs H Q=>∃p ys,xs=[.ref p]/\Wx X.K H p ys/\∀l O,H l=none->Same H O->Tz O l ys->Q (.ref l) O):=by
 intro j s U H xs us Q I r h;obtain⟨p,ys,rfl,hq,q⟩:=h;obtain⟨u,rfl,rx⟩:=vals1 r;cases rx;obtain⟨J,Y,pl,hz⟩:=I.list hq;have m8:=Y.length;refine call_tuple_list pl.isList (fun M kp=>?_) (by simp only[Zh] <;> omega)
 have I1:Inv X j U H {s with heap:=M}:=I.kept (t':=s.toks) kp;have hf:=I1.hok.fresh (Zq _);have I2:Inv X j U (upd H M.objs.size (.frz {cls:=.type "tuple",data:=.seq J.toArray} (.tup ys))) {s with heap:=M.push {cls:=.type "tuple",data:=.seq J.toArray}}:=
  I1.laid (t':=s.toks) (fun b o e=>Zn _ e) (Zq _) ⟨Zo _ rfl,hz,J,Y,j9 _ _⟩
 exact⟨.ref M.objs.size,_,I2,rfl,q _ _ hf (Same.upd hf) ⟨_,Zt,rfl,rfl⟩⟩
variable {o e:Expr}{es:List Expr}{to:TE}{t:TA}{name:Str}{apos cpos:Pos}{id:String}{r:V->List V->Hp->VK->Prop}
noncomputable def Zou (r:V->List V->Hp->VK->Prop)(to:TE)(t:TA):TE:=fun j H Q=>to j H fun x q=>(∃p J,x=.ref p/\Tz q p J)/\t j q fun M O=>r x M O Q
theorem ZgK (pa:PlainAttrs "tuple")(slot:Slot "tuple" name id)(U:typeOf (.builtin id)=pure (.type "method_descriptor"))(hm:MtR X id r)(ho:PE X o to)(ha:PA X (e::es) t)
  (J:attributeBase o name X.env (eval o X.env)=eval o X.env:=by rfl)
  (O:((backTo cpos (starEach (e::es) X.env)).all (fun x=>!x.1) && (backToKw cpos (keywordEach [] X.env)).all (fun x=>x.1.isSome)
   && decide ((e::es).length+([]:List Keyword).length+(if ([]:List Keyword).isEmpty then 0 else 1)<30))=true:=by rfl)
  (M:(apos.endLine == cpos.line)=true:=by rfl) (hs:starEach (e::es) X.env=(false,eval e X.env)::starEach es X.env:=by rfl) (q:(backTo cpos (starEach es X.env)).any (·.1)=false:=by rfl) :
  PE X (.Call (.Attribute o name apos) (e::es) [] cpos) (Zou r to t):=by
 intro j s Y H Q I h;refine mf J O M rfl (Yg (ho j s Y H _ I h) fun v s1 ⟨x,H1,I1,r1,ty,q1⟩=>?_);obtain⟨p,ys,rfl,ob,m8,hc,hd⟩:=ty;cases r1;obtain⟨eo,_⟩:=I1.hok p _ m8;refine⟨"tuple",id,pa,slot,U,⟨ob,eo,hc⟩,fun a e=>?_,?_⟩
 ·cases e
  exact⟨ob,eo,hd⟩
 have hA:=ha cpos j s1 Y H1 _ I1 q1;rw[hs] at hA ⊢;refine fe (by show (false || (backTo cpos (starEach es X.env)).any (·.1))=false;rw[q] <;> rfl) (im ?_)
 exact Yg hA fun us s2 ⟨vs,H2,I2,r2,q2⟩=>hm j s2 Y H2 (.ref p) vs (.ref p) us Q I2 rfl r2 q2
end
end L2
namespace PyZ
open PySem PySem.Spec PyProof.Rows
section
variable {prog:Program}{w:World}{A:Around}{E:Value->Shared->Prop}{s:Shared}
theorem UB {R:List Value->Shared->Prop}{r:Addr}{a b c:Int}{t u v:Tok}{n:Nat}(hh:A.handled=none)(hr:IsRange s.heap r a b c t u v)(O:cx a b c=true)
  (hn:bf a b c=n) (Y:n<=2 ^ 24)
  (h:∀(h':Heap) (tk:Nat) (ZF:Array Value),(∀b o,s.heap.get? b=some o->h'.get? b=some o)->gQ (fun i v=>∃t,v=.int (a+i*c) t) ZF n->R ZF.toList {s with heap:=h',toks:=tk}) :
  wpAny (model prog w) A (collect (.ref r)) R E s:=by
 unfold collect;refine Zl (kI (cH PySem.F.entry_proto_collect ?_));rw[bY je _];show wpAny _ A.in1 (newList [] >>= fun l=>again (.builtin "list.__iadd__" ⟨[l,.ref r],[]⟩)) _ _ s;refine Zl (bH ?_);refine Zm ⟨fc eR _,cH PySem.F.entry_list_iadd ?_⟩;rw[bY eR _];have U:(s.heap.push {cls:=.type "list",data:=.seq ([]:List Value).toArray}).get? s.heap.objs.size=some {cls:=.type "list",data:=.seq #[]}:=Zo _ rfl;show wpAny _ A.in1 (df (.ref s.heap.objs.size) (.ref r) (.ref s.heap.objs.size)) _ _ _;have m8:=wpAny_extend_range (prog:=prog) (w:=w) (A:=A) (s:={s with heap:=s.heap.push {cls:=.type "list",data:=.seq ([]:List Value).toArray}})
  (R:=fun (q:Result) (s':Shared)=>∃(h':Heap) (tk:Nat) (j:Array Value) (c':Nat),q=.ok (.ret (.ref s.heap.objs.size))/\s'={s with heap:=h',toks:=tk}/\
   (∀b o,s.heap.get? b=some o->h'.get? b=some o)/\h'.get? s.heap.objs.size=some {cls:=.type "list",dict:=none,data:=.seq j c',slots:=#[]}/\gQ (fun i v=>∃t,v=.int (a+i*c) t) j n)
  hh (Zn _ hr) O hn Y s.heap.objs.size (.ref s.heap.objs.size) 0 U
  (fun h' tk j c' hk M J=>⟨h',tk,j,c',rfl,rfl,fun b o e=>hk b o (ax (Zp e)) (Zn _ e),M,J⟩)
 refine cB m8 (fun m9 s' x=>?_) fun e s' x=>?_
 ·cases m9 with
  |done f=>
   obtain⟨h',tk,j,c',e,rfl,hk,M,J⟩:=x;cases e;show wpAny _ A (load s.heap.objs.size >>= _) _ _ _;refine Zl (jg M ?_);exact Zm (h h' tk j hk J)
  |again n4=>
   refine⟨x.1,fz x.2 fun q n6 y=>?_⟩;obtain⟨h',tk,j,c',rfl,rfl,hk,M,J⟩:=y;show wpAny _ A (load s.heap.objs.size >>= _) _ _ _;refine Zl (jg M ?_);exact Zm (h h' tk j hk J)
 ·obtain⟨_,_,_,_,e',_⟩:=x
  cases e'
theorem JA {Q₁:Value->Shared->Prop}{r:Addr}{a b c:Int}{t u v:Tok}{n:Nat}(hh:A.handled=none)(Y:IsRange s.heap r a b c t u v)(j:cx a b c=true)
  (hn:bf a b c=n) (J:n<=2 ^ 24)
  (h:∀(h':Heap) (tk:Nat) (ZF:Array Value),(∀b o,s.heap.get? b=some o->h'.get? b=some o)->gQ (fun i v=>∃t,v=.int (a+i*c) t) ZF n->
   Q₁ (.ref h'.objs.size) {s with heap:=h'.push {cls:=.type "tuple",data:=.seq ZF},toks:=tk}) :
  codeAny (model prog w) A (.call (.builtin "tuple.__new__") ⟨[.type "tuple",.ref r],[]⟩) (wants Q₁ E) s:=by
 refine kg ?_;show wpAny _ A.in1 (do checkBuiltinCall "tuple.__new__" ⟨[.type "tuple",.ref r],[]⟩;again (.builtin "tuple.__new__" ⟨[.type "tuple",.ref r],[]⟩)) _ _ s
 refine Zl (jX (PySem.F.newCall_tuple_1 _) (Zm ⟨fc (show plainId "tuple.__new__"=true by decide +kernel) _,cH PySem.F.entry_tuple_new ?_⟩));rw[bY (show plainId "tuple.__new__"=true by decide +kernel) _];have m8:=sub_tuple_self;have M:=init_tuple_lookup;have m9:=madeHere_tuple;have O:s.TypeIs (.ref r) "range":=⟨_,Y,rfl⟩;have U:n<=sizeLine:=by
  have:(16777216:Nat)=sizeLine:=by decide
  omega
 wp_walk using jE O,UB (A:=A.in1) hh Y j hn J
 intro h' tk ZF hm q;show wpAny _ _ (iU ZF.toList.toArray >>= fun v=>ret v) _ _ _;unfold iU;refine Zl (bH ?_ (by show ZF.toList.toArray.size<=sizeLine;simp only[lB];rw[q.1];exact U));refine Zm ?_;have e:ZF.toList.toArray=ZF:=by simp
 rw[e];exact h h' tk ZF hm q
theorem X2 {Q:Value->Shared->Prop}{r:Addr}{a b c:Int}{t u v:Tok}{n:Nat}(Y:A.handled=none)(hr:IsRange s.heap r a b c t u v)(J:cx a b c=true)
  (hn:bf a b c=n) (M:n<=2 ^ 24)
  (h:∀(h':Heap) (tk:Nat) (ZF:Array Value),(∀b o,s.heap.get? b=some o->h'.get? b=some o)->gQ (fun i v=>∃t,v=.int (a+i*c) t) ZF n->
   Q (.ref h'.objs.size) {s with heap:=h'.push {cls:=.type "tuple",data:=.seq ZF},toks:=tk}) :
  wpAny (model prog w) A (call (.type "tuple") [.ref r]) Q E s:=by
 refine callType_codes (Q₁:=fun obj j=>j.TypeIs obj "tuple"/\Q obj j) gX (PySem.F.typeCall_tuple_1 _) PySem.F.entry_object_init
  (JA (A:=A.in1) Y hr J hn M fun h' tk ZF hk O=>⟨⟨_,Zo _ rfl,rfl⟩,h h' tk ZF hk O⟩) fun obj j q=>?_
 exact⟨q.1,km obj _,object_init_meets gX.init.lookup gX.made (by decide) prog w A.in1 _ j ⟨q.1,rfl,q.2⟩⟩
end
end PyZ
namespace L2
open PySem PySem.Spec PyProof.Rows
section
variable {X:Cx}
theorem Uk (hc:X.calm=true):Yo X (.type "tuple") (fun xs H Q=>∃(a:Addr) (lo hi:Int),xs=[.ref a]/\H a=some (.rng lo hi)/\(-(2 ^ 62)<=lo/\lo<2 ^ 62/\-(2 ^ 62)<=hi/\hi<2 ^ 62)/\(hi-lo).toNat<=sizeLine/\
  ∀l,H l=none->Q (.ref l) (upd H l (.tup ((Wt lo (hi-lo).toNat).map V.int)))):=by
 intro j s O H xs us Q I r h;obtain⟨a,lo,hi,rfl,ha,⟨b1,b2,b3,b4⟩,U,q⟩:=h;obtain⟨u,rfl,ru⟩:=vals1 r;cases ru;obtain⟨t,u,v,e⟩:=(show ∃t u v,s.heap.get? a=some {cls:=.type "range",data:=.fields #[.int lo t,.int hi u,.int 1 v]} from I.hok a _ ha);refine PyZ.X2 (n:=(hi-lo).toNat) (I.ok.hd hc) e (small_one b1 b2 b3 b4) (by rw[rangeSize_one];split <;> omega) U fun J tk ZF hk M=>?_
 have Y:Inv X j O H {s with heap:=J,toks:=tk}:=I.kept (t':=tk) hk;have I2:Inv X j O (upd H J.objs.size (.tup ((Wt lo (hi-lo).toNat).map V.int))) {s with heap:=J.push {cls:=.type "tuple",data:=.seq ZF},toks:=tk}:=
  Y.laid (t':=tk) (fun b o e=>Zn _ e) (Zq _) (show Yx X.prog X.w _ _ _ (.tup ((Wt lo (hi-lo).toNat).map V.int)) from ⟨by rw[Za,YK];exact U,ZF.toList,ZeM M,by simpa using j9 _ _⟩)
 exact⟨.ref J.objs.size,_,I2,rfl,q _ (Y.hok.fresh (Zq _))⟩
end
end L2
namespace PyY
open PySem
open AutoSeq1 (wpAny_loadPart')
section
variable {prog:Program}{w:World}{A:Around}{E:Value->Shared->Prop}{s:Shared}
theorem VU {j a:Addr}{k:Nat}{us:Array Value}{y:Value}{Q:Value->Shared->Prop}(c:s.heap.IsTupleIter j a k)(d:s.heap.IsTuple a us)(e:us[k]?=some y)
  (q:∀g,g.IsTupleIter j a (k+1)->be j s.heap g->Q y {s with heap:=g}):wpAny (model prog w) A (a8 (.ref j)) Q E s:=by
 obtain⟨Y,J,cj,dj⟩:=id c;obtain⟨oa,O,_,na,U⟩:=d;unfold a8;refine Zl (bn (name:=cU "__next__") c.typeIs eE (bx eE c.typeIs j8 ?_ (jU _)));show wpAny _ _ (field (.ref j) 0 >>= _) _ _ s;refine Zl (bP J dj (x:=.ref a) rfl ?_);show wpAny _ _ (if (aR a == bX)=true then _ else _) _ _ s
 rw[if_neg (show ¬((aR a == bX)=true) from aJ)];show wpAny _ _ (field (.ref j) 1 >>= _) _ _ s;refine Zl (bP J dj (x:=.int k 0) rfl ?_);show wpAny _ _ (seqItems? (.ref a) >>= _) _ _ s;refine Zl (cr O U ?_);simp only[Zj,e];refine Zl (dA J dj (by simp) (Zm ⟨y,rfl,Zm (q _ ?_ (bG ..))⟩));refine⟨_,bC _ J (cO (bA dj _)),(gw ..).trans cj,?_⟩;rw[bA dj];simp[rawInt]
theorem UQ {j a:Addr}{k:Nat}{us:Array Value}{Q:Value->Shared->Prop}(U:A.handled=none)(c:s.heap.IsTupleIter j a k)(d:s.heap.IsTuple a us)(e:us[k]?=none)
  (q:∀g x,ip j s.heap g->(∃o,g.get? x=some o/\o.cls=.type "StopIteration")->E (.ref x) {s with heap:=g}):wpAny (model prog w) A (a8 (.ref j)) Q E s:=by
 obtain⟨oj,J,cj,dj⟩:=id c;obtain⟨oa,Y,_,na,da⟩:=d;unfold a8;refine Zl (bn (name:=cU "__next__") c.typeIs eE (bx eE c.typeIs j8 ?_ (jU _)));show wpAny _ _ (field (.ref j) 0 >>= _) _ _ s;refine Zl (bP J dj (x:=.ref a) rfl ?_);show wpAny _ _ (if (aR a == bX)=true then _ else _) _ _ s
 rw[if_neg (show ¬((aR a == bX)=true) from aJ)];show wpAny _ _ (field (.ref j) 1 >>= _) _ _ s;refine Zl (bP J dj (x:=.int k 0) rfl ?_);show wpAny _ _ (seqItems? (.ref a) >>= _) _ _ s;refine Zl (cr Y da ?_);simp only[Zj,e];refine Zl (dJ (Zl (dA J dj (by simp) ?_)));show wpAny _ _ (newExc (.type "StopIteration") [] >>= _) _ _ {s with heap:=_};refine Zl ?_;unfold newExc newTuple;refine Zl (bH (Q:=_) ?_ (by size_fits));refine Zl (m:=firstArgMember _ _) (jX (a:=bX) (by first|rfl|(unfold firstArgMember;rfl)) ?_)
 refine bH (Q:=_) ?_ (by size_fits);unfold raiseNew;refine Zl (wpAny_handled ?_);have M:A.in1.handled=none:=U;rw[M];refine Zl (Zm (wpAny_throw (E:=E) ?_));exact q _ _ (((bG ..).extBut.push _).push _) ⟨_,Zo _ rfl,rfl⟩
theorem Zdg {n j a:Addr}{k:Nat}{us:Array Value}{y J:Value}{Q:Option Value->Shared->Prop}(b:gJ s.heap n j k J)(c:s.heap.IsTupleIter j a k)(d:s.heap.IsTuple a us)(e:us[k]?=some y)(nj:n≠j)
  (q:∀g,IsEnumOut g n j ((k:Int)+1) y s.heap.objs.size->g.IsTupleIter j a (k+1)->g.get? s.heap.objs.size=some {cls:=.type "tuple",data:=.seq #[.int k s.toks,y]}->g.objs.size=s.heap.objs.size+1->
   (∀x o,x≠n->x≠j->s.heap.get? x=some o->g.get? x=some o)->Q (some (.ref s.heap.objs.size)) {s with heap:=g,toks:=s.toks+1}):wpAny (model prog w) A (pyNext (.ref n)) Q E s:=by
 have tn:s.TypeIs (.ref n) "enumerate":=⟨_,b,rfl⟩;unfold pyNext;refine Zl (dS (bn (name:=cU "__next__") tn fH (bx fH tn lP ?_ (lC _))));obtain⟨M,O,dr,tk,os⟩:=s;show wpAny _ _ (field (.ref n) 2 >>= _) _ _ _;refine Zl (bP b rfl (x:=.ref j) rfl ?_);refine Zl (VU c d e fun U c1 s1=>?_);replace s1:be j M U:=s1;have b1:gJ U n j k J:=(s1.2 n nj).trans b;show wpAny _ _ (field (.ref n) 3 >>= _) _ _ ⟨U,O,dr,tk,os⟩;refine Zl (bP b1 rfl (x:=rawInt k) rfl ?_);show wpAny _ _ (field (.ref n) 4 >>= _) _ _ ⟨U,O,dr,tk,os⟩;refine Zl (bP b1 rfl (x:=.none) rfl ?_);show wpAny _ _ (mkInt k >>= _) _ _ ⟨U,O,dr,tk,os⟩;refine Zl (wpAny_mkInt ?_);show wpAny _ _ (setField (.ref n) 3 (rawInt ((k:Int)+1)) >>= _) _ _ ⟨U,O,dr,tk+1,os⟩;refine Zl (bM b1 (by simp) fun g2 b2 s2=>?_);replace s2:be n U g2:=s2;replace b2:gJ g2 n j ((k:Int)+1) J:=b2;show wpAny _ _ (setField (.ref n) 4 .none >>= _) _ _ ⟨g2,O,dr,tk+1,os⟩;refine Zl (bM b2 (by simp) fun Y b3 s3=>?_);replace s3:be n g2 Y:=s3;replace b3:gJ Y n j ((k:Int)+1) J:=b3;show wpAny _ _ (newTuple [.int k tk,y] >>= _) _ _ ⟨Y,O,dr,tk+1,os⟩;refine Zl (kJ ?_);have b4:gJ (Y.push {cls:=.type "tuple",data:=.seq #[.int k tk,y]}) n j ((k:Int)+1) J:=Zn _ b3;generalize z4:Y.push {cls:=.type "tuple",data:=.seq #[.int k tk,y]}=g4 at b4;have sz:Y.objs.size=M.objs.size:=by rw[s3.1,s2.1,s1.1]
 have nl:n<M.objs.size:=Zp b;have t4:g4.get? M.objs.size=some {cls:=.type "tuple",data:=.seq #[.int k tk,y]}:=by
  rw[<-z4,<-sz];exact Zo _ rfl
 have w4:g4.objs.size=M.objs.size+1:=by
  rw[<-z4,bu,sz]
 have k4:∀x o,x≠n->x≠j->M.get? x=some o->g4.get? x=some o:=fun x o xn xj hx=>by
  rw[<-z4];exact Zn _ (s3.extBut x o xn (s2.extBut x o xn (s1.extBut x o xj hx)))
 have c4:g4.IsTupleIter j a (k+1):=by
  obtain⟨o,ho,r⟩:=(c1.extBut s2.extBut (bJ nj)).extBut s3.extBut (bJ nj);rw[<-z4];exact⟨o,Zn _ ho,r⟩
 show wpAny _ _ (bv (.ref n) >>= _) _ _ ⟨g4,O,dr,tk+1,os⟩;rw[sz];clear z4 b3 s3 b2 s2 b1 s1 c1 sz Y g2 U;refine Zl ?_;unfold bv;refine Zl (bP b4 rfl (x:=.none) rfl (Zm ?_));rw[if_pos rfl];refine Zl (dJ (Zl (bP b4 rfl (x:=J) rfl ?_)));refine Zl (bM b4 (by simp) fun g5 b5 s5=>?_);replace s5:be n g4 g5:=s5;replace b5:gJ g5 n j ((k:Int)+1) y:=b5;show wpAny _ _ (cq (.ref n) (.ref M.objs.size) >>= _) _ _ ⟨g5,O,dr,tk+1,os⟩;refine Zl ?_;unfold cq;refine Zl (bM b5 (by simp) fun g6 b6 s6=>?_);replace s6:be n g5 g6:=s6;replace b6:IsEnumOut g6 n j ((k:Int)+1) y M.objs.size:=b6;refine bM b6 (by simp) fun g7 b7 s7=>?_;replace s7:be n g6 g7:=s7;replace b7:IsEnumOut g7 n j ((k:Int)+1) y M.objs.size:=b7;refine Zl (jY (Zm ⟨_,rfl,Zm (q g7 b7 ?_ ?_ ?_ ?_)⟩))
 ·exact ((c4.extBut s5.extBut (bJ nj)).extBut s6.extBut (bJ nj)).extBut s7.extBut (bJ nj)
 ·exact s7.extBut _ _ (bw nl) (s6.extBut _ _ (bw nl) (s5.extBut _ _ (bw nl) t4))
 ·rw[s7.1,s6.1,s5.1,w4]
 ·exact fun x o xn xj hx=>s7.extBut x o xn (s6.extBut x o xn (s5.extBut x o xn (k4 x o xn xj hx)))
theorem Zfk {n j a:Addr}{k:Nat}{us:Array Value}{old:Value}{Q:Option Value->Shared->Prop}(O:A.handled=none)(b:gJ s.heap n j k old)(c:s.heap.IsTupleIter j a k)(d:s.heap.IsTuple a us)(e:us[k]?=none)
  (q:∀g,ip j s.heap g->Q none {s with heap:=g}):wpAny (model prog w) A (pyNext (.ref n)) Q E s:=by
 have J:s.TypeIs (.ref n) "enumerate":=⟨_,b,rfl⟩;unfold pyNext;refine Zl (dS (bn (name:=cU "__next__") J fH (bx fH J lP ?_ (lC _))));show wpAny _ _ (field (.ref n) 2 >>= _) _ _ _;refine Zl (bP b rfl (x:=.ref j) rfl ?_);refine Zl (UQ O c d e fun g x U Y=>?_);obtain⟨o,ho,hc⟩:=Y;refine Zl (ik (T:="StopIteration") (b:=true) ⟨o,ho,hc⟩ kQ ?_);exact Zm (q _ U)
theorem Zfj (a:Addr)(q:Array Value)(n:Nat)(M:Option Addr)(O:Array (Option Value)) :
  Meets (cY.«enumerate.__new__» ⟨[.type "enumerate",.ref a],[]⟩) (fun _ R s=>s.heap.get? a=some {cls:=.type "tuple",dict:=M,data:=.seq q n,slots:=O}/\
   R (.ok (.ret (.ref (s.heap.push {cls:=.type "tuple_iterator",data:=.fields #[.ref a,.int 0 0]}).objs.size)))
    {s with heap:=(s.heap.push {cls:=.type "tuple_iterator",data:=.fields #[.ref a,.int 0 0]}).push {cls:=.type "enumerate",data:=.fields #[.none,.bool false,.ref s.heap.objs.size,rawInt 0,.none,.none]}}):=
 .of_wp fun prog w A R s h=>by
  obtain⟨U,Y,dr,tk,os⟩:=s;obtain⟨j,h⟩:=h;have sub:=sub_enumerate;have J:Heap.IsTuple (kA ⟨U,Y,dr,tk,os⟩) a q:=⟨_,j,rfl,n,rfl⟩
  wp_walk using wpAny_loadPart' j
  refine wpAny_stack_any fun st=>Zm ?_;split
  ·rename_i c1 _ _ _ _ _
   cases (c1 == dk "enumerate") <;> (wp_walk using wpAny_loadPart' j,gF J) <;> exact⟨_,rfl,h⟩
  ·wp_walk using wpAny_loadPart' j,gF J
   exact⟨_,rfl,h⟩
theorem Ul {a:Addr}{us:Array Value}{Q:Value->Shared->Prop}(M:s.heap.IsTuple a us)
  (h:∀g,gJ g (s.heap.objs.size+1) s.heap.objs.size 0 .none->g.IsTupleIter s.heap.objs.size a 0->g.objs.size=s.heap.objs.size+2->(∀b o,s.heap.get? b=some o->g.get? b=some o)->Q (.ref (s.heap.objs.size+1)) {s with heap:=g}) :
  wpAny (model prog w) A (call (.type "enumerate") [.ref a]) Q E s:=by
 obtain⟨⟨O,U,Y,sl⟩,ha,hc,n,hd⟩:=M;have j:O=.type "tuple":=hc;have q:Y=.seq us n:=hd;subst j q;refine callType_new F.called_enumerate (by decide) (F.typeCall_enumerate_1 _) (F.newCall_enumerate_1 _) (fun obj=>km obj _) F.entry_enumerate_new (Zfj a us n U sl) ⟨ha,?_⟩;have J:(s.heap.push {cls:=.type "tuple_iterator",data:=.fields #[.ref a,.int 0 0]}).objs.size=s.heap.objs.size+1:=bu ..;show _/\_;rw[J];have he:gJ ((s.heap.push {cls:=.type "tuple_iterator",data:=.fields #[.ref a,.int 0 0]}).push {cls:=.type "enumerate",data:=.fields #[.none,.bool false,.ref s.heap.objs.size,rawInt 0,.none,.none]}) (s.heap.objs.size+1) s.heap.objs.size 0 .none:=by
  have z:=Zo (s.heap.push {cls:=.type "tuple_iterator",data:=.fields #[.ref a,.int 0 0]}) (o:={cls:=.type "enumerate",data:=.fields #[.none,.bool false,.ref s.heap.objs.size,rawInt 0,.none,.none]}) rfl;rw[J] at z;exact z
 exact⟨⟨_,he,rfl⟩,h _ he ⟨_,Zn _ (Zo _ rfl),rfl,rfl⟩ (by rw[bu,J]) fun b o y=>Zn _ (Zn _ y)⟩
end
end PyY
namespace L2
open PySem PySem.Spec PyProof.Rows
section
variable {X:Cx}{pins:List (Addr×Obj)}{σ:St}{H:Hp}{s:Shared}{h':Heap}
theorem Inv.turnLay {t':Nat}{ts:List Addr}{T:Addr}{o:HO}(I:Inv X pins σ H s)(k:∀b u,b∉ts->s.heap.get? b=some u->h'.get? b=some u)(ht:∀b∈ts,∃u,h'.get? b=some u)(O:∀b∈ts,UF X pins H b)(U:s.heap.objs.size<=T)
  (M:Yx X.prog X.w (upd H T o) h' T o):Inv X pins σ (upd H T o) {s with heap:=h',toks:=t'}:=by
 have j:H T=none:=I.hok.fresh U;have J:∀b u,H b=some u->b∉ts:=fun b u e z=>by
  have:=(O b z).1;rw[e] at this;cases this
 refine I.call (ch:=ts) (g':=s.gens) (d':=s.drawn) ⟨fun b u e _ _ nx=>k b u nx e,fun b u e _ _ nx=>⟨u.slots,k b u nx e⟩,fun b u e n _=>?_,fun b u e nx=>⟨u,k b u nx e⟩,fun b Y q=>?_,fun b u v q=>?_,fun b ps q=>⟨#[],?_⟩⟩
  (fun b u e=>?_) I.bare fun b hb=>?_
 ·rw[Zx (ax (aE (Zp e) U))]
  exact n
 ·rw[Zx (Z4 q j)]
  exact q
 ·rw[Zx (Z4 q j)]
  exact q
 ·rw[Zx (Z4 q j),q]
  simp
 ·by_cases hb:b=T
  ·subst hb
   rw[Zt] at e;cases e;exact M
  ·rw[Zx hb] at e
   refine (I.hok b u e).stay (fun c v hc q=>k c v ?_ q) (fun c r=>by rw[Zx (Z4 r j)];exact r) fun c Y r=>by rw[Zx (Z4 r j)];exact r
   rcases hc with z|z
   ·rw[z]
    exact J b u e
   ·exact J c _ z
 ·obtain⟨f0,f1,f2,f3,f4,f5⟩:=O b hb
  exact⟨f3,f1,f4,f5⟩
theorem Inv.turnedL {t':Nat}{ts:List Addr}(I:Inv X pins σ H s)(k:∀b u,b∉ts->s.heap.get? b=some u->h'.get? b=some u)(J:∀b∈ts,UF X pins H b):Inv X pins σ H {s with heap:=h',toks:=t'}:=by
 have j:∀b u,H b=some u->b∉ts:=fun b u e z=>by
  have:=(J b z).1;rw[e] at this;cases this
 refine I.call (ch:=ts) (g':=s.gens) (d':=s.drawn) ⟨fun b u e _ _ nx=>k b u nx e,fun b u e _ _ nx=>⟨u.slots,k b u nx e⟩,fun b u e n _=>n,fun b u e nx=>⟨u,k b u nx e⟩,fun b M q=>q,fun b u v q=>q,fun b ps q=>⟨#[],by rw[q];simp⟩⟩
  (fun b u e=>?_) I.bare fun b hb=>?_
 ·refine (I.hok b u e).stay (fun c v O q=>k c v ?_ q) (fun c r=>r) fun c M r=>r
  rcases O with z|z
  ·rw[z]
   exact j b u e
  ·exact j c _ z
 ·obtain⟨f0,f1,f2,U,Y,f5⟩:=J b hb
  exact⟨U,f1,Y,f5⟩
end
noncomputable def ZjL (K:ab)(a:Addr):It:=
 ⟨fun i H=>∃j x,Wx K H a j/\j[i]?=some x,fun i H x q=>∃T y,x=.ref T/\H T=none/\q=upd H T (.tup [.int i,y])/\∀j,Wx K H a j->j[i]?=some y,fun i H=>∃j,Wx K H a j/\j.length<=i⟩
noncomputable def Zmk (K:ab)(a:Addr):It:=
 ⟨fun i H=>∃j x,JF K H a j/\j[i]?=some x,fun i H x q=>∃T y,x=.ref T/\H T=none/\q=upd H T (.tup [.int i,y])/\∀j,JF K H a j->j[i]?=some y,fun i H=>∃j,JF K H a j/\j.length<=i⟩
theorem VB {P:Program}{w:World}{K:ab}{elts:List Expr}{x1}{pos:Pos}(a e it:Addr)(ne:e≠it) :
  UD P w K (.Tuple elts x1 pos) (ZjL K a) [e,it] e (fun i h=>(∃j,gJ h e it i j)/\h.IsListIter it a i) where
 mem:=by simp
 obj:=fun i h st b hb=>by
  obtain⟨⟨j,J⟩,⟨o,U,c,d⟩⟩:=st;rcases aG.mp hb with rfl|hb
  ·exact⟨_,J,fun v z=>by
    have z':gm _=fU v:=z;cases z'⟩
  ·have q:b=it:=by simpa using hb
   subst q;exact⟨o,U,fun v z=>by rw[d] at z;cases z⟩
 keep:=fun i h h' st k=>by
  obtain⟨⟨j,J⟩,M⟩:=st;exact⟨⟨j,k e (by simp) _ J⟩,M.at fun o q=>k it (by simp) o q⟩
 item:=by
  intro X hP hw hK hc i Y s σ H E I hf st hg;subst hP hw hK;obtain⟨⟨j,J⟩,M⟩:=st;obtain⟨xs,x,hq,hx⟩:=hg;obtain⟨n4,rv,p,hz⟩:=I.list hq;obtain⟨u,hu,ru⟩:=rv.get hx;refine wpAny_pyNext_enum_item J M p.isList (x:=u) (by simpa using hu) ne fun h1 ho n6 hT o5 hk=>?_;refine⟨_,rfl,kK ho fun h2 n8 n9=>?_⟩;have le:e<s.heap.objs.size:=Zp J;have O:be e h1 h2:=n9;have o0:h2.get? s.heap.objs.size=some {cls:=.type "tuple",data:=.seq #[.int i s.toks,u]}:=(O.2 _ (bw le)).trans hT;have m8:h2.IsListIter it a (i+1):=n6.at fun o q=>(O.2 it (bJ ne)).trans q;have m9:gJ h2 e it ((i+1:Nat):Int) u:=by
   have:=n8;simpa using this
  have nT:H s.heap.objs.size=none:=I.hok.fresh (Zq _);have I2:=I.turnLay (t':=s.toks+1) (h':=h2) (ts:=[e,it]) (T:=s.heap.objs.size) (o:=.tup [.int i,x]) (fun b v hb q=>?_) (fun b hb=>?_) hf (Zq _) ⟨by show 2<=sizeLine;decide,[.int i s.toks,u],.cons ⟨_,rfl⟩ (.cons ru .nil),_,o0,rfl,0,rfl⟩
  ·refine⟨.ref s.heap.objs.size,_,I2,rfl,⟨_,x,rfl,nT,rfl,fun ys hy=>by rw[I.list_inj hy hq];exact hx⟩,⟨⟨u,m9⟩,m8⟩,fun b hb=>?_⟩
   have fb:=(hf b hb).1;have lb:b<s.heap.objs.size:=by
    rcases aG.mp hb with rfl|hb
    ·exact le
    ·have q:b=it:=by simpa using hb
     subst q;obtain⟨o,U,_⟩:=M;exact Zp U
   rw[Zx (ax lb)];exact fb
  ·have q1:b≠e:=fun z=>hb (by simp[z])
   have q2:b≠it:=fun z=>hb (by simp[z]);exact (O.2 b q1).trans (hk b v q1 q2 q)
  ·rcases aG.mp hb with rfl|hb
   ·exact⟨_,m9⟩
   ·have q:b=it:=by simpa using hb
    subst q;obtain⟨o,U,_⟩:=m8;exact⟨o,U⟩
 done:=by
  intro X hP hw hK hc i Y s σ H E I hf st hg;subst hP hw hK;obtain⟨⟨j,J⟩,M⟩:=st;obtain⟨xs,hq,hx⟩:=hg;obtain⟨n4,rv,p,hz⟩:=I.list hq;have hl:=rv.length;exact wpAny_pyNext_enum_end (I.ok.hd hc) J M p.isList (by simp;omega) fun h1 eb=>⟨rfl,I.turnedL (t':=s.toks) (ts:=[e,it]) (fun b o hb q=>eb b o (fun z=>hb (by simp[z])) q) hf⟩
 self:=fun _ _ _ _ _ st h=>by
  obtain⟨⟨j,J⟩,M⟩:=st;exact eh J h
theorem VA {P:Program}{w:World}{K:ab}{elts:List Expr}{x1}{pos:Pos}(a e it:Addr)(ne:e≠it) :
  UD P w K (.Tuple elts x1 pos) (Zmk K a) [e,it] e (fun i h=>(∃j,gJ h e it i j)/\h.IsTupleIter it a i) where
 mem:=by simp
 obj:=fun i h st b hb=>by
  obtain⟨⟨j,J⟩,⟨o,Y,c,d⟩⟩:=st;rcases aG.mp hb with rfl|hb
  ·exact⟨_,J,fun v z=>by
    have z':gm _=fU v:=z;cases z'⟩
  ·have q:b=it:=by simpa using hb
   subst q;exact⟨o,Y,fun v z=>by rw[d] at z;cases z⟩
 keep:=fun i h h' st k=>by
  obtain⟨⟨j,J⟩,M⟩:=st;exact⟨⟨j,k e (by simp) _ J⟩,M.at fun o q=>k it (by simp) o q⟩
 item:=by
  intro X hP hw hK hc i m8 s σ H E I hf st hg;subst hP hw hK;obtain⟨⟨j,J⟩,M⟩:=st;obtain⟨xs,x,hq,hx⟩:=hg;obtain⟨O,rv,p,hz⟩:=I.tuple hq;obtain⟨u,hu,ru⟩:=rv.get hx;refine PyY.Zdg J M (show s.heap.IsTuple a O.toArray from p) (y:=u) (by simpa using hu) ne fun h1 ho n6 hT o5 hk=>?_;refine⟨_,rfl,kK ho fun h2 n8 n9=>?_⟩;have le:e<s.heap.objs.size:=Zp J;have U:be e h1 h2:=n9;have o0:h2.get? s.heap.objs.size=some {cls:=.type "tuple",data:=.seq #[.int i s.toks,u]}:=(U.2 _ (bw le)).trans hT;have m9:h2.IsTupleIter it a (i+1):=n6.at fun o q=>(U.2 it (bJ ne)).trans q;have n4:gJ h2 e it ((i+1:Nat):Int) u:=by
   have:=n8;simpa using this
  have nT:H s.heap.objs.size=none:=I.hok.fresh (Zq _);have I2:=I.turnLay (t':=s.toks+1) (h':=h2) (ts:=[e,it]) (T:=s.heap.objs.size) (o:=.tup [.int i,x]) (fun b v hb q=>?_) (fun b hb=>?_) hf (Zq _) ⟨by show 2<=sizeLine;decide,[.int i s.toks,u],.cons ⟨_,rfl⟩ (.cons ru .nil),_,o0,rfl,0,rfl⟩
  ·refine⟨.ref s.heap.objs.size,_,I2,rfl,⟨_,x,rfl,nT,rfl,fun ys hy=>by rw[I.tuple_inj hy hq];exact hx⟩,⟨⟨u,n4⟩,m9⟩,fun b hb=>?_⟩
   have fb:=(hf b hb).1;have lb:b<s.heap.objs.size:=by
    rcases aG.mp hb with rfl|hb
    ·exact le
    ·have q:b=it:=by simpa using hb
     subst q;obtain⟨o,Y,_⟩:=M;exact Zp Y
   rw[Zx (ax lb)];exact fb
  ·have q1:b≠e:=fun z=>hb (by simp[z])
   have q2:b≠it:=fun z=>hb (by simp[z]);exact (U.2 b q1).trans (hk b v q1 q2 q)
  ·rcases aG.mp hb with rfl|hb
   ·exact⟨_,n4⟩
   ·have q:b=it:=by simpa using hb
    subst q;obtain⟨o,Y,_⟩:=m9;exact⟨o,Y⟩
 done:=by
  intro X hP hw hK hc i m8 s σ H E I hf st hg;subst hP hw hK;obtain⟨⟨j,J⟩,M⟩:=st;obtain⟨xs,hq,hx⟩:=hg;obtain⟨O,rv,p,hz⟩:=I.tuple hq;have hl:=rv.length;exact PyY.Zfk (I.ok.hd hc) J M (show s.heap.IsTuple a O.toArray from p) (by simp;omega) fun h1 eb=>⟨rfl,I.turnedL (t':=s.toks) (ts:=[e,it]) (fun b o hb q=>eb b o (fun z=>hb (by simp[z])) q) hf⟩
 self:=fun _ _ _ _ _ st h=>by
  obtain⟨⟨j,J⟩,M⟩:=st;exact eh J h
section
variable {X:Cx}
noncomputable def Zkk (K:ab)(J:TA):TI:=fun M H R=>J M H fun O j=>∃a,O=[.ref a]/\(((∃q,Wx K j a q)/\R (ZjL K a) j)\/((∃q,JF K j a q)/\R (Zmk K a) j))
theorem Znp {elts:List Expr}{x1}{pt:Pos}{l:Expr}{ta:TA}{p pos:Pos}(hm:X.mg "enumerate"=none)(ha:PA X [l] ta)(hg:Y1 X.env.scope "enumerate"=true:=by kernel_rfl)(hs:starEach [l] X.env=[(false,eval l X.env)]:=by rfl) :
  PI X (.Tuple elts x1 pt) (.Call (.Name "enumerate" p) [l] [] pos) (Zkk X.K ta):=by
 intro J s σ H R I h;refine Call_ (Jk I (JZ hg) hm (show bootBuiltins "enumerate"=some (.type "enumerate") by kernel_rfl) (bq (Yg (ha pos J s σ H _ I h) fun us s1 ⟨vs,H1,j,r1,q1⟩=>?_) hs rfl));obtain⟨a,e,q⟩:=q1;subst e;cases r1 with
 |cons r rr=>
  cases rr;cases (show _=aR a from r);have sz:∀b,b∈[s1.heap.objs.size+1,s1.heap.objs.size]->s1.heap.objs.size<=b:=fun b hb=>by
   rcases aG.mp hb with rfl|hb
   ·exact gC _
   ·have:b=s1.heap.objs.size:=by simpa using hb
    rw[this];exact Zq _
  rcases q with ⟨⟨xs,O⟩,q⟩|⟨⟨xs,O⟩,q⟩
  ·obtain⟨M,rv,p,hz⟩:=j.list O
   refine call_enumerate_list p.isList fun g ge U gs Y=>?_;refine eh ge ?_;exact⟨_,[s1.heap.objs.size+1,s1.heap.objs.size],_,_,H1,rfl,j.kept (t':=s1.toks) Y,VB a _ _ (bw (dh _)),⟨⟨_,ge⟩,U⟩,fun b hb=>j.fpOk (sz b hb) (j.hok.fresh (sz b hb)),q⟩
  ·obtain⟨M,rv,p,hz⟩:=j.tuple O
   refine PyY.Ul (show s1.heap.IsTuple a M.toArray from p) fun g ge U gs Y=>?_;refine eh ge ?_;exact⟨_,[s1.heap.objs.size+1,s1.heap.objs.size],_,_,H1,rfl,j.kept (t':=s1.toks) Y,VA a _ _ (bw (dh _)),⟨⟨_,ge⟩,U⟩,fun b hb=>j.fpOk (sz b hb) (j.hok.fresh (sz b hb)),q⟩
theorem Xy (K:ab){elts:List Expr}{q}{pt:Pos}{l:Expr}{j:TA}{p pos:Pos}(J:X.mg "enumerate"=none)(M:PA X [l] j)(O:X.K=K:=by rfl)(U:Y1 X.env.scope "enumerate"=true:=by kernel_rfl)(Y:starEach [l] X.env=[(false,eval l X.env)]:=by rfl) :
  PI X (.Tuple elts q pt) (.Call (.Name "enumerate" p) [l] [] pos) (Zkk K j):=O▸Znp J M U Y
end
structure Zh9 (J:It)(At:Hp->Prop)(xs:List V):Prop where
 go:∀i H,At H->i<xs.length->J.go i H
 yld:∀i H x H2,At H->J.yld i H x H2->∃T y,x=.ref T/\H T=none/\H2=upd H T (.tup [.int i,y])/\xs[i]?=some y
 stop:∀i H,At H->xs.length<=i->J.stop i H
theorem V5 {K:ab}{a:Addr}{xs:List V}:Zh9 (ZjL K a) (fun H=>Wx K H a xs) xs:=
 ⟨fun i H h hi=>⟨xs,xs[i],h,by simp[hi]⟩,fun i H x O h j=>by
  obtain⟨T,y,e,J,M,q⟩:=j;exact⟨T,y,e,J,M,q xs h⟩,fun i H h hi=>⟨xs,h,hi⟩⟩
theorem XV {K:ab}{a:Addr}{xs:List V}:Zh9 (Zmk K a) (fun H=>JF K H a xs) xs:=
 ⟨fun i H h hi=>⟨xs,xs[i],h,by simp[hi]⟩,fun i H x O h j=>by
  obtain⟨T,y,e,J,M,q⟩:=j;exact⟨T,y,e,J,M,q xs h⟩,fun i H h hi=>⟨xs,h,hi⟩⟩
theorem Y9 {J:It}{g:TG}{tb:TS}{D:J8}{σ:St}{H:Hp}{Y:Hp->Prop}{xs:List V}(S:Zh9 J Y xs)(Pv:Nat->St->Hp->Prop)(h0:Pv 0 σ H)(hS:∀i σ H,Pv i σ H->Y H)
  (hs:∀(i:Nat) y σ H T,xs[i]?=some y->Pv i σ H->H T=none->g (.ref T) σ (upd H T (.tup [.int i,y])) fun q U=>tb {D with nx:=Pv (i+1),ct:=Pv (i+1),bk:=D.nx} q U) (hd:∀ σ H,Pv xs.length σ H->D.nx σ H) :
  ∃W:Nat->Nat->St->Hp->Prop,(∃m,W 0 m σ H)/\∀i m σ H,W i m σ H->
   (J.stop i H/\D.nx σ H)\/(J.go i H/\∃N:St->Hp->Prop,(∀ M j,N M j->∃m',m'<m/\W (i+1) m' M j)/\∀x j,J.yld i H x j->g x σ j fun q U=>tb {D with nx:=N,ct:=N,bk:=D.nx} q U):=by
 refine⟨fun i m σ H=>m=xs.length-i/\i<=xs.length/\Pv i σ H,⟨_,rfl,aZ _,h0⟩,?_⟩;rintro i m σ H ⟨rfl,hi,p⟩;have s:=hS i σ H p;by_cases O:i<xs.length
 ·refine .inr ⟨S.go i H s O,Pv (i+1),fun M j p'=>⟨xs.length-(i+1),by omega,rfl,O,p'⟩,fun x j hy=>?_⟩
  obtain⟨T,y,rfl,hT,rfl,hx⟩:=S.yld i H x j s hy;exact hs i y σ H T hx p hT
 ·have e:i=xs.length:=by omega
  subst e;exact .inl ⟨S.stop _ H s (Zq _),hd σ H p⟩
noncomputable def Itd (lo:Int)(n:Nat):It:=⟨fun i _=>i<n,fun i H x j=>j=H/\x=.int (lo-i),fun i _=>n<=i⟩
theorem ZeP {P:Program}{w:World}{K:ab}{tg:Expr}(it:Addr)(lo:Int)(n:Nat):UD P w K tg (Itd lo n) [it] it (fun i h=>gR h it (lo+(i:Nat)*(-1)) ((n:Int)-(i:Nat)) (-1)) where
 mem:=by simp
 obj:=fun i h st b hb=>by
  have e:b=it:=by simpa using hb
  subst e;exact⟨_,st,fun v z=>by
   have z':gm _=fU v:=z;cases z'⟩
 keep:=fun i h J st k=>k it (by simp) _ st
 item:=by
  intro X O U Y hc i j s σ H E I M st hg;subst O U Y;obtain⟨f0,f1,f2,f3,f4,f5⟩:=M it (by simp);have W:=kR (prog:=X.prog) (w:=X.w) (I.ok.hd hc) it lo (-1) n;refine W.item i s _ _ hg st fun v J tk hv q kk=>?_;obtain⟨t,rfl⟩:=hv;have I1:Inv X j σ H {s with heap:=J,toks:=tk}:=I.turned (fun b o hb e=>kk b o (by simpa using hb) e) f0 f1 f3 f4 f5;refine⟨_,rfl,Zcb (s:={s with heap:=J,toks:=tk}) (n:="range_iterator") q rfl rfl (by decide) ⟨.int (lo-i),H,I1,⟨t,?_⟩,⟨rfl,rfl⟩,q,fun b hb=>(M b hb).1⟩⟩;rw[show lo-(i:Int)=lo+(i:Int)*(-1) by omega]
 done:=by
  intro X O U Y hc i j s σ H E I M st hg;subst O U Y;obtain⟨f0,f1,f2,f3,f4,f5⟩:=M it (by simp);exact ix (I.ok.hd hc) st (by have:n<=i:=hg;omega) fun J eb=>⟨rfl,I.turned (t':=s.toks) (fun b o hb e=>eb b o hb e) f0 f1 f3 f4 f5⟩
 self:=fun _ _ _ _ _ st h=>iy st h
theorem rangeSize_down (a b:Int):bf a b (-1)=if b<a then a-b else 0:=by
 unfold bf;rw[if_neg (by decide),Int.neg_neg,Int.ediv_one];by_cases h:b<a
 ·rw[if_pos h,if_pos h]
  omega
 ·rw[if_neg h,if_neg h]
theorem small_down {a b:Int}(j:-(2 ^ 62)<=a)(q:a<2 ^ 62)(J:-(2 ^ 62)<=b)(M:b<2 ^ 62):cx a b (-1)=true:=by
 unfold cx;rw[rangeSize_down];simp only[iG,af,bg,decide_eq_true_eq,beq_iff_eq,show ¬((-1:Int) > 0) by decide,if_false];split <;> omega
noncomputable def Znl (q:TA):TI:=fun J H R=>q J H fun M O=>∃i j:Int,M=[.int i,.int j,.int (-1)]/\(-(2 ^ 62)<=i/\i<2 ^ 62/\-(2 ^ 62)<=j/\j<2 ^ 62)/\R (Itd i (i-j).toNat) O
theorem ZmY {X:Cx}{tg a b c:Expr}{ta:TA}{p pos:Pos}(hm:X.mg "range"=none)(ha:PA X [a,b,c] ta)(hg:Y1 X.env.scope "range"=true:=by kernel_rfl)(hs:starEach [a,b,c] X.env=(false,eval a X.env)::starEach [b,c] X.env:=by rfl)(Y:(backTo pos (starEach [b,c] X.env)).any (·.1)=false:=by rfl) :
  PI X tg (.Call (.Name "range" p) [a,b,c] [] pos) (Znl ta):=by
 intro M s σ H R I h;refine Call_ (Jk I (JZ hg) hm lf (bq (Yg (ha pos M s σ H _ I h) fun us s1 ⟨vs,H1,I1,r1,q1⟩=>?_) hs Y));obtain⟨i,j,e,⟨q1,q2,q3,q4⟩,q⟩:=q1;subst e;cases r1 with
 |cons r O=>
  cases O with
  |cons r' O=>
   cases O with
   |cons m8 O=>
    cases O;obtain⟨t,rfl⟩:=r;obtain⟨U,rfl⟩:=r';obtain⟨J,rfl⟩:=m8;refine call_range_3 (by decide) ?_ (Or.inl (jV (by decide)));refine jf (ki ..) (small_down q1 q2 q3 q4) ?_;have I2:Inv X M σ H1 {s1 with heap:=s1.heap.push {cls:=.type "range",data:=.fields #[.int i t,.int j U,.int (-1) J]},toks:=s1.toks}:=I1.kept fun b o e=>Zn _ e;refine⟨(s1.heap.push {cls:=.type "range",data:=.fields #[.int i t,.int j U,.int (-1) J]}).objs.size,[(s1.heap.push {cls:=.type "range",data:=.fields #[.int i t,.int j U,.int (-1) J]}).objs.size],_,_,H1,rfl,
     I2.kept (t':=s1.toks) fun b o e=>Zn _ e,ZeP _ i (i-j).toNat,?_,fun b hb=>?_,q⟩
    ·have e1:i+((0:Nat):Int)*(-1)=i:=by simp
     have e2:(((i-j).toNat:Nat):Int)-((0:Nat):Int)=bf i j (-1):=by rw[rangeSize_down];split <;> omega
     show gR _ _ (i+((0:Nat):Int)*(-1)) ((((i-j).toNat:Nat):Int)-((0:Nat):Int)) (-1);rw[e1,e2];exact Zo _ rfl
    ·have e:b=(s1.heap.push {cls:=.type "range",data:=.fields #[.int i t,.int j U,.int (-1) J]}).objs.size:=by simpa using hb
     subst e;exact I2.fpOk (Zq _) (I2.hok.fresh (Zq _))
theorem Zcd {lo:Int}{n:Nat}{g:TG}{tb:TS}{D:J8}{σ:St}{H:Hp}(Pv:Nat->St->Hp->Prop)(h0:Pv 0 σ H)
  (Y:∀i σ H,i<n->Pv i σ H->g (.int (lo-i)) σ H fun j O=>tb {D with nx:=Pv (i+1),ct:=Pv (i+1),bk:=D.nx} j O) (hd:∀ σ H,Pv n σ H->D.nx σ H) :
  ∃W:Nat->Nat->St->Hp->Prop,(∃m,W 0 m σ H)/\∀i m σ H,W i m σ H->
   ((Itd lo n).stop i H/\D.nx σ H)\/((Itd lo n).go i H/\∃N:St->Hp->Prop,(∀ q J,N q J->∃U,U<m/\W (i+1) U q J)/\∀x J,(Itd lo n).yld i H x J->g x σ J fun j O=>tb {D with nx:=N,ct:=N,bk:=D.nx} j O):=by
 refine⟨fun i m σ H=>m=n-i/\i<=n/\Pv i σ H,⟨n,by simp,aZ _,h0⟩,?_⟩;rintro i m σ H ⟨rfl,hi,p⟩;by_cases M:i<n
 ·refine .inr ⟨M,Pv (i+1),fun q J p'=>⟨n-(i+1),by omega,rfl,M,p'⟩,fun x J hy=>?_⟩
  obtain⟨e,rfl⟩:=hy;subst e;exact Y i σ _ M p
 ·have e:i=n:=by omega
  subst e;exact .inl ⟨Zq _,hd σ H p⟩
theorem g2 (K:ab)(i j:Nat){X:Cx}{x y:Str}{k}{q J pos:Pos}(O:X.calm=true)(U:PG X (.Name x q) (Yn i))(Y:PG X (.Name y J) (Yn j))(hK:X.K=K:=by rfl)
  (hn:(assignEach [.Name x q,.Name y J] X.env).length=2:=by rfl) (M:(assignEach [.Name x q,.Name y J] X.env).findIdx? (·.1)=none:=by rfl) :
  PG X (.Tuple [.Name x q,.Name y J] k pos) (Zhy K 2 (Xx (Yn i) (Xx (Yn j) Zhz))):=hK▸ZkZ O (ZbK U (ZbK Y ZiH)) hn M
structure Sml (k b:Nat)(d:ed):Prop where
 sh:d.showable=true
 nd:d.hasDict=false
 dp:d.depth<=k
 lv:d.leavesShort 300=true
 bl:d.bulk<=b
theorem Sml.all {k b:Nat}:∀{ds:List ed},(∀d∈ds,Sml k b d)->eQ ds=true/\f8 ds=false/\ck ds<=k/\cp 300 ds=true/\ie ds<=ds.length*(b+1)
 | [],_=>⟨rfl,rfl,aZ _,rfl,aZ _⟩
 |d::ds,h=>by
  obtain⟨j,q,J,M,U⟩:=Sml.all (ds:=ds) fun e O=>h e (ay _ O);have hd:=h d aB;refine⟨?_,?_,?_,?_,?_⟩
  ·simp only[eQ,hd.sh,j,ke]
  ·simp only[f8,hd.nd,q,Bool.or_self]
  ·simp only[ck]
   exact Nat.max_le.mpr ⟨hd.dp,J⟩
  ·simp only[cp,hd.lv,M,ke]
  ·simp only[ie,Zi]
   have:=hd.bl;rw[cy];omega
theorem Sml.tup {k b n:Nat}{ds:List ed}(j:ds.length<=n)(h:∀d∈ds,Sml k b d):Sml (k+1) (n*(b+1)) (.tuple ds):=by
 obtain⟨q,J,U,M,O⟩:=Sml.all h;refine⟨by simp only[jc];exact q,by simp only[mJ];exact J,by simp only[dW];omega,by simp only[cv];exact M,?_⟩;simp only[PyData.bulk];exact a6 O (cV _ j)
theorem Ziq {k:Nat}(h:k<=1000):Sml 0 0 (.int (k:Int)):=by
 obtain⟨j,_,_,q,_,_⟩:=Xh (ns:=[(k:Int)]) (fun n J=>by
  rw[aS.mp J,iV];exact Nat.lt_of_le_of_lt h (by decide))
 simp only[aF,fh,eQ,cp,fG] at j q;exact⟨j,rfl,aZ _,q,aZ _⟩
end L2
namespace Pm
open PySem L2 PySem.Spec PyProof.Rows
open Tb
noncomputable def nV (k:Nat):V:=.int (k:Int)
noncomputable def GT (H:Hp)(g:Addr)(t:List (List Nat)):Prop:=∃rs:List Addr,H g=some (.tup (rs.map V.ref))/\rs.length=t.length/\∀(i:Nat) r,rs[i]?=some r->Tz H r ((t.getD i []).map nV)
theorem GT.mono {H j:Hp}{g:Addr}{t:List (List Nat)}(s:Same H j)(G:GT H g t):GT j g t:=by
 obtain⟨q,J,M,O⟩:=G;exact⟨q,s _ _ J,M,fun i r U=>(O i r U).mono s⟩
theorem Xj {t:List (List Nat)}(P:PW t){a:Nat}(j:a<t.length):(t.getD a []).length=t.length:=by
 refine P.len _ ?_;rw[Zb,Zf j];exact bc j
theorem XL {t:List (List Nat)}(P:PW t){a b:Nat}(j:a<t.length)(hb:b<t.length):((t.getD a []).map nV)[b]?=some (.int (ZJ t a b:Nat)):=by
 have q:=Xj P j;unfold ZJ;generalize t.getD a []=row at *;rw[Zc,Zf (show b<row.length by omega),Zb,Zf (show b<row.length by omega)];rfl
theorem GT.at {H:Hp}{g:Addr}{t:List (List Nat)}(G:GT H g t)(P:PW t){a:Nat}(J:a<t.length):∃(j:List Addr) (r:Addr),H g=some (.tup (j.map V.ref))/\j.length=t.length/\XH (j.map V.ref) (a:Int)=some (.ref r)/\Tz H r ((t.getD a []).map nV)/\∀b,b<t.length->XH ((t.getD a []).map nV) (b:Int)=some (.int (ZJ t a b:Nat)):=by
 obtain⟨j,M,O,U⟩:=G;have q:j[a]?=some (j[a]'(by omega)):=Zf (by omega);exact⟨j,_,M,O,ZU (by rw[Zc,q];rfl),U a _ q,fun b hb=>ZU (XL P J hb)⟩
noncomputable def ZoZ (H:Hp)(L:Addr)(rs:List Addr)(f:Nat->List Nat):Prop:=H L=some (.lst (rs.map V.ref))/\∀(i:Nat) r,rs[i]?=some r->Tz H r ((f i).map nV)
theorem Jy {n i:Nat}(h:i<n):ixN n (i:Int)=some i:=by
 unfold ixN;rw[if_pos (f9 _),if_pos (by omega),Zj]
theorem Zch {α:Type}:∀(l:List α) (i:Nat) (h:i<l.length),(l[i]::l.eraseIdx i).Perm l
 |x::l,0,h=>cW _
 |x::l,i+1,h=>by
  show ((l[i]'(cI h))::x::l.eraseIdx i).Perm (x::l);exact (i8 x _ _).trans (List.Perm.cons x (Zch l i (cI h)))
theorem Zk5 {n:Nat}{os:List Nat}(q:1<=n)(p:os.Perm (ac n))(h0:os[0]?=some 0):Ord n os:=by
 refine⟨by rw[p.length_eq,Zg],p.nodup_iff.mpr eC,fun v j=>p.mem_iff.mpr (ae.mpr j),fun v j=>ae.mp (p.mem_iff.mp j),?_⟩;rw[Zb,h0];rfl
theorem Zc3 {xs:List Nat}{i:Nat}{y:V}(h:(xs.map nV)[i]?=some y):∃k,xs[i]?=some k/\y=.int (k:Nat):=by
 rw[Zc] at h;cases e:xs[i]? with
 |none=>rw[e] at h;cases h
 |some k=>rw[e] at h;exact⟨k,rfl,(aw h).symm⟩
noncomputable def J1 (f g:List Nat):List Nat:=g.map fun i=>f.getD i 0
noncomputable def nI (xs:List Nat):List Int:=xs.map fun k:Nat=>((k:Nat):Int)
theorem Znf (xs:List Nat):(nI xs).map V.int=xs.map nV:=by unfold nI;rw[aU];rfl
noncomputable def TupsAt (H:Hp)(L:Addr)(bs:List Addr)(yss:List (List Nat)):Prop:=H L=some (.lst (bs.map V.ref))/\bs.length=yss.length/\∀(i:Nat) b,bs[i]?=some b->H b=some (.tup ((yss.getD i []).map nV))
theorem TupsAt.mono {H j:Hp}{L:Addr}{bs:List Addr}{yss:List (List Nat)}(s:Same H j)(R:TupsAt H L bs yss):TupsAt j L bs yss:=⟨s _ _ R.1,R.2.1,fun i b hb=>s _ _ (R.2.2 i b hb)⟩
theorem TupsAt.push {H:Hp}{L:Addr}{bs:List Addr}{yss:List (List Nat)}{b:Addr}{ys:List Nat}(R:TupsAt H L bs yss)(h:H b=some (.tup (ys.map nV))):TupsAt (upd H L (.lst (bs.map V.ref++[.ref b]))) L (bs++[b]) (yss++[ys]):=by
 have ne:∀{b ys},H b=some (.tup ys)->upd H L (.lst (bs.map V.ref++[.ref b])) b=some (.tup ys):=fun {b ys} hb=>by
  rw[Zx (fun z=>by rw[z,R.1] at hb;cases hb)];exact hb
 refine⟨by rw[Zt,aT];rfl,by rw[Zd,Zd,R.2.1];rfl,fun i c j=>?_⟩;have q:c≠L->upd H L (.lst (bs.map V.ref++[.ref b])) c=H c:=fun z=>Zx z;by_cases J:i<bs.length
 ·rw[am J] at j
  have:=R.2.2 i c j;rw[q (fun z=>by rw[z,R.1] at this;cases this),Zb,am (by rw[<-R.2.1];exact J),<-Zb];exact this
 ·rw[aq (by omega)] at j
  have M:i-bs.length=0:=by
   apply ah;intro z;rw[ag (by rw[Zk];omega)] at j;cases j
  rw[M] at j;cases j;have:i=yss.length:=by rw[<-R.2.1];omega
  rw[q (fun z=>by rw[z,R.1] at h;cases h),this,Zb,aq (Zq _),cm];exact h
theorem ZaB {K:ab}{H:Hp}:∀(bs:List Addr) (yss:List (List Nat)),bs.length=yss.length->(∀(j:Nat) b,bs[j]?=some b->H b=some (.tup ((yss.getD j []).map nV)))->WS K H (bs.map V.ref) (yss.map fun ns=>iM ((nI ns).map a7))
 | [],[],_,_=>.nil
 | [],_::_,h,_=>by cases h
 |_::_,[],h,_=>by cases h
 |b::bs,y::yss,h,g=>by
  have hb:=g 0 b rfl;have q:H b=some (.tup ((nI y).map V.int)):=by rw[Znf];exact hb
  exact .cons (.tup (.of q) (WS.ints _)) (ZaB bs yss (c6 h) fun j J M=>g (j+1) J M)
theorem Zll {a b:List Nat}:nI a=nI b↔a=b:=by
 constructor
 ·intro h
  unfold nI at h;exact (eX (fun x y e=>by exact Int.ofNat.inj e)).mp h
 ·intro h;rw[h]
theorem Zno (a b:List Nat):gK (.tuple ((nI a).map a7)) (.tuple ((nI b).map a7))=decide (a=b):=by
 have:gK (.tuple ((nI a).map a7)) (.tuple ((nI b).map a7))=decide (nI a=nI b):=by
  show PyData.eqvAll _ _=_;exact PySem.W.ked_eqvAll _ _
 rw[this,decide_eq_decide];exact Zll
theorem Za6 (yss:List (List Nat))(o:List Nat):((yss.map fun ns=>iM ((nI ns).map a7)).any fun y=>y.eqv (.tuple ((nI o).map a7)))=yss.contains o:=by
 rw[fQ,List.contains_eq_any_beq];congr 1;funext y;show gK _ _=(o == y);rw[Zno];by_cases h:y=o
 ·rw[decide_eq_true h,h,beq_self_eq_true]
 ·rw[decide_eq_false h]
  exact (beq_eq_false_iff_ne.mpr (fun z=>h z.symm)).symm
noncomputable def ZlM (j:List Nat):V->V
 | .int z=>nV (j.getD z.toNat 0)
 |y=>y
theorem ZhG (j g:List Nat):(g.map nV).map (ZlM j)=(J1 j g).map nV:=by
 unfold J1;rw[aU,aU];refine a9 fun b _=>?_;show nV (j.getD (b:Int).toNat 0)=nV (j.getD b 0);rw[Zj]
noncomputable def Y4 (j:List (List Nat)):List (List Nat):=j.map fun a=>j.map fun b=>j.findIdx (· == J1 a b)
noncomputable def Gk (k:Nat)(y:List Nat):Prop:=y.length=k/\∀x∈y,x<k
theorem Zh3 {k:Nat}{a g:List Nat}(j:Gk k a)(q:Gk k g):Gk k (J1 a g):=by
 unfold J1;refine⟨by rw[Za];exact q.1,fun x J=>?_⟩;obtain⟨i,hi,rfl⟩:=aI.mp J;have M:=q.2 i hi;have O:=j.1;rw[Zb,Zf (show i<a.length by omega)];exact j.2 _ (bc _)
theorem TupsAt.get {H:Hp}{L:Addr}{bs:List Addr}{yss:List (List Nat)}(R:TupsAt H L bs yss){i:Nat}(j:i<yss.length):∃b,bs[i]?=some b/\XH (bs.map V.ref) (i:Int)=some (.ref b)/\H b=some (.tup ((yss.getD i []).map nV)):=by
 have hb:i<bs.length:=by rw[R.2.1];exact j
 have e:bs[i]?=some bs[i]:=Zf hb;exact⟨_,e,ZU (by rw[Zc,e];rfl),R.2.2 i _ e⟩
theorem TupsAt.ref {H:Hp}{L:Addr}{bs:List Addr}{yss:List (List Nat)}(R:TupsAt H L bs yss){i:Nat}{y:V}(h:(bs.map V.ref)[i]?=some y):∃b,y=.ref b/\i<yss.length/\H b=some (.tup ((yss.getD i []).map nV)):=by
 rw[Zc] at h;cases e:bs[i]? with
 |none=>rw[e] at h;cases h
 |some b=>
  rw[e] at h;refine⟨b,(aw h).symm,?_,R.2.2 i b e⟩;rw[<-R.2.1];exact (aa.mp e).1
theorem getL {yss:List (List Nat)}{i:Nat}(h:i<yss.length):yss[i]?=some (yss.getD i []):=by
 rw[Zb,Zf h];rfl
theorem Zc4 {yss:List (List Nat)}{i:Nat}(h:i<yss.length):yss.getD i []∈yss:=aD (getL h)
theorem Znd {xs:List Nat}{i:Nat}(h:i<xs.length):XH (xs.map nV) (i:Int)=some (nV (xs.getD i 0)):=ZU (by rw[Zc,Zf h,Zb,Zf h];rfl)
noncomputable def ZbX:List (List Nat)->Hp->(List V->Hp->Prop)->Prop
 | [],H,Q=>Q [] H
 |x::r,H,Q=>(x.map nV).length<=sizeLine/\∀p,H p=none->ZbX r (upd H p (.tup (x.map nV))) fun j q=>Q (.ref p::j) q
theorem Jx:∀(xss:List (List Nat)) (H:Hp) (Q:List V->Hp->Prop),(∀x∈xss,x.length<=1000)->
  (∀(bs:List Addr) (j:Hp),Same H j->bs.length=xss.length->(∀(i:Nat) b,bs[i]?=some b->j b=some (.tup ((xss.getD i []).map nV)))->Q (bs.map V.ref) j)->ZbX xss H Q
 | [],H,Q,_,q=>q [] H (Same.refl _) rfl fun i b hb=>by cases hb
 |x::r,H,Q,M,q=>by
  have sz:(16777216:Nat)=sizeLine:=by decide
  refine⟨?_,fun p U=>Jx r _ _ (fun y Y=>M y (ay _ Y)) fun bs j O hb hi=>?_⟩
  ·have:=M x aB
   rw[Za];omega
  ·refine q (p::bs) j ((Same.upd U).trans O) (by rw[Zi,Zi,hb]) fun i b J=>?_
   cases i with
   |zero=>
    cases J;exact O _ _ Zt
   |succ i=>exact hi i b J
noncomputable def Zg6:List (List (List Nat))->Hp->(List V->Hp->Prop)->Prop
 | [],H,Q=>Q [] H
 |j::r,H,Q=>ZbX j H fun q J=>q.length<=sizeLine/\∀p,J p=none->Zg6 r (upd J p (.lst q)) fun M O=>Q (.ref p::M) O
theorem X9:∀(j:List (List (List Nat))) (H:Hp) (Q:List V->Hp->Prop),(∀xss∈j,xss.length<=1000/\∀x∈xss,x.length<=1000)->
  (∀(ls:List Addr) (J:Hp),Same H J->ls.length=j.length->(∀(i:Nat) l,ls[i]?=some l->H l=none/\∃bs,TupsAt J l bs (j.getD i []))->Q (ls.map V.ref) J)->Zg6 j H Q
 | [],H,Q,_,q=>q [] H (Same.refl _) rfl fun i b hb=>by cases hb
 |xss::r,H,Q,hl,q=>by
  have sz:(16777216:Nat)=sizeLine:=by decide
  obtain⟨h1,h2⟩:=hl xss aB;refine Jx xss H _ h2 fun bs H1 s1 hb hi=>⟨by rw[Za];omega,fun p O=>X9 r _ _ (fun y hy=>hl y (ay _ hy)) fun ls J s' U Y=>?_⟩;have s2:=s1.trans (Same.upd (o:=.lst (bs.map V.ref)) O);refine q (p::ls) J (s2.trans s') (by rw[Zi,Zi,U]) fun i l M=>?_;cases i with
  |zero=>
   cases M;refine⟨s1.free O,bs,TupsAt.mono s' ⟨Zt,hb,fun i b m8=>?_⟩⟩;exact Same.upd (o:=.lst (bs.map V.ref)) O _ _ (hi i b m8)
  |succ i=>
   obtain⟨h3,h4⟩:=Y i l M;exact⟨s2.free h3,h4⟩
section
variable {X:Cx}
noncomputable def teT (x:List Nat):TE:=fun _ H Q=>(x.map nV).length<=sizeLine/\∀p,H p=none->Q (.ref p) (upd H p (.tup (x.map nV)))
theorem ZiI (x:List Nat){j:List Expr}{t:TA}{q}{pos:Pos}(h:PA X j t)(e:t=fun _ H Q=>Q (x.map nV) H):PE X (.Tuple j q pos) (teT x):=by
 subst e;exact Zk1 h
noncomputable def taN (xss:List (List Nat)):TA:=fun _ H Q=>ZbX xss H Q
theorem ZiO:PA X [] (taN []):=Zu
theorem pan {e:Expr}{j:List Expr}{x:List Nat}{xss:List (List Nat)}(h:PE X e (teT x))(r:PA X j (taN xss))(q:Wv e=true:=by rfl):PA X (e::j) (taN (x::xss)):=pc h r q
noncomputable def teL (xss:List (List Nat)):TE:=fun _ H Q=>ZbX xss H fun j q=>j.length<=sizeLine/\∀p,q p=none->Q (.ref p) (upd q p (.lst j))
theorem ZiJ {j:List Expr}{xss:List (List Nat)}{pos:Pos}(h:PA X j (taN xss)):PE X (.List j pos) (teL xss):=ZS h
noncomputable def taL (j:List (List (List Nat))):TA:=fun _ H Q=>Zg6 j H Q
theorem ZiP:PA X [] (taL []):=Zu
theorem pal {e:Expr}{q:List Expr}{xss:List (List Nat)}{j:List (List (List Nat))}(h:PE X e (teL xss))(r:PA X q (taL j))(J:Wv e=true:=by rfl):PA X (e::q) (taL (xss::j)):=pc h r J
structure QE (X:Cx)(e:Expr)(t:TE):Prop where
 h:PE X e t
structure QA (X:Cx)(es:List Expr)(t:TA):Prop where
 h:PA X es t
structure QS (X:Cx)(st:Stmt)(t:TS):Prop where
 h:PS X st t
structure QSs (X:Cx)(sts:List Stmt)(t:TS):Prop where
 h:PSs X sts t
theorem qi {i:Int}{j}{pos:Pos}:QE X (.Constant (.int i) j pos) (tC (.int i)):=⟨Zw⟩
theorem YE:QA X [] Zij:=⟨Zu⟩
theorem qa {e:Expr}{j:List Expr}{q:TE}{t:TA}(h:QE X e q)(r:QA X j t)(J:Wv e=true:=by rfl):QA X (e::j) (Zbh q t):=⟨pc h.h r.h J⟩
theorem We (x:List Nat){j:List Expr}{t:TA}{q}{pos:Pos}(h:QA X j t)(e:t=fun _ H Q=>Q (x.map nV) H):QE X (.Tuple j q pos) (teT x):=⟨ZiI x h.h e⟩
theorem WE:QA X [] (taN []):=⟨ZiO⟩
theorem qan {e:Expr}{j:List Expr}{x:List Nat}{xss:List (List Nat)}(h:QE X e (teT x))(r:QA X j (taN xss))(q:Wv e=true:=by rfl):QA X (e::j) (taN (x::xss)):=⟨pan h.h r.h q⟩
theorem Xk {j:List Expr}{xss:List (List Nat)}{pos:Pos}(h:QA X j (taN xss)):QE X (.List j pos) (teL xss):=⟨ZiJ h.h⟩
theorem Zd6:QA X [] (taL []):=⟨ZiP⟩
theorem qal {e:Expr}{q:List Expr}{xss:List (List Nat)}{j:List (List (List Nat))}(h:QE X e (teL xss))(r:QA X q (taL j))(J:Wv e=true:=by rfl):QA X (e::q) (taL (xss::j)):=⟨pal h.h r.h J⟩
theorem Zm3 {j:List Expr}{t:TA}{pos:Pos}(h:QA X j t):QE X (.List j pos) (ZkE t):=⟨ZS h.h⟩
theorem Zka (i:Nat){x:Str}{e:Expr}{q:TE}{pos j:Pos}(J:X.fn x=true)(M:QE X e q)(O:X.N[i]?=some x:=by rfl)(U:WZ X.N=true:=by kernel_rfl)(Y:UZ X.env.scope x=true:=by kernel_rfl)
  (hs:swapsWith e (some (.Name x j)) pos.line X.env=pure false:=by rfl):QS X (.Assign [.Name x j] e pos) (ZcG q (Yn i)):=⟨ZE i J M.h O U Y hs⟩
theorem WX {st:Stmt}{rest:List Stmt}{t u:TS}(j:QS X st t)(q:QSs X rest u):QSs X (st::rest) (ZkD t u):=⟨Zs j.h q.h⟩
theorem QSs.out {j:List Stmt}{t:TS}(h:QSs X j t):PSs X j t:=h.h
theorem Zit {j:TE}{g:TG}{u:TS}{D:J8}{σ:L2.St}{H:Hp}(h:j σ H fun x q=>g x σ q (u D)):ZkD (ZcG j g) u D σ H:=h
theorem Zbg (j:List (List (List Nat))){σ:L2.St}{H:Hp}{Q:VK}(M:∀xss∈j,xss.length<=1000/\∀x∈xss,x.length<=1000)(hk:j.length<=1000)
  (q:∀(ls:List Addr) (J:Hp),Same H J->ls.length=j.length->(∀(i:Nat) l,ls[i]?=some l->H l=none/\∃bs,TupsAt J l bs (j.getD i []))->∀S,J S=none->Q (.ref S) (upd J S (.lst (ls.map V.ref)))):ZkE (taL j) σ H Q:=by
 have sz:(16777216:Nat)=sizeLine:=by decide
 exact X9 j H _ M fun ls J O U Y=>⟨by rw[Za];omega,q ls J O U Y⟩
theorem ZfY (xss:List (List Nat)){σ:L2.St}{H:Hp}{Q:VK}(J:∀x∈xss,x.length<=1000)(Y:xss.length<=1000)
  (q:∀(bs:List Addr) (j:Hp),Same H j->bs.length=xss.length->(∀(i:Nat) b,bs[i]?=some b->j b=some (.tup ((xss.getD i []).map nV)))->∀S,j S=none->Q (.ref S) (upd j S (.lst (bs.map V.ref)))):teL xss σ H Q:=by
 have sz:(16777216:Nat)=sizeLine:=by decide
 exact Jx xss H _ J fun bs j M O U=>⟨by rw[Za];omega,q bs j M O U⟩
end
theorem Ziy {bs:List Addr}{i:Nat}(h:i<bs.length):∃b,bs[i]?=some b/\XH (bs.map V.ref) (i:Int)=some (.ref b):=⟨_,Zf h,ZU (by rw[Zc,Zf h];rfl)⟩
noncomputable def CT (H:Hp)(c:Addr)(j:List (List Nat)):Prop:=∃rs:List Addr,H c=some (.tup (rs.map V.ref))/\rs.length=j.length/\∀(i:Nat) r,rs[i]?=some r->H r=some (.tup ((j.getD i []).map nV))
theorem CT.mono {H q:Hp}{c:Addr}{j:List (List Nat)}(s:Same H q)(h:CT H c j):CT q c j:=by
 obtain⟨J,M,O,U⟩:=h;exact⟨J,s _ _ M,O,fun i r Y=>s _ _ (U i r Y)⟩
noncomputable def ZI (n:Nat)(f:Nat->Nat):List Nat:=(ac n).map f
theorem VN (n:Nat)(f:Nat->Nat):(ZI n f).length=n:=by unfold ZI;rw[Za,Zg]
theorem Zbz {n a k:Nat}(f:Nat->Nat)(j:a<n):((ZI n f).map nV).set a (nV k)=(ZI n fun b=>if b=a then k else f b).map nV:=by
 unfold ZI;refine aX fun i=>?_;rw[gq];by_cases q:i<n
 ·by_cases e:a=i
  ·subst e
   rw[if_pos rfl,if_pos (by rw[Za,Za,Zg];exact j),Zc,Zc,ak j];show some (nV k)=some (nV (if a=a then k else f a))
   rw[if_pos rfl]
  ·rw[if_neg e,Zc,Zc,ak q,Zc,Zc,ak q]
   show some (nV (f i))=some (nV (if i=a then k else f i))
   rw[if_neg (fun z=>e z.symm)]
 ·have J:a≠i:=by omega
  rw[if_neg J,ag (by rw[Za,Za,Zg];omega),ag (by rw[Za,Za,Zg];omega)]
theorem Wg {n:Nat}{f g:Nat->Nat}(h:∀a,a<n->f a=g a):ZI n f=ZI n g:=a9 fun a j=>h a (ae.mp j)
theorem CT.row {H:Hp}{c:Addr}{j:List (List Nat)}(h:CT H c j):∃q:List Addr,H c=some (.tup (q.map V.ref))/\q.length=j.length/\∀(i:Nat) y,(q.map V.ref)[i]?=some y->∃r,y=.ref r/\i<j.length/\H r=some (.tup ((j.getD i []).map nV)):=by
 obtain⟨q,U,O,Y⟩:=h;refine⟨q,U,O,fun i y J=>?_⟩;rw[Zc] at J;cases M:q[i]? with
 |none=>rw[M] at J;cases J
 |some r=>
  rw[M] at J;cases J;exact⟨r,rfl,by rw[<-O];exact (aa.mp M).1,Y i r M⟩
theorem Vo {j:List (List Nat)}{k:Nat}(q:k<j.length):j.getD k []∈j:=by
 rw[Zb,Zf q];exact bc q
theorem ZaA {n:Nat}{f:Nat->Nat}{a:Nat}(j:a<n):XH ((ZI n f).map nV) (a:Int)=some (.int (f a:Nat)):=ZU (by
 unfold ZI;rw[Zc,Zc,ak j];rfl)
theorem tupK {X:Cx}(K:ab)(j:X.K=K:=by rfl):Yo X (.type "tuple") (fun xs H Q=>∃p ys,xs=[.ref p]/\((Wx K H p ys/\∀l,H l=none->Q (.ref l) (upd H l (.tup ys)))\/(JF K H p ys/\Q (.ref p) H))):=j▸ZH
theorem ZbD {m i:Nat}{a:Nat->Addr}(j:i<m):XH ((ac m).map fun i=>V.ref (a i)) (i:Int)=some (.ref (a i)):=ZU (by rw[Zc,ak j];rfl)
theorem ZbC {m i:Nat}{a:Nat->Addr}{y:V}(h:((ac m).map fun i=>V.ref (a i))[i]?=some y):i<m/\y=.ref (a i):=by
 have j:i<m:=by
  have:=(aa.mp h).1;rw[Za,Zg] at this;exact this
 rw[Zc,ak j] at h;exact⟨j,(aw h).symm⟩
theorem Zg9 {m i:Nat}{f:Nat->Nat}(j:i<m):((ZI m f).map nV)[i]?=some (.int (f i:Nat)):=by
 unfold ZI;rw[Zc,Zc,ak j];rfl
theorem Zix (m:Nat):(Wt 0 m).map V.int=(ac m).map nV:=by
 unfold Wt;rw[aU];refine a9 fun i _=>?_;show V.int (0+(i:Int))=nV i;rw[eO];rfl
theorem Zaz {m i:Nat}{y:V}(h:((Wt 0 m).map V.int)[i]?=some y):i<m/\y=.int (i:Nat):=by
 rw[Zix] at h;have j:i<m:=by
  have:=(aa.mp h).1;rw[Za,Zg] at this;exact this
 rw[Zc,ak j] at h;exact⟨j,(aw h).symm⟩
noncomputable def Zfp (row:List Nat):ed:=.tuple (row.map fun k:Nat=>a7 (k:Int))
noncomputable def dCs (j:List (List Nat)):ed:=.tuple (j.map Zfp)
theorem Zip {row:List Nat}(j:row.length<=60)(h:∀k∈row,k<=1000):Sml 1 60 (Zfp row):=by
 have:=Sml.tup (k:=0) (b:=0) (n:=60) (ds:=row.map fun k:Nat=>a7 (k:Int)) (by rw[Za];exact j) fun d q=>by
  obtain⟨k,J,rfl⟩:=aI.mp q;exact Ziq (h k J)
 exact this
theorem ZbF {K:ab}{H:Hp}:∀row:List Nat,WS K H (row.map nV) (row.map fun k:Nat=>a7 (k:Int))
 | []=>.nil
 |k::r=>.cons (.int _) (ZbF r)
theorem ZkP {K:ab}{H:Hp}{a:Addr}{row:List Nat}(h:H a=some (.tup (row.map nV))):Uo K H (.ref a) (Zfp row):=.tup (.of h) (ZbF row)
theorem ZbE {K:ab}{H:Hp}:∀{rs:List Addr}{j:List (List Nat)},rs.length=j.length->(∀(i:Nat) r,rs[i]?=some r->H r=some (.tup ((j.getD i []).map nV)))->WS K H (rs.map V.ref) (j.map Zfp)
 | [],[],_,_=>.nil
 | [],_::_,h,_=>by cases h
 |_::_,[],h,_=>by cases h
 |r::rs,c::j,h,g=>.cons (ZkP (g 0 r rfl)) (ZbE (c6 h) fun i q J=>g (i+1) q J)
theorem CT.rd {K:ab}{H:Hp}{c:Addr}{j:List (List Nat)}(h:CT H c j):Uo K H (.ref c) (dCs j):=by
 obtain⟨O,q,J,M⟩:=h;exact .tup (.of q) (ZbE J M)
noncomputable def cyc (m:Nat):List Nat:=(ac m).map fun i=>(i+1) % m
noncomputable def neg (m:Nat):List Nat:=(ac m).map fun i=>(m-i) % m
noncomputable def mn1:List (List (List Nat)):=[[[1,0,2,3],[0,1,3,2]],[[1,0,2,3,4,5],[0,1,3,4,5,2]]]
noncomputable def ma1:List (List Nat):=[[1,2,0,3],[1,0,3,2]]
noncomputable def ma2:List (List Nat):=[[1,2,3,0,5,6,7,4],[4,7,6,5,2,1,0,3]]
noncomputable def ma3:List (List Nat):=[[1,2,0,3,4,5,6],[0,2,1,4,5,6,3]]
noncomputable def ma4:List (List Nat):=[[1,2,0,3,4,5],[0,1,2,4,5,3]]
noncomputable def mn2:List (List (List Nat)):=[[[1,2,3,4,0],[0,2,4,1,3]],[[1,2,3,0],[1,0,2,3]]]
noncomputable def ma5:List (List Nat):=[[1,2,3,4,5,6,0],[0,2,4,6,1,3,5]]
noncomputable def mnS:List (List (List Nat)):=mn1++[ma1]++[ma2]++[ma3]++[ma4]
noncomputable def mnG:List (List (List Nat)):=mnS++mn2++[ma5]
noncomputable def Yt (j:List Nat)(q:List (List Nat))(s:List (List Nat)×List (List Nat)):List (List Nat)×List (List Nat):=q.foldl (fun s p=>if s.1.contains (J1 j p) then s else (s.1++[J1 j p],s.2++[J1 j p])) s
noncomputable def dfs (J:List (List Nat)):Nat->List (List Nat)->List (List Nat)->Option (List (List Nat))
 |f,fd,[]=>some fd
 |0,fd,_::_=>none
 |f+1,fd,x::M=>match Yt ((x::M).getLast?.getD []) J (fd,(x::M).dropLast) with
  |(j,q)=>dfs J f j q
structure Zmc (ps:List (List Nat))(k:Nat)(fd:List (List Nat)):Prop where
 k1:1<=k
 k10:k<=10
 p1:1<=ps.length
 p9:ps.length<=9
 pl:∀g∈ps,Gk k g
 run:dfs ps 61 [ac k] [ac k]=some fd
 n60:fd.length<=60
 hd:fd[0]?=some (ac k)
 nd:fd.Nodup
 fg:∀g∈fd,Gk k g
 pw:PW (Y4 fd)
 cl:∀a∈fd,∀b∈fd,J1 a b∈fd
noncomputable def gkB (k:Nat)(y:List Nat):Bool:=decide (y.length=k) && y.all fun x=>decide (x<k)
theorem Zkm {k:Nat}{y:List Nat}(h:gkB k y=true):Gk k y:=by
 unfold gkB at h;rw[af,decide_eq_true_eq,aN] at h;exact⟨h.1,fun x j=>of_decide_eq_true (h.2 x j)⟩
noncomputable def ndB:List (List Nat)->Bool
 | []=>true
 |x::r=>!r.contains x && ndB r
theorem Zkc:∀{xs:List (List Nat)},ndB xs=true->xs.Nodup
 | [],_=>dY
 |x::r,h=>by
  unfold ndB at h;rw[af,gu] at h;refine bD.mpr ⟨fun j=>?_,Zkc h.2⟩;rw[aC.mpr j] at h;cases h.1
noncomputable def psB (j:List (List Nat)):Bool:=
 let k:=(j.getD 0 []).length
 decide (1<=k) && decide (k<=10) && decide (1<=j.length) && decide (j.length<=9) && j.all (gkB k) && match dfs j 61 [ac k] [ac k] with
  |none=>false
  |some q=>decide (q.length<=60) && decide (q[0]?=some (ac k)) && ndB q && q.all (gkB k) && pwB (Y4 q)
theorem ZlF {q:List (List Nat)}(U:PW (Y4 q)):∀a∈q,∀b∈q,J1 a b∈q:=by
 intro a Y b hb;obtain⟨i,hi⟩:=ce Y;obtain⟨j,O⟩:=ce hb;have J:(Y4 q).length=q.length:=by unfold Y4;rw[Za]
 have il:=(aa.mp hi).1;have jl:=(aa.mp O).1;have h:=U.lt i j (by rw[J];exact il) (by rw[J];exact jl);have e:ZJ (Y4 q) i j=q.findIdx (· == J1 a b):=by
  unfold ZJ Y4;rw[Zb,Zb,Zc,hi];show (Option.getD (q.map _)[j]? 0)=_;rw[Zc,O];rfl
 rw[e,J] at h;obtain⟨x,hx,M⟩:=kG.mp h;rw[<-eq_of_beq M];exact hx
theorem Zm9 {j:List (List Nat)}(h:psB j=true):∃J,Zmc j (j.getD 0 []).length J:=by
 unfold psB at h;simp only[af,decide_eq_true_eq,aN] at h;obtain⟨⟨⟨⟨⟨U,Y⟩,h3⟩,h4⟩,h5⟩,q⟩:=h;cases hd:dfs j 61 [ac (j.getD 0 []).length] [ac (j.getD 0 []).length] with
 |none=>rw[hd] at q;cases q
 |some J=>
  rw[hd] at q;simp only[af,decide_eq_true_eq,aN] at q;obtain⟨⟨⟨⟨g1,g2⟩,g3⟩,g4⟩,g5⟩:=q;have O:=ZkV g5;exact⟨J,U,Y,h3,h4,fun g M=>Zkm (h5 g M),hd,g1,g2,Zkc g3,fun g M=>Zkm (g4 g M),O,ZlF O⟩
theorem ZlS:((ac 10).all fun j=>psB [cyc (j+1)])=true:=by decide +kernel
theorem Zlj:((ac 4).all fun j=>psB [cyc (j+3),neg (j+3)])=true:=by decide +kernel
theorem Zln:(mnG.all psB)=true:=by decide +kernel
noncomputable def Um:List (List (List Nat)):=((ac 10).map fun j=>[cyc (j+1)])++(((ac 4).map fun j=>[cyc (j+3),neg (j+3)])++mnG)
noncomputable def ZjM (j:List (List Nat)):Prop:=psB j=true/\j∈Um
theorem ZlD {j:Nat}(h:j<10):ZjM [cyc (j+1)]:=⟨aN.mp ZlS j (ae.mpr h),b8 _ (aI.mpr ⟨j,ae.mpr h,rfl⟩)⟩
theorem ZlC {j:Nat}(h:j<4):ZjM [cyc (j+3),neg (j+3)]:=⟨aN.mp Zlj j (ae.mpr h),aV _ (b8 _ (aI.mpr ⟨j,ae.mpr h,rfl⟩))⟩
theorem Znh {j:List (List Nat)}(h:j∈mnG):ZjM j:=⟨aN.mp Zln j h,aV _ (aV _ h)⟩
noncomputable def MkG (t:List (List Nat)):Prop:=∃(q:List (List Nat)) (k:Nat) (j:List (List Nat)) (os:List Nat),q∈Um/\Zmc q k j/\Ord (Y4 j).length os/\t=ren (Y4 j) os
end Pm
namespace Pm
open PySem L2 PySem.Spec PyProof.Rows
section
variable {X:Cx}
theorem ZbH {o e:Expr}{to te:TE}{q j M:Pos}(ho:PE X o to)(he:QE X e te)(m8:Wv e=true:=by rfl)
  (O:attributeBase o "append" X.env (eval o X.env)=eval o X.env:=by rfl)
  (Y:((backTo j (starEach [e] X.env)).all (fun x=>!x.1) && (backToKw j (keywordEach [] X.env)).all (fun x=>x.1.isSome)
   && decide (([e]:List Expr).length+([]:List Keyword).length+(if ([]:List Keyword).isEmpty then 0 else 1)<30))=true:=by rfl)
  (U:(q.endLine == j.line)=true:=by rfl) (hs:starEach [e] X.env=(false,eval e X.env)::starEach [] X.env:=by rfl) (J:(backTo j (starEach [] X.env)).any (·.1)=false:=by rfl)
  (m9:swapsWith (.Call (.Attribute o "append" q) [e] [] j) none M.line X.env=pure false:=by rfl) :
  QS X (.Expr (.Call (.Attribute o "append" q) [e] [] j) M) (ZfZ (tBM X.K "list" ZaD to (Zbh te Zij))):=⟨Ya (Y6 aH aM aO ZV ho (pc he.h Zu m8) O Y U hs J) m9⟩
theorem Zm6 {c:Expr}{a b:List Stmt}{j:TT}{t u:TS}{pos:Pos}(q:PT X c j)(J:QSs X a t)(hb:PSs X b u):QS X (.If c a b pos) (ZmI j t u):=⟨WN q J.h hb⟩
theorem Zm5 {st:Stmt}{t:TS}(j:QS X st t):QSs X [st] t:=⟨Zv j.h⟩
theorem Zm4 {op:kW}{r:R2}{a b:Expr}{j tb:TE}{pos:Pos}(q:Vx X (binaryOp op) r)(J:PE X a j)(hb:QE X b tb):QE X (.BinOp a op b pos) (tOp r j tb):=⟨Zz q J hb.h⟩
end
noncomputable def Wy (H:Hp)(M:Addr)(ls:List Addr)(j:List (List (List Nat))):Prop:=H M=some (.lst (ls.map V.ref))/\ls.length=j.length/\∀(i:Nat) l,ls[i]?=some l->l≠M/\∃bs,TupsAt H l bs (j.getD i [])
theorem Wy.mono {H j:Hp}{M:Addr}{ls:List Addr}{mn:List (List (List Nat))}(s:Same H j)(h:Wy H M ls mn):Wy j M ls mn:=
 ⟨s _ _ h.1,h.2.1,fun i l q=>let ⟨a,bs,b⟩:=h.2.2 i l q;⟨a,bs,b.mono s⟩⟩
theorem TupsAt.updM {H:Hp}{L M:Addr}{bs:List Addr}{yss:List (List Nat)}{vs:List V}{o:HO}(R:TupsAt H L bs yss)(j:H M=some (.lst vs))(q:L≠M):TupsAt (upd H M o) L bs yss:=
 ⟨by rw[Zx q];exact R.1,R.2.1,fun i b hb=>by
  have:=R.2.2 i b hb;rw[Zx (fun z=>by rw[z,j] at this;cases this)];exact this⟩
theorem Wy.push {H:Hp}{M S:Addr}{ls bs:List Addr}{mn:List (List (List Nat))}{xss:List (List Nat)}(h:Wy H M ls mn)(O:TupsAt H S bs xss)(q:S≠M):Wy (upd H M (.lst (ls.map V.ref++[.ref S]))) M (ls++[S]) (mn++[xss]):=by
 refine⟨by rw[Zt,aT];rfl,by rw[Zd,Zd,h.2.1];rfl,fun i l j=>?_⟩;by_cases J:i<ls.length
 ·rw[am J] at j
  obtain⟨a,cs,b⟩:=h.2.2 i l j;refine⟨a,cs,?_⟩;rw[Zb,am (by rw[<-h.2.1];exact J),<-Zb];exact b.updM h.1 a
 ·rw[aq (by omega)] at j
  have U:i-ls.length=0:=by
   apply ah;intro z;rw[ag (by rw[Zk];omega)] at j;cases j
  rw[U] at j;cases j;have:i=mn.length:=by rw[<-h.2.1];omega
  refine⟨q,bs,?_⟩;rw[this,Zb,aq (Zq _),cm];exact O.updM h.1 q
end Pm
namespace C40
open PySem L2 PySem.Spec PyProof.Rows
open Tb Pm
noncomputable abbrev ZmV:Stmt:=top 37
noncomputable abbrev Zgn:Stmt:=top 38
noncomputable abbrev Zgx:Stmt:=top 39
noncomputable def ZjY:Sp:=fun q H Q _=>∃(m:Nat),q=[.int m]/\1<=m/\m<=60/\∀r j,H r=none->Same H j->j r=some (.tup ((cyc m).map nV))->Q (.ref r) j
noncomputable def ZdE:Sp:=fun J H Q _=>∃(p:Addr) (b:Nat) (M:Bool),J=[.ref p,.bl M]/\Ws H p b/\b+2<2 ^ 60/\∀L bs q j,Tk p H j->Ws j p (b+2)->ZjM q->TupsAt j L bs q->Q (.ref L) j
noncomputable def Zan:Sp:=fun q H Q _=>∃(f g:Addr) (k:Nat) (x y:List Nat),q=[.ref f,.ref g]/\H f=some (.tup (x.map nV))/\H g=some (.tup (y.map nV))/\Gk k x/\Gk k y/\k<=1000/\∀r j,H r=none->Same H j->j r=some (.tup ((J1 x y).map nV))->Q (.ref r) j
noncomputable def ZlL (m:Nat):V->V
 | .int z=>nV ((z.toNat+1) % m)
 |y=>y
noncomputable def ZlK (m:Nat):V->V
 | .int z=>nV ((m-z.toNat) % m)
 |y=>y
theorem TupsAt.tk {H j:Hp}{p L:Addr}{b:Nat}{bs:List Addr}{yss:List (List Nat)}(T:Ws H p b)(d:Tk p H j)(R:TupsAt H L bs yss):TupsAt j L bs yss:=⟨d.lst T R.1,R.2.1,fun i b hb=>d.tup T (R.2.2 i b hb)⟩
section
variable {P:Program}{w:World}{K:ab}{mg:Str->Option Value}{base:Heap}
theorem Zlg {f:Addr}{fd:FuncData}(F:WB K "_law_cycle" "_law_cycle" ZmV f fd)(T:BlB mg):Z5 P w K mg base Yd 1 f fd ["_law_many"] ZjY:=by
 refine F.ok (FS (N:=["_law_many"])) (fun Y H Q E h=>?_) (fun m8 A j s H Y Q E hr h=>?_)
 ·obtain⟨m,rfl,_⟩:=h;rfl
 ·obtain⟨m,rfl,m1,m9,q⟩:=h
  refine⟨_,Zv (ZG (ct ZH T.tuple (pc (cmp ["_law_place"] [0] ["_law_place", "_law_many"] rfl (XM T.range (pc (vn 0) Zu)) (fun _ _ _ _ _=>gn 0) (fun _ _ _ _ _=>ZP)
   (fun _ _ _ _ _=>Zz Z3 (Zz YR (vn 0) Zw) (vn 1))) Zu))),?_⟩
  refine⟨_,rfl,_,rfl,by omega,by omega,?_⟩;rw[Zj];refine Jz (JL 0 m) [some (.int (m:Nat))] rfl (ZlL m) (by rw[Za,YK];omega) (fun i x M hx J R gg=>?_) (fun D M nD J O=>?_)
  ·obtain⟨hi,rfl⟩:=Zaz hx
   have fin:=gg M (Same.refl _);have e:ZlL m (.int (i:Nat))=V.int (((i:Int)+1) % (m:Int)):=by
    show V.int ((((i:Int).toNat+1) % m:Nat):Int)=_;rw[Zj,aY];rfl
   rw[e] at fin;exact⟨_,rfl,_,_,rfl,rfl,_,rfl,_,_,rfl,rfl,(by show (0:Int)<(m:Int);omega),fin⟩
  ·have e:((Wt 0 m).map V.int).map (ZlL m)=(cyc m).map nV:=by
    rw[Zix];unfold cyc;rw[aU,aU];refine a9 fun i _=>?_;show nV (((i:Int).toNat+1) % m)=nV ((i+1) % m);rw[Zj]
   rw[e] at O;exact⟨D,_,rfl,.inl ⟨.of O,fun r U=>q r _ (J.free U) (J.trans (Same.upd U)) Zt⟩⟩
theorem Zg1 {f:Addr}{fd:FuncData}(F:WB K "_law_after" "_law_after" Zgx f fd)(T:BlB mg):Z5 P w K mg base Yd 1 f fd ["_law_one", "_law_other"] Zan:=by
 refine F.ok (FS (N:=["_law_one", "_law_other"])) (fun vs H Q E h=>?_) (fun m8 A M s H vs Q E hr h=>?_)
 ·obtain⟨f,g,k,x,y,rfl,_⟩:=h;rfl
 ·obtain⟨f,g,k,x,y,rfl,hf,U,gx,Y,k10,q⟩:=h
  refine⟨_,Zv (ZG (ct ZH T.tuple (pc (cmp ["_law_place"] [0] ["_law_place", "_law_one"] rfl (itT K (vn 1)) (fun _ _ _ _ _=>gn 0) (fun _ _ _ _ _=>ZP)
   (fun _ _ _ _ _=>ZN (Xt K) (vn 1) (vn 0) (fun _ _=>rfl))) Zu))),?_⟩
  refine⟨_,rfl,g,rfl,⟨_,.of U⟩,?_⟩;refine Jz (YX (K:=K) (.of U)) [some (.ref f)] rfl (ZlM x) (by rw[Za,Y.1];omega) (fun i v H' hx J R gg=>?_) (fun D H' nD J hD=>?_)
  ·obtain⟨j,hj,rfl⟩:=Zc3 hx
   have O:=Y.2 j (aD hj);have fin:=gg H' (Same.refl _);have e:ZlM x (.int (j:Nat))=nV (x.getD j 0):=by
    show nV (x.getD (j:Int).toNat 0)=_;rw[Zj]
   rw[e] at fin;exact⟨_,rfl,_,rfl,f,_,_,_,rfl,rfl,.of (J _ _ hf),Znd (by rw[gx.1];exact O),fin⟩
  ·rw[ZhG] at hD
   exact⟨D,_,rfl,.inl ⟨.of hD,fun r nr=>q r _ (J.free nr) (J.trans (Same.upd nr)) Zt⟩⟩
end
section
variable {P:Program}{w:World}{K:ab}{mg:Str->Option Value}{base:Heap}
theorem VC {H:Hp}{L c:Addr}{x:List Nat}(h:H L=some (.lst [.ref c]))(j:H c=some (.tup (x.map nV))):TupsAt H L [c] [x]:=⟨h,rfl,fun i b hb=>by
 cases i with
 |zero=>cases hb;exact j
 |succ i=>cases hb⟩
theorem ZfT {H:Hp}{L c d:Addr}{x y:List Nat}(h:H L=some (.lst [.ref c,.ref d]))(j:H c=some (.tup (x.map nV)))(q:H d=some (.tup (y.map nV))):TupsAt H L [c,d] [x,y]:=⟨h,rfl,fun i b hb=>by
 cases i with
 |zero=>cases hb;exact j
 |succ i=>
  cases i with
  |zero=>cases hb;exact q
  |succ i=>cases hb⟩
theorem Zi8 {m i:Nat}(h:i<m):(-(i:Int)) % (m:Int)=(((m-i) % m:Nat):Int):=by
 rw[aY,Int.ofNat_sub (by omega),show (m:Int)-(i:Int)=-(i:Int)+(m:Int)*1 by omega,Int.add_mul_emod_self_left]
theorem JC {K:ab}{i:Nat}{M:Addr}{σ:L2.St}{j H:Hp}{ls:List Addr}{mn:List (List (List Nat))}{xss:List (List Nat)}{D:J8}(J:σ[i]?=some (some (.ref M)))(m:Wy H M ls mn)(s:Same j H)(nM:j M=none)(hx:∀x∈xss,x.length<=1000)(hk:xss.length<=1000)(hl:mn.length<=1000)
  (q:∀S O,Same j O->Wy O M (ls++[S]) (mn++[xss])->D.nx σ O):ZfZ (tBM K "list" ZaD (ZkC i) (Zbh (teL xss) Zij)) D σ H:=by
 have sz:(16777216:Nat)=sizeLine:=by decide
 refine⟨_,J,.inl ⟨rfl,_,.of m.1⟩,ZfY xss hx hk fun bs H1 s1 hb hi S U=>?_⟩;have s2:=s1.trans (Same.upd (o:=.lst (bs.map V.ref)) U);have m2:=m.mono s2;have nS:S≠M:=fun z=>by
  have:=s1 _ _ m.1;rw[<-z,U] at this;cases this
 have R:TupsAt (upd H1 S (.lst (bs.map V.ref))) S bs xss:=⟨Zt,hb,fun i b Y=>Same.upd (o:=.lst (bs.map V.ref)) U _ _ (hi i b Y)⟩;refine⟨M,_,_,rfl,rfl,m2.1,by rw[Za,m.2.1];omega,q S _ ((s.trans s2).updr nM) (m2.push R nS)⟩
theorem ZgS {f:Addr}{fd:FuncData}(F:WB K "_law_perms" "_law_perms" Zgn f fd)(T:BlB mg)(GP:Fn P w K mg base Yd 1 "_law_pick" ["_law_tape_here", "_law_many"] ZcK)(GC:Fn P w K mg base Yd 1 "_law_cycle" ["_law_many"] ZjY):Z5 P w K mg base Yd 2 f fd ["_law_tape_here", "_law_great"] ZdE:=by
 refine F.ok (FS (N:=["_law_tape_here", "_law_great", "_law_way", "_law_many", "_law_menu"])) (fun vs H Q E h=>?_) (fun p6 A n9 s H vs Q E hr h=>?_)
 ·obtain⟨p,b,gr,rfl,_⟩:=h;rfl
 ·obtain⟨p,b,gr,rfl,T0,hb,q⟩:=h
  refine⟨_,QSs.out (WX ⟨ZE 2 rfl (Wd GP hr ZL (pc (vn 0) (pc Zw Zu)))⟩
   (WX ⟨WN (ZT ZbM (vn 2) Zw (Z1 _)) (Zv (ZG (ZS (pc (Wd GC hr ZL (pc (Zz YR Zw (Wd GP hr ZL (pc (vn 0) (pc Zw Zu)))) Zu)) Zu)))) YA⟩
   (WX ⟨WN (ZT ZbM (vn 2) Zw (Z1 _))
    (Zs (ZE 3 rfl (Zz YR Zw (Wd GP hr ZL (pc (vn 0) (pc Zw Zu)))))
    (Zv (ZG (ZS (pc (Wd GC hr ZL (pc (vn 3) Zu)) (pc (ct ZH T.tuple (pc (cmp ["_law_place"] [3] ["_law_place", "_law_many"] rfl (XM T.range (pc (vn 3) Zu)) (fun _ _ _ _ _=>gn 0) (fun _ _ _ _ _=>ZP)
     (fun _ _ _ _ _=>Zz Z3 (Xn Jc (vn 0)) (vn 1))) Zu)) Zu)))))) YA⟩
   (WX (Zka 4 rfl (Zm3 (qal (Xk (qan (We [1,0,2,3] (qa qi (qa qi (qa qi (qa qi YE)))) (by rfl)) (qan (We [0,1,3,2] (qa qi (qa qi (qa qi (qa qi YE)))) (by rfl)) WE))) (qal (Xk (qan (We [1,0,2,3,4,5] (qa qi (qa qi (qa qi (qa qi (qa qi (qa qi YE)))))) (by rfl)) (qan (We [0,1,3,4,5,2] (qa qi (qa qi (qa qi (qa qi (qa qi (qa qi YE)))))) (by rfl)) WE))) Zd6))))
   (WX (ZbH (vn 4) (Xk (qan (We [1,2,0,3] (qa qi (qa qi (qa qi (qa qi YE)))) (by rfl)) (qan (We [1,0,3,2] (qa qi (qa qi (qa qi (qa qi YE)))) (by rfl)) WE)))) (WX (ZbH (vn 4) (Xk (qan (We [1,2,3,0,5,6,7,4] (qa qi (qa qi (qa qi (qa qi (qa qi (qa qi (qa qi (qa qi YE)))))))) (by rfl)) (qan (We [4,7,6,5,2,1,0,3] (qa qi (qa qi (qa qi (qa qi (qa qi (qa qi (qa qi (qa qi YE)))))))) (by rfl)) WE)))) (WX (ZbH (vn 4) (Xk (qan (We [1,2,0,3,4,5,6] (qa qi (qa qi (qa qi (qa qi (qa qi (qa qi (qa qi YE))))))) (by rfl)) (qan (We [0,2,1,4,5,6,3] (qa qi (qa qi (qa qi (qa qi (qa qi (qa qi (qa qi YE))))))) (by rfl)) WE)))) (WX (ZbH (vn 4) (Xk (qan (We [1,2,0,3,4,5] (qa qi (qa qi (qa qi (qa qi (qa qi (qa qi YE)))))) (by rfl)) (qan (We [0,1,2,4,5,3] (qa qi (qa qi (qa qi (qa qi (qa qi (qa qi YE)))))) (by rfl)) WE))))
   (WX (Zm6 (ZaG (vn 1)) (WX (Zka 4 rfl (Zm4 ZcZ (vn 4) (Zm3 (qal (Xk (qan (We [1,2,3,4,0] (qa qi (qa qi (qa qi (qa qi (qa qi YE))))) (by rfl)) (qan (We [0,2,4,1,3] (qa qi (qa qi (qa qi (qa qi (qa qi YE))))) (by rfl)) WE))) (qal (Xk (qan (We [1,2,3,0] (qa qi (qa qi (qa qi (qa qi YE)))) (by rfl)) (qan (We [1,0,2,3] (qa qi (qa qi (qa qi (qa qi YE)))) (by rfl)) WE))) Zd6))))) (Zm5 (ZbH (vn 4) (Xk (qan (We [1,2,3,4,5,6,0] (qa qi (qa qi (qa qi (qa qi (qa qi (qa qi (qa qi YE))))))) (by rfl)) (qan (We [0,2,4,6,1,3,5] (qa qi (qa qi (qa qi (qa qi (qa qi (qa qi (qa qi YE))))))) (by rfl)) WE)))))) YA)
   ⟨Zv (ZG (ZN (V2 K) (vn 4) (Wd GP hr ZL (pc (vn 0) (pc (cb (YF K) T.len (pc (vn 4) Zu)) Zu))) (fun _ _=>rfl)))⟩))))))))),?_⟩
  have sz:(16777216:Nat)=sizeLine:=by decide
  refine⟨_,rfl,p,8,b,rfl,T0,by omega,by decide,by decide,fun r H1 a0 a1 k1 T1=>?_⟩;refine⟨_,rfl,_,_,rfl,rfl,_,rfl,Y0 (fun _=>?_) (fun _=>?_)⟩
  ·refine⟨_,rfl,p,10,b+1,rfl,T1,by omega,by decide,by decide,fun r2 U c0 c1 k2 T2=>?_⟩
   obtain⟨j,rfl⟩:=bQ c0;have hj:j<10:=by omega
   refine⟨_,_,rfl,rfl,j+1,?_,by omega,by omega,fun c H3 nc s3 hc=>⟨(by show 1<=sizeLine;decide),fun L nL=>?_⟩⟩
   ·show [V.int (1+(j:Int))]=[V.int ((j+1:Nat):Int)]
    rw[show (1:Int)+(j:Int)=((j+1:Nat):Int) by omega]
   ·have s4:=s3.trans (Same.upd (o:=.lst [.ref c]) nL)
    exact q L [c] [cyc (j+1)] _ ((k1.trans k2).trans (Tk.of s4)) (T2.mono s4) (ZlD hj) (VC Zt (Same.upd nL _ _ hc))
  refine⟨_,rfl,_,_,rfl,rfl,_,rfl,Y0 (fun _=>?_) (fun _=>?_)⟩
  ·refine⟨_,rfl,p,4,b+1,rfl,T1,by omega,by decide,by decide,fun r2 U c0 c1 k2 T2=>⟨_,_,rfl,rfl,?_⟩⟩
   obtain⟨j,rfl⟩:=bQ c0;have hj:j<4:=by omega
   have e3:(3:Int)+(j:Int)=((j+3:Nat):Int):=by omega
   dsimp only;rw[e3];refine⟨_,rfl,j+3,rfl,by omega,by omega,fun c H3 nc s3 hc=>?_⟩;refine⟨_,rfl,_,rfl,by omega,by omega,?_⟩;rw[Zj];refine Jz (JL 0 (j+3)) [some (.int ((j+3:Nat):Int))] rfl (ZlK (j+3)) (by rw[Za,YK];omega) (fun i x H' hx s' R gg=>?_) (fun D H4 nD s4 hD=>?_)
   ·obtain⟨hi,rfl⟩:=Zaz hx
    have fin:=gg H' (Same.refl _);have e:ZlK (j+3) (.int (i:Nat))=V.int ((-(i:Int)) % ((j+3:Nat):Int)):=by
     show V.int ((((j+3)-(i:Int).toNat) % (j+3):Nat):Int)=_;rw[Zj,Zi8 hi]
    rw[e] at fin;exact⟨_,rfl,_,rfl,_,rfl,_,_,rfl,rfl,(by show (0:Int)<((j+3:Nat):Int);omega),fin⟩
   ·have e:((Wt 0 (j+3)).map V.int).map (ZlK (j+3))=(neg (j+3)).map nV:=by
     rw[Zix];unfold neg;rw[aU,aU];refine a9 fun i _=>?_;show nV ((j+3-(i:Int).toNat) % (j+3))=nV ((j+3-i) % (j+3));rw[Zj]
    rw[e] at hD;refine⟨D,_,rfl,.inl ⟨.of hD,fun d nd=>⟨(by show 2<=sizeLine;decide),fun L nL=>?_⟩⟩⟩;have s5:=Same.upd (o:=.lst [.ref c,.ref d]) nL;have s6:=(s3.trans s4).trans ((Same.upd (o:=.tup ((neg (j+3)).map nV)) nd).trans s5);exact q L [c,d] [cyc (j+3),neg (j+3)] _ ((k1.trans k2).trans (Tk.of s6)) (T2.mono s6) (ZlC hj) (ZfT Zt (s5 _ _ (Same.upd nd _ _ (s4 _ _ hc))) (s5 _ _ Zt))
  have out:∀(M:Addr) (Y:List Addr) (mn:List (List (List Nat))) (H9 U:Hp) {j:Nat}{Gl:Prop},Same H1 H9->Wy H9 M Y mn->(∀ps∈mn,ps∈mnG)->Tk p H9 U->Ws U p (b+1+1)->(j:Int)<(mn.length:Nat)->(∀{l:Addr},U M=some (.lst (Y.map V.ref))->XH (Y.map V.ref) (j:Int)=some (.ref l)->Q (.ref l) U->Gl)->Gl:=fun M Y mn H9 U {j Gl} s9 m o0 k2 T2 hj fin=>by
   have o5:j<Y.length:=by rw[m.2.1];omega
   obtain⟨l,hl,m8⟩:=Ziy o5;obtain⟨_,bs,R⟩:=m.2.2 j l hl;have T9:=T1.mono s9;have hm:mn.getD j []∈mn:=by
    rw[Zb,Zf (show j<mn.length by omega)];exact bc _
   exact fin (k2.lst T9 m.1) m8 (q l bs _ U ((k1.trans (Tk.of s9)).trans k2) T2 (Znh (o0 _ hm)) (TupsAt.tk T9 k2 R))
  refine Zit (Zbg mn1 (by decide) (by decide) fun Y U s2 o6 o7 M hM=>?_);have s3:=s2.trans (Same.upd (H:=U) (o:=.lst (Y.map V.ref)) hM);have nM:H1 M=none:=s2.free hM;have m0:Wy (upd U M (.lst (Y.map V.ref))) M Y mn1:=⟨Zt,o6,fun i l hl=>by
   obtain⟨u1,bs,u2⟩:=o7 i l hl;refine⟨fun z=>?_,bs,u2.mono (Same.upd hM)⟩;have:=u2.1;rw[z,hM] at this;cases this⟩
  generalize upd U M (.lst (Y.map V.ref))=H3 at s3 m0 ⊢;refine JC (xss:=ma1) rfl m0 s3 nM (by decide) (by decide) (by decide) fun S1 H4 s4 m4=>?_;refine JC (xss:=ma2) rfl m4 s4 nM (by decide) (by decide) (by decide) fun S2 H5 s5 m5=>?_;refine JC (xss:=ma3) rfl m5 s5 nM (by decide) (by decide) (by decide) fun S3 H6 s6 m6=>?_;refine JC (xss:=ma4) rfl m6 s6 nM (by decide) (by decide) (by decide) fun S4 H7 s7 m7=>?_;replace m7:Wy H7 M (Y++[S1]++[S2]++[S3]++[S4]) mnS:=m7;generalize Y++[S1]++[S2]++[S3]++[S4]=L5 at m7;refine⟨_,rfl,gr,rfl,Y0 (fun _=>?_) (fun _=>?_)⟩
  ·refine⟨_,rfl,Zbg mn2 (by decide) (by decide) fun J H8 s8 n4 o8 M' o9=>?_⟩
   have s9:=Same.upd (H:=H8) (o:=.lst (J.map V.ref)) o9;have hA:=m7.mono (s8.trans s9);refine⟨M,M',_,_,rfl,rfl,hA.1,Zt,by rw[Za,Za,hA.2.1,n4];decide,fun N nN=>?_⟩;have sX:=Same.upd (o:=.lst (L5.map V.ref++J.map V.ref)) nN;have n6:=((s7.trans s8).trans s9).trans sX;have p4:H1 N=none:=((s7.trans s8).trans s9).free nN;have mN:Wy (upd (upd H8 M' (.lst (J.map V.ref))) N (.lst (L5.map V.ref++J.map V.ref))) N (L5++J) (mnS++mn2):=by
    have lm:L5.length=mnS.length:=hA.2.1;refine⟨by rw[Zt,aT],by rw[Zd,Zd,lm,n4],fun i l hl=>?_⟩;have go:∀{H':Hp}{l:Addr}{bs:List Addr}{O:List (List Nat)},TupsAt H' l bs O->Same H' (upd H8 M' (.lst (J.map V.ref)))->l≠N:=fun {H' l bs O} R s z=>by
     have:=s _ _ R.1;rw[z,nN] at this;cases this
    by_cases hi:i<L5.length
    ·rw[am hi] at hl
     obtain⟨_,bs,u2⟩:=hA.2.2 i l hl;refine⟨go u2 (Same.refl _),bs,?_⟩;rw[Zb,am (by rw[<-lm];exact hi),<-Zb];exact u2.mono sX
    ·rw[aq (by omega)] at hl
     obtain⟨_,bs,u2⟩:=o8 _ l hl;refine⟨go u2 s9,bs,?_⟩;rw[Zb,aq (by rw[<-lm];omega),<-lm,<-Zb];exact u2.mono (s9.trans sX)
   generalize upd (upd H8 M' (.lst (J.map V.ref))) N (.lst (L5.map V.ref++J.map V.ref))=HN at n6 mN ⊢;refine JC (xss:=ma5) rfl mN n6 p4 (by decide) (by decide) (by decide) fun S5 H9 n8 m9=>?_;refine⟨_,rfl,_,rfl,_,rfl,N,_,rfl,.inl (.of m9.1),?_⟩;rw[Za,m9.2.1];refine⟨p,_,b+1,rfl,T1.mono n8,by omega,by decide,by decide,fun r2 U c0 c1 k2 T2=>?_⟩;obtain⟨j,rfl⟩:=bQ c0;exact out _ _ _ _ _ n8 m9 (by decide) k2 T2 c1 fun hM m8 R=>⟨N,_,_,_,rfl,rfl,.of hM,m8,R⟩
  ·refine⟨_,rfl,_,rfl,_,rfl,M,_,rfl,.inl (.of m7.1),?_⟩
   rw[Za,m7.2.1];refine⟨p,_,b+1,rfl,T1.mono s7,by omega,by decide,by decide,fun r2 U c0 c1 k2 T2=>?_⟩;obtain⟨j,rfl⟩:=bQ c0;exact out _ _ _ _ _ s7 m7 (by decide) k2 T2 c1 fun hM m8 R=>⟨M,_,_,_,rfl,rfl,.of hM,m8,R⟩
end
end C40
namespace Pm
open PySem L2 PySem.Spec PyProof.Rows
open Tb
theorem neC {X:Cx}(K:ab)(J:X.A.units+64<cLine)(M:X.K=K:=by rfl):Vx X (compareOp .NotEq) (fun x y H Q=>∃j q,Uo K H x j/\Uo K H y q/\fN j=true/\fN q=true/\Q (.bl (!gK j q)) H):=M▸Zk8 J
theorem ZhH (ds:List ed):gK (.list ds) (.list [])=ds.isEmpty:=by
 cases ds with
 |nil=>rfl
 |cons d r=>rfl
noncomputable def dT (x:List Nat):ed:=iM ((nI x).map a7)
theorem ZaY:∀yss:List (List Nat),cP (yss.map dT)=true
 | []=>rfl
 |y::yss=>by
  show (fO (.tuple ((nI y).map a7)) && cP (yss.map dT))=true;rw[ZaY yss,Uj];rfl
theorem U0:∀yss:List (List Nat),ck (yss.map dT)<=60
 | []=>aZ _
 |y::yss=>by
  show max (dW (.tuple ((nI y).map a7))) (ck (yss.map dT))<=60;exact Nat.max_le.mpr ⟨U3 _,U0 yss⟩
theorem Zbp (yss:List (List Nat)):fN (.list (yss.map dT))=true:=by
 unfold fN;have j:fO (.list (yss.map dT))=true:=ZaY yss;have q:dW (.list (yss.map dT))<=64:=by
  have:=U0 yss;show ck (yss.map dT)+1<=64;omega
 simp only[j,Bool.true_and,fG,decide_eq_true_eq];exact q
theorem TupsAt.rds {K:ab}{H:Hp}{L:Addr}{bs:List Addr}{yss:List (List Nat)}(R:TupsAt H L bs yss):WS K H (bs.map V.ref) (yss.map dT):=ZaB bs yss R.2.1 R.2.2
theorem TupsAt.rd {K:ab}{H:Hp}{L:Addr}{bs:List Addr}{yss:List (List Nat)}(R:TupsAt H L bs yss):Uo K H (.ref L) (.list (yss.map dT)):=.lst (.of R.1) R.rds
theorem TupsAt.pop {H:Hp}{L:Addr}{bs:List Addr}{yss:List (List Nat)}(R:TupsAt H L bs yss):TupsAt (upd H L (.lst (bs.map V.ref).dropLast)) L bs.dropLast yss.dropLast:=by
 refine⟨by rw[Zt,List.map_dropLast],by rw[d0,d0,R.2.1],fun i b hb=>?_⟩;have j:i<bs.length-1:=by
  have:=(aa.mp hb).1;rw[d0] at this;exact this
 rw[kF,if_pos j] at hb;have h:=R.2.2 i b hb;rw[Zx (fun z=>by rw[z,R.1] at h;cases h),h,Zb,Zb,kF,if_pos (by rw[<-R.2.1];exact j)]
theorem ZcH (j:List Nat){q:List (List Nat)}{s:List (List Nat)×List (List Nat)}{i:Nat}{g:List Nat}(h:q[i]?=some g):Yt j (q.take (i+1)) s=if (Yt j (q.take i) s).1.contains (J1 j g) then Yt j (q.take i) s else ((Yt j (q.take i) s).1++[J1 j g],(Yt j (q.take i) s).2++[J1 j g]):=by
 unfold Yt;rw[cR,h,mE];rfl
theorem XJ (j:List Nat):∀(q:List (List Nat)) (s:List (List Nat)×List (List Nat)),s.1.length<=(Yt j q s).1.length
 | [],s=>Zq _
 |p::q,s=>by
  show s.1.length<=(Yt j q (if s.1.contains (J1 j p) then s else (s.1++[J1 j p],s.2++[J1 j p]))).1.length
  refine a6 ?_ (XJ j q _);split
  ·exact Zq _
  ·show s.1.length<=(s.1++[J1 j p]).length
   rw[Zd];omega
theorem ZcI (j:List Nat)(q:List (List Nat))(s:List (List Nat)×List (List Nat))(i:Nat):(Yt j (q.take i) s).1.length<=(Yt j q s).1.length:=by
 have:Yt j q s=Yt j (q.drop i) (Yt j (q.take i) s):=by
  unfold Yt;rw[<-mE,List.take_append_drop]
 rw[this];exact XJ _ _ _
theorem Zex (q:List (List Nat)):∀(f:Nat) (fd j r:List (List Nat)),dfs q f fd j=some r->fd.length<=r.length
 |f,fd,[],r,h=>by
  have:fd=r:=by cases f <;> exact aw h
  rw[this];exact Zq _
 |0,fd,_::_,r,h=>by cases h
 |f+1,fd,x::j,r,h=>by
  exact a6 (XJ ((x::j).getLast?.getD []) q (fd,(x::j).dropLast)) (Zex q f (Yt ((x::j).getLast?.getD []) q (fd,(x::j).dropLast)).1 (Yt ((x::j).getLast?.getD []) q (fd,(x::j).dropLast)).2 r h)
theorem Zb7 (x:List Nat)(r:List (List Nat)):(x::r).getD ((x::r).length-1) []=(x::r).getLast?.getD []:=by
 rw[List.getLast?_eq_getElem?,Zb]
end Pm
namespace C40
open PySem L2 PySem.Spec PyProof.Rows
open Tb Pm
noncomputable abbrev ZdR:Stmt:=top 40
noncomputable def Zbl:Sp:=fun M H Q _=>∃(L:Addr) (bs:List Addr) (q:List (List Nat)) (k:Nat) (J:List (List Nat)),M=[.ref L]/\TupsAt H L bs q/\Zmc q k J/\∀D O j,H D=none->Same H j->TupsAt j D O J->Q (.ref D) j
section
variable {P:Program}{w:World}{K:ab}{mg:Str->Option Value}{base:Heap}
theorem Ze1 {f:Addr}{fd:FuncData}(F:WB K "_law_things" "_law_things" ZdR f fd)(T:BlB mg)(GA:Fn P w K mg base Yd 1 "_law_after" ["_law_one", "_law_other"] Zan):Z5 P w K mg base Yd 2 f fd ["_law_perms_here"] Zbl:=by
 refine F.ok (FS (N:=["_law_perms_here", "_law_found", "_law_line", "_law_here", "_law_perm", "_law_later"])) (fun vs H Q E h=>?_) (fun cdv A x9 s H vs Q E hr h=>?_)
 ·obtain⟨L,bs,M,k,fd,rfl,_⟩:=h;rfl
 ·obtain⟨L,bs,M,k,n9,rfl,R0,B,q⟩:=h
  refine⟨_,Zs (ZE 1 rfl (ZS (pc (ct (Uk rfl) T.tuple (pc (ct Zcp T.range (pc (cb (YF K) T.len (pc (ZN (V2 K) (vn 0) Zw (fun _ _=>rfl)) Zu)) Zu)) Zu)) Zu)))
   (Zs (ZE 2 rfl (ct XD T.list (pc (vn 1) Zu)))
   (Zs (Z9 ao (ZT (neC K hr.units) (vn 2) (ZS Zu) (Z1 _))
    (Zs (ZE 3 rfl (Zk2 aH fX j6 Zlm (vn 2)))
    (Zv (ZR ao rfl (itL K (vn 0)) (gn 4)
     (Zs (ZE 5 rfl (Wd GA hr ZL (pc (vn 3) (pc (vn 4) Zu))))
     (Zv (WN (ZT (Zne K hr.units) (vn 5) (vn 1) (by rfl))
      (Zs (Ya (Y6 aH aM aO ZV (vn 1) (pc (vn 5) Zu)))
      (Zv (Ya (Y6 aH aM aO ZV (vn 2) (pc (vn 5) Zu))))) YA)))))))
   (Zv (ZG (vn 1))))),?_⟩
  have sz:(16777216:Nat)=sizeLine:=by decide
  have k1:=B.k1;have k10:=B.k10;have p1:=B.p1;have p9:=B.p9;have n60:=B.n60;obtain⟨b0,_,r8,y4⟩:=R0.get (i:=0) (by omega);have e0:((M.getD 0 []).map nV).length=k:=by rw[Za];exact (B.pl _ (Zc4 (by omega))).1
  refine⟨_,rfl,L,_,_,_,rfl,rfl,.of R0.1,r8,b0,_,rfl,.inr (.of y4),_,rfl,fun r0 y6=>⟨r0,0,_,rfl,Zt,⟨by omega,by omega,by rw[e0];omega,by rw[e0];omega⟩,by rw[e0];omega,fun l hl=>?_⟩⟩;rw[e0] at hl ⊢;have ek:((k:Int)-0).toNat=k:=by omega
  rw[ek] at *;refine⟨(by show 1<=sizeLine;decide),fun D o0=>?_⟩;have s1:Same H (upd H r0 (.rng 0 (k:Int))):=Same.upd y6;have s2:=s1.trans (Same.upd (o:=.tup ((Wt 0 k).map V.int)) hl);have s3:=s2.trans (Same.upd (o:=.lst [.ref l]) o0);have nD:H D=none:=s2.free o0;have R1:TupsAt (upd (upd (upd H r0 (.rng 0 (k:Int))) l (.tup ((Wt 0 k).map V.int))) D (.lst [.ref l])) D [l] [ac k]:=VC Zt (by
   rw[Zx (fun z=>by rw[<-z,Zt] at o0;cases o0),Zt,Zix])
  generalize upd (upd (upd H r0 (.rng 0 (k:Int))) l (.tup ((Wt 0 k).map V.int))) D (.lst [.ref l])=H3 at s3 R1 ⊢;refine⟨_,rfl,D,[.ref l],rfl,.inl (.of R1.1),fun Ln p6=>?_⟩;have s4:=Same.upd (H:=H3) (o:=.lst [.ref l]) p6;have nL:H Ln=none:=s3.free p6;have p7:D≠Ln:=fun z=>by
   have:=R1.1;rw[z,p6] at this;cases this
  have R2:TupsAt (upd H3 Ln (.lst [.ref l])) Ln [l] [ac k]:=VC Zt (s4 _ _ (R1.2.2 0 l rfl));have r9:=R1.mono s4;have t0:=s3.trans s4;generalize upd H3 Ln (.lst [.ref l])=H4 at t0 r9 R2 ⊢;have g0:∀y∈[ac k],Gk k y:=fun y hy=>by
   rw[aS.mp hy];exact⟨Zg,fun x hx=>ae.mp hx⟩
  refine Z6 (fun m n4 H'=>∃(cs U:List Addr) (j ln:List (List Nat)) (v3 v4 v5:Option V),n4=[some (.ref L),some (.ref D),some (.ref Ln),v3,v4,v5]/\Same H H'/\TupsAt H' D cs j/\TupsAt H' Ln U ln/\(∀y∈j,Gk k y)/\(∀y∈ln,Gk k y)/\ln.length<=j.length/\dfs M m j ln=some n9)
   (fun n4 H'=>∃(cs:List Addr) (v3 v4 v5:Option V),n4=[some (.ref L),some (.ref D),some (.ref Ln),v3,v4,v5]/\Same H H'/\TupsAt H' D cs n9) ?hend ⟨61,_,_,_,_,_,_,_,rfl,t0,r9,R2,g0,g0,Zq _,B.run⟩ ?turn
  case hend=>
   rintro n4 H' ⟨cs,v3,v4,v5,rfl,sm,R⟩;exact⟨_,rfl,q D cs H' nD sm R⟩
  case turn=>
   rintro o9 m n4 H' ⟨cs,U,j,ln,v3,v4,v5,rfl,sm,R,S,gd,gl,ll,run⟩;refine⟨_,rfl,(by show 0<=sizeLine;decide),fun e0 y8=>?_⟩;have sE:=Same.upd (H:=H') (o:=.lst []) y8;have RE:=R.mono sE;have SE:=S.mono sE;have p8:=sm.trans sE;refine⟨_,_,SE.rd,.lst (.of Zt) .nil,Zbp ln,rfl,_,rfl,?_⟩;generalize upd H' e0 (.lst [])=HE at RE SE p8 ⊢;rw[ZhH];cases ln with
   |nil=>
    refine ZlA (by decide) (o9 _ _ ⟨cs,v3,v4,v5,rfl,p8,?_⟩);have:j=n9:=by cases m <;> exact aw run
    rw[<-this];exact RE
   |cons x r=>
    refine ZoM rfl ?_;cases m with
    |zero=>cases run
    |succ m=>
     have run:dfs M m (Yt ((x::r).getLast?.getD []) M (j,(x::r).dropLast)).1 (Yt ((x::r).getLast?.getD []) M (j,(x::r).dropLast)).2=some n9:=run;have t5:U.length=(x::r).length:=SE.2.1;have t6:U.length-1<U.length:=by rw[t5,Zi];omega
     have Y:=SE.2.2 (U.length-1) _ (Zf t6);have q0:Gk k ((x::r).getLast?.getD []):=by
      rw[<-Zb7];exact gl _ (Zc4 (by rw[Zi];omega))
     have el:(x::r).getD (U.length-1) []=(x::r).getLast?.getD []:=by rw[t5];exact Zb7 x r
     rw[el] at Y;have p4:=Zex M m _ _ _ run;have t7:∀y∈(x::r).dropLast,Gk k y:=fun y hy=>gl y (List.dropLast_subset _ hy);have t9:(x::r).dropLast.length<=j.length:=by rw[d0];omega
     have y9:(U.map V.ref)[(U.map V.ref).length-1]?=some (.ref U[U.length-1]):=by rw[Za,Zc,Zf t6];rfl
     have SP:=SE.pop;have RP:=RE.updM (o:=.lst (U.map V.ref).dropLast) SE.1 p7;have r6:=p8.updr (o:=.lst (U.map V.ref).dropLast) nL;have o5:upd HE Ln (.lst (U.map V.ref).dropLast) U[U.length-1]=some (.tup (((x::r).getLast?.getD []).map nV)):=by
      rw[Zx (fun z=>by rw[z,SE.1] at Y;cases Y)];exact Y
     refine⟨_,fun _ _ z=>z,_,rfl,.inl ⟨rfl,_,.of SE.1⟩,Ln,_,_,rfl,rfl,SE.1,y9,?_⟩;generalize upd HE Ln (.lst (U.map V.ref).dropLast)=HP at SP RP r6 o5 ⊢;generalize U[U.length-1]=ea at o5 ⊢;generalize (x::r).getLast?.getD []=cur at o5 q0 run p4 ⊢;generalize (x::r).dropLast=O at SP run p4 t7 t9;have pll:(bs.map V.ref).length=M.length:=by rw[Za,R0.2.1]
     refine⟨_,rfl,L,rfl,⟨_,.of (r6 _ _ R0.1)⟩,?_⟩;refine Y8 (H0:=H) (Yz (K:=K) (.of R0.1)) (fun i τ HH=>∃(J m8:List Addr) (w4 w5:Option V),τ=[some (.ref L),some (.ref D),some (.ref Ln),some (.ref ea),w4,w5]/\Same H HH/\TupsAt HH D J (Yt cur (M.take i) (j,O)).1/\TupsAt HH Ln m8 (Yt cur (M.take i) (j,O)).2/\(∀y∈(Yt cur (M.take i) (j,O)).1,Gk k y)/\(∀y∈(Yt cur (M.take i) (j,O)).2,Gk k y)/\(Yt cur (M.take i) (j,O)).2.length<=(Yt cur (M.take i) (j,O)).1.length/\HH ea=some (.tup (cur.map nV)))
      ⟨_,_,_,_,rfl,r6,RP,SP,gd,t7,t9,o5⟩ (fun i τ HH h=>h.choose_spec.choose_spec.choose_spec.choose_spec.2.1) ?_ ?_
     ·rintro i y τ HH hy ⟨J,m8,w4,w5,rfl,sH,R',S',n6,n8,o6,o7⟩
      obtain⟨b,rfl,hi,u5⟩:=R0.ref hy;have hbH:=sH _ _ u5;have gg:Gk k (M.getD i []):=B.pl _ (Zc4 hi);have pi:M[i]?=some (M.getD i []):=getL hi;generalize M.getD i []=gp at *;have hcl:(Yt cur (M.take i) (j,O)).1.length<=60:=a6 (ZcI cur M (j,O) i) (by omega);have est:=ZcH cur (s:=(j,O)) pi;rw[est];generalize Yt cur (M.take i) (j,O)=zs at *;refine⟨_,rfl,_,rfl,ea,b,k,cur,gp,rfl,o7,hbH,q0,gg,by omega,fun tp HF ntp sF hF=>?_⟩;have RF:=R'.mono sF;have SF:=S'.mono sF;have go:Gk k (J1 cur gp):=Zh3 q0 gg;refine⟨_,rfl,_,rfl,D,_,(zs.1.map fun ns=>iM ((nI ns).map a7)),.tuple ((nI (J1 cur gp)).map a7),rfl,.inl (.of RF.1),ZaB _ _ RF.2.1 RF.2.2,.tup (.of (by rw[Znf];exact hF)) (WS.ints _),ZaY zs.1,Uj _,U3 _,_,rfl,?_⟩;rw[if_pos rfl,Za6];have zl:=RF.2.1;have wl:=SF.2.1;refine Y0 (fun h2=>?_) (fun h2=>?_)
      ·have h2:zs.1.contains (J1 cur gp)=false:=by simpa using h2
       rw[if_neg (by rw[h2];decide)];refine⟨_,rfl,.inl ⟨rfl,_,.of RF.1⟩,_,rfl,D,_,_,rfl,rfl,RF.1,by rw[Za];omega,?_⟩;have u9:=RF.push hF;have m9:=SF.updM (o:=.lst (J.map V.ref++[.ref tp])) RF.1 p7.symm;have x6:=(sH.trans sF).updr (o:=.lst (J.map V.ref++[.ref tp])) nD;have x8:upd HF D (.lst (J.map V.ref++[.ref tp])) tp=some (.tup ((J1 cur gp).map nV)):=by
        rw[Zx (fun z=>by rw[z,RF.1] at hF;cases hF)];exact hF
       have o8:upd HF D (.lst (J.map V.ref++[.ref tp])) ea=some (.tup (cur.map nV)):=by
        have:=sF _ _ o7;rw[Zx (fun z=>by rw[z,RF.1] at this;cases this)];exact this
       generalize upd HF D (.lst (J.map V.ref++[.ref tp]))=HG at u9 m9 x6 x8 o8 ⊢;refine⟨_,rfl,.inl ⟨rfl,_,.of m9.1⟩,_,rfl,Ln,_,_,rfl,rfl,m9.1,by rw[Za];omega,?_⟩;refine⟨J++[tp],m8++[tp],_,_,rfl,x6.updr nL,u9.updM m9.1 p7,m9.push x8,fun y hy=>?_,fun y hy=>?_,?_,?_⟩
       ·rcases bE.mp hy with z|z
        ·exact n6 y z
        ·rw[aS.mp z];exact go
       ·rcases bE.mp hy with z|z
        ·exact n8 y z
        ·rw[aS.mp z];exact go
       ·show (zs.2++[J1 cur gp]).length<=(zs.1++[J1 cur gp]).length
        rw[Zd,Zd];omega
       ·rw[Zx (fun z=>by rw[z,m9.1] at o8;cases o8)]
        exact o8
      ·have h2:zs.1.contains (J1 cur gp)=true:=by simpa using h2
       rw[if_pos h2];exact⟨J,m8,_,_,rfl,sH.trans sF,RF,SF,n6,n8,o6,sF _ _ o7⟩
     ·rintro τ HH ⟨J,m8,w4,w5,rfl,sH,R',S',n6,n8,o6,o7⟩
      rw[pll,c7] at R' S' n6 n8 o6;exact⟨m,by omega,J,m8,_,_,_,_,_,rfl,sH,R',S',n6,n8,o6,run⟩
end
end C40
namespace Pm
open PySem L2 PySem.Spec PyProof.Rows
open Tb
theorem YM {W:Type}(n4:W->Addr)(Pr:Nat->W->Hp->Prop)(U:W->Hp->Prop){J:It}{own:List Str}{m9:List Nat}{te:TE}{σ:L2.St}{H:Hp}{Q:VK}{xs:List V}(S:Wz J H xs)(cs:L2.St)(n9:Jp own m9 σ=none::cs)(hn:xs.length<=1000)
  (mono:∀i w H q,Same H q->Pr i w H->Pr i w q) (n8:∀w H q,Same H q->U w q->U w H) (hu:∀i w H0 H1 D o ys o0,Pr i w H1->U w H0->H0 D=some (.lst o)->H1 D=some (.lst ys)->Pr i w (upd H1 D (.lst o0)))
  (hs:∀(i:Nat) y,xs[i]?=some y->∀q,Same H q->∀R:VK,(∀w Y,Same q Y->Pr i w Y->U w q->R (.ref (n4 w)) Y)->te (some y::cs) q R)
  (hd:∀D (M:List W) q,H D=none->Same H q->q D=some (.lst (M.map fun w=>V.ref (n4 w)))->M.length=xs.length->(∀(i:Nat) w,M[i]?=some w->Pr i w q/\U w H)->(∀(i j:Nat) w w',i<j->M[i]?=some w->M[j]?=some w'->∃Hm,Pr i w Hm/\U w' Hm)->Q (.ref D) q):WT own m9 (Yn 0) Wo te σ Q J H:=by
 refine V8 (xs:=xs) (fun D i ys q=>Same H q/\∃M:List W,ys=M.map (fun w=>V.ref (n4 w))/\M.length=i/\(∀(i:Nat) w,M[i]?=some w->Pr i w q/\U w H/\∃H0 o,H0 D=some (.lst o)/\U w H0)/\(∀(i j:Nat) w w',i<j->M[i]?=some w->M[j]?=some w'->∃Hm,Pr i w Hm/\U w' Hm)) cs n9 (by omega) ?_ ?_ ?_ ?_
 ·intro D i ys q hD O p
  have S':=S.mono p.1;exact⟨fun hi=>⟨S'.go i q (Same.refl _) hi,fun x H3 y=>S'.yld i q x H3 (Same.refl _) hi y⟩,fun e=>e▸S'.stop q (Same.refl _)⟩
 ·intro D hD
  exact⟨Same.upd hD,[],rfl,rfl,(fun i w hw=>by cases hw),(fun i j w w' _ h=>by cases h)⟩
 ·rintro D i y ys q hD O hy ⟨sm,M,rfl,wl,hw,hp⟩ R k
  refine hs i y hy q sm R fun w Y s5 p5 n5=>?_;have n6:=s5 _ _ O;have lst:∀(b:Nat) v,(M++[w])[b]?=some v->(b<M.length/\M[b]?=some v)\/(b=M.length/\v=w):=fun b v hb=>by
   by_cases m8:b<M.length
   ·rw[am m8] at hb
    exact .inl ⟨m8,hb⟩
   ·rw[aq (by omega)] at hb
    have o5:b-M.length=0:=by
     apply ah;intro z;rw[ag (by rw[Zk];omega)] at hb;cases hb
    rw[o5] at hb;cases hb;exact .inr ⟨by omega,rfl⟩
  refine k _ Y n6 ⟨(sm.trans s5).updr hD,M++[w],by rw[aT];rfl,by rw[Zd,wl];rfl,fun b v hv=>?_,fun a b v v' o6 ha hb=>?_⟩
  ·rcases lst b v hv with ⟨_,hv⟩|⟨hb,hv⟩
   ·obtain⟨h1,h2,H0,o,h3,h4⟩:=hw b v hv
    exact⟨hu b v H0 Y D o _ _ (mono b v _ _ s5 h1) h4 h3 n6,h2,H0,o,h3,h4⟩
   ·subst hv
    subst hb;rw[<-wl] at p5;exact⟨hu _ v q Y D _ _ _ p5 n5 O n6,n8 v _ _ sm n5,q,_,O,n5⟩
  ·rcases lst b v' hb with ⟨m8,hb⟩|⟨m8,hb⟩
   ·rw[am (by omega)] at ha
    exact hp a b v v' o6 ha hb
   ·subst hb
    rw[am (by omega)] at ha;exact⟨q,(hw a v ha).1,n5⟩
 ·rintro D ys Y hD O o7 ⟨sm,M,rfl,wl,hw,hp⟩
  exact hd D M Y hD sm O wl (fun i w h=>⟨(hw i w h).1,(hw i w h).2.1⟩) hp
theorem WR {J:It}{own:List Str}{M:List Nat}{te:TE}{σ:L2.St}{H:Hp}{Q:VK}{xs:List V}(S:Wz J H xs)(cs:L2.St)(m8:Jp own M σ=none::cs)(F:Nat->V)(hz:xs.length<=1000)
  (hs:∀(i:Nat) y,xs[i]?=some y->∀j,Same H j->∀R:VK,(∀O,Same j O->R (F i) O)->te (some y::cs) j R)
  (hd:∀D j,H D=none->Same H j->j D=some (.lst ((ac xs.length).map F))->Q (.ref D) j):WT own M (Yn 0) Wo te σ Q J H:=by
 refine V8 (xs:=xs) (fun D i Y j=>Same H j/\Y=(ac i).map F) cs m8 (by omega) ?_ ?_ ?_ ?_
 ·intro D i Y j U q p
  have S':=S.mono p.1;exact⟨fun hi=>⟨S'.go i j (Same.refl _) hi,fun x H3 y=>S'.yld i j x H3 (Same.refl _) hi y⟩,fun e=>e▸S'.stop j (Same.refl _)⟩
 ·intro D U
  exact⟨Same.upd U,rfl⟩
 ·rintro D i y Y j U q hy ⟨sm,rfl⟩ R k
  refine hs i y hy j sm R fun O s5=>k _ O (s5 _ _ q) ⟨(sm.trans s5).updr U,?_⟩;rw[dF,aT];rfl
 ·rintro D Y O U q m9 ⟨sm,rfl⟩
  exact hd D O U sm q
theorem ZmC {X:Cx}(K:ab)(q:X.K=K:=by rfl):Yo X (.type "tuple") (fun xs H Q=>∃p ys,xs=[.ref p]/\Wx K H p ys/\∀l j,H l=none->Same H j->Tz j l ys->Q (.ref l) j):=q▸Zco
theorem Tz.updL {H:Hp}{a D:Addr}{ys q:List V}{o:HO}(h:Tz H a ys)(J:H D=some (.lst q)):Tz (upd H D o) a ys:=by
 obtain⟨u,j,M⟩:=h;exact⟨u,by rw[Zx (fun z=>by rw[z,J] at j;cases j)];exact j,M⟩
noncomputable def J5 (y:List Nat):List Ym:=y.map fun x:Nat=>fR (x:Int)
theorem Zhj (y:List Nat):(J5 y).map kV=y.map nV:=by
 unfold J5;rw[aU];rfl
theorem Zb8 {a b:List Nat}(h:J5 a=J5 b):a=b:=by
 unfold J5 at h;refine (eX (fun x y e=>?_)).mp h;injection e with e;omega
noncomputable def kvN (j:List (List Nat))(os:List Nat)(m:Nat):List (List Ym×V):=(ac m).map fun i=>(J5 (j.getD (os.getD i 0) []),.int (i:Nat))
section
variable {fd:List (List Nat)}{os:List Nat}
theorem ZhD (J:fd.Nodup){a b:Nat}(j:a<fd.length)(hb:b<fd.length)(h:fd.getD a []=fd.getD b []):a=b:=by
 have q:=getL j;have M:=getL hb;rw[h,<-M] at q;exact (mD j J).mp q
theorem Zhi (q:fd.Nodup){n:Nat}(U:fd.length=n)(O:Ord n os){i c:Nat}(j:i<n)(J:c<n):J5 (fd.getD (os.getD i 0) [])=J5 (fd.getD c [])↔i=pos os c:=by
 have Y:=Yp O j;obtain⟨M,p2⟩:=YZ O J;constructor
 ·intro h
  have:=ZhD q (by omega) (by omega) (Zb8 h);exact inj O j M (by rw[this,p2])
 ·rintro rfl
  rw[p2]
theorem Zjk (M:fd.Nodup){n:Nat}(U:fd.length=n)(O:Ord n os){m:Nat}(q:m<n):Wq (kvN fd os m) (J5 (fd.getD (os.getD m 0) [])) (.int (m:Nat))=kvN fd os (m+1):=by
 have:(kvN fd os m).any (fun J=>decide (J.1=J5 (fd.getD (os.getD m 0) [])))=false:=by
  rw[mF];intro h;rw[bd] at h;obtain⟨J,j,e⟩:=h;obtain⟨i,hi,rfl⟩:=aI.mp j;have hi:=ae.mp hi;have e:=of_decide_eq_true e;have:=ZhD M (by have:=Yp O (show i<n by omega);omega) (by have:=Yp O q;omega) (Zb8 e);have:=inj O (by omega) q this;omega
 unfold Wq;rw[this];unfold kvN;rw[dF,aT];rfl
theorem Zjj (J:fd.Nodup){n:Nat}(M:fd.length=n)(O:Ord n os){c:Nat}(q:c<n):YY (kvN fd os n) (J5 (fd.getD c []))=some (.int (pos os c:Nat)):=by
 obtain⟨U,p2⟩:=YZ O q;unfold YY kvN;rw[List.find?_map];have:(ac n).find? ((fun Y:List Ym×V=>decide (Y.1=J5 (fd.getD c []))) ∘ fun i:Nat=>((J5 (fd.getD (os.getD i 0) []),V.int (i:Nat)):List Ym×V))=some (pos os c):=by
  rw[kc];refine⟨decide_eq_true ((Zhi J M O U q).mpr rfl),ae.mpr U,fun j hj=>?_⟩;rw[gu];refine decide_eq_false fun h=>?_;have:=(Zhi J M O (by omega) q).mp h;omega
 rw[this];rfl
theorem Zl6 (J:∀a∈fd,∀b∈fd,J1 a b∈fd){a b:Nat}(q:a<fd.length)(hb:b<fd.length):ZJ (Y4 fd) a b<fd.length/\fd.getD (ZJ (Y4 fd) a b) []=J1 (fd.getD a []) (fd.getD b []):=by
 have e:ZJ (Y4 fd) a b=fd.findIdx (· == J1 (fd.getD a []) (fd.getD b [])):=by
  unfold ZJ Y4;rw[Zb (l:=fd.map _),Zc,getL q];show (fd.map fun b=>fd.findIdx (· == J1 (fd.getD a []) b)).getD b 0=_;rw[Zb,Zc,getL hb];rfl
 have hm:=J _ (Zc4 q) _ (Zc4 hb);have j:fd.findIdx (· == J1 (fd.getD a []) (fd.getD b []))<fd.length:=kG.mpr ⟨_,hm,by exact beq_self_eq_true _⟩;rw[e];refine⟨j,?_⟩;have:=iw (w:=j);rw[Zb,Zf j];exact eq_of_beq this
theorem ZfW (fd:List (List Nat)):(Y4 fd).length=fd.length:=by unfold Y4;rw[Za]
end
theorem Vt {α q:Type}(f:α->q):∀(xs:List α) (j:Nat),(xs.map f).eraseIdx j=(xs.eraseIdx j).map f
 | [],j=>rfl
 |x::xs,0=>rfl
 |x::xs,j+1=>by
  show f x::(xs.map f).eraseIdx j=f x::(xs.eraseIdx j).map f;rw[Vt f xs j]
theorem TupsAt.erase {H:Hp}{L:Addr}{bs:List Addr}{yss:List (List Nat)}(R:TupsAt H L bs yss)(j:Nat):TupsAt (upd H L (.lst ((bs.map V.ref).eraseIdx j))) L (bs.eraseIdx j) (yss.eraseIdx j):=by
 refine⟨by rw[Zt,Vt],by rw[dZ,dZ,R.2.1],fun i b hb=>?_⟩;rw[kD] at hb;rw[Zb,kD];have q:∀J,bs[J]?=some b->upd H L (.lst ((bs.map V.ref).eraseIdx j)) b=some (.tup ((yss[J]?.getD []).map nV)):=fun J O=>by
  have h:=R.2.2 J b O;rw[Zx (fun z=>by rw[z,R.1] at h;cases h),h,Zb]
 by_cases M:i<j
 ·rw[if_pos M] at hb ⊢
  exact q _ hb
 ·rw[if_neg M] at hb ⊢
  exact q _ hb
theorem TupsAt.sub {H:Hp}{L A:Addr}{cs:List Addr}{fd:List (List Nat)}(R:TupsAt H L cs fd)(os:List Nat)(M:∀i∈os,i<fd.length)(O:H A=some (.lst ((os.map fun i=>cs.getD i 0).map V.ref))):TupsAt H A (os.map fun i=>cs.getD i 0) (os.map fun i=>fd.getD i []):=by
 refine⟨O,by rw[Za,Za],fun i b hb=>?_⟩;rw[Zc] at hb;cases e:os[i]? with
 |none=>rw[e] at hb;cases hb
 |some j=>
  rw[e] at hb;have U:=M j (aD e);have q:j<cs.length:=by rw[R.2.1];exact U
  have J:cs[j]?=some b:=by
   rw[<-aw hb];show cs[j]?=some (cs.getD j 0);rw[Zb,Zf q];rfl
  rw[R.2.2 j b J,Zb (l:=os.map _),Zc,e];rfl
end Pm
namespace C40
open PySem L2 PySem.Spec PyProof.Rows
open Tb Pm
noncomputable abbrev ZcS:Stmt:=top 41
noncomputable def ZdK:Sp:=fun q H Q _=>∃(p:Addr) (b:Nat) (J:Bool),q=[.ref p,.bl J]/\Ws H p b/\b+100<2 ^ 60/\∀g t j,Tk p H j->Ws j p (b+70)->GT j g t->PW t->MkG t->Q (.ref g) j
theorem ZhQ {xs:List V}(h:1<=xs.length):Jo xs (some 1) none=xs.drop 1:=by
 unfold Jo;have j:HT.Ur xs.length 0 (some 1)=1:=by
  have:=HT.Zaw xs.length 0 1;rw[show ((1:Nat):Int)=1 from rfl] at this;rw[this];omega
 rw[j,HT.Zbu];rw[gS (by rw[bt];omega)]
theorem ZlT {xs:List V}(h:1<=xs.length):Jo xs none (some 1)=xs.take 1:=by
 unfold Jo;have j:HT.Ur xs.length xs.length (some 1)=1:=by
  have:=HT.Zaw xs.length xs.length 1;rw[show ((1:Nat):Int)=1 from rfl] at this;rw[this];omega
 rw[j,HT.Zbu];rfl
theorem Zfm {cs:List Addr}{n:Nat}(h:cs.length=n):(cs.map V.ref).drop 1=(((ac (n-1)).map (· + 1)).map fun i=>cs.getD i 0).map V.ref:=by
 refine aX fun i=>?_;rw[iP,Zc,Zc,Zc,Zc];by_cases j:i<n-1
 ·rw[ak j,Zf (show 1+i<cs.length by omega)]
  show some (V.ref cs[1+i])=some (V.ref (cs.getD (i+1) 0));rw[Zb,Zf (show i+1<cs.length by omega)];congr 3;omega
 ·rw[ag (by omega),ag (by rw[Zg];omega)]
  rfl
theorem ZeQ {cs:List Addr}(h:1<=cs.length):(cs.map V.ref).take 1=(([0]:List Nat).map fun i=>cs.getD i 0).map V.ref:=by
 cases cs with
 |nil=>cases h
 |cons c r=>rfl
theorem Tk.updN {p l:Addr}{H j:Hp}{o:HO}(a:Tk p H j)(h:H l=none):Tk p H (upd j l o):=fun c u e n=>by
 rw[Zx (Z4 e h)];exact a c u e n
theorem Tk.same {p:Addr}{H j q:Hp}(a:Tk p H j)(s:Same j q):Tk p H q:=a.trans (Tk.of s)
theorem Ws.updN {p l:Addr}{H:Hp}{b:Nat}{o:HO}(h:Ws H p b)(j:l≠p):Ws (upd H l o) p b:=by
 obtain⟨c,q,n,J,M⟩:=h;exact⟨c,q,n,by rw[Zx j.symm];exact J,M⟩
theorem Zlp (os:List Nat)(g:Nat->Nat):(ac os.length).map (fun j=>g (os.getD j 0))=os.map g:=by
 refine aX fun i=>?_;rw[Zc,Zc];by_cases q:i<os.length
 ·rw[ak q,Zf q]
  show some (g (os.getD i 0))=some (g os[i]);rw[Zb,Zf q];rfl
 ·rw[ag (by rw[Zg];omega),ag (by omega)]
  rfl
theorem ZaJ {os:List Nat}{fd:List (List Nat)}{i:Nat}(j:i<os.length):(os.map fun i=>fd.getD i []).getD i []=fd.getD (os.getD i 0) []:=by
 rw[Zb,Zc,Zf j,Zb (l:=os),Zf j];rfl
section
variable {P:Program}{w:World}{K:ab}{mg:Str->Option Value}{base:Heap}
theorem ZgY {f:Addr}{fd:FuncData}(F:WB K "_law_group" "_law_group" ZcS f fd)(T:BlB mg)(x6:Fn P w K mg base Yd 2 "_law_things" ["_law_perms_here"] Zbl)(GP:Fn P w K mg base Yd 2 "_law_perms" ["_law_tape_here", "_law_great"] ZdE)(GK:Fn P w K mg base Yd 1 "_law_pick" ["_law_tape_here", "_law_many"] ZcK)(GA:Fn P w K mg base Yd 1 "_law_after" ["_law_one", "_law_other"] Zan) :
  Z5 P w K mg base Yd 3 f fd ["_law_tape_here", "_law_great"] ZdK:=by
 refine F.ok (FS (N:=["_law_tape_here", "_law_great", "_law_things_here", "_law_left", "_law_order", "_law_numbers", "_law_k"])) (fun vs H Q E h=>?_) (fun x8 A x9 s H vs Q E hr h=>?_)
 ·obtain⟨p,b,gr,rfl,_⟩:=h;rfl
 ·obtain⟨p,b,gr,rfl,T0,hb,q⟩:=h
  have hu:(A.deeper (envOfC "_law_group" (Z2 ZcS) s.heap.objs.size f x8)).units+1<cLine:=by have:=hr.un;omega
  refine⟨_,Zs (ZE 2 rfl (Wd x6 hr ZL (pc (Wd GP hr ZL (pc (vn 0) (pc (vn 1) Zu))) Zu)))
   (Zs (ZE 3 rfl (Ju Xg (vn 2) (Xl Zw) Xm))
   (Zs (ZE 4 rfl (Ju Xg (vn 2) Xm (Xl Zw)))
   (Zs (Z9 ao (ZT (neC K hr.units) (vn 3) (ZS Zu) (Z1 _))
    (Zv (Ya (Y6 aH aM aO ZV (vn 4)
     (pc (Y6 aH fX j6 Zhb (vn 3) (pc (Wd GK hr ZL (pc (vn 0) (pc (cb (YF K) T.len (pc (vn 3) Zu)) Zu))) Zu)) Zu)))))
   (Zs (ZE 5 rfl ZgI)
   (Zs (ZR ao rfl (XM T.range (pc (cb (YF K) T.len (pc (vn 4) Zu)) Zu)) (gn 6)
    (Zv (JN hu (vn 5) (ZN (V2 K) (vn 4) (vn 6) (fun _ _=>rfl)) (vn 6) (by rfl))))
   (Zv (ZG (ct ZH T.tuple (pc (cmp ["_law_one"] [5,4] ["_law_one", "_law_numbers", "_law_order"] rfl (itL K (vn 4)) (fun _ _ _ _ _=>gnf 0 rfl) (fun _ _ _ _ _=>ZP)
    (fun _ _ _ _ _=>ct (ZmC K) (by exact T.tuple) (pc (cmp ["_law_other"] [1,0] ["_law_other", "_law_numbers", "_law_one"] rfl (itL K (vn 2)) (fun _ _ _ _ _=>gn 0) (fun _ _ _ _ _=>ZP)
     (fun _ _ _ _ _=>WG hu (vn 1) (Wd GA hr ZL (pc (vn 2) (pc (vn 0) Zu))) (fun _ _=>rfl))) Zu))) Zu))))))))),?_⟩
  have sz:(16777216:Nat)=sizeLine:=by decide
  refine⟨_,rfl,_,rfl,p,b,gr,rfl,T0,by omega,fun L bs ps H1 k1 T1 r8 R1=>?_⟩;obtain⟨J,B⟩:=Zm9 r8.1;generalize (ps.getD 0 []).length=k at B;have n60:=B.n60;have k10:=B.k10;have n1:1<=J.length:=(aa.mp B.hd).1;refine⟨L,bs,ps,k,J,rfl,R1,B,fun D M H2 nD s2 R2=>?_⟩;have r9:M.length=J.length:=R2.2.1;have cml:(M.map V.ref).length=J.length:=by rw[Za,r9]
  refine⟨_,rfl,_,rfl,D,_,rfl,.of R2.1,fun Lf o8=>?_⟩;rw[ZhQ (by omega),Zfm r9];have s3:=Same.upd (H:=H2) (o:=.lst ((((ac (J.length-1)).map (· + 1)).map fun i=>M.getD i 0).map V.ref)) o8;have n8:upd H2 Lf (.lst ((((ac (J.length-1)).map (· + 1)).map fun i=>M.getD i 0).map V.ref)) Lf=some (.lst ((((ac (J.length-1)).map (· + 1)).map fun i=>M.getD i 0).map V.ref)):=Zt;generalize upd H2 Lf (.lst ((((ac (J.length-1)).map (· + 1)).map fun i=>M.getD i 0).map V.ref))=H3 at s3 n8 ⊢;refine⟨_,rfl,_,rfl,D,_,rfl,.of (s3 _ _ R2.1),fun Y o9=>?_⟩;rw[ZlT (by omega),ZeQ (by omega)];have s4:=Same.upd (H:=H3) (o:=.lst ((([0]:List Nat).map fun i=>M.getD i 0).map V.ref)) o9;have t0:upd H3 Y (.lst ((([0]:List Nat).map fun i=>M.getD i 0).map V.ref)) Y=some (.lst ((([0]:List Nat).map fun i=>M.getD i 0).map V.ref)):=Zt;generalize upd H3 Y (.lst ((([0]:List Nat).map fun i=>M.getD i 0).map V.ref))=H4 at s4 t0 ⊢;have p4:=s3.trans s4;have R4:=R2.mono p4;have o6:H2 Y=none:=s3.free o9;have t5:Lf≠Y:=fun z=>by rw[z,o9] at n8;cases n8
  have T2:=T1.mono s2;have T4:=T2.mono p4;have y4:Lf≠p:=T2.neN o8;have y6:Y≠p:=T2.neN o6;have y8:=R4.sub ((ac (J.length-1)).map (· + 1)) (fun i hi=>by
   obtain⟨j,hj,rfl⟩:=aI.mp hi;have:=ae.mp hj;omega) (s4 _ _ n8)
  have y9:=R4.sub [0] (fun i hi=>by rw[aS.mp hi];omega) t0;have p0:([0]++(ac (J.length-1)).map (· + 1)).Perm (ac J.length):=by
   have:ac J.length=[0]++(ac (J.length-1)).map (· + 1):=by
    obtain⟨k,hk⟩:∃k,J.length=k+1:=⟨J.length-1,by omega⟩;rw[hk,kB];rfl
   rw[this]
  refine Z6 (fun m U H'=>∃(ls os:List Nat),U=[some (.ref p),some (.bl gr),some (.ref D),some (.ref Lf),some (.ref Y),none,none]/\Tk p H2 H'/\Ws H' p (b+2+os.length)/\TupsAt H' Lf (ls.map fun i=>M.getD i 0) (ls.map fun i=>J.getD i [])/\TupsAt H' Y (os.map fun i=>M.getD i 0) (os.map fun i=>J.getD i [])/\(os++ls).Perm (ac J.length)/\os[0]?=some 0/\m=ls.length)
   (fun U H'=>∃(os:List Nat),U=[some (.ref p),some (.bl gr),some (.ref D),some (.ref Lf),some (.ref Y),none,none]/\Tk p H2 H'/\Ws H' p (b+2+os.length)/\TupsAt H' Y (os.map fun i=>M.getD i 0) (os.map fun i=>J.getD i [])/\os.Perm (ac J.length)/\os[0]?=some 0) ?hend ⟨_,_,_,rfl,Tk.of p4,T4.le (by omega),y8,y9,p0,rfl,rfl⟩ ?turn
  case turn=>
   rintro o7 m U H' ⟨ls,os,rfl,kk,Tp,RL,RO,pm,h0,hm⟩;have pl:=pm.length_eq;rw[Zd,Zg] at pl;refine⟨_,rfl,(by show 0<=sizeLine;decide),fun e0 ne0=>?_⟩;have sE:=Same.upd (H:=H') (o:=.lst []) ne0;have n4:=RL.mono sE;have n9:=RO.mono sE;have kE:=kk.same sE;have TE:=Tp.mono sE;refine⟨_,_,n4.rd,.lst (.of Zt) .nil,Zbp _,rfl,_,rfl,?_⟩;generalize upd H' e0 (.lst [])=HE at n4 n9 kE TE ⊢;rw[ZhH];refine Y0 (fun hne=>?_) (fun he=>?_)
   ·have hpos:0<ls.length:=by
     cases ls with
     |nil=>cases hne
     |cons x r=>rw[Zi];omega
    refine⟨_,fun _ _ z=>z,_,rfl,.inl ⟨rfl,_,.of n9.1⟩,_,rfl,.inl ⟨rfl,_,.of n4.1⟩,_,rfl,_,rfl,Lf,_,rfl,.inl (.of n4.1),p,_,b+2+os.length,rfl,TE,by omega,?_,?_,fun r5 H5 c0 c1 k5 T5=>?_⟩
    ·rw[Za,Za];omega
    ·rw[Za,Za];omega
    rw[Za,Za] at c1;obtain⟨j,rfl⟩:=bQ c0;have hj:j<ls.length:=by omega
    have n6:=TupsAt.tk TE k5 n4;have RO5:=TupsAt.tk TE k5 n9;have p6:((ls.map fun i=>M.getD i 0).map V.ref)[j]?=some (.ref (M.getD ls[j] 0)):=by rw[Zc,Zc,Zf hj];rfl
    obtain⟨sx,_⟩:=ZaQ (Jy (n:=((ls.map fun i=>M.getD i 0).map V.ref).length) (i:=j) (by rw[Za,Za];exact hj));have o0:=n6.2.2 j (M.getD ls[j] 0) (by rw[Zc,Zf hj];rfl);have ef:(ls.map fun i=>J.getD i []).getD j []=J.getD ls[j] []:=by
     rw[Zb,Zc,Zf hj];rfl
    rw[ef] at o0;have p7:=n6.erase j;have o5:=RO5.updM (o:=.lst (((ls.map fun i=>M.getD i 0).map V.ref).eraseIdx j)) n6.1 t5.symm;have T6:=T5.updN (o:=.lst (((ls.map fun i=>M.getD i 0).map V.ref).eraseIdx j)) y4;have k6:=(kE.trans k5).updN (o:=.lst (((ls.map fun i=>M.getD i 0).map V.ref).eraseIdx j)) o8;have t6:upd H5 Lf (.lst (((ls.map fun i=>M.getD i 0).map V.ref).eraseIdx j)) (M.getD ls[j] 0)=some (.tup ((J.getD ls[j] []).map nV)):=by
     rw[Zx (fun z=>by rw[z,n6.1] at o0;cases o0)];exact o0
    refine⟨Lf,_,j,j,_,rfl,rfl,n6.1,by omega,by omega,sx,p6,?_⟩;generalize upd H5 Lf (.lst (((ls.map fun i=>M.getD i 0).map V.ref).eraseIdx j))=H6 at p7 o5 T6 k6 t6 ⊢;refine⟨Y,_,_,rfl,rfl,o5.1,by rw[Za,Za];omega,?_⟩;rw[Vt,Vt] at p7;refine⟨(ls.eraseIdx j).length,by rw[dZ,if_pos hj];omega,ls.eraseIdx j,os++[ls[j]],rfl,k6.updN o6,?_,p7.updM o5.1 t5,?_,?_,?_,rfl⟩
    ·rw[Zd]
     exact T6.updN y6
    ·rw[aT,aT]
     exact o5.push t6
    ·rw[gt]
     exact (jS os (Zch ls j hj)).trans pm
    ·rw[am]
     ·exact h0
     ·exact (aa.mp h0).1
   ·have:ls=[]:=by
     cases ls with
     |nil=>rfl
     |cons x r=>exact absurd rfl he
    subst this;rw[hG] at pm;exact o7 _ _ ⟨os,rfl,kE,TE,n9,pm,h0⟩
  case hend=>
   rintro U H5 ⟨os,rfl,kk,Tp,RO,pm,h0⟩;have O:=Zk5 n1 pm h0;have m9:=O.len;have nd:=B.nd;refine fun Nd t7=>?_;have s6:=Same.upd (H:=H5) (o:=.dT []) t7;have t9:upd H5 Nd (.dT []) Nd=some (.dT []):=Zt;generalize upd H5 Nd (.dT [])=H6 at s6 t9 ⊢;have ol:((os.map fun i=>M.getD i 0).map V.ref).length=J.length:=by rw[Za,Za,m9]
   refine⟨_,rfl,Y,_,rfl,.inl (.of (s6 _ _ RO.1)),_,rfl,by rw[ol];omega,by rw[ol];omega,?_⟩;rw[ol,Zj];refine Y3 (fun m U H'=>∃v6:Option V,U=[some (.ref p),some (.bl gr),some (.ref D),some (.ref Lf),some (.ref Y),some (.ref Nd),v6]/\Same H5 H'/\H' Nd=some (.dT (kvN J os m))) ⟨_,rfl,s6,t9⟩ ?_ ?_
   ·rintro m U H7 hm ⟨v6,rfl,s7,p8⟩
    rw[show (0:Int)+(m:Int)=(m:Int) by omega];have m8:=RO.mono s7;obtain⟨c,_,p6,hc⟩:=m8.get (i:=m) (by rw[Za,m9];exact hm);rw[ZaJ (by omega)] at hc;refine⟨_,rfl,_,rfl,_,rfl,_,rfl,Y,_,_,_,rfl,rfl,.of m8.1,p6,Nd,_,rfl,XG.t (k:=J5 (J.getD (os.getD m 0) [])) p8 (by rw[Zhj];exact hc) (by unfold kvN;rw[Za,Zg];omega),?_⟩;rw[Zjk nd rfl O hm];exact⟨_,rfl,s7.updr t7,Zt⟩
   ·rintro U H7 ⟨v6,rfl,s7,p8⟩
    have m8:=RO.mono s7;refine⟨_,rfl,Y,rfl,⟨_,.of m8.1⟩,?_⟩;have Ot:Ord (Y4 J).length os:=by rw[ZfW];exact O
    have Pt:PW (ren (Y4 J) os):=Jf B.pw Ot;have rl:(ren (Y4 J) os).length=J.length:=by rw[Vp,m9]
    have rat:∀i,i<J.length->(ren (Y4 J) os).getD i []=os.map fun b=>pos os (ZJ (Y4 J) (os.getD i 0) b):=fun i hi=>by
     unfold ren;rw[Zb,Zc,JP (show i<os.length by omega)];rfl
    refine YM (W:=Addr) id (fun i w H=>Tz H w (((ren (Y4 J) os).getD i []).map nV)) (fun _ _=>True) (Yz (K:=K) (.of m8.1)) [some (.ref Nd),some (.ref Y)] rfl (by rw[ol];omega) (fun i w H H' s h=>h.mono s) (fun w H H' s h=>trivial) (fun i w H0 H1 D o ys ys' h h0 h1 h2=>Tz.updL h h2) (fun i y hy H8 s8 R k8=>?_) (fun D8 ws H8 nD8 s8 hD8 wl hw hp=>?_)
    ·obtain⟨c,rfl,hi,hc⟩:=m8.ref hy
     rw[Za,m9] at hi;rw[ZaJ (by omega)] at hc;have q0:=m8.mono s8;have u5:=Yp O hi;refine⟨_,rfl,Y,rfl,⟨_,.of q0.1⟩,?_⟩;refine WR (Yz (K:=K) (.of q0.1)) [some (.ref Nd),some (.ref c)] rfl (fun j=>nV (pos os (ZJ (Y4 J) (os.getD i 0) (os.getD j 0)))) (by rw[ol];omega) (fun j y' hy' H9 s9 R' k9=>?_) (fun D9 H9 nD9 s9 r6=>?_)
     ·obtain⟨d,rfl,hj,hd⟩:=q0.ref hy'
      rw[Za,m9] at hj;rw[ZaJ (by omega)] at hd;have u9:=Yp O hj;obtain⟨ml,me⟩:=Zl6 B.cl u5 u9;refine⟨_,rfl,_,rfl,_,rfl,c,d,k,_,_,rfl,(s8.trans s9) _ _ hc,s9 _ _ hd,B.fg _ (Zc4 u5),B.fg _ (Zc4 u9),by omega,fun r HA nr sA hr'=>?_⟩;have dg:=WU.t (H:=HA) (k:=J5 (J1 (J.getD (os.getD i 0) []) (J.getD (os.getD j 0) []))) (((s8.trans s9).trans sA) _ _ p8) (by rw[Zhj];exact hr');rw[<-me,Zjj nd rfl O ml] at dg;exact⟨Nd,_,rfl,dg,k9 HA sA⟩
     ·rw[ol] at r6
      have e:(ac J.length).map (fun j=>nV (pos os (ZJ (Y4 J) (os.getD i 0) (os.getD j 0))))=((ren (Y4 J) os).getD i []).map nV:=by
       rw[rat i hi,<-Zlp os,aU,m9];rfl
      rw[e] at r6;exact⟨D9,_,rfl,.of r6,fun z Hz nz sz' hz=>k8 z Hz (s9.trans sz') hz trivial⟩
    ·refine⟨D8,_,rfl,.inl ⟨.of hD8,fun g ng=>?_⟩⟩
     have s9:=Same.upd (H:=H8) (o:=.tup (ws.map fun w=>V.ref (id w))) ng;have sX:=(s7.trans s8).trans s9;refine q g (ren (Y4 J) os) _ (((k1.same s2).trans kk).same sX) ((Tp.mono sX).le (by omega)) ⟨ws,Zt,by rw[wl,ol,rl],fun i r hr=>((hw i r hr).1).mono s9⟩ Pt ⟨ps,k,J,os,r8.2,B,Ot,rfl⟩
end
structure Bl (mg:Str->Option Value):Prop where
 list:mg "list"=none
 len:mg "len"=none
 abs:mg "abs"=none
 range:mg "range"=none
 tuple:mg "tuple"=none
 isi:mg "isinstance"=none
 all:mg "all"=none
 set:mg "set"=none
 repr:mg "repr"=none
 any:mg "any"=none
 int:mg "int"=none
 bool:mg "bool"=none
noncomputable abbrev Zj5:Stmt:=top 3
noncomputable def Zam (K:ab):Sp:=fun j H Q _=>∃(g:Addr) (t:List (List Nat)) (a r:Nat),j=[.ref g,.int a]/\GT H g t/\PW t/\a<t.length/\Rd t a r/\Q (.int (it t a (r-1):Nat)) H
section
variable {P:Program}{w:World}{K:ab}{mg:Str->Option Value}{base:Heap}
theorem Zi3 {f:Addr}{fd:FuncData}(F:WB K "back" "back" Zj5 f fd):Z5 P w K mg base Yd 1 f fd ["group", "a"] (Zam K):=by
 refine F.ok (FS (N:=["group", "a"])) (fun vs H Q E h=>?_) (fun m8 A U s H vs Q E hr h=>?_)
 ·obtain⟨g,t,a,r,rfl,_⟩:=h;rfl
 ·obtain⟨g,t,a,r,rfl,G,J,M,R,q⟩:=h
  refine⟨_,Zv (ZG (ZgK jL gM jI (ZmD K) (ZN (Xt K) (vn 0) (vn 1) (fun _ _=>rfl)) (pc Zw Zu))),?_⟩;obtain⟨rs,r1,h1,_,h2,Y,h4⟩:=G.at J M;have hl:=Xj J M;have il:=Wr J M (r-1);refine⟨_,rfl,_,rfl,g,_,_,_,rfl,rfl,.of h1,h2,⟨_,_,rfl,Y⟩,r1,_,.int 0,it t a (r-1),rfl,rfl,Y.sq,rfl,?_,by rw[Za,hl];exact il,fun z j=>?_,fun m z hm j=>?_,q⟩
  ·rw[aN]
   intro z j;obtain⟨k,_,rfl⟩:=aI.mp j;rfl
  ·rw[XL J M il,R.bk] at j
   cases j;decide
  ·have O:m<t.length:=by omega
   rw[XL J M O] at j;cases j;have:ZJ t a m≠0:=fun z=>by
    have:=R.un m O z;omega
   show decide ((ZJ t a m:Int)=0)=false;exact decide_eq_false (by omega)
end
end C40
namespace Tb
section
variable {t:List (List Nat)}
noncomputable def YD (t:List (List Nat))(a:Nat):Nat:=((ac t.length).find? fun b=>ZJ t a b == 0).getD 0
theorem Yc (P:PW t){a:Nat}(j:a<t.length):YD t a<t.length/\ZJ t a (YD t a)=0:=by
 obtain⟨r,R⟩:=P.rd a j;unfold YD;cases h:(ac t.length).find? fun b=>ZJ t a b == 0 with
 |none=>
  exfalso;rw[iQ] at h;exact h _ (ae.mpr (Wr P j (r-1))) (by rw[R.bk];rfl)
 |some b=>
  have q:=ae.mp (gf h);have J:=jA h;exact⟨q,by simpa using J⟩
theorem Zdp (P:PW t){a r:Nat}(j:a<t.length)(R:Rd t a r):it t a (r-1)=YD t a:=((R.un _ (Yc P j).1 (Yc P j).2)).symm
theorem X3 (P:PW t){a b:Nat}(j:a<t.length)(hb:b<t.length)(h:ZJ t a b=0):b=YD t a:=by
 obtain⟨r,R⟩:=P.rd a j;rw[<-Zdp P j R];exact R.un b hb h
theorem Zae (P:PW t){a:Nat}(j:a<t.length):ZJ t (YD t a) a=0:=by
 obtain⟨q,O⟩:=Yc P j;obtain⟨J,M⟩:=Yc P q;have e:a=YD t (YD t a):=by
  have:=P.ass a (YD t a) (YD t (YD t a)) j q J;rw[O,M,P.one _ J,P.oneR a j] at this;exact this.symm
 conv=>lhs;rw[e]
 rw[<-e]
 conv=>lhs;rw[e]
 rw[<-e];rw[show ZJ t (YD t a) a=ZJ t (YD t a) (YD t (YD t a)) by rw[<-e]];exact M
noncomputable def tb (t:List (List Nat))(b x:Nat):Nat:=ZJ t (ZJ t x b) (YD t x)
theorem X6 (P:PW t){b x:Nat}(hb:b<t.length)(j:x<t.length):tb t b x<t.length:=P.lt _ _ (P.lt _ _ j hb) (Yc P j).1
theorem Zaj (P:PW t){b:Nat}(hb:b<t.length):tb t b 0=b:=by
 have j:=P.n1;have e:YD t 0=0:=(X3 P (by omega) (by omega) (P.one 0 (by omega))).symm;unfold tb;rw[e,P.one b hb,P.oneR b hb]
theorem Vn (P:PW t){b x:Nat}(hb:b<t.length)(j:x<t.length):ZJ t (ZJ t (YD t x) (tb t b x)) x=b:=by
 obtain⟨q,_⟩:=Yc P j;have J:=Zae P j;unfold tb;rw[<-P.ass (YD t x) (ZJ t x b) (YD t x) q (P.lt _ _ j hb) q,<-P.ass (YD t x) x b q j hb,J,P.one b hb,P.ass b (YD t x) x hb q j,J,P.oneR b hb]
theorem Zak (P:PW t){b k x y:Nat}(hb:b<t.length)(Y:k<t.length)(q:x<t.length)(j:y<t.length)(h:tb t b x=tb t k y):∃z,z<t.length/\tb t b z=k:=by
 obtain⟨J,x2⟩:=Yc P q;obtain⟨M,y2⟩:=Yc P j;have yl:=Zae P j;have U:=P.lt _ _ M q;refine⟨ZJ t (YD t y) x,U,?_⟩;have e1:YD t (ZJ t (YD t y) x)=ZJ t (YD t x) y:=by
  refine (X3 P U (P.lt _ _ J j) ?_).symm;rw[P.ass _ x _ M q (P.lt _ _ J j),<-P.ass x (YD t x) y q J j,x2,P.one y j,yl]
 have O:=Vn P Y j;rw[<-h] at O;unfold tb at O ⊢;rw[e1,P.ass (YD t y) x b M q hb,<-P.ass (ZJ t (YD t y) (ZJ t x b)) (YD t x) y (P.lt _ _ M (P.lt _ _ q hb)) J j,P.ass (YD t y) (ZJ t x b) (YD t x) M (P.lt _ _ q hb) J];exact O
noncomputable def Yq (t:List (List Nat))(b:Nat):List Nat:=(ac t.length).filter fun a=>(ac t.length).any fun x=>tb t b x == a
theorem Yb (P:PW t){b a:Nat}(hb:b<t.length):a∈Yq t b↔∃x,x<t.length/\tb t b x=a:=by
 unfold Yq;rw[g9,bd];constructor
 ·rintro⟨_,x,j,e⟩
  exact⟨x,ae.mp j,by simpa using e⟩
 ·rintro⟨x,j,e⟩
  exact⟨ae.mpr (e▸X6 P hb j),x,ae.mpr j,by simpa using e⟩
theorem Uf {b a:Nat}(h:a∈Yq t b):a<t.length:=ae.mp (g9.mp h).1
theorem Ue (b:Nat):(Yq t b).Pairwise (· < ·):=cZ lU gU
theorem ZeB (b:Nat):(Yq t b).length<=t.length:=by
 have:=List.length_filter_le (fun a=>(ac t.length).any fun x=>tb t b x == a) (ac t.length);rw[Zg] at this;exact this
theorem Wb (P:PW t){b:Nat}(hb:b<t.length):b∈Yq t b:=(Yb P hb).mpr ⟨0,by have:=P.n1;omega,Zaj P hb⟩
theorem YN (P:PW t){b k a:Nat}(hb:b<t.length)(j:k<t.length)(q:a∈Yq t b)(J:a∈Yq t k):k∈Yq t b:=by
 obtain⟨x,M,O⟩:=(Yb P hb).mp q;obtain⟨y,U,Y⟩:=(Yb P j).mp J;exact (Yb P hb).mpr (Zak P hb j M U (O.trans Y.symm))
noncomputable def Zy (t:List (List Nat)):Nat->List (List Nat)
 |0=>[]
 |k+1=>if (Zy t k).any (·.contains k) then Zy t k else Zy t k++[Yq t k]
noncomputable def Y2 (j:List (List Nat))(a:Nat):Bool:=j.any (·.contains a)
theorem Wn (P:PW t):∀k,k<=t.length->∀c∈Zy t k,∃b,b<k/\c=Yq t b
 |0,_,c,h=>by cases h
 |k+1,J,c,h=>by
  unfold Zy at h;split at h
  ·obtain⟨b,q,j⟩:=Wn P k (by omega) c h
   exact⟨b,by omega,j⟩
  ·rcases bE.mp h with h|h
   ·obtain⟨b,q,j⟩:=Wn P k (by omega) c h
    exact⟨b,by omega,j⟩
   ·exact⟨k,by omega,aS.mp h⟩
theorem XB (P:PW t):∀k,k<=t.length->∀b,b<k->Y2 (Zy t k) b=true
 |0,_,b,h=>by omega
 |k+1,q,b,h=>by
  unfold Y2 Zy;split
  ·rename_i j
   by_cases e:b=k
   ·subst e;exact j
   ·exact XB P k (by omega) b (by omega)
  ·rw[jB,bg]
   by_cases e:b=k
   ·subst e
    right;rw[fC,kH,gE];exact aC.mpr (Wb P (by omega))
   ·left
    exact XB P k (by omega) b (by omega)
theorem Ug (P:PW t):∀k,k<=t.length->∀(i j:Nat) (c d:List Nat) (a:Nat),(Zy t k)[i]?=some c->(Zy t k)[j]?=some d->a∈c->a∈d->i=j
 |0,_,i,j,c,d,a,h,_,_,_=>by cases h
 |k+1,hk,i,j,c,d,a,J,q,U,Y=>by
  have ih:=Ug P k (by omega);unfold Zy at J q;split at J
  ·rename_i hc
   rw[if_pos hc] at q;exact ih i j c d a J q U Y
  ·rename_i hc
   rw[if_neg hc] at q;have O:∀c,c∈Zy t k->∀a,a∈c->a∈Yq t k->False:=fun c hm a ha m8=>by
    obtain⟨b,hb,rfl⟩:=Wn P k (by omega) c hm;have:=YN P (by omega) (by omega) ha m8;exact hc (bd.mpr ⟨_,hm,aC.mpr this⟩)
   by_cases hi:i<(Zy t k).length
   ·rw[am hi] at J
    by_cases hj:j<(Zy t k).length
    ·rw[am hj] at q
     exact ih i j c d a J q U Y
    ·rw[aq (by omega)] at q
     have hd:d=Yq t k:=by
      cases M:j-(Zy t k).length with
      |zero=>rw[M] at q;cases q;rfl
      |succ m=>rw[M] at q;cases q
     subst hd;exact (O c (aD J) a U Y).elim
   ·rw[aq (by omega)] at J
    have m9:c=Yq t k/\i=(Zy t k).length:=by
     cases M:i-(Zy t k).length with
     |zero=>rw[M] at J;cases J;exact⟨rfl,by omega⟩
     |succ m=>rw[M] at J;cases J
    obtain⟨rfl,ei⟩:=m9;by_cases hj:j<(Zy t k).length
    ·rw[am hj] at q
     exact (O d (aD q) a Y U).elim
    ·rw[aq (by omega)] at q
     cases M:j-(Zy t k).length with
     |zero=>omega
     |succ m=>rw[M] at q;cases q
theorem Wc:∀k,(Zy t k).length<=k
 |0=>Zq _
 |k+1=>by
  have:=Wc k;unfold Zy;split
  ·omega
  ·rw[Zd,Zk];omega
end
end Tb
namespace C40
open PySem L2 PySem.Spec PyProof.Rows
open Tb Pm
noncomputable abbrev ZdQ:Stmt:=top 7
noncomputable abbrev UL:Stmt:=top 8
noncomputable abbrev VI:Stmt:=top 9
noncomputable abbrev Zgs:Stmt:=top 44
noncomputable abbrev ZmR:Stmt:=top 48
structure Zcu (mg:Str->Option Value):Prop where
 sorted:mg "sorted"=none
 enumerate:mg "enumerate"=none
theorem ZdO {ns M:List Int}{c:List Nat}(J:bT ns M)(O:ns.Pairwise (· ≤ ·))(U:M.Nodup)(Y:∀k:Int,k∈M↔∃a∈c,k=(a:Int))(q:c.Pairwise (· < ·)):ns.map V.int=c.map nV:=by
 have e:ns=c.map fun a:Nat=>(a:Int):=by
  refine PySem.W.lks_uniq (J.trans ?_) O ?_
  ·refine (dX U ?_).mpr fun k=>?_
   ·refine hU _ (fun a b (h:a<b)=>?_) q
    omega
   ·rw[Y k,aI]
    exact⟨fun ⟨a,j,e⟩=>⟨a,j,e.symm⟩,fun ⟨a,j,e⟩=>⟨a,j,e.symm⟩⟩
  ·refine hU _ (fun a b (h:a<b)=>?_) q
   omega
 rw[e,aU];rfl
noncomputable def Xd:Sp:=fun j H Q _=>∃(g:Addr) (t:List (List Nat)) (b x:Nat),j=[.ref g,.int b,.int x]/\GT H g t/\PW t/\b<t.length/\x<t.length/\Q (.int (tb t b x:Nat)) H
noncomputable def VG:Sp:=fun q H Q _=>∃(g:Addr) (t:List (List Nat)) (b:Nat),q=[.ref g,.int b]/\GT H g t/\PW t/\b<t.length/\∀r j,Same H j->j r=some (.tup ((Yq t b).map nV))->Q (.ref r) j
section
variable {P:Program}{w:World}{K:ab}{mg:Str->Option Value}{base:Heap}
theorem Ze0 {f:Addr}{fd:FuncData}(F:WB K "turned_by" "turned_by" ZdQ f fd)(O:Fn P w K mg base Yd 1 "back" ["group", "a"] (Zam K)):Z5 P w K mg base Yd 2 f fd ["group", "b", "t"] Xd:=by
 refine F.ok (FS (N:=["group", "b", "t"])) (fun U H Q E h=>?_) (fun Y A M s H U Q E hr h=>?_)
 ·obtain⟨g,t,b,x,rfl,_⟩:=h;rfl
 ·obtain⟨g,t,b,x,rfl,G,j,hb,J,q⟩:=h
  refine⟨_,Zv (ZG (ZN (Xt K) (ZN (Xt K) (vn 0) (ZN (Xt K) (ZN (Xt K) (vn 0) (vn 2) (fun _ _=>rfl)) (vn 1) (fun _ _=>rfl)) (fun _ _=>rfl)) (Wd O hr ZL (pc (vn 0) (pc (vn 2) Zu))) (fun _ _=>rfl))),?_⟩;obtain⟨r,R⟩:=j.rd x J;obtain⟨rs,r1,h1,_,h2,h3,h4⟩:=G.at j J;have ml:=j.lt _ _ J hb;obtain⟨m8,r2,g1,_,g2,g3,g4⟩:=G.at j ml;have q':Q (.int (ZJ t (ZJ t x b) (it t x (r-1)):Nat)) H:=by rw[Zdp j J R];exact q
  exact⟨_,rfl,_,rfl,_,rfl,g,_,_,_,rfl,rfl,.of h1,h2,_,rfl,r1,_,_,_,rfl,rfl,h3.sq,h4 b hb,g,_,_,_,rfl,rfl,.of g1,g2,_,rfl,_,rfl,g,t,x,r,rfl,G,j,J,R,r2,_,_,_,rfl,rfl,g3.sq,g4 _ (Wr j J (r-1)),q'⟩
noncomputable def fTb (t:List (List Nat))(b:Nat):V->V
 | .int z=>nV (tb t b z.toNat)
 |y=>y
theorem ZbO {f:Addr}{fd:FuncData}(F:WB K "turnings" "turnings" UL f fd)(T:Bl mg)(T2:Zcu mg)(Y:Fn P w K mg base Yd 2 "turned_by" ["group", "b", "t"] Xd):Z5 P w K mg base Yd 3 f fd ["group", "b"] VG:=by
 refine F.ok (FS (N:=["group", "b"])) (fun vs H Q E h=>?_) (fun m9 A m8 s H vs Q E hr h=>?_)
 ·obtain⟨g,t,b,rfl,_⟩:=h;rfl
 ·obtain⟨g,t,b,rfl,G,U,hb,q⟩:=h
  refine⟨_,Zv (ZG (ct ZH T.tuple (pc (cb (Zdl rfl) T2.sorted (pc (ct (ZfA rfl) T.set (pc (cmp ["t"] [0,1] ["t", "group", "b"] rfl (XM T.range (pc (cb (YF K) T.len (pc (vn 0) Zu)) Zu)) (fun _ _ _ _ _=>gn 0) (fun _ _ _ _ _=>ZP)
   (fun _ _ _ _ _=>Wd Y hr ZL (pc (vn 1) (pc (vn 2) (pc (vn 0) Zu))))) Zu)) Zu)) Zu))),?_⟩
  have n4:=U.n60;obtain⟨gs,u1,u2,_⟩:=id G;have el:(gs.map V.ref).length=t.length:=by rw[Za,u2]
  refine⟨_,rfl,g,_,rfl,.inr (.of u1),_,rfl,by rw[el];omega,by rw[el];omega,?_⟩;rw[el,Zj];refine Jz (JL 0 t.length) [some (.ref g),some (.int b)] rfl (fTb t b) (by rw[Za,YK];omega) (fun i x H' J sm R gg=>?_) (fun D H' hD sm M=>?_)
  ·have hi:i<t.length:=by
    have:=(aa.mp J).1;rw[Za,YK] at this;exact this
   rw[Zc,Zby hi] at J;have J:x=.int (i:Int):=by
    have:=aw J;rw[<-this,eO]
   subst J;have fin:=gg H' (Same.refl _);exact⟨_,rfl,_,rfl,_,rfl,g,t,b,i,rfl,G.mono sm,U,hb,hi,fin⟩
  ·have e1:((Wt 0 t.length).map V.int).map (fTb t b)=((ac t.length).map fun x=>((tb t b x:Nat):Int)).map V.int:=by
    unfold Wt;rw[aU,aU,aU];refine a9 fun i _=>?_;show nV (tb t b ((0:Int)+(i:Int)).toNat)=V.int _;rw[eO,Zj];rfl
   rw[e1] at M;generalize hN:((ac t.length).map fun x=>((tb t b x:Nat):Int))=N at M;have nl:N.length=t.length:=by rw[<-hN,Za,Zg]
   refine⟨D,N,rfl,.of M,by omega,fun p1 h1=>?_⟩;have s1:=Same.upd (o:=Zgg P w p1 (VX N N.length)) h1;have ml:(VX N N.length).length<=N.length:=firstMet_length_le _ _;refine⟨p1,VX N N.length,rfl,Zt,XS _ _,by omega,fun l ns h2 hp hs=>?_⟩;have s2:=Same.upd (o:=.lst (ns.map V.int)) h2;have e:=ZdO (c:=Yq t b) hp hs (XS _ _) (fun k=>?_) (Ue b)
   ·refine⟨l,_,rfl,.inl ⟨.of Zt,fun r nr=>?_⟩⟩
    exact q r _ (((sm.trans s1).trans s2).trans (Same.upd nr)) (by rw[<-e];exact Zt)
   ·rw[Zjb]
    constructor
    ·rintro⟨j,hj,e⟩
     have O:j<t.length:=by omega
     refine⟨tb t b j,(Yb U hb).mpr ⟨j,O,rfl⟩,?_⟩;rw[<-e,<-hN,Zb,Zc,ak O];rfl
    ·rintro⟨a,ha,rfl⟩
     obtain⟨x,J,e⟩:=(Yb U hb).mp ha;refine⟨x,by omega,?_⟩;rw[<-e,<-hN,Zb,Zc,ak J];rfl
end
end C40
namespace L2
open PySem PySem.Spec PyProof.Rows
section
variable {X:Cx}
theorem Zfz (Y:X.calm=true):Yo X (.builtin "sum") (fun xs H Q=>∃(a:Addr) (ns:List Int),xs=[.ref a]/\Wx X.K H a (ns.map V.int)/\Q (.int ns.sum) H):=by
 intro M s σ H xs us Q I r h;obtain⟨a,ns,rfl,hq,q⟩:=h;obtain⟨u,rfl,ru⟩:=vals1 r;cases ru;obtain⟨j,rv,p,hz⟩:=I.list hq;have O:bO j ns:=intsAre_of rv;obtain⟨xs,U⟩:=O.allInts.items;have J:s.heap.IsList a (intItems xs):=U▸p.isList;refine sum_intListG (I.ok.hd Y) J fun h' tk t' hk=>?_;have e1:ns=xs.toList.map (·.1):=by
  rw[<-nums_intItems,<-U];exact (show numsOf j.toArray.toList=ns from O.numsOf).symm
 have e2:preSum (numAt xs) xs.size=ns.sum:=by
  rw[preSum_eq,gS (by simp),e1]
 rw[e2];exact⟨.int _,H,I.kept (t':=tk) hk,⟨_,rfl⟩,q⟩
theorem sumK (K:ab)(j:X.calm=true)(q:X.K=K:=by rfl):Yo X (.builtin "sum") (fun xs H Q=>∃(a:Addr) (ns:List Int),xs=[.ref a]/\Wx K H a (ns.map V.int)/\Q (.int ns.sum) H):=q▸Zfz j
end
section
variable {X:Cx}
theorem Zky {prog:Program}{w:World}{A:Around}{j:List Value}{ns:List Int}(r:ZK (ns.map V.int) j):TruthOf prog w A (fun i v=>j.toArray[i]?=some v) (fun i=>ns.getD i 0 != 0):=by
 intro i v s Q E q M;rw[ii] at q;have Y:i<j.length:=(aa.mp q).1;have O:=r.length;rw[Za] at O;have hb:(ns.map V.int)[i]?=some (.int (ns.getD i 0)):=by
  rw[Zc,Zb,Zf (by omega)];rfl
 obtain⟨u,J,U⟩:=r.get hb;rw[q] at J;cases J;obtain⟨t,rfl⟩:=U;exact truthy_int M
theorem ZcW {ns:List Int}:((ac ns.length).any fun i=>ns.getD i 0 != 0)=ns.any (· != 0):=by
 have:(ac ns.length).map (fun i=>ns.getD i 0)=ns:=by
  apply mQ
  ·simp
  ·intro i j q;simp at j;simp[j]
 conv=>rhs;rw[<-this,fQ]
 rfl
theorem ZfD (Y:X.calm=true):Yo X (.builtin "any") (fun xs H Q=>∃(a:Addr) (ns:List Int),xs=[.ref a]/\Wx X.K H a (ns.map V.int)/\Q (.bl (ns.any (· != 0))) H):=by
 intro M s σ H xs us Q I r h;obtain⟨a,ns,rfl,hq,q⟩:=h;obtain⟨u,rfl,ru⟩:=vals1 r;cases ru;obtain⟨j,O,p,hz⟩:=I.list hq;have U:=O.length;rw[Za] at U;refine call_any_walk (fw p.isList ?_);have J:a≠s.heap.objs.size:=by obtain⟨o,n,e,_⟩:=p;exact ax (Zp e)
 refine⟨s.heap.objs.size,_,_,_,_,_,(fun i=>ns.getD i 0 != 0),rfl,lN (A:=X.A.in1) (I.ok.hd Y) _ a J j.toArray,⟨⟨_,Zo _ rfl,rfl,rfl⟩,p.isList.push _⟩,Zky O,fun h' tk k=>?_⟩;rw[Zh,<-U,ZcW];refine⟨.bl _,H,I.kept (t':=tk) fun b o e=>k b o ?_ (Zn _ e),rfl,q⟩;simpa using ax (Zp e)
theorem ZnK (K:ab)(j:X.calm=true)(q:X.K=K:=by rfl):Yo X (.builtin "any") (fun xs H Q=>∃(a:Addr) (ns:List Int),xs=[.ref a]/\Wx K H a (ns.map V.int)/\Q (.bl (ns.any (· != 0))) H):=q▸ZfD j
end
noncomputable def Its (lo st:Int)(n:Nat):It:=⟨fun i _=>i<n,fun i H x j=>j=H/\x=.int (lo+(i:Int)*st),fun i _=>n<=i⟩
theorem ZeN {P:Program}{w:World}{K:ab}{tg:Expr}(it:Addr)(lo st:Int)(n:Nat):UD P w K tg (Its lo st n) [it] it (fun i h=>gR h it (lo+(i:Nat)*st) ((n:Int)-(i:Nat)) st) where
 mem:=by simp
 obj:=fun i h st b hb=>by
  have e:b=it:=by simpa using hb
  subst e;exact⟨_,st,fun v z=>by
   have z':gm _=fU v:=z;cases z'⟩
 keep:=fun i h M st k=>k it (by simp) _ st
 item:=by
  intro X U Y hK hc i q s σ H E I O j hg;subst U Y hK;obtain⟨f0,f1,f2,f3,f4,f5⟩:=O it (by simp);have W:=kR (prog:=X.prog) (w:=X.w) (I.ok.hd hc) it lo st n;refine W.item i s _ _ hg j fun v M tk hv J kk=>?_;obtain⟨t,rfl⟩:=hv;have I1:Inv X q σ H {s with heap:=M,toks:=tk}:=I.turned (fun b o hb e=>kk b o (by simpa using hb) e) f0 f1 f3 f4 f5;refine⟨_,rfl,Zcb (s:={s with heap:=M,toks:=tk}) (n:="range_iterator") J rfl rfl (by decide) ⟨.int (lo+(i:Int)*st),H,I1,⟨t,rfl⟩,⟨rfl,rfl⟩,J,fun b hb=>(O b hb).1⟩⟩
 done:=by
  intro X U Y hK hc i q s σ H E I O j hg;subst U Y hK;obtain⟨f0,f1,f2,f3,f4,f5⟩:=O it (by simp);exact ix (I.ok.hd hc) j (by have:n<=i:=hg;omega) fun M eb=>⟨rfl,I.turned (t':=s.toks) (fun b o hb e=>eb b o hb e) f0 f1 f3 f4 f5⟩
 self:=fun _ _ _ _ _ j h=>iy j h
noncomputable def WM (n st:Nat):Nat:=(n+st-1) / st
theorem Js (n st:Nat)(J:1<=st):bf 0 (n:Int) (st:Int)=(WM n st:Nat):=by
  unfold bf WM;rw[if_pos (by omega)];by_cases h:(0:Int)<(n:Int)
  · rw[if_pos h]
    have:((n+st-1:Nat):Int)=(n:Int)-0-1+(st:Int):=by omega
    first
    |(rw[jp,this];congr 1;omega)
    | (have j:(n+st-1) / st=(n-1) / st+1:=by
         rw[show n+st-1=(n-1)+st by omega,Nat.add_div_right _ (by omega)]
       rw[j];have q:(n:Int)-0-1=((n-1:Nat):Int):=by omega
       first
       |(rw[q,<-jp];omega)
       |(rw[show (n:Int)-1-0=((n-1:Nat):Int) by omega,<-jp];omega))
  · rw[if_neg h]
    have:n=0:=by omega
    subst this;rw[show 0+st-1=st-1 by omega,Nat.div_eq_of_lt (by omega)];rfl
theorem Zf1 (n st:Nat)(j:1<=st):WM n st<=n:=by
 unfold WM;by_cases h:n=0
 ·subst h
  rw[show 0+st-1=st-1 by omega,Nat.div_eq_of_lt (by omega)];exact Zq _
 ·rw[Nat.div_le_iff_le_mul_add_pred (by omega)]
  have:n<=st*n:=Nat.le_mul_of_pos_left n (by omega);omega
theorem ZcP {n st:Nat}(q:1<=st)(J:n<=1000)(j:st<=1000):cx 0 (n:Int) (st:Int)=true:=by
 unfold cx;rw[Js n st q];have:=Zf1 n st q;have M:((WM n st:Nat):Int)*(st:Int)<=1000000:=by
  have:WM n st*st<=1000*1000:=iB (by omega) j;rw[<-aK];omega
 have O:0<=((WM n st:Nat):Int)*(st:Int):=by
  rw[<-aK];omega
 simp only[iG,af,bg,decide_eq_true_eq,beq_iff_eq];refine⟨by omega,.inr ?_⟩;rw[if_pos (by omega),af,decide_eq_true_eq,decide_eq_true_eq];omega
noncomputable def Znk (j:TA):TI:=fun q H R=>j q H fun J M=>∃n st:Nat,J=[.int 0,.int n,.int st]/\1<=st/\n<=1000/\st<=1000/\R (Its 0 st (WM n st)) M
theorem Zoy {X:Cx}{tg a b c:Expr}{ta:TA}{p pos:Pos}(hm:X.mg "range"=none)(ha:PA X [a,b,c] ta)(hg:Y1 X.env.scope "range"=true:=by kernel_rfl)(hs:starEach [a,b,c] X.env=(false,eval a X.env)::starEach [b,c] X.env:=by rfl)(Y:(backTo pos (starEach [b,c] X.env)).any (·.1)=false:=by rfl) :
  PI X tg (.Call (.Name "range" p) [a,b,c] [] pos) (Znk ta):=by
 intro J s σ H R I h;refine Call_ (Jk I (JZ hg) hm lf (bq (Yg (ha pos J s σ H _ I h) fun us s1 ⟨vs,H1,I1,r1,q1⟩=>?_) hs Y));obtain⟨n,st,e,M,hn,m8,q⟩:=q1;subst e;cases r1 with
 |cons r O=>
  cases O with
  |cons r' O=>
   cases O with
   |cons m9 O=>
    cases O;obtain⟨t,rfl⟩:=r;obtain⟨U,rfl⟩:=r';obtain⟨j,rfl⟩:=m9;have lg:((st:Int)).natAbs.log2<9000:=by
     rw[iV];have h1:st.log2<=st:=Nat.log2_le_self st;omega
    refine call_range_3 (by omega) ?_ (Or.inl (PyProof.noPylong_of_log2 lg));refine jf (ki ..) (ZcP M hn m8) ?_;have I2:Inv X J σ H1 {s1 with heap:=s1.heap.push {cls:=.type "range",data:=.fields #[.int 0 t,.int (n:Int) U,.int (st:Int) j]},toks:=s1.toks}:=I1.kept fun b o e=>Zn _ e;refine⟨(s1.heap.push {cls:=.type "range",data:=.fields #[.int 0 t,.int (n:Int) U,.int (st:Int) j]}).objs.size,[(s1.heap.push {cls:=.type "range",data:=.fields #[.int 0 t,.int (n:Int) U,.int (st:Int) j]}).objs.size],_,_,H1,rfl,
     I2.kept (t':=s1.toks) fun b o e=>Zn _ e,ZeN _ 0 (st:Int) (WM n st),?_,fun b hb=>?_,q⟩
    ·have e1:(0:Int)+((0:Nat):Int)*(st:Int)=0:=by simp
     have e2:((WM n st:Nat):Int)-((0:Nat):Int)=bf 0 (n:Int) (st:Int):=by rw[Js n st M];omega
     show gR _ _ ((0:Int)+((0:Nat):Int)*(st:Int)) (((WM n st:Nat):Int)-((0:Nat):Int)) (st:Int);rw[e1,e2];exact Zo _ rfl
    ·have e:b=(s1.heap.push {cls:=.type "range",data:=.fields #[.int 0 t,.int (n:Int) U,.int (st:Int) j]}).objs.size:=by simpa using hb
     subst e;exact I2.fpOk (Zq _) (I2.hok.fresh (Zq _))
theorem ZhB {lo st:Int}{n:Nat}{g:TG}{tb:TS}{D:J8}{σ:St}{H:Hp}(Pv:Nat->St->Hp->Prop)(h0:Pv 0 σ H)
  (Y:∀i σ H,i<n->Pv i σ H->g (.int (lo+(i:Int)*st)) σ H fun j O=>tb {D with nx:=Pv (i+1),ct:=Pv (i+1),bk:=D.nx} j O) (hd:∀ σ H,Pv n σ H->D.nx σ H) :
  ∃W:Nat->Nat->St->Hp->Prop,(∃m,W 0 m σ H)/\∀i m σ H,W i m σ H->
   ((Its lo st n).stop i H/\D.nx σ H)\/((Its lo st n).go i H/\∃N:St->Hp->Prop,(∀ q J,N q J->∃U,U<m/\W (i+1) U q J)/\∀x J,(Its lo st n).yld i H x J->g x σ J fun j O=>tb {D with nx:=N,ct:=N,bk:=D.nx} j O):=by
 refine⟨fun i m σ H=>m=n-i/\i<=n/\Pv i σ H,⟨n,by simp,aZ _,h0⟩,?_⟩;rintro i m σ H ⟨rfl,hi,p⟩;by_cases M:i<n
 ·refine .inr ⟨M,Pv (i+1),fun q J p'=>⟨n-(i+1),by omega,rfl,M,p'⟩,fun x J hy=>?_⟩
  obtain⟨e,rfl⟩:=hy;subst e;exact Y i σ _ M p
 ·have e:i=n:=by omega
  subst e;exact .inl ⟨Zq _,hd σ H p⟩
end L2
namespace Tb
section
variable {t:List (List Nat)}
noncomputable def sm (n:Nat)(f:Nat->Nat):Nat:=((ac n).map f).sum
theorem ZM {n:Nat}{f g:Nat->Nat}(h:∀x,x<n->f x=g x):sm n f=sm n g:=by
 unfold sm;rw[a9 fun x j=>h x (ae.mp j)]
theorem Yi (n:Nat)(f:Nat->Nat):sm (n+1) f=sm n f+f n:=by
 unfold sm;rw[dF,aT,List.sum_append];simp
theorem ZdP (n:Nat):sm n (fun _=>0)=0:=by
 induction n with
 |zero=>rfl
 |succ n j=>rw[Yi,j]
theorem Zgc (n:Nat)(f g:Nat->Nat):sm n (fun x=>f x+g x)=sm n f+sm n g:=by
 induction n with
 |zero=>rfl
 |succ n j=>rw[Yi,Yi,Yi,j];omega
theorem Zar (n k:Nat)(f:Nat->Nat):sm n (fun x=>k*f x)=k*sm n f:=by
 induction n with
 |zero=>rfl
 |succ n j=>rw[Yi,Yi,j,ju]
theorem Zir (n m:Nat)(f:Nat->Nat->Nat):sm n (fun x=>sm m fun y=>f x y)=sm m (fun y=>sm n fun x=>f x y):=by
 induction n with
 |zero=>exact (ZdP m).symm
 |succ n j=>
  rw[Yi,j,<-Zgc];exact ZM fun y _=>(Yi n fun x=>f x y).symm
theorem Zaq {n:Nat}{c d:Nat->Nat}(M:∀x,x<n->c x<n)(O:∀x,x<n->d x<n)(q:∀x,x<n->d (c x)=x)(U:∀x,x<n->c (d x)=x)(f:Nat->Nat):sm n (fun x=>f (c x))=sm n f:=by
 unfold sm;have Y:bT ((ac n).map c) (ac n):=by
  refine (dX ?_ eC).mpr fun k=>?_
  ·unfold List.Nodup
   rw[iZ];refine fJ (fun {a b} ha hb j z=>j ?_) eC;rw[<-q a (ae.mp ha),z,q b (ae.mp hb)]
  ·rw[aI]
   constructor
   ·rintro⟨x,hx,rfl⟩
    exact ae.mpr (M x (ae.mp hx))
   ·intro J
    exact⟨d k,ae.mpr (O k (ae.mp J)),U k (ae.mp J)⟩
 have:=(Y.map f).sum_nat;rw[aU] at this;exact this
theorem Zih (P:PW t){s:Nat}(q:s<t.length)(f:Nat->Nat):sm t.length (fun x=>f (tb t x s))=sm t.length f:=by
 obtain⟨J,O⟩:=Yc P q;have M:=Zae P q;have e:YD t (YD t s)=s:=(X3 P J q M).symm;refine Zaq (c:=fun x=>tb t x s) (d:=fun x=>tb t x (YD t s)) (fun x j=>X6 P j q) (fun x j=>X6 P j J) (fun x j=>?_) (fun x j=>?_) f
 ·show tb t (tb t x s) (YD t s)=x
  have:=Vn P j q;unfold tb at this ⊢;rw[e];exact this
 ·show tb t (tb t x (YD t s)) s=x
  have:=Vn P j J;rw[e] at this;unfold tb at this ⊢;rw[e] at this ⊢;exact this
theorem ZcE (P:PW t){s x y:Nat}(j:s<t.length)(M:x<t.length)(J:y<t.length):tb t (ZJ t x y) s=ZJ t (tb t x s) (tb t y s):=by
 obtain⟨q,_⟩:=Yc P j;have Y:=Zae P j;have O:=P.lt _ _ j M;have U:=P.lt _ _ j J;unfold tb;rw[P.ass (ZJ t s x) (YD t s) (ZJ t (ZJ t s y) (YD t s)) O q (P.lt _ _ U q),<-P.ass (YD t s) (ZJ t s y) (YD t s) q U q,<-P.ass (YD t s) s y q j J,Y,P.one y J,<-P.ass s x y j M J,P.ass (ZJ t s x) y (YD t s) O J q]
theorem JI (P:PW t){s:Nat}(j:s<t.length):tb t 0 s=0:=by
 have q:=P.n1;unfold tb;rw[P.oneR s j,(Yc P j).2]
theorem ZkA (P:PW t){s x:Nat}(j:s<t.length)(q:x<t.length):YD t (tb t x s)=tb t (YD t x) s:=by
 obtain⟨J,M⟩:=Yc P q;refine (X3 P (X6 P q j) (X6 P J j) ?_).symm;rw[<-ZcE P j q J,M,JI P j]
theorem Zha (P:PW t){x:Nat}(q:x<t.length)(F:Nat->Nat->Nat):sm t.length (fun y=>F y (ZJ t x y))=sm t.length (fun w=>F (ZJ t (YD t x) w) w):=by
 obtain⟨J,O⟩:=Yc P q;have M:=Zae P q;have:=Zaq (c:=fun y=>ZJ t x y) (d:=fun y=>ZJ t (YD t x) y) (fun y j=>P.lt _ _ q j) (fun y j=>P.lt _ _ J j) (fun y j=>by
  show ZJ t (YD t x) (ZJ t x y)=y;rw[<-P.ass _ _ _ J q j,M,P.one y j]) (fun y j=>by
  show ZJ t x (ZJ t (YD t x) y)=y;rw[<-P.ass _ _ _ q J j,O,P.one y j]) (fun w=>F (ZJ t (YD t x) w) w)
 rw[<-this];refine ZM fun y j=>?_;show F y (ZJ t x y)=F (ZJ t (YD t x) (ZJ t x y)) (ZJ t x y);rw[<-P.ass _ _ _ J q j,M,P.one y j]
noncomputable def YU (b:Bool):Nat:=if b then 1 else 0
theorem ZcQ {n z:Nat}(hz:z<n)(f:Nat->Nat):sm n (fun w=>YU (decide (w=z))*f w)=f z:=by
 have j:∀m,m<=n->sm m (fun w=>YU (decide (w=z))*f w)=if z<m then f z else 0:=fun m=>by
  induction m with
  |zero=>intro _;rfl
  |succ m q=>
   intro J;rw[Yi,q (by omega)];by_cases e:m=z
   ·subst e
    rw[if_neg (cf _),if_pos (dh _),decide_eq_true rfl];show 0+1*f m=f m;omega
   ·rw[decide_eq_false e]
    show _+0*f m=_;by_cases h:z<m
    ·rw[if_pos h,if_pos (by omega)];omega
    ·rw[if_neg h,if_neg (by omega)];omega
 rw[j n (Zq _),if_pos hz]
noncomputable def UC (t:List (List Nat))(nu:Nat->Nat)(i j z:Nat):Nat:=sm t.length fun x=>YU (decide (nu x=i))*YU (decide (nu (ZJ t (YD t x) z)=j))
section
variable {nu:Nat->Nat}
theorem U6 (P:PW t){i j z:Nat}(hz:z<t.length):sm t.length (fun x=>sm t.length fun y=>YU (decide (nu x=i))*(YU (decide (nu y=j))*YU (decide (ZJ t x y=z))))=UC t nu i j z:=by
 unfold UC;refine ZM fun x q=>?_;rw[Zar,Zha P q (fun y w=>YU (decide (nu y=j))*YU (decide (w=z)))];congr 1;have:sm t.length (fun w=>YU (decide (nu (ZJ t (YD t x) w)=j))*YU (decide (w=z)))=sm t.length (fun w=>YU (decide (w=z))*YU (decide (nu (ZJ t (YD t x) w)=j))):=ZM fun w _=>fo _ _;rw[this,ZcQ hz fun w=>YU (decide (nu (ZJ t (YD t x) w)=j))]
end
end
structure Nus (t:List (List Nat))(nu rep:Nat->Nat)(N:Nat):Prop where
 lt:∀x,x<t.length->nu x<N
 con:∀x s,x<t.length->s<t.length->nu (tb t x s)=nu x
 tr:∀x y,x<t.length->y<t.length->nu x=nu y->∃s,s<t.length/\tb t x s=y
 rl:∀k,k<N->rep k<t.length
 rn:∀k,k<N->nu (rep k)=k
 z:∀x,x<t.length->(nu x=0↔x=0)
section
variable {t:List (List Nat)}{nu rep:Nat->Nat}{N:Nat}
end
section
variable {t1 t2 T:List (List Nat)}
end
section
variable {t:List (List Nat)}{On:Nat->List Nat}{n:Nat}
end
section
variable {t:List (List Nat)}{o:List Nat}
end
section
variable {t:List (List Nat)}{o o2:List Nat}
noncomputable def YC (t:List (List Nat))(b:Nat):Nat:=(Zy t t.length).findIdx (·.contains b)
theorem Ud (P:PW t){b:Nat}(hb:b<t.length):YC t b<(Zy t t.length).length/\b∈(Zy t t.length).getD (YC t b) []:=by
 have q:=XB P t.length (Zq _) b hb;unfold Y2 at q;obtain⟨c,J,hm⟩:=bd.mp q;have j:(Zy t t.length).findIdx (·.contains b)<(Zy t t.length).length:=i3 ⟨c,J,hm⟩;refine⟨j,?_⟩;have M:=iw (w:=j);unfold YC;rw[Zb,Zf j];exact aC.mp M
theorem XU {α:Type}{l:List (List α)}{i:Nat}(h:i<l.length):l[i]?=some (l.getD i []):=by
 rw[Zb,Zf h];rfl
theorem Za2 (P:PW t){b i:Nat}(hb:b<t.length)(j:i<(Zy t t.length).length)(q:b∈(Zy t t.length).getD i []):YC t b=i:=by
 obtain⟨J,M⟩:=Ud P hb;exact Ug P t.length (Zq _) _ _ _ _ b (XU J) (XU j) M q
theorem Ww (P:PW t){i:Nat}(j:i<(Zy t t.length).length):∃b,b<t.length/\(Zy t t.length).getD i []=Yq t b:=Wn P t.length (Zq _) _ (aD (XU j))
theorem ZhV (P:PW t){b x:Nat}(hb:b<t.length)(j:x<t.length):YC t (tb t b x)=YC t b:=by
 have M:=X6 P hb j;obtain⟨q,J⟩:=Ud P M;obtain⟨c,O,e⟩:=Ww P q;have U:tb t b x∈Yq t b:=(Yb P hb).mpr ⟨x,j,rfl⟩;rw[e] at J;have Y:=YN P O hb J U;exact (Za2 P hb q (by rw[e];exact Y)).symm
end
noncomputable def ZB (t:List (List Nat))(k:Nat):Nat:=((Zy t t.length).getD k []).getD 0 0
section
variable {t:List (List Nat)}
theorem Jm (P:PW t){k:Nat}(j:k<(Zy t t.length).length):∃b,b<t.length/\(Zy t t.length).getD k []=Yq t b:=by
 have q:(Zy t t.length).getD k []∈Zy t t.length:=by
  rw[Zb,Zf j];exact bc j
 exact Wn P t.length (Zq _) _ q
theorem Zd3 (P:PW t){k:Nat}(q:k<(Zy t t.length).length):ZB t k∈(Zy t t.length).getD k []:=by
 obtain⟨b,hb,e⟩:=Jm P q;unfold ZB;rw[e];have j:=Wb P hb;cases h:Yq t b with
 |nil=>rw[h] at j;cases j
 |cons x r=>exact aB
theorem ZgB (P:PW t){k:Nat}(j:k<(Zy t t.length).length):ZB t k<t.length:=by
 obtain⟨b,hb,e⟩:=Jm P j;have:=Zd3 P j;rw[e] at this;exact Uf this
theorem Zbr (P:PW t){x y:Nat}(j:x<t.length)(M:y<t.length)(h:YC t x=YC t y):∃s,s<t.length/\tb t x s=y:=by
 obtain⟨hk,U⟩:=Ud P j;obtain⟨_,O⟩:=Ud P M;rw[<-h] at O;obtain⟨b,hb,e⟩:=Jm P hk;rw[e] at U O;obtain⟨u,hu,eu⟩:=(Yb P hb).mp U;have Y:x∈Yq t x:=Wb P j;have J:b∈Yq t x:=YN P j hb Y U;have:y∈Yq t x:=by
  obtain⟨v,hv,ev⟩:=(Yb P hb).mp O;obtain⟨q,hq,eq⟩:=(Yb P j).mp J;have m8:b∈Yq t y:=YN P M hb (Wb P M) O;have m9:y∈Yq t x:=YN P j M J m8;exact m9
 exact (Yb P j).mp this
theorem U7:∀k,(Zy t (k+1))[0]?=some (Yq t 0)
 |0=>rfl
 |k+1=>by
  have j:=U7 k;show (if (Zy t (k+1)).any (·.contains (k+1)) then Zy t (k+1) else Zy t (k+1)++[Yq t (k+1)])[0]?=_
  split
  ·exact j
  ·rw[am (aa.mp j).1]
   exact j
theorem Uc (P:PW t):YC t 0=0:=by
 obtain⟨k,j⟩:∃k,t.length=k+1:=⟨t.length-1,by have:=P.n1;omega⟩;have h:=U7 (t:=t) k;rw[<-j] at h;have q:=(aa.mp h).1;refine Za2 P P.n1 q ?_;rw[Zb,h];exact Wb P P.n1
theorem Yw (P:PW t):Nus t (YC t) (ZB t) (Zy t t.length).length:=by
 have M:=Uc P;refine⟨fun x j=>(Ud P j).1,fun x s j J=>ZhV P j J,fun x y j O h=>Zbr P j O h,fun k q=>ZgB P q,fun k q=>Za2 P (ZgB P q) q (Zd3 P q),fun x j=>⟨fun h=>?_,fun h=>by rw[h];exact M⟩⟩;obtain⟨s,J,e⟩:=Zbr P P.n1 j (M.trans h.symm);rw[JI P J] at e;exact e.symm
end
noncomputable def Yr (n:Nat)(f:Nat->Int):Int:=((ac n).map f).sum
theorem Yu (n:Nat)(f:Nat->Int):Yr (n+1) f=Yr n f+f n:=by
 unfold Yr;rw[dF,aT,List.sum_append];simp
theorem ZO {n:Nat}{f g:Nat->Int}(h:∀x,x<n->f x=g x):Yr n f=Yr n g:=by
 unfold Yr;rw[a9 fun x j=>h x (ae.mp j)]
theorem Jr (n:Nat):Yr n (fun _=>0)=0:=by
 induction n with
 |zero=>rfl
 |succ n j=>rw[Yu,j];rfl
theorem Zat (n:Nat)(f g:Nat->Int):Yr n (fun x=>f x+g x)=Yr n f+Yr n g:=by
 induction n with
 |zero=>rfl
 |succ n j=>rw[Yu,Yu,Yu,j];omega
theorem Je (n:Nat)(k:Int)(f:Nat->Int):Yr n (fun x=>k*f x)=k*Yr n f:=by
 induction n with
 |zero=>exact (cz k).symm
 |succ n j=>rw[Yu,Yu,j,Int.mul_add]
theorem VH (n m:Nat)(f:Nat->Nat->Int):Yr n (fun x=>Yr m fun y=>f x y)=Yr m (fun y=>Yr n fun x=>f x y):=by
 induction n with
 |zero=>
  show (0:Int)=_;exact (Jr m).symm
 |succ n j=>
  rw[Yu,j,<-Zat];exact ZO fun y _=>(Yu n _).symm
theorem Xe {n:Nat}{p:Int}{f g:Nat->Int}(h:∀x,x<n->f x % p=g x % p):Yr n f % p=Yr n g % p:=by
 induction n with
 |zero=>rfl
 |succ n j=>
  rw[Yu,Yu,Int.add_emod,j fun x q=>h x (by omega),h n (by omega),<-Int.add_emod]
theorem Zas {n z:Nat}(hz:z<n)(f:Nat->Int):Yr n (fun w=>if w=z then f w else 0)=f z:=by
 induction n with
 |zero=>omega
 |succ n j=>
  rw[Yu];by_cases e:z=n
  ·subst e
   rw[if_pos rfl];have:Yr z (fun w=>if w=z then f w else 0)=Yr z (fun _=>0):=ZO fun x q=>if_neg (by omega)
   rw[this,Jr,eO]
  ·rw[j (by omega),if_neg (fun x=>e x.symm),cK]
theorem Jd (n:Nat)(f:Nat->Nat):Yr n (fun x=>(f x:Int))=(sm n f:Nat):=by
 induction n with
 |zero=>rfl
 |succ n j=>rw[Yu,Yi,j];omega
noncomputable def Uu (t:List (List Nat))(u x:Nat):Bool:=(ac t.length).any fun y=>tb t u y == x
theorem XY {t:List (List Nat)}{u x:Nat}:Uu t u x=true↔∃y,y<t.length/\tb t u y=x:=by
 unfold Uu;rw[bd];constructor
 ·rintro⟨y,j,e⟩;exact⟨y,ae.mp j,eq_of_beq e⟩
 ·rintro⟨y,j,e⟩;exact⟨y,ae.mpr j,beq_iff_eq.mpr e⟩
structure PrM (p:Nat):Prop where
 p2:2<=p
 nz:∀a b,0<a->a<p->0<b->b<p->a*b % p≠0
 iv:∀a,0<a->a<p->∃b,0<b/\b<p/\b*a % p=1
structure CD (t:List (List Nat))(p m:Nat)(e w f:Nat->Nat->Nat):Prop where
 pr:PrM p
 m1:1<=m
 mc:m=(Zy t t.length).length
 ec:∀s x y,s<m->x<t.length->y<t.length->e s (tb t x y)=e s x
 wc:∀s x y,s<m->x<t.length->y<t.length->w s (tb t x y)=w s x
 elt:∀s x,s<m->x<t.length->e s x<p
 wlt:∀s x,s<m->x<t.length->w s x<p
 eig:∀s u z,s<m->u<t.length->z<t.length->sm t.length (fun x=>YU (Uu t u x)*e s (ZJ t (YD t x) z)) % p=w s u*e s z % p
 one:∀x,x<t.length->sm m (fun s=>e s x) % p=if x=0 then 1 else 0
 du:∀s s',s<m->s'<m->sm t.length (fun x=>f s x*e s' x) % p=if s=s' then 1 else 0
 sep:∀s s',s<m->s'<m->(∀u,u<t.length->w s u=w s' u)->s=s'
section
variable {t:List (List Nat)}{p m:Nat}{e w f:Nat->Nat->Nat}
theorem CD.p0 (C:CD t p m e w f):(p:Int)≠0:=by have:=C.pr.p2;omega
noncomputable def EC (t:List (List Nat))(e:Nat->Nat->Nat)(s c:Nat):Nat:=e s (ZB t c)
theorem CD.at (C:CD t p m e w f)(P:PW t){s x:Nat}(J:s<m)(q:x<t.length):e s x=EC t e s (YC t x):=by
 have U:=Yw P;have j:=U.lt x q;obtain⟨y,M,h⟩:=U.tr (ZB t (YC t x)) x (U.rl _ j) q (U.rn _ j);have:=C.ec s _ y J (U.rl _ j) M;rw[h] at this;exact this
theorem CD.wat (C:CD t p m e w f)(P:PW t){s x:Nat}(J:s<m)(q:x<t.length):w s x=w s (ZB t (YC t x)):=by
 have U:=Yw P;have j:=U.lt x q;obtain⟨y,M,h⟩:=U.tr (ZB t (YC t x)) x (U.rl _ j) q (U.rn _ j);have:=C.wc s _ y J (U.rl _ j) M;rw[h] at this;exact this
theorem XZ (P:PW t){u x:Nat}(j:u<t.length)(J:x<t.length):Uu t u x=decide (YC t x=YC t u):=by
 have U:=Yw P;by_cases h:YC t x=YC t u
 ·rw[decide_eq_true h]
  exact XY.mpr (U.tr u x j J h.symm)
 ·rw[decide_eq_false h]
  cases q:Uu t u x with
  |false=>rfl
  |true=>
   obtain⟨y,M,e⟩:=XY.mp q;have:=U.con u y j M;rw[e] at this;exact absurd this h
theorem CD.LE (C:CD t p m e w f)(P:PW t){s i c:Nat}(J:s<m)(hi:i<m)(hc:c<m) :
  sm m (fun j=>EC t e s j*UC t (YC t) i j (ZB t c)) % p=w s (ZB t i)*EC t e s c % p:=by
 have U:=Yw P;have Y:=C.mc;have M:ZB t i<t.length:=U.rl i (by omega);have q:ZB t c<t.length:=U.rl c (by omega);rw[show w s (ZB t i)*EC t e s c=w s (ZB t i)*e s (ZB t c) from rfl,<-C.eig s _ _ J M q];congr 1;have h1:sm m (fun j=>EC t e s j*UC t (YC t) i j (ZB t c))=sm m (fun j=>sm t.length fun x=>YU (decide (YC t x=i))*(YU (decide (YC t (ZJ t (YD t x) (ZB t c))=j))*EC t e s j)):=ZM fun j _=>by
  unfold UC;rw[<-Zar];refine ZM fun x _=>?_;rw[fo (EC t e s j),kq]
 rw[h1,Zir];refine ZM fun x O=>?_;rw[Zar,XZ P M O,U.rn i (by omega)];congr 1;have hb:=(Yc P O).1;have hl:YC t (ZJ t (YD t x) (ZB t c))<m:=by rw[Y];exact U.lt _ (P.lt _ _ hb q)
 have:=ZcQ hl (fun j=>EC t e s j);rw[C.at P J (P.lt _ _ hb q),<-this];refine ZM fun j _=>?_;congr 2;rw[decide_eq_decide];exact eq_comm
noncomputable def Vc (t:List (List Nat))(p m:Nat)(e:Nat->Nat->Nat)(α:Nat->Int)(c:Nat):Int:=Yr m (fun s=>α s*(EC t e s c:Int)) % (p:Int)
theorem JD {α j:Nat->Int}(h:∀s,s<m->α s % (p:Int)=j s % (p:Int))(c:Nat):Vc t p m e α c=Vc t p m e j c:=by
 unfold Vc;refine Xe fun s q=>?_;rw[bI,h s q,<-bI]
theorem Zh5 (α:Nat->Int)(u:Int)(c:Nat):Vc t p m e α c*u % (p:Int)=Vc t p m e (fun s=>α s*u) c:=by
 unfold Vc;rw[bI,fK _ (i9 _),<-bI,dD,<-Je];congr 1;refine ZO fun s _=>?_;rw[<-ci,dD u]
theorem Zl8 (α j:Nat->Int)(c:Nat):(Vc t p m e α c-Vc t p m e j c) % (p:Int)=Vc t p m e (fun s=>α s - j s) c:=by
 unfold Vc;rw[<-ic];congr 1;have:Yr m (fun s=>(α s - j s)*(EC t e s c:Int))=Yr m (fun s=>α s*(EC t e s c:Int)+(-1)*(j s*(EC t e s c:Int))):=ZO fun s _=>by
  rw[lV];omega
 rw[this,Zat,Je];omega
theorem ZjH (C:CD t p m e w f)(P:PW t){i c:Nat}(q:i<m)(J:c<m)(α:Nat->Int)(k:Int) :
  (Yr m (fun j=>Vc t p m e α j*(UC t (YC t) i j (ZB t c):Int))-k*Vc t p m e α c) % (p:Int)=Vc t p m e (fun s=>α s*((w s (ZB t i):Int)-k)) c:=by
 have M:Yr m (fun j=>Vc t p m e α j*(UC t (YC t) i j (ZB t c):Int)) % (p:Int)=Yr m (fun s=>α s*((w s (ZB t i):Int)*(EC t e s c:Int))) % (p:Int):=by
  have O:Yr m (fun j=>Vc t p m e α j*(UC t (YC t) i j (ZB t c):Int)) % (p:Int)=Yr m (fun j=>Yr m (fun s=>α s*(EC t e s j:Int))*(UC t (YC t) i j (ZB t c):Int)) % (p:Int):=Xe fun j _=>by
   unfold Vc;rw[bI,fK _ (i9 _),<-bI]
  rw[O];have U:Yr m (fun j=>Yr m (fun s=>α s*(EC t e s j:Int))*(UC t (YC t) i j (ZB t c):Int))=Yr m (fun s=>α s*Yr m (fun j=>((EC t e s j*UC t (YC t) i j (ZB t c):Nat):Int))):=by
   have Y:∀j,Yr m (fun s=>α s*(EC t e s j:Int))*(UC t (YC t) i j (ZB t c):Int)=Yr m (fun s=>α s*((EC t e s j*UC t (YC t) i j (ZB t c):Nat):Int)):=fun j=>by
    rw[dD,<-Je];refine ZO fun s _=>?_;rw[aK,<-ci,dD _ (α s),ci,dD (UC t (YC t) i j (ZB t c):Int)]
   rw[ZO fun j _=>Y j,VH];refine ZO fun s _=>?_;rw[<-Je]
  rw[U];refine Xe fun s hs=>?_;rw[Jd,bI];have:=C.LE P hs q J;have h2:((sm m (fun j=>EC t e s j*UC t (YC t) i j (ZB t c)):Nat):Int) % (p:Int)=((w s (ZB t i):Int)*(EC t e s c:Int)) % (p:Int):=by
   rw[<-aK,<-aY,<-aY,this]
  rw[h2,<-bI]
 rw[ic,M,<-ic];have h3:(k*Vc t p m e α c) % (p:Int)=(k*Yr m (fun s=>α s*(EC t e s c:Int))) % (p:Int):=by
  unfold Vc;rw[bI,fK _ (i9 _),<-bI]
 rw[ic,h3,<-ic];unfold Vc;congr 1;have:Yr m (fun s=>α s*((w s (ZB t i):Int)-k)*(EC t e s c:Int))=Yr m (fun s=>α s*((w s (ZB t i):Int)*(EC t e s c:Int))+(-k)*(α s*(EC t e s c:Int))):=ZO fun s _=>by
  rw[jD,lV,ci,gD,dD (α s) k,ci k];omega
 rw[this,Zat,Je,gD];omega
theorem Zkq (C:CD t p m e w f)(P:PW t)(α:Nat->Int)(h:∀c,c<m->Vc t p m e α c=0):∀s,s<m->α s % (p:Int)=0:=by
 intro s O;have U:=Yw P;have mc:=C.mc;have M:Yr t.length (fun x=>(f s x:Int)*Yr m (fun j=>α j*(e j x:Int))) % (p:Int)=0:=by
  have:Yr t.length (fun x=>(f s x:Int)*Yr m (fun j=>α j*(e j x:Int))) % (p:Int)=Yr t.length (fun _=>0) % (p:Int):=Xe fun x Y=>by
   have hc:=U.lt x Y;have hv:=h (YC t x) (by omega);unfold Vc at hv;have:Yr m (fun j=>α j*(e j x:Int))=Yr m (fun j=>α j*(EC t e j (YC t x):Int)):=ZO fun j J=>by rw[C.at P J Y]
   rw[this,bI,hv];simp
  rw[this,Jr];rfl
 have h2:Yr t.length (fun x=>(f s x:Int)*Yr m (fun j=>α j*(e j x:Int)))=Yr m (fun j=>α j*((sm t.length (fun x=>f s x*e j x):Nat):Int)):=by
  have e1:∀x,(f s x:Int)*Yr m (fun j=>α j*(e j x:Int))=Yr m (fun j=>α j*((f s x*e j x:Nat):Int)):=fun x=>by
   rw[<-Je];refine ZO fun j _=>?_;rw[aK,<-ci,dD _ (α j),ci]
  rw[ZO fun x _=>e1 x,VH];refine ZO fun j _=>?_;rw[Je,Jd]
 rw[h2] at M;have h3:Yr m (fun j=>α j*((sm t.length (fun x=>f s x*e j x):Nat):Int)) % (p:Int)=Yr m (fun j=>if j=s then α j else 0) % (p:Int):=Xe fun j J=>by
  have d:=C.du s j O J;have d2:((sm t.length (fun x=>f s x*e j x):Nat):Int) % (p:Int)=(if s=j then 1 else 0:Int):=by
   rw[<-aY,d];split <;> rfl
  rw[bI,d2];by_cases q:j=s
  ·rw[if_pos q,if_pos q.symm]
   simp
  ·rw[if_neg q,if_neg (fun z=>q z.symm)]
   simp
 rw[h3,Zas O] at M;exact M
theorem ZnM (C:CD t p m e w f)(P:PW t){s c:Nat}(j:s<m)(J:c<m):Vc t p m e (fun s'=>if s'=s then 1 else 0) c=(EC t e s c:Int):=by
 unfold Vc;have:Yr m (fun s'=>(if s'=s then (1:Int) else 0)*(EC t e s' c:Int))=Yr m (fun s'=>if s'=s then (EC t e s' c:Int) else 0):=ZO fun s' _=>by
  split
  ·rw[jC]
  ·rw[cn]
 rw[this,Zas j];have q:ZB t c<t.length:=(Yw P).rl c (by have:=C.mc;omega);have:=C.elt s _ j q;rw[ft (by omega)];unfold EC;omega
theorem Zl9 (C:CD t p m e w f)(P:PW t){c:Nat}(J:c<m):Vc t p m e (fun _=>1) c=if c=0 then 1 else 0:=by
 have U:=Yw P;have j:c<(Zy t t.length).length:=by have:=C.mc;omega
 have q:=U.rl c j;unfold Vc;have:Yr m (fun s=>1*(EC t e s c:Int))=((sm m (fun s=>e s (ZB t c)):Nat):Int):=by
  rw[<-Jd];exact ZO fun s _=>jC _
 rw[this,<-aY,C.one _ q];have:ZB t c=0↔c=0:=by
  rw[<-U.z _ q,U.rn c j]
 by_cases h:c=0
 ·rw[if_pos (this.mpr h),if_pos h];rfl
 ·rw[if_neg (fun z=>h (this.mp z)),if_neg h];rfl
end
noncomputable def ffI (w:Nat):Nat->Int
 |0=>1
 |k+1=>ffI w k*((w:Int)-(k:Int))
theorem ZaX {w:Nat}:∀{k:Nat},w<k->ffI w k=0
 |0,h=>by omega
 |k+1,h=>by
  rw[ffI];by_cases e:w=k
  ·subst e
   rw[Int.sub_self,cz]
  ·rw[ZaX (by omega),cn]
theorem PrM.nzI {p:Nat}(h:PrM p){a:Int}{b:Nat}(M:a % (p:Int)≠0)(hb:0<b)(j:b<p):a*(b:Int) % (p:Int)≠0:=by
 have O:=h.p2;have p0:(p:Int)≠0:=by omega
 obtain⟨r,q⟩:=bQ (cD a p0);have J:=bZ a (show (0:Int)<p by omega);rw[bI,q,<-aY b p,<-aK,<-aY,bF j];have:=h.nz r b (by omega) (by omega) hb j;omega
theorem ZhC {p:Nat}(h:PrM p){w:Nat}(hw:w<p):∀{k:Nat},k<=w->ffI w k % (p:Int)≠0
 |0,_=>by
  have:=h.p2;rw[ffI,ft (by omega) (by omega)];decide
 |k+1,j=>by
  rw[ffI,show (w:Int)-(k:Int)=((w-k:Nat):Int) by omega];exact h.nzI (ZhC h hw (by omega)) (by omega) (by omega)
noncomputable def fcI (p:Nat):Nat->Int
 |0=>1
 |k+1=>fcI p k*((k:Int)+1) % (p:Int)
theorem Zcf (w:Nat):∀k,ffI (w+1) (k+1)=((w:Int)+1)*ffI w k
 |0=>by
  show (1:Int)*(((w+1:Nat):Int)-0)=((w:Int)+1)*1;omega
 |k+1=>by
  rw[ffI,Zcf w k,ffI];have:((w+1:Nat):Int)-((k+1:Nat):Int)=(w:Int)-(k:Int):=by omega
  rw[this,ci]
theorem ZhE (p:Nat):∀k,fcI p k % (p:Int)=ffI k k % (p:Int)
 |0=>rfl
 |k+1=>by
  rw[fcI,Zcf,fK _ (i9 _),bI,ZhE p k,<-bI,dD]
theorem Zko {p:Nat}(j:2<=p):∀k,0<=fcI p k/\fcI p k<(p:Int)
 |0=>by unfold fcI;omega
 |k+1=>by
  rw[fcI];exact⟨cD _ (by omega),bZ _ (by omega)⟩
noncomputable def JU (S:Nat->Bool)(s:Nat):Int:=if S s then 1 else 0
theorem Zlo {m:Nat}{S:Nat->Bool}{g:Nat->Nat}(h:∃s,s<m/\S s=true):∃M,(∃s,s<m/\S s=true/\g s=M)/\∀s,s<m->S s=true->g s<=M:=by
 induction m with
 |zero=>obtain⟨s,U,_⟩:=h;omega
 |succ m ih=>
  by_cases O:∃s,s<m/\S s=true
  ·obtain⟨M,⟨s,U,h1,h2⟩,Y⟩:=ih O
   by_cases hq:S m=true/\M<g m
   ·refine⟨g m,⟨m,by omega,hq.1,rfl⟩,fun j J q=>?_⟩
    by_cases z:j=m
    ·rw[z];exact Zq _
    ·have:=Y j (by omega) q
     omega
   ·refine⟨M,⟨s,by omega,h1,h2⟩,fun j J q=>?_⟩
    by_cases z:j=m
    ·subst z
     by_cases zz:M<g j
     ·exact absurd ⟨q,zz⟩ hq
     ·omega
    ·exact Y j (by omega) q
  ·obtain⟨s,U,q⟩:=h
   have:s=m:=by
    by_cases z:s=m
    ·exact z
    ·exact absurd ⟨s,by omega,q⟩ O
   subst this;refine⟨g s,⟨s,by omega,q,rfl⟩,fun j J q'=>?_⟩;by_cases z:j=s
   ·rw[z];exact Zq _
   ·exact absurd ⟨j,by omega,q'⟩ O
section
variable {t:List (List Nat)}{p m:Nat}{e w f:Nat->Nat->Nat}
noncomputable def lpA (S:Nat->Bool)(g:Nat->Nat)(k s:Nat):Int:=JU S s*ffI (g s) k
theorem Zjf (S:Nat->Bool)(g:Nat->Nat)(k:Nat):(fun s=>lpA S g k s*((g s:Int)-(k:Int)))=lpA S g (k+1):=by
 funext s;unfold lpA;rw[ffI,ci]
theorem Zje (S:Nat->Bool)(g:Nat->Nat):lpA S g 0=JU S:=by
 funext s;unfold lpA;rw[ffI,iC]
theorem Zlr (C:CD t p m e w f)(P:PW t){S:Nat->Bool}{g:Nat->Nat}(O:∀s,s<m->g s<p){M:Nat}(U:∃s,s<m/\S s=true/\g s=M)(Y:∀s,s<m->S s=true->g s<=M)(k:Nat) :
  (∃c,c<m/\Vc t p m e (lpA S g k) c≠0)↔k<=M:=by
 constructor
 ·rintro⟨c,J,h⟩
  by_cases z:k<=M
  ·exact z
  ·refine absurd ?_ h
   have:Vc t p m e (lpA S g k) c=Vc t p m e (fun _=>0) c:=JD (fun s j=>by
    unfold lpA JU;by_cases q:S s=true
    ·have:=Y s j q
     rw[ZaX (show g s<k by omega),cz]
    ·rw[if_neg q,cn]) c
   rw[this];unfold Vc;rw[ZO (g:=fun _=>0) fun s _=>cn _,Jr];rfl
 ·intro hk
  obtain⟨s,j,q1,q2⟩:=U;refine ah fun hn=>?_;have hz:∀c,c<m->Vc t p m e (lpA S g k) c=0:=fun c J=>ah fun z=>hn ⟨c,J,z⟩;have:=Zkq C P _ hz s j;unfold lpA JU at this;rw[if_pos q1,jC] at this;exact ZhC C.pr (O s j) (by omega) this
noncomputable def JS (S:Nat->Bool)(g:Nat->Nat)(M:Nat)(s:Nat):Bool:=S s && decide (g s=M)
theorem Zlq (C:CD t p m e w f){S:Nat->Bool}{g:Nat->Nat}{M:Nat}(j:∀s,s<m->S s=true->g s<=M){u:Int}(J:u*fcI p M % (p:Int)=1)(c:Nat) :
  Vc t p m e (lpA S g M) c*u % (p:Int)=Vc t p m e (JU (JS S g M)) c:=by
 rw[Zh5];refine JD (fun s O=>?_) c;unfold lpA JU JS;by_cases q:S s=true
 ·rw[q,if_pos rfl,jC]
  by_cases z:g s=M
  ·rw[decide_eq_true z,z]
   show ffI M M*u % (p:Int)=1 % (p:Int);rw[bI,<-ZhE,<-bI,dD,J,ft (by omega) (by have:=C.pr.p2;omega)]
  ·have:=j s O q
   rw[decide_eq_false z,ZaX (show g s<M by omega),cn];rfl
 ·rw[if_neg q,cn,cn]
  have:S s=false:=by cases U:S s with|true=>exact absurd U q|false=>rfl
  rw[this];rfl
noncomputable def ZaM (S:Nat->Bool)(g:Nat->Nat)(M:Nat)(s:Nat):Bool:=S s && decide (g s<M)
theorem Zls {S:Nat->Bool}{g:Nat->Nat}{M:Nat}(j:∀s,s<m->S s=true->g s<=M)(c:Nat) :
  (Vc t p m e (JU S) c-Vc t p m e (JU (JS S g M)) c) % (p:Int)=Vc t p m e (JU (ZaM S g M)) c:=by
 rw[Zl8];refine JD (fun s J=>?_) c;congr 1;unfold JU JS ZaM;cases q:S s with
 |false=>rfl
 |true=>
  have:=j s J q;by_cases z:g s=M
  ·rw[decide_eq_true z,decide_eq_false (by omega)];rfl
  ·rw[decide_eq_false z,decide_eq_true (by omega)];rfl
theorem ZeF (C:CD t p m e w f)(P:PW t)(S:Nat->Bool):(∃c,c<m/\Vc t p m e (JU S) c≠0)↔∃s,s<m/\S s=true:=by
 constructor
 ·rintro⟨c,M,h⟩
  refine ah fun j=>h ?_;have:Vc t p m e (JU S) c=Vc t p m e (fun _=>0) c:=JD (fun s J=>by
   unfold JU;rw[if_neg (fun z=>j ⟨s,J,z⟩)]) c
  rw[this];unfold Vc;rw[ZO (g:=fun _=>0) fun s _=>cn _,Jr];rfl
 ·rintro⟨s,J,q⟩
  refine ah fun j=>?_;have:=Zkq C P _ (fun c M=>ah fun z=>j ⟨c,M,z⟩) s J;unfold JU at this;rw[if_pos q,ft (by omega) (by have:=C.pr.p2;omega)] at this;cases this
end
structure PtS (m:Nat)(S:Nat->Bool)(g:Nat->Nat)(Ss:List (Nat->Bool)):Prop where
 ne:∀T∈Ss,∃s,s<m/\T s=true
 sub:∀T∈Ss,∀s,s<m->T s=true->S s=true
 cov:∀s,s<m->S s=true->∃T∈Ss,T s=true
 dj:Ss.Pairwise fun T T'=>∀s,s<m->T s=true->T' s=true->False
 eq:∀T∈Ss,∀s s',s<m->s'<m->T s=true->T s'=true->g s=g s'
structure PtW (m:Nat)(S:Nat->Bool)(g:Nat->Nat)(Ss:List (Nat->Bool))(R:Nat->Bool):Prop where
 ne:∀T∈Ss,∃s,s<m/\T s=true
 sub:∀T∈Ss,∀s,s<m->T s=true->S s=true
 rs:∀s,s<m->R s=true->S s=true
 cov:∀s,s<m->S s=true->R s=true\/∃T∈Ss,T s=true
 dj:Ss.Pairwise fun T T'=>∀s,s<m->T s=true->T' s=true->False
 dr:∀T∈Ss,∀s,s<m->T s=true->R s=true->False
 eq:∀T∈Ss,∀s s',s<m->s'<m->T s=true->T s'=true->g s=g s'
theorem PtW.zero {m:Nat}{S:Nat->Bool}{g:Nat->Nat}:PtW m S g [] S:=
 ⟨fun _ h=>(by cases h),fun _ h=>(by cases h),fun s _ h=>h,fun s _ h=>.inl h,.nil,fun _ h=>(by cases h),fun _ h=>(by cases h)⟩
theorem PtW.step {m:Nat}{S R:Nat->Bool}{g:Nat->Nat}{Ss:List (Nat->Bool)}(W:PtW m S g Ss R){M:Nat}(h1:∃s,s<m/\R s=true/\g s=M)(h2:∀s,s<m->R s=true->g s<=M):PtW m S g (Ss++[JS R g M]) (ZaM R g M):=by
 have U:∀s,JS R g M s=true->R s=true/\g s=M:=fun s h=>by
  unfold JS at h;rw[af,decide_eq_true_eq] at h;exact h
 have lw:∀s,ZaM R g M s=true->R s=true/\g s<M:=fun s h=>by
  unfold ZaM at h;rw[af,decide_eq_true_eq] at h;exact h
 have O:∀{T:Nat->Bool},T∈Ss++[JS R g M]->T∈Ss\/T=JS R g M:=fun {T} h=>by
  rcases bE.mp h with h|h
  ·exact .inl h
  ·exact .inr (aS.mp h)
 refine⟨fun T J=>?_,fun T J s j q=>?_,fun s j q=>W.rs s j (lw s q).1,fun s j q=>?_,?_,fun T J s j q1 q2=>?_,fun T J s s' j m8 q Y=>?_⟩
 ·rcases O J with h|rfl
  ·exact W.ne T h
  ·obtain⟨s,j,a,b⟩:=h1
   exact⟨s,j,by unfold JS;rw[a,decide_eq_true b];rfl⟩
 ·rcases O J with h|rfl
  ·exact W.sub T h s j q
  ·exact W.rs s j (U s q).1
 ·rcases W.cov s j q with h|⟨T,J,h⟩
  ·have:=h2 s j h
   by_cases z:g s=M
   ·exact .inr ⟨_,aV _ aB,by unfold JS;rw[h,decide_eq_true z];rfl⟩
   ·exact .inl (by unfold ZaM;rw[h,decide_eq_true (by omega)];rfl)
  ·exact .inr ⟨T,b8 _ J,h⟩
 ·rw[ir]
  refine⟨W.dj,gL _ _,fun T J T' m9 s j q Y=>?_⟩;rw[aS.mp m9] at Y;exact W.dr T J s j q (U s Y).1
 ·rcases O J with h|rfl
  ·exact W.dr T h s j q1 (lw s q2).1
  ·have a:=(U s q1).2
   have b:=(lw s q2).2;omega
 ·rcases O J with h|rfl
  ·exact W.eq T h s s' j m8 q Y
  ·rw[(U s q).2,(U s' Y).2]
theorem PtW.end {m:Nat}{S R:Nat->Bool}{g:Nat->Nat}{j:List (Nat->Bool)}(W:PtW m S g j R)(h:¬ ∃s,s<m/\R s=true):PtS m S g j:=
 ⟨W.ne,W.sub,fun s J q=>by
  rcases W.cov s J q with z|z
  ·exact absurd ⟨s,J,z⟩ h
  ·exact z,W.dj,W.eq⟩
structure JW (m:Nat)(w:Nat->Nat->Nat)(i:Nat)(Ss:List (Nat->Bool)):Prop where
 ne:∀T∈Ss,∃s,s<m/\T s=true
 cov:∀s,s<m->∃T∈Ss,T s=true
 dj:Ss.Pairwise fun T T'=>∀s,s<m->T s=true->T' s=true->False
 eq:∀T∈Ss,∀s s',s<m->s'<m->T s=true->T s'=true->∀j,j<i->w s j=w s' j
theorem JW.zero {m:Nat}(m1:1<=m)(w:Nat->Nat->Nat):JW m w 0 [fun _=>true]:=
 ⟨fun T q=>⟨0,m1,by rw[aS.mp q]⟩,fun s _=>⟨_,aB,rfl⟩,gL _ _,fun _ _ _ _ _ _ _ _ j J=>by omega⟩
inductive FiS (m:Nat) (g:Nat->Nat):List (Nat->Bool)->List (Nat->Bool)->Prop
 |nil:FiS m g [] []
 |snoc {Ss Fs Ts:List (Nat->Bool)}{S:Nat->Bool}:FiS m g Ss Fs->PtS m S g Ts->FiS m g (Ss++[S]) (Fs++Ts)
theorem FiS.out {m:Nat}{g:Nat->Nat}{M O:List (Nat->Bool)}(h:FiS m g M O):(∀T∈O,(∃s,s<m/\T s=true)/\(∃S∈M,∀s,s<m->T s=true->S s=true)/\∀s s',s<m->s'<m->T s=true->T s'=true->g s=g s')/\(∀S∈M,∀s,s<m->S s=true->∃T∈O,T s=true):=by
 induction h with
 |nil=>exact⟨fun _ h=>(by cases h),fun _ h=>(by cases h)⟩
 |snoc h p U=>
  refine⟨fun T j=>?_,fun S J s Y q=>?_⟩
  ·rcases bE.mp j with j|j
   ·obtain⟨a,⟨S,J,b⟩,c⟩:=U.1 T j
    exact⟨a,⟨S,b8 _ J,b⟩,c⟩
   ·exact⟨p.ne T j,⟨_,aV _ aB,p.sub T j⟩,p.eq T j⟩
  ·rcases bE.mp J with J|J
   ·obtain⟨T,j,z⟩:=U.2 S J s Y q
    exact⟨T,b8 _ j,z⟩
   ·rw[aS.mp J] at q
    obtain⟨T,j,z⟩:=p.cov s Y q;exact⟨T,aV _ j,z⟩
theorem FiS.dj {m:Nat}{g:Nat->Nat}{U Y:List (Nat->Bool)}(h:FiS m g U Y)(J:U.Pairwise fun T j=>∀s,s<m->T s=true->j s=true->False):Y.Pairwise fun T j=>∀s,s<m->T s=true->j s=true->False:=by
 induction h with
 |nil=>exact .nil
 |snoc h p ih=>
  rw[ir] at J ⊢;refine⟨ih J.1,p.dj,fun T hT j M s O q q'=>?_⟩;obtain⟨_,⟨S,hS,b⟩,_⟩:=h.out.1 T hT;exact J.2.2 S hS _ aB s O (b s O q) (p.sub j M s O q')
theorem JW.step {m i:Nat}{w:Nat->Nat->Nat}{Ss Fs:List (Nat->Bool)}(A:JW m w i Ss)(h:FiS m (fun s=>w s i) Ss Fs):JW m w (i+1) Fs:=by
 refine⟨fun T O=>(h.out.1 T O).1,fun s M=>?_,h.dj A.dj,fun T O s U M J q q' j hj=>?_⟩
 ·obtain⟨S,Y,q⟩:=A.cov s M
  exact h.out.2 S Y s M q
 ·obtain⟨_,⟨S,Y,b⟩,c⟩:=h.out.1 T O
  by_cases z:j=i
  ·rw[z];exact c s U M J q q'
  ·exact A.eq S Y s U M J (b s M q) (b U J q') j (by omega)
noncomputable def pkS (m:Nat)(T:Nat->Bool):Nat:=((ac m).find? T).getD 0
theorem JX {m:Nat}{T:Nat->Bool}(h:∃s,s<m/\T s=true):pkS m T<m/\T (pkS m T)=true:=by
 obtain⟨s,j,q⟩:=h;unfold pkS;cases z:(ac m).find? T with
 |none=>
  have:=iQ.mp z s (ae.mpr j);exact absurd q this
 |some x=>exact⟨ae.mp (gf z),jA z⟩
theorem UN {m:Nat}:∀{J:List (Nat->Bool)},(∀T∈J,∃s,s<m/\T s=true)->(J.Pairwise fun T j=>∀s,s<m->T s=true->j s=true->False)->(J.map (pkS m)).Nodup
 | [],_,_=>dY
 |T::J,M,hd=>by
  rw[l8] at hd;rw[aF,bD];refine⟨fun h=>?_,UN (fun j O=>M j (ay _ O)) hd.2⟩;obtain⟨j,q,z⟩:=aI.mp h;have a:=JX (M T aB);have b:=JX (M j (ay _ q));rw[z] at b;exact hd.1 j q _ a.1 a.2 b.2
theorem JW.len {m i:Nat}{w:Nat->Nat->Nat}{j:List (Nat->Bool)}(A:JW m w i j):j.length<=m:=by
 have:=L2.Yl (j.map (pkS m)) (ac m) (UN A.ne A.dj) (fun x q=>by
  obtain⟨T,J,rfl⟩:=aI.mp q;exact ae.mpr (JX (A.ne T J)).1)
 rwa [Za,Zg] at this
theorem Zja {l:List Nat}{m:Nat}(nd:l.Nodup)(q:∀x∈l,x<m)(len:l.length=m):l.Perm (ac m):=by
 have J:∀x,x<m->x∈l:=fun x M=>by
  refine ah fun O=>?_;have:=L2.Yl (x::l) (ac m) (bD.mpr ⟨O,nd⟩) (fun y j=>by
   rcases aG.mp j with rfl|j
   ·exact ae.mpr M
   ·exact ae.mpr (q y j))
  rw[Zi,Zg] at this;omega
 exact (dX nd eC).mpr fun x=>⟨fun h=>ae.mpr (q x h),fun h=>J x (ae.mp h)⟩
theorem Zns {m:Nat}{J:List (Nat->Bool)}(hd:J.Pairwise fun T j=>∀s,s<m->T s=true->j s=true->False){T j:Nat->Bool}(h:T∈J)(h':j∈J){s:Nat}(Y:s<m)(q:T s=true)(M:j s=true):T=j:=by
 induction hd with
 |nil=>cases h
 |cons a _ ih=>
  rcases aG.mp h with e1|h1
  ·rcases aG.mp h' with O|U
   ·rw[e1,O]
   ·rw[e1] at q
    exact (a _ U s Y q M).elim
  ·rcases aG.mp h' with O|U
   ·rw[O] at M
    exact (a _ h1 s Y M q).elim
   ·exact ih h1 U
theorem JW.full {m i:Nat}{w:Nat->Nat->Nat}{J:List (Nat->Bool)}(A:JW m w i J)(h:m<=J.length):∀T∈J,∀s s',s<m->s'<m->T s=true->T s'=true->s=s':=by
 have Y:(J.map (pkS m)).Perm (ac m):=Zja (UN A.ne A.dj) (fun x hx=>by
  obtain⟨T,j,rfl⟩:=aI.mp hx;exact (JX (A.ne T j)).1) (by rw[Za];have:=A.len;omega)
 have key:∀T∈J,∀s,s<m->T s=true->s=pkS m T:=fun T j s O q=>by
  obtain⟨T',M,z⟩:=aI.mp (Y.mem_iff.mpr (ae.mpr O));have b:=JX (A.ne T' M);rw[z] at b;rw[Zns A.dj j M O q b.2,z]
 intro T j s s' O U q q';rw[key T j s O q,key T j s' U q']
theorem JW.skip {m i:Nat}{w:Nat->Nat->Nat}{J:List (Nat->Bool)}(A:JW m w i J)(h:m<=J.length):JW m w (i+1) J:=
 ⟨A.ne,A.cov,A.dj,fun T O s U Y M q q' j _=>by rw[A.full h T O s U Y M q q']⟩
theorem JW.end {m:Nat}{w:Nat->Nat->Nat}{M:List (Nat->Bool)}(A:JW m w m M)(O:∀s s',s<m->s'<m->(∀j,j<m->w s j=w s' j)->s=s'):(M.map (pkS m)).Perm (ac m)/\∀T∈M,∀s,s<m->T s=decide (s=pkS m T):=by
 have one:∀T∈M,∀s,s<m->T s=decide (s=pkS m T):=fun T J s U=>by
  have a:=JX (A.ne T J);cases q:T s with
  |true=>exact (decide_eq_true (O s _ U a.1 (A.eq T J s _ U a.1 q a.2))).symm
  |false=>
   refine (decide_eq_false fun z=>?_).symm;rw[z,a.2] at q;cases q
 refine⟨?_,one⟩;refine (dX (UN A.ne A.dj) eC).mpr fun x=>⟨fun h=>?_,fun h=>?_⟩
 ·obtain⟨T,J,rfl⟩:=aI.mp h
  exact ae.mpr (JX (A.ne T J)).1
 ·have Y:=ae.mp h
  obtain⟨T,J,q⟩:=A.cov x Y;rw[one T J x Y] at q;rw[of_decide_eq_true q];exact aI.mpr ⟨T,J,rfl⟩
noncomputable def Vl (count p:Nat):Bool:=decide (p*p<=4*count) || (ac (p-2)).any fun k=>p % (k+2) == 0
structure Zml (n count p:Nat):Prop where
 st:∃J,p=(n+1)+J*n/\∀j,j<J->Vl count ((n+1)+j*n)=true
 ok:Vl count p=false
 p2:2<=p
 lt:p<=100000
structure ZnO (p z r:Nat):Prop where
 r1:1<=r
 rp:r<=p
 one:z ^ r % p=1
 nz:∀k,1<=k->k<r->z ^ k % p≠1
noncomputable def RtP (n p j:Nat):Prop:=(j=1/\n=1)\/(2<=j/\j<p/\n≠1/\∃r:Nat->Nat,(∀z,2<=z->z<=j->ZnO p z (r z))/\(∀z,2<=z->z<j->r z≠n)/\r j=n)
structure TD (t:List (List Nat))(n p m:Nat)(e ω φ:Nat->Nat->Nat)(z:Nat)(dg:Nat->Nat):Prop where
 cd:CD t p m e ω φ
 n1:1<=n
 n60:n<=60
 all:∀a,a<t.length->it t a n=0
 mn:∀x,(∀a,a<t.length->it t a x=0)->x % n=0
 fit:Zml n t.length p
 rt:RtP n p z
 d1:∀s,s<m->1<=dg s
 dp:∀s,s<m->dg s<p
 dl:∀s,s<m->dg s<=1000
 dq:∀s,s<m->((dg s:Int)*(dg s:Int)-(e s 0:Int)*(t.length:Int)) % (p:Int)=0
 dm:∀s d',s<m->1<=d'->d'<dg s->((d':Int)*(d':Int)-(e s 0:Int)*(t.length:Int)) % (p:Int)≠0
structure Dt where
 n:Nat
 p:Nat
 z:Nat
 cl:List Nat
 rp:List Nat
 E:List (List Nat)
 W:List (List Nat)
 F:List (List Nat)
 dg:List Nat
noncomputable def Jb (M:List (List Nat))(i j:Nat):Nat:=(M.getD i []).getD j 0
noncomputable def fA (n:Nat)(f:Nat->Bool):Bool:=(ac n).all f
theorem Ye {n:Nat}{f:Nat->Bool}(h:fA n f=true){i:Nat}(j:i<n):f i=true:=aN.mp h i (ae.mpr j)
noncomputable def fE (n:Nat)(f:Nat->Bool):Bool:=(ac n).any f
theorem Zev {n:Nat}{f:Nat->Bool}(h:fE n f=true):∃i,i<n/\f i=true:=by
 obtain⟨i,hi,q⟩:=bd.mp h;exact⟨i,ae.mp hi,q⟩
noncomputable def prB (p:Nat):Bool:=decide (2<=p) && (fA (p-1) fun a=>fA (p-1) fun b=>(a+1)*(b+1) % p != 0) && fA (p-1) fun a=>fE (p-1) fun b=>(b+1)*(a+1) % p == 1
theorem Zkb {p:Nat}(h:prB p=true):PrM p:=by
 unfold prB at h;rw[af,af,decide_eq_true_eq] at h;obtain⟨⟨j,J⟩,M⟩:=h;refine⟨j,fun a b O U Y bp=>?_,fun a O U=>?_⟩
 ·have:=Ye (Ye J (i:=a-1) (by omega)) (i:=b-1) (by omega)
  rw[show a-1+1=a by omega,show b-1+1=b by omega] at this;simpa using this
 ·obtain⟨b,hb,q⟩:=Zev (Ye M (i:=a-1) (by omega))
  rw[show a-1+1=a by omega] at q;exact⟨b+1,by omega,by omega,eq_of_beq q⟩
noncomputable def Zfi (n count p:Nat):Nat->Nat->Bool
 |0,q=>decide (q=p) && !Vl count q
 |f+1,q=>if q=p then !Vl count q else Vl count q && Zfi n count p f (q+n)
theorem ZaW {n count p:Nat}:∀{f q:Nat},Zfi n count p f q=true->(∃J,p=q+J*n/\∀j,j<J->Vl count (q+j*n)=true)/\Vl count p=false
 |0,q,h=>by
  rw[Zfi,af,decide_eq_true_eq] at h;obtain⟨e,h⟩:=h;subst e;exact⟨⟨0,by omega,fun j M=>by omega⟩,by simpa using h⟩
 |f+1,q,h=>by
  rw[Zfi] at h;by_cases e:q=p
  ·rw[if_pos e] at h
   subst e;exact⟨⟨0,by omega,fun j M=>by omega⟩,by simpa using h⟩
  ·rw[if_neg e,af] at h
   obtain⟨⟨J,O,U⟩,Y⟩:=ZaW h.2;refine⟨⟨J+1,by rw[O,cy];omega,fun j M=>?_⟩,Y⟩;cases j with
   |zero=>rw[fm,gZ];exact h.1
   |succ j=>
    have:=U j (by omega);rw[cy];rw[show q+(j*n+n)=q+n+j*n by omega];exact this
noncomputable def Zk6 (p z r:Nat):Bool:=decide (1<=r) && decide (r<=p) && (z ^ r % p == 1) && fA r fun k=>k == 0 || z ^ k % p != 1
theorem ZiS {p z r:Nat}(h:Zk6 p z r=true):ZnO p z r:=by
 unfold Zk6 at h;rw[af,af,af,decide_eq_true_eq,decide_eq_true_eq] at h;obtain⟨⟨⟨j,J⟩,M⟩,O⟩:=h;refine⟨j,J,eq_of_beq M,fun k Y U=>?_⟩;have:=Ye O U;rw[bg] at this;rcases this with q|q
 ·have:=eq_of_beq q
  omega
 ·simpa using q
noncomputable def rdZ (p z:Nat):Nat:=(((ac p).find? fun r=>z ^ (r+1) % p == 1).getD 0)+1
noncomputable def rtB (n p j:Nat):Bool:=(j == 1 && n == 1) || (decide (2<=j) && decide (j<p) && n != 1 && (fA (j+1) fun z=>decide (z<2) || (Zk6 p z (rdZ p z) && (z == j || rdZ p z != n))) && rdZ p j == n)
theorem Zj6 {n p j:Nat}(h:rtB n p j=true):RtP n p j:=by
 unfold rtB at h;rw[bg] at h;rcases h with h|h
 ·rw[af] at h
  exact .inl ⟨eq_of_beq h.1,eq_of_beq h.2⟩
 ·rw[af,af,af,af,decide_eq_true_eq,decide_eq_true_eq] at h
  obtain⟨⟨⟨⟨M,O⟩,U⟩,J⟩,Y⟩:=h;refine .inr ⟨M,O,by simpa using U,rdZ p,fun z z2 zz=>?_,fun z z2 zz=>?_,eq_of_beq Y⟩
  ·have:=Ye J (i:=z) (by omega)
   rw[decide_eq_false (by omega),fF,af] at this;exact ZiS this.1
  ·have:=Ye J (i:=z) (by omega)
   rw[decide_eq_false (by omega),fF,af,bg] at this;rcases this.2 with q|q
   ·have:=eq_of_beq q
    omega
   ·simpa using q
noncomputable def itB (t:List (List Nat))(n:Nat):Bool:=(fA t.length fun a=>it t a n == 0) && fA n fun x=>x == 0 || fE t.length fun a=>it t a x != 0
noncomputable def Zh1 (t:List (List Nat))(bs:List Nat):Bool:=fA t.length fun a=>decide (bs.getD a 0<t.length) && ZJ t a (bs.getD a 0) == 0
noncomputable def tbL (t:List (List Nat))(bs:List Nat)(b x:Nat):Nat:=ZJ t (ZJ t x b) (bs.getD x 0)
noncomputable def clB (t:List (List Nat))(bs:List Nat)(D:Dt):Bool:=
 (fA t.length fun x=>decide (D.cl.getD x 0<D.rp.length) && ((D.cl.getD x 0 == 0) == (x == 0)) && (fA t.length fun s=>D.cl.getD (tbL t bs x s) 0 == D.cl.getD x 0) && fE t.length fun s=>tbL t bs (D.rp.getD (D.cl.getD x 0) 0) s == x) &&
 fA D.rp.length fun k=>decide (D.rp.getD k 0<t.length) && D.cl.getD (D.rp.getD k 0) 0 == k
noncomputable def ZoO (t:List (List Nat))(bs:List Nat)(D:Dt):Bool:=fA D.rp.length fun s=>fA D.rp.length fun i=>fA D.rp.length fun c=>
 sm t.length (fun x=>YU (decide (D.cl.getD x 0=i))*Jb D.E s (D.cl.getD (ZJ t (bs.getD x 0) (D.rp.getD c 0)) 0)) % D.p == Jb D.W s i*Jb D.E s c % D.p
noncomputable def tdB (t:List (List Nat))(bs:List Nat)(D:Dt):Bool:=
 prB D.p && decide (D.p<=1000) && decide (1<=D.rp.length) && decide (1<=D.n) && decide (D.n<=60) && itB t D.n && Zfi D.n t.length D.p 60 (D.n+1) && rtB D.n D.p D.z && Zh1 t bs && clB t bs D && ZoO t bs D &&
 (fA D.rp.length fun s=>fA D.rp.length fun c=>decide (Jb D.E s c<D.p) && decide (Jb D.W s c<D.p)) &&
 (fA D.rp.length fun c=>sm D.rp.length (fun s=>Jb D.E s c) % D.p == if c=0 then 1 else 0) &&
 (fA D.rp.length fun s=>fA D.rp.length fun j=>sm t.length (fun x=>Jb D.F s (D.cl.getD x 0)*Jb D.E j (D.cl.getD x 0)) % D.p == if s=j then 1 else 0) &&
 (fA D.rp.length fun s=>fA D.rp.length fun j=>s == j || fE D.rp.length fun i=>Jb D.W s i != Jb D.W j i) &&
 fA D.rp.length fun s=>decide (1<=D.dg.getD s 0) && decide (D.dg.getD s 0<D.p) && (((D.dg.getD s 0:Int)*(D.dg.getD s 0:Int)-(Jb D.E s 0:Int)*(t.length:Int)) % (D.p:Int) == 0) && fA (D.dg.getD s 0) fun d=>d == 0 || ((d:Int)*(d:Int)-(Jb D.E s 0:Int)*(t.length:Int)) % (D.p:Int) != 0
section
variable {t:List (List Nat)}{bs:List Nat}{D:Dt}
noncomputable def eD (D:Dt)(s x:Nat):Nat:=Jb D.E s (D.cl.getD x 0)
noncomputable def wD (D:Dt)(s x:Nat):Nat:=Jb D.W s (D.cl.getD x 0)
noncomputable def fD (D:Dt)(s x:Nat):Nat:=Jb D.F s (D.cl.getD x 0)
theorem Zdo (P:PW t)(h:Zh1 t bs=true){a:Nat}(j:a<t.length):bs.getD a 0=YD t a:=by
 have:=Ye h j;rw[af,decide_eq_true_eq] at this;exact X3 P j this.1 (eq_of_beq this.2)
theorem ZfV (P:PW t)(h:Zh1 t bs=true){b x:Nat}(j:x<t.length):tbL t bs b x=tb t b x:=by
 unfold tbL tb;rw[Zdo P h j]
structure ClW (t:List (List Nat))(cl rp:Nat->Nat)(m:Nat):Prop where
 lt:∀x,x<t.length->cl x<m
 z:∀x,x<t.length->(cl x=0↔x=0)
 con:∀x s,x<t.length->s<t.length->cl (tb t x s)=cl x
 tr:∀x,x<t.length->∃s,s<t.length/\tb t (rp (cl x)) s=x
 rl:∀k,k<m->rp k<t.length
 rn:∀k,k<m->cl (rp k)=k
theorem ZhX (P:PW t)(hb:Zh1 t bs=true)(h:clB t bs D=true):ClW t (fun x=>D.cl.getD x 0) (fun k=>D.rp.getD k 0) D.rp.length:=by
 unfold clB at h;rw[af] at h;have g:∀{x},x<t.length->D.cl.getD x 0<D.rp.length/\((D.cl.getD x 0 == 0) == (x == 0))=true/\(fA t.length fun s=>D.cl.getD (tbL t bs x s) 0 == D.cl.getD x 0)=true/\(fE t.length fun s=>tbL t bs (D.rp.getD (D.cl.getD x 0) 0) s == x)=true:=fun {x} j=>by
  have:=Ye h.1 j;rw[af,af,af,decide_eq_true_eq] at this;exact⟨this.1.1.1,this.1.1.2,this.1.2,this.2⟩
 have g2:∀{k},k<D.rp.length->D.rp.getD k 0<t.length/\D.cl.getD (D.rp.getD k 0) 0=k:=fun {k} J=>by
  have:=Ye h.2 J;rw[af,decide_eq_true_eq] at this;exact⟨this.1,eq_of_beq this.2⟩
 refine⟨fun x j=>(g j).1,fun x j=>?_,fun x s j M=>?_,fun x j=>?_,fun k J=>(g2 J).1,fun k J=>(g2 J).2⟩
 ·have:=eq_of_beq (g j).2.1
  constructor
  ·intro q
   have q:D.cl.getD x 0=0:=q;rw[q] at this;exact eq_of_beq this.symm
  ·intro q
   rw[q] at this ⊢;exact eq_of_beq this
 ·have:=eq_of_beq (Ye (g j).2.2.1 M)
  rw[ZfV P hb M] at this;exact this
 ·obtain⟨s,M,q⟩:=Zev (g j).2.2.2
  have:=eq_of_beq q;rw[ZfV P hb M] at this;exact⟨s,M,this⟩
variable {cl rp:Nat->Nat}{m:Nat}
theorem ClW.cj (P:PW t)(C:ClW t cl rp m){u x:Nat}(j:u<t.length)(J:x<t.length):Uu t u x=decide (cl x=cl u):=by
 by_cases h:cl x=cl u
 ·rw[decide_eq_true h]
  obtain⟨s1,h1,e1⟩:=C.tr u j;obtain⟨O,h2,U⟩:=C.tr x J;rw[h] at U;have M:=C.rl (cl u) (C.lt u j);have n1:=P.n1;have:tb t u 0=tb t (rp (cl u)) s1:=by rw[Zaj P j];exact e1.symm
  obtain⟨z,hz,ez⟩:=Zak P j M n1 h1 this;have e3:tb t (rp (cl u)) O=tb t x 0:=by rw[Zaj P J];exact U
  have m1:u∈Yq t (rp (cl u)):=(Yb P M).mpr ⟨s1,h1,e1⟩;have m2:x∈Yq t (rp (cl u)):=(Yb P M).mpr ⟨O,h2,U⟩;have m3:rp (cl u)∈Yq t u:=(Yb P j).mpr ⟨z,hz,ez⟩;have m4:x∈Yq t u:=YN P j J m3 (by
   have:tb t x 0=tb t (rp (cl u)) O:=e3.symm;obtain⟨z2,Y,m8⟩:=Zak P J M n1 h2 this;exact (Yb P J).mpr ⟨z2,Y,m8⟩)
  exact XY.mpr ((Yb P j).mp m4)
 ·rw[decide_eq_false h]
  cases q:Uu t u x with
  |false=>rfl
  |true=>
   obtain⟨y,hy,e⟩:=XY.mp q;have:=C.con u y j hy;rw[e] at this;exact absurd this h
theorem Zg8 {n:Nat}{f:Nat->Nat}(h:∀a b,a<n->b<n->f a=f b->a=b):((ac n).map f).Nodup:=by
 rw[List.Nodup,iZ];exact fJ (fun {a b} j hb ne e=>ne (h a b (ae.mp j) (ae.mp hb) e)) eC
theorem ClW.count (P:PW t)(C:ClW t cl rp m):m=(Zy t t.length).length:=by
 have U:=Yw P;have q:∀x y,x<t.length->y<t.length->(cl x=cl y↔YC t x=YC t y):=fun x y j O=>by
  have a:=C.cj P O j;rw[XZ P O j] at a;exact⟨fun h=>by
   rw[decide_eq_true h] at a;exact of_decide_eq_true a,fun h=>by
   rw[decide_eq_true h] at a;exact of_decide_eq_true a.symm⟩
 have Y:=L2.Yl ((ac m).map fun k=>YC t (rp k)) (ac (Zy t t.length).length) (by
  refine Zg8 fun a b J hb e=>?_;have:=(q _ _ (C.rl a J) (C.rl b hb)).mpr e;rw[C.rn a J,C.rn b hb] at this;exact this) (fun x j=>by
  obtain⟨k,M,rfl⟩:=aI.mp j;exact ae.mpr (U.lt _ (C.rl k (ae.mp M))))
 have l2:=L2.Yl ((ac (Zy t t.length).length).map fun k=>cl (ZB t k)) (ac m) (by
  refine Zg8 fun a b J hb e=>?_;have:=(q _ _ (U.rl a J) (U.rl b hb)).mp e;rw[U.rn a J,U.rn b hb] at this;exact this) (fun x j=>by
  obtain⟨k,M,rfl⟩:=aI.mp j;exact ae.mpr (C.lt _ (U.rl k (ae.mp M))))
 rw[Za,Zg,Zg] at Y l2;omega
theorem ClW.turn (P:PW t)(C:ClW t cl rp m)(E:Nat->Nat)(i:Nat){z y:Nat}(hz:z<t.length)(j:y<t.length):sm t.length (fun x=>YU (decide (cl x=i))*E (cl (ZJ t (YD t x) (tb t z y))))=sm t.length (fun x=>YU (decide (cl x=i))*E (cl (ZJ t (YD t x) z))):=by
 rw[<-Zih P j (fun x=>YU (decide (cl x=i))*E (cl (ZJ t (YD t x) (tb t z y))))];refine ZM fun x q=>?_;rw[C.con x y q j,ZkA P j q,<-ZcE P j (Yc P q).1 hz,C.con _ y (P.lt _ _ (Yc P q).1 hz) j]
theorem ZjR (P:PW t)(h:tdB t bs D=true):TD t D.n D.p D.rp.length (eD D) (wD D) (fD D) D.z (fun s=>D.dg.getD s 0):=by
 unfold tdB at h;simp only[af] at h;obtain⟨⟨⟨⟨⟨⟨⟨⟨⟨⟨⟨⟨⟨⟨⟨h1,h2⟩,h3⟩,h4⟩,h5⟩,h6⟩,h7⟩,h8⟩,h9⟩,m9⟩,n4⟩,n6⟩,n8⟩,n9⟩,o0⟩,o5⟩:=h;have o6:=of_decide_eq_true h2;have m1:=of_decide_eq_true h3;have n1:=of_decide_eq_true h4;have n60:=of_decide_eq_true h5;have C:=ZhX P h9 m9;have N1:=P.n1;have pr:=Zkb h1;have O:∀{s c},s<D.rp.length->c<D.rp.length->Jb D.E s c<D.p/\Jb D.W s c<D.p:=fun {s c} j hc=>by
  have:=Ye (Ye n6 j) hc;rw[af,decide_eq_true_eq,decide_eq_true_eq] at this;exact this
 have o7:D.cl.getD 0 0=0:=(C.z 0 N1).mpr rfl;have M:∀{s},s<D.rp.length->1<=D.dg.getD s 0/\D.dg.getD s 0<D.p/\((D.dg.getD s 0:Int)*(D.dg.getD s 0:Int)-(Jb D.E s 0:Int)*(t.length:Int)) % (D.p:Int)=0/\∀d,1<=d->d<D.dg.getD s 0->((d:Int)*(d:Int)-(Jb D.E s 0:Int)*(t.length:Int)) % (D.p:Int)≠0:=fun {s} j=>by
  have:=Ye o5 j;simp only[af,decide_eq_true_eq] at this;obtain⟨⟨⟨a,b⟩,c⟩,d⟩:=this;refine⟨a,b,eq_of_beq c,fun k k1 kd=>?_⟩;have:=Ye d kd;rw[bg] at this;rcases this with q|q
  ·have:=eq_of_beq q
   omega
  ·simpa using q
 have e0:∀s,eD D s 0=Jb D.E s 0:=fun s=>by unfold eD;rw[o7]
 unfold itB at h6;rw[af] at h6;have U:∀a,a<t.length->it t a D.n=0:=fun a Y=>eq_of_beq (Ye h6.1 Y);obtain⟨f1,f2⟩:=ZaW h7;refine⟨?_,n1,n60,U,fun x J=>?_,⟨f1,f2,pr.p2,by omega⟩,Zj6 h8,fun s j=>(M j).1,fun s j=>(M j).2.1,fun s j=>by have:=(M j).2.1;omega,fun s j=>by rw[e0];exact (M j).2.2.1,fun s d' j a b=>by rw[e0];exact (M j).2.2.2 d' a b⟩
 ·refine⟨pr,m1,C.count P,fun s x y j J hy=>?_,fun s x y j J hy=>?_,fun s x j J=>(O j (C.lt x J)).1,fun s x j J=>(O j (C.lt x J)).2,fun s u z j hu hz=>?_,fun x J=>?_,fun s s' j m8=>?_,fun s s' j m8 h=>?_⟩
  ·unfold eD
   have:=C.con x y J hy;rw[this]
  ·unfold wD
   have:=C.con x y J hy;rw[this]
  ·obtain⟨y,hy,ey⟩:=C.tr z hz
   have o8:=C.rl _ (C.lt z hz);have a1:sm t.length (fun x=>YU (Uu t u x)*eD D s (ZJ t (YD t x) z))=sm t.length (fun x=>YU (decide (D.cl.getD x 0=D.cl.getD u 0))*Jb D.E s (D.cl.getD (ZJ t (YD t x) z) 0)):=ZM fun x J=>by rw[C.cj P hu J];rfl
   have a2:=C.turn P (Jb D.E s) (D.cl.getD u 0) o8 hy;rw[ey] at a2;rw[a1,a2];have a3:=eq_of_beq (Ye (Ye (Ye n4 j) (C.lt u hu)) (C.lt z hz));have a4:sm t.length (fun x=>YU (decide (D.cl.getD x 0=D.cl.getD u 0))*Jb D.E s (D.cl.getD (ZJ t (bs.getD x 0) (D.rp.getD (D.cl.getD z 0) 0)) 0))=sm t.length (fun x=>YU (decide (D.cl.getD x 0=D.cl.getD u 0))*Jb D.E s (D.cl.getD (ZJ t (YD t x) (D.rp.getD (D.cl.getD z 0) 0)) 0)):=ZM fun x J=>by rw[Zdo P h9 J]
   rw[a4] at a3;exact a3
  ·have:=eq_of_beq (Ye n8 (C.lt x J))
   have e1:sm D.rp.length (fun s=>eD D s x)=sm D.rp.length (fun s=>Jb D.E s (D.cl.getD x 0)):=rfl;rw[e1,this];by_cases q:x=0
   ·rw[if_pos q,if_pos ((C.z x J).mpr q)]
   ·rw[if_neg q,if_neg (fun zz=>q ((C.z x J).mp zz))]
  ·exact eq_of_beq (Ye (Ye n9 j) m8)
  ·have:=Ye (Ye o0 j) m8
   rw[bg] at this;rcases this with q|q
   ·exact eq_of_beq q
   ·obtain⟨i,hi,q⟩:=Zev q
    have:=h (D.rp.getD i 0) (C.rl i hi);unfold wD at this;rw[C.rn i hi] at this;rw[this] at q;simp at q
 ·have o9:∀a,a<t.length->it t a (x % D.n)=0:=fun a Y=>by
   obtain⟨r,R⟩:=P.rd a Y;have p4:x % r=0:=by
    have:=J a Y;rw[V3 R] at this;apply ah;intro zz;exact R.nz _ (by omega) (bW _ R.r1) this
   have p6:D.n % r=0:=by
    have:=U a Y;rw[V3 R] at this;apply ah;intro zz;exact R.nz _ (by omega) (bW _ R.r1) this
   rw[V3 R,ZaI p4 p6];rfl
  apply ah;intro zz;have p7:=bW x (show 0<D.n by omega);have:=Ye h6.2 p7;rw[bg] at this;rcases this with q|q
  ·exact zz (eq_of_beq q)
  ·obtain⟨a,Y,q⟩:=Zev q
   rw[o9 a Y] at q;simp at q
end
end Tb
namespace C40
open PySem L2 PySem.Spec PyProof.Rows
open Tb Pm
noncomputable abbrev ZmT:Stmt:=top 20
noncomputable abbrev Zgk:Stmt:=top 21
noncomputable abbrev ZdW:Stmt:=top 22
noncomputable abbrev Zgv:Stmt:=top 28
structure BlT (mg:Str->Option Value):Prop where
 zip:mg "zip"=none
 sum:mg "sum"=none
noncomputable def Jq:Sp:=fun j H Q _=>∃(p:Nat) (x:Int),j=[.int p,.int x]/\2<=p/\p<=100000/\(∃y:Nat,1<=y/\y<p/\(y:Int)*x % (p:Int)=1)/\∀y:Nat,1<=y->y<p->(y:Int)*x % (p:Int)=1->Q (.int (y:Nat)) H
noncomputable def ZdL (K:ab):Sp:=fun J H Q _=>∃(a:Addr) (q:List Int) (e N p d:Nat),J=[.ref a,.int N,.int p]/\Wx K H a (q.map V.int)/\q[0]?=some (e:Int)/\e<=100000/\N<=60/\2<=p/\p<=100000/\1<=d/\d<=1000/\((d:Int)*d-e*N) % (p:Int)=0/\(∀j:Nat,1<=j->j<d->((j:Int)*j-e*N) % (p:Int)≠0)/\Q (.int (d:Nat)) H
noncomputable def Zga:Sp:=fun q H Q _=>∃(n count p:Nat),q=[.int n,.int count]/\1<=n/\n<=60/\count<=4000/\Zml n count p/\∀j,Same H j->Q (.int p) j
theorem Zbx {lo:Int}{n i:Nat}{y:V}(h:((Wt lo n).map V.int)[i]?=some y):i<n/\y=.int (lo+(i:Int)):=by
 unfold Wt at h;rw[Zc,Zc] at h;by_cases j:i<n
 ·rw[ak j] at h
  exact⟨j,(aw h).symm⟩
 ·rw[ag (by rw[Zg];omega)] at h
  cases h
section
variable {P:Program}{w:World}{K:ab}{mg:Str->Option Value}{base:Heap}
theorem Ze5 {f:Addr}{fd:FuncData}(F:WB K "back_by" "back_by" ZdW f fd):Z5 P w K mg base Yd 1 f fd ["p", "x"] Jq:=by
 refine F.ok (FS (N:=["p", "x", "found"])) (fun Y H Q E h=>?_) (fun m8 A U s H Y Q E hr h=>?_)
 ·obtain⟨p,x,rfl,_⟩:=h;rfl
 ·obtain⟨p,x,rfl,p2,pl,⟨y,y1,yp,hy⟩,q⟩:=h
  refine⟨_,Zs (ZE 2 rfl Zw)
   (Zs (Z9 ao (ZT JY (Zz Z3 (Zz ZQ (vn 2) (vn 1)) (vn 0)) Zw (Z1 _)) (Zv (Jt (i:=2) (Z0 (by kernel_rfl)) rfl (YL (by kernel_rfl)) Zw W2 (.inl rfl))))
   (Zv (ZG (vn 2)))),?_⟩
  refine Z6 (fun m j O=>∃k:Nat,j=[some (.int p),some (.int x),some (.int (k:Nat))]/\O=H/\1<=k/\k<=y/\m=y-k)
   (fun j O=>∃k:Nat,j=[some (.int p),some (.int x),some (.int (k:Nat))]/\O=H/\1<=k/\k<p/\(k:Int)*x % (p:Int)=1) ?hend ⟨y-1,1,rfl,rfl,Zq _,y1,rfl⟩ ?turn
  case hend=>
   rintro j O ⟨k,rfl,rfl,k1,kp,hk⟩;exact⟨_,rfl,q k k1 kp hk⟩
  case turn=>
   rintro M m j O ⟨k,rfl,rfl,k1,ky,rfl⟩;refine⟨_,rfl,_,rfl,_,_,rfl,rfl,.inl ⟨by omega,by omega⟩,_,rfl,_,_,rfl,rfl,(by show (0:Int)<(p:Int);omega),rfl,_,rfl,?_⟩;refine Y0 (fun J=>?_) (fun J=>?_)
   ·have J:(k:Int)*x % (p:Int)≠1:=fun z=>by
     rw[Yh,z] at J;simp at J
    have:k≠y:=fun z=>by rw[z] at J;exact J hy
    exact⟨_,fun _ _ z=>z,_,rfl,_,_,rfl,rfl,y-(k+1),by omega,k+1,rfl,rfl,by omega,by omega,rfl⟩
   ·have J:(k:Int)*x % (p:Int)=1:=by
     apply ah;intro z;apply J;rw[Yh];simpa using z
    exact M _ _ ⟨k,rfl,rfl,k1,by omega,J⟩
theorem ZgZ {f:Addr}{fd:FuncData}(F:WB K "first_of" "first_of" Zgv f fd):Z5 P w K mg base Yd 1 f fd ["one", "count", "p"] (ZdL K):=by
 refine F.ok (FS (N:=["one", "count", "p", "d"])) (fun vs H Q E h=>?_) (fun m9 A Y s H vs Q E hr h=>?_)
 ·obtain⟨a,xs,e,N,p,d,rfl,_⟩:=h;rfl
 ·obtain⟨a,xs,e,N,p,d,rfl,ha,he,e5,n4,p2,pl,d1,dl,hd,hm,q⟩:=h
  refine⟨_,Zs (ZE 3 rfl Zw)
   (Zs (Z9 ao (ZT JY (Zz Z3 (Zz Wh (Zz ZQ (vn 3) (vn 3)) (Zz ZQ (ZN (V2 K) (vn 0) Zw (fun _ _=>rfl)) (vn 1))) (vn 2)) Zw (Z1 _)) (Zv (Jt (i:=3) (Z0 (by kernel_rfl)) rfl (YL (by kernel_rfl)) Zw W2 (.inl rfl))))
   (Zv (ZG (vn 3)))),?_⟩
  have h0:(xs.map V.int)[0]?=some (.int (e:Int)):=by rw[Zc,he];rfl
  have m8:XH (xs.map V.int) 0=some (.int (e:Int)):=by
   show XH (xs.map V.int) ((0:Nat):Int)=_
   first
   |(rw[O];exact h0)
   |(rw[ZU];exact h0)
   |simpa [XH] using h0
  refine Z6 (fun m j U=>∃k:Nat,j=[some (.ref a),some (.int (N:Nat)),some (.int (p:Nat)),some (.int (k:Nat))]/\U=H/\1<=k/\k<=d/\m=d-k)
   (fun j U=>j=[some (.ref a),some (.int (N:Nat)),some (.int (p:Nat)),some (.int (d:Nat))]/\U=H) ?hend ⟨d-1,1,rfl,rfl,Zq _,d1,rfl⟩ ?turn
  case hend=>
   rintro j U ⟨rfl,rfl⟩;exact⟨_,rfl,q⟩
  case turn=>
   rintro M m j U ⟨k,rfl,rfl,k1,ky,rfl⟩;refine⟨_,rfl,_,rfl,_,_,rfl,rfl,.inl ⟨by omega,by omega⟩,_,rfl,a,_,_,_,rfl,rfl,ha,m8,_,rfl,_,_,rfl,rfl,.inl ⟨by omega,by omega⟩,_,_,rfl,rfl,_,rfl,_,_,rfl,rfl,(by show (0:Int)<(p:Int);omega),rfl,_,rfl,?_⟩;refine Y0 (fun J=>?_) (fun J=>?_)
   ·have J:((k:Int)*k-e*N) % (p:Int)≠0:=fun z=>by
     rw[Yh,z] at J;simp at J
    have:k≠d:=fun z=>by rw[z] at J;exact J hd
    exact⟨_,fun _ _ z=>z,_,rfl,_,_,rfl,rfl,d-(k+1),by omega,k+1,rfl,rfl,by omega,by omega,rfl⟩
   ·have J:((k:Int)*k-e*N) % (p:Int)=0:=by
     apply ah;intro z;apply J;rw[Yh];simpa using z
    have:k=d:=by
     apply ah;intro z;exact hm k k1 (by omega) J
    subst this;exact M _ _ ⟨rfl,rfl⟩
theorem Zlf {f:Addr}{fd:FuncData}(F:WB K "fit_prime" "fit_prime" ZmT f fd)(T:Bl mg):Z5 P w K mg base Yd 1 f fd ["n", "count"] Zga:=by
 refine F.ok (FS (N:=["n", "count", "p"])) (fun vs H Q E h=>?_) (fun o0 A n6 s H vs Q E hr h=>?_)
 ·obtain⟨n,count,p,rfl,_⟩:=h;rfl
 ·obtain⟨n,count,p,rfl,n1,n60,cl,Fp,q⟩:=h
  refine⟨_,Zs (ZE 2 rfl (Zz YR (vn 0) Zw))
   (Zs (Z9 ao (Zm7 (ZT Znb (Zz ZQ (vn 2) (vn 2)) (Zz ZQ Zw (vn 1)) (Z1 _)) (ZkU (ZaG (cb (Zh0 rfl) T.any (pc (cmp ["k"] [2] ["k", "p"] rfl (Zoz T.range (pc Zw (pc (vn 2) Zu))) (fun _ _ _ _ _=>gn 0) (fun _ _ _ _ _=>ZP) (fun _ _ _ _ _=>Zd9 ZbN (Zz Z3 (vn 1) (vn 0)) Zw (Z1 _))) Zu))))).pt
    (Zv (Jt (i:=2) (Z0 (by kernel_rfl)) rfl (YL (by kernel_rfl)) (vn 0) W2 (.inl rfl))))
   (Zv (ZG (vn 2)))),?_⟩
  obtain⟨J,eJ,hJ⟩:=Fp.st;have pl:=Fp.lt;have p2:=Fp.p2;refine⟨_,rfl,_,_,rfl,rfl,?_⟩;refine Z6 (fun m M H'=>∃j:Nat,M=[some (.int (n:Nat)),some (.int (count:Nat)),some (.int (((n+1)+j*n:Nat):Int))]/\Same H H'/\j<=J/\m=J-j)
   (fun M H'=>M=[some (.int (n:Nat)),some (.int (count:Nat)),some (.int (p:Nat))]/\Same H H') ?hend ⟨J,0,by rw[fm,gZ];rfl,Same.refl _,aZ _,rfl⟩ ?turn
  case hend=>
   rintro M H' ⟨rfl,sm⟩;exact⟨_,rfl,q H' sm⟩
  case turn=>
   rintro O m M H' ⟨j,rfl,sm,jJ,rfl⟩;have jn:(n+1)+j*n<=p:=by rw[eJ];have:=cV n jJ;omega
   have n8:Vl count ((n+1)+j*n)=true\/(n+1)+j*n=p:=by
    by_cases z:j=J
    ·exact .inr (by rw[eJ,z])
    ·exact .inl (hJ j (by omega))
   have ok:=Fp.ok;have o5:2<=(n+1)+j*n:=by omega
   have U:(n+1)+j*n≠p->j<J:=fun z=>by
    by_cases e:j=J
    ·exact absurd (by rw[eJ,e]) z
    ·omega
   have m8:(((n+1)+j*n:Nat):Int)+(n:Int)=(((n+1)+(j+1)*n:Nat):Int):=by
    rw[cy];omega
   generalize hx:(n+1)+j*n=x at *;refine⟨_,rfl,_,rfl,_,_,rfl,rfl,.inl ⟨by omega,by omega⟩,_,rfl,_,_,rfl,rfl,.inl ⟨by omega,by omega⟩,_,_,rfl,rfl,_,rfl,?_⟩;refine Y0 (fun Y=>?_) (fun Y=>?_)
   ·have Y:x*x<=4*count:=by have:=of_decide_eq_true Y;rw[<-aK] at this;omega
    have hb:Vl count x=true:=by unfold Vl;rw[decide_eq_true Y];rfl
    have:=U (fun z=>by rw[z,ok] at hb;cases hb);refine (Y0 (fun _=>?_) (fun h=>absurd rfl h));exact⟨_,fun _ _ z=>z,_,rfl,_,rfl,_,_,rfl,rfl,J-(j+1),by omega,j+1,by rw[<-m8];rfl,sm,by omega,rfl⟩
   ·have Y:¬x*x<=4*count:=fun z=>Y (decide_eq_true (by rw[<-aK];omega))
    refine⟨_,rfl,_,_,rfl,⟨by omega,by omega,by omega,by omega⟩,?_⟩;rw[show ((x:Nat):Int)-2=((x-2:Nat):Int) by omega,Zj];refine Jz (JL 2 (x-2)) [some (.int (x:Nat))] rfl (fun y=>match y with | .int z=>.bl ((x:Int) % z == 0)|y=>y) (by rw[Za,YK];omega) (fun i y H2 hy s2 R gg=>?_) (fun D H2 hD s2 n9=>?_)
    ·obtain⟨hi,rfl⟩:=Zbx hy
     have m9:=gg H2 (Same.refl _);dsimp only at m9;refine⟨_,rfl,_,rfl,_,_,rfl,rfl,(by show (0:Int)<2+(i:Int);omega),rfl,?_⟩;have e:decide (V.int ((x:Int) % (2+(i:Int)))=V.int 0)=((x:Int) % (2+(i:Int)) == 0):=by
      by_cases h:(x:Int) % (2+(i:Int))=0
      ·rw[h];rfl
      ·rw[decide_eq_false (fun z=>h (by injection z)),beq_eq_false_iff_ne.mpr h]
     rw[e];exact m9
    ·refine⟨D,(ac (x-2)).map fun k=>x % (k+2) == 0,rfl,.of ?_,?_⟩
     ·rw[n9]
      unfold Wt;rw[aU,aU,aU];congr 2;refine a9 fun i _=>?_;show V.bl ((x:Int) % (2+(i:Int)) == 0)=V.bl (x % (i+2) == 0);congr 1;have:(x:Int) % (2+(i:Int))=((x % (i+2):Nat):Int):=by
       rw[show (2:Int)+(i:Int)=((i+2:Nat):Int) by omega];rfl
      rw[this];cases hq:(x % (i+2) == 0) with
      |true=>rw[eq_of_beq hq];rfl
      |false=>
       have:=ne_of_beq_false hq;exact beq_eq_false_iff_ne.mpr (by omega)
     ·have ea:((ac (x-2)).map fun k=>x % (k+2) == 0).any id=(ac (x-2)).any fun k=>x % (k+2) == 0:=by rw[fQ];rfl
      rw[ea];have eb:Vl count x=((ac (x-2)).any fun k=>x % (k+2) == 0):=by unfold Vl;rw[decide_eq_false Y,fF]
      rw[<-eb];have n4:=sm.trans s2;refine⟨_,rfl,Y0 (fun h2=>?_) (fun h2=>?_)⟩
      ·have:=U (fun z=>by rw[z,ok] at h2;cases h2)
       exact⟨_,fun _ _ z=>z,_,rfl,_,rfl,_,_,rfl,rfl,J-(j+1),by omega,j+1,by rw[<-m8];rfl,n4,by omega,rfl⟩
      ·have:x=p:=by
        rcases n8 with z|z
        ·exact absurd z h2
        ·exact z
       subst this;exact O _ _ ⟨rfl,n4⟩
end
theorem ZoG {a b:Int}(h:(!decide (V.int a=V.int b))=true):a≠b:=fun e=>by rw[e,decide_eq_true rfl] at h;cases h
theorem ZoH {a b:Int}(h:¬(!decide (V.int a=V.int b))=true):a=b:=by
 apply ah;intro e;exact h (by rw[decide_eq_false (fun z=>e (by injection z))];rfl)
noncomputable def Yv (p z n:Nat):List V:=(ac n).map fun j=>V.int ((z ^ j % p:Nat):Int)
theorem ZbI (p z n:Nat):Yv p z (n+1)=Yv p z n++[V.int ((z ^ n % p:Nat):Int)]:=by
 unfold Yv;rw[dF,aT];rfl
theorem WF (p z n:Nat):(Yv p z n).length=n:=by unfold Yv;rw[Za,Zg]
theorem ZiE (p z k:Nat):((z ^ k % p:Nat):Int)*(z:Int) % (p:Int)=((z ^ (k+1) % p:Nat):Int):=by
 rw[<-aK,<-aY,Nat.pow_succ,Nat.mod_mul_mod]
noncomputable def Zal:Sp:=fun J H Q _=>∃(n p q:Nat),J=[.int n,.int p]/\1<=n/\n<=60/\2<=p/\p<=100000/\RtP n p q/\∀L j,H L=none->Same H j->j L=some (.lst (Yv p q n))->Q (.ref L) j
section
variable {P:Program}{w:World}{K:ab}{mg:Str->Option Value}{base:Heap}
theorem ZgQ {f:Addr}{fd:FuncData}(F:WB K "root_powers" "root_powers" Zgk f fd)(T:Bl mg):Z5 P w K mg base Yd 1 f fd ["n", "p"] Zal:=by
 refine F.ok (FS (N:=["n", "p", "z", "powers"])) (fun vs H Q E h=>?_) (fun p8 A o7 s H vs Q E hr h=>?_)
 ·obtain⟨n,p,z0,rfl,_⟩:=h;rfl
 ·obtain⟨n,p,z0,rfl,n1,n60,p2,pl,R,q⟩:=h
  refine⟨_,Zs (ZE 2 rfl Zw)
   (Zs (ZE 3 rfl (ZS (pc Zw Zu)))
   (Zs (Z9 ao (ZT JY (cb (YF K) T.len (pc (vn 3) Zu)) (vn 0) (Z1 _))
    (Zs (Jt (i:=2) (Z0 (by kernel_rfl)) rfl (YL (by kernel_rfl)) Zw W2 (.inl rfl))
    (Zs (ZE 3 rfl (ZS (pc Zw Zu)))
    (Zv (Z9 ao (ZT JY (Zz Z3 (Zz ZQ (ZN (V2 K) (vn 3) (Xn Jc Zw) (fun _ _=>rfl)) (vn 2)) (vn 1)) Zw (Z1 _))
     (Zv (Ya (Y6 aH aM aO ZV (vn 3) (pc (Zz Z3 (Zz ZQ (ZN (V2 K) (vn 3) (Xn Jc Zw) (fun _ _=>rfl)) (vn 2)) (vn 1)) Zu)))))))))
   (Zv (ZG (vn 3))))),?_⟩
  have p7:(1:Int)=((1 ^ 0 % p:Nat):Int):=by rw[Nat.pow_zero,bF (by omega)];rfl
  have m9:∀z:Nat,V.int 1=V.int ((z ^ 0 % p:Nat):Int):=fun z=>by rw[Nat.pow_zero,bF (by omega)];rfl
  have sz:(16777216:Nat)=sizeLine:=by decide
  refine⟨(by show 1<=sizeLine;decide),fun L0 n8=>?_⟩;have s0:=Same.upd (H:=H) (o:=.lst [.int 1]) n8;have h0:upd H L0 (.lst [.int 1]) L0=some (.lst (Yv p 1 1)):=by
   rw[Zt];show some (HO.lst [V.int 1])=some (HO.lst [V.int ((1 ^ 0 % p:Nat):Int)]);rw[m9 1]
  generalize upd H L0 (.lst [.int 1])=H0 at s0 h0 ⊢;refine Z6 (fun m j J=>∃(z k:Nat) (L:Addr),j=[some (.int (n:Nat)),some (.int (p:Nat)),some (.int (z:Nat)),some (.ref L)]/\Same H J/\H L=none/\J L=some (.lst (Yv p z k))/\1<=z/\k<=p/\z<=z0/\m=z0-z/\(k=n->z=z0)/\(k≠n->z<z0))
   (fun j J=>∃(L:Addr),j=[some (.int (n:Nat)),some (.int (p:Nat)),some (.int (z0:Nat)),some (.ref L)]/\Same H J/\H L=none/\J L=some (.lst (Yv p z0 n))) ?hend ⟨z0-1,1,1,L0,rfl,s0,n8,h0,Zq _,by omega,?_,rfl,?_,?_⟩ ?turn
  case hend=>
   rintro j J ⟨L,rfl,sm,nL,hL⟩;exact⟨_,rfl,q L J nL sm hL⟩
  ·rcases R with ⟨a,b⟩|⟨a,_⟩ <;> omega
  ·rcases R with ⟨a,b⟩|⟨a,_,b,_⟩ <;> omega
  ·rcases R with ⟨a,b⟩|⟨a,_,b,_⟩ <;> omega
  case turn=>
   rintro n4 m j J ⟨z,k,L,rfl,sm,nL,hL,z1,kp,zz,rfl,c1,c2⟩;refine⟨_,rfl,L,_,rfl,.inl (.of hL),_,rfl,rfl,_,rfl,?_⟩;rw[WF];refine Y0 (fun h1=>?_) (fun h1=>?_)
   ·have h1:k≠n:=fun e=>by
     rw[e,Yh] at h1;simp at h1
    have zl:=c2 h1;rcases R with ⟨a,b⟩|⟨a,ap,b,r,o8,o9,p4⟩
    ·omega
    ·have O:=o8 (z+1) (by omega) (by omega)
     have r1:=O.r1;have rp:=O.rp;refine⟨_,fun _ _ z=>z,_,rfl,_,_,rfl,rfl,(by show 1<=sizeLine;decide),fun U n9=>?_⟩;have s1:=Same.upd (H:=J) (o:=.lst [.int 1]) n9;have o0:upd J U (.lst [.int 1]) U=some (.lst (Yv p (z+1) 1)):=by
      rw[Zt];show some (HO.lst [V.int 1])=some (HO.lst [V.int (((z+1) ^ 0 % p:Nat):Int)]);rw[m9 (z+1)]
     have n6:H U=none:=sm.free n9;have o5:=sm.trans s1;generalize upd J U (.lst [.int 1])=H1 at s1 o0 o5 ⊢;have ez:(z:Int)+1=((z+1:Nat):Int):=by omega
     refine Z6 (fun m j J=>∃k:Nat,j=[some (.int (n:Nat)),some (.int (p:Nat)),some (.int ((z+1:Nat):Int)),some (.ref U)]/\Same H J/\J U=some (.lst (Yv p (z+1) k))/\1<=k/\k<=r (z+1)/\m=r (z+1)-k)
      (fun j J=>j=[some (.int (n:Nat)),some (.int (p:Nat)),some (.int ((z+1:Nat):Int)),some (.ref U)]/\Same H J/\J U=some (.lst (Yv p (z+1) (r (z+1))))) ?hend2 ⟨r (z+1)-1,1,by rw[<-ez];rfl,o5,o0,Zq _,r1,rfl⟩ ?turn2
     case hend2=>
      rintro j H2 ⟨rfl,m8,h2⟩;refine⟨z0-(z+1),by omega,z+1,r (z+1),U,rfl,m8,n6,h2,by omega,rp,by omega,rfl,fun e=>?_,fun e=>?_⟩
      ·apply ah
       intro ne;exact o9 (z+1) (by omega) (by omega) e
      ·apply ah
       intro ne;have:z+1=z0:=by omega
       rw[this] at e;exact e p4
     case turn2=>
      rintro Y m j H2 ⟨k,rfl,m8,h2,k1,kr,rfl⟩;obtain⟨M,rfl⟩:∃M,k=M+1:=⟨k-1,by omega⟩;have o6:XH (Yv p (z+1) (M+1)) (-1)=some (V.int (((z+1) ^ M % p:Nat):Int)):=by rw[ZbI];exact Zcr _ _
      have nx:=ZiE p (z+1) M;refine⟨_,rfl,_,rfl,U,_,_,_,rfl,rfl,.of h2,o6,_,rfl,_,_,rfl,rfl,.inr ⟨by omega,by omega⟩,_,rfl,_,_,rfl,rfl,(by show (0:Int)<(p:Int);omega),rfl,_,rfl,?_⟩;refine Y0 (fun h3=>?_) (fun h3=>?_)
      ·have h3:(z+1) ^ (M+1) % p≠1:=fun e=>by
        rw[Yh,nx,e] at h3;simp at h3
       have:M+1≠r (z+1):=fun e=>by rw[e] at h3;exact h3 O.one
       refine⟨_,fun _ _ z=>z,_,rfl,.inl ⟨rfl,_,.of h2⟩,_,rfl,_,rfl,U,_,_,_,rfl,rfl,.of h2,o6,_,rfl,_,_,rfl,rfl,.inr ⟨by omega,by omega⟩,_,rfl,_,_,rfl,rfl,(by show (0:Int)<(p:Int);omega),U,_,_,rfl,rfl,h2,by rw[WF];omega,?_⟩;have e5:Yv p (z+1) (M+1)++[V.int (((((z+1) ^ M % p:Nat):Int))*((z+1:Nat):Int) % (p:Int))]=Yv p (z+1) (M+2):=by rw[nx,ZbI p (z+1) (M+1)]
       rw[e5];exact⟨r (z+1)-(M+2),by omega,M+2,rfl,m8.updr n6,Zt,by omega,by omega,rfl⟩
      ·have h3:(z+1) ^ (M+1) % p=1:=by
        apply ah;intro e;apply h3;rw[Yh,nx,beq_eq_false_iff_ne.mpr (fun q=>e (by exact_mod_cast q))];rfl
       have:M+1=r (z+1):=by
        apply ah;intro e;exact O.nz (M+1) (by omega) (by omega) h3
       rw[this] at h2;exact Y _ _ ⟨rfl,m8,h2⟩
   ·have h1:k=n:=by
     apply ah;intro e;apply h1;rw[Yh];simp;omega
    subst h1;rw[c1 rfl] at hL ⊢;exact n4 _ _ ⟨L,rfl,sm,nL,hL⟩
end
end C40
namespace PyY
open PySem
open AutoSeq1 (wpAny_loadPart')
noncomputable def Vh (b:Bool)(h:Heap)(j a:Addr)(k:Nat):Prop:=match b with
 |true=>h.IsTupleIter j a k
 |false=>h.IsListIter j a k
noncomputable def Vg (b:Bool)(h:Heap)(a:Addr)(j:Array Value):Prop:=match b with
 |true=>h.IsTuple a j
 |false=>h.IsList a j
theorem Vh.ext {b:Bool}{h h':Heap}{c j a:Addr}{k:Nat}(x:Vh b h j a k)(e:ip c h h')(n:j≠c):Vh b h' j a k:=by
 cases b
 ·exact Heap.IsListIter.extBut x e n
 ·exact Heap.IsTupleIter.extBut x e n
theorem Vg.ext {b:Bool}{h h':Heap}{c a:Addr}{us:Array Value}(x:Vg b h a us)(e:ip c h h')(n:a≠c):Vg b h' a us:=by
 cases b
 ·exact Heap.IsList.extBut x e n
 ·exact Heap.IsTuple.extBut x e n
theorem Vh.at {b:Bool}{h h':Heap}{j a:Addr}{k:Nat}(x:Vh b h j a k)(e:∀o,h.get? j=some o->h'.get? j=some o):Vh b h' j a k:=by
 cases b
 ·exact Heap.IsListIter.at x e
 ·obtain⟨o,q,r⟩:=(show h.IsTupleIter j a k from x)
  exact⟨o,e o q,r⟩
theorem Vg.at {b:Bool}{h h':Heap}{a:Addr}{us:Array Value}(x:Vg b h a us)(e:∀o,h.get? a=some o->h'.get? a=some o):Vg b h' a us:=by
 cases b
 ·exact Heap.IsList.at x e
 ·obtain⟨o,j,r⟩:=(show h.IsTuple a us from x)
  exact⟨o,e o j,r⟩
theorem Vh.obj {b:Bool}{h:Heap}{j a:Addr}{k:Nat}(x:Vh b h j a k):∃o,h.get? j=some o/\∀v,o.data≠.cell v:=by
 cases b
 ·obtain⟨o,q,_,d⟩:=(show h.IsListIter j a k from x)
  exact⟨o,q,fun v z=>by rw[d] at z;cases z⟩
 ·obtain⟨o,q,_,d⟩:=(show h.IsTupleIter j a k from x)
  exact⟨o,q,fun v z=>by rw[d] at z;cases z⟩
section
variable {prog:Program}{w:World}{A:Around}{E:Value->Shared->Prop}{s:Shared}
theorem J3 {b:Bool}{j a:Addr}{k:Nat}{us:Array Value}{y:Value}{Q:Value->Shared->Prop}(c:Vh b s.heap j a k)(d:Vg b s.heap a us)(e:us[k]?=some y)
  (q:∀g,Vh b g j a (k+1)->be j s.heap g->Q y {s with heap:=g}):wpAny (model prog w) A (a8 (.ref j)) Q E s:=by
 cases b
 ·exact wpAny_nextOf_list_item c d e q
 ·exact VU c d e q
theorem UR {b:Bool}{j a:Addr}{k:Nat}{us:Array Value}{Q:Value->Shared->Prop}(J:A.handled=none)(c:Vh b s.heap j a k)(d:Vg b s.heap a us)(e:us[k]?=none)
  (q:∀g x,ip j s.heap g->(∃o,g.get? x=some o/\o.cls=.type "StopIteration")->E (.ref x) {s with heap:=g}):wpAny (model prog w) A (a8 (.ref j)) Q E s:=by
 cases b
 ·exact wpAny_nextOf_list_end J c d e q
 ·exact UQ J c d e q
structure ZA (z p r i j a b:Addr):Prop where
 pz:p≠z
 rz:r≠z
 iz:i≠z
 jz:j≠z
 pr:p≠r
 pi:p≠i
 pj:p≠j
 ri:r≠i
 rj:r≠j
 ij:i≠j
 az:a≠z
 ar:a≠r
 ai:a≠i
 aj:a≠j
 bz:b≠z
 br:b≠r
 bi:b≠i
 bj:b≠j
theorem ZeJ {u v:Bool}{z p r i j a b:Addr}{k:Nat}{us vs:Array Value}{x y o1 o2:Value}{Q:Option Value->Shared->Prop}(D:ZA z p r i j a b)
  (hz:iF s.heap z p r .none) (hp:dN s.heap p (.ref i) (.ref j)) (hr:dN s.heap r o1 o2) (hi:Vh u s.heap i a k) (hj:Vh v s.heap j b k) (ha:Vg u s.heap a us) (hb:Vg v s.heap b vs) (ex:us[k]?=some x) (ey:vs[k]?=some y)
  (q:∀g,iF g z p r (rawInt s.heap.objs.size)->dN g r x y->Vh u g i a (k+1)->Vh v g j b (k+1)->dN g s.heap.objs.size x y->g.objs.size=s.heap.objs.size+1->
   (∀c o,c≠z->c≠r->c≠i->c≠j->s.heap.get? c=some o->g.get? c=some o)->Q (some (.ref s.heap.objs.size)) {s with heap:=g}):wpAny (model prog w) A (pyNext (.ref z)) Q E s:=by
 have tz:s.TypeIs (.ref z) "zip":=⟨_,hz,rfl⟩;unfold pyNext;refine Zl (dS (bn (name:=cU "__next__") tz iq (bx iq tz F.entry_zip_next ?_ (F.args_zip_next_1 _))));show wpAny _ _ (field (.ref z) 2 >>= _) _ _ s;refine Zl (bP hz rfl (x:=.bool false) rfl ?_);show wpAny _ _ (field (.ref z) 3 >>= _) _ _ s;refine Zl (bP hz rfl (x:=.ref p) rfl ?_);refine Zl (cr hp rfl ?_);show wpAny _ _ (bv (.ref z) >>= _) _ _ s;refine Zl ?_;unfold bv;refine Zl (bP hz rfl (x:=.none) rfl (Zm ?_));rw[if_pos rfl];refine Zl (dJ (Zl (bP hz rfl (x:=.ref r) rfl ?_)));refine Zl (bM hz (by simp) fun g1 z1 s1=>?_);replace z1:iF g1 z p r .ellipsis:=z1;refine Zl ?_;simp only[mO,List.zipIdx_nil,jy,jQ];refine Zl (Zl (jb ?_));show wpAny _ _ (a8 (.ref i) >>= _) _ _ _;refine Zl (J3 (hi.ext s1.extBut D.iz) (ha.ext s1.extBut D.az) ex fun g2 i2 s2=>Zm ?_);have r2:dN g2 r o1 o2:=s2.extBut _ _ D.ri (s1.extBut _ _ D.rz hr);refine Zl (cr r2 rfl ?_);refine Zl (iR r2 fun g3 r3 O=>?_);replace r3:dN g3 r x o2:=r3;refine Zl (jY (Zm ?_));refine Zl (Zl (jb ?_));show wpAny _ _ (a8 (.ref j) >>= _) _ _ _;refine Zl (J3 (((hj.ext s1.extBut D.jz).ext s2.extBut D.ij.symm).ext O.extBut D.rj.symm) (((hb.ext s1.extBut D.bz).ext s2.extBut D.bi).ext O.extBut D.br) ey fun g4 j4 U=>Zm ?_);have r4:dN g4 r x o2:=U.extBut _ _ D.rj r3;refine Zl (cr r4 rfl ?_);refine Zl (iR r4 fun J r5 Y=>?_);replace r5:dN J r x y:=r5;refine Zl (jY (Zm (Zm ?_)));refine Zl (cr r5 rfl ?_);refine Zl (kJ ?_);have sz:J.objs.size=s.heap.objs.size:=by rw[Y.1,U.1,O.1,s2.1,s1.1]
 have z5:iF J z p r .ellipsis:=Y.extBut _ _ D.rz.symm (U.extBut _ _ D.jz.symm (O.extBut _ _ D.rz.symm (s2.extBut _ _ D.iz.symm z1)));have k5:∀c o,c≠z->c≠r->c≠i->c≠j->s.heap.get? c=some o->J.get? c=some o:=fun c o M c2 c3 c4 e=>Y.extBut _ _ c2 (U.extBut _ _ c4 (O.extBut _ _ c2 (s2.extBut _ _ c3 (s1.extBut _ _ M e))));have i5:Vh u J i a (k+1):=((i2.ext O.extBut D.ri.symm).ext U.extBut D.ij).ext Y.extBut D.ri.symm;have j5:Vh v J j b (k+1):=j4.ext Y.extBut D.rj.symm;have zl:z<J.objs.size:=Zp z5;show wpAny _ _ (cq (.ref z) (.ref J.objs.size) >>= _) _ _ _;refine Zl ?_;unfold cq;have z6:iF (J.push {cls:=.type "tuple",data:=.seq #[x,y]}) z p r .ellipsis:=Zn _ z5;refine Zl (bM z6 (by simp) fun g7 z7 s7=>?_);replace z7:iF g7 z p r (rawInt J.objs.size):=z7;refine bM z7 (by simp) fun g8 z8 s8=>?_;replace z8:iF g8 z p r (rawInt J.objs.size):=z8;have up:∀c o,c≠z->J.get? c=some o->g8.get? c=some o:=fun c o M e=>s8.extBut _ _ M (s7.extBut _ _ M (Zn _ e));have t8:dN g8 J.objs.size x y:=s8.extBut _ _ (bw zl) (s7.extBut _ _ (bw zl) (Zo _ rfl));have e8:g8.objs.size=J.objs.size+1:=by rw[s8.1,s7.1,bu]
 rw[sz] at z8 t8 e8;refine Zm ⟨_,rfl,Zm ?_⟩;show Q (some (.ref J.objs.size)) _;rw[sz];exact q g8 z8 (up _ _ D.rz r5) (i5.at fun o e=>up _ o D.iz e) (j5.at fun o e=>up _ o D.jz e) t8 e8 fun c o M c2 c3 c4 e=>up c o M (k5 c o M c2 c3 c4 e)
theorem ZeI {u v:Bool}{z p r i j a b:Addr}{k:Nat}{us vs:Array Value}{o1 o2:Value}{Q:PySem.Fin->Shared->Prop}(hn:A.handled=none)(D:ZA z p r i j a b)
  (hz:iF s.heap z p r .none) (hp:dN s.heap p (.ref i) (.ref j)) (hr:dN s.heap r o1 o2) (hi:Vh u s.heap i a k) (hj:Vh v s.heap j b k) (ha:Vg u s.heap a us) (hb:Vg v s.heap b vs) (en:us[k]?=none\/vs[k]?=none)
  (q:∀g e,(∀c o,c≠z->c≠r->c≠i->c≠j->s.heap.get? c=some o->g.get? c=some o)->(∃o,g.get? e=some o/\o.cls=.type "StopIteration")->E (.ref e) {s with heap:=g}) :
  wpAny (model prog w) A (cY.«zip.__next__» ⟨[.ref z],[]⟩) Q E s:=by
 show wpAny _ _ (field (.ref z) 2 >>= _) _ _ s;refine Zl (bP hz rfl (x:=.bool false) rfl ?_);show wpAny _ _ (field (.ref z) 3 >>= _) _ _ s;refine Zl (bP hz rfl (x:=.ref p) rfl ?_);refine Zl (cr hp rfl ?_);show wpAny _ _ (bv (.ref z) >>= _) _ _ s;refine Zl ?_;unfold bv;refine Zl (bP hz rfl (x:=.none) rfl (Zm ?_));rw[if_pos rfl];refine Zl (dJ (Zl (bP hz rfl (x:=.ref r) rfl ?_)));refine Zl (bM hz (by simp) fun g1 z1 O=>?_);replace z1:iF g1 z p r .ellipsis:=z1;refine Zl ?_;simp only[mO,List.zipIdx_nil,jy,jQ];refine Zl (Zl (jb ?_));show wpAny _ _ (a8 (.ref i) >>= _) _ _ _;cases ex:us[k]? with
 |none=>
  refine Zl (UR hn (hi.ext O.extBut D.iz) (ha.ext O.extBut D.az) ex fun g2 e U he=>?_);obtain⟨oe,J,M⟩:=he;have z2:iF g2 z p r .ellipsis:=U _ _ D.iz.symm z1;have Y:e≠z:=fun x=>by
   subst x;rw[z2] at J;cases J;simp at M
  exact bM z2 (by simp) fun g3 _ s3=>q g3 e (fun c o c1 _ c3 _ x=>s3.extBut _ _ c1 (U _ _ c3 (O.extBut _ _ c1 x))) ⟨oe,s3.extBut _ _ Y J,M⟩
 |some x=>
  have ey:vs[k]?=none:=by
   rcases en with h|h
   ·rw[ex] at h;cases h
   ·exact h
  refine Zl (J3 (hi.ext O.extBut D.iz) (ha.ext O.extBut D.az) ex fun g2 i2 U=>Zm ?_);have r2:dN g2 r o1 o2:=U.extBut _ _ D.ri (O.extBut _ _ D.rz hr);refine Zl (cr r2 rfl ?_);refine Zl (iR r2 fun g3 r3 s3=>?_);refine Zl (jY (Zm ?_));refine Zl (Zl (jb ?_));show wpAny _ _ (a8 (.ref j) >>= _) _ _ _;refine Zl (UR hn (((hj.ext O.extBut D.jz).ext U.extBut D.ij.symm).ext s3.extBut D.rj.symm) (((hb.ext O.extBut D.bz).ext U.extBut D.bi).ext s3.extBut D.br) ey fun g4 e s4 he=>?_);obtain⟨oe,J,M⟩:=he;have z4:iF g4 z p r .ellipsis:=s4 _ _ D.jz.symm (s3.extBut _ _ D.rz.symm (U.extBut _ _ D.iz.symm z1));have Y:e≠z:=fun x=>by
   subst x;rw[z4] at J;cases J;simp at M
  exact bM z4 (by simp) fun g5 _ s5=>q g5 e (fun c o c1 c2 c3 c4 x=>s5.extBut _ _ c1 (s4 _ _ c4 (s3.extBut _ _ c2 (U.extBut _ _ c3 (O.extBut _ _ c1 x))))) ⟨oe,s5.extBut _ _ Y J,M⟩
theorem ZfN {u v:Bool}{z p r i j a b:Addr}{k:Nat}{us vs:Array Value}{O U:Value}{Q:Option Value->Shared->Prop}(Y:A.handled=none)(D:ZA z p r i j a b)
  (hz:iF s.heap z p r .none) (hp:dN s.heap p (.ref i) (.ref j)) (hr:dN s.heap r O U) (hi:Vh u s.heap i a k) (hj:Vh v s.heap j b k) (ha:Vg u s.heap a us) (hb:Vg v s.heap b vs) (en:us[k]?=none\/vs[k]?=none)
  (q:∀g,(∀c o,c≠z->c≠r->c≠i->c≠j->s.heap.get? c=some o->g.get? c=some o)->Q none {s with heap:=g}):wpAny (model prog w) A (pyNext (.ref z)) Q E s:=by
 have J:s.TypeIs (.ref z) "zip":=⟨_,hz,rfl⟩;unfold pyNext;refine Zl (dS (bn (name:=cU "__next__") J iq (bx iq J F.entry_zip_next (ZeI Y D hz hp hr hi hj ha hb en fun g e hk he=>?_) (F.args_zip_next_1 _))));obtain⟨o,ho,hc⟩:=he;refine Zl (ik (T:="StopIteration") (b:=true) ⟨o,ho,hc⟩ kQ ?_);exact Zm (q _ hk)
noncomputable def ZdU (b:Bool):String:=match b with
 |true => "tuple_iterator"
 |false => "list_iterator"
theorem Zkg {b:Bool}{a:Addr}{us:Array Value}{Q:Value->Shared->Prop}(h:Vg b s.heap a us)(q:Q (.ref s.heap.objs.size) {s with heap:=s.heap.push {cls:=.type (ZdU b),data:=.fields #[.ref a,.int 0 0]}}):wpAny (model prog w) A (pyIter (.ref a)) Q E s:=by
 cases b
 ·exact fw h q
 ·exact gF h q
noncomputable abbrev zh1 (h:Heap)(u:Bool)(a:Addr):Heap:=h.push {cls:=.type (ZdU u),data:=.fields #[.ref a,.int 0 0]}
noncomputable abbrev zh2 (h:Heap)(u v:Bool)(a b:Addr):Heap:=(zh1 h u a).push {cls:=.type (ZdU v),data:=.fields #[.ref b,.int 0 0]}
noncomputable abbrev zh3 (h:Heap)(u v:Bool)(a b:Addr):Heap:=(zh2 h u v a b).push {cls:=.type "tuple",data:=.seq #[.ref h.objs.size,.ref (zh1 h u a).objs.size]}
noncomputable abbrev zh4 (h:Heap)(u v:Bool)(a b:Addr):Heap:=(zh3 h u v a b).push {cls:=.type "tuple",data:=.seq #[.none,.none]}
noncomputable abbrev zh5 (h:Heap)(u v:Bool)(a b:Addr):Heap:=(zh4 h u v a b).push {cls:=.type "zip",data:=.fields #[.none,.bool false,.bool false,.ref (zh2 h u v a b).objs.size,.ref (zh3 h u v a b).objs.size]}
theorem Vg.push {b:Bool}{h:Heap}{a:Addr}{us:Array Value}(x:Vg b h a us)(o:Obj):Vg b (h.push o) a us:=x.at fun _ e=>Zn _ e
theorem ZfM (u v:Bool)(a b:Addr)(j vs:Array Value) :
  Meets (cY.«zip.__new__» ⟨[.type "zip",.ref a,.ref b],[]⟩) (fun _ R s=>Vg u s.heap a j/\Vg v s.heap b vs/\R (.ok (.ret (.ref (zh4 s.heap u v a b).objs.size))) {s with heap:=zh5 s.heap u v a b}):=
 .of_wp fun prog w A R s h=>by
  obtain⟨q,J,dr,tk,os⟩:=s;obtain⟨M,hb,h⟩:=h;have sub:=sub_zip;have O:Vg u (kA ⟨q,J,dr,tk,os⟩) a j:=M;have U:Vg v (kA ⟨zh1 q u a,J,dr,tk,os⟩) b vs:=Vg.push hb _
  wp_walk using Zkg O,Zkg U
  exact⟨_,rfl,h⟩
theorem Zfx {u v:Bool}{a b:Addr}{us vs:Array Value}{Q:Value->Shared->Prop}(ha:Vg u s.heap a us)(hb:Vg v s.heap b vs)
  (q:∀g,iF g (s.heap.objs.size+4) (s.heap.objs.size+2) (s.heap.objs.size+3) .none->dN g (s.heap.objs.size+2) (.ref s.heap.objs.size) (.ref (s.heap.objs.size+1))->dN g (s.heap.objs.size+3) .none .none->
   Vh u g s.heap.objs.size a 0->Vh v g (s.heap.objs.size+1) b 0->(∀c o,s.heap.get? c=some o->g.get? c=some o)->Q (.ref (s.heap.objs.size+4)) {s with heap:=g}) :
  wpAny (model prog w) A (call (.type "zip") [.ref a,.ref b]) Q E s:=by
 refine callType_new F.called_zip (by decide) (F.typeCall_zip_2 _ _) (F.newCall_zip_2 _ _) (fun obj=>F.args_object_init_3 obj _ _) F.entry_zip_new (ZfM u v a b us vs) ⟨ha,hb,?_⟩;have J:(zh1 s.heap u a).objs.size=s.heap.objs.size+1:=bu ..;have M:(zh2 s.heap u v a b).objs.size=s.heap.objs.size+2:=by rw[bu,J]
 have O:(zh3 s.heap u v a b).objs.size=s.heap.objs.size+3:=by rw[bu,M]
 have Y:(zh4 s.heap u v a b).objs.size=s.heap.objs.size+4:=by rw[bu,O]
 have U:(zh5 s.heap u v a b).get? (zh4 s.heap u v a b).objs.size=some _:=Zo _ rfl;have w4:(zh5 s.heap u v a b).get? (zh3 s.heap u v a b).objs.size=some _:=Zn _ (Zo _ rfl);have w3:(zh5 s.heap u v a b).get? (zh2 s.heap u v a b).objs.size=some _:=Zn _ (Zn _ (Zo _ rfl));have w2:(zh5 s.heap u v a b).get? (zh1 s.heap u a).objs.size=some _:=Zn _ (Zn _ (Zn _ (Zo _ rfl)));have w1:(zh5 s.heap u v a b).get? s.heap.objs.size=some _:=Zn _ (Zn _ (Zn _ (Zn _ (Zo _ rfl))));have it:∀(x:Bool) (g:Heap) (j c:Addr),g.get? j=some {cls:=.type (ZdU x),data:=.fields #[.ref c,.int 0 0]}->Vh x g j c 0:=fun x g j c e=>by
  cases x <;> exact⟨_,e,rfl,rfl⟩
 show _/\_;rw[M,O,Y] at U;rw[J,M] at w3;rw[O] at w4;rw[J] at w2;rw[Y];exact⟨⟨_,U,rfl⟩,q _ U w3 w4 (it u _ _ _ w1) (it v _ _ _ w2) fun c o x=>Zn _ (Zn _ (Zn _ (Zn _ (Zn _ x))))⟩
end
end PyY
namespace L2
open PySem PySem.Spec PyProof.Rows
noncomputable def SqB (b:Bool)(K:ab)(H:Hp)(a:Addr)(xs:List V):Prop:=match b with
 |true=>JF K H a xs
 |false=>Wx K H a xs
theorem SqB.mono {b:Bool}{K:ab}{H j:Hp}{a:Addr}{xs:List V}(h:SqB b K H a xs)(s:Same H j):SqB b K j a xs:=by
 cases b
 ·exact s.seq h
 ·exact s.tup h
theorem SqB.lst {K:ab}{H:Hp}{a:Addr}{xs:List V}(h:Wx K H a xs):SqB false K H a xs:=h
theorem SqB.tup {K:ab}{H:Hp}{a:Addr}{xs:List V}(h:JF K H a xs):SqB true K H a xs:=h
section
variable {X:Cx}{pins:List (Addr×Obj)}{σ:St}{H:Hp}{s:Shared}
theorem Inv.sqB {b:Bool}{a:Addr}{xs:List V}(I:Inv X pins σ H s)(h:SqB b X.K H a xs):∃j,ZK xs j/\PyY.Vg b s.heap a j.toArray:=by
 cases b
 ·obtain⟨j,q,p,_⟩:=I.list h
  exact⟨j,q,p.isList⟩
 ·obtain⟨j,q,p,_⟩:=I.tuple h
  exact⟨j,q,p⟩
theorem Inv.sqB_inj {b:Bool}{a:Addr}{xs ys:List V}(I:Inv X pins σ H s)(h:SqB b X.K H a xs)(h':SqB b X.K H a ys):xs=ys:=by
 cases b
 ·exact I.list_inj h h'
 ·exact I.tuple_inj h h'
end
noncomputable def Itz (K:ab)(u v:Bool)(a b:Addr):It:=
  ⟨fun i H=>∃j q x y,SqB u K H a j/\SqB v K H b q/\j[i]?=some x/\q[i]?=some y,
   fun i H x O=>∃T J M,x=.ref T/\H T=none/\O=upd H T (.tup [J,M])/\(∀j,SqB u K H a j->j[i]?=some J)/\∀q,SqB v K H b q->q[i]?=some M,
   fun i H=>∃j q,SqB u K H a j/\SqB v K H b q/\(j.length<=i\/q.length<=i)⟩
theorem ZfS {P:Program}{w:World}{K:ab}{elts:List Expr}{x1}{pos:Pos}(u v:Bool)(a b z p r i j:Addr)(D:PyY.ZA z p r i j a b) :
  UD P w K (.Tuple elts x1 pos) (Itz K u v a b) [z,p,r,i,j] z (fun k h=>iF h z p r .none/\dN h p (.ref i) (.ref j)/\(∃o1 o2,dN h r o1 o2)/\PyY.Vh u h i a k/\PyY.Vh v h j b k) where
 mem:=by simp
 obj:=fun k h st c hc=>by
  obtain⟨O,M,⟨o1,o2,U⟩,hi,Y⟩:=st;simp only[aG,db,or_false] at hc;rcases hc with rfl|rfl|rfl|rfl|rfl
  ·exact⟨_,O,fun v z=>by
    have z':gm _=fU v:=z;cases z'⟩
  ·exact⟨_,M,fun v z=>by
    have z':Data.seq _ _=fU v:=z;cases z'⟩
  ·exact⟨_,U,fun v z=>by
    have z':Data.seq _ _=fU v:=z;cases z'⟩
  ·exact hi.obj
  ·exact Y.obj
 keep:=fun k h h' st kk=>by
  obtain⟨O,M,⟨o1,o2,U⟩,hi,Y⟩:=st;exact⟨kk z (by simp) _ O,kk p (by simp) _ M,⟨o1,o2,kk r (by simp) _ U⟩,hi.at fun o q=>kk i (by simp) o q,Y.at fun o q=>kk j (by simp) o q⟩
 item:=by
  intro X hP hw hK hc k n4 s σ H E I hf st hg;subst hP hw hK;obtain⟨O,M,⟨o1,o2,U⟩,hi,Y⟩:=st;obtain⟨xs,ys,x,y,hA,hB,hx,hy⟩:=hg;obtain⟨n6,rv,pa⟩:=I.sqB hA;obtain⟨n8,m8,pb⟩:=I.sqB hB;obtain⟨ux,n9,o0⟩:=rv.get hx;obtain⟨uy,o5,o6⟩:=m8.get hy;refine PyY.ZeJ D O M U hi Y pa pb (x:=ux) (y:=uy) (by simpa using n9) (by simpa using o5) fun h1 z1 r1 i1 j1 t1 o7 k1=>?_;refine⟨_,rfl,wpAny_letOwnedTupleGo_zip z1 fun h2 z2 s2=>?_⟩;have lt:∀c∈[z,p,r,i,j],c<s.heap.objs.size:=fun c J=>by
   simp only[aG,db,or_false] at J;rcases J with rfl|rfl|rfl|rfl|rfl
   ·exact Zp O
   ·exact Zp M
   ·exact Zp U
   ·obtain⟨o,e,_⟩:=hi.obj;exact Zp e
   ·obtain⟨o,e,_⟩:=Y.obj;exact Zp e
  have s3:be z h1 h2:=s2;have t2:dN h2 s.heap.objs.size ux uy:=(s3.2 _ (bw (lt z (by simp)))).trans t1;have nT:H s.heap.objs.size=none:=I.hok.fresh (Zq _);have p2:dN h2 p (.ref i) (.ref j):=(s3.2 _ D.pz).trans (k1 _ _ D.pz D.pr D.pi D.pj M);have r2:dN h2 r ux uy:=(s3.2 _ D.rz).trans r1;have i2:=i1.ext s3.extBut D.iz;have j2:=j1.ext s3.extBut D.jz;have I2:=I.turnLay (t':=s.toks) (h':=h2) (ts:=[z,p,r,i,j]) (T:=s.heap.objs.size) (o:=.tup [x,y]) (fun c o J q=>?_) (fun c J=>?_) hf (Zq _) ⟨by show 2<=sizeLine;decide,[ux,uy],.cons o0 (.cons o6 .nil),_,t2,rfl,0,rfl⟩
  ·refine⟨.ref s.heap.objs.size,_,I2,rfl,⟨_,x,y,rfl,nT,rfl,fun zs m9=>by rw[I.sqB_inj m9 hA];exact hx,fun zs m9=>by rw[I.sqB_inj m9 hB];exact hy⟩,⟨z2,p2,⟨_,_,r2⟩,i2,j2⟩,fun c J=>?_⟩
   rw[Zx (ax (lt c J))];exact (hf c J).1
  ·have q1:c≠z:=fun e=>J (by simp[e])
   have q2:c≠r:=fun e=>J (by simp[e]);have q3:c≠i:=fun e=>J (by simp[e]);have q4:c≠j:=fun e=>J (by simp[e]);exact (s3.2 c q1).trans (k1 c o q1 q2 q3 q4 q)
  ·simp only[aG,db,or_false] at J
   rcases J with rfl|rfl|rfl|rfl|rfl
   ·exact⟨_,z2⟩
   ·exact⟨_,p2⟩
   ·exact⟨_,r2⟩
   ·obtain⟨o,e,_⟩:=i2.obj;exact⟨o,e⟩
   ·obtain⟨o,e,_⟩:=j2.obj;exact⟨o,e⟩
 done:=by
  intro X hP hw hK hc k n4 s σ H E I hf st hg;subst hP hw hK;obtain⟨O,M,⟨o1,o2,U⟩,hi,Y⟩:=st;obtain⟨xs,ys,hA,hB,hl⟩:=hg;obtain⟨n6,rv,pa⟩:=I.sqB hA;obtain⟨n8,m8,pb⟩:=I.sqB hB;have l1:=rv.length;have l2:=m8.length;refine PyY.ZfN (I.ok.hd hc) D O M U hi Y pa pb ?_ fun h1 k1=>⟨rfl,I.turnedL (t':=s.toks) (ts:=[z,p,r,i,j]) (fun c o J q=>?_) hf⟩
  ·rcases hl with h|h
   ·exact .inl (by simp;omega)
   ·exact .inr (by simp;omega)
  ·exact k1 c o (fun e=>J (by simp[e])) (fun e=>J (by simp[e])) (fun e=>J (by simp[e])) (fun e=>J (by simp[e])) q
 self:=fun _ _ _ _ _ st h=>wpAny_pyIter_zip st.1 h
structure Zct (J:It)(At:Hp->Prop)(ps:List (V×V)):Prop where
 go:∀i H,At H->i<ps.length->J.go i H
 yld:∀i H x H2,At H->J.yld i H x H2->∃T y z,x=.ref T/\H T=none/\H2=upd H T (.tup [y,z])/\ps[i]?=some (y,z)
 stop:∀i H,At H->ps.length<=i->J.stop i H
theorem ZmA {K:ab}{u v:Bool}{a b:Addr}{xs ys:List V}:Zct (Itz K u v a b) (fun H=>SqB u K H a xs/\SqB v K H b ys) (xs.zip ys) where
 go:=fun i H h j=>by
  rw[cC] at j;exact⟨xs,ys,xs[i]'(by omega),ys[i]'(by omega),h.1,h.2,by simp,by simp⟩
 yld:=fun i H x Y h q=>by
  obtain⟨T,y,z,e,J,M,O,U⟩:=q;refine⟨T,y,z,e,J,M,?_⟩;rw[bo];exact⟨O xs h.1,U ys h.2⟩
 stop:=fun i H h j=>by
  rw[cC] at j;exact⟨xs,ys,h.1,h.2,by omega⟩
noncomputable def Zni (K:ab)(ta:TA):TI:=fun σ H R=>ta σ H fun vs q=>∃a b u v M O j,vs=[.ref a,.ref b]/\SqB u K j a M/\SqB v K j b O/\Same j q/\∀J U,Zct J U (M.zip O)->(∀Y,Same j Y->U Y)->R J q
theorem Zon {X:Cx}{elts:List Expr}{x1}{pt:Pos}{l m:Expr}{ta:TA}{p pos:Pos}(hm:X.mg "zip"=none)(ha:PA X [l,m] ta)(hg:Y1 X.env.scope "zip"=true:=by kernel_rfl)(hs:starEach [l,m] X.env=(false,eval l X.env)::starEach [m] X.env:=by rfl)(O:(backTo pos (starEach [m] X.env)).any (·.1)=false:=by rfl) :
  PI X (.Tuple elts x1 pt) (.Call (.Name "zip" p) [l,m] [] pos) (Zni X.K ta):=by
 intro j s σ H R I h;refine Call_ (Jk I (JZ hg) hm (show bootBuiltins "zip"=some (.type "zip") by kernel_rfl) (bq (Yg (ha pos j s σ H _ I h) fun us s1 ⟨vs,H1,J,r1,q1⟩=>?_) hs O));obtain⟨a,b,u,v,xs,ys,Hx,e,hA,hB,sm,q⟩:=q1;subst e;cases r1 with
 |cons r U=>
  cases U with
  |cons r' U=>
   cases U;cases (show _=aR a from r);cases (show _=aR b from r');obtain⟨m8,rv,Y⟩:=J.sqB (hA.mono sm);obtain⟨m9,n4,pb⟩:=J.sqB (hB.mono sm);have la:a<s1.heap.objs.size:=by
    cases u
    ·obtain⟨o,e,_⟩:=(show s1.heap.IsList a _ from Y);exact Zp e
    ·obtain⟨o,e,_⟩:=(show s1.heap.IsTuple a _ from Y);exact Zp e
   have lb:b<s1.heap.objs.size:=by
    cases v
    ·obtain⟨o,e,_⟩:=(show s1.heap.IsList b _ from pb);exact Zp e
    ·obtain⟨o,e,_⟩:=(show s1.heap.IsTuple b _ from pb);exact Zp e
   have nn:∀{c d:Nat},c<d->(c:Addr)≠d:=fun h=>ax h;have D:PyY.ZA (s1.heap.objs.size+4) (s1.heap.objs.size+2) (s1.heap.objs.size+3) s1.heap.objs.size (s1.heap.objs.size+1) a b:=by
    have n6:(a:Nat)<s1.heap.objs.size:=la;have n8:(b:Nat)<s1.heap.objs.size:=lb;constructor <;> first|exact ax (aE la (eK _ _))|exact ax (aE lb (eK _ _))|exact ax la|exact ax lb|exact ax (by omega)|exact bw (by omega)
   refine PyY.Zfx Y pb fun g gz gp gr gi gj gk=>wpAny_pyIter_zip gz ?_;have sz:∀c∈[s1.heap.objs.size+4,s1.heap.objs.size+2,s1.heap.objs.size+3,s1.heap.objs.size,s1.heap.objs.size+1],s1.heap.objs.size<=c:=fun c M=>by
    simp only[aG,db,or_false] at M;rcases M with rfl|rfl|rfl|rfl|rfl
    ·exact eK _ _
    ·exact eK _ _
    ·exact eK _ _
    ·exact Zq _
    ·exact eK _ _
   exact⟨_,[s1.heap.objs.size+4,s1.heap.objs.size+2,s1.heap.objs.size+3,s1.heap.objs.size,s1.heap.objs.size+1],_,_,H1,rfl,J.kept (t':=s1.toks) gk,ZfS u v a b _ _ _ _ _ D,⟨gz,gp,⟨_,_,gr⟩,gi,gj⟩,fun c M=>J.fpOk (sz c M) (J.hok.fresh (sz c M)),q _ _ ZmA fun H' s'=>⟨hA.mono s',hB.mono s'⟩⟩
theorem ZeK (K:ab){X:Cx}{elts:List Expr}{J}{pt:Pos}{l m:Expr}{q:TA}{p pos:Pos}(M:X.mg "zip"=none)(O:PA X [l,m] q)(U:X.K=K:=by rfl)(Y:Y1 X.env.scope "zip"=true:=by kernel_rfl)(hs:starEach [l,m] X.env=(false,eval l X.env)::starEach [m] X.env:=by rfl)(j:(backTo pos (starEach [m] X.env)).any (·.1)=false:=by rfl) :
  PI X (.Tuple elts J pt) (.Call (.Name "zip" p) [l,m] [] pos) (Zni K q):=U▸Zon M O Y hs j
theorem ZhS {K:ab}{J:It}{At:Hp->Prop}{own:List Str}{M:List Nat}{te:TE}{σ:St}{H Hx:Hp}{Q:VK}{q:List (V×V)}(S:Zct J At q)(n6:∀j,Same Hx j->At j)(sx:Same Hx H)(O:St)(n8:Jp own M σ=none::none::O)(f:V->V->V)(hz:q.length<=1000000)
  (hs:∀(i:Nat) x y j,q[i]?=some (x,y)->Same H j->∀R:VK,(∀U,Same j U->R (f x y) U)->te (some x::some y::O) j R)
  (hd:∀D j,H D=none->Same H j->j D=some (.lst (q.map fun p=>f p.1 p.2))->Q (.ref D) j):WT own M (Zhy K 2 (Xx (Yn 0) (Xx (Yn 1) Zhz))) Wo te σ Q J H:=by
 intro D hD;refine⟨fun i m m8 j=>m=q.length-i/\i<=q.length/\(∃v0 v1,m8=v0::v1::O)/\Same H j/\j D=some (.lst ((q.take i).map fun p=>f p.1 p.2)),⟨_,rfl,aZ _,⟨none,none,n8⟩,Same.upd hD,by rw[Zt,fY];rfl⟩,?_⟩;rintro i m m8 j ⟨rfl,hi,⟨v0,v1,rfl⟩,s,hl⟩;have Y:=n6 j (sx.trans s);by_cases m9:i<q.length
 ·refine .inr ⟨S.go i j Y m9,fun n4 H2=>(∃v0 v1,n4=v0::v1::O)/\Same H H2/\H2 D=some (.lst ((q.take (i+1)).map fun p=>f p.1 p.2)),fun n4 H2 z=>⟨q.length-(i+1),by omega,rfl,m9,z.1,z.2.1,z.2.2⟩,fun x H2 hy=>?_⟩
  obtain⟨T,y,z,rfl,hT,rfl,hx⟩:=S.yld i j x H2 Y hy;have ht:q.take (i+1)=q.take i++[(y,z)]:=by rw[cR,hx];rfl
  refine⟨T,_,rfl,.of Zt,rfl,_,_,rfl,_,_,rfl,rfl,?_⟩;refine tT (A:=fun H4=>te (some y::some z::O) H4 fun v U=>∃xs,U D=some (.lst xs)/\xs.length<sizeLine/\(∃v0 v1,(some y::some z::O:St)=v0::v1::O)/\Same H (upd U D (.lst (xs++[v])))/\(upd U D (.lst (xs++[v]))) D=some (.lst ((q.take (i+1)).map fun p=>f p.1 p.2))) ?_;refine hs i y z _ hx (s.trans (Same.upd hT)) _ fun U s5=>⟨_,s5 _ _ (Same.upd hT _ _ hl),?_,⟨_,_,rfl⟩,((s.trans (Same.upd hT)).trans s5).updr hD,?_⟩
  ·rw[Za,b9]
   have:(16777216:Nat)=sizeLine:=by decide
   omega
  ·rw[Zt,ht,aT]
   rfl
 ·have e:i=q.length:=by omega
  subst e;refine .inl ⟨S.stop _ j Y (Zq _),hd D j hD s ?_⟩;rw[hl,c7]
end L2
namespace C40
open PySem L2 PySem.Spec PyProof.Rows
open Tb Pm
noncomputable abbrev Zgo:Stmt:=top 25
noncomputable abbrev Zj2:Stmt:=top 26
noncomputable abbrev Zj1:Stmt:=top 27
noncomputable def ZD (m:Nat)(v:Nat->Int):List V:=(ac m).map fun c=>V.int (v c)
theorem ZY (m:Nat)(v:Nat->Int):(ZD m v).length=m:=by unfold ZD;rw[Za,Zg]
theorem Yy {m c:Nat}(v:Nat->Int)(h:c<m):(ZD m v)[c]?=some (V.int (v c)):=by
 unfold ZD;rw[Zc,ak h];rfl
theorem YO {m:Nat}{v u:Nat->Int}(h:∀c,c<m->v c=u c):ZD m v=ZD m u:=by
 unfold ZD;exact a9 fun c j=>by rw[h c (ae.mp j)]
theorem WK (m:Nat)(v:Nat->Int):ZD m v=((ac m).map v).map V.int:=by
 unfold ZD;rw[aU];rfl
theorem Zbb (m:Nat)(v:Nat->Int):ZD (m+1) v=ZD m v++[V.int (v m)]:=by
 unfold ZD;rw[dF,aT];rfl
theorem Vm (m:Nat)(v:Nat->Int):((ac m).map v).any (· != 0)=true↔∃c,c<m/\v c≠0:=by
 rw[bd];constructor
 ·rintro⟨x,q,h⟩
  obtain⟨c,j,rfl⟩:=aI.mp q;exact⟨c,ae.mp j,by simpa using h⟩
 ·rintro⟨c,j,h⟩
  exact⟨v c,aI.mpr ⟨c,ae.mpr j,rfl⟩,by simpa using h⟩
noncomputable def fI2 (g:Int->Int->Int):V->V->V:=fun x y=>match x,y with
 | .int a,.int b=>.int (g a b)
 |_,_=>.non
theorem Zdt {m:Nat}{v u:Nat->Int}:(ZD m v).zip (ZD m u)=(ac m).map fun c=>(V.int (v c),V.int (u c)):=by
 unfold ZD;rw[List.zip_map']
theorem XW {K:ab}{J:It}{At:Hp->Prop}{own:List Str}{M:List Nat}{te:TE}{σ:L2.St}{H Hx:Hp}{Q:VK}{m:Nat}{v u:Nat->Int}(S:Zct J At ((ZD m v).zip (ZD m u)))(O:∀j,Same Hx j->At j)(sx:Same Hx H)(U:L2.St)(Y:Jp own M σ=none::none::U)(g:Int->Int->Int)(hz:m<=1000)
  (hs:∀(i:Nat) j,i<m->Same H j->∀R:VK,R (.int (g (v i) (u i))) j->te (some (.int (v i))::some (.int (u i))::U) j R)
  (hd:∀D j,H D=none->Same H j->j D=some (.lst (ZD m fun i=>g (v i) (u i)))->Q (.ref D) j):WT own M (Zhy K 2 (Xx (Yn 0) (Xx (Yn 1) Zhz))) Wo te σ Q J H:=by
 refine ZhS S O sx U Y (fI2 g) (by rw[cC,ZY,ZY];omega) (fun i x y j q s R gg=>?_) (fun D j nD s hD=>hd D j nD s ?_)
 ·rw[Zdt] at q
  have hi:i<m:=by
   have:=(aa.mp q).1;rw[Za,Zg] at this;exact this
  rw[Zc,ak hi] at q;cases q;exact hs i j hi s R (gg j (Same.refl _))
 ·rw[hD,Zdt,aU]
  rfl
noncomputable def LLs (H:Hp)(a:Addr)(m:Nat)(F:Nat->Nat->Int):Prop:=∃cs:List Addr,H a=some (.lst (cs.map V.ref))/\cs.length=m/\∀(c:Nat) b,cs[c]?=some b->H b=some (.lst (ZD m (F c)))
theorem LLs.mono {H j:Hp}{a:Addr}{m:Nat}{F:Nat->Nat->Int}(h:LLs H a m F)(s:Same H j):LLs j a m F:=by
 obtain⟨q,J,M,O⟩:=h;exact⟨q,s _ _ J,M,fun c b hb=>s _ _ (O c b hb)⟩
noncomputable def V1 (m p:Nat)(F:Nat->Nat->Int)(v:Nat->Int)(k:Int)(c:Nat):Int:=(Yr m (fun j=>v j*F c j)-k*v c) % (p:Int)
structure Zh4 (m p:Nat)(v:Nat->Int):Prop where
 ge:∀c,c<m->0<=v c
 lt:∀c,c<m->v c<(p:Int)
noncomputable def Zf5:Sp:=fun M H Q _=>∃(q J:Addr) (m k p:Nat) (F:Nat->Nat->Int) (v:Nat->Int),M=[.ref q,.ref J,.int k,.int p]/\LLs H q m F/\H J=some (.lst (ZD m v))/\2<=p/\p<=100000/\m<=60/\k<=100000/\Zh4 m p v/\∀L j,H L=none->Same H j->j L=some (.lst (ZD m (V1 m p F v k)))->Q (.ref L) j
section
variable {P:Program}{w:World}{K:ab}{mg:Str->Option Value}{base:Heap}
theorem Zjr {J:It}{g:TG}{tb:TS}{D:J8}{σ:L2.St}{H:Hp}{At:Hp->Prop}{j:List (V×V)}(S:Zct J At j)(Pv:Nat->L2.St->Hp->Prop)(h0:Pv 0 σ H)(hS:∀i σ H,Pv i σ H->At H)
  (hs:∀(i:Nat) y z σ H T,j[i]?=some (y,z)->Pv i σ H->H T=none->g (.ref T) σ (upd H T (.tup [y,z])) fun M Y=>tb {D with nx:=Pv (i+1),ct:=Pv (i+1),bk:=D.nx} M Y) (hd:∀ σ H,Pv j.length σ H->D.nx σ H) :
  ∃W:Nat->Nat->L2.St->Hp->Prop,(∃m,W 0 m σ H)/\∀i m σ H,W i m σ H->
   (J.stop i H/\D.nx σ H)\/(J.go i H/\∃N:L2.St->Hp->Prop,(∀ O q,N O q->∃m',m'<m/\W (i+1) m' O q)/\∀x q,J.yld i H x q->g x σ q fun M Y=>tb {D with nx:=N,ct:=N,bk:=D.nx} M Y):=by
 refine⟨fun i m σ H=>m=j.length-i/\i<=j.length/\Pv i σ H,⟨_,rfl,aZ _,h0⟩,?_⟩;rintro i m σ H ⟨rfl,hi,p⟩;have s:=hS i σ H p;by_cases U:i<j.length
 ·refine .inr ⟨S.go i H s U,Pv (i+1),fun O q p'=>⟨j.length-(i+1),by omega,rfl,U,p'⟩,fun x q hy=>?_⟩
  obtain⟨T,y,z,rfl,hT,rfl,hx⟩:=S.yld i H x q s hy;exact hs i y z σ H T hx p hT
 ·have e:i=j.length:=by omega
  subst e;exact .inl ⟨S.stop _ H s (Zq _),hd σ H p⟩
theorem ZiX {f:Addr}{fd:FuncData}(F:WB K "less_often" "less_often" Zj1 f fd)(T5:BlT mg):Z5 P w K mg base Yd 1 f fd ["columns", "one", "k", "p"] Zf5:=by
 refine F.ok (FS (N:=["columns", "one", "k", "p", "found", "column", "x"])) (fun vs H Q E h=>?_) (fun n6 A m8 s H vs Q E hr h=>?_)
 ·obtain⟨ca,oa,m,k,p,G,v,rfl,_⟩:=h;rfl
 ·obtain⟨ca,oa,m,k,p,G,v,rfl,hC,hO,p2,pl,n8,kl,vo,q⟩:=h
  refine⟨_,Zs (ZE 4 rfl (ZS Zu))
   (Zs (ZR ao rfl (ZeK K T5.zip (pc (vn 0) (pc (vn 1) Zu))) (g2 K 5 6 rfl (gn 5) (gn 6))
    (Zv (Ya (Y6 aH aM aO ZV (vn 4)
     (pc (Zz Z3 (Zz Wh (cb (sumK K rfl) T5.sum (pc (cmp ["y", "often"] [] ["y", "often"] rfl (ZeK K T5.zip (pc (vn 1) (pc (vn 5) Zu))) (fun _ _ _ _ _=>g2 K 0 1 rfl (gn 0) (gn 1)) (fun _ _ _ _ _=>ZP)
      (fun _ _ _ _ _=>Zz ZQ (vn 0) (vn 1))) Zu)) (Zz ZQ (vn 2) (vn 6))) (vn 3)) Zu)))))
   (Zv (ZG (vn 4)))),?_⟩
  have sz:(16777216:Nat)=sizeLine:=by decide
  obtain⟨cs,c1,c2,c3⟩:=id hC;refine⟨(by show 0<=sizeLine;decide),fun L nL=>?_⟩;have s0:=Same.upd (H:=H) (o:=.lst []) nL;have h0:upd H L (.lst []) L=some (.lst (ZD 0 (V1 m p G v k))):=Zt;generalize upd H L (.lst [])=H0 at s0 h0 ⊢;refine⟨_,rfl,_,rfl,ca,oa,false,false,_,_,H,rfl,.lst (.of c1),.lst (.of hO),s0,fun J At S m9=>?_⟩;have n4:((cs.map V.ref).zip (ZD m v)).length=m:=by rw[cC,Za,ZY,c2];omega
  refine Zjr S (fun i M H'=>∃(v5 v6:Option V),M=[some (.ref ca),some (.ref oa),some (.int (k:Nat)),some (.int (p:Nat)),some (.ref L),v5,v6]/\Same H H'/\H' L=some (.lst (ZD i (V1 m p G v k))))
   ⟨_,_,rfl,s0,h0⟩ (fun i M H' h=>?_) ?_ ?_
  ·obtain⟨_,_,_,sm,_⟩:=h
   exact m9 H' sm
  ·rintro i y z M H1 T' U ⟨v5,v6,rfl,s1,h1⟩ nT
   have hi:i<m:=by
    have:=(aa.mp U).1;omega
   rw[bo,Yy v hi,Zc,Zf (by omega)] at U;obtain⟨e1,e2⟩:=U;cases e1;cases e2;have hb:=c3 i (cs[i]'(by omega)) (Zf (by omega));generalize cs[i]'(by omega)=b at hb ⊢;have s2:=Same.upd (H:=H1) (o:=.tup [.ref b,.int (v i)]) nT;refine⟨T',_,rfl,.of Zt,rfl,_,_,rfl,_,_,rfl,rfl,?_⟩;have O:=s1.trans s2;have h2:=s2 _ _ h1;generalize upd H1 T' (.tup [.ref b,.int (v i)])=H2 at O h2 ⊢;refine⟨_,rfl,.inl ⟨rfl,_,.of h2⟩,_,rfl,_,rfl,oa,b,false,false,_,_,H,rfl,.lst (.of hO),.lst (.of hb),O,fun J' n9 S' Y=>?_⟩;refine XW S' Y O [] rfl (fun x y=>x*y) (by omega) (fun j H3 hj s3 R g=>?_) (fun D H3 nD s3 hD=>?_)
   ·have a1:=vo.ge j hj
    have a2:=vo.lt j hj;exact⟨_,rfl,_,rfl,_,_,rfl,rfl,.inl ⟨by omega,by omega⟩,g⟩
   ·rw[WK] at hD
    refine⟨D,_,rfl,.of hD,_,rfl,_,rfl,_,_,rfl,rfl,.inl ⟨by omega,by omega⟩,_,_,rfl,rfl,_,rfl,_,_,rfl,rfl,(by show (0:Int)<(p:Int);omega),L,_,_,rfl,rfl,s3 _ _ h2,by rw[ZY];omega,?_⟩;have e5:ZD i (V1 m p G v k)++[V.int ((((ac m).map fun j=>v j*G i j).sum-(k:Int)*v i) % (p:Int))]=ZD (i+1) (V1 m p G v k):=by
     rw[Zbb];rfl
    rw[e5];exact⟨_,_,rfl,(O.trans s3).updr nL,Zt⟩
  ·rintro M H1 ⟨v5,v6,rfl,s1,h1⟩
   rw[n4] at h1;exact⟨_,rfl,q L H1 nL s1 h1⟩
end
noncomputable def Vk (t:List (List Nat))(i c j:Nat):Int:=(UC t (YC t) i j (ZB t c):Nat)
noncomputable def gW (t:List (List Nat))(j:Nat->Nat->Nat)(i s:Nat):Nat:=j s (ZB t i)
section
variable {t:List (List Nat)}{p m:Nat}{e ω φ:Nat->Nat->Nat}
theorem ZjQ (C:CD t p m e ω φ)(α:Nat->Int):Zh4 m p (Vc t p m e α):=
 ⟨fun c _=>cD _ C.p0,fun c _=>bZ _ (by have:=C.pr.p2;omega)⟩
theorem Zen (C:CD t p m e ω φ)(j:PW t){i:Nat}(q:i<m)(S:Nat->Bool)(k:Nat):ZD m (V1 m p (Vk t i) (Vc t p m e (lpA S (gW t ω i) k)) (k:Int))=ZD m (Vc t p m e (lpA S (gW t ω i) (k+1))):=by
 refine YO fun c J=>?_;unfold V1 Vk;rw[ZjH C j q J,<-Zjf];rfl
theorem Zkn (C:CD t p m e ω φ)(j:PW t){i:Nat}(J:i<m):∀s,s<m->gW t ω i s<p:=fun s q=>C.wlt s _ q ((Yw j).rl i (by have:=C.mc;omega))
theorem Zjs (C:CD t p m e ω φ){M:Nat}(O:M<p):∃y:Nat,1<=y/\y<p/\(y:Int)*fcI p M % (p:Int)=1:=by
 have U:=C.pr.p2;obtain⟨j,q⟩:=Zko U M;have J:=ZhC C.pr O (Zq M);rw[<-ZhE,ft j q] at J;obtain⟨a,Y⟩:=bQ j;rw[Y] at J q ⊢;obtain⟨b,b1,b2,b3⟩:=C.pr.iv a (by omega) (by omega);exact⟨b,b1,b2,by rw[<-aK,<-aY,b3];rfl⟩
end
noncomputable def Zf6:Sp:=fun U H Q _=>∃(J O:Addr) (t:List (List Nat)) (p m:Nat) (e j Y:Nat->Nat->Nat) (S:Nat->Bool) (i:Nat),U=[.ref J,.ref O,.int p]/\CD t p m e j Y/\PW t/\i<m/\p<=100000/\LLs H J m (Vk t i)/\H O=some (.lst (ZD m (Vc t p m e (JU S))))/\(∃s,s<m/\S s=true)/\
 ∀L M q,H L=none->Same H q->(∃s,s<m/\S s=true/\gW t j i s=M)->(∀s,s<m->S s=true->gW t j i s<=M)->q L=some (.lst (ZD m (Vc t p m e (JU (JS S (gW t j i) M)))))->Q (.ref L) q
section
variable {P:Program}{w:World}{K:ab}{mg:Str->Option Value}{base:Heap}
theorem ZhZ {t:List (List Nat)}{p m:Nat}{e j q:Nat->Nat->Nat}(C:CD t p m e j q)(J:PW t):m<=60:=by
 have M:=C.mc;have O:=Wc (t:=t) t.length;have U:=J.n60;omega
theorem ZiZ {f:Addr}{fd:FuncData}(F:WB K "last_part" "last_part" Zj2 f fd)(T:Bl mg)(GL:Fn P w K mg base Yd 1 "less_often" ["columns", "one", "k", "p"] Zf5)(GB:Fn P w K mg base Yd 1 "back_by" ["p", "x"] Jq):Z5 P w K mg base Yd 2 f fd ["columns", "one", "p"] Zf6:=by
 refine F.ok (FS (N:=["columns", "one", "p", "k", "factor", "left", "after", "undo"])) (fun vs H Q E h=>?_) (fun o7 A o5 s H vs Q E hr h=>?_)
 ·obtain⟨ca,oa,t,p,m,e,U,φ,S,i,rfl,_⟩:=h;rfl
 ·obtain⟨ca,oa,t,p,m,e,U,φ,S,i,rfl,C,Pt,hi,pl,hC,hO,hS,q⟩:=h
  refine⟨_,Zs (ZE 3 rfl Zw)
   (Zs (ZE 4 rfl Zw)
   (Zs (ZE 5 rfl (vn 1))
   (Zs (ZE 6 rfl (Wd GL hr ZL (pc (vn 0) (pc (vn 5) (pc (vn 3) (pc (vn 2) Zu))))))
   (Zs (Z9 ao (ZaG (cb (ZnK K rfl) T.any (pc (vn 6) Zu)))
    (Zs (ZE 5 rfl (vn 6))
    (Zs (Jt (i:=3) (Z0 (by kernel_rfl)) rfl (YL (by kernel_rfl)) Zw W2 (.inl rfl))
    (Zs (ZE 4 rfl (Zz Z3 (Zz ZQ (vn 4) (vn 3)) (vn 2)))
    (Zv (ZE 6 rfl (Wd GL hr ZL (pc (vn 0) (pc (vn 5) (pc (vn 3) (pc (vn 2) Zu)))))))))))
   (Zs (ZE 7 rfl (Wd GB hr ZL (pc (vn 2) (pc (vn 4) Zu))))
   (Zv (ZG (cmp ["x"] [7,2] ["x", "undo", "p"] rfl (itL K (vn 5)) (fun _ _ _ _ _=>gn 0) (fun _ _ _ _ _=>ZP) (fun _ _ _ _ _=>Zz Z3 (Zz ZQ (vn 0) (vn 1)) (vn 2)))))))))),?_⟩
  have p2:=C.pr.p2;have m9:=ZhZ C Pt;obtain⟨M,Y,m8⟩:=Zlo (g:=gW t U i) hS;have n4:=Zkn C Pt hi;have Mp:M<p:=by obtain⟨s',o6,_,e'⟩:=Y;rw[<-e'];exact n4 s' o6
  have any:=Zlr C Pt n4 Y m8;have n6:H oa=some (.lst (ZD m (Vc t p m e (lpA S (gW t U i) 0)))):=by rw[Zje];exact hO
  refine⟨_,rfl,_,rfl,_,rfl,_,rfl,_,rfl,ca,oa,m,0,p,Vk t i,_,rfl,hC,n6,p2,pl,m9,by omega,ZjQ C _,fun L1 H1 o8 s1 h1=>?_⟩;rw[Zen C Pt hi] at h1;refine Z6 (fun x j J=>∃(k:Nat) (l a:Addr),j=[some (.ref ca),some (.ref oa),some (.int (p:Nat)),some (.int (k:Nat)),some (.int (fcI p k)),some (.ref l),some (.ref a),none]/\Same H J/\J l=some (.lst (ZD m (Vc t p m e (lpA S (gW t U i) k))))/\J a=some (.lst (ZD m (Vc t p m e (lpA S (gW t U i) (k+1)))))/\k<=M/\x=M-k)
   (fun j J=>∃(l a:Addr),j=[some (.ref ca),some (.ref oa),some (.int (p:Nat)),some (.int (M:Nat)),some (.int (fcI p M)),some (.ref l),some (.ref a),none]/\Same H J/\J l=some (.lst (ZD m (Vc t p m e (lpA S (gW t U i) M))))) ?hend ⟨M,0,oa,L1,rfl,s1,s1 _ _ n6,h1,aZ _,rfl⟩ ?turn
  case hend=>
   rintro j J ⟨l,a,rfl,sm,hl⟩;obtain⟨y0,y1,y2,y3⟩:=Zjs C Mp;refine⟨_,rfl,_,rfl,p,_,rfl,p2,pl,⟨y0,y1,y2,y3⟩,fun y a1 a2 a3=>?_⟩;refine⟨_,rfl,l,rfl,⟨_,.of hl⟩,?_⟩;refine WR (Yz (K:=K) (.of hl)) [some (.int (y:Nat)),some (.int (p:Nat))] rfl (fun c=>V.int (Vc t p m e (JU (JS S (gW t U i) M)) c)) (by rw[ZY];omega) (fun c z hz H2 s2 R k2=>?_) (fun D H2 nD s2 hD=>?_)
   ·have hc:c<m:=by
     have:=(aa.mp hz).1;rw[ZY] at this;exact this
    rw[Yy _ hc] at hz;cases hz;refine⟨_,rfl,_,rfl,_,_,rfl,rfl,.inr ⟨by omega,by omega⟩,_,rfl,_,_,rfl,rfl,(by show (0:Int)<(p:Int);omega),?_⟩;have n8:=k2 H2 (Same.refl _);rw[<-Zlq C m8 a3 c] at n8;exact n8
   ·rw[ZY] at hD
    exact q D M H2 (sm.free nD) (sm.trans s2) Y m8 hD
  case turn=>
   rintro O x j J ⟨k,l,a,rfl,sm,hl,ha,kM,rfl⟩;have n9:=ha;rw[WK] at n9;refine⟨_,rfl,a,_,rfl,.of n9,_,rfl,?_⟩;refine Y0 (fun h2=>?_) (fun h2=>?_)
   ·have:k+1<=M:=(any (k+1)).mp ((Vm _ _).mp h2)
    have ek:(k:Int)+1=((k+1:Nat):Int):=by omega
    obtain⟨f0,f1⟩:=Zko p2 k;refine⟨_,fun _ _ z=>z,_,rfl,_,rfl,_,_,rfl,rfl,_,rfl,_,rfl,_,_,rfl,rfl,.inl ⟨by omega,by omega⟩,_,rfl,_,_,rfl,rfl,(by show (0:Int)<(p:Int);omega),_,rfl,_,rfl,_,rfl,_,rfl,ca,a,m,k+1,p,Vk t i,_,by rw[<-ek];rfl,hC.mono sm,ha,p2,pl,m9,by omega,ZjQ C _,fun L2 H2 o9 s2 o0=>?_⟩;rw[Zen C Pt hi] at o0;exact⟨M-(k+1),by omega,k+1,a,L2,by rw[<-ek];rfl,sm.trans s2,s2 _ _ ha,o0,this,rfl⟩
   ·have:¬k+1<=M:=fun z=>h2 ((Vm _ _).mpr ((any (k+1)).mpr z))
    have e2:k=M:=by omega
    subst e2;exact O _ _ ⟨l,a,rfl,sm,hl⟩
end
noncomputable def WA (H:Hp)(a:Addr)(t:List (List Nat))(p m:Nat)(e:Nat->Nat->Nat)(cs:List Addr)(q:List (Nat->Bool)):Prop:=H a=some (.lst (cs.map V.ref))/\cs.length=q.length/\∀(j:Nat) b,cs[j]?=some b->∃S,q[j]?=some S/\H b=some (.lst (ZD m (Vc t p m e (JU S))))
section
variable {t:List (List Nat)}{p m:Nat}{e ω φ:Nat->Nat->Nat}
theorem WA.mono {H q:Hp}{a:Addr}{cs:List Addr}{J:List (Nat->Bool)}(h:WA H a t p m e cs J)(s:Same H q):WA q a t p m e cs J:=
 ⟨s _ _ h.1,h.2.1,fun j b hb=>by
  obtain⟨S,M,O⟩:=h.2.2 j b hb;exact⟨S,M,s _ _ O⟩⟩
theorem WA.push {H:Hp}{a c:Addr}{cs:List Addr}{q:List (Nat->Bool)}{S:Nat->Bool}(h:WA H a t p m e cs q)(U:H c=some (.lst (ZD m (Vc t p m e (JU S)))))(Y:∀(j:Nat) b,(cs++[c])[j]?=some b->b≠a):WA (upd H a (.lst (cs.map V.ref++[.ref c]))) a t p m e (cs++[c]) (q++[S]):=by
 refine⟨by rw[Zt,aT];rfl,by rw[Zd,Zd,h.2.1];rfl,fun j b hb=>?_⟩;have J:=Y j b hb;by_cases M:j<cs.length
 ·rw[am M] at hb
  obtain⟨S',h1,h2⟩:=h.2.2 j b hb;exact⟨S',by rw[am (by rw[<-h.2.1];exact M)];exact h1,by rw[Zx J];exact h2⟩
 ·have hl:=(aa.mp hb).1
  rw[Zd,Zk] at hl;have O:j=cs.length:=by omega
  rw[aq (by omega),O,cm] at hb;cases hb;refine⟨S,?_,by rw[Zx J];exact U⟩;rw[O,h.2.1,aq (Zq _),cm];rfl
end
theorem VW {H:Hp}{a b:Addr}{xs:List V}{ys:List V}(j:H a=some (.lst xs))(q:H b=some (.lst ys))(h:xs≠ys):a≠b:=fun z=>by
 rw[z,q] at j;injection j with j;injection j with j;exact h j.symm
theorem VO {cs:List Addr}{m:Nat}{v:Nat->Int}(q:1<=m):cs.map V.ref≠ZD m v:=fun z=>by
 have h:=congrArg (fun l=>l[0]?) z;simp only[Yy v (show 0<m by omega),Zc] at h;cases j:cs[0]? with
 |none=>rw[j] at h;cases h
 |some c=>rw[j] at h;cases h
noncomputable def ZdF:Sp:=fun U H Q _=>∃(q J:Addr) (t:List (List Nat)) (p m:Nat) (e M Y:Nat->Nat->Nat) (S:Nat->Bool) (i:Nat),U=[.ref q,.ref J,.int p]/\CD t p m e M Y/\PW t/\i<m/\p<=100000/\LLs H q m (Vk t i)/\H J=some (.lst (ZD m (Vc t p m e (JU S))))/\
 ∀L cs O j,H L=none->Same H j->PtS m S (gW t M i) O->WA j L t p m e cs O->Q (.ref L) j
theorem Zig {m:Nat}{S:Nat->Bool}{g:Nat->Nat}{j:List (Nat->Bool)}{R:Nat->Bool}(W:PtW m S g j R):j.length<=m:=by
 have:=L2.Yl (j.map (pkS m)) (ac m) (UN W.ne W.dj) (fun x q=>by
  obtain⟨T,J,rfl⟩:=aI.mp q;exact ae.mpr (JX (W.ne T J)).1)
 rwa [Za,Zg] at this
section
variable {P:Program}{w:World}{K:ab}{mg:Str->Option Value}{base:Heap}
theorem ZgT {f:Addr}{fd:FuncData}(F:WB K "parts_by" "parts_by" Zgo f fd)(T:Bl mg)(T5:BlT mg)(GL:Fn P w K mg base Yd 2 "last_part" ["columns", "one", "p"] Zf6):Z5 P w K mg base Yd 3 f fd ["columns", "one", "p"] ZdF:=by
 refine F.ok (FS (N:=["columns", "one", "p", "parts", "rest", "part"])) (fun vs H Q E h=>?_) (fun r8 A o9 s H vs Q E hr h=>?_)
 ·obtain⟨ca,oa,t,p,m,e,Y,φ,S,i,rfl,_⟩:=h;rfl
 ·obtain⟨ca,oa,t,p,m,e,Y,φ,S,i,rfl,C,Pt,hi,pl,hC,hO,q⟩:=h
  refine⟨_,Zs (ZE 3 rfl (ZS Zu))
   (Zs (ZE 4 rfl (vn 1))
   (Zs (Z9 ao (ZaG (cb (ZnK K rfl) T.any (pc (vn 4) Zu)))
    (Zs (ZE 5 rfl (Wd GL hr ZL (pc (vn 0) (pc (vn 4) (pc (vn 2) Zu)))))
    (Zs (Ya (Y6 aH aM aO ZV (vn 3) (pc (vn 5) Zu)))
    (Zv (Zge 4 ["x", "y"] [2] ["x", "y", "p"] rfl rfl (ZeK K T5.zip (pc (vn 4) (pc (vn 5) Zu))) (fun _ _ _ _ _=>g2 K 0 1 rfl (gn 0) (gn 1)) (fun _ _ _ _ _=>ZP) (fun _ _ _ _ _=>Zz Z3 (Zz Wh (vn 0) (vn 1)) (vn 2)))))))
   (Zv (ZG (vn 3))))),?_⟩
  have p2:=C.pr.p2;have r9:=ZhZ C Pt;have m1:=C.m1;have sz:(16777216:Nat)=sizeLine:=by decide
  have p4:=Zkn C Pt hi;refine⟨(by show 0<=sizeLine;decide),fun L nL=>?_⟩;have s0:=Same.upd (H:=H) (o:=.lst []) nL;have h0:upd H L (.lst []) L=some (.lst ([]:List V)):=Zt;generalize upd H L (.lst [])=H0 at s0 h0 ⊢;refine⟨_,rfl,?_⟩;refine Z6 (fun x U H'=>∃(cs:List Addr) (Ss:List (Nat->Bool)) (R:Nat->Bool) (r:Addr) (v5:Option V),U=[some (.ref ca),some (.ref oa),some (.int (p:Nat)),some (.ref L),some (.ref r),v5]/\Same H H'/\WA H' L t p m e cs Ss/\PtW m S (gW t Y i) Ss R/\H' r=some (.lst (ZD m (Vc t p m e (JU R))))/\∀s,s<m->R s=true->gW t Y i s<x)
   (fun U H'=>∃(cs:List Addr) (Ss:List (Nat->Bool)) (r:Addr) (v5:Option V),U=[some (.ref ca),some (.ref oa),some (.int (p:Nat)),some (.ref L),some (.ref r),v5]/\Same H H'/\WA H' L t p m e cs Ss/\PtS m S (gW t Y i) Ss) ?hend
   ⟨p,[],[],S,oa,none,rfl,s0,⟨h0,rfl,fun j b hb=>by simp at hb⟩,.zero,s0 _ _ hO,fun s hs _=>p4 s hs⟩ ?turn
  case hend=>
   rintro U H' ⟨cs,Ss,r,v5,rfl,sm,hP,hS⟩;exact⟨_,rfl,q L cs Ss H' nL sm hS hP⟩
  case turn=>
   rintro n4 x U H' ⟨cs,Ss,R,r,v5,rfl,sm,hP,hW,hR,hx⟩;have n6:=hR;rw[WK] at n6;refine⟨_,rfl,r,_,rfl,.of n6,_,rfl,?_⟩;refine Y0 (fun h2=>?_) (fun h2=>?_)
   ·have p6:=(ZeF C Pt R).mp ((Vm _ _).mp h2)
    refine⟨_,fun _ _ z=>z,_,rfl,_,rfl,_,rfl,ca,r,t,p,m,e,Y,φ,R,i,rfl,C,Pt,hi,pl,hC.mono sm,hR,p6,fun L2 M H2 t0 s2 g1 n8 m8=>?_⟩;have O:=hP.mono s2;have n9:=s2 _ _ hR;have sl:=Zig hW;have m9:∀{b:Addr}{v:Nat->Int},H2 b=some (.lst (ZD m v))->b≠L:=fun {b v} hb=>VW hb O.1 (VO m1).symm;have o0:=O.push m8 (fun j b hb=>by
     rcases bE.mp (aD hb) with z|z
     ·obtain⟨j',p7⟩:=ce z
      obtain⟨S',_,p8⟩:=O.2.2 j' b p7;exact m9 p8
     ·rw[aS.mp z]
      exact m9 m8)
    refine⟨_,rfl,.inl ⟨rfl,_,.of O.1⟩,_,rfl,L,_,_,rfl,rfl,O.1,by rw[Za,O.2.1];omega,?_⟩;have o5:Same H (upd H2 L (.lst (cs.map V.ref++[.ref L2]))):=(sm.trans s2).updr nL;have o6:upd H2 L (.lst (cs.map V.ref++[.ref L2])) r=some (.lst (ZD m (Vc t p m e (JU R)))):=by rw[Zx (m9 n9)];exact n9
    have o7:upd H2 L (.lst (cs.map V.ref++[.ref L2])) L2=some (.lst (ZD m (Vc t p m e (JU (JS R (gW t Y i) M))))):=by rw[Zx (m9 m8)];exact m8
    generalize upd H2 L (.lst (cs.map V.ref++[.ref L2]))=H3 at o0 o5 o6 o7 ⊢;refine⟨_,rfl,_,rfl,r,L2,false,false,_,_,H3,rfl,.lst (.of o6),.lst (.of o7),Same.refl _,fun J At S' q0=>?_⟩;refine XW S' q0 (Same.refl _) [some (.int (p:Nat))] rfl (fun a b=>(a-b) % (p:Int)) (by omega) (fun j H4 hj s4 R' g=>?_) (fun D H4 nD s4 hD=>?_)
    ·exact⟨_,rfl,_,rfl,_,_,rfl,rfl,_,rfl,_,_,rfl,rfl,(by show (0:Int)<(p:Int);omega),g⟩
    ·have e5:(ZD m fun j=>(Vc t p m e (JU R) j-Vc t p m e (JU (JS R (gW t Y i) M)) j) % (p:Int))=ZD m (Vc t p m e (JU (ZaM R (gW t Y i) M))):=YO fun c _=>Zls n8 c
     rw[e5] at hD;refine⟨M,?_,cs++[L2],Ss++[JS R (gW t Y i) M],ZaM R (gW t Y i) M,D,_,rfl,o5.trans s4,o0.mono s4,hW.step g1 n8,hD,fun s' o8 q'=>?_⟩
     ·obtain⟨s',o8,a,b⟩:=g1
      rw[<-b];exact hx s' o8 a
     ·unfold ZaM at q'
      rw[af,decide_eq_true_eq] at q';exact q'.2
   ·have r6:¬ ∃s,s<m/\R s=true:=fun z=>h2 ((Vm _ _).mpr ((ZeF C Pt R).mpr z))
    exact n4 _ _ ⟨cs,Ss,r,v5,rfl,sm,hP,hW.end r6⟩
end
structure KS (kvs:List (Ym×V))(ks:List Nat):Prop where
 keys:kvs.map (·.1)=ks.map fun a:Nat=>(fR (a:Int):Ym)
 nd:ks.Nodup
theorem KS.nil:KS [] []:=⟨rfl,dY⟩
theorem KS.len {kvs:List (Ym×V)}{j:List Nat}(h:KS kvs j):kvs.length=j.length:=by
 have:=congrArg cJ h.keys;rwa [Za,Za] at this
theorem KS.some {kvs:List (Ym×V)}{j:List Nat}(h:KS kvs j)(a:Nat):(YY kvs (.inl (a:Int))).isSome=j.contains a:=by
 rw[<-WL];have e:(kvs.any fun J=>decide (J.1=(.inl (a:Int):Ym)))=(kvs.map (·.1)).any fun k=>decide (k=(.inl (a:Int):Ym)):=by rw[fQ];rfl
 rw[e,h.keys,fQ];by_cases hm:a∈j
 ·rw[aC.mpr hm,bd]
  exact⟨a,hm,by simp⟩
 ·have q:j.contains a=false:=by
   cases q:j.contains a with
   |false=>rfl
   |true=>exact absurd (aC.mp q) hm
  rw[q,List.any_eq_false];intro b hb z;have z:=of_decide_eq_true z;injection z with z;have:b=a:=by omega
  exact hm (this▸hb)
theorem KS.put {kvs:List (Ym×V)}{j:List Nat}(h:KS kvs j)(a:Nat)(v:V):KS (Wq kvs (.inl (a:Int)) v) (if j.contains a then j else j++[a]):=by
 have J:=h.some a;by_cases q:j.contains a=true
 ·rw[if_pos q]
  rw[q] at J;refine⟨?_,h.nd⟩;unfold Wq;rw[if_pos (by rw[WL];exact J),aU,<-h.keys];refine a9 fun M _=>?_;show (if M.1=_ then (M.1,v) else M).1=M.1
  split <;> rfl
 ·rw[if_neg q]
  have O:YY kvs (.inl (a:Int))=none:=by
   cases U:YY kvs (.inl (a:Int)) with
   |none=>rfl
   |some x=>rw[U] at J;exact absurd J.symm q
  rw[ZgF v O];refine⟨by rw[aT,aT,h.keys];rfl,?_⟩;rw[mC];refine⟨h.nd,by simp,fun b hb c Y z=>q ?_⟩;rw[aS.mp Y] at z;exact aC.mpr (z▸hb)
theorem ZaE {j:List Nat}{a b:Nat}:b∈(if j.contains a then j else j++[a])↔b∈j\/b=a:=by
 split
 ·rename_i h
  exact⟨.inl,fun z=>z.elim id fun e=>by rw[e];exact aC.mp h⟩
 ·rw[bE,aS]
theorem ZaF (j:List Nat)(a:Nat):(if j.contains a then j else j++[a]).length<=j.length+1:=by
 split
 ·omega
 ·rw[Zd,Zk];exact Zq _
theorem KS.merge {kvs:List (Ym×V)}{q:List Nat}(h:KS kvs q):∀{more:List (Ym×V)}{ms:List Nat},KS more ms->∃j,KS (Wi kvs more) j/\(∀a,a∈j↔a∈q\/a∈ms)/\j.length<=q.length+ms.length:=by
 intro more;induction more generalizing kvs q with
 |nil=>
  intro ms J;have:ms=[]:=eZ.mp (by have:=J.len;simpa using this.symm);subst this;exact⟨q,h,fun a=>by simp,by simp⟩
 |cons p O Y=>
  intro ms J;cases ms with
  |nil=>exact absurd J.len (by simp)
  |cons m ms=>
   have U:=J.keys;rw[aF,aF] at U;injection U with h1 h2;have M:KS O ms:=⟨h2,(bD.mp J.nd).2⟩;have hp:=h.put m p.2;obtain⟨j,k1,k2,k3⟩:=Y hp M;refine⟨j,?_,fun a=>?_,?_⟩
   ·show KS (Wi (Wq kvs p.1 p.2) O) j
    rw[h1];exact k1
   ·rw[k2,ZaE,aG]
    exact⟨fun z=>z.elim (fun z=>z.elim .inl fun e=>.inr (.inl e)) fun z=>.inr (.inr z),fun z=>z.elim (fun z=>.inl (.inl z)) fun z=>z.elim (fun e=>.inl (.inr e)) .inr⟩
   ·have:=ZaF q m
    rw[Zi];omega
noncomputable def JJ:Sp:=fun q H Q _=>∃(g:Addr) (t:List (List Nat)),q=[.ref g]/\GT H g t/\PW t/\∀c j,Same H j->CT j c (Zy t t.length)->Q (.ref c) j
theorem _root_.Pm.TupsAt.updD {H:Hp}{L D:Addr}{bs:List Addr}{yss:List (List Nat)}{kvs:List (Ym×V)}{o:HO}(j:H D=some (.dK kvs))(R:TupsAt H L bs yss):TupsAt (upd H D o) L bs yss:=by
 refine⟨?_,R.2.1,fun i b hb=>?_⟩
 ·rw[Zx fun z=>by have:=R.1;rw[z,j] at this;cases this]
  exact R.1
 ·rw[Zx fun z=>by have:=R.2.2 i b hb;rw[z,j] at this;cases this]
  exact R.2.2 i b hb
theorem _root_.Pm.TupsAt.last {H:Hp}{L r:Addr}{bs:List Addr}{yss:List (List Nat)}{ys:List Nat}(R:TupsAt H L (bs++[r]) (yss++[ys])):H r=some (.tup (ys.map nV)):=by
 have j:=R.2.1;rw[Zd,Zd,Zk,Zk] at j;have:=R.2.2 bs.length r (by rw[aq (Zq _),cm];rfl);rw[Zb,aq (by omega),show bs.length-yss.length=0 by omega] at this;exact this
theorem Znw {H:Hp}{L c:Addr}{bs:List Addr}{yss:List (List Nat)}(R:TupsAt H L bs yss)(j:H c=none):CT (upd H c (.tup (bs.map V.ref))) c yss:=⟨bs,Zt,R.2.1,fun i r q=>Same.upd j _ _ (R.2.2 i r q)⟩
section
variable {P:Program}{w:World}{K:ab}{mg:Str->Option Value}{base:Heap}
theorem Zc1 {f:Addr}{fd:FuncData}(F:WB K "classes_of" "classes_of" VI f fd)(T:Bl mg)(GN:Fn P w K mg base Yd 3 "turnings" ["group", "b"] VG):Z5 P w K mg base Yd 4 f fd ["group"] JJ:=by
 refine F.ok (FS (N:=["group", "found", "seen", "b", "a"])) (fun vs H Q E h=>?_) (fun o0 A o5 s H vs Q E hr h=>?_)
 ·obtain⟨g,t,rfl,_⟩:=h;rfl
 ·obtain⟨g,t,rfl,G,Pt,q⟩:=h
  have hu:(A.deeper (envOfC "classes_of" (Z2 VI) s.heap.objs.size f o0)).units+1<cLine:=by have:=hr.un;omega
  refine⟨_,Zs (ZE 1 rfl (ZS Zu))
   (Zs (ZE 2 rfl Xo)
   (Zs (ZR ao rfl (XM T.range (pc (cb (YF K) T.len (pc (vn 0) Zu)) Zu)) (gn 3)
    (Zv (WN (ZgG (UP hu (vn 3) (vn 2)))
     (Zs (Ya (Y6 aH aM aO ZV (vn 1) (pc (Wd GN hr ZL (pc (vn 0) (pc (vn 3) Zu))) Zu)))
     (Zv (ZR ao rfl (itT K (ZN (V2 K) (vn 1) (Xn Jc Zw) (fun _ _=>rfl))) (gn 4) (Zv (JN hu (vn 2) (vn 4) Zea (by rfl)))))) YA)))
   (Zv (ZG (ct ZH T.tuple (pc (vn 1) Zu)))))),?_⟩
  have sz:(16777216:Nat)=sizeLine:=by decide
  have p4:=Pt.n60;refine⟨(by show 0<=sizeLine;decide),fun L nL=>fun D nD=>?_⟩;have s1:=Same.upd (H:=H) (o:=.lst []) nL;have s2:=s1.trans (Same.upd (o:=.dK []) nD);have o6:H D=none:=s1.free nD;obtain⟨gs,u1,u2,_⟩:=id (G.mono s2);have el:(gs.map V.ref).length=t.length:=by rw[Za,u2]
  refine⟨_,rfl,g,_,rfl,.inr (.of u1),_,rfl,by rw[el];omega,by rw[el];omega,?_⟩;rw[el,Zj];refine Y3 (fun i M H'=>∃(w3 w4:Option V) (bs:List Addr) (J:List (Ym×V)) (ks:List Nat),M=[some (.ref g),some (.ref L),some (.ref D),w3,w4]/\Same H H'/\TupsAt H' L bs (Zy t i)/\H' D=some (.dK J)/\KS J ks/\(∀a,a∈ks↔Y2 (Zy t i) a=true)/\ks.length<=60*i)
   ⟨_,_,[],[],[],rfl,s2,⟨Same.upd nD _ _ Zt,rfl,fun i b hb=>by cases hb⟩,Zt,.nil,fun a=>⟨fun z=>(by cases z),fun z=>(by cases z)⟩,Zq _⟩ ?_ ?_
  ·rintro i M H3 hi ⟨w3,w4,bs,J,ks,rfl,s3,R,hD,hK,Y,kl⟩
   rw[show (0:Int)+(i:Int)=(i:Int) by omega];refine⟨_,rfl,_,rfl,D,_,rfl,WU.k (k:=.inl (i:Int)) hD,_,rfl,?_⟩;have n6:(YY J (.inl (i:Int))).isSome=Y2 (Zy t i) i:=by
    rw[hK.some];cases hc:Y2 (Zy t i) i with
    |true=>exact aC.mpr ((Y i).mpr hc)
    |false=>
     cases o7:ks.contains i with
     |false=>rfl
     |true=>rw[(Y i).mp (aC.mp o7)] at hc;cases hc
   rw[n6];refine Y0 (fun h=>?_) (fun h=>?_)
   ·have h:Y2 (Zy t i) i=false:=by simpa using h
    have eU:Zy t (i+1)=Zy t i++[Yq t i]:=by
     rw[Zy,if_neg (by unfold Y2 at h;rw[h];decide)]
    refine⟨_,rfl,.inl ⟨rfl,_,.of R.1⟩,_,rfl,_,rfl,g,t,i,rfl,G.mono s3,Pt,hi,fun r H4 s4 o8=>?_⟩;have R4:=R.mono s4;have bl:=R4.2.1;have ul:=Wc (t:=t) i;refine⟨L,_,_,rfl,rfl,R4.1,by rw[Za];omega,?_⟩;have R5:=R4.push o8;have n8:upd H4 L (.lst (bs.map V.ref++[.ref r])) D=some (.dK J):=by
     rw[Zx fun z=>by have:=s4 _ _ hD;rw[z,R4.1] at this;cases this];exact s4 _ _ hD
    have s5:Same H (upd H4 L (.lst (bs.map V.ref++[.ref r]))):=(s3.trans s4).updr nL;refine⟨_,rfl,_,rfl,L,_,_,_,rfl,rfl,.of Zt,Zcr _ _,r,rfl,⟨_,.of R5.last⟩,?_⟩;generalize upd H4 L (.lst (bs.map V.ref++[.ref r]))=H5 at R5 n8 s5 ⊢;have cl:=ZeB (t:=t) i;refine Zet (K:=K) (a:=r) (xs:=(Yq t i).map nV) (fun j M H'=>∃(w4:Option V) (J:List (Ym×V)) (O:List Nat),M=[some (.ref g),some (.ref L),some (.ref D),some (.int (i:Nat)),w4]/\Same H H'/\TupsAt H' L (bs++[r]) (Zy t i++[Yq t i])/\H' D=some (.dK J)/\KS J O/\(∀a,a∈O↔a∈ks\/a∈(Yq t i).take j)/\O.length<=60*i+j)
     ⟨_,J,ks,rfl,s5,R5,n8,hK,fun a=>⟨.inl,fun z=>z.elim id fun z=>by rw[fY] at z;cases z⟩,kl⟩ (fun j M H' _ h=>by
      obtain⟨_,_,_,_,_,R',_⟩:=h;exact .of R'.last) ?_ ?_
    ·rintro j y M H6 hy ⟨o9,n4,O,rfl,s6,R6,m8,m9,U,n9⟩
     obtain⟨k,hk,rfl⟩:=Zc3 hy;have hj:j<(Yq t i).length:=(aa.mp hk).1;refine⟨_,rfl,_,rfl,D,_,rfl,XG.k (k:=.inl (k:Int)) m8 (by rw[m9.len];omega),?_⟩;refine⟨_,_,_,rfl,s6.updr o6,R6.updD m8,Zt,m9.put k (.bl true),fun a=>?_,?_⟩
     ·rw[ZaE,U,cR,hk,bE]
      show _↔a∈ks\/a∈(Yq t i).take j\/a∈[k];rw[aS];exact⟨fun z=>z.elim (fun z=>z.elim .inl fun z=>.inr (.inl z)) fun z=>.inr (.inr z),fun z=>z.elim (fun z=>.inl (.inl z)) fun z=>z.elim (fun z=>.inl (.inr z)) .inr⟩
     ·have:=ZaF O k
      omega
    ·rintro M H6 ⟨o9,n4,O,rfl,s6,R6,m8,m9,U,n9⟩
     rw[Za] at U n9;refine⟨_,_,bs++[r],n4,O,rfl,s6,by rw[eU];exact R6,m8,m9,fun a=>?_,by omega⟩;rw[U,c7,Y a,eU];unfold Y2;rw[jB,bg,fC,kH,gE,aC]
   ·have h:Y2 (Zy t i) i=true:=by simpa using h
    have eU:Zy t (i+1)=Zy t i:=by
     rw[Zy,if_pos (by unfold Y2 at h;rw[h])]
    exact⟨_,_,bs,J,ks,rfl,s3,by rw[eU];exact R,hD,hK,fun a=>by rw[eU];exact Y a,by omega⟩
  ·rintro M H3 ⟨w3,w4,bs,J,ks,rfl,s3,R,hD,hK,Y,kl⟩
   exact⟨_,rfl,L,_,rfl,.inl ⟨.of R.1,fun c nc=>q c _ (s3.trans (Same.upd nc)) (Znw R nc)⟩⟩
end
noncomputable abbrev Zj3:Stmt:=top 1
noncomputable abbrev Zbs:Stmt:=top 10
noncomputable def Uz (j:List (List Nat)):Nat->Nat->Nat
 |0,_=>0
 |k+1,a=>if (j.getD k []).contains a then k else Uz j k a
noncomputable def Zf8:Sp:=fun J H Q _=>∃(c:Addr) (j:List (List Nat)) (n:Nat),J=[.ref c,.int n]/\CT H c j/\(∀row∈j,∀a∈row,a<n)/\n<=60/\j.length<=60/\∀r q,Same H q->q r=some (.tup ((ZI n (Uz j j.length)).map nV))->Q (.ref r) q
noncomputable def ZcL:Sp:=fun q H Q _=>∃(g:Addr) (t:List (List Nat)),q=[.ref g]/\GT H g t/\PW t/\∀r j,Same H j->j r=some (.tup ((ZI t.length (Uz (Zy t t.length) (Zy t t.length).length)).map nV))->Q (.ref r) j
section
variable {P:Program}{w:World}{K:ab}{mg:Str->Option Value}{base:Heap}
theorem Zi1 {f:Addr}{fd:FuncData}(F:WB K "holders" "holders" Zj3 f fd)(T:Bl mg)(T2:Zcu mg):Z5 P w K mg base Yd 1 f fd ["bundles", "count"] Zf8:=by
 refine F.ok (FS (N:=["bundles", "count", "numbers", "k", "members", "a"])) (fun vs H Q E h=>?_) (fun o7 A n8 s H vs Q E hr h=>?_)
 ·obtain⟨c,J,n,rfl,_⟩:=h;rfl
 ·obtain⟨c,J,n,rfl,C,n9,n60,o8,q⟩:=h
  refine⟨_,Zs (ZE 2 rfl (Zz Jv (ZS (pc Zw Zu)) (vn 1)))
   (Zs (ZR ao rfl (Xy K T2.enumerate (pc (vn 0) Zu)) (g2 K 3 4 rfl (gn 3) (gn 4))
    (Zv (ZR ao rfl (itT K (vn 4)) (gn 5) (Zv (VP (vn 3) (VT (vn 2) (vn 5) Y5))))))
   (Zv (ZG (ct ZH T.tuple (pc (vn 2) Zu))))),?_⟩
  have sz:(16777216:Nat)=sizeLine:=by decide
  obtain⟨rs,c1,c2,c3⟩:=C.row;refine⟨(by show 1<=sizeLine;decide),fun l0 o0=>⟨_,rfl,l0,_,_,rfl,rfl,Zt,by omega,by omega,by show 1*((n:Int)).toNat<=sizeLine;omega,fun L nL=>?_⟩⟩;rw[Zj];have s1:=Same.upd (H:=H) (o:=.lst [.int 0]) o0;have o5:H L=none:=s1.free nL;have e0:(av n [V.int 0]).flatten=(ZI n (Uz J 0)).map nV:=by
   unfold ZI;rw[aU];have:∀m k,(av m [V.int 0]).flatten=(cT k m).map fun _=>nV 0:=fun m=>by
    induction m with
    |zero=>intro k;rfl
    |succ m ih=>intro k;rw[bm,cg,ih (k+1),c9,aF];rfl
   rw[this n 0,<-cS];rfl
  rw[e0];have s2:=s1.trans (Same.upd (o:=.lst ((ZI n (Uz J 0)).map nV)) nL);refine⟨_,rfl,c,rfl,.inr ⟨⟨_,.of (s2 _ _ c1)⟩,?_⟩⟩;refine Y9 (XV (K:=K) (xs:=rs.map V.ref)) (fun i M H'=>∃v3 v4 v5:Option V,M=[some (.ref c),some (.int (n:Nat)),some (.ref L),v3,v4,v5]/\Same H H'/\H' L=some (.lst ((ZI n (Uz J i)).map nV)))
   ⟨_,_,_,rfl,s2,Zt⟩ (fun i M H' h=>by
    obtain⟨_,_,_,_,sm,_⟩:=h;exact sm.tup (.of c1)) ?_ ?_
  ·rintro i y M H3 T' hy ⟨v3,v4,v5,rfl,s3,O⟩ nT
   obtain⟨r,rfl,hi,U⟩:=c3 i y hy;have s4:=Same.upd (H:=H3) (o:=.tup [.int (i:Nat),.ref r]) nT;refine⟨T',_,rfl,.of Zt,rfl,_,_,rfl,_,_,rfl,rfl,?_⟩;generalize upd H3 T' (.tup [.int (i:Nat),.ref r])=H4 at s4 ⊢;have m9:=(s3.trans s4) _ _ U;have hm:J.getD i []∈J:=by
    rw[Zb,Zf hi];exact bc hi
   have m8:=n9 _ hm;generalize n4:J.getD i []=row at U m9 m8;refine⟨_,rfl,r,rfl,⟨_,.of m9⟩,?_⟩;refine Zet (K:=K) (a:=r) (xs:=row.map nV) (fun j M H'=>∃v5:Option V,M=[some (.ref c),some (.int (n:Nat)),some (.ref L),some (.int (i:Nat)),some (.ref r),v5]/\Same H H'/\H' L=some (.lst ((ZI n fun a=>if (row.take j).contains a then i else Uz J i a).map nV)))
    ⟨_,rfl,s3.trans s4,by
     have e:(ZI n fun a=>if ((row.take 0).contains a)=true then i else Uz J i a)=ZI n (Uz J i):=Wg fun a _=>by rw[fY];rfl
     rw[e];exact s4 _ _ O⟩ (fun j M H' _ h=>by
     obtain⟨_,_,sm,_⟩:=h;exact .of (sm _ _ (by rw[<-n4] at U ⊢;exact U))) ?_ ?_
   ·rintro j y M H5 hy ⟨o6,rfl,s5,Y⟩
    obtain⟨k,hk,rfl⟩:=Zc3 hy;have n6:k<n:=m8 k (aD hk);refine⟨_,rfl,_,rfl,_,rfl,L,_,_,k,rfl,rfl,Y,Jy (by rw[Za,VN];exact n6),?_⟩;refine⟨_,rfl,s5.updr o5,?_⟩;rw[Zt];have e:=Zbz (k:=i) (fun a=>if ((row.take j).contains a)=true then i else Uz J i a) n6
    have e2:(ZI n fun b=>if b=k then i else if ((row.take j).contains b)=true then i else Uz J i b)=ZI n fun a=>if ((row.take (j+1)).contains a)=true then i else Uz J i a:=Wg fun a _=>by
     rw[cR,hk];by_cases h1:a=k
     ·subst h1
      rw[if_pos rfl,if_pos (aC.mpr (aV _ (by simp)))]
     ·rw[if_neg h1]
      by_cases h2:a∈row.take j
      ·rw[if_pos (aC.mpr h2),if_pos (aC.mpr (b8 _ h2))]
      ·rw[if_neg (fun z=>h2 (aC.mp z)),if_neg (fun z=>?_)]
       rcases bE.mp (aC.mp z) with z|z
       ·exact h2 z
       ·exact h1 (by simpa using z)
    rw[e2] at e;exact congrArg (fun xs=>some (HO.lst xs)) e
   ·rintro M H5 ⟨o6,rfl,s5,Y⟩
    refine⟨_,_,_,rfl,s5,?_⟩;rw[Za] at Y;rw[Y];have e:(ZI n fun a=>if ((row.take row.length).contains a)=true then i else Uz J i a)=ZI n (Uz J (i+1)):=Wg fun a _=>by
     rw[c7,Uz,n4]
    rw[e]
  ·rintro M H3 ⟨v3,v4,v5,rfl,s3,O⟩
   rw[Za,c2] at O;exact⟨_,rfl,L,_,rfl,.inl ⟨.of O,fun r nr=>q r _ (s3.trans (Same.upd nr)) Zt⟩⟩
theorem ZjD {t:List (List Nat)}(j:PW t):∀row∈Zy t t.length,∀a∈row,a<t.length:=fun row q a J=>by
 obtain⟨b,_,rfl⟩:=Wn j t.length (Zq _) row q;exact Uf J
theorem ZiW {f:Addr}{fd:FuncData}(F:WB K "class_numbers" "class_numbers" Zbs f fd)(T:Bl mg)(Y:Fn P w K mg base Yd 4 "classes_of" ["group"] JJ)(GH:Fn P w K mg base Yd 1 "holders" ["bundles", "count"] Zf8):Z5 P w K mg base Yd 5 f fd ["group"] ZcL:=by
 refine F.ok (FS (N:=["group"])) (fun vs H Q E h=>?_) (fun m8 A j s H vs Q E O h=>?_)
 ·obtain⟨g,t,rfl,_⟩:=h;rfl
 ·obtain⟨g,t,rfl,G,J,q⟩:=h
  refine⟨_,Zv (ZG (Wd GH O ZL (pc (Wd Y O ZL (pc (vn 0) Zu)) (pc (cb (YF K) T.len (pc (vn 0) Zu)) Zu)))),?_⟩;have n60:=J.n60;refine⟨_,rfl,g,t,rfl,G,J,fun c H' U C=>?_⟩;obtain⟨gs,u1,u2,_⟩:=id (G.mono U);have el:(gs.map V.ref).length=t.length:=by rw[Za,u2]
  refine⟨_,rfl,g,_,rfl,.inr (.of u1),?_⟩;rw[el];exact⟨c,_,t.length,rfl,C,ZjD J,n60,a6 (Wc _) n60,fun r H2 s2 M=>q r H2 (U.trans s2) M⟩
end
end C40
namespace Tb
noncomputable def rdT (t:List (List Nat))(a:Nat):Nat:=(((ac t.length).find? fun r=>it t a (r+1) == 0).getD 0)+1
theorem ZaC {t:List (List Nat)}{a r:Nat}(R:Rd t a r):rdT t a=r:=by
 have q:=R.r1;have:(ac t.length).find? (fun r=>it t a (r+1) == 0)=some (r-1):=by
  rw[kc];refine⟨by rw[show r-1+1=r by omega,R.z];rfl,ae.mpr (by have:=R.rn;omega),fun j J=>?_⟩;have:=R.nz (j+1) (by omega) (by omega);simpa using this
 unfold rdT;rw[this];show r-1+1=r;omega
section
variable {t:List (List Nat)}
theorem Zhl (P:PW t){a s:Nat}(j:a<t.length)(q:s<t.length):∀k,it t (tb t a s) k=tb t (it t a k) s
 |0=>(JI P q).symm
 |k+1=>by
  rw[it,it,Zhl P j q k,ZcE P q (Wr P j k) j]
theorem Zop (P:PW t){x s:Nat}(J:x<t.length)(j:s<t.length):tb t x s=0↔x=0:=by
 have M:=P.n1;constructor
 ·intro h
  have q:=Vn P J j;rw[h,P.oneR _ (Yc P j).1,Zae P j] at q;exact q.symm
 ·rintro rfl
  exact JI P j
theorem ZkQ (P:PW t){a s:Nat}(q:a<t.length)(J:s<t.length):rdT t (tb t a s)=rdT t a:=by
 unfold rdT;have j:(fun r=>it t (tb t a s) (r+1) == 0)=fun r=>it t a (r+1) == 0:=funext fun r=>?_
 ·rw[j]
 have h:=Zhl P q J (r+1);have M:=Zop P (Wr P q (r+1)) J;rw[h];cases O:(it t a (r+1) == 0) with
 |true=>
  have:it t a (r+1)=0:=by simpa using O
  simpa using M.mpr this
 |false=>
  have:it t a (r+1)≠0:=by simpa using O
  have:tb t (it t a (r+1)) s≠0:=fun z=>this (M.mp z);simpa using this
end
end Tb
namespace C40
open PySem L2 PySem.Spec PyProof.Rows
open Tb Pm
theorem Zhs {j:List (List Nat)}{a q:Nat}(M:(j.getD q []).contains a=true)(O:∀k,k<j.length->(j.getD k []).contains a=true->k=q):∀m,m<=j.length->q<m->Uz j m a=q
 |0,_,h=>by omega
 |m+1,hm,h=>by
  unfold Uz;split
  ·rename_i J
   exact O m (by omega) J
  ·rename_i J
   refine Zhs M O m (by omega) ?_;by_cases e:q=m
   ·subst e;exact absurd M J
   ·omega
theorem ZhW {t:List (List Nat)}(U:PW t){a:Nat}(Y:a<t.length):∃j,j<(Zy t t.length).length/\((Zy t t.length).getD j []).contains a=true/\∀k,k<(Zy t t.length).length->((Zy t t.length).getD k []).contains a=true->k=j:=by
 have h:=XB U t.length (Zq _) a Y;unfold Y2 at h;obtain⟨c,hc,q⟩:=bd.mp h;obtain⟨j,J⟩:=ce hc;have hl:=(aa.mp J).1;have e:(Zy t t.length).getD j []=c:=by rw[Zb,J];rfl
 refine⟨j,hl,by rw[e];exact q,fun k M O=>?_⟩;have e2:(Zy t t.length)[k]?=some ((Zy t t.length).getD k []):=by rw[Zb,Zf M];rfl
 exact Ug U t.length (Zq _) k j _ c a e2 J (aC.mp O) (aC.mp q)
noncomputable abbrev ZdV:Stmt:=top 11
noncomputable def Jw (t:List (List Nat))(a:Nat):Nat:=Uz (Zy t t.length) (Zy t t.length).length a
theorem J2 {t:List (List Nat)}(M:PW t){a:Nat}(O:a<t.length):Jw t a<(Zy t t.length).length/\a∈(Zy t t.length).getD (Jw t a) []/\∀k,k<(Zy t t.length).length->a∈(Zy t t.length).getD k []->k=Jw t a:=by
 obtain⟨U,j,q,J⟩:=ZhW M O;have e:Jw t a=U:=Zhs q J _ (Zq _) j;rw[e];exact⟨j,aC.mp q,fun k Y hm=>J k Y (aC.mpr hm)⟩
theorem ZdY {t:List (List Nat)}(J:PW t){k a:Nat}(U:k<(Zy t t.length).length)(M:a∈(Zy t t.length).getD k []):a<t.length/\Jw t a=k/\∀x,x∈(Zy t t.length).getD k []↔x∈Yq t a:=by
 obtain⟨b,hb,e⟩:=Wn J t.length (Zq _) _ (Vo U);rw[e] at M ⊢;have q:=Uf M;refine⟨q,((J2 J q).2.2 k U (by rw[e];exact M)).symm,fun x=>⟨fun O=>?_,fun O=>?_⟩⟩
 ·have j:=Uf O
  exact YN J q j (YN J q hb (Wb J q) M) (YN J j hb (Wb J j) O)
 ·have j:=Uf O
  exact YN J hb j M (YN J j q (Wb J j) O)
theorem VM {t:List (List Nat)}(j:PW t){k:Nat}(J:k<(Zy t t.length).length):∃a r,(Zy t t.length).getD k []=a::r:=by
 obtain⟨b,hb,e⟩:=Wn j t.length (Zq _) _ (Vo J);have q:=Wb j hb;rw[e];cases h:Yq t b with
 |nil=>rw[h] at q;cases q
 |cons a r=>exact⟨a,r,rfl⟩
end C40
namespace C40
open PySem L2 PySem.Spec PyProof.Rows
open Tb
open Pm
theorem Zhv {X:Cx}:Zmg X (fun x y H Q=>∃(p:Addr) (xs:List V) (i:Nat) (v:V),x=.ref p/\y=.int i/\H p=some (.lst xs)/\xs[i]?=some v/\Q v H):=by
 intro J s σ H x y O iv Q I U Y h;obtain⟨p,xs,i,v,rfl,rfl,hp,M,q⟩:=h;cases (show O=aR p from U);obtain⟨t,rfl⟩:=Y;obtain⟨m8,r,pl,hz⟩:=I.list (.of hp);obtain⟨w,ew,j⟩:=r.get M;have hl:=r.length;have hn:=XT;have hi:i<xs.length:=(aa.mp M).1;exact wpAny_getItem_list pl.isList (f9 _) (by omega) (by simpa using ew) ⟨v,H,I,j,q⟩
theorem YM {W:Type}(n4:W->Addr)(Pr:Nat->W->Hp->Prop)(U:W->Hp->Prop){J:It}{own:List Str}{m9:List Nat}{te:TE}{σ:L2.St}{H:Hp}{Q:VK}{xs:List V}(S:Wz J H xs)(cs:L2.St)(n9:Jp own m9 σ=none::cs)(hn:xs.length<=1000)
  (mono:∀i w H q,Same H q->Pr i w H->Pr i w q) (n8:∀w H q,Same H q->U w q->U w H) (hu:∀i w H0 H1 D o ys o0,Pr i w H1->U w H0->H0 D=some (.lst o)->H1 D=some (.lst ys)->Pr i w (upd H1 D (.lst o0)))
  (hs:∀(i:Nat) y,xs[i]?=some y->∀q,Same H q->∀R:VK,(∀w Y,Same q Y->Pr i w Y->U w q->R (.ref (n4 w)) Y)->te (some y::cs) q R)
  (hd:∀D (M:List W) q,H D=none->Same H q->q D=some (.lst (M.map fun w=>V.ref (n4 w)))->M.length=xs.length->(∀(i:Nat) w,M[i]?=some w->Pr i w q/\U w H)->(∀(i j:Nat) w w',i<j->M[i]?=some w->M[j]?=some w'->∃Hm,Pr i w Hm/\U w' Hm)->Q (.ref D) q):WT own m9 (Yn 0) Wo te σ Q J H:=by
 refine V8 (xs:=xs) (fun D i ys q=>Same H q/\∃M:List W,ys=M.map (fun w=>V.ref (n4 w))/\M.length=i/\(∀(i:Nat) w,M[i]?=some w->Pr i w q/\U w H/\∃H0 o,H0 D=some (.lst o)/\U w H0)/\(∀(i j:Nat) w w',i<j->M[i]?=some w->M[j]?=some w'->∃Hm,Pr i w Hm/\U w' Hm)) cs n9 (by omega) ?_ ?_ ?_ ?_
 ·intro D i ys q hD O p
  have S':=S.mono p.1;exact⟨fun hi=>⟨S'.go i q (Same.refl _) hi,fun x H3 y=>S'.yld i q x H3 (Same.refl _) hi y⟩,fun e=>e▸S'.stop q (Same.refl _)⟩
 ·intro D hD
  exact⟨Same.upd hD,[],rfl,rfl,(fun i w hw=>by cases hw),(fun i j w w' _ h=>by cases h)⟩
 ·rintro D i y ys q hD O hy ⟨sm,M,rfl,wl,hw,hp⟩ R k
  refine hs i y hy q sm R fun w Y s5 p5 n5=>?_;have n6:=s5 _ _ O;have lst:∀(b:Nat) v,(M++[w])[b]?=some v->(b<M.length/\M[b]?=some v)\/(b=M.length/\v=w):=fun b v hb=>by
   by_cases m8:b<M.length
   ·rw[am m8] at hb
    exact .inl ⟨m8,hb⟩
   ·rw[aq (by omega)] at hb
    have o5:b-M.length=0:=by
     apply ah;intro z;rw[ag (by rw[Zk];omega)] at hb;cases hb
    rw[o5] at hb;cases hb;exact .inr ⟨by omega,rfl⟩
  refine k _ Y n6 ⟨(sm.trans s5).updr hD,M++[w],by rw[aT];rfl,by rw[Zd,wl];rfl,fun b v hv=>?_,fun a b v v' o6 ha hb=>?_⟩
  ·rcases lst b v hv with ⟨_,hv⟩|⟨hb,hv⟩
   ·obtain⟨h1,h2,H0,o,h3,h4⟩:=hw b v hv
    exact⟨hu b v H0 Y D o _ _ (mono b v _ _ s5 h1) h4 h3 n6,h2,H0,o,h3,h4⟩
   ·subst hv
    subst hb;rw[<-wl] at p5;exact⟨hu _ v q Y D _ _ _ p5 n5 O n6,n8 v _ _ sm n5,q,_,O,n5⟩
  ·rcases lst b v' hb with ⟨m8,hb⟩|⟨m8,hb⟩
   ·rw[am (by omega)] at ha
    exact hp a b v v' o6 ha hb
   ·subst hb
    rw[am (by omega)] at ha;exact⟨q,(hw a v ha).1,n5⟩
 ·rintro D ys Y hD O o7 ⟨sm,M,rfl,wl,hw,hp⟩
  exact hd D M Y hD sm O wl (fun i w h=>⟨(hw i w h).1,(hw i w h).2.1⟩) hp
structure N3 (Hb H:Hp)(L:Addr)(m:Nat)(A:Nat->Addr)(B:Nat->Nat->Addr)(f:Nat->Nat->Nat->Nat):Prop where
 sm:Same Hb H
 m1:1<=m
 top:H L=some (.lst ((ac m).map fun i=>V.ref (A i)))
 mid:∀i,i<m->H (A i)=some (.lst ((ac m).map fun j=>V.ref (B i j)))
 low:∀i j,i<m->j<m->H (B i j)=some (.lst ((ZI m (f i j)).map nV))
 inj:∀i j i' j',i<m->j<m->i'<m->j'<m->B i j=B i' j'->i=i'/\j=j'
 nw:∀i j,i<m->j<m->Hb (B i j)=none
section
variable {Hb H H':Hp}{L:Addr}{m:Nat}{A:Nat->Addr}{B:Nat->Nat->Addr}{f:Nat->Nat->Nat->Nat}
theorem N3.mono (N:N3 Hb H L m A B f)(s:Same H H'):N3 Hb H' L m A B f:=⟨N.sm.trans s,N.m1,s _ _ N.top,fun i q=>s _ _ (N.mid i q),fun i j q J=>s _ _ (N.low i j q J),N.inj,N.nw⟩
theorem Zd4 {m:Nat}(q:1<=m){a:Nat->Addr}{f:Nat->Nat}:(HO.lst ((ac m).map fun i=>V.ref (a i)))≠.lst ((ZI m f).map nV):=fun z=>by
 injection z with z;have:=congrArg (fun j:List V=>j[0]?) z;unfold ZI at this;rw[Zc,Zc,Zc,ak (show 0<m by omega)] at this;cases this
theorem N3.put (N:N3 Hb H L m A B f){i j k v:Nat}(Y:i<m)(hj:j<m)(hk:k<m):N3 Hb (upd H (B i j) (.lst (((ZI m (f i j)).map nV).set k (nV v)))) L m A B (fun q M O=>if q=i/\M=j/\O=k then v else f q M O):=by
 have nL:L≠B i j:=Zg7 N.top (N.low i j Y hj) (Zd4 N.m1);have nA:∀q,q<m->A q≠B i j:=fun q J=>Zg7 (N.mid q J) (N.low i j Y hj) (Zd4 N.m1);refine⟨N.sm.updr (N.nw i j Y hj),N.m1,by rw[Zx nL];exact N.top,fun q J=>by rw[Zx (nA q J)];exact N.mid q J,fun q M J U=>?_,N.inj,N.nw⟩;by_cases e:q=i/\M=j
 ·obtain⟨rfl,rfl⟩:=e
  rw[Zt,Zbz _ hk];have:(ZI m fun b=>if b=k then v else f q M b)=ZI m fun O=>if q=q/\M=M/\O=k then v else f q M O:=Wg fun b _=>by
   by_cases h:b=k
   ·rw[if_pos h,if_pos ⟨rfl,rfl,h⟩]
   ·rw[if_neg h,if_neg (fun z=>h z.2.2)]
  rw[this]
 ·rw[Zx fun z=>e (N.inj q M i j J U Y hj z),N.low q M J U]
  have:(ZI m (f q M))=ZI m fun O=>if q=i/\M=j/\O=k then v else f q M O:=Wg fun b _=>by rw[if_neg (fun z=>e ⟨z.1,z.2.1⟩)]
  rw[<-this]
theorem N3.congr (N:N3 Hb H L m A B f){g:Nat->Nat->Nat->Nat}(h:∀i j k,i<m->j<m->k<m->f i j k=g i j k):N3 Hb H L m A B g:=⟨N.sm,N.m1,N.top,N.mid,fun i j q J=>by rw[N.low i j q J,Wg fun k M=>h i j k q J M],N.inj,N.nw⟩
end
noncomputable def ZjK (m:Nat)(b:Addr)(H:Hp):Prop:=H b=some (.lst ((ZI m fun _=>0).map nV))
structure Zmi (m:Nat)(w:Addr×List Addr)(H:Hp):Prop where
 top:H w.1=some (.lst (w.2.map V.ref))
 len:w.2.length=m
 low:∀b∈w.2,ZjK m b H
 nd:∀(i j:Nat) b b',i<j->w.2[i]?=some b->w.2[j]?=some b'->b≠b'
noncomputable def NwM (w:Addr×List Addr)(H:Hp):Prop:=H w.1=none/\∀b∈w.2,H b=none
theorem Zfu {m:Nat}{J:It}{own:List Str}{M:List Nat}{te:TE}{σ:L2.St}{H:Hp}{Q:VK}{xs:List V}(S:Wz J H xs)(U:L2.St)(Y:Jp own M σ=none::U)(hn:xs.length<=1000)(hm:xs.length=m)
  (hs:∀(i:Nat) y,xs[i]?=some y->∀q,Same H q->∀R:VK,(∀b H5,Same q H5->ZjK m b H5->q b=none->R (.ref b) H5)->te (some y::U) q R)
  (hd:∀w q,Same H q->Zmi m w q->NwM w H->Q (.ref w.1) q):WT own M (Yn 0) Wo te σ Q J H:=by
 refine YM (W:=Addr) id (fun _ b H=>ZjK m b H) (fun b H=>H b=none) S U Y hn (fun i w H q s h=>s _ _ h) (fun w H q s h=>s.free h) (fun i w H0 H1 D o ys m9 h h0 O _=>?_) (fun i y hy q s R k=>hs i y hy q s R k) (fun D ws q nD s hD wl hw hp=>?_)
 ·have:w≠D:=fun z=>by rw[z,O] at h0;cases h0
  show upd H1 D _ w=_;rw[Zx this];exact h
 ·refine hd (D,ws) q s ⟨hD,by rw[<-hm];exact wl,fun b hb=>?_,fun i j b b' m8 hi hj z=>?_⟩ ⟨nD,fun b hb=>?_⟩
  ·obtain⟨i,hi⟩:=ce hb
   exact (hw i b hi).1
  ·obtain⟨Hm,O,h2⟩:=hp i j b b' m8 hi hj
   have O:Hm b=some _:=O;rw[z,h2] at O;cases O
  ·obtain⟨i,hi⟩:=ce hb
   exact (hw i b hi).2
theorem Zft {m:Nat}{J:It}{own:List Str}{n4:List Nat}{te:TE}{σ:L2.St}{H:Hp}{Q:VK}{xs:List V}(S:Wz J H xs)(cs:L2.St)(n8:Jp own n4 σ=none::cs)(hn:xs.length<=1000)(hm:xs.length=m)(m1:1<=m)
  (hs:∀(i:Nat) y,xs[i]?=some y->∀Y,Same H Y->∀R:VK,(∀w H5,Same Y H5->Zmi m w H5->NwM w Y->R (.ref w.1) H5)->te (some y::cs) Y R)
  (hd:∀D A B Y,H D=none->N3 H Y D m A B (fun _ _ _=>0)->Q (.ref D) Y):WT own n4 (Yn 0) Wo te σ Q J H:=by
 refine YM (W:=Addr×List Addr) lE (fun _ w H=>Zmi m w H) NwM S cs n8 hn (fun i w H Y s h=>⟨s _ _ h.top,h.len,fun b hb=>s _ _ (h.low b hb),h.nd⟩) (fun w H Y s h=>⟨s.free h.1,fun b hb=>s.free (h.2 b hb)⟩) (fun i w H0 H1 D o ys o0 h h0 h1 _=>?_) (fun i y hy Y s R k=>hs i y hy Y s R k) (fun D ws Y nD s hD wl hw hp=>?_)
 ·have n1:w.1≠D:=fun z=>by have:=h0.1;rw[z,h1] at this;cases this
  have n2:∀b∈w.2,b≠D:=fun b hb z=>by have:=h0.2 b hb;rw[z,h1] at this;cases this
  exact⟨by rw[Zx n1];exact h.top,h.len,fun b hb=>by show upd H1 D _ b=_;rw[Zx (n2 b hb)];exact h.low b hb,h.nd⟩
 ·rw[hm] at wl
  have wat:∀i,i<m->ws[i]?=some (ws.getD i (0,[])):=fun i q=>by rw[Zb,Zf (by omega)];rfl
  have O:∀i j,i<m->j<m->(ws.getD i (0,[])).2[j]?=some ((ws.getD i (0,[])).2.getD j 0):=fun i j q U=>by
   have:=(hw i _ (wat i q)).1.len;rw[Zb (l:=(ws.getD i (0,[])).2),Zf (by omega)];rfl
  refine hd D (fun i=>(ws.getD i (0,[])).1) (fun i j=>(ws.getD i (0,[])).2.getD j 0) Y nD ⟨s,m1,?_,fun i q=>?_,fun i j q U=>?_,fun i j i' j' q U m9 m8 z=>?_,fun i j q U=>?_⟩
  ·rw[hD]
   congr 2;refine aX fun i=>?_;rw[Zc,Zc];by_cases q:i<m
   ·rw[wat i q,ak q]
    rfl
   ·rw[ag (by omega),ag (by rw[Zg];omega)]
    rfl
  ·have M:=(hw i _ (wat i q)).1
   have ml:=M.len;rw[M.top];congr 2;refine aX fun j=>?_;rw[Zc,Zc];by_cases U:j<m
   ·rw[O i j q U,ak U]
    rfl
   ·rw[ag (by omega),ag (by rw[Zg];omega)]
    rfl
  ·exact (hw i _ (wat i q)).1.low _ (aD (O i j q U))
  ·have n6:∀i j i' j',i<m->j<m->i'<m->j'<m->i<i'->(ws.getD i (0,[])).2.getD j 0≠(ws.getD i' (0,[])).2.getD j' 0:=fun i j i' j' q U m9 m8 n9 z=>by
    obtain⟨Hm,h1,h2⟩:=hp i i' _ _ n9 (wat i q) (wat i' m9);have a1:=h1.low _ (aD (O i j q U));have a2:=h2.2 _ (aD (O i' j' m9 m8));unfold ZjK at a1;rw[z,a2] at a1;cases a1
   have ei:i=i':=by
    rcases mL i i' with h|h|h
    ·exact absurd z (n6 i j i' j' q U m9 m8 h)
    ·exact h
    ·exact absurd z.symm (n6 i' j' i j m9 m8 q U h)
   subst ei;refine⟨rfl,?_⟩;have nd:=(hw i _ (wat i q)).1.nd;rcases mL j j' with h|h|h
   ·exact absurd z (nd j j' _ _ h (O i j q U) (O i j' q m8))
   ·exact h
   ·exact absurd z.symm (nd j' j _ _ h (O i j' q m8) (O i j q U))
  ·exact (hw i _ (wat i q)).2.2 _ (aD (O i j q U))
noncomputable def C3 (H:Hp)(r:Addr)(m:Nat)(F:Nat->Nat->Nat->Nat):Prop:=∃cs:List Addr,H r=some (.tup (cs.map V.ref))/\cs.length=m/\∀(i:Nat) c,cs[i]?=some c->CT H c ((ac m).map fun j=>ZI m (F i j))
noncomputable def dC3 (m:Nat)(F:Nat->Nat->Nat->Nat):ed:=.tuple ((ac m).map fun i=>dCs ((ac m).map fun j=>ZI m (F i j)))
theorem C3.rd {K:ab}{H:Hp}{r:Addr}{m:Nat}{F:Nat->Nat->Nat->Nat}(h:C3 H r m F):Uo K H (.ref r) (dC3 m F):=by
 obtain⟨cs,M,O,U⟩:=h;refine .tup (.of M) ?_;have q:∀(cs:List Addr) (k:Nat),(∀(i:Nat) c,cs[i]?=some c->CT H c ((ac m).map fun j=>ZI m (F (i+k) j)))->WS K H (cs.map V.ref) ((cT k cs.length).map fun i=>dCs ((ac m).map fun j=>ZI m (F i j))):=fun cs=>by
  induction cs with
  |nil=>intro k _;exact .nil
  |cons c cs Y=>
   intro k g;rw[Zi,c9,aF,aF];have J:=g 0 c rfl;rw[gY] at J;refine .cons J.rd (Y (k+1) fun i c' hc=>?_);have:=g (i+1) c' hc;rw[show i+1+k=i+(k+1) by omega] at this;exact this
 have:=q cs 0 U;rw[O,<-cS] at this;exact this
theorem JK {B:Nat}:∀{ds:List ed},(∀d∈ds,d.leavesShort B=true)->cp B ds=true
 | [],_=>rfl
 |d::ds,h=>by
  have j:=JK (ds:=ds) fun e q=>h e (ay _ q);simp only[cp,h d aB,j,ke]
theorem ZeR {k:Nat}(h:k<=1000):cv 13 (.int (k:Int))=true:=by
 have J:((k:Int).natAbs).log2<10:=by
  rw[iV];by_cases q:k=0
  ·rw[q];decide +kernel
  ·exact (lT q).mpr (by omega)
 have:=int_text_length_le (k:=10) (by decide) J;have j:(dU (.int (k:Int))).length<=13:=by
  simp only[dU];rw[kx];omega
 simp only[cv,decide_eq_true_eq];exact j
theorem ZlJ {m:Nat}{F:Nat->Nat->Nat->Nat}(O:m<=60)(hF:∀i j k,i<m->j<m->k<m->F i j k<=1000):ZjN (dC3 m F):=by
 have M:=Sml.tup (k:=2) (b:=60*61) (n:=60) (ds:=(ac m).map fun i=>dCs ((ac m).map fun j=>ZI m (F i j))) (by rw[Za,Zg];exact O) fun d q=>by
  obtain⟨i,hi,rfl⟩:=aI.mp q;have hi:=ae.mp hi;have:=Sml.tup (k:=1) (b:=60) (n:=60) (ds:=((ac m).map fun j=>ZI m (F i j)).map Zfp) (by rw[Za,Za,Zg];exact O) fun d q=>by
   obtain⟨row,U,rfl⟩:=aI.mp q;obtain⟨j,J,rfl⟩:=aI.mp U;have J:=ae.mp J;refine Zip (by rw[VN];exact O) fun k Y=>?_;obtain⟨x,hx,rfl⟩:=aI.mp Y;exact hF i j x hi J (ae.mp hx)
  exact this
 have hL:cv 13 (dC3 m F)=true:=by
  unfold dC3;simp only[cv];refine JK fun d q=>?_;obtain⟨i,hi,rfl⟩:=aI.mp q;unfold dCs;simp only[cv];refine JK fun d q=>?_;obtain⟨row,U,rfl⟩:=aI.mp q;obtain⟨j,J,rfl⟩:=aI.mp U;unfold Zfp;simp only[cv];refine JK fun d q=>?_;obtain⟨k,Y,rfl⟩:=aI.mp q;obtain⟨x,hx,rfl⟩:=aI.mp Y;exact ZeR (hF i j x (ae.mp hi) (ae.mp J) (ae.mp hx))
 exact⟨M.sh,M.nd,a6 M.dp (by decide),PyData.shown_fits_bulk (B:=13) (by decide) (by decide) hL (a6 M.bl (by decide))⟩
noncomputable def PrT (m:Nat)(F:Nat->Nat->Nat)(w:Addr×List Addr)(H:Hp):Prop:=H w.1=some (.tup (w.2.map V.ref))/\w.2.length=m/\∀(j:Nat) r,w.2[j]?=some r->H r=some (.tup ((ZI m (F j)).map nV))
theorem PrT.mono {m:Nat}{F:Nat->Nat->Nat}{w:Addr×List Addr}{H q:Hp}(h:PrT m F w H)(s:Same H q):PrT m F w q:=⟨s _ _ h.1,h.2.1,fun j r J=>s _ _ (h.2.2 j r J)⟩
theorem PrT.upd {m:Nat}{F:Nat->Nat->Nat}{w:Addr×List Addr}{H:Hp}{D:Addr}{ys:List V}{o:HO}(h:PrT m F w H)(q:H D=some (.lst ys)):PrT m F w (upd H D o):=
 ⟨by rw[Zx fun z=>by have:=h.1;rw[z,q] at this;cases this];exact h.1,h.2.1,fun j r J=>by rw[Zx fun z=>by have:=h.2.2 j r J;rw[z,q] at this;cases this];exact h.2.2 j r J⟩
theorem PrT.ct {m:Nat}{F:Nat->Nat->Nat}{w:Addr×List Addr}{H:Hp}(h:PrT m F w H):CT H w.1 ((ac m).map fun j=>ZI m (F j)):=by
 refine⟨w.2,h.1,by rw[Za,Zg];exact h.2.1,fun i r q=>?_⟩;have J:i<m:=by rw[<-h.2.1];exact (aa.mp q).1
 rw[h.2.2 i r q,Zb,Zc,ak J];rfl
theorem Zfs {m:Nat}{F:Nat->Nat->Nat}{J:It}{own:List Str}{M:List Nat}{te:TE}{σ:L2.St}{H:Hp}{Q:VK}{xs:List V}(S:Wz J H xs)(Y:L2.St)(m8:Jp own M σ=none::Y)(hn:xs.length<=1000)(hm:xs.length=m)
  (hs:∀(i:Nat) y,xs[i]?=some y->∀q,Same H q->∀R:VK,(∀b O,Same q O->O b=some (.tup ((ZI m (F i)).map nV))->R (.ref b) O)->te (some y::Y) q R)
  (hd:∀D (rs:List Addr) q,H D=none->Same H q->q D=some (.lst (rs.map V.ref))->(∀r U,U r=some (.tup (rs.map V.ref))->Same q U->PrT m F (r,rs) U)->Q (.ref D) q):WT own M (Yn 0) Wo te σ Q J H:=by
 refine YM (W:=Addr) id (fun i b H=>H b=some (.tup ((ZI m (F i)).map nV))) (fun _ _=>True) S Y m8 hn (fun i w H q s h=>s _ _ h) (fun w H q s h=>trivial) (fun i w H0 H1 D o ys m9 h h0 h1 h2=>?_) (fun i y hy q s R k=>hs i y hy q s R fun b O s5 h5=>k b O s5 h5 trivial) (fun D ws q nD s hD wl hw hp=>?_)
 ·rw[Zx fun z=>by rw[z,h2] at h;cases h]
  exact h
 ·exact hd D ws q nD s hD fun r U hr s2=>⟨hr,by rw[<-hm];exact wl,fun j b hb=>s2 _ _ (hw j b hb).1⟩
theorem ZjA {m:Nat}{F:Nat->Nat->Nat->Nat}{J:It}{own:List Str}{q:List Nat}{te:TE}{σ:L2.St}{H:Hp}{Q:VK}{xs:List V}(S:Wz J H xs)(Y:L2.St)(m8:Jp own q σ=none::Y)(hn:xs.length<=1000)(hm:xs.length=m)
  (hs:∀(i:Nat) y,xs[i]?=some y->∀j,Same H j->∀R:VK,(∀w M,Same j M->PrT m (F i) w M->R (.ref w.1) M)->te (some y::Y) j R)
  (hd:∀D (ys:List V) j,H D=none->Same H j->j D=some (.lst ys)->(∀r U,U r=some (.tup ys)->Same j U->C3 U r m F)->Q (.ref D) j):WT own q (Yn 0) Wo te σ Q J H:=by
 refine YM (W:=Addr×List Addr) lE (fun i w H=>PrT m (F i) w H) (fun _ _=>True) S Y m8 hn (fun i w H j s h=>h.mono s) (fun w H j s h=>trivial) (fun i w H0 H1 D o ys m9 h h0 h1 h2=>h.upd h2) (fun i y hy j s R k=>hs i y hy j s R fun b M s5 h5=>k b M s5 h5 trivial) (fun D ws j nD s hD wl hw hp=>?_);refine hd D _ j nD s hD fun r U hr s2=>⟨ws.map lE,by rw[hr,aU];rfl,by rw[Za,<-hm];exact wl,fun i c O=>?_⟩;rw[Zc] at O;cases hx:ws[i]? with
 |none=>rw[hx] at O;cases O
 |some w=>
  rw[hx] at O;cases O;exact ((hw i w hx).1.mono s2).ct
noncomputable def one (nu:Nat->Nat)(C:Nat->Nat->Nat->Bool)(i j k x y:Nat):Nat:=YU (decide (nu x=i))*(YU (decide (nu y=j))*YU (C x y k))
noncomputable def ZF (n:Nat)(nu:Nat->Nat)(C:Nat->Nat->Nat->Bool)(X Y i j k:Nat):Nat:=sm X (fun x=>sm n fun y=>one nu C i j k x y)+sm Y fun y=>one nu C i j k X y
theorem acc_zero (n:Nat)(nu:Nat->Nat)(C:Nat->Nat->Nat->Bool)(i j k:Nat):ZF n nu C 0 0 i j k=0:=rfl
theorem ZjG (n:Nat)(nu:Nat->Nat)(C:Nat->Nat->Nat->Bool)(X i j k:Nat):ZF n nu C X n i j k=ZF n nu C (X+1) 0 i j k:=by
 unfold ZF;rw[Yi];rfl
theorem acc_step (n:Nat)(nu:Nat->Nat)(C:Nat->Nat->Nat->Bool)(X Y i j k:Nat):ZF n nu C X (Y+1) i j k=ZF n nu C X Y i j k+one nu C i j k X Y:=by
 unfold ZF;rw[Yi];omega
noncomputable def hdT (t:List (List Nat))(k:Nat):Nat:=((Zy t t.length).getD k []).getD 0 0
theorem ZaS {t:List (List Nat)}(j:PW t){k:Nat}(q:k<(Zy t t.length).length):hdT t k<t.length/\Jw t (hdT t k)=k/\((Zy t t.length).getD k [])[0]?=some (hdT t k):=by
 obtain⟨a,r,e⟩:=VM j q;have J:hdT t k=a:=by unfold hdT;rw[e];rfl
 have h:=ZdY j q (by rw[e];exact aB);rw[J,e];exact⟨h.1,h.2.1,rfl⟩
noncomputable def Cg (t:List (List Nat))(x y k:Nat):Bool:=decide (ZJ t x y=hdT t k)
noncomputable def cnG (t:List (List Nat)):Nat->Nat->Nat->Nat:=ZF t.length (Jw t) (Cg t) t.length 0
theorem ZgM (nu:Nat->Nat)(C:Nat->Nat->Nat->Bool)(i j k x y:Nat):one nu C i j k x y=if i=nu x/\j=nu y/\C x y k=true then 1 else 0:=by
 unfold one;by_cases q:nu x=i
 ·rw[decide_eq_true q]
  by_cases J:nu y=j
  ·rw[decide_eq_true J]
   cases M:C x y k with
   |true=>rw[if_pos ⟨q.symm,J.symm,rfl⟩];rfl
   |false=>rw[if_neg (fun z=>by cases z.2.2)];rfl
  ·rw[decide_eq_false J,if_neg (fun z=>J z.2.1.symm)]
   show 1*(0*_)=0;omega
 ·rw[decide_eq_false q,if_neg (fun z=>q z.1.symm)]
  show 0*_=0;omega
noncomputable def Zbo:Sp:=fun q H Q _=>∃(g:Addr) (t:List (List Nat)),q=[.ref g]/\GT H g t/\PW t/\∀r j,Same H j->C3 j r (Zy t t.length).length (cnG t)->Q (.ref r) j
section
variable {P:Program}{w:World}{K:ab}{mg:Str->Option Value}{base:Heap}
theorem Ze4 {f:Addr}{fd:FuncData}(F:WB K "counts_of" "counts_of" ZdV f fd)(T:Bl mg)(T2:Zcu mg)(GC:Fn P w K mg base Yd 4 "classes_of" ["group"] JJ)(GN:Fn P w K mg base Yd 5 "class_numbers" ["group"] ZcL):Z5 P w K mg base Yd 6 f fd ["group"] Zbo:=by
 refine F.ok (FS (N:=["group", "classes", "numbers", "counts", "x", "row", "y", "z", "k"])) (fun vs H Q E h=>?_) (fun r8 A o5 s H vs Q E hr h=>?_)
 ·obtain⟨g,t,rfl,_⟩:=h;rfl
 ·obtain⟨g,t,rfl,G,O,q⟩:=h
  refine⟨_,Zs (ZE 1 rfl (Wd GC hr ZL (pc (vn 0) Zu)))
   (Zs (ZE 2 rfl (Wd GN hr ZL (pc (vn 0) Zu)))
   (Zs (Zge 3 ["i"] [1] ["i", "classes"] rfl rfl (itT K (vn 1)) (fun _ _ _ _ _=>gn 0) (fun _ _ _ _ _=>ZP)
    (fun _ _ _ _ _=>cmp ["j"] [1] ["j", "classes"] rfl (itT K (vn 1)) (fun _ _ _ _ _=>gn 0) (fun _ _ _ _ _=>ZP)
     (fun _ _ _ _ _=>Zz Jv (ZS (pc Zw Zu)) (cb (YF K) (by exact T.len) (pc (vn 1) Zu)))))
   (Zs (ZR ao rfl (Xy K T2.enumerate (pc (vn 0) Zu)) (g2 K 4 5 rfl (gn 4) (gn 5))
    (Zv (ZR ao rfl (Xy K T2.enumerate (pc (vn 5) Zu)) (g2 K 6 7 rfl (gn 6) (gn 7))
     (Zs (ZE 8 rfl (ZN (Xt K) (vn 2) (vn 7) (fun _ _=>rfl)))
     (Zv (WN (ZT ZbN (ZN (Xt K) (ZN (Xt K) (vn 1) (vn 8) (fun _ _=>rfl)) Zw (fun _ _=>rfl)) (vn 7) (Z1 _))
      (Zv (Vq (ZN (V2 K) (ZN (V2 K) (vn 3) (ZN (Xt K) (vn 2) (vn 4) (fun _ _=>rfl)) (fun _ _=>rfl)) (ZN (Xt K) (vn 2) (vn 6) (fun _ _=>rfl)) (fun _ _=>rfl)) (vn 8) Zhv Zw W2 Y5)) YA))))))
   (Zv (ZG (ct ZH T.tuple (pc (cmp ["seconds"] [] ["seconds"] rfl (itL K (vn 3)) (fun _ _ _ _ _=>gn 0) (fun _ _ _ _ _=>ZP)
    (fun _ _ _ _ _=>ct (tupK K) (by exact T.tuple) (pc (cmp ["ends"] [] ["ends"] rfl (itL K (vn 0)) (fun _ _ _ _ _=>gn 0) (fun _ _ _ _ _=>ZP)
     (fun _ _ _ _ _=>ct (tupK K) (by exact T.tuple) (pc (vn 0) Zu))) Zu))) Zu))))))),?_⟩
  have sz:(16777216:Nat)=sizeLine:=by decide
  have r9:=O.n60;have ul:=Wc (t:=t) t.length;have m1:1<=(Zy t t.length).length:=by
   have:=(J2 O (show 0<t.length from O.n1)).1;omega
  refine⟨_,rfl,g,t,rfl,G,O,fun c H1 s1 C1=>?_⟩;refine⟨_,rfl,g,t,rfl,G.mono s1,O,fun r0 H2 s2 m8=>?_⟩;have C2:=C1.mono s2;obtain⟨rs,c1,c2,c3⟩:=C2.row;have cl:(rs.map V.ref).length=(Zy t t.length).length:=by rw[Za,c2]
  replace m8:H2 r0=some (.tup ((ZI t.length (Jw t)).map nV)):=m8;generalize hm:(Zy t t.length).length=m at *;refine⟨_,rfl,c,rfl,⟨_,.of c1⟩,?_⟩;refine Zft (YX (K:=K) (.of c1)) [some (.ref c)] rfl (by omega) cl m1 (fun i y hy H3 s3 R k=>?_) (fun L A B H3 nL N=>?_)
  ·have m9:=s3 _ _ c1
   refine⟨_,rfl,c,rfl,⟨_,.of m9⟩,?_⟩;refine Zfu (YX (K:=K) (.of m9)) [some (.ref c)] rfl (by omega) cl (fun j y' n6 H4 s4 R' k'=>?_) (fun w' H4 s4 M o6=>k w' H4 s4 M o6);refine⟨(by show 1<=sizeLine;decide),fun l0 o7=>?_⟩;have U:=Same.upd (H:=H4) (o:=.lst [.int 0]) o7;refine⟨_,rfl,c,_,rfl,.inr (.of (U _ _ (s4 _ _ m9))),l0,_,_,rfl,rfl,Zt,by rw[cl];omega,by rw[cl];omega,by rw[cl];show 1*((m:Int)).toNat<=sizeLine;omega,fun b nb=>?_⟩;rw[cl,Zj];have e0:(av m [V.int 0]).flatten=(ZI m fun _=>0).map nV:=by
    unfold ZI;rw[aU];have:∀m k,(av m [V.int 0]).flatten=(cT k m).map fun _=>nV 0:=fun m=>by
     induction m with
     |zero=>intro k;rfl
     |succ m ih=>intro k;rw[bm,cg,ih (k+1),c9,aF];rfl
    rw[this m 0,<-cS];rfl
   rw[e0];exact k' b _ (U.trans (Same.upd nb)) Zt (U.free nb)
  have G2:=G.mono (s1.trans s2);obtain⟨gs,u1,u2,u3⟩:=id G2;have el:(gs.map V.ref).length=t.length:=by rw[Za,u2]
  refine⟨_,rfl,g,rfl,.inr ⟨⟨_,.of (N.sm _ _ u1)⟩,?_⟩⟩;refine Y9 (XV (K:=K) (xs:=gs.map V.ref)) (fun X J H'=>∃v4 v5 v6 v7 v8:Option V,J=[some (.ref g),some (.ref c),some (.ref r0),some (.ref L),v4,v5,v6,v7,v8]/\N3 H2 H' L m A B (ZF t.length (Jw t) (Cg t) X 0))
   ⟨_,_,_,_,_,rfl,N.congr fun i j k _ _ _=>(acc_zero _ _ _ _ _ _).symm⟩ (fun i J H' h=>by
    obtain⟨_,_,_,_,_,_,N'⟩:=h;exact N'.sm.tup (.of u1)) ?_ ?_
  ·rintro X y J H4 T' hy ⟨v4,v5,v6,v7,v8,rfl,N4⟩ nT
   have hX:X<t.length:=by
    have:=(aa.mp hy).1;rw[el] at this;exact this
   have n8:gs[X]?=some (gs[X]'(by omega)):=Zf (by omega);rw[Zc,n8] at hy;cases hy;have row:=u3 X _ n8;generalize gs[X]'(by omega)=r at row;have U:=Same.upd (H:=H4) (o:=.tup [.int (X:Nat),.ref r]) nT;refine⟨T',_,rfl,.of Zt,rfl,_,_,rfl,_,_,rfl,rfl,?_⟩;have N5:=N4.mono U;generalize upd H4 T' (.tup [.int (X:Nat),.ref r])=H5 at U N5 ⊢;refine⟨_,rfl,r,rfl,.inr ⟨⟨_,(row.mono N5.sm).sq⟩,?_⟩⟩;refine Y9 (XV (K:=K) (xs:=(t.getD X []).map nV)) (fun Y J H'=>∃v6 v7 v8:Option V,J=[some (.ref g),some (.ref c),some (.ref r0),some (.ref L),some (.int (X:Nat)),some (.ref r),v6,v7,v8]/\N3 H2 H' L m A B (ZF t.length (Jw t) (Cg t) X Y))
    ⟨_,_,_,rfl,N5⟩ (fun i J H' h=>by
     obtain⟨_,_,_,_,N'⟩:=h;exact (row.mono N'.sm).sq) ?_ ?_
   ·rintro Y y J H6 n9 hy ⟨o8,o9,p4,rfl,N6⟩ p6
    have hY:Y<t.length:=by
     have:=(aa.mp hy).1;rw[Za,Xj O hX] at this;exact this
    rw[XL O hX hY] at hy;cases hy;have s7:=Same.upd (H:=H6) (o:=.tup [.int (Y:Nat),.int (ZJ t X Y:Nat)]) p6;refine⟨n9,_,rfl,.of Zt,rfl,_,_,rfl,_,_,rfl,rfl,?_⟩;have N7:=N6.mono s7;generalize upd H6 n9 (.tup [.int (Y:Nat),.int (ZJ t X Y:Nat)])=H7 at s7 N7 ⊢;have hz:ZJ t X Y<t.length:=O.lt _ _ hX hY;obtain⟨kz,t0,p7⟩:=J2 O hz;rw[hm] at kz p7;have kX:=(J2 O hX).1;have kY:=(J2 O hY).1;rw[hm] at kX kY;have n4:=N7.sm _ _ m8;have p8:=N7.sm _ _ c1;obtain⟨h1,h2,h3⟩:=ZaS O (by rw[hm];exact kz);have o0:Jw t (ZJ t X Y)<(rs.map V.ref).length:=by omega
    obtain⟨rk,e1,_,e2⟩:=c3 _ _ (Zf o0);have q0:XH (rs.map V.ref) (Jw t (ZJ t X Y):Int)=some (.ref rk):=ZU (by rw[Zf o0,e1]);refine⟨_,rfl,_,rfl,r0,_,_,_,rfl,rfl,.of n4,ZaA hz,?_⟩;refine⟨_,rfl,_,rfl,c,_,_,_,rfl,rfl,.of p8,q0,rk,_,_,_,rfl,rfl,.of (N7.sm _ _ e2),ZU (j:=0) (by rw[Zc,h3];rfl),_,rfl,rfl,_,rfl,?_⟩;refine Y0 (fun h=>?_) (fun h=>?_)
    ·have he:hdT t (Jw t (ZJ t X Y))=ZJ t X Y:=by
      have h:V.int (hdT t (Jw t (ZJ t X Y)):Nat)=V.int (ZJ t X Y:Nat):=of_decide_eq_true h;injection h with h;omega
     refine⟨_,rfl,_,rfl,_,rfl,r0,_,_,_,rfl,rfl,.of n4,ZaA hX,L,_,_,_,rfl,rfl,.of N7.top,ZbD kX,_,rfl,_,rfl,r0,_,_,_,rfl,rfl,.of n4,ZaA hY,A (Jw t X),_,_,_,rfl,rfl,.of (N7.mid _ kX),ZbD kY,_,rfl,B (Jw t X) (Jw t Y),_,Jw t (ZJ t X Y),_,rfl,rfl,N7.low _ _ kX kY,Zg9 kz,_,_,rfl,rfl,B (Jw t X) (Jw t Y),_,_,Jw t (ZJ t X Y),rfl,rfl,N7.low _ _ kX kY,Jy (by rw[Za,VN];exact kz),?_⟩;refine⟨_,_,_,rfl,(N7.put (v:=ZF t.length (Jw t) (Cg t) X Y (Jw t X) (Jw t Y) (Jw t (ZJ t X Y))+1) kX kY kz).congr fun i j k hi hj hk=>?_⟩;rw[acc_step,ZgM];by_cases e:i=Jw t X/\j=Jw t Y/\k=Jw t (ZJ t X Y)
     ·obtain⟨rfl,rfl,rfl⟩:=e
      rw[if_pos ⟨rfl,rfl,rfl⟩,if_pos ⟨rfl,rfl,decide_eq_true he.symm⟩]
     ·rw[if_neg e,if_neg,gZ]
      rintro⟨z1,z2,z3⟩;have z3:ZJ t X Y=hdT t k:=of_decide_eq_true z3;refine e ⟨z1,z2,?_⟩;rw[z3];exact (ZaS O (by rw[hm];exact hk)).2.1.symm
    ·have he:hdT t (Jw t (ZJ t X Y))≠ZJ t X Y:=fun z=>h (by rw[z];exact decide_eq_true rfl)
     refine⟨_,_,_,rfl,N7.congr fun i j k hi hj hk=>?_⟩;rw[acc_step,ZgM,if_neg,gZ];rintro⟨z1,z2,z3⟩;have z3:ZJ t X Y=hdT t k:=of_decide_eq_true z3;have:=(ZaS O (by rw[hm];exact hk)).2.1;rw[<-z3] at this;rw[this] at he;exact he z3.symm
   ·rintro J H6 ⟨o8,o9,p4,rfl,N6⟩
    rw[Za,Xj O hX] at N6;exact⟨_,_,_,_,_,rfl,N6.congr fun i j k _ _ _=>ZjG _ _ _ _ _ _ _⟩
  ·rintro J H4 ⟨v4,v5,v6,v7,v8,rfl,N4⟩
   rw[el] at N4;have tl:((ac m).map fun i=>V.ref (A i)).length=m:=by rw[Za,Zg]
   refine⟨_,rfl,L,rfl,⟨_,.of N4.top⟩,?_⟩;refine ZjA (m:=m) (F:=cnG t) (Yz (K:=K) (.of N4.top)) [] rfl (by rw[tl];omega) tl (fun i y hy H5 U R k=>?_) (fun D ys H5 nD U hD k=>?_)
   ·obtain⟨hi,rfl⟩:=ZbC hy
    have ml:((ac m).map fun j=>V.ref (B i j)).length=m:=by rw[Za,Zg]
    have hA:=U _ _ (N4.mid i hi);refine⟨_,rfl,A i,rfl,⟨_,.of hA⟩,?_⟩;refine Zfs (m:=m) (F:=cnG t i) (Yz (K:=K) (.of hA)) [] rfl (by rw[ml];omega) ml (fun j y' n6 H6 s6 R' k'=>?_) (fun D r6 H6 nD s6 hD k'=>?_)
    ·obtain⟨hj,rfl⟩:=ZbC n6
     refine⟨_,rfl,B i j,_,rfl,.inl ⟨.of ((U.trans s6) _ _ (N4.low i j hi hj)),fun b nb=>?_⟩⟩;exact k' b _ (Same.upd nb) Zt
    ·refine⟨D,_,rfl,.inl ⟨.of hD,fun r nr=>?_⟩⟩
     exact k (r,r6) _ (s6.trans (Same.upd nr)) (k' r _ Zt (Same.upd nr))
   ·refine⟨D,_,rfl,.inl ⟨.of hD,fun r nr=>?_⟩⟩
    exact q r _ ((((s1.trans s2).trans N4.sm).trans U).trans (Same.upd nr)) (k r _ Zt (Same.upd nr))
end
end C40
namespace C40
open PySem L2 PySem.Spec PyProof.Rows
open Tb Pm
noncomputable abbrev Zgw:Stmt:=top 24
section
variable {t:List (List Nat)}{p m:Nat}{e ω φ:Nat->Nat->Nat}
theorem Xp (P:PW t){x:Nat}(j:x<t.length):Jw t x=YC t x:=by
 obtain⟨q,J,M⟩:=J2 P j;exact (Za2 P j q J).symm
theorem ZlV (P:PW t){i j k:Nat}(M:k<(Zy t t.length).length):cnG t i j k=UC t (YC t) i j (ZB t k):=by
 have q:ZB t k<t.length:=(Yw P).rl k M;have O:cnG t i j k=UC t (Jw t) i j (ZB t k):=by
  rw[<-U6 P q];show ZF t.length (Jw t) (Cg t) t.length 0 i j k=_;unfold ZF one Cg;rfl
 rw[O];unfold UC;refine ZM fun x J=>?_;rw[Xp P J,Xp P (P.lt _ _ (Yc P J).1 q)]
theorem WA.ext {H:Hp}{a b:Addr}{cs ds:List Addr}{U Y:List (Nat->Bool)}(m1:1<=m)(h:WA H a t p m e cs U)(g:WA H b t p m e ds Y):WA (upd H a (.lst (cs.map V.ref++ds.map V.ref))) a t p m e (cs++ds) (U++Y):=by
 have ne:∀{x:Addr}{v:Nat->Int},H x=some (.lst (ZD m v))->x≠a:=fun {x v} q=>VW q h.1 (VO m1).symm;refine⟨by rw[Zt,aT],by rw[Zd,Zd,h.2.1,g.2.1],fun j x q=>?_⟩;by_cases hj:j<cs.length
 ·rw[am hj] at q
  obtain⟨M,O,J⟩:=h.2.2 j x q;exact⟨M,by rw[am (by rw[<-h.2.1];exact hj)];exact O,by rw[Zx (ne J)];exact J⟩
 ·rw[aq (by omega)] at q
  obtain⟨M,O,J⟩:=g.2.2 _ x q;exact⟨M,by rw[aq (by rw[<-h.2.1];omega),<-h.2.1];exact O,by rw[Zx (ne J)];exact J⟩
end
theorem Zdu {t:List (List Nat)}{p m:Nat}{e j q:Nat->Nat->Nat}(C:CD t p m e j q)(J:PW t):[V.int 1]++(av (m-1) [V.int 0]).flatten=ZD m (Vc t p m e (JU fun _=>true)):=by
 have Y:=C.m1;have M:ZD m (Vc t p m e (JU fun _=>true))=ZD m (fun c=>if c=0 then 1 else 0):=YO fun c O=>Zl9 C J O
 rw[M];obtain⟨k,rfl⟩:∃k,m=k+1:=⟨m-1,by omega⟩;unfold ZD;rw[kB,aF,aU,dC];have:∀k a,(av k [V.int 0]).flatten=(cT a k).map fun _=>V.int 0:=fun k=>by
  induction k with
  |zero=>intro a;rfl
  |succ k U=>intro a;rw[bm,cg,U (a+1),c9,aF];rfl
 rw[this k 0,<-cS];rfl
structure ZoY (H:Hp)(L:Addr)(t:List (List Nat))(m:Nat)(e:Nat->Nat->Nat)(cs:List Addr)(ss:List Nat):Prop where
 at':H L=some (.lst (cs.map V.ref))
 len:cs.length=ss.length
 pm:ss.Perm (ac m)
 it:∀(j:Nat) b,cs[j]?=some b->H b=some (.lst (ZD m fun c=>(EC t e (ss.getD j 0) c:Int)))
noncomputable def ZdM:Sp:=fun J H Q _=>∃(q:Addr) (t:List (List Nat)) (p m:Nat) (e M O:Nat->Nat->Nat),J=[.ref q,.int p]/\CD t p m e M O/\PW t/\p<=100000/\C3 H q m (cnG t)/\∀L U Y j,Same H j->ZoY j L t m e U Y->Q (.ref L) j
section
variable {P:Program}{w:World}{K:ab}{mg:Str->Option Value}{base:Heap}
theorem Zg0 {f:Addr}{fd:FuncData}(F:WB K "taken_apart" "taken_apart" Zgw f fd)(T:Bl mg)(GP:Fn P w K mg base Yd 3 "parts_by" ["columns", "one", "p"] ZdF):Z5 P w K mg base Yd 4 f fd ["counts", "p"] ZdM:=by
 refine F.ok (FS (N:=["counts", "p", "found", "seconds", "columns", "finer", "one"])) (fun vs H Q E h=>?_) (fun t5 A p4 s H vs Q E hr h=>?_)
 ·obtain⟨ra,t,p,m,e,ω,φ,rfl,_⟩:=h;rfl
 ·obtain⟨ra,t,p,m,e,ω,φ,rfl,C,Y,pl,p6,q⟩:=h
  refine⟨_,Zs (ZE 2 rfl (ZS (pc (Zz ZcZ (ZS (pc Zw Zu)) (Zz Jv (ZS (pc Zw Zu)) (Zz Wh (cb (YF K) T.len (pc (vn 0) Zu)) Zw))) Zu)))
   (Zs (ZR ao rfl (itT K (vn 0)) (gnf 3 rfl)
    (Zv (WN (ZT ZbM (cb (YF K) T.len (pc (vn 2) Zu)) (cb (YF K) T.len (pc (vn 0) Zu)) (Z1 _))
     (Zs (Zge 4 ["k"] [3] ["k", "seconds"] rfl rfl (XM T.range (pc (cb (YF K) T.len (pc (vn 0) Zu)) Zu)) (fun _ _ _ _ _=>gnf 0 rfl) (fun _ _ _ _ _=>ZP)
      (fun _ _ _ _ _=>cmp ["ends"] [0] ["ends", "k"] rfl (itT K (vn 1)) (fun _ _ _ _ _=>gn 0) (fun _ _ _ _ _=>ZP) (fun _ _ _ _ _=>ZN (Xt K) (vn 0) (vn 1) (fun _ _=>rfl))))
     (Zs (ZE 5 rfl (ZS Zu))
     (Zs (ZR ao rfl (itL K (vn 2)) (gn 6)
      (Zv (Ya (Y6 aH kZ PySem.F.type_list_extend Ze8 (vn 5) (pc (Wd GP hr ZL (pc (vn 4) (pc (vn 6) (pc (vn 1) Zu)))) Zu)))))
     (Zv (ZE 2 rfl (vn 5)))))) YA)))
   (Zv (ZG (vn 2)))),?_⟩
  have p2:=C.pr.p2;have t6:=ZhZ C Y;have m1:=C.m1;have mc:=C.mc;have sz:(16777216:Nat)=sizeLine:=by decide
  obtain⟨rs,c1,c2,c3⟩:=id p6;have cl:(rs.map V.ref).length=m:=by rw[Za,c2]
  refine⟨(by show 1<=sizeLine;decide),fun a1 p7=>(?_:_)⟩;have s1:=Same.upd (H:=H) (o:=.lst [.int 1]) p7;have h1:upd H a1 (.lst [.int 1]) a1=some (.lst [.int 1]):=Zt;generalize upd H a1 (.lst [.int 1])=H1 at s1 h1 ⊢;refine⟨(by show 1<=sizeLine;decide),fun a2 p8=>?_⟩;have s2:=Same.upd (H:=H1) (o:=.lst [.int 0]) p8;have h2:upd H1 a2 (.lst [.int 0]) a2=some (.lst [.int 0]):=Zt;generalize upd H1 a2 (.lst [.int 0])=H2 at s2 h2 ⊢;have n8:=s1.trans s2;refine⟨_,rfl,ra,_,rfl,.inr (.of (n8 _ _ c1)),_,_,rfl,rfl,a2,_,_,rfl,rfl,h2,by rw[cl];omega,by rw[cl];omega,by rw[cl];show 1*((m:Int)-1).toNat<=sizeLine;omega,fun a3 q0=>?_⟩;have et:(((rs.map V.ref).length:Int)-1).toNat=m-1:=by rw[cl];omega
  rw[et];have s3:=Same.upd (H:=H2) (o:=.lst (av (m-1) [V.int 0]).flatten) q0;have h3:upd H2 a3 (.lst (av (m-1) [V.int 0]).flatten) a3=some (.lst (av (m-1) [V.int 0]).flatten):=Zt;generalize upd H2 a3 (.lst (av (m-1) [V.int 0]).flatten)=H3 at s3 h3 ⊢;have fl:(av (m-1) [V.int 0]).flatten.length<=60:=by
   have:=congrArg cJ (Zdu C Y);rw[ZY,Zd] at this;omega
  refine⟨a1,a3,_,_,rfl,rfl,(s2.trans s3) _ _ h1,h3,by show 1+_<=sizeLine;omega,fun a4 r6=>?_⟩;rw[Zdu C Y];have s4:=Same.upd (H:=H3) (o:=.lst (ZD m (Vc t p m e (JU fun _=>true)))) r6;have h4:upd H3 a4 (.lst (ZD m (Vc t p m e (JU fun _=>true)))) a4=some (.lst (ZD m (Vc t p m e (JU fun _=>true)))):=Zt;generalize upd H3 a4 (.lst (ZD m (Vc t p m e (JU fun _=>true))))=H4 at s4 h4 ⊢;refine⟨(by show 1<=sizeLine;decide),fun L nL=>?_⟩;have s5:=Same.upd (H:=H4) (o:=.lst [.ref a4]) nL;have h5:upd H4 L (.lst [.ref a4]) L=some (.lst [.ref a4]):=Zt;generalize upd H4 L (.lst [.ref a4])=H5 at s5 h5 ⊢;have n9:Same H H5:=((n8.trans s3).trans s4).trans s5;have P5:WA H5 L t p m e [a4] [fun _=>true]:=⟨h5,rfl,fun j b hb=>by
   cases j with
   |zero=>cases hb;exact⟨_,rfl,s5 _ _ h4⟩
   |succ j=>cases hb⟩
  refine⟨_,rfl,ra,rfl,⟨_,.of (n9 _ _ c1)⟩,?_⟩;have wj:∀s s',s<m->s'<m->(∀j,j<m->gW t ω j s=gW t ω j s')->s=s':=fun s s' hs o0 h=>C.sep s s' hs o0 fun u hu=>by
   have hc:=(Yw Y).lt u hu;rw[C.wat Y hs hu,C.wat Y o0 hu];exact h (YC t u) (by omega)
  refine Y8 (H0:=H) (YX (K:=K) (.of c1)) (fun i J H'=>∃(l:Addr) (cs:List Addr) (M:List (Nat->Bool)) (v3 v4 v5 v6:Option V),J=[some (.ref ra),some (.int (p:Nat)),some (.ref l),v3,v4,v5,v6]/\Same H H'/\WA H' l t p m e cs M/\JW m (fun s j=>gW t ω j s) i M)
   ⟨L,_,_,_,_,_,_,rfl,n9,P5,JW.zero m1 _⟩ (fun i J H' h=>by
    obtain⟨_,_,_,_,_,_,_,_,sm,_⟩:=h;exact sm) ?_ ?_
  ·rintro i y J H6 hy ⟨l,cs,M,v3,v4,v5,v6,rfl,s6,O,A6⟩
   have hi:i<m:=by
    have:=(aa.mp hy).1;rw[cl] at this;exact this
   rw[Zc,Zf (show i<rs.length by omega)] at hy;cases hy;obtain⟨es,e1,e2,e3⟩:=c3 i _ (Zf (show i<rs.length by omega));generalize rs[i]'(by omega)=sa at e1 ⊢;rw[Za,Zg] at e2;have el:(es.map V.ref).length=m:=by rw[Za,e2]
   have m9:(cs.map V.ref).length=M.length:=by rw[Za,O.2.1]
   refine⟨_,rfl,l,_,rfl,.inl (.of O.1),_,rfl,ra,_,rfl,.inr (.of (s6 _ _ c1)),_,_,rfl,rfl,_,rfl,?_⟩;rw[m9,cl];refine Y0 (fun o5=>?_) (fun o5=>?_)
   ·refine⟨_,rfl,ra,_,rfl,.inr (.of (s6 _ _ c1)),_,rfl,by rw[cl];omega,by rw[cl];omega,?_⟩
    rw[cl,Zj];refine Pm.YM (W:=Addr) id (fun k a H=>H a=some (.lst (ZD m (Vk t i k)))) (fun a H=>H a=none) (JL 0 m) [some (.ref sa)] rfl (by rw[Za,YK];omega) (fun k a H H' sm h=>sm _ _ h) (fun a H H' sm h=>sm.free h) (fun k a t7 t9 D o ys u5 h1 h2 h3 h4=>by rw[Zx (fun z=>by rw[z,h3] at h2;cases h2)];exact h1) (fun k y hy H7 s7 R k7=>?_) (fun D ws H7 nD s7 hD wl hw _=>?_)
    ·obtain⟨hk,rfl⟩:=Zaz hy
     have U:=s6.trans s7;refine⟨_,rfl,sa,rfl,⟨_,.of (U _ _ e1)⟩,?_⟩;refine Pm.WR (YX (K:=K) (.of (U _ _ e1))) [some (.int (k:Nat))] rfl (fun j=>V.int (Vk t i k j)) (by rw[el];omega) (fun j z hz H8 s8 R' k8=>?_) (fun D8 H8 r8 s8 o6=>?_)
     ·have hj:j<m:=by
       have:=(aa.mp hz).1;rw[el] at this;exact this
      rw[Zc,Zf (show j<es.length by omega)] at hz;cases hz;have hE:=e3 j _ (Zf (show j<es.length by omega));generalize es[j]'(by omega)=ea at hE ⊢;have row:((ac m).map fun j=>ZI m (cnG t i j)).getD j []=ZI m (cnG t i j):=by rw[Zb,Zc,ak hj];rfl
      rw[row] at hE;have r9:XH ((ZI m (cnG t i j)).map nV) (k:Int)=some (V.int (Vk t i k j)):=by
       refine ZU ?_;unfold ZI;rw[Zc,Zc,ak hk];show some (V.int ((cnG t i j k:Nat):Int))=some (V.int (Vk t i k j));unfold Vk;rw[ZlV Y (by omega)]
      exact⟨_,rfl,_,rfl,ea,_,_,_,rfl,rfl,.of ((U.trans s8) _ _ hE),r9,k8 H8 (Same.refl _)⟩
     ·rw[el] at o6
      exact k7 D8 H8 s8 o6 r8
    ·have hL:LLs H7 D m (Vk t i):=⟨ws,hD,by rw[wl,Za,YK],fun c b hb=>(hw c b hb).1⟩
     have U:=s6.trans s7;have P7:=O.mono s7;refine⟨(by show 0<=sizeLine;decide),fun Fn o7=>?_⟩;have s8:=Same.upd (H:=H7) (o:=.lst []) o7;have h8:upd H7 Fn (.lst []) Fn=some (.lst ([]:List V)):=Zt;generalize upd H7 Fn (.lst [])=H8 at s8 h8 ⊢;have P8:=P7.mono s8;refine⟨_,rfl,l,rfl,⟨_,.of P8.1⟩,?_⟩;refine Y8 (H0:=H7) (Yz (K:=K) (.of P7.1)) (fun j J H'=>∃(ds:List Addr) (Fs:List (Nat->Bool)) (v6:Option V),J=[some (.ref ra),some (.int (p:Nat)),some (.ref l),some (.ref sa),some (.ref D),some (.ref Fn),v6]/\Same H7 H'/\WA H' Fn t p m e ds Fs/\FiS m (gW t ω i) (M.take j) Fs)
      ⟨[],[],_,rfl,s8,⟨h8,rfl,fun j b hb=>by simp at hb⟩,by rw[fY];exact .nil⟩ (fun j J H' h=>by
       obtain⟨_,_,_,_,sm,_⟩:=h;exact sm) ?_ ?_
     ·rintro j y J H9 hy ⟨ds,Fs,v6,rfl,s9,P9,F9⟩
      have hj:j<M.length:=by
       have:=(aa.mp hy).1;rw[m9] at this;exact this
      rw[Zc,Zf (show j<cs.length by rw[O.2.1];exact hj)] at hy;cases hy;obtain⟨S,hS,hb⟩:=P7.2.2 j _ (Zf (show j<cs.length by rw[O.2.1];exact hj));generalize cs[j]'(by rw[O.2.1];exact hj)=b at hb ⊢;refine⟨_,rfl,.inl ⟨rfl,_,.of P9.1⟩,_,rfl,_,rfl,_,rfl,D,b,t,p,m,e,ω,φ,S,i,rfl,C,Y,hi,pl,hL.mono s9,s9 _ _ hb,fun B bs Ts u9 nB o8 pS pA=>?_⟩;have n4:=P9.mono o8;have m8:FiS m (gW t ω i) (M.take (j+1)) (Fs++Ts):=by
       rw[cR,hS];exact .snoc F9 pS
      have x6:Fs.length+Ts.length<=m:=by
       have hd:=m8.dj (cZ (iY _ _) A6.dj);have:=L2.Yl ((Fs++Ts).map (pkS m)) (ac m) (UN (fun T' n6=>(m8.out.1 T' n6).1) hd) (fun x hx=>by
        obtain⟨T',n6,rfl⟩:=aI.mp hx;exact ae.mpr (JX (m8.out.1 T' n6).1).1)
       rwa [Za,Zd,Zg] at this
      refine⟨Fn,B,_,_,rfl,rfl,n4.1,pA.1,by rw[Za,Za,n4.2.1,pA.2.1];omega,?_⟩;refine⟨ds++bs,Fs++Ts,_,rfl,(s9.trans o8).updr o7,?_,m8⟩;exact n4.ext m1 pA
     ·rintro J H9 ⟨ds,Fs,v6,rfl,s9,P9,F9⟩
      rw[m9,c7] at F9;exact⟨_,rfl,Fn,ds,Fs,_,_,_,_,rfl,U.trans s9,P9,A6.step F9⟩
   ·have t0:m<=M.length:=by
     apply ah;intro z;exact o5 (decide_eq_true (by omega))
    exact⟨l,cs,M,_,_,_,_,rfl,s6,O,A6.skip t0⟩
  ·rintro J H6 ⟨l,cs,M,v3,v4,v5,v6,rfl,s6,O,A6⟩
   rw[cl] at A6;obtain⟨hp,o9⟩:=A6.end wj;refine⟨_,rfl,q l cs (M.map (pkS m)) H6 s6 ⟨O.1,by rw[Za];exact O.2.1,hp,fun j b hb=>?_⟩⟩;obtain⟨S,h1,h2⟩:=O.2.2 j b hb;rw[h2];congr 2;have hS:S∈M:=aD h1;have e6:(M.map (pkS m)).getD j 0=pkS m S:=by rw[Zb,Zc,h1];rfl
   have pk:=(JX (A6.ne S hS)).1;refine YO fun c hc=>?_;rw[e6,<-ZnM C Y pk hc];refine JD (fun s hs=>?_) c;unfold JU;rw[o9 S hS s hs];by_cases z:s=pkS m S
   ·rw[if_pos z,if_pos (decide_eq_true z)]
   ·rw[if_neg z,if_neg (by rw[decide_eq_false z];decide)]
end
noncomputable abbrev Zgh:Stmt:=top 23
noncomputable def wkF (t:List (List Nat))(a k:Nat):Int:=(YC t (it t a k):Nat)
structure ZnL (H:Hp)(L:Addr)(t:List (List Nat))(n:Nat)(cs:List Addr):Prop where
 at':H L=some (.lst (cs.map V.ref))
 len:cs.length=n
 it:∀(c:Nat) b,cs[c]?=some b->H b=some (.lst (ZD (rdT t (ZB t c)) (wkF t (ZB t c))))
noncomputable def ZdA:Sp:=fun q H Q _=>∃(g:Addr) (t:List (List Nat)),q=[.ref g]/\GT H g t/\PW t/\∀L J j,Same H j->ZnL j L t (Zy t t.length).length J->Q (.ref L) j
noncomputable def but (H:Hp)(W:Addr):Hp:=fun b=>if b=W then none else H b
theorem Z8 {H:Hp}{W b:Addr}{o:HO}(h:H b=some o)(hb:b≠W):but H W b=some o:=by unfold but;rw[if_neg hb];exact h
theorem YB {H:Hp}{W b:Addr}{o:HO}(h:but H W b=some o):b≠W/\H b=some o:=by
 unfold but at h;by_cases z:b=W
 ·rw[if_pos z] at h;cases h
 ·rw[if_neg z] at h;exact⟨z,h⟩
theorem Zbc {cs:List Addr}{m:Nat}{v:Nat->Int}(j:1<=m):ZD m v≠cs.map V.ref:=(VO j).symm
section
variable {P:Program}{w:World}{K:ab}{mg:Str->Option Value}{base:Heap}
theorem ZgN {f:Addr}{fd:FuncData}(F:WB K "power_walks" "power_walks" Zgh f fd)(GN:Fn P w K mg base Yd 5 "class_numbers" ["group"] ZcL)(GC:Fn P w K mg base Yd 4 "classes_of" ["group"] JJ):Z5 P w K mg base Yd 6 f fd ["group"] ZdA:=by
 refine F.ok (FS (N:=["group", "numbers", "walks", "members", "walk", "a"])) (fun vs H Q E h=>?_) (fun u9 A p7 s H vs Q E hr h=>?_)
 ·obtain⟨g,t,rfl,_⟩:=h;rfl
 ·obtain⟨g,t,rfl,G,M,q⟩:=h
  refine⟨_,Zs (ZE 1 rfl (Wd GN hr ZL (pc (vn 0) Zu)))
   (Zs (ZE 2 rfl (ZS Zu))
   (Zs (ZR ao rfl (itT K (Wd GC hr ZL (pc (vn 0) Zu))) (gn 3)
    (Zs (ZE 4 rfl (ZS (pc Zw Zu)))
    (Zs (ZE 5 rfl (ZN (Xt K) (vn 3) Zw (fun _ _=>rfl)))
    (Zs (Z9 ao (ZT JY (vn 5) Zw (Z1 _))
     (Zs (Ya (Y6 aH aM aO ZV (vn 4) (pc (ZN (Xt K) (vn 1) (vn 5) (fun _ _=>rfl)) Zu)))
     (Zv (ZE 5 rfl (ZN (Xt K) (ZN (Xt K) (vn 0) (vn 5) (fun _ _=>rfl)) (ZN (Xt K) (vn 3) Zw (fun _ _=>rfl)) (fun _ _=>rfl))))))
    (Zv (Ya (Y6 aH aM aO ZV (vn 2) (pc (vn 4) Zu))))))))
   (Zv (ZG (vn 2))))),?_⟩
  have sz:(16777216:Nat)=sizeLine:=by decide
  have x6:=M.n60;have ul:=Wc (t:=t) t.length;have U:=Yw M;refine⟨_,rfl,g,t,rfl,G,M,fun r0 H1 s1 n6=>?_⟩;replace n6:H1 r0=some (.tup ((ZI t.length (Jw t)).map nV)):=n6;refine⟨(by show 0<=sizeLine;decide),fun W nW=>?_⟩;have s2:=Same.upd (H:=H1) (o:=.lst []) nW;have h2:upd H1 W (.lst []) W=some (.lst ([]:List V)):=Zt;generalize upd H1 W (.lst [])=H2 at s2 h2 ⊢;have o5:=s1.trans s2;refine⟨_,rfl,g,t,rfl,G.mono o5,M,fun c H3 s3 p8=>?_⟩;have o6:=o5.trans s3;have q0:H W=none:=s1.free nW;obtain⟨rs,c1,c2,c3⟩:=p8.row;have cl:(rs.map V.ref).length=(Zy t t.length).length:=by rw[Za,c2]
  have h3:=s3 _ _ h2;have n8:=(s2.trans s3) _ _ n6;generalize hm:(Zy t t.length).length=m at *;refine⟨c,rfl,⟨_,.of c1⟩,?_⟩;refine Y8 (H0:=but H3 W) (YX (K:=K) (.of (Z8 c1 (fun z=>by rw[z,h3] at c1;cases c1)))) (fun i J H'=>∃(cs:List Addr) (v3 v4 v5:Option V),J=[some (.ref g),some (.ref r0),some (.ref W),v3,v4,v5]/\Same (but H3 W) H'/\ZnL H' W t i cs)
   ⟨[],_,_,_,rfl,fun b o hb=>(YB hb).2,h3,rfl,fun c b hb=>by simp at hb⟩ (fun i J H' h=>by
    obtain⟨_,_,_,_,_,sm,_⟩:=h;exact sm) ?_ ?_
  ·rintro i y J O hy ⟨cs,v3,v4,v5,rfl,s4,W4⟩
   obtain⟨r,rfl,hi,Y⟩:=c3 i y hy;have k4:∀{b:Addr}{o:HO},H3 b=some o->b≠W->O b=some o:=fun {b o} hb z=>s4 b o (Z8 hb z);have hR:=U.rl i (by omega);obtain⟨m8,r6,o7⟩:=ZaS M (k:=i) (by omega);have r8:hdT t i=ZB t i:=rfl;rw[r8] at m8 r6 o7;generalize ha:ZB t i=a at *;obtain⟨rd,R⟩:=M.rd a m8;have r9:=ZaC R;have r1:=R.r1;have rn:=R.rn;have o8:=k4 Y (fun z=>by rw[z,h3] at Y;cases Y);have t0:=k4 n8 (fun z=>by rw[z,h3] at n8;cases n8);have G3:=G.mono o6;have G4:GT O g t:=by
    obtain⟨gs,g1,g2,g3⟩:=G3;refine⟨gs,k4 g1 (fun z=>by rw[z,h3] at g1;cases g1),g2,fun j b hb=>?_⟩;obtain⟨o,ho,t5⟩:=g3 j b hb;exact⟨o,k4 ho (fun z=>by rw[z,h3] at ho;cases ho),t5⟩
   refine⟨(by show 1<=sizeLine;decide),fun wk n9=>?_⟩;have s5:=Same.upd (H:=O) (o:=.lst [.int 0]) n9;have h5:upd O wk (.lst [.int 0]) wk=some (.lst (ZD 1 (wkF t a))):=by
    rw[Zt];show some (HO.lst [V.int 0])=some (HO.lst [V.int ((YC t (it t a 0):Nat):Int)]);rw[show it t a 0=0 from rfl,Uc M];rfl
   generalize upd O wk (.lst [.int 0])=H5 at s5 h5 ⊢;have m9:XH (((Zy t t.length).getD i []).map nV) 0=some (V.int (a:Nat)):=by
    refine ZU (j:=0) ?_;rw[Zc,o7];rfl
   have t6:=s5 _ _ o8;refine⟨_,rfl,r,_,_,_,rfl,rfl,.of t6,m9,?_⟩;have u5:∀{b:Addr}{o:HO},O b=some o->b≠wk:=fun {b o} hb z=>by rw[z,n9] at hb;cases hb
   refine Z6 (fun x J H'=>∃k:Nat,J=[some (.ref g),some (.ref r0),some (.ref W),some (.ref r),some (.ref wk),some (.int ((it t a k:Nat):Int))]/\Same O H'/\H' wk=some (.lst (ZD k (wkF t a)))/\1<=k/\k<=rd/\x=rd-k)
    (fun J H'=>∃v5:Option V,J=[some (.ref g),some (.ref r0),some (.ref W),some (.ref r),some (.ref wk),v5]/\Same O H'/\H' wk=some (.lst (ZD rd (wkF t a)))) ?hend ⟨rd-1,1,by rw[Zc8 M m8];rfl,s5,h5,Zq _,r1,rfl⟩ ?turn
   case hend=>
    rintro J H6 ⟨x8,rfl,s6,h6⟩;have o0:=s6 _ _ W4.at';have o9:∀{b:Addr}{v:Nat->Int}{n:Nat},1<=n->H6 b=some (.lst (ZD n v))->b≠W:=fun {b v n} hn hb=>VW hb o0 (Zbc hn);refine⟨_,rfl,.inl ⟨rfl,_,.of o0⟩,_,rfl,W,_,_,rfl,rfl,o0,by rw[Za,W4.len];omega,?_⟩;refine⟨cs++[wk],_,_,_,rfl,fun b o hb=>?_,⟨by rw[Zt,aT];rfl,by rw[Zd,W4.len];rfl,fun c' b hb=>?_⟩⟩
    ·rw[Zx (YB hb).1]
     exact (s4.trans s6) b o hb
    ·by_cases t7:c'<cs.length
     ·rw[am t7] at hb
      have p4:=s6 _ _ (W4.it c' b hb);obtain⟨x9,R'⟩:=M.rd (ZB t c') (U.rl c' (by have:=W4.len;omega));rw[Zx (o9 (by rw[ZaC R'];exact R'.r1) p4)];exact p4
     ·have hl:=(aa.mp hb).1
      rw[Zd,Zk] at hl;have ec:c'=cs.length:=by omega
      rw[aq (by omega),ec,cm] at hb;cases hb;rw[ec,W4.len,ha,r9,Zx (o9 r1 h6)];exact h6
   case turn=>
    rintro n4 x J H6 ⟨k,rfl,s6,h6,k1,kr,rfl⟩;have il:=Wr M m8 k;refine⟨_,rfl,rfl,_,rfl,?_⟩;refine Y0 (fun q1=>?_) (fun q1=>?_)
    ·have q1:=ZoG q1
     have kn:k≠rd:=fun z=>by rw[z,R.z] at q1;exact q1 rfl
     have t9:=s6 _ _ t0;have p6:XH ((ZI t.length (Jw t)).map nV) ((it t a k:Nat):Int)=some (V.int (wkF t a k)):=by
      refine ZU ?_;unfold ZI;rw[Zc,Zc,ak il];show some (V.int ((Jw t (it t a k):Nat):Int))=_;rw[Xp M il];rfl
     refine⟨_,fun _ _ z=>z,_,rfl,.inl ⟨rfl,_,.of h6⟩,_,rfl,_,rfl,r0,_,_,_,rfl,rfl,.of t9,p6,wk,_,_,rfl,rfl,h6,by rw[ZY];omega,?_⟩;rw[<-Zbb];have s7:Same O (upd H6 wk (.lst (ZD (k+1) (wkF t a)))):=s6.updr n9;have h7:upd H6 wk (.lst (ZD (k+1) (wkF t a))) wk=some (.lst (ZD (k+1) (wkF t a))):=Zt;generalize upd H6 wk (.lst (ZD (k+1) (wkF t a)))=H7 at s7 h7 ⊢;obtain⟨gr,ga,u1,_,u2,u3,u4⟩:=(G4.mono s7).at M il;refine⟨_,rfl,_,rfl,g,_,_,_,rfl,rfl,.of u1,u2,_,rfl,r,_,_,_,rfl,rfl,.of (s7 _ _ o8),m9,ga,_,_,_,rfl,rfl,u3.sq,u4 a m8,?_⟩;exact⟨rd-(k+1),by omega,k+1,rfl,s7,h7,by omega,by omega,rfl⟩
    ·have q1:=ZoH q1
     have:k=rd:=by
      apply ah;intro z;exact R.nz k k1 (by omega) (by omega)
     rw[this] at h6;exact n4 _ _ ⟨_,rfl,s6,h6⟩
  ·rintro J O ⟨cs,v3,v4,v5,rfl,s4,W4⟩
   rw[cl] at W4;exact⟨_,rfl,q W cs O (fun b o hb=>s4 b o (Z8 (o6 _ _ hb) (fun z=>by rw[z,q0] at hb;cases hb))) W4⟩
end
end C40
namespace N40
open PySem L2 PySem.Spec PyProof.Rows
noncomputable def top (i:Nat):Stmt:=PySem.Challenge.pw_classtab_k40_counts_by_tables.main.body.getD i (.Pass ⟨0,0,0,0⟩)
structure Bl (mg:Str->Option Value):Prop where
 list:mg "list"=none
 len:mg "len"=none
 abs:mg "abs"=none
 range:mg "range"=none
 tuple:mg "tuple"=none
 isi:mg "isinstance"=none
 all:mg "all"=none
 set:mg "set"=none
 repr:mg "repr"=none
 any:mg "any"=none
 int:mg "int"=none
 bool:mg "bool"=none
section
variable {P:Program}{w:World}{K:ab}{mg:Str->Option Value}{base:Heap}
end
section
variable {P:Program}{w:World}{K:ab}{mg:Str->Option Value}{base:Heap}
end
noncomputable abbrev ZdT:Stmt:=top 13
noncomputable abbrev ZmS:Stmt:=top 45
noncomputable def strip:Nat->Int->Int->Int
 |0,r,_=>r
 |g+1,r,p=>if r % p=0 then strip g (r / p) p else r
noncomputable def pr:Nat->Int->Int->List Int->List Int
 |0,_,_,ZF=>ZF
 |f+1,r,p,ZF=>if 1<r then pr f (strip 6 r p) (p+1) (if r % p=0 then ZF++[p] else ZF) else ZF
noncomputable def Zdh:Nat->Int->Int->Bool
 |0,r,_=>decide (r<=1)
 |f+1,r,p=>if 1<r then Zdh f (strip 6 r p) (p+1) else true
noncomputable def Ys (n:Int):List Int:=pr 100 n 2 []
noncomputable def ZbJ (n:Int):Int:=(Ys n).foldl (fun f p=>f / p*(p-1)) n
noncomputable def Zfg:Nat->Int->Int->Int
 |0,a,_=>a
 |f+1,a,b=>if 0<b then Zfg f b (a % b) else a
noncomputable def Zhx (a b:Int):Int:=Zfg 100 a b
noncomputable def Zke (n:Int):Int:=(((Wt 1 n.toNat).filter fun k=>decide (Zhx k n=1)).length:Nat)
noncomputable def okN (n:Nat):Bool:=Zdh 100 n 2 && (Ys n).all (fun p=>decide (2<=p) && decide (p<=60)) && decide (ZbJ n=Zke n) && decide (1<=ZbJ n) && decide (ZbJ n<=60)
theorem Zi4:((ac 61).all fun n=>n == 0 || okN n)=true:=by decide +kernel
theorem Zli {n:Nat}(q:1<=n)(J:n<=60):Zdh 100 n 2=true/\(∀p∈Ys n,2<=p/\p<=60)/\ZbJ n=Zke n/\1<=ZbJ n/\ZbJ n<=60:=by
 have h:=aN.mp Zi4 n (ae.mpr (by omega));have j:(n == 0)=false:=by simp;omega
 rw[j,fF] at h;unfold okN at h;simp only[af,decide_eq_true_eq,aN] at h;exact⟨h.1.1.1.1,h.1.1.1.2,h.1.1.2,h.1.2,h.2⟩
theorem V6 {r p:Int}(J:1<=r)(j:2<=p)(h:r % p=0):1<=r / p/\2*(r / p)<=r:=by
 have e:p*(r / p)=r:=Int.mul_ediv_cancel' (Int.dvd_of_emod_eq_zero h);generalize r / p=q at e;have M:1<=q:=by
  apply ah;intro O;have:p*q<=p*0:=Int.mul_le_mul_of_nonneg_left (by omega) (by omega);omega
 have:2*q<=p*q:=di j (by omega);omega
theorem Xc:∀(g:Nat) {r p:Int},1<=r->2<=p->1<=strip g r p/\strip g r p<=r
 |0,r,p,j,_=>⟨j,Int.le_refl _⟩
 |g+1,r,p,j,q=>by
  unfold strip;by_cases h:r % p=0
  ·rw[if_pos h]
   obtain⟨a,b⟩:=V6 j q h;have:=Xc g (r:=r / p) (p:=p) a q;omega
  ·rw[if_neg h];omega
theorem VD {g:Nat}{r p:Int}(h:¬r % p=0):strip g r p=r:=by
 cases g with
 |zero=>rfl
 |succ g=>unfold strip;rw[if_neg h]
noncomputable def Zbn:Sp:=fun q H Q _=>∃n:Nat,q=[.int n]/\1<=n/\n<=60/\∀l j,Same H j->j l=some (.lst ((Ys n).map V.int))->Q (.ref l) j
noncomputable def ZjX:Sp:=fun j H Q _=>∃a b:Int,j=[.int a,.int b]/\0<=b/\b<100/\Q (.int (Zhx a b)) H
section
variable {P:Program}{w:World}{K:ab}{mg:Str->Option Value}{base:Heap}
theorem Ze3 {f:Addr}{fd:FuncData}(F:WB K "primes_of" "primes_of" ZdT f fd)(T:Bl mg):Z5 P w K mg base Yd 1 f fd ["n"] Zbn:=by
 refine F.ok (FS (N:=["n", "primes", "rest", "p"])) (fun vs H Q E h=>?_) (fun o8 A n9 s H vs Q E hr h=>?_)
 ·obtain⟨n,rfl,_⟩:=h;rfl
 ·obtain⟨n,rfl,n1,n60,q⟩:=h
  obtain⟨n6,o9,_⟩:=Zli n1 n60;refine⟨_,Zs (ZE 1 rfl (ZS Zu)) (Zs (ZE 2 rfl (vn 0)) (Zs (ZE 3 rfl Zw)
   (Zs (Z9 ao (ZT Zeb (vn 2) Zw (Z1 _))
    (Zs (WN (ZT ZbN (Zz Z3 (vn 2) (vn 3)) Zw (Z1 _)) (Zv (Ya (Y6 aH aM aO ZV (vn 1) (pc (vn 3) Zu)))) YA)
    (Zs (Z9 ao (ZT ZbN (Zz Z3 (vn 2) (vn 3)) Zw (Z1 _)) (Zv (ZE 2 rfl (Zz Jg (vn 2) (vn 3)))))
    (Zv (Jt (i:=3) (Z0 (by kernel_rfl)) rfl (YL (by kernel_rfl)) Zw W2 (.inl rfl))))))
   (Zv (ZG (vn 1)))))),?_⟩
  refine⟨by decide,fun l hl=>⟨_,rfl,?_⟩⟩;have s1:Same H (upd H l (.lst [])):=Same.upd hl;refine Z6 (fun f O H'=>∃(r p:Int) (ZF:List Int),O=[some (.int n),some (.ref l),some (.int r),some (.int p)]/\H'=upd H l (.lst (ZF.map V.int))/\1<=r/\r<=60/\2<=p/\p+f=102/\ZF.length+f<=100/\Zdh f r p=true/\pr f r p ZF=Ys n)
   (fun O H'=>∃r p:Option V,O=[some (.int n),some (.ref l),r,p]/\H'=upd H l (.lst ((Ys n).map V.int))) ?hend ⟨100,n,2,[],rfl,rfl,by omega,by omega,by omega,by omega,by decide,n6,rfl⟩ ?turn
  case hend=>
   rintro O H' ⟨r,p,rfl,rfl⟩;exact⟨_,rfl,q l _ (Same.upd hl) Zt⟩
  case turn=>
   rintro m9 f O H' ⟨r,p,ZF,rfl,rfl,r1,o0,p2,pf,al,he,hp⟩;refine⟨_,rfl,_,_,rfl,rfl,_,rfl,?_⟩;refine Y0 (fun h1=>?_) (fun h1=>?_)
   rotate_left
   ·have h1:¬ 1<r:=fun z=>h1 (decide_eq_true z)
    refine m9 _ _ ⟨_,_,rfl,?_⟩;have:pr f r p ZF=ZF:=by cases f with|zero=>rfl|succ f=>unfold pr;rw[if_neg h1]
    rw[<-hp,this]
   have h1:1<r:=of_decide_eq_true h1;obtain⟨g,rfl⟩:∃g,f=g+1:=by
    cases f with
    |zero=>unfold Zdh at he;have:=of_decide_eq_true he;omega
    |succ g=>exact⟨g,rfl⟩
   refine⟨_,fun _ _ z=>z,?_⟩;unfold Zdh at he;unfold pr at hp;rw[if_pos h1] at he hp;have sz:(16777216:Nat)=sizeLine:=by decide
   refine⟨_,rfl,_,rfl,_,_,rfl,rfl,(by show (0:Int)<p;omega),rfl,_,rfl,?_⟩;obtain⟨j,n4,n8,hA⟩:∃j:List Int,j=(if r % p=0 then ZF++[p] else ZF)/\pr g (strip 6 r p) (p+1) j=Ys n/\j.length<=ZF.length+1:=⟨_,rfl,hp,by split <;> simp⟩
   obtain⟨o5,p4⟩:=Xc 6 (r:=r) (p:=p) r1 p2;refine Y0 (fun h2=>?_) (fun h2=>?_)
   ·have h2:r % p=0:=V.int.inj (of_decide_eq_true h2)
    refine⟨_,rfl,.inl ⟨rfl,_,.of Zt⟩,_,rfl,l,_,_,rfl,rfl,Zt,by rw[Za];omega,?_⟩;have e1:upd (upd H l (.lst (ZF.map V.int))) l (.lst (ZF.map V.int++[.int p]))=upd H l (.lst (j.map V.int)):=by
     rw[Zif,n4,if_pos h2,aT];rfl
    rw[e1];refine Z6 (fun m J M=>∃(U:Int) (g':Nat),J=[some (.int n),some (.ref l),some (.int U),some (.int p)]/\M=upd H l (.lst (j.map V.int))/\1<=U/\U<=60/\U<2 ^ g'/\strip g' U p=strip 6 r p/\m=U.toNat)
     (fun J M=>J=[some (.int n),some (.ref l),some (.int (strip 6 r p)),some (.int p)]/\M=upd H l (.lst (j.map V.int))) ?hend2 ⟨_,r,6,rfl,rfl,r1,o0,by omega,rfl,rfl⟩ ?turn2
    case hend2=>
     rintro J M ⟨rfl,rfl⟩;exact⟨_,rfl,_,_,rfl,rfl,g,by omega,strip 6 r p,p+1,j,rfl,rfl,o5,by omega,by omega,by omega,by omega,he,n8⟩
    case turn2=>
     rintro Y m J M ⟨U,g',rfl,rfl,a1,a2,a3,a4,rfl⟩;refine⟨_,rfl,_,rfl,_,_,rfl,rfl,(by show (0:Int)<p;omega),rfl,_,rfl,?_⟩;refine Y0 (fun h3=>?_) (fun h3=>?_)
     ·have h3:U % p=0:=V.int.inj (of_decide_eq_true h3)
      obtain⟨b1,b2⟩:=V6 a1 p2 h3;obtain⟨g2,rfl⟩:∃g2,g'=g2+1:=by
       cases g' with
       |zero=>simp at a3;omega
       |succ g2=>exact⟨g2,rfl⟩
      unfold strip at a4;rw[if_pos h3] at a4;refine⟨_,fun _ _ z=>z,_,rfl,_,rfl,_,_,rfl,rfl,⟨by omega,by omega⟩,(U / p).toNat,by omega,U / p,g2,rfl,rfl,b1,by omega,?_,a4,rfl⟩;rw[Int.pow_succ] at a3;omega
     ·have h3:¬U % p=0:=fun z=>h3 (decide_eq_true (congrArg V.int z))
      rw[VD h3] at a4;exact Y _ _ ⟨by rw[a4],rfl⟩
   ·have h2:¬r % p=0:=fun z=>h2 (decide_eq_true (congrArg V.int z))
    have e1:upd H l (.lst (ZF.map V.int))=upd H l (.lst (j.map V.int)):=by rw[n4,if_neg h2]
    rw[e1];have e2:strip 6 r p=r:=VD h2;refine Z6 (fun m J M=>J=[some (.int n),some (.ref l),some (.int r),some (.int p)]/\M=upd H l (.lst (j.map V.int)))
     (fun J M=>J=[some (.int n),some (.ref l),some (.int r),some (.int p)]/\M=upd H l (.lst (j.map V.int))) ?hend3 ⟨0,rfl,rfl⟩ ?turn3
    case hend3=>
     rintro J M ⟨rfl,rfl⟩;exact⟨_,rfl,_,_,rfl,rfl,g,by omega,r,p+1,j,rfl,rfl,r1,by omega,by omega,by omega,by omega,e2▸he,e2▸n8⟩
    case turn3=>
     rintro m8 m J M ⟨rfl,rfl⟩;refine⟨_,rfl,_,rfl,_,_,rfl,rfl,(by show (0:Int)<p;omega),rfl,_,rfl,?_⟩;exact ZlA (fun z=>h2 (V.int.inj (of_decide_eq_true z))) (m8 _ _ ⟨rfl,rfl⟩)
theorem Zle {f:Addr}{fd:FuncData}(F:WB K "_law_shared" "_law_shared" ZmS f fd):Z5 P w K mg base Yd 1 f fd ["_law_one", "_law_other"] ZjX:=by
 refine F.ok (FS (N:=["_law_one", "_law_other"])) (fun vs H Q E h=>?_) (fun m9 A m8 s H vs Q E hr h=>?_)
 ·obtain⟨a,b,rfl,_⟩:=h;rfl
 ·obtain⟨a,b,rfl,b0,b1,q⟩:=h
  refine⟨_,Zs (Z9 ao (ZT Zeb (vn 1) Zw (Z1 _)) (Zv (ZkX (i:=0) (j:=1) rfl (Z0 (by kernel_rfl)) rfl rfl (by decide) (YV (by kernel_rfl)) (YV (by kernel_rfl)) (pc (vn 1) (pc (Zz Z3 (vn 0) (vn 1)) Zu)) rfl)))
   (Zv (ZG (vn 0))),?_⟩
  refine Z6 (fun m M Y=>∃(a' J:Int),M=[some (.int a'),some (.int J)]/\Y=H/\0<=J/\J<m/\Zfg m a' J=Zhx a b) (fun M Y=>∃J:Option V,M=[some (.int (Zhx a b)),J]/\Y=H) ?hend ⟨100,a,b,rfl,rfl,b0,b1,rfl⟩ ?turn
  case hend=>
   rintro M Y ⟨J,rfl,rfl⟩;exact⟨_,rfl,q⟩
  case turn=>
   rintro U m M Y ⟨a',J,rfl,rfl,c0,c1,c2⟩;refine⟨_,rfl,_,_,rfl,rfl,_,rfl,?_⟩;obtain⟨m2,rfl⟩:∃m2,m=m2+1:=⟨m-1,by omega⟩;unfold Zfg at c2;refine Y0 (fun O=>?_) (fun O=>?_)
   ·have O:0<J:=of_decide_eq_true O
    rw[if_pos O] at c2;refine⟨_,fun _ _ z=>z,_,rfl,_,rfl,_,rfl,_,_,rfl,rfl,O,_,_,rfl,m2,by omega,J,a' % J,rfl,rfl,cD _ (by omega),?_,c2⟩;have:=bZ a' O;omega
   ·have O:¬ 0<J:=fun z=>O (decide_eq_true z)
    rw[if_neg O] at c2;exact U _ _ ⟨_,by rw[c2],rfl⟩
end
section
variable {P:Program}{w:World}{K:ab}{mg:Str->Option Value}{base:Heap}
theorem ZbB (m:Nat):(av m [V.int 0]).flatten=(av m (0:Int)).map V.int:=by
 induction m with
 |zero=>rfl
 |succ m j=>rw[bm,cg,j,bm];rfl
end
section
variable {P:Program}{w:World}{K:ab}{mg:Str->Option Value}{base:Heap}
end
end N40
namespace L2
open PySem PySem.Spec PyProof.Rows
end L2
namespace N40
open PySem L2 PySem.Spec PyProof.Rows
section
variable {P:Program}{w:World}{K:ab}{mg:Str->Option Value}{base:Heap}
end
end N40
set_option maxHeartbeats 1000000
namespace Num
noncomputable def co (a:List Int)(i:Nat):Int:=a.getD i 0
theorem YT (i:Nat):co [] i=0:=by simp[co]
theorem YQ (x:Int)(r:List Int):co (x::r) 0=x:=by simp[co]
theorem WH (x:Int)(r:List Int)(i:Nat):co (x::r) (i+1)=co r i:=by simp[co]
theorem J0 {a:List Int}{i:Nat}(h:a.length<=i):co a i=0:=by
 unfold co;rw[Zb,ag h];rfl
theorem Wj {a:List Int}{i:Nat}(h:i<a.length):a[i]?=some (co a i):=by
 unfold co;rw[Zb,Zf h];rfl
noncomputable def Uv:List Int->List Int->List Int
 | [],b=>b
 |a,[]=>a
 |x::a,y::b=>(x+y)::Uv a b
noncomputable def vsc (c:Int)(a:List Int):List Int:=a.map (c * ·)
theorem XA:∀(a b:List Int) (i:Nat),co (Uv a b) i=co a i+co b i
 | [],b,i=>by rw[Uv,YT,eO]
 |x::a,[],i=>by rw[Uv,YT,cK];intro z;cases z
 |x::a,y::b,0=>by rw[Uv,YQ,YQ,YQ]
 |x::a,y::b,i+1=>by rw[Uv,WH,WH,WH,XA a b i]
theorem Zdj (c:Int):∀(a:List Int) (i:Nat),co (vsc c a) i=c*co a i
 | [],i=>by unfold vsc;rw[fh,YT,cz]
 |x::a,0=>by unfold vsc;rw[aF,YQ,YQ]
 |x::a,i+1=>by
  have:=Zdj c a i;unfold vsc at this ⊢;rw[aF,WH,WH,this]
noncomputable def W3:List Int->List (List Int)->List Int
 |_,[]=>[]
 |a,r::j=>Uv (vsc (co a 0) r) (W3 a.tail j)
theorem ZjB (a:List Int)(i:Nat):co a.tail i=co a (i+1):=by
 cases a with
 |nil=>rw[List.tail_nil,YT,YT]
 |cons x r=>rw[c8,WH]
theorem ZW (a:List Int)(r:List Int)(q:List (List Int))(j:Nat):co (W3 a (r::q)) j=co a 0*co r j+co (W3 a.tail q) j:=by
 rw[W3,XA,Zdj]
noncomputable def ro (R:List (List Int))(i:Nat):List Int:=R.getD i []
theorem Zax (r:List Int)(j:List (List Int)):ro (r::j) 0=r:=by simp[ro]
theorem Zay (r:List Int)(j:List (List Int))(i:Nat):ro (r::j) (i+1)=ro j i:=by simp[ro]
theorem ZkM (i:Nat):ro [] i=[]:=by simp[ro]
theorem ZaO (j:Nat)(v:Int):∀(a:List Int) (i:Nat) (R:List (List Int)),i<a.length->co (W3 (a.set i v) R) j=co (W3 a R) j+(v-co a i)*co (ro R i) j
 |a,i,[],h=>by rw[ZkM,YT,cz,cK];unfold W3;rfl
 | [],i,r::q,h=>by cases h
 |x::a,0,r::q,h=>by
  rw[List.set_cons_zero,ZW,ZW,YQ,YQ,Zax,c8,c8,lV];omega
 |x::a,i+1,r::q,h=>by
  rw[List.set_cons_succ,ZW,ZW,YQ,YQ,WH,Zay,c8,c8,ZaO j v a i q (cI h)];omega
theorem Xs:∀(R:List (List Int)) (j:Nat),co (W3 [] R) j=0
 | [],j=>by unfold W3;exact YT j
 |r::q,j=>by rw[ZW,YT,List.tail_nil,Xs q j,cn,cK]
theorem UU:∀(m:Nat) (R:List (List Int)) (j:Nat),co (W3 (av m 0) R) j=0
 |0,R,j=>Xs R j
 |m+1,[],j=>by unfold W3;exact YT j
 |m+1,r::q,j=>by rw[ZW,bm,YQ,c8,UU m q j,cn,cK]
noncomputable def sig (n:Nat)(R:List (List Int))(j:Nat):List Int->Nat->Int
 | [],_=>0
 |x::q,k=>x*co (ro R (k % n)) j+sig n R j q (k+1)
noncomputable def Va (n:Nat):List Int->Nat->List Int->List Int
 | [],_,ZF=>ZF
 |x::j,k,ZF=>Va n j (k+1) (ZF.set (k % n) (co ZF (k % n)+x))
noncomputable def Zce (n:Nat)(j:List Int):List Int:=Va n j 0 (av n 0)
theorem Zb6 (n:Nat)(q:0<n)(R:List (List Int))(j:Nat):∀(J:List Int) (k:Nat) (ZF:List Int),ZF.length=n->co (W3 (Va n J k ZF) R) j=co (W3 ZF R) j+sig n R j J k
 | [],k,ZF,h=>by rw[Va,sig,cK]
 |x::M,k,ZF,h=>by
  rw[Va,Zb6 n q R j M (k+1) _ (by rw[bK,h]),ZaO j _ ZF (k % n) R (by rw[h];exact bW _ q),sig];have e:co ZF (k % n)+x-co ZF (k % n)=x:=by omega
  rw[e];omega
theorem Ze9 (n:Nat)(J:0<n)(R:List (List Int))(q:List Int)(j:Nat):co (W3 (Zce n q) R) j=sig n R j q 0:=by
 unfold Zce;rw[Zb6 n J R j q 0 _ (dI ..),UU,eO]
noncomputable def lk (n:Nat)(s:Nat)(g:Nat->Int):Nat->Int:=fun k=>g k-g ((k+(n-s)) % n)
noncomputable def Ut (n:Nat)(j:List Nat)(g:Nat->Int):Nat->Int:=j.foldl (fun g s=>lk n s g) g
theorem Zej (n:Nat):∀(j:List Nat) (g h:Nat->Int) (k:Nat),Ut n j (fun t=>g t+h t) k=Ut n j g k+Ut n j h k
 | [],g,h,k=>rfl
 |s::j,g,h,k=>by
  show Ut n j (lk n s fun t=>g t+h t) k=Ut n j (lk n s g) k+Ut n j (lk n s h) k;rw[<-Zej n j (lk n s g) (lk n s h) k];congr 1;funext t;unfold lk;show g t+h t-(g ((t+(n-s)) % n)+h ((t+(n-s)) % n))=_;omega
theorem Zhd (n:Nat)(c:Int):∀(j:List Nat) (g:Nat->Int) (k:Nat),Ut n j (fun t=>c*g t) k=c*Ut n j g k
 | [],g,k=>rfl
 |s::j,g,k=>by
  show Ut n j (lk n s fun t=>c*g t) k=c*Ut n j (lk n s g) k;rw[<-Zhd n c j (lk n s g) k];congr 1;funext t;unfold lk;rw[jD]
theorem Zb4 (n:Nat):∀(j:List Nat) (k:Nat),Ut n j (fun _=>0) k=0
 | [],k=>rfl
 |s::j,k=>by
  show Ut n j (lk n s fun _=>0) k=0;have:(lk n s fun _=>(0:Int))=fun _=>0:=by funext t;unfold lk;rfl
  rw[this];exact Zb4 n j k
theorem W6 (n:Nat)(J:0<n):∀(j:List Nat) (g h:Nat->Int),(∀t,t<n->g t=h t)->∀k,k<n->Ut n j g k=Ut n j h k
 | [],g,h,e,k,q=>e k q
 |s::j,g,h,e,k,q=>by
  refine W6 n J j (lk n s g) (lk n s h) (fun t M=>?_) k q;unfold lk;rw[e t M,e _ (bW _ J)]
noncomputable def lkL (n s:Nat)(a:List Int):List Int:=List.zipWith (· - ·) a (a.drop s++a.take s)
theorem Zek {n s:Nat}{a:List Int}(h:a.length=n):(lkL n s a).length=n:=by
 unfold lkL;rw[List.length_zipWith,Zd,bt,b9];omega
theorem ZlU {n s k:Nat}{a:List Int}(h:a.length=n)(Y:s<=n)(J:k<n):co (lkL n s a) k=co a k-co a ((k+s) % n):=by
 have hl:(a.drop s++a.take s).length=n:=by
  rw[Zd,bt,b9];omega
 have M:(lkL n s a)[k]?=some (a[k]'(by omega)-(a.drop s++a.take s)[k]'(by omega)):=by
  unfold lkL;rw[List.getElem?_zipWith,Zf (by omega),Zf (by omega)]
 have g2:=Wj (a:=lkL n s a) (i:=k) (by rw[Zek h];exact J);rw[M] at g2;have O:co a k=a[k]'(by omega):=by
  have:=Wj (a:=a) (i:=k) (by omega);rw[Zf (by omega)] at this;exact (aw this).symm
 have U:co a ((k+s) % n)=(a.drop s++a.take s)[k]'(by omega):=by
  have j:(k+s) % n<a.length:=by rw[h];exact bW _ (by omega)
  have:=Wj (a:=a) j;rw[Zf j] at this;rw[<-aw this];by_cases hc:k<n-s
  ·have q:(k+s) % n=k+s:=bF (by omega)
   rw[List.getElem_append_left (by rw[bt];omega),List.getElem_drop];congr 1;omega
  ·have q:(k+s) % n=k+s-n:=by
    rw[mz (by omega),bF (by omega)]
   rw[List.getElem_append_right (by rw[bt];omega),List.getElem_take];congr 1;rw[bt];omega
 rw[O,U];exact (aw g2).symm
noncomputable def Zlt (n:Nat)(j:List Nat)(a:List Int):List Int:=j.foldl (fun a s=>lkL n (n-s) a) a
theorem ZeA {n:Nat}:∀(j:List Nat) (a:List Int),a.length=n->∀k,k<n->co (Zlt n j a) k=Ut n j (co a) k
 | [],a,h,k,q=>rfl
 |s::j,a,h,k,q=>by
  show co (Zlt n j (lkL n (n-s) a)) k=Ut n j (lk n s (co a)) k;rw[ZeA j _ (Zek h) k q];exact W6 n (by omega) j _ _ (fun t J=>ZlU h (Nat.sub_le _ _) J) k q
noncomputable def YJ:Nat->(Nat->Int)->Int
 |0,_=>0
 |n+1,f=>f 0+YJ n fun t=>f (t+1)
theorem Wf:∀(n:Nat) (f g:Nat->Int),(∀t,t<n->f t=g t)->YJ n f=YJ n g
 |0,f,g,h=>rfl
 |n+1,f,g,h=>by rw[YJ,YJ,h 0 (lq _),Wf n _ _ fun t j=>h (t+1) (gN j)]
theorem XI:∀(n:Nat) (f:Nat->Int),(∀t,t<n->f t=0)->YJ n f=0
 |0,f,h=>rfl
 |n+1,f,h=>by rw[YJ,h 0 (lq _),XI n _ fun t j=>h (t+1) (gN j),cK]
theorem Zbi:∀(n j:Nat) (f:Nat->Int),j<n->(∀t,t<n->t≠j->f t=0)->YJ n f=f j
 |0,j,f,q,h=>absurd q (dG _)
 |n+1,0,f,q,h=>by rw[YJ,XI n _ fun t J=>h (t+1) (gN J) (jm _),cK]
 |n+1,j+1,f,q,h=>by
  rw[YJ,h 0 (lq _) (jm _).symm,eO];exact Zbi n j (fun t=>f (t+1)) (cI q) fun t J M=>h (t+1) (gN J) fun z=>M (c6 z)
theorem Zel (j:Nat):∀(R:List (List Int)) (a:List Int),co (W3 a R) j=YJ R.length fun t=>co a t*co (ro R t) j
 | [],a=>by rw[W3,YT];rfl
 |r::q,a=>by
  rw[ZW,Zel j q a.tail,Zi,YJ,Zax];congr 1;refine Wf _ _ _ fun t J=>?_;rw[ZjB,Zay]
noncomputable def YG (n k:Nat):List Int:=(ac n).map fun t=>if t=k then 1 else 0
theorem Za0 {n k t:Nat}(h:t<n):co (YG n k) t=if t=k then 1 else 0:=by
 unfold YG co;rw[Zb,Zc,ak h];rfl
noncomputable def stN (step:Nat):List Int->Nat->List Int->List Int
 | [],_,ZF=>ZF
 |x::j,k,ZF=>stN step j (k+1) (ZF.set (k*step) x)
noncomputable def stM (j:List Int)(step:Nat):List Int:=stN step j 0 (av ((j.length-1)*step+1) 0)
theorem Zdy (step:Nat):∀(j:List Int) (k:Nat) (ZF:List Int),(stN step j k ZF).length=ZF.length
 | [],k,ZF=>rfl
 |x::q,k,ZF=>by rw[stN,Zdy step q,bK]
theorem Zdz (j:List Int)(step:Nat):(stM j step).length=(j.length-1)*step+1:=by unfold stM;rw[Zdy,Ze]
noncomputable def Us:List Int->Nat->Int->List Int->List Int
 | [],_,_,rest=>rest
 |d::j,b,c,rest=>Us j (b+1) c (rest.set b (co rest b-c*d))
theorem Zd7:∀(ds:List Int) (b:Nat) (c:Int) (rest:List Int),(Us ds b c rest).length=rest.length
 | [],b,c,rest=>rfl
 |d::ds,b,c,rest=>by rw[Us,Zd7 ds,bK]
noncomputable def ZgE (ds:List Int)(top:Nat):Nat->List Int->List Int->List Int
 |0,found,_=>found
 |k+1,found,rest=>ZgE ds top k (found.set k (co rest (k+top))) (Us ds k (co rest (k+top)) rest)
noncomputable def Zd5 (j ds:List Int):List Int:=ZgE ds (ds.length-1) (j.length-(ds.length-1)) (av (j.length-(ds.length-1)) 0) j
theorem ZhU {a:List Int}{i k:Nat}{v:Int}:co (a.set i v) k=if i=k/\i<a.length then v else co a k:=by
 unfold co;rw[Zb,gq,Zb];by_cases h:i=k
 ·subst h
  by_cases j:i<a.length
  ·rw[if_pos rfl,if_pos j,if_pos ⟨rfl,j⟩];rfl
  ·rw[if_pos rfl,if_neg j,if_neg fun z=>j z.2,ag (by omega)]
 ·rw[if_neg h,if_neg fun z=>h z.1]
theorem ZcX (c:Int):∀(ds:List Int) (b:Nat) (rest:List Int) (i:Nat),b+ds.length<=rest.length->co (Us ds b c rest) i=if b<=i/\i<b+ds.length then co rest i-c*co ds (i-b) else co rest i
 | [],b,rest,i,h=>by rw[Us,if_neg (by rw[jw];omega)]
 |d::ds,b,rest,i,h=>by
  rw[Zi] at h ⊢;rw[Us,ZcX c ds (b+1) _ i (by rw[bK];omega),ZhU];by_cases j:i=b
  ·subst j
   rw[if_neg (by omega),if_pos ⟨rfl,by omega⟩,if_pos ⟨Zq _,by omega⟩,cm,YQ]
  ·rw[if_neg (show ¬(b=i/\b<rest.length) from fun z=>j z.1.symm)]
   by_cases q:b+1<=i/\i<b+1+ds.length
   ·rw[if_pos q,if_pos ⟨by omega,by omega⟩,show i-b=(i-(b+1))+1 by omega,WH]
   ·rw[if_neg q,if_neg (by omega)]
theorem Zhe (d:Int)(ds:List Int)(R:List (List Int))(b j:Nat):co (W3 (d::ds) (R.drop b)) j=d*co (ro R b) j+co (W3 ds (R.drop (b+1))) j:=by
 by_cases h:b<R.length
 ·rw[bU h,ZW,YQ,c8]
  congr 2;unfold ro;rw[Zb,Zf h];rfl
 ·rw[fj (by omega),fj (by omega)]
  unfold ro;rw[Zb,ag (by omega)];show co (W3 (d::ds) []) j=d*co [] j+co (W3 ds []) j;rw[W3,W3,YT,cz,cK]
theorem Zem (c:Int)(R:List (List Int))(j:Nat):∀(ds:List Int) (b:Nat) (rest:List Int),b+ds.length<=rest.length->co (W3 (Us ds b c rest) R) j=co (W3 rest R) j-c*co (W3 ds (R.drop b)) j
 | [],b,rest,h=>by rw[Us,Xs,cz,lA]
 |d::ds,b,rest,h=>by
  rw[Zi] at h;rw[Us,Zem c R j ds (b+1) _ (by rw[bK];omega),ZaO j _ rest b R (by omega),Zhe,Int.mul_add];have e:(co rest b-c*d-co rest b)*co (ro R b) j=- (c*(d*co (ro R b) j)):=by
   rw[show co rest b-c*d-co rest b=-(c*d) by omega,gD,ci]
  rw[e];omega
noncomputable def J4 (s:List Int×Int)(p:Int):List Int×Int:=(Zd5 (stM s.1 p.toNat) s.1,s.2*p)
noncomputable def W1 (n:Nat)(j:List Int):List Int:=stM (j.foldl J4 ([-1,1],1)).1 ((n:Int) / (j.foldl J4 ([-1,1],1)).2).toNat
noncomputable def small (a:List Int):Bool:=a.all fun x=>decide (x.natAbs<=100)
noncomputable def Zjd (s:List Int×Int):Bool:=small s.1 && decide (2<=s.1.length) && decide (s.1.length<=61) && decide (1<=s.2) && decide (s.2<=60)
noncomputable def Xr (s:List Int×Int):List Int->Bool
 | []=>Zjd s
 |p::j=>Zjd s && decide (2<=p) && decide (p<=60) && Xr (J4 s p) j
noncomputable def WP (j:List Int)(top:Nat)(r:List Int):List Int:=Uv (0::r.take (top-1)) (vsc (- co r (top-1)) (j.take top))
noncomputable def Z7 (j:List Int)(top:Nat):Nat->List Int->List (List Int)
 |0,_=>[]
 |m+1,r=>r::Z7 j top m (WP j top r)
noncomputable def RT (n:Nat)(j:List Int):List (List Int):=Z7 (W1 n j) ((W1 n j).length-1) n (YG ((W1 n j).length-1) 0)
noncomputable def ZjF (a:List Int):Bool:=a.all fun x=>x == 0
noncomputable def VE (n:Nat)(j:List Int):List Nat:=j.map fun p=>n / p.toNat
noncomputable def Xb (n:Nat)(R:List (List Int))(j s:Nat):Nat->List Int
 |0=>[]
 |m+1=>Uv (Xb n R j s m) (ro R ((j+m*s) % n))
theorem Za1 {a:List Int}(h:ZjF a=true)(i:Nat):co a i=0:=by
 by_cases j:i<a.length
 ·have:=Wj j
  have q:=aN.mp h _ (aD this);simpa using q
 ·exact J0 (by omega)
theorem Ub {a:List Int}(h:small a=true)(i:Nat):(co a i).natAbs<=100:=by
 by_cases j:i<a.length
 ·have:=Wj j
  have q:=aN.mp h _ (aD this);simpa using q
 ·rw[J0 (by omega)];decide
structure Good (n:Nat)(ps least:List Int)(top:Nat)(R:List (List Int)):Prop where
 n1:1<=n
 ls:Xr ([-1,1],1) ps=true
 l2:least.length=top+1
 t1:1<=top
 tn:top<=n
 sm:small least=true
 mon:co least top=1
 len:R.length=n
 rsm:∀i j,(co (ro R i) j).natAbs<=100
 rlen:∀i,i<n->(ro R i).length=top
 un:∀k,k<top->ro R k=YG top k
 tails:∀m,m<n-top->∀j,co (W3 least (R.drop m)) j=0
 look:∀k,k<n->∀t,t<n->Ut n (VE n ps) (fun t=>co (ro R k) t-if t=k then 1 else 0) t=0
 row:∀p∈ps,∀a,a<n->∀j,co (Xb n R a (n / p.toNat) p.toNat) j=0
 nz:∀k,k<n->∃j,j<top/\co (ro R k) j≠0
 div:∀p∈ps,p.toNat*(n / p.toNat)=n
theorem ZmX {R:List (List Int)}{i:Nat}(h:R.length<=i):ro R i=[]:=by
 unfold ro;rw[Zb,ag h];rfl
noncomputable def Znn {β:Type}(x:Int)(k:Int->β):β:=match x with
 | .ofNat m=>(match m with
  |0=>k (.ofNat 0)
  |m+1=>k (.ofNat (m+1)))
 | .negSucc m=>(match m with
  |0=>k (.negSucc 0)
  |m+1=>k (.negSucc (m+1)))
theorem Zjt {β:Type}(x:Int)(k:Int->β):Znn x k=k x:=by
 cases x with
 |ofNat m=>cases m <;> rfl
 |negSucc m=>cases m <;> rfl
noncomputable def fL {β:Type}:List Int->(List Int->β)->β
 | [],k=>k []
 |x::j,k=>Znn x fun y=>fL j fun q=>k (y::q)
theorem Zcg {β:Type}:∀(a:List Int) (k:List Int->β),fL a k=k a
 | [],k=>rfl
 |x::j,k=>by rw[fL,Zjt,Zcg j]
noncomputable def nx (j:List Int)(top:Nat):Nat->List Int->List Int
 |0,r=>r
 |m+1,r=>nx j top m (WP j top r)
noncomputable def nxB (j:List Int)(top:Nat):Nat->List Int->(List Int->Bool)->Bool
 |0,r,k=>k r
 |m+1,r,k=>fL (WP j top r) fun q=>nxB j top m q k
theorem Zg4 (j:List Int)(top:Nat):∀(m:Nat) (r:List Int) (k:List Int->Bool),nxB j top m r k=k (nx j top m r)
 |0,r,k=>rfl
 |m+1,r,k=>by rw[nxB,Zcg,Zg4 j top m,nx]
noncomputable def ZdX (j:List Int)(top:Nat):Nat->Nat->List Int->Bool
 |0,_,r=>decide (r=YG top 0)
 |m+1,k,r=>small r && decide (r.length=top) && (decide (top<=k) || decide (r=YG top k)) && fL (WP j top r) (ZdX j top m (k+1))
noncomputable def Zil (q:List Int)(top s:Nat):Nat->List Int->List Int->Bool
 |0,_,ZF=>ZjF ZF
 |j+1,r,ZF=>fL (Uv ZF r) fun J=>nxB q top s r fun M=>Zil q top s j M J
noncomputable def ZnH (n:Nat)(q:List Int)(j:List Int)(top:Nat):Bool:=
 decide (2<=j.length) && decide (top+1<=n\/(n=1/\top=1)) && small j && decide (co j top=1) && ZdX j top n 0 (YG top 0) && ZjF (W3 j (Z7 j top (top+1) (YG top 0))) &&
  (decide (n=1) || ZjF (Zlt n (VE n q) (j++av (n-(top+1)) 0))) && q.all (fun p=>decide (p.toNat*(n / p.toNat)=n) && Zil j top (n / p.toNat) p.toNat (YG top 0) [])
noncomputable def chk (n:Nat)(q:List Int):Bool:=Xr ([-1,1],1) q && fL (W1 n q) fun j=>ZnH n q j (j.length-1)
theorem VL (j:List Int)(top:Nat):∀(m:Nat) (r:List Int),(Z7 j top m r).length=m
 |0,r=>rfl
 |m+1,r=>by rw[Z7,Zi,VL j top m]
theorem Jh (j:List Int)(top:Nat):∀(m:Nat) (r:List Int),nx j top (m+1) r=WP j top (nx j top m r)
 |0,r=>rfl
 |m+1,r=>by rw[nx,Jh j top m (WP j top r),nx]
theorem Zg3 (j:List Int)(top a:Nat):∀(b:Nat) (r:List Int),nx j top (a+b) r=nx j top b (nx j top a r)
 |0,r=>rfl
 |b+1,r=>by rw[Nat.add_succ,Jh,Jh,Zg3 j top a b r]
theorem ZdZ (j:List Int)(top:Nat):∀(m:Nat) (r:List Int) (k:Nat),k<m->ro (Z7 j top m r) k=nx j top k r
 |0,r,k,h=>absurd h (dG _)
 |m+1,r,0,h=>by rw[Z7,Zax,nx]
 |m+1,r,k+1,h=>by rw[Z7,Zay,ZdZ j top m _ k (cI h),nx]
theorem Zbw (j:List Int)(top:Nat):∀(m k:Nat) (r:List Int),ZdX j top m k r=true->
  nx j top m r=YG top 0/\∀i,i<m->small (nx j top i r)=true/\(nx j top i r).length=top/\(k+i<top->nx j top i r=YG top (k+i))
 |0,k,r,h=>⟨of_decide_eq_true h,fun i J=>absurd J (dG _)⟩
 |m+1,k,r,h=>by
  rw[ZdX,Zcg] at h;simp only[af,decide_eq_true_eq,bg] at h;obtain⟨⟨⟨M,O⟩,q⟩,U⟩:=h;obtain⟨Y,g2⟩:=Zbw j top m (k+1) _ U;refine⟨by rw[nx];exact Y,fun i J=>?_⟩;cases i with
  |zero=>
   refine⟨M,O,fun z=>?_⟩;rcases q with q|q
   ·omega
   ·exact q
  |succ i=>
   obtain⟨q1,q2,q3⟩:=g2 i (cI J);rw[nx];exact⟨q1,q2,fun z=>by rw[q3 (by omega)];congr 1;omega⟩
theorem JQ (j:List Int)(top:Nat)(r:List Int)(i:Nat):co (WP j top r) i=(if i=0\/top<=i then 0 else co r (i-1))-co r (top-1)*co (j.take top) i:=by
 have e:co (0::r.take (top-1)) i=if i=0\/top<=i then 0 else co r (i-1):=by
  cases i with
  |zero=>rw[YQ,if_pos (.inl rfl)]
  |succ i=>
   rw[WH,dC];by_cases h:i<top-1
   ·rw[if_neg (by omega)]
    unfold co;rw[Zb,Zb,fZ,if_pos h]
   ·rw[if_pos (by omega)]
    exact J0 (by rw[b9];omega)
 unfold WP;rw[XA,Zdj,e,gD];omega
theorem XQ (j:List Int)(top:Nat){r:List Int}(h:∀i,co r i=0)(i:Nat):co (WP j top r) i=0:=by
 rw[JQ,h,h,cn];split <;> rfl
theorem ZbV (j:List Int)(top:Nat)(i:Nat):∀(Q:List (List Int)) (a:List Int),co (WP j top (W3 a Q)) i=co (W3 a (Q.map (WP j top))) i
 | [],a=>by
  rw[fh];refine (XQ j top (fun t=>?_) i).trans ?_
  ·rw[W3];exact YT t
  ·rw[W3];exact (YT i).symm
 |q::J,a=>by
  rw[aF,ZW,<-ZbV j top i J a.tail,JQ,JQ,JQ,ZW,ZW];by_cases h:i=0\/top<=i
  ·rw[if_pos h,if_pos h,if_pos h,lW,jD,ci]
   omega
  ·rw[if_neg h,if_neg h,if_neg h,lW,jD,ci]
   omega
theorem Zbv (j:List Int)(top:Nat):∀(m:Nat) (r:List Int),(Z7 j top m r).map (WP j top)=Z7 j top m (WP j top r)
 |0,r=>rfl
 |m+1,r=>by rw[Z7,aF,Zbv j top m,Z7]
theorem Zb5 (q:List Int)(top j:Nat):∀(a:List Int) (m:Nat) (r:List Int),a.length<=m->co (W3 a (Z7 q top m r)) j=co (W3 a (Z7 q top a.length r)) j
 | [],m,r,h=>by rw[Xs,Xs]
 |x::a,0,r,h=>absurd h (Nat.not_succ_le_zero _)
 |x::a,m+1,r,h=>by
  rw[Zi,Z7,Z7,ZW,ZW,c8,Zb5 q top j a m _ (Nat.le_of_succ_le_succ h)]
theorem U1 (j:List Int)(top:Nat):∀(b m:Nat) (r:List Int),(Z7 j top m r).drop b=Z7 j top (m-b) (nx j top b r)
 |0,m,r=>by rw[jR,eF,nx]
 |b+1,0,r=>by rw[Nat.zero_sub,Z7,Z7,List.drop_nil]
 |b+1,m+1,r=>by rw[Z7,List.drop_succ_cons,U1 j top b m,nx,Nat.add_sub_add_right]
theorem Zbe (q:List Int)(top:Nat){r:List Int}(h:∀j,co (W3 q (Z7 q top q.length r)) j=0):∀(m j:Nat),co (W3 q (Z7 q top q.length (nx q top m r))) j=0
 |0,j=>h j
 |m+1,j=>by
  rw[Jh,<-Zbv,<-ZbV];exact XQ q top (fun i=>Zbe q top h m i) j
theorem Zdx (q:List Int)(top s:Nat):∀(j:Nat) (r ZF:List Int),Zil q top s j r ZF=true->∀i,co ZF i+YJ j (fun t=>co (nx q top (t*s) r) i)=0
 |0,r,ZF,h,i=>by rw[YJ,cK];exact Za1 h i
 |j+1,r,ZF,h,i=>by
  rw[Zil,Zcg,Zg4] at h;have:=Zdx q top s j _ _ h i;rw[XA] at this;rw[YJ,fm,nx];have e:(YJ j fun t=>co (nx q top ((t+1)*s) r) i)=YJ j fun t=>co (nx q top (t*s) (nx q top s r)) i:=by
   refine Wf _ _ _ fun t _=>?_;rw[<-Zg3,cy,Nat.add_comm]
  rw[e];omega
theorem Ua (n:Nat)(R:List (List Int))(a s i:Nat):∀m:Nat,co (Xb n R a s m) i=YJ m fun t=>co (ro R ((a+t*s) % n)) i
 |0=>by rw[Xb,YT];rfl
 |m+1=>by
  have j:∀(m:Nat) (f:Nat->Int),YJ (m+1) f=YJ m f+f m:=by
   intro m;induction m with
   |zero=>intro f;rw[YJ,YJ,YJ];omega
   |succ m q=>
    intro f;rw[YJ,q,YJ];omega
  rw[Xb,XA,Ua n R a s i m,j]
theorem Zlu (n s:Nat)(j:0<n)(g:Nat->Int)(t:Nat):lk n s (fun t=>g ((t+(n-1)) % n)) t=lk n s g ((t+(n-1)) % n):=by
 unfold lk;have e:((t+(n-s)) % n+(n-1)) % n=((t+(n-1)) % n+(n-s)) % n:=by
  rw[ig,ig];congr 1;omega
 show g ((t+(n-1)) % n)-g (((t+(n-s)) % n+(n-1)) % n)=_;rw[e]
theorem Zei (n:Nat)(q:0<n):∀(j:List Nat) (g:Nat->Int) (t:Nat),Ut n j (fun t=>g ((t+(n-1)) % n)) t=Ut n j g ((t+(n-1)) % n)
 | [],g,t=>rfl
 |s::j,g,t=>by
  show Ut n j (lk n s fun t=>g ((t+(n-1)) % n)) t=Ut n j (lk n s g) ((t+(n-1)) % n);rw[<-Zei n q j (lk n s g) t];congr 1;funext u;exact Zlu n s q g u
theorem Zjo {n:Nat}{U:List Int}(n1:1<=n)(h:chk n U=true):Good n U (W1 n U) ((W1 n U).length-1) (RT n U):=by
 unfold chk at h;rw[af,Zcg] at h;obtain⟨a1,h⟩:=h;unfold RT;generalize W1 n U=q at h ⊢;generalize M:q.length-1=top at h ⊢;unfold ZnH at h;simp only[af,bg,decide_eq_true_eq,aN] at h;obtain⟨⟨⟨⟨⟨⟨⟨h1,h2⟩,h3⟩,h4⟩,h5⟩,h6⟩,h7⟩,h8⟩:=h;have ll:q.length=top+1:=by omega
 obtain⟨m8,rr⟩:=Zbw q top n 0 _ h5;have J:∀k,k<n->ro (Z7 q top n (YG top 0)) k=nx q top k (YG top 0):=fun k O=>ZdZ q top n _ k O;have tl:∀m j,co (W3 q (Z7 q top q.length (nx q top m (YG top 0)))) j=0:=fun m j=>Zbe q top (fun j=>by rw[ll];exact Za1 h6 j) m j;have t1:1<=top:=by omega
 have tn:top<=n:=by omega
 have u0:∀i,co (YG top 0) i=if i=0 then 1 else 0:=fun i=>by
  by_cases Y:i<top
  ·exact Za0 Y
  ·rw[J0 (by unfold YG;rw[Za,Zg];omega),if_neg (by omega)]
 have n8:∀k,nx q top ((k+1) % n) (YG top 0)=WP q top (nx q top (k % n) (YG top 0)):=fun k=>by
  rw[<-Jh];have O:=bW k (show n > 0 by omega);by_cases hc:k % n+1<n
  ·rw[<-ig,bF hc]
  ·have e:k % n+1=n:=by omega
   rw[<-ig,e,lr,m8,nx]
 refine⟨n1,a1,ll,t1,tn,h3,h4,VL ..,fun i j=>?_,fun i Y=>by rw[J i Y];exact (rr i Y).2.1,fun k O=>?_,fun m hm j=>?_,?_,fun p hp a ha j=>?_,fun k O=>?_,fun p hp=>(h8 p hp).1⟩
 ·by_cases Y:i<n
  ·rw[J i Y]
   exact Ub (rr i Y).1 j
  ·rw[ZmX (by rw[VL];omega),YT];decide
 ·rw[J k (by omega)]
  have:=(rr k (by omega)).2.2 (by omega);rw[this,gY]
 ·rw[U1,Zb5 q top j q _ _ (by omega)]
  exact tl m j
 ·
  have base:∀t,t<n->top+1<=n->Ut n (VE n U) (co q) t=0:=fun t M h2=>by
   have h7:=h7.resolve_left (by omega);have e:=ZeA (n:=n) (VE n U) (q++av (n-(top+1)) 0) (by rw[Zd,Ze];omega) t M;rw[Za1 h7 t] at e;refine Eq.trans (W6 n (by omega) _ _ _ (fun s hs=>?_) t M) e.symm;unfold co;rw[Zb,Zb,List.getElem?_append];by_cases m9:s<q.length
   ·rw[if_pos m9]
   ·rw[if_neg m9,ag (by omega),e7]
    split <;> rfl
  intro k;induction k with
  |zero=>
   intro O t M;refine Eq.trans (W6 n (by omega) _ _ (fun _=>0) (fun s hs=>?_) t M) (Zb4 n _ t);rw[J 0 O,nx,u0];split <;> rfl
  |succ k ih=>
   intro O t M;have n9:top+1<=n:=by omega
   have o0:=ih (by omega);have hl:(nx q top k (YG top 0)).length=top:=(rr k (by omega)).2.1;have e:∀s,s<n->co (ro (Z7 q top n (YG top 0)) (k+1)) s-(if s=k+1 then 1 else 0) =
     (fun s=>(fun t=>co (ro (Z7 q top n (YG top 0)) k) t-if t=k then 1 else 0) ((s+(n-1)) % n)) s+(- co (nx q top k (YG top 0)) (top-1))*co q s:=fun s hs=>by
    rw[J (k+1) O,J k (by omega),Jh,JQ];have ct:co (q.take top) s=if s<top then co q s else 0:=by
     by_cases h:s<top
     ·rw[if_pos h]
      unfold co;rw[Zb,Zb,fZ,if_pos h]
     ·rw[if_neg h]
      exact J0 (by rw[b9];omega)
    rw[ct];show _=co (nx q top k (YG top 0)) ((s+(n-1)) % n)-(if (s+(n-1)) % n=k then 1 else 0)+(- co (nx q top k (YG top 0)) (top-1))*co q s
    cases s with
    |zero=>
     have e0:(0+(n-1)) % n=n-1:=by rw[gY];exact bF (by omega)
     have c1:¬(0=k+1):=by omega
     have c2:¬(n-1=k):=by omega
     have c3:0<top:=t1;rw[e0,if_pos (.inl rfl),if_pos c3,if_neg c1,if_neg c2,J0 (a:=nx q top k (YG top 0)) (i:=n-1) (by omega),gD];omega
    |succ s=>
     have e1:(s+1+(n-1)) % n=s:=by
      rw[show s+1+(n-1)=s+n by omega,mM,bF (by omega)]
     rw[e1,dC];have ei:(if s+1=k+1 then (1:Int) else 0)=if s=k then 1 else 0:=by
      by_cases z:s=k
      ·rw[if_pos z,if_pos (by omega)]
      ·rw[if_neg z,if_neg (by omega)]
     rw[ei,gD];by_cases c1:s+1<top
     ·rw[if_neg (by omega),if_pos c1]
      omega
     ·rw[if_pos (.inr (by omega)),if_neg c1,cz]
      by_cases c2:s+1=top
      ·have:co q (s+1)=1:=by rw[c2];exact h4
       rw[this,show top-1=s by omega,iC];omega
      ·rw[J0 (a:=q) (by omega),J0 (a:=nx q top k (YG top 0)) (i:=s) (by omega),cz]
       omega
   rw[W6 n (by omega) _ _ _ e t M,Zej n _ (fun s=>(fun t=>co (ro (Z7 q top n (YG top 0)) k) t-if t=k then 1 else 0) ((s+(n-1)) % n)) (fun s=>(- co (nx q top k (YG top 0)) (top-1))*co q s) t,Zei n (by omega) _ (fun t=>co (ro (Z7 q top n (YG top 0)) k) t-if t=k then 1 else 0) t,Zhd,base t M n9,
    o0 _ (bW _ (by omega)),cz,cK]
 ·
  rw[Ua];have hb:=Zdx q top (n / p.toNat) p.toNat _ _ (h8 p hp).2;have hd:=(h8 p hp).1;have o5:∀a,a<n->∀i,(YJ p.toNat fun t=>co (nx q top ((a+t*(n / p.toNat)) % n) (YG top 0)) i)=0:=by
   intro a;induction a with
   |zero=>
    intro _ i;have:=hb i;rw[YT,eO] at this;rw[<-this];refine Wf _ _ _ fun t M=>?_;have:t*(n / p.toNat)<n:=by
     have:t*(n / p.toNat)+(n / p.toNat)<=p.toNat*(n / p.toNat):=by
      rw[<-cy];exact cV _ M
     have o7:0<n / p.toNat:=by
      rcases Nat.eq_zero_or_pos (n / p.toNat) with z|z
      ·rw[z,Nat.mul_zero] at hd;omega
      ·exact z
     omega
    rw[gY,bF this]
   |succ a ih=>
    intro ha i;have n4:=ih (by omega);have e:(YJ p.toNat fun t=>co (nx q top ((a+1+t*(n / p.toNat)) % n) (YG top 0)) i)=YJ p.toNat fun t=>co (WP q top (nx q top ((a+t*(n / p.toNat)) % n) (YG top 0))) i:=by
     refine Wf _ _ _ fun t _=>?_;rw[show a+1+t*(n / p.toNat)=a+t*(n / p.toNat)+1 by omega,n8]
    have n6:∀(m:Nat) (f g:Nat->Int) (c:Int),YJ m (fun t=>f t-g t*c)=YJ m f-YJ m g*c:=by
     intro m;induction m with
     |zero=>intro f g c;simp[YJ]
     |succ m ih=>intro f g c;rw[YJ,YJ,YJ,ih (fun t=>f (t+1)) (fun t=>g (t+1)) c,lW];omega
    rw[e];simp only[JQ];rw[n6 _ (fun t=>if i=0\/top<=i then 0 else co (nx q top ((a+t*(n / p.toNat)) % n) (YG top 0)) (i-1)) (fun t=>co (nx q top ((a+t*(n / p.toNat)) % n) (YG top 0)) (top-1)),n4 (top-1),cn,lA]
    by_cases hc:i=0\/top<=i
    ·simp only[if_pos hc]
     exact XI _ _ fun _ _=>rfl
    ·simp only[if_neg hc]
     exact n4 (i-1)
  rw[<-o5 a ha j];refine Wf _ _ _ fun t M=>?_;rw[J _ (bW _ (by omega))]
 ·
  apply ah;intro hz;have z0:∀j,co (nx q top k (YG top 0)) j=0:=fun j=>by
   by_cases hj:j<top
   ·apply ah
    intro o6;exact hz ⟨j,hj,by rw[J k O];exact o6⟩
   ·exact J0 (by rw[(rr k O).2.1];omega)
  have all:∀d j,co (nx q top (k+d) (YG top 0)) j=0:=by
   intro d;induction d with
   |zero=>exact z0
   |succ d ih=>intro j;rw[<-Nat.add_assoc,Jh];exact XQ q top ih j
  have:=all (n-k) 0;rw[show k+(n-k)=n by omega,m8,u0,if_pos rfl] at this;cases this
noncomputable def ZbS (n top:Nat)(R:List (List Int))(q:List Int):List Int:=(ac top).map fun j=>sig n R j q 0
theorem ZbR (n top:Nat)(R:List (List Int))(j:List Int):(ZbS n top R j).length=top:=by unfold ZbS;rw[Za,Zg]
theorem ZjC {n top:Nat}{R:List (List Int)}{q:List Int}{j:Nat}(h:j<top):co (ZbS n top R q) j=sig n R j q 0:=by
 unfold ZbS co;rw[Zb,Zc,ak h];rfl
theorem ZlN {a b:List Int}(h:a.length=b.length)(e:∀j,j<a.length->co a j=co b j):a=b:=by
 refine aX fun i=>?_;by_cases q:i<a.length
 ·rw[Wj q,Wj (by omega),e i q]
 ·rw[ag (by omega),ag (by omega)]
section
variable {n:Nat}{ps least:List Int}{top:Nat}{R:List (List Int)}(G:Good n ps least top R)
include G
theorem ZgC {cur:List Int}{k:Nat}(q:cur.length=n)(J:k<n)(M:top<=k):(Us least (k-top) (co cur k) cur).length=n/\(∀j,co (W3 (Us least (k-top) (co cur k) cur) R) j=co (W3 cur R) j)/\
  co (Us least (k-top) (co cur k) cur) k=0/\∀t,k<t->co (Us least (k-top) (co cur k) cur) t=co cur t:=by
 have hb:k-top+least.length<=cur.length:=by rw[G.l2,q];omega
 have O:=G.l2;refine⟨by rw[Zd7,q],fun j=>?_,?_,fun t U=>?_⟩
 ·rw[Zem _ _ _ _ _ _ hb,G.tails (k-top) (by omega) j,cz,lA]
 ·rw[ZcX _ _ _ _ _ hb,if_pos ⟨by omega,by omega⟩,show k-(k-top)=top by omega,G.mon,iC,Int.sub_self]
 ·rw[ZcX _ _ _ _ _ hb,if_neg (by omega)]
theorem Ziz {cur f:List Int}(hl:cur.length=n)(hz:∀t,top<=t->co cur t=0)(hP:∀j,co (W3 cur R) j=co (W3 f R) j)(Y:List Int)(hf:f=Zce n Y):cur.take top=ZbS n top R Y:=by
 have q:(cur.take top).length=top:=by rw[b9,hl];have:=G.tn;omega
 refine ZlN (by rw[q,ZbR]) fun j J=>?_;rw[q] at J;have M:0<n:=G.n1;rw[ZjC J,<-Ze9 n M,<-hf,<-hP j,Zel];have O:j<n:=aE J G.tn;rw[Zbi _ j _ (by rw[G.len];exact O) fun t ht U=>?_]
 ·rw[G.un j J,Za0 J,if_pos rfl,iC]
  unfold co;rw[Zb,Zb,fZ,if_pos J]
 ·by_cases h:t<top
  ·rw[G.un t h,Za0 J,if_neg (bJ U),cz]
  ·rw[hz t (by omega),cn]
end
section
variable {n:Nat}{ps least:List Int}{top:Nat}{R:List (List Int)}(G:Good n ps least top R)
include G
end
end Num
set_option maxHeartbeats 4000000
namespace N40
open PySem L2 PySem.Spec PyProof.Rows
open Num
noncomputable abbrev ZmP:Stmt:=top 14
noncomputable abbrev ZmQ:Stmt:=top 15
noncomputable abbrev Zgr:Stmt:=top 16
noncomputable abbrev Zgp:Stmt:=top 17
structure Bl2 (mg:Str->Option Value):Prop where
 enumerate:mg "enumerate"=none
 max:mg "max"=none
theorem ZaT {a:List Int}{i:Nat}(h:i<a.length):XH (a.map V.int) (i:Int)=some (.int (co a i)):=ZU (by rw[Zc,Wj h];rfl)
theorem Xi (a:List Int)(i:Nat)(v:Int):(a.map V.int).set i (V.int v)=(a.set i v).map V.int:=by rw[List.map_set]
theorem Xq {a:List Int}{i:Nat}{y:V}(h:(a.map V.int)[i]?=some y):i<a.length/\y=.int (co a i):=by
 rw[Zc] at h;by_cases j:i<a.length
 ·rw[Wj j] at h
  exact⟨j,(aw h).symm⟩
 ·rw[ag (by omega)] at h
  cases h
theorem Xu {n i:Nat}(h:i<n):ixN n (i:Int)=some i:=by
 unfold ixN;rw[if_pos (f9 _),if_pos (by omega),Zj]
theorem Uy (m:Nat):(av m [V.int 0]).flatten=(av m (0:Int)).map V.int:=ZbB m
theorem ZaU {X:Cx}:Zmg X (fun x y H Q=>∃(p:Addr) (xs:List V) (i:Nat) (v:V),x=.ref p/\y=.int i/\H p=some (.lst xs)/\xs[i]?=some v/\Q v H):=by
 intro J s σ H x y O iv Q I U Y h;obtain⟨p,xs,i,v,rfl,rfl,hp,M,q⟩:=h;cases (show O=aR p from U);obtain⟨t,rfl⟩:=Y;obtain⟨m8,r,pl,hz⟩:=I.list (.of hp);obtain⟨w,ew,j⟩:=r.get M;have hl:=r.length;have hn:=XT;have hi:i<xs.length:=(aa.mp M).1;exact wpAny_getItem_list pl.isList (f9 _) (by omega) (by simpa using ew) ⟨v,H,I,j,q⟩
noncomputable def ZjV (K:ab):Sp:=fun J H Q _=>∃(a:Addr) (j:List Int) (st:Nat),J=[.ref a,.int st]/\Wx K H a (j.map V.int)/\1<=j.length/\(j.length-1)*st<=100000/\j.length<=1000/\st<=1000/\∀l q,Same H q->q l=some (.lst ((stM j st).map V.int))->Q (.ref l) q
section
variable {P:Program}{w:World}{K:ab}{mg:Str->Option Value}{base:Heap}
theorem Zlb {f:Addr}{fd:FuncData}(F:WB K "stretched" "stretched" ZmP f fd)(T:Bl mg)(T2:Bl2 mg):Z5 P w K mg base Yd 1 f fd ["powers", "step"] (ZjV K):=by
 refine F.ok (FS (N:=["powers", "step", "wide", "k", "x"])) (fun vs H Q E h=>?_) (fun n4 A m8 s H vs Q E hr h=>?_)
 ·obtain⟨a,j,st,rfl,_⟩:=h;rfl
 ·obtain⟨a,j,st,rfl,hS,hl,hb,n6,n8,q⟩:=h
  refine⟨_,Zs (ZE 2 rfl (Zz Jv (ZS (pc Zw Zu)) (Zz YR (Zz ZQ (Zz Wh (cb (YF K) T.len (pc (vn 0) Zu)) Zw) (vn 1)) Zw)))
   (Zs (ZR ao rfl (Xy K T2.enumerate (pc (vn 0) Zu)) (g2 K 3 4 rfl (gn 3) (gn 4))
    (Zv (VP (vn 4) (VT (vn 2) (Zz ZQ (vn 3) (vn 1)) Y5))))
   (Zv (ZG (vn 2)))),?_⟩
  refine⟨(by show 1<=sizeLine;decide),fun l0 n0=>?_⟩;have s0:Same H (upd H l0 (.lst [.int 0])):=Same.upd n0;refine⟨_,rfl,a,_,rfl,.inl (s0.seq hS),_,_,rfl,rfl,_,rfl,_,_,rfl,rfl,.inl ⟨?_,?_⟩,_,_,rfl,rfl,l0,_,_,rfl,rfl,Zt,?_,?_,?_,fun l nl=>?_⟩
  ·rw[Za];omega
  ·rw[Za];omega
  ·rw[Za];have:(0:Int)<=((j.length:Int)-1)*st:=Int.mul_nonneg (by omega) (by omega);omega
  ·rw[Za]
   have:((j.length:Int)-1)*st=(((j.length-1)*st:Nat):Int):=by rw[aK];congr 1;omega
   omega
  ·rw[Za]
   have:((j.length:Int)-1)*st=(((j.length-1)*st:Nat):Int):=by rw[aK];congr 1;omega
   rw[this];show 1*_<=sizeLine;have e:(16777216:Nat)=sizeLine:=by decide
   omega
  have eN:(((j.map V.int).length:Int)-1)*st+1=(((j.length-1)*st+1:Nat):Int):=by
   rw[Za,Int.natCast_add,aK];congr 2;omega
  rw[eN,Zj,Uy];have m9:H l=none:=s0.free nl;have s1:=s0.trans (Same.upd (o:=.lst ((av ((j.length-1)*st+1) (0:Int)).map V.int)) nl);refine⟨_,rfl,a,rfl,.inl ⟨⟨_,s1.seq hS⟩,?_⟩⟩;refine Y9 V5 (fun i O Y=>∃(J:List Int) (v3 v4:Option V),O=[some (.ref a),some (.int st),some (.ref l),v3,v4]/\Same H Y/\Y l=some (.lst (J.map V.int))/\J.length=(j.length-1)*st+1/\stN st (j.drop i) i J=stM j st)
   ⟨_,_,_,rfl,s1,Zt,dI ..,rfl⟩ (fun i O Y h=>h.choose_spec.choose_spec.choose_spec.2.1.seq hS) ?_ ?_
  ·rintro i y O Y T' hy ⟨J,v3,v4,rfl,sm,U,hlen,M⟩ nT
   obtain⟨hi,rfl⟩:=Xq hy;refine⟨T',_,rfl,.of Zt,rfl,_,_,rfl,_,_,rfl,rfl,_,rfl,_,rfl,_,rfl,_,rfl,_,_,rfl,rfl,.inl ⟨by omega,by omega⟩,l,_,_,i*st,rfl,rfl,Same.upd nT _ _ U,?_,?_⟩
   rotate_left
   ·have n9:i*st<J.length:=by
     rw[hlen];have:i*st<=(j.length-1)*st:=cV _ (by omega);omega
    refine⟨J.set (i*st) (co j i),_,_,rfl,(sm.trans (Same.upd nT)).updr m9,?_,?_,?_⟩
    ·rw[Zt,Xi]
    ·rw[bK];exact hlen
    ·rw[<-M]
     have:j.drop i=co j i::j.drop (i+1):=by
      rw[bU hi];congr 1;have:=Wj hi;rw[Zf hi] at this;exact aw this
     rw[this,Num.stN]
   ·rw[Za]
    have:((i:Int)*(st:Int))=((i*st:Nat):Int):=by rw[aK]
    rw[this];refine Xu ?_;rw[hlen];have:i*st<=(j.length-1)*st:=cV _ (by omega);omega
  ·rintro O Y ⟨J,v3,v4,rfl,sm,U,hlen,M⟩
   rw[Za,fv,Num.stN] at M;rw[M] at U;exact⟨_,rfl,q l Y sm U⟩
end
noncomputable def ZjW (K:ab):Sp:=fun M H Q _=>∃(a b:Addr) (q j:List Int),M=[.ref a,.ref b]/\Wx K H a (q.map V.int)/\Wx K H b (j.map V.int)/\1<=j.length/\j.length<=q.length/\q.length<=100000/\small j=true/\
 ∀l J,Same H J->J l=some (.lst ((Zd5 q j).map V.int))->Q (.ref l) J
theorem Vu {j:List Int}{i:Nat}(q:i<j.length):j.drop i=co j i::j.drop (i+1):=by
 rw[bU q];congr 1;have:=Wj q;rw[Zf q] at this;exact aw this
theorem Zdb {a:List Int}{i:Nat}(h:i<a.length):(a.map V.int)[i]?=some (.int (co a i)):=by rw[Zc,Wj h];rfl
section
variable {P:Program}{w:World}{K:ab}{mg:Str->Option Value}{base:Heap}
theorem Zlc {f:Addr}{fd:FuncData}(F:WB K "quotient" "quotient" ZmQ f fd)(T:Bl mg)(T2:Bl2 mg):Z5 P w K mg base Yd 1 f fd ["powers", "divisor"] (ZjW K):=by
 refine F.ok (FS (N:=["powers", "divisor", "rest", "top", "found", "k", "j", "x"])) (fun vs H Q E h=>?_) (fun t6 A p7 s H vs Q E hr h=>?_)
 ·obtain⟨a,b,U,ds,rfl,_⟩:=h;rfl
 ·obtain⟨a,b,U,ds,rfl,hA,hB,t7,t9,u5,p8,q⟩:=h
  refine⟨_,Zs (ZE 2 rfl (ct XD T.list (pc (vn 0) Zu)))
   (Zs (ZE 3 rfl (Zz Wh (cb (YF K) T.len (pc (vn 1) Zu)) Zw))
   (Zs (ZE 4 rfl (Zz Jv (ZS (pc Zw Zu)) (Zz Wh (cb (YF K) T.len (pc (vn 2) Zu)) (vn 3))))
   (Zs (ZR ao rfl (ZmY T.range (pc (Zz Wh (cb (YF K) T.len (pc (vn 4) Zu)) Zw) (pc (Xn Jc Zw) (pc (Xn Jc Zw) Zu)))) (gn 5)
    (Zs (VP (ZN (V2 K) (vn 2) (Zz YR (vn 5) (vn 3)) (fun _ _=>rfl)) (VT (vn 4) (vn 5) Y5))
    (Zv (ZR ao rfl (Xy K T2.enumerate (pc (vn 1) Zu)) (g2 K 6 7 rfl (gn 6) (gn 7))
     (Zv (Vq (vn 2) (Zz YR (vn 5) (vn 6)) ZaU (Zz ZQ (ZN (V2 K) (vn 4) (vn 5) (fun _ _=>rfl)) (vn 7)) Zho Y5))))))
   (Zv (ZG (vn 4)))))),?_⟩
  refine⟨_,rfl,a,_,rfl,.inl hA,fun r nr=>?_⟩;have s1:Same H (upd H r (.lst (U.map V.int))):=Same.upd nr;refine⟨_,rfl,b,_,rfl,.inl (s1.seq hB),_,_,rfl,rfl,?_⟩;refine⟨(by show 1<=sizeLine;decide),fun l0 n0=>?_⟩;have s2:=s1.trans (Same.upd (o:=.lst [.int 0]) n0);refine⟨_,rfl,r,_,rfl,.inl (.of (Same.upd n0 _ _ Zt)),_,rfl,_,_,rfl,rfl,l0,_,_,rfl,rfl,Zt,?_,?_,?_,fun l nl=>?_⟩
  ·rw[Za,Za];omega
  ·rw[Za,Za];omega
  ·rw[Za,Za]
   show 1*_<=sizeLine;have e:(16777216:Nat)=sizeLine:=by decide
   omega
  have eN:(((U.map V.int).length:Int)-(((ds.map V.int).length:Int)-1)).toNat=U.length-(ds.length-1):=by rw[Za,Za];omega
  rw[eN,Uy];have q0:H r=none:=nr;have r6:H l=none:=s2.free nl;have o5:l≠r:=fun z=>by
   rw[z,Zx (fun z2=>by rw[z2,Zt] at n0;cases n0),Zt] at nl;cases nl
  have s3:=s2.trans (Same.upd (o:=.lst ((av (U.length-(ds.length-1)) (0:Int)).map V.int)) nl);generalize hN:U.length-(ds.length-1)=N at *;have r8:(upd (upd (upd H r (.lst (U.map V.int))) l0 (.lst [.int 0])) l (.lst ((av N (0:Int)).map V.int))) r=some (.lst (U.map V.int)):=Same.upd nl _ _ (Same.upd n0 _ _ Zt);refine⟨_,rfl,l,_,rfl,.inl (.of Zt),_,_,rfl,rfl,_,rfl,_,rfl,_,_,rfl,⟨by rw[Za,Ze];omega,by rw[Za,Ze];omega,by decide,by decide⟩,?_⟩;rw[Za,Za,Ze];have e2:(((N:Int)-1)-(-1)).toNat=N:=by omega
  rw[e2];refine Zcd (fun i n4 H'=>∃(J rest:List Int) (v5 v6 v7:Option V),n4=[some (.ref a),some (.ref b),some (.ref r),some (.int ((ds.length:Int)-1)),some (.ref l),v5,v6,v7]/\Same H H'/\H' l=some (.lst (J.map V.int))/\H' r=some (.lst (rest.map V.int))/\
    J.length=N/\rest.length=U.length/\ZgE ds (ds.length-1) (N-i) J rest=Zd5 U ds)
   ⟨_,_,_,_,_,rfl,s3,Zt,r8,dI ..,rfl,by rw[eF,Zd5,hN]⟩ ?_ ?_
  ·rintro i n4 H' hi ⟨J,rest,v5,v6,v7,rfl,sm,m8,n6,o6,o7,hq⟩
   generalize hk:N-1-i=k;have ek:(N:Int)-1-(i:Int)=(k:Int):=by omega
   rw[ek];have u9:k<N:=by omega
   have r9:N-i=k+1:=by omega
   rw[r9,ZgE] at hq;have o8:k+(ds.length-1)<rest.length:=by omega
   refine⟨_,rfl,_,rfl,_,rfl,_,_,rfl,rfl,r,_,_,.int (co rest (k+(ds.length-1))),rfl,rfl,.of n6,?_,_,rfl,_,rfl,l,_,_,k,rfl,rfl,m8,?_,?_⟩
   ·have:(k:Int)+((ds.length:Int)-1)=((k+(ds.length-1):Nat):Int):=by omega
    rw[this];exact ZaT o8
   ·rw[Za];exact Xu (by omega)
   generalize hc:co rest (k+(ds.length-1))=c at hq ⊢;rw[Xi];have o9:Same H (upd H' l (.lst ((J.set k c).map V.int))):=sm.updr r6;have t0:(upd H' l (.lst ((J.set k c).map V.int))) r=some (.lst (rest.map V.int)):=by rw[Zx (bJ o5)];exact n6
   have t5:co (J.set k c) k=c:=by rw[ZhU,if_pos ⟨rfl,by omega⟩]
   refine⟨_,rfl,b,rfl,.inl ⟨⟨_,o9.seq hB⟩,?_⟩⟩;refine Y9 V5 (fun j M O=>∃(cur:List Int) (u6 u7:Option V),M=[some (.ref a),some (.ref b),some (.ref r),some (.int ((ds.length:Int)-1)),some (.ref l),some (.int k),u6,u7]/\Same H O/\O l=some (.lst ((J.set k c).map V.int))/\O r=some (.lst (cur.map V.int))/\
     cur.length=U.length/\Us (ds.drop j) (k+j) c cur=Us ds k c rest)
    ⟨_,_,_,rfl,o9,Zt,t0,o7,rfl⟩ (fun j M O h=>h.choose_spec.choose_spec.choose_spec.2.1.seq hB) ?_ ?_
   ·rintro j y M O T' hy ⟨cur,u6,u7,rfl,n8,Y,n9,o0,m9⟩ nT
    obtain⟨hj,rfl⟩:=Xq hy;have kj:k+j<cur.length:=by omega
    have p4:=Same.upd (o:=.tup [.int j,.int (co ds j)]) nT _ _ n9;have p6:=Same.upd (o:=.tup [.int j,.int (co ds j)]) nT _ _ Y;have cb:=Ub p8 j;refine⟨T',_,rfl,.of Zt,rfl,_,_,rfl,_,_,rfl,rfl,_,rfl,_,rfl,_,rfl,_,_,rfl,rfl,r,_,k+j,.int (co cur (k+j)),rfl,congrArg V.int (by omega),p4,Zdb kj,
     _,rfl,_,rfl,l,_,_,.int c,rfl,rfl,.of p6,?_,_,rfl,_,_,rfl,rfl,.inr ⟨by omega,by omega⟩,_,_,rfl,rfl,r,_,_,k+j,rfl,congrArg V.int (show (k:Int)+(j:Int)=((k+j:Nat):Int) by omega),p4,?_,?_⟩
    ·have:=ZaT (a:=J.set k c) (i:=k) (by rw[bK];omega)
     rw[t5] at this;exact this
    ·rw[Za];exact Xu kj
    ·refine⟨cur.set (k+j) (co cur (k+j)-c*co ds j),_,_,rfl,(n8.trans (Same.upd nT)).updr q0,?_,?_,?_,?_⟩
     ·rw[Zx o5];exact p6
     ·rw[Zt,Xi]
     ·rw[bK];exact o0
     ·rw[<-m9,Vu hj,Num.Us]
      rfl
   ·rintro M O ⟨cur,u6,u7,rfl,n8,Y,n9,o0,m9⟩
    rw[Za,fv,Num.Us] at m9;refine⟨J.set k c,cur,_,_,_,rfl,n8,Y,n9,by rw[bK];exact o6,o0,?_⟩;rw[show N-(i+1)=k by omega,m9];exact hq
  ·rintro n4 H' ⟨J,rest,v5,v6,v7,rfl,sm,m8,n6,o6,o7,hq⟩
   rw[cm,Num.ZgE] at hq;rw[hq] at m8;exact⟨_,rfl,q l H' sm m8⟩
end
end N40
namespace L2
open PySem PySem.Spec PyProof.Rows
section
variable {X:Cx}
noncomputable def Zhr (K:ab)(Y:TA):TI:=fun σ H R=>Y σ H fun vs M=>∃a q j,vs=[.ref a]/\(Wx K j a q\/JF K j a q)/\Same j M/\∀J O,Zh9 J O q->(∀U,Same j U->O U)->R J M
theorem ZlP {elts:List Expr}{x1}{pt:Pos}{l:Expr}{ta:TA}{p pos:Pos}(hm:X.mg "enumerate"=none)(ha:PA X [l] ta)(hg:Y1 X.env.scope "enumerate"=true:=by kernel_rfl)(hs:starEach [l] X.env=[(false,eval l X.env)]:=by rfl) :
  PI X (.Tuple elts x1 pt) (.Call (.Name "enumerate" p) [l] [] pos) (Zhr X.K ta):=by
 intro M s σ H R I h;refine Call_ (Jk I (JZ hg) hm (show bootBuiltins "enumerate"=some (.type "enumerate") by kernel_rfl) (bq (Yg (ha pos M s σ H _ I h) fun us s1 ⟨vs,H1,j,r1,q1⟩=>?_) hs rfl));obtain⟨a,xs,Hx,e,J,sm,q⟩:=q1;subst e;cases r1 with
 |cons r rr=>
  cases rr;cases (show _=aR a from r);have sz:∀b,b∈[s1.heap.objs.size+1,s1.heap.objs.size]->s1.heap.objs.size<=b:=fun b hb=>by
   rcases aG.mp hb with rfl|hb
   ·exact gC _
   ·have:b=s1.heap.objs.size:=by simpa using hb
    rw[this];exact Zq _
  rcases J with J|J
  ·obtain⟨O,rv,p,hz⟩:=j.list (sm.seq J)
   refine call_enumerate_list p.isList fun g ge U gs Y=>eh ge ?_;exact⟨_,[s1.heap.objs.size+1,s1.heap.objs.size],_,_,H1,rfl,j.kept (t':=s1.toks) Y,VB a _ _ (bw (dh _)),⟨⟨_,ge⟩,U⟩,fun b hb=>j.fpOk (sz b hb) (j.hok.fresh (sz b hb)),q _ _ V5 fun H' s'=>s'.seq J⟩
  ·obtain⟨O,rv,p,hz⟩:=j.tuple (sm.tup J)
   refine PyY.Ul (show s1.heap.IsTuple a O.toArray from p) fun g ge U gs Y=>eh ge ?_;exact⟨_,[s1.heap.objs.size+1,s1.heap.objs.size],_,_,H1,rfl,j.kept (t':=s1.toks) Y,VA a _ _ (bw (dh _)),⟨⟨_,ge⟩,U⟩,fun b hb=>j.fpOk (sz b hb) (j.hok.fresh (sz b hb)),q _ _ XV fun H' s'=>s'.tup J⟩
theorem ZlQ (K:ab){elts:List Expr}{q}{pt:Pos}{l:Expr}{j:TA}{p pos:Pos}(J:X.mg "enumerate"=none)(M:PA X [l] j)(O:X.K=K:=by rfl)(U:Y1 X.env.scope "enumerate"=true:=by kernel_rfl)(Y:starEach [l] X.env=[(false,eval l X.env)]:=by rfl) :
  PI X (.Tuple elts q pt) (.Call (.Name "enumerate" p) [l] [] pos) (Zhr K j):=O▸ZlP J M U Y
end
end L2
namespace N40
open PySem L2 PySem.Spec PyProof.Rows
open Num
noncomputable def lsN (n:Nat):List Int:=W1 n (Ys n)
noncomputable def WC (n:Nat):Nat:=(lsN n).length-1
noncomputable def RN (n:Nat):List (List Int):=RT n (Ys n)
noncomputable def XC (n:Nat):Bool:=Num.chk n (Ys n) && decide (((Num.W1 n (Ys n)).length:Int)=ZbJ n+1)
theorem ZnG:([1,2,3,4,5,6,7,8,9,10,11,12,13,14,15,16].all XC)=true:=by decide +kernel
theorem ZnF:([17,18,19,20,21,22,23,24].all XC)=true:=by decide +kernel
theorem ZnE:([25,26,27,28,29,30].all XC)=true:=by decide +kernel
theorem ZnD:([31,32,33,34,35].all XC)=true:=by decide +kernel
theorem ZnC:([36,37,38,39,40].all XC)=true:=by decide +kernel
theorem ZnB:([41,42,43,44].all XC)=true:=by decide +kernel
theorem ZnA:([45,46,47].all XC)=true:=by decide +kernel
theorem Znz:([48,49,50].all XC)=true:=by decide +kernel
theorem Zny:([51,52,53].all XC)=true:=by decide +kernel
theorem Znx:([54,55,56].all XC)=true:=by decide +kernel
theorem Zl0:([57,58].all XC)=true:=by decide +kernel
theorem ZlZ:([59,60].all XC)=true:=by decide +kernel
theorem all2 {p:Nat->Bool}{a b:List Nat}(h:a.all p=true)(g:b.all p=true):(a++b).all p=true:=by rw[List.all_append,h,g];rfl
theorem ZlY {n:Nat}(j:1<=n)(q:n<=60):XC n=true:=aN.mp (all2 ZnG (all2 ZnF (all2 ZnE (all2 ZnD (all2 ZnC (all2 ZnB (all2 ZnA (all2 Znz (all2 Zny (all2 Znx (all2 Zl0 ZlZ))))))))))) n (by
 show n∈cT 1 60;exact List.mem_range'_1.mpr ⟨j,by omega⟩)
theorem Zkl {n:Nat}(j:1<=n)(q:n<=60):Good n (Ys n) (lsN n) (WC n) (RN n)/\(WC n:Int)=ZbJ n:=by
 have h:=ZlY j q;unfold XC at h;rw[af] at h;have g:=Zjo j h.1;refine⟨g,?_⟩;have e:=of_decide_eq_true h.2;have:=g.l2;unfold WC lsN;omega
noncomputable def ZdI:Sp:=fun q H Q _=>∃n:Nat,q=[.int n]/\1<=n/\n<=60/\∀l j,Same H j->j l=some (.lst ((lsN n).map V.int))->Q (.ref l) j
noncomputable def ZdG (K:ab):Sp:=fun M H Q _=>∃(n:Nat) (a:Addr) (j:List Int),M=[.int n,.ref a]/\1<=n/\n<=60/\(Wx K H a (j.map V.int)\/JF K H a (j.map V.int))/\j.length<=100000/\
 ∀q J,Same H J->J q=some (.tup ((ZbS n (WC n) (RN n) j).map V.int))->Q (.ref q) J
theorem ZhP (xs:List V){k:Nat}(h:k<=xs.length):Jo xs none (some (k:Int))=xs.take k:=by
 unfold Jo;rw[HT.Zaw];have e:HT.Ur xs.length 0 none=0:=rfl;rw[e,jR,eF,Nat.min_eq_left h]
theorem V0 {s:List Int×Int}{j:List Int}(h:Xr s j=true):small s.1=true/\2<=s.1.length/\s.1.length<=61/\1<=s.2/\s.2<=60:=by
 have g:Zjd s=true:=by
  cases j with
  |nil=>exact h
  |cons p j=>
   rw[Num.Xr] at h;simp only[af] at h;exact h.1.1.1
 unfold Zjd at g;simp only[af,decide_eq_true_eq] at g;exact⟨g.1.1.1.1,g.1.1.1.2,g.1.1.2,g.1.2,g.2⟩
theorem Zc6 {s:List Int×Int}{p:Int}{j:List Int}(h:Xr s (p::j)=true):2<=p/\p<=60/\Xr (J4 s p) j=true:=by
 rw[Num.Xr] at h;simp only[af,decide_eq_true_eq] at h;exact⟨h.1.1.2,h.1.2,h.2⟩
section
variable {P:Program}{w:World}{K:ab}{mg:Str->Option Value}{base:Heap}
theorem ZgW {f:Addr}{fd:FuncData}(F:WB K "least_sum" "least_sum" Zgr f fd)(GP:Fn P w K mg base Yd 1 "primes_of" ["n"] Zbn)(GS:Fn P w K mg base Yd 1 "stretched" ["powers", "step"] (ZjV K))(GQ:Fn P w K mg base Yd 1 "quotient" ["powers", "divisor"] (ZjW K)) :
  Z5 P w K mg base Yd 2 f fd ["n"] ZdI:=by
 refine F.ok (FS (N:=["n", "found", "built", "p"])) (fun vs H Q E h=>?_) (fun n4 A m9 s H vs Q E hr h=>?_)
 ·obtain⟨n,rfl,_⟩:=h;rfl
 ·obtain⟨n,rfl,n1,n60,q⟩:=h
  obtain⟨G,_⟩:=Zkl n1 n60;refine⟨_,Zs (ZE 1 rfl (ZS (pc (Xn Jc Zw) (pc Zw Zu))))
   (Zs (ZE 2 rfl Zw)
   (Zs (ZR ao rfl (itL K (Wd GP hr ZL (pc (vn 0) Zu))) (gn 3)
    (Zs (ZE 1 rfl (Wd GQ hr ZL (pc (Wd GS hr ZL (pc (vn 1) (pc (vn 3) Zu))) (pc (vn 1) Zu))))
    (Zv (ZE 2 rfl (Zz ZQ (vn 2) (vn 3))))))
   (Zv (ZG (Wd GS hr ZL (pc (vn 1) (pc (Zz Jg (vn 0) (vn 2)) Zu))))))),?_⟩
  refine⟨_,rfl,(by show 2<=sizeLine;decide),fun l0 n0=>?_⟩;have s0:Same H (upd H l0 (.lst [.int (-1),.int 1])):=Same.upd n0;refine⟨_,rfl,n,rfl,n1,n60,fun lp H1 s1 hp=>⟨lp,rfl,⟨_,.of hp⟩,?_⟩⟩;refine Y8 (Yz (K:=K) (.of hp)) (fun i M U=>∃(st:List Int×Int) (O:Addr) (v3:Option V),M=[some (.int n),some (.ref O),some (.int st.2),v3]/\Same H1 U/\U O=some (.lst (st.1.map V.int))/\Xr st ((Ys n).drop i)=true/\
    ((Ys n).drop i).foldl J4 st=(Ys n).foldl J4 ([-1,1],1))
   ⟨([-1,1],1),l0,_,rfl,Same.refl _,s1 _ _ Zt,G.ls,rfl⟩ (fun i M U h=>h.choose_spec.choose_spec.choose_spec.2.1) ?_ ?_
  ·rintro i x M U hx ⟨st,O,v3,rfl,sm,hf,J,j⟩
   obtain⟨hi,rfl⟩:=Xq hx;rw[Vu hi] at J j;obtain⟨p2,n6,Y⟩:=Zc6 J;obtain⟨c1,c2,c3,c4,c5⟩:=V0 J;generalize n8:co (Ys n) i=p at *;have ep:(p.toNat:Int)=p:=by omega
   have m8:(st.1.length-1)*p.toNat<=60*60:=iB (by omega) (by omega);refine⟨_,rfl,_,rfl,O,st.1,p.toNat,by rw[ep];rfl,.of hf,by omega,by omega,by omega,by omega,fun l2 H2 s2 h2=>?_⟩;have n9:st.1.length-1<=(st.1.length-1)*p.toNat:=Nat.le_mul_of_pos_right _ (by omega);refine⟨_,rfl,l2,O,_,_,rfl,.of h2,.of (s2 _ _ hf),by omega,by rw[Zdz];omega,by rw[Zdz];omega,c1,fun l3 H3 s3 h3=>?_⟩;refine⟨_,rfl,_,rfl,_,_,rfl,rfl,.inl ⟨by omega,by omega⟩,?_⟩;exact⟨J4 st p,l3,_,rfl,(sm.trans s2).trans s3,h3,Y,j⟩
  ·rintro M U ⟨st,O,v3,rfl,sm,hf,J,j⟩
   rw[Za,fv] at J j;obtain⟨c1,c2,c3,c4,c5⟩:=V0 J;have hd:0<=(n:Int) / st.2/\(n:Int) / st.2<=n:=⟨Int.ediv_nonneg (by omega) (by omega),Int.ediv_le_self _ (by omega)⟩;have m8:(st.1.length-1)*((n:Int) / st.2).toNat<=60*60:=iB (by omega) (by omega);refine⟨_,rfl,_,rfl,_,rfl,_,_,rfl,rfl,⟨by omega,by omega⟩,O,st.1,((n:Int) / st.2).toNat,by rw[iL hd.1];rfl,.of hf,by omega,by omega,by omega,by omega,fun l4 H4 s4 h4=>?_⟩;refine q l4 H4 (((s0.trans s1).trans sm).trans s4) ?_;rw[h4];unfold lsN W1;rw[<-j];rfl
theorem ZgU {f:Addr}{fd:FuncData}(F:WB K "number_of" "number_of" Zgp f fd)(T:Bl mg)(T2:Bl2 mg)(GL:Fn P w K mg base Yd 2 "least_sum" ["n"] ZdI):Z5 P w K mg base Yd 3 f fd ["n", "powers"] (ZdG K):=by
 refine F.ok (FS (N:=["n", "powers", "least", "top", "rest", "k", "x", "high", "j"])) (fun vs H Q E h=>?_) (fun x8 A r8 s H vs Q E hr h=>?_)
 ·obtain⟨n,a,ws,rfl,_⟩:=h;rfl
 ·obtain⟨n,a,ws,rfl,n1,n60,hS,x9,q⟩:=h
  obtain⟨G,_⟩:=Zkl n1 n60;refine⟨_,Zs (ZE 2 rfl (Wd GL hr ZL (pc (vn 0) Zu)))
   (Zs (ZE 3 rfl (Zz Wh (cb (YF K) T.len (pc (vn 2) Zu)) Zw))
   (Zs (ZE 4 rfl (Zz Jv (ZS (pc Zw Zu)) (vn 0)))
   (Zs (ZR ao rfl (ZlQ K T2.enumerate (pc (vn 1) Zu)) (g2 K 5 6 rfl (gn 5) (gn 6))
    (Zv (Vq (vn 4) (Zz Z3 (vn 5) (vn 0)) ZaU (vn 6) W2 Y5)))
   (Zs (ZR ao rfl (ZmY T.range (pc (Zz Wh (vn 0) Zw) (pc (Zz Wh (vn 3) Zw) (pc (Xn Jc Zw) Zu)))) (gn 5)
    (Zs (ZE 7 rfl (ZN (V2 K) (vn 4) (vn 5) (fun _ _=>rfl)))
    (Zv (WN (ZT JY (vn 7) Zw (Z1 _))
     (Zv (ZR ao rfl (Xy K T2.enumerate (pc (vn 2) Zu)) (g2 K 8 6 rfl (gn 8) (gn 6))
      (Zv (Vq (vn 4) (Zz YR (Zz Wh (vn 5) (vn 3)) (vn 8)) ZaU (Zz ZQ (vn 7) (vn 6)) Zho Y5)))) YA))))
   (Zv (ZG (ct ZH T.tuple (pc (Ju Xg (vn 4) Xm (Xl (vn 3))) Zu)))))))),?_⟩
  refine⟨_,rfl,n,rfl,n1,n60,fun ll H1 s1 n9=>?_⟩;have o7:(((lsN n).map V.int).length:Int)-1=(WC n:Int):=by
   rw[Za,G.l2];omega
  have tn:=G.tn;have t1:=G.t1;refine⟨_,rfl,ll,_,rfl,.inl (.of n9),_,_,rfl,rfl,?_⟩;refine⟨(by show 1<=sizeLine;decide),fun l0 n0=>?_⟩;have s2:=s1.trans (Same.upd (o:=.lst [.int 0]) n0);refine⟨_,rfl,l0,_,_,rfl,rfl,Zt,by omega,by omega,?_,fun l nl=>?_⟩
  ·rw[Zj]
   show 1*n<=sizeLine;have e:(16777216:Nat)=sizeLine:=by decide
   omega
  rw[Zj,Uy];have o8:H l=none:=s2.free nl;have o9:=Same.upd (o:=.lst ((av n (0:Int)).map V.int)) nl _ _ (Same.upd (o:=.lst [.int 0]) n0 _ _ n9);have p4:l≠ll:=fun z=>by
   rw[z,Same.upd (o:=.lst [.int 0]) n0 _ _ n9] at nl;cases nl
  have s3:=s2.trans (Same.upd (o:=.lst ((av n (0:Int)).map V.int)) nl);refine⟨_,rfl,a,_,H,rfl,hS,s3,fun J At S r9=>?_⟩;refine Y9 S (fun i m8 H'=>∃(M:List Int) (v5 v6:Option V),m8=[some (.int n),some (.ref a),some (.ref ll),some (.int ((((lsN n).map V.int).length:Int)-1)),some (.ref l),v5,v6,none,none]/\Same H H'/\H' ll=some (.lst ((lsN n).map V.int))/\H' l=some (.lst (M.map V.int))/\M.length=n/\
    Va n (ws.drop i) i M=Zce n ws)
   ⟨_,_,_,rfl,s3,o9,Zt,dI ..,rfl⟩ (fun i m8 H' h=>r9 _ h.choose_spec.choose_spec.choose_spec.2.1) ?_ ?_
  ·rintro i y m8 H' T' hy ⟨M,v5,v6,rfl,sm,o0,o5,m9,n4⟩ nT
   obtain⟨hi,rfl⟩:=Xq hy;have p6:i % n<M.length:=by rw[m9];exact bW _ n1
   have eM:V.int ((i:Int) % (n:Int))=V.int ((i % n:Nat):Int):=congrArg V.int (by omega);have p7:=Same.upd (o:=.tup [.int i,.int (co ws i)]) nT _ _ o5;refine⟨T',_,rfl,.of Zt,rfl,_,_,rfl,_,_,rfl,rfl,_,rfl,_,rfl,_,rfl,_,_,rfl,rfl,(by show (0:Int)<n;omega),l,_,i % n,.int (co M (i % n)),rfl,eM,p7,Zdb p6,_,rfl,_,_,rfl,rfl,l,_,_,i % n,rfl,eM,p7,?_,?_⟩
   ·rw[Za];exact Xu p6
   ·refine⟨M.set (i % n) (co M (i % n)+co ws i),_,_,rfl,(sm.trans (Same.upd nT)).updr o8,?_,?_,?_,?_⟩
    ·rw[Zx (bJ p4)];exact Same.upd nT _ _ o0
    ·rw[Zt,Xi]
    ·rw[bK];exact m9
    ·rw[<-n4,Vu hi,Num.Va]
  ·rintro m8 H' ⟨M,v5,v6,rfl,sm,o0,o5,m9,n4⟩
   rw[Za,fv,Num.Va] at n4;refine⟨_,rfl,_,_,rfl,rfl,_,rfl,_,_,rfl,rfl,_,rfl,_,_,rfl,⟨by omega,by omega,by omega,by omega⟩,?_⟩;rw[show (((n:Int)-1)-((((lsN n).map V.int).length:Int)-1-1)).toNat=n-WC n by omega];refine Zcd (fun i m8 H'=>∃(M:List Int) (v5 v6 v7 v8:Option V),m8=[some (.int n),some (.ref a),some (.ref ll),some (.int ((((lsN n).map V.int).length:Int)-1)),some (.ref l),v5,v6,v7,v8]/\Same H H'/\H' ll=some (.lst ((lsN n).map V.int))/\H' l=some (.lst (M.map V.int))/\M.length=n/\
     (∀j,co (W3 M (RN n)) j=co (W3 (Zce n ws) (RN n)) j)/\∀t,n-i<=t->co M t=0)
    ⟨M,_,_,_,_,rfl,sm,o0,o5,m9,fun j=>by rw[n4],fun t ht=>J0 (by omega)⟩ ?_ ?_
   ·rintro i p8 t0 hi ⟨c2,t5,t6,t7,t9,rfl,n6,Y,O,U,hP,hz⟩
    generalize hk:n-1-i=k;have ek:(n:Int)-1-(i:Int)=(k:Int):=by omega
    rw[ek];have u5:k<n:=by omega
    have u9:WC n<=k:=by omega
    refine⟨_,rfl,_,rfl,l,_,_,.int (co c2 k),rfl,rfl,.of O,ZaT (by omega),?_⟩;refine⟨_,rfl,rfl,_,rfl,Y0 (fun hh=>?_) (fun hh=>?_)⟩
    ·refine⟨_,rfl,ll,rfl,.inl ⟨⟨_,.of Y⟩,?_⟩⟩
     obtain⟨r1,r2,r3,r4⟩:=ZgC G U u5 u9;refine Y9 V5 (fun j n8 H3=>∃(c3:List Int) (u6 u8:Option V),n8=[some (.int n),some (.ref a),some (.ref ll),some (.int ((((lsN n).map V.int).length:Int)-1)),some (.ref l),some (.int k),u6,some (.int (co c2 k)),u8]/\Same H H3/\H3 ll=some (.lst ((lsN n).map V.int))/\H3 l=some (.lst (c3.map V.int))/\c3.length=n/\
       Us ((lsN n).drop j) (k-WC n+j) (co c2 k) c3=Us (lsN n) (k-WC n) (co c2 k) c2)
      ⟨c2,_,_,rfl,n6,Y,O,U,rfl⟩ (fun j n8 H3 h=>.of h.choose_spec.choose_spec.choose_spec.2.2.1) ?_ ?_
     ·rintro j y n8 H3 T' hy ⟨c3,u6,u8,rfl,o6,g1,g2,g3,g4⟩ nT
      obtain⟨hj,rfl⟩:=Xq hy;have y4:=G.l2;have kj:k-WC n+j<c3.length:=by omega
      have eI:V.int ((k:Int)-((((lsN n).map V.int).length:Int)-1)+(j:Int))=V.int ((k-WC n+j:Nat):Int):=congrArg V.int (by omega);have q0:=Same.upd (o:=.tup [.int j,.int (co (lsN n) j)]) nT _ _ g2;have cb:=Ub G.sm j;refine⟨T',_,rfl,.of Zt,rfl,_,_,rfl,_,_,rfl,rfl,_,rfl,_,rfl,_,rfl,_,_,rfl,rfl,_,rfl,_,_,rfl,rfl,l,_,k-WC n+j,.int (co c3 (k-WC n+j)),rfl,eI,q0,Zdb kj,_,rfl,_,rfl,_,_,rfl,rfl,.inr ⟨by omega,by omega⟩,_,_,rfl,rfl,l,_,_,k-WC n+j,rfl,eI,q0,?_,?_⟩
      ·rw[Za];exact Xu kj
      ·refine⟨c3.set (k-WC n+j) (co c3 (k-WC n+j)-co c2 k*co (lsN n) j),_,_,rfl,(o6.trans (Same.upd nT)).updr o8,?_,?_,?_,?_⟩
       ·rw[Zx (bJ p4)];exact Same.upd nT _ _ g1
       ·rw[Zt,Xi]
       ·rw[bK];exact g3
       ·rw[<-g4,Vu hj,Num.Us]
        rfl
     ·rintro n8 H3 ⟨c3,u6,u8,rfl,o6,g1,g2,g3,g4⟩
      rw[Za,fv,Num.Us] at g4;refine⟨c3,_,_,_,_,rfl,o6,g1,g2,g3,fun j=>?_,fun t ht=>?_⟩
      ·rw[g4,r2 j];exact hP j
      ·rw[g4]
       by_cases e:t=k
       ·rw[e];exact r3
       ·rw[r4 t (by omega)];exact hz t (by omega)
    ·have h0:co c2 k=0:=by
      apply ah;intro x6;apply hh;rw[Yh];simp[x6]
     refine⟨c2,_,_,_,_,rfl,n6,Y,O,U,hP,fun t ht=>?_⟩;by_cases e:t=k
     ·rw[e];exact h0
     ·exact hz t (by omega)
   ·rintro p8 t0 ⟨c2,t5,t6,t7,t9,rfl,n6,Y,O,U,hP,hz⟩
    refine⟨_,rfl,_,rfl,_,rfl,l,_,rfl,.of O,fun p1 h1=>⟨p1,_,rfl,.inl ⟨.of Zt,fun qq r6=>?_⟩⟩⟩;rw[o7,ZhP _ (by rw[Za];omega),<-List.map_take] at r6 ⊢;refine q qq _ ((n6.trans (Same.upd h1)).trans (Same.upd r6)) ?_;rw[Zt,Ziz G U (fun t ht=>hz t (by omega)) hP ws rfl]
end
end N40
namespace C40
open PySem L2 PySem.Spec PyProof.Rows
open Tb Pm
noncomputable abbrev Zgq:Stmt:=top 29
noncomputable def bkM (p x:Nat):Nat:=((ac p).find? fun y=>y*x % p == 1).getD 0
theorem ZnI {p x y j:Nat}(M:y<p)(q:j<p)(h:y*x % p=1)(h':j*x % p=1):y=j:=by
 have J:y*(j*x) % p=y % p:=by rw[<-Nat.mul_mod_mod,h',gB]
 have O:j*(y*x) % p=j % p:=by rw[<-Nat.mul_mod_mod,h,gB]
 have U:y*(j*x)=j*(y*x):=by rw[<-kq,fo y j,kq]
 rw[U,O,bF M,bF q] at J;exact J.symm
theorem ZeC {p x y:Nat}(j:y<p)(h:y*x % p=1):bkM p x=y:=by
 unfold bkM;cases q:(ac p).find? fun y=>y*x % p == 1 with
 |none=>
  have:=iQ.mp q y (ae.mpr j);rw[h] at this;exact absurd rfl this
 |some z=>
  have J:=ae.mp (gf q);have M:z*x % p=1:=eq_of_beq (jA (p:=fun y=>y*x % p == 1) q);exact ZnI J j M h
noncomputable def ofF (n r p:Nat)(q:Int)(z:Nat)(o:Nat->Int)(j:Nat):Int:=if j % (n / r)=0 then q*(bkM p r:Int)*Yr r (fun k=>o k*((z ^ (j*k % n) % p:Nat):Int)) % (p:Int) else 0
noncomputable def Zg5 (n:Nat)(v:Nat->Int):List Int:=Num.ZbS n (N40.WC n) (N40.RN n) ((ac n).map v)
noncomputable def ZdH:Sp:=fun vs H Q _=>∃(O U Y:Addr) (r m n p z:Nat) (j:Int) (J one:Nat->Int),vs=[.ref O,.ref U,.int j,.ref Y,.int p]/\H O=some (.lst (ZD r J))/\H U=some (.lst (ZD m one))/\H Y=some (.lst (Yv p z n))/\
 1<=n/\n<=60/\m<=60/\1<=r/\r<=n/\r<p/\p<=100000/\PrM p/\Zh4 m p one/\(∀k,k<r->∃c:Nat,c<m/\J k=(c:Int))/\-(2 ^ 40)<j/\j<2 ^ 40/\
 ∀q M,Same H M->M q=some (.tup ((Zg5 n (ofF n r p j z fun k=>one (J k).toNat)).map V.int))->Q (.ref q) M
theorem Znq {J:It}{q:Hp->Prop}{xs:List V}(S:Zh9 J q xs):Zct J q (((ac xs.length).map nV).zip xs) where
 go:=fun i H h j=>S.go i H h (by rw[cC,Za,Zg,lu] at j;exact j)
 yld:=fun i H x M h O=>by
  obtain⟨T,y,rfl,U,rfl,e⟩:=S.yld i H x M h O;have j:=(aa.mp e).1;refine⟨T,.int i,y,rfl,U,rfl,?_⟩;rw[bo,Zc,ak j];exact⟨rfl,e⟩
 stop:=fun i H h j=>S.stop i H h (by rw[cC,Za,Zg,lu] at j;exact j)
theorem ZiD {p z n k:Nat}(h:k<n):XH (Yv p z n) (k:Int)=some (V.int ((z ^ k % p:Nat):Int)):=by
 refine ZU ?_;unfold Yv;rw[Zc,ak h];rfl
theorem Zie {n j:Nat}(v:Nat->Int)(x:Int)(h:j<n):(ZD n v).set j (V.int x)=ZD n fun i=>if i=j then x else v i:=by
 refine aX fun i=>?_;by_cases q:i<n
 ·rw[Yy _ q,gq]
  by_cases e:j=i
  ·subst e
   rw[if_pos rfl,if_pos (by rw[ZY];exact q),if_pos rfl]
  ·rw[if_neg e,Yy _ q,if_neg (fun z=>e z.symm)]
 ·rw[ag (by rw[bK,ZY];omega),ag (by rw[ZY];omega)]
theorem ZcB (n:Nat):(av n [V.int 0]).flatten=ZD n fun _=>0:=by
 have:∀k a,(av k [V.int 0]).flatten=(cT a k).map fun _=>V.int 0:=fun k=>by
  induction k with
  |zero=>intro a;rfl
  |succ k j=>intro a;rw[bm,cg,j (a+1),c9,aF];rfl
 unfold ZD;rw[this n 0,<-cS]
section
variable {P:Program}{w:World}{K:ab}{mg:Str->Option Value}{base:Heap}
theorem ZgV {f:Addr}{fd:FuncData}(F:WB K "number_at" "number_at" Zgq f fd)(T:Bl mg)(T2:Zcu mg)(T5:BlT mg)(GB:Fn P w K mg base Yd 1 "back_by" ["p", "x"] Jq)(GN:Fn P w K mg base Yd 3 "number_of" ["n", "powers"] (N40.ZdG K)):Z5 P w K mg base Yd 4 f fd ["walk", "one", "share", "roots", "p"] ZdH:=by
 refine F.ok (FS (N:=["walk", "one", "share", "roots", "p", "n", "step", "part", "often", "j"])) (fun vs H Q E h=>?_) (fun o7 A n6 s H vs Q E hr h=>?_)
 ·obtain⟨M,oa,ra,r,m,n,p,z,share,wk,one,rfl,_⟩:=h;rfl
 ·obtain⟨M,oa,ra,r,m,n,p,z,share,wk,one,rfl,hW,hO,hR,n1,n60,o8,r1,rn,rp,pl,pr,vo,n8,o9,p4,q⟩:=h
  refine⟨_,Zs (ZE 5 rfl (cb (YF K) T.len (pc (vn 3) Zu)))
   (Zs (ZE 6 rfl (Zz Jg (vn 5) (cb (YF K) T.len (pc (vn 0) Zu))))
   (Zs (ZE 7 rfl (Zz ZQ (vn 2) (Wd GB hr ZL (pc (vn 4) (pc (cb (YF K) T.len (pc (vn 0) Zu)) Zu)))))
   (Zs (ZE 8 rfl (Zz Jv (ZS (pc Zw Zu)) (vn 5)))
   (Zs (ZR ao rfl (Zoy T.range (pc Zw (pc (vn 5) (pc (vn 6) Zu)))) (gnf 9 rfl)
    (Zv (VP (Zz Z3 (Zz ZQ (vn 7) (cb (sumK K rfl) T5.sum (pc (cmp ["k", "c"] [1,3,9,5] ["k", "c", "one", "roots", "j", "n"] rfl (Xy K T2.enumerate (pc (vn 0) Zu)) (fun _ _ _ _ _=>g2 K 0 1 rfl (gn 0) (gn 1)) (fun _ _ _ _ _=>ZP)
     (fun _ _ _ _ _=>Zz ZQ (ZN (V2 K) (vn 2) (vn 1) (fun _ _=>rfl)) (ZN (V2 K) (vn 3) (Zz Z3 (Zz ZQ (vn 4) (vn 0)) (vn 5)) (fun _ _=>rfl)))) Zu))) (vn 4)) (VT (vn 8) (vn 9) Y5))))
   (Zv (ZG (Wd GN hr ZL (pc (vn 5) (pc (vn 8) Zu))))))))),?_⟩
  have p2:=pr.p2;have sz:(16777216:Nat)=sizeLine:=by decide
  have n9:1<=n / r:=Nat.div_pos rn (by omega);have p6:n / r<=n:=Nat.div_le_self _ _;have p7:((n:Nat):Int) / ((r:Nat):Int)=((n / r:Nat):Int):=rfl;refine⟨_,rfl,ra,_,rfl,.inl (.of hR),?_⟩;rw[WF];refine⟨_,rfl,_,rfl,M,_,rfl,.inl (.of hW),?_⟩;rw[ZY];refine⟨_,_,rfl,rfl,⟨by omega,by omega⟩,_,rfl,_,rfl,_,rfl,M,_,rfl,.inl (.of hW),?_⟩;rw[ZY];obtain⟨y0,y1,y2,y3⟩:=pr.iv r (by omega) rp;refine⟨p,_,rfl,p2,pl,⟨y0,y1,y2,by rw[<-aK,<-aY,y3];rfl⟩,fun y a1 a2 a3=>?_⟩;have hy:y*r % p=1:=by
   have:((y*r % p:Nat):Int)=1:=by rw[aY,aK];exact a3
   omega
  have eb:=ZeC a2 hy;refine⟨_,_,rfl,rfl,.inl ⟨by omega,by omega⟩,?_⟩;refine⟨(by show 1<=sizeLine;decide),fun l0 o0=>⟨_,rfl,l0,_,_,rfl,rfl,Zt,by omega,by omega,by show 1*((n:Int)).toNat<=sizeLine;omega,fun L nL=>?_⟩⟩;rw[Zj,ZcB];have s1:=Same.upd (H:=H) (o:=.lst [.int 0]) o0;have o5:H L=none:=s1.free nL;have s2:=s1.trans (Same.upd (o:=.lst (ZD n fun _=>0)) nL);have h2:upd (upd H l0 (.lst [.int 0])) L (.lst (ZD n fun _=>0)) L=some (.lst (ZD n fun _=>0)):=Zt;generalize upd (upd H l0 (.lst [.int 0])) L (.lst (ZD n fun _=>0))=H2 at s2 h2 ⊢;refine⟨_,rfl,_,rfl,n,n / r,rfl,n9,by omega,by omega,?_⟩;refine ZhB (fun i Y H'=>∃v9:Option V,Y=[some (.ref M),some (.ref oa),some (.int share),some (.ref ra),some (.int (p:Nat)),some (.int (n:Nat)),some (.int ((n / r:Nat):Int)),some (.int (share*(y:Int))),some (.ref L),v9]/\Same H H'/\H' L=some (.lst (ZD n fun j=>if j<i*(n / r) then ofF n r p share z (fun k=>one (wk k).toNat) j else 0)))
   ⟨_,rfl,s2,by rw[h2];congr 2;exact YO fun j _=>by rw[if_neg (by omega)]⟩ ?_ ?_
  ·rintro i Y H3 hi ⟨v9,rfl,s3,h3⟩
   have hj:i*(n / r)<n:=by
    unfold WM at hi;have:(i+1)*(n / r)<=n+n / r-1:=a6 (cV _ hi) (Nat.div_mul_le_self _ _);rw[cy] at this;omega
   have ej:(0:Int)+(i:Int)*((n / r:Nat):Int)=((i*(n / r):Nat):Int):=by rw[aK];omega
   rw[ej];generalize O:i*(n / r)=j at hj;have m8:=s3 _ _ hW;refine⟨_,rfl,_,rfl,M,rfl,.inl ⟨⟨_,.of m8⟩,?_⟩⟩;have zi:Zct (ZjL K M) (fun H=>Wx K H M (ZD r wk)) ((ZD r fun k=>(k:Int)).zip (ZD r wk)):=by
    have:=Znq (V5 (K:=K) (a:=M) (xs:=ZD r wk));rw[ZY] at this;exact this
   refine XW zi (fun H' sm=>.of (sm _ _ m8)) (Same.refl H3) [some (.ref oa),some (.ref ra),some (.int (j:Nat)),some (.int (n:Nat))] rfl (fun k c=>one c.toNat*((z ^ (j*k.toNat % n) % p:Nat):Int)) (by omega) (fun k H4 hk s4 R g=>?_) (fun D H4 nD s4 hD=>?_)
   ·obtain⟨c,hc,ec⟩:=n8 k hk
    have J:=s3.trans s4;have g1:=vo.ge c hc;have p8:=vo.lt c hc;rw[ec] at g ⊢;rw[Zj,Zj] at g;have m9:((j:Nat):Int)*((k:Nat):Int) % ((n:Nat):Int)=((j*k % n:Nat):Int):=by rw[aY,aK]
    have o6:XH (Yv p z n) (((j:Nat):Int)*((k:Nat):Int) % ((n:Nat):Int))=some (V.int ((z ^ (j*k % n) % p:Nat):Int)):=by
     rw[m9];exact ZiD (bW _ (by omega))
    refine⟨_,rfl,_,rfl,oa,_,_,_,rfl,rfl,.of (J _ _ hO),ZU (Yy one hc),_,rfl,_,rfl,_,rfl,_,_,rfl,rfl,.inl ⟨by omega,by omega⟩,_,rfl,_,_,rfl,rfl,(by show (0:Int)<(n:Int);omega),ra,_,_,_,rfl,rfl,.of (J _ _ hR),o6,_,_,rfl,rfl,.inl ⟨by omega,by omega⟩,g⟩
   ·rw[WK] at hD
    have yb:(y:Int)<100000:=by omega
    have mb:-(2 ^ 64)<share*(y:Int)/\share*(y:Int)<2 ^ 64:=by
     have h1:(y:Int) ≥ 1:=by omega
     constructor
     ·have:share*(y:Int) ≥ -(2 ^ 40)*100000:=by
       have a:share*(y:Int) ≥ (-(2 ^ 40))*(y:Int):=di (by omega) (by omega);have b:(-(2 ^ 40):Int)*(y:Int) ≥ -(2 ^ 40)*100000:=by omega
       omega
      omega
     ·have:share*(y:Int)<=(2 ^ 40)*(y:Int):=di (by omega) (by omega)
      omega
    have J:=s3.trans s4;refine⟨D,_,rfl,.of hD,_,_,rfl,rfl,.inl mb,_,rfl,_,_,rfl,rfl,(by show (0:Int)<(p:Int);omega),_,rfl,_,rfl,L,_,_,j,rfl,rfl,s4 _ _ h3,Jy (by rw[ZY];exact hj),?_⟩;refine⟨_,rfl,J.updr o5,?_⟩;rw[Zt,Zie _ _ hj];congr 2;refine YO fun a ha=>?_;have U:j % (n / r)=0:=by rw[<-O];exact Nat.mul_mod_left _ _
    by_cases e1:a=j
    ·rw[if_pos e1,if_pos (by rw[e1,<-O,cy];omega),e1]
     unfold ofF;rw[if_pos U,eb];rfl
    ·rw[if_neg e1]
     by_cases e2:a<j
     ·rw[if_pos (by rw[O];exact e2),if_pos (by rw[cy,O];omega)]
     ·rw[if_neg (by rw[O];exact e2)]
      by_cases e3:a<(i+1)*(n / r)
      ·rw[if_pos e3]
       unfold ofF;rw[if_neg];intro hz;rw[cy,O] at e3;obtain⟨q1,n4⟩:=aW hz;obtain⟨q2,q0⟩:=aW U;have:i<q1:=by
        apply ah;intro zz;have h4:(n / r)*q1<=(n / r)*i:=fP _ (by omega);rw[<-n4,fo,O] at h4;omega
       have h5:(n / r)*(i+1)<=(n / r)*q1:=fP _ (by omega);rw[<-n4,ju,gB,fo,O] at h5;omega
      ·rw[if_neg e3]
  ·rintro Y H3 ⟨v9,rfl,s3,h3⟩
   have big:n<=WM n (n / r)*(n / r):=by
    unfold WM;have h1:=Nat.div_add_mod (n+n / r-1) (n / r);have h2:=bW (n+n / r-1) (show 0<n / r by omega);rw[fo] at h1;omega
   have e3:(ZD n fun j=>if j<WM n (n / r)*(n / r) then ofF n r p share z (fun k=>one (wk k).toNat) j else 0)=ZD n (ofF n r p share z fun k=>one (wk k).toNat):=YO fun j hj=>if_pos (by omega)
   rw[e3,WK] at h3;refine⟨_,rfl,_,rfl,n,L,_,rfl,n1,n60,.inl (.of h3),by rw[Za,Zg];omega,fun q' H4 s4 h4=>?_⟩;exact q q' H4 (s3.trans s4) h4
end
noncomputable abbrev Zgj:Stmt:=top 4
noncomputable abbrev Zj4:Stmt:=top 5
noncomputable def ZdC:Sp:=fun j H Q _=>∃(g:Addr) (t:List (List Nat)) (a r:Nat),j=[.ref g,.int a]/\GT H g t/\PW t/\a<t.length/\Rd t a r/\Q (.int r) H
noncomputable def Zf9:Sp:=fun J H Q _=>∃(g:Addr) (t:List (List Nat)) (j:Nat->Nat),J=[.ref g]/\GT H g t/\PW t/\(∀a,a<t.length->Rd t a (j a))/\∀(f:Nat) q,Same H q->Lc j t.length f->Q (.int f) q
section
variable {P:Program}{w:World}{K:ab}{mg:Str->Option Value}{base:Heap}
theorem ZgP {f:Addr}{fd:FuncData}(F:WB K "round_of" "round_of" Zgj f fd):Z5 P w K mg base Yd 1 f fd ["group", "a"] ZdC:=by
 refine F.ok (FS (N:=["group", "a", "k", "found"])) (fun vs H Q E h=>?_) (fun m8 A U s H vs Q E hr h=>?_)
 ·obtain⟨g,t,a,r,rfl,_⟩:=h;rfl
 ·obtain⟨g,t,a,r,rfl,G,Y,ha,R,q⟩:=h
  refine⟨_,Zs (ZE 2 rfl Zw) (Zs (ZE 3 rfl (vn 1))
   (Zs (Z9 ao (ZT JY (vn 3) Zw (Z1 _))
    (Zs (ZE 3 rfl (ZN (Xt K) (ZN (Xt K) (vn 0) (vn 3) (fun _ _=>rfl)) (vn 1) (fun _ _=>rfl)))
    (Zv (Jt (i:=2) (Z0 (by kernel_rfl)) rfl (YL (by kernel_rfl)) Zw W2 (.inl rfl)))))
   (Zv (ZG (vn 2))))),?_⟩
  have r1:=R.r1;refine⟨_,rfl,?_⟩;refine Z6 (fun m j O=>∃k:Nat,j=[some (.ref g),some (.int a),some (.int k),some (.int (it t a k:Nat))]/\O=H/\1<=k/\k<=r/\m=r-k)
   (fun j O=>∃v3:Option V,j=[some (.ref g),some (.int a),some (.int r),v3]/\O=H) ?hend ⟨r-1,1,by rw[Zc8 Y ha];rfl,rfl,Zq _,r1,rfl⟩ ?turn
  case hend=>
   rintro j O ⟨v3,rfl,rfl⟩;exact⟨_,rfl,q⟩
  case turn=>
   rintro J m j O ⟨k,rfl,rfl,k1,kr,hm⟩;refine⟨_,rfl,rfl,_,rfl,?_⟩;refine Y0 (fun M=>?_) (fun M=>?_)
   ·have M:it t a k≠0:=fun z=>by
     rw[Yh,z] at M;simp at M
    have m9:k<r:=dB kr fun z=>M (z▸R.z);obtain⟨rs,r2,g1,_,g2,g3,g4⟩:=G.at Y (Wr Y ha k);refine⟨_,fun _ _ z=>z,_,rfl,_,rfl,g,_,_,_,rfl,rfl,.of g1,g2,_,rfl,r2,_,_,_,rfl,rfl,g3.sq,g4 a ha,_,rfl,_,_,rfl,rfl,r-(k+1),by omega,k+1,?_,rfl,by omega,by omega,rfl⟩;rfl
   ·have M:it t a k=0:=by
     apply ah;intro z;apply M;rw[Yh];simp[z]
    have:k=r:=by
     apply ah;intro z;exact R.nz k k1 (by omega) M
    exact J _ _ ⟨_,by rw[this],rfl⟩
theorem Zi2 {f:Addr}{fd:FuncData}(F:WB K "full_round" "full_round" Zj4 f fd)(T:Bl mg)(GR:Fn P w K mg base Yd 1 "round_of" ["group", "a"] ZdC):Z5 P w K mg base Yd 2 f fd ["group"] Zf9:=by
 refine F.ok (FS (N:=["group", "found", "a", "step"])) (fun vs H Q E h=>?_) (fun n4 A m9 s H vs Q E hr h=>?_)
 ·obtain⟨g,t,rs,rfl,_⟩:=h;rfl
 ·obtain⟨g,t,rs,rfl,G,Pt,R,q⟩:=h
  refine⟨_,Zs (ZE 1 rfl Zw) (Zs (ZR ao rfl (XM T.range (pc (cb (YF K) T.len (pc (vn 0) Zu)) Zu)) (gn 2)
    (Zs (ZE 3 rfl (vn 1))
    (Zv (Z9 ao (ZT JY (Zz Z3 (vn 1) (Wd GR hr ZL (pc (vn 0) (pc (vn 2) Zu)))) Zw (Z1 _)) (Zv (Jt (i:=1) (Z0 (by kernel_rfl)) rfl (YL (by kernel_rfl)) (vn 3) W2 (.inl rfl)))))))
   (Zv (ZG (vn 1)))),?_⟩
  have n1:=Pt.n1;have n6:=Pt.n60;obtain⟨gs,g1,g2,_⟩:=id G;have el:(gs.map V.ref).length=t.length:=by rw[Za,g2]
  refine⟨_,rfl,g,_,rfl,.inr (.of g1),_,rfl,by omega,by rw[el];omega,?_⟩;rw[Zj,el];refine Y3 (fun i Y H'=>∃(f:Nat) (v2 v3:Option V),Y=[some (.ref g),some (.int f),v2,v3]/\Same H H'/\Lc rs i f) ⟨1,_,_,rfl,Same.refl _,⟨Zq _,fun a ha=>absurd ha (dG _),fun x _=>Nat.mod_one x⟩⟩ ?_ ?_
  ·rintro i Y H' hi ⟨f,v2,v3,rfl,sm,L⟩
   rw[show (0:Int)+(i:Int)=(i:Int) by omega];have Ri:=R i hi;have n8:=Ri.r1;have L2:Lc rs (i+1) (upTo (rs i) f 61 f):=L.step (B:=t.length) n1 (fun a ha=>(R a (by omega)).dv) (by omega);have m8:=L2.dv i (by omega);refine⟨_,rfl,?_⟩;refine Z6 (fun m j J=>∃x:Nat,j=[some (.ref g),some (.int x),some (.int i),some (.int f)]/\J=H'/\upTo (rs i) f m x=upTo (rs i) f 61 f)
    (fun j J=>j=[some (.ref g),some (.int (upTo (rs i) f 61 f:Nat)),some (.int i),some (.int f)]/\J=H') ?hend ⟨61,f,rfl,rfl,rfl⟩ ?turn
   case hend=>
    rintro j J ⟨rfl,rfl⟩;exact⟨_,_,_,rfl,sm,L2⟩
   case turn=>
    rintro O m j J ⟨x,rfl,rfl,U⟩;have eT:(x:Int) % ((rs i:Nat):Int)=((x % rs i:Nat):Int):=by push_cast;rfl
    refine⟨_,rfl,_,rfl,_,rfl,g,t,i,rs i,rfl,G.mono sm,Pt,hi,Ri,_,_,rfl,rfl,(by show (0:Int)<(rs i:Nat);omega),rfl,_,rfl,?_⟩;refine Y0 (fun M=>?_) (fun M=>?_)
    ·have M:x % rs i≠0:=fun z=>by
      rw[Yh,eT,z] at M;simp at M
     cases m with
     |zero=>
      have U:x=upTo (rs i) f 61 f:=U;rw[<-U] at m8;exact absurd m8 M
     |succ m=>
      rw[Tb.upTo,if_neg M] at U;exact⟨_,fun _ _ z=>z,_,rfl,_,rfl,_,_,rfl,rfl,m,by omega,x+f,rfl,rfl,U⟩
    ·have M:x % rs i=0:=by
      apply ah;intro z;apply M;rw[Yh,eT];simp;omega
     have:x=upTo (rs i) f 61 f:=by
      cases m with
      |zero=>exact U
      |succ m=>rw[Tb.upTo,if_pos M] at U;exact U
     exact O _ _ ⟨by rw[this],rfl⟩
  ·rintro Y H' ⟨f,v2,v3,rfl,sm,L⟩
   exact⟨_,rfl,q f H' sm L⟩
end
end C40
namespace PyZ
open PySem PyProof PyProof.Rows
noncomputable def Runs (n:Nat)(cmp:Nat->Nat->Bool){α:Type}:jH α->(α->Prop)->Prop
 | .ret a,Q=>Q a
 | .ask i j k,Q=>i<n/\j<n/\Runs n cmp (k (cmp i j)) Q
theorem Runs.run {n:Nat}{cmp:Nat->Nat->Bool}{α:Type}{Q:α->Prop}:∀{t:jH α},Runs n cmp t Q->∃a,Vi n cmp t=some a/\Q a
 | .ret a,h=>⟨a,rfl,h⟩
 | .ask i j k,h=>by
  obtain⟨J,M,O⟩:=h;obtain⟨a,e,q⟩:=O.run;exact⟨a,by rw[Vi,if_pos ⟨J,M⟩];exact e,q⟩
theorem Runs.bind {n:Nat}{cmp:Nat->Nat->Bool}{α q:Type}{f:α->jH q}{Q:q->Prop}:∀{t:jH α},Runs n cmp t (fun a=>Runs n cmp (f a) Q)->Runs n cmp (t.bind f) Q
 | .ret a,h=>h
 | .ask i j k,h=>⟨h.1,h.2.1,h.2.2.bind⟩
theorem Runs.mono {n:Nat}{cmp:Nat->Nat->Bool}{α:Type}{Q q:α->Prop}(J:∀a,Q a->q a):∀{t:jH α},Runs n cmp t Q->Runs n cmp t q
 | .ret a,h=>J a h
 | .ask i j k,h=>⟨h.1,h.2.1,h.2.2.mono J⟩
section
variable {n:Nat}{rank:Nat->Nat}
noncomputable abbrev WI (rank:Nat->Nat):Nat->Nat->Bool:=fun i j=>decide (rank i<rank j)
noncomputable def RK (rank:Nat->Nat)(p:Array Nat)(i:Nat):Nat:=rank (p.getD i 0)
structure Uq (n:Nat)(p:Array Nat):Prop where
 pm:p.Perm (ac n).toArray
theorem Uq.size {p:Array Nat}(h:Uq n p):p.size=n:=by
 have:=h.pm.size_eq;simpa using this
theorem Uq.lt {p:Array Nat}(h:Uq n p){i:Nat}(hi:i<n):p.getD i 0<n:=by
 have j:=h.size;have q:p.toList.Perm (ac n):=by have:=h.pm;rw[jO] at this;simpa using this
 have e:p.getD i 0=p[i]'(by omega):=by simp[lY,j,hi]
 rw[e];have J:p[i]'(by omega)∈p.toList:=by simp
 exact ae.mp (q.mem_iff.mp J)
theorem JG {p q:Array Nat}{i j:Nat}(h:p[i]?=q[j]?):RK rank p i=RK rank q j:=by
 unfold RK;rw[cG,cG,h]
theorem ZfH {xs:Array Nat}{src d:Nat}(J:src<xs.size)(M:d<=src)(k:Nat) :
  RK rank (bubble xs src d) k=if k=src-d then RK rank xs src else if src-d<k/\k<=src then RK rank xs (k-1) else RK rank xs k:=by
 have e:=getElem?_bubble J d M k;by_cases j:k=src-d
 ·rw[if_pos j] at e ⊢;exact JG e
 ·rw[if_neg j] at e ⊢
  by_cases q:src-d<k/\k<=src
  ·rw[if_pos q] at e ⊢;exact JG e
  ·rw[if_neg q] at e ⊢;exact JG e
theorem Zdr {xs:Array Nat}{i j:Nat}(J:j<=xs.size)(k:Nat):RK rank (ff xs i j) k=if i<=k/\k<j then RK rank xs (i+j-1-k) else RK rank xs k:=by
 have e:=getElem?_mirror_all (i:=i) J k;unfold ff;by_cases q:i<=k/\k<j
 ·rw[if_pos q] at e ⊢;exact JG e
 ·rw[if_neg q] at e ⊢;exact JG e
theorem X5 {xs:Array Nat}{i j:Nat}(q:j<=xs.size)(heq:∀k,i<=k->k<j->RK rank xs k=RK rank xs (j-1))(k:Nat):RK rank (ff xs i j) k=RK rank xs k:=by
 rw[Zdr q];split
 ·rw[heq _ (by omega) (by omega),heq k (by omega) (by omega)]
 ·rfl
theorem Uq.rev {p:Array Nat}(h:Uq n p)(i j:Nat):Uq n (ff p i j):=⟨(mirror_perm p i j _).trans h.pm⟩
theorem Uq.bub {p:Array Nat}(h:Uq n p)(k d:Nat):Uq n (bubble p k d):=⟨(bubble_perm p k d).trans h.pm⟩
noncomputable def Up (rank:Nat->Nat)(p:Array Nat)(k:Nat):Prop:=∀i j,i<=j->j<k->RK rank p i<=RK rank p j
noncomputable def Dn (rank:Nat->Nat)(p:Array Nat)(k:Nat):Prop:=∀i j,i<=j->j<k->RK rank p j<=RK rank p i
theorem Up.snoc {p:Array Nat}{k:Nat}(O:1<=k)(h:Up rank p k)(J:RK rank p (k-1)<=RK rank p k):Up rank p (k+1):=fun i j q U=>by
 by_cases e:j=k
 ·subst e
  by_cases M:i=j
  ·rw[M];exact Zq _
  ·exact a6 (h i (j-1) (by omega) (by omega)) J
 ·exact h i j q (by omega)
theorem Dn.snoc {p:Array Nat}{k:Nat}(O:1<=k)(h:Dn rank p k)(J:RK rank p k<=RK rank p (k-1)):Dn rank p (k+1):=fun i j q U=>by
 by_cases e:j=k
 ·subst e
  by_cases M:i=j
  ·rw[M];exact Zq _
  ·exact a6 J (h i (j-1) (by omega) (by omega))
 ·exact h i j q (by omega)
theorem Zdq {p:Array Nat}(q:Uq n p):∀(f k:Nat),1<=k->k+f<=n->Up rank p k->Runs n (WI rank) (W.kas_asc p f k) fun m=>k<=m/\m<=k+f/\Up rank p m/\(m<k+f->RK rank p m<RK rank p (m-1))
 |0,k,J,M,j=>⟨Zq _,Zq _,j,fun z=>absurd z (by omega)⟩
 |f+1,k,J,M,j=>by
  refine⟨q.lt (by omega),q.lt (by omega),?_⟩;by_cases c:rank (p.getD k 0)<rank (p.getD (k-1) 0)
  ·rw[show WI rank _ _=true from decide_eq_true c]
   exact⟨Zq _,by omega,j,fun _=>c⟩
  ·rw[show WI rank _ _=false from decide_eq_false c]
   refine (Zdq q f (k+1) (by omega) (by omega) (j.snoc J (by unfold RK;omega))).mono fun m ⟨a,b,u,d⟩=>⟨by omega,by omega,u,fun z=>d (by omega)⟩
theorem Vv:∀(f:Nat) (p:Array Nat) (k q:Nat),Uq n p->1<=k->k+f<=n->q+1<=k->Dn rank p k->(∀j,k-1-q<=j->j<k->RK rank p j=RK rank p (k-1))->
  Runs n (WI rank) (W.kas_desc f p k q) fun r=>Uq n r.1/\1<=r.2.1/\r.2.1<=k+f/\r.2.2+1<=r.2.1/\Dn rank r.1 r.2.1/\∀j,r.2.1-1-r.2.2<=j->j<r.2.1->RK rank r.1 j=RK rank r.1 (r.2.1-1)
 |0,p,k,q,J,M,hk,U,hd,he=>⟨J,M,Zq _,U,hd,he⟩
 |f+1,p,k,q,J,M,hk,U,hd,he=>by
  refine⟨J.lt (by omega),J.lt (by omega),?_⟩;by_cases c:rank (p.getD k 0)<rank (p.getD (k-1) 0)
  ·rw[show WI rank _ _=true from decide_eq_true c]
   show Runs n (WI rank) (if q > 0 then W.kas_desc f (ff p (k-(q+1)) k) (k+1) 0 else W.kas_desc f p (k+1) 0) _
   have O:=hd.snoc M (eG c);have sz:=J.size;split
   ·have Y:∀j,RK rank (ff p (k-(q+1)) k) j=RK rank p j:=fun j=>X5 (by omega) (fun i a b=>he i (by omega) b) j
    refine (Vv f _ (k+1) 0 (J.rev _ _) (by omega) (by omega) (by omega) (fun i j a b=>?_) (fun j a b=>?_)).mono fun r ⟨a,b,c,d⟩=>⟨a,b,by omega,d⟩
    ·rw[Y,Y];exact O i j a b
    ·rw[show j=k+1-1 by omega]
   ·refine (Vv f _ (k+1) 0 J (by omega) (by omega) (by omega) O (fun j a b=>?_)).mono fun r ⟨a,b,c,d⟩=>⟨a,b,by omega,d⟩
    rw[show j=k+1-1 by omega]
  ·rw[show WI rank _ _=false from decide_eq_false c]
   refine⟨J.lt (by omega),J.lt (by omega),?_⟩;by_cases d:rank (p.getD (k-1) 0)<rank (p.getD k 0)
   ·rw[show WI rank _ _=true from decide_eq_true d]
    exact⟨J,M,(show k<=k+(f+1) by omega),U,hd,he⟩
   ·rw[show WI rank _ _=false from decide_eq_false d]
    have e:RK rank p k=RK rank p (k-1):=by unfold RK;omega
    refine (Vv f _ (k+1) (q+1) J (by omega) (by omega) (by omega) (hd.snoc M (by omega)) (fun j a b=>?_)).mono fun r ⟨a,b,c,d⟩=>⟨a,b,by omega,d⟩;rw[show k+1-1=k by omega];by_cases ej:j=k
    ·rw[ej]
    ·rw[he j (by omega) (by omega),e]
theorem Zbf {p:Array Nat}{k:Nat}(q:Uq n p)(J:1<=k)(U:k<=n)(M:Dn rank p k):Runs n (WI rank) (mh k n p) fun r=>1<=r.1/\r.1<=n/\Uq n r.2/\Up rank r.2 r.1:=by
 have sz:=q.size;have O:Up rank (ff p 0 k) k:=fun i j a b=>by
  rw[Zdr (by omega),Zdr (by omega),if_pos ⟨aZ _,by omega⟩,if_pos ⟨aZ _,b⟩];exact M _ _ (by omega) (by omega)
 exact Runs.bind ((Zdq (q.rev 0 k) (n-k) k J (by omega) O).mono fun m ⟨a,b,c,_⟩=>⟨a6 J a,by show m<=n;omega,q.rev 0 k,c⟩)
theorem Vd {p:Array Nat}{k:Nat}(J:Uq n p)(O:k+1<=n)(M:Dn rank p (k+1)):Runs n (WI rank) (W.kas_descPart k n p) fun r=>1<=r.1/\r.1<=n/\Uq n r.2/\Up rank r.2 r.1:=by
 refine Runs.bind ((Vv (n-(k+1)) p (k+1) 0 J (by omega) (by omega) (by omega) M (fun j a b=>by rw[show j=k+1-1 by omega])).mono fun r ⟨a,b,c,d,e,g⟩=>?_);have sz:=a.size;show Runs n (WI rank) (if r.2.2 > 0 then mh r.2.1 n (ff r.1 (r.2.1-(r.2.2+1)) r.2.1) else mh r.2.1 n r.1) _
 split
 ·have q:∀j,RK rank (ff r.1 (r.2.1-(r.2.2+1)) r.2.1) j=RK rank r.1 j:=fun j=>X5 (by omega) (fun i x y=>g i (by omega) y) j
  exact Zbf (a.rev _ _) b (by omega) fun i j x y=>by rw[q,q];exact e i j x y
 ·exact Zbf a b (by omega) e
theorem ZhR {p:Array Nat}(q:Uq n p)(h1:1<=n):Runs n (WI rank) (W.kas_count n p) fun r=>1<=r.1/\r.1<=n/\Uq n r.2/\Up rank r.2 r.1:=by
 refine Runs.bind ((Zdq q (n-1) 1 (Zq _) (by omega) (fun i j a b=>by rw[show i=0 by omega,show j=0 by omega];exact Zq _)).mono fun m ⟨a,b,c,d⟩=>?_);have sz:=q.size;show Runs n (WI rank) (if (m == n)=true then _ else _) _
 by_cases e:m=n
 ·rw[if_pos (by rw[e];exact beq_self_eq_true n)]
  exact⟨a,by show m<=n;omega,q,c⟩
 ·rw[if_neg (by simpa using e)]
  have O:=d (by omega);have J:Dn rank p m->Dn rank p (m+1):=fun h=>h.snoc a (eG O);split
  ·refine⟨q.lt (by omega),q.lt (by omega),?_⟩
   by_cases g:rank (p.getD 0 0)<rank (p.getD (m-1) 0)
   ·rw[show WI rank _ _=true from decide_eq_true g]
    exact⟨a,by show m<=n;omega,q,c⟩
   ·rw[show WI rank _ _=false from decide_eq_false g]
    have all:∀j,j<m->RK rank p j=RK rank p (m-1):=fun j U=>by
     have x:=c 0 j (by omega) U;have y:=c j (m-1) (by omega) (by omega);unfold RK at x y ⊢;omega
    have M:∀j,RK rank (ff p 0 m) j=RK rank p j:=fun j=>X5 (by omega) (fun i _ y=>all i y) j;refine Vd (q.rev 0 m) (by omega) fun i j x y=>?_;rw[M,M];exact J (fun i j x y=>by rw[all i (by omega),all j y];exact Zq _) i j x y
  ·have Y:m=1:=by omega
   subst Y;exact Vd q (by omega) (J fun i j x y=>by rw[show i=0 by omega,show j=0 by omega];exact Zq _)
theorem VR {p:Array Nat}{k:Nat}(j:Uq n p)(U:k<n)(q:Up rank p k):∀(f l r:Nat),r-l<=f->l<=r->r<=k->(∀i,i<l->RK rank p i<=RK rank p k)->(∀i,r<=i->i<k->RK rank p k<RK rank p i)->
  Runs n (WI rank) (W.kas_place p k f l r) fun m=>m<=k/\(∀i,i<m->RK rank p i<=RK rank p k)/\∀i,m<=i->i<k->RK rank p k<RK rank p i
 |0,l,r,hf,Y,J,M,O=>by
  have e:l=r:=by omega
  subst e;exact⟨J,M,O⟩
 |f+1,l,r,hf,Y,J,M,O=>by
  show Runs n (WI rank) (if l ≥ r then _ else _) _
  split
  ·have e:l=r:=by omega
   subst e;exact⟨J,M,O⟩
  ·refine⟨j.lt U,j.lt (by omega),?_⟩
   by_cases c:rank (p.getD k 0)<rank (p.getD ((l+r) / 2) 0)
   ·rw[show WI rank _ _=true from decide_eq_true c]
    refine VR j U q f l ((l+r) / 2) (by omega) (by omega) (by omega) M fun i a b=>?_;exact aE c (q _ _ a b)
   ·rw[show WI rank _ _=false from decide_eq_false c]
    refine VR j U q f ((l+r) / 2+1) r (by omega) (by omega) J (fun i a=>?_) O;have:=q i ((l+r) / 2) (by omega) (by omega);unfold RK at this ⊢;omega
theorem Zh2:∀(f:Nat) (p:Array Nat) (k:Nat),Uq n p->k+f=n->Up rank p k->Runs n (WI rank) (W.kas_bin f p k) fun r=>Uq n r/\Up rank r n
 |0,p,k,J,U,q=>⟨J,by rw[<-U];exact q⟩
 |f+1,p,k,J,U,q=>by
  have sz:=J.size;refine Runs.bind ((VR J (by omega) q k 0 k (by omega) (by omega) (Zq _) (fun i h=>by omega) (fun i a b=>by omega)).mono fun l ⟨a,b,c⟩=>?_);refine Zh2 f _ (k+1) (J.bub _ _) (by omega) fun i j O hj=>?_;have hb:=fun x=>ZfH (rank:=rank) (xs:=p) (src:=k) (d:=k-l) (by omega) (by omega) x;rw[hb i,hb j];have el:k-(k-l)=l:=by omega
  rw[el];have m9:=q;by_cases Y:i=l
  ·rw[if_pos Y]
   by_cases M:j=l
   ·rw[if_pos M];exact Zq _
   ·rw[if_neg M,if_pos ⟨by omega,by omega⟩]
    exact eG (c (j-1) (by omega) (by omega))
  ·rw[if_neg Y]
   by_cases i2:l<i/\i<=k
   ·rw[if_pos i2,if_neg (by omega),if_pos ⟨by omega,by omega⟩]
    exact q _ _ (by omega) (by omega)
   ·rw[if_neg i2]
    have il:i<l:=by omega
    by_cases M:j=l
    ·rw[if_pos M];exact b i il
    ·rw[if_neg M]
     by_cases j2:l<j/\j<=k
     ·rw[if_pos j2];exact q _ _ (by omega) (by omega)
     ·rw[if_neg j2];exact q _ _ O (by omega)
theorem Zio (O:1<=n)(rank:Nat->Nat):∃p,Vi n (WI rank) (kh n)=some p/\p.toList.Perm (ac n)/\(p.toList.map rank).Pairwise (· ≤ ·):=by
 have:Runs n (WI rank) (kh n) fun p=>Uq n p/\Up rank p n:=by
  refine Runs.bind ((ZhR (rank:=rank) ⟨Array.Perm.refl _⟩ O).mono fun r ⟨a,b,c,d⟩=>?_);show Runs n (WI rank) (if r.1<n then _ else _) _
  split
  ·have e:max r.1 1=r.1:=by omega
   rw[e];exact Zh2 _ _ _ c (by omega) d
  ·exact⟨c,by rw[show n=r.1 by omega];exact d⟩
 obtain⟨p,e,M,U⟩:=this.run;refine⟨p,e,?_,?_⟩
 ·have:=M.pm
  rw[jO] at this;simpa using this
 ·have sz:=M.size
  rw[jW];intro i j q J Y;rw[Za] at q J;have li:i<p.size:=by simpa using q
  have lj:j<p.size:=by simpa using J
  have:=U i j (by omega) (by omega);unfold RK at this;rw[mP,mP];have ei:p.getD i 0=p.toList[i]'q:=by simp[lY,li]
  have ej:p.getD j 0=p.toList[j]'J:=by simp[lY,lj]
  rw[ei,ej] at this;exact this
end
end PyZ
namespace PyZ
open PySem PyProof PyProof.Rows SeqAt
open AutoSeq1 (wpAny_loadPart')
theorem Vs {vs:List Value}{ns:List Int}(h:bO vs ns):∀{i:Nat}{v:Value},vs[i]?=some v->∃n t,ns[i]?=some n/\v=.int n t:=by
 induction h with
 |nil=>intro i v e;simp at e
 |cons n t _ j=>
  intro i v e
  match i,e with
  |0,e=>cases e;exact⟨_,_,rfl,rfl⟩
  |i+1,e=>exact j (i:=i) (by simpa using e)
theorem Xw {vs:List Value}{ns:List Int}(h:bO vs ns):vs.length=ns.length:=by
 induction h with
 |nil=>rfl
 |cons _ _ _ j=>rw[Zi,Zi,j]
theorem Zfa {fin:Bool}{xs ys:List Int}{i:Nat}{x y:Int}(j:xs[i]?=some x)(q:ys[i]?=some y):Zc7 fin (xs.drop i) (ys.drop i)=if x=y then Zc7 fin (xs.drop (i+1)) (ys.drop (i+1)) else decide (x<y):=by
 have J:=(aa.mp j);have M:=(aa.mp q);obtain⟨O,U⟩:=J;obtain⟨Y,e2⟩:=M;rw[bU O,bU Y,U,e2];rfl
theorem Zhg {fin:Bool}{xs ys:List Int}{i:Nat}(h:xs[i]?=none\/ys[i]?=none):Zc7 fin (xs.drop i) (ys.drop i)=fin:=by
 rcases h with h|h
 ·rw[fj (gh.mp h)]
  rfl
 ·rw[fj (as:=ys) (gh.mp h)]
  cases xs.drop i with
  |nil=>rfl
  |cons _ _=>rfl
section
variable {prog:Program}{w:World}{A:Around}{E:Value->Shared->Prop}{s:Shared}
end
end PyZ
namespace PyZ
open PySem PyProof PyProof.Rows
theorem ZaL (ys:List Int):ltB [] ys=decide (0<ys.length):=rfl
theorem Zb2 (xs:List Int):ltB xs []=false:=by
 cases xs with
 |nil=>rfl
 |cons x xs=>
  show decide ((x::xs).length<([]:List Int).length)=false;exact decide_eq_false (by simp)
theorem VZ (x y:Int)(xs ys:List Int):ltB (x::xs) (y::ys)=if x=y then ltB xs ys else decide (x<y):=by
 unfold ltB;show (if x=y then Zc7 _ xs ys else _)=_
 have e:decide ((x::xs).length<(y::ys).length)=decide (xs.length<ys.length):=by
  simp only[Zi,ku]
 rw[e]
theorem Zeh:∀xs:List Int,ltB xs xs=false
 | []=>rfl
 |x::xs=>by rw[VZ,if_pos rfl];exact Zeh xs
theorem Zeg:∀{xs ys:List Int},ltB xs ys=false->ltB ys xs=false->xs=ys
 | [],[],_,_=>rfl
 | [],_::_,h,_=>by rw[ZaL] at h;simp at h
 |_::_,[],_,h=>by rw[ZaL] at h;simp at h
 |x::xs,y::ys,j,q=>by
  rw[VZ] at j q;by_cases e:x=y
  ·rw[if_pos e] at j
   rw[if_pos e.symm] at q;rw[e,Zeg j q]
  ·rw[if_neg e] at j
   rw[if_neg (bJ e)] at q;have a:=of_decide_eq_false j;have b:=of_decide_eq_false q;omega
theorem UT:∀{xs ys q:List Int},ltB xs ys=true->ltB ys q=true->ltB xs q=true
 |xs,ys,[],_,h=>by rw[Zb2] at h;cases h
 |xs,[],z::q,h,_=>by rw[Zb2] at h;cases h
 | [],y::ys,z::q,_,_=>by rw[ZaL];exact decide_eq_true (by simp)
 |x::xs,y::ys,z::q,J,j=>by
  rw[VZ] at J j ⊢;by_cases O:x=y
  ·rw[if_pos O] at J
   by_cases M:y=z
   ·rw[if_pos M] at j
    rw[if_pos (O.trans M)];exact UT J j
   ·rw[if_neg M] at j
    have:=of_decide_eq_true j;rw[if_neg (by omega)];exact decide_eq_true (by omega)
  ·rw[if_neg O] at J
   have a:=of_decide_eq_true J;by_cases M:y=z
   ·rw[if_neg (by omega)]
    exact decide_eq_true (by omega)
   ·rw[if_neg M] at j
    have:=of_decide_eq_true j;rw[if_neg (by omega)];exact decide_eq_true (by omega)
theorem VJ {n:Nat}{cmp q:Nat->Nat->Bool}(h:∀i j,i<n->j<n->cmp i j=q i j){α:Type}:∀t:jH α,Vi n cmp t=Vi n q t
 | .ret a=>rfl
 | .ask i j k=>by
  rw[Vi,Vi];by_cases J:i<n/\j<n
  ·rw[if_pos J,if_pos J,h i j J.1 J.2]
   exact VJ h _
  ·rw[if_neg J,if_neg J]
theorem U5 {α:Type}{p q:α->Bool}:∀{l:List α},(∀x∈l,p x=true->q x=true)->(∃x∈l,p x=false/\q x=true)->l.countP p<l.countP q
 | [],_,⟨x,j,_⟩=>by cases j
 |y::l,h,⟨x,j,J,M⟩=>by
  have le:∀{l:List α},(∀x∈l,p x=true->q x=true)->l.countP p<=l.countP q:=fun {l} h=>List.countP_mono_left h;rw[mR,mR];have O:∀x∈l,p x=true->q x=true:=fun z U=>h z (ay _ U);rcases aG.mp j with e|j
  ·rw[<-e,J,M]
   have:=le O;simp only[dz,if_false,if_true];omega
  ·have:=U5 O ⟨x,j,J,M⟩
   have Y:=h y aB;cases e1:p y with
   |true=>rw[Y e1];omega
   |false=>
    simp only[dz,if_false];split <;> omega
section
variable {prog:Program}{w:World}{A:Around}{E:Value->Shared->Prop}{s:Shared}
theorem Zid (vs:List Value)(h:vs.length<2):(vs.toArray.zip vs.toArray).map (·.2)=vs.toArray:=by
 cases vs with
 |nil=>simp
 |cons v r=>
  cases r with
  |nil=>simp
  |cons a b=>exact absurd h (by rw[Zi,Zi];omega)
theorem ZcN {a:Addr}{vs:List Value}{n:Nat}{P:Fin->Shared->Prop}(M:s.heap.get? a=some (seqObj "list" vs.toArray n))(h2:vs.length<2)
  (h:P (.done (.ret .none)) {s with heap:=sortedHeap s.heap a vs vs.toArray}):wpAny (model prog w) A (cY.«list.sort» ⟨[.ref a],[]⟩) P E s:=by
 rw[list_sort_plain];have U:a<s.heap.objs.size:=Zp M;refine Zl (listItems_at M rfl ?_);refine Zl (listUpdate_at M rfl ?_);obtain⟨O,j⟩:∃O,(s.heap.update a (cM fun _=>#[])).get? a=some (seqObj "list" #[] O):=⟨_,ko M (fun _=>#[])⟩;refine Zl (seqEpoch_at j rfl ?_);refine Zl (kJ ?_);refine Zl (lH ?_);refine cN ?_;have q:(((s.heap.update a (cM fun _=>#[])).push (seqObj "tuple" vs.toArray 0)).push (seqObj "list" #[] 0)).get? a=some (seqObj "list" #[] O):=by
  rw[mv _ _ _ (by rw[size_push',jd];exact ax (fq U)),mv _ _ _ (by rw[jd];exact ax U)];exact j
 show wpAny (model prog w) A _ P E {s with heap:=((s.heap.update a (cM fun _=>#[])).push (seqObj "tuple" vs.toArray 0)).push (seqObj "list" #[] 0)};dsimp only;have m8:vs.toArray.size=vs.length:=by simp
 have J:vs.toArray.size<2:=by omega
 rw[if_pos J,if_pos J];refine Zl (Zm ?_);rw[StateT.run_pure];refine Zl (Zm ?_);dsimp only;have eo:(arrOf (SortSt.mk' general' (vs.toArray.zip vs.toArray) #[] 7 none)).map (·.2)=vs.toArray:=by
  exact Zid _ h2
 refine Zl (seqEpoch_at q rfl ?_);refine Zl (listUpdate_at q rfl ?_ (hsz2:=by rw[Array.size_map];show (pairsOf vs).size<=_;rw[pairsOf_size,fS];omega));simp only[bne_self_eq_false,dz,if_false];refine Zm ?_;rw[eo];exact h
theorem Zap {l:Addr}{vs:List Value}{Q:Value->Shared->Prop}(J:s.heap.IsList l vs.toArray)(M:vs.length<2)
  (h:Q (.ref (s.heap.objs.size+1)) {s with heap:=sortedAll s.heap vs vs.toArray}):wpAny (model prog w) A (call (.builtin "sorted") [.ref l]) Q E s:=by
 refine lD kind_sorted plain_sorted entry_sorted (args_sorted1 _) ?_;unfold cY.«sorted»;refine Zl (m:=checkCount "sorted" 1 1 _) (Zm ?_);refine Zl (collect_list J ?_ (by rw[fS];omega));refine Zl (lH ?_ (by rw[fS];omega));have j:((s.heap.push (seqObj "list" #[] 0)).update s.heap.objs.size (cM (· ++ vs.toArray))).objs.size=s.heap.objs.size+1:=by
  rw[jd,size_push']
 have q:(((s.heap.push (seqObj "list" #[] 0)).update s.heap.objs.size (cM (· ++ vs.toArray))).push (seqObj "list" vs.toArray 0)).get? (s.heap.objs.size+1)=some (seqObj "list" vs.toArray 0):=by
  rw[<-j];exact Zo _ rfl
 show wpAny _ _ _ _ _ {s with heap:=((s.heap.push (seqObj "list" #[] 0)).update s.heap.objs.size (cM (· ++ vs.toArray))).push (seqObj "list" vs.toArray 0)};rw[j];refine Zl (cN (bx slot_list_sort ⟨_,q,rfl⟩ entry_list_sort (ZcN q M ⟨_,rfl,?_⟩) (args_list_sort _)));exact Zm ⟨_,rfl,h⟩
end
section
variable {prog:Program}{w:World}{A:Around}{E:Value->Shared->Prop}{s:Shared}
end
end PyZ
namespace L2
open PySem PySem.Spec PyProof.Rows
section
variable {X:Cx}{pins:List (Addr×Obj)}{σ:St}{H:Hp}{s:Shared}
theorem ZiT:∀{as:List Addr},as.length<2->((ac as.length).map fun i=>as.getD i 0)=as
 | [],_=>rfl
 | [_],_=>rfl
theorem Zla {β:Type}:∀{n:Nat},n<2->∀(f:Nat->β) (R:β->β->Prop),((ac n).map f).Pairwise R
 |0,_,_,_=>fI
 |1,_,_,_=>gL _ _
end
end L2
namespace PyZ
open PySem PyProof PyProof.Rows SeqAt
open AutoSeq1 (wpAny_loadPart')
theorem ZfU (l b:Addr)(items j:Array Value)(n n2:Nat)(dd n6:Option Addr)(sl n8:Array (Option Value)){xs ys:List Int}(hx:bO items.toList xs)(hy:bO j.toList ys) :
  Meets (cY.«tuple.__lt__» ⟨[.ref l,.ref b],[]⟩)
   (fun A R s=>s.heap.get? l=some {cls:=.type "tuple",dict:=dd,data:=.seq items n,slots:=sl}/\s.heap.get? b=some {cls:=.type "tuple",dict:=n6,data:=.seq j n2,slots:=n8}/\
    R (.ok (.ret (.bool (ltB xs ys)))) s):=
 .of_wp fun m8 w A R s h=>by
  obtain⟨hp,g,d,tk,os⟩:=s;obtain⟨hl,hb,h⟩:=h;have f2:=AutoSeq1.sub_tuple_tuple;have sx:items.size=xs.length:=by rw[<-Xw hx,Zr]
  have sy:j.size=ys.length:=by rw[<-Xw hy,Zr]
  have hZ:(items.toList.zip j.toList).length=min items.size j.size:=by simp
  wp_walk using wpAny_loadPart' hl,wpAny_loadPart' hb,wpAny_forIn_list _ (fun rest b s'=>b.1=none/\s'=⟨hp,g,d,tk,os⟩/\∃i,rest=(items.toList.zip j.toList).drop i/\
   R (.ok (.ret (.bool (Zc7 (decide (xs.length<ys.length)) (xs.drop i) (ys.drop i))))) ⟨hp,g,d,tk,os⟩) _
  case turn=>
   rintro⟨y,x⟩ rest b s' ⟨M,rfl,i,O,J⟩;have m9:i<(items.toList.zip j.toList).length:=by
    rcases fV i (items.toList.zip j.toList).length with U|U
    ·exact U
    ·rw[List.drop_of_length_le U] at O;cases O
   have hm:i<min items.size j.size:=hZ▸m9;have h1:i<items.size:=aE hm (jN _ _);have h2:i<j.size:=aE hm (Nat.min_le_right _ _);rw[bU m9] at O;injection O with n4 Y;have n9:y=items[i]:=by have:=congrArg lE n4;simpa using this
   have o0:x=j[i]:=by have:=congrArg Prod.snd n4;simpa using this
   subst n9 o0;obtain⟨a,ta,ex,vx⟩:=Vs hx (i:=i) (v:=items[i]) (by simp[h1]);obtain⟨c,tc,ey,vy⟩:=Vs hy (i:=i) (v:=j[i]) (by simp[h2]);rw[Zfa ex ey] at J;rw[vx,vy];refine Zl (jq _ _ _ _ m8 w _ _ ?_);by_cases e:a=c
   ·rw[if_pos e] at J
    rw[show (a == c)=true from beq_iff_eq.mpr e]
    wp_walk
    exact⟨rfl,rfl,i+1,Y,J⟩
   ·rw[if_neg e] at J
    rw[show (a == c)=false from beq_eq_false_iff_ne.mpr e];simp only[Bool.not_false,if_true];refine Zl (dJ ?_);refine Zl (show wpAny _ _ (compareOp .Lt (.int a ta) (.int c tc)) _ _ _ from lt_int ?_)
    wp_walk
    exact⟨_,rfl,J⟩
  case fin=>
   rintro⟨b1,b2⟩ s' ⟨M,rfl,i,O,J⟩;simp only at M;subst M;have o6:min items.size j.size<=i:=by
    rcases fV i (items.toList.zip j.toList).length with U|U
    ·rw[bU U] at O;cases O
    ·exact hZ▸U
   rw[Zhg (by
    rcases fV i xs.length with q|q
    ·exact .inr (ag (by omega))
    ·exact .inl (ag q))] at J
   wp_walk
   refine⟨_,rfl,?_⟩;rw[sx,sy];exact J
  case h=>
   exact⟨rfl,rfl,0,rfl,h⟩
noncomputable def Zhf (fin:Bool):List (List Int)->List (List Int)->Bool
 | [],_=>fin
 |_::_,[]=>fin
 |x::j,y::q=>if x=y then Zhf fin j q else ltB x y
noncomputable def Vr (xs ys:List (List Int)):Bool:=Zhf (decide (xs.length<ys.length)) xs ys
noncomputable def JE (h:Heap):List Value->List (List Int)->Prop
 | [],[]=>True
 |v::q,x::J=>(∃a j,v=.ref a/\h.IsTuple a j/\bO j.toList x)/\JE h q J
 |_,_=>False
section
variable {prog:Program}{w:World}{A:Around}{E:Value->Shared->Prop}{s:Shared}
theorem Zjm {us vs:List Value}{xs ys:List Int}(q:bO us xs)(j:bO vs ys)(h:us=vs):xs=ys:=by
 subst h;induction q generalizing ys with
 |nil=>cases j;rfl
 |cons _ _ _ J=>cases j with|cons _ _ r=>rw[J r]
theorem Zl5 {xs ys:List Int}:((ac (min xs.length ys.length)).all (fun j=>xs.getD j 0 == ys.getD j 0) && xs.length == ys.length)=decide (xs=ys):=by
 by_cases e:xs=ys
 ·subst e
  rw[decide_eq_true rfl,beq_self_eq_true,fG,aN];intro j _;exact beq_self_eq_true _
 ·rw[decide_eq_false e]
  cases q:((ac (min xs.length ys.length)).all (fun j=>xs.getD j 0 == ys.getD j 0) && xs.length == ys.length) with
  |false=>rfl
  |true=>
   refine absurd ?_ e;rw[af,aN] at q;have M:xs.length=ys.length:=eq_of_beq q.2;refine aX fun i=>?_;by_cases J:i<xs.length
   ·have:=eq_of_beq (q.1 i (ae.mpr (by omega)))
    rw[Zf J,Zf (by omega)];rw[Zb,Zb,Zf J,Zf (by omega)] at this;exact congrArg some this
   ·rw[ag (by omega),ag (by omega)]
theorem ZfI {a b:Addr}{us vs:Array Value}{xs ys:List Int}(U:A.units<cLine)(O:s.heap.IsTuple a us)(hb:s.heap.IsTuple b vs)(J:bO us.toList xs)(M:bO vs.toList ys):kT A s (.ref a) (.ref b) (decide (xs=ys)):=by
 by_cases e:a=b
 ·subst e
  obtain⟨o,Y,_,n1,d1⟩:=O;obtain⟨o2,k1,_,n2,q⟩:=hb;rw[Y] at k1;cases k1;rw[d1] at q;injection q with q _;subst q;rw[Zjm J M rfl,decide_eq_true rfl];exact EqAt.same _
 ·have sx:us.size=xs.length:=by rw[<-Xw J,Zr]
  have sy:vs.size=ys.length:=by rw[<-Xw M,Zr]
  have:=RcAt.tuples (A:=A) (s:=s) (e:=fun j=>xs.getD j 0 == ys.getD j 0) O hb U (fun j h1 h2=>by
   obtain⟨x,tx,ex,vx⟩:=Vs J (i:=j) (v:=us[j]) (by simp[h1]);obtain⟨y,ty,ey,vy⟩:=Vs M (i:=j) (v:=vs[j]) (by simp[h2]);rw[vx,vy,Zb,Zb,ex,ey];exact jq _ _ _ _)
  rw[sx,sy,Zl5] at this;exact EqAt.of_refs e this
theorem Zjc {a b:Addr}{us vs:Array Value}{xs ys:List Int}{Q:Value->Shared->Prop}(hu:A.units<cLine)(ha:s.heap.IsTuple a us)(hb:s.heap.IsTuple b vs)(hx:bO us.toList xs)(hy:bO vs.toList ys)(h:Q (.bool (ltB xs ys)) s):wpAny (model prog w) A (compareOp .Lt (.ref a) (.ref b)) Q E s:=by
 obtain⟨⟨m9,dd,data,sl⟩,U,Y,n,hd⟩:=id ha;obtain⟨⟨m8,M,data2,O⟩,j,q,n2,J⟩:=id hb;simp only at Y hd q J;subst Y hd q J;exact richCompare_meets_room (op:=.Lt) ⟨_,U,rfl⟩ ⟨_,j,rfl⟩ F.slot_tuple_lt F.entry_tuple_lt (F.args_tuple_lt_2 _ _) (ZfU a b us vs n n2 dd M sl O hx hy)
  ⟨U,j,show iJ (ltB xs ys)≠Value.notImplemented/\Q (.bool (ltB xs ys)) s from ⟨(fun x=>nomatch x),h⟩⟩ hu
theorem Zeo {fin:Bool}{Q:Bool->Shared->Prop}(O:A.units<cLine):∀(M vs:List Value) (xs ys:List (List Int)) (i:Nat),JE s.heap M xs->JE s.heap vs ys->Q (Zhf fin xs ys) s->W.KatLex prog w A false fin Q (M.zip vs) i s
 | [],vs,xs,ys,i,j,J,q=>by
  cases xs with
  |nil=>exact W.kat_nil q
  |cons _ _=>exact j.elim
 |_::_,[],xs,ys,i,j,J,q=>by
  cases ys with
  |cons _ _=>exact J.elim
  |nil=>
   cases xs with
   |nil=>exact W.kat_nil q
   |cons x xs=>exact W.kat_nil q
 |u::M,v::vs,xs,ys,i,j,J,q=>by
  cases xs with
  |nil=>exact j.elim
  |cons x xs=>
   cases ys with
   |nil=>exact J.elim
   |cons y ys=>
    obtain⟨⟨a,ua,rfl,U,Y⟩,r1⟩:=j;obtain⟨⟨b,ub,rfl,tb,ib⟩,r2⟩:=J;rw[List.zip_cons_cons];refine W.kat_cons ?_;refine ZfI O U tb Y ib prog w _ _ ?_;rw[Zhf] at q;by_cases e:x=y
    ·rw[if_pos e] at q
     rw[decide_eq_true e];exact W.kat_yes (Zeo O M vs xs ys (i+1) r1 r2 q)
    ·rw[if_neg e] at q
     rw[decide_eq_false e];refine W.kat_no ?_;rw[Bool.false_and];exact W.kat_one _ _ (Zjc O U tb Y ib q)
end
end PyZ
namespace PyZ
open PySem PyProof PyProof.Rows SeqAt
theorem ZaK (ys:List (List Int)):Vr [] ys=decide (0<ys.length):=rfl
theorem Zb1 (xs:List (List Int)):Vr xs []=false:=by
 cases xs with
 |nil=>rfl
 |cons x xs=>
  show decide ((x::xs).length<([]:List (List Int)).length)=false;exact decide_eq_false (by simp)
theorem VY (x y:List Int)(xs ys:List (List Int)):Vr (x::xs) (y::ys)=if x=y then Vr xs ys else ltB x y:=by
 unfold Vr;show (if x=y then Zhf _ xs ys else _)=_
 have e:decide ((x::xs).length<(y::ys).length)=decide (xs.length<ys.length):=by
  simp only[Zi,ku]
 rw[e]
theorem Zef:∀xs:List (List Int),Vr xs xs=false
 | []=>rfl
 |x::xs=>by rw[VY,if_pos rfl];exact Zef xs
theorem Zee:∀{xs ys:List (List Int)},Vr xs ys=false->Vr ys xs=false->xs=ys
 | [],[],_,_=>rfl
 | [],_::_,h,_=>by rw[ZaK] at h;simp at h
 |_::_,[],_,h=>by rw[ZaK] at h;simp at h
 |x::xs,y::ys,j,q=>by
  rw[VY] at j q;by_cases e:x=y
  ·rw[if_pos e] at j
   rw[if_pos e.symm] at q;rw[e,Zee j q]
  ·rw[if_neg e] at j
   rw[if_neg (bJ e)] at q;exact absurd (Zeg j q) e
theorem US:∀{xs ys O:List (List Int)},Vr xs ys=true->Vr ys O=true->Vr xs O=true
 |xs,ys,[],_,h=>by rw[Zb1] at h;cases h
 |xs,[],z::O,h,_=>by rw[Zb1] at h;cases h
 | [],y::ys,z::O,_,_=>by rw[ZaK];exact decide_eq_true (by simp)
 |x::xs,y::ys,z::O,J,q=>by
  rw[VY] at J q ⊢;by_cases M:x=y
  ·rw[if_pos M] at J
   by_cases j:y=z
   ·rw[if_pos j] at q
    rw[if_pos (M.trans j)];exact US J q
   ·rw[if_neg j] at q
    rw[if_neg (by rw[M];exact j),M];exact q
  ·rw[if_neg M] at J
   by_cases j:y=z
   ·rw[if_neg (by rw[<-j];exact M),<-j]
    exact J
   ·rw[if_neg j] at q
    have U:=UT J q;rw[if_neg (fun e=>by rw[e,Zeh] at U;cases U)];exact U
noncomputable def rkR (yss:List (List (List Int)))(i:Nat):Nat:=(ac yss.length).countP fun k=>Vr (yss.getD k []) (yss.getD i [])
theorem Zd2 {yss:List (List (List Int))}{i j:Nat}(q:i<yss.length)(O:j<yss.length):Vr (yss.getD i []) (yss.getD j [])=decide (rkR yss i<rkR yss j):=by
 have J:∀{i j:Nat},i<yss.length->Vr (yss.getD i []) (yss.getD j [])=true->rkR yss i<rkR yss j:=fun {i j} q h=>by
  refine U5 (fun k _ U=>US U h) ⟨i,ae.mpr q,Zef _,h⟩
 cases e:Vr (yss.getD i []) (yss.getD j []) with
 |true=>rw[decide_eq_true (J q e)]
 |false=>
  cases M:Vr (yss.getD j []) (yss.getD i []) with
  |true=>
   have:=J O M;rw[decide_eq_false (by omega)]
  |false=>
   have:=Zee e M;unfold rkR;rw[this];exact (decide_eq_false (by omega)).symm
theorem ZcO {yss:List (List (List Int))}(M:1<=yss.length):∃p,Vi yss.length (fun i j=>Vr (yss.getD i []) (yss.getD j [])) (kh yss.length)=some p/\p.toList.Perm (ac yss.length)/\(p.toList.map fun i=>yss.getD i []).Pairwise fun a b=>Vr b a=false:=by
 obtain⟨p,e,q,J⟩:=Zio M (rkR yss);refine⟨p,(VJ (fun i j O U=>Zd2 O U) _).trans e,q,?_⟩;rw[iZ] at J ⊢;refine fJ (fun {a b} Y hb m8=>?_) J;have la:=ae.mp (q.mem_iff.mp Y);have lb:=ae.mp (q.mem_iff.mp hb);rw[Zd2 lb la];exact decide_eq_false (by omega)
theorem JE.len {h:Heap}:∀{us:List Value}{xs:List (List Int)},JE h us xs->us.length=xs.length
 | [],[],_=>rfl
 | [],_::_,h=>h.elim
 |_::_,[],h=>h.elim
 |_::_,_::_,h=>by rw[Zi,Zi,h.2.len]
theorem Zb9 {h:Heap}:∀(as:List Addr) (yss:List (List (List Int))),as.length=yss.length->(∀(i:Nat) a,as[i]?=some a->∃(j:List Value) (ys:List (List Int)),yss[i]?=some ys/\h.IsTuple a j.toArray/\JE h j ys/\ys≠[])->
  ∃fs:List Value,W.KatTups h (as.map aR) fs/\fs.length=as.length/\∀v∈fs,∃a j,v=aR a/\h.IsTuple a j
 | [],[],_,_=>⟨[],W.KatTups.nil,rfl,fun v q=>by cases q⟩
 | [],_::_,h,_=>by cases h
 |_::_,[],h,_=>by cases h
 |a::as,ys::yss,M,g=>by
  obtain⟨j,O,e,⟨o,U,c,n,d⟩,J,ne⟩:=g 0 a rfl;cases e;obtain⟨fs,k,l,f⟩:=Zb9 as yss (c6 M) fun i Y hi=>g (i+1) Y hi
  match j,ys,J,ne with
  |_,[],_,ne=>exact absurd rfl ne
  | [],_::_,J,_=>exact J.elim
  |u::j,y::ys,J,_=>
   obtain⟨⟨b,ub,rfl,tb,_⟩,_⟩:=J;refine⟨aR b::fs,W.KatTups.cons U c d (by simp) k,by rw[Zi,Zi,l],fun v q=>?_⟩;rcases aG.mp q with rfl|q
   ·exact⟨b,ub,rfl,tb⟩
   ·exact f v q
section
variable {prog:Program}{w:World}{A:Around}{E:Value->Shared->Prop}{s:Shared}
theorem Zao {l L:Addr}{m:Str->Option Value}{as:List Addr}{yss:List (List (List Int))}{p:Array Nat}{Q:Value->Shared->Prop}(hu:A.units+2<cLine)(n6:s.heap.Ns L m)(hl:s.heap.IsList l (as.map aR).toArray)(n2:2<=as.length)(n8:as.length<64)(hy:as.length=yss.length)
  (ht:∀h':Heap,(∀b o,b≠L->s.heap.get? b=some o->h'.get? b=some o)->∀(i:Nat) a,as[i]?=some a->∃(us:List Value) (ys:List (List Int)),yss[i]?=some ys/\h'.IsTuple a us.toArray/\JE h' us ys/\ys≠[])
  (hp:Vi as.length (fun i j=>Vr (yss.getD i []) (yss.getD j [])) (kh as.length)=some p)
  (q:∀D c h',s.heap.get? D=none->D≠L->(∀b o,b≠L->s.heap.get? b=some o->h'.get? b=some o)->h'.Ns L m->h'.get? D=some (W.listOf (p.toList.map fun i=>(as.map aR).getD i bX).toArray c)->Q (.ref D) {s with heap:=h'}) :
  wpAny (model prog w) A (call (.builtin "sorted") [.ref l]) Q E s:=by
 have fr:Fr (Zfr s.heap L) L s.heap m:=by
  refine⟨n6,fun b o e=>?_,?_⟩
  ·by_cases hb:b<L
   ·rw[Xz hb] at e;exact e
   ·rw[U4 (jo hb)] at e
    cases e
  ·show (s.heap.objs.extract 0 L).size<=L
   rw[lX,eF];exact jN ..
 have nw:News (Zfr s.heap L) L s.heap (Yf s.heap L):=fun x hx=>by
  obtain⟨J,h2⟩:=Jj.mp hx;exact⟨h2,bw J,U4 (eG J)⟩
 have lv:(as.map aR).length=as.length:=jx ..;refine W.kat_sorted fr nw hl (by rw[lv];exact n2) (by rw[lv];exact n8) fun D e1 h' m8 M big=>?_;have kept:∀b o,b≠L->s.heap.get? b=some o->h'.get? b=some o:=fun b o hb e=>by
  rcases fV b L with J|J
  ·exact m8.keep b o (by rw[Xz J];exact e)
  ·exact (M (b,o) (ay _ (Jj.mpr ⟨dB J (bJ hb),e⟩))).1
 have dn:s.heap.get? D=none:=by
  cases e:s.heap.get? D with
  |none=>rfl
  |some o=>
   obtain⟨_,dL,dc⟩:=M _ (aB ..);rcases fV D L with J|J
   ·rw[Xz J] at dc
    rw[dc] at e;cases e
   ·exact absurd (big (D,o) (Jj.mpr ⟨dB J (bJ dL),e⟩)) (cf _)
 have dL:D≠L:=(M _ (aB ..)).2.1;have Y:=ht h' kept;obtain⟨fs,kt,fl,fi⟩:=Zb9 as yss hy Y;refine W.kat_kind (T:=dk "tuple") kt (by omega) (fun v hv=>?_) (by decide +kernel) ?_
 ·obtain⟨a,us,rfl,⟨o,g1,g2,_⟩⟩:=fi v hv
  intro A Q E s' hk q;refine jE (T:="tuple") ⟨o,hk _ _ g1,g2⟩ q
 ·rw[lv]
  have kb:(dk "tuple" != dk "tuple")=false:=by decide +kernel
  rw[kb];refine UX (cmp:=fun i j=>Vr (yss.getD i []) (yss.getD j [])) (fun i j C hi hj c=>?_) _ p _ hp ?_
  ·unfold W.kas_ask
   obtain⟨us,ys,e,⟨o,g1,g2,n1,g3⟩,ia,_⟩:=Y i as[i] (Zf hi);obtain⟨n9,m9,e2,⟨o2,k1,k2,o5,k3⟩,n4,_⟩:=Y j as[j] (Zf hj);have v1:(as.map aR).getD i bX=.ref as[i]:=by
    rw[Zb,Zc,Zf hi];rfl
   have v2:(as.map aR).getD j bX=.ref as[j]:=by
    rw[Zb,Zc,Zf hj];rfl
   have w1:yss.getD i []=ys:=by rw[Zb,e];rfl
   have w2:yss.getD j []=m9:=by rw[Zb,e2];rfl
   rw[v1,v2];refine W.kat_lt g1 g3 k1 k3 ?_;refine Zeo (by show A.units+1+1<cLine;omega) us n9 ys m9 0 ia n4 ?_;rw[w1,w2] at c;unfold Vr at c;rw[Zh,Zh,ia.len,n4.len];exact c
  ·refine⟨_,_,m8,M,W.UpdF.head (fun x hx=>ax (big x hx)),fun o0 c O U=>?_⟩
   refine q D c o0 dn dL (fun b o hb e=>?_) O.ns (U _ (aB ..)).1;rcases fV b L with J|J
   ·exact O.keep b o (by rw[Xz J];exact e)
   ·exact (U (b,o) (ay _ (Jj.mpr ⟨dB J (bJ hb),e⟩))).1
end
end PyZ
namespace L2
open PySem PySem.Spec PyProof.Rows
noncomputable def RowT (H:Hp)(a:Addr)(ys:List (List Int)):Prop:=∃cs:List Addr,H a=some (.tup (cs.map V.ref))/\cs.length=ys.length/\∀(i:Nat) c,cs[i]?=some c->∃y,ys[i]?=some y/\H c=some (.tup (y.map V.int))
section
variable {X:Cx}{pins:List (Addr×Obj)}{σ:St}{H:Hp}{s:Shared}
noncomputable def ZkR:List V->Hp->VK->Prop:=fun xs H Q=>∃(l:Addr) (q:List Addr) (j:List (List (List Int))),xs=[.ref l]/\H l=some (.lst (q.map V.ref))/\q.length=j.length/\q.length<64/\
 (∀(i:Nat) a,q[i]?=some a->∃J,j[i]?=some J/\J≠[]/\RowT H a J)/\
 ∀D M,H D=none->bT M (ac q.length)->(M.map fun i=>j.getD i []).Pairwise (fun a b=>PyZ.Vr b a=false)->Q (.ref D) (upd H D (.lst ((M.map fun i=>q.getD i 0).map V.ref)))
theorem UJ (I:Inv X pins σ H s){h':Heap}(kept:∀b o,b≠X.env.locals->s.heap.get? b=some o->h'.get? b=some o):∀(cs:List Addr) (ys:List (List Int)),cs.length=ys.length->(∀(i:Nat) c,cs[i]?=some c->∃y,ys[i]?=some y/\H c=some (.tup (y.map V.int)))->PyZ.JE h' (cs.map aR) ys
 | [],[],_,_=>trivial
 | [],_::_,h,_=>by cases h
 |_::_,[],h,_=>by cases h
 |c::cs,y::ys,J,g=>by
  obtain⟨y',e,j⟩:=g 0 c rfl;cases e;obtain⟨us,M,⟨o,O,g2⟩,_⟩:=I.tuple (.of j);have q:c≠X.env.locals:=fun z=>by rw[z,I.free] at j;cases j
  exact⟨⟨c,us.toArray,rfl,⟨o,kept c o q O,g2⟩,by simpa using Vz M⟩,UJ I kept cs ys (c6 J) fun i U Y=>g (i+1) U Y⟩
theorem Zdm (hu:X.A.units+64<cLine):Yo X (.builtin "sorted") ZkR:=by
 intro pins s σ H xs us Q I r h;obtain⟨l,j,J,rfl,hl,hy,m9,ht,q⟩:=h;obtain⟨u,rfl,ru⟩:=r.one;cases ru;obtain⟨m,hm,n4⟩:=id I.loc;obtain⟨z,o7,n,rv,hlen,e⟩:=I.lstM hl;have ei:=JH rv;subst ei;have Y:s.heap.IsList l (j.map aR).toArray:=(I.list (.of hl)).elim fun o6 hh=>by
  obtain⟨O,pl,_⟩:=hh;have:=JH O;rw[this] at pl;exact pl.isList
 have o8:(16777216:Nat)=sizeLine:=by decide
 have n6:∀{a:Addr}{o:HO},H a=some o->a≠X.env.locals:=fun {a o} e z=>by rw[z,I.free] at e;cases e
 by_cases n2:j.length<2
 ·refine PyZ.Zap Y (by rw[Za];exact n2) ?_
  obtain⟨e1,he⟩:=sortedAll_at s.heap (j.map aR) (j.map aR).toArray;have m8:∀b o,s.heap.get? b=some o->(sortedAll s.heap (j.map aR) (j.map aR).toArray).get? b=some o:=fun b o e=>sortedAll_old e;generalize sortedAll s.heap (j.map aR) (j.map aR).toArray=h' at he m8 ⊢;have U:s.heap.objs.size<=s.heap.objs.size+1:=gC _;generalize s.heap.objs.size+1=D at he U ⊢;have em:=ZiT n2;have n8:=Zla n2 (fun i=>J.getD i []) fun a b=>PyZ.Vr b a=false;have fin:=q D (ac j.length) (I.hok.fresh U) (cW _) n8;rw[em] at fin;have I':Inv X pins σ (upd H D (.lst (j.map V.ref))) {s with heap:=h',toks:=s.toks}:=I.laid (a:=D) (o:=.lst (j.map V.ref)) (t':=s.toks) m8 U ⟨by rw[Za];omega,j.map aR,e1,XO j,he⟩;exact⟨.ref D,_,I',rfl,fin⟩
 ·obtain⟨p,hp,M,n9⟩:=PyZ.ZcO (yss:=J) (by omega)
  rw[<-hy] at hp M;have o0:∀i∈p.toList,i<j.length:=fun i hi=>ae.mp (M.mem_iff.mp hi);have pl:p.toList.length=j.length:=by rw[M.length_eq,Zg]
  have es:(p.toList.map fun i=>(j.map aR).getD i bX)=(p.toList.map fun i=>j.getD i 0).map aR:=by
   rw[aU];refine a9 fun i hi=>?_;have:=o0 i hi;show (j.map aR).getD i bX=aR (j.getD i 0);rw[Zb,Zc,Zf this,Zb,Zf this];rfl
  refine PyZ.Zao (yss:=J) (p:=p) (by omega) hm Y (by omega) m9 hy (fun h' kept i a hi=>?_) hp (fun D c h' dn dL kept o5 hD=>?_)
  ·obtain⟨ys,e1,ne,cs,ha,cl,hc⟩:=ht i a hi
   obtain⟨us,O,⟨o,g1,g2⟩,_⟩:=I.tuple (.of ha);have eu:=JH O;subst eu;exact⟨_,ys,e1,⟨o,kept a o (n6 ha) g1,g2⟩,UJ I kept cs ys cl hc,ne⟩
  ·rw[es] at hD
   obtain⟨I',hH⟩:=I.newL (ys:=(p.toList.map fun i=>j.getD i 0).map V.ref) hm n4 dn dL kept o5 (by rw[Za,Za];omega) (XO _) hD;exact⟨.ref D,_,I',rfl,q D _ hH M n9⟩
end
end L2
namespace C40
open PySem L2 PySem.Spec PyProof.Rows
open Tb Pm
noncomputable abbrev Zgi:Stmt:=top 19
noncomputable def Xv (t:List (List Nat))(n p:Nat)(e:Nat->Nat->Nat)(z:Nat)(j:Nat->Nat)(s x:Nat):List Int:=Zg5 n (ofF n (rdT t x) p ((t.length:Int)*(bkM p (j s):Int)) z fun k=>(e s (it t x k):Int))
noncomputable def JT (t:List (List Nat))(n p m:Nat)(e:Nat->Nat->Nat)(z:Nat)(j:Nat->Nat)(s:Nat):List (List Int):=(ac m).map fun c=>Xv t n p e z j s (ZB t c)
noncomputable def ZfG (H:Hp)(r:Addr)(yss:List (List (List Int))):Prop:=∃cs:List Addr,H r=some (.tup (cs.map V.ref))/\cs.length=yss.length/\∀(i:Nat) c,cs[i]?=some c->∃j,yss[i]?=some j/\RowT H c j
noncomputable def ZdB:Sp:=fun M H Q _=>∃(g:Addr) (t:List (List Nat)) (n p m:Nat) (e O U:Nat->Nat->Nat) (z:Nat) (J:Nat->Nat),M=[.ref g]/\GT H g t/\PW t/\TD t n p m e O U z J/\
 ∀r j q,Same H q->ZfG q r j->j.Perm ((ac m).map (JT t n p m e z J))->j.Pairwise (fun a b=>PyZ.Vr b a=false)->Q (.ref r) q
theorem _root_.L2.RowT.mono {H j:Hp}{a:Addr}{ys:List (List Int)}(h:RowT H a ys)(s:Same H j):RowT j a ys:=by
 obtain⟨q,J,M,O⟩:=h;refine⟨q,s _ _ J,M,fun i c U=>?_⟩;obtain⟨y,Y,g2⟩:=O i c U;exact⟨y,Y,s _ _ g2⟩
section
variable {t:List (List Nat)}{n p m:Nat}{e ω φ:Nat->Nat->Nat}{z:Nat}{dg:Nat->Nat}
theorem ZcV {a r:Nat}(R:Rd t a r){x:Nat}(h:it t a x=0):x % r=0:=by
 rw[V3 R] at h;apply ah;intro z;exact R.nz (x % r) (by omega) (bW _ R.r1) h
theorem ZhK {a r:Nat}(R:Rd t a r){x:Nat}(h:x % r=0):it t a x=0:=by
 rw[V3 R,h];rfl
theorem _root_.Tb.TD.round (D:TD t n p m e ω φ z dg){rs:Nat->Nat}(R:∀a,a<t.length->Rd t a (rs a)){f:Nat}(L:Lc rs t.length f):f=n:=by
 have q:n % f=0:=L.mn n fun a j=>ZcV (R a j) (D.all a j);have J:f % n=0:=D.mn f fun a j=>ZhK (R a j) (L.dv a j);have M:=L.f1;have O:=D.n1;have U:=eV (by omega) (aW q);have Y:=eV (by omega) (aW J);omega
theorem _root_.Tb.TD.rd (D:TD t n p m e ω φ z dg){a r:Nat}(j:a<t.length)(R:Rd t a r):r<=n/\r<p:=by
 have h:=ZcV R (D.all a j);have M:=D.n1;have q:=eV (by omega) (aW h);obtain⟨J,O,_⟩:=D.fit.st;exact⟨q,by omega⟩
end
section
variable {P:Program}{w:World}{K:ab}{mg:Str->Option Value}{base:Heap}
theorem ZgO {f:Addr}{fd:FuncData}(F:WB K "table_of" "table_of" Zgi f fd)(T:Bl mg)(T2:Zcu mg)(GR:Fn P w K mg base Yd 2 "full_round" ["group"] Zf9)(GF:Fn P w K mg base Yd 1 "fit_prime" ["n", "count"] Zga)(t9:Fn P w K mg base Yd 1 "root_powers" ["n", "p"] Zal)(GW:Fn P w K mg base Yd 6 "power_walks" ["group"] ZdA)(GC:Fn P w K mg base Yd 6 "counts_of" ["group"] Zbo)(GA:Fn P w K mg base Yd 4 "taken_apart" ["counts", "p"] ZdM)(GB:Fn P w K mg base Yd 1 "back_by" ["p", "x"] Jq)(G1:Fn P w K mg base Yd 1 "first_of" ["one", "count", "p"] (ZdL K))(GN:Fn P w K mg base Yd 4 "number_at" ["walk", "one", "share", "roots", "p"] ZdH):Z5 P w K mg base Yd 7 f fd ["group"] ZdB:=by
 refine F.ok (FS (N:=["group", "n", "p", "roots", "walks", "rows", "one", "share"])) (fun vs H Q E h=>?_) (fun cdv A u5 s H vs Q E hr h=>?_)
 ·obtain⟨g,t,n,p,m,e,ω,φ,z,dg,rfl,_⟩:=h;rfl
 ·obtain⟨g,t,n,p,m,e,ω,φ,z,dg,rfl,G,Pt,D,q⟩:=h
  refine⟨_,Zs (ZE 1 rfl (Wd GR hr ZL (pc (vn 0) Zu)))
   (Zs (ZE 2 rfl (Wd GF hr ZL (pc (vn 1) (pc (cb (YF K) T.len (pc (vn 0) Zu)) Zu))))
   (Zs (ZE 3 rfl (Wd t9 hr ZL (pc (vn 1) (pc (vn 2) Zu))))
   (Zs (ZE 4 rfl (Wd GW hr ZL (pc (vn 0) Zu)))
   (Zs (ZE 5 rfl (ZS Zu))
   (Zs (ZR ao rfl (itL K (Wd GA hr ZL (pc (Wd GC hr ZL (pc (vn 0) Zu)) (pc (vn 2) Zu)))) (gnf 6 rfl)
    (Zs (ZE 7 rfl (Zz ZQ (cb (YF K) T.len (pc (vn 0) Zu)) (Wd GB hr ZL (pc (vn 2) (pc (Wd G1 hr ZL (pc (vn 6) (pc (cb (YF K) T.len (pc (vn 0) Zu)) (pc (vn 2) Zu)))) Zu)))))
    (Zv (Ya (Y6 aH aM aO ZV (vn 5)
     (pc (ct ZH T.tuple (pc (cmp ["walk"] [6,7,3,2] ["walk", "one", "share", "roots", "p"] rfl (itL K (vn 4)) (fun _ _ _ _ _=>gn 0) (fun _ _ _ _ _=>ZP)
      (fun _ _ _ _ _=>Wd GN hr ZL (pc (vn 0) (pc (vn 1) (pc (vn 2) (pc (vn 3) (pc (vn 4) Zu))))))) Zu)) Zu))))))
   (Zv (ZG (ct ZH T.tuple (pc (cb (Zdm hr.units) T2.sorted (pc (vn 5) Zu)) Zu))))))))),?_⟩
  have sz:(16777216:Nat)=sizeLine:=by decide
  have n60:=D.n60;have u9:=Pt.n60;have N1:=Pt.n1;have C:=D.cd;have p2:=C.pr.p2;have pl:=D.fit.lt;have m1:=C.m1;have x6:=ZhZ C Pt;have mc:=C.mc;have U:=Yw Pt;obtain⟨gs,u1,u2,_⟩:=id G;have el:(gs.map V.ref).length=t.length:=by rw[Za,u2]
  have p4:∀a,a<t.length->Rd t a (rdT t a):=fun a ha=>by
   obtain⟨r,R⟩:=Pt.rd a ha;rw[ZaC R];exact R
  refine⟨_,rfl,g,t,rdT t,rfl,G,Pt,p4,fun fr H1 s1 L=>?_⟩;have x8:=D.round p4 L;subst x8;refine⟨_,rfl,_,rfl,g,_,rfl,.inr (.of (s1 _ _ u1)),fr,t.length,p,by rw[el];rfl,D.n1,n60,by omega,D.fit,fun H2 s2=>?_⟩;refine⟨_,rfl,_,rfl,fr,p,z,rfl,D.n1,n60,p2,pl,D.rt,fun Ro H3 nRo s3 x9=>?_⟩;have p6:=(s1.trans s2).trans s3;refine⟨_,rfl,g,t,rfl,G.mono p6,Pt,fun Wk ws H4 s4 W4=>?_⟩;rw[<-mc] at W4;refine⟨(by show 0<=sizeLine;decide),fun L nL=>?_⟩;have s5:=Same.upd (H:=H4) (o:=.lst []) nL;have h5:upd H4 L (.lst []) L=some (.lst ([]:List V)):=Zt;generalize upd H4 L (.lst [])=H5 at s5 h5 ⊢;have r6:=(p6.trans s4).trans s5;have y4:H L=none:=(p6.trans s4).free nL;refine⟨_,rfl,g,t,rfl,G.mono r6,Pt,fun Cn H6 s6 C6=>?_⟩;rw[<-mc] at C6;refine⟨_,rfl,Cn,t,p,m,e,ω,φ,rfl,C,Pt,pl,C6,fun Sm cs ss H7 s7 S7=>?_⟩;have p7:=(r6.trans s6).trans s7;have h7:=(s6.trans s7) _ _ h5;obtain⟨S1,S2,S3,S4⟩:=S7;have o0:ss.length=m:=by rw[S3.length_eq,Zg]
  have m9:∀{b:Addr}{xs:List V},xs≠[]->H7 b=some (.lst xs)->b≠L:=fun {b xs} hx hb=>VW hb h7 hx;have neT:∀{b:Addr}{xs:List V},H7 b=some (.tup xs)->b≠L:=fun {b xs} hb z=>by rw[z,h7] at hb;cases hb
  have r8:cs.map V.ref≠[]:=fun z=>by
   have:=congrArg cJ z;rw[Za,S2,o0] at this;simp at this;omega
  have r9:∀{k:Nat}{v:Nat->Int},1<=k->ZD k v≠[]:=fun {k v} hk z=>by
   have:=congrArg cJ z;rw[ZY] at this;simp at this;omega
  have y6:=Z8 S1 (m9 r8 S1);refine⟨Sm,rfl,⟨_,.of S1⟩,?_⟩;have W7:H7 Wk=some (.lst (ws.map V.ref)):=(s5.trans (s6.trans s7)) _ _ W4.at';have R7:H7 Ro=some (.lst (Yv p z fr)):=(s4.trans (s5.trans (s6.trans s7))) _ _ x9;have n4:(ws.map V.ref).length=m:=by rw[Za,W4.len]
  refine Y8 (H0:=but H7 L) (Yz (K:=K) (.of y6)) (fun i o5 H'=>∃(rs:List Addr) (v6 v7:Option V),o5=[some (.ref g),some (.int (fr:Nat)),some (.int (p:Nat)),some (.ref Ro),some (.ref Wk),some (.ref L),v6,v7]/\Same (but H7 L) H'/\H' L=some (.lst (rs.map V.ref))/\rs.length=i/\∀(j:Nat) c,rs[j]?=some c->RowT H' c (JT t fr p m e z dg (ss.getD j 0)))
   ⟨[],_,_,rfl,fun b o hb=>(YB hb).2,h7,rfl,fun j c O=>by simp at O⟩ (fun i o5 H' h=>by
    obtain⟨_,_,_,_,sm,_⟩:=h;exact sm) ?_ ?_
  ·rintro i y o5 H8 hy ⟨rs,v6,v7,rfl,s8,h8,rl,o6⟩
   have hi:i<m:=by
    have:=(aa.mp hy).1;rw[Za,S2,o0] at this;exact this
   rw[Zc,Zf (show i<cs.length by omega)] at hy;cases hy;have ho:=S4 i _ (Zf (show i<cs.length by omega));generalize cs[i]'(by omega)=oa at ho ⊢;have J:ss.getD i 0<m:=by
    have:ss.getD i 0∈ss:=by rw[Zb,Zf (by omega)];exact bc _
    exact ae.mp (S3.mem_iff.mp this)
   generalize y8:ss.getD i 0=M at ho J;have k8:∀{b:Addr}{o:HO},H7 b=some o->b≠L->H8 b=some o:=fun {b o} hb Y=>s8 b o (Z8 hb Y);have t0:=k8 ho (m9 (r9 m1) ho);have u8:=k8 (p7 _ _ u1) (neT (p7 _ _ u1));have W8:=k8 W7 (m9 (fun Y=>by rw[Y] at n4;simp at n4;omega) W7);have t5:Yv p z fr≠[]:=fun Y=>by
    have:=congrArg cJ Y;rw[WF] at this;have:=D.n1;simp at *;omega
   have R8:=k8 R7 (m9 t5 R7);have Uy:ZB t 0=0:=by
    have h0:0<(Zy t t.length).length:=by omega
    exact ((U.z _ (U.rl 0 h0)).mp (U.rn 0 h0))
   have e0:EC t e M 0=e M 0:=by unfold EC;rw[Uy]
   have elt:=C.elt M 0 J (by omega);refine⟨_,rfl,g,_,rfl,.inr (.of u8),_,rfl,_,rfl,_,rfl,g,_,rfl,.inr (.of u8),_,rfl,oa,(ac m).map fun c=>((EC t e M c:Nat):Int),e M 0,t.length,p,dg M,by rw[el];rfl,.of (by rw[t0,WK]),?_,by omega,u9,p2,pl,D.d1 M J,D.dl M J,D.dq M J,fun d' a b=>D.dm M d' J a b,?_⟩
   ·rw[Zc,ak (by omega)]
    show some ((EC t e M 0:Nat):Int)=_;rw[e0]
   have y9:=D.dp M J;have dg1:=D.d1 M J;obtain⟨y0,y1,y2,y3⟩:=C.pr.iv (dg M) (by omega) y9;refine⟨p,_,rfl,p2,pl,⟨y0,y1,y2,by rw[<-aK,<-aY,y3];rfl⟩,fun y a1 a2 a3=>?_⟩;have hy:y*dg M % p=1:=by
    have:((y*dg M % p:Nat):Int)=1:=by rw[aY,aK];exact a3
    omega
   have eb:=ZeC a2 hy;refine⟨_,_,rfl,rfl,.inr ⟨by omega,by omega⟩,?_⟩;rw[el];refine⟨_,rfl,.inl ⟨rfl,_,.of h8⟩,_,rfl,Wk,rfl,⟨_,.of W8⟩,?_⟩;refine Pm.YM (W:=Addr) id (fun c a H=>H a=some (.tup ((Xv t fr p e z dg M (ZB t c)).map V.int))) (fun _ _=>True) (Yz (K:=K) (.of W8)) [some (.ref oa),some (.int ((t.length:Int)*(y:Int))),some (.ref Ro),some (.int (p:Nat))] rfl (by rw[n4];omega) (fun k a H H' sm h=>sm _ _ h) (fun a H H' sm h=>trivial) (fun k a H0' H1' D' o ys ys' h1 h2 h3 h4=>by rw[Zx (fun Y=>by rw[Y,h4] at h1;cases h1)];exact h1) (fun c x hx H9 s9 R k9=>?_) (fun D9 as H9 nD9 s9 hD9 t6 has _=>?_)
   ·have O:c<m:=by
     have:=(aa.mp hx).1;rw[n4] at this;exact this
    rw[Zc,Zf (show c<ws.length by have:=W4.len;omega)] at hx;cases hx;have hw:=W4.it c _ (Zf (show c<ws.length by have:=W4.len;omega));generalize ws[c]'(by have:=W4.len;omega)=wa at hw ⊢;have o7:=U.rl c (by omega);have Rr:=p4 _ o7;have rr:=D.rd o7 Rr;have t7:=(s5.trans (s6.trans s7)) _ _ hw;have hw8:=k8 t7 (m9 (r9 Rr.r1) t7);have tl:(t.length:Int)<=60:=by omega
    have shb:(t.length:Int)*(y:Int)<2 ^ 40:=by
     have:(t.length:Int)*(y:Int)<=60*(y:Int):=di tl (by omega);omega
    have sha:0<=(t.length:Int)*(y:Int):=Int.mul_nonneg (by omega) (by omega);refine⟨_,rfl,_,rfl,_,rfl,_,rfl,_,rfl,wa,oa,Ro,rdT t (ZB t c),m,fr,p,z,_,_,_,rfl,s9 _ _ hw8,s9 _ _ t0,s9 _ _ R8,D.n1,n60,x6,Rr.r1,rr.1,rr.2,pl,C.pr,⟨fun c _=>by omega,fun c O=>?_⟩,fun k hk=>?_,by omega,shb,fun q' m8 n6 o8=>?_⟩
    ·have:=C.elt M (ZB t c) J (U.rl c (by omega))
     show ((e M (ZB t c):Nat):Int)<(p:Int);omega
    ·exact⟨YC t (it t (ZB t c) k),by have:=U.lt _ (Wr Pt o7 k);omega,rfl⟩
    ·refine k9 q' m8 n6 ?_ trivial
     rw[o8];show some (HO.tup ((Zg5 fr (ofF fr (rdT t (ZB t c)) p ((t.length:Int)*(y:Int)) z fun k=>((EC t e M (wkF t (ZB t c) k).toNat:Nat):Int))).map V.int))=_;unfold Xv;rw[eb];congr 3;congr 2;funext k;unfold wkF;rw[Zj,<-C.at Pt J (Wr Pt o7 k)]
   ·refine⟨D9,_,rfl,.inl ⟨.of hD9,fun tp p8=>?_⟩⟩
    have n6:=Same.upd (H:=H9) (o:=.tup (as.map fun w=>V.ref (id w))) p8;have hT:upd H9 tp (.tup (as.map fun w=>V.ref (id w))) tp=some (.tup (as.map V.ref)):=Zt;generalize upd H9 tp (.tup (as.map fun w=>V.ref (id w)))=m8 at n6 hT ⊢;have n8:=s9.trans n6;have o8:=n8 _ _ h8;refine⟨L,_,_,rfl,rfl,o8,by rw[Za,rl];omega,?_⟩;have keep:∀{b:Addr}{xs:List V},m8 b=some (.tup xs)->upd m8 L (.lst (rs.map V.ref++[.ref tp])) b=some (.tup xs):=fun {b xs} hb=>by
     rw[Zx (fun Y=>by rw[Y,o8] at hb;cases hb)];exact hb
    have n9:∀{b:Addr}{ys:List (List Int)},RowT m8 b ys->RowT (upd m8 L (.lst (rs.map V.ref++[.ref tp]))) b ys:=fun {b ys} hb=>by
     obtain⟨bs,b1,b2,b3⟩:=hb;refine⟨bs,keep b1,b2,fun j c O=>?_⟩;obtain⟨yy,c1,c2⟩:=b3 j c O;exact⟨yy,c1,keep c2⟩
    rw[n4] at t6;refine⟨rs++[tp],_,_,rfl,fun b o hb=>?_,by rw[Zt,aT];rfl,by rw[Zd,rl];rfl,fun j c O=>?_⟩
    ·rw[Zx (YB hb).1]
     exact (s8.trans n8) b o hb
    ·by_cases hj:j<rs.length
     ·rw[am hj] at O
      exact n9 ((o6 j c O).mono n8)
     ·have hl:=(aa.mp O).1
      rw[Zd,Zk] at hl;have ec:j=rs.length:=by omega
      rw[aq (by omega),ec,cm] at O;cases O;rw[ec,rl,y8];refine n9 ⟨as,hT,by unfold JT;rw[Za,Zg,t6],fun c a ha=>?_⟩;have hcm:c<m:=by
       have:=(aa.mp ha).1;omega
      refine⟨Xv t fr p e z dg M (ZB t c),by unfold JT;rw[Zc,ak hcm];rfl,n6 _ _ (has c a ha).1⟩
  ·rintro o5 H8 ⟨rs,v6,v7,rfl,s8,h8,rl,o6⟩
   rw[Za,S2,o0] at rl;have yl:(ss.map (JT t fr p m e z dg)).length=m:=by rw[Za,o0]
   have o9:∀j,j<m->(ss.map (JT t fr p m e z dg))[j]?=some (JT t fr p m e z dg (ss.getD j 0)):=fun j hj=>by
    rw[Zc,Zf (by omega),Zb,Zf (by omega)];rfl
   refine⟨_,rfl,L,rs,ss.map (JT t fr p m e z dg),rfl,h8,by omega,by omega,fun j a ha=>?_,fun Ls js nLs pm pw=>?_⟩
   ·have hj:j<m:=by
     have:=(aa.mp ha).1;omega
    exact⟨_,o9 j hj,fun Y=>by
     have:=congrArg cJ Y;unfold JT at this;rw[Za,Zg] at this;simp at this;omega,o6 j a ha⟩
   ·refine⟨Ls,_,rfl,.inl ⟨.of Zt,fun tp p8=>?_⟩⟩
    have sA:=Same.upd (H:=H8) (o:=.lst ((js.map fun i=>rs.getD i 0).map V.ref)) nLs;have sB:=Same.upd (H:=upd H8 Ls (.lst ((js.map fun i=>rs.getD i 0).map V.ref))) (o:=.tup ((js.map fun i=>rs.getD i 0).map V.ref)) p8;have q0:=sA.trans sB;have hT:upd (upd H8 Ls (.lst ((js.map fun i=>rs.getD i 0).map V.ref))) tp (.tup ((js.map fun i=>rs.getD i 0).map V.ref)) tp=some (.tup ((js.map fun i=>rs.getD i 0).map V.ref)):=Zt;generalize upd (upd H8 Ls (.lst ((js.map fun i=>rs.getD i 0).map V.ref))) tp (.tup ((js.map fun i=>rs.getD i 0).map V.ref))=H9 at q0 hT ⊢;rw[rl] at pm;have jl:js.length=m:=by rw[pm.length_eq,Zg]
    refine q tp (js.map fun i=>(ss.map (JT t fr p m e z dg)).getD i []) H9 (fun b o hb=>q0 _ _ (s8 b o (Z8 (p7 _ _ hb) (fun Y=>by rw[Y,y4] at hb;cases hb)))) ⟨js.map fun i=>rs.getD i 0,hT,by rw[Za,Za],fun i c O=>?_⟩ ?_ pw
    ·rw[Zc] at O
     cases hj:js[i]? with
     |none=>rw[hj] at O;cases O
     |some j=>
      rw[hj] at O;have hjm:j<m:=ae.mp (pm.mem_iff.mp (aD hj));have ec:c=rs.getD j 0:=(aw O).symm;have hrj:rs[j]?=some c:=by rw[ec,Zb,Zf (by omega)];rfl
      refine⟨_,by rw[Zc,hj];rfl,?_⟩;have:=(o6 j c hrj).mono q0;show RowT H9 c ((ss.map (JT t fr p m e z dg)).getD j []);rw[Zb,o9 j hjm];exact this
    ·have h1:(js.map fun i=>(ss.map (JT t fr p m e z dg)).getD i []).Perm ((ac m).map fun i=>(ss.map (JT t fr p m e z dg)).getD i []):=pm.map _
     have h2:((ac m).map fun i=>(ss.map (JT t fr p m e z dg)).getD i [])=ss.map (JT t fr p m e z dg):=by
      refine aX fun j=>?_;by_cases hj:j<m
      ·rw[o9 j hj,Zc,ak hj]
       show some ((ss.map (JT t fr p m e z dg)).getD j [])=_;rw[Zb,o9 j hj];rfl
      ·rw[ag (by rw[Za,Zg];omega),ag (by omega)]
     rw[h2] at h1;exact h1.trans (S3.map _)
end
end C40
namespace Tb
noncomputable def ZhL:Nat->Nat->List Nat
 |0,_=>[]
 |k+1,x=>x % 64::ZhL k (x / 64)
noncomputable def dgb (b:Nat):Nat->Nat->List Nat
 |0,_=>[]
 |k+1,x=>x % b::dgb b k (x / b)
noncomputable def dgZ (k x:Nat):List Int:=(ZhL k x).map fun (v:Nat)=>(v:Int)-32
noncomputable def rwL {α:Type}(k:Nat):Nat->List α->List (List α)
 |0,_=>[]
 |r+1,l=>l.take k::rwL k r (l.drop k)
noncomputable def ZoR (N m n p z:Nat)(r:List Nat):List Nat×Dt:=(r.take N,⟨n,p,z,(r.drop N).take N,(r.drop (2*N)).take m,rwL m m (r.drop (2*N+m)),rwL m m (r.drop (2*N+m+m*m)),rwL m m (r.drop (2*N+m+2*(m*m))),r.drop (2*N+m+3*(m*m))⟩)
noncomputable def ZoS (x:Nat):List Nat×Dt:=match ZhL 5 x with
 | [N,m,n,p,z]=>ZoR N m n p z (ZhL (2*N+2*m+3*(m*m)) (x / 1073741824))
 |_=>([],⟨0,0,0,[],[],[],[],[],[]⟩)
end Tb
namespace Pm
open Tb
noncomputable def JV:List (List Nat×Dt):=[
 74958193672948813889,
 22654726610275057271743917719323924922900610,
 470520235651324442516722702708972472075610065237079580597127626469136106533059,
 671548920675812908269201013745086598906609992675962713754461672633672397241643125713124214135357904845040480669968729653508,
 65865326490174491577293164600344391787781986575068458264711636195561507956567430301125815248942623232058599469804307085995291702311287804950732617122352848651016545646353142534469,
 443931422347392131765203164942621389840737188339947676863033804941669787941070248738583808213458506855886471474171171653097002294788146586638813492510746247776076972879197173300962739607038113013918094051889227896075226891923065884323062866534790,
 205614987486791739278725685231922790134907067017417654090587776051818907530571770989055504292857354618253788939116177651832965803262109806077453319067210426991555822324675453400829537426731862566011080381440575792939106555543765206647782661379805204834319420982982621088182230739597424000437175237470584462302331509530718663,
 6544455106002499221452631219438792424135781083159046737248373836237955959433348638745845174138163195971039043395414650979545422482635340638878393767670448167094516017591007312972679279773297748421184374421040522624261826923587504072498166344569192676922193445158581345357863464492419723552641216320587995643237687954310079559127350602501736722209036444313830738235369972213840435321595744036560048173706794795528,
 14314364173913849554452168931421263128625881906072433032542854948069769056430823684885941650374895111343714050581495728377451372962578956327732942313885582796737145524782975163563980970030598606506758330100301789086047417503274514710263775447607608136871965827503919389571146150790074230980457241915786711620388296769009432413891891809120658100850541502189623024421610704374014174891186442185648177741430448847781972329711122507243989132725954617784793626998812860633016039677075325322852610762781229032181371465,
 2151545203697207034371708097695160868137957280926268974953292035661955472296345559221500713553818044430932977533232318316585656698620813177616928007700771004221375646756065270611994080812274922465279672675364675100355414677723746271618290605516342480812878752559053114166458126427279563569919336965729846538357271022977603304791937915181242758966005805514446833372498982604022472256398089446244639693393018874126483762152470672726762828249780614644734522550199176593097821603243608157828033825575920836338114205293886548391937810672410503333910665768733428446070921838453948348526874710042824924577899493185811188430971530,
 32341675064146426898433440550268303209089261711017055329765379839344317663882050860245190,
 8981739232676071695345000050400030511179543844473094329910678622744271980713908982241538399770416112889094362786851655414650061965568977526853612514959754503361933264090810577862278759334216,
 3172074168774549675946494179548379004823920649098019547497162494033329466646657245581248983189490760507075211916692581617468283545943095873675530,
 4160057383907671211983172979422200388663128399877995222212614884929499438475070247242638837995709613921103094661353069163428815013467167347657876143754452490901067958065031328397325791150760367726050578658503893044193370548519166086142783428331226096000648479552332172,
 671548920675815256238682574072547074539867525222243527054207783062697492233023158716975692606269288505226380144401456570628,
 6544455106002499221452631219351067146334458438073729979698596334140825730315751975073019026677788408004922576851623382866513246039820720448445242964599635169245794588892177828990745835941578375916492401264423857017829832807801463146975474893600637145990609690200507977976900321002456706365666052000127843264524644753592296916744807669268885068727100196198266183062198571878059693356708367957337021845376184107528,
 157954083402525457760648152156035519462338608851787977671750314509270986474811811475195388657609931159245753960005439891686018841030877727065772358656268,
 8981739232676071695345000050400030511179543844473094329910678622744271980713908982241538399770416112889094362786851655414650061965568977526853608233216675035495248074960360033966631798718792,
 2096406994726506225523315948024691895129869129089809915077409517520593551478529918150457767759596999861841787455210698476332866762926051552933053993208886967563763455211336240565521796009233027251420838810420455923973530937728500509784005916310446883860048412480422284,
 14314364173913849554452168931421129399055863238166020192260238590232491038168133857549692440467441717079092288823254774493977375636347249982209695255481239380148190021195479862356581468290207647858353217567851393600516830014351005944909392611480094198019261424624810012815137338589245487002903313339340615581125043913961519288005944769392552103236684803757767361041876026875499795352213882705882089349794478443806057159587888219236693685477898503509391729242733948949435705724835878294798565358817810202255700553,
 100938339836254497846731997318828455711809879361203325291776926100276704468693233114124201156474462830879674189225614565565021616037434752237865669953571636537809362075168450015823205429280226385674224153652124468884502054523663368532,
 57253283961900903544574867413818401712928162941009568913891553352159852524194508210938145379741408218163074214604740486318225383747397569466288532345591103165507259823970085206931497941236474515460835465876695501097618341437050349469671862119481688,
 413446508765659601053943298961590153493126343125357580931769804732067728303703444065369303038931678520628785814243701923591197515294746542011552311370624617893091588269458611400611737571850994355770476901379602152266406744929347002257749].map ZoS
noncomputable def Znt (x:List (List Nat)×(List Nat×Dt)):Bool:=match dfs x.1 61 [ac (x.1.getD 0 []).length] [ac (x.1.getD 0 []).length] with
 |none=>false
 |some j=>tdB (Y4 j) x.2.1 x.2.2
theorem Zjx:(Um.zip JV).all Znt=true:=by decide +kernel
theorem ZhN:Um.length=JV.length:=by decide +kernel
end Pm
namespace Tb
section
variable {t:List (List Nat)}{o:List Nat}
theorem XN (P:PW t)(O:Ord t.length o){i j:Nat}(q:i<t.length)(J:j<t.length):o.getD (ZJ (ren t o) i j) 0=ZJ t (o.getD i 0) (o.getD j 0):=by
 rw[ZaH O q J];exact (YZ O (P.lt _ _ (Yp O q) (Yp O J))).2
theorem Wu (O:Ord t.length o):(ren t o).length=t.length:=by rw[Vp,O.len]
theorem ZbA (P:PW t)(O:Ord t.length o){a:Nat}(j:a<t.length):∀k,o.getD (it (ren t o) a k) 0=it t (o.getD a 0) k
 |0=>O.z
 |k+1=>by
  have q:=Jf P O;have:=Wr q (a:=a) (by rw[Wu O];exact j) k;rw[Wu O] at this;rw[it,XN P O this j,ZbA P O j k];rfl
theorem ZcT (P:PW t)(O:Ord t.length o){a:Nat}(j:a<t.length):o.getD (YD (ren t o) a) 0=YD t (o.getD a 0):=by
 have M:=Jf P O;have J:=Wu O;obtain⟨q,U⟩:=Yc M (a:=a) (by rw[J];exact j);rw[J] at q;refine X3 P (Yp O j) (Yp O q) ?_;rw[<-XN P O j q,U];exact O.z
theorem UM (P:PW t)(O:Ord t.length o){b x:Nat}(hb:b<t.length)(j:x<t.length):o.getD (tb (ren t o) b x) 0=tb t (o.getD b 0) (o.getD x 0):=by
 have J:=Jf P O;have q:=Wu O;have M:=(Yc J (a:=x) (by rw[q];exact j)).1;have U:=J.lt x b (by rw[q];exact j) (by rw[q];exact hb);rw[q] at M U;unfold tb;rw[XN P O U M,XN P O j hb,ZcT P O j]
theorem ZkN (O:Ord t.length o){x:Nat}(j:x<t.length):pos o (o.getD x 0)=x:=by
 have h:=YZ O (Yp O j);exact inj O h.1 j h.2
theorem Zd0 (O:Ord t.length o)(F:Nat->Nat):sm t.length (fun x=>F (o.getD x 0))=sm t.length F:=
 Zaq (c:=fun x=>o.getD x 0) (d:=fun x=>pos o x) (fun x j=>Yp O j) (fun x j=>(YZ O j).1) (fun x j=>ZkN O j) (fun x j=>(YZ O j).2) F
theorem Zd1 (P:PW t)(O:Ord t.length o){u x:Nat}(M:u<t.length)(Y:x<t.length):Uu (ren t o) u x=Uu t (o.getD u 0) (o.getD x 0):=by
 have P':=Jf P O;have j:=Wu O;rw[fM,XY,XY,j];constructor
 ·rintro⟨y,q,e⟩
  exact⟨o.getD y 0,Yp O q,by rw[<-UM P O M q,e]⟩
 ·rintro⟨y,q,e⟩
  have J:=YZ O q;refine⟨pos o y,J.1,?_⟩;have U:=X6 P' (b:=u) (x:=pos o y) (by rw[j];exact M) (by rw[j];exact J.1);rw[j] at U;refine inj O U Y ?_;rw[UM P O M J.1,J.2,e]
variable {n p m:Nat}{e ω φ:Nat->Nat->Nat}{z:Nat}{dg:Nat->Nat}
theorem ZkO (P:PW t)(O:Ord t.length o):ClW (ren t o) (fun x=>YC t (o.getD x 0)) (fun k=>pos o (ZB t k)) (Zy t t.length).length:=by
 have P':=Jf P O;have q:=Wu O;have U:=Yw P;refine⟨fun x j=>?_,fun x j=>?_,fun x s j M=>?_,fun x j=>?_,fun k Y=>?_,fun k Y=>?_⟩
 ·rw[q] at j;exact U.lt _ (Yp O j)
 ·rw[q] at j
  rw[U.z _ (Yp O j)];constructor
  ·intro h
   exact inj O j P.n1 (h.trans O.z.symm)
  ·intro h
   rw[h];exact O.z
 ·rw[q] at j M
  show YC t (o.getD (tb (ren t o) x s) 0)=_;rw[UM P O j M];exact U.con _ _ (Yp O j) (Yp O M)
 ·rw[q] at j ⊢
  have hc:=U.lt _ (Yp O j);have hr:=U.rl _ hc;obtain⟨s,M,es⟩:=U.tr (ZB t (YC t (o.getD x 0))) (o.getD x 0) hr (Yp O j) (U.rn _ hc);have hp:=YZ O M;have J:=YZ O hr;refine⟨pos o s,hp.1,?_⟩;have h1:=X6 P' (b:=pos o (ZB t (YC t (o.getD x 0)))) (x:=pos o s) (by rw[q];exact J.1) (by rw[q];exact hp.1);rw[q] at h1;refine inj O h1 j ?_;rw[UM P O J.1 hp.1,hp.2,J.2,es]
 ·rw[q];exact (YZ O (U.rl k Y)).1
 ·show YC t (o.getD (pos o (ZB t k)) 0)=k
  rw[(YZ O (U.rl k Y)).2];exact U.rn k Y
theorem TD.ren (P:PW t)(O:Ord t.length o)(D:TD t n p m e ω φ z dg):TD (ren t o) n p m (fun s x=>e s (o.getD x 0)) (fun s x=>ω s (o.getD x 0)) (fun s x=>φ s (o.getD x 0)) z dg:=by
 have P':=Jf P O;have M:=Wu O;have C:=D.cd;have lt:∀{x},x<(Tb.ren t o).length->x<t.length:=fun {x} h=>by rw[M] at h;exact h
 have e0:∀s,e s (o.getD 0 0)=e s 0:=fun s=>by rw[O.z]
 refine⟨⟨C.pr,C.m1,C.mc.trans ((ZkO P O).count P'),fun s x y J j hy=>?_,fun s x y J j hy=>?_,fun s x J j=>C.elt s _ J (Yp O (lt j)),fun s x J j=>C.wlt s _ J (Yp O (lt j)),fun s u z J hu hz=>?_,fun x j=>?_,fun s s' J U=>?_,fun s s' J U h=>?_⟩,D.n1,D.n60,fun a ha=>?_,fun x j=>?_,by rw[M];exact D.fit,D.rt,D.d1,D.dp,D.dl,fun s J=>by rw[M];show ((dg s:Int)*(dg s:Int)-(e s (o.getD 0 0):Int)*(t.length:Int)) % (p:Int)=0;rw[e0];exact D.dq s J,fun s d' J a b=>by rw[M];show ((d':Int)*(d':Int)-(e s (o.getD 0 0):Int)*(t.length:Int)) % (p:Int)≠0;rw[e0];exact D.dm s d' J a b⟩
 ·show e s (o.getD (tb (Tb.ren t o) x y) 0)=_
  rw[UM P O (lt j) (lt hy)];exact C.ec s _ _ J (Yp O (lt j)) (Yp O (lt hy))
 ·show ω s (o.getD (tb (Tb.ren t o) x y) 0)=_
  rw[UM P O (lt j) (lt hy)];exact C.wc s _ _ J (Yp O (lt j)) (Yp O (lt hy))
 ·rw[M]
  have h1:sm t.length (fun x=>YU (Uu (Tb.ren t o) u x)*e s (o.getD (ZJ (Tb.ren t o) (YD (Tb.ren t o) x) z) 0))=sm t.length (fun x=>(fun y=>YU (Uu t (o.getD u 0) y)*e s (ZJ t (YD t y) (o.getD z 0))) (o.getD x 0)):=ZM fun x j=>by
   have hb:=(Yc P' (a:=x) (by rw[M];exact j)).1;rw[M] at hb;show _=YU (Uu t (o.getD u 0) (o.getD x 0))*e s (ZJ t (YD t (o.getD x 0)) (o.getD z 0));rw[Zd1 P O (lt hu) j,XN P O hb (lt hz),ZcT P O j]
  rw[h1,Zd0 O (fun y=>YU (Uu t (o.getD u 0) y)*e s (ZJ t (YD t y) (o.getD z 0)))];exact C.eig s _ _ J (Yp O (lt hu)) (Yp O (lt hz))
 ·have:=C.one _ (Yp O (lt j))
  rw[this];by_cases h:x=0
  ·rw[if_pos h,h,O.z,if_pos rfl]
  ·rw[if_neg h,if_neg]
   intro q;exact h (inj O (lt j) P.n1 (q.trans O.z.symm))
 ·rw[M,Zd0 O (fun y=>φ s y*e s' y)]
  exact C.du s s' J U
 ·refine C.sep s s' J U fun u hu=>?_
  have Y:=YZ O hu;have:=h (pos o u) (by rw[M];exact Y.1);rw[Y.2] at this;exact this
 ·have hi:=Wr P' ha n
  rw[M] at hi;refine inj O hi P.n1 ?_;rw[ZbA P O (lt ha),O.z];exact D.all _ (Yp O (lt ha))
 ·refine D.mn x fun a ha=>?_
  have Y:=YZ O ha;have:=j (pos o a) (by rw[M];exact Y.1);have h2:=ZbA P O Y.1 x;rw[this,Y.2,O.z] at h2;exact h2.symm
end
end Tb
namespace Num
end Num
namespace C40
open PySem L2 PySem.Spec PyProof.Rows
open Tb Pm
section
variable {t:List (List Nat)}{n p m:Nat}{e ω φ:Nat->Nat->Nat}{z:Nat}{dg:Nat->Nat}{o:List Nat}
theorem Zkx (P:PW t){s x y:Nat}(ec:∀x y,x<t.length->y<t.length->e s (tb t x y)=e s x)(j:x<t.length)(q:y<t.length):Xv t n p e z dg s (tb t x y)=Xv t n p e z dg s x:=by
 unfold Xv;rw[ZkQ P j q];congr 2;funext k;rw[Zhl P j q,ec _ _ (Wr P j k) q]
theorem ZiB (P:PW t)(O:Ord t.length o){x:Nat}(J:x<t.length):rdT (ren t o) x=rdT t (o.getD x 0):=by
 unfold rdT;rw[Wu O];have j:(fun r=>it (ren t o) x (r+1) == 0)=fun r=>it t (o.getD x 0) (r+1) == 0:=funext fun r=>by
  have U:=ZbA P O J (r+1);have M:=Wr (Jf P O) (a:=x) (by rw[Wu O];exact J) (r+1);rw[Wu O] at M;rw[<-U];by_cases q:it (ren t o) x (r+1)=0
  ·rw[q,O.z]
  ·have Y:o.getD (it (ren t o) x (r+1)) 0≠0:=fun w=>q (inj O M P.n1 (w.trans O.z.symm))
   rw[beq_eq_false_iff_ne.mpr q,beq_eq_false_iff_ne.mpr Y]
 rw[j]
theorem Zkv (P:PW t)(O:Ord t.length o){s x:Nat}(j:x<t.length):Xv (ren t o) n p (fun s x=>e s (o.getD x 0)) z dg s x=Xv t n p e z dg s (o.getD x 0):=by
 unfold Xv;rw[ZiB P O j,Wu O];congr 2;funext k;show ((e s (o.getD (it (ren t o) x k) 0):Nat):Int)=_;rw[ZbA P O j]
end
theorem Zkw {t:List (List Nat)}{n p:Nat}{e:Nat->Nat->Nat}{z:Nat}{dg:Nat->Nat}(s x:Nat):(Xv t n p e z dg s x).length=N40.WC n:=by unfold Xv Zg5;exact Num.ZbR _ _ _ _
theorem ZlX {t:List (List Nat)}{bs:List Nat}{D:Dt}(P:PW t)(h:tdB t bs D=true):ClW t (fun x=>D.cl.getD x 0) (fun k=>D.rp.getD k 0) D.rp.length:=by
 unfold tdB at h;simp only[af] at h;obtain⟨⟨⟨⟨⟨⟨⟨⟨⟨⟨⟨⟨⟨⟨⟨h1,h2⟩,h3⟩,h4⟩,h5⟩,h6⟩,h7⟩,h8⟩,q⟩,j⟩,J⟩,M⟩,O⟩,U⟩,Y⟩,m8⟩:=h;exact ZhX P q j
structure Dy where
 top:Nat
 R:List (List Int)
 X:List (List (List Int))
 p:Nat
 z:Nat
 rr:List (List Nat)
 br:List (List Nat)
 sh:List Nat
noncomputable def ZoQ (top n m:Nat)(r:List Int)(u:List Nat):Dy:=⟨top,rwL top n r,(rwL (m*top) m (r.drop (n*top))).map (rwL top m),u.getD 0 0,u.getD 1 0,rwL m m (u.drop 2),rwL m m (u.drop (2+m*m)),u.drop (2+2*(m*m))⟩
noncomputable def ZoP (x:Nat×Nat):Dy:=match ZhL 3 x.1 with
 | [top,n,m]=>ZoQ top n m (dgZ ((n+m*m)*top) (x.1 / 262144)) (dgb 1024 (2+2*(m*m)+m) x.2)
 |_=>⟨0,[],[],0,0,[],[],[]⟩
noncomputable def dys:List Dy:=[
 (562303041,1100586419203),
 (9435976032329857,3898026834855494035128644396912645),
 (2970827748262960662021754839276244868276009840834,8433218892532211689889521141755159197417108327147557817954700625927),
 (235373223641372381873827668181751504618989111111268214739203407075838632673538,24072584430817587297160125109243317363159332707147439483964243532930845294328842963234857626951215258018492978189),
 (734423017919777072741184384578866664900331758921313403986187717736282377666391968767028147931980001634675035272856704220773110178604520541731297540952114645268353221256062945146533756021277958848796518260241806603118203204,33998863838861483522060143202302190799003623402313825209217256379769413030790635211798629945175381229786465010078534159555441255929259320467904681470785279051790315162635),
 (0,0),
 (0,0),
 (0,0),
 (0,0),
 (0,0),
 (204153728333511111524322938128868910933365993473305494172034,18553083168623938676685245033017198200889873411935043694611516100621),
 (76272881211285309253633534244797507618930035746335849429486999449383904045506447406737733490358421399313600770,60438735489590725242907242394219470806014313892913020282387944980275179722764000203707305712284156616505213626102427307202196824231140873375114106275185644583882106867729),
 (9269721707701483458035868094618593205395159325874227484308582726361678327020738436503363362888569997376216772528295044413306217720182521483283404459668564450683695427264554256216101065660318340,67403204265948253280718297483302913396424441348791501983592903977105290491012256298691013148292091012407724358687),
 (0,0),
 (44560785983476393756541754697108963457,7221775329246808761307901020197571564901126640027518643409331201041360265248389497707276111499763180543398651915),
 (0,0),
 (3947009349607809901884556695072385690917526770542312637738170799971889992846979383682,60153251017184944064791570887169980591220018543273754501215182958197977286060879783565932786185341678241256052767),
 (76272881211285309253633534244797507618930035746335849429486999449383904045506447406737733490358421399313600770,60438735489590725242907242394219470806014313892913020282387944980275179722764000203707305712284156616505213626102427307202196824231140873375114106275185644583882106867729),
 (0,0),
 (0,0),
 (22343090603794469092921384363050453410729142476626960904945526083722697528442141162364972941555964587419827270947245092354437626131169906103138891714633114120333040218506877506820094640132677403717961936514811352048123941297345186181309252824769186784058419708216181557416563681676533822013009901154494361750228432865165258698734558153820518206368166028917295529961177331016212694194679068864609718321278261088002053087752847650434327600875119358715864551953553376491791467333298910284768585078195918223805099204840750140447393956177762739080559570064407502526547521336534529137224856966272264879660276300580754738110267090591577697554121568371276880565512,147328409968334562110437993833912714811448194002214660406950614014424024874330763547736351168030180881994391622636473119519787454492923276030376665706111622306869563885609),
 (274780305699449265092938979682128162669876039501495008742104909958150256457584707316727369837946772400644845062145528289770178231908651411292084841826694588095550763171049122957472674052266430807809213245082889826213898099237311643184236834986618421649902943181993440203524,53019850330780432120263746315371087011756024945314758523161692915554703596634739119867385379571793405041417489979196374705823418915958983449166571062992948791491469268029),
 (1366768590932368992858092010142749464800160906392537060864660179556176518828380503132202373776109109312547452590203818773760132018705824905983129305227547241828029804468439087744493722511845020250425283164935722104032773454100917404325485110050438682627800973843464315694962720937361829658652845242584929008794401192306209322114637462883781487485967497031236227986077713257037427282392619728071704550159106108675542482474819319485101972701749903002923533361366450018332878551424510185984881195896424399931613549818362485300531777869915391545766551338676872808288099702239836510631023872519122128063848121826670946534733233754206261938963709447381786405197829813879922116061048384110769064973707391656921420752457857258436498330752511630647696751811533129813957919341677454365838413601015500834117601709605714615936564492833562327027107064108271209201631868041074343272633730264060335817570940761538058920888530523447053533926590715187213327845379398838971550195990889598374634243807791038714496929781068,154883712997965587482396650423998858741960599824849417388957043331629277589106577960049826284835766912985312736716977361953557435904458939089513704560628150290262153765931)].map ZoP
noncomputable def at3 (M:List (List (List Int)))(s c:Nat):List Int:=(M.getD s []).getD c []
noncomputable def xvB (t:List (List Nat))(D:Dt)(Y:Dy):Bool:=
 decide (N40.WC D.n=Y.top) && (N40.RN D.n == Y.R) && fA D.rp.length fun s=>fA D.rp.length fun c=>
  Num.ZbS D.n Y.top Y.R ((ac D.n).map (ofF D.n (rdT t (D.rp.getD c 0)) D.p ((t.length:Int)*(bkM D.p (D.dg.getD s 0):Int)) D.z fun k=>(Jb D.E s (D.cl.getD (it t (D.rp.getD c 0) k) 0):Int))) == at3 Y.X s c
noncomputable def RR (p z:Nat)(xs:List Int):Nat:=((Yr xs.length fun q=>Num.co xs q*((z ^ q % p:Nat):Int)) % (p:Int)).toNat
noncomputable def BR (n p z:Nat)(xs:List Int):Nat:=((Yr xs.length fun q=>Num.co xs q*((z ^ ((n-q) % n) % p:Nat):Int)) % (p:Int)).toNat
noncomputable def WD (t:List (List Nat))(x:Nat):Nat:=sm t.length fun a=>YU (Uu t x a)
noncomputable def cnT (t:List (List Nat))(x y w:Nat):Nat:=sm t.length fun a=>YU (Uu t x a)*YU (Uu t y (ZJ t (YD t a) w))
structure CS (t:List (List Nat))(n m:Nat)(X:Nat->Nat->List Int)(p z:Nat):Prop where
 tn:N40.WC n<=n
 pr:PrM p
 p1k:p<=1000
 fit:Zml n (t.length*t.length) p
 rt:RtP n p z
 bk:∀s,s<m->∃y,1<=y/\y<p/\y*(t.length*RR p z (X s 0)) % p=1
 val:∀x y w,x<t.length->y<t.length->w<t.length->sm m (fun s=>WD t x*WD t y*bkM p (t.length*RR p z (X s 0))*RR p z (X s x)*RR p z (X s y) % p*BR n p z (X s w)) % p=cnT t x y w
noncomputable def csB (t:List (List Nat))(bs:List Nat)(D:Dt)(Y:Dy):Bool:=
 decide (Y.top<=D.n) && prB Y.p && decide (Y.p<=1000) && Zfi D.n (t.length*t.length) Y.p 60 (D.n+1) && rtB D.n Y.p Y.z &&
 (fA D.rp.length fun s=>fA D.rp.length fun c=>(RR Y.p Y.z (at3 Y.X s c) == Jb Y.rr s c) && BR D.n Y.p Y.z (at3 Y.X s c) == Jb Y.br s c) &&
 (fA D.rp.length fun s=>decide (1<=Y.sh.getD s 0) && decide (Y.sh.getD s 0<Y.p) && (Y.sh.getD s 0*(t.length*Jb Y.rr s 0) % Y.p == 1) && bkM Y.p (t.length*Jb Y.rr s 0) == Y.sh.getD s 0) &&
 fA D.rp.length fun i=>fA D.rp.length fun j=>fA D.rp.length fun k=>sm D.rp.length (fun s=>(sm t.length fun a=>YU (decide (D.cl.getD a 0=i)))*(sm t.length fun a=>YU (decide (D.cl.getD a 0=j)))*Y.sh.getD s 0*Jb Y.rr s i*Jb Y.rr s j % Y.p*Jb Y.br s k) % Y.p == sm t.length fun a=>YU (decide (D.cl.getD a 0=i))*YU (decide (D.cl.getD (ZJ t (bs.getD a 0) (D.rp.getD k 0)) 0=j))
noncomputable def dyB (x:List (List Nat)×((List Nat×Dt)×Dy)):Bool:=decide (6<=x.2.1.2.rp.length) || match dfs x.1 61 [ac (x.1.getD 0 []).length] [ac (x.1.getD 0 []).length] with
 |none=>false
 |some j=>xvB (Y4 j) x.2.1.2 x.2.2 && csB (Y4 j) x.2.1.1 x.2.1.2 x.2.2
theorem ZlR:(Um.zip (JV.zip dys)).all dyB=true:=by decide +kernel
theorem Zjv:JV.length=dys.length:=by decide +kernel
theorem Zl1 {t:List (List Nat)}{bs:List Nat}{D:Dt}(h:tdB t bs D=true):Zh1 t bs=true:=by
 unfold tdB at h;simp only[af] at h;obtain⟨⟨⟨⟨⟨⟨⟨⟨⟨⟨⟨⟨⟨⟨⟨h1,h2⟩,h3⟩,h4⟩,h5⟩,h6⟩,h7⟩,h8⟩,j⟩,q⟩,J⟩,M⟩,O⟩,U⟩,Y⟩,m8⟩:=h;exact j
theorem Zjz {t:List (List Nat)}{bs:List Nat}{D:Dt}{Y:Dy}(P:PW t)(h:tdB t bs D=true)(q:xvB t D Y=true)(hf:csB t bs D Y=true):CS t D.n D.rp.length (Xv t D.n D.p (eD D) D.z fun s=>D.dg.getD s 0) Y.p Y.z:=by
 have C:=ZlX P h;have T:=ZjR P h;have n6:=Zl1 h;unfold xvB at q;rw[af,af,decide_eq_true_eq] at q;obtain⟨⟨m8,U⟩,n8⟩:=q;have U:=eq_of_beq U;unfold csB at hf;simp only[af,decide_eq_true_eq] at hf;obtain⟨⟨⟨⟨⟨⟨⟨f0,f1⟩,f2⟩,f3⟩,f4⟩,f5⟩,f6⟩,f7⟩:=hf;have n9:∀s x y,s<D.rp.length->x<t.length->y<t.length->Xv t D.n D.p (eD D) D.z (fun s=>D.dg.getD s 0) s (tb t x y)=Xv t D.n D.p (eD D) D.z (fun s=>D.dg.getD s 0) s x:=fun s x y j q M=>Zkx P (fun a b O hb=>T.cd.ec s a b j O hb) q M;have rep:∀s c,s<D.rp.length->c<D.rp.length->Xv t D.n D.p (eD D) D.z (fun s=>D.dg.getD s 0) s (D.rp.getD c 0)=at3 Y.X s c:=fun s c j hc=>by
  have:=eq_of_beq (Ye (Ye n8 j) hc);rw[<-this];unfold Xv Zg5;rw[m8,U];rfl
 have o0:∀s x,s<D.rp.length->x<t.length->Xv t D.n D.p (eD D) D.z (fun s=>D.dg.getD s 0) s x=at3 Y.X s (D.cl.getD x 0):=fun s x j q=>by
  have hc:=C.lt x q;obtain⟨y,M,ey⟩:=C.tr x q;have h1:=n9 s _ y j (C.rl _ hc) M;rw[ey] at h1;rw[h1];exact rep s _ j hc
 have N1:=P.n1;have c0:D.cl.getD 0 0=0:=(C.z 0 N1).mpr rfl;have J:∀s x,s<D.rp.length->x<t.length->RR Y.p Y.z (Xv t D.n D.p (eD D) D.z (fun s=>D.dg.getD s 0) s x)=Jb Y.rr s (D.cl.getD x 0)/\BR D.n Y.p Y.z (Xv t D.n D.p (eD D) D.z (fun s=>D.dg.getD s 0) s x)=Jb Y.br s (D.cl.getD x 0):=fun s x j q=>by
  have:=Ye (Ye f5 j) (C.lt x q);rw[af] at this;rw[o0 s x j q];exact⟨eq_of_beq this.1,eq_of_beq this.2⟩
 have m9:∀s,s<D.rp.length->1<=Y.sh.getD s 0/\Y.sh.getD s 0<Y.p/\Y.sh.getD s 0*(t.length*Jb Y.rr s 0) % Y.p=1/\bkM Y.p (t.length*Jb Y.rr s 0)=Y.sh.getD s 0:=fun s j=>by
  have:=Ye f6 j;rw[af,af,af,decide_eq_true_eq,decide_eq_true_eq] at this;exact⟨this.1.1.1,this.1.1.2,eq_of_beq this.1.2,eq_of_beq this.2⟩
 have pr:=Zkb f1;refine⟨by rw[m8];exact f0,pr,f2,?_,Zj6 f4,fun s j=>?_,fun x y w q M hw=>?_⟩
 ·obtain⟨a,b⟩:=ZaW f3
  exact⟨a,b,pr.p2,by omega⟩
 ·obtain⟨a,b,c,_⟩:=m9 s j
  refine⟨_,a,b,?_⟩;rw[(J s 0 j N1).1,c0];exact c
 ·have hk:=C.lt w hw
  have key:=eq_of_beq (Ye (Ye (Ye f7 (C.lt x q)) (C.lt y M)) hk);have n4:∀x,x<t.length->WD t x=sm t.length fun a=>YU (decide (D.cl.getD a 0=D.cl.getD x 0)):=fun x q=>ZM fun a O=>by rw[C.cj P q O]
  have e1:sm D.rp.length (fun s=>WD t x*WD t y*bkM Y.p (t.length*RR Y.p Y.z (Xv t D.n D.p (eD D) D.z (fun s=>D.dg.getD s 0) s 0))*RR Y.p Y.z (Xv t D.n D.p (eD D) D.z (fun s=>D.dg.getD s 0) s x)*RR Y.p Y.z (Xv t D.n D.p (eD D) D.z (fun s=>D.dg.getD s 0) s y) % Y.p*BR D.n Y.p Y.z (Xv t D.n D.p (eD D) D.z (fun s=>D.dg.getD s 0) s w))=sm D.rp.length (fun s=>(sm t.length fun a=>YU (decide (D.cl.getD a 0=D.cl.getD x 0)))*(sm t.length fun a=>YU (decide (D.cl.getD a 0=D.cl.getD y 0)))*Y.sh.getD s 0*Jb Y.rr s (D.cl.getD x 0)*Jb Y.rr s (D.cl.getD y 0) % Y.p*Jb Y.br s (D.cl.getD w 0)):=ZM fun s j=>by
   rw[n4 x q,n4 y M,(J s 0 j N1).1,c0,(m9 s j).2.2.2,(J s x j q).1,(J s y j M).1,(J s w j hw).2]
  rw[e1,key];unfold cnT;obtain⟨u,hu,eu⟩:=C.tr w hw;have hr:=C.rl _ hk;have e2:=C.turn P (fun c=>YU (decide (c=D.cl.getD y 0))) (D.cl.getD x 0) hr hu;rw[eu] at e2;have e3:sm t.length (fun a=>YU (Uu t x a)*YU (Uu t y (ZJ t (YD t a) w)))=sm t.length (fun a=>YU (decide (D.cl.getD a 0=D.cl.getD x 0))*YU (decide (D.cl.getD (ZJ t (YD t a) w) 0=D.cl.getD y 0))):=ZM fun a O=>by
   rw[C.cj P q O,C.cj P M (P.lt _ _ (Yc P O).1 hw)]
  rw[e3];refine Eq.trans ?_ e2.symm;refine ZM fun a O=>?_;rw[Zdo P n6 O]
theorem CS.ren {t:List (List Nat)}{o:List Nat}{n m:Nat}{X:Nat->Nat->List Int}{p z:Nat}(P:PW t)(O:Ord t.length o)(S:CS t n m X p z){X':Nat->Nat->List Int}(M:∀s x,x<t.length->X' s x=X s (o.getD x 0)):CS (ren t o) n m X' p z:=by
 have P':=Jf P O;have len:=Wu O;have N1:=P.n1;have lt:∀{x},x<(Tb.ren t o).length->x<t.length:=fun {x} h=>by rw[len] at h;exact h
 have x0:∀s,X' s 0=X s 0:=fun s=>by rw[M s 0 N1,O.z]
 have q:∀x,x<t.length->WD (Tb.ren t o) x=WD t (o.getD x 0):=fun x j=>by
  unfold WD;rw[len,<-Zd0 O (fun a=>YU (Uu t (o.getD x 0) a))];exact ZM fun a J=>by rw[Zd1 P O j J]
 refine⟨S.tn,S.pr,S.p1k,by rw[len];exact S.fit,S.rt,fun s hs=>?_,fun x y w j U Y=>?_⟩
 ·rw[len,x0]
  exact S.bk s hs
 ·have m8:=S.val _ _ _ (Yp O (lt j)) (Yp O (lt U)) (Yp O (lt Y))
  have e1:cnT (Tb.ren t o) x y w=cnT t (o.getD x 0) (o.getD y 0) (o.getD w 0):=by
   unfold cnT;rw[len,<-Zd0 O (fun a=>YU (Uu t (o.getD x 0) a)*YU (Uu t (o.getD y 0) (ZJ t (YD t a) (o.getD w 0))))];refine ZM fun a J=>?_;have hb:=(Yc P' (a:=a) (by rw[len];exact J)).1;rw[len] at hb;have hm:=P'.lt (YD (Tb.ren t o) a) w (by rw[len];exact hb) Y;rw[Zd1 P O (lt j) J,Zd1 P O (lt U) (lt hm),XN P O hb (lt Y),ZcT P O J]
  rw[e1,<-m8];congr 1;refine ZM fun s hs=>?_;rw[q x (lt j),q y (lt U),len,x0,M s x (lt j),M s y (lt U),M s w (lt Y)]
theorem Zl4 {t:List (List Nat)}(h:MkG t):∃(n p m:Nat) (e ω φ:Nat->Nat->Nat) (z:Nat) (dg:Nat->Nat),TD t n p m e ω φ z dg/\(m<6->∃p2 z2,CS t n m (Xv t n p e z dg) p2 z2):=by
 obtain⟨j,k,fd,os,U,B,O,rfl⟩:=h;obtain⟨i,hi⟩:=ce U;have il:=(aa.mp hi).1;have q:i<JV.length:=by rw[<-ZhN];exact il
 have Y:i<dys.length:=by rw[<-Zjv];exact q
 have hz:(Um.zip JV)[i]?=some (j,JV[i]):=by
  rw[bo];exact⟨hi,Zf q⟩
 have m8:(Um.zip (JV.zip dys))[i]?=some (j,(JV[i],dys[i])):=by
  rw[bo,bo];exact⟨hi,Zf q,Zf Y⟩
 have ek:(j.getD 0 []).length=k:=by
  have h0:j[0]?=some (j.getD 0 []):=by rw[Zb,Zf (show 0<j.length from B.p1)];rfl
  exact (B.pl _ (aD h0)).1
 have M:=aN.mp Zjx _ (aD hz);unfold Znt at M;rw[show ((j,JV[i]):List (List Nat)×(List Nat×Dt)).1=j from rfl,ek,B.run] at M;have D:=ZjR B.pw M;refine⟨_,_,_,_,_,_,_,_,D.ren B.pw O,fun hm=>?_⟩;have J:=aN.mp ZlR _ (aD m8);unfold dyB at J;rw[show ((j,(JV[i],dys[i])):List (List Nat)×((List Nat×Dt)×Dy)).1=j from rfl,ek,B.run] at J;have J:(decide (6<=JV[i].2.rp.length) || (xvB (Y4 fd) JV[i].2 dys[i] && csB (Y4 fd) JV[i].1 JV[i].2 dys[i]))=true:=J;have hm:JV[i].2.rp.length<6:=hm;rw[decide_eq_false (by omega),fF,af] at J;have S:=Zjz B.pw M J.1 J.2;exact⟨_,_,S.ren B.pw O fun s x hx=>Zkv B.pw O hx⟩
end C40
namespace L2
open PySem PySem.Spec PyProof.Rows
theorem XX {K:ab}{J:It}{At:Hp->Prop}{own:List Str}{M:List Nat}{te:TE}{σ:St}{H Hx:Hp}{Q:VK}{q:List (V×V)}(S:Zct J At q)(n6:∀j,Same Hx j->At j)(sx:Same Hx H)(O:St)(n8:Jp own M σ=none::none::O)(F:Nat->V)(hz:q.length<=1000000)
  (hs:∀(i:Nat) x y j,q[i]?=some (x,y)->Same H j->∀R:VK,(∀U,Same j U->R (F i) U)->te (some x::some y::O) j R)
  (hd:∀D j,H D=none->Same H j->j D=some (.lst ((ac q.length).map F))->Q (.ref D) j):WT own M (Zhy K 2 (Xx (Yn 0) (Xx (Yn 1) Zhz))) Wo te σ Q J H:=by
 intro D hD;refine⟨fun i m m8 j=>m=q.length-i/\i<=q.length/\(∃v0 v1,m8=v0::v1::O)/\Same H j/\j D=some (.lst ((ac i).map F)),⟨_,rfl,aZ _,⟨none,none,n8⟩,Same.upd hD,by rw[Zt];rfl⟩,?_⟩;rintro i m m8 j ⟨rfl,hi,⟨v0,v1,rfl⟩,s,hl⟩;have Y:=n6 j (sx.trans s);by_cases m9:i<q.length
 ·refine .inr ⟨S.go i j Y m9,fun n4 H2=>(∃v0 v1,n4=v0::v1::O)/\Same H H2/\H2 D=some (.lst ((ac (i+1)).map F)),fun n4 H2 z=>⟨q.length-(i+1),by omega,rfl,m9,z.1,z.2.1,z.2.2⟩,fun x H2 hy=>?_⟩
  obtain⟨T,y,z,rfl,hT,rfl,hx⟩:=S.yld i j x H2 Y hy;refine⟨T,_,rfl,.of Zt,rfl,_,_,rfl,_,_,rfl,rfl,?_⟩;refine tT (A:=fun H4=>te (some y::some z::O) H4 fun v U=>∃xs,U D=some (.lst xs)/\xs.length<sizeLine/\(∃v0 v1,(some y::some z::O:St)=v0::v1::O)/\Same H (upd U D (.lst (xs++[v])))/\(upd U D (.lst (xs++[v]))) D=some (.lst ((ac (i+1)).map F))) ?_;refine hs i y z _ hx (s.trans (Same.upd hT)) _ fun U s5=>⟨_,s5 _ _ (Same.upd hT _ _ hl),?_,⟨_,_,rfl⟩,((s.trans (Same.upd hT)).trans s5).updr hD,?_⟩
  ·rw[Za,Zg]
   have:(16777216:Nat)=sizeLine:=by decide
   omega
  ·rw[Zt,dF,aT]
   rfl
 ·have e:i=q.length:=by omega
  subst e;exact .inl ⟨S.stop _ j Y (Zq _),hd D j hD s hl⟩
section
variable {X:Cx}
theorem Zfy (Y:X.calm=true):Yo X (.builtin "sum") (fun xs H Q=>∃(a:Addr) (ns:List Int),xs=[.ref a]/\JF X.K H a (ns.map V.int)/\Q (.int ns.sum) H):=by
 intro M s σ H xs us Q I r h;obtain⟨a,ns,rfl,hq,q⟩:=h;obtain⟨u,rfl,ru⟩:=vals1 r;cases ru;obtain⟨j,rv,p,hz⟩:=I.tuple hq;have O:bO j ns:=intsAre_of rv;obtain⟨xs,U⟩:=O.allInts.items;have J:s.heap.IsTuple a (intItems xs):=U▸p;refine PySem.W.ktm_sumG (I.ok.hd Y) J fun h' tk t' hk=>?_;have e1:ns=xs.toList.map (·.1):=by
  rw[<-nums_intItems,<-U];exact (show numsOf j.toArray.toList=ns from O.numsOf).symm
 have e2:preSum (numAt xs) xs.size=ns.sum:=by
  rw[preSum_eq,gS (by simp),e1]
 rw[e2];exact⟨.int _,H,I.kept (t':=tk) hk,⟨_,rfl⟩,q⟩
theorem ZmN (K:ab)(j:X.calm=true)(q:X.K=K:=by rfl):Yo X (.builtin "sum") (fun xs H Q=>∃(a:Addr) (ns:List Int),xs=[.ref a]/\JF K H a (ns.map V.int)/\Q (.int ns.sum) H):=q▸Zfy j
end
end L2
namespace HT
open PySem PyProof.Rows
theorem ZeV (j:List Value):slicePick j.toArray none (some 0) (some (-1))=(j.drop 1).reverse.toArray:=by
 unfold slicePick;have U:sliceBounds none (some 0) (some (-1)) j.toArray.size=((j.length:Int)-1,max (-1) (min 0 ((j.length:Int)-1)),-1):=by
  unfold sliceBounds;simp
 rw[U];dsimp only;congr 1;have Y:sliceRange ((j.length:Int)-1) (max (-1) (min 0 ((j.length:Int)-1))) (-1)=(ac (j.length-1)).map fun k=>j.length-1-k:=by
  unfold sliceRange;have hc:(if (-1:Int) > 0 then (if ((j.length:Int)-1)<(max (-1) (min 0 ((j.length:Int)-1))) then ((max (-1) (min 0 ((j.length:Int)-1)))-((j.length:Int)-1) + -1-1) / -1 else 0) else (if ((j.length:Int)-1) > (max (-1) (min 0 ((j.length:Int)-1))) then (((j.length:Int)-1)-(max (-1) (min 0 ((j.length:Int)-1))) - -1-1) / (- -1) else 0):Int).toNat=j.length-1:=by
   rw[if_neg (by decide)];have:(- -1:Int)=1:=by decide
   rw[this,Int.ediv_one];split <;> omega
  dsimp only;rw[hc];refine a9 fun k q=>?_;have:=ae.mp q;omega
 rw[Y];have M:∀(l:List Nat),(∀m∈l,m<j.length)->(l.filterMap fun (m:Nat)=>j.toArray[m]?)=l.map fun m=>j.getD m default:=fun l=>by
  induction l with
  |nil=>intro _;rfl
  |cons m l ih=>
   intro h;have J:=h m aB;rw[bV,aF,ih fun k q=>h k (ay _ q)];have:j.toArray[m]?=some (j.getD m default):=by
    rw[ii,Zf J,Zb,Zf J];rfl
   rw[this]
 rw[M _ fun m J=>by
  obtain⟨k,q,rfl⟩:=aI.mp J;have:=ae.mp q;omega]
 refine aX fun i=>?_;by_cases O:i<j.length-1
 ·rw[aU,Zc,ak O,ly (by rw[bt];exact O),bt,iP]
  show some (j.getD (j.length-1-i) default)=_;have e5:j.length-1-i=1+(j.length-1-1-i):=by omega
  rw[Zb,e5,Zf (by omega)];rfl
 ·rw[ag (by rw[Za,Za,Zg];omega),ag (by rw[iH,bt];omega)]
end HT
namespace L2
open PySem PySem.Spec PyProof.Rows
section
variable {X:Cx}{e:Expr}{te tu ts:TE}{up st:Expr}{pos p2:Pos}
noncomputable def tTl (K:ab)(te tu ts:TE):TE:=fun q H Q=>te q H fun x O=>tu q O fun j U=>ts q U fun i J=>j=.int 0/\i=.int (-1)/\∃a M,x=.ref a/\Wx K J a M/\∀p,J p=none->Q (.ref p) (upd J p (.lst (M.drop 1).reverse))
theorem Zna (K:ab)(he:PE X e te)(hu:PE X up tu)(hs:PE X st ts)(hK:X.K=K:=by rfl):PE X (.Subscript e (.Slice none (some up) (some st) p2) pos) (tTl K te tu ts):=by
 subst hK;intro J s O H Q I h;refine lh (Yg (he J s O H _ I h) fun v s1 ⟨x,H1,I1,r1,q1⟩=>?_);refine wpAny_Slice ?_;rw[lL];refine Zm ?_;rw[lK];refine Yg (hu J s1 O H1 _ I1 q1) fun u s2 ⟨j,H2,I2,r2,q2⟩=>?_;rw[lK];refine Yg (hs J s2 O H2 _ I2 q2) fun u M ⟨i,H3,I3,r3,q3⟩=>?_;obtain⟨rfl,rfl,a,xs,rfl,hx,q⟩:=q3;obtain⟨Y,rfl⟩:=r2;obtain⟨tk,rfl⟩:=r3;cases r1;have I4:Inv X J O H3 {M with heap:=M.heap.push {cls:=.type "slice",data:=.fields #[.none,.int 0 Y,.int (-1) tk]}}:=I3.kept (t':=M.toks) fun b ob q=>Zn _ q;obtain⟨m8,r,ht,hz⟩:=I4.list hx;show wpAny (model X.prog X.w) X.A (subscriptTail e (.Slice none (some up) (some st) p2) (.ref a) (.ref M.heap.objs.size)) (EP X J O Q) X.xe {M with heap:=M.heap.push {cls:=.type "slice",data:=.fields #[.none,.int 0 Y,.int (-1) tk]}};refine tail_any (ops:=[.ref a,.ref M.heap.objs.size]) ht.isList.typeIs jF.lookup ?_ (by with_unfolding_all rfl);have U:m8.toArray.size=xs.length:=by rw[Zh];exact r.length.symm
 refine lI ht.isList (jr ..) .none (.int 0 Y) (.int (-1) tk) (by simp) ?_ (by rw[U];exact hz);rw[HT.ZeV];refine⟨.ref _,_,I4.laid (t':=M.toks) (o:=.lst (xs.drop 1).reverse) (fun b ob q=>Zn _ q) (Zq _) ?_,rfl,q _ (I4.hok.fresh (Zq _))⟩;exact⟨by rw[iH,bt];omega,_,0,(r.drop 1).reverse,Zo _ rfl⟩
end
end L2
namespace C40
open PySem L2 PySem.Spec PyProof.Rows
open Tb Pm
noncomputable abbrev Zgl:Stmt:=top 32
noncomputable abbrev Zgy:Stmt:=top 33
noncomputable abbrev ZmW:Stmt:=top 31
noncomputable abbrev Zgt:Stmt:=top 47
noncomputable def ZdD:Sp:=fun O H Q _=>∃(r ro:Addr) (p n m J:Nat) (X:Nat->List Int) (u:Nat->Int),O=[.ref r,.ref ro,.int p]/\RowT H r ((ac m).map X)/\H ro=some (.lst (ZD n u))/\(∀c,c<m->(X c).length=J)/\J<=n/\n<=60/\m<=60/\2<=p/\(∀j,j<n->0<=u j/\u j<100000)/\
 ∀L M,Same H M->M L=some (.lst (ZD m fun c=>Yr J (fun q=>Num.co (X c) q*u q) % (p:Int)))->H L=none->Q (.ref L) M
noncomputable def ZdN:Sp:=fun U H Q _=>∃(q J:Addr) (j:List Addr) (m M k:Nat) (v:Nat->Int) (E:Nat->Nat->Int),U=[.ref q,.ref J,.int k]/\H q=some (.lst (ZD m v))/\H J=some (.lst (j.map V.ref))/\j.length=m/\(∀(s:Nat) b,j[s]?=some b->H b=some (.lst (ZD M (E s))))/\k<M/\m<=60/\(∀s,s<m->0<=E s k/\E s k<100000)/\
 ∀O,Same H O->Q (.int (Yr m fun s=>v s*E s k)) O
theorem ZkK {H:Hp}{r:Addr}{m:Nat}{F:Nat->List Int}(h:RowT H r ((ac m).map F)):∃cs:List Addr,H r=some (.tup (cs.map V.ref))/\cs.length=m/\∀c,c<m->∃b,cs[c]?=some b/\H b=some (.tup ((F c).map V.int)):=by
 obtain⟨cs,J,j,M⟩:=h;rw[Za,Zg] at j;refine⟨cs,J,j,fun c O=>?_⟩;have e:=Zf (show c<cs.length by omega);obtain⟨y,q,g2⟩:=M c _ e;rw[Zc,ak O] at q;cases q;exact⟨_,e,g2⟩
section
variable {P:Program}{w:World}{K:ab}{mg:Str->Option Value}{base:Heap}
theorem ZgR {f:Addr}{fd:FuncData}(F:WB K "rests_of" "rests_of" Zgl f fd)(T5:BlT mg):Z5 P w K mg base Yd 1 f fd ["row", "roots", "p"] ZdD:=by
 refine F.ok (FS (N:=["row", "roots", "p"])) (fun vs H Q E h=>?_) (fun n4 A Y s H vs Q E hr h=>?_)
 ·obtain⟨r,ro,p,n,m,O,X,u,rfl,_⟩:=h;rfl
 ·obtain⟨r,ro,p,n,m,O,X,u,rfl,R,m8,hX,tn,n60,n6,p2,hu,q⟩:=h
  refine⟨_,Zv (ZG (cmp ["number"] [1,2] ["number", "roots", "p"] rfl (itT K (vn 0)) (fun _ _ _ _ _=>gn 0) (fun _ _ _ _ _=>ZP)
   (fun _ _ _ _ _=>Zz Z3 (cb (sumK K rfl) (by exact T5.sum) (pc (cmp ["x", "root"] [] ["x", "root"] rfl (ZeK K (by exact T5.zip) (pc (vn 0) (pc (vn 1) Zu))) (fun _ _ _ _ _=>g2 K 0 1 rfl (gn 0) (gn 1)) (fun _ _ _ _ _=>ZP) (fun _ _ _ _ _=>Zz ZQ (vn 0) (vn 1))) Zu)) (vn 2)))),?_⟩
  obtain⟨cs,r1,r2,r3⟩:=ZkK R;have cl:(cs.map V.ref).length=m:=by rw[Za,r2]
  refine⟨_,rfl,r,rfl,⟨_,.of r1⟩,?_⟩;refine Pm.WR (YX (K:=K) (.of r1)) [some (.ref ro),some (.int (p:Nat))] rfl (fun c=>V.int (Yr O (fun q=>Num.co (X c) q*u q) % (p:Int))) (by rw[cl];omega) (fun c y hy H1 U R k1=>?_) (fun D H1 nD U hD=>?_)
  ·have hc:c<m:=by
    have:=(aa.mp hy).1;rw[cl] at this;exact this
   obtain⟨b,e1,e2⟩:=r3 c hc;rw[Zc,e1] at hy;cases hy;have xl:=hX c hc;have zl:(((X c).map V.int).zip (ZD n u)).length=O:=by rw[cC,Za,ZY,xl];omega
   refine⟨_,rfl,_,rfl,b,ro,true,false,_,_,H1,rfl,.tup (.of (U _ _ e2)),.lst (.of (U _ _ m8)),Same.refl _,fun J At S m9=>?_⟩;refine XX S m9 (Same.refl _) [] rfl (fun q=>V.int (Num.co (X c) q*u q)) (by rw[zl];omega) (fun i x y H2 j s2 R2 k2=>?_) (fun D2 H2 n8 s2 M=>?_)
   ·have hi:i<O:=by
     have:=(aa.mp j).1;rw[zl] at this;exact this
    rw[bo] at j;obtain⟨h1,h2⟩:=j;rw[Yy u (show i<n by omega)] at h2;cases h2;rw[Zc,Num.Wj (show i<(X c).length by omega)] at h1;cases h1;have:=hu i (by omega);exact⟨_,rfl,_,rfl,_,_,rfl,rfl,.inr ⟨by omega,by omega⟩,k2 H2 (Same.refl _)⟩
   ·rw[zl] at M
    have es:((ac O).map fun q=>V.int (Num.co (X c) q*u q))=((ac O).map fun q=>Num.co (X c) q*u q).map V.int:=by rw[aU];rfl
    rw[es] at M;exact⟨D2,_,rfl,.of M,_,rfl,_,_,rfl,rfl,(by show (0:Int)<(p:Int);omega),k1 H2 s2⟩
  ·rw[cl] at hD
   exact q D H1 U hD nD
theorem Zg2 {f:Addr}{fd:FuncData}(F:WB K "added_up" "added_up" Zgy f fd)(T5:BlT mg):Z5 P w K mg base Yd 1 f fd ["parts", "ends", "k"] ZdN:=by
 refine F.ok (FS (N:=["parts", "ends", "k"])) (fun vs H Q E h=>?_) (fun n4 A Y s H vs Q E hr h=>?_)
 ·obtain⟨pa,en,es,m,mm,k,v,E,rfl,_⟩:=h;rfl
 ·obtain⟨pa,en,es,m,mm,k,v,U,rfl,hp,he,el,m8,hk,n6,hE,q⟩:=h
  refine⟨_,Zv (ZG (cb (sumK K rfl) T5.sum (pc (cmp ["part", "row"] [2] ["part", "row", "k"] rfl (ZeK K T5.zip (pc (vn 0) (pc (vn 1) Zu))) (fun _ _ _ _ _=>g2 K 0 1 rfl (gn 0) (gn 1)) (fun _ _ _ _ _=>ZP) (fun _ _ _ _ _=>Zz ZQ (vn 0) (ZN (V2 K) (vn 1) (vn 2) (fun _ _=>rfl)))) Zu))),?_⟩;have zl:((ZD m v).zip (es.map V.ref)).length=m:=by rw[cC,Za,ZY,el];omega
  refine⟨_,rfl,_,rfl,pa,en,false,false,_,_,H,rfl,.lst (.of hp),.lst (.of he),Same.refl _,fun J At S m9=>?_⟩;refine XX S m9 (Same.refl _) [some (.int (k:Nat))] rfl (fun s=>V.int (v s*U s k)) (by rw[zl];omega) (fun i x y H2 M s2 R2 k2=>?_) (fun D2 H2 n8 s2 O=>?_)
  ·have hi:i<m:=by
    have:=(aa.mp M).1;rw[zl] at this;exact this
   rw[bo] at M;obtain⟨h1,h2⟩:=M;rw[Yy v hi] at h1;cases h1;have e0:=Zf (show i<es.length by omega);rw[Zc,e0] at h2;cases h2;have hb:=m8 i _ e0;have:=hE i hi;exact⟨_,rfl,_,rfl,_,rfl,_,_,_,_,rfl,rfl,.of (s2 _ _ hb),ZU (j:=k) (Yy (U i) hk),_,_,rfl,rfl,.inr ⟨by omega,by omega⟩,k2 H2 (Same.refl _)⟩
  ·rw[zl] at O
   have ee:((ac m).map fun s=>V.int (v s*U s k))=((ac m).map fun s=>v s*U s k).map V.int:=by rw[aU];rfl
   rw[ee] at O;exact⟨D2,_,rfl,.of O,q H2 s2⟩
end
theorem Zgd {m:Nat}{ss:List Nat}(h:ss.Perm (ac m))(F:Nat->Int):Yr m (fun j=>F (ss.getD j 0))=Yr m F:=by
 have O:ss.length=m:=by rw[h.length_eq,Zg]
 have e:(ac m).map (fun j=>F (ss.getD j 0))=ss.map F:=by
  refine aX fun i=>?_;by_cases J:i<m
  ·rw[Zc,ak J,Zc,Zf (by omega)]
   show some (F (ss.getD i 0))=_;rw[Zb,Zf (by omega)];rfl
  ·rw[ag (by rw[Za,Zg];omega),ag (by rw[Za];omega)]
 unfold Yr;rw[e];have q:=h.map F;generalize ss.map F=U at q;generalize (ac m).map F=Y at q ⊢;induction q with
 |nil=>rfl
 |cons x _ M=>rw[eS,eS,M]
 |swap x y l=>rw[eS,eS,eS,eS];omega
 |trans _ _ a b=>rw[a,b]
theorem Zf2 {m:Nat}{ss:List Nat}(h:ss.Perm (ac m)){i:Nat}(j:i<m):ss[i]?=some (ss.getD i 0)/\ss.getD i 0<m:=by
 have q:ss.length=m:=by rw[h.length_eq,Zg]
 have e:ss[i]?=some (ss.getD i 0):=by rw[Zb,Zf (by omega)];rfl
 exact⟨e,ae.mp (h.mem_iff.mp (aD e))⟩
theorem Zf0 {t:List (List Nat)}(P:PW t):Yr (Zy t t.length).length (fun c=>((WD t (ZB t c):Nat):Int))=(t.length:Nat):=by
 have U:=Yw P;have J:Yr (Zy t t.length).length (fun c=>((WD t (ZB t c):Nat):Int))=Yr (Zy t t.length).length (fun c=>Yr t.length fun a=>if c=YC t a then (1:Int) else 0):=ZO fun c q=>by
  unfold WD;rw[<-Jd];refine ZO fun a j=>?_;rw[XZ P (U.rl c q) j,U.rn c q];unfold YU;by_cases h:YC t a=c
  ·rw[decide_eq_true h,if_pos rfl,if_pos h.symm];rfl
  ·rw[decide_eq_false h,if_neg (by decide),if_neg (fun z=>h z.symm)];rfl
 rw[J,VH];have M:Yr t.length (fun a=>Yr (Zy t t.length).length fun c=>if c=YC t a then (1:Int) else 0)=Yr t.length (fun _=>((1:Nat):Int)):=ZO fun a j=>Zas (U.lt a j) (fun _=>1)
 rw[M,Jd];congr 1;generalize t.length=n;induction n with
 |zero=>rfl
 |succ n O=>rw[Yi,O]
noncomputable def LsT (H:Hp)(a:Addr)(k m:Nat)(row:Nat->Nat->Nat):Prop:=∃bs:List Addr,H a=some (.lst (bs.map V.ref))/\bs.length=k/\∀(v:Nat) b,bs[v]?=some b->H b=some (.tup ((ZI m (row v)).map nV))
theorem LsT.mono {H j:Hp}{a:Addr}{k m:Nat}{row:Nat->Nat->Nat}(h:LsT H a k m row)(s:Same H j):LsT j a k m row:=by
 obtain⟨bs,q,J,M⟩:=h;exact⟨bs,s _ _ q,J,fun v b hb=>s _ _ (M v b hb)⟩
theorem LsT.but {H j:Hp}{A a:Addr}{k m:Nat}{row:Nat->Nat->Nat}{xs:List V}(h:LsT H a k m row)(ne:a≠A)(J:H A=some (.lst xs))(s:Same (but H A) j):LsT j a k m row:=by
 obtain⟨bs,M,O,q⟩:=h;refine⟨bs,s _ _ (Z8 M ne),O,fun v b hb=>s _ _ (Z8 (q v b hb) fun z=>?_)⟩;have:=q v b hb;rw[z,J] at this;cases this
theorem LsT.push {H:Hp}{a b:Addr}{k m:Nat}{row:Nat->Nat->Nat}(h:LsT H a k m row)(hb:H b=some (.tup ((ZI m (row k)).map nV))):∃bs:List Addr,H a=some (.lst (bs.map V.ref))/\bs.length=k/\LsT (upd H a (.lst (bs.map V.ref++[.ref b]))) a (k+1) m row:=by
 obtain⟨bs,J,q,U⟩:=h;refine⟨bs,J,q,bs++[b],by rw[Zt,aT];rfl,by rw[Zd,q];rfl,fun v c j=>?_⟩;have ne:∀{d:Addr}{M:List V},H d=some (.tup M)->d≠a:=fun {d M} O z=>by rw[z,J] at O;cases O
 by_cases Y:v<bs.length
 ·rw[am Y] at j
  have:=U v c j;rw[Zx (ne this)];exact this
 ·have hl:=(aa.mp j).1
  rw[Zd,Zk] at hl;have ev:v=bs.length:=by omega
  rw[aq (by omega),ev,cm] at j;cases j;rw[Zx (ne hb),ev,q];exact hb
theorem CT.updL {H:Hp}{c D:Addr}{j:List (List Nat)}{ys:List V}{o:HO}(h:CT H c j)(U:H D=some (.lst ys)):CT (upd H D o) c j:=by
 obtain⟨Y,q,h2,J⟩:=h;have ne:∀{d:Addr}{zs:List V},H d=some (.tup zs)->d≠D:=fun {d zs} M z=>by rw[z,U] at M;cases M
 exact⟨Y,by rw[Zx (ne q)];exact q,h2,fun i r O=>by rw[Zx (ne (J i r O))];exact J i r O⟩
noncomputable def ZkL (t:List (List Nat))(m:Nat)(X:Nat->Nat->List Int)(s:Nat):List (List Int):=(ac m).map fun c=>X s (ZB t c)
noncomputable def J9 (t:List (List Nat))(i j k:Nat):Nat:=cnT t (ZB t i) (ZB t j) (ZB t k)
noncomputable def ZjZ:Sp:=fun J H Q _=>∃(sz tb:Addr) (t:List (List Nat)) (n m:Nat) (X:Nat->Nat->List Int) (p z:Nat) (q:List Nat),J=[.int n,.ref sz,.ref tb]/\PW t/\1<=n/\n<=60/\m=(Zy t t.length).length/\CS t n m X p z/\(∀s x,(X s x).length=N40.WC n)/\H sz=some (.tup (ZD m fun c=>((WD t (ZB t c):Nat):Int)))/\ZfG H tb (q.map (ZkL t m X))/\q.Perm (ac m)/\
 ∀r j,Same H j->C3 j r m (J9 t)->Q (.ref r) j
theorem Zkr {p z:Nat}(p0:0<p)(xs:List Int):((RR p z xs:Nat):Int)=Yr xs.length (fun q=>Num.co xs q*((z ^ q % p:Nat):Int)) % (p:Int):=by
 unfold RR;exact iL (cD _ (by omega))
theorem Zku {n p z:Nat}(p0:0<p)(xs:List Int):((BR n p z xs:Nat):Int)=Yr xs.length (fun q=>Num.co xs q*((z ^ ((n-q) % n) % p:Nat):Int)) % (p:Int):=by
 unfold BR;exact iL (cD _ (by omega))
theorem Zh7 {p z:Nat}(p0:0<p)(xs:List Int):RR p z xs<p:=by
 have h:=Zkr p0 (z:=z) xs;have:=bZ (Yr xs.length (fun q=>Num.co xs q*((z ^ q % p:Nat):Int))) (show (0:Int)<p by omega);omega
theorem ZnU {n p z:Nat}(p0:0<p)(xs:List Int):BR n p z xs<p:=by
 have h:=Zku p0 (z:=z) (n:=n) xs;have:=bZ (Yr xs.length (fun q=>Num.co xs q*((z ^ ((n-q) % n) % p:Nat):Int))) (show (0:Int)<p by omega);omega
theorem Zaf {n p z:Nat}(Y:1<=n):Jo (Yv p z n) none (some 1)++((Yv p z n).drop 1).reverse=ZD n fun q=>((z ^ ((n-q) % n) % p:Nat):Int):=by
 have O:Jo (Yv p z n) none (some 1)=(Yv p z n).take 1:=by
  unfold Jo;have:HT.Ur (Yv p z n).length (Yv p z n).length (some 1)=min 1 (Yv p z n).length:=rfl;rw[this,show HT.Ur (Yv p z n).length 0 none=0 from rfl,jR,WF];congr 1;omega
 have J:∀i,i<n->(Yv p z n)[i]?=some (V.int ((z ^ i % p:Nat):Int)):=fun i j=>by
  unfold Yv;rw[Zc,ak j];rfl
 rw[O];refine aX fun i=>?_;have M:((Yv p z n).take 1).length=1:=by rw[b9,WF];omega
 by_cases j:i<n
 ·rw[Yy _ j]
  by_cases U:i=0
  ·subst U
   rw[am (by omega),fZ,if_pos (by omega),J 0 j,eF,lr]
  ·rw[aq (by omega),M,ly (by rw[bt,WF];omega),iP,bt,WF,J _ (by omega)]
   have:1+(n-1-1-(i-1))=(n-i) % n:=by rw[bF (by omega)];omega
   rw[this]
 ·rw[ag (by rw[Zd,M,iH,bt,WF];omega),ag (by rw[ZY];omega)]
theorem ZfG.mono {H j:Hp}{r:Addr}{yss:List (List (List Int))}(h:ZfG H r yss)(s:Same H j):ZfG j r yss:=by
 obtain⟨q,J,M,O⟩:=h;refine⟨q,s _ _ J,M,fun i c U=>?_⟩;obtain⟨Y,g1,g2⟩:=O i c U;exact⟨Y,g1,g2.mono s⟩
section
variable {P:Program}{w:World}{K:ab}{mg:Str->Option Value}{base:Heap}
theorem Zlh {f:Addr}{fd:FuncData}(F:WB K "counts_by" "counts_by" ZmW f fd)(T:Bl mg)(T2:Zcu mg)(T5:BlT mg)(GF:Fn P w K mg base Yd 1 "fit_prime" ["n", "count"] Zga)(GRo:Fn P w K mg base Yd 1 "root_powers" ["n", "p"] Zal)(GRe:Fn P w K mg base Yd 1 "rests_of" ["row", "roots", "p"] ZdD)(GB:Fn P w K mg base Yd 1 "back_by" ["p", "x"] Jq)(GAd:Fn P w K mg base Yd 1 "added_up" ["parts", "ends", "k"] ZdN):Z5 P w K mg base Yd 2 f fd ["n", "sizes", "rows"] ZjZ:=by
 refine F.ok (FS (N:=["n", "sizes", "rows", "count", "p", "roots", "backs", "ours", "ends", "shares", "found", "i", "size", "j", "other", "parts"])) (fun vs H Q E h=>?_) (fun cdv A outer s H vs Q E hr h=>?_)
 ·obtain⟨sz,tb,t,n,m,X,p,z,ss,rfl,_⟩:=h;rfl
 ·obtain⟨sz,tb,t,n,m,X,p,z,ss,rfl,Pt,n1,n60,mc,S,x9,hsz,B,o7,q⟩:=h
  refine⟨_,Zs (ZE 3 rfl (cb (ZmN K rfl) T5.sum (pc (vn 1) Zu)))
   (Zs (ZE 4 rfl (Wd GF hr ZL (pc (vn 0) (pc (Zz ZQ (vn 3) (vn 3)) Zu))))
   (Zs (ZE 5 rfl (Wd GRo hr ZL (pc (vn 0) (pc (vn 4) Zu))))
   (Zs (ZE 6 rfl (Zz ZcZ (Ju Xg (vn 5) Xm (Xl Zw)) (Zna K (vn 5) Zw (Xn Jc Zw))))
   (Zs (Zge 7 ["row"] [5,4] ["row", "roots", "p"] rfl rfl (itT K (vn 2)) (fun _ _ _ _ _=>gn 0) (fun _ _ _ _ _=>ZP) (fun _ _ _ _ _=>Wd GRe hr ZL (pc (vn 0) (pc (vn 1) (pc (vn 2) Zu)))))
   (Zs (ZE 8 rfl (cmp ["row"] [6,4] ["row", "backs", "p"] rfl (itT K (vn 2)) (fun _ _ _ _ _=>gn 0) (fun _ _ _ _ _=>ZP) (fun _ _ _ _ _=>Wd GRe hr ZL (pc (vn 0) (pc (vn 1) (pc (vn 2) Zu))))))
   (Zs (Zge 9 ["row"] [4,3] ["row", "p", "count"] rfl rfl (itL K (vn 7)) (fun _ _ _ _ _=>gn 0) (fun _ _ _ _ _=>ZP) (fun _ _ _ _ _=>Wd GB hr ZL (pc (vn 1) (pc (Zz ZQ (vn 2) (ZN (V2 K) (vn 0) Zw (fun _ _=>rfl))) Zu))))
   (Zs (ZE 10 rfl (ZS Zu))
   (Zs (ZR ao rfl (Xy K T2.enumerate (pc (vn 1) Zu)) (g2 K 11 12 rfl (gnf 11 rfl) (gnf 12 rfl))
   (Zs (Ya (Y6 aH aM aO ZV (vn 10) (pc (ZS Zu) Zu)))
   (Zv (ZR ao rfl (Xy K T2.enumerate (pc (vn 1) Zu)) (g2 K 13 14 rfl (gnf 13 rfl) (gnf 14 rfl))
   (Zs (ZE 15 rfl (cmp ["share", "row"] [12,14,11,13,4] ["share", "row", "size", "other", "i", "j", "p"] rfl (ZeK K T5.zip (pc (vn 9) (pc (vn 7) Zu))) (fun _ _ _ _ _=>g2 K 0 1 rfl (gn 0) (gn 1)) (fun _ _ _ _ _=>ZP) (fun _ _ _ _ _=>Zz Z3 (Zz ZQ (Zz ZQ (Zz ZQ (Zz ZQ (vn 2) (vn 3)) (vn 0)) (ZN (V2 K) (vn 1) (vn 4) (fun _ _=>rfl))) (ZN (V2 K) (vn 1) (vn 5) (fun _ _=>rfl))) (vn 6))))
   (Zv (Ya (Y6 aH aM aO ZV (ZN (V2 K) (vn 10) (vn 11) (fun _ _=>rfl)) (pc (ct (tupK K) T.tuple (pc (cmp ["k"] [15,8,4] ["k", "parts", "ends", "p"] rfl (XM T.range (pc (cb (YF K) T.len (pc (vn 1) Zu)) Zu)) (fun _ _ _ _ _=>gn 0) (fun _ _ _ _ _=>ZP) (fun _ _ _ _ _=>Zz Z3 (Wd GAd hr ZL (pc (vn 1) (pc (vn 2) (pc (vn 0) Zu)))) (vn 3))) Zu)) Zu)))))))))
   (Zv (ZG (ct (tupK K) T.tuple (pc (cmp ["seconds"] [] ["seconds"] rfl (itL K (vn 10)) (fun _ _ _ _ _=>gn 0) (fun _ _ _ _ _=>ZP) (fun _ _ _ _ _=>ct (tupK K) (by exact T.tuple) (pc (vn 0) Zu))) Zu)))))))))))),?_⟩
  have szl:(16777216:Nat)=sizeLine:=by decide
  have N60:=Pt.n60;have N1:=Pt.n1;have U:=Yw Pt;have ul:=Wc (t:=t) t.length;have m60:m<=60:=by omega
  have m1:1<=m:=by have:=U.lt 0 N1;omega
  have p2:=S.pr.p2;have p1k:=S.p1k;have hl:ss.length=m:=by rw[o7.length_eq,Zg]
  have Uy:ZB t 0=0:=by
   have h0:0<(Zy t t.length).length:=by omega
   exact ((U.z _ (U.rl 0 h0)).mp (U.rn 0 h0))
  have szle:∀c,c<m->WD t (ZB t c)<=60:=fun c hc=>by
   have h1:=Zf0 Pt;rw[<-mc] at h1;have h2:((WD t (ZB t c):Nat):Int)<=Yr m (fun c=>((WD t (ZB t c):Nat):Int)):=by
    have key:∀k,c<k->((WD t (ZB t c):Nat):Int)<=Yr k (fun c=>((WD t (ZB t c):Nat):Int)):=fun k=>by
     induction k with
     |zero=>intro h;omega
     |succ k ih=>
      intro h;rw[Yu];by_cases e:c=k
      ·subst e
       have:0<=Yr c (fun c=>((WD t (ZB t c):Nat):Int)):=by rw[Jd];omega
       omega
      ·have:=ih (by omega)
       omega
    exact key m hc
   omega
  refine⟨_,rfl,sz,(ac m).map fun c=>((WD t (ZB t c):Nat):Int),rfl,.of (by rw[hsz,WK]),?_⟩;have esum:((ac m).map fun c=>((WD t (ZB t c):Nat):Int)).sum=(t.length:Nat):=by
   have:=Zf0 Pt;rw[<-mc] at this;exact this
  rw[esum];refine⟨_,rfl,_,rfl,_,rfl,_,_,rfl,rfl,.inr ⟨by omega,by omega⟩,n,t.length*t.length,p,by rw[aK];rfl,n1,n60,?_,S.fit,fun H1 s1=>?_⟩
  ·have:t.length*t.length<=60*60:=iB N60 N60
   omega
  refine⟨_,rfl,_,rfl,n,p,z,rfl,n1,n60,p2,by omega,S.rt,fun Ro H2 nRo s2 hRo=>?_⟩;refine⟨_,rfl,_,rfl,Ro,_,rfl,.inl (.inl hRo),fun b1 nb1=>?_⟩;have s3:=s2.trans (Same.upd (H:=H2) (o:=.lst (Jo (Yv p z n) none (some 1))) nb1);have hb1:=Zt (H:=H2) (a:=b1) (o:=.lst (Jo (Yv p z n) none (some 1)));have o8:=(Same.upd (H:=H2) (o:=.lst (Jo (Yv p z n) none (some 1))) nb1) _ _ hRo;generalize upd H2 b1 (.lst (Jo (Yv p z n) none (some 1)))=H3 at s3 hb1 o8 ⊢;refine⟨_,rfl,_,rfl,rfl,rfl,Ro,_,rfl,.inl (.inl o8),fun b2 nb2=>?_⟩;have s4:=s3.trans (Same.upd (H:=H3) (o:=.lst ((Yv p z n).drop 1).reverse) nb2);have hb2:=Zt (H:=H3) (a:=b2) (o:=.lst ((Yv p z n).drop 1).reverse);have hb1':=(Same.upd (H:=H3) (o:=.lst ((Yv p z n).drop 1).reverse) nb2) _ _ hb1;have hRo4:=(Same.upd (H:=H3) (o:=.lst ((Yv p z n).drop 1).reverse) nb2) _ _ o8;generalize upd H3 b2 (.lst ((Yv p z n).drop 1).reverse)=H4 at s4 hb2 hb1' hRo4 ⊢;have bll:=congrArg cJ (Zaf (p:=p) (z:=z) n1);rw[Zd,ZY] at bll;refine⟨b1,b2,_,_,rfl,rfl,hb1',hb2,by omega,fun Ba nBa=>?_⟩;rw[Zaf n1];have s5:=s4.trans (Same.upd (H:=H4) (o:=.lst (ZD n fun q=>((z ^ ((n-q) % n) % p:Nat):Int))) nBa);have hBa:=Zt (H:=H4) (a:=Ba) (o:=.lst (ZD n fun q=>((z ^ ((n-q) % n) % p:Nat):Int)));have hRo5:upd H4 Ba (.lst (ZD n fun q=>((z ^ ((n-q) % n) % p:Nat):Int))) Ro=some (.lst (ZD n fun q=>((z ^ q % p:Nat):Int))):=(Same.upd (H:=H4) (o:=.lst (ZD n fun q=>((z ^ ((n-q) % n) % p:Nat):Int))) nBa) _ _ hRo4;generalize upd H4 Ba (.lst (ZD n fun q=>((z ^ ((n-q) % n) % p:Nat):Int)))=H5 at s5 hBa hRo5 ⊢;have s05:=s1.trans s5;have B5:=B.mono s05;obtain⟨cs,c1,c2,c3⟩:=id B5;have cl:(cs.map V.ref).length=m:=by rw[Za,c2,Za,hl]
  have Z7:∀i,i<m->∃c,cs[i]?=some c/\RowT H5 c (ZkL t m X (ss.getD i 0)):=fun i hi=>by
   have e:=Zf (show i<cs.length by rw[Za] at cl;omega);obtain⟨ys,g1,g2⟩:=c3 i _ e;rw[Zc,(Zf2 o7 hi).1] at g1;cases g1;exact⟨_,e,g2⟩
  have pmod:∀x:Nat,x % p<p:=fun x=>bW _ (by omega);refine⟨_,rfl,tb,rfl,⟨_,.of c1⟩,?_⟩;refine Pm.YM (W:=Addr) id (fun i a H=>H a=some (.lst (ZD m fun c=>((RR p z (X (ss.getD i 0) (ZB t c)):Nat):Int)))) (fun w H=>H w=none) (YX (K:=K) (.of c1)) [some (.ref Ro),some (.int (p:Nat))] rfl (by rw[cl];omega) (fun k a H H' sm h=>sm _ _ h) (fun a H H' sm h=>sm.free h) (fun k a H0' H1' D' o ys ys' h1 h2 h3 h4=>by rw[Zx (fun zz=>by rw[zz,h3] at h2;cases h2)];exact h1) (fun i x hx H6 s6 R k6=>?_) (fun Ou os H6 nOu s6 hOu y4 hos _=>?_)
  ·have hi:i<m:=by
    have:=(aa.mp hx).1;rw[cl] at this;exact this
   obtain⟨c,e1,R5⟩:=Z7 i hi;rw[Zc,e1] at hx;cases hx;refine⟨_,rfl,_,rfl,_,rfl,c,Ro,p,n,m,N40.WC n,_,_,rfl,R5.mono s6,s6 _ _ hRo5,fun c _=>x9 _ _,S.tn,n60,m60,p2,fun j hj=>?_,fun L H7 s7 h7 nL7=>k6 L H7 s7 ?_ nL7⟩
   ·have:=pmod (z ^ j)
    omega
   ·rw[h7]
    congr 2;refine YO fun c hc=>?_;rw[Zkr (by omega),x9]
  have s06:=s05.trans s6;rw[cl] at y4;obtain⟨cs6,d1,_,_⟩:=id (B.mono s06);have ecs:cs6=cs:=by
   have:=s6 _ _ c1;rw[d1] at this;have:=HO.tup.inj (aw this);exact (eX (fun a b h=>by cases h;rfl)).mp this
  subst ecs;refine⟨_,rfl,tb,rfl,⟨_,.of d1⟩,?_⟩;refine Pm.YM (W:=Addr) id (fun i a H=>H a=some (.lst (ZD m fun c=>((BR n p z (X (ss.getD i 0) (ZB t c)):Nat):Int)))) (fun w H=>H w=none) (YX (K:=K) (.of d1)) [some (.ref Ba),some (.int (p:Nat))] rfl (by rw[cl];omega) (fun k a H H' sm h=>sm _ _ h) (fun a H H' sm h=>sm.free h) (fun k a H0' H1' D' o ys ys' h1 h2 h3 h4=>by rw[Zx (fun zz=>by rw[zz,h3] at h2;cases h2)];exact h1) (fun i x hx H7 s7 R k7=>?_) (fun En es H7 nEn s7 hEn y6 hes _=>?_)
  ·have hi:i<m:=by
    have:=(aa.mp hx).1;rw[cl] at this;exact this
   obtain⟨c,e1,R5⟩:=Z7 i hi;rw[Zc,e1] at hx;cases hx;refine⟨_,rfl,_,rfl,_,rfl,c,Ba,p,n,m,N40.WC n,_,_,rfl,R5.mono (s6.trans s7),(s6.trans s7) _ _ hBa,fun c _=>x9 _ _,S.tn,n60,m60,p2,fun j hj=>?_,fun L H8 s8 h8 nL8=>k7 L H8 s8 ?_ nL8⟩
   ·have:=pmod (z ^ ((n-j) % n))
    omega
   ·rw[h8]
    congr 2;refine YO fun c hc=>?_;rw[Zku (by omega),x9]
  rw[cl] at y6;have s07:=s06.trans s7;have o9:H7 Ou=some (.lst (os.map V.ref)):=s7 _ _ hOu;have hos7:∀i,i<m->∃o,os[i]?=some o/\H7 o=some (.lst (ZD m fun c=>((RR p z (X (ss.getD i 0) (ZB t c)):Nat):Int))):=fun i hi=>by
   have e:=Zf (show i<os.length by omega);exact⟨_,e,s7 _ _ (hos i _ e).1⟩
  have ol:(os.map V.ref).length=m:=by rw[Za,y4]
  refine⟨_,rfl,Ou,rfl,⟨_,.of o9⟩,?_⟩;refine Pm.WR (Yz (K:=K) (.of o9)) [some (.int (p:Nat)),some (.int (t.length:Nat))] rfl (fun i=>V.int ((bkM p (t.length*RR p z (X (ss.getD i 0) 0)):Nat):Int)) (by rw[ol];omega) (fun i x hx H8 s8 R k8=>?_) (fun Sh H8 nSh s8 hSh=>?_)
  ·have hi:i<m:=by
    have:=(aa.mp hx).1;rw[ol] at this;exact this
   obtain⟨o,e1,e2⟩:=hos7 i hi;rw[Zc,e1] at hx;cases hx;have hsm:=(Zf2 o7 hi).2;obtain⟨y0,y1,y2,y3⟩:=S.bk _ hsm;have rlt:=Zh7 (z:=z) (show 0<p by omega) (X (ss.getD i 0) (ZB t 0));rw[Uy] at rlt;refine⟨_,rfl,_,rfl,_,rfl,o,_,_,_,rfl,rfl,.of (s8 _ _ e2),ZU (j:=0) (Yy _ m1),_,_,rfl,rfl,.inr ⟨?_,?_⟩,p,_,rfl,p2,by omega,⟨y0,y1,y2,?_⟩,fun y a1 a2 a3=>?_⟩
   ·omega
   ·rw[Uy];omega
   ·rw[Uy,<-aK,<-aK,<-aY,y3];rfl
   ·rw[Uy,<-aK,<-aK,<-aY] at a3
    have hy:y*(t.length*RR p z (X (ss.getD i 0) 0)) % p=1:=by omega
    have:=k8 H8 (Same.refl _);rw[ZeC a2 hy] at this;exact this
  rw[ol] at hSh;have s08:=s07.trans s8;refine⟨(by show 0<=sizeLine;decide),fun L nL=>?_⟩;have s9:=s8.trans (Same.upd (H:=H8) (o:=.lst []) nL);have h9:upd H8 L (.lst []) L=some (.lst ([]:List V)):=Zt;have p4:=(Same.upd (H:=H8) (o:=.lst []) nL) _ _ hSh;have nL8:=nL;generalize upd H8 L (.lst [])=H9 at s9 h9 p4 ⊢;have s09:=s07.trans s9;have nLH:H L=none:=s08.free nL;have hOu9:=s9 _ _ o9;have hEn9:=s9 _ _ hEn;have O:=s09 _ _ hsz;have hos9:∀i,i<m->∃o,os[i]?=some o/\H9 o=some (.lst (ZD m fun c=>((RR p z (X (ss.getD i 0) (ZB t c)):Nat):Int))):=fun i hi=>by
   obtain⟨o,a,b⟩:=hos7 i hi;exact⟨o,a,s9 _ _ b⟩
  have hes9:∀i,i<m->∃o,es[i]?=some o/\H9 o=some (.lst (ZD m fun c=>((BR n p z (X (ss.getD i 0) (ZB t c)):Nat):Int))):=fun i hi=>by
   have e:=Zf (show i<es.length by omega);exact⟨_,e,s9 _ _ (hes i _ e).1⟩
  have vl:(ZD m fun c=>((WD t (ZB t c):Nat):Int)).length=m:=ZY _ _;have vne:∀{v:Nat->Int},ZD m v≠[]:=fun {v} hz=>by
   have:=congrArg cJ hz;rw[ZY] at this;simp at this;omega
  have rne:∀{l:List Addr},l.length=m->l.map V.ref≠[]:=fun {l} h1 hz=>by
   have:=congrArg cJ hz;rw[Za,h1] at this;simp at this;omega
  have p6:∀{b:Addr}{xs:List V},xs≠[]->H9 b=some (.lst xs)->b≠L:=fun {b xs} hx hb=>VW hb h9 hx;have neT:∀{b:Addr}{xs:List V},H9 b=some (.tup xs)->b≠L:=fun {b xs} hb z=>by rw[z,h9] at hb;cases hb
  have told:∀i j k,i<m->j<m->k<m->Yr m (fun u=>((WD t (ZB t i)*WD t (ZB t j)*bkM p (t.length*RR p z (X (ss.getD u 0) 0))*RR p z (X (ss.getD u 0) (ZB t i))*RR p z (X (ss.getD u 0) (ZB t j)) % p:Nat):Int)*((BR n p z (X (ss.getD u 0) (ZB t k)):Nat):Int)) % (p:Int)=((J9 t i j k:Nat):Int):=fun i j k hi hj hk=>by
   have key:=S.val (ZB t i) (ZB t j) (ZB t k) (U.rl i (by omega)) (U.rl j (by omega)) (U.rl k (by omega));have e1:=Zgd o7 (fun s=>((WD t (ZB t i)*WD t (ZB t j)*bkM p (t.length*RR p z (X s 0))*RR p z (X s (ZB t i))*RR p z (X s (ZB t j)) % p:Nat):Int)*((BR n p z (X s (ZB t k)):Nat):Int));have e2:Yr m (fun s=>((WD t (ZB t i)*WD t (ZB t j)*bkM p (t.length*RR p z (X s 0))*RR p z (X s (ZB t i))*RR p z (X s (ZB t j)) % p:Nat):Int)*((BR n p z (X s (ZB t k)):Nat):Int))=Yr m (fun s=>((WD t (ZB t i)*WD t (ZB t j)*bkM p (t.length*RR p z (X s 0))*RR p z (X s (ZB t i))*RR p z (X s (ZB t j)) % p*BR n p z (X s (ZB t k)):Nat):Int)):=ZO fun s _=>by rw[<-aK]
   rw[e1,e2,Jd,<-aY,key];rfl
  refine⟨_,rfl,sz,rfl,.inr ⟨⟨_,.of O⟩,?_⟩⟩;refine Y9 (XV (K:=K) (xs:=ZD m fun c=>((WD t (ZB t c):Nat):Int))) (fun i m8 H'=>∃(ls:List Addr) (v11 v12 p7 p8 q0:Option V),m8=[some (.int n),some (.ref sz),some (.ref tb),some (.int (t.length:Nat)),some (.int (p:Nat)),some (.ref Ro),some (.ref Ba),some (.ref Ou),some (.ref En),some (.ref Sh),some (.ref L),v11,v12,p7,p8,q0]/\Same (but H9 L) H'/\H' L=some (.lst (ls.map V.ref))/\ls.length=i/\∀(u:Nat) a,ls[u]?=some a->LsT H' a m m (J9 t u))
   ⟨[],_,_,_,_,_,rfl,fun b o hb=>(YB hb).2,h9,rfl,fun u a h=>by cases h⟩ (fun i m8 H' h=>by
    obtain⟨_,_,_,_,_,_,_,sm,_⟩:=h;exact .of (sm _ _ (Z8 O (neT O)))) ?_ ?_
  ·rintro i yv m8 H10 T' m9 ⟨ls,v11,v12,p7,p8,q0,rfl,y8,n4,ll,hls⟩ nT
   have hi:i<m:=by
    have:=(aa.mp m9).1;rw[vl] at this;exact this
   rw[Yy _ hi] at m9;cases m9;have Y:=Same.upd (H:=H10) (o:=.tup [.int (i:Nat),.int ((WD t (ZB t i):Nat):Int)]) nT;refine⟨T',_,rfl,.of Zt,rfl,_,_,rfl,_,_,rfl,rfl,?_⟩;have y9:=Y _ _ n4;generalize upd H10 T' (.tup [.int (i:Nat),.int ((WD t (ZB t i):Nat):Int)])=o5 at Y y9 ⊢;refine⟨_,rfl,.inl ⟨rfl,_,.of y9⟩,(by show 0<=sizeLine;decide),fun M nA=>?_⟩;have n6:=Same.upd (H:=o5) (o:=.lst []) nA;have hA12:upd o5 M (.lst []) M=some (.lst ([]:List V)):=Zt;have h12:=n6 _ _ y9;generalize upd o5 M (.lst [])=r6 at n6 hA12 h12 ⊢;have AL:M≠L:=fun z=>by rw[z,y9] at nA;cases nA
   refine⟨L,_,_,rfl,rfl,h12,by rw[Za,ll];omega,?_⟩;have r8:upd r6 L (.lst (ls.map V.ref++[.ref M])) L=some (.lst ((ls++[M]).map V.ref)):=by rw[Zt,aT];rfl
   have r9:upd r6 L (.lst (ls.map V.ref++[.ref M])) M=some (.lst ([]:List V)):=by rw[Zx AL];exact hA12
   have s913:Same (but H9 L) (upd r6 L (.lst (ls.map V.ref++[.ref M]))):=fun b o hb=>by
    rw[Zx (YB hb).1];exact n6 _ _ (Y _ _ (y8 b o hb))
   have t0:∀(u:Nat) a,ls[u]?=some a->a≠M/\LsT (upd r6 L (.lst (ls.map V.ref++[.ref M]))) a m m (J9 t u):=fun u a hu=>by
    have h0:=hls u a hu;have aL:a≠L:=by
     intro z;obtain⟨bs,g1,g2,_⟩:=id h0;rw[z,n4] at g1;have e:=HO.lst.inj (aw g1);have e2:ls=bs:=(eX (fun a b h=>by cases h;rfl)).mp e;rw[z] at hu;rw[e2] at hu;obtain⟨bs',g1',g2',g3'⟩:=id h0;rw[z,n4] at g1';have e3:ls=bs':=(eX (fun a b h=>by cases h;rfl)).mp (HO.lst.inj (aw g1'));rw[<-e2,e3] at hu;have:=g3' u L hu;rw[n4] at this;cases this
    have aA:a≠M:=fun z=>by
     obtain⟨bs,g1,_,_⟩:=id h0;have:=Y _ _ g1;rw[z,nA] at this;cases this
    have h2:=(h0.mono Y).mono n6;refine⟨aA,h2.but aL h12 fun b o hb=>?_⟩;rw[Zx (YB hb).1];exact (YB hb).2
   have nA9:H9 M=none:=by
    cases hh:H9 M with
    |none=>rfl
    |some o=>
     have:=Y _ _ (y8 _ _ (Z8 hh AL));rw[nA] at this;cases this
   generalize upd r6 L (.lst (ls.map V.ref++[.ref M]))=H13 at r8 r9 s913 t0 ⊢;have t5:∀{b:Addr}{o:HO},H9 b=some o->b≠L->H13 b=some o/\b≠M:=fun {b o} hb hne=>⟨s913 b o (Z8 hb hne),fun z=>by rw[z,nA9] at hb;cases hb⟩;have n8:=t5 O (neT O);refine⟨_,rfl,sz,rfl,.inr ⟨⟨_,.of n8.1⟩,?_⟩⟩;refine Y9 (XV (K:=K) (xs:=ZD m fun c=>((WD t (ZB t c):Nat):Int))) (fun j m8 H'=>∃(p7 p8 q0:Option V),m8=[some (.int n),some (.ref sz),some (.ref tb),some (.int (t.length:Nat)),some (.int (p:Nat)),some (.ref Ro),some (.ref Ba),some (.ref Ou),some (.ref En),some (.ref Sh),some (.ref L),some (.int (i:Nat)),some (.int ((WD t (ZB t i):Nat):Int)),p7,p8,q0]/\Same (but H13 M) H'/\LsT H' M j m (J9 t i))
    ⟨_,_,_,rfl,fun b o hb=>(YB hb).2,[],r9,rfl,fun u a h=>by cases h⟩ (fun j m8 H' h=>by
     obtain⟨_,_,_,_,sm,_⟩:=h;exact .of (sm _ _ (Z8 n8.1 n8.2))) ?_ ?_
   ·rintro j yv m8 H14 T2' m9 ⟨w13,w14,w15,rfl,t6,A14⟩ nT2
    have hj:j<m:=by
     have:=(aa.mp m9).1;rw[vl] at this;exact this
    rw[Yy _ hj] at m9;cases m9;have s15:=Same.upd (H:=H14) (o:=.tup [.int (j:Nat),.int ((WD t (ZB t j):Nat):Int)]) nT2;refine⟨T2',_,rfl,.of Zt,rfl,_,_,rfl,_,_,rfl,rfl,?_⟩;have A15:=A14.mono s15;generalize upd H14 T2' (.tup [.int (j:Nat),.int ((WD t (ZB t j):Nat):Int)])=H15 at s15 A15 ⊢;have t7:Same (but H13 M) H15:=t6.trans s15;have o6:∀{b:Addr}{o:HO},H9 b=some o->b≠L->H15 b=some o:=fun {b o} hb hne=>t7 b o (Z8 (t5 hb hne).1 (t5 hb hne).2);have hSh15:=o6 p4 (p6 (by
     intro hz;have:=congrArg cJ hz;rw[Za,Zg] at this;simp at this;omega) p4)
    have hOu15:=o6 hOu9 (p6 (rne y4) hOu9);have hEn15:=o6 hEn9 (p6 (rne y6) hEn9);have zl:(((ac m).map fun i=>V.int ((bkM p (t.length*RR p z (X (ss.getD i 0) 0)):Nat):Int)).zip (os.map V.ref)).length=m:=by rw[cC,Za,Zg,Za,y4];omega
    refine⟨_,rfl,_,rfl,Sh,Ou,false,false,_,_,H15,rfl,.lst (.of hSh15),.lst (.of hOu15),Same.refl _,fun J At SS hAt=>?_⟩;refine XX SS hAt (Same.refl _) [some (.int ((WD t (ZB t i):Nat):Int)),some (.int ((WD t (ZB t j):Nat):Int)),some (.int (i:Nat)),some (.int (j:Nat)),some (.int (p:Nat))] rfl (fun u=>V.int ((WD t (ZB t i)*WD t (ZB t j)*bkM p (t.length*RR p z (X (ss.getD u 0) 0))*RR p z (X (ss.getD u 0) (ZB t i))*RR p z (X (ss.getD u 0) (ZB t j)) % p:Nat):Int)) (by rw[zl];omega) (fun u x y H16 hxy n9 R16 k16=>?_) (fun Pa H16 nPa n9 hPa=>?_)
    ·have hu:u<m:=by
      have:=(aa.mp hxy).1;rw[zl] at this;exact this
     rw[bo] at hxy;obtain⟨g1,g2⟩:=hxy;rw[Zc,ak hu] at g1;cases g1;obtain⟨o,e1,e2⟩:=hos9 u hu;rw[Zc,e1] at g2;cases g2;have ho:=n9 _ _ (o6 e2 (p6 vne e2));have a1:=szle i hi;have a2:=szle j hj;have a3:bkM p (t.length*RR p z (X (ss.getD u 0) 0))<p:=by
      obtain⟨y0,y1,y2,y3⟩:=S.bk _ (Zf2 o7 hu).2;rw[ZeC y2 y3];exact y2
     have a4:=Zh7 (z:=z) (show 0<p by omega) (X (ss.getD u 0) (ZB t i));have a5:=Zh7 (z:=z) (show 0<p by omega) (X (ss.getD u 0) (ZB t j));refine⟨_,rfl,_,rfl,_,_,rfl,rfl,.inr ⟨by omega,by omega⟩,_,rfl,_,_,rfl,rfl,.inr ⟨by omega,by omega⟩,_,rfl,_,rfl,o,_,_,_,rfl,rfl,.of ho,ZU (j:=i) (Yy _ hi),_,_,rfl,rfl,.inr ⟨by omega,by omega⟩,_,rfl,_,rfl,o,_,_,_,rfl,rfl,.of ho,ZU (j:=j) (Yy _ hj),_,_,rfl,rfl,.inr ⟨by omega,by omega⟩,_,rfl,_,_,rfl,rfl,(by show (0:Int)<(p:Int);omega),?_⟩;have:=k16 H16 (Same.refl _);rw[aY,aK,aK,aK,aK] at this;exact this
    ·rw[zl] at hPa
     have t9:=t7.trans n9;have hPa':H16 Pa=some (.lst (ZD m fun u=>((WD t (ZB t i)*WD t (ZB t j)*bkM p (t.length*RR p z (X (ss.getD u 0) 0))*RR p z (X (ss.getD u 0) (ZB t i))*RR p z (X (ss.getD u 0) (ZB t j)) % p:Nat):Int))):=hPa;have A16:=A15.mono n9;have hL16:H16 L=some (.lst ((ls++[M]).map V.ref)):=t9 _ _ (Z8 r8 (fun z=>AL z.symm));obtain⟨as,hAs,asl,_⟩:=id A16;have gi:((ls++[M]).map V.ref)[i]?=some (V.ref M):=by rw[Zc,aq (by omega),ll,cm];rfl
     refine⟨_,rfl,_,rfl,L,_,_,_,rfl,rfl,.of hL16,ZU (j:=i) gi,.inl ⟨rfl,_,.of hAs⟩,?_⟩;refine⟨_,rfl,sz,_,rfl,.inr (.of (n9 _ _ (o6 O (neT O)))),_,rfl,by rw[vl];omega,by rw[vl];omega,?_⟩;rw[vl,Zj];refine Pm.WR (JL 0 m) [some (.ref Pa),some (.ref En),some (.int (p:Nat))] rfl (fun k=>V.int ((J9 t i j k:Nat):Int)) (by rw[Za,YK];omega) (fun k y hy u5 u9 R k17=>?_) (fun D17 u5 nD17 u9 x6=>?_)
     ·obtain⟨hk,rfl⟩:=Zbx hy
      rw[show (0:Int)+(k:Int)=(k:Int) by omega];have hes17:∀(s:Nat) b,es[s]?=some b->u5 b=some (.lst (ZD m fun c=>((BR n p z (X (ss.getD s 0) (ZB t c)):Nat):Int))):=fun s b hb=>by
       have hs:s<m:=by rw[<-y6];exact (aa.mp hb).1
       obtain⟨o,e1,e2⟩:=hes9 s hs;rw[e1] at hb;cases hb;exact (n9.trans u9) _ _ (o6 e2 (p6 vne e2))
      refine⟨_,rfl,_,rfl,_,rfl,Pa,En,es,m,m,k,_,_,rfl,u9 _ _ hPa',(n9.trans u9) _ _ hEn15,y6,hes17,hk,m60,fun s hs=>?_,fun H18 x8=>?_⟩
      ·have:=ZnU (n:=n) (z:=z) (show 0<p by omega) (X (ss.getD s 0) (ZB t k))
       omega
      ·refine⟨_,rfl,_,_,rfl,rfl,(by show (0:Int)<(p:Int);omega),?_⟩
       have fin:=k17 H18 x8;have fin:R (V.int ((J9 t i j k:Nat):Int)) H18:=fin;rw[<-told i j k hi hj hk] at fin;exact fin
     ·rw[Za,YK] at x6
      have eD:((ac m).map fun k=>V.int ((J9 t i j k:Nat):Int))=(ZI m (J9 t i j)).map nV:=by unfold ZI;rw[aU];rfl
      rw[eD] at x6;refine⟨D17,_,rfl,.inl ⟨.of x6,fun tp o0=>?_⟩⟩;have x8:=u9.trans (Same.upd (H:=u5) (o:=.tup ((ZI m (J9 t i j)).map nV)) o0);have h18:=Zt (H:=u5) (a:=tp) (o:=.tup ((ZI m (J9 t i j)).map nV));generalize upd u5 tp (.tup ((ZI m (J9 t i j)).map nV))=H18 at x8 h18 ⊢;obtain⟨bs,p1,p2',p3⟩:=(A16.mono x8).push h18;refine⟨M,_,_,rfl,rfl,p1,by rw[Za,p2'];omega,?_⟩;refine⟨_,_,_,rfl,fun b o hb=>?_,p3⟩;rw[Zx (YB hb).1];exact x8 _ _ (t9 b o hb)
   ·rintro m8 H14 ⟨w13,w14,w15,rfl,t6,A14⟩
    rw[vl] at A14;refine⟨ls++[M],_,_,_,_,_,rfl,fun b o hb=>?_,t6 _ _ (Z8 r8 (fun z=>AL z.symm)),by rw[Zd,ll];rfl,fun u a hu=>?_⟩
    ·have:=YB hb
     exact t6 _ _ (Z8 (t5 this.2 this.1).1 (t5 this.2 this.1).2)
    ·by_cases hul:u<ls.length
     ·rw[am hul] at hu
      obtain⟨g1,g2⟩:=t0 u a hu;exact g2.but g1 r9 t6
     ·have hlu:=(aa.mp hu).1
      rw[Zd,Zk] at hlu;have eu:u=ls.length:=by omega
      rw[aq (by omega),eu,cm] at hu;cases hu;rw[eu,ll];exact A14
  ·rintro m8 H10 ⟨ls,v11,v12,p7,p8,q0,rfl,y8,n4,ll,hls⟩
   rw[vl] at ll;have lsl:(ls.map V.ref).length=m:=by rw[Za,ll]
   refine⟨_,rfl,L,rfl,⟨_,.of n4⟩,?_⟩;refine Pm.YM (W:=Addr) id (fun u a H=>CT H a ((ac m).map fun j=>ZI m (J9 t u j))) (fun w H=>H w=none) (Yz (K:=K) (.of n4)) [] rfl (by rw[lsl];omega) (fun k a H H' sm h=>CT.mono sm h) (fun a H H' sm h=>sm.free h) (fun k a H0' H1' D' o ys ys' h1 h2 h3 h4=>CT.updL h1 h4) (fun u x hx o5 Y R k11=>?_) (fun D11 as o5 nD11 Y hD11 asl has _=>?_)
   ·have hu:u<m:=by
     have:=(aa.mp hx).1;rw[lsl] at this;exact this
    have e0:=Zf (show u<ls.length by omega);rw[Zc,e0] at hx;cases hx;obtain⟨bs,g1,g2,g3⟩:=(hls u _ e0).mono Y;refine⟨_,rfl,_,_,rfl,.inl ⟨.of g1,fun tp o0=>?_⟩⟩;refine k11 tp _ (Same.upd o0) ⟨bs,Zt,by rw[g2,Za,Zg],fun v r hr=>?_⟩ o0;have hv:v<m:=by rw[<-g2];exact (aa.mp hr).1
    have ev:((ac m).map fun j=>ZI m (J9 t u j)).getD v []=ZI m (J9 t u v):=by rw[Zb,Zc,ak hv];rfl
    rw[ev];exact (Same.upd o0) _ _ (g3 v r hr)
   ·rw[lsl] at asl
    refine⟨D11,_,rfl,.inl ⟨.of hD11,fun tp o0=>?_⟩⟩;have n6:=Same.upd (H:=o5) (o:=.tup (as.map fun w=>V.ref (id w))) o0;refine q tp _ (fun b o hb=>n6 _ _ (Y _ _ (y8 b o (Z8 (s09 _ _ hb) (fun z=>by rw[z,nLH] at hb;cases hb))))) ⟨as,Zt,asl,fun u c hc=>?_⟩;exact CT.mono n6 (has u c hc).1
end
noncomputable abbrev Zgu:Stmt:=top 42
noncomputable abbrev Zbt:Stmt:=top 43
section
variable {P:Program}{w:World}{K:ab}{mg:Str->Option Value}{base:Heap}
theorem ZgX {f:Addr}{fd:FuncData}(F:WB K "_law_back" "_law_back" Zgu f fd):Z5 P w K mg base Yd 1 f fd ["_law_group_here", "_law_a"] (Zam K):=by
 refine F.ok (FS (N:=["_law_group_here", "_law_a"])) (fun vs H Q E h=>?_) (fun m8 A U s H vs Q E hr h=>?_)
 ·obtain⟨g,t,a,r,rfl,_⟩:=h;rfl
 ·obtain⟨g,t,a,r,rfl,G,J,M,R,q⟩:=h
  refine⟨_,Zv (ZG (ZgK jL gM jI (ZmD K) (ZN (Xt K) (vn 0) (vn 1) (fun _ _=>rfl)) (pc Zw Zu))),?_⟩;obtain⟨rs,r1,h1,_,h2,Y,h4⟩:=G.at J M;have hl:=Xj J M;have il:=Wr J M (r-1);refine⟨_,rfl,_,rfl,g,_,_,_,rfl,rfl,.of h1,h2,⟨_,_,rfl,Y⟩,r1,_,.int 0,it t a (r-1),rfl,rfl,Y.sq,rfl,?_,by rw[Za,hl];exact il,fun z j=>?_,fun m z hm j=>?_,q⟩
  ·rw[aN]
   intro z j;obtain⟨k,_,rfl⟩:=aI.mp j;rfl
  ·rw[XL J M il,R.bk] at j
   cases j;decide
  ·have O:m<t.length:=by omega
   rw[XL J M O] at j;cases j;have:ZJ t a m≠0:=fun z=>by
    have:=R.un m O z;omega
   show decide ((ZJ t a m:Int)=0)=false;exact decide_eq_false (by omega)
theorem Zc0 {f:Addr}{fd:FuncData}(F:WB K "_law_turned" "_law_turned" Zbt f fd)(O:Fn P w K mg base Yd 1 "_law_back" ["_law_group_here", "_law_a"] (Zam K)):Z5 P w K mg base Yd 2 f fd ["_law_group_here", "_law_thing", "_law_t"] Xd:=by
 refine F.ok (FS (N:=["_law_group_here", "_law_thing", "_law_t"])) (fun U H Q E h=>?_) (fun Y A M s H U Q E hr h=>?_)
 ·obtain⟨g,t,b,x,rfl,_⟩:=h;rfl
 ·obtain⟨g,t,b,x,rfl,G,j,hb,J,q⟩:=h
  refine⟨_,Zv (ZG (ZN (Xt K) (ZN (Xt K) (vn 0) (ZN (Xt K) (ZN (Xt K) (vn 0) (vn 2) (fun _ _=>rfl)) (vn 1) (fun _ _=>rfl)) (fun _ _=>rfl)) (Wd O hr ZL (pc (vn 0) (pc (vn 2) Zu))) (fun _ _=>rfl))),?_⟩;obtain⟨r,R⟩:=j.rd x J;obtain⟨rs,r1,h1,_,h2,h3,h4⟩:=G.at j J;have ml:=j.lt _ _ J hb;obtain⟨m8,r2,g1,_,g2,g3,g4⟩:=G.at j ml;have q':Q (.int (ZJ t (ZJ t x b) (it t x (r-1)):Nat)) H:=by rw[Zdp j J R];exact q
  exact⟨_,rfl,_,rfl,_,rfl,g,_,_,_,rfl,rfl,.of h1,h2,_,rfl,r1,_,_,_,rfl,rfl,h3.sq,h4 b hb,g,_,_,_,rfl,rfl,.of g1,g2,_,rfl,_,rfl,g,t,x,r,rfl,G,j,J,R,r2,_,_,_,rfl,rfl,g3.sq,g4 _ (Wr j J (r-1)),q'⟩
noncomputable def Zgb:Sp:=fun q H Q _=>∃(g:Addr) (t:List (List Nat)),q=[.ref g]/\GT H g t/\PW t/\∀L bs j,H L=none->Same H j->TupsAt j L bs (Zy t t.length)->Q (.ref L) j
theorem ZiY {f:Addr}{fd:FuncData}(F:WB K "_law_classes" "_law_classes" Zgs f fd)(T:Bl mg)(T2:Zcu mg)(GU:Fn P w K mg base Yd 2 "_law_turned" ["_law_group_here", "_law_thing", "_law_t"] Xd):Z5 P w K mg base Yd 3 f fd ["_law_group_here"] Zgb:=by
 refine F.ok (FS (N:=["_law_group_here", "_law_found", "_law_met", "_law_thing", "_law_row", "_law_t"])) (fun vs H Q E h=>?_) (fun r8 A r9 s H vs Q E hr h=>?_)
 ·obtain⟨g,t,rfl,_⟩:=h;rfl
 ·obtain⟨g,t,rfl,G,Pt,q⟩:=h
  have hu:(A.deeper (envOfC "_law_classes" (Z2 Zgs) s.heap.objs.size f r8)).units+1<cLine:=by have:=hr.un;omega
  refine⟨_,Zs (ZE 1 rfl (ZS Zu))
   (Zs (ZE 2 rfl Xo)
   (Zs (ZR ao rfl (XM T.range (pc (cb (YF K) T.len (pc (vn 0) Zu)) Zu)) (gn 3)
    (Zv (WN (ZgG (UP hu (vn 3) (vn 2)))
     (Zs (ZE 4 rfl Xo)
     (Zs (ZR ao rfl (XM T.range (pc (cb (YF K) T.len (pc (vn 0) Zu)) Zu)) (gn 5)
      (Zv (JN hu (vn 4) (Wd GU hr ZL (pc (vn 0) (pc (vn 3) (pc (vn 5) Zu)))) Zea (by rfl))))
     (Zs (Ya (ZiK (vn 2) (vn 4) ⟨rfl,rfl,rfl,rfl⟩))
     (Zv (Ya (Y6 aH aM aO ZV (vn 1) (pc (ct ZH T.tuple (pc (cb (Zdn rfl) T2.sorted (pc (vn 4) Zu)) Zu)) Zu))))))) YA)))
   (Zv (ZG (vn 1))))),?_⟩
  have sz:(16777216:Nat)=sizeLine:=by decide
  have x9:=Pt.n60;obtain⟨gs,u1,u2,_⟩:=id G;have el:(gs.map V.ref).length=t.length:=by rw[Za,u2]
  refine⟨(by show 0<=sizeLine;decide),fun L nL=>fun D n9=>?_⟩;have s4:=Same.upd (H:=H) (o:=.lst []) nL;have s5:=s4.trans (Same.upd (o:=.dK []) n9);have nD:H D=none:=s4.free n9;refine⟨_,rfl,g,_,rfl,.inr (.of (s5 _ _ u1)),_,rfl,by rw[el];omega,by rw[el];omega,?_⟩;rw[el,Zj];refine Y3 (fun i O H'=>∃(w5 w6 w7:Option V) (bs:List Addr) (J:List (Ym×V)) (ks:List Nat),O=[some (.ref g),some (.ref L),some (.ref D),w5,w6,w7]/\Same H H'/\TupsAt H' L bs (Zy t i)/\H' D=some (.dK J)/\KS J ks/\(∀a,a∈ks↔Y2 (Zy t i) a=true)/\ks.length<=60*i)
   ⟨_,_,_,[],[],[],rfl,s5,⟨Same.upd n9 _ _ Zt,rfl,fun i b hb=>by cases hb⟩,Zt,.nil,fun a=>⟨fun z=>(by cases z),fun z=>(by cases z)⟩,Zq _⟩ ?_ ?_
  ·rintro i O H6 hi ⟨w5,w6,w7,bs,J,ks,rfl,s6,R,hD,hK,Y,kl⟩
   rw[show (0:Int)+(i:Int)=(i:Int) by omega];refine⟨_,rfl,_,rfl,D,_,rfl,WU.k (k:=.inl (i:Int)) hD,_,rfl,?_⟩;have o0:(YY J (.inl (i:Int))).isSome=Y2 (Zy t i) i:=by
    rw[hK.some];cases hc:Y2 (Zy t i) i with
    |true=>exact aC.mpr ((Y i).mpr hc)
    |false=>
     cases t0:ks.contains i with
     |false=>rfl
     |true=>rw[(Y i).mp (aC.mp t0)] at hc;cases hc
   rw[o0];refine Y0 (fun h=>?_) (fun h=>?_)
   ·have h:Y2 (Zy t i) i=false:=by simpa using h
    have eU:Zy t (i+1)=Zy t i++[Yq t i]:=by
     rw[Zy,if_neg (by unfold Y2 at h;rw[h];decide)]
    refine fun E nE=>?_;have s7:=Same.upd (H:=H6) (o:=.dK []) nE;have o9:=Zt (H:=H6) (a:=E) (o:=.dK []);have t5:H E=none:=s6.free nE;have o5:D≠E:=fun z=>by rw[z,nE] at hD;cases hD
    have p4:=s7 _ _ hD;have R7:=R.mono s7;have o6:=s6.trans s7;generalize upd H6 E (.dK [])=H7 at s7 o9 p4 R7 o6 ⊢;refine⟨_,rfl,g,_,rfl,.inr (.of (o6 _ _ u1)),_,rfl,by rw[el];omega,by rw[el];omega,?_⟩;rw[el,Zj];refine Y3 (fun j O H'=>∃(w7:Option V) (M:List (Ym×V)) (ms:List Nat),O=[some (.ref g),some (.ref L),some (.ref D),some (.int (i:Nat)),some (.ref E),w7]/\Same H H'/\TupsAt H' L bs (Zy t i)/\H' D=some (.dK J)/\H' E=some (.dK M)/\KS M ms/\(∀a,a∈ms↔∃x,x<j/\tb t i x=a)/\ms.length<=j)
     ⟨_,[],[],rfl,o6,R7,p4,o9,.nil,fun a=>⟨fun z=>(by cases z),fun ⟨x,hx,_⟩=>absurd hx (dG _)⟩,Zq _⟩ ?_ ?_
    ·rintro j O H8 hj ⟨t6,M,ms,rfl,s8,R8,m8,m9,U,n4,ml⟩
     rw[show (0:Int)+(j:Int)=(j:Int) by omega];refine⟨_,rfl,_,rfl,_,rfl,_,rfl,g,t,i,j,rfl,G.mono s8,Pt,hi,hj,E,_,rfl,XG.k (k:=.inl ((tb t i j:Nat):Int)) m9 (by rw[U.len];omega),?_⟩;refine⟨_,_,_,rfl,s8.updr t5,R8.updD m9,by rw[Zx o5];exact m8,Zt,U.put (tb t i j) (.bl true),fun a=>?_,?_⟩
     ·rw[ZaE,n4]
      constructor
      ·rintro (⟨x,hx,e⟩|e)
       ·exact⟨x,by omega,e⟩
       ·exact⟨j,by omega,e.symm⟩
      ·rintro⟨x,hx,e⟩
       by_cases ej:x=j
       ·right;rw[<-e,ej]
       ·exact .inl ⟨x,by omega,e⟩
     ·have:=ZaF ms (tb t i j)
      omega
    ·rintro O H8 ⟨t6,M,ms,rfl,s8,R8,m8,m9,U,n4,ml⟩
     have t7:=hK.len;have t9:=U.len;refine⟨_,rfl,D,rfl,.inl ⟨_,.inl m8⟩,_,rfl,E,J,M,rfl,o5,m8,m9,by rw[t7,t9];omega,?_⟩;obtain⟨u5,u9,p6,y4⟩:=hK.merge U;have R9:=R8.updD (o:=.dK (Wi J M)) m8;have p7:upd H8 D (.dK (Wi J M)) E=some (.dK M):=by rw[Zx (bJ o5)];exact m9
     have p8:=Zt (H:=H8) (a:=D) (o:=.dK (Wi J M));have s9:Same H (upd H8 D (.dK (Wi J M))):=s8.updr nD;generalize upd H8 D (.dK (Wi J M))=H9 at R9 p7 p8 s9 ⊢;refine⟨_,rfl,.inl ⟨rfl,_,.of R9.1⟩,_,rfl,E,M,ms.map fun a:Nat=>(a:Int),rfl,p7,?_,by rw[Za];omega,fun l2 ns x6 hp hs=>?_⟩
     ·rw[U.keys,aU]
      rfl
     have x8:(ms.map fun a:Nat=>(a:Int)).Nodup:=hU _ (fun a b (y6:a≠b)=>by omega) U.nd;have e:=ZdO (c:=Yq t i) hp hs x8 (fun k=>?_) (Ue i)
     ·have o7:=Same.upd (o:=.lst (ns.map V.int)) x6
      refine⟨l2,_,rfl,.inl ⟨.of Zt,fun r nr=>?_⟩⟩;have o8:=Same.upd (o:=.tup (ns.map V.int)) nr;have n6:=R9.mono (o7.trans o8);have q0:upd (upd H9 l2 (.lst (ns.map V.int))) r (.tup (ns.map V.int)) r=some (.tup ((Yq t i).map nV)):=by rw[<-e];exact Zt
      have n8:=(o7.trans o8) _ _ p8;have r6:=s9.trans (o7.trans o8);have bl:=n6.2.1;have ul:=Wc (t:=t) i;refine⟨L,_,_,rfl,rfl,n6.1,by rw[Za];omega,?_⟩;refine⟨_,_,_,bs++[r],_,u5,rfl,r6.updr nL,by rw[eU];exact n6.push q0,?_,u9,fun a=>?_,by omega⟩
      ·rw[Zx fun z=>by have:=n8;rw[z,n6.1] at this;cases this]
       exact n8
      ·rw[p6,Y a,eU]
       unfold Y2;rw[jB,bg,fC,kH,gE,aC,Yb Pt hi,n4]
     ·rw[aI]
      constructor
      ·rintro⟨a,ha,rfl⟩
       exact⟨a,(Yb Pt hi).mpr ((n4 a).mp ha),rfl⟩
      ·rintro⟨a,ha,rfl⟩
       exact⟨a,(n4 a).mpr ((Yb Pt hi).mp ha),rfl⟩
   ·have h:Y2 (Zy t i) i=true:=by simpa using h
    have eU:Zy t (i+1)=Zy t i:=by
     rw[Zy,if_pos (by unfold Y2 at h;rw[h])]
    exact⟨_,_,_,bs,J,ks,rfl,s6,by rw[eU];exact R,hD,hK,fun a=>by rw[eU];exact Y a,by omega⟩
  ·rintro O H6 ⟨w5,w6,w7,bs,J,ks,rfl,s6,R,hD,hK,Y,kl⟩
   exact⟨_,rfl,q L bs H6 nL s6 R⟩
end
section
variable {t:List (List Nat)}
theorem ZcR {N:Nat}(f:Nat->Nat):∀{l:List Nat},l.Nodup->(∀a∈l,a<N)->sm l.length (fun x=>f (l.getD x 0))=sm N (fun a=>YU (decide (a∈l))*f a):=by
 intro l J M;have O:sm l.length (fun x=>f (l.getD x 0))=(l.map f).sum:=by
  unfold sm;congr 1;refine aX fun i=>?_;by_cases j:i<l.length
  ·rw[Zc,ak j,Zc,Zf j,bR,bR,Zb,Zf j]
   rfl
  ·rw[ag (by rw[Za,Zg];omega),ag (by rw[Za];omega)]
 rw[O];induction l with
 |nil=>
  show 0=_;rw[ZM (g:=fun _=>0) fun x _=>by rw[decide_eq_false (by simp)];exact fm _,ZdP]
 |cons a l U=>
  rw[bD] at J;rw[aF,eS,U J.2 (fun x Y=>M x (ay _ Y)) (by
   unfold sm;congr 1;refine aX fun i=>?_;by_cases j:i<l.length
   ·rw[Zc,ak j,Zc,Zf j,bR,bR,Zb,Zf j]
    rfl
   ·rw[ag (by rw[Za,Zg];omega),ag (by rw[Za];omega)])]
  rw[<-ZcQ (M a aB) f,<-Zgc];refine ZM fun x _=>?_;unfold YU;by_cases h:x=a
  ·subst h
   rw[decide_eq_true rfl,decide_eq_false J.1,decide_eq_true (aB)];show 1*f x+0*f x=1*f x;omega
  ·rw[decide_eq_false h]
   by_cases q:x∈l
   ·rw[decide_eq_true q,decide_eq_true (ay _ q)]
    show 0*f x+1*f x=1*f x;omega
   ·rw[decide_eq_false q,decide_eq_false (by rw[aG];exact fun z=>z.elim h q)]
    show 0*f x+0*f x=0*f x;omega
theorem Ww (P:PW t){k:Nat}(M:k<(Zy t t.length).length){x:Nat}:x∈(Zy t t.length).getD k []↔x<t.length/\YC t x=k:=by
 constructor
 ·intro j
  obtain⟨q,J,_⟩:=ZdY P M j;rw[Xp P q] at J;exact⟨q,J⟩
 ·rintro⟨j,e⟩
  have:=(J2 P j).2.1;rw[Xp P j,e] at this;exact this
theorem Zdk (P:PW t){k:Nat}(j:k<(Zy t t.length).length):((Zy t t.length).getD k []).Nodup:=by
 obtain⟨b,hb,e⟩:=Wn P t.length (Zq _) _ (Vo j);rw[e];exact (Ue b).imp fun h=>by omega
theorem ZgL (P:PW t){i j z:Nat}(q:i<(Zy t t.length).length)(J:j<(Zy t t.length).length)(hz:z<t.length):sm ((Zy t t.length).getD i []).length (fun x=>sm ((Zy t t.length).getD j []).length fun y=>YU (decide (ZJ t (((Zy t t.length).getD i []).getD x 0) (((Zy t t.length).getD j []).getD y 0)=z)))=cnT t (ZB t i) (ZB t j) z:=by
 have U:=Yw P;have O:∀a,sm ((Zy t t.length).getD j []).length (fun y=>YU (decide (ZJ t a (((Zy t t.length).getD j []).getD y 0)=z)))=sm t.length (fun b=>YU (decide (b∈(Zy t t.length).getD j []))*YU (decide (ZJ t a b=z))):=fun a=>ZcR (fun b=>YU (decide (ZJ t a b=z))) (Zdk P J) fun b hb=>((Ww P J).mp hb).1;rw[ZM fun x _=>O _];rw[ZcR (fun a=>sm t.length (fun b=>YU (decide (b∈(Zy t t.length).getD j []))*YU (decide (ZJ t a b=z)))) (Zdk P q) fun b hb=>((Ww P q).mp hb).1];have Y:=U6 (nu:=YC t) P (i:=i) (j:=j) hz;have e3:cnT t (ZB t i) (ZB t j) z=UC t (YC t) i j z:=by
  unfold cnT UC;refine ZM fun a M=>?_;rw[XZ P (U.rl i q) M,XZ P (U.rl j J) (P.lt _ _ (Yc P M).1 hz),U.rn i q,U.rn j J]
 rw[e3,<-Y];refine ZM fun a M=>?_;have e4:decide (a∈(Zy t t.length).getD i [])=decide (YC t a=i):=by rw[decide_eq_decide,Ww P q];exact⟨fun h=>h.2,fun h=>⟨M,h⟩⟩
 rw[e4,<-Zar];refine ZM fun b hb=>?_;have e5:decide (b∈(Zy t t.length).getD j [])=decide (YC t b=j):=by rw[decide_eq_decide,Ww P J];exact⟨fun h=>h.2,fun h=>⟨hb,h⟩⟩
 rw[e5]
end
noncomputable def Zks (t:List (List Nat))(c j:Nat)(kvs:List (Ym×V)):Prop:=∀y:Nat,y<t.length->(YC t y<c\/y∈((Zy t t.length).getD c []).take j)->YY kvs (.inl (y:Int))=some (.int ((YC t y:Nat):Int))
noncomputable def Zf7:Sp:=fun q H Q _=>∃(g L:Addr) (bs:List Addr) (t:List (List Nat)),q=[.ref g,.ref L]/\GT H g t/\PW t/\TupsAt H L bs (Zy t t.length)/\∀r j,Same H j->C3 j r (Zy t t.length).length (J9 t)->Q (.ref r) j
noncomputable def lnF (t:List (List Nat))(A B:List Nat)(u v k:Nat):Nat:=sm u (fun x=>sm B.length fun y=>YU (decide (ZJ t (A.getD x 0) (B.getD y 0)=ZB t k)))+sm v (fun y=>YU (decide (ZJ t (A.getD u 0) (B.getD y 0)=ZB t k)))
theorem Zhc (t:List (List Nat))(A B:List Nat)(u v k:Nat):lnF t A B u (v+1) k=lnF t A B u v k+YU (decide (ZJ t (A.getD u 0) (B.getD v 0)=ZB t k)):=by
 unfold lnF;rw[Yi];omega
theorem Zjg (t:List (List Nat))(A B:List Nat)(u k:Nat):lnF t A B u B.length k=lnF t A B (u+1) 0 k:=by
 unfold lnF;rw[Yi];rfl
theorem ZgA {m i:Nat}{f:Nat->Nat}(j:i<m):((ZI m f).map nV)[i]?=some (nV (f i)):=by
 unfold ZI;rw[Zc,Zc,ak j];rfl
theorem Zgz {m i:Nat}{f:Nat->Nat}(j:¬i<m):((ZI m f).map nV)[i]?=none:=by
 unfold ZI;exact ag (by rw[Za,Za,Zg];omega)
theorem Ziw {m k v:Nat}{f:Nat->Nat}(q:k<m):((ZI m f).map nV).set k (.int ((v:Nat):Int))=(ZI m fun i=>if i=k then v else f i).map nV:=by
 refine aX fun i=>?_;rw[gq];by_cases j:i<m
 ·rw[ZgA j,ZgA j]
  by_cases e:k=i
  ·subst e
   rw[if_pos rfl,if_pos (by unfold ZI;rw[Za,Za,Zg];exact j),if_pos rfl];rfl
  ·rw[if_neg e,if_neg (fun z=>e z.symm)]
 ·rw[Zgz j,Zgz j,if_neg (by omega)]
theorem gD' {l:List Nat}{u:Nat}(h:u<l.length):l[u]=l.getD u 0:=by rw[Zb,Zf h];rfl
theorem JM {m:Nat}{f g:Nat->Nat}(h:∀i,i<m->f i=g i):ZI m f=ZI m g:=a9 fun i j=>h i (ae.mp j)
section
variable {P:Program}{w:World}{K:ab}{mg:Str->Option Value}{base:Heap}
theorem Zi0 {f:Addr}{fd:FuncData}(F:WB K "_law_counts" "_law_counts" Zgt f fd)(T:Bl mg):Z5 P w K mg base Yd 1 f fd ["_law_group_here", "_law_rows"] Zf7:=by
 refine F.ok (FS (N:=["_law_group_here", "_law_rows", "_law_numbers", "_law_c", "_law_one", "_law_found", "_law_first", "_law_plane", "_law_second", "_law_line", "_law_x", "_law_y", "_law_both"])) (fun vs H Q E h=>?_) (fun cdv A outer s H vs Q E hr h=>?_)
 ·obtain⟨g,L,bs,t,rfl,_⟩:=h;rfl
 ·obtain⟨g,Lr,bs,t,rfl,G,Pt,C,q⟩:=h
  have hu:(A.deeper (envOfC "_law_counts" (Z2 Zgt) s.heap.objs.size f cdv)).units+1<cLine:=by have:=hr.un;omega
  refine⟨_,Zs (ZE 2 rfl Xo)
   (Zs (ZR ao rfl (XM T.range (pc (cb (YF K) T.len (pc (vn 1) Zu)) Zu)) (gn 3)
    (Zv (ZR ao rfl (itT K (ZN (V2 K) (vn 1) (vn 3) (fun _ _=>rfl))) (gn 4)
     (Zv (JN hu (vn 2) (vn 4) (vn 3) (by rfl))))))
   (Zs (ZE 5 rfl (ZS Zu))
   (Zs (ZR ao rfl (itL K (vn 1)) (gn 6)
    (Zs (ZE 7 rfl (ZS Zu))
    (Zs (ZR ao rfl (itL K (vn 1)) (gn 8)
     (Zs (ZE 9 rfl (Zz Jv (ZS (pc Zw Zu)) (cb (YF K) T.len (pc (vn 1) Zu))))
     (Zs (ZR ao rfl (itT K (vn 6)) (gn 10)
      (Zv (ZR ao rfl (itT K (vn 8)) (gn 11)
       (Zs (ZE 12 rfl (ZN (Xt K) (ZN (Xt K) (vn 0) (vn 10) (fun _ _=>rfl)) (vn 11) (fun _ _=>rfl)))
       (Zv (WN (ZT ZbN (vn 12) (ZN (Xt K) (ZN (V2 K) (vn 1) (WG hu (vn 2) (vn 12) (fun _ _=>rfl)) (fun _ _=>rfl)) Zw (fun _ _=>rfl)) (Z1 _))
        (Zv (VP (Zz YR (ZN (V2 K) (vn 9) (WG hu (vn 2) (vn 12) (fun _ _=>rfl)) (fun _ _=>rfl)) Zw) (VT (vn 9) (WG hu (vn 2) (vn 12) (fun _ _=>rfl)) Y5))) YA))))))
     (Zv (Ya (Y6 aH aM aO ZV (vn 7) (pc (ct ZH T.tuple (pc (vn 9) Zu)) Zu)))))))
    (Zv (Ya (Y6 aH aM aO ZV (vn 5) (pc (ct ZH T.tuple (pc (vn 7) Zu)) Zu)))))))
   (Zv (ZG (ct ZH T.tuple (pc (vn 5) Zu))))))),?_⟩
  have szl:(16777216:Nat)=sizeLine:=by decide
  have N60:=Pt.n60;have N1:=Pt.n1;have U:=Yw Pt;have ul:=Wc (t:=t) t.length;have m1:1<=(Zy t t.length).length:=by have:=U.lt 0 N1;omega
  have r9:∀c,c<(Zy t t.length).length->((Zy t t.length).getD c []).length<=60:=fun c hc=>by
   obtain⟨b,_,e⟩:=Wn Pt t.length (Zq _) _ (Vo hc);rw[e];have:=ZeB (t:=t) b;omega
  have row1:∀c,c<(Zy t t.length).length->(Zy t t.length).getD c []≠[]:=fun c hc z=>by
   obtain⟨a,r,e⟩:=VM Pt hc;rw[z] at e;cases e
  obtain⟨m,em⟩:∃m,m=(Zy t t.length).length:=⟨_,rfl⟩;have cl:(bs.map V.ref).length=m:=by rw[Za,C.2.1,em]
  intro D nD;have s1:=Same.upd (H:=H) (o:=.dK []) nD;have hD1:=Zt (H:=H) (a:=D) (o:=.dK []);generalize upd H D (.dK [])=H1 at s1 hD1 ⊢;have C1:=C.mono s1;have kb:∀{b:Addr}{o:HO},H b=some o->but H1 D b=some o:=fun {b o} hb=>Z8 (s1 _ _ hb) fun z=>by rw[z,nD] at hb;cases hb
  refine⟨_,rfl,Lr,_,rfl,.inl (.of C1.1),_,rfl,by rw[cl];omega,by rw[cl];omega,?_⟩;rw[cl,Zj];refine Y3 (fun c J H'=>∃(M:List (Ym×V)) (v3 v4 v5 v6 v7 v8 v9 o9 p4 p6:Option V),J=[some (.ref g),some (.ref Lr),some (.ref D),v3,v4,v5,v6,v7,v8,v9,o9,p4,p6]/\Same (but H1 D) H'/\H' D=some (.dK M)/\M.length<=60*c/\Zks t c 0 M)
   ⟨[],_,_,_,_,_,_,_,_,_,_,rfl,fun b o hb=>(YB hb).2,hD1,by simp,fun y hy h=>by rcases h with h|h <;> simp at h⟩ ?_ ?_
  ·rintro c J H2 hc ⟨M,v3,v4,v5,v6,v7,v8,v9,o9,p4,p6,rfl,s2,t7,hl2,p7⟩
   rw[show (0:Int)+(c:Int)=(c:Int) by omega];have p8:c<(Zy t t.length).length:=by omega
   have t9:=Zf (show c<bs.length by rw[Za] at cl;omega);have hb:=C.2.2 c _ t9;generalize bs[c]'(by rw[Za] at cl;omega)=b at t9 hb;have hL2:=s2 _ _ (kb C.1);have hb2:=s2 _ _ (kb hb);refine⟨_,rfl,_,rfl,Lr,_,_,_,rfl,rfl,.of hL2,ZU (j:=c) (by rw[Zc,t9];rfl),b,rfl,⟨_,.of hb2⟩,?_⟩;refine Y8 (H0:=but H1 D) (YX (K:=K) (.of (kb hb))) (fun j J H'=>∃(M:List (Ym×V)) (v4:Option V),J=[some (.ref g),some (.ref Lr),some (.ref D),some (.int (c:Nat)),v4,v5,v6,v7,v8,v9,o9,p4,p6]/\Same (but H1 D) H'/\H' D=some (.dK M)/\M.length<=60*c+j/\Zks t c j M)
    ⟨M,_,rfl,s2,t7,by omega,p7⟩ (fun j J H' h=>by obtain⟨_,_,_,k,_⟩:=h;exact k) ?_ ?_
   ·rintro j y J H3 hy ⟨M,v4,rfl,s3,u5,hl3,q0⟩
    have hj:j<((Zy t t.length).getD c []).length:=by
     have:=(aa.mp hy).1;rw[Za] at this;exact this
    rw[Zc,Zf hj] at hy;cases hy;have hej:=Zf hj;have hem:((Zy t t.length).getD c [])[j]∈(Zy t t.length).getD c []:=bc hj;generalize ((Zy t t.length).getD c [])[j]=e at hej hem ⊢;obtain⟨h1,h2⟩:=(Ww Pt p8).mp hem;have hl4:=r9 c p8;refine⟨_,rfl,_,rfl,_,rfl,D,_,rfl,XG.k (k:=.inl (e:Int)) u5 (by omega),Wq M (.inl (e:Int)) (.int (c:Nat)),_,rfl,fun b o hb=>?_,Zt,?_,fun y hy h=>?_⟩
    ·rw[Zx (YB hb).1]
     exact s3 b o hb
    ·have:=WW M (.inl (e:Int):Ym) (.int (c:Nat))
     omega
    ·rw[ZfP]
     by_cases z:y=e
     ·subst z
      rw[if_pos rfl,h2]
     ·rw[if_neg (fun w=>z (by have:=Sum.inl.inj w;omega))]
      refine q0 y hy ?_;rcases h with h|h
      ·exact .inl h
      ·rw[cR,hej] at h
       rcases bE.mp h with h|h
       ·exact .inr h
       ·exact absurd (aS.mp h) z
   ·rintro J H3 ⟨M,v4,rfl,s3,u5,hl3,q0⟩
    have hl4:=r9 c p8;rw[Za] at hl3 q0;refine⟨M,_,_,_,_,_,_,_,_,_,_,rfl,s3,u5,by omega,fun y hy h=>q0 y hy ?_⟩;rcases h with h|h
    ·by_cases z:YC t y<c
     ·exact .inl z
     ·refine .inr ?_
      rw[c7];exact (Ww Pt p8).mpr ⟨hy,by omega⟩
    ·simp at h
  ·rintro J H2 ⟨M,v3,v4,v5,v6,v7,v8,v9,o9,p4,p6,rfl,s2,t7,hl2,p7⟩
   have t0:∀y,y<t.length->YY M (.inl (y:Int))=some (.int ((YC t y:Nat):Int)):=fun y hy=>p7 y hy (.inl (by rw[em];exact U.lt y hy));have r6:Same H H2:=fun b o hb=>s2 b o (kb hb);have G2:=G.mono r6;have C2:=C.mono r6;clear p7 hl2;refine⟨(by show 0<=sizeLine;decide),fun L nL=>?_⟩;have s3:=Same.upd (H:=H2) (o:=.lst []) nL;have h3:upd H2 L (.lst []) L=some (.lst ([]:List V)):=Zt;generalize upd H2 L (.lst [])=H3 at s3 h3 ⊢;have s03:=r6.trans s3;have nLH:H L=none:=r6.free nL;have kL:∀{b:Addr}{o:HO},H2 b=some o->but H3 L b=some o:=fun {b o} hb=>Z8 (s3 _ _ hb) fun z=>by rw[z,nL] at hb;cases hb
   refine⟨_,rfl,Lr,rfl,⟨_,.of (s3 _ _ C2.1)⟩,?_⟩;refine Y8 (H0:=but H3 L) (Yz (K:=K) (.of (kL C2.1))) (fun i J H'=>∃(cs:List Addr) (w6 w7 w8 w9 m9 O Y:Option V),J=[some (.ref g),some (.ref Lr),some (.ref D),v3,v4,some (.ref L),w6,w7,w8,w9,m9,O,Y]/\Same (but H3 L) H'/\H' L=some (.lst (cs.map V.ref))/\cs.length=i/\∀(u:Nat) c,cs[u]?=some c->CT H' c ((ac m).map fun j=>ZI m (J9 t u j)))
    ⟨[],_,_,_,_,_,_,_,rfl,fun b o hb=>(YB hb).2,h3,rfl,fun u c h=>by cases h⟩ (fun i J H' h=>by
     obtain⟨_,_,_,_,_,_,_,_,_,sm,_⟩:=h;exact sm) ?_ ?_
   ·rintro i yv J H4 m8 ⟨cs,w6,w7,w8,w9,m9,O,Y,rfl,s4,h4,n9,u9⟩
    have hi:i<m:=by
     have:=(aa.mp m8).1;rw[cl] at this;exact this
    have him:i<(Zy t t.length).length:=by omega
    have x6:=Zf (show i<bs.length by rw[Za] at cl;omega);rw[Zc,x6] at m8;cases m8;have x8:=C2.2.2 i _ x6;generalize bs[i]'(by rw[Za] at cl;omega)=ba at x8 x6 ⊢;have s24:Same H2 H4:=fun b o hb=>s4 b o (kL hb);refine⟨(by show 0<=sizeLine;decide),fun Pl r8=>?_⟩;have s5:=Same.upd (H:=H4) (o:=.lst []) r8;have h5:upd H4 Pl (.lst []) Pl=some (.lst ([]:List V)):=Zt;have hL5:=s5 _ _ h4;generalize upd H4 Pl (.lst [])=H5 at s5 h5 hL5 ⊢;have PL:L≠Pl:=fun z=>by rw[z,r8] at h4;cases h4
    have s25:=s24.trans s5;have nP2:H2 Pl=none:=s24.free r8;have kP:∀{b:Addr}{o:HO},H2 b=some o->but H5 Pl b=some o:=fun {b o} hb=>Z8 (s25 _ _ hb) fun z=>by rw[z,nP2] at hb;cases hb
    refine⟨_,rfl,Lr,rfl,⟨_,.of (s25 _ _ C2.1)⟩,?_⟩;refine Y8 (H0:=but H5 Pl) (Yz (K:=K) (.of (kP C2.1))) (fun j J H'=>∃(w8 w9 m9 O Y:Option V),J=[some (.ref g),some (.ref Lr),some (.ref D),v3,v4,some (.ref L),some (.ref ba),some (.ref Pl),w8,w9,m9,O,Y]/\Same (but H5 Pl) H'/\LsT H' Pl j m (J9 t i))
     ⟨_,_,_,_,_,rfl,fun b o hb=>(YB hb).2,[],h5,rfl,fun u c h=>by cases h⟩ (fun i J H' h=>by
      obtain⟨_,_,_,_,_,_,sm,_⟩:=h;exact sm) ?_ ?_
    ·rintro j yv J H6 m8 ⟨w8,w9,m9,O,Y,rfl,s6,L6⟩
     have hj:j<m:=by
      have:=(aa.mp m8).1;rw[cl] at this;exact this
     have hjm:j<(Zy t t.length).length:=by omega
     have x9:=Zf (show j<bs.length by rw[Za] at cl;omega);rw[Zc,x9] at m8;cases m8;have y4:=C2.2.2 j _ x9;generalize bs[j]'(by rw[Za] at cl;omega)=bb at y4 x9 ⊢;have y6:Same H2 H6:=fun b o hb=>s6 b o (kP hb);refine⟨(by show 1<=sizeLine;decide),fun l0 nl0=>?_⟩;have s7:=Same.upd (H:=H6) (o:=.lst [.int 0]) nl0;refine⟨_,rfl,Lr,_,rfl,.inl (.of ((y6.trans s7) _ _ C2.1)),l0,_,_,rfl,rfl,Zt,by rw[cl];omega,by rw[cl];omega,by rw[cl];show 1*((m:Int)).toNat<=sizeLine;omega,fun Ln nLn=>?_⟩;rw[cl,Zj];have e0:(av m [V.int 0]).flatten=(ZI m (lnF t ((Zy t t.length).getD i []) ((Zy t t.length).getD j []) 0 0)).map nV:=by
      rw[N40.ZbB];unfold ZI;rw[aU];refine aX fun k=>?_;by_cases hk:k<m
      ·rw[Zc,e7,if_pos hk,Zc,ak hk]
       rfl
      ·rw[ag (by rw[Za,Ze];omega),ag (by rw[Za,Zg];omega)]
     rw[e0];have s8:=s7.trans (Same.upd (H:=upd H6 l0 (.lst [.int 0])) (o:=.lst ((ZI m (lnF t ((Zy t t.length).getD i []) ((Zy t t.length).getD j []) 0 0)).map nV)) nLn);have h8:=Zt (H:=upd H6 l0 (.lst [.int 0])) (a:=Ln) (o:=.lst ((ZI m (lnF t ((Zy t t.length).getD i []) ((Zy t t.length).getD j []) 0 0)).map nV));have o5:H6 Ln=none:=s7.free nLn;generalize upd (upd H6 l0 (.lst [.int 0])) Ln (.lst ((ZI m (lnF t ((Zy t t.length).getD i []) ((Zy t t.length).getD j []) 0 0)).map nV))=H8 at s8 h8 ⊢;have s28:=y6.trans s8;have nLn2:H2 Ln=none:=y6.free o5;have kN:∀{b:Addr}{o:HO},H2 b=some o->but H8 Ln b=some o:=fun {b o} hb=>Z8 (s28 _ _ hb) fun z=>by rw[z,nLn2] at hb;cases hb
     refine⟨_,rfl,ba,rfl,⟨_,.of (s28 _ _ x8)⟩,?_⟩;refine Y8 (H0:=but H8 Ln) (YX (K:=K) (.of (kN x8))) (fun u J H'=>∃(m9 O Y:Option V),J=[some (.ref g),some (.ref Lr),some (.ref D),v3,v4,some (.ref L),some (.ref ba),some (.ref Pl),some (.ref bb),some (.ref Ln),m9,O,Y]/\Same (but H8 Ln) H'/\H' Ln=some (.lst ((ZI m (lnF t ((Zy t t.length).getD i []) ((Zy t t.length).getD j []) u 0)).map nV)))
      ⟨_,_,_,rfl,fun b o hb=>(YB hb).2,h8⟩ (fun i J H' h=>by
       obtain⟨_,_,_,_,sm,_⟩:=h;exact sm) ?_ ?_
     ·rintro u yv J H9 m8 ⟨m9,O,Y,rfl,s9,h9⟩
      have o6:u<((Zy t t.length).getD i []).length:=by
       have:=(aa.mp m8).1;rw[Za] at this;exact this
      rw[Zc,Zf o6] at m8;cases m8;have eA:((Zy t t.length).getD i [])[u]=((Zy t t.length).getD i []).getD u 0:=gD' o6;have hA:=((Ww Pt him).mp (bc o6)).1;rw[eA] at hA ⊢;refine⟨_,rfl,bb,rfl,⟨_,.of (s9 _ _ (kN y4))⟩,?_⟩;refine Y8 (H0:=but H8 Ln) (YX (K:=K) (.of (kN y4))) (fun v J H'=>∃(O Y:Option V),J=[some (.ref g),some (.ref Lr),some (.ref D),v3,v4,some (.ref L),some (.ref ba),some (.ref Pl),some (.ref bb),some (.ref Ln),some (.int ((((Zy t t.length).getD i []).getD u 0:Nat):Int)),O,Y]/\Same (but H8 Ln) H'/\H' Ln=some (.lst ((ZI m (lnF t ((Zy t t.length).getD i []) ((Zy t t.length).getD j []) u v)).map nV)))
       ⟨_,_,rfl,s9,h9⟩ (fun i J H' h=>by
        obtain⟨_,_,_,sm,_⟩:=h;exact sm) ?_ ?_
      ·rintro v yv J o0 m8 ⟨O,Y,rfl,n4,n6⟩
       have y8:v<((Zy t t.length).getD j []).length:=by
        have:=(aa.mp m8).1;rw[Za] at this;exact this
       rw[Zc,Zf y8] at m8;cases m8;have eB:((Zy t t.length).getD j [])[v]=((Zy t t.length).getD j []).getD v 0:=gD' y8;have hB:=((Ww Pt hjm).mp (bc y8)).1;rw[eB] at hB ⊢;have nx:=Zhc t ((Zy t t.length).getD i []) ((Zy t t.length).getD j []) u v;generalize ((Zy t t.length).getD i []).getD u 0=x at hA nx ⊢;generalize ((Zy t t.length).getD j []).getD v 0=y at hB nx ⊢;have n8:Same H2 o0:=fun b o hb=>n4 b o (kN hb);obtain⟨rs,r2,g1,_,g2,g3,g4⟩:=(G2.mono n8).at Pt hA;refine⟨_,rfl,_,rfl,g,_,_,_,rfl,rfl,.of g1,g2,_,rfl,r2,_,_,_,rfl,rfl,g3.sq,g4 y hB,?_⟩;have y9:=Pt.lt x y hA hB;have hcn:=U.lt _ y9;obtain⟨dc,edc⟩:∃d,bs[YC t (ZJ t x y)]?=some d:=⟨_,Zf (show _<bs.length by rw[Za] at cl;omega)⟩;have hdc:=n8 _ _ (C2.2.2 _ _ edc);obtain⟨hd,rr,ehd⟩:=VM Pt hcn;have t5:ZB t (YC t (ZJ t x y))=hd:=by unfold ZB;rw[ehd];rfl
       have hdc':o0 dc=some (.tup ((hd::rr).map nV)):=by rw[<-ehd];exact hdc
       have t6:=n8 _ _ t7;have dg:∃a v',(V.ref D)=.ref a/\WU o0 a (.int ((ZJ t x y:Nat):Int)) (some v')/\v'=.int ((YC t (ZJ t x y):Nat):Int):=⟨D,_,rfl,by
        have:=WU.k (k:=(.inl ((ZJ t x y:Nat):Int):Ym)) t6;rw[t0 _ y9] at this;exact this,rfl⟩
       have dgD:WU o0 D (.int ((ZJ t x y:Nat):Int)) (some (.int ((YC t (ZJ t x y):Nat):Int))):=by
        have:=WU.k (k:=(.inl ((ZJ t x y:Nat):Int):Ym)) t6;rw[t0 _ y9] at this;exact this
       refine⟨_,rfl,_,rfl,_,rfl,_,rfl,D,_,rfl,dgD,Lr,_,_,_,rfl,rfl,.of (n8 _ _ C2.1),ZU (by rw[Zc,edc];rfl),dc,_,_,_,rfl,rfl,.of hdc',ZU (j:=0) rfl,rfl,_,rfl,?_⟩;have dd:∀k,k<m->YU (decide (ZJ t x y=ZB t k))=if k=YC t (ZJ t x y)/\ZJ t x y=hd then 1 else 0:=fun k hk=>by
        unfold YU;by_cases e:ZJ t x y=ZB t k
        ·have ek:YC t (ZJ t x y)=k:=by rw[e];exact U.rn k (by omega)
         rw[decide_eq_true e,if_pos rfl,if_pos ⟨ek.symm,by rw[<-t5,ek];exact e⟩]
        ·rw[decide_eq_false e,if_neg (by decide),if_neg]
         rintro⟨h1,h2⟩;refine e ?_;rw[h1,t5];exact h2
       refine Y0 (fun hb=>?_) (fun hb=>?_)
       ·have e:ZJ t x y=hd:=by
         have hb:decide (V.int ((ZJ t x y:Nat):Int)=V.int ((hd:Nat):Int))=true:=hb;rw[Yh] at hb;have:=eq_of_beq hb;omega
        have gk:((ZI m (lnF t ((Zy t t.length).getD i []) ((Zy t t.length).getD j []) u v)).map nV)[YC t (ZJ t x y)]?=some (.int ((lnF t ((Zy t t.length).getD i []) ((Zy t t.length).getD j []) u v (YC t (ZJ t x y)):Nat):Int)):=by
         unfold ZI;rw[Zc,Zc,ak (by omega)];rfl
        refine⟨_,rfl,_,rfl,_,rfl,D,_,rfl,dgD,Ln,_,_,_,rfl,rfl,.of n6,ZU gk,_,_,rfl,rfl,_,rfl,_,rfl,_,rfl,D,_,rfl,dgD,Ln,_,_,YC t (ZJ t x y),rfl,rfl,n6,?_,?_⟩
        ·unfold ZI
         rw[Za,Za,Zg];exact Jy (by omega)
        ·refine⟨_,_,rfl,fun b o hb=>?_,?_⟩
         ·rw[Zx (YB hb).1]
          exact n4 b o hb
         ·rw[Zt]
          have:=Ziw (v:=lnF t ((Zy t t.length).getD i []) ((Zy t t.length).getD j []) u v (YC t (ZJ t x y))+1) (f:=lnF t ((Zy t t.length).getD i []) ((Zy t t.length).getD j []) u v) (show YC t (ZJ t x y)<m by omega);have e9:(((lnF t ((Zy t t.length).getD i []) ((Zy t t.length).getD j []) u v (YC t (ZJ t x y))+1:Nat)):Int)=((lnF t ((Zy t t.length).getD i []) ((Zy t t.length).getD j []) u v (YC t (ZJ t x y)):Nat):Int)+1:=by omega
          rw[e9] at this;rw[this];congr 3;refine JM fun k hk=>?_;rw[nx k,dd k hk];by_cases o7:k=YC t (ZJ t x y)
          ·rw[if_pos o7,if_pos ⟨o7,e⟩,o7]
          ·rw[if_neg o7,if_neg (fun z=>o7 z.1)]
           rfl
       ·have e:ZJ t x y≠hd:=fun z=>hb (by rw[z];exact decide_eq_true rfl)
        refine⟨_,_,rfl,n4,?_⟩;rw[n6];congr 3;refine JM fun k hk=>?_;rw[nx k,dd k hk,if_neg (fun z=>e z.2)];rfl
      ·rintro J o0 ⟨O,Y,rfl,n4,n6⟩
       rw[Za] at n6;refine⟨_,_,_,rfl,n4,?_⟩;rw[n6];congr 3;exact JM fun k _=>Zjg t _ _ u k
     ·rintro J H9 ⟨m9,O,Y,rfl,s9,h9⟩
      rw[Za] at h9;have efin:ZI m (lnF t ((Zy t t.length).getD i []) ((Zy t t.length).getD j []) ((Zy t t.length).getD i []).length 0)=ZI m (J9 t i j):=JM fun k hk=>by
       have:=ZgL Pt him hjm (U.rl k (by omega));unfold J9;rw[<-this];rfl
      rw[efin] at h9;have L9:LsT H9 Pl j m (J9 t i):=by
       have h1:=L6.mono s8;refine h1.but (fun z=>?_) h8 s9;obtain⟨_,g1,_,_⟩:=id L6;rw[z,o5] at g1;cases g1
      obtain⟨_,gP,_,_⟩:=id L9;refine⟨_,rfl,.inl ⟨rfl,_,.of gP⟩,_,rfl,Ln,_,rfl,.inl ⟨.of h9,fun tp o8=>?_⟩⟩;have n4:=Same.upd (H:=H9) (o:=.tup ((ZI m (J9 t i j)).map nV)) o8;have n6:=Zt (H:=H9) (a:=tp) (o:=.tup ((ZI m (J9 t i j)).map nV));generalize upd H9 tp (.tup ((ZI m (J9 t i j)).map nV))=o0 at n4 n6 ⊢;obtain⟨ps,p1,p2,p3⟩:=(L9.mono n4).push n6;refine⟨Pl,_,_,rfl,rfl,p1,by rw[Za,p2];omega,?_⟩;refine⟨_,_,_,_,_,rfl,fun b o hb=>?_,p3⟩;rw[Zx (YB hb).1];have h6:=s6 b o hb;have h88:=s8 _ _ h6;have h99:=s9 _ _ (Z8 h88 (fun z=>by rw[z,o5] at h6;cases h6));exact n4 _ _ h99
    ·rintro J H6 ⟨w8,w9,m9,O,Y,rfl,s6,L6⟩
     rw[cl] at L6;obtain⟨ps,p1,p2,p3⟩:=id L6;have hL6:H6 L=some (.lst (cs.map V.ref)):=s6 _ _ (Z8 hL5 PL);refine⟨_,rfl,.inl ⟨rfl,_,.of hL6⟩,_,rfl,Pl,_,rfl,.inl ⟨.of p1,fun tp o8=>?_⟩⟩;have s7:=Same.upd (H:=H6) (o:=.tup (ps.map V.ref)) o8;have h7:CT (upd H6 tp (.tup (ps.map V.ref))) tp ((ac m).map fun j=>ZI m (J9 t i j)):=⟨ps,Zt,by rw[p2,Za,Zg],fun v r hr=>by
      have hv:v<m:=by rw[<-p2];exact (aa.mp hr).1
      have ev:((ac m).map fun j=>ZI m (J9 t i j)).getD v []=ZI m (J9 t i v):=by rw[Zb,Zc,ak hv];rfl
      rw[ev];exact s7 _ _ (p3 v r hr)⟩
     generalize upd H6 tp (.tup (ps.map V.ref))=H7 at s7 h7 ⊢;have hL7:=s7 _ _ hL6;have s47:∀{b:Addr}{o:HO},H4 b=some o->H7 b=some o:=fun {b o} hb=>s7 _ _ (s6 _ _ (Z8 (s5 _ _ hb) fun z=>by rw[z,r8] at hb;cases hb));refine⟨L,_,_,rfl,rfl,hL7,by rw[Za,n9];omega,?_⟩;refine⟨cs++[tp],_,_,_,_,_,_,_,rfl,fun b o hb=>?_,by rw[Zt,aT];rfl,by rw[Zd,n9];rfl,fun u c hc=>?_⟩
     ·rw[Zx (YB hb).1]
      exact s47 (s4 b o hb)
     ·by_cases o6:u<cs.length
      ·rw[am o6] at hc
       exact CT.updL (CT.mono (fun b o hb=>s47 hb) (u9 u c hc)) hL7
      ·have hlu:=(aa.mp hc).1
       rw[Zd,Zk] at hlu;have eu:u=cs.length:=by omega
       rw[aq (by omega),eu,cm] at hc;cases hc;rw[eu,n9];exact CT.updL h7 hL7
   ·rintro J H4 ⟨cs,w6,w7,w8,w9,m9,O,Y,rfl,s4,h4,n9,u9⟩
    rw[cl] at n9;refine⟨_,rfl,L,_,rfl,.inl ⟨.of h4,fun tp o8=>?_⟩⟩;have s5:=Same.upd (H:=H4) (o:=.tup (cs.map V.ref)) o8;refine q tp _ (fun b o hb=>s5 _ _ (s4 b o (Z8 (s03 _ _ hb) (fun z=>by rw[z,nLH] at hb;cases hb)))) ?_;rw[<-em];exact⟨cs,Zt,n9,fun u c hc=>CT.mono s5 (u9 u c hc)⟩
end
noncomputable abbrev ZdS:Stmt:=top 46
theorem Zcc:∀(f a b:Nat),b<f->N40.Zfg f (a:Int) (b:Int)=(lx a b:Nat)
 |0,a,b,h=>by omega
 |f+1,a,b,h=>by
  rw[N40.Zfg];by_cases j:(0:Int)<(b:Int)
  ·rw[if_pos j]
   have hb:0<b:=by omega
   have e:(a:Int) % (b:Int)=((a % b:Nat):Int):=by push_cast;rfl
   rw[e,Zcc f b (a % b) (by have:=bW a hb;omega),Nat.gcd_comm b (a % b),<-Nat.gcd_rec,Nat.gcd_comm]
  ·rw[if_neg j]
   have:b=0:=by omega
   subst this;rw[Nat.gcd_zero_right]
theorem Zhw {a b:Nat}(h:b<100):N40.Zhx (a:Int) (b:Int)=(lx a b:Nat):=Zcc 100 a b h
theorem ZiA {t:List (List Nat)}{a r j:Nat}(R:Rd t a r)(q:Rd t a j):r=j:=by
 apply ah;intro z;rcases Nat.lt_or_gt_of_ne z with h|h
 ·exact q.nz r R.r1 h R.z
 ·exact R.nz j q.r1 h q.z
noncomputable def Zbm:Sp:=fun q H Q _=>∃(g:Addr) (t:List (List Nat)),q=[.ref g]/\GT H g t/\PW t/\∀(m:Nat) j,Same H j->1<=m->m<=60->(∀a,a<t.length->∀r,Rd t a r->r ∣ m)->(∀M,(∀a,a<t.length->∀r,Rd t a r->r ∣ M)->m ∣ M)->Q (.int m) j
section
variable {P:Program}{w:World}{K:ab}{mg:Str->Option Value}{base:Heap}
theorem Ze2 {f:Addr}{fd:FuncData}(F:WB K "_law_round" "_law_round" ZdS f fd)(T:Bl mg)(GS:Fn P w K mg base Yd 1 "_law_shared" ["_law_one", "_law_other"] N40.ZjX):Z5 P w K mg base Yd 2 f fd ["_law_group_here"] Zbm:=by
 refine F.ok (FS (N:=["_law_group_here", "_law_found", "_law_a", "_law_here", "_law_many"])) (fun vs H Q E h=>?_) (fun n4 A m9 s H vs Q E hr h=>?_)
 ·obtain⟨g,t,rfl,_⟩:=h;rfl
 ·obtain⟨g,t,rfl,G,Y,q⟩:=h
  refine⟨_,Zs (ZE 1 rfl Zw)
   (Zs (ZR ao rfl (XM T.range (pc (cb (YF K) T.len (pc (vn 0) Zu)) Zu)) (gn 2)
    (Zs (ZE 3 rfl (vn 2))
    (Zs (ZE 4 rfl Zw)
    (Zs (Z9 ao (ZT JY (vn 3) Zw (Z1 _))
     (Zs (ZE 3 rfl (ZN (Xt K) (ZN (Xt K) (vn 0) (vn 3) (fun _ _=>rfl)) (vn 2) (fun _ _=>rfl)))
     (Zv (ZE 4 rfl (Zz YR (vn 4) Zw)))))
    (Zv (ZE 1 rfl (Zz Jg (Zz ZQ (vn 1) (vn 4)) (Wd GS hr ZL (pc (vn 1) (pc (vn 4) Zu))))))))))
   (Zv (ZG (vn 1)))),?_⟩
  have m8:=Y.n60;have n1:=Y.n1;obtain⟨gs,u1,u2,_⟩:=id G;have el:(gs.map V.ref).length=t.length:=by rw[Za,u2]
  refine⟨_,rfl,g,_,rfl,.inr (.of u1),_,rfl,by rw[el];omega,by rw[el];omega,?_⟩;rw[el,Zj];refine Y3 (fun i j U=>∃(m:Nat) (v2 v3 v4:Option V),j=[some (.ref g),some (.int (m:Nat)),v2,v3,v4]/\Same H U/\1<=m/\m ∣ t.length/\(∀b,b<i->∀r,Rd t b r->r ∣ m)/\∀M,(∀b,b<i->∀r,Rd t b r->r ∣ M)->m ∣ M) ⟨1,_,_,_,rfl,Same.refl _,Zq _,Nat.one_dvd _,fun b hb=>absurd hb (dG _),fun M _=>Nat.one_dvd _⟩ ?_ ?_
  ·rintro a j H1 ha ⟨m,v2,v3,v4,rfl,s1,m1,md,mr,ml⟩
   rw[show (0:Int)+(a:Int)=(a:Int) by omega];obtain⟨r,R⟩:=Y.rd a ha;have r1:=R.r1;have rn:=R.rn;refine⟨_,rfl,?_⟩;refine Z6 (fun x j U=>∃k:Nat,j=[some (.ref g),some (.int (m:Nat)),some (.int (a:Nat)),some (.int (it t a k:Nat)),some (.int (k:Nat))]/\Same H U/\1<=k/\k<=r/\x=r-k)
    (fun j U=>∃v3:Option V,j=[some (.ref g),some (.int (m:Nat)),some (.int (a:Nat)),v3,some (.int (r:Nat))]/\Same H U) ?hend ⟨r-1,1,by rw[Zc8 Y ha];rfl,s1,Zq _,r1,rfl⟩ ?turn
   case hend=>
    rintro j U ⟨n6,rfl,sm⟩;have n8:m<=60:=a6 (eV n1 md) m8;have gp:0<lx m r:=Nat.gcd_pos_of_pos_left _ m1;have n9:lx m r<=m:=Nat.gcd_le_left _ m1;have eL:((m:Int)*(r:Int)) / ((lx m r:Nat):Int)=((Nat.lcm m r:Nat):Int):=by
     unfold Nat.lcm;push_cast
     rfl
    refine⟨_,rfl,_,rfl,_,_,rfl,rfl,.inl ⟨by omega,by omega⟩,_,rfl,_,rfl,_,_,rfl,by omega,by omega,?_⟩;rw[Zhw (by omega)];refine⟨_,_,rfl,rfl,⟨by omega,by omega⟩,?_⟩;dsimp only;rw[eL];refine⟨_,_,_,_,rfl,sm,Nat.lcm_pos m1 r1,Nat.lcm_dvd md (aW R.dv),fun b hb r' R'=>?_,fun M hM=>Nat.lcm_dvd (ml M fun b hb=>hM b (by omega)) (hM a (by omega) r R)⟩;by_cases e:b=a
    ·subst e
     rw[ZiA R' R];exact Nat.dvd_lcm_right _ _
    ·exact Nat.dvd_trans (mr b (by omega) r' R') (Nat.dvd_lcm_left _ _)
   case turn=>
    rintro J x j U ⟨k,rfl,sm,k1,kr,hx⟩;refine⟨_,rfl,rfl,_,rfl,?_⟩;refine Y0 (fun O=>?_) (fun O=>?_)
    ·have O:it t a k≠0:=fun z=>by
      rw[Yh,z] at O;simp at O
     have o0:k<r:=dB kr fun z=>O (z▸R.z);obtain⟨rs,r2,g1,_,g2,g3,g4⟩:=(G.mono sm).at Y (Wr Y ha k);refine⟨_,fun _ _ z=>z,_,rfl,_,rfl,g,_,_,_,rfl,rfl,.of g1,g2,_,rfl,r2,_,_,_,rfl,rfl,g3.sq,g4 a ha,_,rfl,_,_,rfl,rfl,r-(k+1),by omega,k+1,rfl,sm,by omega,by omega,rfl⟩
    ·have O:it t a k=0:=by
      apply ah;intro z;apply O;rw[Yh];simp[z]
     have:k=r:=by
      apply ah;intro z;exact R.nz k k1 (by omega) O
     subst this;exact J _ _ ⟨_,rfl,sm⟩
  ·rintro j H1 ⟨m,v2,v3,v4,rfl,s1,m1,md,mr,ml⟩
   exact⟨_,rfl,q m H1 s1 m1 (a6 (eV n1 md) m8) mr ml⟩
end
theorem Zj7 {X:Cx}(K:ab){k:Nat}(j:W9 k X.A)(q:X.K=K:=by rfl):Yo X (.builtin "repr") (fun xs H Q=>∃x d,xs=[x]/\Uo K H x d/\ZjN d/\Q (.str d.shown) H):=q▸ZfB j
theorem Ziu {p:Addr}{H j q:Hp}(s:Same H j)(J:H p=none)(k:Tk p j q):Same H q:=fun b o e=>k b o (s b o e) fun z=>by rw[z,J] at e;cases e
theorem ZgH {α Y:Type}{f:α->Y}{l:List Y}:∀{q:List α},l.Perm (q.map f)->∃j:List α,j.Perm q/\l=j.map f:=by
 intro q h;generalize J:q.map f=k at h;induction h generalizing q with
 |nil=>exact⟨[],by rw[List.map_eq_nil_iff.mp J],rfl⟩
 |cons x h ih=>
  obtain⟨a,b,rfl,rfl,e⟩:=iu.mp J;obtain⟨j,M,rfl⟩:=ih e;exact⟨a::j,M.cons a,rfl⟩
 |swap x y l=>
  obtain⟨a,b,rfl,rfl,e⟩:=iu.mp J;obtain⟨c,d,rfl,rfl,rfl⟩:=iu.mp e;exact⟨c::a::d,i8 a c d,rfl⟩
 |trans _ _ O U=>
  obtain⟨l2,M,rfl⟩:=U J;obtain⟨l3,h2,rfl⟩:=O rfl;exact⟨l3,h2.trans M,rfl⟩
theorem ZkH {t:List (List Nat)}(P:PW t){c:Nat}(j:c<(Zy t t.length).length):((Zy t t.length).getD c []).length=WD t (ZB t c):=by
 have U:=Yw P;have J:=ZcR (fun _=>1) (Zdk P j) fun b hb=>((Ww P j).mp hb).1;have M:sm ((Zy t t.length).getD c []).length (fun _=>1)=((Zy t t.length).getD c []).length:=by
  generalize ((Zy t t.length).getD c []).length=n;induction n with
  |zero=>rfl
  |succ n O=>rw[Yi,O]
 rw[<-M,J];unfold WD;refine ZM fun a q=>?_;rw[XZ P (U.rl c j) q,U.rn c j,gB];congr 1;rw[decide_eq_decide,Ww P j];exact⟨fun h=>h.2,fun h=>⟨q,h⟩⟩
theorem ZlW {t:List (List Nat)}(i j k:Nat):J9 t i j k<=t.length:=by
 unfold J9 cnT;have q:∀n (f:Nat->Nat),(∀a,f a<=1)->sm n f<=n:=fun n f h=>by
  induction n with
  |zero=>exact Zq _
  |succ n J=>rw[Yi];have:=h n;omega
 refine q _ _ fun a=>?_;unfold YU;split <;> split <;> omega
noncomputable def ZdJ (K:ab):Sp:=fun q H Q _=>∃(a:Addr) (j:List Int),q=[.ref a]/\Wx K H a (j.map V.int)/\j.length<=63/\∀J,Q (.bl true) J
section
variable {P:Program}{w:World}{K:ab}{mg:Str->Option Value}{base:Heap}
theorem Zld {f:Addr}{fd:FuncData}(F:WB K "law" "law" ZmR f fd)(T:Bl mg)(o8:Fn P w K mg base Yd 1 "_law_tape" ["_law_script", "_law_at"] (Zf4 K))(GG:Fn P w K mg base Yd 3 "_law_group" ["_law_tape_here", "_law_great"] ZdK)
  (o9:Fn P w K mg base Yd 7 "table_of" ["group"] ZdB) (p4:Fn P w K mg base Yd 2 "_law_round" ["_law_group_here"] Zbm) (p6:Fn P w K mg base Yd 3 "_law_classes" ["_law_group_here"] Zgb) (p7:Fn P w K mg base Yd 2 "counts_by" ["n", "sizes", "rows"] ZjZ) (p8:Fn P w K mg base Yd 1 "_law_counts" ["_law_group_here", "_law_rows"] Zf7) :
  Z5 P w K mg base Yd 8 f fd ["_law_script"] (ZdJ K):=by
 refine F.ok (FS (N:=["_law_script", "_law_k", "_law_tape_here", "_law_group_here", "_law_rows", "_law_table", "_law_sizes", "_law_found"])) (fun vs H Q E h=>?_) (fun x8 A q0 s H vs Q E M h=>?_)
 ·obtain⟨a,ns,rfl,_⟩:=h;rfl
 ·obtain⟨a,ns,rfl,hS,hlen,q⟩:=h
  refine⟨_,Zs (ZR ao rfl (XM T.range (pc (Zz YR Zw (cb (YF K) T.len (pc (Ju Xg (vn 0) Xm (Xl Zw)) Zu))) Zu)) (gn 1)
   (Zs (ZE 2 rfl (Wd o8 M ZL (pc (vn 0) (pc (vn 1) Zu))))
   (Zs (ZE 3 rfl (Wd GG M ZL (pc (vn 2) (pc (Zd9 ZbM (vn 1) Zw (Z1 _)) Zu))))
   (Zs (ZE 4 rfl (Wd p6 M ZL (pc (vn 3) Zu)))
   (Zv (WN (ZT ZbM (cb (YF K) T.len (pc (vn 4) Zu)) Zw (Z1 _)) (Zs (ZE 5 rfl (Wd o9 M ZL (pc (vn 3) Zu)))
   (Zs (ZE 6 rfl (ct (tupK K) T.tuple (pc (cmp ["_law_row"] [] ["_law_row"] rfl (itL K (vn 4)) (fun _ _ _ _ _=>gn 0) (fun _ _ _ _ _=>ZP) (fun _ _ _ _ _=>cb (YF K) (by exact T.len) (pc (vn 0) Zu))) Zu)))
   (Zs (ZE 7 rfl (Wd p7 M ZL (pc (Wd p4 M ZL (pc (vn 3) Zu)) (pc (vn 6) (pc (vn 5) Zu)))))
   (Zv (WN (ZT JY (cb (Zj7 K M) T.repr (pc (vn 7) Zu)) (cb (Zj7 K M) T.repr (pc (Wd p8 M ZL (pc (vn 3) (pc (vn 4) Zu))) Zu)) (Z1 _)) (Zv (ZG Zea)) YA))))) YA))))))
   (Zv (ZG Zea)),?_⟩
  have sz:(16777216:Nat)=sizeLine:=by decide
  refine⟨_,rfl,_,rfl,a,_,rfl,hS,fun l0 r6=>⟨l0,_,rfl,.inl (.of Zt),_,_,rfl,rfl,_,rfl,?_,?_,?_⟩⟩
  ·omega
  ·have:=Ve (ns.map V.int) none (some 2)
   rw[Za] at this;omega
  have s0:=Same.upd (H:=H) (o:=.lst (Jo (ns.map V.int) none (some 2))) r6;refine Y3 (fun i m8 H'=>∃v1 v2 v3 v4 v5 v6 v7:Option V,m8=[some (.ref a),v1,v2,v3,v4,v5,v6,v7]/\Wx K H' a (ns.map V.int)) ⟨_,_,_,_,_,_,_,rfl,s0.seq hS⟩ ?_ (fun m8 H1 _=>q H1);rintro i m8 H1 hi ⟨v1,v2,v3,v4,v5,v6,v7,rfl,m9⟩;rw[show (0:Int)+(i:Int)=(i:Int) by omega];refine⟨_,rfl,_,rfl,a,ns,i,rfl,m9,hlen,fun p H2 s2 np r8=>?_⟩;refine⟨_,rfl,_,rfl,_,_,rfl,rfl,p,0,_,rfl,r8,by decide,fun g t H3 k3 T3 G3 J Mk=>?_⟩;have r9:Same H1 H3:=Ziu s2 np k3;have n4:=r9.seq m9;obtain⟨n,pr,m,e,ω,φ,z,dg,D,SS⟩:=Zl4 Mk;have n1:=D.n1;have n60:=D.n60;have N1:=J.n1;have x9:=J.n60;have U:=Yw J;have mc:=D.cd.mc;have m1:=D.cd.m1;have t0:=ZhZ D.cd J;refine⟨_,rfl,g,t,rfl,G3,J,fun Lc bs H4 y4 s4 C4=>?_⟩;have bl:(bs.map V.ref).length=m:=by rw[Za,C4.2.1,mc]
  refine⟨_,rfl,Lc,_,rfl,.inl (.of C4.1),_,_,rfl,rfl,_,rfl,?_⟩;rw[bl];refine Y0 (fun hb=>?_) (fun hb=>⟨_,_,_,_,_,_,_,rfl,s4.seq n4⟩);have m6:m<6:=by
   have:=of_decide_eq_true hb;omega
  obtain⟨p2,z2,S⟩:=SS m6;refine⟨_,rfl,g,t,n,pr,m,e,ω,φ,z,dg,rfl,G3.mono s4,J,D,fun tb y6 H5 s5 B5 pm pw=>?_⟩;obtain⟨ss,t5,rfl⟩:=ZgH pm;have n6:ZfG H5 tb (ss.map (ZkL t m (Xv t n pr e z dg))):=B5;have n8:∀s x,(Xv t n pr e z dg s x).length=N40.WC n:=Zkw;clear B5 pw pm SS;generalize Xv t n pr e z dg=X at S n6 n8;have C5:=C4.mono s5;refine⟨_,rfl,Lc,rfl,⟨_,.of C5.1⟩,?_⟩;refine Pm.WR (Yz (K:=K) (.of C5.1)) [] rfl (fun c=>V.int ((WD t (ZB t c):Nat):Int)) (by rw[bl];omega) (fun c y hy H6 s6 R k6=>?_) (fun D6 H6 y8 s6 n9=>?_)
  ·have hc:c<m:=by
    have:=(aa.mp hy).1;rw[bl] at this;exact this
   obtain⟨d,rfl,he,hd⟩:=C5.ref hy;refine⟨_,rfl,d,_,rfl,.inr (.of (s6 _ _ hd)),?_⟩;have:=k6 H6 (Same.refl _);rw[<-ZkH J he] at this;rw[Za];exact this
  rw[bl] at n9;refine⟨D6,_,rfl,.inl ⟨.of n9,fun O t6=>?_⟩⟩;have s7:=s6.trans (Same.upd (H:=H6) (o:=.tup ((ac m).map fun c=>V.int ((WD t (ZB t c):Nat):Int))) t6);have h7:upd H6 O (.tup ((ac m).map fun c=>V.int ((WD t (ZB t c):Nat):Int))) O=some (.tup (ZD m fun c=>((WD t (ZB t c):Nat):Int))):=Zt;generalize upd H6 O (.tup ((ac m).map fun c=>V.int ((WD t (ZB t c):Nat):Int)))=H7 at s7 h7 ⊢;have o0:=(s4.trans s5).trans s7;refine⟨_,rfl,g,t,rfl,G3.mono o0,J,fun fr H8 s8 y9 x6 t7 t9=>?_⟩;have o5:∀a,a<t.length->Rd t a (rdT t a):=fun a ha=>by
   obtain⟨r,R⟩:=J.rd a ha;rw[ZaC R];exact R
  have u5:fr=n:=by
   have d1:fr ∣ n:=t9 n fun a ha r R=>aW (ZcV R (D.all a ha));have d2:n ∣ fr:=aW (D.mn fr fun a ha=>ZhK (o5 a ha) (Nat.mod_eq_zero_of_dvd (t7 a ha _ (o5 a ha))));exact Nat.dvd_antisymm d1 d2
  subst u5;refine⟨_,rfl,_,rfl,O,tb,t,fr,m,X,p2,z2,ss,rfl,J,n1,n60,mc,S,n8,s8 _ _ h7,n6.mono (s7.trans s8),t5,fun ro H9 s9 C9=>?_⟩;have Y:ZjN (dC3 m (J9 t)):=ZlJ t0 fun i j k _ _ _=>by
   have:=ZlW (t:=t) i j k;omega
  have o6:=(o0.trans s8).trans s9;refine⟨_,rfl,_,_,rfl,C9.rd,Y,_,rfl,_,rfl,g,Lc,bs,t,rfl,G3.mono o6,J,C5.mono ((s7.trans s8).trans s9),fun ro2 H10 u9 o7=>?_⟩;rw[<-mc] at o7;refine⟨_,_,rfl,o7.rd,Y,rfl,_,rfl,ZlA (by simp) ⟨_,_,_,_,_,_,_,rfl,(o6.trans u9).seq n4⟩⟩
end
theorem all_mk {l:gv}{w:World}{K:ab}{h:Heap}{mg:Str->Option Value}{fa:Addr}(X:K.In h)(G:h.Ns mainGlobals mg)(hfa:mg "law"=some (.ref fa))
  (d1:ZC K "_law_tape" Zj0) (d2:ZC K "_law_after" Zgx) (d3:ZC K "_law_things" ZdR) (d4:ZC K "_law_pick" Zgm) (d5:ZC K "_law_cycle" ZmV) (d6:ZC K "_law_perms" Zgn) (d7:ZC K "_law_group" ZcS) (d8:ZC K "round_of" Zgj) (d9:ZC K "full_round" Zj4) (d10:ZC K "fit_prime" ZmT) (d11:ZC K "root_powers" Zgk) (d12:ZC K "back" Zj5) (d13:ZC K "turned_by" ZdQ) (d14:ZC K "turnings" UL) (d15:ZC K "classes_of" VI) (d16:ZC K "holders" Zj3) (d17:ZC K "class_numbers" Zbs) (d18:ZC K "power_walks" Zgh) (d19:ZC K "counts_of" ZdV) (d20:ZC K "less_often" Zj1) (d21:ZC K "back_by" ZdW) (d22:ZC K "last_part" Zj2) (d23:ZC K "parts_by" Zgo) (d24:ZC K "taken_apart" Zgw) (d25:ZC K "first_of" Zgv) (d26:ZC K "primes_of" N40.ZdT) (d27:ZC K "stretched" N40.ZmP) (d28:ZC K "quotient" N40.ZmQ) (d29:ZC K "least_sum" N40.Zgr) (d30:ZC K "number_of" N40.Zgp) (d31:ZC K "number_at" Zgq) (d32:ZC K "table_of" Zgi) (d33:ZC K "_law_shared" N40.ZmS) (d34:ZC K "_law_round" ZdS) (d35:ZC K "_law_back" Zgu) (d36:ZC K "_law_turned" Zbt) (d37:ZC K "_law_classes" Zgs) (d38:ZC K "rests_of" Zgl) (d39:ZC K "added_up" Zgy) (d40:ZC K "counts_by" ZmW) (d41:ZC K "_law_counts" Zgt) (d42:ZC K "law" ZmR)
  (z1:bh K mainGlobals "list"=some none) (z2:bh K mainGlobals "len"=some none) (z3:bh K mainGlobals "range"=some none) (z4:bh K mainGlobals "tuple"=some none) (z5:bh K mainGlobals "max"=some none) (z6:bh K mainGlobals "sorted"=some none) (z7:bh K mainGlobals "abs"=some none) (z8:bh K mainGlobals "isinstance"=some none) (z9:bh K mainGlobals "all"=some none) (z10:bh K mainGlobals "set"=some none) (z11:bh K mainGlobals "repr"=some none) (z12:bh K mainGlobals "any"=some none) (z13:bh K mainGlobals "int"=some none) (z14:bh K mainGlobals "bool"=some none) (z15:bh K mainGlobals "enumerate"=some none) (z16:bh K mainGlobals "zip"=some none) (z17:bh K mainGlobals "sum"=some none) :
  ∃O:FuncData,(∀(s:Shared) (v:Value),iX s O ⟨[v],[]⟩ [("_law_script",v)])/\∀base:Heap,K.In base->base.Ns mainGlobals mg->Z5 l.prog w K mg base Yd 8 fa O ["_law_script"] (ZdJ K):=by
 have J:BlB mg:=⟨au X G z1,au X G z2,au X G z3,au X G z4,au X G z5,au X G z6⟩;have j:Bl mg:=⟨au X G z1,au X G z2,au X G z7,au X G z3,au X G z4,au X G z8,au X G z9,au X G z10,au X G z11,au X G z12,au X G z13,au X G z14⟩;have q:Zcu mg:=⟨au X G z6,au X G z15⟩;have M:BlT mg:=⟨au X G z16,au X G z17⟩;have n4:N40.Bl mg:=⟨au X G z1,au X G z2,au X G z7,au X G z3,au X G z4,au X G z8,au X G z9,au X G z10,au X G z11,au X G z12,au X G z13,au X G z14⟩;have n8:N40.Bl2 mg:=⟨au X G z15,au X G z5⟩;refine d42.law X G hfa (fun base f O nb kb F=>?_) (fun _ _ _ _ _ _ _ _=>.of_eq rfl);have fn:=@ZC.fn l.prog w K mg base h;have t0:=fn d1 X G (fun f O F=>ZiU F J) (fun _ _ _ _ _ _=>bd2 fun _ _=>rfl);have n6:=fn d2 X G (fun f O F=>Zg1 F J) (fun _ _ _ _ _ _=>bd2 fun _ _=>rfl);have o6:=fn d3 X G (fun f O F=>Ze1 F J n6) (fun _ _ _ _ _ _=>bd1 fun _=>rfl);have n9:=fn d4 X G (fun f O F=>ZiV F) (fun _ _ _ _ _ _=>bd2 fun _ _=>rfl);have p7:=fn d5 X G (fun f O F=>Zlg F J) (fun _ _ _ _ _ _=>bd1 fun _=>rfl);have p8:=fn d6 X G (fun f O F=>ZgS F J n9 p7) (fun _ _ _ _ _ _=>bd2 fun _ _=>rfl);have q0:=fn d7 X G (fun f O F=>ZgY F J o6 p8 n9 n6) (fun _ _ _ _ _ _=>bd2 fun _ _=>rfl);have y6:=fn d8 X G (fun f O F=>ZgP F) (fun _ _ _ _ _ _=>bd2 fun _ _=>rfl);have r6:=fn d9 X G (fun f O F=>Zi2 F j y6) (fun _ _ _ _ _ _=>bd1 fun _=>rfl);have o0:=fn d10 X G (fun f O F=>Zlf F j) (fun _ _ _ _ _ _=>bd2 fun _ _=>rfl);have m9:=fn d11 X G (fun f O F=>ZgQ F j) (fun _ _ _ _ _ _=>bd2 fun _ _=>rfl);have g_back:=fn d12 X G (fun f O F=>Zi3 F) (fun _ _ _ _ _ _=>bd2 fun _ _=>rfl);have t5:=fn d13 X G (fun f O F=>Ze0 F g_back) (fun _ _ _ _ _ _=>bd3 fun _ _ _=>rfl);have y8:=fn d14 X G (fun f O F=>ZbO F j q t5) (fun _ _ _ _ _ _=>bd2 fun _ _=>rfl);have U:=fn d15 X G (fun f O F=>Zc1 F j y8) (fun _ _ _ _ _ _=>bd1 fun _=>rfl);have g_holders:=fn d16 X G (fun f O F=>Zi1 F j q) (fun _ _ _ _ _ _=>bd2 fun _ _=>rfl);have Y:=fn d17 X G (fun f O F=>ZiW F j U g_holders) (fun _ _ _ _ _ _=>bd1 fun _=>rfl);have o7:=fn d18 X G (fun f O F=>ZgN F Y U) (fun _ _ _ _ _ _=>bd1 fun _=>rfl);have t6:=fn d19 X G (fun f O F=>Ze4 F j q U Y) (fun _ _ _ _ _ _=>bd1 fun _=>rfl);have r8:=fn d20 X G (fun f O F=>ZiX F M) (fun _ _ _ _ _ _=>bd4 fun _ _ _ _=>rfl);have m8:=fn d21 X G (fun f O F=>Ze5 F) (fun _ _ _ _ _ _=>bd2 fun _ _=>rfl);have t7:=fn d22 X G (fun f O F=>ZiZ F j r8 m8) (fun _ _ _ _ _ _=>bd3 fun _ _ _=>rfl);have y9:=fn d23 X G (fun f O F=>ZgT F j M t7) (fun _ _ _ _ _ _=>bd3 fun _ _ _=>rfl);have o8:=fn d24 X G (fun f O F=>Zg0 F j y9) (fun _ _ _ _ _ _=>bd2 fun _ _=>rfl);have g_first_of:=fn d25 X G (fun f O F=>ZgZ F) (fun _ _ _ _ _ _=>bd3 fun _ _ _=>rfl);have t9:=fn d26 X G (fun f O F=>N40.Ze3 F n4) (fun _ _ _ _ _ _=>bd1 fun _=>rfl);have u5:=fn d27 X G (fun f O F=>N40.Zlb F n4 n8) (fun _ _ _ _ _ _=>bd2 fun _ _=>rfl);have g_quotient:=fn d28 X G (fun f O F=>N40.Zlc F n4 n8) (fun _ _ _ _ _ _=>bd2 fun _ _=>rfl);have u9:=fn d29 X G (fun f O F=>N40.ZgW F t9 u5 g_quotient) (fun _ _ _ _ _ _=>bd1 fun _=>rfl);have x6:=fn d30 X G (fun f O F=>N40.ZgU F n4 n8 u9) (fun _ _ _ _ _ _=>bd2 fun _ _=>rfl);have x8:=fn d31 X G (fun f O F=>ZgV F j q M m8 x6) (fun _ _ _ _ _ _=>bd5 fun _ _ _ _ _=>rfl);have g_table_of:=fn d32 X G (fun f O F=>ZgO F j q r6 o0 m9 o7 t6 o8 m8 g_first_of x8) (fun _ _ _ _ _ _=>bd1 fun _=>rfl);have o9:=fn d33 X G (fun f O F=>N40.Zle F) (fun _ _ _ _ _ _=>bd2 fun _ _=>rfl);have r9:=fn d34 X G (fun f O F=>Ze2 F j o9) (fun _ _ _ _ _ _=>bd1 fun _=>rfl);have x9:=fn d35 X G (fun f O F=>ZgX F) (fun _ _ _ _ _ _=>bd2 fun _ _=>rfl);have p4:=fn d36 X G (fun f O F=>Zc0 F x9) (fun _ _ _ _ _ _=>bd3 fun _ _ _=>rfl);have o5:=fn d37 X G (fun f O F=>ZiY F j q p4) (fun _ _ _ _ _ _=>bd1 fun _=>rfl);have g_rests_of:=fn d38 X G (fun f O F=>ZgR F M) (fun _ _ _ _ _ _=>bd3 fun _ _ _=>rfl);have g_added_up:=fn d39 X G (fun f O F=>Zg2 F M) (fun _ _ _ _ _ _=>bd3 fun _ _ _=>rfl);have y4:=fn d40 X G (fun f O F=>Zlh F j q M o0 m9 g_rests_of m8 g_added_up) (fun _ _ _ _ _ _=>bd3 fun _ _ _=>rfl);have p6:=fn d41 X G (fun f O F=>Zi0 F j) (fun _ _ _ _ _ _=>bd2 fun _ _=>rfl);exact Zld F j t0 q0 g_table_of r9 o5 y4 p6
theorem walk {l:gv}{q:Program}{loose:List Str}{Y:(Str->Option Value)->Heap->Prop}{M:World->Heap->Prop}{d:DefRec}{K:Params->ab}(hn:l.most=some 63)(J:d.params.defaults=[])
  (hY:∀(w:World) (h:Heap),M w h->(K w.params).In h)
  (F:∀(w:World) (j:Str->Option Value) (O:Addr) (h:Heap),(K w.params).In h->h.Ns mainGlobals j->j d.name=some (.ref O)->
   ∃U:FuncData,(∀(s:Shared) (u:Value),iX s U ⟨[u],[]⟩ [("_law_script",u)])/\∀base:Heap,(K w.params).In base->base.Ns mainGlobals j->Z5 l.prog w (K w.params) j base Yd 8 O U ["_law_script"] (ZdJ (K w.params))) :
  lO q loose Y M l.row.toRowW d [] (fun f vs=>lM f vs):=
 L2.Zah (n:=63) (k:=8) (x:="_law_script") (CX:=fun _=>Yd) (sp:=fun w=>ZdJ (K w.params)) hn (by decide) J ⟨rfl,by decide,by decide,rfl⟩ hY F (fun _ _ a ns hl _ hS=>⟨a,ns,rfl,hS,hl,fun _=>rfl⟩) fun _ _ _ _ _ z=>z
end C40
namespace PySem.W.Fast
theorem tw79311814259804935:0=0:=rfl
theorem tw16671037040111345228:0=0:=rfl
theorem tw10476414077042192658:0=0:=rfl
theorem tw10407200745488575618:0=0:=rfl
theorem tw6087150870046105139:0=0:=rfl
theorem tw245323204066857720:0=0:=rfl
theorem tw6657945272090915767:0=0:=rfl
theorem tw6251520503375073677:0=0:=rfl
theorem tw7036313062125829441:0=0:=rfl
theorem tw5690760589662407334:0=0:=rfl
theorem tw7766837970325487518:0=0:=rfl
theorem tw5978780925190609055:0=0:=rfl
theorem tw17110082056969821546:0=0:=rfl
theorem tw17374178082012961593:0=0:=rfl
theorem tw12040524982044344927:0=0:=rfl
theorem tw11452632679385373656:0=0:=rfl
theorem tw14467867915087756509:0=0:=rfl
theorem tw14735354886801883878:0=0:=rfl
theorem tw16019250043118542231:0=0:=rfl
theorem tw18406533420466799036:0=0:=rfl
theorem tw4109970264455648988:0=0:=rfl
theorem tw6283366909080234162:0=0:=rfl
theorem tw4423940264875827414:0=0:=rfl
theorem tw9703936726696555406:0=0:=rfl
theorem tw4788930740505675519:0=0:=rfl
theorem tw3570235921619852828:0=0:=rfl
theorem tw11922796470489559562:0=0:=rfl
theorem tw6283444061092562362:0=0:=rfl
theorem tw15224185549266481245:0=0:=rfl
theorem tw16761334043724290593:0=0:=rfl
theorem tw6153973239371534714:0=0:=rfl
theorem tw15177800612359790949:0=0:=rfl
theorem tw11137477493900254152:0=0:=rfl
theorem tw9313224444430553340:0=0:=rfl
theorem tw17305041734435475014:0=0:=rfl
theorem tw1354821538362386927:0=0:=rfl
theorem tw6323443398707768786:0=0:=rfl
theorem tw16812406791248486874:0=0:=rfl
theorem tw7803461648444894303:0=0:=rfl
theorem tw7318333532876784926:0=0:=rfl
theorem tw11978283822664602880:0=0:=rfl
theorem tw2793250890798981994:0=0:=rfl
theorem tw18295843178025160576:0=0:=rfl
theorem tw8425673873580897695:0=0:=rfl
theorem tw16541172010089622225:0=0:=rfl
theorem tw11274712325163189381:0=0:=rfl
theorem tw4936360463606757412:0=0:=rfl
theorem tw17543822602555713166:0=0:=rfl
theorem tw14511959117832456610:0=0:=rfl
theorem tw7577340297291974713:0=0:=rfl
theorem tw14472741742206929424:0=0:=rfl
theorem tw12879586593745432004:0=0:=rfl
theorem tw13047211652956188179:0=0:=rfl
theorem tw14788045791508630457:0=0:=rfl
theorem tw10661064971577535059:0=0:=rfl
theorem tw17742446074950286882:0=0:=rfl
theorem tw3115666007864090861:0=0:=rfl
theorem tw15023623233631772771:0=0:=rfl
theorem tw2985797622922029658:0=0:=rfl
theorem tw16209780025310201306:0=0:=rfl
theorem tw6412540415381363525:0=0:=rfl
theorem tw10726560112881732397:0=0:=rfl
theorem tw10526906297695556628:0=0:=rfl
theorem tw5871501849882112787:0=0:=rfl
theorem tw446435422130647766:0=0:=rfl
theorem tw13478025750387023865:0=0:=rfl
theorem tw9940617270589175636:0=0:=rfl
theorem tw4934813033915966089:0=0:=rfl
theorem tw13013644160438345011:0=0:=rfl
theorem tw12492708804897277076:0=0:=rfl
theorem tw9663033731395887022:0=0:=rfl
theorem tw15080362618375740589:0=0:=rfl
theorem tw9779713311826448736:0=0:=rfl
theorem tw9708058125185653387:0=0:=rfl
theorem tw8444995657861162853:0=0:=rfl
theorem tw9829529478216830708:0=0:=rfl
theorem tw5358824727722223060:0=0:=rfl
theorem tw12145321496591296830:0=0:=rfl
theorem tw1263172753710654181:0=0:=rfl
theorem tw11990953225396939981:0=0:=rfl
theorem tw15353277643701547564:0=0:=rfl
theorem tw555597953076988049:0=0:=rfl
theorem tw660330811682601020:0=0:=rfl
theorem tw18106979873811471175:0=0:=rfl
theorem tw8408641032023152585:0=0:=rfl
theorem tw1470723597081657472:0=0:=rfl
theorem tw8154644157302849246:0=0:=rfl
theorem tw586619404416577149:0=0:=rfl
theorem tw11125080298153614695:0=0:=rfl
theorem tw12025155777845893316:0=0:=rfl
theorem tw10521852687815582633:0=0:=rfl
theorem tw3515258670911236043:0=0:=rfl
theorem tw2814341300629295545:0=0:=rfl
theorem tw9654620868433573970:0=0:=rfl
theorem tw14379888375113272397:0=0:=rfl
theorem tw12564846729677294353:0=0:=rfl
theorem tw8057357854945246409:0=0:=rfl
theorem tw7681476659787549729:0=0:=rfl
theorem tw3298219256329084579:0=0:=rfl
theorem tw10514116311786659022:0=0:=rfl
theorem tw16273320418013460729:0=0:=rfl
theorem tw17380570958035294648:0=0:=rfl
theorem tw17716664461864778495:0=0:=rfl
theorem tw8182860579168405366:0=0:=rfl
theorem tw6704780479557560083:0=0:=rfl
theorem tw17643037938656512471:0=0:=rfl
theorem tw17204840355260474708:0=0:=rfl
theorem tw1397854218286834780:0=0:=rfl
theorem tw1908109808646557410:0=0:=rfl
theorem tw297734076206805643:0=0:=rfl
theorem tw7899001406879654868:0=0:=rfl
theorem tw3271826840606369263:0=0:=rfl
theorem tw15882908261131100041:0=0:=rfl
theorem tw662247750967840045:0=0:=rfl
theorem tw11103978810031670022:0=0:=rfl
theorem tw5048856802642722123:0=0:=rfl
theorem tw14037302585549775100:0=0:=rfl
theorem tw10172136117822458079:0=0:=rfl
theorem tw13375178157680448295:0=0:=rfl
theorem tw16903927446934385931:0=0:=rfl
theorem tw2533635520080524266:0=0:=rfl
theorem tw7011615425338713120:0=0:=rfl
theorem tw10090513685372935986:0=0:=rfl
theorem tw11380901067502884255:0=0:=rfl
theorem tw1968125421406325382:0=0:=rfl
theorem tw3978172166171197684:0=0:=rfl
theorem tw2917434191853447327:0=0:=rfl
theorem tw12174789537194320727:0=0:=rfl
theorem tw8099072022023298045:0=0:=rfl
theorem tw570670503772785185:0=0:=rfl
theorem tw14887830247754507201:0=0:=rfl
theorem tw8835597347503327142:0=0:=rfl
theorem tw487572795009162146:0=0:=rfl
theorem tw7227475342906761811:0=0:=rfl
theorem tw2262724428826165119:0=0:=rfl
theorem tw1620353937744285249:0=0:=rfl
theorem tw1541016850611639448:0=0:=rfl
theorem tw4126521620514204232:0=0:=rfl
theorem tw11073993309571510358:0=0:=rfl
theorem tw14332262787427869695:0=0:=rfl
theorem tw13532727582775293096:0=0:=rfl
theorem tw2010159065136212863:0=0:=rfl
theorem tw16769318932212821627:0=0:=rfl
theorem tw9284219862861383858:0=0:=rfl
theorem tw14666375645714664447:0=0:=rfl
theorem tw2306201615858443862:0=0:=rfl
theorem tw11719817895447810144:0=0:=rfl
theorem tw1897693853313790715:0=0:=rfl
theorem tw2446061948664819520:0=0:=rfl
theorem tw7984620367575702686:0=0:=rfl
theorem tw10442830386729632313:0=0:=rfl
theorem tw6279006535186020863:0=0:=rfl
theorem tw18389238467303990206:0=0:=rfl
theorem tw15695533394900987561:0=0:=rfl
theorem tw1237857529718646206:0=0:=rfl
theorem tw4311701187275635011:0=0:=rfl
theorem tw13887554447230459707:0=0:=rfl
theorem tw7473128498925979314:0=0:=rfl
theorem tw393033967528531797:0=0:=rfl
theorem tw2102288645235654687:0=0:=rfl
theorem tw584099178225752088:0=0:=rfl
theorem tw14152667581084289093:0=0:=rfl
theorem tw10512040743550033644:0=0:=rfl
theorem tw15300668145713574535:0=0:=rfl
theorem tw11988934901945509879:0=0:=rfl
theorem tw5554917597729364208:0=0:=rfl
theorem tw14005635284903582221:0=0:=rfl
theorem tw13083408737412412558:0=0:=rfl
theorem tw4729188353273309146:0=0:=rfl
theorem tw14596363285252663031:0=0:=rfl
theorem tw1136722815798040022:0=0:=rfl
theorem tw4221708710204006279:0=0:=rfl
theorem tw1017995840016635352:0=0:=rfl
theorem tw17527725091160320401:0=0:=rfl
theorem tw7751926933762673241:0=0:=rfl
theorem tw10871545005528757278:0=0:=rfl
theorem tw5303014896712930106:0=0:=rfl
theorem tw5174563040669395366:0=0:=rfl
theorem tw8373563242072171359:0=0:=rfl
theorem tw9561085715887269865:0=0:=rfl
theorem tw4838590623448274154:0=0:=rfl
theorem tw3064596152067565945:0=0:=rfl
theorem tw9050270458486039766:0=0:=rfl
theorem tw9913418721133415385:0=0:=rfl
theorem tw7011788156820381075:0=0:=rfl
theorem tw2790818131843105311:0=0:=rfl
theorem tw12509650108155356835:0=0:=rfl
theorem tw4057380691478864200:0=0:=rfl
theorem tw12704986931042036569:0=0:=rfl
theorem tw7849081861490248099:0=0:=rfl
theorem tw4311268267310022144:0=0:=rfl
theorem tw15663405933454711832:0=0:=rfl
theorem tw2640073413214963966:0=0:=rfl
theorem tw2489117069498193118:0=0:=rfl
theorem tw6449300033579130093:0=0:=rfl
theorem tw2615299247998115228:0=0:=rfl
theorem tw13652822028474818778:0=0:=rfl
theorem tw9676931611658922710:0=0:=rfl
theorem tw6475869614517620838:0=0:=rfl
theorem tw5279528878983735347:0=0:=rfl
theorem tw1939203285917958352:0=0:=rfl
theorem tw2037972573815577498:0=0:=rfl
theorem tw10231661470268907575:0=0:=rfl
theorem tw11132243330874681057:0=0:=rfl
theorem tw942185172614439640:0=0:=rfl
theorem tw8488624250636963924:0=0:=rfl
theorem tw641347295927930182:0=0:=rfl
theorem tw6437747009116757684:0=0:=rfl
theorem tw1412175884969349685:0=0:=rfl
theorem tw17878764876341175292:0=0:=rfl
theorem tw12141815655306336447:0=0:=rfl
theorem tw14228381323062713623:0=0:=rfl
theorem tw8390035531956987445:0=0:=rfl
theorem tw15841524126912400932:0=0:=rfl
theorem tw13871468994406876167:0=0:=rfl
theorem tw7805767974694433136:0=0:=rfl
theorem tw718589682538701269:0=0:=rfl
theorem tw133569236721202650:0=0:=rfl
theorem tw18440767744526879025:0=0:=rfl
theorem tw13044667842242635311:0=0:=rfl
theorem tw14791585855282989151:0=0:=rfl
theorem tw16870788432228400073:0=0:=rfl
theorem tw15741911189939031526:0=0:=rfl
theorem tw12861747383364438487:0=0:=rfl
theorem tw11421273231019878984:0=0:=rfl
theorem tw15432873107249869919:0=0:=rfl
theorem tw4594701973177209776:0=0:=rfl
theorem tw12563999413607011206:0=0:=rfl
theorem tw14249169660115436854:0=0:=rfl
theorem tw2207624242745235301:0=0:=rfl
theorem tw10961836931689164107:0=0:=rfl
theorem tw11643104512442552234:0=0:=rfl
theorem tw14454465518152369533:0=0:=rfl
theorem tw15829614522139127626:0=0:=rfl
theorem tw8160024834366018422:0=0:=rfl
theorem tw17804928260480784496:0=0:=rfl
theorem tw10905845297214451156:0=0:=rfl
theorem tw5251988536887882244:0=0:=rfl
theorem tw12074922111950676741:0=0:=rfl
theorem tw13232059048812551256:0=0:=rfl
theorem tw3048913190569023626:0=0:=rfl
end PySem.W.Fast
open PySem PySem.W PyProof.Rows
set_option maxRecDepth 100000 in
set_option maxHeartbeats 0 in
theorem PySem.Challenge.cw_classtab_k40_counts_by_tables_holds : PySem.Challenge.rw_classtab_k40_counts_by_tables.Holds := by
 w_on;o_law;k_head;(case hw=>w_witness2)
 k_fill
 refine C40.walk (l:=PySem.Challenge.rw_classtab_k40_counts_by_tables) rfl rfl (fun w h Y=>PySem.W.kIn_of Y) ?F
 case F=>
  intro w mg fa h KX G hmg
  refine' C40.all_mk KX G hmg (L2.ZC.mk ?_ ?_ ?_ ?_) (L2.ZC.mk ?_ ?_ ?_ ?_) (L2.ZC.mk ?_ ?_ ?_ ?_) (L2.ZC.mk ?_ ?_ ?_ ?_) (L2.ZC.mk ?_ ?_ ?_ ?_) (L2.ZC.mk ?_ ?_ ?_ ?_) (L2.ZC.mk ?_ ?_ ?_ ?_) (L2.ZC.mk ?_ ?_ ?_ ?_) (L2.ZC.mk ?_ ?_ ?_ ?_) (L2.ZC.mk ?_ ?_ ?_ ?_) (L2.ZC.mk ?_ ?_ ?_ ?_) (L2.ZC.mk ?_ ?_ ?_ ?_) (L2.ZC.mk ?_ ?_ ?_ ?_) (L2.ZC.mk ?_ ?_ ?_ ?_) (L2.ZC.mk ?_ ?_ ?_ ?_) (L2.ZC.mk ?_ ?_ ?_ ?_) (L2.ZC.mk ?_ ?_ ?_ ?_) (L2.ZC.mk ?_ ?_ ?_ ?_) (L2.ZC.mk ?_ ?_ ?_ ?_) (L2.ZC.mk ?_ ?_ ?_ ?_) (L2.ZC.mk ?_ ?_ ?_ ?_) (L2.ZC.mk ?_ ?_ ?_ ?_) (L2.ZC.mk ?_ ?_ ?_ ?_) (L2.ZC.mk ?_ ?_ ?_ ?_) (L2.ZC.mk ?_ ?_ ?_ ?_) (L2.ZC.mk ?_ ?_ ?_ ?_) (L2.ZC.mk ?_ ?_ ?_ ?_) (L2.ZC.mk ?_ ?_ ?_ ?_) (L2.ZC.mk ?_ ?_ ?_ ?_) (L2.ZC.mk ?_ ?_ ?_ ?_) (L2.ZC.mk ?_ ?_ ?_ ?_) (L2.ZC.mk ?_ ?_ ?_ ?_) (L2.ZC.mk ?_ ?_ ?_ ?_) (L2.ZC.mk ?_ ?_ ?_ ?_) (L2.ZC.mk ?_ ?_ ?_ ?_) (L2.ZC.mk ?_ ?_ ?_ ?_) (L2.ZC.mk ?_ ?_ ?_ ?_) (L2.ZC.mk ?_ ?_ ?_ ?_) (L2.ZC.mk ?_ ?_ ?_ ?_) (L2.ZC.mk ?_ ?_ ?_ ?_) (L2.ZC.mk ?_ ?_ ?_ ?_) (L2.ZC.mk ?_ ?_ ?_ ?_) ?_ ?_ ?_ ?_ ?_ ?_ ?_ ?_ ?_ ?_ ?_ ?_ ?_ ?_ ?_ ?_ ?_
  any_goals k_is
  all_goals kernel_rfl
