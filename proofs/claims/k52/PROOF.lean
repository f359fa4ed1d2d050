import PyProof.Rows.All
import Wide.All
import OpenK.AllK
import Wide.FinOn
import Lean
import PyProof.EqAt
import PyProof.EqKinds
import PyProof.TupleCall
import PyProof.DictWalks
import KE.KDictSum
import KE.KSortTup
import PyProof.EnumMake
import PyProof.EnumFor
import PyProof.TupleIter
import PyProof.Rows.Range3
import PyProof.AutoListH
import KE.LcSums
import PyProof.ZipIter
import PySem.Challenge.RW_classtab_k52_whole_things_in_another_ord
open PySem.W renaming Frag->aa,mg_none_of->ax,nsIn->bg,fnOf->cm,keepIn->dH,codeIn->eW,kas_rev->eX,kas_sort->f8,OpenLaw->gm,cellsFrom_some->gy,methodObj->iw,kat_nil->iA,KasT->jr,lks_uniq->lf,kat_sorted->lh,WalkO->ln,listOf->lL,kas_tail3->lM,mg_of->l7
open List renaming getElem?_eq_some_iff->ac,range->ae,mem_range->af,getElem?_eq_none->ak,getElem?_range->am,mem_cons_of_mem->ao,mem_cons_self->aq,getElem?_append_left->au,getElem?_append_right->aw,contains_iff_mem->ay,replicate->aA,mem_of_getElem?->aF,mem_cons->aG,mem_map->aI,map_map->aJ,all_eq_true->aP,map_cons->aQ,mem_append_right->aR,mem_singleton->aS,map_append->aU,map_congr_left->aX,any_eq_true->aY,length_set->be,ext_getElem?->bf,replicate_succ->bm,getElem_mem->bC,getElem?_of_mem->bE,Perm->bG,mem_append->bJ,nodup_cons->bQ,length_take->bT,drop_eq_getElem_cons->bU,mem_append_left->bW,flatten_cons->bY,filterMap_cons->b9,range_succ->cf,length->cu,findIdx_lt_length->cD,length_drop->cH,perm_ext_iff_of_nodup->cI,take_add_one->cP,take_length->cU,tail_cons->cV,lookup_cons->cW,range'->de,length_replicate->dG,range_eq_range'->dS,nodup_nil->dU,findIdx_getElem->dW,range'_succ->dY,not_mem_nil->dZ,nodup_range->ee,any_cons->eO,length_zip->eP,find?_cons->eQ,take_zero->eY,map_nil->eZ,drop_eq_nil_of_le->e7,drop_length->fk,getElem?_set_ne->fz,length_map->fI,any_map->fR,mem_of_find?_eq_some->fZ,getElem?_zip_eq_some->f6,getElem?_eq_none_iff->f7,pairwise_map->gf,pairwise_singleton->gE,map->gF,length_eq_zero_iff->gG,getElem?_replicate->gH,pairwise_lt_range->gN,mem_filter->gR,any_append->gS,pairwise_append->hU,mem_filterMap->iB,map_inj_right->iC,lookup_append->iD,getElem?_take->iE,find?_eq_none->iF,take_sublist->iN,getElem?_set->iO,findIdx_lt_length_of_exists->iP,append_assoc->iQ,of_mem_zip->jg,length_nil->jh,forIn_cons->ji,find?_some->jj,append_nil->jm,forIn_nil->jB,pairwise_iff_getElem->jF,find?_range_eq_some->jO,take_of_length_le->j3,map_set->j6,length_pos_of_mem->j7,getElem?_set_self->j8,any_nil->j9,getElem?_toArray->kD,filterMap_append->kE,mem_erase_of_ne->kN,length_eraseIdx->kO,filter_sublist->ly,zip_cons_cons->lG,pairwise_cons->lH,foldl->lI,nodup_append->lU,getElem?_inj->lV,foldl_append->lW,zipIdx_cons->mf,getElem_map->mh,ext_getElem->mm,countP_cons->mo
open Bool renaming and_eq_true->ag,false_ne_true->aH,or_eq_true->bq,false_eq_true->di,eq_iff_iff->eR,or_false->fu,and_true->fv,not_eq_true'->gh,false_or->gw,eq_false_iff->lZ
open Classical renaming byContradiction->ah
open PySem.PassesOwn renaming never->av
open PySem.Value renaming ref->aB,none->a9,type->cn,int->fN,bool->ix,isInt_shape->iI,str->lN
open Nat renaming ne_of_lt->aC,lt_of_lt_of_le->aE,le_trans->aZ,zero_le->a5,ne_of_gt->bb,dvd_of_mod_eq_zero->bc,lt_of_le_of_ne->bx,mod_eq_of_lt->bM,mod_lt->bP,lt_irrefl->bR,succ_mul->b8,lt_or_ge->cq,mul_le_mul_right->cx,sub_self->cF,le_of_lt->cR,lt_succ_self->c6,sub_zero->dw,add_sub_cancel->dz,le_of_succ_le->dN,le_add_right->eh,not_lt_zero->eS,mul_comm->fc,lt_succ_of_lt->fe,lt_of_succ_lt_succ->ff,le_of_not_lt->ft,min_le_left->fM,mul_le_mul_left->fQ,zero_mul->fV,le_succ->gu,le_of_dvd->gD,succ_lt_succ->gJ,add_zero->gQ,mod_add_mod->gY,mul_one->ik,mul_le_mul->im,zero_add->iT,lt_trans->iU,succ_ne_zero->jb,mul_add->jf,div_le_self->jw,lt_of_mul_lt_mul_left->jN,mul_assoc->jW,add_lt_add_iff_right->jX,succ_pos->kB,min_self->kC,mod_eq_sub_mod->lT,lt_trichotomy->md,add_mod_right->me
open Option.some renaming inj->aD
open Int renaming natCast_mul->aK,natCast_emod->a6,mul_emod->bH,emod_lt_of_pos->bI,emod_nonneg->bV,mul_assoc->bZ,zero_mul->ce,mul_zero->cr,add_zero->cG,mul_le_mul_of_nonneg_right->c7,eq_ofNat_of_zero_le->c8,zero_add->dA,natCast_nonneg->dB,mul_comm->dC,natCast_ediv->eB,natCast_add->eV,emod_eq_of_lt->fg,emod_emod_of_dvd->fF,neg_mul->gv,sub_emod->gU,mul_one->io,dvd_refl->iV,one_mul->jo,mul_sub->jp,ediv_nonneg->jx,sub_zero->kF,sub_mul->lz,add_mul->lA,lt_of_lt_of_le->lX,lt_of_le_of_lt->lY
open Array renaming getElem?_eq_getElem->aM,getElem?_eq_none->cz,getD_eq_getD_getElem?->cB,getElem?_toList->cK,size_extract->fW,perm_iff_toList_perm->jy,toArray_toList->kG,getD->lB,toList_push->lJ
open PySem renaming Spec->aN,wpAny_callSpecial?_slot->bn,wpAny_call_entry->bv,mem_of_lookup->bA,wpAny_setField_rec->bK,wpAny_field->bN,wpAny_newObj_type->bO,codeAny_builtin->bX,wpAny_seqItems->ci,wpAny_mono->cv,Builtin->cC,wpAny_holding->cM,Scope->cO,plainId_quiet->cY,wpAny_setField->dk,IsPair->dI,wpAny_passesOwn->dO,wpAny_attempt->dQ,wpAny_pyIter_enum->dX,wpAny_rule->eE,PyData->eF,NameKind->eG,wpAny_truthy_bool->fm,wpAny_pyIter_list->fo,codeAny_mono->fq,call_meets->fJ,sizeLine_eq->fS,wpAny_pyIter_tuple->gx,IsEnum->gC,ItemsOf->gL,IsRangeIter->gM,wpAny_isInstance->gZ,wpAny_typeOf->ic,wpAny_pyNext_range_end->ie,wpAny_pyIter_rangeiter->ig,wpAny_execs_nil->iq,IsZip->ir,wpAny_updateSeq_pair->iG,wpAny_fieldsOf->iH,BindsTo->iM,wpAny_onRaise->iW,wpAny_pyIter_range->i0,wpAny_load->i6,wpAny_Call_Name_kw->i7,tupleKind_room_in1->i9,wpAny_askSetting->jC,wpAny_of_eq->jG,wpAny_letGo->jH,wpAny_ite_split->jP,codeAny_of_tree->jQ,wpAny_runValue->ka,wpAny_newTuple->kc,wpAny_letOwnedTupleGo_enum->ke,isSubtype_type->kf,isSubtype_stop->kg,Paired->km,Operator->ko,Drawn->kw,wpAny_standAt->kQ,wpAny_newList->kS,wpAny_comprehension_free->kU,rangeSize_one->kW,call->kZ,wpAny_Call_method_late->lK,wpAny_isTrue_Compare1->l5,builtinLookup_eq_fast->l6
open PySem.F renaming plainAttrs_list->aO,slot_list_append->aT,type_list_append->aV,called_set->ck,slot_tuple_iterator_next->ef,plain_list_iadd->eL,slot_enumerate_next->fw,slot_tuple_index->gI,called_tuple->gP,slot_zip_next->hG,plain_proto_collect->iZ,plain_extend_loop->je,type_tuple_index->jt,plainAttrs_tuple->ju,args_tuple_iterator_next_1->jD,plain_set_new->jL,entry_tuple_iterator_next->jM,slot_list_lt->jS,args_object_init_2->jT,slot_list_insert->kq,slot_list_extend->ku,slot_list_index->kI,args_enumerate_next_1->kJ,entry_enumerate_next->lr
open PySem.PyData renaming int->aW,canLayAll0->cw,tuple->c9,depthAll->df,leavesShortAll->dD,depth->dR,showableAll->eK,shown->fH,eqv->fO,canLay0->fP,hasDictAll->fX,bulkAll->gX,showable->iX,leavesShort->kH,hasDict->l9
open PySem.Builtin.SmallTypes renaming nextOf->a7,ownedTupleIsFree->bu,ownedTupleHandOut->cg
open PyProof.Rows renaming IntsAre->a8,callWith_type1->bo,AllBare->ii,firstMet_length_le->ja,get?_update_seq->jV,boot_range->kA,firstMet_succ->lu,subscriptTail_builtinR->lR
open PySem.Heap renaming SameBut->ba,size_push->bt,get?_update_self->bB,get?_update_other->bS,ExtBut->g9,size_update->iY,get?_push_ne->lQ
open PySem.Builtin.Range renaming rangeSize->bd,small->cp,rangeFitsLong->iu
open Ne renaming symm->bh
open PySem.Obj renaming data_mapFields->bw,mapSeq->cL,isFreed_of_fields->cN,cls_mapFields->gq,mapFields->gA,putSet->iJ
open PySem.Around renaming under_plainId->bD
open PySem.Heap.SameBut renaming update->bF
open Nat.succ renaming inj->cy
open ForInStep renaming yield->cJ
open PySem.Str renaming ofString->cQ
open List.Perm renaming refl->cS,eq_of_pairwise->jc,of_eq->kP
open List.Pairwise renaming sublist->cT,imp_of_mem->dJ,nil->eA,map->fC
open PySem.Builtin.List renaming listExtendWith->cZ,listTooLong->dM,listLengthHint->fh,listFitsIndex->fj,listSameRef->iL
open PySem.NameKind renaming cell->db,free->e9
open Option renaming map_some->dh,isSome_iff_exists->fY,isSome_map->lx,getD_none->lF
open PyProof.Rows.F renaming plain_set_update_loop->dE,entry_set_update_loop->gt
open PySem.SetTable renaming grown->dF,below->lD,slot->lO,fits->lP
open False renaming elim->dP
open PySem.MeetsSeq3 renaming plain_eq_loop->eC,entry_eq_loop->jd
open PySem.SeqAt.EqAt renaming int_int->fG,str_int->jI,int_str->jK
open PySem.SeqAt renaming shaped->fK,items_eqAt->iS,EqAt->ki,any_by_data->lE
open PySem.Data renaming cell->fU,fields->f9
open True renaming intro->gK
open Sum renaming inl->gO,inr->iR
open Std.Legacy renaming Range->ip
open PySem.Builtin.Tuple renaming tupleItemsOf->iy,tupleExact->iK
open PySem.pickOrder renaming go->jq
open PySem.Calls renaming Name_function_global->jv,callWith_builtin->jU,evalArgs_plain->kx,call_function_entry->kK
open PySem.Paired renaming length->jA
open PyProof renaming noPylong_small->jE
open PySem.IsRange renaming new->jR
open PySem.W.UpdF renaming head->jY
open PySem.Shared renaming heap->jZ
open PySem.Walks renaming range->kh,list->lc
open Prod renaming fst->kL
open PySem.W.KatTups renaming cons->lq,nil->lC
open PyProof.Rows.IsTup renaming new->lS
open PySem.Heap.IsTuple renaming typeIs->ma
set_option Elab.async false
set_option linter.all false
set_option maxRecDepth 100000
theorem Za {α j:Type _}{l:List α}{f:α->j}:(l.map f).length=l.length:=fI ..
theorem Zb {α:Type _}{l:List α}{i:Nat}{a:α}:l.getD i a=l[i]?.getD a:=List.getD_eq_getElem?_getD ..
theorem Zc {α j:Type _}{f:α->j}{l:List α}{i:Nat}:(l.map f)[i]?=l[i]?.map f:=List.getElem?_map ..
theorem Zd {α:Type _}{a b:List α}:(a++b).length=a.length+b.length:=List.length_append ..
theorem Ze {α:Type _}{n:Nat}{a:α}:(aA n a).length=n:=dG ..
theorem Zf {α:Type _}{l:List α}{i:Nat}(h:i<l.length):l[i]?=some l[i]:=List.getElem?_eq_getElem h
theorem Zg {n:Nat}:(ae n).length=n:=List.length_range ..
theorem Zh {α:Type _}{l:List α}:l.toArray.size=l.length:=List.size_toArray ..
theorem Zi {α:Type _}{a:α}{l:List α}:(a::l).length=l.length+1:=List.length_cons ..
theorem Zj (n:Nat):(n:Int).toNat=n:=Int.toNat_natCast n
theorem Zk {α:Type _}{a:α}:[a].length=1:=List.length_singleton ..
noncomputable abbrev Zl:=@PySem.wpAny_bind
noncomputable abbrev Zm:=@PySem.wpAny_pure
noncomputable abbrev Zn:=@PySem.Heap.get?_push_of_some
noncomputable abbrev Zo:=@PySem.Heap.get?_push_size
noncomputable abbrev Zp:=@PySem.Heap.lt_size
noncomputable abbrev Zq:=@Nat.le_refl
noncomputable abbrev Zr.{u}:=@Array.length_toList.{u}
namespace L2
open PySem PySem.Spec PyProof.Rows
noncomputable abbrev Yx:=Sum Int Str
noncomputable def U0:Yx->Value->Bool
 | .inl k,v=>Value.isInt k v
 | .inr x,v=>Value.isStrOf x v
noncomputable def Zo4 (w:World):Yx->Int
 | .inl k=>hashInt k
 | .inr x=>hashStr w x
theorem Yn:∀{k:Yx}{v:Value},U0 k v=true->(∃i t,k=gO i/\v=fN i t)\/(∃x t,k=iR x/\v=lN x t)
 | .inl i,v,h=>by
  obtain⟨t,e⟩:=iI (k:=i) (v:=v) h;exact .inl ⟨i,t,rfl,e⟩
 | .inr x,v,h=>by
  obtain⟨t,e⟩:=Value.isStrOf_shape (x:=x) (v:=v) h;exact .inr ⟨x,t,rfl,e⟩
theorem Zff (i:Int)(t:Tok):U0 (.inl i) (.int i t)=true:=by simp[U0,Value.isInt]
theorem Zfe (x:Str)(t:Tok):U0 (.inr x) (.str x t)=true:=by simp[U0,Value.isStrOf]
theorem ZlJ (a b:Int):decide ((gO a:Yx)=gO b)=(a == b):=by
 by_cases e:a=b
 ·subst e;simp
 ·have h:¬(gO a:Yx)=gO b:=fun q=>e (Sum.inl.inj q)
  rw[decide_eq_false h];exact (beq_eq_false_iff_ne.mpr e).symm
theorem ZlG (a b:Str):decide ((iR a:Yx)=iR b)=decide (a=b):=by
 by_cases e:a=b
 ·subst e;simp
 ·have h:¬(iR a:Yx)=iR b:=fun q=>e (Sum.inr.inj q)
  rw[decide_eq_false h,decide_eq_false e]
theorem ZlI (a:Int)(b:Str):decide ((gO a:Yx)=iR b)=false:=decide_eq_false (fun q=>nomatch q)
theorem ZlH (a:Str)(b:Int):decide ((iR a:Yx)=gO b)=false:=decide_eq_false (fun q=>nomatch q)
noncomputable def Yw (prog:Program)(w:World):PySem.KeyKind prog w Yx where
 is:=U0
 hash:=Zo4 w
 inj:=fun v a b M hb=>by
  rcases Yn M with ⟨i,t,rfl,rfl⟩|⟨x,t,rfl,rfl⟩
  ·rcases Yn hb with ⟨j,u,rfl,e⟩|⟨y,u,rfl,e⟩
   ·injection e with q _;rw[q]
   ·exact nomatch e
  ·rcases Yn hb with ⟨j,u,rfl,e⟩|⟨y,u,rfl,e⟩
   ·exact nomatch e
   ·injection e with q _;rw[q]
 byValue:=fun k v h=>by
  rcases Yn h with ⟨i,t,rfl,rfl⟩|⟨x,t,rfl,rfl⟩ <;> rfl
 pyHash:=fun J h=>by
  rcases Yn J with ⟨i,t,rfl,rfl⟩|⟨x,t,rfl,rfl⟩
  ·exact wpAny_pyHash_int h
  ·exact wpAny_pyHash_str h
 eqBool:=fun O J h=>by
  rcases Yn O with ⟨i,t,rfl,rfl⟩|⟨x,t,rfl,rfl⟩
  ·rcases Yn J with ⟨j,u,rfl,rfl⟩|⟨y,u,rfl,rfl⟩
   ·rw[ZlJ] at h;exact wpAny_eqBool_int h
   ·rw[ZlI] at h;exact jK i t y u _ _ _ _ h
  ·rcases Yn J with ⟨j,u,rfl,rfl⟩|⟨y,u,rfl,rfl⟩
   ·rw[ZlH] at h;exact jI x t j u _ _ _ _ h
   ·rw[ZlG] at h;exact wpAny_eqBool_str h
 «strs»:=fun k x t v h=>by
  rcases Yn h with ⟨i,u,rfl,e⟩|⟨y,u,rfl,e⟩
  ·exact nomatch e
  ·injection e with q _
   subst q;cases v <;> rfl
theorem ZbU (prog:Program)(w:World)(i:Int)(t:Tok):(Yw prog w).is (.inl i) (.int i t)=true:=Zff i t
theorem ZbT (prog:Program)(w:World)(x:Str)(t:Tok):(Yw prog w).is (.inr x) (.str x t)=true:=Zfe x t
inductive V where
 |non|bl (b:Bool)|int (i:Int)|str (x:Str)|byt (b:Array UInt8)|flt (b:UInt64)|ref (a:Addr)|ty (n:String)
 deriving DecidableEq
noncomputable def RelV:V->Value->Prop
 | .non,u=>u=a9
 | .bl b,u=>u=ix b
 | .int i,u=>∃t,u=fN i t
 | .str x,u=>∃t,u=lN x t
 | .byt b,u=>∃t,u=Value.bytes b t
 | .flt b,u=>∃t,u=Value.float b t
 | .ref a,u=>u=aB a
 | .ty n,u=>u=cn n
noncomputable abbrev ZL:List V->List Value->Prop:=km RelV
theorem ZL.length {xs:List V}{us:List Value}(r:ZL xs us):xs.length=us.length:=jA r
theorem ZL.get:∀{xs:List V}{us:List Value}{i:Nat}{x:V},ZL xs us->xs[i]?=some x->∃u,us[i]?=some u/\RelV x u
 |_,_,_,_,.nil,e=>by simp at e
 |_,_,0,_,.cons r _,e=>by simp at e;subst e;exact⟨_,rfl,r⟩
 |_,_,i+1,x,.cons _ t,e=>by
  obtain⟨u,j,q⟩:=ZL.get (i:=i) (x:=x) t (by simpa using e);exact⟨u,by simpa using j,q⟩
theorem ZL.set {x:V}{u:Value}(r:RelV x u):∀{xs:List V}{us:List Value} (i:Nat),ZL xs us->ZL (xs.set i x) (us.set i u)
 |_,_,_,.nil=>.nil
 |_,_,0,.cons _ t=>.cons r t
 |_,_,i+1,.cons q t=>.cons q (ZL.set r i t)
theorem ZL.append:∀{xs ys:List V}{us j:List Value},ZL xs us->ZL ys j->ZL (xs++ys) (us++j)
 |_,_,_,_,.nil,s=>s
 |_,_,_,_,.cons r t,s=>.cons r (ZL.append t s)
theorem ZL.take:∀{xs:List V}{us:List Value} (n:Nat),ZL xs us->ZL (xs.take n) (us.take n)
 |_,_,0,_=>.nil
 |_,_,_+1,.nil=>.nil
 |_,_,n+1,.cons r t=>.cons r (ZL.take n t)
theorem ZL.drop:∀{xs:List V}{us:List Value} (n:Nat),ZL xs us->ZL (xs.drop n) (us.drop n)
 |_,_,0,r=>r
 |_,_,_+1,.nil=>.nil
 |_,_,n+1,.cons _ t=>ZL.drop n t
noncomputable def UF:Option V->Option Value->Prop
 |some v,some u=>RelV v u
 |none,none=>True
 |_,_=>False
noncomputable def KV {j:Type}:List (j×V)->List (j×Value)->Prop:=km fun (p:j×V) (q:j×Value)=>p.1=q.1/\RelV p.2 q.2
noncomputable def kV:Yx->V
 | .inl i=>.int i
 | .inr x=>.str x
inductive HO where
 |lst (xs:List V)
 |tup (xs:List V)
 |dK (kvs:List (Yx×V))|dT (kvs:List (List Yx×V))
 |set (S:Int->Bool) (n:Nat)
 |ins (C dx:Addr) (fs:List (Str×V))
 |own (x:Addr)
 |xd (fs:List (Str×V))
 |met (f x:Addr)
 |rng (lo hi:Int)
 |frz (o:Obj) (u:HO)
 |tbl (ps:Array Value)
 |ext (φ:Heap->Prop)
noncomputable abbrev Hp:=Addr->Option HO
noncomputable def upd (H:Hp)(a:Addr)(o:HO):Hp:=fun b=>if b=a then some o else H b
theorem Zt {H:Hp}{a:Addr}{o:HO}:upd H a o a=some o:=by unfold upd;rw[if_pos rfl]
theorem Zy {H:Hp}{a b:Addr}{o:HO}(h:b≠a):upd H a o b=H b:=by unfold upd;rw[if_neg h]
theorem Ziv {H:Hp}{a:Addr}{o u:HO}:upd (upd H a o) a u=upd H a u:=by
 funext b;unfold upd;split <;> rfl
theorem Zhe {H:Hp}{a b:Addr}{o u:HO}(h:H a=some o)(h':H b=some u)(d:o≠u):a≠b:=by
 intro e;subst e;rw[h] at h';exact d (aD h')
theorem Z8 {H:Hp}{a b:Addr}{o:HO}(h:H a=some o)(h':H b=none):a≠b:=by
 intro e;subst e;rw[h] at h';cases h'
section
variable (P:Program)(w:World)
noncomputable def Yt (H:Hp)(h:Heap)(a:Addr):HO->Prop
 | .lst M=>M.length<=sizeLine/\∃(j:List Value) (n:Nat),ZL M j/\h.get? a=some {cls:=.type "list",data:=.seq j.toArray n}
 | .tup M=>M.length<=sizeLine/\∃j:List Value,ZL M j/\IsTup h a j.toArray
 | .dK J=>J.length<=sizeLine/\(a == sysModules)=false/\∃vs,KV J vs/\h.DictOf (Yw P w) a vs
 | .dT J=>J.length<=sizeLine/\(a == sysModules)=false/\∃M:List (List Yx×Addr×Value),
   km (fun (p:List Yx×V) (q:List Yx×Addr×Value)=>p.1=q.1/\H q.2.1=some (.tup (p.1.map kV))/\RelV p.2 q.2.2) J M/\
   ∃o es ep,h.get? a=some o/\o.ExactDict/\o.data=.dict es ep/\es.toList=M.map (entryOfKey (tupleKind (Yw P w)))/\(M.map (·.1)).Nodup
 | .set S n=>h.SetOf (intKind P w) a S n
 | .ins C U fs=>H U=some (.own a)/\fs.length<=1000/\U≠a/\h.get? a=some (PySem.W.instObj C U)/\
   ∃O,h.Ns1 U O/\(∀f,UF (fs.lookup f) (O f))/\PySem.Within O (fs.map (·.1))
 | .own _=>∃o,h.get? a=some o
 | .xd fs=>∃O,h.Ns1 a O/\∀f,UF (fs.lookup f) (O f)
 | .rng lo hi=>∃t u v,h.get? a=some {cls:=.type "range",data:=.fields #[.int lo t,.int hi u,.int 1 v]}
 | .frz o u=>h.get? a=some o/\Yt H h a u
 | .tbl ps=>h.get? a=some {cls:=.none,data:=.fields ps}
 | .met f x=>h.get? a=some (iw (.ref f) (.ref x))
 | .ext Y=>Y h/\(∃o,h.get? a=some o)/\∀h1 h2:Heap,Y h1->(∀o,h1.get? a=some o->h2.get? a=some o)->Y h2
noncomputable def XS (H:Hp)(h:Heap):Prop:=∀a o,H a=some o->Yt P w H h a o
end
section
variable {P:Program}{w:World}{H H':Hp}{h h':Heap}{a:Addr}{o:HO}
theorem Yt.lt (x:Yt P w H h a o):a<h.objs.size:=by
 cases o with
 |lst q=>obtain⟨_,_,_,_,e⟩:=x;exact Zp e
 |tup q=>obtain⟨_,_,_,p⟩:=x;exact p.lt
 |dK j=>obtain⟨_,_,_,_,o,_,_,e,_⟩:=x;exact Zp e
 |dT j=>obtain⟨_,_,_,_,o,_,_,e,_⟩:=x;exact Zp e
 |set S n=>obtain⟨o,_,_,_,e,_⟩:=x;exact Zp e
 |ins C J fs=>obtain⟨_,_,_,e,_⟩:=x;exact Zp e
 |own y=>obtain⟨_,e⟩:=x;exact Zp e
 |xd fs=>obtain⟨_,⟨_,_,_,e,_⟩,_⟩:=x;exact Zp e
 |rng lo M=>obtain⟨_,_,_,e⟩:=x;exact Zp e
 |frz O u=>obtain⟨e,_⟩:=x;exact Zp e
 |tbl U=>exact Zp (show h.get? a=some _ from x)
 |met f y=>exact Zp (show h.get? a=some _ from x)
 |ext Y=>obtain⟨_,⟨_,e⟩,_⟩:=x;exact Zp e
theorem km.mapP {α J:Type}{F G:α->J->Prop}:∀{j:List α}{q:List J},km F j q->(∀a b,F a b->G a b)->km G j q
 |_,_,.nil,_=>.nil
 |_,_,.cons r t,f=>.cons (f _ _ r) (km.mapP t f)
theorem Yt.stay (x:Yt P w H h a o)(k:∀b u,(b=a\/H b=some (.own a))->h.get? b=some u->h'.get? b=some u)
  (ho:∀b,H b=some (.own a)->H' b=some (.own a)) (ht:∀b xs,H b=some (.tup xs)->H' b=some (.tup xs)):Yt P w H' h' a o:=by
 induction o with
 |lst xs=>obtain⟨z,O,n,r,e⟩:=x;exact⟨z,O,n,r,k _ _ (.inl rfl) e⟩
 |tup xs=>obtain⟨z,O,r,j,e,c⟩:=x;exact⟨z,O,r,j,k _ _ (.inl rfl) e,c⟩
 |dK U=>obtain⟨z,y,vs,r,j,J,M,e,c⟩:=x;exact⟨z,y,vs,r,j,J,M,k _ _ (.inl rfl) e,c⟩
 |dT U=>
  obtain⟨z,y,xs,r,j,J,M,e,c⟩:=x;exact⟨z,y,xs,km.mapP r fun p q z=>⟨z.1,ht _ _ z.2.1,z.2.2⟩,j,J,M,k _ _ (.inl rfl) e,c⟩
 |set S n=>obtain⟨j,J,M,t,e,c⟩:=x;exact⟨j,J,M,t,k _ _ (.inl rfl) e,c⟩
 |ins C dx fs=>
  obtain⟨d,z,ne,e,Y,⟨od,J,M,e2,c⟩,r⟩:=x;exact⟨ho _ d,z,ne,k _ _ (.inl rfl) e,Y,⟨od,J,M,k _ _ (.inr d) e2,c⟩,r⟩
 |own y=>obtain⟨j,e⟩:=x;exact⟨j,k _ _ (.inl rfl) e⟩
 |xd fs=>obtain⟨Y,⟨od,J,M,e,c⟩,r⟩:=x;exact⟨Y,⟨od,J,M,k _ _ (.inl rfl) e,c⟩,r⟩
 |rng lo hi=>obtain⟨t,u,v,e⟩:=x;exact⟨t,u,v,k _ _ (.inl rfl) e⟩
 |frz j u ih=>obtain⟨e,q⟩:=x;exact⟨k _ _ (.inl rfl) e,ih q⟩
 |tbl ps=>
  have e:h.get? a=some {cls:=.none,data:=.fields ps}:=x;show h'.get? a=some {cls:=.none,data:=.fields ps};exact k a _ (.inl rfl) e
 |met f y=>
  have e:h.get? a=some (iw (.ref f) (.ref y)):=x;show h'.get? a=some (iw (.ref f) (.ref y));exact k a _ (.inl rfl) e
 |ext φ=>obtain⟨p,⟨o,e⟩,st⟩:=x;exact⟨st _ _ p fun o q=>k _ _ (.inl rfl) q,⟨o,k _ _ (.inl rfl) e⟩,st⟩
theorem XS.lt (x:XS P w H h)(e:H a=some o):a<h.objs.size:=(x a o e).lt
theorem XS.fresh (x:XS P w H h)(e:h.objs.size<=a):H a=none:=by
 cases q:H a with
 |none=>rfl
 |some u=>exact absurd (aE (x.lt q) e) (bR _)
theorem XS.kept (x:XS P w H h)(k:∀b u,h.get? b=some u->h'.get? b=some u):XS P w H h':=fun a o e=>
 (x a o e).stay (fun b u _ q=>k b u q) (fun _ q=>q) fun _ _ q=>q
theorem XS.laid (x:XS P w H h)(k:∀b u,h.get? b=some u->h'.get? b=some u)(M:h.objs.size<=a)(j:Yt P w (upd H a o) h' a o):XS P w (upd H a o) h':=fun b u e=>by
 have J:=x.fresh M;by_cases hb:b=a
 ·subst hb;rw[Zt] at e;cases e;exact j
 ·rw[Zy hb] at e
  exact (x b u e).stay (fun c v _ q=>k c v q) (fun c q=>by rw[Zy (Z8 q J)];exact q) fun c O q=>by rw[Zy (Z8 q J)];exact q
end
noncomputable def Rd (H:Hp)(a:Addr)(u:HO):Prop:=H a=some u\/∃o,H a=some (.frz o u)
theorem Rd.ok {P:Program}{w:World}{H:Hp}{h:Heap}{a:Addr}{u:HO}(r:Rd H a u)(x:XS P w H h):Yt P w H h a u:=by
 rcases r with r|⟨o,r⟩
 ·exact x a u r
 ·obtain⟨_,q⟩:=x a _ r
  exact q
noncomputable def Mut:Option HO->Prop
 |some (.lst _)=>True
 |some (.dK _)=>True
 |some (.dT _)=>True
 |some (.set _ _)=>True
 |some (.ins _ _ _)=>True
 |some (.ext _)=>True
 |_=>False
section
variable {P:Program}{w:World}{H:Hp}{h h':Heap}{x e:Addr}{o':HO}
theorem XS.write (ok:XS P w H h)(O:Mut (H x))(he:e=x\/H e=some (.own x))(k:∀b u,b≠e->h.get? b=some u->h'.get? b=some u)(m5:∃u,h'.get? e=some u)
  (m6:Yt P w (upd H x o') h' x o'):XS P w (upd H x o') h':=fun b u q=>by
 have J:∀c y,H c=some (.own y)->c≠x:=fun c y r z=>by subst z;rw[r] at O;exact O
 have M:∀c U,H c=some (.tup U)->c≠x:=fun c U r z=>by subst z;rw[r] at O;exact O
 by_cases hb:b=x
 ·subst hb;rw[Zt] at q;cases q;exact m6
 ·rw[Zy hb] at q
  by_cases j:b=e
  ·have q':H b=some (.own x):=by
    rcases he with z|z
    ·exact absurd (j.trans z) hb
    ·rw[j];exact z
   rw[q] at q';cases q';obtain⟨v,hv⟩:=m5;exact⟨v,by rw[j];exact hv⟩
  ·refine (ok b u q).stay (fun c v Y r=>k c v ?_ r) (fun c r=>by rw[Zy (J c b r)];exact r) fun c U r=>by rw[Zy (M c U r)];exact r
   rcases Y with rfl|Y
   ·exact j
   ·rintro rfl
    rcases he with z|z
    ·exact J c b Y z
    ·rw[Y] at z;cases z;exact hb rfl
end
structure Un (fs ex:List Addr)(H H':Hp)(h h':Heap):Prop where
 keep:∀b o,h.get? b=some o->H b=none->b∉fs->b∉ex->h'.get? b=some o
 slot:∀b o,h.get? b=some o->H b=none->b∈fs->b∉ex->∃sl,h'.get? b=some {o with slots:=sl}
 free:∀b o,h.get? b=some o->H b=none->b∉ex->H' b=none
 there:∀b o,h.get? b=some o->b∉ex->∃o',h'.get? b=some o'
 tups:∀b xs,H b=some (.tup xs)->H' b=some (.tup xs)
 frzs:∀b o u,H b=some (.frz o u)->H' b=some (.frz o u)
 tbls:∀b ps,H b=some (.tbl ps)->∃more,H' b=some (.tbl (ps++more))
section
variable {fs fs' ex ex':List Addr}{H H1 H2:Hp}{h h1 h2 h':Heap}{a x e:Addr}{o:HO}
theorem Un.any (u:Un fs ex H H1 h h1){b:Addr}{j:Obj}(q:h.get? b=some j)(n:H b=none)(J:b∉ex):∃M,h1.get? b=some {j with slots:=M}:=by
 by_cases hb:b∈fs
 ·exact u.slot b j q n hb J
 ·exact⟨j.slots,u.keep b j q n hb J⟩
theorem Un.kept (k:∀b u,h.get? b=some u->h'.get? b=some u):Un fs ex H H h h':=
 ⟨fun b j q _ _ _=>k b j q,fun b j q _ _ _=>⟨j.slots,k b j q⟩,fun _ _ _ n _=>n,fun b j q _=>⟨j,k b j q⟩,fun _ _ q=>q,fun _ _ _ q=>q,fun _ J q=>⟨#[],by rw[q];simp⟩⟩
theorem Un.refl:Un fs ex H H h h:=Un.kept fun _ _ q=>q
theorem Un.laid (k:∀b u,h.get? b=some u->h'.get? b=some u)(J:h.objs.size<=a)(j:H a=none):Un fs ex H (upd H a o) h h' where
 keep:=fun b u q _ _ _=>k b u q
 slot:=fun b u q _ _ _=>⟨u.slots,k b u q⟩
 free:=fun b u q n _=>by rw[Zy (aC (aE (Zp q) J))];exact n
 there:=fun b u q _=>⟨u,k b u q⟩
 tups:=fun b M q=>by rw[Zy (Z8 q j)];exact q
 frzs:=fun b u M q=>by rw[Zy (Z8 q j)];exact q
 tbls:=fun b O q=>⟨#[],by rw[Zy (Z8 q j),q];simp⟩
theorem Un.write (J:Mut (H x))(Y:e=x\/H e=some (.own x))(k:∀b u,b≠e->h.get? b=some u->h'.get? b=some u)(M:∃u,h'.get? e=some u):Un fs ex H (upd H x o) h h':=by
 have U:∀b,H b=none->b≠x:=fun b n z=>by subst z;rw[n] at J;exact J
 have hb:∀b,H b=none->b≠e:=fun b n z=>by
  subst z;rcases Y with r|r
  ·exact U b n r
  ·rw[n] at r;cases r
 have O:∀b u,H b=some u->¬Mut (some u)->b≠x:=fun b u q nm z=>by subst z;rw[q] at J;exact nm J
 refine⟨fun b u q n _ _=>k b u (hb b n) q,fun b u q n _ _=>⟨u.slots,k b u (hb b n) q⟩,fun b u q n _=>by rw[Zy (U b n)];exact n,fun b u q _=>?_,
  fun b xs q=>by rw[Zy (O b _ q fun z=>z)];exact q,fun b u xs q=>by rw[Zy (O b _ q fun z=>z)];exact q,fun b ps q=>⟨#[],by rw[Zy (O b _ q fun z=>z),q];simp⟩⟩
 by_cases j:b=e
 ·subst j;exact M
 ·exact⟨u,k b u j q⟩
end
noncomputable def trk (h:Heap)(H:Hp):List Addr:=(ae h.objs.size).filter fun a=>(H a).isSome
noncomputable def ZaK (h:Heap)(H:Hp):Heap:=PySem.W.hideAll h (trk h H)
theorem Zfj (h:Heap)(H:Hp):(ZaK h H).objs.size=h.objs.size:=PySem.W.hideAll_size _ _
theorem ZhA {h:Heap}{H:Hp}{b:Addr}{o:Obj}(e:h.get? b=some o)(n:H b=none):(ZaK h H).get? b=some o:=
 PySem.W.hideAll_get _ e fun j=>by
  have q:(H b).isSome=true:=(gR.mp j).2;rw[n] at q;simp at q
theorem Zjo {h:Heap}{H:Hp}{b:Addr}{o:Obj}(e:(ZaK h H).get? b=some o):h.get? b=some o/\H b=none:=by
 have j:h.get? b=some o:=PySem.W.of_hideAll (trk h H) e;refine⟨j,?_⟩;cases q:H b with
 |none=>rfl
 |some x=>
  have J:b∈trk h H:=gR.mpr ⟨af.mpr (Zp j),by simp[q]⟩;have z:(ZaK h H).get? b=none:=PySem.W.hideAll_none (trk h H) J;rw[z] at e;cases e
structure Mod (K:aa)(mg:Str->Option Value)(base:Heap):Prop where
 kin:K.In base
 glob:base.Ns mainGlobals mg
 blt:∃mb,base.Ns builtinsNs mb/\∀x:Str,x ≠ "__name__"->mb x=bootBuiltins x
 nolimit:base.NoLimit
structure Cx where
 prog:Program
 w:World
 K:aa
 mg:Str->Option Value
 base:Heap
 A:Around
 N:List Str
 s₀:Shared
 H₀:Hp
 env:Env
 outer:List Env
 stack:List Env
 ex:List Addr
 fn:Str->Bool
 calm:Bool
 pn:List (Addr×Obj)
 xe:Value->Shared->Prop
noncomputable def frs (l:List Env):List Addr:=l.filterMap (·.frame)
noncomputable abbrev Cx.fs (X:Cx):List Addr:=frs X.outer
noncomputable def Vis (j:cO)(x:Str):Prop:=j.names.lookup x=some .local\/j.names.lookup x=some .cell\/j.names.lookup x=some .free
noncomputable def Loc (j:cO)(x:Str):Prop:=j.names.lookup x=some .local\/j.names.lookup x=some .cell
noncomputable def Look (env:Env)(h:Heap)(m:Str->Option Value)(x:Str)(u:Value):Prop:=
 (env.kindOf x=some .local/\m x=some u)\/((env.kindOf x=some .cell\/env.kindOf x=some .free)/\∃c,env.cells.lookup x=some c/\h.IsCell c (some u))
structure Cx.Ok (X:Cx):Prop where
 mod:Mod X.K X.mg X.base
 kind:X.env.scope.kind=.function
 glob:X.env.globals=mainGlobals
 blt:X.env.builtins=builtinsNs
 above:X.s₀.heap.objs.size<=X.env.locals
 inj:∀x y c,X.env.cells.lookup x=some c->X.env.cells.lookup y=some c->x=y
 has:∀x,(X.env.kindOf x=some .cell\/X.env.kindOf x=some .free)->∃c,X.env.cells.lookup x=some c
 cab:∀x c,X.fn x=true->X.env.cells.lookup x=some c->X.s₀.heap.objs.size<=c
 hd:X.calm=true->X.A.handled=none
 frames:X.A.frames=some X.stack
 stk:X.stack=X.outer\/(X.stack=X.env::X.outer/\X.env.frame=some X.env.locals)
 exf:∀b∈X.ex,b≠X.env.locals/\∀x c,X.env.cells.lookup x=some c->c≠b
 bs:∀b o,X.base.get? b=some o->X.s₀.heap.get? b=some o/\X.H₀ b=none
 bsz:X.base.objs.size<=X.s₀.heap.objs.size
 noex:∀b o,X.base.get? b=some o->b∉X.ex
 exfs:∀b∈X.ex,b∉X.fs
 funs:X.s₀.heap.FunFrames X.base X.outer
 frf:∀b∈X.fs,X.H₀ b=none
structure Inv (X:Cx)(pins:List (Addr×Obj))(σ:List (Option V))(H:Hp)(s:Shared):Prop where
 ok:X.Ok
 os:s.os=X.s₀.os
 bare:ii s.gens
 base:Un X.fs X.ex X.H₀ H X.s₀.heap s.heap
 loc:∃m,s.heap.Ns X.env.locals m/\∀(i:Nat) (x:Str) (v:V),X.N[i]?=some x->σ[i]?=some (some v)->Vis X.env.scope x->∃u,RelV v u/\Look X.env s.heap m x u
 cell:∀x c,X.env.cells.lookup x=some c->∃v,s.heap.IsCell c v
 free:H X.env.locals=none
 freeC:∀x c,X.env.cells.lookup x=some c->H c=none
 pin:∀p∈X.pn++pins,s.heap.get? p.1=some p.2/\H p.1=none/\p.1≠X.env.locals/\p.1∉X.fs/\∀v,p.2.data≠.cell v
 hok:XS X.prog X.w H s.heap
 len:σ.length=X.N.length
section
variable {X:Cx}{pins:List (Addr×Obj)}{σ:List (Option V)}{H H':Hp}{s:Shared}{h':Heap}
theorem Cx.Ok.nofr (ok:X.Ok){b:Addr}{o:Obj}(e:X.base.get? b=some o):b∉X.fs:=fun hb=>by
 have:=(ok.funs.mem hb).1;rw[e] at this;cases this
theorem Inv.bs (I:Inv X pins σ H s):∀b o,X.base.get? b=some o->s.heap.get? b=some o/\H b=none:=fun b o e=>
 ⟨I.base.keep b o (I.ok.bs b o e).1 (I.ok.bs b o e).2 (I.ok.nofr e) (I.ok.noex b o e),I.base.free b o (I.ok.bs b o e).1 (I.ok.bs b o e).2 (I.ok.noex b o e)⟩
theorem Inv.bk (I:Inv X pins σ H s):∀b o,X.base.get? b=some o->s.heap.get? b=some o:=fun b o e=>(I.bs b o e).1
theorem Inv.mod (I:Inv X pins σ H s):Mod X.K X.mg X.base:=I.ok.mod
theorem Inv.kIn (I:Inv X pins σ H s):X.K.In s.heap:=I.ok.mod.kin.keeps I.bk
theorem Inv.lt (I:Inv X pins σ H s):X.env.locals<s.heap.objs.size:=let ⟨_,j,_⟩:=I.loc;j.lt
theorem Inv.sz (I:Inv X pins σ H s):X.s₀.heap.objs.size<=s.heap.objs.size:=aZ I.ok.above (cR I.lt)
theorem Inv.nofs (I:Inv X pins σ H s){a:Addr}(h:s.heap.objs.size<=a):a∉X.fs:=fun hb=>by
 obtain⟨_,o,j,_⟩:=I.ok.funs.mem hb;exact absurd (aE (Zp j) (aZ I.sz h)) (bR _)
theorem Inv.cne (I:Inv X pins σ H s):∀x c,X.env.cells.lookup x=some c->c≠X.env.locals:=fun x c e z=>by
 obtain⟨v,o,J,hd⟩:=I.cell x c e;obtain⟨m,⟨M,O,U,j,q,_⟩,_⟩:=I.loc;rw[z,j] at J;cases J;rw[q] at hd;cases hd
theorem Inv.funs (I:Inv X pins σ H s):s.heap.FunFrames X.base X.outer:=by
 have all:∀(l:List Env),(∀b∈frs l,b∈X.fs)->X.s₀.heap.FunFrames X.base l->s.heap.FunFrames X.base l:=by
  intro l;induction l with
  |nil=>intro _ _;trivial
  |cons env r J=>
   intro q M;obtain⟨O,⟨L,o,hf,U,Y,hd⟩,hr⟩:=M;have j:L∈X.fs:=q L (by unfold frs;rw[b9,hf];exact aq);obtain⟨sl,e⟩:=I.base.slot L o Y (I.ok.frf L j) j fun z=>I.ok.exfs L z j;exact⟨O,⟨L,_,hf,U,e,hd⟩,J (fun b hb=>q b (by unfold frs;rw[b9,hf];exact ao _ hb)) hr⟩
 exact all X.outer (fun _ hb=>hb) I.ok.funs
theorem Inv.stack (I:Inv X pins σ H s):s.heap.FunFrames X.base X.stack:=by
 rcases I.ok.stk with e|⟨e,hf⟩
 ·rw[e];exact I.funs
 ·rw[e]
  obtain⟨m,j,_⟩:=I.loc;refine .cons (by rw[I.ok.kind];decide) hf j ?_ I.funs;exact Heap.get?_none_of_le (aZ I.ok.bsz I.ok.above)
theorem Inv.stkSub (I:Inv X pins σ H s):∀b∈frs X.stack,b∈X.env.locals::X.fs:=fun b hb=>by
 rcases I.ok.stk with e|⟨e,hf⟩
 ·rw[e] at hb;exact ao _ hb
 ·rw[e] at hb
  unfold frs at hb;rw[b9,hf] at hb;exact hb
theorem Inv.stkFree (I:Inv X pins σ H s):∀b∈frs X.stack,H b=none:=fun b hb=>by
 rcases aG.mp (I.stkSub b hb) with e|hb
 ·rw[e];exact I.free
 ·obtain⟨_,o,j,_⟩:=I.ok.funs.mem hb
  exact I.base.free b o j (I.ok.frf b hb) fun z=>I.ok.exfs b z hb
theorem Inv.step {g':Array GenState}{t':Nat}{d':kw}{ch:List Addr}(I:Inv X pins σ H s)
  (J:∀b∈ch,(b∈X.ex\/X.s₀.heap.objs.size<=b)/\b≠X.env.locals/\(∀x c,X.env.cells.lookup x=some c->c≠b)/\∀p∈X.pn++pins,p.1≠b)
  (keep:∀b o,b≠X.env.locals->b∉X.fs->b∉ch->s.heap.get? b=some o->H b=none->h'.get? b=some o)
  (slot:∀b o,b≠X.env.locals->b∈X.fs->b∉ch->s.heap.get? b=some o->H b=none->∃sl,h'.get? b=some {o with slots:=sl}) (free:∀b o,b∉ch->s.heap.get? b=some o->H b=none->H' b=none)
  (there:∀b o,b∉ch->s.heap.get? b=some o->∃o',h'.get? b=some o')
  (m5:∀b xs,H b=some (.tup xs)->H' b=some (.tup xs)) (m6:∀b o u,H b=some (.frz o u)->H' b=some (.frz o u)) (m8:∀b ps,H b=some (.tbl ps)->∃n6,H' b=some (.tbl (ps++n6)))
  (ns:∀m,s.heap.Ns X.env.locals m->h'.Ns X.env.locals m) (hok:XS X.prog X.w H' h') (hg:ii g') :
  Inv X pins σ H' {s with heap:=h',gens:=g',drawn:=d',toks:=t'}:=by
 have n8:∀b o,X.s₀.heap.get? b=some o->b≠X.env.locals:=fun b o e=>aC (aE (Zp e) I.ok.above);have neC:∀b o,X.s₀.heap.get? b=some o->b∉X.ex->b∉ch:=fun b o e j hb=>by
  rcases (J b hb).1 with z|z
  ·exact j z
  ·exact absurd (aE (Zp e) z) (bR _)
 have M:∀x c,X.env.cells.lookup x=some c->∀v,s.heap.IsCell c v->h'.IsCell c v:=fun x c e v ⟨o,Y,hd⟩=>by
  have O:c∉ch:=fun z=>(J c z).2.2.1 x c e rfl;by_cases hc:c∈X.fs
  ·obtain⟨sl,q⟩:=slot c o (I.cne x c e) hc O Y (I.freeC x c e)
   exact⟨_,q,hd⟩
  ·exact⟨o,keep c o (I.cne x c e) hc O Y (I.freeC x c e),hd⟩
 refine⟨I.ok,I.os,hg,⟨fun b o e n hb j=>?_,fun b o e n hb j=>?_,fun b o e n j=>?_,fun b o e j=>?_,fun b xs e=>m5 b xs (I.base.tups b xs e),fun b o xs e=>m6 b o xs (I.base.frzs b o xs e),fun b ps e=>?_⟩,?_,fun x c e=>?_,?_,fun x c e=>?_,fun p hp=>?_,hok,I.len⟩
 ·exact keep b o (n8 b o e) hb (neC b o e j) (I.base.keep b o e n hb j) (I.base.free b o e n j)
 ·obtain⟨sl,U⟩:=I.base.slot b o e n hb j
  obtain⟨n9,e2⟩:=slot b _ (n8 b o e) hb (neC b o e j) U (I.base.free b o e n j);exact⟨n9,e2⟩
 ·obtain⟨o',U⟩:=I.base.there b o e j
  exact free b o' (neC b o e j) U (I.base.free b o e n j)
 ·obtain⟨o',U⟩:=I.base.there b o e j
  exact there b o' (neC b o e j) U
 ·obtain⟨m1,U⟩:=I.base.tbls b ps e
  obtain⟨m2,e2⟩:=m8 b _ U;exact⟨m1++m2,by rw[e2,Array.append_assoc]⟩
 ·obtain⟨m,hn,hl⟩:=I.loc
  refine⟨m,ns m hn,fun i x v U e2 e3=>?_⟩;obtain⟨u,r,l⟩:=hl i x v U e2 e3;refine⟨u,r,?_⟩;rcases l with l|⟨k,c,e,z⟩
  ·exact .inl l
  ·exact .inr ⟨k,c,e,M x c e _ z⟩
 ·obtain⟨v,z⟩:=I.cell x c e
  exact⟨v,M x c e v z⟩
 ·obtain⟨m,⟨o,_,_,Y,_⟩,_⟩:=I.loc
  exact free _ o (fun z=>(J _ z).2.1 rfl) Y I.free
 ·obtain⟨v,o,Y,hd⟩:=I.cell x c e
  exact free c o (fun z=>(J c z).2.2.1 x c e rfl) Y (I.freeC x c e)
 ·obtain⟨e,n,ne,nf,d⟩:=I.pin p hp
  have O:p.1∉ch:=fun z=>(J p.1 z).2.2.2 p hp rfl;exact⟨keep p.1 p.2 ne nf O e n,free p.1 p.2 O e n,ne,nf,d⟩
theorem Inv.un {t':Nat}(I:Inv X pins σ H s)(u:Un X.fs [] H H' s.heap h')(q:XS X.prog X.w H' h'):Inv X pins σ H' {s with heap:=h',toks:=t'}:=by
 obtain⟨m,⟨o,es,ep,O,r⟩,_⟩:=id I.loc;obtain⟨sl,U⟩:=u.any O I.free (by simp);exact I.step (g':=s.gens) (d':=s.drawn) (ch:=[]) (fun _ z=>nomatch z) (fun b o _ hb _ e n=>u.keep b o e n hb (by simp)) (fun b o _ hb _ e n=>u.slot b o e n hb (by simp)) (fun b o _ e n=>u.free b o e n (by simp)) (fun b o _ e=>u.there b o e (by simp)) u.tups u.frzs u.tbls (fun m' Y=>by
  obtain⟨o',J,M,j,r'⟩:=Y;rw[O] at j;cases j;exact⟨_,J,M,U,r'⟩) q I.bare
theorem Inv.call {g':Array GenState}{t':Nat}{d':kw}{ch:List Addr}(I:Inv X pins σ H s)(u:Un (frs X.stack) ch H H' s.heap h')(M:XS X.prog X.w H' h')(hg:ii g')
  (q:∀b∈ch,(b∈X.ex\/X.s₀.heap.objs.size<=b)/\b≠X.env.locals/\(∀x c,X.env.cells.lookup x=some c->c≠b)/\∀p∈X.pn++pins,p.1≠b) :
  Inv X pins σ H' {s with heap:=h',gens:=g',drawn:=d',toks:=t'}:=by
 obtain⟨m,⟨o,es,ep,ho,r⟩,_⟩:=id I.loc;obtain⟨sl,O⟩:=u.any ho I.free fun z=>(q _ z).2.1 rfl;exact I.step (ch:=ch) q (fun b o O hb j e n=>u.keep b o e n (fun z=>(aG.mp (I.stkSub b z)).elim O hb) j) (fun b o _ _ j e n=>u.any e n j) (fun b o j e n=>u.free b o e n j) (fun b o j e=>u.there b o e j) u.tups u.frzs u.tbls (fun m' hm=>by
  obtain⟨o',U,Y,J,r'⟩:=hm;rw[ho] at J;cases J;exact⟨_,U,Y,O,r'⟩) M hg
theorem Inv.turned {t':Nat}{it:Addr}(I:Inv X pins σ H s)(k:∀b o,b≠it->s.heap.get? b=some o->h'.get? b=some o)(O:H it=none)(M:it≠X.env.locals)
  (U:it∈X.ex\/X.s₀.heap.objs.size<=it) (Y:∀x c,X.env.cells.lookup x=some c->c≠it) (h3:∀p∈X.pn++pins,p.1≠it):Inv X pins σ H {s with heap:=h',toks:=t'}:=by
 have J:∀b u,H b=some u->b≠it:=fun b u e z=>by rw[z,O] at e;cases e
 refine I.step (g':=s.gens) (d':=s.drawn) (ch:=[it]) (fun b hb=>?_) (fun b o _ _ j e _=>k b o (fun z=>j (by simp[z])) e) (fun b o _ _ j e _=>⟨o.slots,k b o (fun z=>j (by simp[z])) e⟩) (fun _ _ _ _ n=>n)
  (fun b o j e=>⟨o,k b o (fun z=>j (by simp[z])) e⟩) (fun _ _ e=>e) (fun _ _ _ e=>e) (fun b ps e=>⟨#[],by rw[e];simp⟩) (fun m hm=>?_) (fun b u e=>?_) I.bare
 ·have e:b=it:=by simpa using hb
  subst e;exact⟨U,M,Y,h3⟩
 ·obtain⟨o,es,ep,ho,r⟩:=hm
  exact⟨o,es,ep,k _ o (bh M) ho,r⟩
 ·refine (I.hok b u e).stay (fun c v j q=>k c v ?_ q) (fun _ q=>q) fun _ _ q=>q
  rcases j with z|z
  ·rw[z];exact J b u e
  ·exact J c _ z
theorem Inv.tok (I:Inv X pins σ H s)(t:Nat):Inv X pins σ H {s with toks:=t}:=I.un (h':=s.heap) (t':=t) Un.refl I.hok
theorem Inv.kept {t':Nat}(I:Inv X pins σ H s)(k:∀b u,s.heap.get? b=some u->h'.get? b=some u):Inv X pins σ H {s with heap:=h',toks:=t'}:=I.un (Un.kept k) (I.hok.kept k)
theorem Inv.laid {a:Addr}{o:HO}{t':Nat}(I:Inv X pins σ H s)(k:∀b u,s.heap.get? b=some u->h'.get? b=some u)(j:s.heap.objs.size<=a)(q:Yt X.prog X.w (upd H a o) h' a o) :
  Inv X pins σ (upd H a o) {s with heap:=h',toks:=t'}:=I.un (Un.laid k j (I.hok.fresh j)) (I.hok.laid k j q)
theorem Inv.write {x e:Addr}{o:HO}{t':Nat}(I:Inv X pins σ H s)(J:Mut (H x))(M:e=x\/H e=some (.own x))(k:∀b u,b≠e->s.heap.get? b=some u->h'.get? b=some u)(j:∃u,h'.get? e=some u)
  (q:Yt X.prog X.w (upd H x o) h' x o):Inv X pins σ (upd H x o) {s with heap:=h',toks:=t'}:=I.un (Un.write J M k j) (I.hok.write J M k j q)
theorem Inv.pins_of {j:List (Addr×Obj)}(I:Inv X pins σ H s)(h:∀p∈j,s.heap.get? p.1=some p.2/\H p.1=none/\p.1≠X.env.locals/\p.1∉X.fs/\∀v,p.2.data≠.cell v):Inv X j σ H s:=
 ⟨I.ok,I.os,I.bare,I.base,I.loc,I.cell,I.free,I.freeC,fun p q=>(bJ.mp q).elim (fun z=>I.pin p (bW _ z)) (h p),I.hok,I.len⟩
theorem ZbP {N:List Str}(q:N.Nodup){i j:Nat}{x:Str}(a:N[i]?=some x)(b:N[j]?=some x):i=j:=by
 obtain⟨O,J⟩:=ac.mp a;obtain⟨U,M⟩:=ac.mp b;exact (List.getElem_inj q).mp (J.trans M.symm)
theorem UM {M:Model}{A:Around}{E:Value->Shared->Prop}{i:Nat}{x:Str}{v:V}{u:Value}{Q:Unit->Shared->Prop}(I:Inv X pins σ H s)(hN:X.N.Nodup)(hi:X.N[i]?=some x)(hx:Loc X.env.scope x)(r:RelV v u)
  (h:∀s',Inv X pins (σ.set i (some v)) H s'->(∃a,ba a s.heap s'.heap/\(a=X.env.locals\/X.env.cells.lookup x=some a))->Q () s') (hf:X.fn x=true\/X.env.scope.names.lookup x=some .local:=by first|exact .inl rfl|exact .inr rfl|assumption):wpAny M A (storeName X.env x u) Q E s:=by
 obtain⟨m,hn,hl⟩:=id I.loc;have n6:(X.env.scope.kind == .class || (X.env.scope.kind == .module && X.env.locals != X.env.globals))=false:=by rw[I.ok.kind];rfl
 have m6:i < σ.length:=by rw[I.len];exact (ac.mp hi).1
 have cne:=I.cne;have O:∀{a:Addr}{h':Heap},(∃o,s.heap.get? a=some o/\H a=none)->ba a s.heap h'->XS X.prog X.w H h':=fun {a h'} ha J b ob e=>by
  obtain⟨_,_,m5⟩:=ha;refine (I.hok b ob e).stay (fun c w' Y q=>(J.2 c ?_).trans q) (fun _ q=>q) fun _ _ q=>q;rintro rfl;rcases Y with rfl|Y
  ·rw[m5] at e;cases e
  ·rw[m5] at Y;cases Y
 rcases hx with hk|hk
 ·refine wpAny_storeName_local hk hn (fun h' o6 J=>?_) n6
  obtain⟨oL,_,_,o7,_⟩:=id hn;refine h _ ⟨I.ok,I.os,I.bare,⟨fun b o e n hb hx=>?_,fun b o e n hb hx=>?_,I.base.free,fun b o e hx=>?_,I.base.tups,I.base.frzs,I.base.tbls⟩,⟨_,o6,fun j y v' U e2 e3=>?_⟩,fun y c e=>?_,I.free,I.freeC,fun p hp=>?_,O ⟨oL,o7,I.free⟩ J,by simpa using I.len⟩ ⟨_,J,.inl rfl⟩
  ·exact (J.2 b (aC (aE (Zp e) I.ok.above))).trans (I.base.keep b o e n hb hx)
  ·obtain⟨sl,U⟩:=I.base.slot b o e n hb hx
   exact⟨sl,(J.2 b (aC (aE (Zp e) I.ok.above))).trans U⟩
  ·obtain⟨o',U⟩:=I.base.there b o e hx
   exact⟨o',(J.2 b (aC (aE (Zp e) I.ok.above))).trans U⟩
  ·by_cases hj:j=i
   ·subst hj
    rw[hi] at U;cases U;rw[j8 m6] at e2;cases e2;exact⟨u,r,.inl ⟨hk,by simp⟩⟩
   ·rw[fz (bh hj)] at e2
    obtain⟨u',r',q⟩:=hl j y v' U e2 e3;refine⟨u',r',?_⟩;rcases q with ⟨k,e⟩|⟨k,c,e,z⟩
    ·refine .inl ⟨k,?_⟩
     have:y≠x:=fun e=>hj (ZbP hN U (e▸hi));simp[this,e]
    ·exact .inr ⟨k,c,e,z.sameBut J (cne y c e)⟩
  ·obtain⟨w',z⟩:=I.cell y c e
   exact⟨w',z.sameBut J (cne y c e)⟩
  ·obtain⟨e,n,ne,nf,d⟩:=I.pin p hp
   exact⟨(J.2 p.1 ne).trans e,n,ne,nf,d⟩
 ·have m8:X.fn x=true:=by
   rcases hf with z|z
   ·exact z
   ·rw[z] at hk;cases hk
  obtain⟨c,Y⟩:=I.ok.has x (.inl hk);obtain⟨w',z⟩:=I.cell x c Y;refine wpAny_storeName_cell I.ok.kind hk Y z (fun h' n8 J=>?_);obtain⟨oc,n9,o0⟩:=id z;refine h {s with heap:=h'} ⟨I.ok,I.os,I.bare,⟨fun b o e n hb hx=>?_,fun b o e n hb hx=>?_,I.base.free,fun b o e hx=>?_,I.base.tups,I.base.frzs,I.base.tbls⟩,⟨m,hn.sameBut J (bh (cne x c Y)),fun j y v' U e2 e3=>?_⟩,fun y c' e=>?_,I.free,I.freeC,fun p hp=>?_,O ⟨oc,n9,I.freeC x c Y⟩ J,by simpa using I.len⟩ ⟨c,J,.inr Y⟩
  ·exact (J.2 b (aC (aE (Zp e) (I.ok.cab x c m8 Y)))).trans (I.base.keep b o e n hb hx)
  ·obtain⟨sl,U⟩:=I.base.slot b o e n hb hx
   exact⟨sl,(J.2 b (aC (aE (Zp e) (I.ok.cab x c m8 Y)))).trans U⟩
  ·obtain⟨o',U⟩:=I.base.there b o e hx
   exact⟨o',(J.2 b (aC (aE (Zp e) (I.ok.cab x c m8 Y)))).trans U⟩
  ·by_cases hj:j=i
   ·subst hj
    rw[hi] at U;cases U;rw[j8 m6] at e2;cases e2;exact⟨u,r,.inr ⟨.inl hk,c,Y,n8⟩⟩
   ·rw[fz (bh hj)] at e2
    obtain⟨u',r',q⟩:=hl j y v' U e2 e3;refine⟨u',r',?_⟩;rcases q with q|⟨k,c',e,z'⟩
    ·exact .inl q
    ·refine .inr ⟨k,c',e,z'.sameBut J ?_⟩
     rintro rfl;exact hj (ZbP hN U (I.ok.inj _ _ _ e Y▸hi))
  ·by_cases o5:c'=c
   ·subst o5;exact⟨_,n8⟩
   ·obtain⟨w2,z2⟩:=I.cell y c' e
    exact⟨w2,z2.sameBut J o5⟩
  ·obtain⟨e,n,ne,nf,d⟩:=I.pin p hp
   refine⟨(J.2 p.1 ?_).trans e,n,ne,nf,d⟩;intro q;rw[q,n9] at e;have q':oc=p.2:=aD e;exact d w' (by rw[<-q'];exact o0)
theorem W1 {M:Model}{A:Around}{E:Value->Shared->Prop}{i:Nat}{x:Str}{v:V}{u:Value}{Q:Unit->Shared->Prop}(I:Inv X pins σ H s)(j:X.N.Nodup)(q:X.N[i]?=some x)(J:Loc X.env.scope x)(r:RelV v u)
  (h:∀s',Inv X pins (σ.set i (some v)) H s'->Q () s') (O:X.fn x=true\/X.env.scope.names.lookup x=some .local:=by first|exact .inl rfl|exact .inr rfl|assumption):wpAny M A (storeName X.env x u) Q E s:=
 UM I j q J r (fun s' U _=>h s' U) O
theorem Inv.call' {s':Shared}{ch:List Addr}(I:Inv X pins σ H s)(U:s'.os=s.os)(u:Un (frs X.stack) ch H H' s.heap s'.heap)(j:XS X.prog X.w H' s'.heap)(Y:ii s'.gens)
  (q:∀b∈ch,(b∈X.ex\/X.s₀.heap.objs.size<=b)/\b≠X.env.locals/\(∀x c,X.env.cells.lookup x=some c->c≠b)/\∀p∈X.pn++pins,p.1≠b):Inv X pins σ H' s':=by
 obtain⟨h',J,M,O,o'⟩:=s';have e:o'=s.os:=U;subst e;exact I.call (g':=J) (t':=O) (d':=M) u j Y q
end
noncomputable abbrev XK:=Value->Option Addr->Hp->Prop
noncomputable abbrev St:=List (Option V)
noncomputable abbrev VK:=V->Hp->Prop
noncomputable abbrev TE:=St->Hp->VK->Prop
noncomputable abbrev TT:=St->Hp->(Bool->Hp->Prop)->Prop
noncomputable abbrev TA:=St->Hp->(List V->Hp->Prop)->Prop
structure J5 where
 nx:St->Hp->Prop
 rt:VK
 bk:St->Hp->Prop:=fun _ _=>False
 ct:St->Hp->Prop:=fun _ _=>False
noncomputable abbrev TS:=J5->St->Hp->Prop
noncomputable def EP (X:Cx)(j:List (Addr×Obj))(J:St)(Q:VK)(u:Value)(s':Shared):Prop:=∃v q,Inv X j J q s'/\RelV v u/\Q v q
noncomputable def TP (X:Cx)(j:List (Addr×Obj))(J:St)(Q:Bool->Hp->Prop)(b:Bool)(s':Shared):Prop:=∃q,Inv X j J q s'/\Q b q
noncomputable def AP (X:Cx)(j:List (Addr×Obj))(M:St)(Q:List V->Hp->Prop)(O:List Value)(s':Shared):Prop:=∃q J,Inv X j M J s'/\ZL q O/\Q q J
noncomputable def SP (X:Cx)(q:List (Addr×Obj))(D:J5)(f:Flow)(s':Shared):Prop:=
 match f with
 | .next=>∃ j J,Inv X q j J s'/\D.nx j J
 | .brk=>∃ j J,Inv X q j J s'/\D.bk j J
 | .cont=>∃ j J,Inv X q j J s'/\D.ct j J
 | .ret u=>∃v j J,Inv X q j J s'/\RelV v u/\D.rt v J
noncomputable def PE (X:Cx)(e:Expr)(t:TE):Prop:=
 ∀(j:List (Addr×Obj)) (s:Shared) (q:St) (H:Hp) (Q:VK),Inv X j q H s->t q H Q->wpAny (model X.prog X.w) X.A (eval e X.env) (EP X j q Q) X.xe s
noncomputable def PT (X:Cx)(e:Expr)(t:TT):Prop:=
 ∀(j:List (Addr×Obj)) (s:Shared) (q:St) (H:Hp) (Q:Bool->Hp->Prop),Inv X j q H s->t q H Q->wpAny (model X.prog X.w) X.A (isTrue e X.env (eval e X.env)) (TP X j q Q) X.xe s
noncomputable def PW (X:Cx)(e:Expr)(t:TT):Prop:=
 ∀(q:Sem Value) (j:List (Addr×Obj)) (s:Shared) (J:St) (H:Hp) (Q:Bool->Hp->Prop),Inv X j J H s->t J H Q->wpAny (model X.prog X.w) X.A (isTrue e X.env q) (TP X j J Q) X.xe s
theorem PW.pt {X:Cx}{e:Expr}{t:TT}(h:PW X e t):PT X e t:=h _
noncomputable def PA (X:Cx)(J:List Expr)(t:TA):Prop:=
 ∀(pos:Pos) (j:List (Addr×Obj)) (s:Shared) (q:St) (H:Hp) (Q:List V->Hp->Prop),Inv X j q H s->t q H Q->wpAny (model X.prog X.w) X.A (spliced (backTo pos (starEach J X.env))) (AP X j q Q) X.xe s
noncomputable def PS (X:Cx)(st:Stmt)(t:TS):Prop:=
 ∀(j:List (Addr×Obj)) (s:Shared) (q:St) (H:Hp) (D:J5),Inv X j q H s->t D q H->wpAny (model X.prog X.w) X.A (exec st X.env) (SP X j D) X.xe s
noncomputable def PSs (X:Cx)(st:List Stmt)(t:TS):Prop:=
 ∀(j:List (Addr×Obj)) (s:Shared) (q:St) (H:Hp) (D:J5),Inv X j q H s->t D q H->wpAny (model X.prog X.w) X.A (execs st X.env) (SP X j D) X.xe s
theorem Yj {α:Type}{t:Sem α}{Q j:α->Shared->Prop}{M:Model}{A:Around}{E:Value->Shared->Prop}{s:Shared}(h:wpAny M A t Q E s)(q:∀a s,Q a s->j a s):wpAny M A t j E s:=cv h q fun _ _ x=>x
section
variable {X:Cx}
noncomputable def ZmB (i:Nat):TE:=fun σ H Q=>∃v,σ[i]?=some (some v)/\Q v H
noncomputable def tC (v:V):TE:=fun _ H Q=>Q v H
theorem Zln {i:Nat}{x:Str}{pos:Pos}(hN:X.N[i]?=some x)(hv:Vis X.env.scope x)(O:(x == ("__debug__":Str))=false:=by decide)(U:(x == ("__classdict__":Str))=false:=by decide):PE X (.Name x pos) (ZmB i):=by
 intro M s σ H Q I h;obtain⟨v,e,h⟩:=h;obtain⟨m,hn,hl⟩:=I.loc;obtain⟨u,r,l⟩:=hl i x v hN e hv;have q:EP X M σ Q u s:=⟨v,H,I,r,h⟩;rcases l with ⟨J,hm⟩|⟨J,c,Y,j⟩
 ·exact wpAny_Name (wpAny_loadName_local I.ok.kind J hn hm q) O
 ·rcases J with J|J
  ·exact wpAny_Name (wpAny_loadName_cell I.ok.kind J Y j q) O
  ·exact wpAny_Name (wpAny_loadName_free I.ok.kind J Y j q U) O
theorem Zx {i j pos}:PE X (.Constant (.int i) j pos) (tC (.int i)):=fun _ _ _ H _ I h=>wpAny_Constant_int ⟨.int i,H,I.tok _,⟨_,rfl⟩,h⟩
theorem Zd6 {b j pos}:PE X (.Constant (.bool b) j pos) (tC (.bl b)):=fun _ _ _ H _ I h=>Constant_bool ⟨.bl b,H,I,rfl,h⟩
theorem WG {x j pos}:PE X (.Constant (.str x) j pos) (tC (.str x)):=fun _ _ _ H _ I h=>Calls.Constant_str ⟨.str x,H,I.tok _,⟨_,rfl⟩,h⟩
noncomputable def Gl (X:Cx)(x:Str):Prop:=X.env.kindOf x=some .globalImplicit
theorem ZjA {E:Value->Shared->Prop}{j:List (Addr×Obj)}{s:Shared}{σ:St}{H:Hp}{x:Str}{u:Value}{pos:Pos}{Q:Value->Shared->Prop}(I:Inv X j σ H s)(q:Gl X x)(J:X.mg x=some u)(h:Q u s)
  (M:(x == ("__debug__":Str))=false:=by decide):wpAny (model X.prog X.w) X.A (eval (.Name x pos) X.env) Q E s:=
 jv I.ok.kind q (Calls.loadGlobal_global (by rw[I.ok.glob];exact I.mod.glob.keeps I.bk) J h) M
theorem Jj {E:Value->Shared->Prop}{j:List (Addr×Obj)}{s:Shared}{σ:St}{H:Hp}{x:Str}{u:Value}{pos:Pos}{Q:Value->Shared->Prop}(I:Inv X j σ H s)(q:Gl X x)(J:X.mg x=none)(M:bootBuiltins x=some u)(h:Q u s)
  (O:x ≠ "__name__":=by decide) (U:(x == ("__debug__":Str))=false:=by decide):wpAny (model X.prog X.w) X.A (eval (.Name x pos) X.env) Q E s:=by
 obtain⟨mb,Y,h2⟩:=I.mod.blt;exact jv I.ok.kind q (Calls.loadGlobal_builtin (by rw[I.ok.glob];exact I.mod.glob.keeps I.bk) J (by rw[I.ok.blt];exact Y.keeps I.bk) ((h2 x O).trans M) h) U
variable {a b:Expr}{ta tb:TE}{pos:Pos}
noncomputable def PC (X:Cx)(op:CmpOp)(a b:Expr)(t:TE):Prop:=
 ∀(j:List (Addr×Obj)) (s:Shared) (M:St) (H:Hp) (Q:VK),Inv X j M H s->t M H Q->
  wpAny (model X.prog X.w) X.A (eval a X.env) (fun v q=>wpAny (model X.prog X.w) X.A (eval b X.env) (fun u J=>wpAny (model X.prog X.w) X.A (compareOp op v u) (EP X j M Q) X.xe J) X.xe q) X.xe s
noncomputable def tB (t:TE):TT:=fun j H Q=>t j H fun x q=>∃c,x=.bl c/\Q c q
theorem ZgM {op:CmpOp}{t:TE}(h:PC X op a b t)(M:behindInMarks op b=false:=by first|exact j _ (by decide) (by decide)|rfl):PT X (.Compare a [op] [b] pos) (tB t):=by
 intro J s O H Q I U;refine l5 (Yj (h J s O H _ I U) fun v s1 M=>Yj M fun u s2 Y=>Yj Y fun c s3 ⟨x,H1,I1,r1,q1⟩=>?_) M;obtain⟨d,rfl,q⟩:=q1;cases r1;exact fm ⟨H1,I1,q⟩
theorem ZcQ {e:Expr}{t:TE}(h:PE X e t)(M:∀j,isTrue e X.env j=(do let v <-j;standAt e.pos;holding [v] (truthy v)):=by intro _;rfl):PT X e (tB t):=by
 intro J s O H Q I U;refine isTrue_plain (Yj (h J s O H _ I U) fun v s1 ⟨x,Y,I1,r1,q1⟩=>?_) (M _);obtain⟨d,rfl,q⟩:=q1;cases r1;exact fm ⟨Y,I1,q⟩
variable {tA tB':TT}{rest:List Expr}
noncomputable def ZoC (t u:TT):TT:=fun j H Q=>t j H fun c q=>if c=true then u j q Q else Q false q
noncomputable def tOr (t u:TT):TT:=fun j H Q=>t j H fun c q=>if c=true then Q true q else u j q Q
theorem ZiW (q:PT X a tA):PW X (.BoolOp .And [a] pos) tA:=by
 intro M j s J H Q I h;refine isTrue_and (Yj (q j s J H Q I h) fun c O e=>?_);cases c with
 |true=>exact isTrue_and_nil e
 |false=>exact e
theorem Zlg (q:PT X a tA):PW X (.BoolOp .Or [a] pos) tA:=by
 intro M j s J H Q I h;refine isTrue_or (Yj (q j s J H Q I h) fun c O e=>?_);cases c with
 |false=>exact isTrue_or_nil e
 |true=>exact e
theorem Zlh (U:PT X a tA)(hb:PW X (.BoolOp .And (b::rest) pos) tB'):PW X (.BoolOp .And (a::b::rest) pos) (ZoC tA tB'):=by
 intro Y j s q H Q I h;refine isTrue_and (Yj (U j s q H _ I h) fun c s1 ⟨J,M,O⟩=>?_);cases c with
 |true=>exact hb Y j s1 q J Q M O
 |false=>exact⟨J,M,O⟩
theorem ZmY (U:PT X a tA)(hb:PW X (.BoolOp .Or (b::rest) pos) tB'):PW X (.BoolOp .Or (a::b::rest) pos) (tOr tA tB'):=by
 intro Y j s q H Q I h;refine isTrue_or (Yj (U j s q H _ I h) fun c s1 ⟨J,M,O⟩=>?_);cases c with
 |true=>exact⟨J,M,O⟩
 |false=>exact hb Y j s1 q J Q M O
noncomputable def tIf (t:TT)(ta tb:TE):TE:=fun j H Q=>t j H fun c q=>if c=true then ta j q Q else tb j q Q
theorem ZgO {c:Expr}(Y:PT X c tA)(ha:PE X a ta)(hb:PE X b tb):PE X (.IfExp c a b pos) (tIf tA ta tb):=by
 intro j s q H Q I h;refine wpAny_IfExp (Yj (Y j s q H _ I h) fun d J ⟨M,O,U⟩=>?_);cases d with
 |true=>exact ha j J q M Q O U
 |false=>exact hb j J q M Q O U
end
noncomputable def Wt (K:aa)(H:Hp)(a:Addr)(xs:List V):Prop:=
 Rd H a (.lst xs)\/
  ∃(o:Obj) (j:Array Value) (n:Nat),K.lookup a=some o/\o.cls=.type "list"/\o.dict=none/\o.data=.seq j n/\j.size<=sizeLine/\ZL xs j.toList
noncomputable def Xc (K:aa)(H:Hp)(a:Addr)(xs:List V):Prop:=
 Rd H a (.tup xs)\/
  ∃(o:Obj) (j:Array Value) (n:Nat),K.lookup a=some o/\o.cls=.type "tuple"/\o.data=.seq j n/\j.size<=sizeLine/\ZL xs j.toList
noncomputable def Zpg:Value->Option V
 | .none=>some .non
 | .bool b=>some (.bl b)
 | .int i _=>some (.int i)
 | .str x _=>some (.str x)
 | .bytes b _=>some (.byt b)
 | .float b _=>some (.flt b)
 | .ref a=>some (.ref a)
 | .type n=>some (.ty n)
 |_=>none
theorem RelV.abs {x:V}{u:Value}(r:RelV x u):Zpg u=some x:=by
 cases x with
 |non=>cases r;rfl
 |bl _=>cases r;rfl
 |int _=>obtain⟨t,rfl⟩:=r;rfl
 |str _=>obtain⟨t,rfl⟩:=r;rfl
 |byt _=>obtain⟨t,rfl⟩:=r;rfl
 |flt _=>obtain⟨t,rfl⟩:=r;rfl
 |ref _=>cases r;rfl
 |ty _=>cases r;rfl
theorem RelV.inj {x y:V}{u:Value}(r:RelV x u)(q:RelV y u):x=y:=aD (r.abs.symm.trans q.abs)
theorem ZL.inj:∀{xs ys:List V}{us:List Value},ZL xs us->ZL ys us->xs=ys
 |_,_,_,.nil,.nil=>rfl
 |_,_,_,.cons r t,.cons j q=>by rw[r.inj j,ZL.inj t q]
section
variable {X:Cx}{pins:List (Addr×Obj)}{σ:St}{H:Hp}{s:Shared}{a:Addr}{xs ys:List V}
theorem Wt.of {K:aa}(h:H a=some (.lst xs)):Wt K H a xs:=.inl (.inl h)
theorem Xc.of {K:aa}(h:H a=some (.tup xs)):Xc K H a xs:=.inl (.inl h)
theorem Inv.list (I:Inv X pins σ H s)(h:Wt X.K H a xs):∃j:List Value,ZL xs j/\PlainL s.heap a j.toArray/\xs.length<=sizeLine:=by
 rcases h with h|⟨o,j,n,q,J,hd,M,O,r⟩
 ·obtain⟨z,j,n,r,e⟩:=h.ok I.hok
  exact⟨j,r,⟨_,n,e,rfl,rfl,rfl⟩,z⟩
 ·refine⟨j.toList,r,⟨o,n,I.kIn a o q,J,hd,by simpa using M⟩,?_⟩
  have e:=r.length;simp only[Zr] at e;omega
theorem Inv.tuple (I:Inv X pins σ H s)(h:Xc X.K H a xs):∃j:List Value,ZL xs j/\IsTup s.heap a j.toArray/\xs.length<=sizeLine:=by
 rcases h with h|⟨o,j,n,q,J,M,O,r⟩
 ·obtain⟨z,j,r,p⟩:=h.ok I.hok
  exact⟨j,r,p,z⟩
 ·refine⟨j.toList,r,⟨o,I.kIn a o q,J,n,by simpa using M⟩,?_⟩
  have e:=r.length;simp only[Zr] at e;omega
theorem Inv.list_inj (I:Inv X pins σ H s)(h:Wt X.K H a xs)(h':Wt X.K H a ys):xs=ys:=by
 obtain⟨q,r,⟨o,n,e,_,_,d⟩,_⟩:=I.list h;obtain⟨j,O,⟨U,Y,J,_,_,M⟩,_⟩:=I.list h';rw[e] at J;cases J;rw[d] at M;injection M with d1 _;have:q=j:=by simpa using congrArg Array.toList d1
 subst this;exact r.inj O
theorem Inv.tuple_inj (I:Inv X pins σ H s)(h:Xc X.K H a xs)(h':Xc X.K H a ys):xs=ys:=by
 obtain⟨q,r,⟨o,e,_,n,d⟩,_⟩:=I.tuple h;obtain⟨j,O,⟨U,J,_,Y,M⟩,_⟩:=I.tuple h';rw[e] at J;cases J;rw[d] at M;injection M with d1 _;have:q=j:=by simpa using congrArg Array.toList d1
 subst this;exact r.inj O
end
noncomputable abbrev Cx.wish (X:Cx)(E:Value->Shared->Prop):Cx:={X with xe:=E}
noncomputable abbrev Cx.nox (X:Cx):Cx:=X.wish fun _ _=>False
theorem Cx.Ok.wish {X:Cx}(ok:X.Ok)(E:Value->Shared->Prop):(X.wish E).Ok:=
 ⟨ok.mod,ok.kind,ok.glob,ok.blt,ok.above,ok.inj,ok.has,ok.cab,ok.hd,ok.frames,ok.stk,ok.exf,ok.bs,ok.bsz,ok.noex,ok.exfs,ok.funs,ok.frf⟩
theorem Cx.Ok.unwish {X:Cx}{E:Value->Shared->Prop}(ok:(X.wish E).Ok):X.Ok:=
 ⟨ok.mod,ok.kind,ok.glob,ok.blt,ok.above,ok.inj,ok.has,ok.cab,ok.hd,ok.frames,ok.stk,ok.exf,ok.bs,ok.bsz,ok.noex,ok.exfs,ok.funs,ok.frf⟩
section
variable {X:Cx}{pins:List (Addr×Obj)}{σ:St}{H:Hp}{s:Shared}{E:Value->Shared->Prop}
theorem Inv.wish (I:Inv X pins σ H s)(E:Value->Shared->Prop):Inv (X.wish E) pins σ H s:=⟨I.ok.wish E,I.os,I.bare,I.base,I.loc,I.cell,I.free,I.freeC,I.pin,I.hok,I.len⟩
theorem Inv.unwish (I:Inv (X.wish E) pins σ H s):Inv X pins σ H s:=⟨I.ok.unwish,I.os,I.bare,I.base,I.loc,I.cell,I.free,I.freeC,I.pin,I.hok,I.len⟩
theorem SP.unwish {D:J5}{f:Flow}{s':Shared}(h:SP (X.wish E) pins D f s'):SP X pins D f s':=by
 cases f with
 |next=>obtain⟨j,J,I,q⟩:=h;exact⟨j,J,I.unwish,q⟩
 |brk=>obtain⟨j,J,I,q⟩:=h;exact⟨j,J,I.unwish,q⟩
 |cont=>obtain⟨j,J,I,q⟩:=h;exact⟨j,J,I.unwish,q⟩
 |ret u=>obtain⟨v,j,J,I,r,q⟩:=h;exact⟨v,j,J,I.unwish,r,q⟩
theorem PSs.nox {st:List Stmt}{t:TS}(h:PSs X.nox st t):PSs X st t:=fun pins s σ H D I j=>
 cv (h pins s σ H D (I.wish _) j) (fun _ _ q=>q.unwish) fun _ _ z=>dP z
end
section
variable {X:Cx}{st:Stmt}{rest:List Stmt}{t u:TS}{e:Expr}{te:TE}{pos:Pos}
noncomputable def ZmF:TS:=fun D j H=>D.nx j H
noncomputable def Zk0 (t u:TS):TS:=fun D j H=>t {D with nx:=u D} j H
theorem YX:PSs X [] ZmF:=fun _ _ j H _ I h=>iq ⟨j,H,I,h⟩
theorem Zs (M:PS X st t)(O:PSs X rest u):PSs X (st::rest) (Zk0 t u):=by
 intro j s U H D I h;refine wpAny_execs_cons (Yj (M j s U H {D with nx:=u D} I h) fun f Y q=>?_);cases f with
 |next=>
  obtain⟨J,H',I',q⟩:=q;exact O j Y J H' D I' q
 |ret v=>exact q
 |brk=>exact q
 |cont=>exact q
theorem Zw (J:PS X st t):PSs X [st] t:=by
 intro j s M H D I h;refine wpAny_execs_cons (Yj (J j s M H D I h) fun f O q=>?_);cases f with
 |next=>exact iq q
 |ret v=>exact q
 |brk=>exact q
 |cont=>exact q
theorem Inv.quiet {j:List (Addr×Obj)}{σ:St}{H:Hp}{s:Shared}(I:Inv X j σ H s):interactive X.env=false:=by simp[interactive,I.ok.kind]
noncomputable def Zke (te:TE):TS:=fun D j H=>te j H fun _ q=>D.nx j q
theorem Yq (J:PE X e te)(M:swapsWith e none pos.line X.env=pure false:=by rfl):PS X (.Expr e pos) (Zke te):=by
 intro j s q H D I h;exact wpAny_Expr_any (Yj (J j s q H _ I h) fun v s1 ⟨x,O,U,r1,Y⟩=>⟨q,O,U,Y⟩) I.quiet M
noncomputable def Zow (te:TE):TS:=fun D j H=>te j H D.rt
theorem ZF (q:PE X e te):PS X (.Return (some e) pos) (Zow te):=by
 intro j s σ H D I h;exact wpAny_Return_some (Yj (q j s σ H _ I h) fun v U ⟨x,J,M,r1,O⟩=>⟨x,σ,J,M,r1,O⟩)
noncomputable def Zox (c:TT)(t u:TS):TS:=fun D j H=>c j H fun b q=>if b=true then t D j q else u D j q
theorem Jo {c:Expr}{a b:List Stmt}{J:TT}(hc:PT X c J)(ha:PSs X a t)(hb:PSs X b u):PS X (.If c a b pos) (Zox J t u):=by
 intro j s q H D I h;refine wpAny_If (Yj (hc j s q H _ I h) fun d M ⟨O,U,Y⟩=>?_);cases d with
 |true=>exact ha j M q O D U Y
 |false=>exact hb j M q O D U Y
end
noncomputable abbrev TG:=V->St->Hp->(St->Hp->Prop)->Prop
noncomputable abbrev TGs:=List V->St->Hp->(St->Hp->Prop)->Prop
noncomputable def PG (X:Cx)(j:Expr)(t:TG):Prop:=
 ∀(q:List (Addr×Obj)) (s:Shared) (M:St) (H:Hp) (v:V) (u:Value) (Q:St->Hp->Prop),Inv X q M H s->RelV v u->t v M H Q->
  wpAny (model X.prog X.w) X.A (assign j X.env u) (fun _ U=>∃ J O,Inv X q J O U/\Q J O) X.xe s
noncomputable def PGs (X:Cx)(ts:List Expr)(t:TGs):Prop:=
 ∀(j:List (Addr×Obj)) (s:Shared) (J:St) (H:Hp) (M:List V) (O:List Value) (Q:St->Hp->Prop),Inv X j J H s->ZL M O->t M J H Q->
  wpAny (model X.prog X.w) X.A (assignInOrder ((assignEach ts X.env).map (·.2)) O) (fun _ Y=>∃ q U,Inv X j q U Y/\Q q U) X.xe s
noncomputable abbrev Zid:=V->V->V->Hp->(Hp->Prop)->Prop
noncomputable def Zmb (X:Cx)(t:Zid):Prop:=
 ∀(j:List (Addr×Obj)) (s:Shared) (q:St) (H:Hp) (o i v:V) (J M u:Value) (Q:Hp->Prop),Inv X j q H s->RelV o J->RelV i M->RelV v u->t o i v H Q->
  wpAny (model X.prog X.w) X.A (setItem J M u) (fun _ U=>∃O,Inv X j q O U/\Q O) X.xe s
noncomputable abbrev TIp:=V->V->Hp->VK->Prop
noncomputable def PIp (X:Cx)(op:ko)(t:TIp):Prop:=
 ∀(j:List (Addr×Obj)) (s:Shared) (q:St) (H:Hp) (x y:V) (v u:Value) (Q:VK),Inv X j q H s->RelV x v->RelV y u->t x y H Q->
  wpAny (model X.prog X.w) X.A (inplaceOp op v u) (EP X j q Q) X.xe s
section
variable {X:Cx}{pos:Pos}
noncomputable def Z7 (i:Nat):TG:=fun v j H Q=>Q (j.set i (some v)) H
theorem Zd5 {i:Nat}{x:Str}(q:X.N.Nodup)(J:X.N[i]?=some x)(M:Loc X.env.scope x)(O:X.fn x=true\/X.env.scope.names.lookup x=some .local:=by first|exact .inl rfl|exact .inr rfl|assumption):PG X (.Name x pos) (Z7 i):=by
 intro j s Y H v u Q I r h;exact wpAny_assign_Name (W1 I q J M r (fun s' U=>⟨_,H,U,h⟩) O)
noncomputable def ZhD:TGs:=fun j q H Q=>j=[]/\Q q H
noncomputable def JG (t:TG)(u:TGs):TGs:=fun q J H Q=>∃v r,q=v::r/\t v J H fun j M=>u r j M Q
theorem Zav:PGs X [] ZhD:=by
 intro j s q H J M Q I r h;obtain⟨e,h⟩:=h;subst e;cases r;exact assignInOrder_nil ⟨q,H,I,h⟩
theorem Wi {e:Expr}{q:List Expr}{t:TG}{u:TGs}(M:PG X e t)(O:PGs X q u)
  (U:(assignEach (e::q) X.env).map (·.2)=assign e X.env::(assignEach q X.env).map (·.2):=by rfl):PGs X (e::q) (JG t u):=by
 intro j s Y H vs us Q I r h;obtain⟨v,vr,e1,h⟩:=h;subst e1;cases r with
 |cons r rr=>
  rw[U];refine assignInOrder_cons (Yj (M j s Y H _ _ _ I r h) fun _ s1 ⟨J,H1,I1,q1⟩=>?_);exact O j s1 J H1 _ _ Q I1 rr q1
noncomputable def ZhC (K:aa)(n:Nat)(t:TGs):TG:=fun v q H Q=>∃a j,v=.ref a/\Xc K H a j/\j.length=n/\t j q H Q
theorem ZcS {q:List Expr}{k:Nat}{t:TGs}{n:Nat}(Y:X.calm=true)(h:PGs X q t)
  (hn:(assignEach q X.env).length=n:=by rfl) (J:(assignEach q X.env).findIdx? (·.1)=none:=by rfl):PG X (.Tuple q k pos) (ZhC X.K n t):=by
 intro j s O H v u Q I r M;obtain⟨a,xs,e1,hq,hl,M⟩:=M;subst e1;cases r;obtain⟨m5,U,ht,hz⟩:=I.tuple hq;refine assign_Tuple_tuple (I.ok.hd Y) ht (by simp[hn,<-hl,U.length]) J fun h' hx=>?_;have I1:Inv X j O H {s with heap:=h'}:=I.kept (t':=s.toks) fun b o e=>hx b o (aC (Zp e)) e;exact h j _ O H xs _ Q I1 (by simpa using U) M
noncomputable def Zo7 (q J:TE)(t:Zid):TG:=fun v j H Q=>q j H fun o M=>J j M fun i O=>t o i v O fun U=>Q j U
theorem XW {o i:Expr}{to M:TE}{t:Zid}(O:PE X o to)(U:PE X i M)(Y:Zmb X t)
  (ha:∀v,assign (.Subscript o i pos) X.env v=(do
   let q <-holding [v] (eval o X.env)
   let iv <-holding [v,q] (eval i X.env)
   standAt pos
   holding [v,q,iv] (setItem q iv v)
   release [v,q,iv] []):=by intro _;rfl):PG X (.Subscript o i pos) (Zo7 to M t):=by
 intro j s J H v u Q I r h;rw[ha];refine Zl (cM (Yj (O j s J H _ I h) fun q s1 ⟨x,H1,I1,r1,q1⟩=>?_));refine Zl (cM (Yj (U j s1 J H1 _ I1 q1) fun iv s2 ⟨y,H2,I2,r2,q2⟩=>?_));refine Zl (kQ (Zl (cM (Yj (Y j s2 J H2 x y v q iv u _ I2 r1 r2 r q2) fun _ s3 ⟨H3,I3,q3⟩=>?_))));exact wpAny_release ⟨J,H3,I3,q3⟩
noncomputable def Zcz (q:TE)(g:TG):TS:=fun D j H=>q j H fun x J=>g x j J D.nx
theorem JB {J e:Expr}{M:TE}{g:TG}(U:PE X e M)(Y:PG X J g)(hs:swapsWithSole [J] e pos.line X.env=pure false:=by rfl)(hw:swappedStores [J] e X.env=pure none:=by rfl)
  (h1:(assignEach [J] X.env).map (·.2)=[assign J X.env]:=by rfl):PS X (.Assign [J] e pos) (Zcz M g):=by
 intro j s O H D I h;refine wpAny_Assign_stores (Yj (U j s O H _ I h) fun v s1 ⟨x,H1,I1,r1,q1⟩=>?_) hs hw;rw[h1];exact Yj (Y j s1 O H1 x v _ I1 r1 q1) fun _ s2 q=>q
theorem Zlj {i:Nat}{x:Str}{e:Expr}{J:TE}{j:Pos}(M:X.N.Nodup)(O:X.N[i]?=some x)(U:Loc X.env.scope x)(Y:PE X e J)(hs:swapsWith e (some (.Name x j)) pos.line X.env=pure false:=by rfl)(hf:X.fn x=true\/X.env.scope.names.lookup x=some .local:=by first|exact .inl rfl|exact .inr rfl|assumption) :
  PS X (.Assign [.Name x j] e pos) (Zcz J (Z7 i)):=by
 intro q s σ H D I h;refine wpAny_Assign_Name (Yj (Y q s σ H _ I h) fun v s1 ⟨y,H1,I1,r1,q1⟩=>?_) hs;exact W1 I1 M O U r1 (fun s2 I2=>⟨_,H1,I2,q1⟩) hf
noncomputable def ZoB (i:Nat)(j:TE)(q:TIp):TS:=fun D σ H=>∃x,σ[i]?=some (some x)/\j σ H fun y J=>q x y J fun z M=>D.nx (σ.set i (some z)) M
theorem JA {i:Nat}{x:Str}{e:Expr}{te:TE}{op:ko}{ti:TIp}{M:Pos}(hN:X.N.Nodup)(hi:X.N[i]?=some x)(Y:Loc X.env.scope x)(he:PE X e te)(ho:PIp X op ti)(hf:X.fn x=true\/X.env.scope.names.lookup x=some .local:=by first|exact .inl rfl|exact .inr rfl|assumption) :
  PS X (.AugAssign (.Name x M) op e pos) (ZoB i te ti):=by
 intro j s σ H D I h;obtain⟨v,e1,h⟩:=h;obtain⟨m,hn,hl⟩:=I.loc;have m5:Vis X.env.scope x:=by rcases Y with k|k;exact .inl k;exact .inr (.inl k)
 obtain⟨u,r,l⟩:=hl i x v hi e1 m5;refine wpAny_AugAssign_Name ?_;have go:wpAny (model X.prog X.w) X.A (eval e X.env) (fun w O=>wpAny (model X.prog X.w) X.A (inplaceOp op u w) (fun r U=>wpAny (model X.prog X.w) X.A (storeName X.env x r) (fun _=>SP X j D .next) X.xe U) X.xe O) X.xe s:=by
  refine Yj (he j s σ H _ I h) fun w s1 ⟨y,H1,I1,r1,q1⟩=>?_;refine Yj (ho j s1 σ H1 v y u w _ I1 r r1 q1) fun z s2 ⟨zv,H2,I2,r2,q2⟩=>?_;exact W1 I2 hN hi Y r2 (fun s3 I3=>⟨_,H2,I3,q2⟩) hf
 rcases l with ⟨q,hm⟩|⟨q,c,hc,J⟩
 ·exact wpAny_loadName_local I.ok.kind q hn hm go
 ·rcases q with q|q
  ·exact wpAny_loadName_cell I.ok.kind q hc J go
  ·rcases Y with k|k
   ·have:X.env.scope.names.lookup x=some .free:=q
    rw[k] at this;cases this
   ·have:X.env.scope.names.lookup x=some .free:=q
    rw[k] at this;cases this
noncomputable def ZmI (O U Y:TE)(j:V->V->Hp->VK->Prop)(M:TIp)(q:Zid):TS:=fun D J H=>O J H fun o H1=>U J H1 fun i H2=>j o i H2 fun x H3=>Y J H3 fun y H4=>M x y H4 fun z H5=>q o i z H5 fun H6=>D.nx J H6
noncomputable def Zmd (X:Cx)(t:V->V->Hp->VK->Prop):Prop:=
 ∀(j:List (Addr×Obj)) (s:Shared) (q:St) (H:Hp) (o i:V) (J M:Value) (Q:VK),Inv X j q H s->RelV o J->RelV i M->t o i H Q->
  wpAny (model X.prog X.w) X.A (getItem J M) (EP X j q Q) X.xe s
theorem Vz {o i e:Expr}{to ti te:TE}{J:V->V->Hp->VK->Prop}{Y:TIp}{M:Zid}{op:ko}{m5:Pos}(ho:PE X o to)(hi:PE X i ti)(hg:Zmd X J)(he:PE X e te)(hp:PIp X op Y)(hs:Zmb X M)
  (ha:∀O iv q,augStore i O iv q=(do holding [q,O,iv] (setItem O iv q);release [q,O,iv] [];pure .next):=by intros;rfl):PS X (.AugAssign (.Subscript o i m5) op e pos) (ZmI to ti te J Y M):=by
 intro j s U H D I h;refine wpAny_AugAssign_SubscriptAny (Yj (ho j s U H _ I h) fun O s1 ⟨x1,H1,I1,r1,q1⟩=>?_) ha;refine Yj (hi j s1 U H1 _ I1 q1) fun iv s2 ⟨x2,H2,I2,r2,q2⟩=>?_;refine Yj (hg j s2 U H2 x1 x2 O iv _ I2 r1 r2 q2) fun m6 s3 ⟨x3,H3,I3,r3,q3⟩=>?_;refine Yj (he j s3 U H3 _ I3 q3) fun v s4 ⟨x4,H4,I4,r4,q4⟩=>?_;refine Yj (hp j s4 U H4 x3 x4 m6 v _ I4 r3 r4 q4) fun q s5 ⟨x5,H5,I5,r5,q5⟩=>?_;exact Yj (hs j s5 U H5 x1 x2 x5 O iv q _ I5 r1 r2 r5 q5) fun _ s6 ⟨H6,I6,q6⟩=>⟨U,H6,I6,q6⟩
noncomputable def ipI (f:Int->Int->Int):TIp:=fun x y H Q=>∃i j,x=.int i/\y=.int j/\Q (.int (f i j)) H
theorem WY:PIp X .Add (ipI fun i j=>i+j):=by
 intro J s σ H x y v u Q I M O h;obtain⟨i,j,U,Y,q⟩:=h;subst U;subst Y;obtain⟨t,rfl⟩:=M;obtain⟨t',rfl⟩:=O;exact iadd_int ⟨.int _,H,I.tok _,⟨_,rfl⟩,q⟩
theorem Zht:PIp X .Sub (ipI fun i j=>i-j):=by
 intro J s σ H x y v u Q I M O h;obtain⟨i,j,U,Y,q⟩:=h;subst U;subst Y;obtain⟨t,rfl⟩:=M;obtain⟨t',rfl⟩:=O;exact isub_int ⟨.int _,H,I.tok _,⟨_,rfl⟩,q⟩
end
section
variable {X:Cx}{pos:Pos}
noncomputable def ZfY (c:TT)(tb:TS):TS:=fun D j H=>∃W:Nat->St->Hp->Prop,(∃m,W m j H)/\∀m j H,W m j H->
 c j H fun b J=>if b=true then ∃N:St->Hp->Prop,(∀ q M,N q M->∃O,O<m/\W O q M)/\tb {D with nx:=N,ct:=N,bk:=D.nx} j J else D.nx j J
theorem Yg {c:Expr}{body:List Stmt}{tc:TT}{tb:TS}(hp:PassesOwn (model X.prog X.w) X.A X.env X.xe)(hc:PT X c tc)(hb:PSs X body tb):PS X (.While c body [] pos) (ZfY tc tb):=by
 intro j s σ H D I h;obtain⟨W,⟨m0,w0⟩,turn⟩:=h;refine wpAny_While (codeAny_whileLoop (fun n s'=>∃ M H',Inv X j M H' s'/\W n M H') ?_ m0 ⟨σ,H,I,w0⟩);rintro n s1 ⟨J,H1,I1,w1⟩;refine dO hp (Yj (hc j s1 J H1 _ I1 (turn n J H1 w1)) fun b s2 ⟨H2,I2,U⟩=>?_);cases b with
 |true=>
  obtain⟨N,hN,U⟩:=U;rw[if_pos rfl];refine dO hp (Yj (hb j s2 J H2 _ I2 U) fun f s3 Y=>?_);cases f with
  |next=>
   obtain⟨q,O,I3,n3⟩:=Y;obtain⟨m',hm,w3⟩:=hN q O n3;exact⟨m',hm,q,O,I3,w3⟩
  |cont=>
   obtain⟨q,O,I3,n3⟩:=Y;obtain⟨m',hm,w3⟩:=hN q O n3;exact⟨m',hm,q,O,I3,w3⟩
  |brk=>exact Y
  |ret v=>exact Y
 |false=>
  rw[if_neg aH];exact iq ⟨J,H2,I2,U⟩
end
structure It where
 go:Nat->Hp->Prop
 yld:Nat->Hp->V->Hp->Prop
 stop:Nat->Hp->Prop
noncomputable def UG (X:Cx)(j:List (Addr×Obj))(H:Hp)(b:Addr):Prop:=
 H b=none/\b≠X.env.locals/\b∉X.fs/\(b∈X.ex\/X.s₀.heap.objs.size<=b)/\(∀x c,X.env.cells.lookup x=some c->c≠b)/\∀p∈X.pn++j,p.1≠b
theorem Inv.fpOk {X:Cx}{j:List (Addr×Obj)}{σ:St}{H J:Hp}{s:Shared}{b:Addr}(I:Inv X j σ H s)(hb:s.heap.objs.size<=b)(M:J b=none):UG X j J b:=by
 refine⟨M,bb (aE I.lt hb),I.nofs hb,.inr (aZ I.sz hb),fun x c e z=>?_,fun p O z=>?_⟩
 ·obtain⟨v,q⟩:=I.cell x c e
  exact absurd (aE q.lt (by rw[z];exact hb)) (bR _)
 ·exact absurd (aE (Zp (I.pin p O).1) (by rw[z];exact hb)) (bR _)
structure UE (P:Program)(w:World)(K:aa)(tg:Expr)(J:It)(fp:List Addr)(it:Addr)(tn:Nat->Heap->Prop):Prop where
 mem:it∈fp
 obj:∀i h,tn i h->∀b∈fp,∃o,h.get? b=some o/\∀v,o.data≠.cell v
 keep:∀i h h',tn i h->(∀b∈fp,∀o,h.get? b=some o->h'.get? b=some o)->tn i h'
 item:∀(X:Cx),X.prog=P->X.w=w->X.K=K->X.calm=true->∀(i:Nat) (pins:List (Addr×Obj)) (s:Shared) (σ:St) (H:Hp) (E:Value->Shared->Prop),Inv X pins σ H s->(∀b∈fp,UG X pins H b)->tn i s.heap->J.go i H->
  wpAny (model P w) X.A (pyNext (.ref it)) (fun r s1=>∃u,r=some u/\
   wpAny (model P w) X.A (letOwnedTupleGo tg (.ref it) u) (fun _ s2=>∃x H',Inv X pins σ H' s2/\RelV x u/\J.yld i H x H'/\tn (i+1) s2.heap/\∀b∈fp,H' b=none) E s1) E s
 done:∀(X:Cx),X.prog=P->X.w=w->X.K=K->X.calm=true->∀(i:Nat) (pins:List (Addr×Obj)) (s:Shared) (σ:St) (H:Hp) (E:Value->Shared->Prop),Inv X pins σ H s->(∀b∈fp,UG X pins H b)->tn i s.heap->J.stop i H->
  wpAny (model P w) X.A (pyNext (.ref it)) (fun r s1=>r=none/\Inv X pins σ H s1) E s
 self:∀(A:Around) (i:Nat) (s:Shared) (Q:Value->Shared->Prop) (E:Value->Shared->Prop),tn i s.heap->Q (.ref it) s->wpAny (model P w) A (pyIter (.ref it)) Q E s
noncomputable abbrev TI:=St->Hp->(It->Hp->Prop)->Prop
noncomputable def PIE (X:Cx)(j:List (Addr×Obj))(σ:St)(tg:Expr)(R:It->Hp->Prop)(q:Value)(O:Shared):Prop:=
 ∃(it:Addr) (U:List Addr) (Y:Nat->Heap->Prop) (J:It) (M:Hp),q=.ref it/\Inv X j σ M O/\UE X.prog X.w X.K tg J U it Y/\Y 0 O.heap/\(∀b∈U,UG X j M b)/\R J M
noncomputable def PI (X:Cx)(M q:Expr)(O:TI):Prop:=
 ∀(j:List (Addr×Obj)) (s:Shared) (J:St) (H:Hp) (R:It->Hp->Prop),Inv X j J H s->O J H R->
  wpAny (model X.prog X.w) X.A (eval q X.env) (fun v U=>wpAny (model X.prog X.w) X.A (pyIter v) (PIE X j J M R) X.xe U) X.xe s
theorem Zb5 {M:Model}{A:Around}{E:Value->Shared->Prop}{s:Shared}{q:Expr}{it:Addr}{u:Value}{o:Obj}{n:String}{vs:Array Value}{Q:Unit->Shared->Prop}(J:s.heap.get? it=some o)(O:o.cls=.type n)(hd:o.data=.fields vs)
    (U:["enumerate", "zip", "dict_itemiterator", "dict_reverseitemiterator", "odict_iterator", "itertools.zip_longest", "itertools.pairwise"].contains n=false) (j:Q () s):wpAny M A (letOwnedTupleGo q (.ref it) u) Q E s:=by
  unfold letOwnedTupleGo;cases q <;> first
    |exact Zm j
    |(cases u <;> first
        |exact Zm j
        | (refine Zl (i6 J ?_)
           rw[O,hd];show wpAny M A (if (["enumerate", "zip", "dict_itemiterator", "dict_reverseitemiterator", "odict_iterator", "itertools.zip_longest", "itertools.pairwise"].contains n && vs[0]? == some (rawInt _))=true then _ else _) Q E s
           rw[if_neg (by intro h;rw[U,Bool.false_and] at h;cases h)];exact Zm j))
noncomputable def Itl (K:aa)(a:Addr):It:=
 ⟨fun i H=>∃j x,Wt K H a j/\j[i]?=some x,fun i H x q=>q=H/\∀j,Wt K H a j->j[i]?=some x,fun i H=>∃j,Wt K H a j/\j.length<=i⟩
noncomputable def Itt (K:aa)(a:Addr):It:=
 ⟨fun i H=>∃j x,Xc K H a j/\j[i]?=some x,fun i H x q=>q=H/\∀j,Xc K H a j->j[i]?=some x,fun i H=>∃j,Xc K H a j/\j.length<=i⟩
noncomputable def Itr (lo:Int)(n:Nat):It:=⟨fun i _=>i<n,fun i H x j=>j=H/\x=.int (lo+i),fun i _=>n<=i⟩
theorem ZeM {P:Program}{w:World}{K:aa}{tg:Expr}(a it:Addr):UE P w K tg (Itl K a) [it] it (fun i h=>h.IsListIter it a i) where
 mem:=by simp
 obj:=fun i h st b hb=>by
  have e:b=it:=by simpa using hb
  subst e;obtain⟨o,e,c,d⟩:=st;exact⟨o,e,fun v z=>by rw[d] at z;cases z⟩
 keep:=fun i h J st k=>st.at fun o e=>k it (by simp) o e
 item:=by
  intro X U Y hK hc i j s σ H E I M st hg;subst U Y hK;obtain⟨xs,x,O,hx⟩:=hg;obtain⟨m5,rv,p,hz⟩:=I.list O;obtain⟨u,hu,ru⟩:=rv.get hx;obtain⟨f0,f1,f2,f3,f4,f5⟩:=M it (by simp);refine wpAny_pyNext_list_item st p.isList (x:=u) (by simpa using hu) fun J q sb=>?_;have I1:Inv X j σ H {s with heap:=J}:=I.turned (t':=s.toks) (fun b o hb e=>(sb.2 b hb).trans e) f0 f1 f3 f4 f5;obtain⟨o,e,c,d⟩:=id q;exact⟨u,rfl,Zb5 (s:={s with heap:=J}) e c d (by decide) ⟨x,H,I1,ru,⟨rfl,fun ys hy=>by rw[I.list_inj hy O];exact hx⟩,q,fun b hb=>(M b hb).1⟩⟩
 done:=by
  intro X U Y hK hc i j s σ H E I M st hg;subst U Y hK;obtain⟨xs,O,hx⟩:=hg;obtain⟨m5,rv,p,hz⟩:=I.list O;obtain⟨f0,f1,f2,f3,f4,f5⟩:=M it (by simp);have hl:=rv.length;exact wpAny_pyNext_list_end (I.ok.hd hc) st p.isList (by simp;omega) fun J eb=>⟨rfl,I.turned (t':=s.toks) (fun b o hb e=>eb b o hb e) f0 f1 f3 f4 f5⟩
 self:=fun _ _ _ _ _ st h=>wpAny_pyIter_listiter st h
theorem Zcv {P:Program}{w:World}{K:aa}{tg:Expr}(a it:Addr):UE P w K tg (Itt K a) [it] it (fun i h=>h.IsTupleIter it a i) where
 mem:=by simp
 obj:=fun i h st b hb=>by
  have e:b=it:=by simpa using hb
  subst e;obtain⟨o,e,c,d⟩:=st;exact⟨o,e,fun v z=>by rw[d] at z;cases z⟩
 keep:=fun i h M st k=>st.at fun o e=>k it (by simp) o e
 item:=by
  intro X Y hw hK hc i j s σ H E I O st hg;subst Y hw hK;obtain⟨xs,x,U,hx⟩:=hg;obtain⟨q,rv,p,hz⟩:=I.tuple U;obtain⟨u,hu,ru⟩:=rv.get hx;obtain⟨f0,f1,f2,f3,f4,f5⟩:=O it (by simp);refine wpAny_pyNext_tuple_item st (show s.heap.IsTuple a q.toArray from p) (x:=u) (by simpa using hu) fun M J sb=>?_;have I1:Inv X j σ H {s with heap:=M}:=I.turned (t':=s.toks) (fun b o hb e=>(sb.2 b hb).trans e) f0 f1 f3 f4 f5;obtain⟨o,e,c,d⟩:=id J;exact⟨u,rfl,Zb5 (s:={s with heap:=M}) e c d (by decide) ⟨x,H,I1,ru,⟨rfl,fun ys hy=>by rw[I.tuple_inj hy U];exact hx⟩,J,fun b hb=>(O b hb).1⟩⟩
 done:=by
  intro X Y hw hK hc i j s σ H E I O st hg;subst Y hw hK;obtain⟨xs,U,hx⟩:=hg;obtain⟨q,rv,p,hz⟩:=I.tuple U;obtain⟨f0,f1,f2,f3,f4,f5⟩:=O it (by simp);have hl:=rv.length;exact wpAny_pyNext_tuple_end (I.ok.hd hc) st (show s.heap.IsTuple a q.toArray from p) (by simp;omega) fun M eb=>⟨rfl,I.turned (t':=s.toks) (fun b o hb e=>eb b o hb e) f0 f1 f3 f4 f5⟩
 self:=fun _ _ _ _ _ st h=>wpAny_pyIter_tupleiter st h
theorem Zcw {P:Program}{w:World}{K:aa}{tg:Expr}(it:Addr)(lo:Int)(n:Nat):UE P w K tg (Itr lo n) [it] it (fun i h=>gM h it (lo+(i:Nat)*1) ((n:Int)-(i:Nat)) 1) where
 mem:=by simp
 obj:=fun i h st b hb=>by
  have e:b=it:=by simpa using hb
  subst e;exact⟨_,st,fun v z=>by
   have z':f9 _=fU v:=z;cases z'⟩
 keep:=fun i h J st k=>k it (by simp) _ st
 item:=by
  intro X O U Y hc i j s σ H E I M st hg;subst O U Y;obtain⟨f0,f1,f2,f3,f4,f5⟩:=M it (by simp);have W:=kh (prog:=X.prog) (w:=X.w) (I.ok.hd hc) it lo 1 n;refine W.item i s _ _ hg st fun v J tk hv q kk=>?_;obtain⟨t,rfl⟩:=hv;have I1:Inv X j σ H {s with heap:=J,toks:=tk}:=I.turned (fun b o hb e=>kk b o (by simpa using hb) e) f0 f1 f3 f4 f5;refine⟨_,rfl,Zb5 (s:={s with heap:=J,toks:=tk}) (n:="range_iterator") q rfl rfl (by decide) ⟨.int (lo+i),H,I1,⟨t,?_⟩,⟨rfl,rfl⟩,q,fun b hb=>(M b hb).1⟩⟩;rw[io]
 done:=by
  intro X O U Y hc i j s σ H E I M st hg;subst O U Y;obtain⟨f0,f1,f2,f3,f4,f5⟩:=M it (by simp);exact ie (I.ok.hd hc) st (by have:n<=i:=hg;omega) fun J eb=>⟨rfl,I.turned (t':=s.toks) (fun b o hb e=>eb b o hb e) f0 f1 f3 f4 f5⟩
 self:=fun _ _ _ _ _ st h=>ig st h
section
variable {X:Cx}{tg:Expr}
noncomputable def ZkD (K:aa)(q:TE):TI:=fun J H R=>q J H fun x j=>∃a,x=.ref a/\(∃M,Wt K j a M)/\R (Itl K a) j
noncomputable def Znt (K:aa)(q:TE):TI:=fun J H R=>q J H fun x j=>∃a,x=.ref a/\(∃M,Xc K j a M)/\R (Itt K a) j
theorem Zi0 {l:Expr}{O:TE}(U:PE X l O):PI X tg l (ZkD X.K O):=by
 intro j s Y H R I h;refine Yj (U j s Y H _ I h) fun v J ⟨x,H1,M,r1,q1⟩=>?_;obtain⟨a,e,⟨xs,hq⟩,q⟩:=q1;subst e;cases r1;obtain⟨m5,rv,p,hz⟩:=M.list hq;refine fo p.isList ?_;refine⟨J.heap.objs.size,[J.heap.objs.size],_,_,H1,rfl,M.kept (t':=J.toks) fun b o e=>Zn _ e,ZeM a _,⟨_,Zo _ rfl,rfl,rfl⟩,fun b hb=>?_,q⟩;have e:b=J.heap.objs.size:=by simpa using hb
 subst e;exact M.fpOk (Zq _) (M.hok.fresh (Zq _))
theorem Zlm {l:Expr}{U:TE}(Y:PE X l U):PI X tg l (Znt X.K U):=by
 intro j s σ H R I h;refine Yj (Y j s σ H _ I h) fun v J ⟨x,H1,M,r1,q1⟩=>?_;obtain⟨a,e,⟨xs,hq⟩,q⟩:=q1;subst e;cases r1;obtain⟨O,rv,p,hz⟩:=M.tuple hq;refine gx (show J.heap.IsTuple a O.toArray from p) ?_;refine⟨J.heap.objs.size,[J.heap.objs.size],_,_,H1,rfl,M.kept (t':=J.toks) fun b o e=>Zn _ e,Zcv a _,⟨_,Zo _ rfl,rfl,rfl⟩,fun b hb=>?_,q⟩;have e:b=J.heap.objs.size:=by simpa using hb
 subst e;exact M.fpOk (Zq _) (M.hok.fresh (Zq _))
theorem ZbD {J:List (Addr×Obj)}{σ:St}{H:Hp}{s:Shared}{R:It->Hp->Prop}{E:Value->Shared->Prop}{lo j:Int}{t u v:Tok}{tk:Nat}(I:Inv X J σ H s)(O:-(2 ^ 62)<=lo)(U:lo<2 ^ 62)(Y:-(2 ^ 62)<=j)(h4:j<2 ^ 62)
  (q:R (Itr lo (j-lo).toNat) H):wpAny (model X.prog X.w) X.A (pyIter (.ref s.heap.objs.size)) (PIE X J σ tg R) E {s with heap:=s.heap.push {cls:=.type "range",data:=.fields #[.int lo t,.int j u,.int 1 v]},toks:=tk}:=by
 refine i0 (jR ..) (small_one O U Y h4) ?_;have M:Inv X J σ H {s with heap:=s.heap.push {cls:=.type "range",data:=.fields #[.int lo t,.int j u,.int 1 v]},toks:=tk}:=I.kept fun b o e=>Zn _ e;refine⟨(s.heap.push {cls:=.type "range",data:=.fields #[.int lo t,.int j u,.int 1 v]}).objs.size,[(s.heap.push {cls:=.type "range",data:=.fields #[.int lo t,.int j u,.int 1 v]}).objs.size],_,_,H,rfl,
  M.kept (t':=tk) fun b o e=>Zn _ e,Zcw _ lo (j-lo).toNat,?_,fun b hb=>?_,q⟩
 ·have e1:lo+((0:Nat):Int)*1=lo:=by simp
  have e2:(((j-lo).toNat:Nat):Int)-((0:Nat):Int)=bd lo j 1:=by rw[kW];split <;> omega
  show gM _ _ (lo+((0:Nat):Int)*1) ((((j-lo).toNat:Nat):Int)-((0:Nat):Int)) 1;rw[e1,e2];exact Zo _ rfl
 ·have e:b=(s.heap.push {cls:=.type "range",data:=.fields #[.int lo t,.int j u,.int 1 v]}).objs.size:=by simpa using hb
  subst e;exact M.fpOk (Zq _) (M.hok.fresh (Zq _))
noncomputable def ZkC (q:TA):TI:=fun J H R=>q J H fun M O=>∃j:Int,M=[.int j]/\-(2 ^ 62)<=j/\j<2 ^ 62/\R (Itr 0 j.toNat) O
noncomputable def ZkB (q:TA):TI:=fun J H R=>q J H fun M O=>∃i j:Int,M=[.int i,.int j]/\(-(2 ^ 62)<=i/\i<2 ^ 62/\-(2 ^ 62)<=j/\j<2 ^ 62)/\R (Itr i (j-i).toNat) O
theorem ZeW {a:Expr}{O:TA}{p pos:Pos}(U:Gl X "range")(Y:X.mg "range"=none)(ha:PA X [a] O)(hs:starEach [a] X.env=[(false,eval a X.env)]:=by rfl):PI X tg (.Call (.Name "range" p) [a] [] pos) (ZkC O):=by
 intro J s σ H R I h;refine Call_ (Jj I U Y kA (bo (Yj (ha pos J s σ H _ I h) fun us s1 ⟨vs,H1,I1,r1,M⟩=>?_) hs rfl));obtain⟨j,e,M,q2,q⟩:=M;subst e;cases r1 with
 |cons r rr=>
  cases rr;obtain⟨t,rfl⟩:=r;exact call_range_1 (ZbD I1 (by omega) (by omega) M q2 (by simpa using q))
theorem ZeV {a b:Expr}{Y:TA}{p pos:Pos}(hg:Gl X "range")(hm:X.mg "range"=none)(ha:PA X [a,b] Y)(hs:starEach [a,b] X.env=[(false,eval a X.env),(false,eval b X.env)]:=by rfl)(J:starEach [b] X.env=[(false,eval b X.env)]:=by rfl) :
  PI X tg (.Call (.Name "range" p) [a,b] [] pos) (ZkB Y):=by
 intro M s σ H R I h;refine Call_ (Jj I hg hm kA (bo (Yj (ha pos M s σ H _ I h) fun us s1 ⟨vs,H1,I1,r1,O⟩=>?_) (by rw[hs,J]) (by rw[J];rfl)));obtain⟨i,j,e,⟨O,q2,q3,q4⟩,q⟩:=O;subst e;cases r1 with
 |cons r U=>
  cases U with
  |cons r' U=>
   cases U;obtain⟨t,rfl⟩:=r;obtain⟨t',rfl⟩:=r';exact call_range_2 (ZbD I1 O q2 q3 q4 q)
noncomputable def Zoy (Y:TI)(g:TG)(tb:TS):TS:=fun D j H=>Y j H fun J H1=>∃W:Nat->Nat->St->Hp->Prop,(∃m,W 0 m j H1)/\∀i m j H,W i m j H->
 (J.stop i H/\D.nx j H)\/(J.go i H/\∃N:St->Hp->Prop,(∀ q M,N q M->∃U,U<m/\W (i+1) U q M)/\∀x M,J.yld i H x M->g x j M fun O H2=>tb {D with nx:=N,ct:=N,bk:=D.nx} O H2)
noncomputable def VT (j:List Addr)(h:Heap):List (Addr×Obj):=j.filterMap fun b=>(h.get? b).map fun o=>(b,o)
theorem Ji {j:List Addr}{h:Heap}{b:Addr}{o:Obj}(hb:b∈j)(e:h.get? b=some o):(b,o)∈VT j h:=iB.mpr ⟨b,hb,by rw[e];rfl⟩
theorem Ze8 {j:List Addr}{h:Heap}{p:Addr×Obj}(J:p∈VT j h):p.1∈j/\h.get? p.1=some p.2:=by
 obtain⟨b,hb,e⟩:=iB.mp J;cases q:h.get? b with
 |none=>rw[q] at e;cases e
 |some o=>
  rw[q] at e;have M:(b,o)=p:=aD e;subst M;exact⟨hb,q⟩
theorem Inv.pinned {j:List (Addr×Obj)}{σ:St}{H:Hp}{s:Shared}{q:List Addr}(I:Inv X j σ H s)(M:∀b∈q,UG X j H b)(O:∀b∈q,∃o,s.heap.get? b=some o/\∀v,o.data≠.cell v):Inv X (j++VT q s.heap) σ H s:=
 I.pins_of fun p U=>(bJ.mp U).elim (fun z=>I.pin p (aR _ z)) fun z=>by
  obtain⟨hb,e⟩:=Ze8 z;obtain⟨Y,f1,f2,_⟩:=M p.1 hb;obtain⟨o,J,d⟩:=O p.1 hb;rw[e] at J;cases J;exact⟨e,Y,f1,f2,d⟩
theorem Inv.unpinned {j pl:List (Addr×Obj)}{σ:St}{H:Hp}{s:Shared}(I:Inv X (j++pl) σ H s):Inv X j σ H s:=I.pins_of fun p q=>I.pin p (aR _ (bW _ q))
theorem ZT {iter:Expr}{body:List Stmt}{wi:TI}{g:TG}{tb:TS}{pos:Pos}(hp:PassesOwn (model X.prog X.w) X.A X.env X.xe)(hc:X.calm=true)(hi:PI X tg iter wi)(hg:PG X tg g)(hb:PSs X body tb)
  (hs:∀x,foldedSetIterable iter X.env x=pure x:=by intro _;rfl):PS X (.For tg iter body [] pos) (Zoy wi g tb):=by
 intro j s σ H D I h;refine wpAny_For (Yj (hi j s σ H _ I h) fun v s1 h1=>Yj h1 fun o5 s2 h2=>?_) hs;obtain⟨it,fp,tn,J,H2,e,I2,T,n6,f2,W,⟨m0,w0⟩,turn⟩:=h2;subst e;have M:∀{H':Hp},(∀b∈fp,H' b=none)->∀b∈fp,UG X j H' b:=fun hn b hb=>⟨hn b hb,(f2 b hb).2⟩;refine codeAny_forLoop_any (fun n s'=>∃i O H',Inv X j O H' s'/\tn i s'.heap/\(∀b∈fp,H' b=none)/\W i n O H') ?_ m0 ⟨0,σ,H2,I2,n6,fun b hb=>(f2 b hb).1,w0⟩;rintro n s3 ⟨i,U,H3,I3,m6,m8,w3⟩;rcases turn i n U H3 w3 with ⟨stop,qn⟩|⟨go,N,hN,step⟩
 ·refine dO hp (Yj (T.done X rfl rfl rfl hc i j s3 U H3 X.xe I3 (M m8) m6 stop) fun r s4 ⟨hr,I4⟩=>?_)
  subst hr;exact iq ⟨U,H3,I4,qn⟩
 ·refine dO hp (Yj (T.item X rfl rfl rfl hc i j s3 U H3 X.xe I3 (M m8) m6 go) fun r s4 ⟨u,hr,h4⟩=>?_)
  subst hr;refine dO hp (Yj h4 fun _ s5 ⟨x,H5,I5,r5,y5,m5,n8⟩=>?_);have n9:=I5.pinned (M n8) (T.obj _ _ m5);refine dO hp (Yj (hg _ s5 U H5 x u _ n9 r5 (step x H5 y5)) fun _ s6 ⟨o0,H6,I6,q6⟩=>?_);refine dO hp (Yj (hb _ s6 o0 H6 _ I6 q6) fun f s7 q7=>?_);have again:∀{q:St}{Y:Hp},Inv X (j++VT fp s5.heap) q Y s7->N q Y->∃m,m<n/\∃i O H',Inv X j O H' s7/\tn i s7.heap/\(∀b∈fp,H' b=none)/\W i m O H':=fun {q Y} I7 n7=>by
   obtain⟨m',hm,w7⟩:=hN q Y n7;refine⟨m',hm,i+1,q,Y,I7.unpinned,T.keep _ _ _ m5 fun b hb o e=>(I7.pin (b,o) (aR _ (aR _ (Ji hb e)))).1,fun b hb=>?_,w7⟩;obtain⟨o,e,d⟩:=T.obj _ _ m5 b hb;exact (I7.pin (b,o) (aR _ (aR _ (Ji hb e)))).2.1
  cases f with
  |next=>obtain⟨q,Y,I7,n7⟩:=q7;exact again I7 n7
  |cont=>obtain⟨q,Y,I7,n7⟩:=q7;exact again I7 n7
  |brk=>obtain⟨q,Y,I7,q7⟩:=q7;exact⟨q,Y,I7.unpinned,q7⟩
  |ret v=>obtain⟨x7,q,Y,I7,r7,q7⟩:=q7;exact⟨x7,q,Y,I7.unpinned,r7,q7⟩
end
theorem ZhG {K:aa}{a:Addr}{xs:List V}{g:TG}{tb:TS}{D:J5}{σ:St}{H:Hp}(Pv:Nat->St->Hp->Prop)(h0:Pv 0 σ H)(hl:∀i σ H,i<=xs.length->Pv i σ H->Wt K H a xs)
  (hs:∀i x σ H,xs[i]?=some x->Pv i σ H->g x σ H fun j U=>tb {D with nx:=Pv (i+1),ct:=Pv (i+1),bk:=D.nx} j U) (hd:∀ σ H,Pv xs.length σ H->D.nx σ H) :
  ∃W:Nat->Nat->St->Hp->Prop,(∃m,W 0 m σ H)/\∀i m σ H,W i m σ H->
   ((Itl K a).stop i H/\D.nx σ H)\/((Itl K a).go i H/\∃N:St->Hp->Prop,(∀ J M,N J M->∃Y,Y<m/\W (i+1) Y J M)/\∀x M,(Itl K a).yld i H x M->g x σ M fun j U=>tb {D with nx:=N,ct:=N,bk:=D.nx} j U):=by
 refine⟨fun i m σ H=>m=xs.length-i/\i<=xs.length/\Pv i σ H,⟨xs.length,by simp,a5 _,h0⟩,?_⟩;rintro i m σ H ⟨rfl,hi,p⟩;have q:=hl i σ H hi p;by_cases O:i<xs.length
 ·refine .inr ⟨⟨xs,xs[i],q,by simp[O]⟩,Pv (i+1),fun J M p'=>⟨xs.length-(i+1),by omega,rfl,O,p'⟩,fun x M y=>?_⟩
  obtain⟨e,y⟩:=y;subst e;exact hs i x σ _ (y xs q) p
 ·have e:i=xs.length:=by omega
  subst e;exact .inl ⟨⟨xs,q,Zq _⟩,hd σ H p⟩
theorem Zer {K:aa}{a:Addr}{xs:List V}{g:TG}{tb:TS}{D:J5}{σ:St}{H:Hp}(Pv:Nat->St->Hp->Prop)(h0:Pv 0 σ H)(hl:∀i σ H,i<=xs.length->Pv i σ H->Xc K H a xs)
  (hs:∀i x σ H,xs[i]?=some x->Pv i σ H->g x σ H fun j U=>tb {D with nx:=Pv (i+1),ct:=Pv (i+1),bk:=D.nx} j U) (hd:∀ σ H,Pv xs.length σ H->D.nx σ H) :
  ∃W:Nat->Nat->St->Hp->Prop,(∃m,W 0 m σ H)/\∀i m σ H,W i m σ H->
   ((Itt K a).stop i H/\D.nx σ H)\/((Itt K a).go i H/\∃N:St->Hp->Prop,(∀ J M,N J M->∃Y,Y<m/\W (i+1) Y J M)/\∀x M,(Itt K a).yld i H x M->g x σ M fun j U=>tb {D with nx:=N,ct:=N,bk:=D.nx} j U):=by
 refine⟨fun i m σ H=>m=xs.length-i/\i<=xs.length/\Pv i σ H,⟨xs.length,by simp,a5 _,h0⟩,?_⟩;rintro i m σ H ⟨rfl,hi,p⟩;have q:=hl i σ H hi p;by_cases O:i<xs.length
 ·refine .inr ⟨⟨xs,xs[i],q,by simp[O]⟩,Pv (i+1),fun J M p'=>⟨xs.length-(i+1),by omega,rfl,O,p'⟩,fun x M y=>?_⟩
  obtain⟨e,y⟩:=y;subst e;exact hs i x σ _ (y xs q) p
 ·have e:i=xs.length:=by omega
  subst e;exact .inl ⟨⟨xs,q,Zq _⟩,hd σ H p⟩
theorem YC {lo:Int}{n:Nat}{g:TG}{tb:TS}{D:J5}{σ:St}{H:Hp}(Pv:Nat->St->Hp->Prop)(h0:Pv 0 σ H)
  (Y:∀i σ H,i<n->Pv i σ H->g (.int (lo+i)) σ H fun j O=>tb {D with nx:=Pv (i+1),ct:=Pv (i+1),bk:=D.nx} j O) (hd:∀ σ H,Pv n σ H->D.nx σ H) :
  ∃W:Nat->Nat->St->Hp->Prop,(∃m,W 0 m σ H)/\∀i m σ H,W i m σ H->
   ((Itr lo n).stop i H/\D.nx σ H)\/((Itr lo n).go i H/\∃N:St->Hp->Prop,(∀ q J,N q J->∃U,U<m/\W (i+1) U q J)/\∀x J,(Itr lo n).yld i H x J->g x σ J fun j O=>tb {D with nx:=N,ct:=N,bk:=D.nx} j O):=by
 refine⟨fun i m σ H=>m=n-i/\i<=n/\Pv i σ H,⟨n,by simp,a5 _,h0⟩,?_⟩;rintro i m σ H ⟨rfl,hi,p⟩;by_cases M:i<n
 ·refine .inr ⟨M,Pv (i+1),fun q J p'=>⟨n-(i+1),by omega,rfl,M,p'⟩,fun x J y=>?_⟩
  obtain⟨e,y⟩:=y;subst e y;exact Y i σ _ M p
 ·have e:i=n:=by omega
  subst e;exact .inl ⟨Zq _,hd σ H p⟩
noncomputable abbrev R2:=V->V->Hp->VK->Prop
noncomputable def Vv (X:Cx)(f:Value->Value->Sem Value)(r:R2):Prop:=
 ∀(j:List (Addr×Obj)) (s:Shared) (q:St) (H:Hp) (x y:V) (v u:Value) (Q:VK),Inv X j q H s->RelV x v->RelV y u->r x y H Q->
  wpAny (model X.prog X.w) X.A (f v u) (EP X j q Q) X.xe s
noncomputable def UnR (X:Cx)(f:Value->Sem Value)(r:V->Hp->VK->Prop):Prop:=
 ∀(j:List (Addr×Obj)) (s:Shared) (q:St) (H:Hp) (x:V) (v:Value) (Q:VK),Inv X j q H s->RelV x v->r x H Q->
  wpAny (model X.prog X.w) X.A (f v) (EP X j q Q) X.xe s
noncomputable def Yu (X:Cx)(f:Value)(r:List V->Hp->VK->Prop):Prop:=
 ∀(j:List (Addr×Obj)) (s:Shared) (q:St) (H:Hp) (J:List V) (M:List Value) (Q:VK),Inv X j q H s->ZL J M->r J H Q->
  wpAny (model X.prog X.w) X.A (call f M) (EP X j q Q) X.xe s
noncomputable def tOp (r:R2)(q tb:TE):TE:=fun j H Q=>q j H fun x J=>tb j J fun y M=>r x y M Q
noncomputable def tUn (r:V->Hp->VK->Prop)(j:TE):TE:=fun q H Q=>j q H fun x J=>r x J Q
noncomputable def rI (C:Int->Int->Prop)(g:Int->Int->V):R2:=fun x y H Q=>∃i j,x=.int i/\y=.int j/\C i j/\Q (g i j) H
noncomputable def rI0 (g:Int->Int->V):R2:=fun x y H Q=>∃i j,x=.int i/\y=.int j/\Q (g i j) H
noncomputable def rU (g:Int->V):V->Hp->VK->Prop:=fun x H Q=>∃i,x=.int i/\Q (g i) H
section
variable {X:Cx}{a b c:Expr}{ta tb tc:TE}{pos:Pos}
theorem Zl3 (Y:PE X a ta)(hb:PE X b tb){j:List (Addr×Obj)}{s:Shared}{σ:St}{H:Hp}{R:V->V->Hp->Prop}(I:Inv X j σ H s)
  (h:ta σ H fun x U=>tb σ U fun y q=>R x y q) {Q:Value->Shared->Prop}{f:Value->Value->Sem Value}
  (hf:∀v u O x y q,Inv X j σ q O->RelV x v->RelV y u->R x y q->wpAny (model X.prog X.w) X.A (f v u) Q X.xe O) :
  wpAny (model X.prog X.w) X.A (eval a X.env) (fun v J=>wpAny (model X.prog X.w) X.A (eval b X.env) (fun u M=>wpAny (model X.prog X.w) X.A (f v u) Q X.xe M) X.xe J) X.xe s:=by
 refine Yj (Y j s σ H _ I h) fun v s1 ⟨x,U,I1,r1,q1⟩=>?_;refine Yj (hb j s1 σ U _ I1 q1) fun u O ⟨y,q,I2,r2,q2⟩=>?_;exact hf v u O x y q I2 r1 r2 q2
theorem Zz {op:ko}{r:R2}(J:Vv X (binaryOp op) r)(M:PE X a ta)(hb:PE X b tb):PE X (.BinOp a op b pos) (tOp r ta tb):=by
 intro j s O H Q I h;exact wpAny_BinOp (Zl3 M hb I h fun v u U x y Y I2 rx ry q=>J j U O Y x y v u Q I2 rx ry q)
theorem Vi {op:UnaryOp}{r:V->Hp->VK->Prop}(J:UnR X (unaryOp op) r)(M:PE X a ta):PE X (.UnaryOp op a pos) (tUn r ta):=by
 intro j s q H Q I h;exact UnaryOp_ (Yj (M j s q H _ I h) fun v O ⟨x,U,Y,r1,q1⟩=>J j O q U x v Q Y r1 q1)
theorem opI {f:Value->Value->Sem Value}{C:Int->Int->Prop}{g:Int->Int->Int}
  (rule:∀(i j:Int) (t u:Tok) (s:Shared) (Q:Value->Shared->Prop) (E:Value->Shared->Prop),C i j->Q (.int (g i j) s.toks) {s with toks:=s.toks+1}->wpAny (model X.prog X.w) X.A (f (.int i t) (.int j u)) Q E s) :
  Vv X f (rI C fun i j=>.int (g i j)):=by
 intro J s σ H x y v u Q I M O h;obtain⟨i,j,rfl,rfl,U,q⟩:=h;obtain⟨t,rfl⟩:=M;obtain⟨Y,rfl⟩:=O;exact rule i j t Y s _ _ U ⟨.int (g i j),H,I.tok _,⟨_,rfl⟩,q⟩
theorem Zm4 {f:Value->Value->Sem Value}{g:Int->Int->Int}
  (rule:∀(i j:Int) (t u:Tok) (s:Shared) (Q:Value->Shared->Prop) (E:Value->Shared->Prop),Q (.int (g i j) s.toks) {s with toks:=s.toks+1}->wpAny (model X.prog X.w) X.A (f (.int i t) (.int j u)) Q E s) :
  Vv X f (rI0 fun i j=>.int (g i j)):=by
 intro J s Y H x y v u Q I M O h;obtain⟨i,j,rfl,rfl,q⟩:=h;obtain⟨t,rfl⟩:=M;obtain⟨U,rfl⟩:=O;exact rule i j t U s _ _ ⟨.int (g i j),H,I.tok _,⟨_,rfl⟩,q⟩
theorem Zjd {f:Value->Value->Sem Value}{g:Int->Int->Bool}
  (rule:∀(i j:Int) (t u:Tok) (s:Shared) (Q:Value->Shared->Prop) (E:Value->Shared->Prop),Q (.bool (g i j)) s->wpAny (model X.prog X.w) X.A (f (.int i t) (.int j u)) Q E s) :
  Vv X f (rI0 fun i j=>.bl (g i j)):=by
 intro J s Y H x y v u Q I M O h;obtain⟨i,j,rfl,rfl,q⟩:=h;obtain⟨t,rfl⟩:=M;obtain⟨U,rfl⟩:=O;exact rule i j t U s _ _ ⟨.bl (g i j),H,I,rfl,q⟩
noncomputable def Zpo (i j:Int):Prop:=0<j/\j<1073741824
noncomputable def Zpn (i j:Int):Prop:=0<=j/\j<=1000000/\i.natAbs<2 ^ 64
noncomputable def Zmi (i j:Int):Prop:=(-(2 ^ 64)<i/\i<2 ^ 64)\/(-(2 ^ 64)<j/\j<2 ^ 64)
theorem Zmi.ok {i j:Int}(h:Zmi i j):IntMulOk i j:=by
 rcases h with ⟨q,J⟩|⟨q,J⟩
 ·exact .of_left (intBits_le_64 q J)
 ·exact .of_right (intBits_le_64 q J)
theorem YK:Vv X (binaryOp .Add) (rI0 fun i j=>.int (i+j)):=Zm4 fun _ _ _ _ _ _ _ q=>add_int q
theorem Y5:Vv X (binaryOp .Sub) (rI0 fun i j=>.int (i-j)):=Zm4 fun _ _ _ _ _ _ _ q=>sub_int q
theorem ZP:Vv X (binaryOp .Mult) (rI Zmi fun i j=>.int (i*j)):=opI fun _ _ _ _ _ _ _ J q=>mul_int q J.ok
theorem Wx:Vv X (binaryOp .FloorDiv) (rI Zpo fun i j=>.int (i / j)):=opI fun i j _ _ _ _ _ J q=>by
 have M:(0:Int)<j:=J.1;have O:j<1073741824:=J.2;exact floordiv_int (by omega) (by rw[Int.fdiv_eq_ediv_of_nonneg i (by omega)];exact q) (.inl (jE (by omega)))
theorem Z0:Vv X (binaryOp .Mod) (rI (fun _ j=>0<j) fun i j=>.int (i % j)):=opI fun i j _ _ _ _ _ J q=>by
 have M:(0:Int)<j:=J;exact mod_int' (by omega) (by rw[Int.fmod_eq_emod_of_nonneg i (by omega)];exact q)
theorem Zlq:Vv X (binaryOp .Pow) (rI Zpn fun i j=>.int (i ^ j.toNat)):=opI fun _ _ _ _ _ _ _ J q=>pow_int_small J.1 J.2.1 J.2.2 q
theorem unI {f:Value->Sem Value}{g:Int->Int}
  (rule:∀(i:Int) (t:Tok) (s:Shared) (Q:Value->Shared->Prop) (E:Value->Shared->Prop),Q (.int (g i) s.toks) {s with toks:=s.toks+1}->wpAny (model X.prog X.w) X.A (f (.int i t)) Q E s) :
  UnR X f (rU fun i=>.int (g i)):=by
 intro j s M H x v Q I J h;obtain⟨i,rfl,q⟩:=h;obtain⟨t,rfl⟩:=J;exact rule i t s _ _ ⟨.int (g i),H,I.tok _,⟨_,rfl⟩,q⟩
theorem Ju:UnR X (unaryOp .USub) (rU fun i=>.int (-i)):=unI fun _ _ _ _ _ q=>neg_int q
end
noncomputable def ZmJ:V->V->Bool
 | .non,.non=>true | .non,.int _=>true | .int _,.non=>true | .non,.bl _=>true | .bl _,.non=>true | .non,.str _=>true | .str _,.non=>true
 | .int _,.int _=>true | .bl _,.bl _=>true | .str _,.str _=>true | .byt _,.byt _=>true
 | .int _,.str _=>true | .str _,.int _=>true | .bl _,.str _=>true | .str _,.bl _=>true
 |_,_=>false
noncomputable def rEq:R2:=fun x y H Q=>ZmJ x y=true/\Q (.bl (decide (x=y))) H
noncomputable def rNe:R2:=fun x y H Q=>ZmJ x y=true/\Q (.bl (!decide (x=y))) H
theorem Ye {i j:Int}:decide (V.int i=V.int j)=(i == j):=by
 rw[eR];simp
theorem ZhS {i j:Bool}:decide (V.bl i=V.bl j)=(i == j):=by
 rw[eR];simp
theorem Zez {i j:Str}:decide (V.str i=V.str j)=(i == j):=by
 rw[eR];simp
theorem ZeA {i j:Array UInt8}:decide (V.byt i=V.byt j)=(i.toList == j.toList):=by
 rw[eR];cases i;cases j;simp
section
variable {X:Cx}{a b c:Expr}{ta tb tc:TE}{pos:Pos}
theorem ZX {j:List (Addr×Obj)}{σ:St}{H:Hp}{s:Shared}{Q:VK}{k J:Bool}(I:Inv X j σ H s)(q:Q (.bl k) H)(e:k=J):EP X j σ Q (.bool J) s:=by
 subst e;exact⟨.bl k,H,I,rfl,q⟩
theorem Zd8:Vv X (compareOp .Eq) rEq:=by
 intro Y s σ H x y v u Q I U J h;obtain⟨O,q⟩:=h;cases x with
 |non=>
  cases U;cases y with
  |non=>cases J;exact PySem.EqNone.eq_none_none (ZX I q (by simp))
  |bl j=>cases J;exact PySem.EqNone.eq_none_bool (ZX I q (by simp))
  |int j=>obtain⟨M,rfl⟩:=J;exact PySem.EqNone.eq_none_int (ZX I q (by simp))
  |str j=>obtain⟨M,rfl⟩:=J;exact PySem.EqNone.eq_none_str (ZX I q (by simp))
  |_=>exact absurd (show false=true from O) aH
 |bl i=>
  cases U;cases y with
  |non=>cases J;exact PySem.EqNone.eq_bool_none (ZX I q (by simp))
  |bl j=>cases J;exact eq_bool (ZX I q ZhS)
  |str j=>obtain⟨M,rfl⟩:=J;exact PySem.EqMixed.eq_bool_str (ZX I q (by simp))
  |_=>exact absurd (show false=true from O) aH
 |int i=>
  obtain⟨t,rfl⟩:=U;cases y with
  |non=>cases J;exact PySem.EqNone.eq_int_none (ZX I q (by simp))
  |int j=>obtain⟨M,rfl⟩:=J;exact eq_int (ZX I q Ye)
  |str j=>obtain⟨M,rfl⟩:=J;exact PySem.EqMixed.eq_int_str (ZX I q (by simp))
  |_=>exact absurd (show false=true from O) aH
 |str i=>
  obtain⟨t,rfl⟩:=U;cases y with
  |non=>cases J;exact PySem.EqNone.eq_str_none (ZX I q (by simp))
  |bl j=>cases J;exact PySem.EqMixed.eq_str_bool (ZX I q (by simp))
  |int j=>obtain⟨M,rfl⟩:=J;exact PySem.EqMixed.eq_str_int (ZX I q (by simp))
  |str j=>obtain⟨M,rfl⟩:=J;exact eq_str (ZX I q Zez)
  |_=>exact absurd (show false=true from O) aH
 |byt i=>
  obtain⟨t,rfl⟩:=U;cases y with
  |byt j=>obtain⟨M,rfl⟩:=J;exact PySem.W.eq_bytes (ZX I q ZeA)
  |_=>exact absurd (show false=true from O) aH
 |_=>cases y <;> exact absurd (show false=true from O) aH
theorem Jp:Vv X (compareOp .NotEq) rNe:=by
 intro Y s σ H x y v u Q I U J h;obtain⟨O,q⟩:=h;cases x with
 |non=>
  cases U;cases y with
  |non=>cases J;exact PySem.EqNone.ne_none_none (ZX I q (by simp))
  |bl j=>cases J;exact PySem.EqNone.ne_none_bool (ZX I q (by simp))
  |int j=>obtain⟨M,rfl⟩:=J;exact PySem.EqNone.ne_none_int (ZX I q (by simp))
  |str j=>obtain⟨M,rfl⟩:=J;exact PySem.EqNone.ne_none_str (ZX I q (by simp))
  |_=>exact absurd (show false=true from O) aH
 |bl i=>
  cases U;cases y with
  |non=>cases J;exact PySem.EqNone.ne_bool_none (ZX I q (by simp))
  |bl j=>cases J;exact ne_bool (ZX I q (congrArg not ZhS))
  |str j=>obtain⟨M,rfl⟩:=J;exact PySem.EqMixed.ne_bool_str (ZX I q (by simp))
  |_=>exact absurd (show false=true from O) aH
 |int i=>
  obtain⟨t,rfl⟩:=U;cases y with
  |non=>cases J;exact PySem.EqNone.ne_int_none (ZX I q (by simp))
  |int j=>obtain⟨M,rfl⟩:=J;exact ne_int (ZX I q (congrArg not Ye))
  |str j=>obtain⟨M,rfl⟩:=J;exact PySem.EqMixed.ne_int_str (ZX I q (by simp))
  |_=>exact absurd (show false=true from O) aH
 |str i=>
  obtain⟨t,rfl⟩:=U;cases y with
  |non=>cases J;exact PySem.EqNone.ne_str_none (ZX I q (by simp))
  |bl j=>cases J;exact PySem.EqMixed.ne_str_bool (ZX I q (by simp))
  |int j=>obtain⟨M,rfl⟩:=J;exact PySem.EqMixed.ne_str_int (ZX I q (by simp))
  |str j=>obtain⟨M,rfl⟩:=J;exact ne_str (ZX I q (congrArg not Zez))
  |_=>exact absurd (show false=true from O) aH
 |byt i=>
  obtain⟨t,rfl⟩:=U;cases y with
  |byt j=>obtain⟨M,rfl⟩:=J;exact PySem.W.ne_bytes (ZX I q (congrArg not ZeA))
  |_=>exact absurd (show false=true from O) aH
 |_=>cases y <;> exact absurd (show false=true from O) aH
theorem Zd7:Vv X (compareOp .Lt) (rI0 fun i j=>.bl (decide (i<j))):=Zjd fun _ _ _ _ _ _ _ q=>lt_int q
theorem Zm2:Vv X (compareOp .LtE) (rI0 fun i j=>.bl (decide (i<=j))):=Zjd fun _ _ _ _ _ _ _ q=>le_int q
theorem Zkv:Vv X (compareOp .Gt) (rI0 fun i j=>.bl (decide (j<i))):=Zjd fun _ _ _ _ _ _ _ q=>gt_int q
theorem Zm3:Vv X (compareOp .GtE) (rI0 fun i j=>.bl (decide (j<=i))):=Zjd fun _ _ _ _ _ _ _ q=>ge_int q
theorem Z6 (b:Expr){op:CmpOp}(h:op≠.In:=by decide)(j:op≠.NotIn:=by decide):behindInMarks op b=false:=by
 have q:(op == CmpOp.In)=false:=by cases op <;> first|rfl|exact absurd rfl h
 have J:(op == CmpOp.NotIn)=false:=by cases op <;> first|rfl|exact absurd rfl j
 cases b <;> simp[behindInMarks,q,J]
theorem Zi5 {op:CmpOp}{r:R2}(J:Vv X (compareOp op) r)(M:PE X a ta)(hb:PE X b tb)(O:behindInMarks op b=false):PE X (.Compare a [op] [b] pos) (tOp r ta tb):=by
 intro j s U H Q I h;exact wpAny_Compare1 (Zl3 M hb I h fun v u Y x y H2 I2 rx ry q=>J j Y U H2 x y v u Q I2 rx ry q) O
noncomputable def ZmC (t:TE):TT:=fun j H Q=>t j H fun x q=>∃k,x=.bl k/\Q k q
theorem ZS {op:CmpOp}{r:R2}(J:Vv X (compareOp op) r)(M:PE X a ta)(hb:PE X b tb)(O:behindInMarks op b=false):PT X (.Compare a [op] [b] pos) (ZmC (tOp r ta tb)):=by
 intro j s q H Q I h;refine l5 (Yj (M j s q H _ I h) fun v U ⟨x,Y,I1,r1,q1⟩=>Yj (hb j U q Y _ I1 q1) fun u s2 ⟨y,H2,I2,r2,q2⟩=>
  Yj (J j s2 q H2 x y v u _ I2 r1 r2 q2) fun c s3 ⟨z,H3,I3,r3,k,e,q3⟩=>?_) O
 subst e;cases r3;exact fm ⟨H3,I3,q3⟩
theorem Xj:(sizeLine:Nat)<2 ^ 63:=by rw[fS];decide
theorem vals1 {x:V}{us:List Value}(r:ZL [x] us):∃u,us=[u]/\RelV x u:=by
 cases r with
 |cons r1 j=>cases j;exact⟨_,rfl,r1⟩
end
section
variable {prog:Program}{w:World}{A:Around}{E:Value->Shared->Prop}{s:Shared}{K:aa}{x dx C f:Addr}{mA:Str->Option Value}{name:Str}{v:Value}
end
theorem UF.some_of {v:V}{o:Option Value}(r:UF (some v) o):∃u,o=some u/\RelV v u:=by
 cases o with
 |none=>exact (show False from r).elim
 |some u=>exact⟨u,rfl,r⟩
section
variable {P:Program}{w:World}{H H':Hp}{h h':Heap}{a C dx:Addr}{fs fs':List (Str×V)}
end
section
variable {X:Cx}{pins:List (Addr×Obj)}{σ:St}{H:Hp}{s:Shared}{a C dx:Addr}{fs:List (Str×V)}{f:Str}{v:V}{A:Around}{E:Value->Shared->Prop}
end
section
variable {X:Cx}{o e value:Expr}{f:Str}{pos pos' tpos:Pos}{ta tv:TE}
end
section
variable {X:Cx}{pins:List (Addr×Obj)}{σ:St}{H:Hp}{s:Shared}{A:Around}{E:Value->Shared->Prop}{Q:Value->Shared->Prop}{c:Value}{b:Bool}
end
structure Jc (k:Nat)(A:Around):Prop where
 hd:A.handled=none
 dp:A.depth+3*k+5<recursionLimit
 un:A.units+16*k+200<cLine
 gd:A.guards=some []
theorem Jc.mono {j k:Nat}{A:Around}(r:Jc k A)(h:j<=k):Jc j A:=⟨r.hd,by have:=r.dp;omega,by have:=r.un;omega,r.gd⟩
theorem Jc.deeper {k:Nat}{A:Around}(r:Jc (k+1) A)(env:Env):Jc k (A.deeper env):=
 ⟨r.hd,by have:=r.dp;show A.depth+1+3*k+5<_;omega,by have:=r.un;show A.units+3+16*k+200<_;omega,r.gd⟩
theorem Jc.depth {k:Nat}{A:Around}(r:Jc k A):A.depth<recursionLimit:=by have:=r.dp;omega
theorem Jc.units {k:Nat}{A:Around}(r:Jc k A):A.units+64<cLine:=by have:=r.un;omega
noncomputable def ZfZ:TA:=fun _ H Q=>Q [] H
noncomputable def VH (q:TE)(J:TA):TA:=fun j H Q=>q j H fun x M=>J j M fun O U=>Q (x::O) U
section
variable {X:Cx}{e:Expr}{es:List Expr}{te:TE}{t:TA}{pos:Pos}
theorem Zu:PA X [] ZfZ:=fun _ _ _ _ H Q I h=>Calls.spliced_nil ⟨[],H,I,.nil,h⟩
theorem Zja (J:PE X e te)(M:PA X es t)(O:starEach (e::es) X.env=(false,eval e X.env)::starEach es X.env:=by rfl):PA X (e::es) (VH te t):=by
 intro pos j s q H Q I h;rw[O];show wpAny _ _ (spliced ((false,eval e X.env)::backTo pos (starEach es X.env))) _ _ s;refine Calls.spliced_cons (Yj (J j s q H _ I h) fun u U ⟨x,Y,I1,r1,q1⟩=>?_);exact Yj (M pos j U q Y _ I1 q1) fun us s2 ⟨xs,H2,I2,r2,q2⟩=>⟨x::xs,H2,I2,.cons r1 r2,q2⟩
noncomputable def Zov (t:TA):TE:=fun J H Q=>t J H fun j q=>j.length<=sizeLine/\∀p,q p=none->Q (.ref p) (upd q p (.tup j))
noncomputable def Zk1 (t:TA):TE:=fun J H Q=>t J H fun j q=>j.length<=sizeLine/\∀p,q p=none->Q (.ref p) (upd q p (.lst j))
theorem VU {U}(h:PA X es t):PE X (.Tuple es U pos) (Zov t):=by
 intro j s Y H Q I hq;refine wpAny_Tuple_spliced (Yj (h pos j s Y H _ I hq) fun us J ⟨xs,M,O,r,z,q⟩=>⟨by rw[<-r.length];exact z,?_⟩);have hf:M J.heap.objs.size=none:=O.hok.fresh (Zq _);refine⟨.ref J.heap.objs.size,upd M J.heap.objs.size (.tup xs),O.laid (t':=J.toks) (fun b u e=>Zn _ e) (Zq _) ?_,rfl,q _ hf⟩;exact⟨z,us,r,⟨_,Zo _ rfl,rfl,_,rfl⟩⟩
theorem ZW (h:PA X es t):PE X (.List es pos) (Zk1 t):=by
 intro j s U H Q I Y;refine wpAny_List_spliced (Yj (h pos j s U H _ I Y) fun us J ⟨xs,M,O,r,z,q⟩=>⟨by rw[<-r.length];exact z,?_⟩);have hf:M J.heap.objs.size=none:=O.hok.fresh (Zq _);refine⟨.ref J.heap.objs.size,upd M J.heap.objs.size (.lst xs),O.laid (t':=J.toks) (fun b u e=>Zn _ e) (Zq _) ?_,rfl,q _ hf⟩;exact⟨z,us,0,r,Zo _ rfl⟩
end
noncomputable abbrev Sp:=List V->Hp->VK->XK->Prop
noncomputable abbrev CXT:=List Env->Hp->Shared->XK->Value->Shared->Prop
structure Zka (P:Program)(w:World)(K:aa)(mg:Str->Option Value)(base:Heap)(A:Around)(outer:List Env)(s:Shared)(H:Hp):Prop where
 frames:A.frames=some outer
 mod:Mod K mg base
 bs:∀b o,base.get? b=some o->s.heap.get? b=some o/\H b=none
 bsz:base.objs.size<=s.heap.objs.size
 funs:s.heap.FunFrames base outer
 frf:∀b∈frs outer,H b=none
 hok:XS P w H s.heap
 bare:ii s.gens
noncomputable def CE (outer:List Env)(P:Program)(w:World)(H:Hp)(s:Shared)(Q:VK)(u:Value)(s':Shared):Prop:=
 ∃v j,s'.os=s.os/\ii s'.gens/\Un (frs outer) [] H j s.heap s'.heap/\XS P w j s'.heap/\RelV v u/\Q v j
noncomputable def CR (CX:CXT)(outer:List Env)(P:Program)(w:World)(H:Hp)(s:Shared)(Q:VK)(E:XK)(r:Result)(s':Shared):Prop:=
 match r with
 | .ok (.ret u)=>CE outer P w H s Q u s'
 | .ok _=>False
 | .error e=>CX outer H s E e s'
structure Yb (P:Program)(w:World)(K:aa)(mg:Str->Option Value)(base:Heap)(CX:CXT)(k:Nat)(f:Addr)(fd:FuncData)(ps:List Str)(sp:Sp):Prop where
 len:∀vs H Q E,sp vs H Q E->vs.length=ps.length
 run:∀(A:Around) (outer:List Env) (s:Shared) (H:Hp) (args:Args) (us:List Value) (vs:List V) (Q:VK) (E:XK),Jc k A->Zka P w K mg base A outer s H->iM s fd args (ps.zip us)->ZL vs us->sp vs H Q E->
  codeAny (model P w) A (.call (.ref f) args) (CR CX outer P w H s Q E) s
section
variable {X:Cx}{pins:List (Addr×Obj)}{σ:St}{H:Hp}{s s':Shared}
theorem Inv.env0 (I:Inv X pins σ H s):Zka X.prog X.w X.K X.mg X.base X.A X.stack s H:=
 ⟨I.ok.frames,I.ok.mod,I.bs,aZ I.ok.bsz I.sz,I.stack,I.stkFree,I.hok,I.bare⟩
theorem Inv.after {Q:VK}{u:Value}(I:Inv X pins σ H s)(h:CE X.stack X.prog X.w H s Q u s'):EP X pins σ Q u s':=by
 obtain⟨v,J,os,bare,un,hok,r,q⟩:=h;obtain⟨M,g,d,t,j⟩:=s';obtain rfl:j=s.os:=os;exact⟨v,J,I.call (h':=M) (g':=g) (d':=d) (t':=t) (ch:=[]) un hok bare (fun b z=>absurd z (by simp)),r,q⟩
end
noncomputable def Zkf (sp:Sp)(j:List V)(E:XK)(t:TA):TE:=fun q H Q=>t q H fun J M=>sp (J++j) M Q E
noncomputable def Binds (K:aa)(fd:FuncData)(q:List Str)(ds:List Value):Prop:=
 ∀(s:Shared) (j:List Value),K.In s.heap->(j++ds).length=q.length->iM s fd ⟨j,[]⟩ (q.zip (j++ds))
theorem Binds.all {K:aa}{fd:FuncData}{j:List Str}(h:∀us:List Value,us.length=j.length->bindArgs fd ⟨us,[]⟩=pure (j.zip us)):Binds K fd j []:=fun s us _ q=>by
 rw[jm] at q ⊢;exact .of_eq (h us q)
noncomputable def Za4 (CX:CXT)(X:Cx)(E:XK):Prop:=∀(j:List (Addr×Obj)) (J:St) (H:Hp) (s:Shared) (e:Value) (q:Shared),Inv X j J H s->CX X.stack H s E e q->X.xe e q
section
variable {X:Cx}{CX:CXT}{k:Nat}{f C:Addr}{fd:FuncData}{ps:List Str}{sp:Sp}{dvs:List V}{ds:List Value}{E:XK}{x m:Str}{p pos apos:Pos}{e o:Expr}{es:List Expr}{ta:TE}{t:TA}
theorem Zk9 {j:List (Addr×Obj)}{σ:St}{H:Hp}{s:Shared}{Q:VK}{us:List Value}{vs:List V}(F:Yb X.prog X.w X.K X.mg X.base CX k f fd ps sp)(M:Jc k X.A)(hb:Binds X.K fd ps ds)(O:ZL dvs ds)(U:Za4 CX X E)
  (I:Inv X j σ H s) (r:ZL vs us) (h:sp (vs++dvs) H Q E):wpAny (model X.prog X.w) X.A (call (.ref f) us) (EP X j σ Q) X.xe s:=by
 have J:ZL (vs++dvs) (us++ds):=r.append O;have Y:(us++ds).length=ps.length:=by rw[<-J.length];exact F.len _ _ _ _ h
 refine wpAny_call (fq (F.run X.A X.stack s H ⟨us,[]⟩ (us++ds) (vs++dvs) Q E M I.env0 (hb s us I.kIn Y) J h) fun r s' q=>?_);cases r with
 |error e=>exact U j σ H s e s' I q
 |ok fl=>
  cases fl with
  |ret u=>exact I.after q
  |next=>exact dP q
  |brk=>exact dP q
  |cont=>exact dP q
theorem Zi6 (F:Yb X.prog X.w X.K X.mg X.base CX k f fd ps sp)(Y:Jc k X.A)(hg:Gl X x)(hm:X.mg x=some (.ref f))(hk:dH X.K (.ref f)=true)(hb:Binds X.K fd ps ds)(hd:ZL dvs ds)(hx:Za4 CX X E)
  (ha:PA X (e::es) t) (J:(x == ("__debug__":Str))=false:=by decide) (he:starEach (e::es) X.env=(false,eval e X.env)::starEach es X.env:=by rfl) (M:(backTo pos (starEach es X.env)).any (·.1)=false:=by rfl) :
  PE X (.Call (.Name x p) (e::es) [] pos) (Zkf sp dvs E t):=by
 intro j s σ H Q I h;refine i7 (ZjA I hg hm ?_ J);refine PySem.W.callWith_K (h₀:=X.base) I.ok.mod.kin hk (Yj (ha pos j s σ H _ I h) fun us s1 ⟨vs,H1,U,r,q⟩=>⟨U.kIn,?_⟩) he M;exact Zk9 F Y hb hd hx U r q
end
section
variable {X:Cx}{CX:CXT}{k:Nat}{f C:Addr}{fd:FuncData}{ps ks:List Str}{sp:Sp}{E:XK}{x m:Str}{p pos apos kpos:Pos}{e o:Expr}{es:List Expr}{kws:List Keyword}{te ta:TE}{t tk:TA}{nm:Option Str}
variable {g:List Value->List Value->List Value}{gV:List V->List V->List V}
end
structure VE (N P:List Str)(sc:cO):Prop where
 kind:sc.kind=.function
 co:sc.isCoroutine=false
 gen:sc.isGenerator=false
 nd:N.Nodup
 pre:N.take P.length=P
 par:∀x∈P,sc.names.lookup x=some .local\/sc.names.lookup x=some .cell
 nofree:∀y∈sc.names,y.2≠.free
theorem FS {N P:List Str}{j:cO}(a:j.kind=.function:=by rfl)(b:j.isCoroutine=false:=by rfl)(c:j.isGenerator=false:=by rfl)(d:N.Nodup:=by decide +kernel)(e:N.take P.length=P:=by rfl)(f:∀x∈P,j.names.lookup x=some .local\/j.names.lookup x=some .cell:=by decide +kernel)(g:∀y∈j.names,y.2≠.free:=by decide +kernel):VE N P j:=⟨a,b,c,d,e,f,g⟩
theorem bd1 {α:Type}{f g:List Value->α}(h:∀a,f [a]=g [a])(j:List Value)(l:j.length=1):f j=g j:=by
  cases j with
  |nil=>cases l
  |cons a r=>cases r with
    |nil=>exact h a
    |cons b r=>simp at l
theorem bd2 {α:Type}{f g:List Value->α}(h:∀a b,f [a,b]=g [a,b])(j:List Value)(l:j.length=2):f j=g j:=by
  cases j with
  |nil=>cases l
  |cons a r=>exact bd1 (f:=fun r=>f (a::r)) (g:=fun r=>g (a::r)) (h a) r (cy l)
theorem bd3 {α:Type}{f g:List Value->α}(h:∀a b c,f [a,b,c]=g [a,b,c])(j:List Value)(l:j.length=3):f j=g j:=by
  cases j with
  |nil=>cases l
  |cons a r=>exact bd2 (f:=fun r=>f (a::r)) (g:=fun r=>g (a::r)) (h a) r (cy l)
theorem bd4 {α:Type}{f g:List Value->α}(h:∀a b c d,f [a,b,c,d]=g [a,b,c,d])(j:List Value)(l:j.length=4):f j=g j:=by
  cases j with
  |nil=>cases l
  |cons a r=>exact bd3 (f:=fun r=>f (a::r)) (g:=fun r=>g (a::r)) (h a) r (cy l)
theorem bd5 {α:Type}{f g:List Value->α}(h:∀a b c d e,f [a,b,c,d,e]=g [a,b,c,d,e])(j:List Value)(l:j.length=5):f j=g j:=by
  cases j with
  |nil=>cases l
  |cons a r=>exact bd4 (f:=fun r=>f (a::r)) (g:=fun r=>g (a::r)) (h a) r (cy l)
theorem U8 {kindOf:Str->Option eG}{x:Str}:∀{binds:List (Str×Value)}{m:Str->Option Value},(∀v,(x,v)∉binds)->bindL kindOf binds m x=m x
 | [],_,_=>rfl
 |(n,v)::r,m,h=>by
  unfold bindL;rw[U8 fun w j=>h w (ao _ j)];split
  ·have:x≠n:=by rintro rfl;exact h v aq
   simp[this]
  ·rfl
theorem Zaa {kindOf:Str->Option eG}{x:Str}:∀{binds:List (Str×Value)}{m:Str->Option Value},(∀v,(x,v)∉binds)->bindC kindOf binds m x=m x
 | [],_,_=>rfl
 |(n,v)::r,m,h=>by
  unfold bindC;rw[Zaa fun w j=>h w (ao _ j)];split
  ·rfl
  ·have:x≠n:=by rintro rfl;exact h v aq
   simp[this]
theorem U9 {kindOf:Str->Option eG}{x:Str}{v:Value}:∀{P:List Str}{vs:List Value}{i:Nat}{m:Str->Option Value},P.Nodup->P[i]?=some x->vs[i]?=some v->kindOf x=some .local->
  bindL kindOf (P.zip vs) m x=some v
 | [],_,_,_,_,h,_,_=>by simp at h
 |_::_,[],_,_,_,_,h,_=>by simp at h
 |p::P,w::vs,0,m,nd,j,q,J=>by
  simp at j q;subst j;subst q;show bindL kindOf ((p,w)::P.zip vs) m p=_;unfold bindL;rw[U8 fun v M=>(bQ.mp nd).1 (jg M).1,if_pos J];simp
 |p::P,w::vs,i+1,m,nd,j,q,J=>by
  show bindL kindOf ((p,w)::P.zip vs) m x=_;unfold bindL;exact U9 (i:=i) (bQ.mp nd).2 (by simpa using j) (by simpa using q) J
theorem Zab {kindOf:Str->Option eG}{x:Str}{v:Value}:∀{P:List Str}{vs:List Value}{i:Nat}{m:Str->Option Value},P.Nodup->P[i]?=some x->vs[i]?=some v->kindOf x≠some .local->
  bindC kindOf (P.zip vs) m x=some v
 | [],_,_,_,_,h,_,_=>by simp at h
 |_::_,[],_,_,_,_,h,_=>by simp at h
 |p::P,w::vs,0,m,nd,j,q,J=>by
  simp at j q;subst j;subst q;show bindC kindOf ((p,w)::P.zip vs) m p=_;unfold bindC;rw[Zaa fun v M=>(bQ.mp nd).1 (jg M).1,if_neg J];simp
 |p::P,w::vs,i+1,m,nd,j,q,J=>by
  show bindC kindOf ((p,w)::P.zip vs) m x=_;unfold bindC;exact Zab (i:=i) (bQ.mp nd).2 (by simpa using j) (by simpa using q) J
noncomputable def start (N:List Str)(vs:List V):St:=vs.map some++aA (N.length-vs.length) none
noncomputable def Zcd (CX:CXT)(P:Program)(w:World)(K:aa)(mg:Str->Option Value)(base:Heap)(N:List Str)(j:Str)(scope:cO)(f:Addr)(J:Value)(A:Around)(outer:List Env)(s:Shared)(H:Hp)(E:XK):Cx where
 prog:=P
 w:=w
 K:=K
 mg:=mg
 base:=base
 A:=A.deeper (envOfC j scope s.heap.objs.size f J)
 N:=N
 s₀:=s
 H₀:=H
 env:=envOfC j scope s.heap.objs.size f J
 outer:=outer
 stack:=envOfC j scope s.heap.objs.size f J::outer
 ex:=[]
 calm:=true
 fn:=fun _=>true
 pn:=[]
 xe:=fun e M=>wpAny (model P w) (A.deeper (envOfC j scope s.heap.objs.size f J)) (leaving (envOfC j scope s.heap.objs.size f J) e) (fun _ q=>CX outer H s E e q) (fun O q=>CX outer H s E O q) M
theorem Zcj {j:cO}{n:Nat}{x:Str}(h:j.names.lookup x=some .cell):∃c,(cellsFrom n j.names []).lookup x=some c:=by
 have q:=gy j.names n [] (.inl h);exact fY.mp q
theorem Zfh {CX:CXT}{P:Program}{w:World}{K:aa}{mg:Str->Option Value}{base:Heap}{N M:List Str}{qual:Str}{scope:cO}{f:Addr}{cd:Value}{A:Around}{outer:List Env}{s s1:Shared}{H:Hp}{E:XK}{us:List Value}{vs:List V}
  (S:VE N M scope) (hd:A.handled=none) (J:Zka P w K mg base A outer s H) (hl:vs.length=M.length) (r:ZL vs us)
  (x:InCallC s s.heap.objs.size (bindL (envOfC qual scope s.heap.objs.size f cd).kindOf (M.zip us) fun _=>none) (cellsFrom (s.heap.objs.size+1) scope.names []) (bindC (envOfC qual scope s.heap.objs.size f cd).kindOf (M.zip us) fun _=>none) s1) :
  Inv (Zcd CX P w K mg base N qual scope f cd A outer s H E) [] (start N vs) H s1:=by
 have m6:M.length<=N.length:=by have:=congrArg cu S.pre;rw[bT] at this;omega
 obtain⟨h1,tk,rfl,hk⟩:=x.done;have O:∀b:Addr,b∉(Zcd CX P w K mg base N qual scope f cd A outer s H E).ex:=fun b z=>absurd (show b∈([]:List Addr) from z) (by simp);refine⟨⟨J.mod,S.kind,rfl,rfl,Zq _,fun y z c h1 j=>?_,fun y U=>?_,fun y c _ h=>?_,fun _=>hd,Around.frames_deeper J.frames,.inr ⟨rfl,rfl⟩,fun b z=>absurd z (O b),J.bs,J.bsz,fun b _ _=>O b,fun b z=>absurd z (O b),J.funs,J.frf⟩,
  rfl,J.bare,Un.kept hk,⟨_,x.toInCall.ns,fun i y v h1 j h3=>?_⟩,fun y c h=>⟨_,x.cell y c h⟩,J.hok.fresh (Zq _),fun y c h=>?_,fun p Y=>absurd (show p∈([]:List (Addr×Obj)) from Y) (by simp),J.hok.kept hk,?_⟩
 ·exact name_of_addr x.apart (bA h1) (bA j)
 ·have U:scope.names.lookup y=some .cell\/scope.names.lookup y=some .free:=U
  rcases U with U|U
  ·exact Zcj U
  ·exact absurd rfl (S.nofree _ (bA U))
 ·exact cR (x.above y c (bA h))
 ·have hi:i<vs.length:=by
   unfold start at j;by_cases hi:i<vs.length
   ·exact hi
   ·rw[aw (by simpa using hi)] at j
    rw[gH] at j;split at j <;> cases j
  have ha:vs[i]?=some v:=by
   unfold start at j;rw[au (by simpa using hi),Zc] at j;cases e:vs[i]? with
   |none=>rw[e] at j;cases j
   |some a=>rw[e] at j;cases j;rfl
  obtain⟨u,hu,rv⟩:=r.get ha;have Y:M[i]?=some y:=by
   rw[<-S.pre,List.getElem?_take_of_lt (by omega)];exact h1
  have m5:M.Nodup:=by rw[<-S.pre];exact S.nd.sublist (iN _ _)
  refine⟨u,rv,?_⟩;rcases S.par y (aF Y) with k|k
  ·exact .inl ⟨k,U9 m5 Y hu k⟩
  ·obtain⟨c,e⟩:=Zcj (n:=s.heap.objs.size+1) k
   refine .inr ⟨.inl k,c,e,?_⟩;have q:=x.cell y c e;rw[Zab m5 Y hu (by show scope.names.lookup y≠_;rw[k];decide)] at q;exact q
 ·exact J.hok.fresh (cR (x.above y c (bA h)))
 ·unfold start
  show _=N.length;rw[Zd,Za,Ze];omega
theorem Znx {CX:CXT}{P:Program}{w:World}{K:aa}{mg:Str->Option Value}{base:Heap}{k:Nat}{f:Addr}{name j:Str}{params:Arguments}{body:List Stmt}{scope:cO}{dV kV m6 pm M ct oc:Value}{an od:Option Addr}
  {n8:Array (Option Value)}{N ps:List Str}{sp:Sp} (lk:K.lookup f=some ⟨oc,od,.func (cm name j params body scope dV kV m6 pm an M ct),n8⟩) (n9:eW K M j=true) (S:VE N ps scope)
  (len:∀vs H Q E,sp vs H Q E->vs.length=ps.length)
  (Y:∀(A:Around) (outer:List Env) (s:Shared) (H:Hp) (vs:List V) (Q:VK) (E:XK),Jc k (A.deeper (envOfC j scope s.heap.objs.size f M))->sp vs H Q E->
   ∃t,PSs (Zcd CX P w K mg base N j scope f M A outer s H E) body t/\t {nx:=fun _ U=>Q .non U,rt:=Q} (start N vs) H) :
  Yb P w K mg base CX (k+1) f (cm name j params body scope dV kV m6 pm an M ct) ps sp:=by
 refine⟨len,fun A outer s H args us vs Q E hr e0 hb r m8=>?_⟩;have hl:=len _ _ _ _ m8;have KX:K.In s.heap:=e0.mod.kin.keeps fun b o e=>(e0.bs b o e).1;have o0:s.heap.NoLimit:=e0.mod.nolimit.keeps fun b o e=>(e0.bs b o e).1;have m5:∀y∈ps.zip us,scope.names.lookup y.1=some .local\/(scope.names.lookup y.1=some .cell/\((cellsFrom (s.heap.objs.size+1) scope.names []).lookup y.1).isSome=true):=fun ⟨n,v⟩ hy=>by
  rcases S.par n (jg hy).1 with q|q
  ·exact .inl q
  ·exact .inr ⟨q,gy _ _ _ (.inl q)⟩
 refine codeAny_call_function hr.depth (KX _ _ lk) rfl S.co S.gen rfl (PySem.W.codeRec_of KX n9) (hb _ _ _ _ ?_);refine wpAny_newFunctionEnv_cells S.kind m5 fun env he s1 x=>?_;subst he;refine⟨o0.keeps x.toInCall.keep,codeAny_func ?_⟩;obtain⟨t,ht,hq⟩:=Y A outer s H vs Q E (hr.deeper _) m8;have I:Inv (Zcd CX P w K mg base N j scope f M A outer s H E) [] (start N vs) H s1:=Zfh S hr.hd e0 hl r x;refine cv (ht [] s1 (start N vs) H _ I hq) (fun fl s' hs=>?_) fun e s' hs=>hs;have n6:∀{O:St}{U:Hp}{v:V}{u:Value},Inv (Zcd CX P w K mg base N j scope f M A outer s H E) [] O U s'->RelV v u->Q v U->CE outer P w H s Q u s':=
  fun {O U v u} J rv q=>⟨v,U,J.os,J.bare,J.base,J.hok,rv,q⟩
 cases fl with
 |ret u=>
  obtain⟨v,O,U,J,rv,q⟩:=hs;exact n6 J rv q
 |next=>
  obtain⟨O,U,J,q⟩:=hs;exact n6 (v:=V.non) (u:=a9) J rfl q
 |brk=>
  obtain⟨_,_,_,q⟩:=hs;exact dP q
 |cont=>
  obtain⟨_,_,_,q⟩:=hs;exact dP q
section
variable {X:Cx}{x:Str}{p pos:Pos}{e:Expr}{es:List Expr}{t:TA}{id T:String}{r:List V->Hp->VK->Prop}
noncomputable def tCB (r:List V->Hp->VK->Prop)(t:TA):TE:=fun j H Q=>t j H fun q J=>r q J Q
theorem ZgQ (O:Yu X (.builtin id) r)(U:Gl X x)(Y:X.mg x=none)(hv:bootBuiltins x=some (.builtin id))(ha:PA X (e::es) t)(hn:x ≠ "__name__":=by decide)(q:(x == ("__debug__":Str))=false:=by decide)
  (he:starEach (e::es) X.env=(false,eval e X.env)::starEach es X.env:=by rfl) (J:(backTo pos (starEach es X.env)).any (·.1)=false:=by rfl):PE X (.Call (.Name x p) (e::es) [] pos) (tCB r t):=by
 intro j s M H Q I h;refine i7 (Jj I U Y hv ?_ hn q);exact PyProof.Rows.callWith_builtin1 (Yj (ha pos j s M H _ I h) fun us s1 ⟨vs,H1,I1,r1,q1⟩=>O j s1 M H1 vs us Q I1 r1 q1) he J
theorem ZeX (O:Yu X (.type T) r)(U:Gl X x)(Y:X.mg x=none)(hv:bootBuiltins x=some (.type T))(ha:PA X (e::es) t)(hn:x ≠ "__name__":=by decide)(q:(x == ("__debug__":Str))=false:=by decide)
  (he:starEach (e::es) X.env=(false,eval e X.env)::starEach es X.env:=by rfl) (J:(backTo pos (starEach es X.env)).any (·.1)=false:=by rfl):PE X (.Call (.Name x p) (e::es) [] pos) (tCB r t):=by
 intro j s M H Q I h;refine i7 (Jj I U Y hv ?_ hn q);exact bo (Yj (ha pos j s M H _ I h) fun us s1 ⟨vs,H1,I1,r1,q1⟩=>O j s1 M H1 vs us Q I1 r1 q1) he J
end
end L2
namespace HT
open PySem PyProof.Rows
section
open PySem.SeqAt
open PySem.AutoSeq1 (wpAny_loadPart')
open PySem.MeetsSeq PySem.MeetsSeq2 PySem.MeetsSeq3
end
section
variable {prog:Program}{w:World}{A:Around}{E:Value->Shared->Prop}{s:Shared}
noncomputable def UQ (n d:Nat):Option Int->Nat
 |none=>d
 |some v=>if v<0 then (v+(n:Int)).toNat else min v.toNat n
theorem ZdO (n d k:Nat):UQ n d (some (k:Int))=min k n:=by
 show (if (k:Int)<0 then ((k:Int)+(n:Int)).toNat else min (k:Int).toNat n)=min k n
 rw[if_neg (by omega),Zj]
end
end HT
namespace L2
open PySem PySem.Spec PyProof.Rows
noncomputable abbrev TO:=St->Hp->(Option Int->Hp->Prop)->Prop
noncomputable def PO (X:Cx)(e:Option Expr)(t:TO):Prop:=
 ∀(j:List (Addr×Obj)) (s:Shared) (q:St) (H:Hp) (Q:Option Int->Hp->Prop),Inv X j q H s->t q H Q->
  wpAny (model X.prog X.w) X.A (evalPart e X.env) (fun u M=>∃o J,Inv X j q J M/\IsPart u o/\Q o J) X.xe s
noncomputable def Ziz:TO:=fun _ H Q=>Q none H
noncomputable def ZmD (t:TE):TO:=fun j H Q=>t j H fun x q=>∃i,x=.int i/\Q (some i) q
theorem intsAre_of {ns:List Int}:∀{us:List Value},ZL (ns.map V.int) us->a8 us ns:=by
 induction ns with
 |nil=>intro us r;rw[eZ] at r;cases r;exact .nil
 |cons n ns j=>
  intro us r;rw[aQ] at r;cases r with
  |cons q J=>
   obtain⟨t,e⟩:=q;subst e;exact .cons n t (j J)
section
variable {X:Cx}{e:Expr}{te:TE}{lo hi:Option Expr}{tl th:TO}{pos p2:Pos}
theorem Zd4:PO X none Ziz:=by
 intro j s q H Q I h;rw[evalPart_none];exact Zm ⟨none,H,I,.none,h⟩
theorem Zd3 (h:PE X e te):PO X (some e) (ZmD te):=by
 intro j s J H Q I M;rw[evalPart_some];refine Yj (h j s J H _ I M) fun u s1 ⟨x,O,U,r1,Y⟩=>?_;obtain⟨i,rfl,q⟩:=Y;obtain⟨t,rfl⟩:=r1;exact⟨some i,O,U,.int i t,q⟩
noncomputable def SlR (X:Cx)(r:V->Option Int->Option Int->Hp->VK->Prop):Prop:=
 ∀(j:List (Addr×Obj)) (s:Shared) (q:St) (H:Hp) (x:V) (v J M:Value) (lo hi:Option Int) (O:Addr) (Q:VK),Inv X j q H s->RelV x v->s.heap.IsSliceOf O J M .none->IsPart J lo->IsPart M hi->r x lo hi H Q->
  ∃T id,typeLookup (.type T) "__getitem__"=pure (some (.builtin id))/\s.TypeIs v T/\wpAny (model X.prog X.w) X.A (getItem v (.ref O)) (EP X j q Q) X.xe s
noncomputable def tSl (r:V->Option Int->Option Int->Hp->VK->Prop)(te:TE)(tl th:TO):TE:=fun j H Q=>te j H fun x q=>tl j q fun l J=>th j J fun u M=>r x l u M Q
theorem ZbH {r:V->Option Int->Option Int->Hp->VK->Prop}(hr:SlR X r)(he:PE X e te)(hl:PO X lo tl)(hu:PO X hi th):PE X (.Subscript e (.Slice lo hi none p2) pos) (tSl r te tl th):=by
 intro j s M H Q I h;refine Subscript_ (Yj (he j s M H _ I h) fun v s1 ⟨x,H1,I1,r1,q1⟩=>?_);refine wpAny_Slice (Yj (hl j s1 M H1 _ I1 q1) fun O s2 ⟨l,H2,I2,pl,q2⟩=>Yj (hu j s2 M H2 _ I2 q2) fun U J ⟨u,Y,I3,pu,q3⟩=>?_);rw[evalPart_none];refine Zm ?_;have I4:Inv X j M Y {J with heap:=J.heap.push {cls:=.type "slice",data:=.fields #[O,U,.none]}}:=I3.kept (t':=J.toks) fun b ob q=>Zn _ q;obtain⟨T,id,hT,ht,hg⟩:=hr j {J with heap:=J.heap.push {cls:=.type "slice",data:=.fields #[O,U,.none]}} M Y x v O U l u J.heap.objs.size Q I4 r1 (Heap.IsSliceOf.new ..) pl pu q3;show wpAny (model X.prog X.w) X.A (subscriptTail e (.Slice lo hi none p2) v (.ref J.heap.objs.size)) (EP X j M Q) X.xe {J with heap:=J.heap.push {cls:=.type "slice",data:=.fields #[O,U,.none]}};exact tail_any (ops:=[.ref J.heap.objs.size,v]) ht hT hg (by with_unfolding_all rfl)
noncomputable def Zcf (xs:List V)(lo hi:Option Int):List V:=(xs.drop (HT.UQ xs.length 0 lo)).take (HT.UQ xs.length xs.length hi-HT.UQ xs.length 0 lo)
theorem Zce (xs:List V)(lo hi:Option Int):(Zcf xs lo hi).length<=xs.length:=by
 unfold Zcf;rw[bT,cH];omega
end
noncomputable def ixN (n:Nat)(i:Int):Option Nat:=if 0<=i then (if i<n then some i.toNat else none) else if -(n:Int)<=i then some (i+n).toNat else none
noncomputable def X9 {α:Type}(xs:List α)(i:Int):Option α:=(ixN xs.length i).bind fun j=>xs[j]?
theorem Zen {n:Nat}{i:Int}{j:Nat}(h:ixN n i=some j):seqIndex? i n=some j/\j<n/\-(n:Int)<=i/\i<n:=by
 unfold ixN at h;by_cases J:0<=i
 ·rw[if_pos J] at h
  by_cases q:i<n
  ·rw[if_pos q] at h
   have e:i.toNat=j:=aD h;exact⟨by rw[seqIndex_of J q,e],by omega,by omega,q⟩
  ·rw[if_neg q] at h;cases h
 ·rw[if_neg J] at h
  by_cases q:-(n:Int)<=i
  ·rw[if_pos q] at h
   have e:(i+n).toNat=j:=aD h;exact⟨by rw[seqIndex_neg (by omega) q,e],by omega,q,by omega⟩
  ·rw[if_neg q] at h;cases h
theorem ZeF {α:Type}{xs:List α}{i:Int}{v:α}(h:X9 xs i=some v):∃j,seqIndex? i xs.length=some j/\xs[j]?=some v/\j<xs.length/\-(xs.length:Int)<=i/\i<xs.length:=by
 unfold X9 at h;cases e:ixN xs.length i with
 |none=>rw[e] at h;cases h
 |some j=>
  rw[e] at h;obtain⟨q,J,M,O⟩:=Zen e;exact⟨j,q,h,J,M,O⟩
theorem ZR {α:Type}{xs:List α}{j:Nat}{v:α}(h:xs[j]?=some v):X9 xs (j:Int)=some v:=by
 have q:j<xs.length:=(ac.mp h).1;have e:ixN xs.length (j:Int)=some j:=by
  unfold ixN;rw[if_pos (by omega),if_pos (by omega)];simp
 unfold X9;rw[e];exact h
theorem Ur {α:Type}(xs:List α)(v:α):X9 (xs++[v]) (-1)=some v:=by
 have j:(xs++[v]).length=xs.length+1:=by simp
 have e:ixN (xs++[v]).length (-1)=some xs.length:=by
  unfold ixN;rw[j,if_neg (by decide),if_pos (by omega)];congr 1;omega
 unfold X9;rw[e];show (xs++[v])[xs.length]?=some v;simp
noncomputable def Zj7 (b:Expr):Prop:=∀o i,subscripted b false o i=operate [o,i] (getItem o i)
noncomputable def IxR (X:Cx)(r:R2):Prop:=
 ∀(J j:Expr) (q:List (Addr×Obj)) (s:Shared) (M:St) (H:Hp) (x y:V) (v u:Value) (Q:VK),Inv X q M H s->RelV x v->RelV y u->r x y H Q->
  subscripted j false v u=operate [v,u] (getItem v u)->wpAny (model X.prog X.w) X.A (subscriptTail J j v u) (EP X q M Q) X.xe s
noncomputable def MtR (X:Cx)(id:String)(r:V->List V->Hp->VK->Prop):Prop:=
 ∀(j:List (Addr×Obj)) (s:Shared) (q:St) (H:Hp) (x:V) (J:List V) (v:Value) (M:List Value) (Q:VK),Inv X j q H s->RelV x v->ZL J M->r x J H Q->
  wpAny (model X.prog X.w) X.A (call (.builtin id) (v::M)) (EP X j q Q) X.xe s
section
variable {X:Cx}{a b:Expr}{ta tb:TE}{pos:Pos}
theorem ZG {r:R2}(J:IxR X r)(M:PE X a ta)(hb:PE X b tb)(O:Zj7 b):PE X (.Subscript a b pos) (tOp r ta tb):=by
 intro j s U H Q I h;exact Subscript_ (Zl3 M hb I h fun v u Y x y H2 I2 rx ry q=>J a b j Y U H2 x y v u Q I2 rx ry q (O _ _))
noncomputable def ZmV (K:aa):R2:=fun x y H Q=>∃p j i v,x=.ref p/\y=.int i/\Wt K H p j/\X9 j i=some v/\Q v H
noncomputable def ZmU (K:aa):R2:=fun x y H Q=>∃p j i v,x=.ref p/\y=.int i/\Xc K H p j/\X9 j i=some v/\Q v H
theorem ZjG:IxR X (ZmV X.K):=by
 intro O U J s σ H x y v u Q I rx ry h hs;obtain⟨p,xs,i,z,rfl,rfl,hq,he,q⟩:=h;cases rx;obtain⟨t,rfl⟩:=ry;obtain⟨Y,r,pl,hz⟩:=I.list hq;obtain⟨j,M,h2,h3,h4,h5⟩:=ZeF he;obtain⟨w,ew,m5⟩:=r.get h2;have hl:=r.length;have hn:=Xj;have fin:EP X J σ Q w s:=⟨z,H,I,m5,q⟩;by_cases h0:0<=i
 ·have hj:i.toNat=j:=by
   rw[seqIndex_of h0 h5] at M;exact aD M
  exact item_listR pl.isList h0 (by omega) (by rw[hj];simpa using ew) fin hs
 ·have hj:(i+(Y.toArray.size:Int)).toNat=j:=by
   rw[seqIndex_neg (by omega) h4] at M;rw[Zh,<-hl];exact aD M
  exact lR (x:=w) pl.isList.typeIs slot_list_getitem.lookup
   (wpAny_getItem_list_neg (Q:=fun r s'=>r=w/\EP X J σ Q r s') pl.isList (by omega) (by rw[Zh] <;> omega) (by omega) (by rw[hj];simpa using ew) ⟨rfl,fin⟩) hs
theorem ZlK:IxR X (ZmU X.K):=by
 intro M O J s Y H x y v u Q I rx ry h hs;obtain⟨p,xs,i,z,rfl,rfl,hq,he,q⟩:=h;cases rx;obtain⟨t,rfl⟩:=ry;obtain⟨m5,r,pl,hz⟩:=I.tuple hq;obtain⟨j,h1,h2,h3,h4,h5⟩:=ZeF he;obtain⟨w,ew,U⟩:=r.get h2;have hl:=r.length;have hn:=Xj;have fin:EP X J Y Q w s:=⟨z,H,I,U,q⟩;exact lR (x:=w) pl.typeIs slot_tuple_getitem.lookup
  (getItem_tuple (j:=j) (Q:=fun r s'=>r=w/\EP X J Y Q r s') pl (by omega) (by omega) (by rw[Zh,<-hl];exact h1) (by simpa using ew) ⟨rfl,fin⟩) hs
theorem ZcY (q:List Value)(n j:Nat)(u:Value):cL (·.setIfInBounds j u) {cls:=.type "list",data:=.seq q.toArray n}={cls:=.type "list",data:=.seq (q.set j u).toArray n}:=by
 simp[cL]
theorem Inv.lst {q:List (Addr×Obj)}{σ:St}{H:Hp}{s:Shared}{p:Addr}{xs:List V}(I:Inv X q σ H s)(h:H p=some (.lst xs)) :
  ∃(j:List Value) (n:Nat),ZL xs j/\s.heap.get? p=some {cls:=.type "list",data:=.seq j.toArray n}/\xs.length<=sizeLine:=by
 obtain⟨z,j,n,r,e⟩:=I.hok p _ h;exact⟨j,n,r,e,z⟩
theorem Inv.lstUpd {j:List (Addr×Obj)}{σ:St}{H:Hp}{s:Shared}{p:Addr}{xs ys:List V}{J its':List Value}{n M:Nat}{f:Obj->Obj}(I:Inv X j σ H s)(h:H p=some (.lst xs))
  (O:s.heap.get? p=some {cls:=.type "list",data:=.seq J.toArray n}) (hf:f {cls:=.type "list",data:=.seq J.toArray n}={cls:=.type "list",data:=.seq its'.toArray M}) (r:ZL ys its') (hz:ys.length<=sizeLine) (t:Nat) :
  Inv X j σ (upd H p (.lst ys)) {s with heap:=s.heap.update p f,toks:=t}:=by
 have e:(s.heap.update p f).get? p=some {cls:=.type "list",data:=.seq its'.toArray M}:=by
  rw[bB f O (by rw[hf] <;> rfl),hf]
 refine I.write (x:=p) (e:=p) (by rw[h];trivial) (.inl rfl) (fun b u hb q=>(bS _ _ (bh hb)).trans q) ⟨_,e⟩ ?_;exact⟨hz,its',M,r,e⟩
noncomputable def ZmT:V->V->V->Hp->(Hp->Prop)->Prop:=fun o i v H Q=>∃p q k j,o=.ref p/\i=.int k/\H p=some (.lst q)/\ixN q.length k=some j/\Q (upd H p (.lst (q.set j v)))
theorem YT:Zmb X ZmT:=by
 intro J s σ H o i v ov iv u Q I ro ri rv h;obtain⟨p,xs,k,j,rfl,rfl,hp,hj,q⟩:=h;cases ro;obtain⟨t,rfl⟩:=ri;obtain⟨M,n,r,U,hz⟩:=I.lst hp;obtain⟨O,h2,h3,h4⟩:=Zen hj;have Y:=r.length;have hn:=Xj;have I':Inv X J σ (upd H p (.lst (xs.set j v))) {s with heap:=s.heap.update p (cL (·.setIfInBounds j u))}:=
  I.lstUpd hp U (ZcY M n j u) (r.set rv j) (by rw[be];exact hz) s.toks
 by_cases h0:0<=k
 ·have hk:k.toNat=j:=by
   rw[seqIndex_of h0 h4] at O;exact aD O
  exact PySem.W.ki_setAt U h0 (by omega) (by rw[Zh,<-Y];exact h4) (by rw[hk];exact⟨_,I',q⟩)
 ·have hk:(k+(M.toArray.size:Int)).toNat=j:=by
   rw[seqIndex_neg (by omega) h3] at O;rw[Zh,<-Y];exact aD O
  exact PySem.W.ki_setBack U (by omega) (by rw[Zh,<-Y];exact h3) (by omega) (by rw[hk];exact⟨_,I',q⟩)
theorem Zao (lo j:Option Int)(n:Nat):(sliceBounds lo j none n).1=((HT.UQ n 0 lo:Nat):Int)/\(sliceBounds lo j none n).2.1=((HT.UQ n n j:Nat):Int)/\(sliceBounds lo j none n).2.2=1:=by
 refine⟨?_,?_,rfl⟩
 ·cases lo with
  |none=>simp[sliceBounds,HT.UQ]
  |some i=>
   simp only[sliceBounds,HT.UQ,lF,show (1:Int) > 0 by decide,if_true];by_cases h:i<0
   ·simp only[h,if_true] <;> omega
   ·simp only[h,if_false] <;> omega
 ·cases j with
  |none=>simp[sliceBounds,HT.UQ]
  |some i=>
   simp only[sliceBounds,HT.UQ,lF,show (1:Int) > 0 by decide,if_true];by_cases h:i<0
   ·simp only[h,if_true] <;> omega
   ·simp only[h,if_false] <;> omega
theorem Uy (j:List Value)(lo q:Option Int):slicePick j.toArray lo q none=((j.drop (HT.UQ j.length 0 lo)).take (HT.UQ j.length j.length q-HT.UQ j.length 0 lo)).toArray:=by
 obtain⟨J,M,O⟩:=Zao lo q j.toArray.size;unfold slicePick;rw[J,M,O];simp only[sliceRange_one,pick_run,Zh] <;> rfl
noncomputable def ZoH (K:aa):V->Option Int->Option Int->Hp->VK->Prop:=fun x lo q H Q=>∃a j,x=.ref a/\Wt K H a j/\∀p,H p=none->Q (.ref p) (upd H p (.lst (Zcf j lo q)))
theorem ZdJ:SlR X (ZoH X.K):=by
 intro M s σ H x v vl vu lo J sl Q I U Y pl pu h;obtain⟨a,xs,rfl,hx,q⟩:=h;cases U;obtain⟨m5,r,O,hz⟩:=I.list hx;have j:=r.length;refine⟨"list",_,slot_list_getitem.lookup,O.isList.typeIs,?_⟩;refine wpAny_getItem_list_slice O.isList Y pl pu .none (by simp) ?_ (by rw[Zh] <;> omega)
 rw[Uy,<-j];refine⟨.ref s.heap.objs.size,_,I.laid (t':=s.toks) (o:=.lst (Zcf xs lo J)) (fun b ob q=>Zn _ q) (Zq _) ?_,rfl,q _ (I.hok.fresh (Zq _))⟩;exact⟨aZ (Zce xs lo J) hz,_,0,(r.drop (HT.UQ xs.length 0 lo)).take (HT.UQ xs.length xs.length J-HT.UQ xs.length 0 lo),Zo _ rfl⟩
noncomputable def Vl:V->Bool
 | .non=>true
 | .bl _=>true
 | .int _=>true
 | .str _=>true
 |_=>false
noncomputable def eqV:V->V->Bool
 | .non,.non=>true
 | .bl a,.bl b=>a == b
 | .bl a,.int b=>(if a then 1 else 0) == b
 | .int a,.bl b=>a == (if b then 1 else 0)
 | .int a,.int b=>a == b
 | .str a,.str b=>a == b
 |_,_=>false
theorem ZlS {A:Around}{s:Shared}{y x:V}{u v:Value}(J:RelV y u)(j:RelV x v)(O:Vl y=true)(M:Vl x=true):ki A s u v (eqV y x):=by
 cases y with
 |non=>
  cases J;cases x with
  |non=>cases j;exact SeqAt.EqAt.same _
  |bl b=>cases j;exact SeqAt.EqAt.none_bool b
  |int b=>obtain⟨t,rfl⟩:=j;exact SeqAt.EqAt.none_int b t
  |str b=>obtain⟨t,rfl⟩:=j;exact SeqAt.EqAt.none_str b t
  |_=>exact absurd (show false=true from M) aH
 |bl a=>
  cases J;cases x with
  |non=>cases j;exact SeqAt.EqAt.bool_none a
  |bl b=>cases j;exact SeqAt.EqAt.bool_bool a b
  |int b=>obtain⟨t,rfl⟩:=j;exact SeqAt.EqAt.bool_int a b t
  |str b=>obtain⟨t,rfl⟩:=j;exact SeqAt.EqAt.bool_str a b t
  |_=>exact absurd (show false=true from M) aH
 |int a=>
  obtain⟨q,rfl⟩:=J;cases x with
  |non=>cases j;exact SeqAt.EqAt.int_none a q
  |bl b=>cases j;exact SeqAt.EqAt.int_bool a q b
  |int b=>obtain⟨t,rfl⟩:=j;exact fG a q b t
  |str b=>obtain⟨t,rfl⟩:=j;exact jK a q b t
  |_=>exact absurd (show false=true from M) aH
 |str a=>
  obtain⟨q,rfl⟩:=J;cases x with
  |non=>cases j;exact SeqAt.EqAt.str_none a q
  |bl b=>cases j;exact SeqAt.EqAt.str_bool a q b
  |int b=>obtain⟨t,rfl⟩:=j;exact jI a q b t
  |str b=>obtain⟨t,rfl⟩:=j;exact SeqAt.EqAt.str_str a q b t
  |_=>exact absurd (show false=true from M) aH
 |_=>exact absurd (show false=true from O) aH
noncomputable def eqU (x:V)(u:Value):Bool:=match u with
 | .none=>eqV .non x
 | .bool b=>eqV (.bl b) x
 | .int i _=>eqV (.int i) x
 | .str z _=>eqV (.str z) x
 |_=>false
theorem ZhP {x y:V}{u:Value}(r:RelV y u)(f:Vl y=true):eqU x u=eqV y x:=by
 cases y with
 |non=>cases r;rfl
 |bl b=>cases r;rfl
 |int i=>obtain⟨t,rfl⟩:=r;rfl
 |str z=>obtain⟨t,rfl⟩:=r;rfl
 |_=>exact absurd (show false=true from f) aH
theorem ZbV {A:Around}{s:Shared}{x:V}{v:Value}(q:RelV x v)(J:Vl x=true):∀{xs:List V}{us:List Value},ZL xs us->xs.all Vl=true->∀u∈us,ki A s u v (eqU x u)
 |_,_,.nil,_=>fun u j=>by cases j
 |y::xs,u::us,.cons r t,f=>fun M j=>by
  rw[List.all_cons,ag] at f;rcases aG.mp j with rfl|j
  ·rw[ZhP r f.1];exact ZlS r q f.1 J
  ·exact ZbV q J t f.2 M j
theorem ZaZ:Yu X (.builtin "len") (fun xs H Q=>∃p ys,xs=[.ref p]/\(Wt X.K H p ys\/Xc X.K H p ys)/\Q (.int ys.length) H):=by
 intro O s σ H xs us Q I r h;obtain⟨p,ys,rfl,j,q⟩:=h;obtain⟨u,rfl,U⟩:=vals1 r;cases U;have hn:=Xj;rcases j with j|j
 ·obtain⟨J,M,pl,Y⟩:=I.list j
  have hlen:=M.length;exact Calls.call_len_list pl.isList (by simp only[Zh] <;> omega) ⟨.int ys.length,H,I.tok _,⟨s.toks+1,by rw[Zh,hlen]⟩,q⟩
 ·obtain⟨J,M,pl,Y⟩:=I.tuple j
  have hlen:=M.length;exact len_tuple pl (by simp only[Zh] <;> omega) ⟨.int ys.length,H,I.tok _,⟨s.toks+1,by rw[Zh,hlen]⟩,q⟩
theorem XO:Yu X (.type "list") (fun xs H Q=>∃p ys,xs=[.ref p]/\(Wt X.K H p ys\/Xc X.K H p ys)/\∀l,H l=none->Q (.ref l) (upd H l (.lst ys))):=by
 intro U s σ H xs us Q I r h;obtain⟨p,ys,rfl,Y,q⟩:=h;obtain⟨u,rfl,rx⟩:=vals1 r;cases rx;have m5:∀(j:List Value),ZL ys j->ys.length<=sizeLine->∀(J:Heap) (M:Nat),(∀b o',s.heap.get? b=some o'->J.get? b=some o')->
   J.get? s.heap.objs.size=some {cls:=.type "list",dict:=none,data:=.seq j.toArray M,slots:=#[]}->EP X U σ Q (.ref s.heap.objs.size) {s with heap:=J}:=fun j O hz J M kp e=>
  ⟨.ref s.heap.objs.size,_,I.laid (t':=s.toks) kp (Zq _) (show Yt X.prog X.w _ J _ (.lst ys) from ⟨hz,j,M,O,e⟩),rfl,q _ (I.hok.fresh (Zq _))⟩
 rcases Y with Y|Y
 ·obtain⟨j,O,pl,hz⟩:=I.list Y
  have m6:=O.length;obtain⟨o,ho,hc,n,hd⟩:=pl.isList;exact call_list_seq p (.inl rfl) ho hc hd (fun J M kp e=>m5 j O hz J M kp e) (by simp only[Zh] <;> omega)
 ·obtain⟨j,O,pl,hz⟩:=I.tuple Y
  have m6:=O.length;obtain⟨o,ho,hc,n,hd⟩:=pl;exact call_list_seq p (.inr rfl) ho hc hd (fun J M kp e=>m5 j O hz J M kp e) (by simp only[Zh] <;> omega)
theorem ZJ:Yu X (.type "tuple") (fun xs H Q=>∃p ys,xs=[.ref p]/\((Wt X.K H p ys/\∀l,H l=none->Q (.ref l) (upd H l (.tup ys)))\/(Xc X.K H p ys/\Q (.ref p) H))):=by
 intro j s Y H xs us Q I r h;obtain⟨p,ys,rfl,h⟩:=h;obtain⟨u,rfl,rx⟩:=vals1 r;cases rx;rcases h with ⟨O,q⟩|⟨O,q⟩
 ·obtain⟨J,U,pl,hz⟩:=I.list O
  have m5:=U.length;refine call_tuple_list pl.isList (fun M kp=>?_) (by simp only[Zh] <;> omega)
  have I1:Inv X j Y H {s with heap:=M}:=I.kept (t':=s.toks) kp;have I2:Inv X j Y (upd H M.objs.size (.tup ys)) {s with heap:=M.push {cls:=.type "tuple",data:=.seq J.toArray}}:=
   I1.laid (t':=s.toks) (fun b o e=>Zn _ e) (Zq _) (show Yt X.prog X.w _ _ _ (.tup ys) from ⟨hz,J,U,lS _ _⟩)
  exact⟨.ref M.objs.size,_,I2,rfl,q _ (I1.hok.fresh (Zq _))⟩
 ·obtain⟨J,U,pl,hz⟩:=I.tuple O
  exact call_tuple_same pl ⟨.ref p,H,I,rfl,q⟩
noncomputable def tyV (K:aa)(T:String)(x:V)(H:Hp):Prop:=match x with
 | .str _=>T = "str"
 | .int _=>T = "int"
 | .ref p=>(T = "list"/\∃q,Wt K H p q)\/(T = "tuple"/\∃o,K.lookup p=some o/\o.cls=.type "tuple"/\o.dict=none)\/
   (T = "dict"/\((∃j,H p=some (.dK j))\/∃j,H p=some (.dT j)))\/(T = "set"/\∃S n,H p=some (.set S n))
 |_=>False
theorem ZkT {q:List (Addr×Obj)}{σ:St}{H:Hp}{s:Shared}{T:String}{x:V}{v:Value}(I:Inv X q σ H s)(r:RelV x v)(J:tyV X.K T x H) :
  s.TypeIs v T/\∀a,v=.ref a->∃U,s.heap.get? a=some U/\U.dict=none:=by
 cases x with
 |str z=>
  obtain⟨t,rfl⟩:=r;cases (show T = "str" from J);exact⟨typeIs_str s z t,fun _ e=>nomatch e⟩
 |int i=>
  obtain⟨t,rfl⟩:=r;cases (show T = "int" from J);exact⟨typeIs_int s i t,fun _ e=>nomatch e⟩
 |ref p=>
  cases r;rcases J with ⟨rfl,xs,Y⟩|⟨rfl,o,j,hc,hd⟩|⟨rfl,j⟩|⟨rfl,S,n,j⟩
  ·obtain⟨m5,_,pl,_⟩:=I.list Y
   refine⟨pl.isList.typeIs,fun a e=>?_⟩;cases e;obtain⟨o,n,e,c,hd,_⟩:=pl;exact⟨o,e,hd⟩
  ·refine⟨⟨o,I.kIn p o j,hc⟩,fun a e=>?_⟩
   cases e;exact⟨o,I.kIn _ o j,hd⟩
  ·have z:∃o,s.heap.get? p=some o/\o.ExactDict:=by
    rcases j with ⟨M,j⟩|⟨M,j⟩
    ·obtain⟨_,_,_,_,o,_,_,e,ex,_⟩:=I.hok p _ j
     exact⟨o,e,ex⟩
    ·obtain⟨_,_,_,_,o,_,_,e,ex,_⟩:=I.hok p _ j
     exact⟨o,e,ex⟩
   obtain⟨o,e,ex⟩:=z;refine⟨⟨o,e,ex.1⟩,fun a O=>?_⟩;cases O;exact⟨o,e,ex.2.1⟩
  ·obtain⟨o,_,_,_,e,ex,_⟩:=I.hok p _ j
   refine⟨⟨o,e,ex.1⟩,fun a O=>?_⟩;cases O;exact⟨o,e,ex.2.1⟩
 |_=>exact dP J
noncomputable def tBM (K:aa)(T:String)(r:V->List V->Hp->VK->Prop)(J:TE)(t:TA):TE:=fun j H Q=>J j H fun x q=>tyV K T x q/\t j q fun M O=>r x M O Q
variable {o e:Expr}{es:List Expr}{to:TE}{t:TA}{name:Str}{apos cpos:Pos}{T id:String}{r:V->List V->Hp->VK->Prop}
theorem Wj (pa:PlainAttrs T)(slot:Slot T name id)(U:typeOf (.builtin id)=pure (.type "method_descriptor"))(hm:MtR X id r)(ho:PE X o to)(ha:PA X (e::es) t)
  (J:attributeBase o name X.env (eval o X.env)=eval o X.env:=by rfl)
  (O:((backTo cpos (starEach (e::es) X.env)).all (fun x=>!x.1) && (backToKw cpos (keywordEach [] X.env)).all (fun x=>x.1.isSome)
   && decide ((e::es).length+([]:List Keyword).length+(if ([]:List Keyword).isEmpty then 0 else 1)<30))=true:=by rfl)
  (M:(apos.endLine == cpos.line)=true:=by rfl) (hs:starEach (e::es) X.env=(false,eval e X.env)::starEach es X.env:=by rfl) (q:(backTo cpos (starEach es X.env)).any (·.1)=false:=by rfl) :
  PE X (.Call (.Attribute o name apos) (e::es) [] cpos) (tBM X.K T r to t):=by
 intro j s Y H Q I h;refine lK J O M rfl (Yj (ho j s Y H _ I h) fun v s1 ⟨x,H1,I1,r1,ty,q1⟩=>?_);obtain⟨h1,h2⟩:=ZkT I1 r1 ty;refine⟨T,id,pa,slot,U,h1,h2,?_⟩;have hA:=ha cpos j s1 Y H1 _ I1 q1;rw[hs] at hA ⊢;refine jU (by show (false || (backTo cpos (starEach es X.env)).any (·.1))=false;rw[q] <;> rfl) (kx ?_)
 exact Yj hA fun us s2 ⟨vs,H2,I2,r2,q2⟩=>hm j s2 Y H2 x vs v us Q I2 r1 r2 q2
end
noncomputable def MtM (X:Cx)(id:String)(r:V->List V->Hp->VK->Prop):Prop:=
 ∀(j:List (Addr×Obj)) (s:Shared) (q:St) (H:Hp) (x:V) (J:List V) (v:Value) (M:List Value) (Q:VK),Inv X j q H s->RelV x v->ZL J M->r x J H Q->
  wpAny (model X.prog X.w) X.A (call (.builtin id) (v::M)) (EP X j q Q) X.xe s
theorem ZL.one {x:V}{us:List Value}(h:ZL [x] us):∃u,us=[u]/\RelV x u:=by
 cases h with
 |cons r t=>cases t;exact⟨_,rfl,r⟩
theorem ZL.rep {xs:List V}{us:List Value}(h:ZL xs us):∀k:Nat,ZL (aA k xs).flatten (aA k us).flatten
 |0=>.nil
 |k+1=>by
  rw[bm,bm,bY,bY];exact ZL.append h (ZL.rep h k)
theorem foldl_rep (j:List Value):∀(k:Nat) (ZE:List Value),
  lI (fun q J=>q++J) ZE.toArray (aA k j.toArray)=(ZE++(aA k j).flatten).toArray
 |0,ZE=>by simp
 |k+1,ZE=>by
  have e:ZE.toArray++j.toArray=(ZE++j).toArray:=by simp
  have M:(ZE++j)++(aA k j).flatten=ZE++(aA (k+1) j).flatten:=by
   rw[bm,bY,iQ]
  rw[<-M,<-foldl_rep j k (ZE++j),<-e,bm,List.foldl_cons]
section
variable {X:Cx}{pins:List (Addr×Obj)}{σ:St}{H:Hp}{s:Shared}{l b:Addr}{xs ys zs:List V}
theorem Inv.lset {j its':List Value}{n:Nat}{f:Array Value->Array Value}{t':Nat}(I:Inv X pins σ H s)(J:H l=some (.lst xs))
  (e:s.heap.get? l=some {cls:=.type "list",data:=.seq j.toArray n}) (M:f j.toArray=its'.toArray) (O:ZL ys its') (hz:ys.length<=sizeLine) :
  Inv X pins σ (upd H l (.lst ys)) {s with heap:=s.heap.update l (cL f),toks:=t'}:=by
 have q:=PySem.IsL.update e f;rw[M] at q;refine I.write (x:=l) (e:=l) (by rw[J];exact trivial) (.inl rfl) (fun Y u hb U=>(bS s.heap (cL f) (bh hb)).trans U) ⟨_,q⟩ ?_;exact⟨hz,its',_,O,q⟩
theorem Inv.lnew {j:List Value}{t':Nat}(I:Inv X pins σ H s)(J:ZL ys j)(hz:ys.length<=sizeLine) :
  Inv X pins σ (upd H s.heap.objs.size (.lst ys)) {s with heap:=s.heap.push {cls:=.type "list",data:=.seq j.toArray},toks:=t'}:=
 I.laid (fun _ _ q=>Zn _ q) (Zq _) ⟨hz,j,0,J,Zo _ rfl⟩
theorem Inv.fresh (I:Inv X pins σ H s):H s.heap.objs.size=none:=I.hok.fresh (Zq _)
theorem Inv.lstM (I:Inv X pins σ H s)(q:H l=some (.lst xs)):xs.length<=sizeLine/\∃(j:List Value) (n:Nat),ZL xs j/\xs.length=j.length/\s.heap.get? l=some {cls:=.type "list",data:=.seq j.toArray n}:=by
 obtain⟨z,j,n,r,e⟩:=I.hok l _ q;exact⟨z,j,n,r,r.length,e⟩
theorem ZbO {n:Nat}(h:n<=sizeLine):dM n=false:=by
 unfold dM;exact decide_eq_false (by omega)
end
section
variable {X:Cx}
noncomputable def ZiS:V->List V->Hp->VK->Prop:=fun x q H Q=>∃l j y,x=.ref l/\q=[y]/\H l=some (.lst j)/\j.length<sizeLine/\Q .non (upd H l (.lst (j++[y])))
theorem Z2:MtM X "list.append" ZiS:=by
 intro J s σ H x vs v us Q I U Y h;obtain⟨l,xs,y,rfl,rfl,M,hz,q⟩:=h;cases U;obtain⟨u,rfl,ru⟩:=Y.one;obtain⟨z,j,n,r,hl,e⟩:=I.lstM M;refine fJ aT ⟨_,e,rfl⟩ F.entry_list_append (F.args_list_append_2 _ _) (PySem.list_append l j.toArray n u (by rw[Zh];omega)) ⟨e,?_⟩;refine⟨.non,_,I.lset (its':=j++[u]) M e (by simp) (r.append (.cons ru .nil)) ?_,rfl,q⟩;rw[Zd,Zk];omega
noncomputable def ZiR:V->List V->Hp->VK->Prop:=fun x J H Q=>∃l b j q,x=.ref l/\J=[.ref b]/\H l=some (.lst j)/\H b=some (.lst q)/\j.length+q.length<=sizeLine/\Q .non (upd H l (.lst (j++q)))
theorem Zfc:MtM X "list.extend" ZiR:=by
 intro U s σ H x vs v us Q I rx rv h;obtain⟨l,b,xs,zs,rfl,rfl,Y,hB,hz,q⟩:=h;cases rx;obtain⟨u,rfl,ru⟩:=rv.one;cases ru;obtain⟨z,J,n,r,hl,e⟩:=I.lstM Y;obtain⟨z2,j,n2,r2,m6,e2⟩:=I.lstM hB;have O:J.toArray.size+j.toArray.size<=sizeLine:=by rw[Zh,Zh];omega
 have M:¬(!J.toArray.isEmpty && dM (J.toArray.size+j.toArray.size))=true:=by
  rw[ZbO O,Bool.and_false];exact aH
 refine fJ ku ⟨_,e,rfl⟩ F.entry_list_extend (F.args_list_extend_2 _ _)
  (AutoSeq1.list_extend_list_list_0 l J.toArray n b j.toArray n2 M (by rw[Zh];omega) (by omega)) ⟨e,e2,?_⟩
 refine⟨.non,_,I.lset (its':=J++j) Y e (by simp) (r.append r2) ?_,rfl,q⟩;rw[Zd];omega
noncomputable def ZoK:R2:=fun x y H Q=>∃l b j q,x=.ref l/\y=.ref b/\H l=some (.lst j)/\H b=some (.lst q)/\j.length+q.length<=sizeLine/\∀p,H p=none->Q (.ref p) (upd H p (.lst (j++q)))
theorem Zaw:Vv X (binaryOp .Add) ZoK:=by
 intro M s σ H x y v u Q I O U h;obtain⟨l,b,xs,zs,rfl,rfl,Y,hB,hz,q⟩:=h;cases O;cases U;obtain⟨z,J,n,r,hl,e⟩:=I.lstM Y;obtain⟨z2,j,n2,r2,m5,e2⟩:=I.lstM hB;refine PySem.P.add_list e e2 ?_ (by rw[Zh,Zh];omega);have ea:J.toArray++j.toArray=(J++j).toArray:=by simp
 rw[ea];exact⟨.ref _,_,I.lnew (t':=s.toks) (r.append r2) (by rw[Zd];omega),rfl,q _ I.fresh⟩
noncomputable def ZoI:R2:=fun x y H Q=>∃l k j,x=.ref l/\y=.int k/\H l=some (.lst j)/\-(2 ^ 63)<=k/\k<2 ^ 63/\j.length*k.toNat<=sizeLine/\
 ∀p,H p=none->Q (.ref p) (upd H p (.lst (aA k.toNat j).flatten))
theorem Zjy {α:Type}(xs:List α)(k:Nat):(aA k xs).flatten.length=k*xs.length:=by
 induction k with
 |zero=>simp
 |succ k j=>rw[bm,bY,Zd,j,b8,Nat.add_comm]
theorem Xf:Vv X (binaryOp .Mult) ZoI:=by
 intro m6 s σ H x y v u Q I rx ry h;obtain⟨l,k,xs,rfl,rfl,hH,h1,h2,hz,q⟩:=h;cases rx;obtain⟨t,rfl⟩:=ry;obtain⟨z,j,n,r,hl,e⟩:=I.lstM hH;have M:j.toArray.size*k.toNat<=sizeLine:=by rw[Zh,<-hl];exact hz
 have O:¬j.toArray.size*k.toNat > (2 ^ 63-1) / 8:=by
  have:(sizeLine:Nat)<=(2 ^ 63-1) / 8:=by decide
  omega
 have Y:¬(!fj k)=true:=by
  rw[fitsIndex_both h1 h2];exact aH
 have J:¬dM (j.toArray.size*k.toNat)=true:=by
  rw[ZbO M];exact aH
 have m5:lI (fun x1 x2=>x1++x2) #[] (aA (if j.toArray.isEmpty=true then 0 else k.toNat) j.toArray)=(aA k.toNat j).flatten.toArray:=by
  have f0:∀m:Nat,lI (fun x1 x2=>x1++x2) #[] (aA m j.toArray)=(aA m j).flatten.toArray:=fun m=>by
   have:=foldl_rep j m [];rw[List.nil_append] at this;exact this
  rw[f0];cases j with
  |nil=>simp
  |cons a r'=>rw[if_neg (by simp)]
 refine wpAny_binaryOp_repeat_ref (T:="list") (U:="int") (by decide) ⟨_,e,rfl⟩ (fun s'=>typeIs_int s' k t) noFill_list_mul F.fills_int_mul F.slot_int_rmul repeat_list F.slot_int_index.lookup
  (fJ F.slot_int_rmul (typeIs_int s k t) F.entry_int_rmul (F.args_int_rmul_2 _ _) (int___rmul___int_list k t l j.toArray n)
   ⟨e,rfl,⟨_,e,rfl⟩,fJ F.slot_list_mul ⟨_,e,rfl⟩ F.entry_list_mul (F.args_list_mul_2 _ _) (AutoListH.list___mul___list_int_3 l j.toArray n k t Y O J) ⟨e,?_⟩⟩)
 rw[m5];exact⟨.ref _,_,I.lnew (t':=s.toks) (r.rep k.toNat) (by rw[Zjy,fc];exact hz),rfl,q _ I.fresh⟩
end
section
variable {prog:Program}{w:World}{A:Around}{E:Value->Shared->Prop}{s:Shared}
end
section
variable {X:Cx}
end
end L2
namespace Att
open PySem PySem.W PySem.Calls PyProof.Rows
theorem Vr {P:Params}{h:Heap}:∀(ns:List Int) (vs:List Value),WellAll P h vs (ns.map WData.int)->a8 vs ns:=by
 intro ns;induction ns with
 |nil=>
  intro vs w;rw[eZ] at w;cases w;exact .nil
 |cons n ns j=>
  intro vs w;rw[aQ] at w;cases w with
  |cons a b=>
   cases a;exact .cons _ _ (j _ b)
theorem ZeQ {l:gm}{n:Nat}(hn:l.most=some n){P:Params}{h:Heap}{args:List WData}{Xr:List Value}
  (j:l.row.toRowW.claim.pre args=true) (U:WellAll P h Xr args) :
  ∃a vs ns,Xr=[aB a]/\args=[WData.list (ns.map WData.int)]/\h.get? a=some {cls:=.type "list",data:=.seq vs.toArray}/\a8 vs ns/\ns.length<=n:=by
 have Y:WShape.hasAll [] args [.list .int]=true:=(pre_splitW j).1;have hc:l.pre.holds [] {args:=args}=true:=(pre_splitW j).2;obtain⟨d,r,rfl,h1,h2⟩:=hasAllW_cons Y;obtain rfl:=hasAllW_nil h2;obtain⟨xs,rfl,h3⟩:=hasW_list h1;obtain⟨ns,rfl⟩:=items_int h3;have hlen:ns.length<=n:=by
  unfold OpenLaw.pre at hc;have M:(WTm.not (.lt (.lit (.int (n:Int))) (.len (.arg 0)))).holds [] {args:=[.list (ns.map .int)]}=true:=by
   have M:=(holds_andW hc).1;rw[hn] at M;exact M
  have O:=condW_of M (w_not (w_lt w_lit (w_len_list (w_arg rfl))));rw[Za] at O;refine ft fun q=>?_;have q':(n:Int)<((ns.length:Nat):Int):=by omega
  first
   |(rw[decide_eq_true q'] at O;exact absurd O (by decide))
   |(simp at O;omega)
 cases U with
 |cons w1 w2=>
  cases w2;cases w1 with
  |list ho J=>exact⟨_,_,ns,rfl,rfl,ho,Vr ns _ J,hlen⟩
theorem ZeU (l:gm)(args:List WData):l.row.toRowW.claim.post args (.bool true) args=true:=
 postW_of (r:=l.row.toRowW) (X:=(true == true))
  (show WShape.has [] (.bool true) .bool=true by first|rfl|decide|simp[WShape.has,WShape.arms,WShape.armsAll])
  (show (WTm.eq .res (.lit (.bool true))).value [] {args:=args,res:=some (.bool true),after:=args}=some (.bool (true == true)) from w_eq_bool (w_res rfl) w_lit) rfl
theorem Zcm {l:gm}{n:Nat}{q:Program}{loose:List Str}{XP:(Str->Option Value)->Heap->Prop}{YP:World->Heap->Prop}{d:DefRec}
  (hn:l.most=some n) (m5:d.params.defaults=[])
  (call:∀(w:World) (s₀ j:Shared) (mg mb:Str->Option Value) (M:Addr) (o:Obj) (pm cd J:Value) (a:Addr) (vs:List Value) (ns:List Int),
   Ground q loose [] XP w s₀ mg mb j.heap->YP w j.heap->
   j.heap.get? M=some o->o.data=.func (docDef d.name d.params d.body d.scope pm cd J)->j.heap.CodeRec cd d.name->mg d.name=some (.ref M)->
   j.heap.get? a=some {cls:=.type "list",data:=.seq vs.toArray}->a8 vs ns->ns.length<=n->j.gens=#[]->
   codeAny (model l.prog w) callerA (.call (.ref M) ⟨[.ref a],[]⟩) (fun r s'=>r=.ok (.ret (.bool true))/\OldK j.heap s'.heap/\s'.os=j.os/\ii s'.gens) j) :
  ln q loose XP YP l.row.toRowW d [] (fun f vs=>kZ f vs):=by
 intro w s₀ j mg mb G Y M o pm cd J dV kV ho hd m6 hD m8 hg args Xr as O n8 n9 n6 o0;obtain rfl:dV=.none:=Dflts.none hD m5;obtain rfl:kV=.none:=Dflts.noKw hD;obtain⟨a,vs,ns,rfl,rfl,U,hints,hlen⟩:=ZeQ hn O n6;refine enter_call (fq (call w s₀ j mg mb M o pm cd J a vs ns G Y ho (fd_plain hd) m6 m8 U hints hlen hg) fun r s' hq=>?_);obtain⟨rfl,h2,h3,h4⟩:=hq;exact⟨.inl ⟨.bool true,.bool true,[],rfl,fun _=>rfl,.bool true,ZeU l _,fun _=>⟨eA,fun _ hm=>(nomatch hm)⟩⟩,h2,h3,h4⟩
section
variable {prog:Program}{w:World}{A:Around}{E:Value->Shared->Prop}{s:Shared}{K:Frag}
end
end Att
namespace L2
open PySem PySem.Spec PyProof.Rows
theorem UI:∀{vs:List Value}{ns:List Int},a8 vs ns->ZL (ns.map V.int) vs
 |_,_,.nil=>.nil
 |_,_,.cons n t h=>.cons ⟨t,rfl⟩ (UI h)
noncomputable def Zme (H:Hp):Prop:=∀b,H b=none\/∃o j,H b=some (.frz o (.lst j))
theorem Zhm {P:Program}{w:World}{K:aa}{mg mb:Str->Option Value}{CX:CXT}{k:Nat}{fa a:Addr}{fd:FuncData}{x:Str}{sp:Sp}{j:Shared}{vs:List Value}{ns:List Int}
  (KX:K.In j.heap) (Y:j.heap.Ns mainGlobals mg) (hb:j.heap.Ns builtinsNs mb) (n6:∀x:Str,x ≠ "__name__"->mb x=bootBuiltins x) (m5:j.heap.NoLimit) (hg:j.gens=#[])
  (ha:j.heap.get? a=some {cls:=.type "list",data:=.seq vs.toArray}) (hi:a8 vs ns) (hl:ns.length<=sizeLine) (hr:Jc k callerA)
  (F:∀base:Heap,K.In base->base.Ns mainGlobals mg->Yb P w K mg base CX k fa fd [x] sp) (U:∀(s:Shared) (u:Value),iM s fd ⟨[u],[]⟩ [(x,u)])
  (n8:∀H:Hp,Zme H->Wt K H a (ns.map V.int)->sp [.ref a] H (fun v _=>v=.bl true) fun _ _ _=>False)
  (n9:∀H e s',CX [] H j (fun _ _ _=>False) e s'->False) :
  codeAny (model P w) callerA (.call (.ref fa) ⟨[.ref a],[]⟩) (fun r s'=>r=.ok (.ret (.bool true))/\OldK j.heap s'.heap/\s'.os=j.os/\ii s'.gens) j:=by
 have rv:=UI hi;have Zb1:=hi.length;have O:∀H:Hp,Zme H->Wt K H a (ns.map V.int)->XS P w H j.heap->(∀b,H b≠none->b=a)->(H a≠none->K.lookup a=none)->
   codeAny (model P w) callerA (.call (.ref fa) ⟨[.ref a],[]⟩) (fun r s'=>r=.ok (.ret (.bool true))/\OldK j.heap s'.heap/\s'.os=j.os/\ii s'.gens) j:=by
  intro H hO hS hok hA hK;have J:∀{b:Addr}{o:Obj},j.heap.get? b=some o->H b=none->(ZaK j.heap H).get? b=some o:=fun e n=>ZhA e n;have o0:∀{b:Addr}{o:Obj}{es:Array DictEntry}{ep:Nat},j.heap.get? b=some o->o.data=.dict es ep->H b=none:=fun {b o es ep} e d=>by
   cases q:H b with
   |none=>rfl
   |some u=>
    have e':b=a:=hA b (by rw[q];simp);subst e';rw[ha] at e;cases e;have d':Data.seq vs.toArray _=Data.dict es ep:=d;cases d'
  have M:∀{b:Addr}{m:Str->Option Value},j.heap.Ns b m->(ZaK j.heap H).Ns b m:=fun {b m} ⟨o,es,ep,e,d,r⟩=>⟨o,es,ep,J e (o0 e d),d,r⟩;have m6:K.In (ZaK j.heap H):=fun b o e=>J (KX b o e) (by
   cases q:H b with
   |none=>rfl
   |some u=>
    have e':b=a:=hA b (by rw[q];simp);subst e';rw[hK (by rw[q];simp)] at e;cases e)
  have hM:Mod K mg (ZaK j.heap H):=⟨m6,M Y,⟨mb,M hb,n6⟩,let ⟨mc,h1,h2⟩:=m5;⟨mc,M h1,h2⟩⟩;have e0:Zka P w K mg (ZaK j.heap H) callerA [] j H:=⟨rfl,hM,fun b o e=>Zjo e,Nat.le_of_eq (Zfj _ _),trivial,fun b hb=>absurd (show b∈([]:List Addr) from hb) (by simp),hok,.of_eq hg⟩;refine fq ((F _ m6 (M Y)).run callerA [] j H ⟨[.ref a],[]⟩ [.ref a] [.ref a] _ _ hr e0 (U j (.ref a)) (.cons rfl .nil) (n8 H hO hS)) fun r s' h=>?_;cases r with
  |error e=>exact (n9 H e s' h).elim
  |ok fl=>
   cases fl with
   |next=>exact dP h
   |brk=>exact dP h
   |cont=>exact dP h
   |ret u=>
    obtain⟨v,H',os,bare,un,m8,r',q⟩:=h;have q':v=.bl true:=q;subst q';obtain rfl:u=ix true:=r';refine⟨rfl,OldK.of_keep fun b o e=>?_,os,bare⟩;cases q:H b with
    |none=>exact un.keep b o e q (by intro z;exact absurd (show b∈([]:List Addr) from z) (by simp)) (by simp)
    |some u=>
     rcases hO b with z|⟨ob,xs,z⟩
     ·rw[q] at z;cases z
     ·have z2:=un.frzs b ob _ z
      obtain⟨e1,_⟩:=hok b _ z;obtain⟨e2,_⟩:=m8 b _ z2;rw[e] at e1;cases e1;exact e2
 cases hk:K.lookup a with
 |some o=>
  have e:=KX a o hk;rw[ha] at e;cases e;refine O (fun _=>none) (fun _=>.inl rfl) (.inr ⟨_,vs.toArray,_,hk,rfl,rfl,rfl,by rw[Zh,Zb1];exact hl,by simpa using rv⟩) (fun b u z=>by have z':(none:Option HO)=some u:=z;cases z') (fun b z=>absurd rfl z) fun z=>absurd rfl z
 |none=>
  refine O (fun b=>if b=a then some (.frz {cls:=.type "list",data:=.seq vs.toArray} (.lst (ns.map V.int))) else none) (fun b=>?_) (.inl (.inr ⟨{cls:=.type "list",data:=.seq vs.toArray},if_pos rfl⟩)) (fun b u z=>?_) (fun b z=>?_) fun _=>hk
  ·by_cases hb:b=a
   ·exact .inr ⟨_,_,if_pos hb⟩
   ·exact .inl (if_neg hb)
  ·by_cases hb:b=a
   ·have z':=(if_pos hb).symm.trans z
    cases z';subst hb;exact⟨ha,by rw[Za];exact hl,vs,_,rv,ha⟩
   ·have z':=(if_neg hb).symm.trans z
    cases z'
  ·by_cases hb:b=a
   ·exact hb
   ·exact absurd (if_neg hb) z
theorem Zae {l:gm}{n k:Nat}{q:Program}{loose:List Str}{XP:(Str->Option Value)->Heap->Prop}{YP:World->Heap->Prop}{d:DefRec}{K:Params->aa}{CX:World->CXT}{sp:World->Sp}{x:Str}
  (hn:l.most=some n) (m5:n<=sizeLine) (m6:d.params.defaults=[]) (hr:Jc k callerA)
  (hY:∀(w:World) (h:Heap),YP w h->(K w.params).In h)
  (F:∀(w:World) (M:Str->Option Value) (fa:Addr) (h:Heap),(K w.params).In h->h.Ns mainGlobals M->M d.name=some (.ref fa)->
   ∃fd:FuncData,(∀(s:Shared) (u:Value),iM s fd ⟨[u],[]⟩ [(x,u)])/\
    ∀base:Heap,(K w.params).In base->base.Ns mainGlobals M->Yb l.prog w (K w.params) M base (CX w) k fa fd [x] (sp w))
  (m8:∀(w:World) (H:Hp) (a:Addr) (ns:List Int),ns.length<=n->Zme H->Wt (K w.params) H a (ns.map V.int)->sp w [.ref a] H (fun v _=>v=.bl true) fun _ _ _=>False)
  (n6:∀(w:World) (H:Hp) (s:Shared) (e:Value) (s':Shared),CX w [] H s (fun _ _ _=>False) e s'->False) :
  ln q loose XP YP l.row.toRowW d [] (fun f vs=>kZ f vs):=by
 refine Att.Zcm hn m6 fun w n9 O M mb fa o pm cd o0 a vs ns G Y ho hd o5 n8 U J j hg=>?_;have KX:=hY w _ Y;obtain⟨fd,hb,hF⟩:=F w M fa _ KX G.T.g n8;exact Zhm KX G.T.g G.T.b G.T.builtins G.T.nolimit hg U J (aZ j m5) hr hF hb (fun H hO hS=>m8 w H a ns j hO hS) fun H e s'=>n6 w H O e s'
noncomputable def Wh (s:Stmt):Arguments:=match s with
 | .FunctionDef _ a _ _ _ _ _ _ _ _=>a
 |_=>{posonlyargs:=[],args:=[],vararg:=none,kwonlyargs:=[],kw_defaults:=[],kwarg:=none,defaults:=[]}
noncomputable def Y9 (s:Stmt):List Stmt:=match s with
 | .FunctionDef _ _ b _ _ _ _ _ _ _=>b
 |_=>[]
noncomputable def ZU (s:Stmt):cO:=match s with
 | .FunctionDef _ _ _ _ _ _ j _ _ _=>j
 |_=>{kind:=.function,names:=[],isGenerator:=false,isCoroutine:=false}
noncomputable abbrev Yi:CXT:=fun _ _ _ _ _ _=>False
noncomputable abbrev E0:XK:=fun _ _ _=>False
theorem ZK {X:Cx}:Za4 Yi X E0:=fun _ _ _ _ _ _ _ h=>h.elim
structure WN (K:aa)(x qual:Str)(st:Stmt)(f:Addr)(fd:FuncData):Prop where
 ex:∃(oc:Value) (od:Option Addr) (kV doc pm:Value) (an:Option Addr) (cdv ct:Value) (osl:Array (Option Value)),
  fd=cm x qual (Wh st) (Y9 st) (ZU st) .none kV doc pm an cdv ct/\K.lookup f=some ⟨oc,od,.func fd,osl⟩/\eW K cdv qual=true
 kp:dH K (.ref f)=true
section
variable {P:Program}{w:World}{K:aa}{mg:Str->Option Value}{base:Heap}
theorem WN.ok {x j:Str}{st:Stmt}{f:Addr}{fd:FuncData}{N O:List Str}{k:Nat}{sp:Sp}(F:WN K x j st f fd)(S:VE N O (ZU st))(len:∀vs H Q E,sp vs H Q E->vs.length=O.length)
  (M:∀(J:Value) (A:Around) (outer:List Env) (s:Shared) (H:Hp) (vs:List V) (Q:VK) (E:XK),Jc k (A.deeper (envOfC j (ZU st) s.heap.objs.size f J))->sp vs H Q E->
   ∃t,PSs (Zcd Yi P w K mg base N j (ZU st) f J A outer s H E).nox (Y9 st) t/\t {nx:=fun _ H'=>Q .non H',rt:=Q} (start N vs) H):Yb P w K mg base Yi (k+1) f fd O sp:=by
 obtain⟨oc,od,kV,doc,pm,an,J,ct,m5,rfl,lk,U⟩:=F.ex;refine Znx lk U S len fun A outer s H vs Q E hr Y=>?_;obtain⟨t,h,q⟩:=M J A outer s H vs Q E hr Y;exact⟨t,h.nox,q⟩
theorem WN.binds {x j:Str}{st:Stmt}{f:Addr}{fd:FuncData}{J:List Str}(F:WN K x j st f fd)
  (h:∀(kV doc pm:Value) (an:Option Addr) (q ct:Value) (us:List Value),us.length=J.length->bindArgs (cm x j (Wh st) (Y9 st) (ZU st) .none kV doc pm an q ct) ⟨us,[]⟩=pure (J.zip us)):Binds K fd J []:=by
 obtain⟨U,Y,kV,doc,pm,an,q,ct,M,rfl,lk,O⟩:=F.ex;exact .all (h kV doc pm an q ct)
theorem Zc4 {x j:Str}{st:Stmt}{f:Addr}{M:Value}{O an:Option Addr}{J:Array (Option Value)}{kV doc pm q ct:Value}(l:K.lookup f=some ⟨M,O,.func (cm x j (Wh st) (Y9 st) (ZU st) .none kV doc pm an q ct),J⟩)
  (c:eW K q j=true) (k:dH K (.ref f)=true):WN K x j st f (cm x j (Wh st) (Y9 st) (ZU st) .none kV doc pm an q ct):=⟨⟨M,O,kV,doc,pm,an,q,ct,J,rfl,l,c⟩,k⟩
end
section
variable {X:Cx}
end
theorem Y8 {c A B:Prop} [Decidable c](j:c->A)(q:¬c->B):if c then A else B:=by
 by_cases h:c
 ·rw[if_pos h]
  exact j h
 ·rw[if_neg h]
  exact q h
noncomputable def Zv (H j:Hp):Prop:=∀b o,H b=some o->j b=some o
theorem Zv.refl (H:Hp):Zv H H:=fun _ _ h=>h
theorem Zv.trans {H j q:Hp}(a:Zv H j)(b:Zv j q):Zv H q:=fun c o h=>b c o (a c o h)
theorem Zv.free {H j:Hp}(e:Zv H j){l:Addr}(h:j l=Option.none):H l=Option.none:=by
 cases q:H l with
 |none=>rfl
 |some o=>
  rw[e l o q] at h;cases h
theorem Zv.seq {K:aa}{H j:Hp}{a:Addr}{xs:List V}(e:Zv H j)(h:Wt K H a xs):Wt K j a xs:=by
 rcases h with (h|⟨o,h⟩)|h
 ·exact .inl (.inl (e _ _ h))
 ·exact .inl (.inr ⟨o,e _ _ h⟩)
 ·exact .inr h
end L2
set_option maxHeartbeats 4000000
namespace L2
open PySem PySem.Spec PyProof.Rows
structure Jd (N:List Str)(esc:cO)(own:List Str)(caps:List Nat)(N':List Str)(sc:cO):Prop where
 kind:sc.kind=.function
 ndn:(sc.names.map (·.1)).Nodup
 uniq:∀y∈sc.names,y.2=.local->sc.names.lookup y.1=some .local
 nd:N'.Nodup
 eqN:N'=own++caps.map fun j=>N.getD j ""
 cap:∀j∈caps,j<N.length/\sc.names.lookup (N.getD j "")=some .free
 fr:∀y∈sc.names,y.2=.free->esc.names.lookup y.1=some .cell\/esc.names.lookup y.1=some .free
noncomputable def JJ (J:List Str)(q:List Nat)(M:St):St:=aA J.length none++q.map fun j=>(M[j]?).join
theorem Xn {env:Env}:∀(names:List (Str×eG)) (ZE:List (Str×Addr)),(∀y∈names,y.2=.free->∃c,env.cells.lookup y.1=some c)->(∀y c,ZE.lookup y=some c->env.cells.lookup y=some c)->
  ∃cl,(forIn names ZE (fun x r=>if (x.2 == e9)=true then (do let c <-cellOf env x.1;pure (cJ ((x.1,c)::r))) else pure (cJ r)):Sem (List (Str×Addr)))=pure cl/\
   (∀y c,cl.lookup y=some c->env.cells.lookup y=some c)/\(∀y,(∃c,ZE.lookup y=some c)->∃c,cl.lookup y=some c)/\∀y∈names,y.2=.free->∃c,cl.lookup y.1=some c
 | [],ZE,_,M=>⟨ZE,rfl,M,fun _ h=>h,fun _ h=>absurd h (by simp)⟩
 | (n,k)::r,ZE,Y,M=>by
  rw[ji];by_cases hk:k=.free
  ·subst hk
   obtain⟨c,hc⟩:=Y (n,.free) aq rfl;have m5:∀y d,((n,c)::ZE).lookup y=some d->env.cells.lookup y=some d:=fun y d e=>by
    rw[cW] at e;cases q:y == n with
    |true=>rw[q] at e;cases e;rw[beq_iff_eq.mp q];exact hc
    |false=>rw[q] at e;exact M y d e
   obtain⟨cl,e,h1,O,h3⟩:=Xn r ((n,c)::ZE) (fun y j=>Y y (ao _ j)) m5;have hh:∀y,(∃d,ZE.lookup y=some d)->∃d,((n,c)::ZE).lookup y=some d:=fun y ⟨d,hd⟩=>by
    rw[cW];cases q:y == n with
    |true=>exact⟨c,rfl⟩
    |false=>exact⟨d,hd⟩
   have hs:∃d,((n,c)::ZE).lookup n=some d:=⟨c,by rw[cW,beq_self_eq_true]⟩;refine⟨cl,?_,h1,fun y j=>O y (hh y j),fun y j U=>?_⟩
   ·have J:cellOf env n=pure c:=by simp only[cellOf,hc]
    simp only[beq_self_eq_true,if_true,J];simp only[pure_bind];exact e
   ·rcases aG.mp j with rfl|j
    ·exact O _ hs
    ·exact h3 y j U
  ·obtain⟨cl,e,h1,O,h3⟩:=Xn r ZE (fun y j=>Y y (ao _ j)) M
   refine⟨cl,?_,h1,O,fun y j U=>?_⟩
   ·have hb:(k == e9)=false:=by simpa using hk
    simp only[hb,di,if_false,pure_bind];exact e
   ·rcases aG.mp j with rfl|j
    ·exact absurd U hk
    ·exact h3 y j U
theorem Uj {scope:cO}{env:Env}(h:∀y∈scope.names,y.2=.free->∃c,env.cells.lookup y.1=some c) :
  ∃cl,closureFor scope env=pure cl/\(∀y c,cl.lookup y=some c->env.cells.lookup y=some c)/\∀y∈scope.names,y.2=.free->∃c,cl.lookup y.1=some c:=by
 obtain⟨cl,e,j,_,J⟩:=Xn (env:=env) scope.names [] h (fun y c e=>by simp at e);refine⟨cl,?_,j,J⟩;have q:closureFor scope env=((forIn scope.names ([]:List (Str×Addr)) (fun x r=>if (x.2 == e9)=true then (do let c <-cellOf env x.1;pure (cJ ((x.1,c)::r))) else pure (cJ r)):Sem (List (Str×Addr))) >>= fun M=>pure M):=rfl
 rw[q,e];rfl
theorem WI {names:List (Str×eG)}{x:Str}{k:eG}(h:names.lookup x=some k):(x,k)∈names:=bA h
theorem Y7 {env:Env}{x:Str}:∀{names:List (Str×eG)}{k:eG},
  (names.map fun (n,k)=>if (k == e9 && env.scope.kind == .function && env.kindOf n == some .cell) then (n,db) else (n,k)).lookup x=some k->
  names.lookup x=some k\/(k=.cell/\names.lookup x=some .free)
 | [],_,h=>by simp at h
 | (n,j)::r,k,h=>by
  have O:=@Y7 env x r k;have h:List.lookup x ((if (j == e9 && env.scope.kind == .function && env.kindOf n == some .cell)=true then (n,db) else (n,j))::_)=some k:=h
  rw[cW];by_cases J:(j == e9 && env.scope.kind == .function && env.kindOf n == some .cell)=true
  ·rw[if_pos J,cW] at h
   have M:j=.free:=by
    simp only[ag,beq_iff_eq] at J;exact J.1.1
   cases q:x == n with
   |true=>rw[q] at h;cases h;right;exact⟨rfl,by rw[M]⟩
   |false=>rw[q] at h;exact O h
  ·rw[if_neg J,cW] at h
   cases q:x == n with
   |true=>rw[q] at h;cases h;left;rfl
   |false=>rw[q] at h;exact O h
section
variable {X:Cx}
noncomputable def Zh5 (scope:cO)(x:Str):Bool:=scope.names.any fun y=>y.1 == x && (match y.2 with | .cell=>true|_=>false)
theorem Zfw {scope:cO}{x:Str}(h:Zh5 scope x=true):(x,db)∈scope.names:=by
 unfold Zh5 at h;obtain⟨⟨n,k⟩,hm,j⟩:=aY.mp h;rw[ag] at j;obtain⟨q,J⟩:=j;have e:n=x:=by simpa using q
 subst e;cases k <;> first|exact hm|cases J
theorem XZ {x:Str}{k:eG}:∀{names:List (Str×eG)},(names.map (·.1)).Nodup->(x,k)∈names->names.lookup x=some k
 | [],_,h=>by cases h
 | (n,j)::r,nd,h=>by
  rw[aQ,bQ] at nd;rw[cW];rcases aG.mp h with e|h
  ·cases e
   simp
  ·have:(x == n)=false:=by
    refine lZ.mpr fun z=>nd.1 ?_;rw[<-beq_iff_eq.mp z];exact aI.mpr ⟨_,h,rfl⟩
   rw[this];exact XZ nd.2 h
theorem JY:∀(names:List (Str×eG)) (n:Nat) (ZE:List (Str×Addr)),cellsFrom n names ZE=cellsFrom n names []++ZE
 | [],n,ZE=>rfl
 |(x,k)::r,n,ZE=>by
  unfold cellsFrom;by_cases j:(k == db)=true
  ·rw[if_pos j,if_pos j,JY r (n+1) ((x,n)::ZE),JY r (n+1) [(x,n)],iQ]
   rfl
  ·rw[if_neg j,if_neg j,JY r n ZE]
theorem X6 {x:Str}{c:Addr}:∀(names:List (Str×eG)) (n:Nat) (ZE:List (Str×Addr)),(x,c)∈cellsFrom n names ZE->(x,db)∈names\/(x,c)∈ZE
 | [],n,ZE,h=>.inr h
 | (y,k)::r,n,ZE,h=>by
  unfold cellsFrom at h;by_cases j:(k == db)=true
  ·rw[if_pos j] at h
   rcases X6 r (n+1) _ h with z|z
   ·exact .inl (ao _ z)
   ·rcases aG.mp z with e|z
    ·cases e
     have:k=.cell:=by cases k <;> first|rfl|cases j
     rw[this];exact .inl aq
    ·exact .inr z
  ·rw[if_neg j] at h
   rcases X6 r n _ h with z|z
   ·exact .inl (ao _ z)
   ·exact .inr z
theorem Zjp {M:Model}{A:Around}{E:Value->Shared->Prop}{s:Shared}{scope:cO}{globals:Addr}{cl:List (Str×Addr)}{qual:Str}{j:Env}{Q:Env->Shared->Prop}
  (U:Q (newEnv scope s.heap.objs.size globals (cellsFrom (s.heap.objs.size+1) scope.names cl) qual none .none (some j) builtinsNs) {s with heap:=pushCells (s.heap.push {cls:=.type "dict",data:=.dict #[]}) scope.names}) :
  wpAny M A (newFunctionEnv scope globals cl [] qual none .none (some j)) Q E s:=by
 unfold newFunctionEnv;refine Zl (wpAny_alloc ?_);refine Zl (wpAny_layCells _ (fun O kind q=>by cases J:kind == db <;> simp[J]) _ _ _ _ ?_)
 rw[show ({s with heap:=s.heap.push {cls:=.type (if (some j).isSome=true then "dict" else "frame"),data:=.dict #[]}}:Shared).heap.objs.size=s.heap.objs.size+1 from bt ..]
 exact Zl (by rw[jB];exact Zm (Zm U))
noncomputable def YO (X:Cx)(scope:cO)(j:List (Str×Addr))(q:List Str)(C:Addr)(s:Shared)(H:Hp)(ex:List Addr):Cx:=
 {X with N:=q,s₀:=s,H₀:=H,env:=compEnvC scope j C X.env,outer:=X.stack,ex:=ex,fn:=Zh5 scope,pn:=[],xe:=fun _ _=>False}
noncomputable def WS (m5:List Str)(q:List Nat)(g:TG)(tc:TT)(te:TE)(σ:St)(Q:VK)(J:It)(H1:Hp):Prop:=∀D,H1 D=none->
 ∃W:Nat->Nat->St->Hp->Prop,(∃m,W 0 m (JJ m5 q σ) (upd H1 D (.lst [])))/\∀i m M O,W i m M O->
  (J.stop i O/\Q (.ref D) O)\/(J.go i O/\∃N:St->Hp->Prop,(∀ U Y,N U Y->∃m',m'<m/\W (i+1) m' U Y)/\∀x Y,J.yld i O x Y->g x M Y fun j H3=>tc j H3 fun b H4=>
   if b=true then te j H4 fun v H5=>∃xs,H5 D=some (.lst xs)/\xs.length<sizeLine/\N j (upd H5 D (.lst (xs++[v]))) else N j H4)
noncomputable def Zdm (q:List Str)(j:List Nat)(O:TI)(g:TG)(U:TT)(Y:TE):TE:=fun M H Q=>O M H fun J H1=>WS q j g U Y M Q J H1
noncomputable def Wr:TT:=fun _ H Q=>Q true H
noncomputable def PIf (X:Cx)(q:List Expr)(t:TT):Prop:=
 ∀(j:List (Addr×Obj)) (s:Shared) (J:St) (H:Hp) (Q:Bool->Hp->Prop),Inv X j J H s->t J H Q->
  wpAny (model X.prog X.w) X.A (forIn q true fun c r=>if r=true then do let ok <-isTrue c X.env (eval c X.env);pure (cJ ok) else pure (cJ r)) (TP X j J Q) X.xe s
theorem ZQ:PIf X [] Wr:=fun _ _ _ H _ I h=>wpAny_tests_nil ⟨H,I,h⟩
theorem JI {prog:Program}{w:World}{A:Around}{R:Result->Shared->Prop}{s:Shared}{elt j iter:Expr}{ifs:List Expr}{scope:cO}{pos:Pos}{it ZE:Value}{env:Env}(I:Nat->Shared->Prop)
  (turn:∀n s,I n s->wpAny (model prog w) A (pyNext it) (fun r q=>match r with
   |none=>R (.ok .next) q
   |some v=>wpAny (model prog w) A (letOwnedTupleGo j it v) (fun _ J=>wpAny (model prog w) A (assign j env v) (fun _ U=>
     wpAny (model prog w) A (forIn ifs true fun c r=>if r=true then do let ok <-isTrue c env (eval c env);pure (cJ ok) else pure (cJ r)) (fun ok M=>
      if ok=true then wpAny (model prog w) A (eval elt env) (fun x Y=>
       wpAny (model prog w) A (call (.builtin "list.append") [ZE,x]) (fun _ m5=>∃m,m<n/\I m m5) (fun _ _=>False) Y) (fun _ _=>False) M
      else ∃m,m<n/\I m M) (fun _ _=>False) U) (fun _ _=>False) J) (fun _ _=>False) q) (fun _ _=>False) s)
  (n:Nat) (h:I n s) :
  codeAny (model prog w) A (.compLoop (.ListComp elt [⟨j,iter,ifs,0⟩] scope pos) 0 it ZE env) R s:=by
 refine codeAny_loop rfl I (fun n s hI=>?_) n h;show wpAny _ A ((compTurn (.ListComp elt [⟨j,iter,ifs,0⟩] scope pos) 0 it ZE env).onRaise (fun x=>do noteFrame x env;theTreesLotGoes x)) _ _ s
 refine wpAny_noted ?_;rw[compTurn_list];refine Zl (kQ (Zl (cv (turn n s hI) (fun r q m6=>?_) fun _ _ O=>O.elim)));cases r with
 |none=>exact Zm m6
 |some v=>
  refine Zl (cv m6 (fun _ J n6=>?_) fun _ _ O=>O.elim);refine Zl (cv n6 (fun _ U n8=>Zl (cv n8 (fun ok M m8=>?_) fun _ _ O=>O.elim)) fun _ _ O=>O.elim);cases ok with
  |false=>exact Zm ⟨rfl,m8⟩
  |true=>
   exact Zl (Zl (cv m8 (fun x Y n9=>Zl (cv n9 (fun _ m5 o0=>Zm (Zm ⟨rfl,o0⟩)) fun _ _ O=>O.elim)) fun _ _ O=>O.elim))
theorem Ud {own:List Str}{o6:List Nat}{N':List Str}{y6 scope:cO}{elt iter tg:Expr}{ifs:List Expr}{pos:Pos}{g:TG}{tc:TT}{te:TE}{cl:List (Str×Addr)}
  (y8:X.env.scope=y6) (S:Jd X.N y6 own o6 N' scope) (hc:X.calm=true)
  (m5:∀y c,cl.lookup y=some c->X.env.cells.lookup y=some c) (r9:∀y∈scope.names,y.2=.free->∃c,cl.lookup y.1=some c)
  (hg:∀cl C s H ex,PG (YO X scope cl N' C s H ex) tg g) (ht:∀cl C s H ex,PIf (YO X scope cl N' C s H ex) ifs tc) (he:∀cl C s H ex,PE (YO X scope cl N' C s H ex) elt te)
  {m8:List (Addr×Obj)}{σ:St}{H2:Hp}{s2:Shared}{it:Addr}{fp:List Addr}{tn:Nat->Heap->Prop}{J:It}{Q:VK}{RR:Value->Addr->Result->Shared->Prop}{E:Value->Shared->Prop}
  (I2:Inv X m8 σ H2 s2) (T:UE X.prog X.w X.K tg J fp it tn) (t7:tn 0 s2.heap) (f2:∀b∈fp,UG X m8 H2 b)
  (h:WS own o6 g tc te σ Q J H2)
  (hRR:∀D C s' m H',s'.heap.Ns C m->C≠X.env.locals->(∀x c,X.env.cells.lookup x=some c->c≠C)->X.s₀.heap.objs.size<=C->(∀p∈X.pn++m8,p.1≠C)->H' C=none->Q (.ref D) H'->(∀h',ba C s'.heap h'->Inv X m8 σ H' {s' with heap:=h'})->RR (.ref D) C (.ok .next) s') :
  wpAny (model X.prog X.w) X.A (newList []) (fun ZE y9=>wpAny (model X.prog X.w) X.A (newFunctionEnv scope X.env.globals cl [] X.env.qual none .none (some X.env)) (fun t0 s₄=>
   codeAny (model X.prog X.w) X.A (.compStart (.ListComp elt [⟨tg,iter,ifs,0⟩] scope pos) 0 (.ref it) ZE {t0 with scope:=relabel scope X.env}) (RR ZE t0.locals) s₄) E y9) E s2:=by
 refine bO (Zjp ?_);dsimp only;have hD:H2 s2.heap.objs.size=none:=I2.hok.fresh (Zq _);obtain⟨W,⟨m0,w0⟩,turn⟩:=h _ hD;generalize t9:s2.heap.push {cls:=.type "list",dict:=none,data:=.seq ([]:List Value).toArray}=O;have hC:O.objs.size=s2.heap.objs.size+1:=by rw[<-t9,bt]
 have t5:∀b o,s2.heap.get? b=some o->O.get? b=some o:=fun b o e=>t9▸Zn _ e;have I3:Inv X m8 σ (upd H2 s2.heap.objs.size (.lst [])) {s2 with heap:=O,toks:=s2.toks}:=
  I2.laid (t':=s2.toks) t5 (Zq _) ⟨a5 _,[],0,.nil,t9▸Zo _ rfl⟩
 generalize u5:pushCells (O.push {cls:=.type "dict",data:=.dict #[]}) scope.names=n6;have k1:∀b o,O.get? b=some o->n6.get? b=some o:=fun b o e=>u5▸pushCells_keeps _ _ b o (Zn _ e);have p4:n6.Ns O.objs.size (fun _=>none):=u5▸(Heap.Ns.new O (.type "dict")).keeps (pushCells_keeps _ _);have p6:CellsOk n6 (O.objs.size+1) (cellsFrom (O.objs.size+1) scope.names []):=by
  have q:=cellsFrom_ok scope.names (O.push {cls:=.type "dict",data:=.dict #[]}) (O.objs.size+1) [] ⟨fun _ _ hm=>(nomatch hm),eA⟩ (by rw[bt];exact Zq _);rw[bt,u5] at q;exact q
 have o7:cellsFrom (O.objs.size+1) scope.names cl=cellsFrom (O.objs.size+1) scope.names []++cl:=JY _ _ _;have n9:∀y,scope.names.lookup y=some .cell->∃c,(cellsFrom (O.objs.size+1) scope.names []).lookup y=some c:=fun y hy=>fY.mp (gy scope.names (O.objs.size+1) [] (.inl hy));generalize hcA:cellsFrom (O.objs.size+1) scope.names []=cA at p6 o7 n9;have memA:∀y c,cA.lookup y=some c->(y,db)∈scope.names:=fun y c e=>by
  have:=bA e;rw[<-hcA] at this;rcases X6 _ _ _ this with z|z
  ·exact z
  ·cases z
 generalize hcE:cellsFrom (O.objs.size+1) scope.names cl=cE at o7;have o8:∀y c,cE.lookup y=some c->cA.lookup y=some c\/(cA.lookup y=none/\cl.lookup y=some c):=fun y c e=>by
  rw[o7,iD] at e;cases q:cA.lookup y with
  |none=>rw[q] at e;exact .inr ⟨rfl,by simpa using e⟩
  |some c'=>rw[q] at e;exact .inl (by simpa using e)
 have lkF:∀y c,scope.names.lookup y=some .free->cl.lookup y=some c->cE.lookup y=some c:=fun y c hy e=>by
  rw[o7,iD];cases q:cA.lookup y with
  |none=>simpa using e
  |some c'=>
   have:=XZ S.ndn (memA y c' q);rw[hy] at this;cases this
 have fpn:∀b∈fp,upd H2 s2.heap.objs.size (.lst []) b=none:=fun b hb=>by
  obtain⟨o,ho,_⟩:=T.obj _ _ t7 b hb;rw[Zy (aC (Zp ho))];exact (f2 b hb).1
 have o9:∀b∈fp,b<O.objs.size:=fun b hb=>by
  obtain⟨o,ho,_⟩:=T.obj _ _ t7 b hb;rw[hC];exact fe (Zp ho)
 generalize M:YO X scope cE N' O.objs.size {s2 with heap:=O,toks:=s2.toks} (upd H2 s2.heap.objs.size (.lst [])) fp=X';have hfs:X'.fs=frs X.stack:=by rw[<-M];rfl
 have u9:∀y,X'.env.kindOf y=some .cell\/X'.env.kindOf y=some .free->∃c,cE.lookup y=some c:=fun y hy=>by
  have hy':(relabel scope X.env).names.lookup y=some .cell\/(relabel scope X.env).names.lookup y=some .free:=by rw[<-M] at hy;exact hy
  have hf:scope.names.lookup y=some .free->∃c,cE.lookup y=some c:=fun hf=>by
   obtain⟨c,o0⟩:=r9 _ (WI hf) rfl;exact⟨c,lkF y c hf o0⟩
  have p7:scope.names.lookup y=some .cell->∃c,cE.lookup y=some c:=fun hf=>by
   obtain⟨c,o0⟩:=n9 y hf;exact⟨c,by rw[o7,iD,o0];rfl⟩
  rcases hy' with q|q
  ·rcases Y7 q with z|z
   ·exact p7 z
   ·exact hf z.2
  ·rcases Y7 q with z|z
   ·exact hf z
   ·exact absurd z.1 (by decide)
 have m6:X'.env.cells=cE:=by rw[<-M];rfl
 have n8:X'.env.locals=O.objs.size:=by rw[<-M];rfl
 have cne:∀x c,cl.lookup x=some c->c≠O.objs.size/\c<O.objs.size:=fun x c e=>by
  obtain⟨v,q⟩:=I3.cell x c (m5 x c e);exact⟨aC q.lt,q.lt⟩
 have U:∀x c,cA.lookup x=some c->O.objs.size+1<=c:=fun x c e=>(p6.empty x c (bA e)).2;have injE:∀x y c,cE.lookup x=some c->cE.lookup y=some c->x=y:=fun x y c a b=>by
  rcases o8 x c a with a|⟨_,a⟩ <;> rcases o8 y c b with b|⟨_,b⟩
  ·exact name_of_addr p6.apart (bA a) (bA b)
  ·have h1:O.objs.size+1<=c:=U x c a
   exact absurd (aE (cne y c b).2 (dN h1)) (bR _)
  ·have h1:O.objs.size+1<=c:=U y c b
   exact absurd (aE (cne x c a).2 (dN h1)) (bR _)
  ·exact I3.ok.inj x y c (m5 x c a) (m5 y c b)
 have ok':X'.Ok:=by
  refine M▸⟨I3.ok.mod,S.kind,I3.ok.glob,I3.ok.blt,Zq _,injE,?_,?cab,I3.ok.hd,I3.ok.frames,.inl rfl,?_,?_,?_,?_,?_,I3.stack,I3.stkFree⟩
  ·intro y hy
   exact u9 y (by rw[<-M];exact hy)
  ·intro x c z e
   have hm:=XZ S.ndn (Zfw z);rcases o8 x c e with e|⟨n,_⟩
   ·exact dN (U x c e)
   ·obtain⟨c',o0⟩:=n9 x hm
    rw[n] at o0;cases o0
  ·intro b hb
   refine⟨aC (o9 b hb),fun x c e=>?_⟩;rcases o8 x c e with e|⟨_,e⟩
   ·have h1:O.objs.size+1<=c:=U x c e
    exact fun z=>absurd (aE (o9 b hb) (dN h1)) (by rw[z];exact bR _)
   ·exact (f2 b hb).2.2.2.2.1 x c (m5 x c e)
  ·exact I3.bs
  ·exact aZ I3.ok.bsz I3.sz
  ·intro b o e hb
   rcases (f2 b hb).2.2.2.1 with z|z
   ·exact I3.ok.noex b o e z
   ·exact absurd (aE (Zp e) (aZ I3.ok.bsz z)) (bR _)
  ·intro b hb z
   rcases aG.mp (I3.stkSub b z) with e|e
   ·exact (f2 b hb).2.1 e
   ·exact (f2 b hb).2.2.1 e
 have I4:Inv X' [] (JJ own o6 σ) (upd H2 s2.heap.objs.size (.lst [])) {s2 with heap:=n6,toks:=s2.toks}:=by
  refine⟨ok',M▸rfl,I3.bare,?_,⟨_,by rw[n8];exact p4,?_⟩,?_,?_,?_,?_,?_,?_⟩
  ·rw[<-M];exact Un.kept k1
  ·intro i x v hN o5 hV
   have w8:N'[i]?=some x:=by rw[<-M] at hN;exact hN
   unfold JJ at o5;by_cases hi:i<own.length
   ·rw[au (by simpa using hi),gH] at o5
    rw[if_pos hi] at o5;cases o5
   ·rw[aw (by simpa using hi),Ze,Zc] at o5
    rw[S.eqN,aw (by omega),Zc] at w8;cases hj:o6[i-own.length]? with
    |none=>rw[hj] at o5;cases o5
    |some j=>
     rw[hj] at o5 w8;have hx:X.N.getD j ""=x:=aD w8;obtain⟨hjl,p3⟩:=S.cap j (aF hj);rw[hx] at p3;have hjN:X.N[j]?=some x:=by
      rw[Zf hjl,<-hx,Zb,Zf hjl];rfl
     have hv:σ[j]?=some (some v):=by
      have q:(σ[j]?).join=some v:=aD o5;cases q':σ[j]? with
      |none=>rw[q'] at q;cases q
      |some o=>rw[q'] at q;rw[show o=some v from q]
     have w9:=S.fr (x,.free) (WI p3) rfl;rw[<-y8] at w9;obtain⟨m,hn,hl⟩:=I3.loc;have visX:Vis X.env.scope x:=w9.elim (fun z=>.inr (.inl z)) fun z=>.inr (.inr z);obtain⟨u,ru,look⟩:=hl j x v hjN hv visX;refine⟨u,ru,?_⟩;obtain⟨c,p7⟩:=r9 (x,.free) (WI p3) rfl;rcases look with ⟨a,_⟩|⟨_,c',o0,x0⟩
     ·rcases w9 with z|z
      ·rw[show X.env.kindOf x=X.env.scope.names.lookup x from rfl,z] at a;cases a
      ·rw[show X.env.kindOf x=X.env.scope.names.lookup x from rfl,z] at a;cases a
     ·have:c'=c:=by rw[m5 _ _ p7] at o0;cases o0;rfl
      subst this;refine .inr ⟨?_,c',by rw[m6];exact lkF _ _ p3 p7,x0.keeps k1⟩;rcases hV with q|q|q
      ·have q':(relabel scope X.env).names.lookup x=some .local:=by rw[<-M] at q;exact q
       rcases Y7 q' with z|z
       ·rw[p3] at z;cases z
       ·exact absurd z.1 (by decide)
      ·exact .inl q
      ·exact .inr q
  ·intro x c e
   rw[m6] at e;rcases o8 x c e with e|⟨_,e⟩
   ·exact⟨_,(p6.empty x c (bA e)).1⟩
   ·obtain⟨v,q⟩:=I3.cell x c (m5 x c e)
    exact⟨v,q.keeps k1⟩
  ·rw[n8];exact I3.hok.fresh (Zq _)
  ·intro x c e
   rw[m6] at e;rcases o8 x c e with e|⟨_,e⟩
   ·exact I3.hok.fresh (dN (U x c e))
   ·exact I3.freeC x c (m5 x c e)
  ·intro p hp
   have:p∈([]:List (Addr×Obj)):=by rw[<-M] at hp;exact hp
   cases this
  ·rw[<-M];exact I3.hok.kept k1
  ·rw[<-M]
   show (JJ own o6 σ).length=N'.length;unfold JJ;rw[S.eqN,Zd,Zd,Ze,Za,Za]
 have pX:X'.prog=X.prog:=by rw[<-M];rfl
 have wX:X'.w=X.w:=by rw[<-M];rfl
 have KX:X'.K=X.K:=by rw[<-M];rfl
 have AX:X'.A=X.A:=by rw[<-M];rfl
 have cX:X'.calm=true:=by rw[<-M];exact hc
 have xX:X'.xe=fun _ _=>False:=by rw[<-M];rfl
 have envX:X'.env=compEnvC scope cE O.objs.size X.env:=by rw[<-M];rfl
 have exX:X'.ex=fp:=by rw[<-M];rfl
 have hg':PG X' tg g:=M▸hg _ _ _ _ _;have ht':PIf X' ifs tc:=M▸ht _ _ _ _ _;have he':PE X' elt te:=M▸he _ _ _ _ _;have x9:∀{H':Hp},(∀b∈fp,H' b=none)->∀b∈fp,UG X' [] H' b:=fun {H'} hn b hb=>by
  refine⟨hn b hb,?_,?_,?_,?_,?_⟩
  ·rw[n8];exact aC (o9 b hb)
  ·rw[hfs];intro z
   rcases aG.mp (I3.stkSub b z) with e|e
   ·exact (f2 b hb).2.1 e
   ·exact (f2 b hb).2.2.1 e
  ·rw[exX];exact .inl hb
  ·intro x c e
   rw[m6] at e;rcases o8 x c e with e|⟨_,e⟩
   ·have h1:O.objs.size+1<=c:=U x c e
    exact fun z=>absurd (aE (o9 b hb) (dN h1)) (by rw[z];exact bR _)
   ·exact (f2 b hb).2.2.2.2.1 x c (m5 x c e)
  ·intro p hp
   have:p∈([]:List (Addr×Obj)):=by rw[<-M] at hp;exact hp
   cases this
 have st1:tn 0 n6:=T.keep _ _ _ t7 fun b hb o e=>k1 b o (t5 b o e);have back:∀{Y:St}{H':Hp}{s':Shared}{pp:List (Addr×Obj)}{h':Heap},Inv X' pp Y H' s'->ba O.objs.size s'.heap h'->Inv X m8 σ H' {s' with heap:=h'}:=fun {Y H' s' pp h'} I' sb=>by
  have u:=I'.base;rw[hfs,exX] at u;have hs0:X'.s₀.heap=O:=by rw[<-M];rfl
  have hH0:X'.H₀=upd H2 s2.heap.objs.size (.lst []):=by rw[<-M];rfl
  rw[hs0,hH0] at u;have ne:∀b o,O.get? b=some o->b≠O.objs.size:=fun b o e=>aC (Zp e);have hCn:H' O.objs.size=none:=by have:=I'.free;rw[n8] at this;exact this
  refine I3.call' (s':={s' with heap:=h'}) (ch:=fp) ?_ ⟨?_,?_,?_,?_,?_,?_,?_⟩ ?_ I'.bare ?_
  ·have:=I'.os;rw[<-M] at this;exact this
  ·intro b o e n hb hx;exact sb.extBut b o (ne b o e) (u.keep b o e n hb hx)
  ·intro b o e n hb hx
   obtain⟨sl,q⟩:=u.slot b o e n hb hx;exact⟨sl,sb.extBut b _ (ne b o e) q⟩
  ·exact u.free
  ·intro b o e hx
   obtain⟨o',q⟩:=u.there b o e hx;exact⟨o',sb.extBut b _ (ne b o e) q⟩
  ·exact u.tups
  ·exact u.frzs
  ·exact u.tbls
  ·have hok:=I'.hok
   rw[pX,wX] at hok;intro a o e;refine (hok a o e).stay (fun b v hb r=>sb.extBut b v ?_ r) (fun b r=>r) fun b xs r=>r;rcases hb with rfl|hb
   ·intro z;rw[z,hCn] at e;cases e
   ·intro z;rw[z,hCn] at hb;cases hb
  ·intro b hb
   refine⟨(f2 b hb).2.2.2.1,(f2 b hb).2.1,(f2 b hb).2.2.2.2.1,(f2 b hb).2.2.2.2.2⟩
 have t6:∀s3:Shared,s3={s2 with heap:=n6,toks:=s2.toks}->
   codeAny (model X.prog X.w) X.A (.compLoop (.ListComp elt [⟨tg,iter,ifs,0⟩] scope pos) 0 (.ref it) (.ref s2.heap.objs.size) (compEnvC scope cE O.objs.size X.env)) (RR (.ref s2.heap.objs.size) O.objs.size) s3:=by
  rintro s3 rfl;refine JI (fun n s'=>∃i Y H',Inv X' [] Y H' s'/\tn i s'.heap/\(∀b∈fp,H' b=none)/\W i n Y H') ?_ m0 ⟨0,_,_,I4,st1,fpn,w0⟩;rintro n s5 ⟨i,p8,H5,I5,st5,fr5,w5⟩;rcases turn i n p8 H5 w5 with ⟨stop,qn⟩|⟨go,N,hN,step⟩
  ·have q:=T.done X' pX wX KX cX i [] s5 p8 H5 (fun _ _=>False) I5 (x9 fr5) st5 stop
   rw[AX] at q;refine Yj q fun r s6 ⟨hr,I6⟩=>?_;subst hr;obtain⟨m,hn,_⟩:=I6.loc;rw[n8] at hn;refine hRR _ _ s6 m H5 hn ?_ ?_ I3.sz ?_ ?_ qn fun h' sb=>back I6 sb
   ·exact bb I3.lt
   ·intro x c e
    obtain⟨v,q⟩:=I3.cell x c e;exact aC q.lt
   ·intro pp hpp
    exact aC (Zp (I3.pin pp hpp).1)
   ·have:=I6.free;rw[n8] at this;exact this
  ·have q:=T.item X' pX wX KX cX i [] s5 p8 H5 (fun _ _=>False) I5 (x9 fr5) st5 go
   rw[AX] at q;refine Yj q fun r s6 ⟨u,hr,h6⟩=>?_;subst hr;refine Yj h6 fun _ s7 ⟨x,H7,I7,r7,y7,y4,fr7⟩=>?_;have I7':=I7.pinned (x9 fr7) (T.obj _ _ y4);have q8:=hg' _ s7 p8 H7 x u _ I7' r7 (step x H7 y7);rw[pX,wX,AX,envX,xX] at q8;refine Yj q8 fun _ s8 ⟨q0,H8,I8,q8⟩=>?_;have q9:=ht' _ s8 q0 H8 _ I8 q8;rw[pX,wX,AX,envX,xX] at q9;have again:∀{Y:St}{H':Hp}{s':Shared},Inv X' ([]++VT fp s7.heap) Y H' s'->N Y H'->∃m,m<n/\∃i Y H',Inv X' [] Y H' s'/\tn i s'.heap/\(∀b∈fp,H' b=none)/\W i m Y H':=fun {Y H' s'} I' n'=>by
    obtain⟨m',hm,w'⟩:=hN Y H' n';refine⟨m',hm,i+1,Y,H',I'.unpinned,T.keep _ _ _ y4 fun b hb o e=>(I'.pin (b,o) (aR _ (aR _ (Ji hb e)))).1,fun b hb=>?_,w'⟩;obtain⟨o,e,d⟩:=T.obj _ _ y4 b hb;exact (I'.pin (b,o) (aR _ (aR _ (Ji hb e)))).2.1
   refine Yj q9 fun ok s9 ⟨H9,I9,q9⟩=>?_;cases ok with
   |false=>
    simp only[di,if_false] at q9 ⊢;exact again I9 q9
   |true=>
    simp only[if_true] at q9 ⊢;have r6:=he' _ s9 q0 H9 _ I9 q9;rw[pX,wX,AX,envX,xX] at r6;refine Yj r6 fun y s10 ⟨v,H10,I10,rv,xs,hxs,hz,r6⟩=>?_;have r8:=Z2 (X:=X') _ s10 q0 H10 (.ref s2.heap.objs.size) [v] (.ref s2.heap.objs.size) [y] (fun _ H'=>N q0 H') I10 rfl (.cons rv .nil) ⟨_,xs,v,rfl,rfl,hxs,hz,r6⟩;rw[pX,wX,AX,xX] at r8;exact Yj r8 fun _ s11 ⟨_,H11,I11,_,r8⟩=>again I11 r8
 exact codeAny_compStart_list (t6 _ rfl) (T.self _ 0 _ _ _ st1 (t6 _ rfl))
theorem Zi4 {own:List Str}{j:List Nat}{N':List Str}{Y scope:cO}{elt iter tg:Expr}{ifs:List Expr}{pos:Pos}{wi:TI}{g:TG}{tc:TT}{te:TE}
  (M:X.env.scope=Y) (S:Jd X.N Y own j N' scope) (hc:X.calm=true) (hi:PI X tg iter wi)
  (hg:∀U C s H ex,PG (YO X scope U N' C s H ex) tg g) (ht:∀U C s H ex,PIf (YO X scope U N' C s H ex) ifs tc) (he:∀U C s H ex,PE (YO X scope U N' C s H ex) elt te)
  (hs:∀x,foldedSetIterable iter X.env x=pure x:=by intro _;rfl) :
  PE X (.ListComp elt [⟨tg,iter,ifs,0⟩] scope pos) (Zdm own j wi g tc te):=by
 intro O s σ H Q I h;obtain⟨U,m8,m5,m6⟩:=Uj (scope:=scope) (env:=X.env) fun y hy hf=>by
  have:=S.fr y hy hf;rw[<-M] at this;exact I.ok.has y.1 this
 rw[eval_ListComp];refine kU (use:=none) rfl hs m8 S.kind S.uniq (Yj (hi O s σ H _ I h) fun v s1 h1=>Yj h1 fun n8 s2 h2=>?_);obtain⟨it,fp,tn,J,H2,e,I2,T,n6,f2,q⟩:=h2;subst e;refine Ud (RR:=fun ZE C=>compPost (model X.prog X.w) X.A X.xe none (EP X O σ Q) ZE C) M S hc m5 m6 hg ht he I2 T n6 f2 q ?_;intro D C s' m H' hn _ _ _ _ _ q' hb;exact⟨m,hn,fun h' sb=>⟨.ref D,H',hb h' sb,rfl,q'⟩⟩
theorem ZcR {own:List Str}{M:List Nat}{N':List Str}{m5 scope:cO}{elt iter tg:Expr}{ifs:List Expr}{pos O py:Pos}{y:Str}{i:Nat}{wi:TI}{g:TG}{tc:TT}{te:TE}
  (U:X.env.scope=m5) (S:Jd X.N m5 own M N' scope) (hc:X.calm=true) (hi:PI X tg iter wi)
  (hg:∀cl C s H ex,PG (YO X scope cl N' C s H ex) tg g) (ht:∀cl C s H ex,PIf (YO X scope cl N' C s H ex) ifs tc) (he:∀cl C s H ex,PE (YO X scope cl N' C s H ex) elt te)
  (hN:X.N.Nodup) (hy:X.N[i]?=some y) (hx:Loc X.env.scope y) (hf:X.fn y=true\/X.env.scope.names.lookup y=some .local)
  (n9:swapsWith (.ListComp elt [⟨tg,iter,ifs,0⟩] scope pos) (some (.Name y py)) O.line X.env=pure true)
  (hs:∀x,foldedSetIterable iter X.env x=pure x:=by intro _;rfl) :
  PS X (.Assign [.Name y py] (.ListComp elt [⟨tg,iter,ifs,0⟩] scope pos) O) (Zcz (Zdm own M wi g tc te) (Z7 i)):=by
 intro j s σ H D0 I h;obtain⟨cl,o0,m6,m8⟩:=Uj (scope:=scope) (env:=X.env) fun y hy hf=>by
  have:=S.fr y hy hf;rw[<-U] at this;exact I.ok.has y.1 this
 rw[exec_Assign_Name_used _ _ _ _ n9];refine Zl (kQ (Zl ?_));show wpAny _ X.A (do let _ <-comprehension (.ListComp elt [⟨tg,iter,ifs,0⟩] scope pos) scope X.env _ (newList []) false (eval iter X.env) (some (assign (.Name y py) X.env))) _ _ s
 refine Zl (cv (kU (use:=some (assign (.Name y py) X.env)) (Q:=fun _ Y=>SP X j D0 .next Y) rfl hs o0 S.kind S.uniq
  (Yj (hi j s σ H _ I h) fun v s1 h1=>Yj h1 fun p7 s2 h2=>?_)) (fun _ Y hq=>Zm (Zm hq)) fun _ _ e=>e)
 obtain⟨it,fp,tn,J,H2,e,I2,T,o5,f2,q⟩:=h2;subst e;refine Ud (RR:=fun ZE C=>compPost (model X.prog X.w) X.A X.xe (some (assign (.Name y py) X.env)) (fun _ Y=>SP X j D0 .next Y) ZE C) U S hc m6 m8 hg ht he I2 T o5 f2 q ?_;intro D C Y m H' hn n6 n8 o6 o7 o8 q' hb;have I':Inv X j σ H' Y:=hb Y.heap (.refl ..);show wpAny _ X.A (assign (.Name y py) X.env (.ref D)) _ _ Y;refine wpAny_assign_Name (UM I' hN hy hx (v:=.ref D) rfl (fun o9 p3 ⟨a,sb,ha⟩=>?_) hf);have p4:C≠a:=by
  rcases ha with rfl|ha
  ·exact n6
  ·exact fun z=>n8 y a ha z.symm
 refine⟨m,hn.sameBut sb p4,fun h' p6=>⟨_,H',?_,q'⟩⟩;exact p3.turned (t':=o9.toks) (fun b o hb e=>p6.extBut b o hb e) o8 n6 (.inr o6) n8 o7
end
section
variable {κ:Type} [DecidableEq κ]
noncomputable def YR (j:List (κ×V))(k:κ):Option V:=(j.find? fun q=>decide (q.1=k)).map (·.2)
noncomputable def Ww (j:List (κ×V))(k:κ)(v:V):List (κ×V):=
 if (j.any fun q=>decide (q.1=k))=true then j.map (fun q=>if q.1=k then (q.1,v) else q) else j++[(k,v)]
theorem YG {p:κ×V}{r:List (κ×V)}{k:κ}(e:p.1=k):YR (p::r) k=some p.2:=by simp[YR,eQ,e]
theorem YH {p:κ×V}{r:List (κ×V)}{k:κ}(e:¬p.1=k):YR (p::r) k=YR r k:=by simp[YR,eQ,e]
theorem WD (k:κ):∀j:List (κ×V),(j.any fun q=>decide (q.1=k))=(YR j k).isSome
 | []=>rfl
 |p::r=>by
  rw[eO];by_cases e:p.1=k
  ·simp only[YG e,decide_eq_true e,Bool.true_or,Option.isSome_some]
  ·rw[YH e,decide_eq_false e,gw];exact WD k r
theorem Zbb (k j:κ)(y:V):∀q:List (κ×V),YR (q.map fun J=>if J.1=k then (J.1,y) else J) j=(YR q j).map fun x=>if j=k then y else x
 | []=>rfl
 |p::r=>by
  have M:=Zbb k j y r;rw[aQ];by_cases h:p.1=k
  ·rw[if_pos h]
   by_cases e:p.1=j
   ·rw[YG (p:=(p.1,y)) e,YG e,dh,if_pos (e.symm.trans h)]
   ·rw[YH (p:=(p.1,y)) e,YH e,M]
  ·rw[if_neg h]
   by_cases e:p.1=j
   ·rw[YG (p:=p) e,YG e,dh,if_neg (fun z=>h (e.trans z))]
   ·rw[YH (p:=p) e,YH e,M]
theorem UJ (k j:κ)(y:V):∀q:List (κ×V),YR q k=none->YR (q++[(k,y)]) j=if j=k then some y else YR q j
 | [],_=>by
  by_cases e:k=j
  ·rw[if_pos e.symm];exact YG (p:=(k,y)) e
  ·rw[if_neg (fun z=>e z.symm)];exact YH (p:=(k,y)) e
 |p::r,J=>by
  rw[List.cons_append];have M:¬p.1=k:=fun z=>by rw[YG z] at J;cases J
  rw[YH M] at J;have O:=UJ k j y r J;by_cases e:p.1=j
  ·rw[YG e,YG e,if_neg (fun z=>M (e.trans z))]
  ·rw[YH e,YH e,O]
theorem ZfQ (J:List (κ×V))(k j:κ)(y:V):YR (Ww J k y) j=if j=k then some y else YR J j:=by
 unfold Ww;by_cases a:(J.any fun M=>decide (M.1=k))=true
 ·rw[if_pos a,Zbb]
  rw[WD] at a;by_cases e:j=k
  ·obtain⟨x,O⟩:=fY.mp a
   rw[if_pos e,e,O,dh,if_pos rfl]
  ·rw[if_neg e]
   cases YR J j with
   |none=>rfl
   |some x=>rw[dh,if_neg e]
 ·rw[if_neg a]
  refine UJ k j y J ?_;rw[WD] at a;cases q:YR J k with
  |none=>rfl
  |some x=>rw[q] at a;exact (a rfl).elim
theorem WQ (j:List (κ×V))(k:κ)(v:V):(Ww j k v).length<=j.length+1:=by
 unfold Ww;split
 ·rw[Za];omega
 ·rw[Zd,Zi,jh];omega
theorem ZgL {j:List (κ×V)}{k:κ}(v:V)(h:YR j k=none):Ww j k v=j++[(k,v)]:=by
 unfold Ww;rw[WD,h];exact if_neg (by decide)
theorem UF.isSome_eq {o:Option V}{u:Option Value}(r:UF o u):o.isSome=u.isSome:=by
 cases o with
 |none=>cases u with
  |none=>rfl
  |some _=>exact (show False from r).elim
 |some _=>cases u with
  |none=>exact (show False from r).elim
  |some _=>rfl
theorem KV.val {j:List (κ×V)}{vs:List (κ×Value)}(r:KV j vs)(k:κ):UF (YR j k) (valueAt vs k):=by
 unfold KV at r;induction r with
 |nil=>exact gK
 | @cons p q ps J h t U=>
  obtain⟨O,Y⟩:=h;by_cases e:p.1=k
  ·have M:q.1=k:=O.symm.trans e
   have b:valueAt (q::J) k=some q.2:=by simp[valueAt,eQ,M]
   rw[YG e,b];exact Y
  ·have M:¬q.1=k:=fun z=>e (O.trans z)
   have b:valueAt (q::J) k=valueAt J k:=by simp[valueAt,eQ,M]
   rw[YH e,b];exact U
theorem KV.any {j:List (κ×V)}{vs:List (κ×Value)}(r:KV j vs)(k:κ):(j.any fun q=>decide (q.1=k))=vs.any fun q=>decide (q.1=k):=by
 unfold KV at r;induction r with
 |nil=>rfl
 |cons h t J=>rw[eO,eO,J,h.1]
theorem KV.repl {J:List (κ×V)}{vs:List (κ×Value)}(r:KV J vs)(k:κ){y:V}{u:Value}(O:RelV y u) :
  KV (J.map fun j=>if j.1=k then (j.1,y) else j) (vs.map fun j=>if j.1=k then (j.1,u) else j):=by
 unfold KV at r ⊢;induction r with
 |nil=>exact .nil
 | @cons p q ps qs h t U=>
  rw[aQ,aQ];refine .cons ?_ U;obtain⟨M,Y⟩:=h;by_cases e:p.1=k
  ·rw[if_pos e,if_pos (M.symm.trans e)];exact⟨M,O⟩
  ·rw[if_neg e,if_neg (fun z=>e (M.trans z))];exact⟨M,Y⟩
theorem KV.put {j:List (κ×V)}{vs:List (κ×Value)}(r:KV j vs)(k:κ){y:V}{u:Value}(q:RelV y u):KV (Ww j k y) (stored vs k u):=by
 unfold Ww stored;rw[r.any k];by_cases e:(vs.any fun J=>decide (J.1=k))=true
 ·rw[if_pos e,if_pos e];exact r.repl k q
 ·rw[if_neg e,if_neg e];exact Paired.snoc r ⟨rfl,q⟩
theorem KV.length {j:List (κ×V)}{vs:List (κ×Value)}(r:KV j vs):j.length=vs.length:=jA r
end
theorem Zb4 {P:Program}{w:World}{k:Yx}{u:Value}(r:RelV (kV k) u):(Yw P w).is k u=true:=by
 cases k with
 |inl i=>obtain⟨t,e⟩:=(show ∃t,u=fN i t from r);subst e;exact ZbU P w i t
 |inr x=>obtain⟨t,e⟩:=(show ∃t,u=lN x t from r);subst e;exact ZbT P w x t
theorem U1 {P:Program}{w:World}:∀{j:List Yx}{us:List Value},ZL (j.map kV) us->ItemsAre (Yw P w) j us
 | [],_,r=>by rw[eZ] at r;cases r;exact .nil
 |k::j,_,r=>by
  rw[aQ] at r;cases r with
  |cons h t=>exact .cons (Zb4 h) (U1 t)
noncomputable abbrev KT (H:Hp):List (List Yx×V)->List (List Yx×Addr×Value)->Prop:=km fun p q=>p.1=q.1/\H q.2.1=some (.tup (p.1.map kV))/\RelV p.2 q.2.2
theorem KT.val {H:Hp}{j:List (List Yx×V)}{xs:List (List Yx×Addr×Value)}(r:KT H j xs)(k:List Yx):UF (YR j k) ((atKey xs k).map (·.2)):=by
 induction r with
 |nil=>exact gK
 | @cons p q ps J h t U=>
  obtain⟨O,_,Y⟩:=h;by_cases e:p.1=k
  ·have M:q.1=k:=O.symm.trans e
   have b:atKey (q::J) k=some q.2:=by simp[atKey,eQ,M]
   rw[YG e,b];exact Y
  ·have M:¬q.1=k:=fun z=>e (O.trans z)
   have b:atKey (q::J) k=atKey J k:=by simp[atKey,eQ,M]
   rw[YH e,b];exact U
theorem KT.repl {H:Hp}{j:List (List Yx×V)}{xs:List (List Yx×Addr×Value)}(r:KT H j xs)(k:List Yx){y:V}{u:Value}(U:RelV y u) :
  KT H (j.map fun M=>if M.1=k then (M.1,y) else M) (xs.map (putAt k u)):=by
 induction r with
 |nil=>exact .nil
 | @cons p q ps qs h t Y=>
  rw[aQ,aQ];refine .cons ?_ Y;obtain⟨J,O,h3⟩:=h;unfold putAt;by_cases e:p.1=k
  ·rw[if_pos e,if_pos (J.symm.trans e)];exact⟨J,O,U⟩
  ·rw[if_neg e,if_neg (fun z=>e (J.trans z))];exact⟨J,O,h3⟩
theorem KT.put {H:Hp}{j:List (List Yx×V)}{xs:List (List Yx×Addr×Value)}(r:KT H j xs)(k:List Yx){b:Addr}{y:V}{u:Value}(hb:H b=some (.tup (k.map kV)))(J:RelV y u) :
  KT H (Ww j k y) (storedH xs k b u):=by
 have e:(j.any fun M=>decide (M.1=k))=(atKey xs k).isSome:=by
  rw[WD,(r.val k).isSome_eq,lx]
 unfold Ww storedH;rw[e];by_cases q:(atKey xs k).isSome=true
 ·rw[if_pos q,if_pos q];exact r.repl k J
 ·rw[if_neg q,if_neg q];exact Paired.snoc r ⟨rfl,hb,J⟩
theorem KT.keeps {H q:Hp}{j:List (List Yx×V)}{xs:List (List Yx×Addr×Value)}(r:KT H j xs)(J:∀b ys,H b=some (.tup ys)->q b=some (.tup ys)):KT q j xs:=
 km.mapP r fun _ _ z=>⟨z.1,J _ _ z.2.1,z.2.2⟩
section
variable {P:Program}{w:World}{H:Hp}{h:Heap}{a:Addr}
theorem Zkr {u:HO}(ok:XS P w H h)(e:Rd H a u):Yt P w H h a u:=e.ok ok
theorem Zey {j:List (Yx×V)}(ok:XS P w H h)(e:Rd H a (.dK j)):j.length<=sizeLine/\(a == sysModules)=false/\∃vs,KV j vs/\h.DictOf (Yw P w) a vs:=
 show Yt P w H h a (.dK j) from Zkr ok e
theorem ZkJ {j:List (Yx×V)}(ok:XS P w H h)(e:H a=some (.dK j)):j.length<=sizeLine/\(a == sysModules)=false/\∃vs,KV j vs/\h.DictOf (Yw P w) a vs:=Zey ok (.inl e)
theorem ZaJ {j:List Yx}(ok:XS P w H h)(e:H a=some (.tup (j.map kV))):(tupleKind (Yw P w)).is h j a:=by
 obtain⟨_,q,r,o,J,M,n,O⟩:=(show Yt P w H h a (.tup (j.map kV)) from ok a _ e);exact⟨o,q.toArray,n,J,M,O,by simpa using U1 r⟩
theorem Zex {j:List (List Yx×V)}(ok:XS P w H h)(e:Rd H a (.dT j)):j.length<=sizeLine/\(a == sysModules)=false/\
  ∃xs,KT H j xs/\h.DictOfH (tupleKind (Yw P w)) a xs:=by
 obtain⟨z,y,xs,r,o,O,U,Y,h2,h3,h4,h5⟩:=(show Yt P w H h a (.dT j) from Zkr ok e);refine⟨z,y,xs,r,o,O,U,Y,h2,h3,h4,fun x J=>?_,h5⟩;have all:∀{l:List (List Yx×V)}{m:List (List Yx×Addr×Value)},KT H l m->∀x∈m,(tupleKind (Yw P w)).is h x.1 x.2.1:=by
  intro l m q;induction q with
  |nil=>intro x J;exact nomatch J
  | @cons p q ps qs M t ih=>
   intro x J;rcases aG.mp J with e|J
   ·subst e
    exact ZaJ ok (by rw[<-M.1];exact M.2.1)
   ·exact ih x J
 exact all r x J
theorem ZnC {j:List (List Yx×V)}(ok:XS P w H h)(e:H a=some (.dT j)):j.length<=sizeLine/\(a == sysModules)=false/\
  ∃xs,KT H j xs/\h.DictOfH (tupleKind (Yw P w)) a xs:=Zex ok (.inl e)
end
noncomputable def Jn (H:Hp)(a:Addr)(y:V)(r:Option V):Prop:=
 (∃j k,Rd H a (.dK j)/\y=kV k/\r=YR j k)\/∃j k b,Rd H a (.dT j)/\y=.ref b/\H b=some (.tup (k.map kV))/\r=YR j k
noncomputable def Vd (H:Hp)(a:Addr)(y v:V)(q:Hp):Prop:=
 (∃j k,H a=some (.dK j)/\y=kV k/\j.length<sizeLine/\q=upd H a (.dK (Ww j k v)))\/
 ∃j k b,H a=some (.dT j)/\y=.ref b/\H b=some (.tup (k.map kV))/\j.length<sizeLine/\q=upd H a (.dT (Ww j k v))
theorem Jn.k {H:Hp}{a:Addr}{j:List (Yx×V)}{k:Yx}(e:H a=some (.dK j)):Jn H a (kV k) (YR j k):=.inl ⟨j,k,.inl e,rfl,rfl⟩
theorem Jn.t {H:Hp}{a b:Addr}{j:List (List Yx×V)}{k:List Yx}(e:H a=some (.dT j))(q:H b=some (.tup (k.map kV))):Jn H a (.ref b) (YR j k):=.inr ⟨j,k,b,.inl e,rfl,q,rfl⟩
theorem Vd.k {H:Hp}{a:Addr}{j:List (Yx×V)}{k:Yx}{v:V}(e:H a=some (.dK j))(q:j.length<sizeLine):Vd H a (kV k) v (upd H a (.dK (Ww j k v))):=.inl ⟨j,k,e,rfl,q,rfl⟩
theorem Vd.t {H:Hp}{a b:Addr}{j:List (List Yx×V)}{k:List Yx}{v:V}(e:H a=some (.dT j))(q:H b=some (.tup (k.map kV)))(J:j.length<sizeLine) :
  Vd H a (.ref b) v (upd H a (.dT (Ww j k v))):=.inr ⟨j,k,b,e,rfl,q,J,rfl⟩
section
variable {X:Cx}{pins:List (Addr×Obj)}{σ:St}{H:Hp}{s:Shared}{a:Addr}{y v:V}{u r:Value}{o:Option V}{A:Around}{E:Value->Shared->Prop}
theorem Inv.big (I:Inv X pins σ H s):sysModules<s.heap.objs.size:=by
 have h:mainGlobals<s.heap.objs.size:=(I.mod.glob.keeps I.bk).lt;exact iU (by decide) h
theorem Zfq {Q:Value->Shared->Prop}(hu:A.units+1<cLine)(I:Inv X pins σ H s)(g:Jn H a y (some v))(ry:RelV y u)(h:∀q s',Inv X pins σ H s'->RelV v q->Q q s') :
  wpAny (model X.prog X.w) A (getItem (.ref a) u) Q E s:=by
 rcases g with ⟨J,k,e,M,l⟩|⟨J,k,b,e,M,eb,l⟩
 ·subst M
  obtain⟨z,hd,vs,rel,O⟩:=Zey I.hok e;obtain⟨q,U,j⟩:=UF.some_of (v:=v) (o:=valueAt vs k) (by rw[l];exact rel.val k);exact wpAny_getItem_of (Zb4 ry) O.mapOf U (h q _ (I.tok _) j)
 ·subst M
  cases (show u=aB b from ry);obtain⟨z,hd,xs,rel,O⟩:=Zex I.hok e;obtain⟨q,U,j⟩:=UF.some_of (v:=v) (o:=(atKey xs k).map (·.2)) (by rw[l];exact rel.val k);obtain⟨p,hp,Y⟩:=Option.map_eq_some_iff.mp U;refine wpAny_getItem_heap (i9 hu) (ZaJ I.hok eb) O hp ?_;rw[Y];exact h q _ (I.tok _) j
theorem ZjU {Q:Value->Shared->Prop}(U:A.units+1<cLine)(I:Inv X pins σ H s)(g:Jn H a y o)(O:RelV y u)(h:∀s',Inv X pins σ H s'->Q (.bool (!o.isSome)) s') :
  wpAny (model X.prog X.w) A (compareOp .NotIn u (.ref a)) Q E s:=by
 rcases g with ⟨j,k,e,J,l⟩|⟨j,k,b,e,J,Y,l⟩
 ·subst J
  obtain⟨z,hd,vs,rel,M⟩:=Zey I.hok e;refine wpAny_notIn_of (Zb4 O) hd M.mapOf ?_;rw[<-(rel.val k).isSome_eq,<-l];exact h _ (I.tok _)
 ·subst J
  cases (show u=aB b from O);obtain⟨z,hd,xs,rel,M⟩:=Zex I.hok e;refine wpAny_notIn_heap (i9 U) (ZaJ I.hok Y) hd M ?_;have q:=(rel.val k).isSome_eq;rw[lx] at q;rw[<-q,<-l];exact h _ (I.tok _)
theorem ZaR {h':Heap}{t':Nat}{j:HO}(I:Inv X pins σ H s)(M:Mut (H a))(O:ba a s.heap h')(U:∃q,h'.get? a=some q)(J:Yt X.prog X.w (upd H a j) h' a j) :
  Inv X pins σ (upd H a j) {s with heap:=h',toks:=t'}:=
 I.write (x:=a) (e:=a) M (.inl rfl) (fun b q hb z=>(O.2 b hb).trans z) U J
theorem ZhR {P:Program}{w:World}{q:Hp}{h':Heap}{j:List (Yx×V)}{vs:List (Yx×Value)}(z:j.length<=sizeLine)(hd:(a == sysModules)=false)(rel:KV j vs)(J:h'.DictOf (Yw P w) a vs) :
  Yt P w q h' a (.dK j):=⟨z,hd,vs,rel,J⟩
theorem Zfp {H':Hp}{Q:Unit->Shared->Prop}(hu:A.units+1<cLine)(I:Inv X pins σ H s)(g:Vd H a y v H')(ry:RelV y u)(rv:RelV v r)(h:∀s',Inv X pins σ H' s'->Q () s') :
  wpAny (model X.prog X.w) A (setItem (.ref a) u r) Q E s:=by
 rcases g with ⟨j,k,e,O,l,U⟩|⟨j,k,b,e,O,eb,l,U⟩
 ·subst O U
  obtain⟨z,hd,vs,rel,Y⟩:=ZkJ I.hok e;have hz:vs.length<=sizeLine:=by rw[<-rel.length];exact z
  have hl:(Ww j k v).length<=sizeLine:=by have:=WQ j k v;omega
  refine wpAny_setItem_pairs (hsz:=hz) (Zb4 ry) Y fun h' J hs=>h _ ?_;have he:∃q,h'.get? a=some q:=by obtain⟨q,_,_,M,_⟩:=J;exact⟨q,M⟩
  exact ZaR I (by rw[e];exact gK) hs he (ZhR hl hd (rel.put k rv) J)
 ·subst O U
  cases (show u=aB b from ry);obtain⟨z,hd,xs,rel,Y⟩:=ZnC I.hok e;have hz:xs.length<=sizeLine:=by rw[<-jA rel];exact z
  have hl:(Ww j k v).length<=sizeLine:=by have:=WQ j k v;omega
  refine wpAny_setItem_heap (hsz:=hz) (i9 hu) (ZaJ I.hok eb) Y fun h' J hs=>h _ ?_;obtain⟨q,es,ep,M,h2,h3,h4,_,h5⟩:=J;refine ZaR I (by rw[e];exact gK) hs ⟨q,M⟩ ⟨hl,hd,_,(rel.put k eb rv).keeps fun c ys ec=>?_,q,es,ep,M,h2,h3,h4,h5⟩;rw[Zy (Zhe ec e (fun z=>nomatch z))];exact ec
end
section
variable {X:Cx}{pins:List (Addr×Obj)}{σ:St}{H:Hp}{s:Shared}{a:Addr}{kvs:List (Yx×V)}{k:Yx}{u:Value}{A:Around}{E:Value->Shared->Prop}
end
noncomputable def ZnY (i:Expr):Prop:=∀j iv,subscripted i false j iv=operate [j,iv] (getItem j iv)
theorem ZiC {prog:Program}{w:World}{A:Around}{E:Value->Shared->Prop}{s:Shared}{env:Env}{value j:Expr}{pos:Pos}{T id:String}{Q:Value->Shared->Prop}
  (hl:typeLookup (.type T) "__getitem__"=pure (some (.builtin id))) (hs:ZnY j)
  (h:wpAny (model prog w) A (eval value env) (fun o M=>wpAny (model prog w) A (eval j env) (fun i q=>q.TypeIs o T/\wpAny (model prog w) A (getItem o i) Q E q) E M) E s) :
  wpAny (model prog w) A (eval (.Subscript value j pos) env) Q E s:=by
 refine Subscript_ (cv h (fun o M Y=>cv Y (fun i q J=>?_) fun _ _ x=>x) fun _ _ x=>x);obtain⟨hT,J⟩:=J;unfold subscriptTail;refine Zl ?_;rw[getitemInPython_of_ne hT.not_modules];refine Zl (wpAny_specialOf hT hl ?_);have U:wpAny (model prog w) A (subscripted j false o i) (fun r O=>wpAny (model prog w) A (letTemporaryGo value o r >>= fun _=>pure r) Q E O) E q:=by
  rw[hs o i];exact wpAny_operating (cv J (fun r O m5=>Zl (wpAny_letTemporaryGo (Zm m5))) fun _ _ x=>x)
 first
  |exact Zm (Zl U)
  |exact Zl (Zm (Zl U))
  |exact Zl U
theorem Zcc {X:Cx}{j:List (Addr×Obj)}{σ:St}{H:Hp}{s:Shared}{a:Addr}{y:V}{o:Option V}(I:Inv X j σ H s)(g:Jn H a y o):s.TypeIs (.ref a) "dict":=by
 rcases g with ⟨q,k,e,_,_⟩|⟨q,k,b,e,_,_,_⟩
 ·obtain⟨_,_,M,_,J⟩:=Zey I.hok e
  exact J.typeIs
 ·obtain⟨_,_,xs,_,J⟩:=Zex I.hok e
  exact J.typeIs
noncomputable def ZmH (J M:TE):TE:=fun j H Q=>J j H fun x O=>M j O fun y q=>∃a v,x=.ref a/\Jn q a y (some v)/\Q v q
noncomputable def ZiA (J M:TE):TE:=fun j H Q=>J j H fun y O=>M j O fun x q=>∃a o,x=.ref a/\Jn q a y o/\Q (.bl (!o.isSome)) q
noncomputable def ZmN (J M O:TE):TS:=fun D j H=>O j H fun v U=>J j U fun x Y=>M j Y fun y H3=>∃a q,x=.ref a/\Vd H3 a y v q/\D.nx j q
section
variable {X:Cx}{o i e value:Expr}{pos pos' tpos:Pos}{td ty tv:TE}
theorem Jg (O:X.A.units+1<cLine)(U:PE X o td)(Y:PE X i ty)(hs:ZnY i):PE X (.Subscript o i pos) (ZmH td ty):=by
 intro j s J H Q I h;refine ZiC PySem.F.slot_dict_getitem.lookup hs (Yj (U j s J H _ I h) fun u s1 ⟨x,H1,I1,rx,q1⟩=>Yj (Y j s1 J H1 _ I1 q1) fun iv s2 ⟨y,H2,M,ry,a,v,ex,g,q2⟩=>?_);subst ex;obtain rfl:u=aB a:=rx;exact⟨Zcc M g,Zfq O M g ry fun w' s3 I3 q=>⟨v,H2,I3,q,q2⟩⟩
theorem UU (J:X.A.units+1<cLine)(M:PE X i ty)(O:PE X o td):PC X .NotIn i o (ZiA ty td):=by
 intro j s q H Q I h;refine Yj (M j s q H _ I h) fun iv U ⟨y,Y,I1,ry,q1⟩=>Yj (O j U q Y _ I1 q1) fun u s2 ⟨x,H2,I2,rx,a,ov,ex,g,q2⟩=>?_;subst ex;obtain rfl:u=aB a:=rx;exact ZjU J I2 g ry fun s3 I3=>⟨.bl (!ov.isSome),H2,I3,rfl,q2⟩
theorem JR (J:X.A.units+1<cLine)(M:PE X o td)(O:PE X i ty)(U:PE X value tv)(Y:swapsWith value (some (.Subscript o i pos')) pos.line X.env=pure false) :
  PS X (.Assign [.Subscript o i pos'] value pos) (ZmN td ty tv):=by
 intro j s q H D I h;refine wpAny_Assign_Subscript (Yj (U j s q H _ I h) fun r s1 ⟨v,H1,I1,rv,q1⟩=>Yj (M j s1 q H1 _ I1 q1) fun u s2 ⟨x,H2,I2,rx,q2⟩=>Yj (O j s2 q H2 _ I2 q2) fun iv s3 ⟨y,H3,I3,ry,a,H4,ex,g,q3⟩=>?_) Y;subst ex;obtain rfl:u=aB a:=rx;exact Zfp J I3 g ry rv fun s4 I4=>⟨q,H4,I4,q3⟩
end
theorem Zcb {P:Program}{w:World}{H:Hp}(h:Heap)(hb:sysModules<h.objs.size):Yt P w H (h.push {cls:=.type "dict",data:=.dict #[]}) h.objs.size (.dK []):=
 ⟨a5 _,beq_eq_false_iff_ne.mpr (bh (aC hb)),[],.nil,Heap.DictOf.new h⟩
theorem ZhQ {P:Program}{w:World}{H:Hp}(h:Heap)(hb:sysModules<h.objs.size):Yt P w H (h.push {cls:=.type "dict",data:=.dict #[]}) h.objs.size (.dT []):=
 ⟨a5 _,beq_eq_false_iff_ne.mpr (bh (aC hb)),[],.nil,_,#[],0,Zo _ rfl,⟨rfl,rfl,rfl⟩,rfl,rfl,dU⟩
noncomputable def Zk3:TE:=fun _ H Q=>∀p,H p=none->Q (.ref p) (upd H p (.dK []))
noncomputable def Zk2:TE:=fun _ H Q=>∀p,H p=none->Q (.ref p) (upd H p (.dT []))
section
variable {X:Cx}{pos:Pos}
theorem ZbI:PE X (.Dict [] [] pos) Zk3:=fun j s J H Q I h=>
 wpAny_Dict_empty ⟨.ref s.heap.objs.size,_,I.laid (a:=s.heap.objs.size) (o:=.dK []) (t':=s.toks) (fun _ _ q=>Zn _ q) (Zq _) (Zcb s.heap I.big),rfl,h _ (I.hok.fresh (Zq _))⟩
theorem ZgP:PE X (.Dict [] [] pos) Zk2:=fun j s J H Q I h=>
 wpAny_Dict_empty ⟨.ref s.heap.objs.size,_,I.laid (a:=s.heap.objs.size) (o:=.dT []) (t':=s.toks) (fun _ _ q=>Zn _ q) (Zq _) (ZhQ s.heap I.big),rfl,h _ (I.hok.fresh (Zq _))⟩
end
noncomputable def Zcy:List (TE×TE)->St->Hp->(List (V×V)->Hp->Prop)->Prop
 | [],_,H,Q=>Q [] H
 |(tk,j)::r,σ,H,Q=>tk σ H fun x q=>j σ q fun y J=>Zcy r σ J fun M O=>Q ((x,y)::M) O
noncomputable abbrev VV:List (V×V)->List (Value×Value)->Prop:=km fun p q=>RelV p.1 q.1/\RelV p.2 q.2
noncomputable def PPs (X:Cx)(pos:Pos)(J:List (Option Expr))(j:List Expr)(M:List (TE×TE)):Prop:=
 ∀(q:List (Addr×Obj)) (s:Shared) (O:St) (H:Hp) (Q:List (V×V)->Hp->Prop),Inv X q O H s->Zcy M O H Q->
  wpAny (model X.prog X.w) X.A (evalPairs (pairTrees J j X.env pos)) (fun vs s'=>∃U Y,Inv X q O Y s'/\VV U vs/\Q U Y) X.xe s
theorem ZiZ {X:Cx}{pos:Pos}:PPs X pos [] [] []:=fun j s q H Q I h=>pairTrees_nil_walk ⟨[],H,I,.nil,h⟩
theorem VR {X:Cx}{pos:Pos}{k v:Expr}{M:List (Option Expr)}{vs:List Expr}{tk O:TE}{q:List (TE×TE)}(U:PE X k tk)(Y:PE X v O)(hr:PPs X pos M vs q) :
  PPs X pos (some k::M) (v::vs) ((tk,O)::q):=fun j s J H Q I h=>
 pairTrees_cons_walk (Yj (U j s J H _ I h) fun u s1 ⟨x,H1,I1,rx,q1⟩=>Yj (Y j s1 J H1 _ I1 q1) fun w2 s2 ⟨y,H2,I2,ry,q2⟩=>
  Yj (hr j s2 J H2 _ I2 q2) fun ws s3 ⟨ps,H3,I3,rel,q3⟩=>⟨(x,y)::ps,H3,I3,.cons ⟨rx,ry⟩ rel,q3⟩)
noncomputable def VX (q j:List (Yx×V)):List (Yx×V):=j.foldl (fun ZE J=>Ww ZE J.1 J.2) q
theorem KV.merge:∀{more:List (Yx×V)}{rs:List (Yx×Value)}{j:List (Yx×V)}{vs:List (Yx×Value)},KV more rs->KV j vs->KV (VX j more) (merged vs rs):=by
 intro more rs j vs r;unfold KV at r;induction r generalizing j vs with
 |nil=>intro q;exact q
 | @cons p q O U h t J=>
  intro M;have e:KV (Ww j p.1 p.2) (stored vs q.1 q.2):=by
   have:=M.put p.1 h.2;rw[<-h.1];exact this
  exact J e
theorem J8:∀(q j:List (Yx×V)),(VX j q).length<=j.length+q.length
 | [],j=>by show j.length<=j.length+0;omega
 |p::r,j=>by
  have J:=J8 r (Ww j p.1 p.2);have M:=WQ j p.1 p.2;show (VX (Ww j p.1 p.2) r).length<=_;rw[Zi];omega
theorem Uk {P:Program}{w:World}:∀{j:List (Yx×V)}{M:List (Value×Value)},VV (j.map fun O=>(kV O.1,O.2)) M->∃J,Carries (Yw P w) M J/\KV j J
 | [],_,r=>by rw[eZ] at r;cases r;exact⟨[],gK,.nil⟩
 |p::j,_,r=>by
  rw[aQ] at r;cases r with
  | @cons a b Y bs h t=>
   obtain⟨J,c,q⟩:=Uk (P:=P) (w:=w) t;obtain⟨b1,U⟩:=b;exact⟨(p.1,U)::J,⟨Zb4 h.1,rfl,c⟩,.cons ⟨rfl,h.2⟩ q⟩
noncomputable def ZmG (q:List (TE×TE)):TE:=fun O H Q=>∀p,H p=none->Zcy q O (upd H p (.dK [])) fun U J=>J p=some (.dK [])/\∃j:List (Yx×V),U=j.map (fun M=>(kV M.1,M.2))/\j.length<=15/\Q (.ref p) (upd J p (.dK (VX [] j)))
theorem Zi3 {X:Cx}{pos:Pos}{keys:List (Option Expr)}{values:List Expr}{j:List (TE×TE)}(h:PPs X pos keys values j)(J:keys.all (·.isSome)=true)(hl:keys.length=values.length)(h0:keys≠[])
  (Y:keys.length<=15):PE X (.Dict keys values pos) (ZmG j):=by
 intro M s σ H Q I q;have hn:=I.hok.fresh (Zq s.heap.objs.size);have I1:=I.laid (a:=s.heap.objs.size) (o:=.dK []) (h':=s.heap.push {cls:=.type "dict",data:=.dict #[]}) (t':=s.toks) (fun _ _ q=>Zn _ q) (Zq _) (Zcb s.heap I.big);refine wpAny_Dict_walk (knd:=Yw X.prog X.w) J hl h0 Y (Yj (h M _ σ _ _ I1 (q _ hn)) fun ws s2 ⟨ps,H2,I2,rel,e,O,ep,lk,q2⟩=>?_);subst ep;obtain⟨rs,c,rk⟩:=Uk (P:=X.prog) (w:=X.w) rel;obtain⟨z,hd,m6,r0,dd⟩:=ZkJ I2.hok e;cases r0;refine⟨rs,c,dd,fun h' U hs=>⟨.ref s.heap.objs.size,_,?_,rfl,q2⟩⟩;have hz:(VX [] O).length<=sizeLine:=by
  have h1:=J8 O [];rw[jh] at h1;rw[fS];omega
 have he:∃q,h'.get? s.heap.objs.size=some q:=by obtain⟨q,_,_,hq,_⟩:=U;exact⟨q,hq⟩
 exact ZaR I2 (by rw[e];exact gK) hs he (ZhR hz hd (rk.merge .nil) U)
section
variable {X:Cx}{pins:List (Addr×Obj)}{σ:St}{H:Hp}{s:Shared}{a:Addr}{y d:V}{u r:Value}{o:Option V}{A:Around}{E:Value->Shared->Prop}
end
section
variable {X:Cx}{o e f:Expr}{apos cpos:Pos}{td ty tx:TE}
end
section
variable {X:Cx}{pins:List (Addr×Obj)}{σ:St}{H:Hp}{s:Shared}{a:Addr}{kvs:List (Yx×V)}{A:Around}{E:Value->Shared->Prop}
end
section
variable {X:Cx}{pins:List (Addr×Obj)}{σ:St}{H:Hp}{s:Shared}{a:Addr}{y:V}{u:Value}{A:Around}{E:Value->Shared->Prop}
end
mutual
inductive Us (K:aa) (H:Hp):V->eF->Prop where
 |non:Us K H .non .none
 |bl (b:Bool):Us K H (.bl b) (.bool b)
 |int (i:Int):Us K H (.int i) (.int i)
 |str (x:Str):Us K H (.str x) (.str x)
 |lst {a:Addr}{xs:List V}{ds:List eF} (h:Wt K H a xs) (r:Wo K H xs ds):Us K H (.ref a) (.list ds)
 |tup {a:Addr}{xs:List V}{ds:List eF} (h:Xc K H a xs) (r:Wo K H xs ds):Us K H (.ref a) (.tuple ds)
inductive Wo (K:aa) (H:Hp):List V->List eF->Prop where
 |nil:Wo K H [] []
 |cons {x:V}{xs:List V}{d:eF}{ds:List eF} (h:Us K H x d) (r:Wo K H xs ds):Wo K H (x::xs) (d::ds)
end
section
variable {K:aa}{H H':Hp}
theorem Zv.tup {a:Addr}{xs:List V}(e:Zv H H')(h:Xc K H a xs):Xc K H' a xs:=by
 rcases h with (h|⟨o,h⟩)|h
 ·exact .inl (.inl (e _ _ h))
 ·exact .inl (.inr ⟨o,e _ _ h⟩)
 ·exact .inr h
theorem Zv.upd {p:Addr}{o:HO}(h:H p=none):Zv H (upd H p o):=fun b u e=>by rw[Zy (Z8 e h)];exact e
theorem Zv.updr {p:Addr}{o:HO}(s:Zv H H')(h:H p=none):Zv H (L2.upd H' p o):=fun b u e=>by rw[Zy (Z8 e h)];exact s b u e
mutual
theorem Us.mono (s:Zv H H'):∀{v:V}{d:eF},Us K H v d->Us K H' v d
 |_,_,.non=>.non
 |_,_,.bl b=>.bl b
 |_,_,.int i=>.int i
 |_,_,.str x=>.str x
 |_,_,.lst h r=>.lst (s.seq h) (Wo.mono s r)
 |_,_,.tup h r=>.tup (s.tup h) (Wo.mono s r)
theorem Wo.mono (s:Zv H H'):∀{v:List V}{d:List eF},Wo K H v d->Wo K H' v d
 |_,_,.nil=>.nil
 |_,_,.cons h r=>.cons (Us.mono s h) (Wo.mono s r)
end
theorem Wo.ints:∀ns:List Int,Wo K H (ns.map V.int) (ns.map aW)
 | []=>.nil
 |n::r=>.cons (.int n) (Wo.ints r)
end
section
variable {X:Cx}{pins:List (Addr×Obj)}{σ:St}{H:Hp}{s:Shared}
mutual
theorem Inv.reads (I:Inv X pins σ H s):∀{v:V}{d:eF}{u:Value},Us X.K H v d->RelV v u->∃as,Reads s.heap u d as
 |_,_,_,.non,r=>by cases (show _=a9 from r);exact⟨_,.none⟩
 |_,_,_,.bl b,r=>by cases (show _=ix b from r);exact⟨_,.bool b⟩
 |_,_,_,.int i,r=>by obtain⟨t,rfl⟩:=r;exact⟨_,.int i t⟩
 |_,_,_,.str x,r=>by obtain⟨t,rfl⟩:=r;exact⟨_,.str x t⟩
 |_,_,_,.lst (a:=a) h q,r=>by
  cases (show _=aB a from r);obtain⟨j,J,⟨o,n,e,c,_,d⟩,_⟩:=I.list h;obtain⟨as,M⟩:=Inv.readsAll I q J;exact⟨_,.list e c d (by simpa using M)⟩
 |_,_,_,.tup (a:=a) h q,r=>by
  cases (show _=aB a from r);obtain⟨j,J,⟨o,e,c,n,d⟩,_⟩:=I.tuple h;obtain⟨as,M⟩:=Inv.readsAll I q J;exact⟨_,.tuple e c d (by simpa using M)⟩
theorem Inv.readsAll (I:Inv X pins σ H s):∀{v:List V}{d:List eF}{u:List Value},Wo X.K H v d->ZL v u->∃as,ReadsAll s.heap u d as
 |_,_,_,.nil,r=>by cases r;exact⟨_,.nil⟩
 |_,_,_,.cons h q,r=>by
  cases r with
  |cons r j=>
   obtain⟨O,J⟩:=Inv.reads I h r;obtain⟨U,M⟩:=Inv.readsAll I q j;exact⟨_,.cons J M⟩
end
end
structure Zig (d:eF):Prop where
 sh:d.showable=true
 nd:d.hasDict=false
 dp:d.depth<=60
 sz:d.shown.length<=sizeLine
section
variable {X:Cx}
theorem Zlr (O:X.A.units+64<cLine):Vv X (compareOp .NotEq) (fun x y H Q=>∃j J,Us X.K H x j/\Us X.K H y J/\fK j=true/\fK J=true/\Q (.bl (!fO j J)) H):=by
 intro M s σ H x y v u Q I U Y ⟨j,J,h1,h2,s1,s2,q⟩;obtain⟨as,r1⟩:=I.reads h1 U;obtain⟨bs,r2⟩:=I.reads h2 Y;exact SeqAt.compareNe_shaped r1 r2 s1 s2 O ⟨.bl _,H,I,rfl,q⟩
theorem Zfz {k:Nat}(hr:Jc k X.A):Yu X (.builtin "repr") (fun xs H Q=>∃x d,xs=[x]/\Us X.K H x d/\Zig d/\Q (.str d.shown) H):=by
 intro M s σ H xs us Q I r h;obtain⟨x,d,rfl,hd,F,q⟩:=h;obtain⟨u,rfl,ru⟩:=vals1 r;obtain⟨as,rd⟩:=I.reads hd ru;have m5:X.A.units+61<cLine:=by have:=hr.units;omega
 have j:∀(J:Heap) (u:Tok) (tk:Nat),(∀b o,s.heap.get? b=some o->J.get? b=some o)->EP X M σ Q (.str d.shown u) {s with heap:=J,toks:=tk}:=fun J u tk k=>⟨.str d.shown,H,I.kept k,⟨u,rfl⟩,q⟩;cases rd with
 |none=>exact P.repr_of_none (j s.heap _ _ fun _ _ e=>e)
 |bool b=>exact P.repr_of_bool (by have:=j s.heap s.toks (s.toks+1) fun _ _ e=>e;simpa only[fH] using this)
 |int i t=>exact P.repr_of_int (by simpa only[iX,decide_eq_true_eq] using F.sh) (by have:=j s.heap s.toks (s.toks+1) fun _ _ e=>e;simpa only[fH] using this)
 |str y t=>exact P.repr_of_str (by have:=j s.heap s.toks (s.toks+1) fun _ _ e=>e;simpa only[fH] using this) (by simpa only[fH] using F.sz)
 |list O U Y h4=>exact repr_of_reads' (.list O U Y h4) F.sh (fun z=>by rw[F.nd] at z;cases z) hr.gd (by have:=F.dp;omega) (fun _ _ e=>e) (fun J u tk k=>j J u tk k) F.sz
 |tuple O U Y h4=>exact repr_of_reads' (.tuple O U Y h4) F.sh (fun z=>by rw[F.nd] at z;cases z) hr.gd (by have:=F.dp;omega) (fun _ _ e=>e) (fun J u tk k=>j J u tk k) F.sz
 |dict O U Y h4 h5=>cases hd
theorem ZkW {prog:Program}{w:World}{A:Around}{j:List Value}{bs:List Bool}(r:ZL (bs.map V.bl) j):TruthOf prog w A (fun i v=>j.toArray[i]?=some v) (fun i=>bs.getD i false):=by
 intro i v s Q E q M;rw[kD] at q;have Y:i<j.length:=(ac.mp q).1;have O:=r.length;rw[Za] at O;have hb:(bs.map V.bl)[i]?=some (.bl (bs.getD i false)):=by
  rw[Zc,Zb,Zf (by omega)];rfl
 obtain⟨u,J,U⟩:=r.get hb;rw[q] at J;cases J;cases (show v=ix _ from U);exact fm M
theorem ZeS {bs:List Bool}:((ae bs.length).any fun i=>bs.getD i false)=bs.any id:=by
 have:(ae bs.length).map (fun i=>bs.getD i false)=bs:=by
  apply mm
  ·simp
  ·intro i j q;simp at j;simp[j]
 conv=>rhs;rw[<-this,fR]
 rfl
theorem Zh6 (Y:X.calm=true):Yu X (.builtin "any") (fun xs H Q=>∃(a:Addr) (bs:List Bool),xs=[.ref a]/\Wt X.K H a (bs.map V.bl)/\Q (.bl (bs.any id)) H):=by
 intro M s σ H xs us Q I r h;obtain⟨a,bs,rfl,hq,q⟩:=h;obtain⟨u,rfl,ru⟩:=vals1 r;cases ru;obtain⟨j,O,p,hz⟩:=I.list hq;have U:=O.length;rw[Za] at U;refine call_any_walk (fo p.isList ?_);have J:a≠s.heap.objs.size:=by obtain⟨o,n,e,_⟩:=p;exact aC (Zp e)
 refine⟨s.heap.objs.size,_,_,_,_,_,(fun i=>bs.getD i false),rfl,lc (A:=X.A.in1) (I.ok.hd Y) _ a J j.toArray,⟨⟨_,Zo _ rfl,rfl,rfl⟩,p.isList.push _⟩,ZkW O,fun h' tk k=>?_⟩;rw[Zh,<-U,ZeS];refine⟨.bl _,H,I.kept (t':=tk) fun b o e=>k b o ?_ (Zn _ e),rfl,q⟩;simpa using aC (Zp e)
end
noncomputable abbrev Jq (ns:List Int)(n:Nat):List Int:=firstMet (fun i=>ns.getD i 0) n
section
variable {prog:Program}{w:World}{A:Around}{E:Value->Shared->Prop}{s:Shared}
end
theorem Zeo:∀{ns:List Int}{us:List Value},ZL (ns.map V.int) us->a8 us ns
 | [],_,.nil=>.nil
 |n::r,_,.cons h t=>by
  obtain⟨k,rfl⟩:=(show ∃t,_=fN n t from h);exact .cons n k (Zeo t)
section
variable {X:Cx}
theorem Vo:Yu X (.type "range") (fun xs H Q=>∃j:Int,xs=[.int j]/\∀p,H p=none->Q (.ref p) (upd H p (.rng 0 j))):=by
 intro J s O H xs U Q I r h;obtain⟨j,rfl,q⟩:=h;obtain⟨u,rfl,M⟩:=vals1 r;obtain⟨t,rfl⟩:=M;exact call_range_1 ⟨.ref s.heap.objs.size,_,I.laid (a:=s.heap.objs.size) (o:=.rng 0 j) (fun b o e=>Zn _ e) (Zq _) ⟨_,_,_,Zo _ rfl⟩,rfl,q _ (I.hok.fresh (Zq _))⟩
noncomputable def Y1 (lo:Int)(n:Nat):List Int:=(ae n).map fun i:Nat=>lo+(i:Int)
theorem Zbx {lo:Int}{n i:Nat}(h:i<n):(Y1 lo n)[i]?=some (lo+i):=by unfold Y1;rw[Zc,am h];rfl
theorem YJ {lo:Int}{n:Nat}:(Y1 lo n).length=n:=by unfold Y1;rw[Za,Zg]
theorem UH {lo:Int}{n:Nat}{ZE:Array Value}(h:gL (fun i v=>∃t,v=.int (lo+i*1) t) ZE n):ZL ((Y1 lo n).map V.int) ZE.toList:=by
 have go:∀(l:List Value) (k:Nat),(∀(j:Nat) v,l[j]?=some v->∃t,v=.int (lo+((k+j:Nat):Int)) t)->ZL (((de k l.length).map fun i:Nat=>lo+(i:Int)).map V.int) l:=by
  intro l;induction l with
  |nil=>intro k _;exact .nil
  |cons x r M=>
   intro k J;rw[Zi,dY];refine .cons ?_ (M (k+1) fun j v q=>?_)
   ·obtain⟨t,e⟩:=J 0 x rfl
    exact⟨t,e⟩
   ·obtain⟨t,e⟩:=J (j+1) v q
    exact⟨t,by rw[e];congr 2;omega⟩
 have e:=go ZE.toList 0 fun j v q=>by
  rw[cK] at q;obtain⟨t,e⟩:=h.2 j v q;exact⟨t,by rw[e];congr 1 <;> omega⟩
 rw[Zr,h.1] at e;unfold Y1;rw[dS];exact e
theorem UD (O:X.calm=true):Yu X (.type "list") (fun xs H Q=>∃(a:Addr) (lo hi:Int),xs=[.ref a]/\H a=some (.rng lo hi)/\(-(2 ^ 62)<=lo/\lo<2 ^ 62/\-(2 ^ 62)<=hi/\hi<2 ^ 62)/\(hi-lo).toNat<=sizeLine/\
  ∀l,H l=none->Q (.ref l) (upd H l (.lst ((Y1 lo (hi-lo).toNat).map V.int)))):=by
 intro J s σ H xs us Q I r h;obtain⟨a,lo,hi,rfl,U,⟨Y,b2,b3,b4⟩,M,q⟩:=h;obtain⟨u,rfl,ru⟩:=vals1 r;cases ru;obtain⟨t,u,v,e⟩:=(show ∃t u v,s.heap.get? a=some {cls:=.type "range",data:=.fields #[.int lo t,.int hi u,.int 1 v]} from I.hok a _ U);refine call_list_range (n:=(hi-lo).toNat) (I.ok.hd O) e (small_one Y b2 b3 b4) (by rw[kW];split <;> omega) M fun h' tk ZE c' hk hl j=>?_
 exact⟨.ref _,_,I.laid (a:=s.heap.objs.size) (o:=.lst ((Y1 lo (hi-lo).toNat).map V.int)) (t':=tk) hk (Zq _) ⟨by rw[Za,YJ];exact M,ZE.toList,c',UH j,by simpa using hl⟩,rfl,q _ (I.hok.fresh (Zq _))⟩
end
noncomputable def WV:List Str->Bool
 | []=>true
 |x::r=>!(r.contains x) && WV r
theorem Z1:∀{l:List Str},WV l=true->l.Nodup
 | [],_=>dU
 |x::r,h=>by
  unfold WV at h;simp only[ag,gh] at h;refine bQ.mpr ⟨fun z=>?_,Z1 h.2⟩;have:=ay.mpr z;rw[h.1] at this;cases this
noncomputable def U2 (j:cO)(x:Str):Bool:=match j.names.lookup x with
 |some .local=>true
 |some .cell=>true
 |_=>false
theorem YL {j:cO}{x:Str}(h:U2 j x=true):Loc j x:=by
 unfold U2 at h;split at h
 ·rename_i e;exact .inl e
 ·rename_i e;exact .inr e
 ·cases h
noncomputable def Jk (j:cO)(x:Str):Bool:=match j.names.lookup x with
 |some .local=>true
 |_=>false
theorem WX {j:cO}{x:Str}(h:Jk j x=true):j.names.lookup x=some .local:=by
 unfold Jk at h;split at h
 ·rename_i e;exact e
 ·cases h
noncomputable def Zhs (j:cO)(x:Str):Bool:=match j.names.lookup x with
 |some .local=>true
 |some .cell=>true
 |some .free=>true
 |_=>false
theorem Zhr {j:cO}{x:Str}(h:Zhs j x=true):Vis j x:=by
 unfold Zhs at h;split at h
 ·rename_i e;exact .inl e
 ·rename_i e;exact .inr (.inl e)
 ·rename_i e;exact .inr (.inr e)
 ·cases h
noncomputable def YZ (j:cO)(x:Str):Bool:=match j.names.lookup x with
 |some .globalImplicit=>true
 |_=>false
noncomputable def We:Expr->Bool
 | .Starred _ _=>false
 |_=>true
theorem W2 {e:Expr}{j:List Expr}{env:Env}(h:We e=true):starEach (e::j) env=(false,eval e env)::starEach j env:=by cases e <;> first|rfl|cases h
noncomputable def JT:List Expr->Bool
 | []=>true
 |e::r=>We e && JT r
theorem WP {env:Env}{pos:Pos}:∀{j:List Expr},JT j=true->(backTo pos (starEach j env)).any (·.1)=false
 | [],_=>rfl
 |e::r,h=>by
  unfold JT at h;rw[ag] at h;rw[W2 h.1];exact WP h.2
section
variable {X:Cx}
theorem pc {e:Expr}{j:List Expr}{q:TE}{t:TA}(J:PE X e q)(M:PA X j t)(O:We e=true:=by rfl):PA X (e::j) (VH q t):=Zja J M (W2 O)
theorem Xa {x:Str}(h:YZ X.env.scope x=true):Gl X x:=by
 unfold YZ at h;split at h
 ·rename_i e;exact e
 ·cases h
theorem vn (i:Nat){x:Str}{pos:Pos}(q:X.N[i]?=some x:=by rfl)(J:Zhs X.env.scope x=true:=by kernel_rfl)(M:(x == ("__debug__":Str))=false:=by kernel_rfl)(j:(x == ("__classdict__":Str))=false:=by kernel_rfl) :
  PE X (.Name x pos) (ZmB i):=Zln q (Zhr J) M j
theorem gn (i:Nat){x:Str}{pos:Pos}(q:X.N[i]?=some x:=by rfl)(J:WV X.N=true:=by kernel_rfl)(j:Jk X.env.scope x=true:=by kernel_rfl):PG X (.Name x pos) (Z7 i):=
 Zd5 (Z1 J) q (.inl (WX j)) (.inr (WX j))
theorem gnf (i:Nat){x:Str}{pos:Pos}(j:X.fn x=true)(q:X.N[i]?=some x:=by rfl)(J:WV X.N=true:=by kernel_rfl)(M:U2 X.env.scope x=true:=by kernel_rfl):PG X (.Name x pos) (Z7 i):=
 Zd5 (Z1 J) q (YL M) (.inl j)
theorem ZD (i:Nat){x:Str}{e:Expr}{q:TE}{pos j:Pos}(J:X.fn x=true)(M:PE X e q)(O:X.N[i]?=some x:=by rfl)(U:WV X.N=true:=by kernel_rfl)(Y:U2 X.env.scope x=true:=by kernel_rfl)
  (hs:swapsWith e (some (.Name x j)) pos.line X.env=pure false:=by rfl):PS X (.Assign [.Name x j] e pos) (Zcz q (Z7 i)):=
 Zlj (Z1 U) O (YL Y) M hs (.inl J)
theorem cb {x:Str}{id:String}{r:List V->Hp->VK->Prop}{e:Expr}{j:List Expr}{t:TA}{p pos:Pos}(J:Yu X (.builtin id) r)(M:X.mg x=none)(O:PA X (e::j) t)(U:YZ X.env.scope x=true:=by kernel_rfl)(Y:bootBuiltins x=some (.builtin id):=by kernel_rfl)
  (hn:x ≠ "__name__":=by decide) (hd:(x == ("__debug__":Str))=false:=by kernel_rfl) (he:We e=true:=by rfl) (q:JT j=true:=by rfl) :
  PE X (.Call (.Name x p) (e::j) [] pos) (tCB r t):=ZgQ J (Xa U) M Y O hn hd (W2 he) (WP q)
theorem ct {x:Str}{T:String}{r:List V->Hp->VK->Prop}{e:Expr}{j:List Expr}{t:TA}{p pos:Pos}(J:Yu X (.type T) r)(M:X.mg x=none)(O:PA X (e::j) t)(U:YZ X.env.scope x=true:=by kernel_rfl)(Y:bootBuiltins x=some (.type T):=by kernel_rfl)
  (hn:x ≠ "__name__":=by decide) (hd:(x == ("__debug__":Str))=false:=by kernel_rfl) (he:We e=true:=by rfl) (q:JT j=true:=by rfl) :
  PE X (.Call (.Name x p) (e::j) [] pos) (tCB r t):=ZeX J (Xa U) M Y O hn hd (W2 he) (WP q)
theorem XV {q a:Expr}{j:TA}{p pos:Pos}(J:X.mg "range"=none)(M:PA X [a] j)(O:YZ X.env.scope "range"=true:=by kernel_rfl)(U:starEach [a] X.env=[(false,eval a X.env)]:=by rfl):PI X q (.Call (.Name "range" p) [a] [] pos) (ZkC j):=ZeW (Xa O) J M U
theorem ZmS {J a b:Expr}{q:TA}{p pos:Pos}(M:X.mg "range"=none)(O:PA X [a,b] q)(U:YZ X.env.scope "range"=true:=by kernel_rfl)(Y:starEach [a,b] X.env=[(false,eval a X.env),(false,eval b X.env)]:=by rfl)(j:starEach [b] X.env=[(false,eval b X.env)]:=by rfl) :
  PI X J (.Call (.Name "range" p) [a,b] [] pos) (ZkB q):=ZeV (Xa U) M O Y j
end
noncomputable def Fn (P:Program)(w:World)(K:aa)(j:Str->Option Value)(base:Heap)(CX:CXT)(k:Nat)(x:Str)(q:List Str)(sp:Sp):Prop:=
 ∃f J,Yb P w K j base CX k f J q sp/\j x=some (.ref f)/\dH K (.ref f)=true/\Binds K J q []
section
variable {X:Cx}
theorem Ws {CX:CXT}{k j:Nat}{x:Str}{M:List Str}{sp:Sp}{E:XK}{e:Expr}{q:List Expr}{t:TA}{p pos:Pos}(G:Fn X.prog X.w X.K X.mg X.base CX k x M sp)(O:Jc j X.A)(U:Za4 CX X E)(Y:PA X (e::q) t)(hk:k<=j:=by decide)
  (hg:YZ X.env.scope x=true:=by kernel_rfl) (hd:(x == ("__debug__":Str))=false:=by kernel_rfl) (he:We e=true:=by rfl) (J:JT q=true:=by rfl) :
  PE X (.Call (.Name x p) (e::q) [] pos) (Zkf sp [] E t):=by
 obtain⟨f,fd,F,hm,kp,b⟩:=G;exact Zi6 F (O.mono hk) (Xa hg) hm kp b .nil U Y hd (W2 he) (WP J)
end
theorem Fn.mk {P:Program}{w:World}{K:aa}{mg:Str->Option Value}{base h:Heap}{CX:CXT}{k:Nat}{x:Str}{J:List Str}{sp:Sp}{st:Stmt}{f:Addr}{Y:Value}{od M:Option Addr}{O:Array (Option Value)}{kV q U j ct:Value}(X:K.In h)(G:h.Ns mainGlobals mg)
  (a:bg K mainGlobals x=some (some (.ref f))) (l:K.lookup f=some ⟨Y,od,.func (cm x x (Wh st) (Y9 st) (ZU st) .none kV q U M j ct),O⟩) (c:eW K j x=true) (kp:dH K (.ref f)=true)
  (hok:∀fd,WN K x x st f fd->Yb P w K mg base CX k f fd J sp)
  (hb:∀(kV q U:Value) (M:Option Addr) (j ct:Value) (us:List Value),us.length=J.length->bindArgs (cm x x (Wh st) (Y9 st) (ZU st) .none kV q U M j ct) ⟨us,[]⟩=pure (J.zip us)) :
  Fn P w K mg base CX k x J sp:=
 ⟨f,_,hok _ (Zc4 l c kp),l7 X G a,kp,(Zc4 l c kp).binds hb⟩
section
variable {X:Cx}
theorem XI (K:aa)(j:X.K=K:=by rfl):IxR X (ZmU K):=j▸ZlK
theorem X2 (K:aa)(j:X.K=K:=by rfl):IxR X (ZmV K):=j▸ZjG
noncomputable def ZoJ (K:aa):List V->Hp->VK->Prop:=fun xs H Q=>∃p j,xs=[.ref p]/\(Wt K H p j\/Xc K H p j)/\Q (.int j.length) H
theorem YF (K:aa)(j:X.K=K:=by rfl):Yu X (.builtin "len") (ZoJ K):=j▸ZaZ
theorem itT (K:aa){q l:Expr}{j:TE}(J:PE X l j)(M:X.K=K:=by rfl):PI X q l (Znt K j):=M▸Zlm J
theorem itL (K:aa){q l:Expr}{j:TE}(J:PE X l j)(M:X.K=K:=by rfl):PI X q l (ZkD K j):=M▸Zi0 J
end
noncomputable def ZaS (N:List Str)(M:cO)(O:List Str)(q:List Nat)(U:List Str)(J:cO):Bool:=
 (J.kind == .function) && WV (J.names.map (·.1)) && J.names.all (fun y=>y.2 != .local || Jk J y.1) && WV U && decide (U=O++q.map fun j=>N.getD j "") &&
  q.all (fun j=>decide (j<N.length) && (match J.names.lookup (N.getD j "") with|some .free=>true|_=>false)) &&
  J.names.all (fun y=>y.2 != .free || (match M.names.lookup y.1 with|some .cell=>true|some .free=>true|_=>false))
theorem Jd.of {N:List Str}{M:cO}{own:List Str}{J:List Nat}{U:List Str}{Y:cO}(h:ZaS N M own J U Y=true):Jd N M own J U Y:=by
 unfold ZaS at h;simp only[ag,aP,decide_eq_true_eq,beq_iff_eq,bne_iff_ne,ne_eq,bq] at h;obtain⟨⟨⟨⟨⟨⟨h1,h2⟩,h3⟩,h4⟩,h5⟩,h6⟩,h7⟩:=h;refine⟨h1,Z1 h2,fun y O e=>?_,Z1 h4,h5,fun j hj=>⟨(h6 j hj).1,?_⟩,fun y O e=>?_⟩
 ·rcases h3 y O with z|z
  ·exact absurd e z
  ·exact WX z
 ·have:=(h6 j hj).2
  split at this
  ·rename_i z;exact z
  ·cases this
 ·rcases h7 y O with z|z
  ·exact absurd e z
  ·split at z
   ·rename_i q;exact .inl q
   ·rename_i q;exact .inr q
   ·cases z
theorem cmp {X:Cx}(q:List Str)(j:List Nat)(M:List Str){scope:cO}{elt iter O:Expr}{ifs:List Expr}{pos:Pos}{U:TI}{g:TG}{Y:TT}{te:TE}(hc:X.calm=true)(hi:PI X O iter U)
  (hg:∀J C s H ex,PG (YO X scope J M C s H ex) O g) (ht:∀J C s H ex,PIf (YO X scope J M C s H ex) ifs Y) (he:∀J C s H ex,PE (YO X scope J M C s H ex) elt te)
  (hS:ZaS X.N X.env.scope q j M scope=true:=by kernel_rfl) (hs:∀x,foldedSetIterable iter X.env x=pure x:=by intro _;rfl) :
  PE X (.ListComp elt [⟨O,iter,ifs,0⟩] scope pos) (Zdm q j U g Y te):=Zi4 rfl (.of hS) hc hi hg ht he hs
section
variable {X:Cx}
end
theorem Yc {c:TT}{tb:TS}{D:J5}{σ:St}{H:Hp}(Pv:Nat->St->Hp->Prop)(q:St->Hp->Prop)(hend:∀ σ H,q σ H->D.nx σ H)(h0:∃m,Pv m σ H)
  (turn:(∀ σ H,q σ H->D.nx σ H)->∀m σ H,Pv m σ H->c σ H fun b J=>if b=true then ∃N:St->Hp->Prop,(∀ j M,N j M->∃O,O<m/\Pv O j M)/\tb {D with nx:=N,ct:=N,bk:=D.nx} σ J else D.nx σ J) :
  ZfY c tb D σ H:=⟨Pv,h0,turn hend⟩
structure Wu (J:It)(H:Hp)(xs:List V):Prop where
 go:∀(i:Nat) H',Zv H H'->i<xs.length->J.go i H'
 yld:∀(i:Nat) H' x H2,Zv H H'->i<xs.length->J.yld i H' x H2->H2=H'/\xs[i]?=some x
 stop:∀H',Zv H H'->J.stop xs.length H'
theorem Wu.mono {J:It}{H q:Hp}{xs:List V}(s:Zv H q)(S:Wu J H xs):Wu J q xs:=
 ⟨fun i j e=>S.go i j (s.trans e),fun i j x M e=>S.yld i j x M (s.trans e),fun j e=>S.stop j (s.trans e)⟩
theorem Wf {K:aa}{H:Hp}{a:Addr}{xs:List V}(h:Xc K H a xs):Wu (Itt K a) H xs:=
 ⟨fun i j s q=>⟨xs,_,s.tup h,Zf q⟩,fun i j x J s _ y=>⟨y.1,y.2 xs (s.tup h)⟩,fun j s=>⟨xs,s.tup h,Zq _⟩⟩
theorem Yv {K:aa}{H:Hp}{a:Addr}{xs:List V}(h:Wt K H a xs):Wu (Itl K a) H xs:=
 ⟨fun i j s q=>⟨xs,_,s.seq h,Zf q⟩,fun i j x J s _ y=>⟨y.1,y.2 xs (s.seq h)⟩,fun j s=>⟨xs,s.seq h,Zq _⟩⟩
theorem XB {H:Hp}(lo:Int)(n:Nat):Wu (Itr lo n) H ((Y1 lo n).map V.int):=by
 have q:((Y1 lo n).map V.int).length=n:=by rw[Za,YJ]
 refine⟨fun i J s j=>by rw[q] at j;exact j,fun i J x M s j y=>?_,fun J s=>by show n<=_;rw[q];exact Zq _⟩;rw[q] at j;exact⟨y.1,by rw[y.2,Zc,Zbx j];rfl⟩
theorem ZhX {J:It}{own:List Str}{O:List Nat}{g:TG}{tc:TT}{te:TE}{σ:St}{H:Hp}{Q:VK}{xs:List V}(S:Wu J H xs)(Y:St)(m6:JJ own O σ=none::Y)(f:V->Option V)(hz:xs.length<=1000000)
  (hs:∀(i:Nat) x v0 j,xs[i]?=some x->Zv H j->∀(R:St->V->Hp->Prop) (R':St->Hp->Prop),(∀v H5,f x=some v->Zv j H5->R (some x::Y) v H5)->(∀U,f x=none->Zv j U->R' (some x::Y) U)->
   g x (v0::Y) j fun q H3=>tc q H3 fun b U=>if b=true then te q U (R q) else R' q U)
  (hd:∀D j,H D=none->Zv H j->j D=some (.lst (xs.filterMap f))->Q (.ref D) j) :
  WS own O g tc te σ Q J H:=by
 intro D hD;refine⟨fun i m m5 j=>m=xs.length-i/\i<=xs.length/\(∃v0,m5=v0::Y)/\Zv H j/\j D=some (.lst ((xs.take i).filterMap f)),⟨_,rfl,a5 _,⟨none,m6⟩,Zv.upd hD,by rw[Zt,eY];rfl⟩,?_⟩;rintro i m m5 j ⟨rfl,hi,⟨v0,rfl⟩,s,hl⟩;by_cases M:i<xs.length
 ·refine .inr ⟨S.go i j s M,_,fun n6 H2 z=>z,fun x H2 y=>?_⟩
  obtain⟨rfl,hx⟩:=S.yld i j x H2 s M y;have ht:xs.take (i+1)=xs.take i++[x]:=by rw[cP,hx];rfl
  have m8:((xs.take i).filterMap f).length<=i:=aZ (List.length_filterMap_le _ _) (by rw[bT];omega);refine hs i x v0 H2 hx s _ _ (fun v H5 e s5=>?_) (fun U e s4=>?_)
  ·refine⟨_,s5 _ _ hl,?_,xs.length-(i+1),by omega,rfl,M,⟨_,rfl⟩,(s.trans s5).updr hD,?_⟩
   ·have:(16777216:Nat)=sizeLine:=by decide
    omega
   ·rw[Zt,ht,kE,b9,e];rfl
  ·refine⟨xs.length-(i+1),by omega,rfl,M,⟨_,rfl⟩,s.trans s4,?_⟩
   rw[s4 _ _ hl,ht,kE,b9,e];simp
 ·have e:i=xs.length:=by omega
  subst e;refine .inl ⟨S.stop j s,hd D j hD s ?_⟩;rw[hl,cU]
theorem Jl {J:It}{g:TG}{tb:TS}{D:J5}{σ:St}{H0 H:Hp}{xs:List V}(S:Wu J H0 xs)(Pv:Nat->St->Hp->Prop)(h0:Pv 0 σ H)(hS:∀i σ H,Pv i σ H->Zv H0 H)
  (hs:∀(i:Nat) x σ H,xs[i]?=some x->Pv i σ H->g x σ H fun q U=>tb {D with nx:=Pv (i+1),ct:=Pv (i+1),bk:=D.nx} q U) (hd:∀ σ H,Pv xs.length σ H->D.nx σ H) :
  ∃W:Nat->Nat->St->Hp->Prop,(∃m,W 0 m σ H)/\∀i m σ H,W i m σ H->
   (J.stop i H/\D.nx σ H)\/(J.go i H/\∃N:St->Hp->Prop,(∀ M j,N M j->∃Y,Y<m/\W (i+1) Y M j)/\∀x j,J.yld i H x j->g x σ j fun q U=>tb {D with nx:=N,ct:=N,bk:=D.nx} q U):=by
 refine⟨fun i m σ H=>m=xs.length-i/\i<=xs.length/\Pv i σ H,⟨_,rfl,a5 _,h0⟩,?_⟩;rintro i m σ H ⟨rfl,hi,p⟩;have s:=hS i σ H p;by_cases O:i<xs.length
 ·refine .inr ⟨S.go i H s O,Pv (i+1),fun M j p'=>⟨xs.length-(i+1),by omega,rfl,O,p'⟩,fun x j y=>?_⟩
  obtain⟨rfl,hx⟩:=S.yld i H x j s O y;exact hs i x σ _ hx p
 ·have e:i=xs.length:=by omega
  subst e;exact .inl ⟨S.stop H s,hd σ H p⟩
theorem tT {A B:Hp->Prop}{σ:St}{H:Hp}(h:A H):Wr σ H fun b j=>if b=true then A j else B j:=by
 show if true=true then A H else B H
 rw[if_pos rfl];exact h
theorem Zes {α j:Type}(g:α->j):∀xs:List α,xs.filterMap (fun y=>some (g y))=xs.map g
 | []=>rfl
 |x::r=>by rw[b9,aQ,Zes g r]
theorem ZlL {c A B:Prop} [Decidable c](j:¬c)(h:B):if c then A else B:=by rw[if_neg j];exact h
theorem WL {J:It}{own:List Str}{M:List Nat}{O:TE}{σ:St}{H:Hp}{Q:VK}{xs:List V}(S:Wu J H xs)(q:St)(m5:JJ own M σ=none::q)(f:V->V)(hz:xs.length<=1000000)
  (hs:∀(i:Nat) x j,xs[i]?=some x->Zv H j->∀R:VK,(∀U,Zv j U->R (f x) U)->O (some x::q) j R)
  (hd:∀D j,H D=none->Zv H j->j D=some (.lst (xs.map f))->Q (.ref D) j):WS own M (Z7 0) Wr O σ Q J H:=by
 refine ZhX S q m5 (fun x=>some (f x)) hz (fun i x v0 j hx s R R' h1 h2=>?_) fun D j hD s hl=>hd D j hD s (by rw[hl,Zes]);show Wr (some x::q) j fun b Y=>if b=true then O (some x::q) Y (R (some x::q)) else R' (some x::q) Y
 exact tT (A:=fun Y=>O (some x::q) Y (R (some x::q))) (hs i x j hx s _ fun U s5=>h1 _ U rfl s5)
theorem Xz:∀{ns:List Int},(∀n∈ns,n.natAbs<2 ^ 200)->eK (ns.map aW)=true/\fX (ns.map aW)=false/\df (ns.map aW)=0/\dD 300 (ns.map aW)=true/\gX (ns.map aW)=ns.length/\cw (ns.map aW)=true
 | [],_=>⟨rfl,rfl,rfl,rfl,rfl,rfl⟩
 |n::r,h=>by
  obtain⟨U,M,Y,h4,h5,h6⟩:=Xz (ns:=r) fun m hm=>h m (ao _ hm);have O:=h n aq;have j:n.natAbs.log2<1920:=by
   by_cases q:n.natAbs=0
   ·rw[q];decide +kernel
   ·have:=(Nat.log2_lt q).mpr O
    omega
  have J:(fH (.int n)).length<=300:=by
   have M:n.natAbs.log2<200:=by
    by_cases q:n.natAbs=0
    ·rw[q];decide +kernel
    ·exact (Nat.log2_lt q).mpr O
   have:=int_text_length_le (k:=200) (by decide) M;simp only[fH];rw[PySem.ofString_length];omega
  refine⟨?_,?_,?_,?_,?_,?_⟩
  ·simp only[aQ,eK,iX,U,fv,decide_eq_true_eq];exact j
  ·simp only[aQ,fX,l9,M,fu]
  ·simp only[aQ,df,dR,Y];rfl
  ·simp only[aQ,dD,kH,h4,fv,decide_eq_true_eq];exact J
  ·simp only[aQ,gX,PyData.bulk,h5,Zi];omega
  ·simp only[aQ,cw,fP,h6,fv]
noncomputable def ZC (K:aa)(x:Str)(st:Stmt):Prop:=
 ∃(f:Addr) (M:Value) (O U:Option Addr) (q:Array (Option Value)) (kV J Y j ct:Value),bg K mainGlobals x=some (some (.ref f))/\
  K.lookup f=some ⟨M,O,.func (cm x x (Wh st) (Y9 st) (ZU st) .none kV J Y U j ct),q⟩/\eW K j x=true/\dH K (.ref f)=true
theorem ZC.mk {K:aa}{x:Str}{st:Stmt}{f:Addr}{J:Value}{M an:Option Addr}{q:Array (Option Value)}{kV doc pm j ct:Value}(a:bg K mainGlobals x=some (some (.ref f)))
  (l:K.lookup f=some ⟨J,M,.func (cm x x (Wh st) (Y9 st) (ZU st) .none kV doc pm an j ct),q⟩) (c:eW K j x=true) (k:dH K (.ref f)=true):ZC K x st:=
 ⟨f,J,M,an,q,kV,doc,pm,j,ct,a,l,c,k⟩
theorem ZC.fn {P:Program}{w:World}{K:aa}{mg:Str->Option Value}{base h:Heap}{CX:CXT}{k:Nat}{x:Str}{q:List Str}{sp:Sp}{st:Stmt}(D:ZC K x st)(X:K.In h)(G:h.Ns mainGlobals mg)
  (J:∀f fd,WN K x x st f fd->Yb P w K mg base CX k f fd q sp)
  (hb:∀(kV doc pm:Value) (an:Option Addr) (j ct:Value) (us:List Value),us.length=q.length->bindArgs (cm x x (Wh st) (Y9 st) (ZU st) .none kV doc pm an j ct) ⟨us,[]⟩=pure (q.zip us)) :
  Fn P w K mg base CX k x q sp:=by
 obtain⟨f,O,U,an,M,kV,doc,pm,j,ct,a,l,c,kp⟩:=D;exact Fn.mk X G a l c kp (fun fd F=>J f fd F) hb
theorem ZC.law {P:Program}{w:World}{K:aa}{mg:Str->Option Value}{h:Heap}{CX:CXT}{k:Nat}{x:Str}{p:Str}{sp:Sp}{st:Stmt}{M:Addr}(D:ZC K x st)(X:K.In h)(G:h.Ns mainGlobals mg)(q:mg x=some (.ref M))
  (J:∀(base:Heap) f fd,base.Ns mainGlobals mg->K.In base->WN K x x st f fd->Yb P w K mg base CX k f fd [p] sp)
  (hb:∀(kV doc pm:Value) (an:Option Addr) (j ct:Value) (s:Shared) (u:Value),iM s (cm x x (Wh st) (Y9 st) (ZU st) .none kV doc pm an j ct) ⟨[u],[]⟩ [(p,u)]) :
  ∃fd:FuncData,(∀(s:Shared) (u:Value),iM s fd ⟨[u],[]⟩ [(p,u)])/\∀base:Heap,K.In base->base.Ns mainGlobals mg->Yb P w K mg base CX k M fd [p] sp:=by
 obtain⟨f,oc,od,an,O,kV,doc,pm,j,ct,a,l,c,kp⟩:=D;have e:=q.symm.trans (l7 X G a);cases e;exact⟨_,fun s u=>hb kV doc pm an j ct s u,fun base U Y=>J base _ _ Y U (Zc4 l c kp)⟩
theorem Yp {α:Type} [DecidableEq α]:∀(l j:List α),l.Nodup->(∀a∈l,a∈j)->l.length<=j.length
 | [],_,_,_=>a5 _
 |a::r,j,nd,h=>by
  obtain⟨M,O⟩:=bQ.mp nd;have J:a∈j:=h a aq;have:=Yp r (j.erase a) O fun b hb=>by
   have q:b≠a:=fun e=>M (e▸hb);exact (kN q).mpr (h b (ao _ hb))
  rw[List.length_erase_of_mem J] at this;have U:0<j.length:=j7 J;rw[Zi];omega
theorem W6 (val:Nat->Int):∀i,(firstMet val i).Nodup
 |0=>dU
 |i+1=>by
  have j:=W6 val i;rw[lu];unfold step_dedup;split
  ·exact j
  ·rename_i h
   refine lU.mpr ⟨j,bQ.mpr ⟨by simp,dU⟩,?_⟩;intro a q b hb e;rw[aS.mp hb] at e;apply h
   first
    |exact aY.mpr ⟨a,q,by simp[e]⟩
    |simpa [e] using q
theorem Zed (val:Nat->Int)(i:Nat)(k:Int):k∈firstMet val i↔∃j,j<i/\val j=k:=by
 have h:=firstMet_any val i k;constructor
 ·intro M
  have:(firstMet val i).any (· == k)=true:=aY.mpr ⟨k,M,by simp⟩;rw[h] at this;obtain⟨x,q,e⟩:=aY.mp this;obtain⟨j,J,rfl⟩:=aI.mp q;exact⟨j,af.mp J,by simpa using e⟩
 ·rintro⟨j,J,rfl⟩
  have:((ae i).map val).any (· == val j)=true:=aY.mpr ⟨val j,aI.mpr ⟨j,af.mpr J,rfl⟩,by simp⟩;rw[<-h] at this;obtain⟨x,q,e⟩:=aY.mp this;have:x=val j:=by simpa using e
  exact this▸q
section
variable {X:Cx}
end
theorem gT {q:TE}{N:St->Hp->Prop}{J:St->V->Hp->Prop}{x:V}{O:Option V}{cs:St}{H:Hp}(h:q (some x::cs) H (J (some x::cs))):Z7 0 x (O::cs) H fun j U=>Wr j U fun b M=>if b=true then q j M (J j) else N j M:=by
 show if true=true then q (some x::cs) H (J (some x::cs)) else N (some x::cs) H
 rw[if_pos rfl];exact h
theorem Uc {J:It}{own:List Str}{q:List Nat}{te:TE}{σ:St}{H:Hp}{Q:VK}{xs:List V}(G:Addr->Nat->List V->Hp->Prop)(cs:St)(m5:JJ own q σ=none::cs)(hz:xs.length<=1000000)
  (S:∀D i ys j,H D=none->j D=some (.lst ys)->G D i ys j->(i<xs.length->J.go i j/\∀x O,J.yld i j x O->O=j/\xs[i]?=some x)/\(i=xs.length->J.stop i j))
  (h0:∀D,H D=none->G D 0 [] (upd H D (.lst [])))
  (hs:∀D (i:Nat) x ys j,H D=none->j D=some (.lst ys)->xs[i]?=some x->G D i ys j->∀R:VK,(∀v Y,Y D=some (.lst ys)->G D (i+1) (ys++[v]) (upd Y D (.lst (ys++[v])))->R v Y)->te (some x::cs) j R)
  (hd:∀D ys j,H D=none->j D=some (.lst ys)->ys.length=xs.length->G D xs.length ys j->Q (.ref D) j):WS own q (Z7 0) Wr te σ Q J H:=by
 intro D hD;refine⟨fun i m U j=>m=xs.length-i/\i<=xs.length/\(∃v0,U=v0::cs)/\∃ys,j D=some (.lst ys)/\ys.length=i/\G D i ys j,⟨_,rfl,a5 _,⟨none,m5⟩,[],Zt,rfl,h0 D hD⟩,?_⟩;rintro i m U j ⟨rfl,hi,⟨v0,rfl⟩,ys,hl,hy,g⟩;obtain⟨S1,S2⟩:=S D i ys j hD hl g;by_cases M:i<xs.length
 ·refine .inr ⟨(S1 M).1,_,fun m6 O z=>z,fun x O y=>?_⟩
  obtain⟨rfl,hx⟩:=(S1 M).2 x O y;refine gT ?_;refine hs D i x ys O hD hl hx g _ fun v Y h5 g5=>⟨ys,h5,?_,xs.length-(i+1),by omega,rfl,M,⟨_,rfl⟩,ys++[v],Zt,by rw[Zd];simp[hy],g5⟩;have:(16777216:Nat)=sizeLine:=by decide
  omega
 ·have e:i=xs.length:=by omega
  exact .inl ⟨S2 e,hd D ys j hD hl (by omega) (e▸g)⟩
theorem ZiJ {X:Cx}(i:Nat)(J:List Str)(j:List Nat)(O:List Str){scope:cO}{elt iter U:Expr}{ifs:List Expr}{pos q py:Pos}{y:Str}{wi:TI}{g:TG}{tc:TT}{te:TE}(hc:X.calm=true)(hf:X.fn y=true)(hi:PI X U iter wi)
  (hg:∀M C s H ex,PG (YO X scope M O C s H ex) U g) (ht:∀M C s H ex,PIf (YO X scope M O C s H ex) ifs tc) (he:∀M C s H ex,PE (YO X scope M O C s H ex) elt te)
  (hS:ZaS X.N X.env.scope J j O scope=true:=by kernel_rfl) (hy:X.N[i]?=some y:=by rfl) (hN:WV X.N=true:=by kernel_rfl) (hx:U2 X.env.scope y=true:=by kernel_rfl)
  (Y:swapsWith (.ListComp elt [⟨U,iter,ifs,0⟩] scope pos) (some (.Name y py)) q.line X.env=pure true:=by rfl) (hs:∀x,foldedSetIterable iter X.env x=pure x:=by intro _;rfl) :
  PS X (.Assign [.Name y py] (.ListComp elt [⟨U,iter,ifs,0⟩] scope pos) q) (Zcz (Zdm J j wi g tc te) (Z7 i)):=ZcR rfl (.of hS) hc hi hg ht he (Z1 hN) hy (YL hx) (.inl hf) Y hs
end L2
namespace HT
open PySem PyProof.Rows
section
variable {prog:Program}{w:World}{A:Around}{E:Value->Shared->Prop}{s:Shared}
end
end HT
namespace L2
open PySem PySem.Spec PyProof.Rows
section
variable {X:Cx}{e:Expr}{te ts:TE}{st:Expr}{pos p2:Pos}
end
end L2
namespace HT
open PySem PyProof.Rows
section
variable {prog:Program}{w:World}{A:Around}{E:Value->Shared->Prop}{s:Shared}
end
end HT
namespace L2
open PySem PySem.Spec PyProof.Rows
section
variable {X:Cx}
end
end L2
namespace PyS
open PySem PySem.SetTable
noncomputable def Va (p:Array Nat):Prop:=p.toList.Pairwise (· < ·)
theorem Va.lt {p:Array Nat}(h:Va p){i j:Nat}{x y:Nat}(q:i<j)(J:p[i]?=some x)(M:p[j]?=some y):x<y:=by
 rw[<-cK] at J M;obtain⟨O,rfl⟩:=ac.mp J;obtain⟨U,rfl⟩:=ac.mp M;exact jF.mp h i j O U q
structure Zdh (p:Array Nat)(j k:Nat):Prop where
 le:k<=p.size
 lo:∀i x,i<k->p[i]?=some x->x<j
 hi:∀i x,k<=i->p[i]?=some x->j<=x
theorem Zc1 {p:Array Nat}(h:Va p)(j:Nat):∀(q lo hi:Nat),lo<=hi->hi<=p.size->hi-lo<=q->(∀i x,i<lo->p[i]?=some x->x<j)->(∀i x,hi<=i->p[i]?=some x->j<=x)->Zdh p j (below.go p j q lo hi)
 |0,lo,hi,h1,O,h3,U,Y=>by
  have:lo=hi:=by omega
  subst this;exact⟨O,U,Y⟩
 |q+1,lo,hi,h1,O,h3,U,Y=>by
  unfold below.go;by_cases J:lo<hi
  ·rw[if_pos J]
   dsimp only;have hm:(lo+hi) / 2<p.size:=by omega
   have M:p[(lo+hi) / 2]?=some p[(lo+hi) / 2]:=aM hm;have eg:p.getD ((lo+hi) / 2) j=p[(lo+hi) / 2]:=by rw[cB,M];rfl
   rw[eg];by_cases hc:p[(lo+hi) / 2]<j
   ·rw[if_pos hc]
    refine Zc1 h j q _ _ (by omega) O (by omega) (fun i x m5 e=>?_) Y;by_cases e1:i=(lo+hi) / 2
    ·subst e1
     rw[M] at e;cases e;exact hc
    ·exact iU (h.lt (by omega) e M) hc
   ·rw[if_neg hc]
    refine Zc1 h j q _ _ (by omega) (by omega) (by omega) U fun i x m5 e=>?_;by_cases e1:i=(lo+hi) / 2
    ·subst e1
     rw[M] at e;cases e;omega
    ·have:=h.lt (by omega) M e
     omega
  ·rw[if_neg J]
   have:lo=hi:=by omega
   subst this;exact⟨O,U,Y⟩
theorem Zac {p:Array Nat}(h:Va p)(j:Nat):Zdh p j (below p j):=Zc1 h j _ _ _ (a5 _) (Zq _) (by omega) (fun i x q=>absurd q (eS _)) (fun i x q e=>by
 rw[cz q] at e;cases e)
theorem Zdh.uniq {p:Array Nat}{j k q:Nat}(a:Zdh p j k)(b:Zdh p j q):k=q:=by
 have J:∀{k q:Nat},Zdh p j k->Zdh p j q->¬k<q:=fun {k q} a b M=>by
  have O:k<p.size:=aE M b.le;have e:p[k]?=some p[k]:=aM O;have U:=b.lo k _ M e;have Y:=a.hi k _ (Zq _) e;omega
 have:=J a b;have:=J b a;omega
theorem Va.insert {p:Array Nat}(h:Va p){j:Nat}(M:p[below p j]?≠some j):Va (insertAt p (below p j) j):=by
 have c:=Zac h j;generalize below p j=k at c M;unfold Va;rw[toList_insertAt];have O:∀y∈p.toList.take k,y<j:=fun y q=>by
  obtain⟨i,hi,rfl⟩:=List.mem_take_iff_getElem.mp q;have:i<p.size:=by rw[<-Zr];omega
  exact c.lo i _ (by omega) (by rw[aM this];simp)
 have U:∀y∈p.toList.drop k,j<y:=fun y q=>by
  obtain⟨i,hi,rfl⟩:=List.mem_drop_iff_getElem.mp q;have J:k+i<p.size:=by rw[Zr] at hi;omega
  have h1:=c.hi (k+i) p[k+i] (by omega) (by rw[aM J]);have h2:p[k+i]≠j:=fun z=>by
   by_cases e:i=0
   ·subst e
    exact M (by rw[<-z];exact aM (by simpa using J))
   ·have Y:k<p.size:=by omega
    have h3:=h.lt (i:=k) (j:=k+i) (by omega) (aM Y) (aM J);have h4:=c.hi k _ (Zq _) (aM Y);omega
  show j<p.toList[k+i];rw[Array.getElem_toList];omega
 rw[hU];refine⟨cT (iN k _) h,?_,fun a ha b hb=>?_⟩
 ·rw[lH]
  exact⟨U,cT (List.drop_sublist k _) h⟩
 ·rcases aG.mp hb with hb|hb
  ·rw[hb];exact O a ha
  ·exact iU (O a ha) (U b hb)
theorem Vg {t:SetTable}(U:t.dummies=#[]){hashAt:Nat->Int}{h:Int}:∀(q:Nat) (p:Probe),p.dummy=none->∀{j:Nat}{d:Option Nat},probe.go t hashAt h q p=some (.empty j d)->t.slot j=.empty/\d=none
 |0,p,_,j,d,e=>by
  unfold probe.go at e;cases e
 |q+1,p,M,j,d,e=>by
  unfold probe.go at e;cases J:t.slot p.j with
  |empty=>
   rw[J] at e;dsimp only at e;have e:=aD e;injection e with Y e2;subst Y;exact⟨J,by rw[<-e2];exact M⟩
  |dummy=>
   exfalso;unfold lO at J;dsimp only at J;split at J
   ·cases J
   ·split at J
    ·rename_i O
     unfold has at O;rw[U] at O;simp at O
    ·cases J
  |live i=>
   rw[J] at e;dsimp only at e;split at e
   ·cases e
   ·refine Vg U q _ ?_ e
    unfold advance;split
    ·exact M
    ·exact M
theorem Zfk {t:SetTable}(O:t.dummies=#[]){h:Int}{j:Nat}{b:Bool}(e:t.freeSlot h=some (j,b)):t.place[below t.place j]?≠some j:=by
 unfold SetTable.freeSlot at e;split at e
 ·rename_i U d' Y
  have e:=aD e;injection e with J e2;obtain⟨q,h2⟩:=Vg O _ _ rfl Y;subst h2;have J:U=j:=J;subst J;unfold lO at q;dsimp only at q;split at q
  ·cases q
  ·rename_i M
   intro z;exact M (by rw[z];simp)
 ·cases e
structure Wk (t:SetTable)(led:Bool):Prop where
 rise:Va t.place
 dum:t.dummies=#[]
 led:t.led=led
theorem ZcN (n:Nat):Va (Array.range n):=by
 unfold Va;rw[Array.toList_range];exact gN
theorem Wk.standIn {t:SetTable}{led:Bool}(h:t.led=led)(n:Nat):Wk (t.standIn n) led:=⟨ZcN n,rfl,h⟩
theorem Wk.lay {t:SetTable}{led:Bool}(W:Wk t led)(J:Array (Int×Value))(h:Int)(x:Value):Wk (layNew t J h x).2.1 led:=by
 unfold layNew;split
 ·rename_i slot M e
  dsimp only;have j:=Zfk W.dum e;have q:Wk (t.put slot).1 led:=by
   unfold put;dsimp only;refine⟨W.rise.insert j,?_,W.led⟩;dsimp only;rw[W.dum];unfold has;simp
  unfold SetTable.orStandIn;split
  ·exact q
  ·exact .standIn q.led _
 ·exact .standIn W.led _
theorem Zi9 {n:Nat}(g:Nat->Option Nat):(((ae n).filterMap fun j=>(g j).map (j,·)).map (·.1)).Pairwise (· < ·):=by
 have e:∀l:List Nat,(l.filterMap fun j=>(g j).map (j,·)).map (·.1)=l.filter fun j=>(g j).isSome:=fun l=>by
  induction l with
  |nil=>rfl
  |cons a l q=>
   rw[b9,List.filter_cons];cases h:g a with
   |none=>rw[Option.map_none];dsimp only;rw[q];rfl
   |some b=>rw[dh];dsimp only;rw[aQ,q];rfl
 rw[e];exact cT ly gN
theorem Wk.relay {t:SetTable}{led:Bool}(W:Wk t led)(M:Array (Int×Value))(j:Nat):Wk (relayAll t M j).2.1 led:=by
 unfold relayAll;split
 ·rename_i Y q e
  dsimp only;split
  ·dsimp only
   unfold relaid laid at e;cases O:layClean (sizeAbove j-1) (M.map (·.1)) with
   |none=>rw[O] at e;cases e
   |some J=>
    rw[O] at e;have e:=aD e;injection e with U e2;subst U;refine⟨?_,rfl,W.led⟩;unfold Va;exact Zi9 _
  ·exact .standIn W.led _
 ·exact .standIn W.led _
theorem Wk.plain {t:SetTable}{led:Bool}(W:Wk t led)(b:Bool):Wk {t with plain:=b} led:=⟨W.rise,W.dum,W.led⟩
theorem Wk.fresh (led:Bool):Wk (SetTable.fresh 0 0 led) led:=⟨eA,rfl,rfl⟩
theorem Zec {p:Array Nat}(h:Va p){i:Nat}{slot:Nat}(M:i<=p.size)(J:(i=0/\slot=0)\/(∃j x,i=j+1/\p[j]?=some x/\slot=x+1)):below p slot=i:=by
 refine (Zac h slot).uniq ⟨M,fun k x O e=>?_,fun k x O e=>?_⟩
 ·rcases J with ⟨rfl,_⟩|⟨j,y,rfl,q,rfl⟩
  ·omega
  ·by_cases U:k=j
   ·subst U
    rw[q] at e;cases e;omega
   ·have:=h.lt (by omega) e q
    omega
 ·rcases J with ⟨_,rfl⟩|⟨j,y,rfl,q,rfl⟩
  ·omega
  ·have:=h.lt (by omega) q e
   omega
theorem Xl {α:Type}:∀{l:List α}{i:Nat}{x:α},l[i]?=some x->bG (x::l.eraseIdx i) l
 | [],i,x,e=>by cases e
 |a::l,0,x,e=>by cases e;exact cS _
 |a::l,i+1,x,e=>by
  rw[List.getElem?_cons_succ] at e;rw[List.eraseIdx_cons_succ];exact (List.Perm.swap a x _).trans ((Xl e).cons a)
theorem UT {α:Type}(next:Nat->Nat):∀(j k:Nat) (left:List α) (out:Array α),left.length<=j->bG (jq next j k left out).toList (out.toList++left)
 |0,k,left,out,h=>by
  have:left=[]:=gG.mp (by omega);subst this;unfold jq;rw[jm]
 |j+1,k,left,out,h=>by
  unfold jq;split
  ·rename_i x e
   have q:=(ac.mp e).1;refine (UT next j (k+1) _ _ (by rw[kO];split <;> omega)).trans ?_
   rw[lJ,iQ];refine List.Perm.append_left _ ?_;exact Xl e
  ·rename_i e
   have:left=[]:=by
    rcases left with _|⟨a,l⟩
    ·rfl
    ·exfalso
     rw[f7] at e;have:=bP (next k) (show 0<(a::l).length by rw[Zi];omega);omega
   subst this;rw[jm]
theorem WF {α:Type}(next:Nat->Nat)(xs:Array α):bG (pickOrder next xs).toList xs.toList:=by
 unfold pickOrder;have:=UT next xs.size 0 xs.toList #[] (by rw[Zr];exact Zq _);simpa using this
end PyS
namespace PyS
open PySem
theorem ZY:Slot "set_iterator" "__next__" "set_iterator.__next__":=
 .of (owner:="set_iterator") (n:="__next__") (by rw[typeLookup_type,l6];kernel_rfl) (by decide +kernel) (by decide +kernel) (by decide +kernel)
  (by first|exact .inl (by decide +kernel)|exact .inr (by decide +kernel)) (by rw[kf];kernel_rfl)
theorem Wg:entryFor table "set_iterator.__next__"=some cC.«set_iterator.__next__»:=entryFor_of_tree (by kernel_rfl)
theorem ZbJ:Manifest.owners.lookup (String.ofList ['r','o','t','a','r','e','t','i','_','t','e','s'].reverse)=some Manifest.sig_set_iterator:=by kernel_rfl
theorem WA (a:Value):argsOk "set_iterator.__next__" ⟨[a],[]⟩:=by
 unfold argsOk;rw[signature?_of (id:="set_iterator.__next__") (n:=['_','_','t','x','e','n','_','_']) (o:=['r','o','t','a','r','e','t','i','_','t','e','s']) (by kernel_rfl) ZbJ];kernel_rfl
theorem Xy:Slot "set_iterator" "__iter__" "set_iterator.__iter__":=
 .of (owner:="set_iterator") (n:="__iter__") (by rw[typeLookup_type,l6];kernel_rfl) (by decide +kernel) (by decide +kernel) (by decide +kernel)
  (by first|exact .inl (by decide +kernel)|exact .inr (by decide +kernel)) (by rw[kf];kernel_rfl)
theorem UA:entryFor table "set_iterator.__iter__"=some cC.«dict_keyiterator.__iter__»:=entryFor_alias (id':="dict_keyiterator.__iter__") (by kernel_rfl) rfl (by decide +kernel) (by kernel_rfl)
theorem Za2 (a:Value):argsOk "set_iterator.__iter__" ⟨[a],[]⟩:=by
 unfold argsOk;rw[signature?_of (id:="set_iterator.__iter__") (n:=['_','_','r','e','t','i','_','_']) (o:=['r','o','t','a','r','e','t','i','_','t','e','s']) (by kernel_rfl) ZbJ];kernel_rfl
theorem V8:entryFor table "set.__iter__"=some cC.«frozenset.__iter__»:=entryFor_alias (id':="frozenset.__iter__") (by kernel_rfl) rfl (by decide +kernel) (by kernel_rfl)
noncomputable def Jr (h:Heap)(a:Addr)(j:Array (Int×Value))(ep:Nat)(t:SetTable):Prop:=∃o,h.get? a=some o/\o.ExactSet/\o.data=.set j ep t/\t.fits j.size=true
noncomputable def YW (h:Heap)(I:Addr)(first:Value)(i:Nat)(a:Addr)(n ep:Nat):Prop:=∃o,h.get? I=some o/\o.cls=.type "set_iterator"/\o.data=.fields #[first,.int i 0,.ref a,.int n 0,.int ep 0]
theorem Jr.keep {h h':Heap}{a:Addr}{j:Array (Int×Value)}{ep:Nat}{t:SetTable}(S:Jr h a j ep t)(k:∀o,h.get? a=some o->h'.get? a=some o):Jr h' a j ep t:=let ⟨o,e,r⟩:=S;⟨o,k o e,r⟩
theorem YW.keep {h h':Heap}{I:Addr}{first:Value}{i:Nat}{a:Addr}{n ep:Nat}(S:YW h I first i a n ep)(k:∀o,h.get? I=some o->h'.get? I=some o):YW h' I first i a n ep:=let ⟨o,e,r⟩:=S;⟨o,k o e,r⟩
section
variable {prog:Program}{w:World}{A:Around}{E:Value->Shared->Prop}{s:Shared}{I a:Addr}{es:Array (Int×Value)}{ep:Nat}{t:SetTable}{first:Value}{i n:Nat}
theorem YW.typeIs (h:YW s.heap I first i a n ep):s.TypeIs (.ref I) "set_iterator":=let ⟨o,e,c,_⟩:=h;⟨o,e,c⟩
theorem Jr.typeIs (h:Jr s.heap a es ep t):s.TypeIs (.ref a) "set":=let ⟨o,e,c,_⟩:=h;⟨o,e,c.1⟩
theorem Jr.state (h:Jr s.heap a es ep t){Q:(Array (Int×Value)×Nat×SetTable)->Shared->Prop}(q:Q (es,ep,t) s):wpAny (model prog w) A (setState a) Q E s:=let ⟨_,e,_,d,f⟩:=h;wpAny_setState_of e d f q
theorem Jr.entries (h:Jr s.heap a es ep t){Q:Array (Int×Value)->Shared->Prop}(q:Q es s):wpAny (model prog w) A (setEntries a) Q E s:=by
 unfold setEntries;exact Zl (h.state (Zm q))
theorem Jr.epoch (h:Jr s.heap a es ep t){Q:Nat->Shared->Prop}(q:Q ep s):wpAny (model prog w) A (setEpoch a) Q E s:=by
 unfold setEpoch;exact Zl (h.state (Zm q))
theorem Za0 {Q:Bool->Shared->Prop}(q:Q (w.params.followText "set-order") s):wpAny (model prog w) A setsByText Q E s:=by
 unfold setsByText;exact Zl (jC (Zm q))
theorem YW.turn {h:Heap}{o:Obj}(e:h.get? I=some o)(c:o.cls=.type "set_iterator")(d:o.data=.fields #[first,.int i 0,.ref a,.int n 0,.int ep 0])(next:Value) :
  YW ((h.update I (gA (·.setIfInBounds 0 next))).update I (gA (·.setIfInBounds 1 (rawInt ((i:Int)+1))))) I next (i+1) a n ep:=by
 have q:=bB (gA (·.setIfInBounds 0 next)) e (cN (bw d _));have j:=bw d (·.setIfInBounds 0 next);refine⟨_,bB _ q (cN (bw j _)),?_,?_⟩
 ·rw[gq,gq,c]
 ·rw[bw j]
  simp[rawInt]
theorem ZbR {slot:Nat}{Q:Option Value->Shared->Prop}(j:YW s.heap I (.int slot 0) i a n ep)(M:Jr s.heap a es ep t)(O:es.size=n){x:Value}{nx:Nat}
  (U:∀{R:Option (Value×Nat)->Shared->Prop}{Y:Around}{E':Value->Shared->Prop},R (some (x,nx)) s->wpAny (model prog w) Y (setNext a slot i ep) R E' s)
  (q:∀h',YW h' I (.int nx 0) (i+1) a n ep->ba I s.heap h'->Q (some x) {s with heap:=h'}):wpAny (model prog w) A (pyNext (.ref I)) Q E s:=by
 obtain⟨o,e,c,d⟩:=id j;unfold pyNext;refine Zl (dQ (bn (name:=cQ "__next__") j.typeIs ZY (bv ZY j.typeIs Wg ?_ (WA _))));unfold cC.«set_iterator.__next__»;refine Zl (Zm ?_);refine Zl (iH e d ?_);refine Zl (M.entries ?_);rw[O];rw[if_neg (by simp)];show wpAny _ _ (setNext a slot i ep >>= _) _ _ s;refine Zl (U ?_);dsimp only;refine Zl (dk e d (by simp) ?_);have h1:=bB (gA (·.setIfInBounds 0 (rawInt nx))) e (cN (bw d _));have d1:=bw d (·.setIfInBounds 0 (rawInt nx));refine Zl (dk h1 d1 (by simp) ?_);exact Zm ⟨_,rfl,Zm (q _ (YW.turn e c d _) ((bF ..).trans (bF ..)))⟩
theorem Zbf {h:Heap}{Q:Option Value->Shared->Prop}{F:Fin->Shared->Prop}(j:A.handled=none)(q:∀h',(∀b o,h.get? b=some o->h'.get? b=some o)->Q none {s with heap:=h'}) :
  wpAny (model prog w) A.in1 (do let x <-newExc (.type "StopIteration") [];raiseNew (α:=Fin) x) F (fun e s'=>wpAny (model prog w) A (do let b <-isInstance e (.type "StopIteration");if b=true then pure none else throw e) Q E s') {s with heap:=h}:=by
 refine Zl ?_;unfold newExc newTuple;refine Zl (bO (Q:=_) ?_ (by size_fits));refine Zl (m:=firstArgMember _ _) (jG (a:=a9) (by first|rfl|(unfold firstArgMember;rfl)) ?_)
 refine bO (Q:=_) ?_ (by size_fits);unfold raiseNew;refine Zl (wpAny_handled ?_);rw[show A.in1.handled=none from j];refine Zl (Zm (wpAny_throw ?_));refine Zl (gZ (T:="StopIteration") (b:=true) ⟨_,Zo _ rfl,rfl⟩ kg ?_);exact Zm (q _ fun b o e=>Zn _ (Zn _ e))
theorem Zew {slot:Nat}{Q:Option Value->Shared->Prop}(O:A.handled=none)(j:YW s.heap I (.int slot 0) i a n ep)(U:Jr s.heap a es ep t)(Y:es.size=n)
  (hN:∀{R:Option (Value×Nat)->Shared->Prop}{A':Around}{E':Value->Shared->Prop},R none s->wpAny (model prog w) A' (setNext a slot i ep) R E' s)
  (q:∀h',(∀b o,b≠I->s.heap.get? b=some o->h'.get? b=some o)->Q none {s with heap:=h'}):wpAny (model prog w) A (pyNext (.ref I)) Q E s:=by
 obtain⟨o,e,c,d⟩:=id j;unfold pyNext;refine Zl (dQ (bn (name:=cQ "__next__") j.typeIs ZY (bv ZY j.typeIs Wg ?_ (WA _))));unfold cC.«set_iterator.__next__»;refine Zl (Zm ?_);refine Zl (iH e d ?_);refine Zl (U.entries ?_);rw[Y];rw[if_neg (by simp)];show wpAny _ _ (setNext a slot i ep >>= _) _ _ s;refine Zl (hN ?_);dsimp only;refine Zl (dk e d (by simp) ?_);exact Zbf O fun h' k=>q h' fun b M hb e'=>k b M ((bF s.heap I _).extBut b M hb e')
theorem Zeb (j:w.params.followText "set-order"=true)(J:Jr s.heap a es ep t){slot:Nat}{R:Option (Value×Nat)->Shared->Prop}
  (q:R (((pickOrder (w.params.setOrder a ep) es)[i]?).map fun e=>(e.2,slot)) s):wpAny (model prog w) A (setNext a slot i ep) R E s:=by
 unfold setNext;refine Zl (J.state ?_);dsimp only;refine Zl (Za0 ?_);rw[j,if_pos rfl,if_neg (by simp)];refine Zl ?_;unfold setWalk;refine Zl (J.state ?_);dsimp only;refine Zl (Za0 ?_);rw[j,if_pos rfl];exact Zl (jC (Zm (Zm q)))
theorem ZbL (J:w.params.followText "set-order"=false)(M:Jr s.heap a es ep t)(hd:t.plain=true\/es.size<=1)(O:t.led=true){slot:Nat}{R:Option (Value×Nat)->Shared->Prop}
  (q:R (match es[lD t.place slot]?,t.place[lD t.place slot]? with|some (_,x),some j=>some (x,j+1)|_,_=>none) s):wpAny (model prog w) A (setNext a slot i ep) R E s:=by
 unfold setNext;refine Zl (M.state ?_);dsimp only;refine Zl (Za0 ?_);rw[J,if_neg (by decide)];show wpAny _ _ (if (!t.plain && decide (es.size > 1))=true then _ else _) _ _ s
 rw[if_neg (by
  rcases hd with hd|hd
  ·rw[hd];simp
  ·rw[decide_eq_false (by omega),Bool.and_false];decide)]
 show wpAny _ _ ((if (!t.led && !es.isEmpty)=true then _ else _) >>= _) _ _ s
 rw[O];exact Zl (Zm (Zm q))
theorem ZcW {T0:Addr}{J:Array Value}{pl:Nat}{Q:Option Value->Shared->Prop}(j:YW s.heap I (.ref T0) i a n ep)(U:∃o k,s.heap.get? T0=some o/\o.data=.seq J k)(M:Jr s.heap a es ep t)(Y:es.size=n)(hp:J[i]?=some (.int pl 0)){h:Int}{x:Value}(hx:es[pl]?=some (h,x))
  (q:∀h',YW h' I (.ref T0) (i+1) a n ep->ba I s.heap h'->Q (some x) {s with heap:=h'}):wpAny (model prog w) A (pyNext (.ref I)) Q E s:=by
 obtain⟨o,e,c,d⟩:=id j;obtain⟨ot,k,et,dt⟩:=U;unfold pyNext;refine Zl (dQ (bn (name:=cQ "__next__") j.typeIs ZY (bv ZY j.typeIs Wg ?_ (WA _))));unfold cC.«set_iterator.__next__»;refine Zl (Zm ?_);refine Zl (iH e d ?_);refine Zl (M.entries ?_);rw[Y];rw[if_neg (by simp)];show wpAny _ _ (seqItems? (.ref T0) >>= _) _ _ s;refine Zl (ci et dt ?_);dsimp only;rw[Zj,hp];show wpAny _ _ (setNextDrawn a pl ep >>= _) _ _ s;refine Zl ?_;unfold setNextDrawn;refine Zl (M.state ?_);dsimp only;rw[if_neg (by simp),hx];refine Zm ?_;refine Zl (dk e d (by simp) ?_);refine Zm ⟨_,rfl,Zm (q _ ⟨_,bB _ e (cN (bw d _)),?_,?_⟩ (bF ..))⟩
 ·rw[gq,c]
 ·rw[bw d]
  simp[rawInt]
theorem Zfn {T0:Addr}{J:Array Value}{Q:Option Value->Shared->Prop}(U:A.handled=none)(j:YW s.heap I (.ref T0) i a n ep)(Y:∃o k,s.heap.get? T0=some o/\o.data=.seq J k)(hS:Jr s.heap a es ep t)(hn:es.size=n)(hp:J[i]?=none)
  (q:∀h',(∀b o,b≠I->s.heap.get? b=some o->h'.get? b=some o)->Q none {s with heap:=h'}):wpAny (model prog w) A (pyNext (.ref I)) Q E s:=by
 obtain⟨o,e,c,d⟩:=id j;obtain⟨ot,k,et,dt⟩:=Y;unfold pyNext;refine Zl (dQ (bn (name:=cQ "__next__") j.typeIs ZY (bv ZY j.typeIs Wg ?_ (WA _))));unfold cC.«set_iterator.__next__»;refine Zl (Zm ?_);refine Zl (iH e d ?_);refine Zl (hS.entries ?_);rw[hn];rw[if_neg (by simp)];show wpAny _ _ (seqItems? (.ref T0) >>= _) _ _ s;refine Zl (ci et dt ?_);dsimp only;rw[Zj,hp];dsimp only;refine Zl (dk e d (by simp) ?_);have h1:=bB (gA (·.setIfInBounds 0 (rawInt 0))) e (cN (bw d _));have d1:=bw d (·.setIfInBounds 0 (rawInt 0));refine Zl (dk h1 d1 (by simp) ?_);exact Zbf U fun h' k=>q h' fun b O hb e'=>k b O (((bF s.heap I _).trans (bF _ I _)).extBut b O hb e')
theorem Zfv {src:Source}{m:Nat}{Q:Nat->Shared->Prop}(j:m≠0)(q:∀k J,k<m->Q k {s with drawn:=J}):wpAny (model prog w) A (choose src m) Q E s:=fun _ _ _=>⟨j,q _ _ (bP _ (by omega))⟩
theorem U4 {α:Type}:∀(m:Nat) (xs:List α) {s:Shared}{Q:List α->Shared->Prop},xs.length<=m->(∀ys M,bG ys xs->Q ys {s with drawn:=M})->wpAny (model prog w) A (drawOrder m xs) Q E s
 |0,xs,s,Q,h,q=>by
  have:xs=[]:=gG.mp (by omega);subst this;unfold drawOrder;exact Zm (q [] s.drawn (cS _))
 |m+1,[],s,Q,h,q=>by
  unfold drawOrder;exact Zm (q [] s.drawn (cS _))
 |m+1,x::xs,s,Q,h,q=>by
  unfold drawOrder;refine Zl (Zfv (by rw[Zi];omega) fun k M j=>?_);rw[Zf j];dsimp only;refine Zl (U4 m _ (by rw[kO,if_pos j];omega) fun ys J O=>Zm ?_);exact q _ J ((O.cons _).trans (Xl (Zf j)))
end
section
variable {prog:Program}{w:World}{A:Around}{E:Value->Shared->Prop}{s:Shared}{I a:Addr}{es:Array (Int×Value)}{ep:Nat}{t:SetTable}{first:Value}{i n:Nat}
theorem Zap {Q:Value->Shared->Prop}(j:YW s.heap I first i a n ep)(q:Q (.ref I) s):wpAny (model prog w) A (pyIter (.ref I)) Q E s:=by
 refine wpAny_pyIter_slot j.typeIs Xy (bv Xy j.typeIs UA ?_ (Za2 _));show wpAny _ _ (ret (.ref I)) _ _ s;exact Zm ⟨_,rfl, "set_iterator",_,j.typeIs,ZY.lookup,q⟩
noncomputable def Xr (es:Array (Int×Value)):List Value:=es.toList.map (·.2)
theorem ZeK (Y:A.handled=none)(O:w.params.followText "set-order"=true)(q:a≠I) :
  Walks prog w A I [I,a] [I] es.size (fun i v=>((pickOrder (w.params.setOrder a ep) es).toList.map (·.2))[i]?=some v) (fun i h=>YW h I (.int 0 0) i a es.size ep/\Jr h a es ep t) where
 sub:=fun b hb=>by simp at hb;simp[hb]
 frame:=fun _ _ _ st k=>⟨st.1.keep fun o e=>k I (by simp) o e,st.2.keep fun o e=>k a (by simp) o e⟩
 item:=fun i s Q E hi st j=>by
  have J:=WF (w.params.setOrder a ep) es;have hl:(pickOrder (w.params.setOrder a ep) es).size=es.size:=by rw[<-Zr,J.length_eq,Zr]
  have e:(pickOrder (w.params.setOrder a ep) es)[i]?=some ((pickOrder (w.params.setOrder a ep) es)[i]'(by omega)):=aM (by omega);generalize (pickOrder (w.params.setOrder a ep) es)[i]'(by omega)=y at e;refine ZbR (slot:=0) (x:=y.2) (nx:=0) st.1 st.2 rfl (fun {R A' E'} r=>Zeb O st.2 (by rw[e];exact r)) fun M i' U=>?_;refine j y.2 M s.toks ?_ ⟨i',st.2.keep fun o e=>U.extBut a o q e⟩ fun b o hb e=>U.extBut b o (fun z=>hb (by simp[z])) e;rw[Zc,cK,e];rfl
 done:=fun s Q E st j=>by
  have J:=WF (w.params.setOrder a ep) es;have hl:(pickOrder (w.params.setOrder a ep) es).size=es.size:=by rw[<-Zr,J.length_eq,Zr]
  refine Zew (slot:=0) Y st.1 st.2 rfl (fun {R A' E'} r=>Zeb O st.2 (by rw[cz (by omega)];exact r)) fun M k=>j M s.toks fun b o hb e=>k b o (fun z=>hb (by simp[z])) e
 self:=fun _ _ _ _ st j=>Zap st.1 j
theorem Zcs (hh:A.handled=none)(ht:w.params.followText "set-order"=false)(hd:t.plain=true\/es.size<=1)(W:Wk t true)(U:a≠I) :
  Walks prog w A I [I,a] [I] es.size (fun i v=>(Xr es)[i]?=some v) (fun i h=>∃slot:Nat,((i=0/\slot=0)\/(∃j x,i=j+1/\t.place[j]?=some x/\slot=x+1))/\YW h I (.int slot 0) i a es.size ep/\Jr h a es ep t) where
 sub:=fun b hb=>by simp at hb;simp[hb]
 frame:=fun _ _ _ st k=>by
  obtain⟨slot,M,J,q⟩:=st;exact⟨slot,M,J.keep fun o e=>k I (by simp) o e,q.keep fun o e=>k a (by simp) o e⟩
 item:=fun i s Q E hi st O=>by
  obtain⟨slot,M,J,q⟩:=st;have hf:t.place.size=es.size:=by
   obtain⟨_,_,_,_,f⟩:=q;simp only[lP,ag,beq_iff_eq] at f;exact f.1
  have hb:=Zec W.rise (i:=i) (slot:=slot) (by omega) M;have Y:es[i]?=some es[i]:=aM hi;have e2:t.place[i]?=some (t.place[i]'(by omega)):=aM (by omega);generalize es[i]=y at Y;generalize t.place[i]'(by omega)=j at e2;refine ZbR (slot:=slot) (x:=y.2) (nx:=j+1) J q rfl (fun {R A' E'} r=>ZbL ht q hd W.led (by rw[hb,Y,e2];exact r)) fun h' i' sb=>?_;refine O y.2 h' s.toks ?_ ⟨j+1,.inr ⟨i,j,rfl,e2,rfl⟩,i',q.keep fun o e=>sb.extBut a o U e⟩ fun b o hb e=>sb.extBut b o (fun z=>hb (by simp[z])) e;show (es.toList.map (·.2))[i]?=some y.2;rw[Zc,cK,Y];rfl
 done:=fun s Q E st O=>by
  obtain⟨slot,M,J,q⟩:=st;have hf:t.place.size=es.size:=by
   obtain⟨_,_,_,_,f⟩:=q;simp only[lP,ag,beq_iff_eq] at f;exact f.1
  have hb:=Zec W.rise (i:=es.size) (slot:=slot) (by omega) M;refine Zew (slot:=slot) hh J q rfl (fun {R A' E'} r=>ZbL ht q hd W.led (by rw[hb,cz (Zq _)];exact r)) fun h' k=>O h' s.toks fun b o hb e=>k b o (fun z=>hb (by simp[z])) e
 self:=fun _ _ _ _ st O=>by
  obtain⟨slot,M,J,q⟩:=st;exact Zap J O
theorem Zct (hh:A.handled=none){T0:Addr}{j:List Nat}(M:bG j (ae es.size))(m5:a≠I)(m6:T0≠I) :
  Walks prog w A I [I,a,T0] [I] es.size (fun i v=>(j.filterMap fun p=>(es[p]?).map (·.2))[i]?=some v) (fun i h=>YW h I (.ref T0) i a es.size ep/\Jr h a es ep t/\∃o k,h.get? T0=some o/\o.data=.seq (j.map fun (p:Nat)=>rawInt p).toArray k) where
 sub:=fun b hb=>by simp at hb;simp[hb]
 frame:=fun _ _ _ st k=>by
  obtain⟨U,O,o,k0,J,h4⟩:=st;exact⟨U.keep fun o e=>k I (by simp) o e,O.keep fun o e=>k a (by simp) o e,o,k0,k T0 (by simp) o J,h4⟩
 item:=fun i s Q E hi st Y=>by
  obtain⟨U,O,J⟩:=st;have hl:j.length=es.size:=by rw[M.length_eq,Zg]
  have e0:j[i]?=some (j[i]'(by omega)):=Zf (by omega);have hm:j[i]'(by omega)<es.size:=af.mp (M.mem_iff.mp (bC _));generalize j[i]'(by omega)=pl at e0 hm;have e1:es[pl]?=some es[pl]:=aM hm;generalize es[pl]=y at e1;obtain⟨hv,x⟩:=y;refine ZcW (pl:=pl) U J O rfl (by simp[e0,rawInt]) e1 fun h' i' sb=>?_;obtain⟨o,k0,J,h4⟩:=J;refine Y x h' s.toks ?_ ⟨i',O.keep fun o e=>sb.extBut a o m5 e,o,k0,sb.extBut T0 o m6 J,h4⟩ fun b o hb e=>sb.extBut b o (fun z=>hb (by simp[z])) e;have all:∀(l:List Nat),(∀p∈l,p<es.size)->(l.filterMap fun p=>(es[p]?).map (·.2))=l.map fun p=>(es.getD p (0,.none)).2:=fun l=>by
   induction l with
   |nil=>intro _;rfl
   |cons p l ih=>
    intro h;have M:=h p aq;rw[b9,aM M,dh,aQ,ih fun q hq=>h q (ao _ hq)];dsimp only;rw[cB,aM M];rfl
  rw[all j fun p hm=>af.mp (M.mem_iff.mp hm),Zc,e0,dh,cB,e1];rfl
 done:=fun s Q E st Y=>by
  obtain⟨U,O,J⟩:=st;have hl:j.length=es.size:=by rw[M.length_eq,Zg]
  refine Zfn hh U J O rfl (by rw[cz (by simp[hl])]) fun h' k=>Y h' s.toks fun b o hb e=>k b o (fun z=>hb (by simp[z])) e
 self:=fun _ _ _ _ st Y=>Zap st.1 Y
theorem Zge (hz:es.size<=sizeLine)(M:Jr s.heap a es ep t)(W:Wk t (!w.params.followText "set-order")){Q:Value->Shared->Prop}
  (q:∀(I:Addr) (fp:List Addr) (h':Heap) (dr:kw) (L:List Value) (St:Nat->Heap->Prop),s.heap.objs.size<=I->(∀b∈fp,b=a\/s.heap.objs.size<=b)->(∀b o,s.heap.get? b=some o->h'.get? b=some o)->bG L (Xr es)->
   (∀A':Around,A'.handled=none->Walks prog w A' I fp [I] es.size (fun i v=>L[i]?=some v) St)->St 0 h'->Q (.ref I) {s with heap:=h',drawn:=dr}) :
  wpAny (model prog w) A (pyIter (.ref a)) Q E s:=by
 have ha:a<s.heap.objs.size:=let ⟨o,e,_⟩:=M;Zp e;refine wpAny_pyIter_slot M.typeIs F.slot_set_iter (bv F.slot_set_iter M.typeIs V8 ?_ (F.args_set_iter_1 _));unfold cC.«frozenset.__iter__»;show wpAny _ _ (pure a >>= _) _ _ s;refine Zl (Zm ?_);refine Zl ?_;unfold Builtin.Frozenset.sizeOf;refine Zl (M.entries (Zm ?_));refine Zl ?_;unfold setDrawn;refine Zl (M.state ?_);dsimp only;refine Zl (Za0 (Zm ?_));show wpAny _ _ (if (!w.params.followText "set-order" && (!t.plain && decide (es.size > 1)))=true then _ else _) _ _ s
 by_cases J:(!w.params.followText "set-order" && (!t.plain && decide (es.size > 1)))=true
 ·rw[if_pos J]
  refine Zl (U4 _ _ (by rw[Zg];exact Zq _) fun O dr hp=>?_);have hl:O.length=es.size:=by rw[hp.length_eq,Zg]
  unfold newTuple;refine Zl (bO ?_ (by show (gF (fun (i:Nat)=>rawInt i) O).toArray.size<=sizeLine;rw[Zh,Za,hl];exact hz));have h1:(s.heap.push {cls:=.type "tuple",data:=.seq (gF (fun (i:Nat)=>rawInt i) O).toArray}).get? s.heap.objs.size=some {cls:=.type "tuple",data:=.seq (gF (fun (i:Nat)=>rawInt i) O).toArray}:=Zo _ rfl;have Y:∀b o,s.heap.get? b=some o->(s.heap.push {cls:=.type "tuple",data:=.seq (gF (fun (i:Nat)=>rawInt i) O).toArray}).get? b=some o:=fun b o e=>Zn _ e;have m5:(s.heap.push {cls:=.type "tuple",data:=.seq (gF (fun (i:Nat)=>rawInt i) O).toArray}).objs.size=s.heap.objs.size+1:=bt ..;generalize s.heap.push {cls:=.type "tuple",data:=.seq (gF (fun (i:Nat)=>rawInt i) O).toArray}=g1 at h1 Y m5 ⊢;have m6:Jr g1 a es ep t:=M.keep fun o e=>Y a o e;refine Zl (Jr.epoch (s:={s with heap:=g1,drawn:=dr}) m6 ?_);refine Zl ?_;unfold newFields;refine bO (Zm ⟨_,rfl, "set_iterator",_,⟨_,Zo _ rfl,rfl⟩,ZY.lookup,?_⟩) (by size_fits);refine q g1.objs.size [g1.objs.size,a,s.heap.objs.size] _ dr _ (fun i h=>YW h g1.objs.size (.ref s.heap.objs.size) i a es.size ep/\Jr h a es ep t/\∃o k,h.get? s.heap.objs.size=some o/\o.data=.seq (O.map fun (p:Nat)=>rawInt p).toArray k) (by omega) (fun b hb=>?_) (fun b o e=>Zn _ (Y b o e)) ?_
   (fun A' hh=>Zct hh hp (aC (by rw[m5];exact fe ha)) (aC (by rw[m5];exact c6 _))) ⟨⟨_,Zo _ rfl,rfl,rfl⟩,m6.keep fun o e=>Zn _ e,_,_,Zn _ h1,rfl⟩
  ·simp only[aG,dZ,or_false] at hb
   rcases hb with rfl|rfl|rfl
   ·right;omega
   ·left;rfl
   ·right;omega
  ·refine (hp.filterMap _).trans ?_
   have e:((ae es.size).filterMap fun p=>(es[p]?).map (·.2))=Xr es:=by
    unfold Xr;rw[<-filterMap_getElem?_range es,List.map_filterMap]
   rw[e]
 ·rw[if_neg J]
  refine Zl (Zm ?_);refine Zl (M.epoch ?_);refine Zl ?_;unfold newFields;refine bO (Zm ⟨_,rfl, "set_iterator",_,⟨_,Zo _ rfl,rfl⟩,ZY.lookup,?_⟩) (by size_fits);have U:∀b∈[s.heap.objs.size,a],b=a\/s.heap.objs.size<=b:=fun b hb=>by
   simp only[aG,dZ,or_false] at hb;rcases hb with rfl|rfl
   ·right;omega
   ·left;rfl
  cases ht:w.params.followText "set-order" with
  |true=>
   refine q s.heap.objs.size [s.heap.objs.size,a] _ s.drawn _ (fun i h=>YW h s.heap.objs.size (.int 0 0) i a es.size ep/\Jr h a es ep t) (Zq _) U (fun b o e=>Zn _ e) ?_
    (fun A' hh=>ZeK hh ht (aC ha)) ⟨⟨_,Zo _ rfl,rfl,rfl⟩,M.keep fun o e=>Zn _ e⟩
   exact (WF _ es).map _
  |false=>
   rw[ht] at W J;refine q s.heap.objs.size [s.heap.objs.size,a] _ s.drawn _ (fun i h=>∃slot:Nat,((i=0/\slot=0)\/(∃j x,i=j+1/\t.place[j]?=some x/\slot=x+1))/\YW h s.heap.objs.size (.int slot 0) i a es.size ep/\Jr h a es ep t) (Zq _) U (fun b o e=>Zn _ e) (cS _)
    (fun A' hh=>Zcs hh ht ?_ W (aC ha)) ⟨0,.inl ⟨rfl,rfl⟩,⟨_,Zo _ rfl,rfl,rfl⟩,M.keep fun o e=>Zn _ e⟩
   cases hp:t.plain with
   |true=>exact .inl rfl
   |false=>
    rw[hp] at J;right;by_cases h1:es.size > 1
    ·exfalso
     apply J;simp[h1]
    ·omega
end
end PyS
namespace PyS
open PySem PySem.W PyProof.Rows PySem.Calls PyProof.V PySem.Spec
section
variable {prog:Program}{w:World}{A:Around}{E:Value->Shared->Prop}{s:Shared}{a:Addr}{es:Array (Int×Value)}{ep:Nat}{t:SetTable}
theorem Zhz {r:Addr}{Q:Bool->Shared->Prop}(J:s.TypeIs (.ref r) "set")(h:Q false s):wpAny (model prog w) A (fh (.ref r)) Q E s:=by
 unfold fh;refine Zl (wpAny_specialOf J PySem.F.slot_set_len.lookup ?_);generalize q:("set.__len__":String)=M
 wp_delta
 rw[show splitId M=some ("set", "__len__") from by subst q;decide +kernel];subst q;refine Zl (gZ (T:="set") (b:=true) J (by rw[kf];kernel_rfl) ?_);refine jP (fun j=>absurd j (by decide)) (fun _=>?_);refine jP (fun _=>?_) (fun j=>absurd (by decide +kernel) j);refine Zl (ic J ?_);exact Zm h
theorem Zhp {L:List Value}{ZE:Array Value}{n:Nat}(q:L.length=n)(h:gL (fun i v=>L[i]?=some v) ZE n):ZE.toList=L:=by
 refine bf fun i=>?_;by_cases j:i<n
 ·have e:ZE[i]?=some (ZE[i]'(by rw[h.1];exact j)):=aM _
  rw[cK,e];exact (h.2 i _ e).symm
 ·rw[ak (by rw[Zr,h.1];omega),ak (by omega)]
structure Src (prog:Program)(w:World)(T:String)(a d:Addr)(n:Nat)(Good:(Nat->Value->Prop)->Prop)(OK:Heap->Prop):Prop where
 type:∀s:Shared,OK s.heap->s.TypeIs (.ref a) T
 there:∀s:Shared,OK s.heap->d<s.heap.objs.size
 keep:∀h h':Heap,OK h->(∀b o,h.get? b=some o->h'.get? b=some o)->OK h'
 notList:(cn T == cn "list")=false
 notTuple:(cn T == cn "tuple")=false
 hint:∀(A:Around) (E:Value->Shared->Prop) (s:Shared) (Q:Bool->Shared->Prop),OK s.heap->Q false s->wpAny (model prog w) A (fh (.ref a)) Q E s
 iter:∀(A:Around) (E:Value->Shared->Prop) (s:Shared) (Q:Value->Shared->Prop),OK s.heap->
  (∀(I:Addr) (fp:List Addr) (h':Heap) (dr:kw) (P:Nat->Value->Prop) (St:Nat->Heap->Prop),s.heap.objs.size<=I->(∀b∈fp,b=a\/b=d\/s.heap.objs.size<=b)->(∀b o,s.heap.get? b=some o->h'.get? b=some o)->Good P->
   (∀A':Around,A'.handled=none->Walks prog w A' I fp [I] n P St)->St 0 h'->Q (.ref I) {s with heap:=h',drawn:=dr})->wpAny (model prog w) A (pyIter (.ref a)) Q E s
section
variable {T:String}{d:Addr}{n:Nat}{Good:(Nat->Value->Prop)->Prop}{OK:Heap->Prop}
theorem ZcD {R:Result->Shared->Prop}(C:Src prog w T a d n Good OK)(hh:A.handled=none)(hz:n<=sizeLine)(Y:OK s.heap)(S:Addr)(m6:S≠a)(o0:S≠d)(res:Value)(U:Nat)(hL:s.heap.get? S=some {cls:=.type "list",data:=.seq #[] U})
  (hR:∀h' dr tk (q:Array Value) c' P,(∀b o,b≠S->s.heap.get? b=some o->h'.get? b=some o)->h'.get? S=some {cls:=.type "list",dict:=none,data:=.seq q c',slots:=#[]}->Good P->gL P q n->R (.ok (.ret res)) {s with heap:=h',drawn:=dr,toks:=tk}) :
  wpAny (model prog w) A.in1 (cZ (.ref S) (.ref a) res)
   (fun fin s'=>match fin with | .done f=>R (.ok f) s' | .again c'=>c'.quiet=true/\codeAny (model prog w) A c' R s') (fun e s'=>R (.error e) s') s:=by
 have o5:S<s.heap.objs.size:=Zp hL;unfold cZ;refine Zl (ic (T:=T) (C.type s Y) ?_);have h1:iL (.ref S) (.ref a)=false:=by simp[iL,m6]
 simp only[h1,C.notList,C.notTuple,fu,di,if_false];refine Zl (C.iter _ _ _ _ Y fun I fp h' dr P St hI o6 hk hp m8 st=>?_);have n6:S∉fp:=fun z=>by
  rcases o6 S z with e|e|e
  ·exact m6 e
  ·exact o0 e
  ·exact absurd o5 (Nat.not_lt.mpr e)
 have key:∀(h:Heap) (J tk:Nat),St 0 h->(∀b o,b≠S->s.heap.get? b=some o->h.get? b=some o)->
   h.get? S=some {cls:=.type "list",data:=.seq #[] J}->codeAny (model prog w) A (.builtin "list.extend.loop" ⟨[.ref S,.ref I,res],[]⟩) R {s with heap:=h,drawn:=dr,toks:=tk}:=by
  intro h J tk o7 hk j;refine codeAny_extend_loopS (m8 A.in1 hh).toS hz S n6 res n 0 _ #[] J rfl (a5 _) o7 j (ItemsOf.nil _) fun s' q c' hm o8 n8=>?_;rw[Moved.eq_with hm];refine hR s'.heap dr s'.toks q c' P (fun b o hb e=>hm.heap b o (fun M=>?_) (hk b o hb e)) o8 hp n8;rcases aG.mp M with e'|M
  ·exact hb e'
  ·exact absurd (Zp e) (by rw[aS.mp M];exact Nat.not_lt.mpr hI)
 have j:=hk S _ hL;refine Zl (cM (C.hint _ _ {s with heap:=h',drawn:=dr} _ (C.keep _ _ Y fun b o e=>hk b o e) ?_));refine jP (fun _=>?_) (fun _=>Zm ⟨cY je _,key _ U _ st (fun b o _ e=>hk b o e) j⟩);refine Zl (eE ?_);refine Zl ?_;show wpAny _ _ (updateSeq S (·.push .none) >>= fun _=>updateSeq S (·.pop)) _ _ _;refine Zl (wpAny_updateSeq j rfl ?_);have O:=bB (cL (·.push a9)) j rfl;refine wpAny_updateSeq (hz:=by seq_fits) O rfl ?_;have m5:=bB (cL (·.pop)) O rfl;refine Zm ⟨cY je _,key _ _ _ ?_ (fun b o hb e=>?_) m5⟩
 ·refine (m8 A.in1 hh).frame 0 _ _ st fun b hb o e=>?_
  have n9:b≠S:=fun h=>n6 (h▸hb);exact (bS _ _ (bh n9)).trans ((bS _ _ (bh n9)).trans e)
 ·exact (bS _ _ (bh hb)).trans ((bS _ _ (bh hb)).trans (hk b o e))
theorem Zbh {R:List Value->Shared->Prop}(C:Src prog w T a d n Good OK)(hh:A.handled=none)(hz:n<=sizeLine)(O:OK s.heap)
  (h:∀(h':Heap) (dr:kw) (tk:Nat) (ZE:Array Value) (P:Nat->Value->Prop),s.heap.objs.size<h'.objs.size->(∀b o,s.heap.get? b=some o->h'.get? b=some o)->Good P->gL P ZE n->R ZE.toList {s with heap:=h',drawn:=dr,toks:=tk}) :
  wpAny (model prog w) A (collect (.ref a)) R E s:=by
 have ha:a<s.heap.objs.size:=let ⟨o,e,_⟩:=C.type s O;Zp e;unfold collect;refine Zl (ka (bX entry_proto_collect' ?_));rw[bD iZ _];show wpAny _ A.in1 (newList [] >>= fun l=>again (.builtin "list.__iadd__" ⟨[l,.ref a],[]⟩)) _ _ s;refine Zl (bO ?_);refine Zm ⟨cY eL _,bX entry_list_iadd' ?_⟩;rw[bD eL _];have U:(s.heap.push {cls:=.type "list",data:=.seq ([]:List Value).toArray}).get? s.heap.objs.size=some {cls:=.type "list",data:=.seq #[]}:=Zo _ rfl;show wpAny _ A.in1 (cZ (.ref s.heap.objs.size) (.ref a) (.ref s.heap.objs.size)) _ _ _;have m5:=ZcD (prog:=prog) (w:=w) (A:=A) (s:={s with heap:=s.heap.push {cls:=.type "list",data:=.seq ([]:List Value).toArray}})
  (R:=fun (q:Result) (s':Shared)=>∃(h':Heap) (dr:kw) (tk:Nat) (j:Array Value) (Y:Nat) (P:Nat->Value->Prop),q=.ok (.ret (.ref s.heap.objs.size))/\s'={s with heap:=h',drawn:=dr,toks:=tk}/\
   (∀b o,s.heap.get? b=some o->h'.get? b=some o)/\h'.get? s.heap.objs.size=some {cls:=.type "list",dict:=none,data:=.seq j Y,slots:=#[]}/\Good P/\gL P j n)
  C hh hz (C.keep _ _ O fun b o e=>Zn _ e) s.heap.objs.size (bb ha) (bb (C.there _ O)) (.ref s.heap.objs.size) 0 U
  (fun h' dr tk j Y P hk M hg J=>⟨h',dr,tk,j,Y,P,rfl,rfl,fun b o e=>hk b o (aC (Zp e)) (Zn _ e),M,hg,J⟩)
 refine cv m5 (fun m6 s' x=>?_) fun e s' x=>?_
 ·cases m6 with
  |done f=>
   obtain⟨h',dr,tk,j,Y,P,e,rfl,hk,M,hg,J⟩:=x;cases e;show wpAny _ A (load s.heap.objs.size >>= _) _ _ _;refine Zl (i6 M ?_);exact Zm (h h' dr tk j P (Zp M) hk hg J)
  |again m8=>
   refine⟨x.1,fq x.2 fun q n6 y=>?_⟩;obtain⟨h',dr,tk,j,Y,P,rfl,rfl,hk,M,hg,J⟩:=y;show wpAny _ A (load s.heap.objs.size >>= _) _ _ _;refine Zl (i6 M ?_);exact Zm (h h' dr tk j P (Zp M) hk hg J)
 ·obtain⟨_,_,_,_,_,_,e',_⟩:=x
  cases e'
noncomputable def ZcV:Value->Int
 | .int k _=>k
 |_=>0
theorem Zhw:∀{l:List Value}{ns:List Int},a8 l ns->ns=l.map ZcV
 |_,_,.nil=>rfl
 |_,_,.cons n t r=>by rw[aQ,<-Zhw r];rfl
theorem Zhv:∀{l:List Value}{ns:List Int},a8 l ns->∀v∈l,∃k t,v=.int k t
 |_,_,.nil,v,h=>by cases h
 |_,_,.cons n t r,v,h=>by
  rcases aG.mp h with h|h
  ·exact⟨n,t,h⟩
  ·exact Zhv r v h
theorem Zhu:∀{l:List Value},(∀v∈l,∃k t,v=.int k t)->a8 l (l.map ZcV)
 | [],_=>.nil
 |v::l,h=>by
  obtain⟨k,t,rfl⟩:=h v aq;exact .cons k t (Zhu fun u j=>h u (ao _ j))
theorem ZjL {l j:List Value}{ns:List Int}(p:bG j l)(h:a8 l ns):a8 j (j.map ZcV)/\bG (j.map ZcV) ns:=
 ⟨Zhu fun v q=>Zhv h v (p.mem_iff.mp q),by rw[Zhw h];exact p.map _⟩
theorem ZcC {Q:Value->Shared->Prop}(C:Src prog w T a d n Good OK)(hh:A.handled=none)(m8:n<64)(U:OK s.heap){ns:List Int}(hi:∀P ZE,Good P->gL P ZE n->a8 ZE.toList (ZE.toList.map ZcV)/\bG (ZE.toList.map ZcV) ns)
    (q:∀(D:Addr) (h':Heap) (Y:kw) (tk:Nat) (out:List Value) (j:List Int) (c:Nat),s.heap.objs.size<=D->(∀b o,s.heap.get? b=some o->h'.get? b=some o)->h'.get? D=some (seqObj "list" out.toArray c)->a8 out j->bG j ns->j.Pairwise (· ≤ ·)->Q (.ref D) {s with heap:=h',drawn:=Y,toks:=tk}) :
    wpAny (model prog w) A (call (.builtin "sorted") [.ref a]) Q E s:=by
  have hz : n ≤ sizeLine := by have:(16777216:Nat)=sizeLine:=by decide
                               omega
  refine kK kind_sorted plain_sorted entry_sorted (args_sorted1 _) ?_;unfold cC.«sorted»;refine Zl (m:=checkCount "sorted" 1 1 _) (Zm ?_);refine Zl (Zbh (A:=A.in1) C hh hz U fun h' Y tk ZE P O hk hg J=>?_);obtain⟨i1,i2⟩:=hi P ZE hg J;have hl:ZE.toList.length=n:=by rw[Zr];exact J.1
  generalize ZE.toList=M at i1 i2 hl ⊢;refine Zl (kS ?_ (by rw[hl];exact hz));have ho:(h'.push {cls:=.type "list",data:=.seq M.toArray}).get? h'.objs.size=some (seqObj "list" M.toArray 0):=Zo _ rfl;have m5:∀b o,s.heap.get? b=some o->(h'.push {cls:=.type "list",data:=.seq M.toArray}).get? b=some o:=fun b o e=>Zn _ (hk b o e);refine Zl (cM ?_);refine bv slot_list_sort ⟨_,ho,rfl⟩ entry_list_sort (list_sort_tree (n:=0) (vs:=M) ho i1 (by omega) fun out j hI m6 hP=>⟨.none,rfl,?_⟩) (args_list_sort _);refine Zm ⟨_,rfl,?_⟩;have o1:=jV ho (fun _=>(#[]:Array Value));have o2:=Zn (seqObj "tuple" M.toArray 0) o1;have o3:=Zn (seqObj "list" #[] 0) o2;have o4:=jV o3 (fun _=>out);refine q h'.objs.size _ Y tk out.toList j _ (cR O) (fun b o e=>?_) (by rw[kG];exact o4) hI (m6.trans i2) hP;have hb:b≠h'.objs.size:=aC (iU (Zp e) O);unfold sortedHeap;rw[bS _ _ (bh hb)];refine Zn _ (Zn _ ?_);rw[bS _ _ (bh hb)];exact m5 b o e
end
theorem ZiE (hz:es.size<=sizeLine)(W:Wk t (!w.params.followText "set-order")):Src prog w "set" a a es.size (fun P=>∃L:List Value,bG L (Xr es)/\P=fun i v=>L[i]?=some v) (fun h=>Jr h a es ep t) where
 type:=fun s h=>Jr.typeIs h
 there:=fun s S=>let ⟨o,e,_⟩:=Jr.typeIs (s:=s) S;Zp e
 keep:=fun h M S k=>S.keep (k a)
 notList:=by decide
 notTuple:=by decide
 hint:=fun A E s Q S q=>Zhz (Jr.typeIs S) q
 iter:=fun A E s Q S q=>Zge hz S W fun I O M U L St Y j hk hp J st=>q I O M U _ St Y (fun b hb=>(j b hb).elim .inl fun z=>.inr (.inr z)) hk ⟨L,hp,rfl⟩ J st
theorem ZcG {ns:List Int}{Q:Value->Shared->Prop}(U:A.handled=none)(M:es.size<64)(Y:Jr s.heap a es ep t)(W:Wk t (!w.params.followText "set-order"))(hi:a8 (Xr es) ns)
    (q:∀(D:Addr) (h':Heap) (dr:kw) (tk:Nat) (out:List Value) (j:List Int) (c:Nat),s.heap.objs.size<=D->(∀b o,s.heap.get? b=some o->h'.get? b=some o)->h'.get? D=some (seqObj "list" out.toArray c)->a8 out j->bG j ns->j.Pairwise (· ≤ ·)->Q (.ref D) {s with heap:=h',drawn:=dr,toks:=tk}) :
    wpAny (model prog w) A (call (.builtin "sorted") [.ref a]) Q E s:=by
  have hz : es.size ≤ sizeLine := by have:(16777216:Nat)=sizeLine:=by decide
                                     omega
  refine ZcC (ZiE (ep:=ep) hz W) U M Y (ns:=ns) (fun P ZE hg J=>?_) q;obtain⟨L,O,rfl⟩:=hg;rw[Zhp (by rw[O.length_eq];unfold Xr;rw[Za,Zr]) J];exact ZjL O hi
section
variable {K:Type} [DecidableEq K]{knd:PySem.KeyKind prog w K}{kvs:List (K×Value)}
end
end
structure SX (prog:Program)(w:World)(h:Heap)(a:Addr)(es:Array (Int×Value))(ep:Nat)(t:SetTable)(S:Int->Bool)(n:Nat):Prop where
 at_:Jr h a es ep t
 el:ElemsOf (intKind prog w) es.toList
 mem:∀k,S k=true↔∃e∈es.toList,(intKind prog w).is k e.2=true
 sb:es.size<scanBound
 sz:es.size=n
 wk:Wk t (!w.params.followText "set-order")
noncomputable def XR (prog:Program)(w:World)(h:Heap)(a:Addr)(S:Int->Bool)(n:Nat):Prop:=∃j q t,SX prog w h a j q t S n
section
variable {prog:Program}{w:World}{A:Around}{E:Value->Shared->Prop}{s:Shared}{a:Addr}
theorem XR.keep {h h':Heap}{S:Int->Bool}{n:Nat}(X:XR prog w h a S n)(k:∀o,h.get? a=some o->h'.get? a=some o):XR prog w h' a S n:=by
 obtain⟨j,q,t,X⟩:=X;exact⟨j,q,t,X.at_.keep k,X.el,X.mem,X.sb,X.sz,X.wk⟩
theorem XR.congr {h:Heap}{S j:Int->Bool}{n q:Nat}(X:XR prog w h a S n)(e:∀k,S k=j k)(J:n=q):XR prog w h a j q:=by
 have:S=j:=funext e;subst this;subst J;exact X
theorem stored {h:Heap}{q es':Array (Int×Value)}{ep:Nat}{t t':SetTable}(S:Jr h a q ep t)(hf:t'.fits es'.size=true):Jr (h.update a (iJ es' t')) a es' (ep+1) t':=by
 obtain⟨o,e,x,d,_⟩:=S;have j:=bB (iJ es' t') e (by rw[putSet_of es' t' d];rfl);rw[putSet_of es' t' d] at j;exact⟨_,j,x,rfl,hf⟩
theorem W1 {j es':Array (Int×Value)}{ep:Nat}{t t':SetTable}{Q:Unit->Shared->Prop}(S:Jr s.heap a j ep t)(hz:es'.size<=sizeLine)(q:Q () {s with heap:=s.heap.update a (iJ es' t')}):wpAny (model prog w) A (storeSet a es' t') Q E s:=by
 obtain⟨o,e,x,d,_⟩:=S;exact wpAny_storeSet_of e d q hz
theorem Zcn {g:Bool->Sem Unit}(hg:∀(b:Bool) (O:Shared) (Q':Unit->Shared->Prop),Q' () O->wpAny (model prog w) A (g b) Q' E O){es j:Array (Int×Value)}{ep:Nat}{t q:SetTable}{led:Bool}(S:Jr s.heap a es ep t)(hz:j.size<=sizeLine)(f2:q.fits j.size=true)(w2:Wk q led)
  {U:Bool}{R:Option Bool->Shared->Prop} (fin:∀(h':Heap) (es':Array (Int×Value)) (n6:Nat) (t':SetTable),ba a s.heap h'->Jr h' a es' n6 t'->bG es'.toList j.toList->Wk t' led->R (some true) {s with heap:=h'}) :
  wpAny (model prog w) A (do
    storeSet a j q
    if (!U && q.tooFull)=true then do
      g (relayAll q j (dF j.size)).2.2
      storeSet a (relayAll q j (dF j.size)).1 (relayAll q j (dF j.size)).2.1
      pure (some true)
     else pure (some true)) R E s:=by
 refine Zl (W1 S hz ?_);have S2:=stored S (es':=j) f2;have Y:=bF s.heap a (iJ j q);generalize s.heap.update a (iJ j q)=h2 at S2 Y ⊢;by_cases J:(!U && q.tooFull)=true
 ·rw[if_pos J]
  have M:=relayAll_perm q j (dF j.size);have m5:=relayAll_fits q j (dF j.size);have m6:=w2.relay j (dF j.size);generalize relayAll q j (dF j.size)=Rl at M m5 m6 ⊢;obtain⟨m8,t3,n8⟩:=Rl;dsimp only at M m5 m6 ⊢;have n9:m8.size=j.size:=by rw[<-Zr,M.length_eq,Zr]
  refine Zl (hg _ _ _ ?_);refine Zl (W1 (s:={s with heap:=h2}) S2 (by rw[n9];exact hz) ?_);exact Zm (fin _ m8 _ t3 (Y.trans (bF _ a _)) (stored S2 m5) M m6)
 ·rw[if_neg J]
  exact Zm (fin h2 j _ q Y S2 (cS _) w2)
theorem add_int {S:Int->Bool}{n:Nat}{k:Int}{x:Value}{Q:Bool->Shared->Prop}(m6:(intKind prog w).is k x=true)(n9:x.scannable=true)(X:XR prog w s.heap a S n)(o0:n+1<scanBound)
  (q:∀b h',ba a s.heap h'->XR prog w h' a (fun k'=>S k' || decide (k'=k)) (if S k then n else n+1)->Q b {s with heap:=h'}) :
  wpAny (model prog w) A (setAddHashed a x ((intKind prog w).hash k)) Q E s:=by
 obtain⟨es,ep,t,X⟩:=X;obtain⟨o,e1,e2,e3,e4⟩:=id X.at_;unfold setAddHashed setAddHashedIn;refine cM (Zl (X.at_.state ?_));dsimp only;rw[byScan_of n9 X.sb X.el];simp only[↓reduceIte];unfold setAddByScan;refine Zl (Zl (eE (Zl (wpAny_setScan_of m6 e1 e3 e4 X.el ?_))));cases hr:List.findIdx? (fun e=>(intKind prog w).is k e.2) es.toList with
 |some j=>
  obtain⟨hj,p3,_⟩:=List.findIdx?_eq_some_iff_getElem.mp hr;have n8:S k=true:=(X.mem k).mpr ⟨_,bC hj,p3⟩;refine Zm (Zm ?_);have:=q false s.heap (Heap.SameBut.refl a s.heap) ⟨es,ep,t,X.at_,X.el,fun k'=>?_,X.sb,by rw[n8];exact X.sz,X.wk⟩
  ·exact this
  ·rw[bq,decide_eq_true_eq,<-X.mem k']
   exact⟨fun h=>h.elim id fun e=>by rw[e];exact n8,.inl⟩
 |none=>
  have n8:S k=false:=by
   cases hk:S k with
   |false=>rfl
   |true=>
    obtain⟨e,he,hp⟩:=(X.mem k).mp hk;have:=List.findIdx?_eq_none_iff.mp hr e he;rw[hp] at this;exact Bool.noConfusion this
  dsimp only;have J:=layNew_perm t es ((intKind prog w).hash k) x;have M:=layNew_fits t es ((intKind prog w).hash k) x;have m8:=X.wk.lay es ((intKind prog w).hash k) x;generalize layNew t es ((intKind prog w).hash k) x=L at J M m8 ⊢;obtain⟨m5,t1,p7,o6⟩:=L;dsimp only at J M m8 ⊢;rw[lJ] at J;have p4:∀(b:Bool) {U:Shared}{Q':Unit->Shared->Prop},Q' () U->wpAny (model prog w) A (match b with|true=>rule "set.scan.the-table-gave-way" |false=>pure ()) Q' E U:=
   fun b U Q' hq=>by cases b <;> first|exact Zm hq|exact eE hq
  have o7:m5.size=n+1:=by rw[<-Zr,J.length_eq,Zd,Zr,X.sz];rfl
  have p6:ElemsOf (intKind prog w) m5.toList:=(X.el.push m6 n9).perm J;have o8:∀k',(S k' || decide (k'=k))=true↔∃e∈m5.toList,(intKind prog w).is k' e.2=true:=mem_push_iff m6 X.mem J;have o5:m5.size<scanBound:=by rw[o7];exact o0
  have zl:∀m,m<scanBound->m<=sizeLine:=fun m h=>fits_of_scanBound h;have o9:∀(h':Heap) (O:Array (Int×Value)) (Y:Nat) (t':SetTable),ba a s.heap h'->Jr h' a O Y t'->bG O.toList m5.toList->Wk t' (!w.params.followText "set-order")->Q true {s with heap:=h'}:=fun h' O Y t' sb at' hp n6=>by
   have hs:O.size=m5.size:=by rw[<-Zr,hp.length_eq,Zr]
   refine q true h' sb ⟨O,Y,t',at',p6.perm hp,fun k'=>?_,by rw[hs];exact o5,by rw[n8,hs];exact o7,n6⟩;rw[o8 k'];exact⟨fun ⟨e,he,r⟩=>⟨e,hp.mem_iff.mpr he,r⟩,fun ⟨e,he,r⟩=>⟨e,hp.mem_iff.mp he,r⟩⟩
  refine Zl (p4 o6 ?_);split
  ·refine Zl ?_
   rw[hashByValue_scannable 8 n9];refine Zm ?_;refine Zcn (fun b U Q' hq=>?_) X.at_ (zl _ o5) ?_ ?_ fun h' O Y t' sb at' hp n6=>Zm (o9 h' O Y t' sb at' hp n6)
   ·cases b <;> first|exact Zm hq|exact eE hq
   ·split
    ·exact M
    ·exact SetTable.fits_plain_off M
   ·split
    ·exact m8
    ·exact m8.plain false
  ·refine Zl (Zm ?_)
   simp only[↓reduceIte];refine Zcn (fun b U Q' hq=>?_) X.at_ (zl _ o5) M m8 fun h' O Y t' sb at' hp n6=>Zm (o9 h' O Y t' sb at' hp n6);cases b <;> first|exact Zm hq|exact eE hq
end
section
variable {prog:Program}{w:World}{A:Around}{R:Result->Shared->Prop}{I:Addr}{fp wr:List Addr}{G:Array GenState->Array GenState->Prop}{n:Nat}{P:Nat->Value->Prop}{St:Nat->Shared->Prop}
theorem ZfR (W:WalksS prog w A.in1 I fp wr G n P St)(S:Addr)(O:S∉fp)(val:Nat->Int)(U:∀i v,P i v->∃t,v=.int (val i) t)(hb:n+1<scanBound) :
  ∀(k i:Nat) (s:Shared),n-i=k->i<=n->St i s->XR prog w s.heap S (fun M=>(firstMet val i).any (· == M)) (firstMet val i).length->
   (∀s',Moved (S::wr) G s s'->XR prog w s'.heap S (fun M=>(firstMet val n).any (· == M)) (firstMet val n).length->R (.ok (.ret .none)) s')->
   codeAny (model prog w) A (.builtin "set.update.loop" ⟨[.ref S,.ref I],[]⟩) R s:=by
 have Y:S∉wr:=fun h=>O (W.sub _ h);have j:∀b∈wr,b∈S::wr:=fun b hb=>ao _ hb;intro k;induction k with
 |zero=>
  intro i s hk hi q hS hR;have n9:i=n:=by omega
  subst n9;refine bX gt ?_;rw[bD dE _];show wpAny _ A.in1 (pyNext (.ref I) >>= _) _ _ s;refine Zl (W.done s _ _ q fun s' hm=>?_);show wpAny _ A.in1 (ret a9) _ _ s';exact Zm (hR s' (hm.mono j) (hS.keep fun o e=>hm.heap S o Y e))
 |succ k ih=>
  intro i s hk hi q hS hR;have m5:i<n:=by omega
  refine bX gt ?_;rw[bD dE _];show wpAny _ A.in1 (pyNext (.ref I) >>= _) _ _ s;refine Zl (W.item i s _ _ m5 q fun v s' hP m6 hm=>?_);obtain⟨t,rfl⟩:=U i v hP;have o0:=hS.keep fun o e=>hm.heap S o Y e;show wpAny _ A.in1 (holding [fN (val i) t] (setAdd S (.int (val i) t)) >>= _) _ _ s';refine Zl (cM ?_);unfold setAdd;refine cM ?_;refine Zl ((intKind prog w).pyHash (k:=val i) (intKind_is _ _ _ _) ?_);have J:(firstMet val i).length+1<scanBound:=by have:=ja val i;omega
  refine add_int (s:={s' with toks:=s'.toks+1}) (intKind_is _ _ _ _) rfl o0 J fun _ h' m8 o5=>?_;have o6:XR prog w h' S (fun M=>(firstMet val (i+1)).any (· == M)) (firstMet val (i+1)).length:=
   o5.congr (fun M=>by rw[lu,step_any]) (by rw[lu,step_length])
  refine Zm ⟨cY dE _,ih (i+1) _ (by omega) m5 (W.frame _ s' _ _ m6 (gu _) fun b hb o e=>?_) o6 fun o7 n6 n8=>?_⟩
  ·rw[m8.2 b (fun h:b=S=>O (by rw[<-h];exact hb))];exact e
  ·refine hR o7 (Moved.trans W.gtrans ((hm.mono j).then_heap (gu _) fun b o hb e=>?_) n6) n8
   rw[m8.2 b (fun h:b=S=>hb (by rw[h];exact aq))];exact e
end
section
variable {prog:Program}{w:World}{A:Around}{E:Value->Shared->Prop}{s:Shared}
theorem ZiK (a:Value){Q₁:Value->Shared->Prop}
  (h:Q₁ (.ref s.heap.objs.size) {s with heap:=s.heap.push {cls:=.type "set",dict:=none,data:=.set #[] 0 (.fresh 0 0 (!w.params.followText "set-order"))}}) :
  codeAny (model prog w) A (.call (.builtin "set.__new__") ⟨[.type "set",a],[]⟩) (wants Q₁ E) s:=by
 refine jQ ?_;show wpAny _ A.in1 (do checkBuiltinCall "set.__new__" ⟨[.type "set",a],[]⟩;again (.builtin "set.__new__" ⟨[.type "set",a],[]⟩)) _ _ s
 refine Zl (jG (PySem.F.newCall_set_1 a) (Zm ⟨cY jL _,bX PySem.F.entry_set_new ?_⟩));rw[bD jL _];unfold cC.«set.__new__» Builtin.Frozenset.newClass;have j:=sub_set_self;obtain⟨q,g,d,tk,os⟩:=s;dsimp only
 wp_walk
 refine jC (Zm ?_);dsimp only;simp only[newObj];refine Zl (wpAny_alloc (Zm ?_));exact Zm h
theorem ZjO {h:Heap}{a:Addr}(e:h.get? a=some {cls:=.type "set",dict:=none,data:=.set #[] 0 (.fresh 0 0 (!w.params.followText "set-order"))}):XR prog w h a (fun _=>false) 0:=
 ⟨#[],0,_,⟨_,e,⟨rfl,rfl,rfl⟩,rfl,rfl⟩,fun x j=>(by simp at j),fun k=>(by simp),by unfold scanBound;decide,rfl,Wk.fresh _⟩
noncomputable abbrev ZeH (prog:Program)(w:World)(s:Shared)(ns:List Int)(n:Nat)(h':Heap):Prop:=
 XR prog w h' s.heap.objs.size (fun j=>(L2.Jq ns n).any (· == j)) (L2.Jq ns n).length/\∀b o,b<s.heap.objs.size->s.heap.get? b=some o->h'.get? b=some o
theorem Zbq {l:Addr}{items:Array Value}{ns:List Int}{Q:Value->Shared->Prop}(hh:A.handled=none)(hl:s.heap.IsList l items)(hi:a8 items.toList ns)(hb:items.size+1<scanBound)
  (h:∀(h':Heap) (tk:Nat),ZeH prog w s ns items.size h'->Q (.ref s.heap.objs.size) {s with heap:=h',toks:=tk}):wpAny (model prog w) A (call (.type "set") [.ref l]) Q E s:=by
 obtain⟨c,tl,p6⟩:=ck.mro;have o0:=ck.made;have p7:=ck.sub;refine wpAny_call (jQ ?_);show wpAny _ _ (callAny (.type "set") _) _ _ _;refine Zm ⟨Code.quiet_builtin _ (by decide +kernel),bX PySem.F.entry_type_call ?_⟩;rw[Around.under_plain (weight_type_call_type "set" [.ref l] []) rfl];have h1:=ck.notType;have h2:=ck.canCreate;have r9:=PySem.F.typeCall_set_1 (.ref l)
 repeat (any_goals (first|assumption|wp_step))
 let J:Obj:={cls:=.type "set",dict:=none,data:=.set #[] 0 (.fresh 0 0 (!w.params.followText "set-order"))}
 refine fq (ZiK (.ref l) (E:=E) (Q₁:=fun obj M=>obj=.ref s.heap.objs.size/\M={s with heap:=s.heap.push J}) ⟨rfl,rfl⟩) fun r M hr=>?_;cases r with
 |error e=>exact hr
 |ok fl=>
  cases fl with
  |ret obj=>
   obtain⟨rfl,rfl⟩:=hr;have hS:(s.heap.push J).get? s.heap.objs.size=some J:=Zo _ rfl;have hT:Shared.TypeIs {s with heap:=s.heap.push J} (.ref s.heap.objs.size) "set":=⟨_,hS,rfl⟩;have t0:=ck.init.lookup;have t5:=ck.init.bind (.ref s.heap.objs.size)
   repeat (any_goals (first|assumption|wp_step))
   refine fq (codeAny_call_builtin (R:=wants (fun r O=>r=.none/\∃h' tk,O={s with heap:=h',toks:=tk}/\ZeH prog w s ns items.size h') E) ck.init.plain PySem.F.entry_set_init (check_set_init_1 hT ?_)) fun m6 O j=>?_
   ·obtain⟨ol,V6,m8,nl,n6⟩:=id hl
    obtain⟨q0,Y,o5,q⟩:=ol;simp only at m8 n6;subst m8;subst n6;have U:(s.heap.push J).get? l=some {cls:=.type "list",dict:=Y,data:=.seq items nl,slots:=q}:=Zn _ V6;have r6:=PySem.F.sub_list_set;have r8:=PySem.F.sub_list_frozenset;have t6:(cn "list" == cn "dict")=false:=by decide
    have o6:(s.heap.push J).IsList l items:=⟨_,U,rfl,nl,rfl⟩;unfold cC.«set.__init__» noKeywords Builtin.Frozenset.updateFrom;generalize o7:pyIter=PI
    wp_walk
    subst o7;refine fo o6 ?_;refine Zl (ka ?_);have n8:l<s.heap.objs.size:=Zp V6;have n9:l≠(s.heap.push J).objs.size:=by rw[bt];exact aC (fe n8)
    have o8:s.heap.objs.size∉[(s.heap.push J).objs.size,l]:=by
     rw[bt];intro z;rcases aG.mp z with z|z
     ·exact absurd z (aC (c6 _))
     ·exact absurd (aS.mp z) (bb n8)
    refine ZfR ((lc (A:=A.in1.in1.in1) (by simp[hh]) _ l n9 items).toS) s.heap.objs.size o8 (fun i=>ns.getD i 0) (fun i v hv=>IntsAre.int_at hi i v (by rw[cK];exact hv)) hb (items.size-0) 0 _ (by omega) (a5 _)
     ⟨⟨_,Zo _ rfl,rfl,rfl⟩,⟨_,Zn _ U,rfl,nl,rfl⟩⟩ ?hS0 ?hR
    case hS0=>exact (ZjO (Zn _ hS)).congr (fun _=>rfl) rfl
    case hR=>
     intro s' hm o9;obtain⟨h',g',d',p3,p4⟩:=s';obtain rfl:g'=s.gens:=hm.gens;obtain rfl:d'=s.drawn:=hm.drawn;obtain rfl:p4=s.os:=hm.os;show wpAny _ _ _ _ _ _;refine Zm ?_;show wpAny _ _ (ret a9) _ _ _;refine Zm ⟨rfl,h',p3,rfl,o9,fun b o hb e=>hm.heap b o (fun z=>?_) (Zn _ (Zn _ e))⟩;rcases aG.mp z with z|z
     ·exact absurd z (aC hb)
     ·refine absurd (aS.mp z) (aC ?_);rw[bt];exact fe hb
   ·cases m6 with
    |error e=>exact j
    |ok m5=>
     cases m5 with
     |ret r=>
      obtain⟨rfl,h',tk,rfl,he⟩:=j
      repeat (any_goals (first|assumption|wp_step))
      exact h _ _ he
     |_=>exact j.elim
  |_=>exact hr.elim
end
end PyS
namespace L2
open PySem PySem.Spec PyProof.Rows
theorem Vh:∀{M L:List Int},M.Nodup->(∀x∈M,x∈L)->L.length=M.length->bG L M
 | [],L,_,_,h=>by
  have:L=[]:=gG.mp (by simpa using h);subst this;exact cS _
 |x::M,L,j,J,h=>by
  have Y:=J x aq;have O:=List.perm_cons_erase Y;rw[bQ] at j;refine O.trans ((Vh j.2 (fun y U=>?_) ?_).cons x)
  ·have q:y≠x:=fun z=>j.1 (z▸U)
   exact (kN q).mpr (J y (ao _ U))
  ·have:=O.length_eq
   rw[Zi] at this;rw[Zi] at h;omega
theorem Zdl:∀{out:List Value}{ns:List Int},a8 out ns->ZL (ns.map V.int) out
 |_,_,.nil=>.nil
 |_,_,.cons n t r=>.cons ⟨t,rfl⟩ (Zdl r)
noncomputable def Zbr (prog:Program)(w:World)(a:Addr)(M:List Int):HO:=.ext fun h=>PyS.XR prog w h a (fun k=>M.any (· == k)) M.length
section
variable {X:Cx}{pins:List (Addr×Obj)}{σ:L2.St}{H:Hp}{s:Shared}
theorem Inv.drawn (I:Inv X pins σ H s)(d:kw):Inv X pins σ H {s with drawn:=d}:=⟨I.ok,I.os,I.bare,I.base,I.loc,I.cell,I.free,I.freeC,I.pin,I.hok,I.len⟩
theorem U7 (U:X.calm=true):Yu X (.type "set") (fun xs H Q=>∃(a:Addr) (ns:List Int),xs=[.ref a]/\Wt X.K H a (ns.map V.int)/\ns.length<1000/\∀p,H p=none->Q (.ref p) (upd H p (Zbr X.prog X.w p (Jq ns ns.length)))):=by
 intro pins s σ H xs us Q I r h;obtain⟨a,ns,rfl,Y,hn,q⟩:=h;obtain⟨u,rfl,ru⟩:=vals1 r;cases ru;obtain⟨j,M,p,hz⟩:=I.list Y;have O:j.toArray.size=ns.length:=by rw[Zh,<-M.length,Za]
 refine PyS.Zbq (I.ok.hd U) p.isList (ns:=ns) (by simpa using Zeo M) (by rw[O];unfold scanBound;omega) fun h' tk ⟨J,e2⟩=>?_;rw[O] at J;refine⟨.ref _,_,I.laid (a:=s.heap.objs.size) (o:=Zbr X.prog X.w s.heap.objs.size (Jq ns ns.length)) (t':=tk) (fun b o e=>e2 b o (Zp e) e) (Zq _) ⟨J,?_,fun h1 h2 x k=>x.keep k⟩,rfl,q _ (I.hok.fresh (Zq _))⟩;obtain⟨es,ep,t,⟨o,e,_⟩,_⟩:=J;exact⟨o,e⟩
theorem Um (hc:X.calm=true):Yu X (.builtin "sorted") (fun xs H Q=>∃(a:Addr) (M:List Int),xs=[.ref a]/\H a=some (Zbr X.prog X.w a M)/\M.Nodup/\M.length<64/\∀l ns,H l=none->bG ns M->ns.Pairwise (· ≤ ·)->Q (.ref l) (upd H l (.lst (ns.map V.int)))):=by
 intro pins s σ H xs us Q I r h;obtain⟨a,M,rfl,ha,hn,Y,q⟩:=h;obtain⟨u,rfl,ru⟩:=vals1 r;cases ru;obtain⟨J,_,_⟩:=(show Yt X.prog X.w H s.heap a (Zbr X.prog X.w a M) from I.hok a _ ha);obtain⟨es,ep,t,J⟩:=J;have O:∀v∈PyS.Xr es,∃k tk,v=.int k tk:=fun v hv=>by
  obtain⟨e,he,rfl⟩:=aI.mp hv;obtain⟨⟨k,hk,_⟩,_⟩:=J.el e he;obtain⟨tk,et⟩:=iI hk;exact⟨k,tk,et⟩
 have m5:=PyS.Zhu O;have hp:bG ((PyS.Xr es).map PyS.ZcV) M:=by
  refine Vh hn (fun x hx=>?_) ?_
  ·have hS:M.any (· == x)=true:=aY.mpr ⟨x,hx,by simp⟩
   obtain⟨e,he,hk⟩:=(J.mem x).mp hS;obtain⟨tk,et⟩:=iI hk;refine aI.mpr ⟨e.2,aI.mpr ⟨e,he,rfl⟩,?_⟩;rw[et];rfl
  ·unfold PyS.Xr
   rw[Za,Za,Zr];exact J.sz
 refine PyS.ZcG (I.ok.hd hc) (by rw[J.sz];exact Y) J.at_ J.wk m5 fun D h' dr tk out j c hD kp m6 hi U hP=>?_;have hl:ZL (j.map V.int) out:=Zdl hi;have sz:(16777216:Nat)=sizeLine:=by decide
 have m8:j.length=M.length:=(U.trans hp).length_eq;refine⟨.ref D,_,(I.laid (a:=D) (o:=.lst (j.map V.int)) (t':=tk) kp hD ⟨by rw[Za];omega,out,c,hl,m6⟩).drawn dr,rfl,q _ j (I.hok.fresh hD) (U.trans hp) hP⟩
end
section
variable {X:Cx}{pins:List (Addr×Obj)}{σ:L2.St}{H:Hp}{s:Shared}
end
end L2
namespace Tb
noncomputable def ZM (t:List (List Nat))(a b:Nat):Nat:=(t.getD a []).getD b 0
noncomputable def it (t:List (List Nat))(a:Nat):Nat->Nat
 |0=>0
 |k+1=>ZM t (it t a k) a
structure Rd (t:List (List Nat))(a r:Nat):Prop where
 r1:1<=r
 rn:r<=t.length
 dv:t.length % r=0
 z:it t a r=0
 nz:∀k,1<=k->k<r->it t a k≠0
 bk:ZM t a (it t a (r-1))=0
 un:∀b,b<t.length->ZM t a b=0->b=it t a (r-1)
structure PW (t:List (List Nat)):Prop where
 n1:1<=t.length
 n60:t.length<=60
 len:∀row∈t,row.length=t.length
 lt:∀a b,a<t.length->b<t.length->ZM t a b<t.length
 one:∀a,a<t.length->ZM t 0 a=a
 rd:∀a,a<t.length->∃r,Rd t a r
 oneR:∀a,a<t.length->ZM t a 0=a
 ass:∀a b c,a<t.length->b<t.length->c<t.length->ZM t (ZM t a b) c=ZM t a (ZM t b c)
section
variable {t:List (List Nat)}{a r:Nat}
theorem WJ (P:PW t)(j:a<t.length):∀k,it t a k<t.length
 |0=>P.n1
 |k+1=>P.lt _ _ (WJ P j k) j
theorem Zc0 (P:PW t)(j:a<t.length):it t a 1=a:=P.one a j
theorem ZlM (R:Rd t a r)(k:Nat):it t a (r+k)=it t a k:=by
 induction k with
 |zero=>exact R.z
 |succ k j=>rw[Nat.add_succ,it,it,j]
theorem V4 (R:Rd t a r)(k:Nat):it t a k=it t a (k % r):=by
 have q:=R.r1;induction k using Nat.strongRecOn with
 |_ k j=>
  by_cases h:k<r
  ·rw[bM h]
  ·have e:k=r+(k-r):=by omega
   rw[lT (by omega),<-j (k-r) (by omega),<-ZlM R (k-r),<-e]
end
noncomputable def rdB (t:List (List Nat))(n a:Nat):Nat->Nat->Nat->Bool
 |0,_,_=>false
 |f+1,k,prev=>
  let x:=ZM t prev a
  match x with
  |0=>decide (n % (k+1)=0) && decide (k+1<=n) && decide (ZM t a prev=0) && ((ae n).all fun b=>decide (b=prev) || !decide (ZM t a b=0))
  |y+1=>rdB t n a f (k+1) (y+1)
noncomputable def fq1 {β:Type}(m:Nat)(k:Nat->β):β:=match m with
 |0=>k 0
 |m+1=>k (m+1)
theorem ZhE {β:Type}(m:Nat)(k:Nat->β):fq1 m k=k m:=by cases m <;> rfl
noncomputable def fql {β:Type}:List Nat->(List Nat->β)->β
 | [],k=>k []
 |x::j,k=>fq1 x fun y=>fql j fun q=>k (y::q)
theorem ZaO {β:Type}:∀(a:List Nat) (k:List Nat->β),fql a k=k a
 | [],k=>rfl
 |x::j,k=>by rw[fql,ZhE,ZaO j]
noncomputable def Zl6 (ZE:List Nat)(y:Nat):List Nat:=if ZE.contains y then ZE else ZE++[y]
noncomputable def ZfC (t:List (List Nat))(gens:List Nat):Nat->Nat->List Nat->List Nat
 |0,_,ZE=>ZE
 |f+1,i,ZE=>match ZE[i]? with
  |none=>ZE
  |some x=>fql (gens.foldl (fun ZE g=>fq1 (ZM t x g) fun y=>Zl6 ZE y) ZE) fun ZE=>ZfC t gens f (i+1) ZE
noncomputable def Zeq (t:List (List Nat)):Nat->Nat->List Nat->List Nat->List Nat
 |0,_,gens,_=>gens
 |f+1,a,gens,ZE=>if ZE.contains a then Zeq t f (a+1) gens ZE else fql (ZfC t (gens++[a]) t.length 0 [0]) fun ZE=>Zeq t f (a+1) (gens++[a]) ZE
noncomputable def liB (t:List (List Nat))(g:Nat):Bool:=decide (g<t.length) && t.all fun j=>(t.getD (j.getD g 0) [] == (t.getD g []).map fun c=>j.getD c 0)
noncomputable def asG (t:List (List Nat))(gens:List Nat):Bool:=gens.all (liB t) && fql (ZfC t gens t.length 0 [0]) fun ZE=>(ae t.length).all fun a=>ZE.contains a
noncomputable def asB (t:List (List Nat)):Bool:=fql (Zeq t t.length 0 [] [0]) (asG t)
noncomputable def ZmZ (t:List (List Nat)):Bool:=decide (1<=t.length) && decide (t.length<=60) && (t.all fun row=>decide (row.length=t.length) && row.all fun x=>decide (x<t.length)) && ((ae t.length).all fun a=>decide (ZM t 0 a=a) && rdB t t.length a t.length 0 0)
noncomputable def pwB (t:List (List Nat)):Bool:=ZmZ t && ((ae t.length).all fun a=>decide (ZM t a 0=a)) && asB t
noncomputable def Pr (t:List (List Nat))(a:Nat):Prop:=a<t.length/\∀x y,x<t.length->y<t.length->ZM t (ZM t x a) y=ZM t x (ZM t a y)
theorem Znr {t:List (List Nat)}(U:∀row∈t,row.length=t.length){g:Nat}(h:liB t g=true):Pr t g:=by
 unfold liB at h;simp only[aP,ag,beq_iff_eq,decide_eq_true_eq] at h;obtain⟨q,h⟩:=h;refine⟨q,fun x y M hy=>?_⟩;have Y:t.getD x []∈t:=by
  rw[Zb,Zf M];exact bC M
 have J:t.getD g []∈t:=by
  rw[Zb,Zf q];exact bC q
 have h1:=h _ Y;unfold ZM;rw[h1];have m5:=U _ J;generalize t.getD g []=O at *;have j:y<O.length:=by omega
 rw[Zb,Zc,Zf j,Zb (l:=O),Zf j];rfl
theorem Pr.times {t:List (List Nat)}(lt:∀a b,a<t.length->b<t.length->ZM t a b<t.length){a g:Nat}(j:Pr t a)(q:Pr t g):Pr t (ZM t a g):=by
 refine⟨lt _ _ j.1 q.1,fun x y J M=>?_⟩;rw[<-j.2 x g J q.1,q.2 _ y (lt _ _ J j.1) M,j.2 x _ J (lt _ _ q.1 M),q.2 a y j.1 M]
theorem ZeE {t:List (List Nat)}(lt:∀a b,a<t.length->b<t.length->ZM t a b<t.length){gens:List Nat}(hg:∀g∈gens,Pr t g):∀(f i:Nat) (ZE:List Nat),(∀a∈ZE,Pr t a)->∀a∈ZfC t gens f i ZE,Pr t a
 |0,i,ZE,h=>by unfold ZfC;exact h
 |f+1,i,ZE,h=>by
  unfold ZfC;split
  ·exact h
  ·rename_i x hx
   rw[ZaO];refine ZeE lt hg f (i+1) _ ?_;have O:=h x (aF hx);have U:∀(J ZE:List Nat),(∀g∈J,Pr t g)->(∀a∈ZE,Pr t a)->∀a∈J.foldl (fun ZE g=>fq1 (ZM t x g) fun y=>Zl6 ZE y) ZE,Pr t a:=fun J=>by
    induction J with
    |nil=>intro ZE _ h;exact h
    |cons g J ih=>
     intro ZE M q;rw[List.foldl_cons];refine ih _ (fun g' Y=>M g' (ao _ Y)) fun a j=>?_;rw[ZhE] at j;unfold Zl6 at j;split at j
     ·exact q a j
     ·rcases bJ.mp j with j|j
      ·exact q a j
      ·rw[aS.mp j]
       exact O.times lt (M g aq)
   exact U gens ZE hg h
theorem Zl4 {t:List (List Nat)}(n1:1<=t.length)(O:∀row∈t,row.length=t.length)(lt:∀a b,a<t.length->b<t.length->ZM t a b<t.length)(one:∀a,a<t.length->ZM t 0 a=a)(j:∀a,a<t.length->ZM t a 0=a)(h:asB t=true):∀a b c,a<t.length->b<t.length->c<t.length->ZM t (ZM t a b) c=ZM t a (ZM t b c):=by
 intro a b c q hb U;unfold asB at h;rw[ZaO] at h;generalize Zeq t t.length 0 [] [0]=M at h;unfold asG at h;rw[ZaO,ag,aP,aP] at h;have Y:Pr t 0:=⟨by omega,fun x y hx hy=>by rw[j x hx,one y hy]⟩;have J:=ZeE lt (fun g hg=>Znr O (h.1 g hg)) t.length 0 [0] (fun a q=>by rw[aS.mp q];exact Y) b (ay.mp (h.2 b (af.mpr hb)));exact J.2 a c q U
theorem ZgH {t:List (List Nat)}{a:Nat}:∀(f k prev:Nat),prev=it t a k->(∀j,1<=j->j<=k->it t a j≠0)->rdB t t.length a f k prev=true->∃r,Rd t a r
 |0,k,prev,_,_,h=>by cases h
 |f+1,k,prev,e,M,h=>by
  unfold rdB at h;have ex:it t a (k+1)=ZM t prev a:=by rw[it,e]
  cases q:ZM t prev a with
  |zero=>
   simp only[q,ag,decide_eq_true_eq,aP,bq,gh,decide_eq_false_iff_not] at h;obtain⟨⟨⟨O,U⟩,Y⟩,h4⟩:=h;refine⟨k+1,by omega,U,O,by rw[ex,q],fun j J jk=>M j J (by omega),by rw[dz,<-e];exact Y,fun b hb hm=>?_⟩;rw[dz,<-e];exact (h4 b (af.mpr hb)).resolve_right fun z=>z hm
  |succ y=>
   simp only[q] at h;refine ZgH f (k+1) (y+1) (by rw[ex,q]) (fun j J jk=>?_) h;by_cases ej:j=k+1
   ·rw[ej,ex,q]
    exact jb _
   ·exact M j J (by omega)
theorem Zli {t:List (List Nat)}(h:pwB t=true):PW t:=by
 unfold pwB at h;rw[ag,ag] at h;obtain⟨⟨h,M⟩,O⟩:=h;unfold ZmZ at h;simp only[ag,decide_eq_true_eq,aP] at h;obtain⟨⟨⟨h1,h2⟩,U⟩,h4⟩:=h;have lt:∀a b,a<t.length->b<t.length->ZM t a b<t.length:=fun a b q hb=>by
  unfold ZM;have hm:t.getD a []∈t:=by
   rw[Zb,Zf q];exact bC q
  obtain⟨hl,hx⟩:=U _ hm;generalize t.getD a []=row at *;have J:b<row.length:=by omega
  refine hx _ ?_;rw[Zb,Zf J];exact bC J
 have oneR:∀a,a<t.length->ZM t a 0=a:=fun a q=>of_decide_eq_true (aP.mp M a (af.mpr q));have one:∀a,a<t.length->ZM t 0 a=a:=fun a q=>(h4 a (af.mpr q)).1;refine⟨h1,h2,fun row Y=>(U row Y).1,lt,one,fun a q=>?_,oneR,Zl4 h1 (fun row Y=>(U row Y).1) lt one oneR O⟩
 ·exact ZgH _ 0 0 rfl (fun j j1 j0=>by omega) (h4 a (af.mpr q)).2
noncomputable def pos (o:List Nat)(v:Nat):Nat:=o.findIdx (· == v)
noncomputable def ren (t:List (List Nat))(o:List Nat):List (List Nat):=o.map fun a=>o.map fun b=>pos o (ZM t a b)
structure Ord (n:Nat)(o:List Nat):Prop where
 len:o.length=n
 nd:o.Nodup
 all:∀v,v<n->v∈o
 lt:∀v∈o,v<n
 z:o.getD 0 0=0
section
variable {t:List (List Nat)}{o:List Nat}
theorem Yo {o:List Nat}{i:Nat}(h:i<o.length):o[i]?=some (o.getD i 0):=by
 rw[Zb,Zf h];rfl
theorem Y4 {n v:Nat}(O:Ord n o)(q:v<n):pos o v<n/\o.getD (pos o v) 0=v:=by
 have hm:=O.all v q;have j:o.findIdx (· == v)<o.length:=iP ⟨v,hm,by simp⟩;refine⟨by rw[<-O.len];exact j,?_⟩;have J:=dW (w:=j);have M:o[o.findIdx (· == v)]=v:=by simpa using J
 unfold pos;rw[Zb,Zf j];exact M
theorem inj {n i j:Nat}(O:Ord n o)(q:i<n)(M:j<n)(e:o.getD i 0=o.getD j 0):i=j:=by
 have J:=Yo (o:=o) (i:=i) (by rw[O.len];exact q);have U:=Yo (o:=o) (i:=j) (by rw[O.len];exact M);rw[e] at J;exact (lV (by rw[O.len];exact q) O.nd).mp (J.trans U.symm)
theorem Yz {n i:Nat}(O:Ord n o)(j:i<n):o.getD i 0<n:=O.lt _ (aF (Yo (by rw[O.len];exact j)))
theorem Zau:(ren t o).length=o.length:=by unfold ren;rw[Za]
theorem ZaA {n i j:Nat}(O:Ord n o)(q:i<n)(J:j<n):ZM (ren t o) i j=pos o (ZM t (o.getD i 0) (o.getD j 0)):=by
 unfold ZM ren;have M:=Yo (o:=o) (i:=i) (by rw[O.len];exact q);have U:=Yo (o:=o) (i:=j) (by rw[O.len];exact J);rw[Zb (l:=o.map _),Zc,M];show (o.map fun b=>pos o ((t.getD (o.getD i 0) []).getD b 0)).getD j 0=_;rw[Zb,Zc,U];rfl
theorem WU (P:PW t)(O:Ord t.length o):PW (ren t o):=by
 have L:(ren t o).length=t.length:=by rw[Zau,O.len]
 have back:∀i j,i<t.length->j<t.length->o.getD (ZM (ren t o) i j) 0=ZM t (o.getD i 0) (o.getD j 0):=fun i j Y hj=>by
  rw[ZaA O Y hj];exact (Y4 O (P.lt _ _ (Yz O Y) (Yz O hj))).2
 have lt:∀i j,i<t.length->j<t.length->ZM (ren t o) i j<t.length:=fun i j Y hj=>by
  rw[ZaA O Y hj];exact (Y4 O (P.lt _ _ (Yz O Y) (Yz O hj))).1
 have n1:=P.n1;have M:∀a,a<t.length->∀k,it (ren t o) a k<t.length/\o.getD (it (ren t o) a k) 0=it t (o.getD a 0) k:=fun a ha k=>by
  induction k with
  |zero=>exact⟨n1,O.z⟩
  |succ k ih=>
   rw[it,it];exact⟨lt _ _ ih.1 ha,by rw[back _ _ ih.1 ha,ih.2]⟩
 have zz:∀i,i<t.length->(i=0↔o.getD i 0=0):=fun i Y=>by
  constructor
  ·intro e;rw[e,O.z]
  ·intro e;exact inj O Y n1 (by rw[e,O.z])
 refine⟨by omega,by have:=P.n60;omega,fun row hr=>?_,fun a b ha hb=>by rw[L];exact lt a b (by omega) (by omega),fun a ha=>?_,fun a ha=>?_,fun a ha=>?_,fun a b c ha hb hc=>?_⟩
 ·unfold ren at hr
  obtain⟨a,_,rfl⟩:=aI.mp hr;rw[Za,Zau]
 ·refine inj O (lt 0 a n1 (by omega)) (by omega) ?_
  rw[back 0 a n1 (by omega),O.z,P.one _ (Yz O (by omega))]
 ·have q:a<t.length:=by omega
  obtain⟨r,R⟩:=P.rd _ (Yz O q);have m5:∀k,it (ren t o) a k=0↔it t (o.getD a 0) k=0:=fun k=>by
   rw[zz _ (M a q k).1,(M a q k).2]
  refine⟨r,R.r1,by rw[L];exact R.rn,by rw[L];exact R.dv,(m5 r).mpr R.z,fun k k1 kr z=>R.nz k k1 kr ((m5 k).mp z),?_,fun b hb hm=>?_⟩
  ·refine (zz _ (lt _ _ q (M a q _).1)).mpr ?_
   rw[back _ _ q (M a q _).1,(M a q _).2];exact R.bk
  ·have J:b<t.length:=by omega
   refine inj O J (M a q _).1 ?_;rw[(M a q _).2];refine R.un _ (Yz O J) ?_;rw[<-back a b q J,hm,O.z]
 ·refine inj O (lt a 0 (by omega) n1) (by omega) ?_
  rw[back a 0 (by omega) n1,O.z,P.oneR _ (Yz O (by omega))]
 ·have q:a<t.length:=by omega
  have J:b<t.length:=by omega
  have U:c<t.length:=by omega
  refine inj O (lt _ _ (lt _ _ q J) U) (lt _ _ q (lt _ _ J U)) ?_;rw[back _ _ (lt _ _ q J) U,back _ _ q J,back _ _ q (lt _ _ J U),back _ _ J U];exact P.ass _ _ _ (Yz O q) (Yz O J) (Yz O U)
end
noncomputable def upTo (r st:Nat):Nat->Nat->Nat
 |0,f=>f
 |k+1,f=>if f % r=0 then f else upTo r st k (f+st)
theorem UK {r st B:Nat}(j:1<=st)(Y:B % r=0)(q:B % st=0):∀(k f:Nat),f % st=0->f<=B->B-f<k*st->(∀x,x % st=0->x % r=0->1<=x->x<f->False)->upTo r st k f % r=0/\upTo r st k f % st=0/\f<=upTo r st k f/\upTo r st k f<=B/\(∀x,x % st=0->x % r=0->1<=x->x<upTo r st k f->False)
 |0,f,J,M,O,_=>by rw[fV] at O;omega
 |k+1,f,J,M,O,h4=>by
  unfold upTo;by_cases h:f % r=0
  ·rw[if_pos h]
   exact⟨h,J,Zq _,M,h4⟩
  ·rw[if_neg h]
   have fB:f≠B:=fun z=>h (z▸Y);obtain⟨u,rfl⟩:=bc J;obtain⟨v,rfl⟩:=bc q;have uv:u<v:=jN (bx M fB);have h5:st*u+st<=st*v:=by
    have:=fQ st (show u+1<=v by omega);rw[jf,ik] at this;exact this
   have:=UK j Y q k (st*u+st) (by rw[me,Nat.mul_mod_right]) h5 (by rw[b8] at O;omega) fun x x1 U x3 x4=>?_
   ·exact⟨this.1,this.2.1,by omega,this.2.2.2.1,this.2.2.2.2⟩
   ·by_cases hx:x<st*u
    ·exact h4 x x1 U x3 hx
    ·obtain⟨y,rfl⟩:=bc x1
     have y1:u<=y:=Nat.le_of_mul_le_mul_left (by omega) j;have y2:y<u+1:=jN (a:=st) (by rw[jf,ik];exact x4);have:y=u:=by omega
     rw[this] at U;exact h U
theorem ZaB {x d r:Nat}(q:x % r=0)(hd:d % r=0):x % d % r=0:=by
 have J:=Nat.mod_add_div x d;have M:(d*(x / d)) % r=0:=by rw[Nat.mul_mod,hd,fV,Nat.zero_mod]
 have j:(x % d+d*(x / d)) % r=0:=by rw[J];exact q
 rw[Nat.add_mod,M,gQ,Nat.mod_mod] at j;exact j
structure Lc (rs:Nat->Nat)(i f:Nat):Prop where
 f1:1<=f
 dv:∀a,a<i->f % rs a=0
 mn:∀x,(∀a,a<i->x % rs a=0)->x % f=0
theorem Lc.step {rs:Nat->Nat}{i f B:Nat}(L:Lc rs i f)(hB:1<=B)(j:∀a,a<i+1->B % rs a=0){k:Nat}(hk:B<k):Lc rs (i+1) (upTo (rs i) f k f):=by
 have q:B % f=0:=L.mn B fun a J=>j a (by omega);have M:=L.f1;have fB:f<=B:=gD (by omega) (bc q);obtain⟨O,U,h3,h4,h5⟩:=UK (r:=rs i) M (j i (by omega)) q k f (Nat.mod_self f) fB (by
  have:k*1<=k*f:=fQ k M;omega) fun x x1 x2 x3 x4=>by
   have:=gD (by omega) (bc x1);omega
 refine⟨by omega,fun a J=>?_,fun x Y=>?_⟩
 ·by_cases e:a=i
  ·rw[e];exact O
  ·have:=L.dv a (by omega)
   obtain⟨u,hu⟩:=bc U;rw[hu,Nat.mul_mod,this,fV,Nat.zero_mod]
 ·have xf:x % f=0:=L.mn x fun a J=>Y a (by omega)
  apply ah;intro z;exact h5 (x % upTo (rs i) f k f) (ZaB xf U) (ZaB (Y i (by omega)) O) (by omega) (bP _ (by omega))
end Tb
namespace L2
open PySem PySem.Spec PyProof.Rows
section
variable {X:Cx}
noncomputable def ZmW (K:aa)(J:Bool):R2:=fun x y H Q=>∃p M q j,y=.ref p/\(Wt K H p M\/Xc K H p M)/\Wo K H M q/\Us K H x j/\cw q=true/\j.canLay0=true/\j.depth<=60/\Q (.bl (if J then !(q.any fun y=>y.eqv j) else q.any fun y=>y.eqv j)) H
theorem ZeZ (hu:X.A.units+64<cLine):Vv X (compareOp .NotIn) (ZmW X.K true):=by
 intro U s σ H x y v u Q I rx ry h;obtain⟨p,xs,ds,dx,rfl,j,Y,hd,M,c2,dp,q⟩:=h;cases ry;obtain⟨bs,r1⟩:=I.reads hd rx;rcases j with j|j
 ·obtain⟨O,r,pl,hz⟩:=I.list j
  obtain⟨as,J⟩:=I.readsAll Y r;refine SeqAt.notIn_listAt _ pl.isList (iS (by simpa using J) r1 M c2 (by omega)) ⟨.bl _,H,I,rfl,?_⟩;rw[lE (by simpa using J) M];exact q
 ·obtain⟨O,r,pl,hz⟩:=I.tuple j
  obtain⟨as,J⟩:=I.readsAll Y r;refine SeqAt.notIn_tupleAt _ pl (iS (by simpa using J) r1 M c2 (by omega)) ⟨.bl _,H,I,rfl,?_⟩;rw[lE (by simpa using J) M];exact q
theorem Znq (K:aa)(j:X.A.units+64<cLine)(q:X.K=K:=by rfl):Vv X (compareOp .NotIn) (ZmW K true):=q▸ZeZ j
end
theorem JK:∀ns:List Int,cw (ns.map aW)=true
 | []=>rfl
 |n::ns=>by
  show (fP (.int n) && cw (ns.map aW))=true;rw[JK ns];rfl
theorem Xp (ns:List Int):fP (.tuple (ns.map aW))=true:=JK ns
theorem Vn:∀yss:List (List Int),cw (yss.map fun ns=>c9 (ns.map aW))=true
 | []=>rfl
 |y::yss=>by
  show (fP (.tuple (y.map aW)) && cw (yss.map fun ns=>c9 (ns.map aW)))=true;rw[Vn yss,Xp];rfl
theorem Ub:∀ns:List Int,df (ns.map aW)<=1
 | []=>by decide
 |n::ns=>by
  have:=Ub ns;show max (dR (.int n)) (df (ns.map aW))<=1;have e:dR (.int n)<=1:=by simp[dR]
  omega
end L2
namespace L2
open PySem
theorem U5 (ns:List Int):dR (.tuple (ns.map aW))<=60:=by
 have:=Ub ns;show df (ns.map aW)+1<=60;omega
end L2
namespace PyZ
open PySem
theorem Ux (l:Addr)(q:Array Value)(x:Value)(e:Value->Bool)(j:Nat)(hj:j<q.size)(M:e q[j]=true)(O:∀(m:Nat) (hm:m<q.size),m<j->e q[m]=false) :
  Meets (cC.«tuple.index» {pos:=[aB l,x]}) fun A R s=>
   s.heap.IsTuple l q/\(∀(y:Value),y∈q->ki A.in1 s y x (e y))/\
    R (Except.ok (Flow.ret (fN (↑j) s.toks))) {heap:=s.heap,gens:=s.gens,drawn:=s.drawn,toks:=s.toks+1,os:=s.os}:=by
 intro m6 w A R s h;obtain⟨hl,he,h⟩:=h;obtain⟨oa,ha,_,na,da⟩:=hl;unfold cC.«tuple.index»;refine Zl ?_;show wpAny _ _ (pure (aB l,[x])) _ _ s;refine Zm ?_;show wpAny _ _ (iy (aB l) >>= _) _ _ s;refine Zl ?_;unfold iy;refine Zl (ci ha da ?_);refine Zm ?_;show wpAny _ _ (pure 0 >>= _) _ _ s;refine Zl (Zm ?_);show wpAny _ _ (pure q.size >>= _) _ _ s;refine Zl (Zm ?_);refine Zl ?_;rw[kC,Std.Legacy.Range.forIn_eq_forIn_range'];have U:(de ([0:q.size]:ip).start ([0:q.size]:ip).size ([0:q.size]:ip).step)=de 0 q.size:=by
  show de 0 ((q.size-0+1-1) / 1) 1=_;rw[Nat.div_one,dw,dz]
 rw[U];refine wpAny_forIn_list _ (fun rest b Y=>Y=s/\b=(none,())/\∃k,rest=de k (q.size-k)/\k<=j) _ ?_ ?_ _ _ ⟨rfl,rfl,0,rfl,a5 _⟩
 ·rintro i rest b Y ⟨rfl,rfl,k,J,hk⟩
  have hs:q.size-k=(q.size-(k+1))+1:=by omega
  rw[hs,dY] at J;obtain⟨rfl,rfl⟩:=List.cons.inj J;have hi:i<q.size:=by omega
  rw[aM hi];show wpAny _ _ (eqBool q[i] x >>= _) _ _ _;refine Zl (he q[i] (Array.getElem_mem hi) _ _ _ _ ?_);by_cases m5:i=j
  ·subst m5
   rw[M,if_pos rfl];refine Zl ?_;unfold retInt;refine Zl (wpAny_mkInt ?_);refine Zm ?_;refine Zm ?_;show wpAny _ _ (pure _) _ _ _;exact Zm h
  ·rw[O i hi (by omega),if_neg aH]
   refine Zm ?_;exact⟨rfl,rfl,i+1,rfl,by omega⟩
 ·rintro b Y ⟨rfl,rfl,k,J,hk⟩
  have:q.size-k=0:=by
   have:=congrArg cu J;rw[List.length_range'] at this;exact this.symm
  omega
end PyZ
namespace L2
open PySem PySem.Spec PyProof.Rows
section
variable {X:Cx}
noncomputable def Zks (K:aa):V->List V->Hp->VK->Prop:=fun x q H Q=>∃p xs y,∃j:Nat,x=.ref p/\q=[y]/\Xc K H p xs/\Vl y=true/\xs.all Vl=true/\j<xs.length/\(∀z,xs[j]?=some z->eqV z y=true)/\(∀m z,m<j->xs[m]?=some z->eqV z y=false)/\Q (.int j) H
theorem Ze9:MtR X "tuple.index" (Zks X.K):=by
 intro n9 s σ H x vs v us Q I rx rv h;obtain⟨p,xs,y,j,rfl,rfl,hq,fy,fs,hj,h1,h2,q⟩:=h;cases rx;obtain⟨u,rfl,ru⟩:=rv.one;obtain⟨J,r,pl,hz⟩:=I.tuple hq;have hl:=r.length;have M:∀(m:Nat) (z:V),xs[m]?=some z->Vl z=true:=fun m z hm=>aP.mp fs z (aF hm);have eu:∀(m:Nat) (hm:m<J.toArray.size),∃z,xs[m]?=some z/\eqU y J.toArray[m]=eqV z y:=fun m hm=>by
  have O:m<xs.length:=by rw[hl];simpa using hm
  obtain⟨w,hw,m6⟩:=r.get (Zf O);have m8:J.toArray[m]=w:=by
   have:=(ac.mp hw).2;simpa using this
  exact⟨_,Zf O,by rw[m8];exact ZhP m6 (M m _ (Zf O))⟩
 have m5:j<J.toArray.size:=by rw[Zh,<-hl];exact hj
 have n6:s.TypeIs (.ref p) "tuple":=ma pl;refine fJ gI n6 F.entry_tuple_index (F.args_tuple_index_2 _ _) (PyZ.Ux p J.toArray u (eqU y) j m5 ?_ ?_) ⟨pl,fun w hw=>ZbV ru fy r fs w (by simpa using hw),?_⟩
 ·obtain⟨z,U,Y⟩:=eu j m5
  rw[Y];exact h1 z U
 ·intro m hm n8
  obtain⟨z,U,Y⟩:=eu m hm;rw[Y];exact h2 m z n8 U
 ·exact⟨.int j,H,I.kept (t':=s.toks+1) fun b o e=>e,⟨_,rfl⟩,q⟩
noncomputable def Zkt (K:aa):V->List V->Hp->VK->Prop:=fun x M H Q=>∃p J ds q y,∃j:Nat,x=.ref p/\M=[y]/\H p=some (.lst J)/\Wo K H J ds/\Us K H y q/\cw ds=true/\q.canLay0=true/\q.depth<=60/\j<ds.length/\(∀d,ds[j]?=some d->d.eqv q=true)/\(∀m d,m<j->ds[m]?=some d->d.eqv q=false)/\Q (.int j) H
theorem Zfa (hu:X.A.units+64<cLine):MtR X "list.index" (Zkt X.K):=by
 intro m6 s σ H x vs v us Q I rx rv h;obtain⟨p,xs,ds,dy,y,j,rfl,rfl,hp,hs,hd,c1,c2,dp,hj,h1,h2,q⟩:=h;cases rx;obtain⟨u,rfl,ru⟩:=rv.one;obtain⟨z,J,n,r,hl,e⟩:=I.lstM hp;obtain⟨bs,r1⟩:=I.reads hd ru;obtain⟨as,ra⟩:=I.readsAll hs r;have hm:=SeqAt.readsAll_map ds J as c1 ra;have hlen:J.length=ds.length:=by rw[<-hm,Za]
 have M:∀(m:Nat) (U:m<J.toArray.size),ds[m]?=some (SeqAt.readOf s.heap J.toArray[m]):=fun m U=>by
  have Y:m<J.length:=by simpa using U
  rw[<-hm,Zc,Zf Y];simp
 have O:j<J.toArray.size:=by rw[Zh,hlen];exact hj
 have sz:=Xj;refine fJ kI ⟨_,e,rfl⟩ F.entry_list_index (F.args_list_index_2 _ _) (SeqAt.list_indexAt p J.toArray n none #[] u (fun y=>(SeqAt.readOf s.heap y).eqv dy) j O (by omega) (h1 _ (M j O)) fun m U m5=>h2 m _ m5 (M m U)) ⟨e,iS (by simpa using ra) r1 c1 c2 (by omega),?_⟩;exact⟨.int j,H,I.kept (t':=s.toks+1) fun b o e=>e,⟨_,rfl⟩,q⟩
theorem Zmy (K:aa)(j:X.K=K:=by rfl):MtR X "tuple.index" (Zks K):=j▸Ze9
theorem Zo2 (K:aa)(j:X.A.units+64<cLine)(q:X.K=K:=by rfl):MtR X "list.index" (Zkt K):=q▸Zfa j
end
end L2
namespace PyZ
open PySem PyProof PyProof.Rows
noncomputable def Xe (n:Nat)(cmp:Nat->Nat->Bool){α:Type}:jr α->Option α
 | .ret a=>some a
 | .ask i j k=>if i<n/\j<n then Xe n cmp (k (cmp i j)) else none
theorem JU {α:Type}{n:Nat}{cmp:Nat->Nat->Bool}{ask:Nat->Nat->(Bool->Shared->Prop)->Shared->Prop}{s:Shared}(h:∀i j C,i<n->j<n->C (cmp i j) s->ask i j C s):∀(t:jr α) (a:α) (Q:α->Shared->Prop),Xe n cmp t=some a->Q a s->W.KasT.kasWp ask t Q s
 | .ret b,a,Q,e,q=>by
  cases (aD e);exact q
 | .ask i j k,a,Q,e,q=>by
  rw[Xe] at e;by_cases J:i<n/\j<n
  ·rw[if_pos J] at e
   exact h i j _ J.1 J.2 (JU h (k (cmp i j)) a Q e q)
  ·rw[if_neg J] at e
   cases e
noncomputable def Uz (fin:Bool):List Int->List Int->Bool
 | [],_=>fin
 |_::_,[]=>fin
 |x::j,y::q=>if x=y then Uz fin j q else decide (x<y)
noncomputable def Jt (xs ys:List Int):Bool:=Uz (decide (xs.length<ys.length)) xs ys
section
variable {prog:Program}{w:World}{A:Around}{E:Value->Shared->Prop}{s:Shared}
theorem Zho {fin:Bool}{Q:Bool->Shared->Prop}:∀(j vs:List Value) (xs ys:List Int) (i:Nat),a8 j xs->a8 vs ys->Q (Uz fin xs ys) s->W.KatLex prog w A true fin Q (j.zip vs) i s
 | [],vs,xs,ys,i,J,M,q=>by
  cases J;exact iA q
 |_::_,[],xs,ys,i,J,M,q=>by
  cases M;cases xs with
  |nil=>exact iA q
  |cons x xs=>exact iA q
 |u::j,v::vs,xs,ys,i,J,M,q=>by
  cases J with
  |cons x t1 U=>
   cases M with
   |cons y t2 Y=>
    rename_i xs ys
    rw[lG];refine W.kat_cons ?_;refine fG _ _ _ _ prog w _ _ ?_;rw[Uz] at q;by_cases e:x=y
    ·rw[if_pos e] at q
     rw[show (x == y)=true from beq_iff_eq.mpr e];exact W.kat_yes (Zho j vs xs ys (i+1) U Y q)
    ·rw[if_neg e] at q
     rw[show (x == y)=false from beq_eq_false_iff_ne.mpr e];refine W.kat_no ?_;by_cases O:i=0
     ·subst O
      exact oneLt_int q
     ·have:(true && i == 0)=false:=by simp[O]
      rw[this];exact W.kat_one _ _ (lt_int q)
noncomputable def UB (h:Heap)(L:Addr):Heap:={h with objs:=h.objs.extract 0 L}
theorem YA {h:Heap}{L b:Addr}(hb:b<L):(UB h L).get? b=h.get? b:=by
 unfold UB Heap.get?;have:(h.objs.extract 0 L)[b]?=h.objs[b]?:=by
  rw[Array.getElem?_extract];by_cases j:b<h.objs.size
  ·simp only[dw,iT]
   rw[if_pos (show b<min L h.objs.size from Nat.lt_min.mpr ⟨hb,j⟩)]
  ·rw[cz (ft j)]
   split <;> simp_all
 simp only[this]
theorem WC {h:Heap}{L b:Addr}(hb:L<=b):(UB h L).get? b=none:=by
 unfold UB Heap.get?;have:(h.objs.extract 0 L)[b]?=none:=by
  apply cz;rw[fW];exact aZ (by rw[dw];exact fM ..) hb
 simp only[this]
noncomputable def Ya (h:Heap)(L:Addr):List (Addr×Obj):=(ae h.objs.size).filterMap fun a=>if L<a then (h.get? a).map fun o=>(a,o) else none
theorem Z9 {h:Heap}{L:Addr}{p:Addr×Obj}:p∈Ya h L↔L<p.1/\h.get? p.1=some p.2:=by
 unfold Ya;rw[iB];constructor
 ·rintro⟨a,J,e⟩
  by_cases j:L<a
  ·rw[if_pos j] at e
   cases q:h.get? a with
   |none=>rw[q] at e;cases e
   |some o=>
    rw[q] at e;cases (aD e);exact⟨j,q⟩
  ·rw[if_neg j] at e
   cases e
 ·rintro⟨j,e⟩
  refine⟨p.1,af.mpr (Zp e),?_⟩;rw[if_pos j,e];rfl
theorem Zel {h:Heap}:∀(as:List Addr) (yss:List (List Int)),as.length=yss.length->(∀(i:Nat) a,as[i]?=some a->∃(q:List Value) (ys:List Int),yss[i]?=some ys/\h.IsTuple a q.toArray/\a8 q ys/\ys≠[])->
  ∃fs:List Value,W.KatTups h (as.map aB) fs/\fs.length=as.length/\∀v∈fs,∃n t,v=fN n t
 | [],[],_,_=>⟨[],lC,rfl,fun v j=>by cases j⟩
 | [],_::_,h,_=>by cases h
 |_::_,[],h,_=>by cases h
 |a::as,ys::yss,J,g=>by
  obtain⟨q,M,e,⟨o,O,c,n,d⟩,U,ne⟩:=g 0 a rfl;cases e;obtain⟨fs,k,l,f⟩:=Zel as yss (cy J) fun i Y hi=>g (i+1) Y hi;cases U with
  |nil=>exact absurd rfl ne
  |cons z t r=>
   refine⟨fN z t::fs,lq O c d (by simp) k,by rw[Zi,Zi,l],fun v j=>?_⟩;rcases aG.mp j with rfl|j
   ·exact⟨_,_,rfl⟩
   ·exact f v j
theorem Zbo {l L:Addr}{m:Str->Option Value}{as:List Addr}{yss:List (List Int)}{p:Array Nat}{Q:Value->Shared->Prop}(n6:s.heap.Ns L m)(hl:s.heap.IsList l (as.map aB).toArray)(n2:2<=as.length)(n8:as.length<64)(hy:as.length=yss.length)
  (ht:∀(i:Nat) a,as[i]?=some a->a≠L/\∃(us:List Value) (ys:List Int),yss[i]?=some ys/\s.heap.IsTuple a us.toArray/\a8 us ys/\ys≠[])
  (hp:Xe as.length (fun i j=>Jt (yss.getD i []) (yss.getD j [])) (f8 as.length)=some p)
  (q:∀D c h',s.heap.get? D=none->D≠L->(∀b o,b≠L->s.heap.get? b=some o->h'.get? b=some o)->h'.Ns L m->h'.get? D=some (lL (p.toList.map fun i=>(as.map aB).getD i a9).toArray c)->Q (.ref D) {s with heap:=h'}) :
  wpAny (model prog w) A (call (.builtin "sorted") [.ref l]) Q E s:=by
 have fr:Fr (UB s.heap L) L s.heap m:=by
  refine⟨n6,fun b o e=>?_,?_⟩
  ·by_cases hb:b<L
   ·rw[YA hb] at e;exact e
   ·rw[WC (ft hb)] at e
    cases e
  ·show (s.heap.objs.extract 0 L).size<=L
   rw[fW,dw];exact fM ..
 have nw:News (UB s.heap L) L s.heap (Ya s.heap L):=fun x hx=>by
  obtain⟨J,h2⟩:=Z9.mp hx;exact⟨h2,bb J,WC (cR J)⟩
 have lv:(as.map aB).length=as.length:=fI ..;refine lh fr nw hl (by rw[lv];exact n2) (by rw[lv];exact n8) fun D e1 h' m5 M big=>?_;have kept:∀b o,b≠L->s.heap.get? b=some o->h'.get? b=some o:=fun b o hb e=>by
  rcases cq b L with J|J
  ·exact m5.keep b o (by rw[YA J];exact e)
  ·exact (M (b,o) (ao _ (Z9.mpr ⟨bx J (bh hb),e⟩))).1
 have dn:s.heap.get? D=none:=by
  cases e:s.heap.get? D with
  |none=>rfl
  |some o=>
   obtain⟨_,dL,dc⟩:=M _ (aq ..);rcases cq D L with J|J
   ·rw[YA J] at dc
    rw[dc] at e;cases e
   ·exact absurd (big (D,o) (Z9.mpr ⟨bx J (bh dL),e⟩)) (bR _)
 have dL:D≠L:=(M _ (aq ..)).2.1;have Y:∀(i:Nat) a,as[i]?=some a->∃(us:List Value) (ys:List Int),yss[i]?=some ys/\h'.IsTuple a us.toArray/\a8 us ys/\ys≠[]:=fun i a hi=>by
  obtain⟨aL,us,ys,e,⟨o,g1,g2⟩,ia,ne⟩:=ht i a hi;exact⟨us,ys,e,⟨o,kept a o aL g1,g2⟩,ia,ne⟩
 obtain⟨fs,kt,fl,fi⟩:=Zel as yss hy Y;refine W.kat_kind (T:=cn "int") kt (by omega) (fun v hv=>?_) (by decide +kernel) ?_
 ·obtain⟨n,t,rfl⟩:=fi v hv
  intro A Q E s' _ q;exact Zm q
 ·rw[lv]
  have kb:(cn "int" != cn "tuple")=true:=by decide +kernel
  rw[kb];refine JU (cmp:=fun i j=>Jt (yss.getD i []) (yss.getD j [])) (fun i j C hi hj c=>?_) _ p _ hp ?_
  ·unfold W.kas_ask
   obtain⟨us,ys,e,⟨o,g1,g2,n1,g3⟩,ia,_⟩:=Y i as[i] (Zf hi);obtain⟨n9,m6,e2,⟨o2,k1,k2,o5,k3⟩,m8,_⟩:=Y j as[j] (Zf hj);have v1:(as.map aB).getD i a9=.ref as[i]:=by
    rw[Zb,Zc,Zf hi];rfl
   have v2:(as.map aB).getD j a9=.ref as[j]:=by
    rw[Zb,Zc,Zf hj];rfl
   have w1:yss.getD i []=ys:=by rw[Zb,e];rfl
   have w2:yss.getD j []=m6:=by rw[Zb,e2];rfl
   rw[v1,v2];refine W.kat_lt g1 g3 k1 k3 ?_;have il:∀{us:List Value}{ys:List Int},a8 us ys->us.length=ys.length:=fun {us ys} h=>by
    induction h with
    |nil=>rfl
    |cons _ _ _ ih=>rw[Zi,Zi,ih]
   refine Zho us n9 ys m6 0 ia m8 ?_;rw[w1,w2] at c;unfold Jt at c;rw[Zh,Zh,il ia,il m8];exact c
  ·refine⟨_,_,m5,M,jY (fun x hx=>aC (big x hx)),fun o0 c O U=>?_⟩
   refine q D c o0 dn dL (fun b o hb e=>?_) O.ns (U _ (aq ..)).1;rcases cq b L with J|J
   ·exact O.keep b o (by rw[YA J];exact e)
   ·exact (U (b,o) (ao _ (Z9.mpr ⟨bx J (bh hb),e⟩))).1
end
end PyZ
namespace L2
open PySem PySem.Spec PyProof.Rows
theorem Yt.there {P:Program}{w:World}{H:Hp}{h:Heap}{a:Addr}{o:HO}(x:Yt P w H h a o):∃j,h.get? a=some j:=by
 cases o with
 |lst J=>obtain⟨_,_,_,_,e⟩:=x;exact⟨_,e⟩
 |tup J=>obtain⟨_,_,_,j,e,_⟩:=x;exact⟨_,e⟩
 |dK q=>obtain⟨_,_,_,_,o,_,_,e,_⟩:=x;exact⟨_,e⟩
 |dT q=>obtain⟨_,_,_,_,o,_,_,e,_⟩:=x;exact⟨_,e⟩
 |set S n=>obtain⟨o,_,_,_,e,_⟩:=x;exact⟨_,e⟩
 |ins C M fs=>obtain⟨_,_,_,e,_⟩:=x;exact⟨_,e⟩
 |own y=>obtain⟨_,e⟩:=x;exact⟨_,e⟩
 |xd fs=>obtain⟨_,⟨_,_,_,e,_⟩,_⟩:=x;exact⟨_,e⟩
 |rng lo O=>obtain⟨_,_,_,e⟩:=x;exact⟨_,e⟩
 |frz j u=>obtain⟨e,_⟩:=x;exact⟨_,e⟩
 |tbl U=>exact⟨_,(show h.get? a=some _ from x)⟩
 |met f y=>exact⟨_,(show h.get? a=some _ from x)⟩
 |ext Y=>obtain⟨_,⟨_,e⟩,_⟩:=x;exact⟨_,e⟩
section
variable {X:Cx}{pins:List (Addr×Obj)}{σ:St}{H:Hp}{s:Shared}
theorem Inv.newL {D:Addr}{c:Nat}{h':Heap}{m:Str->Option Value}{ys:List V}{U:List Value}(I:Inv X pins σ H s)(hm:s.heap.Ns X.env.locals m)
  (hl:∀(i:Nat) (x:Str) (v:V),X.N[i]?=some x->σ[i]?=some (some v)->Vis X.env.scope x->∃u,RelV v u/\Look X.env s.heap m x u)
  (dn:s.heap.get? D=none) (dL:D≠X.env.locals) (kept:∀b o,b≠X.env.locals->s.heap.get? b=some o->h'.get? b=some o) (n6:h'.Ns X.env.locals m) (hz:ys.length<=sizeLine) (hv:ZL ys U) (hD:h'.get? D=some {cls:=.type "list",data:=.seq U.toArray c}) :
  Inv X pins σ (upd H D (.lst ys)) {s with heap:=h'}/\H D=none:=by
 have m5:H D=none:=by
  cases e:H D with
  |none=>rfl
  |some o=>
   obtain⟨ob,e2⟩:=(I.hok D o e).there;rw[dn] at e2;cases e2
 have Y:∀{b:Addr}{o:Obj},s.heap.get? b=some o->b≠D:=fun {b o} e z=>by rw[z,dn] at e;cases e
 have M:∀{b:Addr}{o:HO},H b=some o->b≠D:=fun {b o} e z=>by rw[z,m5] at e;cases e
 have m6:∀{b:Addr}{o:HO},H b=some o->b≠X.env.locals:=fun {b o} e z=>by rw[z,I.free] at e;cases e
 have bL:∀{b:Addr}{o:Obj},X.s₀.heap.get? b=some o->b≠X.env.locals:=fun {b o} e=>aC (aE (Zp e) I.ok.above);refine⟨⟨I.ok,I.os,I.bare,⟨fun b o e n hb O=>?_,fun b o e n hb O=>?_,fun b o e n O=>?_,fun b o e O=>?_,fun b xs e=>?_,fun b o u e=>?_,fun b ps e=>?_⟩,⟨m,n6,fun j y v e1 e2 e3=>?_⟩,fun y J e=>?_,?_,fun y J e=>?_,fun p hp=>?_,fun b ob e=>?_,I.len⟩,m5⟩
 ·exact kept b o (bL e) (I.base.keep b o e n hb O)
 ·obtain⟨sl,e1⟩:=I.base.slot b o e n hb O
  exact⟨sl,kept b _ (bL e) e1⟩
 ·obtain⟨o',e1⟩:=I.base.there b o e O
  rw[Zy (Y e1)];exact I.base.free b o e n O
 ·obtain⟨o',e1⟩:=I.base.there b o e O
  exact⟨o',kept b _ (bL e) e1⟩
 ·have:=I.base.tups b xs e
  rw[Zy (M this)];exact this
 ·have:=I.base.frzs b o u e
  rw[Zy (M this)];exact this
 ·obtain⟨m8,this⟩:=I.base.tbls b ps e
  exact⟨m8,by rw[Zy (M this)];exact this⟩
 ·obtain⟨u,r,q⟩:=hl j y v e1 e2 e3
  refine⟨u,r,?_⟩;rcases q with ⟨k,e⟩|⟨k,J,e,z⟩
  ·exact .inl ⟨k,e⟩
  ·obtain⟨o,g,rest⟩:=z
   exact .inr ⟨k,J,e,o,kept J o (I.cne y J e) g,rest⟩
 ·obtain⟨w',o,g,rest⟩:=I.cell y J e
  exact⟨w',o,kept J o (I.cne y J e) g,rest⟩
 ·rw[Zy (bh dL)]
  exact I.free
 ·obtain⟨w',o,g,rest⟩:=I.cell y J e
  rw[Zy (Y g)];exact I.freeC y J e
 ·obtain⟨e,n,ne,nf,d⟩:=I.pin p hp
  exact⟨kept p.1 _ ne e,by rw[Zy (Y e)];exact n,ne,nf,d⟩
 ·by_cases hb:b=D
  ·subst hb
   rw[Zt] at e;cases (aD e);exact⟨hz,U,c,hv,hD⟩
  ·rw[Zy hb] at e
   refine (I.hok b ob e).stay (fun J w' hc q=>kept J w' ?_ q) (fun J q=>?_) fun J xs q=>?_
   ·rcases hc with rfl|hc
    ·exact m6 e
    ·exact m6 hc
   ·rw[Zy (M q)]
    exact q
   ·rw[Zy (M q)]
    exact q
theorem WB:∀{as:List Addr}{us:List Value},ZL (as.map V.ref) us->us=as.map aB
 | [],_,h=>by cases h;rfl
 |a::as,_,h=>by
  cases h with
  |cons r t=>rw[show _=aB a from r,WB t];rfl
theorem Je:∀{ns:List Int}{us:List Value},ZL (ns.map V.int) us->a8 us ns
 | [],_,h=>by cases h;exact .nil
 |n::ns,_,h=>by
  cases h with
  |cons r t=>
   obtain⟨k,rfl⟩:=r;exact .cons n k (Je t)
theorem W5:∀as:List Addr,ZL (as.map V.ref) (as.map aB)
 | []=>.nil
 |a::as=>.cons rfl (W5 as)
end
section
variable {X:Cx}
noncomputable def Tz (H:Hp)(a:Addr)(ys:List V):Prop:=∃o:Obj,H a=some (.frz o (.tup ys))/\o.cls=.type "tuple"/\o.dict=none
theorem Tz.sq {K:aa}{H:Hp}{a:Addr}{ys:List V}(h:Tz H a ys):Xc K H a ys:=by
 obtain⟨o,h,_⟩:=h;exact .inl (.inr ⟨o,h⟩)
theorem Tz.mono {H j:Hp}{a:Addr}{ys:List V}(s:Zv H j)(h:Tz H a ys):Tz j a ys:=by
 obtain⟨o,h,r⟩:=h;exact⟨o,s _ _ h,r⟩
theorem Zck:Yu X (.type "tuple") (fun xs H Q=>∃p ys,xs=[.ref p]/\Wt X.K H p ys/\∀l O,H l=none->Zv H O->Tz O l ys->Q (.ref l) O):=by
 intro j s U H xs us Q I r h;obtain⟨p,ys,rfl,hq,q⟩:=h;obtain⟨u,rfl,rx⟩:=vals1 r;cases rx;obtain⟨J,Y,pl,hz⟩:=I.list hq;have m5:=Y.length;refine call_tuple_list pl.isList (fun M kp=>?_) (by simp only[Zh] <;> omega)
 have I1:Inv X j U H {s with heap:=M}:=I.kept (t':=s.toks) kp;have hf:=I1.hok.fresh (Zq _);have I2:Inv X j U (upd H M.objs.size (.frz {cls:=.type "tuple",data:=.seq J.toArray} (.tup ys))) {s with heap:=M.push {cls:=.type "tuple",data:=.seq J.toArray}}:=
  I1.laid (t':=s.toks) (fun b o e=>Zn _ e) (Zq _) ⟨Zo _ rfl,hz,J,Y,lS _ _⟩
 exact⟨.ref M.objs.size,_,I2,rfl,q _ _ hf (Zv.upd hf) ⟨_,Zt,rfl,rfl⟩⟩
variable {o e:Expr}{es:List Expr}{to:TE}{t:TA}{name:Str}{apos cpos:Pos}{id:String}{r:V->List V->Hp->VK->Prop}
noncomputable def Zoz (r:V->List V->Hp->VK->Prop)(to:TE)(t:TA):TE:=fun j H Q=>to j H fun x q=>(∃p J,x=.ref p/\Tz q p J)/\t j q fun M O=>r x M O Q
theorem ZgR (pa:PlainAttrs "tuple")(slot:Slot "tuple" name id)(U:typeOf (.builtin id)=pure (.type "method_descriptor"))(hm:MtR X id r)(ho:PE X o to)(ha:PA X (e::es) t)
  (J:attributeBase o name X.env (eval o X.env)=eval o X.env:=by rfl)
  (O:((backTo cpos (starEach (e::es) X.env)).all (fun x=>!x.1) && (backToKw cpos (keywordEach [] X.env)).all (fun x=>x.1.isSome)
   && decide ((e::es).length+([]:List Keyword).length+(if ([]:List Keyword).isEmpty then 0 else 1)<30))=true:=by rfl)
  (M:(apos.endLine == cpos.line)=true:=by rfl) (hs:starEach (e::es) X.env=(false,eval e X.env)::starEach es X.env:=by rfl) (q:(backTo cpos (starEach es X.env)).any (·.1)=false:=by rfl) :
  PE X (.Call (.Attribute o name apos) (e::es) [] cpos) (Zoz r to t):=by
 intro j s Y H Q I h;refine lK J O M rfl (Yj (ho j s Y H _ I h) fun v s1 ⟨x,H1,I1,r1,ty,q1⟩=>?_);obtain⟨p,ys,rfl,ob,m5,hc,hd⟩:=ty;cases r1;obtain⟨eo,_⟩:=I1.hok p _ m5;refine⟨"tuple",id,pa,slot,U,⟨ob,eo,hc⟩,fun a e=>?_,?_⟩
 ·cases e
  exact⟨ob,eo,hd⟩
 have hA:=ha cpos j s1 Y H1 _ I1 q1;rw[hs] at hA ⊢;refine jU (by show (false || (backTo cpos (starEach es X.env)).any (·.1))=false;rw[q] <;> rfl) (kx ?_)
 exact Yj hA fun us s2 ⟨vs,H2,I2,r2,q2⟩=>hm j s2 Y H2 (.ref p) vs (.ref p) us Q I2 rfl r2 q2
end
end L2
namespace PyZ
open PySem PySem.Spec PyProof.Rows
section
variable {prog:Program}{w:World}{A:Around}{E:Value->Shared->Prop}{s:Shared}
theorem UC {R:List Value->Shared->Prop}{r:Addr}{a b c:Int}{t u v:Tok}{n:Nat}(hh:A.handled=none)(hr:IsRange s.heap r a b c t u v)(O:cp a b c=true)
  (hn:bd a b c=n) (Y:n<=2 ^ 24)
  (h:∀(h':Heap) (tk:Nat) (ZE:Array Value),(∀b o,s.heap.get? b=some o->h'.get? b=some o)->gL (fun i v=>∃t,v=.int (a+i*c) t) ZE n->R ZE.toList {s with heap:=h',toks:=tk}) :
  wpAny (model prog w) A (collect (.ref r)) R E s:=by
 unfold collect;refine Zl (ka (bX PySem.F.entry_proto_collect ?_));rw[bD iZ _];show wpAny _ A.in1 (newList [] >>= fun l=>again (.builtin "list.__iadd__" ⟨[l,.ref r],[]⟩)) _ _ s;refine Zl (bO ?_);refine Zm ⟨cY eL _,bX PySem.F.entry_list_iadd ?_⟩;rw[bD eL _];have U:(s.heap.push {cls:=.type "list",data:=.seq ([]:List Value).toArray}).get? s.heap.objs.size=some {cls:=.type "list",data:=.seq #[]}:=Zo _ rfl;show wpAny _ A.in1 (cZ (.ref s.heap.objs.size) (.ref r) (.ref s.heap.objs.size)) _ _ _;have m5:=wpAny_extend_range (prog:=prog) (w:=w) (A:=A) (s:={s with heap:=s.heap.push {cls:=.type "list",data:=.seq ([]:List Value).toArray}})
  (R:=fun (q:Result) (s':Shared)=>∃(h':Heap) (tk:Nat) (j:Array Value) (c':Nat),q=.ok (.ret (.ref s.heap.objs.size))/\s'={s with heap:=h',toks:=tk}/\
   (∀b o,s.heap.get? b=some o->h'.get? b=some o)/\h'.get? s.heap.objs.size=some {cls:=.type "list",dict:=none,data:=.seq j c',slots:=#[]}/\gL (fun i v=>∃t,v=.int (a+i*c) t) j n)
  hh (Zn _ hr) O hn Y s.heap.objs.size (.ref s.heap.objs.size) 0 U
  (fun h' tk j c' hk M J=>⟨h',tk,j,c',rfl,rfl,fun b o e=>hk b o (aC (Zp e)) (Zn _ e),M,J⟩)
 refine cv m5 (fun m6 s' x=>?_) fun e s' x=>?_
 ·cases m6 with
  |done f=>
   obtain⟨h',tk,j,c',e,rfl,hk,M,J⟩:=x;cases e;show wpAny _ A (load s.heap.objs.size >>= _) _ _ _;refine Zl (i6 M ?_);exact Zm (h h' tk j hk J)
  |again m8=>
   refine⟨x.1,fq x.2 fun q n6 y=>?_⟩;obtain⟨h',tk,j,c',rfl,rfl,hk,M,J⟩:=y;show wpAny _ A (load s.heap.objs.size >>= _) _ _ _;refine Zl (i6 M ?_);exact Zm (h h' tk j hk J)
 ·obtain⟨_,_,_,_,e',_⟩:=x
  cases e'
theorem JH {Q₁:Value->Shared->Prop}{r:Addr}{a b c:Int}{t u v:Tok}{n:Nat}(hh:A.handled=none)(Y:IsRange s.heap r a b c t u v)(j:cp a b c=true)
  (hn:bd a b c=n) (J:n<=2 ^ 24)
  (h:∀(h':Heap) (tk:Nat) (ZE:Array Value),(∀b o,s.heap.get? b=some o->h'.get? b=some o)->gL (fun i v=>∃t,v=.int (a+i*c) t) ZE n->
   Q₁ (.ref h'.objs.size) {s with heap:=h'.push {cls:=.type "tuple",data:=.seq ZE},toks:=tk}) :
  codeAny (model prog w) A (.call (.builtin "tuple.__new__") ⟨[.type "tuple",.ref r],[]⟩) (wants Q₁ E) s:=by
 refine jQ ?_;show wpAny _ A.in1 (do checkBuiltinCall "tuple.__new__" ⟨[.type "tuple",.ref r],[]⟩;again (.builtin "tuple.__new__" ⟨[.type "tuple",.ref r],[]⟩)) _ _ s
 refine Zl (jG (PySem.F.newCall_tuple_1 _) (Zm ⟨cY (show plainId "tuple.__new__"=true by decide +kernel) _,bX PySem.F.entry_tuple_new ?_⟩));rw[bD (show plainId "tuple.__new__"=true by decide +kernel) _];have m5:=sub_tuple_self;have M:=init_tuple_lookup;have m6:=madeHere_tuple;have O:s.TypeIs (.ref r) "range":=⟨_,Y,rfl⟩;have U:n<=sizeLine:=by
  have:(16777216:Nat)=sizeLine:=by decide
  omega
 wp_walk using ic O,UC (A:=A.in1) hh Y j hn J
 intro h' tk ZE hm q;show wpAny _ _ (iK ZE.toList.toArray >>= fun v=>ret v) _ _ _;unfold iK;refine Zl (bO ?_ (by show ZE.toList.toArray.size<=sizeLine;simp only[kG];rw[q.1];exact U));refine Zm ?_;have e:ZE.toList.toArray=ZE:=by simp
 rw[e];exact h h' tk ZE hm q
theorem X7 {Q:Value->Shared->Prop}{r:Addr}{a b c:Int}{t u v:Tok}{n:Nat}(Y:A.handled=none)(hr:IsRange s.heap r a b c t u v)(J:cp a b c=true)
  (hn:bd a b c=n) (M:n<=2 ^ 24)
  (h:∀(h':Heap) (tk:Nat) (ZE:Array Value),(∀b o,s.heap.get? b=some o->h'.get? b=some o)->gL (fun i v=>∃t,v=.int (a+i*c) t) ZE n->
   Q (.ref h'.objs.size) {s with heap:=h'.push {cls:=.type "tuple",data:=.seq ZE},toks:=tk}) :
  wpAny (model prog w) A (call (.type "tuple") [.ref r]) Q E s:=by
 refine callType_codes (Q₁:=fun obj j=>j.TypeIs obj "tuple"/\Q obj j) gP (PySem.F.typeCall_tuple_1 _) PySem.F.entry_object_init
  (JH (A:=A.in1) Y hr J hn M fun h' tk ZE hk O=>⟨⟨_,Zo _ rfl,rfl⟩,h h' tk ZE hk O⟩) fun obj j q=>?_
 exact⟨q.1,jT obj _,object_init_meets gP.init.lookup gP.made (by decide) prog w A.in1 _ j ⟨q.1,rfl,q.2⟩⟩
end
end PyZ
namespace L2
open PySem PySem.Spec PyProof.Rows
section
variable {X:Cx}
theorem Ul (hc:X.calm=true):Yu X (.type "tuple") (fun xs H Q=>∃(a:Addr) (lo hi:Int),xs=[.ref a]/\H a=some (.rng lo hi)/\(-(2 ^ 62)<=lo/\lo<2 ^ 62/\-(2 ^ 62)<=hi/\hi<2 ^ 62)/\(hi-lo).toNat<=sizeLine/\
  ∀l,H l=none->Q (.ref l) (upd H l (.tup ((Y1 lo (hi-lo).toNat).map V.int)))):=by
 intro j s O H xs us Q I r h;obtain⟨a,lo,hi,rfl,ha,⟨b1,b2,b3,b4⟩,U,q⟩:=h;obtain⟨u,rfl,ru⟩:=vals1 r;cases ru;obtain⟨t,u,v,e⟩:=(show ∃t u v,s.heap.get? a=some {cls:=.type "range",data:=.fields #[.int lo t,.int hi u,.int 1 v]} from I.hok a _ ha);refine PyZ.X7 (n:=(hi-lo).toNat) (I.ok.hd hc) e (small_one b1 b2 b3 b4) (by rw[kW];split <;> omega) U fun J tk ZE hk M=>?_
 have Y:Inv X j O H {s with heap:=J,toks:=tk}:=I.kept (t':=tk) hk;have I2:Inv X j O (upd H J.objs.size (.tup ((Y1 lo (hi-lo).toNat).map V.int))) {s with heap:=J.push {cls:=.type "tuple",data:=.seq ZE},toks:=tk}:=
  Y.laid (t':=tk) (fun b o e=>Zn _ e) (Zq _) (show Yt X.prog X.w _ _ _ (.tup ((Y1 lo (hi-lo).toNat).map V.int)) from ⟨by rw[Za,YJ];exact U,ZE.toList,UH M,by simpa using lS _ _⟩)
 exact⟨.ref J.objs.size,_,I2,rfl,q _ (Y.hok.fresh (Zq _))⟩
end
end L2
namespace PyY
open PySem
open AutoSeq1 (wpAny_loadPart')
section
variable {prog:Program}{w:World}{A:Around}{E:Value->Shared->Prop}{s:Shared}
theorem VW {j a:Addr}{k:Nat}{us:Array Value}{y:Value}{Q:Value->Shared->Prop}(c:s.heap.IsTupleIter j a k)(d:s.heap.IsTuple a us)(e:us[k]?=some y)
  (q:∀g,g.IsTupleIter j a (k+1)->ba j s.heap g->Q y {s with heap:=g}):wpAny (model prog w) A (a7 (.ref j)) Q E s:=by
 obtain⟨Y,J,cj,dj⟩:=id c;obtain⟨oa,O,_,na,U⟩:=d;unfold a7;refine Zl (bn (name:=cQ "__next__") c.typeIs ef (bv ef c.typeIs jM ?_ (jD _)));show wpAny _ _ (field (.ref j) 0 >>= _) _ _ s;refine Zl (bN J dj (x:=.ref a) rfl ?_);show wpAny _ _ (if (aB a == a9)=true then _ else _) _ _ s
 rw[if_neg (show ¬((aB a == a9)=true) from aH)];show wpAny _ _ (field (.ref j) 1 >>= _) _ _ s;refine Zl (bN J dj (x:=.int k 0) rfl ?_);show wpAny _ _ (seqItems? (.ref a) >>= _) _ _ s;refine Zl (ci O U ?_);simp only[Zj,e];refine Zl (dk J dj (by simp) (Zm ⟨y,rfl,Zm (q _ ?_ (bF ..))⟩));refine⟨_,bB _ J (cN (bw dj _)),(gq ..).trans cj,?_⟩;rw[bw dj];simp[rawInt]
theorem UV {j a:Addr}{k:Nat}{us:Array Value}{Q:Value->Shared->Prop}(U:A.handled=none)(c:s.heap.IsTupleIter j a k)(d:s.heap.IsTuple a us)(e:us[k]?=none)
  (q:∀g x,g9 j s.heap g->(∃o,g.get? x=some o/\o.cls=.type "StopIteration")->E (.ref x) {s with heap:=g}):wpAny (model prog w) A (a7 (.ref j)) Q E s:=by
 obtain⟨oj,J,cj,dj⟩:=id c;obtain⟨oa,Y,_,na,da⟩:=d;unfold a7;refine Zl (bn (name:=cQ "__next__") c.typeIs ef (bv ef c.typeIs jM ?_ (jD _)));show wpAny _ _ (field (.ref j) 0 >>= _) _ _ s;refine Zl (bN J dj (x:=.ref a) rfl ?_);show wpAny _ _ (if (aB a == a9)=true then _ else _) _ _ s
 rw[if_neg (show ¬((aB a == a9)=true) from aH)];show wpAny _ _ (field (.ref j) 1 >>= _) _ _ s;refine Zl (bN J dj (x:=.int k 0) rfl ?_);show wpAny _ _ (seqItems? (.ref a) >>= _) _ _ s;refine Zl (ci Y da ?_);simp only[Zj,e];refine Zl (eE (Zl (dk J dj (by simp) ?_)));show wpAny _ _ (newExc (.type "StopIteration") [] >>= _) _ _ {s with heap:=_};refine Zl ?_;unfold newExc newTuple;refine Zl (bO (Q:=_) ?_ (by size_fits));refine Zl (m:=firstArgMember _ _) (jG (a:=a9) (by first|rfl|(unfold firstArgMember;rfl)) ?_)
 refine bO (Q:=_) ?_ (by size_fits);unfold raiseNew;refine Zl (wpAny_handled ?_);have M:A.in1.handled=none:=U;rw[M];refine Zl (Zm (wpAny_throw (E:=E) ?_));exact q _ _ (((bF ..).extBut.push _).push _) ⟨_,Zo _ rfl,rfl⟩
theorem Zc7 {n j a:Addr}{k:Nat}{us:Array Value}{y J:Value}{Q:Option Value->Shared->Prop}(b:gC s.heap n j k J)(c:s.heap.IsTupleIter j a k)(d:s.heap.IsTuple a us)(e:us[k]?=some y)(nj:n≠j)
  (q:∀g,IsEnumOut g n j ((k:Int)+1) y s.heap.objs.size->g.IsTupleIter j a (k+1)->g.get? s.heap.objs.size=some {cls:=.type "tuple",data:=.seq #[.int k s.toks,y]}->g.objs.size=s.heap.objs.size+1->
   (∀x o,x≠n->x≠j->s.heap.get? x=some o->g.get? x=some o)->Q (some (.ref s.heap.objs.size)) {s with heap:=g,toks:=s.toks+1}):wpAny (model prog w) A (pyNext (.ref n)) Q E s:=by
 have tn:s.TypeIs (.ref n) "enumerate":=⟨_,b,rfl⟩;unfold pyNext;refine Zl (dQ (bn (name:=cQ "__next__") tn fw (bv fw tn lr ?_ (kJ _))));obtain⟨M,O,dr,tk,os⟩:=s;show wpAny _ _ (field (.ref n) 2 >>= _) _ _ _;refine Zl (bN b rfl (x:=.ref j) rfl ?_);refine Zl (VW c d e fun U c1 s1=>?_);replace s1:ba j M U:=s1;have b1:gC U n j k J:=(s1.2 n nj).trans b;show wpAny _ _ (field (.ref n) 3 >>= _) _ _ ⟨U,O,dr,tk,os⟩;refine Zl (bN b1 rfl (x:=rawInt k) rfl ?_);show wpAny _ _ (field (.ref n) 4 >>= _) _ _ ⟨U,O,dr,tk,os⟩;refine Zl (bN b1 rfl (x:=.none) rfl ?_);show wpAny _ _ (mkInt k >>= _) _ _ ⟨U,O,dr,tk,os⟩;refine Zl (wpAny_mkInt ?_);show wpAny _ _ (setField (.ref n) 3 (rawInt ((k:Int)+1)) >>= _) _ _ ⟨U,O,dr,tk+1,os⟩;refine Zl (bK b1 (by simp) fun g2 b2 s2=>?_);replace s2:ba n U g2:=s2;replace b2:gC g2 n j ((k:Int)+1) J:=b2;show wpAny _ _ (setField (.ref n) 4 .none >>= _) _ _ ⟨g2,O,dr,tk+1,os⟩;refine Zl (bK b2 (by simp) fun Y b3 s3=>?_);replace s3:ba n g2 Y:=s3;replace b3:gC Y n j ((k:Int)+1) J:=b3;show wpAny _ _ (newTuple [.int k tk,y] >>= _) _ _ ⟨Y,O,dr,tk+1,os⟩;refine Zl (kc ?_);have b4:gC (Y.push {cls:=.type "tuple",data:=.seq #[.int k tk,y]}) n j ((k:Int)+1) J:=Zn _ b3;generalize z4:Y.push {cls:=.type "tuple",data:=.seq #[.int k tk,y]}=g4 at b4;have sz:Y.objs.size=M.objs.size:=by rw[s3.1,s2.1,s1.1]
 have nl:n<M.objs.size:=Zp b;have t4:g4.get? M.objs.size=some {cls:=.type "tuple",data:=.seq #[.int k tk,y]}:=by
  rw[<-z4,<-sz];exact Zo _ rfl
 have w4:g4.objs.size=M.objs.size+1:=by
  rw[<-z4,bt,sz]
 have k4:∀x o,x≠n->x≠j->M.get? x=some o->g4.get? x=some o:=fun x o xn xj hx=>by
  rw[<-z4];exact Zn _ (s3.extBut x o xn (s2.extBut x o xn (s1.extBut x o xj hx)))
 have c4:g4.IsTupleIter j a (k+1):=by
  obtain⟨o,ho,r⟩:=(c1.extBut s2.extBut (bh nj)).extBut s3.extBut (bh nj);rw[<-z4];exact⟨o,Zn _ ho,r⟩
 show wpAny _ _ (bu (.ref n) >>= _) _ _ ⟨g4,O,dr,tk+1,os⟩;rw[sz];clear z4 b3 s3 b2 s2 b1 s1 c1 sz Y g2 U;refine Zl ?_;unfold bu;refine Zl (bN b4 rfl (x:=.none) rfl (Zm ?_));rw[if_pos rfl];refine Zl (eE (Zl (bN b4 rfl (x:=J) rfl ?_)));refine Zl (bK b4 (by simp) fun g5 b5 s5=>?_);replace s5:ba n g4 g5:=s5;replace b5:gC g5 n j ((k:Int)+1) y:=b5;show wpAny _ _ (cg (.ref n) (.ref M.objs.size) >>= _) _ _ ⟨g5,O,dr,tk+1,os⟩;refine Zl ?_;unfold cg;refine Zl (bK b5 (by simp) fun g6 b6 s6=>?_);replace s6:ba n g5 g6:=s6;replace b6:IsEnumOut g6 n j ((k:Int)+1) y M.objs.size:=b6;refine bK b6 (by simp) fun g7 b7 s7=>?_;replace s7:ba n g6 g7:=s7;replace b7:IsEnumOut g7 n j ((k:Int)+1) y M.objs.size:=b7;refine Zl (jH (Zm ⟨_,rfl,Zm (q g7 b7 ?_ ?_ ?_ ?_)⟩))
 ·exact ((c4.extBut s5.extBut (bh nj)).extBut s6.extBut (bh nj)).extBut s7.extBut (bh nj)
 ·exact s7.extBut _ _ (bb nl) (s6.extBut _ _ (bb nl) (s5.extBut _ _ (bb nl) t4))
 ·rw[s7.1,s6.1,s5.1,w4]
 ·exact fun x o xn xj hx=>s7.extBut x o xn (s6.extBut x o xn (s5.extBut x o xn (k4 x o xn xj hx)))
theorem Zfm {n j a:Addr}{k:Nat}{us:Array Value}{old:Value}{Q:Option Value->Shared->Prop}(O:A.handled=none)(b:gC s.heap n j k old)(c:s.heap.IsTupleIter j a k)(d:s.heap.IsTuple a us)(e:us[k]?=none)
  (q:∀g,g9 j s.heap g->Q none {s with heap:=g}):wpAny (model prog w) A (pyNext (.ref n)) Q E s:=by
 have J:s.TypeIs (.ref n) "enumerate":=⟨_,b,rfl⟩;unfold pyNext;refine Zl (dQ (bn (name:=cQ "__next__") J fw (bv fw J lr ?_ (kJ _))));show wpAny _ _ (field (.ref n) 2 >>= _) _ _ _;refine Zl (bN b rfl (x:=.ref j) rfl ?_);refine Zl (UV O c d e fun g x U Y=>?_);obtain⟨o,ho,hc⟩:=Y;refine Zl (gZ (T:="StopIteration") (b:=true) ⟨o,ho,hc⟩ kg ?_);exact Zm (q _ U)
theorem Zfl (a:Addr)(q:Array Value)(n:Nat)(M:Option Addr)(O:Array (Option Value)) :
  Meets (cC.«enumerate.__new__» ⟨[.type "enumerate",.ref a],[]⟩) (fun _ R s=>s.heap.get? a=some {cls:=.type "tuple",dict:=M,data:=.seq q n,slots:=O}/\
   R (.ok (.ret (.ref (s.heap.push {cls:=.type "tuple_iterator",data:=.fields #[.ref a,.int 0 0]}).objs.size)))
    {s with heap:=(s.heap.push {cls:=.type "tuple_iterator",data:=.fields #[.ref a,.int 0 0]}).push {cls:=.type "enumerate",data:=.fields #[.none,.bool false,.ref s.heap.objs.size,rawInt 0,.none,.none]}}):=
 .of_wp fun prog w A R s h=>by
  obtain⟨U,Y,dr,tk,os⟩:=s;obtain⟨j,h⟩:=h;have sub:=sub_enumerate;have J:Heap.IsTuple (jZ ⟨U,Y,dr,tk,os⟩) a q:=⟨_,j,rfl,n,rfl⟩
  wp_walk using wpAny_loadPart' j
  refine wpAny_stack_any fun st=>Zm ?_;split
  ·rename_i c1 _ _ _ _ _
   cases (c1 == cn "enumerate") <;> (wp_walk using wpAny_loadPart' j,gx J) <;> exact⟨_,rfl,h⟩
  ·wp_walk using wpAny_loadPart' j,gx J
   exact⟨_,rfl,h⟩
theorem Uq {a:Addr}{us:Array Value}{Q:Value->Shared->Prop}(M:s.heap.IsTuple a us)
  (h:∀g,gC g (s.heap.objs.size+1) s.heap.objs.size 0 .none->g.IsTupleIter s.heap.objs.size a 0->g.objs.size=s.heap.objs.size+2->(∀b o,s.heap.get? b=some o->g.get? b=some o)->Q (.ref (s.heap.objs.size+1)) {s with heap:=g}) :
  wpAny (model prog w) A (call (.type "enumerate") [.ref a]) Q E s:=by
 obtain⟨⟨O,U,Y,sl⟩,ha,hc,n,hd⟩:=M;have j:O=.type "tuple":=hc;have q:Y=.seq us n:=hd;subst j q;refine callType_new F.called_enumerate (by decide) (F.typeCall_enumerate_1 _) (F.newCall_enumerate_1 _) (fun obj=>jT obj _) F.entry_enumerate_new (Zfl a us n U sl) ⟨ha,?_⟩;have J:(s.heap.push {cls:=.type "tuple_iterator",data:=.fields #[.ref a,.int 0 0]}).objs.size=s.heap.objs.size+1:=bt ..;show _/\_;rw[J];have he:gC ((s.heap.push {cls:=.type "tuple_iterator",data:=.fields #[.ref a,.int 0 0]}).push {cls:=.type "enumerate",data:=.fields #[.none,.bool false,.ref s.heap.objs.size,rawInt 0,.none,.none]}) (s.heap.objs.size+1) s.heap.objs.size 0 .none:=by
  have z:=Zo (s.heap.push {cls:=.type "tuple_iterator",data:=.fields #[.ref a,.int 0 0]}) (o:={cls:=.type "enumerate",data:=.fields #[.none,.bool false,.ref s.heap.objs.size,rawInt 0,.none,.none]}) rfl;rw[J] at z;exact z
 exact⟨⟨_,he,rfl⟩,h _ he ⟨_,Zn _ (Zo _ rfl),rfl,rfl⟩ (by rw[bt,J]) fun b o y=>Zn _ (Zn _ y)⟩
end
end PyY
namespace L2
open PySem PySem.Spec PyProof.Rows
section
variable {X:Cx}{pins:List (Addr×Obj)}{σ:St}{H:Hp}{s:Shared}{h':Heap}
theorem Inv.turnLay {t':Nat}{ts:List Addr}{T:Addr}{o:HO}(I:Inv X pins σ H s)(k:∀b u,b∉ts->s.heap.get? b=some u->h'.get? b=some u)(ht:∀b∈ts,∃u,h'.get? b=some u)(O:∀b∈ts,UG X pins H b)(U:s.heap.objs.size<=T)
  (M:Yt X.prog X.w (upd H T o) h' T o):Inv X pins σ (upd H T o) {s with heap:=h',toks:=t'}:=by
 have j:H T=none:=I.hok.fresh U;have J:∀b u,H b=some u->b∉ts:=fun b u e z=>by
  have:=(O b z).1;rw[e] at this;cases this
 refine I.call (ch:=ts) (g':=s.gens) (d':=s.drawn) ⟨fun b u e _ _ nx=>k b u nx e,fun b u e _ _ nx=>⟨u.slots,k b u nx e⟩,fun b u e n _=>?_,fun b u e nx=>⟨u,k b u nx e⟩,fun b Y q=>?_,fun b u v q=>?_,fun b ps q=>⟨#[],?_⟩⟩
  (fun b u e=>?_) I.bare fun b hb=>?_
 ·rw[Zy (aC (aE (Zp e) U))]
  exact n
 ·rw[Zy (Z8 q j)]
  exact q
 ·rw[Zy (Z8 q j)]
  exact q
 ·rw[Zy (Z8 q j),q]
  simp
 ·by_cases hb:b=T
  ·subst hb
   rw[Zt] at e;cases e;exact M
  ·rw[Zy hb] at e
   refine (I.hok b u e).stay (fun c v hc q=>k c v ?_ q) (fun c r=>by rw[Zy (Z8 r j)];exact r) fun c Y r=>by rw[Zy (Z8 r j)];exact r
   rcases hc with z|z
   ·rw[z]
    exact J b u e
   ·exact J c _ z
 ·obtain⟨f0,f1,f2,f3,f4,f5⟩:=O b hb
  exact⟨f3,f1,f4,f5⟩
theorem Inv.turnedL {t':Nat}{ts:List Addr}(I:Inv X pins σ H s)(k:∀b u,b∉ts->s.heap.get? b=some u->h'.get? b=some u)(J:∀b∈ts,UG X pins H b):Inv X pins σ H {s with heap:=h',toks:=t'}:=by
 have j:∀b u,H b=some u->b∉ts:=fun b u e z=>by
  have:=(J b z).1;rw[e] at this;cases this
 refine I.call (ch:=ts) (g':=s.gens) (d':=s.drawn) ⟨fun b u e _ _ nx=>k b u nx e,fun b u e _ _ nx=>⟨u.slots,k b u nx e⟩,fun b u e n _=>n,fun b u e nx=>⟨u,k b u nx e⟩,fun b M q=>q,fun b u v q=>q,fun b ps q=>⟨#[],by rw[q];simp⟩⟩
  (fun b u e=>?_) I.bare fun b hb=>?_
 ·refine (I.hok b u e).stay (fun c v O q=>k c v ?_ q) (fun c r=>r) fun c M r=>r
  rcases O with z|z
  ·rw[z]
   exact j b u e
  ·exact j c _ z
 ·obtain⟨f0,f1,f2,U,Y,f5⟩:=J b hb
  exact⟨U,f1,Y,f5⟩
end
noncomputable def Zj9 (K:aa)(a:Addr):It:=
 ⟨fun i H=>∃j x,Wt K H a j/\j[i]?=some x,fun i H x q=>∃T y,x=.ref T/\H T=none/\q=upd H T (.tup [.int i,y])/\∀j,Wt K H a j->j[i]?=some y,fun i H=>∃j,Wt K H a j/\j.length<=i⟩
noncomputable def Zmh (K:aa)(a:Addr):It:=
 ⟨fun i H=>∃j x,Xc K H a j/\j[i]?=some x,fun i H x q=>∃T y,x=.ref T/\H T=none/\q=upd H T (.tup [.int i,y])/\∀j,Xc K H a j->j[i]?=some y,fun i H=>∃j,Xc K H a j/\j.length<=i⟩
theorem VG {P:Program}{w:World}{K:aa}{elts:List Expr}{x1}{pos:Pos}(a e it:Addr)(ne:e≠it) :
  UE P w K (.Tuple elts x1 pos) (Zj9 K a) [e,it] e (fun i h=>(∃j,gC h e it i j)/\h.IsListIter it a i) where
 mem:=by simp
 obj:=fun i h st b hb=>by
  obtain⟨⟨j,J⟩,⟨o,U,c,d⟩⟩:=st;rcases aG.mp hb with rfl|hb
  ·exact⟨_,J,fun v z=>by
    have z':f9 _=fU v:=z;cases z'⟩
  ·have q:b=it:=by simpa using hb
   subst q;exact⟨o,U,fun v z=>by rw[d] at z;cases z⟩
 keep:=fun i h h' st k=>by
  obtain⟨⟨j,J⟩,M⟩:=st;exact⟨⟨j,k e (by simp) _ J⟩,M.at fun o q=>k it (by simp) o q⟩
 item:=by
  intro X hP hw hK hc i Y s σ H E I hf st hg;subst hP hw hK;obtain⟨⟨j,J⟩,M⟩:=st;obtain⟨xs,x,hq,hx⟩:=hg;obtain⟨m8,rv,p,hz⟩:=I.list hq;obtain⟨u,hu,ru⟩:=rv.get hx;refine wpAny_pyNext_enum_item J M p.isList (x:=u) (by simpa using hu) ne fun h1 ho n6 hT o5 hk=>?_;refine⟨_,rfl,ke ho fun h2 n8 n9=>?_⟩;have le:e<s.heap.objs.size:=Zp J;have O:ba e h1 h2:=n9;have o0:h2.get? s.heap.objs.size=some {cls:=.type "tuple",data:=.seq #[.int i s.toks,u]}:=(O.2 _ (bb le)).trans hT;have m5:h2.IsListIter it a (i+1):=n6.at fun o q=>(O.2 it (bh ne)).trans q;have m6:gC h2 e it ((i+1:Nat):Int) u:=by
   have:=n8;simpa using this
  have nT:H s.heap.objs.size=none:=I.hok.fresh (Zq _);have I2:=I.turnLay (t':=s.toks+1) (h':=h2) (ts:=[e,it]) (T:=s.heap.objs.size) (o:=.tup [.int i,x]) (fun b v hb q=>?_) (fun b hb=>?_) hf (Zq _) ⟨by show 2<=sizeLine;decide,[.int i s.toks,u],.cons ⟨_,rfl⟩ (.cons ru .nil),_,o0,rfl,0,rfl⟩
  ·refine⟨.ref s.heap.objs.size,_,I2,rfl,⟨_,x,rfl,nT,rfl,fun ys hy=>by rw[I.list_inj hy hq];exact hx⟩,⟨⟨u,m6⟩,m5⟩,fun b hb=>?_⟩
   have fb:=(hf b hb).1;have lb:b<s.heap.objs.size:=by
    rcases aG.mp hb with rfl|hb
    ·exact le
    ·have q:b=it:=by simpa using hb
     subst q;obtain⟨o,U,_⟩:=M;exact Zp U
   rw[Zy (aC lb)];exact fb
  ·have q1:b≠e:=fun z=>hb (by simp[z])
   have q2:b≠it:=fun z=>hb (by simp[z]);exact (O.2 b q1).trans (hk b v q1 q2 q)
  ·rcases aG.mp hb with rfl|hb
   ·exact⟨_,m6⟩
   ·have q:b=it:=by simpa using hb
    subst q;obtain⟨o,U,_⟩:=m5;exact⟨o,U⟩
 done:=by
  intro X hP hw hK hc i Y s σ H E I hf st hg;subst hP hw hK;obtain⟨⟨j,J⟩,M⟩:=st;obtain⟨xs,hq,hx⟩:=hg;obtain⟨m8,rv,p,hz⟩:=I.list hq;have hl:=rv.length;exact wpAny_pyNext_enum_end (I.ok.hd hc) J M p.isList (by simp;omega) fun h1 eb=>⟨rfl,I.turnedL (t':=s.toks) (ts:=[e,it]) (fun b o hb q=>eb b o (fun z=>hb (by simp[z])) q) hf⟩
 self:=fun _ _ _ _ _ st h=>by
  obtain⟨⟨j,J⟩,M⟩:=st;exact dX J h
theorem VF {P:Program}{w:World}{K:aa}{elts:List Expr}{x1}{pos:Pos}(a e it:Addr)(ne:e≠it) :
  UE P w K (.Tuple elts x1 pos) (Zmh K a) [e,it] e (fun i h=>(∃j,gC h e it i j)/\h.IsTupleIter it a i) where
 mem:=by simp
 obj:=fun i h st b hb=>by
  obtain⟨⟨j,J⟩,⟨o,Y,c,d⟩⟩:=st;rcases aG.mp hb with rfl|hb
  ·exact⟨_,J,fun v z=>by
    have z':f9 _=fU v:=z;cases z'⟩
  ·have q:b=it:=by simpa using hb
   subst q;exact⟨o,Y,fun v z=>by rw[d] at z;cases z⟩
 keep:=fun i h h' st k=>by
  obtain⟨⟨j,J⟩,M⟩:=st;exact⟨⟨j,k e (by simp) _ J⟩,M.at fun o q=>k it (by simp) o q⟩
 item:=by
  intro X hP hw hK hc i m5 s σ H E I hf st hg;subst hP hw hK;obtain⟨⟨j,J⟩,M⟩:=st;obtain⟨xs,x,hq,hx⟩:=hg;obtain⟨O,rv,p,hz⟩:=I.tuple hq;obtain⟨u,hu,ru⟩:=rv.get hx;refine PyY.Zc7 J M (show s.heap.IsTuple a O.toArray from p) (y:=u) (by simpa using hu) ne fun h1 ho n6 hT o5 hk=>?_;refine⟨_,rfl,ke ho fun h2 n8 n9=>?_⟩;have le:e<s.heap.objs.size:=Zp J;have U:ba e h1 h2:=n9;have o0:h2.get? s.heap.objs.size=some {cls:=.type "tuple",data:=.seq #[.int i s.toks,u]}:=(U.2 _ (bb le)).trans hT;have m6:h2.IsTupleIter it a (i+1):=n6.at fun o q=>(U.2 it (bh ne)).trans q;have m8:gC h2 e it ((i+1:Nat):Int) u:=by
   have:=n8;simpa using this
  have nT:H s.heap.objs.size=none:=I.hok.fresh (Zq _);have I2:=I.turnLay (t':=s.toks+1) (h':=h2) (ts:=[e,it]) (T:=s.heap.objs.size) (o:=.tup [.int i,x]) (fun b v hb q=>?_) (fun b hb=>?_) hf (Zq _) ⟨by show 2<=sizeLine;decide,[.int i s.toks,u],.cons ⟨_,rfl⟩ (.cons ru .nil),_,o0,rfl,0,rfl⟩
  ·refine⟨.ref s.heap.objs.size,_,I2,rfl,⟨_,x,rfl,nT,rfl,fun ys hy=>by rw[I.tuple_inj hy hq];exact hx⟩,⟨⟨u,m8⟩,m6⟩,fun b hb=>?_⟩
   have fb:=(hf b hb).1;have lb:b<s.heap.objs.size:=by
    rcases aG.mp hb with rfl|hb
    ·exact le
    ·have q:b=it:=by simpa using hb
     subst q;obtain⟨o,Y,_⟩:=M;exact Zp Y
   rw[Zy (aC lb)];exact fb
  ·have q1:b≠e:=fun z=>hb (by simp[z])
   have q2:b≠it:=fun z=>hb (by simp[z]);exact (U.2 b q1).trans (hk b v q1 q2 q)
  ·rcases aG.mp hb with rfl|hb
   ·exact⟨_,m8⟩
   ·have q:b=it:=by simpa using hb
    subst q;obtain⟨o,Y,_⟩:=m6;exact⟨o,Y⟩
 done:=by
  intro X hP hw hK hc i m5 s σ H E I hf st hg;subst hP hw hK;obtain⟨⟨j,J⟩,M⟩:=st;obtain⟨xs,hq,hx⟩:=hg;obtain⟨O,rv,p,hz⟩:=I.tuple hq;have hl:=rv.length;exact PyY.Zfm (I.ok.hd hc) J M (show s.heap.IsTuple a O.toArray from p) (by simp;omega) fun h1 eb=>⟨rfl,I.turnedL (t':=s.toks) (ts:=[e,it]) (fun b o hb q=>eb b o (fun z=>hb (by simp[z])) q) hf⟩
 self:=fun _ _ _ _ _ st h=>by
  obtain⟨⟨j,J⟩,M⟩:=st;exact dX J h
section
variable {X:Cx}
noncomputable def ZkE (K:aa)(J:TA):TI:=fun M H R=>J M H fun O j=>∃a,O=[.ref a]/\(((∃q,Wt K j a q)/\R (Zj9 K a) j)\/((∃q,Xc K j a q)/\R (Zmh K a) j))
theorem ZnA {elts:List Expr}{x1}{pt:Pos}{l:Expr}{ta:TA}{p pos:Pos}(hm:X.mg "enumerate"=none)(ha:PA X [l] ta)(hg:YZ X.env.scope "enumerate"=true:=by kernel_rfl)(hs:starEach [l] X.env=[(false,eval l X.env)]:=by rfl) :
  PI X (.Tuple elts x1 pt) (.Call (.Name "enumerate" p) [l] [] pos) (ZkE X.K ta):=by
 intro J s σ H R I h;refine Call_ (Jj I (Xa hg) hm (show bootBuiltins "enumerate"=some (.type "enumerate") by kernel_rfl) (bo (Yj (ha pos J s σ H _ I h) fun us s1 ⟨vs,H1,j,r1,q1⟩=>?_) hs rfl));obtain⟨a,e,q⟩:=q1;subst e;cases r1 with
 |cons r rr=>
  cases rr;cases (show _=aB a from r);have sz:∀b,b∈[s1.heap.objs.size+1,s1.heap.objs.size]->s1.heap.objs.size<=b:=fun b hb=>by
   rcases aG.mp hb with rfl|hb
   ·exact gu _
   ·have:b=s1.heap.objs.size:=by simpa using hb
    rw[this];exact Zq _
  rcases q with ⟨⟨xs,O⟩,q⟩|⟨⟨xs,O⟩,q⟩
  ·obtain⟨M,rv,p,hz⟩:=j.list O
   refine call_enumerate_list p.isList fun g ge U gs Y=>?_;refine dX ge ?_;exact⟨_,[s1.heap.objs.size+1,s1.heap.objs.size],_,_,H1,rfl,j.kept (t':=s1.toks) Y,VG a _ _ (bb (c6 _)),⟨⟨_,ge⟩,U⟩,fun b hb=>j.fpOk (sz b hb) (j.hok.fresh (sz b hb)),q⟩
  ·obtain⟨M,rv,p,hz⟩:=j.tuple O
   refine PyY.Uq (show s1.heap.IsTuple a M.toArray from p) fun g ge U gs Y=>?_;refine dX ge ?_;exact⟨_,[s1.heap.objs.size+1,s1.heap.objs.size],_,_,H1,rfl,j.kept (t':=s1.toks) Y,VF a _ _ (bb (c6 _)),⟨⟨_,ge⟩,U⟩,fun b hb=>j.fpOk (sz b hb) (j.hok.fresh (sz b hb)),q⟩
theorem V7 (K:aa){elts:List Expr}{q}{pt:Pos}{l:Expr}{j:TA}{p pos:Pos}(J:X.mg "enumerate"=none)(M:PA X [l] j)(O:X.K=K:=by rfl)(U:YZ X.env.scope "enumerate"=true:=by kernel_rfl)(Y:starEach [l] X.env=[(false,eval l X.env)]:=by rfl) :
  PI X (.Tuple elts q pt) (.Call (.Name "enumerate" p) [l] [] pos) (ZkE K j):=O▸ZnA J M U Y
end
structure Zih (J:It)(At:Hp->Prop)(xs:List V):Prop where
 go:∀i H,At H->i<xs.length->J.go i H
 yld:∀i H x H2,At H->J.yld i H x H2->∃T y,x=.ref T/\H T=none/\H2=upd H T (.tup [.int i,y])/\xs[i]?=some y
 stop:∀i H,At H->xs.length<=i->J.stop i H
theorem V9 {K:aa}{a:Addr}{xs:List V}:Zih (Zj9 K a) (fun H=>Wt K H a xs) xs:=
 ⟨fun i H h hi=>⟨xs,xs[i],h,by simp[hi]⟩,fun i H x O h j=>by
  obtain⟨T,y,e,J,M,q⟩:=j;exact⟨T,y,e,J,M,q xs h⟩,fun i H h hi=>⟨xs,h,hi⟩⟩
theorem ZaQ {K:aa}{a:Addr}{xs:List V}:Zih (Zmh K a) (fun H=>Xc K H a xs) xs:=
 ⟨fun i H h hi=>⟨xs,xs[i],h,by simp[hi]⟩,fun i H x O h j=>by
  obtain⟨T,y,e,J,M,q⟩:=j;exact⟨T,y,e,J,M,q xs h⟩,fun i H h hi=>⟨xs,h,hi⟩⟩
theorem WK {J:It}{g:TG}{tb:TS}{D:J5}{σ:St}{H:Hp}{Y:Hp->Prop}{xs:List V}(S:Zih J Y xs)(Pv:Nat->St->Hp->Prop)(h0:Pv 0 σ H)(hS:∀i σ H,Pv i σ H->Y H)
  (hs:∀(i:Nat) y σ H T,xs[i]?=some y->Pv i σ H->H T=none->g (.ref T) σ (upd H T (.tup [.int i,y])) fun q U=>tb {D with nx:=Pv (i+1),ct:=Pv (i+1),bk:=D.nx} q U) (hd:∀ σ H,Pv xs.length σ H->D.nx σ H) :
  ∃W:Nat->Nat->St->Hp->Prop,(∃m,W 0 m σ H)/\∀i m σ H,W i m σ H->
   (J.stop i H/\D.nx σ H)\/(J.go i H/\∃N:St->Hp->Prop,(∀ M j,N M j->∃m',m'<m/\W (i+1) m' M j)/\∀x j,J.yld i H x j->g x σ j fun q U=>tb {D with nx:=N,ct:=N,bk:=D.nx} q U):=by
 refine⟨fun i m σ H=>m=xs.length-i/\i<=xs.length/\Pv i σ H,⟨_,rfl,a5 _,h0⟩,?_⟩;rintro i m σ H ⟨rfl,hi,p⟩;have s:=hS i σ H p;by_cases O:i<xs.length
 ·refine .inr ⟨S.go i H s O,Pv (i+1),fun M j p'=>⟨xs.length-(i+1),by omega,rfl,O,p'⟩,fun x j hy=>?_⟩
  obtain⟨T,y,rfl,hT,rfl,hx⟩:=S.yld i H x j s hy;exact hs i y σ H T hx p hT
 ·have e:i=xs.length:=by omega
  subst e;exact .inl ⟨S.stop _ H s (Zq _),hd σ H p⟩
noncomputable def Itd (lo:Int)(n:Nat):It:=⟨fun i _=>i<n,fun i H x j=>j=H/\x=.int (lo-i),fun i _=>n<=i⟩
theorem ZeN {P:Program}{w:World}{K:aa}{tg:Expr}(it:Addr)(lo:Int)(n:Nat):UE P w K tg (Itd lo n) [it] it (fun i h=>gM h it (lo+(i:Nat)*(-1)) ((n:Int)-(i:Nat)) (-1)) where
 mem:=by simp
 obj:=fun i h st b hb=>by
  have e:b=it:=by simpa using hb
  subst e;exact⟨_,st,fun v z=>by
   have z':f9 _=fU v:=z;cases z'⟩
 keep:=fun i h J st k=>k it (by simp) _ st
 item:=by
  intro X O U Y hc i j s σ H E I M st hg;subst O U Y;obtain⟨f0,f1,f2,f3,f4,f5⟩:=M it (by simp);have W:=kh (prog:=X.prog) (w:=X.w) (I.ok.hd hc) it lo (-1) n;refine W.item i s _ _ hg st fun v J tk hv q kk=>?_;obtain⟨t,rfl⟩:=hv;have I1:Inv X j σ H {s with heap:=J,toks:=tk}:=I.turned (fun b o hb e=>kk b o (by simpa using hb) e) f0 f1 f3 f4 f5;refine⟨_,rfl,Zb5 (s:={s with heap:=J,toks:=tk}) (n:="range_iterator") q rfl rfl (by decide) ⟨.int (lo-i),H,I1,⟨t,?_⟩,⟨rfl,rfl⟩,q,fun b hb=>(M b hb).1⟩⟩;rw[show lo-(i:Int)=lo+(i:Int)*(-1) by omega]
 done:=by
  intro X O U Y hc i j s σ H E I M st hg;subst O U Y;obtain⟨f0,f1,f2,f3,f4,f5⟩:=M it (by simp);exact ie (I.ok.hd hc) st (by have:n<=i:=hg;omega) fun J eb=>⟨rfl,I.turned (t':=s.toks) (fun b o hb e=>eb b o hb e) f0 f1 f3 f4 f5⟩
 self:=fun _ _ _ _ _ st h=>ig st h
theorem rangeSize_down (a b:Int):bd a b (-1)=if b<a then a-b else 0:=by
 unfold bd;rw[if_neg (by decide),Int.neg_neg,Int.ediv_one];by_cases h:b<a
 ·rw[if_pos h,if_pos h]
  omega
 ·rw[if_neg h,if_neg h]
theorem small_down {a b:Int}(j:-(2 ^ 62)<=a)(q:a<2 ^ 62)(J:-(2 ^ 62)<=b)(M:b<2 ^ 62):cp a b (-1)=true:=by
 unfold cp;rw[rangeSize_down];simp only[iu,ag,bq,decide_eq_true_eq,beq_iff_eq,show ¬((-1:Int) > 0) by decide,if_false];split <;> omega
noncomputable def Znv (q:TA):TI:=fun J H R=>q J H fun M O=>∃i j:Int,M=[.int i,.int j,.int (-1)]/\(-(2 ^ 62)<=i/\i<2 ^ 62/\-(2 ^ 62)<=j/\j<2 ^ 62)/\R (Itd i (i-j).toNat) O
theorem ZmR {X:Cx}{tg a b c:Expr}{ta:TA}{p pos:Pos}(hm:X.mg "range"=none)(ha:PA X [a,b,c] ta)(hg:YZ X.env.scope "range"=true:=by kernel_rfl)(hs:starEach [a,b,c] X.env=(false,eval a X.env)::starEach [b,c] X.env:=by rfl)(Y:(backTo pos (starEach [b,c] X.env)).any (·.1)=false:=by rfl) :
  PI X tg (.Call (.Name "range" p) [a,b,c] [] pos) (Znv ta):=by
 intro M s σ H R I h;refine Call_ (Jj I (Xa hg) hm kA (bo (Yj (ha pos M s σ H _ I h) fun us s1 ⟨vs,H1,I1,r1,q1⟩=>?_) hs Y));obtain⟨i,j,e,⟨q1,q2,q3,q4⟩,q⟩:=q1;subst e;cases r1 with
 |cons r O=>
  cases O with
  |cons r' O=>
   cases O with
   |cons m5 O=>
    cases O;obtain⟨t,rfl⟩:=r;obtain⟨U,rfl⟩:=r';obtain⟨J,rfl⟩:=m5;refine call_range_3 (by decide) ?_ (Or.inl (jE (by decide)));refine i0 (jR ..) (small_down q1 q2 q3 q4) ?_;have I2:Inv X M σ H1 {s1 with heap:=s1.heap.push {cls:=.type "range",data:=.fields #[.int i t,.int j U,.int (-1) J]},toks:=s1.toks}:=I1.kept fun b o e=>Zn _ e;refine⟨(s1.heap.push {cls:=.type "range",data:=.fields #[.int i t,.int j U,.int (-1) J]}).objs.size,[(s1.heap.push {cls:=.type "range",data:=.fields #[.int i t,.int j U,.int (-1) J]}).objs.size],_,_,H1,rfl,
     I2.kept (t':=s1.toks) fun b o e=>Zn _ e,ZeN _ i (i-j).toNat,?_,fun b hb=>?_,q⟩
    ·have e1:i+((0:Nat):Int)*(-1)=i:=by simp
     have e2:(((i-j).toNat:Nat):Int)-((0:Nat):Int)=bd i j (-1):=by rw[rangeSize_down];split <;> omega
     show gM _ _ (i+((0:Nat):Int)*(-1)) ((((i-j).toNat:Nat):Int)-((0:Nat):Int)) (-1);rw[e1,e2];exact Zo _ rfl
    ·have e:b=(s1.heap.push {cls:=.type "range",data:=.fields #[.int i t,.int j U,.int (-1) J]}).objs.size:=by simpa using hb
     subst e;exact I2.fpOk (Zq _) (I2.hok.fresh (Zq _))
theorem Zb6 {lo:Int}{n:Nat}{g:TG}{tb:TS}{D:J5}{σ:St}{H:Hp}(Pv:Nat->St->Hp->Prop)(h0:Pv 0 σ H)
  (Y:∀i σ H,i<n->Pv i σ H->g (.int (lo-i)) σ H fun j O=>tb {D with nx:=Pv (i+1),ct:=Pv (i+1),bk:=D.nx} j O) (hd:∀ σ H,Pv n σ H->D.nx σ H) :
  ∃W:Nat->Nat->St->Hp->Prop,(∃m,W 0 m σ H)/\∀i m σ H,W i m σ H->
   ((Itd lo n).stop i H/\D.nx σ H)\/((Itd lo n).go i H/\∃N:St->Hp->Prop,(∀ q J,N q J->∃U,U<m/\W (i+1) U q J)/\∀x J,(Itd lo n).yld i H x J->g x σ J fun j O=>tb {D with nx:=N,ct:=N,bk:=D.nx} j O):=by
 refine⟨fun i m σ H=>m=n-i/\i<=n/\Pv i σ H,⟨n,by simp,a5 _,h0⟩,?_⟩;rintro i m σ H ⟨rfl,hi,p⟩;by_cases M:i<n
 ·refine .inr ⟨M,Pv (i+1),fun q J p'=>⟨n-(i+1),by omega,rfl,M,p'⟩,fun x J hy=>?_⟩
  obtain⟨e,rfl⟩:=hy;subst e;exact Y i σ _ M p
 ·have e:i=n:=by omega
  subst e;exact .inl ⟨Zq _,hd σ H p⟩
theorem g2 (K:aa)(i j:Nat){X:Cx}{x y:Str}{k}{q J pos:Pos}(O:X.calm=true)(U:PG X (.Name x q) (Z7 i))(Y:PG X (.Name y J) (Z7 j))(hK:X.K=K:=by rfl)
  (hn:(assignEach [.Name x q,.Name y J] X.env).length=2:=by rfl) (M:(assignEach [.Name x q,.Name y J] X.env).findIdx? (·.1)=none:=by rfl) :
  PG X (.Tuple [.Name x q,.Name y J] k pos) (ZhC K 2 (JG (Z7 i) (JG (Z7 j) ZhD))):=hK▸ZcS O (Wi U (Wi Y Zav)) hn M
theorem Zlo {X:Cx}(K:aa){o e:Expr}{M:List Expr}{to:TE}{t:TA}{name:Str}{J j:Pos}{T id:String}{r:V->List V->Hp->VK->Prop}(pa:PlainAttrs T)(slot:Slot T name id)(m5:typeOf (.builtin id)=pure (.type "method_descriptor"))(hm:MtR X id r)(ho:PE X o to)(ha:PA X (e::M) t)
  (hK:X.K=K:=by rfl) (O:attributeBase o name X.env (eval o X.env)=eval o X.env:=by rfl)
  (Y:((backTo j (starEach (e::M) X.env)).all (fun x=>!x.1) && (backToKw j (keywordEach [] X.env)).all (fun x=>x.1.isSome)
   && decide ((e::M).length+([]:List Keyword).length+(if ([]:List Keyword).isEmpty then 0 else 1)<30))=true:=by rfl)
  (U:(J.endLine == j.line)=true:=by rfl) (hs:starEach (e::M) X.env=(false,eval e X.env)::starEach M X.env:=by rfl) (q:(backTo j (starEach M X.env)).any (·.1)=false:=by rfl) :
  PE X (.Call (.Attribute o name J) (e::M) [] j) (tBM K T r to t):=hK▸Wj pa slot m5 hm ho ha O Y U hs q
structure VD (k b:Nat)(d:eF):Prop where
 sh:d.showable=true
 nd:d.hasDict=false
 dp:d.depth<=k
 lv:d.leavesShort 300=true
 bl:d.bulk<=b
theorem VD.all {k b:Nat}:∀{ds:List eF},(∀d∈ds,VD k b d)->eK ds=true/\fX ds=false/\df ds<=k/\dD 300 ds=true/\gX ds<=ds.length*(b+1)
 | [],_=>⟨rfl,rfl,a5 _,rfl,a5 _⟩
 |d::ds,h=>by
  obtain⟨j,q,J,M,U⟩:=VD.all (ds:=ds) fun e O=>h e (ao _ O);have hd:=h d aq;refine⟨?_,?_,?_,?_,?_⟩
  ·simp only[eK,hd.sh,j,Bool.and_self]
  ·simp only[fX,hd.nd,q,Bool.or_self]
  ·simp only[df]
   exact Nat.max_le.mpr ⟨hd.dp,J⟩
  ·simp only[dD,hd.lv,M,Bool.and_self]
  ·simp only[gX,Zi]
   have:=hd.bl;rw[b8];omega
theorem VD.fit {k b:Nat}{d:eF}(h:VD k b d)(j:k<=60)(hb:b<=50000):Zig d:=by
 refine⟨h.sh,h.nd,aZ h.dp j,?_⟩;have:=PyData.shown_le_bulk 300 (by decide) d h.lv;have q:=h.bl;have e:(16777216:Nat)=sizeLine:=by decide
 omega
theorem VD.tup {k b n:Nat}{ds:List eF}(j:ds.length<=n)(h:∀d∈ds,VD k b d):VD (k+1) (n*(b+1)) (.tuple ds):=by
 obtain⟨q,J,U,M,O⟩:=VD.all h;refine⟨by simp only[iX];exact q,by simp only[l9];exact J,by simp only[dR];omega,by simp only[kH];exact M,?_⟩;simp only[PyData.bulk];exact aZ O (cx _ j)
end L2
namespace Pm
open PySem L2 PySem.Spec PyProof.Rows
open Tb
noncomputable def nV (k:Nat):V:=.int (k:Int)
noncomputable def GT (H:Hp)(g:Addr)(t:List (List Nat)):Prop:=∃rs:List Addr,H g=some (.tup (rs.map V.ref))/\rs.length=t.length/\∀(i:Nat) r,rs[i]?=some r->Tz H r ((t.getD i []).map nV)
theorem GT.mono {H j:Hp}{g:Addr}{t:List (List Nat)}(s:Zv H j)(G:GT H g t):GT j g t:=by
 obtain⟨q,J,M,O⟩:=G;exact⟨q,s _ _ J,M,fun i r U=>(O i r U).mono s⟩
theorem XD {t:List (List Nat)}(P:PW t){a:Nat}(j:a<t.length):(t.getD a []).length=t.length:=by
 refine P.len _ ?_;rw[Zb,Zf j];exact bC j
theorem XU {t:List (List Nat)}(P:PW t){a b:Nat}(j:a<t.length)(hb:b<t.length):((t.getD a []).map nV)[b]?=some (.int (ZM t a b:Nat)):=by
 have q:=XD P j;unfold ZM;generalize t.getD a []=row at *;rw[Zc,Zf (show b<row.length by omega),Zb,Zf (show b<row.length by omega)];rfl
theorem GT.at {H:Hp}{g:Addr}{t:List (List Nat)}(G:GT H g t)(P:PW t){a:Nat}(J:a<t.length):∃(j:List Addr) (r:Addr),H g=some (.tup (j.map V.ref))/\j.length=t.length/\X9 (j.map V.ref) (a:Int)=some (.ref r)/\Tz H r ((t.getD a []).map nV)/\∀b,b<t.length->X9 ((t.getD a []).map nV) (b:Int)=some (.int (ZM t a b:Nat)):=by
 obtain⟨j,M,O,U⟩:=G;have q:j[a]?=some (j[a]'(by omega)):=Zf (by omega);exact⟨j,_,M,O,ZR (by rw[Zc,q];rfl),U a _ q,fun b hb=>ZR (XU P J hb)⟩
noncomputable def Zie (H:Hp)(L:Addr)(rs:List Addr)(f:Nat->List Nat):Prop:=H L=some (.lst (rs.map V.ref))/\∀(i:Nat) r,rs[i]?=some r->Tz H r ((f i).map nV)
theorem Zn4 {H j:Hp}{L g:Addr}{rs:List Addr}{f:Nat->List Nat}{n:Nat}(R:Zie H L rs f)(q:rs.length=n)(s:Zv H j)(M:j g=some (.tup (rs.map V.ref))):GT j g ((ae n).map f):=by
 refine⟨rs,M,by rw[q,Za,Zg],fun i r J=>?_⟩;have O:i<n:=by rw[<-q];exact (ac.mp J).1
 rw[Zb,Zc,am O];exact (R.2 i r J).mono s
theorem Zev (i j:Int):fO (.int i) (.int j)=decide (i=j):=by
 first|rfl|simp[fO]
theorem JE {n i:Nat}(h:i<n):ixN n (i:Int)=some i:=by
 unfold ixN;rw[if_pos (dB _),if_pos (by omega),Zj]
theorem Xh {xs:List Nat}{i:Nat}{y:V}(h:(xs.map nV)[i]?=some y):∃k,xs[i]?=some k/\y=.int (k:Nat):=by
 rw[Zc] at h;cases e:xs[i]? with
 |none=>rw[e] at h;cases h
 |some k=>rw[e] at h;exact⟨k,rfl,(aD h).symm⟩
noncomputable def J1 (f g:List Nat):List Nat:=g.map fun i=>f.getD i 0
noncomputable def nI (xs:List Nat):List Int:=xs.map fun k:Nat=>((k:Nat):Int)
theorem Zlz (xs:List Nat):(nI xs).map V.int=xs.map nV:=by unfold nI;rw[aJ];rfl
noncomputable def TupsAt (H:Hp)(L:Addr)(bs:List Addr)(yss:List (List Nat)):Prop:=H L=some (.lst (bs.map V.ref))/\bs.length=yss.length/\∀(i:Nat) b,bs[i]?=some b->H b=some (.tup ((yss.getD i []).map nV))
theorem TupsAt.mono {H j:Hp}{L:Addr}{bs:List Addr}{yss:List (List Nat)}(s:Zv H j)(R:TupsAt H L bs yss):TupsAt j L bs yss:=⟨s _ _ R.1,R.2.1,fun i b hb=>s _ _ (R.2.2 i b hb)⟩
theorem TupsAt.push {H:Hp}{L:Addr}{bs:List Addr}{yss:List (List Nat)}{b:Addr}{ys:List Nat}(R:TupsAt H L bs yss)(h:H b=some (.tup (ys.map nV))):TupsAt (upd H L (.lst (bs.map V.ref++[.ref b]))) L (bs++[b]) (yss++[ys]):=by
 have ne:∀{b ys},H b=some (.tup ys)->upd H L (.lst (bs.map V.ref++[.ref b])) b=some (.tup ys):=fun {b ys} hb=>by
  rw[Zy (fun z=>by rw[z,R.1] at hb;cases hb)];exact hb
 refine⟨by rw[Zt,aU];rfl,by rw[Zd,Zd,R.2.1];rfl,fun i c j=>?_⟩;have q:c≠L->upd H L (.lst (bs.map V.ref++[.ref b])) c=H c:=fun z=>Zy z;by_cases J:i<bs.length
 ·rw[au J] at j
  have:=R.2.2 i c j;rw[q (fun z=>by rw[z,R.1] at this;cases this),Zb,au (by rw[<-R.2.1];exact J),<-Zb];exact this
 ·rw[aw (by omega)] at j
  have M:i-bs.length=0:=by
   apply ah;intro z;rw[ak (by rw[Zk];omega)] at j;cases j
  rw[M] at j;cases j;have:i=yss.length:=by rw[<-R.2.1];omega
  rw[q (fun z=>by rw[z,R.1] at h;cases h),this,Zb,aw (Zq _),cF];exact h
theorem ZdY {K:aa}{H:Hp}:∀(bs:List Addr) (yss:List (List Nat)),bs.length=yss.length->(∀(j:Nat) b,bs[j]?=some b->H b=some (.tup ((yss.getD j []).map nV)))->Wo K H (bs.map V.ref) (yss.map fun ns=>c9 ((nI ns).map aW))
 | [],[],_,_=>.nil
 | [],_::_,h,_=>by cases h
 |_::_,[],h,_=>by cases h
 |b::bs,y::yss,h,g=>by
  have hb:=g 0 b rfl;have q:H b=some (.tup ((nI y).map V.int)):=by rw[Zlz];exact hb
  exact .cons (.tup (.of q) (Wo.ints _)) (ZdY bs yss (cy h) fun j J M=>g (j+1) J M)
theorem Zhh {a b:List Nat}:nI a=nI b↔a=b:=by
 constructor
 ·intro h
  unfold nI at h;exact (iC (fun x y e=>by exact Int.ofNat.inj e)).mp h
 ·intro h;rw[h]
theorem Znz (a b:List Nat):fO (.tuple ((nI a).map aW)) (.tuple ((nI b).map aW))=decide (a=b):=by
 have:fO (.tuple ((nI a).map aW)) (.tuple ((nI b).map aW))=decide (nI a=nI b):=by
  show PyData.eqvAll _ _=_;exact PySem.W.ked_eqvAll _ _
 rw[this,decide_eq_decide];exact Zhh
theorem Za3 (yss:List (List Nat))(o:List Nat):((yss.map fun ns=>c9 ((nI ns).map aW)).any fun y=>y.eqv (.tuple ((nI o).map aW)))=yss.contains o:=by
 rw[fR,List.contains_eq_any_beq];congr 1;funext y;show fO _ _=(o == y);rw[Znz];by_cases h:y=o
 ·rw[decide_eq_true h,h,beq_self_eq_true]
 ·rw[decide_eq_false h]
  exact (beq_eq_false_iff_ne.mpr (fun z=>h z.symm)).symm
noncomputable def ZhO (j:List Nat):V->V
 | .int z=>nV (j.getD z.toNat 0)
 |y=>y
theorem Zca (j g:List Nat):(g.map nV).map (ZhO j)=(J1 j g).map nV:=by
 unfold J1;rw[aJ,aJ];refine aX fun b _=>?_;show nV (j.getD (b:Int).toNat 0)=nV (j.getD b 0);rw[Zj]
noncomputable def YY (j:List (List Nat)):List (List Nat):=j.map fun a=>j.map fun b=>j.findIdx (· == J1 a b)
noncomputable def Gk (k:Nat)(y:List Nat):Prop:=y.length=k/\∀x∈y,x<k
theorem Zia {k:Nat}{a g:List Nat}(j:Gk k a)(q:Gk k g):Gk k (J1 a g):=by
 unfold J1;refine⟨by rw[Za];exact q.1,fun x J=>?_⟩;obtain⟨i,hi,rfl⟩:=aI.mp J;have M:=q.2 i hi;have O:=j.1;rw[Zb,Zf (show i<a.length by omega)];exact j.2 _ (bC _)
theorem TupsAt.get {H:Hp}{L:Addr}{bs:List Addr}{yss:List (List Nat)}(R:TupsAt H L bs yss){i:Nat}(j:i<yss.length):∃b,bs[i]?=some b/\X9 (bs.map V.ref) (i:Int)=some (.ref b)/\H b=some (.tup ((yss.getD i []).map nV)):=by
 have hb:i<bs.length:=by rw[R.2.1];exact j
 have e:bs[i]?=some bs[i]:=Zf hb;exact⟨_,e,ZR (by rw[Zc,e];rfl),R.2.2 i _ e⟩
theorem TupsAt.ref {H:Hp}{L:Addr}{bs:List Addr}{yss:List (List Nat)}(R:TupsAt H L bs yss){i:Nat}{y:V}(h:(bs.map V.ref)[i]?=some y):∃b,y=.ref b/\i<yss.length/\H b=some (.tup ((yss.getD i []).map nV)):=by
 rw[Zc] at h;cases e:bs[i]? with
 |none=>rw[e] at h;cases h
 |some b=>
  rw[e] at h;refine⟨b,(aD h).symm,?_,R.2.2 i b e⟩;rw[<-R.2.1];exact (ac.mp e).1
theorem getL {yss:List (List Nat)}{i:Nat}(h:i<yss.length):yss[i]?=some (yss.getD i []):=by
 rw[Zb,Zf h];rfl
theorem ZaC {yss:List (List Nat)}{i:Nat}(h:i<yss.length):yss.getD i []∈yss:=aF (getL h)
theorem Zkw {xs:List Nat}{i:Nat}(h:i<xs.length):X9 (xs.map nV) (i:Int)=some (nV (xs.getD i 0)):=ZR (by rw[Zc,Zf h,Zb,Zf h];rfl)
noncomputable def ZbS:List (List Nat)->Hp->(List V->Hp->Prop)->Prop
 | [],H,Q=>Q [] H
 |x::r,H,Q=>(x.map nV).length<=sizeLine/\∀p,H p=none->ZbS r (upd H p (.tup (x.map nV))) fun j q=>Q (.ref p::j) q
theorem JD:∀(j:List (List Nat)) (H:Hp) (Q:List V->Hp->Prop),(∀x∈j,x.length<=1000)->
  (∀(bs:List Addr) (J:Hp),Zv H J->bs.length=j.length->(∀(i:Nat) b,bs[i]?=some b->J b=some (.tup ((j.getD i []).map nV)))->Q (bs.map V.ref) J)->ZbS j H Q
 | [],H,Q,_,q=>q [] H (Zv.refl _) rfl fun i b hb=>by cases hb
 |x::r,H,Q,O,q=>by
  have sz:(16777216:Nat)=sizeLine:=by decide
  refine⟨?_,fun p Y=>JD r _ _ (fun y hy=>O y (ao _ hy)) fun bs J U hb hi=>?_⟩
  ·have:=O x aq
   rw[Za];omega
  ·refine q (p::bs) J ((Zv.upd Y).trans U) (by rw[Zi,Zi,hb]) fun i b M=>?_
   cases i with
   |zero=>
    cases M;exact U _ _ Zt
   |succ i=>exact hi i b M
noncomputable def Zhd:List (List (List Nat))->Hp->(List V->Hp->Prop)->Prop
 | [],H,Q=>Q [] H
 |j::r,H,Q=>ZbS j H fun q J=>q.length<=sizeLine/\∀p,J p=none->Zhd r (upd J p (.lst q)) fun M O=>Q (.ref p::M) O
theorem Vj:∀(j:List (List (List Nat))) (H:Hp) (Q:List V->Hp->Prop),(∀J∈j,J.length<=1000/\∀x∈J,x.length<=1000)->
  (∀(ls:List Addr) (M:Hp),Zv H M->ls.length=j.length->(∀(i:Nat) l,ls[i]?=some l->H l=none/\∃bs,TupsAt M l bs (j.getD i []))->Q (ls.map V.ref) M)->Zhd j H Q
 | [],H,Q,_,q=>q [] H (Zv.refl _) rfl fun i b hb=>by cases hb
 |J::r,H,Q,hl,q=>by
  have sz:(16777216:Nat)=sizeLine:=by decide
  obtain⟨h1,h2⟩:=hl J aq;refine JD J H _ h2 fun bs H1 s1 hb hi=>⟨by rw[Za];omega,fun p U=>Vj r _ _ (fun y hy=>hl y (ao _ hy)) fun ls M s' Y m5=>?_⟩;have s2:=s1.trans (Zv.upd (o:=.lst (bs.map V.ref)) U);refine q (p::ls) M (s2.trans s') (by rw[Zi,Zi,Y]) fun i l O=>?_;cases i with
  |zero=>
   cases O;refine⟨s1.free U,bs,TupsAt.mono s' ⟨Zt,hb,fun i b m6=>?_⟩⟩;exact Zv.upd (o:=.lst (bs.map V.ref)) U _ _ (hi i b m6)
  |succ i=>
   obtain⟨h3,h4⟩:=m5 i l O;exact⟨s2.free h3,h4⟩
section
variable {X:Cx}
noncomputable def teT (x:List Nat):TE:=fun _ H Q=>(x.map nV).length<=sizeLine/\∀p,H p=none->Q (.ref p) (upd H p (.tup (x.map nV)))
theorem Zi1 (x:List Nat){j:List Expr}{t:TA}{q}{pos:Pos}(h:PA X j t)(e:t=fun _ H Q=>Q (x.map nV) H):PE X (.Tuple j q pos) (teT x):=by
 subst e;exact VU h
noncomputable def taN (j:List (List Nat)):TA:=fun _ H Q=>ZbS j H Q
theorem Zi7:PA X [] (taN []):=Zu
theorem pan {e:Expr}{q:List Expr}{x:List Nat}{j:List (List Nat)}(h:PE X e (teT x))(r:PA X q (taN j))(J:We e=true:=by rfl):PA X (e::q) (taN (x::j)):=pc h r J
noncomputable def teL (j:List (List Nat)):TE:=fun _ H Q=>ZbS j H fun q J=>q.length<=sizeLine/\∀p,J p=none->Q (.ref p) (upd J p (.lst q))
theorem Zi2 {q:List Expr}{j:List (List Nat)}{pos:Pos}(h:PA X q (taN j)):PE X (.List q pos) (teL j):=ZW h
noncomputable def taL (j:List (List (List Nat))):TA:=fun _ H Q=>Zhd j H Q
theorem Zi8:PA X [] (taL []):=Zu
theorem pal {e:Expr}{J:List Expr}{q:List (List Nat)}{j:List (List (List Nat))}(h:PE X e (teL q))(r:PA X J (taL j))(M:We e=true:=by rfl):PA X (e::J) (taL (q::j)):=pc h r M
structure QE (X:Cx)(e:Expr)(t:TE):Prop where
 h:PE X e t
structure QA (X:Cx)(es:List Expr)(t:TA):Prop where
 h:PA X es t
structure QS (X:Cx)(st:Stmt)(t:TS):Prop where
 h:PS X st t
structure QSs (X:Cx)(sts:List Stmt)(t:TS):Prop where
 h:PSs X sts t
theorem qi {i:Int}{j}{pos:Pos}:QE X (.Constant (.int i) j pos) (tC (.int i)):=⟨Zx⟩
theorem ZN:QA X [] ZfZ:=⟨Zu⟩
theorem qa {e:Expr}{j:List Expr}{q:TE}{t:TA}(h:QE X e q)(r:QA X j t)(J:We e=true:=by rfl):QA X (e::j) (VH q t):=⟨pc h.h r.h J⟩
theorem Z5 (x:List Nat){j:List Expr}{t:TA}{q}{pos:Pos}(h:QA X j t)(e:t=fun _ H Q=>Q (x.map nV) H):QE X (.Tuple j q pos) (teT x):=⟨Zi1 x h.h e⟩
theorem WO:QA X [] (taN []):=⟨Zi7⟩
theorem Jy {e:Expr}{q:List Expr}{x:List Nat}{j:List (List Nat)}(h:QE X e (teT x))(r:QA X q (taN j))(J:We e=true:=by rfl):QA X (e::q) (taN (x::j)):=⟨pan h.h r.h J⟩
theorem Vf {q:List Expr}{j:List (List Nat)}{pos:Pos}(h:QA X q (taN j)):QE X (.List q pos) (teL j):=⟨Zi2 h.h⟩
theorem ZiT:QA X [] (taL []):=⟨Zi8⟩
theorem qal {e:Expr}{J:List Expr}{q:List (List Nat)}{j:List (List (List Nat))}(h:QE X e (teL q))(r:QA X J (taL j))(M:We e=true:=by rfl):QA X (e::J) (taL (q::j)):=⟨pal h.h r.h M⟩
theorem ZoL {j:List Expr}{t:TA}{pos:Pos}(h:QA X j t):QE X (.List j pos) (Zk1 t):=⟨ZW h.h⟩
theorem ZbE (i:Nat){x:Str}{e:Expr}{q:TE}{pos j:Pos}(J:X.fn x=true)(M:QE X e q)(O:X.N[i]?=some x:=by rfl)(U:WV X.N=true:=by kernel_rfl)(Y:U2 X.env.scope x=true:=by kernel_rfl)
  (hs:swapsWith e (some (.Name x j)) pos.line X.env=pure false:=by rfl):QS X (.Assign [.Name x j] e pos) (Zcz q (Z7 i)):=⟨ZD i J M.h O U Y hs⟩
theorem Jz {st:Stmt}{rest:List Stmt}{t u:TS}(j:QS X st t)(q:QSs X rest u):QSs X (st::rest) (Zk0 t u):=⟨Zs j.h q.h⟩
theorem XC {j:TE}{g:TG}{u:TS}{D:J5}{σ:L2.St}{H:Hp}(h:j σ H fun x q=>g x σ q (u D)):Zk0 (Zcz j g) u D σ H:=h
theorem Zf0 (j:List (List (List Nat))){σ:L2.St}{H:Hp}{Q:VK}(O:∀M∈j,M.length<=1000/\∀x∈M,x.length<=1000)(hk:j.length<=1000)
  (q:∀(ls:List Addr) (J:Hp),Zv H J->ls.length=j.length->(∀(i:Nat) l,ls[i]?=some l->H l=none/\∃bs,TupsAt J l bs (j.getD i []))->∀S,J S=none->Q (.ref S) (upd J S (.lst (ls.map V.ref)))):Zk1 (taL j) σ H Q:=by
 have sz:(16777216:Nat)=sizeLine:=by decide
 exact Vj j H _ O fun ls J U Y h2=>⟨by rw[Za];omega,q ls J U Y h2⟩
theorem Jv (j:List (List Nat)){σ:L2.St}{H:Hp}{Q:VK}(M:∀x∈j,x.length<=1000)(hk:j.length<=1000)
  (q:∀(bs:List Addr) (J:Hp),Zv H J->bs.length=j.length->(∀(i:Nat) b,bs[i]?=some b->J b=some (.tup ((j.getD i []).map nV)))->∀S,J S=none->Q (.ref S) (upd J S (.lst (bs.map V.ref)))):teL j σ H Q:=by
 have sz:(16777216:Nat)=sizeLine:=by decide
 exact JD j H _ M fun bs J O U Y=>⟨by rw[Za];omega,q bs J O U Y⟩
end
noncomputable def CT (H:Hp)(c:Addr)(j:List (List Nat)):Prop:=∃rs:List Addr,H c=some (.tup (rs.map V.ref))/\rs.length=j.length/\∀(i:Nat) r,rs[i]?=some r->H r=some (.tup ((j.getD i []).map nV))
theorem CT.mono {H q:Hp}{c:Addr}{j:List (List Nat)}(s:Zv H q)(h:CT H c j):CT q c j:=by
 obtain⟨J,M,O,U⟩:=h;exact⟨J,s _ _ M,O,fun i r Y=>s _ _ (U i r Y)⟩
noncomputable def Yf (n:Nat)(f:Nat->Nat):List Nat:=(ae n).map f
theorem Zbz (n:Nat)(f:Nat->Nat):(Yf n f).length=n:=by unfold Yf;rw[Za,Zg]
theorem Zby {n a k:Nat}(f:Nat->Nat)(j:a<n):((Yf n f).map nV).set a (nV k)=(Yf n fun b=>if b=a then k else f b).map nV:=by
 unfold Yf;refine bf fun i=>?_;rw[iO];by_cases q:i<n
 ·by_cases e:a=i
  ·subst e
   rw[if_pos rfl,if_pos (by rw[Za,Za,Zg];exact j),Zc,Zc,am j];show some (nV k)=some (nV (if a=a then k else f a))
   rw[if_pos rfl]
  ·rw[if_neg e,Zc,Zc,am q,Zc,Zc,am q]
   show some (nV (f i))=some (nV (if i=a then k else f i))
   rw[if_neg (fun z=>e z.symm)]
 ·have J:a≠i:=by omega
  rw[if_neg J,ak (by rw[Za,Za,Zg];omega),ak (by rw[Za,Za,Zg];omega)]
theorem Wd {n:Nat}{f g:Nat->Nat}(h:∀a,a<n->f a=g a):Yf n f=Yf n g:=aX fun a j=>h a (af.mp j)
theorem CT.row {H:Hp}{c:Addr}{j:List (List Nat)}(h:CT H c j):∃q:List Addr,H c=some (.tup (q.map V.ref))/\q.length=j.length/\∀(i:Nat) y,(q.map V.ref)[i]?=some y->∃r,y=.ref r/\i<j.length/\H r=some (.tup ((j.getD i []).map nV)):=by
 obtain⟨q,U,O,Y⟩:=h;refine⟨q,U,O,fun i y J=>?_⟩;rw[Zc] at J;cases M:q[i]? with
 |none=>rw[M] at J;cases J
 |some r=>
  rw[M] at J;cases J;exact⟨r,rfl,by rw[<-O];exact (ac.mp M).1,Y i r M⟩
theorem ZdS {j:List (List Nat)}{k:Nat}(q:k<j.length):j.getD k []∈j:=by
 rw[Zb,Zf q];exact bC q
theorem Zat {n:Nat}{f:Nat->Nat}{a:Nat}(j:a<n):X9 ((Yf n f).map nV) (a:Int)=some (.int (f a:Nat)):=ZR (by
 unfold Yf;rw[Zc,Zc,am j];rfl)
theorem tupK {X:Cx}(K:aa)(j:X.K=K:=by rfl):Yu X (.type "tuple") (fun xs H Q=>∃p ys,xs=[.ref p]/\((Wt K H p ys/\∀l,H l=none->Q (.ref l) (upd H l (.tup ys)))\/(Xc K H p ys/\Q (.ref p) H))):=j▸ZJ
theorem ZbC {m i:Nat}{a:Nat->Addr}(j:i<m):X9 ((ae m).map fun i=>V.ref (a i)) (i:Int)=some (.ref (a i)):=ZR (by rw[Zc,am j];rfl)
theorem ZbB {m i:Nat}{a:Nat->Addr}{y:V}(h:((ae m).map fun i=>V.ref (a i))[i]?=some y):i<m/\y=.ref (a i):=by
 have j:i<m:=by
  have:=(ac.mp h).1;rw[Za,Zg] at this;exact this
 rw[Zc,am j] at h;exact⟨j,(aD h).symm⟩
theorem Zhg {m i:Nat}{f:Nat->Nat}(j:i<m):((Yf m f).map nV)[i]?=some (.int (f i:Nat)):=by
 unfold Yf;rw[Zc,Zc,am j];rfl
theorem Zlb (m:Nat):(Y1 0 m).map V.int=(ae m).map nV:=by
 unfold Y1;rw[aJ];refine aX fun i _=>?_;show V.int (0+(i:Int))=nV i;rw[dA];rfl
theorem Zas {m i:Nat}{y:V}(h:((Y1 0 m).map V.int)[i]?=some y):i<m/\y=.int (i:Nat):=by
 rw[Zlb] at h;have j:i<m:=by
  have:=(ac.mp h).1;rw[Za,Zg] at this;exact this
 rw[Zc,am j] at h;exact⟨j,(aD h).symm⟩
end Pm
namespace C52
open PySem L2 PySem.Spec PyProof.Rows
open Tb Pm
noncomputable def top (i:Nat):Stmt:=PySem.Challenge.pw_classtab_k52_whole_things_in_another_ord.main.body.getD i (.Pass ⟨0,0,0,0⟩)
noncomputable abbrev Zko:Stmt:=top 34
noncomputable abbrev Zgu:Stmt:=top 35
structure BlB (mg:Str->Option Value):Prop where
 list:mg "list"=none
 len:mg "len"=none
 range:mg "range"=none
 tuple:mg "tuple"=none
 sorted:mg "sorted"=none
theorem neC {X:Cx}(K:aa)(J:X.A.units+64<cLine)(M:X.K=K:=by rfl):Vv X (compareOp .NotEq) (fun x y H Q=>∃j q,Us K H x j/\Us K H y q/\fK j=true/\fK q=true/\Q (.bl (!fO j q)) H):=M▸Zlr J
noncomputable def fdK (q:Addr)(a l:Int):List (Yx×V):=[(.inr "cells",.ref q),(.inr "at",.int a),(.inr "left",.int l)]
noncomputable def Wn (H:Hp)(p q:Addr)(b:Nat):Prop:=∃(j:List Int) (a l:Int),H p=some (.dK (fdK q a l))/\H q=some (.lst (j.map V.int))/\j.length<=63/\0<=l/\0<=a/\a<=b
theorem Wn.mono {H j:Hp}{p q:Addr}{b:Nat}(s:Zv H j)(h:Wn H p q b):Wn j p q b:=by
 obtain⟨J,a,l,M,O,U⟩:=h;exact⟨J,a,l,s _ _ M,s _ _ O,U⟩
theorem Wn.le {H:Hp}{p q:Addr}{b j:Nat}(h:Wn H p q b)(hb:b<=j):Wn H p q j:=by
 obtain⟨J,a,l,M,O,U,Y,h5,h6⟩:=h;exact⟨J,a,l,M,O,U,Y,h5,by omega⟩
theorem ZjN {H:Hp}{p q:Addr}{a l:Int}(h:H p=some (.dK (fdK q a l))):Jn H p (.str "cells") (some (.ref q)):=Jn.k (k:=.inr "cells") h
theorem Zo6 {H:Hp}{p q:Addr}{a l:Int}(h:H p=some (.dK (fdK q a l))):Jn H p (.str "at") (some (.int a)):=Jn.k (k:=.inr "at") h
theorem Zc3 {H:Hp}{p q:Addr}{a l:Int}(h:H p=some (.dK (fdK q a l))):Jn H p (.str "left") (some (.int l)):=Jn.k (k:=.inr "left") h
theorem ZoP {H:Hp}{p q:Addr}{a l j:Int}(h:H p=some (.dK (fdK q a l))):Vd H p (.str "at") (.int j) (upd H p (.dK (fdK q j l))):=Vd.k (k:=.inr "at") h (by rw[fS];show 3<_;omega)
theorem ZgS {H:Hp}{p q:Addr}{a l j:Int}(h:H p=some (.dK (fdK q a l))):Vd H p (.str "left") (.int j) (upd H p (.dK (fdK q a j))):=Vd.k (k:=.inr "left") h (by rw[fS];show 3<_;omega)
noncomputable def Tk (p:Addr)(H j:Hp):Prop:=∀b o,H b=some o->b≠p->j b=some o
theorem Tk.of {p:Addr}{H j:Hp}(s:Zv H j):Tk p H j:=fun b o e _=>s b o e
theorem Tk.trans {p:Addr}{H j q:Hp}(a:Tk p H j)(b:Tk p j q):Tk p H q:=fun c o e n=>b c o (a c o e n) n
theorem Wn.ne {H:Hp}{p q a:Addr}{b:Nat}{o:HO}(h:Wn H p q b)(e:H a=some o)(J:∀j,o≠.dK j):a≠p:=fun z=>by
 obtain⟨O,c,l,M,_⟩:=h;rw[z,M] at e;exact J _ (aD e).symm
theorem Wn.neN {H:Hp}{p q a:Addr}{b:Nat}(h:Wn H p q b)(e:H a=none):a≠p/\a≠q:=by
 obtain⟨M,c,l,j,J,_⟩:=h;exact⟨fun z=>(by rw[z,j] at e;cases e),fun z=>(by rw[z,J] at e;cases e)⟩
theorem Wn.put {H:Hp}{p q L:Addr}{b:Nat}{o:HO}(h:Wn H p q b)(j:L≠p)(J:L≠q):Wn (upd H L o) p q b:=by
 obtain⟨M,c,l,O,U,Y⟩:=h;exact⟨M,c,l,by rw[Zy (bh j)];exact O,by rw[Zy (bh J)];exact U,Y⟩
theorem Tk.tup {p q a:Addr}{H j:Hp}{b:Nat}{xs:List V}(d:Tk p H j)(T:Wn H p q b)(h:H a=some (.tup xs)):j a=some (.tup xs):=d a _ h (T.ne h fun _ z=>by cases z)
theorem Tk.lst {p q a:Addr}{H j:Hp}{b:Nat}{xs:List V}(d:Tk p H j)(T:Wn H p q b)(h:H a=some (.lst xs)):j a=some (.lst xs):=d a _ h (T.ne h fun _ z=>by cases z)
theorem GT.tk {H j:Hp}{p q g:Addr}{b:Nat}{t:List (List Nat)}(T:Wn H p q b)(d:Tk p H j)(G:GT H g t):GT j g t:=by
 obtain⟨M,O,U,Y⟩:=G;refine⟨M,d.tup T O,U,fun i r hr=>?_⟩;obtain⟨o,J,e2⟩:=Y i r hr;exact⟨o,d _ _ J (T.ne J fun _ z=>by cases z),e2⟩
theorem Zgd (ns:List Int):fK (.list (ns.map aW))=true:=by
 unfold fK;have j:fP (.list (ns.map aW))=true:=Xp ns;have q:dR (.list (ns.map aW))<=60:=U5 ns;simp only[j,Bool.true_and,fv,decide_eq_true_eq];omega
noncomputable def Zf6 (K:aa):Sp:=fun J H Q _=>∃(a:Addr) (M:List Int),J=[.ref a]/\Wt K H a (M.map V.int)/\∀p q j,Zv H j->H p=none->Wn j p q 0->Q (.ref p) j
noncomputable def Zai:Sp:=fun J H Q _=>∃(p q:Addr) (m:Int) (b:Nat),J=[.ref p,.int m]/\Wn H p q b/\b<2 ^ 60/\0<m/\m<1073741824/\∀r j,0<=r->r<m->Tk p H j->Wn j p q (b+1)->Q (.int r) j
theorem ZhU (ns:List Int)(lo hi:Option Int):∃j:List Int,Zcf (ns.map V.int) lo hi=j.map V.int/\(∀k:Nat,hi=some (k:Int)->j.length<=k):=by
 refine⟨(ns.drop (HT.UQ ns.length 0 lo)).take (HT.UQ ns.length ns.length hi-HT.UQ ns.length 0 lo),?_,fun k e=>?_⟩
 ·unfold Zcf;rw[Za,List.map_take,List.map_drop]
 ·subst e
  rw[bT,HT.ZdO];omega
section
variable {P:Program}{w:World}{K:aa}{mg:Str->Option Value}{base:Heap}
theorem Zjj {f:Addr}{fd:FuncData}(F:WN K "_law_feed" "_law_feed" Zko f fd)(T:BlB mg):Yb P w K mg base Yi 1 f fd ["_law_script"] (Zf6 K):=by
 refine F.ok (FS (N:=["_law_script"])) (fun vs H Q E h=>?_) (fun m8 A Y s H vs Q E hr h=>?_)
 ·obtain⟨a,ns,rfl,_⟩:=h;rfl
 ·obtain⟨a,ns,rfl,hS,k⟩:=h
  refine⟨_,Zw (ZF (Zi3 (VR WG (ct XO T.list (pc (ZbH ZdJ (vn 0) Zd4 (Zd3 Zx)) Zu)) (VR WG Zx (VR WG Zx ZiZ))) rfl rfl (by simp) (by decide))),?_⟩;intro p np;obtain⟨J,e,hl⟩:=ZhU ns none (some 63);have s0:=Zv.upd (H:=H) (o:=.dK []) np;refine⟨_,rfl,_,rfl,a,_,rfl,s0.seq hS,fun p1 h1=>⟨p1,_,rfl,.inl (.of Zt),fun q U=>?_⟩⟩;rw[e] at U ⊢;have O:upd H p (.dK []) p=some (.dK []):=Zt;generalize upd H p (.dK [])=H1 at s0 h1 U O ⊢;have s1:=Zv.upd (H:=H1) (o:=.lst (J.map V.int)) h1;generalize upd H1 p1 (.lst (J.map V.int))=H2 at s1 U ⊢;have s2:=Zv.upd (H:=H2) (o:=.lst (J.map V.int)) U;have j:upd H2 q (.lst (J.map V.int)) q=some (.lst (J.map V.int)):=Zt;have M:=s2 _ _ (s1 _ _ O);generalize upd H2 q (.lst (J.map V.int))=H3 at s2 j M ⊢;have m5:q≠p:=fun z=>by rw[z,M] at j;cases j
  refine⟨M,fdK q 0 0,rfl,(by show 3<=15;decide),?_⟩;refine k p q _ (fun b o hb=>?_) np ⟨J,0,0,Zt,by rw[Zy m5];exact j,hl 63 rfl,by decide,by decide,by decide⟩;have m6:b≠p:=fun z=>by rw[z,np] at hb;cases hb
  rw[Zy m6];exact s2 _ _ (s1 _ _ (s0 _ _ hb))
theorem Zjk {f:Addr}{fd:FuncData}(F:WN K "_law_draw" "_law_draw" Zgu f fd)(T:BlB mg):Yb P w K mg base Yi 1 f fd ["_law_feed_here", "_law_many"] Zai:=by
 refine F.ok (FS (N:=["_law_feed_here", "_law_many", "_law_found", "_law_at", "_law_cells", "_law_cell", "_law_number"])) (fun vs H Q E h=>?_) (fun n8 A n9 s H vs Q E hr h=>?_)
 ·obtain⟨p,q,m,b,rfl,_⟩:=h;rfl
 ·obtain⟨p,q,m,b,rfl,⟨M,a,l,Y,h2,O,l0,a0,ab⟩,hb,m0,m1,k⟩:=h
  have U:(A.deeper (envOfC "_law_draw" (ZU Zgu) s.heap.objs.size f n8)).units+1<cLine:=by have:=hr.un;omega
  refine⟨_,Zs (Jo (ZS Zkv (Jg U (vn 0) WG (fun _ _=>rfl)) Zx (Z6 _)) (Zs (ZD 2 rfl (Zz Z0 (Jg U (vn 0) WG (fun _ _=>rfl)) (vn 1)))
   (Zs (JR U (vn 0) WG (Zz Wx (Jg U (vn 0) WG (fun _ _=>rfl)) (vn 1)) (by rfl))
   (Zw (ZF (vn 2))))) YX)
   (Zs (ZD 3 rfl (Jg U (vn 0) WG (fun _ _=>rfl)))
   (Zs (JR U (vn 0) WG (Zz YK (vn 3) Zx) (by rfl))
   (Zs (ZD 4 rfl (Jg U (vn 0) WG (fun _ _=>rfl)))
   (Zs (ZD 5 rfl (ZgO (ZS (neC K hr.units) (vn 4) (ZW Zu) (Z6 _)) (ZG (X2 K) (vn 4) (Zz Z0 (vn 3) (cb (YF K) T.len (pc (vn 4) Zu))) (fun _ _=>rfl)) (Zz ZP (vn 3) (vn 3))))
   (Zs (Jo (Zlh (ZS Zm3 (vn 5) (Zz Zlq Zx Zx) (Z6 _)) (ZiW (ZS Zd7 (vn 3) (cb (YF K) T.len (pc (vn 4) Zu)) (Z6 _)))).pt (Zs (JR U (vn 0) WG (Zz Wx (vn 5) (vn 1)) (by rfl))
   (Zw (ZF (Zz Z0 (vn 5) (vn 1))))) YX)
   (Zs (ZD 6 rfl (Zz Z0 (Zz ZP (Zz YK (Zz Z0 (vn 5) Zx) Zx) (Zz YK Zx (Zz ZP Zx (vn 3)))) Zx))
   (Zw (ZF (Zz Z0 (Zz Wx (Zz Z0 (Zz YK (Zz ZP (vn 6) Zx) (Zz ZP (Zz ZP (vn 3) (vn 3)) Zx)) Zx) Zx) (vn 1)))))))))),?_⟩
  have m5:q≠p:=fun z=>by rw[z,Y] at h2;cases h2
  refine⟨_,rfl,p,_,rfl,Zc3 Y,_,_,rfl,rfl,_,rfl,?_⟩;refine Y8 (fun h=>?_) (fun h=>?_)
  ·refine⟨_,rfl,p,_,rfl,Zc3 Y,_,rfl,_,_,rfl,rfl,m0,?_⟩
   refine⟨_,rfl,p,_,rfl,Zc3 Y,_,rfl,_,_,rfl,rfl,⟨m0,m1⟩,_,rfl,p,_,rfl,ZgS Y,?_⟩;exact⟨_,rfl,k _ _ (bV _ (by omega)) (bI _ m0) (fun b o e hb=>by rw[Zy hb];exact e) ⟨M,a,l / m,Zt,by rw[Zy m5];exact h2,O,jx l0 (by omega),a0,by omega⟩⟩
  ·refine⟨_,rfl,p,_,rfl,Zo6 Y,?_⟩
   refine⟨_,rfl,_,_,rfl,rfl,_,rfl,p,_,rfl,ZoP Y,?_⟩;have h3:upd H p (.dK (fdK q (a+1) l)) p=some (.dK (fdK q (a+1) l)):=Zt;have m6:upd H p (.dK (fdK q (a+1) l)) q=some (.lst (M.map V.int)):=by rw[Zy m5];exact h2
   have k3:Tk p H (upd H p (.dK (fdK q (a+1) l))):=fun b o e hb=>by rw[Zy hb];exact e
   generalize upd H p (.dK (fdK q (a+1) l))=H3 at h3 m6 k3 ⊢;refine⟨_,rfl,p,_,rfl,ZjN h3,?_⟩;refine⟨_,rfl,(by show 0<=sizeLine;decide),fun e0 o0=>?_⟩;have s4:=Zv.upd (H:=H3) (o:=.lst []) o0;have k4:=k3.trans (Tk.of s4);have h4:=s4 _ _ h3;have J:=s4 _ _ m6;have m8:upd H3 e0 (.lst []) e0=some (.lst []):=Zt;generalize upd H3 e0 (.lst [])=H4 at s4 k4 h4 J m8 ⊢;refine⟨_,_,.lst (.of J) (Wo.ints M),.lst (.of m8) .nil,Zgd M,rfl,_,rfl,?_⟩;have len:(M.map V.int).length=M.length:=fI ..;have T4:∀l',0<=l'->Wn (upd H4 p (.dK (fdK q (a+1) l'))) p q (b+1):=fun l' o5=>⟨M,a+1,l',Zt,by rw[Zy m5];exact J,O,o5,by omega,by omega⟩;refine Y8 (fun n6=>?ca) (fun n6=>?cb)
   case' ca=>
    have hn:(0:Int)<M.length:=by
     cases M with
     |nil=>exact absurd n6 (by decide)
     |cons x r=>simp only[Zi];omega
    have r0:=bV a (show (M.length:Int)≠0 by omega);have r1:=bI a hn;obtain⟨j,ej⟩:=c8 r0;have hj:j<M.length:=by omega
    refine⟨_,rfl,_,rfl,_,rfl,q,_,rfl,.inl (.of J),?_⟩;rw[len];refine⟨_,_,rfl,rfl,hn,?_⟩;dsimp only;rw[ej];refine⟨q,_,_,_,rfl,rfl,.of J,ZR (j:=j) (by rw[Zc,Zf hj];rfl),?_⟩;generalize M[j]=c
   case' cb=>
    refine⟨_,rfl,_,rfl,_,_,rfl,rfl,.inr ⟨by omega,by omega⟩,?_⟩;dsimp only;generalize a*a=c
   all_goals
    refine⟨_,rfl,_,_,rfl,rfl,⟨by decide,by decide,by decide⟩,_,_,rfl,rfl,_,rfl,?_⟩;refine Y8 (fun hA=>?_) (fun hA=>?_)
    ·refine⟨_,rfl,_,rfl,q,_,rfl,.inl (.of J),?_⟩
     rw[len];refine⟨_,_,rfl,rfl,_,rfl,?_⟩;refine Y8 (fun hB=>?_) (fun hB=>?_)
     ·have hc:0<=c:=by
       have:=of_decide_eq_true hA;have o6:(10:Int) ^ (18:Int).toNat=1000000000000000000:=by decide
       omega
      refine⟨_,rfl,_,rfl,_,_,rfl,rfl,⟨m0,m1⟩,_,rfl,p,_,rfl,ZgS h4,?_⟩;refine⟨_,rfl,_,rfl,_,_,rfl,rfl,m0,?_⟩;exact k _ _ (bV _ (by omega)) (bI _ m0) (k4.trans fun b o e hb=>by rw[Zy hb];exact e) (T4 _ (jx hc (by omega)))
     ·refine⟨_,rfl,_,_,rfl,rfl,(by show (0:Int)<_;decide),_,_,rfl,rfl,_,rfl,_,_,rfl,rfl,.inl ⟨by decide,by decide⟩,_,_,rfl,rfl,_,_,rfl,rfl,.inl ⟨by have:=bV c (show (2147483629:Int)≠0 by decide);omega,by have:=bI c (show (0:Int)<2147483629 by decide);omega⟩,_,_,rfl,rfl,(by show (0:Int)<_;decide),?_⟩
      refine⟨_,rfl,_,_,rfl,rfl,.inr ⟨by decide,by decide⟩,_,rfl,_,rfl,_,_,rfl,rfl,.inr ⟨by omega,by omega⟩,_,_,rfl,rfl,.inr ⟨by decide,by decide⟩,_,_,rfl,rfl,_,_,rfl,rfl,(by show (0:Int)<_;decide),_,_,rfl,rfl,⟨by decide,by decide⟩,_,rfl,_,_,rfl,rfl,m0,?_⟩;exact k _ _ (bV _ (by omega)) (bI _ m0) k4 ⟨M,a+1,l,h4,J,O,l0,by omega,by omega⟩
    ·refine⟨_,rfl,_,_,rfl,rfl,(by show (0:Int)<_;decide),_,_,rfl,rfl,_,rfl,_,_,rfl,rfl,.inl ⟨by decide,by decide⟩,_,_,rfl,rfl,_,_,rfl,rfl,.inl ⟨by have:=bV c (show (2147483629:Int)≠0 by decide);omega,by have:=bI c (show (0:Int)<2147483629 by decide);omega⟩,_,_,rfl,rfl,(by show (0:Int)<_;decide),?_⟩
     refine⟨_,rfl,_,_,rfl,rfl,.inr ⟨by decide,by decide⟩,_,rfl,_,rfl,_,_,rfl,rfl,.inr ⟨by omega,by omega⟩,_,_,rfl,rfl,.inr ⟨by decide,by decide⟩,_,_,rfl,rfl,_,_,rfl,rfl,(by show (0:Int)<_;decide),_,_,rfl,rfl,⟨by decide,by decide⟩,_,rfl,_,_,rfl,rfl,m0,?_⟩;exact k _ _ (bV _ (by omega)) (bI _ m0) k4 ⟨M,a+1,l,h4,J,O,l0,by omega,by omega⟩
end
end C52
namespace Pm
open PySem L2 PySem.Spec PyProof.Rows
open Tb
theorem Wa {W:Type}(m8:W->Addr)(Pr:Nat->W->Hp->Prop)(U:W->Hp->Prop){J:It}{own:List Str}{m6:List Nat}{te:TE}{σ:L2.St}{H:Hp}{Q:VK}{xs:List V}(S:Wu J H xs)(cs:L2.St)(n9:JJ own m6 σ=none::cs)(hn:xs.length<=1000)
  (mono:∀i w H q,Zv H q->Pr i w H->Pr i w q) (n8:∀w H q,Zv H q->U w q->U w H) (hu:∀i w H0 H1 D o ys o0,Pr i w H1->U w H0->H0 D=some (.lst o)->H1 D=some (.lst ys)->Pr i w (upd H1 D (.lst o0)))
  (hs:∀(i:Nat) y,xs[i]?=some y->∀q,Zv H q->∀R:VK,(∀w Y,Zv q Y->Pr i w Y->U w q->R (.ref (m8 w)) Y)->te (some y::cs) q R)
  (hd:∀D (M:List W) q,H D=none->Zv H q->q D=some (.lst (M.map fun w=>V.ref (m8 w)))->M.length=xs.length->(∀(i:Nat) w,M[i]?=some w->Pr i w q/\U w H)->(∀(i j:Nat) w w',i<j->M[i]?=some w->M[j]?=some w'->∃Hm,Pr i w Hm/\U w' Hm)->Q (.ref D) q):WS own m6 (Z7 0) Wr te σ Q J H:=by
 refine Uc (xs:=xs) (fun D i ys q=>Zv H q/\∃M:List W,ys=M.map (fun w=>V.ref (m8 w))/\M.length=i/\(∀(i:Nat) w,M[i]?=some w->Pr i w q/\U w H/\∃H0 o,H0 D=some (.lst o)/\U w H0)/\(∀(i j:Nat) w w',i<j->M[i]?=some w->M[j]?=some w'->∃Hm,Pr i w Hm/\U w' Hm)) cs n9 (by omega) ?_ ?_ ?_ ?_
 ·intro D i ys q hD O p
  have S':=S.mono p.1;exact⟨fun hi=>⟨S'.go i q (Zv.refl _) hi,fun x H3 y=>S'.yld i q x H3 (Zv.refl _) hi y⟩,fun e=>e▸S'.stop q (Zv.refl _)⟩
 ·intro D hD
  exact⟨Zv.upd hD,[],rfl,rfl,(fun i w hw=>by cases hw),(fun i j w w' _ h=>by cases h)⟩
 ·rintro D i y ys q hD O hy ⟨sm,M,rfl,wl,hw,hp⟩ R k
  refine hs i y hy q sm R fun w Y s5 p5 n5=>?_;have n6:=s5 _ _ O;have lst:∀(b:Nat) v,(M++[w])[b]?=some v->(b<M.length/\M[b]?=some v)\/(b=M.length/\v=w):=fun b v hb=>by
   by_cases m5:b<M.length
   ·rw[au m5] at hb
    exact .inl ⟨m5,hb⟩
   ·rw[aw (by omega)] at hb
    have o5:b-M.length=0:=by
     apply ah;intro z;rw[ak (by rw[Zk];omega)] at hb;cases hb
    rw[o5] at hb;cases hb;exact .inr ⟨by omega,rfl⟩
  refine k _ Y n6 ⟨(sm.trans s5).updr hD,M++[w],by rw[aU];rfl,by rw[Zd,wl];rfl,fun b v hv=>?_,fun a b v v' o6 ha hb=>?_⟩
  ·rcases lst b v hv with ⟨_,hv⟩|⟨hb,hv⟩
   ·obtain⟨h1,h2,H0,o,h3,h4⟩:=hw b v hv
    exact⟨hu b v H0 Y D o _ _ (mono b v _ _ s5 h1) h4 h3 n6,h2,H0,o,h3,h4⟩
   ·subst hv
    subst hb;rw[<-wl] at p5;exact⟨hu _ v q Y D _ _ _ p5 n5 O n6,n8 v _ _ sm n5,q,_,O,n5⟩
  ·rcases lst b v' hb with ⟨m5,hb⟩|⟨m5,hb⟩
   ·rw[au (by omega)] at ha
    exact hp a b v v' o6 ha hb
   ·subst hb
    rw[au (by omega)] at ha;exact⟨q,(hw a v ha).1,n5⟩
 ·rintro D ys Y hD O o7 ⟨sm,M,rfl,wl,hw,hp⟩
  exact hd D M Y hD sm O wl (fun i w h=>⟨(hw i w h).1,(hw i w h).2.1⟩) hp
theorem Wm {J:It}{own:List Str}{M:List Nat}{te:TE}{σ:L2.St}{H:Hp}{Q:VK}{xs:List V}(S:Wu J H xs)(cs:L2.St)(m5:JJ own M σ=none::cs)(F:Nat->V)(hz:xs.length<=1000)
  (hs:∀(i:Nat) y,xs[i]?=some y->∀j,Zv H j->∀R:VK,(∀O,Zv j O->R (F i) O)->te (some y::cs) j R)
  (hd:∀D j,H D=none->Zv H j->j D=some (.lst ((ae xs.length).map F))->Q (.ref D) j):WS own M (Z7 0) Wr te σ Q J H:=by
 refine Uc (xs:=xs) (fun D i Y j=>Zv H j/\Y=(ae i).map F) cs m5 (by omega) ?_ ?_ ?_ ?_
 ·intro D i Y j U q p
  have S':=S.mono p.1;exact⟨fun hi=>⟨S'.go i j (Zv.refl _) hi,fun x H3 y=>S'.yld i j x H3 (Zv.refl _) hi y⟩,fun e=>e▸S'.stop j (Zv.refl _)⟩
 ·intro D U
  exact⟨Zv.upd U,rfl⟩
 ·rintro D i y Y j U q hy ⟨sm,rfl⟩ R k
  refine hs i y hy j sm R fun O s5=>k _ O (s5 _ _ q) ⟨(sm.trans s5).updr U,?_⟩;rw[cf,aU];rfl
 ·rintro D Y O U q m6 ⟨sm,rfl⟩
  exact hd D O U sm q
theorem ZfU {X:Cx}(K:aa)(q:X.K=K:=by rfl):Yu X (.type "tuple") (fun xs H Q=>∃p ys,xs=[.ref p]/\Wt K H p ys/\∀l j,H l=none->Zv H j->Tz j l ys->Q (.ref l) j):=q▸Zck
theorem Tz.updL {H:Hp}{a D:Addr}{ys q:List V}{o:HO}(h:Tz H a ys)(J:H D=some (.lst q)):Tz (upd H D o) a ys:=by
 obtain⟨u,j,M⟩:=h;exact⟨u,by rw[Zy (fun z=>by rw[z,J] at j;cases j)];exact j,M⟩
noncomputable def Xk (y:List Nat):List Yx:=y.map fun x:Nat=>gO (x:Int)
theorem Zhn (y:List Nat):(Xk y).map kV=y.map nV:=by
 unfold Xk;rw[aJ];rfl
theorem Zb2 {a b:List Nat}(h:Xk a=Xk b):a=b:=by
 unfold Xk at h;refine (iC (fun x y e=>?_)).mp h;injection e with e;omega
section
variable {fd:List (List Nat)}{os:List Nat}
theorem ZhJ (J:fd.Nodup){a b:Nat}(j:a<fd.length)(hb:b<fd.length)(h:fd.getD a []=fd.getD b []):a=b:=by
 have q:=getL j;have M:=getL hb;rw[h,<-M] at q;exact (lV j J).mp q
end
end Pm
namespace Tb
noncomputable def trn (m r:Nat):Nat->Nat
 |0=>1
 |s+1=>trn m r s*r % m
theorem ZfV {m:Nat}(j:m<=60)(q:1<=m)(r:Nat):∀s,trn m r s<=60
 |0=>by show 1<=60;omega
 |s+1=>by
  have:=bP (trn m r s*r) (show 0<m by omega);rw[trn];omega
noncomputable def twV (m k r c a b:Nat):Nat:=(a / k+trn m r (a % k)*(b / k)+c*((a % k+b % k) / k)) % m*k+(a % k+b % k) % k
noncomputable def twT (m k r c:Nat):List (List Nat):=(ae (m*k)).map fun a=>(ae (m*k)).map fun b=>twV m k r c a b
end Tb
namespace C52
open PySem L2 PySem.Spec PyProof.Rows
open Tb Pm
noncomputable abbrev Zgg:Stmt:=top 36
noncomputable def Zdr:Sp:=fun q H Q _=>∃(m k r c:Nat),q=[.int m,.int k,.int r,.int c]/\1<=m/\1<=k/\m<=60/\k<=60/\m*k<=60/\r<=60/\c<=60/\∀g j,Zv H j->GT j g (twT m k r c)->Q (.ref g) j
theorem ZjB (f:Nat->V)(s:Nat):X9 ((ae (s+1)).map f) (-1)=some (f s):=by
 rw[cf,aU];exact Ur _ _
section
variable {P:Program}{w:World}{K:aa}{mg:Str->Option Value}{base:Heap}
theorem ZgW {f:Addr}{fd:FuncData}(F:WN K "_law_twisted" "_law_twisted" Zgg f fd)(T:BlB mg):Yb P w K mg base Yi 1 f fd ["_law_m", "_law_k", "_law_r", "_law_c"] Zdr:=by
 refine F.ok (FS (N:=["_law_m", "_law_k", "_law_r", "_law_c", "_law_turns", "_law_s", "_law_rows", "_law_a", "_law_i", "_law_line", "_law_b", "_law_t", "_law_first"])) (fun vs H Q E h=>?_) (fun p4 A o8 s H vs Q E hr h=>?_)
 ·obtain⟨m,k,r,c,rfl,_⟩:=h;rfl
 ·obtain⟨m,k,r,c,rfl,m1,k1,n8,p6,p3,p7,p8,q⟩:=h
  refine⟨_,Zs (ZD 4 rfl (ZW (pc Zx Zu)))
   (Zs (ZT av rfl (XV T.range (pc (vn 1) Zu)) (gn 5)
   (Zw (Yq (Wj aO aT aV Z2 (vn 4) (pc (Zz Z0 (Zz ZP (ZG (X2 K) (vn 4) (Vi Ju Zx) (fun _ _=>rfl)) (vn 2)) (vn 0)) Zu)))))
   (Zs (ZD 6 rfl (ZW Zu))
   (Zs (ZT av rfl (XV T.range (pc (Zz ZP (vn 0) (vn 1)) Zu)) (gn 7)
   (Zs (ZD 8 rfl (Zz Wx (vn 7) (vn 1)))
   (Zs (ZD 5 rfl (Zz Z0 (vn 7) (vn 1)))
   (Zs (ZD 9 rfl (ZW Zu))
   (Zs (ZT av rfl (XV T.range (pc (Zz ZP (vn 0) (vn 1)) Zu)) (gn 10)
   (Zs (ZD 11 rfl (Zz YK (vn 5) (Zz Z0 (vn 10) (vn 1))))
   (Zs (ZD 12 rfl (Zz YK (Zz YK (vn 8) (Zz ZP (ZG (X2 K) (vn 4) (vn 5) (fun _ _=>rfl)) (Zz Wx (vn 10) (vn 1)))) (Zz ZP (vn 3) (Zz Wx (vn 11) (vn 1)))))
   (Zw (Yq (Wj aO aT aV Z2 (vn 9) (pc (Zz YK (Zz ZP (Zz Z0 (vn 12) (vn 0)) (vn 1)) (Zz Z0 (vn 11) (vn 1))) Zu)))))))
   (Zw (Yq (Wj aO aT aV Z2 (vn 6) (pc (ct (ZfU K) T.tuple (pc (vn 9) Zu)) Zu)))))))))
   (Zw (ZF (ct ZJ T.tuple (pc (vn 6) Zu))))))),?_⟩
  have sz:(16777216:Nat)=sizeLine:=by decide
  refine⟨(by show 1<=sizeLine;decide),fun Y n9=>?_⟩;have s1:=Zv.upd (H:=H) (o:=.lst [.int 1]) n9;have h1:upd H Y (.lst [.int 1]) Y=some (.lst ((ae (0+1)).map fun i=>V.int ((trn m r i:Nat):Int))):=Zt;generalize upd H Y (.lst [.int 1])=H1 at s1 h1 ⊢;refine⟨_,rfl,_,rfl,by omega,by omega,?_⟩;rw[Zj];refine YC (fun i J H'=>∃v5 v6 v7 v8 v9 M O U:Option V,J=[some (.int (m:Nat)),some (.int (k:Nat)),some (.int (r:Nat)),some (.int (c:Nat)),some (.ref Y),v5,v6,v7,v8,v9,M,O,U]/\Zv H H'/\H' Y=some (.lst ((ae (i+1)).map fun i=>V.int ((trn m r i:Nat):Int)))) ⟨_,_,_,_,_,_,_,_,rfl,s1,h1⟩ ?_ ?_
  ·rintro i J H2 hi ⟨v5,v6,v7,v8,v9,M,O,U,rfl,s2,h2⟩
   have tl:=ZfV n8 m1 r i;refine⟨_,rfl,.inl ⟨rfl,_,.of h2⟩,_,rfl,_,rfl,Y,_,_,_,rfl,rfl,.of h2,ZjB _ i,_,rfl,_,_,rfl,rfl,.inr ⟨by omega,by omega⟩,_,rfl,_,_,rfl,rfl,(by show (0:Int)<(m:Int);omega),Y,_,_,rfl,rfl,h2,by rw[Za,Zg];omega,?_⟩;refine⟨_,_,_,_,_,_,_,_,rfl,s2.updr n9,?_⟩;rw[Zt,cf (n:=i+1),aU];rfl
  ·rintro J H2 ⟨v5,v6,v7,v8,v9,M,O,U,rfl,s2,h2⟩
   refine⟨(by show 0<=sizeLine;decide),fun Lr m5=>?_⟩;have s3:=s2.trans (Zv.upd (H:=H2) (o:=.lst []) m5);have h3:upd H2 Lr (.lst []) Lr=some (.lst ([]:List V)):=Zt;have o0:=(Zv.upd (H:=H2) (o:=.lst []) m5) _ _ h2;have o5:H Lr=none:=s2.free m5;have o6:Y≠Lr:=fun z=>by rw[z,m5] at h2;cases h2
   generalize upd H2 Lr (.lst [])=H3 at s3 h3 o0 ⊢;refine⟨_,rfl,_,rfl,_,_,rfl,rfl,.inr ⟨by omega,by omega⟩,_,rfl,?_,?_,?_⟩
   ·rw[<-aK];omega
   ·rw[<-aK];omega
   rw[<-aK,Zj];refine YC (fun a J H'=>∃(rs:List Addr) (v5 v7 v8 v9 M O U:Option V),J=[some (.int (m:Nat)),some (.int (k:Nat)),some (.int (r:Nat)),some (.int (c:Nat)),some (.ref Y),v5,some (.ref Lr),v7,v8,v9,M,O,U]/\Zv H H'/\H' Y=some (.lst ((ae (k+1)).map fun i=>V.int ((trn m r i:Nat):Int)))/\H' Lr=some (.lst (rs.map V.ref))/\rs.length=a/\∀(i:Nat) x,rs[i]?=some x->Tz H' x (((ae (m*k)).map fun b=>twV m k r c i b).map nV)) ⟨[],_,_,_,_,_,_,_,rfl,s3,o0,h3,rfl,fun i x h=>by cases h⟩ ?_ ?_
   ·rintro a J H4 ha ⟨rs,v5,v7,v8,v9,M,O,U,rfl,s4,m8,h4,rl,n6⟩
    rw[show (0:Int)+(a:Int)=(a:Int) by omega];refine⟨_,rfl,_,rfl,_,_,rfl,rfl,⟨by omega,by omega⟩,?_⟩;refine⟨_,rfl,_,rfl,_,_,rfl,rfl,(by show (0:Int)<(k:Int);omega),?_⟩;refine⟨(by show 0<=sizeLine;decide),fun Ln o7=>?_⟩;have s5:=Zv.upd (H:=H4) (o:=.lst []) o7;have h5:upd H4 Ln (.lst []) Ln=some (.lst ((ae 0).map fun b=>nV (twV m k r c a b))):=Zt;generalize upd H4 Ln (.lst [])=H5 at s5 h5 ⊢;refine⟨_,rfl,_,rfl,_,_,rfl,rfl,.inr ⟨by omega,by omega⟩,_,rfl,?_,?_,?_⟩
    ·rw[<-aK];omega
    ·rw[<-aK];omega
    rw[<-aK,Zj];have ed:(a:Int) / (k:Int)=((a / k:Nat):Int):=(eB a k).symm;have em:(a:Int) % (k:Int)=((a % k:Nat):Int):=(a6 a k).symm;refine YC (fun b J H'=>∃(M O U:Option V),J=[some (.int (m:Nat)),some (.int (k:Nat)),some (.int (r:Nat)),some (.int (c:Nat)),some (.ref Y),some (.int ((a % k:Nat):Int)),some (.ref Lr),some (.int (a:Nat)),some (.int ((a / k:Nat):Int)),some (.ref Ln),M,O,U]/\Zv H4 H'/\H' Ln=some (.lst ((ae b).map fun b=>nV (twV m k r c a b)))) ⟨_,_,_,by rw[<-ed,<-em];rfl,s5,h5⟩ ?_ ?_
    ·rintro b J H6 hb ⟨M,O,U,rfl,s6,h6⟩
     rw[show (0:Int)+(b:Int)=(b:Int) by omega];have q0:a % k<k:=bP _ (by omega);have tl:=ZfV n8 m1 r (a % k);have bk:b / k<=60:=aZ (jw _ _) (by omega);have tk:(a % k+b % k) / k<=120:=by
      have:=bP b (show 0<k by omega);exact aZ (jw _ _) (by omega)
     refine⟨_,rfl,_,rfl,_,rfl,_,_,rfl,rfl,(by show (0:Int)<(k:Int);omega),_,_,rfl,rfl,?_⟩;dsimp only;rw[<-a6,<-eV];refine⟨_,rfl,_,rfl,_,rfl,Y,_,_,_,rfl,rfl,.of (s6 _ _ m8),ZR (j:=a % k) (by rw[Zc,am (by omega)];rfl),_,rfl,_,rfl,_,_,rfl,rfl,⟨by omega,by omega⟩,?_⟩;dsimp only;rw[<-eB];refine⟨_,_,rfl,rfl,.inr ⟨lX (by decide) (dB _),lY (Int.ofNat_le.mpr bk) (by decide)⟩,_,_,rfl,rfl,_,rfl,_,rfl,_,rfl,_,_,rfl,rfl,⟨by omega,by omega⟩,?_⟩;dsimp only;rw[<-eB];refine⟨_,_,rfl,rfl,.inr ⟨lX (by decide) (dB _),lY (Int.ofNat_le.mpr tk) (by decide)⟩,_,_,rfl,rfl,?_⟩;dsimp only;rw[<-aK,<-aK,<-eV,<-eV];refine⟨_,rfl,.inl ⟨rfl,_,.of h6⟩,_,rfl,_,rfl,_,_,rfl,rfl,(by show (0:Int)<(m:Int);omega),_,rfl,_,_,rfl,rfl,.inr ⟨by omega,by omega⟩,_,rfl,_,rfl,_,_,rfl,rfl,(by show (0:Int)<(k:Int);omega),_,_,rfl,rfl,Ln,_,_,rfl,rfl,h6,by rw[Za,Zg];omega,?_⟩;refine⟨_,_,_,rfl,s6.updr o7,?_⟩;rw[Zt,cf,aU];dsimp only;rw[<-a6,<-aK,<-a6,<-eV];rfl
    ·rintro J H6 ⟨M,O,U,rfl,s6,h6⟩
     have o9:=s6 _ _ h4;refine⟨_,rfl,.inl ⟨rfl,_,.of o9⟩,_,rfl,Ln,_,rfl,.of h6,fun l H7 nl s7 hz=>?_⟩;have m6:=s6.trans s7;have h7:=m6 _ _ h4;refine⟨Lr,_,_,rfl,rfl,h7,by rw[Za,rl];omega,?_⟩;have ez:((ae (m*k)).map fun b=>nV (twV m k r c a b))=((ae (m*k)).map fun b=>twV m k r c a b).map nV:=by rw[aJ];rfl
     rw[ez] at hz;refine⟨rs++[l],_,_,_,_,_,_,_,rfl,(s4.trans m6).updr o5,by rw[Zy o6];exact m6 _ _ m8,by rw[Zt,aU];rfl,by rw[Zd,rl];rfl,fun i x hx=>?_⟩;by_cases hi:i<rs.length
     ·rw[au hi] at hx
      exact Tz.updL ((n6 i x hx).mono m6) h7
     ·have hl:=(ac.mp hx).1
      rw[Zd,Zk] at hl;have ei:i=rs.length:=by omega
      rw[aw (by omega),ei,cF] at hx;cases hx;rw[ei,rl];exact Tz.updL hz h7
   ·rintro J H4 ⟨rs,v5,v7,v8,v9,M,O,U,rfl,s4,m8,h4,rl,n6⟩
    refine⟨_,rfl,Lr,_,rfl,.inl ⟨.of h4,fun g ng=>?_⟩⟩;have s5:=Zv.upd (H:=H4) (o:=.tup (rs.map V.ref)) ng;refine q g _ (s4.trans s5) ⟨rs,Zt,by unfold twT;rw[Za,Zg,rl],fun i x hx=>?_⟩;have hi:i<m*k:=by rw[<-rl];exact (ac.mp hx).1
    have er:(twT m k r c).getD i []=(ae (m*k)).map fun b=>twV m k r c i b:=by unfold twT;rw[Zb,Zc,am hi];rfl
    rw[er];exact (n6 i x hx).mono s5
end
end C52
namespace PyZ
open PySem PyProof PyProof.Rows
noncomputable def Runs (n:Nat)(cmp:Nat->Nat->Bool){α:Type}:jr α->(α->Prop)->Prop
 | .ret a,Q=>Q a
 | .ask i j k,Q=>i<n/\j<n/\Runs n cmp (k (cmp i j)) Q
theorem Runs.run {n:Nat}{cmp:Nat->Nat->Bool}{α:Type}{Q:α->Prop}:∀{t:jr α},Runs n cmp t Q->∃a,Xe n cmp t=some a/\Q a
 | .ret a,h=>⟨a,rfl,h⟩
 | .ask i j k,h=>by
  obtain⟨J,M,O⟩:=h;obtain⟨a,e,q⟩:=O.run;exact⟨a,by rw[Xe,if_pos ⟨J,M⟩];exact e,q⟩
theorem Runs.bind {n:Nat}{cmp:Nat->Nat->Bool}{α q:Type}{f:α->jr q}{Q:q->Prop}:∀{t:jr α},Runs n cmp t (fun a=>Runs n cmp (f a) Q)->Runs n cmp (t.bind f) Q
 | .ret a,h=>h
 | .ask i j k,h=>⟨h.1,h.2.1,h.2.2.bind⟩
theorem Runs.mono {n:Nat}{cmp:Nat->Nat->Bool}{α:Type}{Q q:α->Prop}(J:∀a,Q a->q a):∀{t:jr α},Runs n cmp t Q->Runs n cmp t q
 | .ret a,h=>J a h
 | .ask i j k,h=>⟨h.1,h.2.1,h.2.2.mono J⟩
section
variable {n:Nat}{rank:Nat->Nat}
noncomputable abbrev Wz (rank:Nat->Nat):Nat->Nat->Bool:=fun i j=>decide (rank i<rank j)
noncomputable def RK (rank:Nat->Nat)(p:Array Nat)(i:Nat):Nat:=rank (p.getD i 0)
structure Ut (n:Nat)(p:Array Nat):Prop where
 pm:p.Perm (ae n).toArray
theorem Ut.size {p:Array Nat}(h:Ut n p):p.size=n:=by
 have:=h.pm.size_eq;simpa using this
theorem Ut.lt {p:Array Nat}(h:Ut n p){i:Nat}(hi:i<n):p.getD i 0<n:=by
 have j:=h.size;have q:p.toList.Perm (ae n):=by have:=h.pm;rw[jy] at this;simpa using this
 have e:p.getD i 0=p[i]'(by omega):=by simp[lB,j,hi]
 rw[e];have J:p[i]'(by omega)∈p.toList:=by simp
 exact af.mp (q.mem_iff.mp J)
theorem JN {p q:Array Nat}{i j:Nat}(h:p[i]?=q[j]?):RK rank p i=RK rank q j:=by
 unfold RK;rw[cB,cB,h]
theorem ZfE {xs:Array Nat}{src d:Nat}(J:src<xs.size)(M:d<=src)(k:Nat) :
  RK rank (bubble xs src d) k=if k=src-d then RK rank xs src else if src-d<k/\k<=src then RK rank xs (k-1) else RK rank xs k:=by
 have e:=getElem?_bubble J d M k;by_cases j:k=src-d
 ·rw[if_pos j] at e ⊢;exact JN e
 ·rw[if_neg j] at e ⊢
  by_cases q:src-d<k/\k<=src
  ·rw[if_pos q] at e ⊢;exact JN e
  ·rw[if_neg q] at e ⊢;exact JN e
theorem Zdf {xs:Array Nat}{i j:Nat}(J:j<=xs.size)(k:Nat):RK rank (eX xs i j) k=if i<=k/\k<j then RK rank xs (i+j-1-k) else RK rank xs k:=by
 have e:=getElem?_mirror_all (i:=i) J k;unfold eX;by_cases q:i<=k/\k<j
 ·rw[if_pos q] at e ⊢;exact JN e
 ·rw[if_neg q] at e ⊢;exact JN e
theorem Vb {xs:Array Nat}{i j:Nat}(q:j<=xs.size)(heq:∀k,i<=k->k<j->RK rank xs k=RK rank xs (j-1))(k:Nat):RK rank (eX xs i j) k=RK rank xs k:=by
 rw[Zdf q];split
 ·rw[heq _ (by omega) (by omega),heq k (by omega) (by omega)]
 ·rfl
theorem Ut.rev {p:Array Nat}(h:Ut n p)(i j:Nat):Ut n (eX p i j):=⟨(mirror_perm p i j _).trans h.pm⟩
theorem Ut.bub {p:Array Nat}(h:Ut n p)(k d:Nat):Ut n (bubble p k d):=⟨(bubble_perm p k d).trans h.pm⟩
noncomputable def Up (rank:Nat->Nat)(p:Array Nat)(k:Nat):Prop:=∀i j,i<=j->j<k->RK rank p i<=RK rank p j
noncomputable def Dn (rank:Nat->Nat)(p:Array Nat)(k:Nat):Prop:=∀i j,i<=j->j<k->RK rank p j<=RK rank p i
theorem Up.snoc {p:Array Nat}{k:Nat}(O:1<=k)(h:Up rank p k)(J:RK rank p (k-1)<=RK rank p k):Up rank p (k+1):=fun i j q U=>by
 by_cases e:j=k
 ·subst e
  by_cases M:i=j
  ·rw[M];exact Zq _
  ·exact aZ (h i (j-1) (by omega) (by omega)) J
 ·exact h i j q (by omega)
theorem Dn.snoc {p:Array Nat}{k:Nat}(O:1<=k)(h:Dn rank p k)(J:RK rank p k<=RK rank p (k-1)):Dn rank p (k+1):=fun i j q U=>by
 by_cases e:j=k
 ·subst e
  by_cases M:i=j
  ·rw[M];exact Zq _
  ·exact aZ J (h i (j-1) (by omega) (by omega))
 ·exact h i j q (by omega)
theorem Zdc {p:Array Nat}(q:Ut n p):∀(f k:Nat),1<=k->k+f<=n->Up rank p k->Runs n (Wz rank) (W.kas_asc p f k) fun m=>k<=m/\m<=k+f/\Up rank p m/\(m<k+f->RK rank p m<RK rank p (m-1))
 |0,k,J,M,j=>⟨Zq _,Zq _,j,fun z=>absurd z (by omega)⟩
 |f+1,k,J,M,j=>by
  refine⟨q.lt (by omega),q.lt (by omega),?_⟩;by_cases c:rank (p.getD k 0)<rank (p.getD (k-1) 0)
  ·rw[show Wz rank _ _=true from decide_eq_true c]
   exact⟨Zq _,by omega,j,fun _=>c⟩
  ·rw[show Wz rank _ _=false from decide_eq_false c]
   refine (Zdc q f (k+1) (by omega) (by omega) (j.snoc J (by unfold RK;omega))).mono fun m ⟨a,b,u,d⟩=>⟨by omega,by omega,u,fun z=>d (by omega)⟩
theorem VC:∀(f:Nat) (p:Array Nat) (k q:Nat),Ut n p->1<=k->k+f<=n->q+1<=k->Dn rank p k->(∀j,k-1-q<=j->j<k->RK rank p j=RK rank p (k-1))->
  Runs n (Wz rank) (W.kas_desc f p k q) fun r=>Ut n r.1/\1<=r.2.1/\r.2.1<=k+f/\r.2.2+1<=r.2.1/\Dn rank r.1 r.2.1/\∀j,r.2.1-1-r.2.2<=j->j<r.2.1->RK rank r.1 j=RK rank r.1 (r.2.1-1)
 |0,p,k,q,J,M,hk,U,hd,he=>⟨J,M,Zq _,U,hd,he⟩
 |f+1,p,k,q,J,M,hk,U,hd,he=>by
  refine⟨J.lt (by omega),J.lt (by omega),?_⟩;by_cases c:rank (p.getD k 0)<rank (p.getD (k-1) 0)
  ·rw[show Wz rank _ _=true from decide_eq_true c]
   show Runs n (Wz rank) (if q > 0 then W.kas_desc f (eX p (k-(q+1)) k) (k+1) 0 else W.kas_desc f p (k+1) 0) _
   have O:=hd.snoc M (cR c);have sz:=J.size;split
   ·have Y:∀j,RK rank (eX p (k-(q+1)) k) j=RK rank p j:=fun j=>Vb (by omega) (fun i a b=>he i (by omega) b) j
    refine (VC f _ (k+1) 0 (J.rev _ _) (by omega) (by omega) (by omega) (fun i j a b=>?_) (fun j a b=>?_)).mono fun r ⟨a,b,c,d⟩=>⟨a,b,by omega,d⟩
    ·rw[Y,Y];exact O i j a b
    ·rw[show j=k+1-1 by omega]
   ·refine (VC f _ (k+1) 0 J (by omega) (by omega) (by omega) O (fun j a b=>?_)).mono fun r ⟨a,b,c,d⟩=>⟨a,b,by omega,d⟩
    rw[show j=k+1-1 by omega]
  ·rw[show Wz rank _ _=false from decide_eq_false c]
   refine⟨J.lt (by omega),J.lt (by omega),?_⟩;by_cases d:rank (p.getD (k-1) 0)<rank (p.getD k 0)
   ·rw[show Wz rank _ _=true from decide_eq_true d]
    exact⟨J,M,(show k<=k+(f+1) by omega),U,hd,he⟩
   ·rw[show Wz rank _ _=false from decide_eq_false d]
    have e:RK rank p k=RK rank p (k-1):=by unfold RK;omega
    refine (VC f _ (k+1) (q+1) J (by omega) (by omega) (by omega) (hd.snoc M (by omega)) (fun j a b=>?_)).mono fun r ⟨a,b,c,d⟩=>⟨a,b,by omega,d⟩;rw[show k+1-1=k by omega];by_cases ej:j=k
    ·rw[ej]
    ·rw[he j (by omega) (by omega),e]
theorem Zbd {p:Array Nat}{k:Nat}(q:Ut n p)(J:1<=k)(U:k<=n)(M:Dn rank p k):Runs n (Wz rank) (lM k n p) fun r=>1<=r.1/\r.1<=n/\Ut n r.2/\Up rank r.2 r.1:=by
 have sz:=q.size;have O:Up rank (eX p 0 k) k:=fun i j a b=>by
  rw[Zdf (by omega),Zdf (by omega),if_pos ⟨a5 _,by omega⟩,if_pos ⟨a5 _,b⟩];exact M _ _ (by omega) (by omega)
 exact Runs.bind ((Zdc (q.rev 0 k) (n-k) k J (by omega) O).mono fun m ⟨a,b,c,_⟩=>⟨aZ J a,by show m<=n;omega,q.rev 0 k,c⟩)
theorem Vm {p:Array Nat}{k:Nat}(J:Ut n p)(O:k+1<=n)(M:Dn rank p (k+1)):Runs n (Wz rank) (W.kas_descPart k n p) fun r=>1<=r.1/\r.1<=n/\Ut n r.2/\Up rank r.2 r.1:=by
 refine Runs.bind ((VC (n-(k+1)) p (k+1) 0 J (by omega) (by omega) (by omega) M (fun j a b=>by rw[show j=k+1-1 by omega])).mono fun r ⟨a,b,c,d,e,g⟩=>?_);have sz:=a.size;show Runs n (Wz rank) (if r.2.2 > 0 then lM r.2.1 n (eX r.1 (r.2.1-(r.2.2+1)) r.2.1) else lM r.2.1 n r.1) _
 split
 ·have q:∀j,RK rank (eX r.1 (r.2.1-(r.2.2+1)) r.2.1) j=RK rank r.1 j:=fun j=>Vb (by omega) (fun i x y=>g i (by omega) y) j
  exact Zbd (a.rev _ _) b (by omega) fun i j x y=>by rw[q,q];exact e i j x y
 ·exact Zbd a b (by omega) e
theorem ZhV {p:Array Nat}(q:Ut n p)(h1:1<=n):Runs n (Wz rank) (W.kas_count n p) fun r=>1<=r.1/\r.1<=n/\Ut n r.2/\Up rank r.2 r.1:=by
 refine Runs.bind ((Zdc q (n-1) 1 (Zq _) (by omega) (fun i j a b=>by rw[show i=0 by omega,show j=0 by omega];exact Zq _)).mono fun m ⟨a,b,c,d⟩=>?_);have sz:=q.size;show Runs n (Wz rank) (if (m == n)=true then _ else _) _
 by_cases e:m=n
 ·rw[if_pos (by rw[e];exact beq_self_eq_true n)]
  exact⟨a,by show m<=n;omega,q,c⟩
 ·rw[if_neg (by simpa using e)]
  have O:=d (by omega);have J:Dn rank p m->Dn rank p (m+1):=fun h=>h.snoc a (cR O);split
  ·refine⟨q.lt (by omega),q.lt (by omega),?_⟩
   by_cases g:rank (p.getD 0 0)<rank (p.getD (m-1) 0)
   ·rw[show Wz rank _ _=true from decide_eq_true g]
    exact⟨a,by show m<=n;omega,q,c⟩
   ·rw[show Wz rank _ _=false from decide_eq_false g]
    have all:∀j,j<m->RK rank p j=RK rank p (m-1):=fun j U=>by
     have x:=c 0 j (by omega) U;have y:=c j (m-1) (by omega) (by omega);unfold RK at x y ⊢;omega
    have M:∀j,RK rank (eX p 0 m) j=RK rank p j:=fun j=>Vb (by omega) (fun i _ y=>all i y) j;refine Vm (q.rev 0 m) (by omega) fun i j x y=>?_;rw[M,M];exact J (fun i j x y=>by rw[all i (by omega),all j y];exact Zq _) i j x y
  ·have Y:m=1:=by omega
   subst Y;exact Vm q (by omega) (J fun i j x y=>by rw[show i=0 by omega,show j=0 by omega];exact Zq _)
theorem VS {p:Array Nat}{k:Nat}(j:Ut n p)(U:k<n)(q:Up rank p k):∀(f l r:Nat),r-l<=f->l<=r->r<=k->(∀i,i<l->RK rank p i<=RK rank p k)->(∀i,r<=i->i<k->RK rank p k<RK rank p i)->
  Runs n (Wz rank) (W.kas_place p k f l r) fun m=>m<=k/\(∀i,i<m->RK rank p i<=RK rank p k)/\∀i,m<=i->i<k->RK rank p k<RK rank p i
 |0,l,r,hf,Y,J,M,O=>by
  have e:l=r:=by omega
  subst e;exact⟨J,M,O⟩
 |f+1,l,r,hf,Y,J,M,O=>by
  show Runs n (Wz rank) (if l ≥ r then _ else _) _
  split
  ·have e:l=r:=by omega
   subst e;exact⟨J,M,O⟩
  ·refine⟨j.lt U,j.lt (by omega),?_⟩
   by_cases c:rank (p.getD k 0)<rank (p.getD ((l+r) / 2) 0)
   ·rw[show Wz rank _ _=true from decide_eq_true c]
    refine VS j U q f l ((l+r) / 2) (by omega) (by omega) (by omega) M fun i a b=>?_;exact aE c (q _ _ a b)
   ·rw[show Wz rank _ _=false from decide_eq_false c]
    refine VS j U q f ((l+r) / 2+1) r (by omega) (by omega) J (fun i a=>?_) O;have:=q i ((l+r) / 2) (by omega) (by omega);unfold RK at this ⊢;omega
theorem Zh8:∀(f:Nat) (p:Array Nat) (k:Nat),Ut n p->k+f=n->Up rank p k->Runs n (Wz rank) (W.kas_bin f p k) fun r=>Ut n r/\Up rank r n
 |0,p,k,J,U,q=>⟨J,by rw[<-U];exact q⟩
 |f+1,p,k,J,U,q=>by
  have sz:=J.size;refine Runs.bind ((VS J (by omega) q k 0 k (by omega) (by omega) (Zq _) (fun i h=>by omega) (fun i a b=>by omega)).mono fun l ⟨a,b,c⟩=>?_);refine Zh8 f _ (k+1) (J.bub _ _) (by omega) fun i j O hj=>?_;have hb:=fun x=>ZfE (rank:=rank) (xs:=p) (src:=k) (d:=k-l) (by omega) (by omega) x;rw[hb i,hb j];have el:k-(k-l)=l:=by omega
  rw[el];have m6:=q;by_cases Y:i=l
  ·rw[if_pos Y]
   by_cases M:j=l
   ·rw[if_pos M];exact Zq _
   ·rw[if_neg M,if_pos ⟨by omega,by omega⟩]
    exact cR (c (j-1) (by omega) (by omega))
  ·rw[if_neg Y]
   by_cases i2:l<i/\i<=k
   ·rw[if_pos i2,if_neg (by omega),if_pos ⟨by omega,by omega⟩]
    exact q _ _ (by omega) (by omega)
   ·rw[if_neg i2]
    have il:i<l:=by omega
    by_cases M:j=l
    ·rw[if_pos M];exact b i il
    ·rw[if_neg M]
     by_cases j2:l<j/\j<=k
     ·rw[if_pos j2];exact q _ _ (by omega) (by omega)
     ·rw[if_neg j2];exact q _ _ O (by omega)
theorem ZdG (O:1<=n)(rank:Nat->Nat):∃p,Xe n (Wz rank) (f8 n)=some p/\p.toList.Perm (ae n)/\(p.toList.map rank).Pairwise (· ≤ ·):=by
 have:Runs n (Wz rank) (f8 n) fun p=>Ut n p/\Up rank p n:=by
  refine Runs.bind ((ZhV (rank:=rank) ⟨Array.Perm.refl _⟩ O).mono fun r ⟨a,b,c,d⟩=>?_);show Runs n (Wz rank) (if r.1<n then _ else _) _
  split
  ·have e:max r.1 1=r.1:=by omega
   rw[e];exact Zh8 _ _ _ c (by omega) d
  ·exact⟨c,by rw[show n=r.1 by omega];exact d⟩
 obtain⟨p,e,M,U⟩:=this.run;refine⟨p,e,?_,?_⟩
 ·have:=M.pm
  rw[jy] at this;simpa using this
 ·have sz:=M.size
  rw[jF];intro i j q J Y;rw[Za] at q J;have li:i<p.size:=by simpa using q
  have lj:j<p.size:=by simpa using J
  have:=U i j (by omega) (by omega);unfold RK at this;rw[mh,mh];have ei:p.getD i 0=p.toList[i]'q:=by simp[lB,li]
  have ej:p.getD j 0=p.toList[j]'J:=by simp[lB,lj]
  rw[ei,ej] at this;exact this
end
end PyZ
namespace PyZ
open PySem PyProof PyProof.Rows SeqAt
open AutoSeq1 (wpAny_loadPart')
theorem JV {vs:List Value}{ns:List Int}(h:a8 vs ns):∀{i:Nat}{v:Value},vs[i]?=some v->∃n t,ns[i]?=some n/\v=.int n t:=by
 induction h with
 |nil=>intro i v e;simp at e
 |cons n t _ j=>
  intro i v e
  match i,e with
  |0,e=>cases e;exact⟨_,_,rfl,rfl⟩
  |i+1,e=>exact j (i:=i) (by simpa using e)
theorem Ja {vs:List Value}{ns:List Int}(h:a8 vs ns):vs.length=ns.length:=by
 induction h with
 |nil=>rfl
 |cons _ _ _ j=>rw[Zi,Zi,j]
theorem UZ {fin:Bool}{xs ys:List Int}{i:Nat}{x y:Int}(j:xs[i]?=some x)(q:ys[i]?=some y):Uz fin (xs.drop i) (ys.drop i)=if x=y then Uz fin (xs.drop (i+1)) (ys.drop (i+1)) else decide (x<y):=by
 have J:=(ac.mp j);have M:=(ac.mp q);obtain⟨O,U⟩:=J;obtain⟨Y,e2⟩:=M;rw[bU O,bU Y,U,e2];rfl
theorem V2 {fin:Bool}{xs ys:List Int}{i:Nat}(h:xs[i]?=none\/ys[i]?=none):Uz fin (xs.drop i) (ys.drop i)=fin:=by
 rcases h with h|h
 ·rw[e7 (f7.mp h)]
  rfl
 ·rw[e7 (as:=ys) (f7.mp h)]
  cases xs.drop i with
  |nil=>rfl
  |cons _ _=>rfl
theorem Zjt (l b:Addr)(items j:Array Value)(n n2:Nat)(dd m5:Option Addr)(sl m6:Array (Option Value)){xs ys:List Int}(hx:a8 items.toList xs)(hy:a8 j.toList ys)(k:Nat) :
  ∀i:Nat,items.size-i=k->Meets (cC.«list.__eq__.loop» ⟨[.ref l,.ref b,rawInt i,rawInt 0],[]⟩)
   (fun A R s=>s.heap.get? l=some {cls:=.type "list",dict:=dd,data:=.seq items n,slots:=sl}/\s.heap.get? b=some {cls:=.type "list",dict:=m5,data:=.seq j n2,slots:=m6}/\
    R (.ok (.ret (.bool (Uz (decide (xs.length<ys.length)) (xs.drop i) (ys.drop i))))) s):=by
 have sx:items.size=xs.length:=by rw[<-Ja hx,Zr]
 have sy:j.size=ys.length:=by rw[<-Ja hy,Zr]
 induction k with
 |zero=>
  intro i hk q w A R s h;obtain⟨hp,g,d,tk,os⟩:=s;obtain⟨U,hb,h⟩:=h
  wp_walk using wpAny_loadPart' U,wpAny_loadPart' hb
  have J:items[((i:Nat):Int).toNat]?=none:=by simp;omega
  rw[V2 (.inl (ak (by omega)))] at h;rw[J]
  wp_walk using wpAny_loadPart' U,wpAny_loadPart' hb
  show R (.ok (.ret (.bool (decide (items.size<j.size))))) _;rw[sx,sy];exact h
 |succ k ih=>
  intro i hk q w A R s h;obtain⟨hp,g,d,tk,os⟩:=s;obtain⟨U,hb,h⟩:=h
  wp_walk using wpAny_loadPart' U,wpAny_loadPart' hb
  have Y:i<items.size:=by omega
  have J:items[((i:Nat):Int).toNat]?=some items[i]:=by simp[Y]
  have hc:((i:Int)+1)=((i+1:Nat):Int):=by push_cast;rfl
  by_cases O:i<j.size
  ·have M:j[((i:Nat):Int).toNat]?=some j[i]:=by simp[O]
   obtain⟨x,tx,ex,vx⟩:=JV hx (i:=i) (v:=items[i]) (by simp[Y]);obtain⟨y,ty,ey,vy⟩:=JV hy (i:=i) (v:=j[i]) (by simp[O]);rw[UZ ex ey] at h;rw[J,M,vx,vy];refine Zl (fG _ _ _ _ q w _ _ ?_);by_cases e:x=y
   ·rw[if_pos e] at h
    rw[show (x == y)=true from beq_iff_eq.mpr e]
    wp_walk
    rw[hc];exact⟨cY eC _,bX jd (by
     rw[bD eC _];exact ih (i+1) (by omega) q w A R _ ⟨U,hb,h⟩)⟩
   ·rw[if_neg e] at h
    rw[show (x == y)=false from beq_eq_false_iff_ne.mpr e]
    wp_walk using wpAny_loadPart' U,wpAny_loadPart' hb
    rw[J,M,vx,vy];refine Zl (lt_int ?_);exact Zm h
  ·have M:j[((i:Nat):Int).toNat]?=none:=by simp;omega
   rw[V2 (.inr (ak (by omega)))] at h;rw[J,M]
   wp_walk using wpAny_loadPart' U,wpAny_loadPart' hb
   show R (.ok (.ret (.bool (decide (items.size<j.size))))) _;rw[sx,sy];exact h
theorem Zjx (l b:Addr)(q j:Array Value)(n U:Nat)(Y J:Option Addr)(sl M:Array (Option Value)){xs ys:List Int}(hx:a8 q.toList xs)(hy:a8 j.toList ys) :
  Meets (cC.«list.__lt__» ⟨[.ref l,.ref b],[]⟩)
   (fun A R s=>s.heap.get? l=some {cls:=.type "list",dict:=Y,data:=.seq q n,slots:=sl}/\s.heap.get? b=some {cls:=.type "list",dict:=J,data:=.seq j U,slots:=M}/\
    R (.ok (.ret (.bool (Jt xs ys)))) s):=by
 intro O w A R s h;obtain⟨hp,g,d,tk,os⟩:=s;obtain⟨hl,hb,h⟩:=h;have f3:=AutoSeq1.sub_list_list
 wp_walk using wpAny_loadPart' hl,wpAny_loadPart' hb
 exact⟨cY eC _,bX jd (by
  rw[bD eC _];exact Zjt l b q j n U Y J sl M hx hy _ 0 rfl O w A R _ ⟨hl,hb,by simpa [Jt] using h⟩)⟩
section
variable {prog:Program}{w:World}{A:Around}{E:Value->Shared->Prop}{s:Shared}
theorem ZcT {l b:Addr}{us vs:List Value}{xs ys:List Int}{Q:Bool->Shared->Prop}(hu:A.units<cLine)(hl:s.heap.IsList l us.toArray)(hb:s.heap.IsList b vs.toArray)(hx:a8 us xs)(hy:a8 vs ys)(h:Q (Jt xs ys) s) :
  wpAny (model prog w) A (keyLt' oneType' (.ref l) (.ref b)) Q E s:=by
 obtain⟨ol,U,c1,n1,d1⟩:=hl;obtain⟨ob,e2,c2,n2,d2⟩:=hb;obtain⟨m6,M,Y,q⟩:=ol;obtain⟨m5,J,O,j⟩:=ob;simp only at c1 d1 c2 d2;subst c1 d1 c2 d2;rw[keyLt'_oneType,oneLt'_eq];simp only[if_true];refine Zl (wpAny_cRoomFor hu ?_);refine Zl (wpAny_callSpecialIfBound?_slot ⟨_,U,rfl⟩ jS ?_);refine fJ jS ⟨_,U,rfl⟩ PySem.F.entry_list_lt (PySem.F.args_list_lt_2 _ _) (Zjx l b us.toArray vs.toArray n1 n2 M J q j (by simpa using hx) (by simpa using hy)) ⟨U,e2,?_⟩;exact fm h
end
end PyZ
namespace PyZ
open PySem PyProof PyProof.Rows
theorem ZaF (ys:List Int):Jt [] ys=decide (0<ys.length):=rfl
theorem ZbX (xs:List Int):Jt xs []=false:=by
 cases xs with
 |nil=>rfl
 |cons x xs=>
  show decide ((x::xs).length<([]:List Int).length)=false;exact decide_eq_false (by simp)
theorem V0 (x y:Int)(xs ys:List Int):Jt (x::xs) (y::ys)=if x=y then Jt xs ys else decide (x<y):=by
 unfold Jt;show (if x=y then Uz _ xs ys else _)=_
 have e:decide ((x::xs).length<(y::ys).length)=decide (xs.length<ys.length):=by
  simp only[Zi,jX]
 rw[e]
theorem ZaG:∀xs:List Int,Jt xs xs=false
 | []=>rfl
 |x::xs=>by rw[V0,if_pos rfl];exact ZaG xs
theorem VA:∀{xs ys:List Int},Jt xs ys=false->Jt ys xs=false->xs=ys
 | [],[],_,_=>rfl
 | [],_::_,h,_=>by rw[ZaF] at h;simp at h
 |_::_,[],_,h=>by rw[ZaF] at h;simp at h
 |x::xs,y::ys,j,q=>by
  rw[V0] at j q;by_cases e:x=y
  ·rw[if_pos e] at j
   rw[if_pos e.symm] at q;rw[e,VA j q]
  ·rw[if_neg e] at j
   rw[if_neg (bh e)] at q;have a:=of_decide_eq_false j;have b:=of_decide_eq_false q;omega
theorem X1:∀{xs ys q:List Int},Jt xs ys=true->Jt ys q=true->Jt xs q=true
 |xs,ys,[],_,h=>by rw[ZbX] at h;cases h
 |xs,[],z::q,h,_=>by rw[ZbX] at h;cases h
 | [],y::ys,z::q,_,_=>by rw[ZaF];exact decide_eq_true (by simp)
 |x::xs,y::ys,z::q,J,j=>by
  rw[V0] at J j ⊢;by_cases O:x=y
  ·rw[if_pos O] at J
   by_cases M:y=z
   ·rw[if_pos M] at j
    rw[if_pos (O.trans M)];exact X1 J j
   ·rw[if_neg M] at j
    have:=of_decide_eq_true j;rw[if_neg (by omega)];exact decide_eq_true (by omega)
  ·rw[if_neg O] at J
   have a:=of_decide_eq_true J;by_cases M:y=z
   ·rw[if_neg (by omega)]
    exact decide_eq_true (by omega)
   ·rw[if_neg M] at j
    have:=of_decide_eq_true j;rw[if_neg (by omega)];exact decide_eq_true (by omega)
theorem Xd {n:Nat}{cmp q:Nat->Nat->Bool}(h:∀i j,i<n->j<n->cmp i j=q i j){α:Type}:∀t:jr α,Xe n cmp t=Xe n q t
 | .ret a=>rfl
 | .ask i j k=>by
  rw[Xe,Xe];by_cases J:i<n/\j<n
  ·rw[if_pos J,if_pos J,h i j J.1 J.2]
   exact Xd h _
  ·rw[if_neg J,if_neg J]
theorem X4 {α:Type}{p q:α->Bool}:∀{l:List α},(∀x∈l,p x=true->q x=true)->(∃x∈l,p x=false/\q x=true)->l.countP p<l.countP q
 | [],_,⟨x,j,_⟩=>by cases j
 |y::l,h,⟨x,j,J,M⟩=>by
  have le:∀{l:List α},(∀x∈l,p x=true->q x=true)->l.countP p<=l.countP q:=fun {l} h=>List.countP_mono_left h;rw[mo,mo];have O:∀x∈l,p x=true->q x=true:=fun z U=>h z (ao _ U);rcases aG.mp j with e|j
  ·rw[<-e,J,M]
   have:=le O;simp only[di,if_false,if_true];omega
  ·have:=X4 O ⟨x,j,J,M⟩
   have Y:=h y aq;cases e1:p y with
   |true=>rw[Y e1];omega
   |false=>
    simp only[di,if_false];split <;> omega
noncomputable def rkB (yss:List (List Int))(i:Nat):Nat:=(ae yss.length).countP fun k=>Jt (yss.getD k []) (yss.getD i [])
theorem ZgA {yss:List (List Int)}{i j:Nat}(q:i<yss.length)(O:j<yss.length):Jt (yss.getD i []) (yss.getD j [])=decide (rkB yss i<rkB yss j):=by
 have J:∀{i j:Nat},i<yss.length->Jt (yss.getD i []) (yss.getD j [])=true->rkB yss i<rkB yss j:=fun {i j} q h=>by
  refine X4 (fun k _ U=>X1 U h) ⟨i,af.mpr q,ZaG _,h⟩
 cases e:Jt (yss.getD i []) (yss.getD j []) with
 |true=>rw[decide_eq_true (J q e)]
 |false=>
  cases M:Jt (yss.getD j []) (yss.getD i []) with
  |true=>
   have:=J O M;rw[decide_eq_false (by omega)]
  |false=>
   have:=VA e M;unfold rkB;rw[this];exact (decide_eq_false (by omega)).symm
theorem ZeP {yss:List (List Int)}(M:1<=yss.length):∃p,Xe yss.length (fun i j=>Jt (yss.getD i []) (yss.getD j [])) (f8 yss.length)=some p/\p.toList.Perm (ae yss.length)/\(p.toList.map fun i=>yss.getD i []).Pairwise fun a b=>Jt b a=false:=by
 obtain⟨p,e,q,J⟩:=ZdG M (rkB yss);refine⟨p,(Xd (fun i j O U=>ZgA O U) _).trans e,q,?_⟩;rw[gf] at J ⊢;refine dJ (fun {a b} Y hb m5=>?_) J;have la:=af.mp (q.mem_iff.mp Y);have lb:=af.mp (q.mem_iff.mp hb);rw[ZgA lb la];exact decide_eq_false (by omega)
section
variable {prog:Program}{w:World}{A:Around}{E:Value->Shared->Prop}{s:Shared}
theorem Zit (vs:List Value)(h:vs.length<2):(vs.toArray.zip vs.toArray).map (·.2)=vs.toArray:=by
 cases vs with
 |nil=>simp
 |cons v r=>
  cases r with
  |nil=>simp
  |cons a b=>exact absurd h (by rw[Zi,Zi];omega)
theorem ZcH {a:Addr}{vs:List Value}{n:Nat}{P:Fin->Shared->Prop}(M:s.heap.get? a=some (seqObj "list" vs.toArray n))(h2:vs.length<2)
  (h:P (.done (.ret .none)) {s with heap:=sortedHeap s.heap a vs vs.toArray}):wpAny (model prog w) A (cC.«list.sort» ⟨[.ref a],[]⟩) P E s:=by
 rw[list_sort_plain];have U:a<s.heap.objs.size:=Zp M;refine Zl (listItems_at M rfl ?_);refine Zl (listUpdate_at M rfl ?_);obtain⟨O,j⟩:∃O,(s.heap.update a (cL fun _=>#[])).get? a=some (seqObj "list" #[] O):=⟨_,jV M (fun _=>#[])⟩;refine Zl (seqEpoch_at j rfl ?_);refine Zl (kc ?_);refine Zl (kS ?_);refine cM ?_;have q:(((s.heap.update a (cL fun _=>#[])).push (seqObj "tuple" vs.toArray 0)).push (seqObj "list" #[] 0)).get? a=some (seqObj "list" #[] O):=by
  rw[lQ _ _ _ (by rw[size_push',iY];exact aC (fe U)),lQ _ _ _ (by rw[iY];exact aC U)];exact j
 show wpAny (model prog w) A _ P E {s with heap:=((s.heap.update a (cL fun _=>#[])).push (seqObj "tuple" vs.toArray 0)).push (seqObj "list" #[] 0)};dsimp only;have m5:vs.toArray.size=vs.length:=by simp
 have J:vs.toArray.size<2:=by omega
 rw[if_pos J,if_pos J];refine Zl (Zm ?_);rw[StateT.run_pure];refine Zl (Zm ?_);dsimp only;have eo:(arrOf (SortSt.mk' general' (vs.toArray.zip vs.toArray) #[] 7 none)).map (·.2)=vs.toArray:=by
  exact Zit _ h2
 refine Zl (seqEpoch_at q rfl ?_);refine Zl (listUpdate_at q rfl ?_ (hsz2:=by rw[Array.size_map];show (pairsOf vs).size<=_;rw[pairsOf_size,fS];omega));simp only[bne_self_eq_false,di,if_false];refine Zm ?_;rw[eo];exact h
theorem Xw {l:Addr}{vs:List Value}{Q:Value->Shared->Prop}(J:s.heap.IsList l vs.toArray)(M:vs.length<2)
  (h:Q (.ref (s.heap.objs.size+1)) {s with heap:=sortedAll s.heap vs vs.toArray}):wpAny (model prog w) A (call (.builtin "sorted") [.ref l]) Q E s:=by
 refine kK kind_sorted plain_sorted entry_sorted (args_sorted1 _) ?_;unfold cC.«sorted»;refine Zl (m:=checkCount "sorted" 1 1 _) (Zm ?_);refine Zl (collect_list J ?_ (by rw[fS];omega));refine Zl (kS ?_ (by rw[fS];omega));have j:((s.heap.push (seqObj "list" #[] 0)).update s.heap.objs.size (cL (· ++ vs.toArray))).objs.size=s.heap.objs.size+1:=by
  rw[iY,size_push']
 have q:(((s.heap.push (seqObj "list" #[] 0)).update s.heap.objs.size (cL (· ++ vs.toArray))).push (seqObj "list" vs.toArray 0)).get? (s.heap.objs.size+1)=some (seqObj "list" vs.toArray 0):=by
  rw[<-j];exact Zo _ rfl
 show wpAny _ _ _ _ _ {s with heap:=((s.heap.push (seqObj "list" #[] 0)).update s.heap.objs.size (cL (· ++ vs.toArray))).push (seqObj "list" vs.toArray 0)};rw[j];refine Zl (cM (bv slot_list_sort ⟨_,q,rfl⟩ entry_list_sort (ZcH q M ⟨_,rfl,?_⟩) (args_list_sort _)));exact Zm ⟨_,rfl,h⟩
end
end PyZ
namespace Pm
section
variable {gs:List (List Nat)}{n:Nat}
noncomputable def Srt (yss:List (List Nat)):Prop:=(yss.map nI).Pairwise (fun x y=>PyZ.Jt y x=false)
theorem Srt.eq {a b:List (List Nat)}(j:Srt a)(hb:Srt b)(p:bG a b):a=b:=by
 have:a.map nI=b.map nI:=jc (le:=fun x y:List Int=>PyZ.Jt y x=false) (fun x y _ _ q J=>PyZ.VA J q) j hb (p.map nI);exact (iC (fun x y e=>Zhh.mp e)).mp this
end
end Pm
namespace PyZ
open PySem PyProof PyProof.Rows
section
variable {prog:Program}{w:World}{A:Around}{E:Value->Shared->Prop}{s:Shared}
theorem Zak {l L:Addr}{m:Str->Option Value}{as:List Addr}{yss:List (List Int)}{p:Array Nat}{Q:Value->Shared->Prop}(hu:A.units+2<cLine)(m6:s.heap.Ns L m)(hl:s.heap.IsList l (as.map aB).toArray)(n2:2<=as.length)(m8:as.length<64)(hy:as.length=yss.length)
  (ht:∀(i:Nat) a,as[i]?=some a->a≠L/\∃(us:List Value) (ys:List Int),yss[i]?=some ys/\s.heap.IsList a us.toArray/\a8 us ys)
  (hp:Xe as.length (fun i j=>Jt (yss.getD i []) (yss.getD j [])) (f8 as.length)=some p)
  (q:∀D c h',s.heap.get? D=none->D≠L->(∀b o,b≠L->s.heap.get? b=some o->h'.get? b=some o)->h'.Ns L m->h'.get? D=some (lL (p.toList.map fun i=>(as.map aB).getD i a9).toArray c)->Q (.ref D) {s with heap:=h'}) :
  wpAny (model prog w) A (call (.builtin "sorted") [.ref l]) Q E s:=by
 have fr:Fr (UB s.heap L) L s.heap m:=by
  refine⟨m6,fun b o e=>?_,?_⟩
  ·by_cases hb:b<L
   ·rw[YA hb] at e;exact e
   ·rw[WC (ft hb)] at e
    cases e
  ·show (s.heap.objs.extract 0 L).size<=L
   rw[fW,dw];exact fM ..
 have nw:News (UB s.heap L) L s.heap (Ya s.heap L):=fun x hx=>by
  obtain⟨J,h2⟩:=Z9.mp hx;exact⟨h2,bb J,WC (cR J)⟩
 have lv:(as.map aB).length=as.length:=fI ..;refine lh fr nw hl (by rw[lv];exact n2) (by rw[lv];exact m8) fun D e1 h' m5 M big=>?_;have kept:∀b o,b≠L->s.heap.get? b=some o->h'.get? b=some o:=fun b o hb e=>by
  rcases cq b L with J|J
  ·exact m5.keep b o (by rw[YA J];exact e)
  ·exact (M (b,o) (ao _ (Z9.mpr ⟨bx J (bh hb),e⟩))).1
 have dn:s.heap.get? D=none:=by
  cases e:s.heap.get? D with
  |none=>rfl
  |some o=>
   obtain⟨_,dL,dc⟩:=M _ (aq ..);rcases cq D L with J|J
   ·rw[YA J] at dc
    rw[dc] at e;cases e
   ·exact absurd (big (D,o) (Z9.mpr ⟨bx J (bh dL),e⟩)) (bR _)
 have dL:D≠L:=(M _ (aq ..)).2.1;have Y:∀(i:Nat) a,as[i]?=some a->∃(us:List Value) (ys:List Int),yss[i]?=some ys/\h'.IsList a us.toArray/\a8 us ys:=fun i a hi=>by
  obtain⟨aL,us,ys,e,⟨o,g1,g2⟩,ia⟩:=ht i a hi;exact⟨us,ys,e,⟨o,kept a o aL g1,g2⟩,ia⟩
 refine W.kas_kind (T:=cn "list") (by rw[lv];exact n2) (fun v hv=>?_) (by decide +kernel) (by decide +kernel) ?_
 ·obtain⟨a,ha,rfl⟩:=aI.mp hv
  obtain⟨i,hi⟩:=bE ha;obtain⟨us,ys,_,⟨o,g1,g2,_⟩,_⟩:=Y i a hi;intro A Q E s' hk q;refine ic (T:="list") ⟨o,hk _ _ g1,g2⟩ q
 ·rw[lv]
  refine JU (cmp:=fun i j=>Jt (yss.getD i []) (yss.getD j [])) (fun i j C hi hj c=>?_) _ p _ hp ?_
  ·unfold W.kas_ask
   obtain⟨us,ys,e,i1,ia⟩:=Y i as[i] (Zf hi);obtain⟨o0,n6,e2,i2,n8⟩:=Y j as[j] (Zf hj);have v1:(as.map aB).getD i a9=.ref as[i]:=by
    rw[Zb,Zc,Zf hi];rfl
   have v2:(as.map aB).getD j a9=.ref as[j]:=by
    rw[Zb,Zc,Zf hj];rfl
   have w1:yss.getD i []=ys:=by rw[Zb,e];rfl
   have w2:yss.getD j []=n6:=by rw[Zb,e2];rfl
   rw[v1,v2];rw[w1,w2] at c;exact ZcT (by show A.units+1+1<cLine;omega) i1 i2 ia n8 c
  ·refine⟨_,_,m5,M,jY (fun x hx=>aC (big x hx)),fun n9 c O U=>?_⟩
   refine q D c n9 dn dL (fun b o hb e=>?_) O.ns (U _ (aq ..)).1;rcases cq b L with J|J
   ·exact O.keep b o (by rw[YA J];exact e)
   ·exact (U (b,o) (ao _ (Z9.mpr ⟨bx J (bh hb),e⟩))).1
end
end PyZ
namespace L2
open PySem PySem.Spec PyProof.Rows
section
variable {X:Cx}{pins:List (Addr×Obj)}{σ:St}{H:Hp}{s:Shared}
theorem Zd9:∀{as:List Addr},as.length<2->((ae as.length).map fun i=>as.getD i 0)=as
 | [],_=>rfl
 | [_],_=>rfl
theorem ZgT {β:Type}:∀{n:Nat},n<2->∀(f:Nat->β) (R:β->β->Prop),((ae n).map f).Pairwise R
 |0,_,_,_=>eA
 |1,_,_,_=>gE _ _
noncomputable def ZoF (j:Bool)(ys:List Int):HO:=if j then .tup (ys.map V.int) else .lst (ys.map V.int)
noncomputable def ZgI (O:Bool):List V->Hp->VK->Prop:=fun xs H Q=>∃(l:Addr) (q:List Addr) (j:List (List Int)),xs=[.ref l]/\H l=some (.lst (q.map V.ref))/\q.length=j.length/\q.length<64/\
 (∀(i:Nat) a,q[i]?=some a->∃J,j[i]?=some J/\J≠[]/\H a=some (ZoF O J))/\
 ∀D M,H D=none->bG M (ae q.length)->(M.map fun i=>j.getD i []).Pairwise (fun a b=>PyZ.Jt b a=false)->Q (.ref D) (upd H D (.lst ((M.map fun i=>q.getD i 0).map V.ref)))
theorem Zda (tp:Bool)(hu:X.A.units+64<cLine):Yu X (.builtin "sorted") (ZgI tp):=by
 intro pins s σ H xs us Q I r h;obtain⟨l,j,J,rfl,hl,hy,m6,ht,q⟩:=h;obtain⟨u,rfl,ru⟩:=r.one;cases ru;obtain⟨m,hm,n8⟩:=id I.loc;obtain⟨z,o8,n,rv,hlen,e⟩:=I.lstM hl;have ei:=WB rv;subst ei;have Y:s.heap.IsList l (j.map aB).toArray:=(I.list (.of hl)).elim fun o7 hh=>by
  obtain⟨M,pl,_⟩:=hh;have:=WB M;rw[this] at pl;exact pl.isList
 have o9:(16777216:Nat)=sizeLine:=by decide
 have m8:∀{a:Addr}{o:HO},H a=some o->a≠X.env.locals:=fun {a o} e z=>by rw[z,I.free] at e;cases e
 by_cases n2:j.length<2
 ·refine PyZ.Xw Y (by rw[Za];exact n2) ?_
  obtain⟨e1,he⟩:=sortedAll_at s.heap (j.map aB) (j.map aB).toArray;have n6:∀b o,s.heap.get? b=some o->(sortedAll s.heap (j.map aB) (j.map aB).toArray).get? b=some o:=fun b o e=>sortedAll_old e;generalize sortedAll s.heap (j.map aB) (j.map aB).toArray=h' at he n6 ⊢;have m5:s.heap.objs.size<=s.heap.objs.size+1:=gu _;generalize s.heap.objs.size+1=D at he m5 ⊢;have em:=Zd9 n2;have n9:=ZgT n2 (fun i=>J.getD i []) fun a b=>PyZ.Jt b a=false;have fin:=q D (ae j.length) (I.hok.fresh m5) (cS _) n9;rw[em] at fin;have I':Inv X pins σ (upd H D (.lst (j.map V.ref))) {s with heap:=h',toks:=s.toks}:=I.laid (a:=D) (o:=.lst (j.map V.ref)) (t':=s.toks) n6 m5 ⟨by rw[Za];omega,j.map aB,e1,W5 j,he⟩;exact⟨.ref D,_,I',rfl,fin⟩
 ·obtain⟨p,hp,O,o0⟩:=PyZ.ZeP (yss:=J) (by omega)
  rw[<-hy] at hp O;have o5:∀i∈p.toList,i<j.length:=fun i hi=>af.mp (O.mem_iff.mp hi);have pl:p.toList.length=j.length:=by rw[O.length_eq,Zg]
  have es:(p.toList.map fun i=>(j.map aB).getD i a9)=(p.toList.map fun i=>j.getD i 0).map aB:=by
   rw[aJ];refine aX fun i hi=>?_;have:=o5 i hi;show (j.map aB).getD i a9=aB (j.getD i 0);rw[Zb,Zc,Zf this,Zb,Zf this];rfl
  have fin:∀D c h',s.heap.get? D=none->D≠X.env.locals->(∀b o,b≠X.env.locals->s.heap.get? b=some o->h'.get? b=some o)->h'.Ns X.env.locals m->h'.get? D=some (lL (p.toList.map fun i=>(j.map aB).getD i a9).toArray c)->
    ∃v H',Inv X pins σ H' {s with heap:=h'}/\RelV v (.ref D)/\Q v H':=fun D c h' dn dL kept o6 hD=>by
   rw[es] at hD;obtain⟨I',hH⟩:=I.newL (ys:=(p.toList.map fun i=>j.getD i 0).map V.ref) hm n8 dn dL kept o6 (by rw[Za,Za];omega) (W5 _) hD;exact⟨.ref D,_,I',rfl,q D _ hH O o0⟩
  cases tp with
  |true=>
   refine PyZ.Zbo (yss:=J) (p:=p) hm Y (by omega) m6 hy (fun i a hi=>?_) hp fin;obtain⟨ys,e1,ne,U⟩:=ht i a hi;have U:H a=some (.tup (ys.map V.int)):=U;obtain⟨us,M,pt,_⟩:=I.tuple (.of U);exact⟨m8 U,us,ys,e1,pt,Je M,ne⟩
  |false=>
   refine PyZ.Zak (yss:=J) (p:=p) (by omega) hm Y (by omega) m6 hy (fun i a hi=>?_) hp fin;obtain⟨ys,e1,ne,U⟩:=ht i a hi;have U:H a=some (.lst (ys.map V.int)):=U;obtain⟨us,M,pt,_⟩:=I.list (.of U);exact⟨m8 U,us,ys,e1,pt.isList,Je M⟩
end
end L2
namespace Pm
open PySem L2 PySem.Spec PyProof.Rows
open Tb
noncomputable def XQ (fd:List (List Nat))(o:List Nat):List (List Nat):=if fd.contains o then fd else fd++[o]
noncomputable def YS (j:List Nat)(q:List (List Nat))(fd:List (List Nat)):List (List Nat):=q.foldl (fun fd p=>XQ fd (J1 j p)) fd
noncomputable def bfs (j:List (List Nat)):Nat->Nat->List (List Nat)->List (List Nat)
 |0,_,fd=>fd
 |f+1,at',fd=>if at'<fd.length then bfs j f (at'+1) (YS (fd.getD at' []) j fd) else fd
theorem Zco (fd:List (List Nat))(o:List Nat):fd.length<=(XQ fd o).length:=by
 unfold XQ;split
 ·exact Zq _
 ·rw[Zd];omega
theorem JQ (j:List Nat):∀(q fd:List (List Nat)),fd.length<=(YS j q fd).length
 | [],fd=>Zq _
 |p::q,fd=>aZ (Zco fd (J1 j p)) (JQ j q (XQ fd (J1 j p)))
theorem ZeD (j:List (List Nat)):∀(f at':Nat) (fd:List (List Nat)),fd.length<=(bfs j f at' fd).length
 |0,_,fd=>Zq _
 |f+1,at',fd=>by
  unfold bfs;split
  ·exact aZ (JQ _ j fd) (ZeD j f (at'+1) _)
  ·exact Zq _
theorem ZfD {k:Nat}{fd:List (List Nat)}{o:List Nat}(h:∀y∈fd,Gk k y)(j:Gk k o):∀y∈XQ fd o,Gk k y:=by
 unfold XQ;split
 ·exact h
 ·intro y q
  rcases bJ.mp q with z|z
  ·exact h y z
  ·rw[aS.mp z];exact j
theorem Zj3 {fd:List (List Nat)}{o:List Nat}{j:Nat}(h:j<fd.length):(XQ fd o).getD j []=fd.getD j []:=by
 unfold XQ;split
 ·rfl
 ·rw[Zb,au h,<-Zb]
theorem Zbg (q:List Nat){j:Nat}:∀(J fd:List (List Nat)),j<fd.length->(YS q J fd).getD j []=fd.getD j []
 | [],fd,_=>rfl
 |p::J,fd,h=>by
  show (YS q J (XQ fd (J1 q p))).getD j []=_;rw[Zbg q J _ (aE h (Zco fd _)),Zj3 h]
theorem ZcA (j:List Nat){q fd:List (List Nat)}{i:Nat}{g:List Nat}(h:q[i]?=some g):YS j (q.take (i+1)) fd=XQ (YS j (q.take i) fd) (J1 j g):=by
 unfold YS;rw[cP,h,lW];rfl
theorem ZcB (j:List Nat)(q fd:List (List Nat))(i:Nat):(YS j (q.take i) fd).length<=(YS j q fd).length:=by
 have:YS j q fd=YS j (q.drop i) (YS j (q.take i) fd):=by
  unfold YS;rw[<-lW,List.take_append_drop]
 rw[this];exact JQ _ _ _
end Pm
namespace C52
open PySem L2 PySem.Spec PyProof.Rows
open Tb Pm
noncomputable abbrev ZmO:Stmt:=top 37
noncomputable abbrev ZcM:Stmt:=top 38
structure ByC (k:Nat)(ps fd:List (List Nat)):Prop where
 k1:1<=k
 k9:k<=9
 p1:1<=ps.length
 p9:ps.length<=9
 pl:∀g∈ps,Gk k g
 fin:bfs ps 61 0 [ae k]=fd
 n60:fd.length<=60
noncomputable def Zkj:Sp:=fun U H Q _=>∃(J:Addr) (j:List Addr) (M:List (List Nat)) (k:Nat) (O:List (List Nat)),U=[.ref J]/\TupsAt H J j M/\ByC k M O/\∀L bs q,Zv H q->TupsAt q L bs O->Q (.ref L) q
section
variable {P:Program}{w:World}{K:aa}{mg:Str->Option Value}{base:Heap}
theorem Zlw {f:Addr}{fd:FuncData}(F:WN K "_law_by_perms" "_law_by_perms" ZmO f fd)(T:BlB mg):Yb P w K mg base Yi 1 f fd ["_law_perms"] Zkj:=by
 refine F.ok (FS (N:=["_law_perms", "_law_found", "_law_at", "_law_here", "_law_perm", "_law_other"])) (fun vs H Q E h=>?_) (fun t7 A r6 s H vs Q E hr h=>?_)
 ·obtain⟨pl,o8,O,k,m5,rfl,_⟩:=h;rfl
 ·obtain⟨pl,o8,O,k,m5,rfl,R0,B,q⟩:=h
  refine⟨_,Zs (ZD 1 rfl (ZW (pc (ct (Ul rfl) T.tuple (pc (ct Vo T.range (pc (cb (YF K) T.len (pc (ZG (X2 K) (vn 0) Zx (fun _ _=>rfl)) Zu)) Zu)) Zu)) Zu)))
   (Zs (ZD 2 rfl Zx)
   (Zs (Yg av (ZS Zd7 (vn 2) (cb (YF K) T.len (pc (vn 1) Zu)) (Z6 _))
   (Zs (ZD 3 rfl (ZG (X2 K) (vn 1) (vn 2) (fun _ _=>rfl)))
   (Zs (ZD 2 rfl (Zz YK (vn 2) Zx))
   (Zw (ZT av rfl (itL K (vn 0)) (gn 4)
   (Zs (ZD 5 rfl (ct ZJ T.tuple (pc (cmp ["_law_spot"] [3] ["_law_spot", "_law_here"] rfl (itT K (vn 4)) (fun _ _ _ _ _=>gn 0) (fun _ _ _ _ _=>ZQ) (fun _ _ _ _ _=>ZG (XI K) (vn 1) (vn 0) (fun _ _=>rfl))) Zu)))
   (Zw (Jo (ZS (Znq K hr.units) (vn 5) (vn 1) (by rfl)) (Zw (Yq (Wj aO aT aV Z2 (vn 1) (pc (vn 5) Zu)))) YX))))))))
   (Zw (ZF (vn 1))))),?_⟩
  have sz:(16777216:Nat)=sizeLine:=by decide
  have k1:=B.k1;have k9:=B.k9;have p1:=B.p1;have p9:=B.p9;have t9:=B.n60;have o9:∀g∈O,Gk k g:=B.pl;obtain⟨b0,_,p3,m6⟩:=R0.get (i:=0) (by omega);have e0:((O.getD 0 []).map nV).length=k:=by rw[Za];exact (o9 _ (ZaC (by omega))).1
  refine⟨_,rfl,pl,_,_,_,rfl,rfl,.of R0.1,p3,b0,_,rfl,.inr (.of m6),_,rfl,fun r0 r8=>⟨r0,0,_,rfl,Zt,⟨by omega,by omega,by rw[e0];omega,by rw[e0];omega⟩,by rw[e0];omega,fun l hl=>?_⟩⟩;rw[e0] at hl ⊢;have ek:((k:Int)-0).toNat=k:=by omega
  rw[ek] at *;refine⟨(by show 1<=sizeLine;decide),fun Y n9=>?_⟩;have s1:Zv H (upd H r0 (.rng 0 (k:Int))):=Zv.upd r8;have s2:=s1.trans (Zv.upd (o:=.tup ((Y1 0 k).map V.int)) hl);have s3:=s2.trans (Zv.upd (o:=.lst [.ref l]) n9);have nF:H Y=none:=s2.free n9;have el:(Y1 0 k).map V.int=(ae k).map nV:=by
   unfold Y1;rw[aJ];refine aX fun i _=>?_;show V.int (0+(i:Int))=nV i;rw[dA];rfl
  have R1:TupsAt (upd (upd (upd H r0 (.rng 0 (k:Int))) l (.tup ((Y1 0 k).map V.int))) Y (.lst [.ref l])) Y [l] [ae k]:=by
   refine⟨Zt,rfl,fun i b hb=>?_⟩;cases i with
   |zero=>
    cases hb;rw[Zy (fun z=>by rw[<-z,Zt] at n9;cases n9),Zt,el];rfl
   |succ i=>cases hb
  have g0:∀y∈[ae k],Gk k y:=fun y hy=>by
   rw[aS.mp hy];exact⟨Zg,fun x hx=>af.mp hx⟩
  refine Yc (fun m n6 H'=>∃(at':Nat) (bs:List Addr) (M:List (List Nat)) (v3 v4 v5:Option V),n6=[some (.ref pl),some (.ref Y),some (.int at'),v3,v4,v5]/\Zv H H'/\TupsAt H' Y bs M/\(∀y∈M,Gk k y)/\m+at'=61/\bfs O m at' M=m5)
   (fun n6 H'=>∃(at':Nat) (bs:List Addr) (v3 v4 v5:Option V),n6=[some (.ref pl),some (.ref Y),some (.int at'),v3,v4,v5]/\Zv H H'/\TupsAt H' Y bs m5/\(∀y∈m5,Gk k y)) ?hend ⟨61,0,_,_,_,_,_,rfl,s3,R1,g0,rfl,B.fin⟩ ?turn
  case turn=>
   rintro o5 m n6 H' ⟨at',bs,M,v3,v4,v5,rfl,sm,R,gd,hm,hb⟩;have bl:(bs.map V.ref).length=M.length:=by rw[Za,R.2.1]
   refine⟨_,rfl,_,rfl,Y,_,rfl,.inl (.of R.1),_,_,rfl,rfl,_,rfl,?_⟩;rw[bl];refine Y8 (fun h1=>?_) (fun h1=>?_)
   ·have U:at'<M.length:=by
     have:=of_decide_eq_true h1;omega
    cases m with
    |zero=>
     have hb:M=m5:=hb;rw[hb] at U;omega
    |succ m=>
     rw[bfs,if_pos U] at hb;have p4:(YS (M.getD at' []) O M).length<=60:=by
      have:=ZeD O m (at'+1) (YS (M.getD at' []) O M);rw[hb] at this;omega
     have o6:Gk k (M.getD at' []):=gd _ (ZaC U);generalize o7:M.getD at' []=J at *;have r9:(o8.map V.ref).length=O.length:=by rw[Za,R0.2.1]
     obtain⟨m6,_,p6,p7⟩:=R.get U;rw[o7] at p7;refine⟨_,fun _ _ z=>z,_,rfl,_,rfl,Y,_,_,_,rfl,rfl,.of R.1,p6,_,rfl,_,_,rfl,rfl,_,rfl,pl,rfl,⟨_,.of (sm _ _ R0.1)⟩,?_⟩;refine Jl (H0:=H) (Yv (K:=K) (.of R0.1)) (fun i τ HH=>∃(m8:List Addr) (w3 w4:Option V),τ=[some (.ref pl),some (.ref Y),some (.int ((at':Int)+1)),some (.ref m6),w3,w4]/\Zv H HH/\HH m6=some (.tup (J.map nV))/\TupsAt HH Y m8 (YS J (O.take i) M)/\(∀y∈YS J (O.take i) M,Gk k y))
      ⟨bs,v4,v5,rfl,sm,p7,R,gd⟩ (fun i τ HH h=>h.choose_spec.choose_spec.choose_spec.2.1) ?_ ?_
     ·rintro i y τ HH hy ⟨m8,w3,w4,rfl,sH,hH,R',n8⟩
      obtain⟨b,rfl,hi,p8⟩:=R0.ref hy;have q0:=sH _ _ p8;have gg:Gk k (O.getD i []):=o9 _ (ZaC hi);have pi:O[i]?=some (O.getD i []):=getL hi;generalize O.getD i []=gp at *;have u5:(YS J (O.take i) M).length<=60:=aZ (ZcB J O M i) p4;have t5:at'<(YS J (O.take i) M).length:=aE U (JQ J _ M);have t6:(YS J (O.take i) M).getD at' []=J:=by rw[Zbg J _ _ U,o7]
      have o0:=ZcA J (fd:=M) pi;generalize YS J (O.take i) M=zs at *;have gl:=gg.1;have cl:=o6.1;refine⟨_,rfl,b,rfl,⟨_,.of q0⟩,?_⟩;refine WL (Wf (.of q0)) [some (.ref m6)] rfl (ZhO J) (by rw[Za,gl];omega) (fun j x HC hx sC u9 g2=>?_) (fun D HD nD sD hD=>?_)
      ·obtain⟨c,hc,rfl⟩:=Xh hx
       have w8:c<k:=gg.2 c (aF hc);refine⟨_,rfl,_,rfl,m6,_,_,_,rfl,rfl,.of (sC _ _ hH),Zkw (by omega),?_⟩;have:=g2 HC (Zv.refl _);have e:ZhO J (.int (c:Nat))=nV (J.getD c 0):=by
        show nV (J.getD (c:Int).toNat 0)=_;rw[Zj]
       rw[e] at this;exact this
      ·rw[Zca] at hD
       refine⟨D,_,rfl,.inl ⟨.of hD,fun tp t0=>?_⟩⟩;have sE:=sD.trans (Zv.upd (o:=.tup ((J1 J gp).map nV)) t0);have hE:upd HD tp (.tup ((J1 J gp).map nV)) tp=some (.tup ((J1 J gp).map nV)):=Zt;generalize upd HD tp (.tup ((J1 J gp).map nV))=HE at sE hE ⊢;have RE:=R'.mono sE;have go:Gk k (J1 J gp):=Zia o6 gg;have ey:(zs.map fun ns=>c9 ((nI ns).map aW))=(zs.map nI).map fun ns=>c9 (ns.map aW):=by rw[aJ];rfl
       refine⟨_,rfl,_,rfl,Y,_,(zs.map fun ns=>c9 ((nI ns).map aW)),.tuple ((nI (J1 J gp)).map aW),rfl,.inl (.of RE.1),ZdY _ _ RE.2.1 RE.2.2,.tup (.of (by rw[Zlz];exact hE)) (Wo.ints _),by rw[ey];exact Vn _,Xp _,U5 _,_,rfl,?_⟩;rw[if_pos rfl,Za3];have zl:=RE.2.1;refine Y8 (fun h2=>?_) (fun h2=>?_)
       ·have h2:zs.contains (J1 J gp)=false:=by simpa using h2
        have e3:XQ zs (J1 J gp)=zs++[J1 J gp]:=by
         unfold XQ;rw[if_neg (by rw[h2];decide)]
        refine⟨_,rfl,.inl ⟨rfl,_,.of RE.1⟩,_,rfl,Y,_,_,rfl,rfl,RE.1,by rw[Za];omega,?_⟩;refine⟨m8++[tp],_,_,rfl,(sH.trans sE).updr nF,by rw[Zy (fun z=>by have:=sE _ _ hH;rw[z,RE.1] at this;cases this)];exact sE _ _ hH,?_,?_⟩
        ·rw[o0,e3];exact RE.push hE
        ·rw[o0];exact ZfD n8 go
       ·have h2:zs.contains (J1 J gp)=true:=by simpa using h2
        have e3:XQ zs (J1 J gp)=zs:=by
         unfold XQ;rw[if_pos h2]
        exact⟨m8,_,_,rfl,sH.trans sE,sE _ _ hH,by rw[o0,e3];exact RE,by rw[o0,e3];exact n8⟩
     ·rintro τ HH ⟨m8,w3,w4,rfl,sH,hH,R',n8⟩
      rw[r9,cU] at R' n8;exact⟨m,by omega,at'+1,m8,_,_,_,_,by rw[eV];rfl,sH,R',n8,by omega,hb⟩
   ·have U:¬at'<M.length:=fun z=>h1 (decide_eq_true (by omega))
    have e:M=m5:=by
     cases m with
     |zero=>exact hb
     |succ m=>rw[bfs,if_neg U] at hb;exact hb
    subst e;exact o5 _ _ ⟨at',bs,v3,v4,v5,rfl,sm,R,gd⟩
  case hend=>
   rintro n6 H1 ⟨at',bs,v3,v4,v5,rfl,sm,R,gd⟩;exact⟨_,rfl,q Y bs H1 sm R⟩
end
end C52
namespace Pm
open PySem L2 PySem.Spec PyProof.Rows
open Tb
noncomputable def kvF (fd:List (List Nat))(m:Nat):List (List Yx×V):=(ae m).map fun i=>(Xk (fd.getD i []),.int (i:Nat))
theorem ZjE (fd:List (List Nat))(m:Nat):(kvF fd m).length=m:=by unfold kvF;rw[Za,Zg]
theorem ZjD {fd:List (List Nat)}(J:fd.Nodup){m:Nat}(M:m<fd.length):Ww (kvF fd m) (Xk (fd.getD m [])) (.int (m:Nat))=kvF fd (m+1):=by
 have:(kvF fd m).any (fun q=>decide (q.1=Xk (fd.getD m [])))=false:=by
  rw[lZ];intro h;rw[aY] at h;obtain⟨q,j,e⟩:=h;obtain⟨i,hi,rfl⟩:=aI.mp j;have hi:=af.mp hi;have:=ZhJ J (by omega) M (Zb2 (of_decide_eq_true e));omega
 unfold Ww;rw[this];unfold kvF;rw[cf,aU];rfl
theorem ZhN {fd:List (List Nat)}{y:List Nat}(q:y∈fd):fd.findIdx (· == y)<fd.length/\fd.getD (fd.findIdx (· == y)) []=y:=by
 have j:fd.findIdx (· == y)<fd.length:=cD.mpr ⟨y,q,beq_self_eq_true y⟩;refine⟨j,?_⟩;have:=dW (p:=(· == y)) (w:=j);rw[Zb,Zf j];exact eq_of_beq this
theorem ZjC {fd:List (List Nat)}(J:fd.Nodup){y:List Nat}(M:y∈fd):YR (kvF fd fd.length) (Xk y)=some (.int (fd.findIdx (· == y):Nat)):=by
 obtain⟨q,p2⟩:=ZhN M;unfold YR kvF;rw[List.find?_map];have:(ae fd.length).find? ((fun O:List Yx×V=>decide (O.1=Xk y)) ∘ fun i:Nat=>((Xk (fd.getD i []),V.int (i:Nat)):List Yx×V))=some (fd.findIdx (· == y)):=by
  rw[jO];refine⟨decide_eq_true (show Xk (fd.getD (fd.findIdx (· == y)) [])=Xk y by rw[p2]),af.mpr q,fun j U=>?_⟩;rw[gh];refine decide_eq_false fun h=>?_;have:=ZhJ J (by omega) q ((Zb2 h).trans p2.symm);omega
 rw[this];rfl
theorem Ziy {fd:List (List Nat)}{i:Nat}(J:i<fd.length):(YY fd).getD i []=(ae fd.length).map fun j=>fd.findIdx (· == J1 (fd.getD i []) (fd.getD j [])):=by
 unfold YY;rw[Zb,Zc,getL J];show fd.map (fun b=>fd.findIdx (· == J1 (fd.getD i []) b))=_;refine bf fun j=>?_;rw[Zc,Zc];by_cases q:j<fd.length
 ·rw[getL q,am q]
  rfl
 ·rw[ak (by omega),ak (by rw[Zg];omega)]
  rfl
theorem ZcJ {H:Hp}{L:Addr}{bs:List Addr}{fd:List (List Nat)}{Q:VK}(R:TupsAt H L bs fd)(n6:fd.length<64)(m5:∀y∈fd,y≠[])(q:∀D cs O H',Zv H H'->H D=none->TupsAt H' D cs O->Srt O->bG O fd->Q (.ref D) H'):ZgI true [.ref L] H Q:=by
 have hl:bs.length=fd.length:=R.2.1;refine⟨L,bs,fd.map nI,rfl,R.1,by rw[hl,Za],by omega,fun i a ha=>?_,fun D M nD pj hs=>?_⟩
 ·have hi:=(ac.mp ha).1
  have U:i<fd.length:=by omega
  have h:=R.2.2 i a ha;refine⟨nI (fd.getD i []),by rw[Zc,getL U];rfl,fun z=>?_,?_⟩
  ·refine m5 _ (ZaC U) ?_
   unfold nI at z;exact List.map_eq_nil_iff.mp z
  ·show H a=some (.tup ((nI (fd.getD i [])).map V.int))
   rw[Zlz];exact h
 ·have Y:∀j∈M,j<fd.length:=fun j Y=>by
   have:=af.mp (pj.mem_iff.mp Y);omega
  have s:=Zv.upd (H:=H) (o:=.lst ((M.map fun i=>bs.getD i 0).map V.ref)) nD;refine q D (M.map fun i=>bs.getD i 0) (M.map fun i=>fd.getD i []) _ s nD ⟨Zt,by rw[Za,Za],fun i b hb=>?_⟩ ?_ ?_
  ·rw[Zc] at hb
   cases J:M[i]? with
   |none=>rw[J] at hb;cases hb
   |some j=>
    rw[J] at hb;have hb:bs.getD j 0=b:=aD hb;have n8:=Y j (aF J);have m6:bs[j]?=some (bs.getD j 0):=by rw[Zb,Zf (show j<bs.length by omega)];rfl
    have:=s _ _ (R.2.2 j _ m6);rw[hb] at this;rw[Zb (l:=M.map _),Zc,J];exact this
  ·unfold Srt
   rw[aJ];have e:M.map (nI ∘ fun i=>fd.getD i [])=M.map fun i=>(fd.map nI).getD i []:=aX fun j m8=>by
    show nI (fd.getD j [])=_;rw[Zb (l:=fd.map nI),Zc,getL (Y j m8)];rfl
   rw[e];exact hs
  ·have:=pj.map fun i=>fd.getD i []
   rw[hl] at this;have e:(ae fd.length).map (fun i=>fd.getD i [])=fd:=by
    refine bf fun i=>?_;rw[Zc];by_cases hi:i<fd.length
    ·rw[am hi,getL hi];rfl
    ·rw[ak (by rw[Zg];omega),ak (by omega)];rfl
   rwa [e] at this
noncomputable def ZfB (H:Hp)(W:Addr):Hp:=fun b=>if b=W then none else H b
theorem Za1 {H:Hp}{W b:Addr}{o:HO}(h:H b=some o)(hb:b≠W):ZfB H W b=some o:=by unfold ZfB;rw[if_neg hb];exact h
theorem Zea {H:Hp}{W b:Addr}{o:HO}(h:ZfB H W b=some o):b≠W/\H b=some o:=by
 unfold ZfB at h;by_cases z:b=W
 ·rw[if_pos z] at h;cases h
 ·rw[if_neg z] at h
  exact⟨z,h⟩
end Pm
namespace C52
open PySem L2 PySem.Spec PyProof.Rows
open Tb Pm
structure Zn5 (k:Nat)(fs:List (List Nat)):Prop where
 k1:1<=k
 k9:k<=9
 n60:fs.length<=60
 nd:fs.Nodup
 st:Srt fs
 gk:∀g∈fs,Gk k g
 cl:∀a∈fs,∀b∈fs,J1 a b∈fs
noncomputable def Zds:Sp:=fun J H Q _=>∃(L:Addr) (bs:List Addr) (q fs:List (List Nat)) (k:Nat),J=[.ref L]/\TupsAt H L bs q/\q.Perm fs/\Zn5 k fs/\∀g j,Zv H j->GT j g (YY fs)->Q (.ref g) j
section
variable {P:Program}{w:World}{K:aa}{mg:Str->Option Value}{base:Heap}
theorem Ze1 {f:Addr}{fd:FuncData}(F:WN K "_law_times_of" "_law_times_of" ZcM f fd)(T:BlB mg):Yb P w K mg base Yi 1 f fd ["_law_perms"] Zds:=by
 refine F.ok (FS (N:=["_law_perms", "_law_numbers", "_law_things", "_law_k", "_law_rows", "_law_one"])) (fun vs H Q E h=>?_) (fun o9 A p3 s H vs Q E hr h=>?_)
 ·obtain⟨L,bs,fd,fs,k,rfl,_⟩:=h;rfl
 ·obtain⟨L,bs,fd,fs,k,rfl,R0,pm,Z,q⟩:=h
  have hu:(A.deeper (envOfC "_law_times_of" (ZU ZcM) s.heap.objs.size f o9)).units+1<cLine:=by have:=hr.un;omega
  refine⟨_,Zs (ZD 1 rfl ZgP)
   (Zs (ZD 2 rfl (cb (Zda true hr.units) T.sorted (pc (vn 0) Zu)))
   (Zs (ZT av rfl (XV T.range (pc (cb (YF K) T.len (pc (vn 2) Zu)) Zu)) (gn 3)
    (Zw (JR hu (vn 1) (ZG (X2 K) (vn 2) (vn 3) (fun _ _=>rfl)) (vn 3) (by rfl))))
   (Zs (ZD 4 rfl (ZW Zu))
   (Zs (ZT av rfl (itL K (vn 2)) (gnf 5 rfl)
    (Zw (Yq (Wj aO aT aV Z2 (vn 4) (pc (ct (ZfU K) T.tuple (pc (cmp ["_law_other"] [1,5] ["_law_other", "_law_numbers", "_law_one"] rfl (itL K (vn 2)) (fun _ _ _ _ _=>gn 0) (fun _ _ _ _ _=>ZQ)
     (fun _ _ _ _ _=>Jg hu (vn 1) (ct (tupK K) (by exact T.tuple) (pc (cmp ["_law_place"] [2] ["_law_place", "_law_one"] rfl (itT K (vn 0)) (fun _ _ _ _ _=>gn 0) (fun _ _ _ _ _=>ZQ) (fun _ _ _ _ _=>ZG (XI K) (vn 1) (vn 0) (fun _ _=>rfl))) Zu)) (fun _ _=>rfl))) Zu)) Zu)))))
   (Zw (ZF (ct ZJ T.tuple (pc (vn 4) Zu)))))))),?_⟩
  have sz:(16777216:Nat)=sizeLine:=by decide
  have t6:=Z.n60;have k1:=Z.k1;have k9:=Z.k9;have fl:=pm.length_eq;intro O n9;have s1:=Zv.upd (H:=H) (o:=.dT []) n9;have Y:upd H O (.dT []) O=some (.dT []):=Zt;generalize upd H O (.dT [])=H1 at s1 Y ⊢;refine⟨_,rfl,?_⟩;unfold ZfZ;dsimp only;refine ZcJ (R0.mono s1) (by omega) (fun y hy z=>?_) fun Th cs J H2 s2 p4 R2 hs pz=>?_
  ·have:=(Z.gk y (pm.mem_iff.mp hy)).1
   rw[z] at this;simp at this;omega
  have ez:J=fs:=hs.eq Z.st (pz.trans pm);subst ez;have p6:=s1.trans s2;have o0:=s2 _ _ Y;have p7:O≠Th:=fun z=>by rw[z,p4] at Y;cases Y
  have cl:(cs.map V.ref).length=J.length:=by rw[Za,R2.2.1]
  refine⟨_,rfl,Th,_,rfl,.inl (.of R2.1),_,rfl,by rw[cl];omega,by rw[cl];omega,?_⟩;rw[cl,Zj];have kT:∀{U:Hp},Zv (ZfB H2 O) U->TupsAt U Th cs J:=fun {U} sm=>⟨sm _ _ (Za1 R2.1 (bh p7)),R2.2.1,fun i b hb=>sm _ _ (Za1 (R2.2.2 i b hb) fun z=>by have:=R2.2.2 i b hb;rw[z,o0] at this;cases this)⟩;refine YC (fun i M U=>∃v3 v4 v5:Option V,M=[some (.ref L),some (.ref O),some (.ref Th),v3,v4,v5]/\Zv (ZfB H2 O) U/\U O=some (.dT (kvF J i))) ⟨_,_,_,rfl,fun b o hb=>(Zea hb).2,o0⟩ ?_ ?_
  ·rintro i M H3 hi ⟨v3,v4,v5,rfl,s3,m5⟩
   rw[show (0:Int)+(i:Int)=(i:Int) by omega];have R3:=kT s3;obtain⟨b,hb,p8,q0⟩:=R3.get hi;refine⟨_,rfl,_,rfl,_,rfl,_,rfl,Th,_,_,_,rfl,rfl,.of R3.1,p8,O,_,rfl,Vd.t (k:=Xk (J.getD i [])) m5 (by rw[Zhn];exact q0) (by rw[ZjE];omega),?_⟩;rw[ZjD Z.nd hi];refine⟨_,_,_,rfl,fun b o hb=>?_,Zt⟩;rw[Zy (Zea hb).1];exact s3 b o hb
  ·rintro M H3 ⟨v3,v4,v5,rfl,s3,m5⟩
   have R3:=kT s3;have o5:Zv H H3:=fun b o hb=>s3 b o (Za1 (p6 _ _ hb) fun z=>by rw[z,n9] at hb;cases hb);refine⟨(by show 0<=sizeLine;decide),fun Lr m6=>?_⟩;have s4:=Zv.upd (H:=H3) (o:=.lst []) m6;have h4:upd H3 Lr (.lst []) Lr=some (.lst ([]:List V)):=Zt;have t7:H Lr=none:=o5.free m6;generalize upd H3 Lr (.lst [])=H4 at s4 h4 ⊢;have R4:=R3.mono s4;refine⟨_,rfl,Th,rfl,⟨_,.of R4.1⟩,?_⟩;refine Jl (H0:=H3) (Yv (K:=K) (.of R3.1)) (fun i M U=>∃(rs:List Addr) (v5:Option V),M=[some (.ref L),some (.ref O),some (.ref Th),v3,some (.ref Lr),v5]/\Zv H3 U/\U Lr=some (.lst (rs.map V.ref))/\rs.length=i/\∀(j:Nat) x,rs[j]?=some x->Tz U x (((YY J).getD j []).map nV))
    ⟨[],_,rfl,s4,h4,rfl,fun j x h=>by cases h⟩ (fun i M U h=>by
     obtain⟨_,_,_,sm,_⟩:=h;exact sm) ?_ ?_
   ·rintro i y M H5 hy ⟨rs,v5,rfl,s5,h5,rl,m8⟩
    obtain⟨c,rfl,hi,hc⟩:=R3.ref hy;have R5:=R3.mono s5;have r6:=s5 _ _ hc;have gi:=Z.gk _ (ZaC hi);have mi:=ZaC hi;have et:=Ziy hi;refine⟨_,rfl,.inl ⟨rfl,_,.of h5⟩,_,rfl,Th,rfl,⟨_,.of R5.1⟩,?_⟩;refine Pm.Wm (Yv (K:=K) (.of R5.1)) [some (.ref O),some (.ref c)] rfl (fun j=>nV (J.findIdx (· == J1 (J.getD i []) (J.getD j [])))) (by rw[cl];omega) (fun j y' r8 H6 s6 R' k6=>?_) (fun D6 H6 t9 s6 o6=>?_)
    ·obtain⟨d,rfl,hj,hd⟩:=R5.ref r8
     have gj:=Z.gk _ (ZaC hj);have mj:=ZaC hj;have n6:=s6 _ _ hd;have o7:=s6 _ _ r6;have fin:=k6;generalize J.getD i []=x at gi mi o7 fin;generalize J.getD j []=y at gj mj n6 fin;refine⟨_,rfl,_,rfl,d,rfl,⟨_,.of n6⟩,?_⟩;refine WL (Wf (K:=K) (.of n6)) [some (.ref c)] rfl (ZhO x) (by rw[Za,gj.1];omega) (fun u v H7 hv s7 u5 k7=>?_) (fun D7 H7 u9 s7 o8=>?_)
     ·obtain⟨e,he,rfl⟩:=Xh hv
      have r9:e<k:=gj.2 e (aF he);refine⟨_,rfl,_,rfl,c,_,_,_,rfl,rfl,.of (s7 _ _ o7),Zkw (by rw[gi.1];exact r9),?_⟩;have:=k7 H7 (Zv.refl _);have e2:ZhO x (.int (e:Nat))=nV (x.getD e 0):=by
       show nV (x.getD (e:Int).toNat 0)=_;rw[Zj]
      rw[e2] at this;exact this
     ·rw[Zca] at o8
      refine⟨D7,_,rfl,.inl ⟨.of o8,fun tp t0=>?_⟩⟩;have s8:=s7.trans (Zv.upd (H:=H7) (o:=.tup ((J1 x y).map nV)) t0);have h8:upd H7 tp (.tup ((J1 x y).map nV)) tp=some (.tup ((J1 x y).map nV)):=Zt;generalize upd H7 tp (.tup ((J1 x y).map nV))=H8 at s8 h8 ⊢;have t5:=((s5.trans s6).trans s8) _ _ m5;have dg:=Jn.t (k:=Xk (J1 x y)) t5 (by rw[Zhn];exact h8);rw[ZjC Z.nd (Z.cl x mi y mj)] at dg;exact⟨O,_,rfl,dg,fin H8 s8⟩
    ·rw[cl] at o6
     refine⟨D6,_,rfl,.of o6,fun l H7 nl s7 hz=>?_⟩;have n8:=s6.trans s7;have h7:=n8 _ _ h5;refine⟨Lr,_,_,rfl,rfl,h7,by rw[Za,rl];omega,?_⟩;refine⟨rs++[l],_,rfl,(s5.trans n8).updr m6,by rw[Zt,aU];rfl,by rw[Zd,rl];rfl,fun j x hx=>?_⟩;by_cases hj:j<rs.length
     ·rw[au hj] at hx
      exact Tz.updL ((m8 j x hx).mono n8) h7
     ·have hl:=(ac.mp hx).1
      rw[Zd,Zk] at hl;have ej:j=rs.length:=by omega
      rw[aw (by omega),ej,cF] at hx;cases hx;have ez:((ae J.length).map fun j=>nV (J.findIdx (· == J1 (J.getD i []) (J.getD j []))))=((YY J).getD rs.length []).map nV:=by rw[rl,et,aJ];rfl
      rw[ej];rw[ez] at hz;exact Tz.updL hz h7
   ·rintro M H5 ⟨rs,v5,rfl,s5,h5,rl,m8⟩
    rw[cl] at rl;refine⟨_,rfl,Lr,_,rfl,.inl ⟨.of h5,fun g ng=>?_⟩⟩;have s6:=Zv.upd (H:=H5) (o:=.tup (rs.map V.ref)) ng;exact q g _ ((o5.trans s5).trans s6) ⟨rs,Zt,by unfold YY;rw[Za,rl],fun i x hx=>(m8 i x hx).mono s6⟩
end
end C52
namespace Tb
section
variable {t:List (List Nat)}
noncomputable def YB (t:List (List Nat))(a:Nat):Nat:=((ae t.length).find? fun b=>ZM t a b == 0).getD 0
theorem Yh (P:PW t){a:Nat}(j:a<t.length):YB t a<t.length/\ZM t a (YB t a)=0:=by
 obtain⟨r,R⟩:=P.rd a j;unfold YB;cases h:(ae t.length).find? fun b=>ZM t a b == 0 with
 |none=>
  exfalso;rw[iF] at h;exact h _ (af.mpr (WJ P j (r-1))) (by rw[R.bk];rfl)
 |some b=>
  have q:=af.mp (fZ h);have J:=jj h;exact⟨q,by simpa using J⟩
theorem Zh9 (P:PW t){a r:Nat}(j:a<t.length)(R:Rd t a r):it t a (r-1)=YB t a:=((R.un _ (Yh P j).1 (Yh P j).2)).symm
theorem Xq (P:PW t){a b:Nat}(j:a<t.length)(hb:b<t.length)(h:ZM t a b=0):b=YB t a:=by
 obtain⟨r,R⟩:=P.rd a j;rw[<-Zh9 P j R];exact R.un b hb h
theorem Zad (P:PW t){a:Nat}(j:a<t.length):ZM t (YB t a) a=0:=by
 obtain⟨q,O⟩:=Yh P j;obtain⟨J,M⟩:=Yh P q;have e:a=YB t (YB t a):=by
  have:=P.ass a (YB t a) (YB t (YB t a)) j q J;rw[O,M,P.one _ J,P.oneR a j] at this;exact this.symm
 conv=>lhs;rw[e]
 rw[<-e]
 conv=>lhs;rw[e]
 rw[<-e];rw[show ZM t (YB t a) a=ZM t (YB t a) (YB t (YB t a)) by rw[<-e]];exact M
noncomputable def tb (t:List (List Nat))(b x:Nat):Nat:=ZM t (ZM t x b) (YB t x)
theorem Ve (P:PW t){b x:Nat}(hb:b<t.length)(j:x<t.length):tb t b x<t.length:=P.lt _ _ (P.lt _ _ j hb) (Yh P j).1
theorem Zaf (P:PW t){b:Nat}(hb:b<t.length):tb t b 0=b:=by
 have j:=P.n1;have e:YB t 0=0:=(Xq P (by omega) (by omega) (P.one 0 (by omega))).symm;unfold tb;rw[e,P.one b hb,P.oneR b hb]
theorem Vx (P:PW t){b x:Nat}(hb:b<t.length)(j:x<t.length):ZM t (ZM t (YB t x) (tb t b x)) x=b:=by
 obtain⟨q,_⟩:=Yh P j;have J:=Zad P j;unfold tb;rw[<-P.ass (YB t x) (ZM t x b) (YB t x) q (P.lt _ _ j hb) q,<-P.ass (YB t x) x b q j hb,J,P.one b hb,P.ass b (YB t x) x hb q j,J,P.oneR b hb]
theorem Zag (P:PW t){b k x y:Nat}(hb:b<t.length)(Y:k<t.length)(q:x<t.length)(j:y<t.length)(h:tb t b x=tb t k y):∃z,z<t.length/\tb t b z=k:=by
 obtain⟨J,x2⟩:=Yh P q;obtain⟨M,y2⟩:=Yh P j;have yl:=Zad P j;have U:=P.lt _ _ M q;refine⟨ZM t (YB t y) x,U,?_⟩;have e1:YB t (ZM t (YB t y) x)=ZM t (YB t x) y:=by
  refine (Xq P U (P.lt _ _ J j) ?_).symm;rw[P.ass _ x _ M q (P.lt _ _ J j),<-P.ass x (YB t x) y q J j,x2,P.one y j,yl]
 have O:=Vx P Y j;rw[<-h] at O;unfold tb at O ⊢;rw[e1,P.ass (YB t y) x b M q hb,<-P.ass (ZM t (YB t y) (ZM t x b)) (YB t x) y (P.lt _ _ M (P.lt _ _ q hb)) J j,P.ass (YB t y) (ZM t x b) (YB t x) M (P.lt _ _ q hb) J];exact O
noncomputable def ZO (t:List (List Nat))(b:Nat):List Nat:=(ae t.length).filter fun a=>(ae t.length).any fun x=>tb t b x == a
theorem Z4 (P:PW t){b a:Nat}(hb:b<t.length):a∈ZO t b↔∃x,x<t.length/\tb t b x=a:=by
 unfold ZO;rw[gR,aY];constructor
 ·rintro⟨_,x,j,e⟩
  exact⟨x,af.mp j,by simpa using e⟩
 ·rintro⟨x,j,e⟩
  exact⟨af.mpr (e▸Ve P hb j),x,af.mpr j,by simpa using e⟩
theorem Xm {b a:Nat}(h:a∈ZO t b):a<t.length:=af.mp (gR.mp h).1
theorem Zcg (b:Nat):(ZO t b).Pairwise (· < ·):=cT ly gN
theorem ZaX (b:Nat):(ZO t b).length<=t.length:=by
 have:=List.length_filter_le (fun a=>(ae t.length).any fun x=>tb t b x == a) (ae t.length);rw[Zg] at this;exact this
theorem Ys (P:PW t){b:Nat}(hb:b<t.length):b∈ZO t b:=(Z4 P hb).mpr ⟨0,by have:=P.n1;omega,Zaf P hb⟩
theorem Yd (P:PW t){b k a:Nat}(hb:b<t.length)(j:k<t.length)(q:a∈ZO t b)(J:a∈ZO t k):k∈ZO t b:=by
 obtain⟨x,M,O⟩:=(Z4 P hb).mp q;obtain⟨y,U,Y⟩:=(Z4 P j).mp J;exact (Z4 P hb).mpr (Zag P hb j M U (O.trans Y.symm))
noncomputable def ZB (t:List (List Nat)):Nat->List (List Nat)
 |0=>[]
 |k+1=>if (ZB t k).any (·.contains k) then ZB t k else ZB t k++[ZO t k]
noncomputable def Ym (j:List (List Nat))(a:Nat):Bool:=j.any (·.contains a)
theorem WR (P:PW t):∀k,k<=t.length->∀c∈ZB t k,∃b,b<k/\c=ZO t b
 |0,_,c,h=>by cases h
 |k+1,J,c,h=>by
  unfold ZB at h;split at h
  ·obtain⟨b,q,j⟩:=WR P k (by omega) c h
   exact⟨b,by omega,j⟩
  ·rcases bJ.mp h with h|h
   ·obtain⟨b,q,j⟩:=WR P k (by omega) c h
    exact⟨b,by omega,j⟩
   ·exact⟨k,by omega,aS.mp h⟩
theorem WM (P:PW t):∀k,k<=t.length->∀b,b<k->Ym (ZB t k) b=true
 |0,_,b,h=>by omega
 |k+1,q,b,h=>by
  unfold Ym ZB;split
  ·rename_i j
   by_cases e:b=k
   ·subst e;exact j
   ·exact WM P k (by omega) b (by omega)
  ·rw[gS,bq]
   by_cases e:b=k
   ·subst e
    right;rw[eO,j9,fu];exact ay.mpr (Ys P (by omega))
   ·left
    exact WM P k (by omega) b (by omega)
theorem XM (P:PW t):∀k,k<=t.length->∀(i j:Nat) (c d:List Nat) (a:Nat),(ZB t k)[i]?=some c->(ZB t k)[j]?=some d->a∈c->a∈d->i=j
 |0,_,i,j,c,d,a,h,_,_,_=>by cases h
 |k+1,hk,i,j,c,d,a,J,q,U,Y=>by
  have ih:=XM P k (by omega);unfold ZB at J q;split at J
  ·rename_i hc
   rw[if_pos hc] at q;exact ih i j c d a J q U Y
  ·rename_i hc
   rw[if_neg hc] at q;have O:∀c,c∈ZB t k->∀a,a∈c->a∈ZO t k->False:=fun c hm a ha m5=>by
    obtain⟨b,hb,rfl⟩:=WR P k (by omega) c hm;have:=Yd P (by omega) (by omega) ha m5;exact hc (aY.mpr ⟨_,hm,ay.mpr this⟩)
   by_cases hi:i<(ZB t k).length
   ·rw[au hi] at J
    by_cases hj:j<(ZB t k).length
    ·rw[au hj] at q
     exact ih i j c d a J q U Y
    ·rw[aw (by omega)] at q
     have hd:d=ZO t k:=by
      cases M:j-(ZB t k).length with
      |zero=>rw[M] at q;cases q;rfl
      |succ m=>rw[M] at q;cases q
     subst hd;exact (O c (aF J) a U Y).elim
   ·rw[aw (by omega)] at J
    have m6:c=ZO t k/\i=(ZB t k).length:=by
     cases M:i-(ZB t k).length with
     |zero=>rw[M] at J;cases J;exact⟨rfl,by omega⟩
     |succ m=>rw[M] at J;cases J
    obtain⟨rfl,ei⟩:=m6;by_cases hj:j<(ZB t k).length
    ·rw[au hj] at q
     exact (O d (aF q) a Y U).elim
    ·rw[aw (by omega)] at q
     cases M:j-(ZB t k).length with
     |zero=>omega
     |succ m=>rw[M] at q;cases q
theorem YU:∀k,(ZB t k).length<=k
 |0=>Zq _
 |k+1=>by
  have:=YU k;unfold ZB;split
  ·omega
  ·rw[Zd,Zk];omega
end
section
variable {t:List (List Nat)}
noncomputable def sm (n:Nat)(f:Nat->Nat):Nat:=((ae n).map f).sum
theorem Yl {n:Nat}{f g:Nat->Nat}(h:∀x,x<n->f x=g x):sm n f=sm n g:=by
 unfold sm;rw[aX fun x j=>h x (af.mp j)]
theorem YM (n:Nat)(f:Nat->Nat):sm (n+1) f=sm n f+f n:=by
 unfold sm;rw[cf,aU,List.sum_append];simp
theorem ZiG (n:Nat):sm n (fun _=>0)=0:=by
 induction n with
 |zero=>rfl
 |succ n j=>rw[YM,j]
theorem Zk6 (n:Nat)(f g:Nat->Nat):sm n (fun x=>f x+g x)=sm n f+sm n g:=by
 induction n with
 |zero=>rfl
 |succ n j=>rw[YM,YM,YM,j];omega
theorem ZcL (n k:Nat)(f:Nat->Nat):sm n (fun x=>k*f x)=k*sm n f:=by
 induction n with
 |zero=>rfl
 |succ n j=>rw[YM,YM,j,jf]
theorem ZiH (n m:Nat)(f:Nat->Nat->Nat):sm n (fun x=>sm m fun y=>f x y)=sm m (fun y=>sm n fun x=>f x y):=by
 induction n with
 |zero=>exact (ZiG m).symm
 |succ n j=>
  rw[YM,j,<-Zk6];exact Yl fun y _=>(YM n fun x=>f x y).symm
theorem Zal {n:Nat}{c d:Nat->Nat}(M:∀x,x<n->c x<n)(O:∀x,x<n->d x<n)(q:∀x,x<n->d (c x)=x)(U:∀x,x<n->c (d x)=x)(f:Nat->Nat):sm n (fun x=>f (c x))=sm n f:=by
 unfold sm;have Y:bG ((ae n).map c) (ae n):=by
  refine (cI ?_ ee).mpr fun k=>?_
  ·unfold List.Nodup
   rw[gf];refine dJ (fun {a b} ha hb j z=>j ?_) ee;rw[<-q a (af.mp ha),z,q b (af.mp hb)]
  ·rw[aI]
   constructor
   ·rintro⟨x,hx,rfl⟩
    exact af.mpr (M x (af.mp hx))
   ·intro J
    exact⟨d k,af.mpr (O k (af.mp J)),U k (af.mp J)⟩
 have:=(Y.map f).sum_nat;rw[aJ] at this;exact this
theorem Zix (P:PW t){s:Nat}(q:s<t.length)(f:Nat->Nat):sm t.length (fun x=>f (tb t x s))=sm t.length f:=by
 obtain⟨J,O⟩:=Yh P q;have M:=Zad P q;have e:YB t (YB t s)=s:=(Xq P J q M).symm;refine Zal (c:=fun x=>tb t x s) (d:=fun x=>tb t x (YB t s)) (fun x j=>Ve P j q) (fun x j=>Ve P j J) (fun x j=>?_) (fun x j=>?_) f
 ·show tb t (tb t x s) (YB t s)=x
  have:=Vx P j q;unfold tb at this ⊢;rw[e];exact this
 ·show tb t (tb t x (YB t s)) s=x
  have:=Vx P j J;rw[e] at this;unfold tb at this ⊢;rw[e] at this ⊢;exact this
theorem Zcx (P:PW t){s x y:Nat}(j:s<t.length)(M:x<t.length)(J:y<t.length):tb t (ZM t x y) s=ZM t (tb t x s) (tb t y s):=by
 obtain⟨q,_⟩:=Yh P j;have Y:=Zad P j;have O:=P.lt _ _ j M;have U:=P.lt _ _ j J;unfold tb;rw[P.ass (ZM t s x) (YB t s) (ZM t (ZM t s y) (YB t s)) O q (P.lt _ _ U q),<-P.ass (YB t s) (ZM t s y) (YB t s) q U q,<-P.ass (YB t s) s y q j J,Y,P.one y J,<-P.ass s x y j M J,P.ass (ZM t s x) y (YB t s) O J q]
theorem JP (P:PW t){s:Nat}(j:s<t.length):tb t 0 s=0:=by
 have q:=P.n1;unfold tb;rw[P.oneR s j,(Yh P j).2]
theorem ZkX (P:PW t){s x:Nat}(j:s<t.length)(q:x<t.length):YB t (tb t x s)=tb t (YB t x) s:=by
 obtain⟨J,M⟩:=Yh P q;refine (Xq P (Ve P q j) (Ve P J j) ?_).symm;rw[<-Zcx P j q J,M,JP P j]
theorem Zhi (P:PW t){x:Nat}(q:x<t.length)(F:Nat->Nat->Nat):sm t.length (fun y=>F y (ZM t x y))=sm t.length (fun w=>F (ZM t (YB t x) w) w):=by
 obtain⟨J,O⟩:=Yh P q;have M:=Zad P q;have:=Zal (c:=fun y=>ZM t x y) (d:=fun y=>ZM t (YB t x) y) (fun y j=>P.lt _ _ q j) (fun y j=>P.lt _ _ J j) (fun y j=>by
  show ZM t (YB t x) (ZM t x y)=y;rw[<-P.ass _ _ _ J q j,M,P.one y j]) (fun y j=>by
  show ZM t x (ZM t (YB t x) y)=y;rw[<-P.ass _ _ _ q J j,O,P.one y j]) (fun w=>F (ZM t (YB t x) w) w)
 rw[<-this];refine Yl fun y j=>?_;show F y (ZM t x y)=F (ZM t (YB t x) (ZM t x y)) (ZM t x y);rw[<-P.ass _ _ _ J q j,M,P.one y j]
noncomputable def JF (b:Bool):Nat:=if b then 1 else 0
theorem Zga {n z:Nat}(hz:z<n)(f:Nat->Nat):sm n (fun w=>JF (decide (w=z))*f w)=f z:=by
 have j:∀m,m<=n->sm m (fun w=>JF (decide (w=z))*f w)=if z<m then f z else 0:=fun m=>by
  induction m with
  |zero=>intro _;rfl
  |succ m q=>
   intro J;rw[YM,q (by omega)];by_cases e:m=z
   ·subst e
    rw[if_neg (bR _),if_pos (c6 _),decide_eq_true rfl];show 0+1*f m=f m;omega
   ·rw[decide_eq_false e]
    show _+0*f m=_;by_cases h:z<m
    ·rw[if_pos h,if_pos (by omega)];omega
    ·rw[if_neg h,if_neg (by omega)];omega
 rw[j n (Zq _),if_pos hz]
noncomputable def cnA (t:List (List Nat))(q:Nat->Nat)(i j z:Nat):Nat:=sm t.length fun x=>JF (decide (q x=i))*JF (decide (q (ZM t (YB t x) z)=j))
section
variable {nu:Nat->Nat}
theorem Zfu (P:PW t){i j z:Nat}(hz:z<t.length):sm t.length (fun x=>sm t.length fun y=>JF (decide (nu x=i))*(JF (decide (nu y=j))*JF (decide (ZM t x y=z))))=cnA t nu i j z:=by
 unfold cnA;refine Yl fun x q=>?_;rw[ZcL,Zhi P q (fun y w=>JF (decide (nu y=j))*JF (decide (w=z)))];congr 1;have:sm t.length (fun w=>JF (decide (nu (ZM t (YB t x) w)=j))*JF (decide (w=z)))=sm t.length (fun w=>JF (decide (w=z))*JF (decide (nu (ZM t (YB t x) w)=j))):=Yl fun w _=>fc _ _;rw[this,Zga hz fun w=>JF (decide (nu (ZM t (YB t x) w)=j))]
end
end
structure Nus (t:List (List Nat))(nu rep:Nat->Nat)(N:Nat):Prop where
 lt:∀x,x<t.length->nu x<N
 con:∀x s,x<t.length->s<t.length->nu (tb t x s)=nu x
 tr:∀x y,x<t.length->y<t.length->nu x=nu y->∃s,s<t.length/\tb t x s=y
 rl:∀k,k<N->rep k<t.length
 rn:∀k,k<N->nu (rep k)=k
 z:∀x,x<t.length->(nu x=0↔x=0)
section
variable {t:List (List Nat)}{nu rep:Nat->Nat}{N:Nat}
end
section
variable {t1 t2 T:List (List Nat)}
end
section
variable {t:List (List Nat)}{On:Nat->List Nat}{n:Nat}
end
section
variable {t:List (List Nat)}{o:List Nat}
end
section
variable {t:List (List Nat)}{o o2:List Nat}
noncomputable def Y2 (t:List (List Nat))(b:Nat):Nat:=(ZB t t.length).findIdx (·.contains b)
theorem Uh (P:PW t){b:Nat}(hb:b<t.length):Y2 t b<(ZB t t.length).length/\b∈(ZB t t.length).getD (Y2 t b) []:=by
 have q:=WM P t.length (Zq _) b hb;unfold Ym at q;obtain⟨c,J,hm⟩:=aY.mp q;have j:(ZB t t.length).findIdx (·.contains b)<(ZB t t.length).length:=iP ⟨c,J,hm⟩;refine⟨j,?_⟩;have M:=dW (w:=j);unfold Y2;rw[Zb,Zf j];exact ay.mp M
theorem X3 {α:Type}{l:List (List α)}{i:Nat}(h:i<l.length):l[i]?=some (l.getD i []):=by
 rw[Zb,Zf h];rfl
theorem ZaV (P:PW t){b i:Nat}(hb:b<t.length)(j:i<(ZB t t.length).length)(q:b∈(ZB t t.length).getD i []):Y2 t b=i:=by
 obtain⟨J,M⟩:=Uh P hb;exact XM P t.length (Zq _) _ _ _ _ b (X3 J) (X3 j) M q
theorem Ui (P:PW t){i:Nat}(j:i<(ZB t t.length).length):∃b,b<t.length/\(ZB t t.length).getD i []=ZO t b:=WR P t.length (Zq _) _ (aF (X3 j))
theorem ZhZ (P:PW t){b x:Nat}(hb:b<t.length)(j:x<t.length):Y2 t (tb t b x)=Y2 t b:=by
 have M:=Ve P hb j;obtain⟨q,J⟩:=Uh P M;obtain⟨c,O,e⟩:=Ui P q;have U:tb t b x∈ZO t b:=(Z4 P hb).mpr ⟨x,j,rfl⟩;rw[e] at J;have Y:=Yd P O hb J U;exact (ZaV P hb q (by rw[e];exact Y)).symm
theorem JX (P:PW t){i:Nat}(q:i<(ZB t t.length).length):((ZB t t.length).getD i []).getD 0 0∈(ZB t t.length).getD i []/\((ZB t t.length).getD i []).getD 0 0<t.length:=by
 obtain⟨b,hb,e⟩:=Ui P q;rw[e];have j:=Ys P hb;have:(ZO t b).getD 0 0∈ZO t b:=by
  cases h:ZO t b with
  |nil=>rw[h] at j;cases j
  |cons x r=>exact aq
 exact⟨this,Xm this⟩
end
noncomputable def ZI (t:List (List Nat))(k:Nat):Nat:=((ZB t t.length).getD k []).getD 0 0
section
variable {t:List (List Nat)}
theorem Jm (P:PW t){k:Nat}(j:k<(ZB t t.length).length):∃b,b<t.length/\(ZB t t.length).getD k []=ZO t b:=by
 have q:(ZB t t.length).getD k []∈ZB t t.length:=by
  rw[Zb,Zf j];exact bC j
 exact WR P t.length (Zq _) _ q
theorem ZdW (P:PW t){k:Nat}(q:k<(ZB t t.length).length):ZI t k∈(ZB t t.length).getD k []:=by
 obtain⟨b,hb,e⟩:=Jm P q;unfold ZI;rw[e];have j:=Ys P hb;cases h:ZO t b with
 |nil=>rw[h] at j;cases j
 |cons x r=>exact aq
theorem ZgB (P:PW t){k:Nat}(j:k<(ZB t t.length).length):ZI t k<t.length:=by
 obtain⟨b,hb,e⟩:=Jm P j;have:=ZdW P j;rw[e] at this;exact Xm this
theorem Zbs (P:PW t){x y:Nat}(j:x<t.length)(M:y<t.length)(h:Y2 t x=Y2 t y):∃s,s<t.length/\tb t x s=y:=by
 obtain⟨hk,U⟩:=Uh P j;obtain⟨_,O⟩:=Uh P M;rw[<-h] at O;obtain⟨b,hb,e⟩:=Jm P hk;rw[e] at U O;obtain⟨u,hu,eu⟩:=(Z4 P hb).mp U;have Y:x∈ZO t x:=Ys P j;have J:b∈ZO t x:=Yd P j hb Y U;have:y∈ZO t x:=by
  obtain⟨v,hv,ev⟩:=(Z4 P hb).mp O;obtain⟨q,hq,eq⟩:=(Z4 P j).mp J;have m5:b∈ZO t y:=Yd P M hb (Ys P M) O;have m6:y∈ZO t x:=Yd P j M J m5;exact m6
 exact (Z4 P j).mp this
theorem U6:∀k,(ZB t (k+1))[0]?=some (ZO t 0)
 |0=>rfl
 |k+1=>by
  have j:=U6 k;show (if (ZB t (k+1)).any (·.contains (k+1)) then ZB t (k+1) else ZB t (k+1)++[ZO t (k+1)])[0]?=_
  split
  ·exact j
  ·rw[au (ac.mp j).1]
   exact j
theorem Ug (P:PW t):Y2 t 0=0:=by
 obtain⟨k,j⟩:∃k,t.length=k+1:=⟨t.length-1,by have:=P.n1;omega⟩;have h:=U6 (t:=t) k;rw[<-j] at h;have q:=(ac.mp h).1;refine ZaV P P.n1 q ?_;rw[Zb,h];exact Ys P P.n1
theorem Y6 (P:PW t):Nus t (Y2 t) (ZI t) (ZB t t.length).length:=by
 have M:=Ug P;refine⟨fun x j=>(Uh P j).1,fun x s j J=>ZhZ P j J,fun x y j O h=>Zbs P j O h,fun k q=>ZgB P q,fun k q=>ZaV P (ZgB P q) q (ZdW P q),fun x j=>⟨fun h=>?_,fun h=>by rw[h];exact M⟩⟩;obtain⟨s,J,e⟩:=Zbs P P.n1 j (M.trans h.symm);rw[JP P J] at e;exact e.symm
end
noncomputable def Y0 (n:Nat)(f:Nat->Int):Int:=((ae n).map f).sum
theorem Yy (n:Nat)(f:Nat->Int):Y0 (n+1) f=Y0 n f+f n:=by
 unfold Y0;rw[cf,aU,List.sum_append];simp
theorem ZZ {n:Nat}{f g:Nat->Int}(h:∀x,x<n->f x=g x):Y0 n f=Y0 n g:=by
 unfold Y0;rw[aX fun x j=>h x (af.mp j)]
theorem Jw (n:Nat):Y0 n (fun _=>0)=0:=by
 induction n with
 |zero=>rfl
 |succ n j=>rw[Yy,j];rfl
theorem Zan (n:Nat)(f g:Nat->Int):Y0 n (fun x=>f x+g x)=Y0 n f+Y0 n g:=by
 induction n with
 |zero=>rfl
 |succ n j=>rw[Yy,Yy,Yy,j];omega
theorem Jf (n:Nat)(k:Int)(f:Nat->Int):Y0 n (fun x=>k*f x)=k*Y0 n f:=by
 induction n with
 |zero=>exact (cr k).symm
 |succ n j=>rw[Yy,Yy,j,Int.mul_add]
theorem Zbp (n m:Nat)(f:Nat->Nat->Int):Y0 n (fun x=>Y0 m fun y=>f x y)=Y0 m (fun y=>Y0 n fun x=>f x y):=by
 induction n with
 |zero=>
  show (0:Int)=_;exact (Jw m).symm
 |succ n j=>
  rw[Yy,j,<-Zan];exact ZZ fun y _=>(Yy n _).symm
theorem Xx {n:Nat}{p:Int}{f g:Nat->Int}(h:∀x,x<n->f x % p=g x % p):Y0 n f % p=Y0 n g % p:=by
 induction n with
 |zero=>rfl
 |succ n j=>
  rw[Yy,Yy,Int.add_emod,j fun x q=>h x (by omega),h n (by omega),<-Int.add_emod]
theorem ZdI {n z:Nat}(hz:z<n)(f:Nat->Int):Y0 n (fun w=>if w=z then f w else 0)=f z:=by
 induction n with
 |zero=>omega
 |succ n j=>
  rw[Yy];by_cases e:z=n
  ·subst e
   rw[if_pos rfl];have:Y0 z (fun w=>if w=z then f w else 0)=Y0 z (fun _=>0):=ZZ fun x q=>if_neg (by omega)
   rw[this,Jw,dA]
  ·rw[j (by omega),if_neg (fun x=>e x.symm),cG]
theorem Zam (n:Nat)(f:Nat->Nat):Y0 n (fun x=>(f x:Int))=(sm n f:Nat):=by
 induction n with
 |zero=>rfl
 |succ n j=>rw[Yy,YM,j];omega
noncomputable def cjB (t:List (List Nat))(u x:Nat):Bool:=(ae t.length).any fun y=>tb t u y == x
theorem Xo {t:List (List Nat)}{u x:Nat}:cjB t u x=true↔∃y,y<t.length/\tb t u y=x:=by
 unfold cjB;rw[aY];constructor
 ·rintro⟨y,j,e⟩;exact⟨y,af.mp j,eq_of_beq e⟩
 ·rintro⟨y,j,e⟩;exact⟨y,af.mpr j,beq_iff_eq.mpr e⟩
structure PrM (p:Nat):Prop where
 p2:2<=p
 nz:∀a b,0<a->a<p->0<b->b<p->a*b % p≠0
 iv:∀a,0<a->a<p->∃b,0<b/\b<p/\b*a % p=1
structure CD (t:List (List Nat))(p m:Nat)(e w f:Nat->Nat->Nat):Prop where
 pr:PrM p
 m1:1<=m
 mc:m=(ZB t t.length).length
 ec:∀s x y,s<m->x<t.length->y<t.length->e s (tb t x y)=e s x
 wc:∀s x y,s<m->x<t.length->y<t.length->w s (tb t x y)=w s x
 elt:∀s x,s<m->x<t.length->e s x<p
 wlt:∀s x,s<m->x<t.length->w s x<p
 eig:∀s u z,s<m->u<t.length->z<t.length->sm t.length (fun x=>JF (cjB t u x)*e s (ZM t (YB t x) z)) % p=w s u*e s z % p
 one:∀x,x<t.length->sm m (fun s=>e s x) % p=if x=0 then 1 else 0
 du:∀s s',s<m->s'<m->sm t.length (fun x=>f s x*e s' x) % p=if s=s' then 1 else 0
 sep:∀s s',s<m->s'<m->(∀u,u<t.length->w s u=w s' u)->s=s'
section
variable {t:List (List Nat)}{p m:Nat}{e w f:Nat->Nat->Nat}
theorem CD.p0 (C:CD t p m e w f):(p:Int)≠0:=by have:=C.pr.p2;omega
noncomputable def EC (t:List (List Nat))(e:Nat->Nat->Nat)(s c:Nat):Nat:=e s (ZI t c)
theorem CD.at (C:CD t p m e w f)(P:PW t){s x:Nat}(J:s<m)(q:x<t.length):e s x=EC t e s (Y2 t x):=by
 have U:=Y6 P;have j:=U.lt x q;obtain⟨y,M,h⟩:=U.tr (ZI t (Y2 t x)) x (U.rl _ j) q (U.rn _ j);have:=C.ec s _ y J (U.rl _ j) M;rw[h] at this;exact this
theorem CD.wat (C:CD t p m e w f)(P:PW t){s x:Nat}(J:s<m)(q:x<t.length):w s x=w s (ZI t (Y2 t x)):=by
 have U:=Y6 P;have j:=U.lt x q;obtain⟨y,M,h⟩:=U.tr (ZI t (Y2 t x)) x (U.rl _ j) q (U.rn _ j);have:=C.wc s _ y J (U.rl _ j) M;rw[h] at this;exact this
theorem Zh4 (P:PW t){u x:Nat}(j:u<t.length)(J:x<t.length):cjB t u x=decide (Y2 t x=Y2 t u):=by
 have U:=Y6 P;by_cases h:Y2 t x=Y2 t u
 ·rw[decide_eq_true h]
  exact Xo.mpr (U.tr u x j J h.symm)
 ·rw[decide_eq_false h]
  cases q:cjB t u x with
  |false=>rfl
  |true=>
   obtain⟨y,M,e⟩:=Xo.mp q;have:=U.con u y j M;rw[e] at this;exact absurd this h
theorem CD.LE (C:CD t p m e w f)(P:PW t){s i c:Nat}(J:s<m)(hi:i<m)(hc:c<m) :
  sm m (fun j=>EC t e s j*cnA t (Y2 t) i j (ZI t c)) % p=w s (ZI t i)*EC t e s c % p:=by
 have U:=Y6 P;have Y:=C.mc;have M:ZI t i<t.length:=U.rl i (by omega);have q:ZI t c<t.length:=U.rl c (by omega);rw[show w s (ZI t i)*EC t e s c=w s (ZI t i)*e s (ZI t c) from rfl,<-C.eig s _ _ J M q];congr 1;have h1:sm m (fun j=>EC t e s j*cnA t (Y2 t) i j (ZI t c))=sm m (fun j=>sm t.length fun x=>JF (decide (Y2 t x=i))*(JF (decide (Y2 t (ZM t (YB t x) (ZI t c))=j))*EC t e s j)):=Yl fun j _=>by
  unfold cnA;rw[<-ZcL];refine Yl fun x _=>?_;rw[fc (EC t e s j),jW]
 rw[h1,ZiH];refine Yl fun x O=>?_;rw[ZcL,Zh4 P M O,U.rn i (by omega)];congr 1;have hb:=(Yh P O).1;have hl:Y2 t (ZM t (YB t x) (ZI t c))<m:=by rw[Y];exact U.lt _ (P.lt _ _ hb q)
 have:=Zga hl (fun j=>EC t e s j);rw[C.at P J (P.lt _ _ hb q),<-this];refine Yl fun j _=>?_;congr 2;rw[decide_eq_decide];exact eq_comm
noncomputable def Vc (t:List (List Nat))(p m:Nat)(e:Nat->Nat->Nat)(α:Nat->Int)(c:Nat):Int:=Y0 m (fun s=>α s*(EC t e s c:Int)) % (p:Int)
theorem JL {α j:Nat->Int}(h:∀s,s<m->α s % (p:Int)=j s % (p:Int))(c:Nat):Vc t p m e α c=Vc t p m e j c:=by
 unfold Vc;refine Xx fun s q=>?_;rw[bH,h s q,<-bH]
theorem Zic (α:Nat->Int)(u:Int)(c:Nat):Vc t p m e α c*u % (p:Int)=Vc t p m e (fun s=>α s*u) c:=by
 unfold Vc;rw[bH,fF _ (iV _),<-bH,dC,<-Jf];congr 1;refine ZZ fun s _=>?_;rw[<-bZ,dC u]
theorem Zl7 (α j:Nat->Int)(c:Nat):(Vc t p m e α c-Vc t p m e j c) % (p:Int)=Vc t p m e (fun s=>α s - j s) c:=by
 unfold Vc;rw[<-gU];congr 1;have:Y0 m (fun s=>(α s - j s)*(EC t e s c:Int))=Y0 m (fun s=>α s*(EC t e s c:Int)+(-1)*(j s*(EC t e s c:Int))):=ZZ fun s _=>by
  rw[lz];omega
 rw[this,Zan,Jf];omega
theorem Zj5 (C:CD t p m e w f)(P:PW t){i c:Nat}(q:i<m)(J:c<m)(α:Nat->Int)(k:Int) :
  (Y0 m (fun j=>Vc t p m e α j*(cnA t (Y2 t) i j (ZI t c):Int))-k*Vc t p m e α c) % (p:Int)=Vc t p m e (fun s=>α s*((w s (ZI t i):Int)-k)) c:=by
 have M:Y0 m (fun j=>Vc t p m e α j*(cnA t (Y2 t) i j (ZI t c):Int)) % (p:Int)=Y0 m (fun s=>α s*((w s (ZI t i):Int)*(EC t e s c:Int))) % (p:Int):=by
  have O:Y0 m (fun j=>Vc t p m e α j*(cnA t (Y2 t) i j (ZI t c):Int)) % (p:Int)=Y0 m (fun j=>Y0 m (fun s=>α s*(EC t e s j:Int))*(cnA t (Y2 t) i j (ZI t c):Int)) % (p:Int):=Xx fun j _=>by
   unfold Vc;rw[bH,fF _ (iV _),<-bH]
  rw[O];have U:Y0 m (fun j=>Y0 m (fun s=>α s*(EC t e s j:Int))*(cnA t (Y2 t) i j (ZI t c):Int))=Y0 m (fun s=>α s*Y0 m (fun j=>((EC t e s j*cnA t (Y2 t) i j (ZI t c):Nat):Int))):=by
   have Y:∀j,Y0 m (fun s=>α s*(EC t e s j:Int))*(cnA t (Y2 t) i j (ZI t c):Int)=Y0 m (fun s=>α s*((EC t e s j*cnA t (Y2 t) i j (ZI t c):Nat):Int)):=fun j=>by
    rw[dC,<-Jf];refine ZZ fun s _=>?_;rw[aK,<-bZ,dC _ (α s),bZ,dC (cnA t (Y2 t) i j (ZI t c):Int)]
   rw[ZZ fun j _=>Y j,Zbp];refine ZZ fun s _=>?_;rw[<-Jf]
  rw[U];refine Xx fun s hs=>?_;rw[Zam,bH];have:=C.LE P hs q J;have h2:((sm m (fun j=>EC t e s j*cnA t (Y2 t) i j (ZI t c)):Nat):Int) % (p:Int)=((w s (ZI t i):Int)*(EC t e s c:Int)) % (p:Int):=by
   rw[<-aK,<-a6,<-a6,this]
  rw[h2,<-bH]
 rw[gU,M,<-gU];have h3:(k*Vc t p m e α c) % (p:Int)=(k*Y0 m (fun s=>α s*(EC t e s c:Int))) % (p:Int):=by
  unfold Vc;rw[bH,fF _ (iV _),<-bH]
 rw[gU,h3,<-gU];unfold Vc;congr 1;have:Y0 m (fun s=>α s*((w s (ZI t i):Int)-k)*(EC t e s c:Int))=Y0 m (fun s=>α s*((w s (ZI t i):Int)*(EC t e s c:Int))+(-k)*(α s*(EC t e s c:Int))):=ZZ fun s _=>by
  rw[jp,lz,bZ,gv,dC (α s) k,bZ k];omega
 rw[this,Zan,Jf,gv];omega
theorem ZkM (C:CD t p m e w f)(P:PW t)(α:Nat->Int)(h:∀c,c<m->Vc t p m e α c=0):∀s,s<m->α s % (p:Int)=0:=by
 intro s O;have U:=Y6 P;have mc:=C.mc;have M:Y0 t.length (fun x=>(f s x:Int)*Y0 m (fun j=>α j*(e j x:Int))) % (p:Int)=0:=by
  have:Y0 t.length (fun x=>(f s x:Int)*Y0 m (fun j=>α j*(e j x:Int))) % (p:Int)=Y0 t.length (fun _=>0) % (p:Int):=Xx fun x Y=>by
   have hc:=U.lt x Y;have hv:=h (Y2 t x) (by omega);unfold Vc at hv;have:Y0 m (fun j=>α j*(e j x:Int))=Y0 m (fun j=>α j*(EC t e j (Y2 t x):Int)):=ZZ fun j J=>by rw[C.at P J Y]
   rw[this,bH,hv];simp
  rw[this,Jw];rfl
 have h2:Y0 t.length (fun x=>(f s x:Int)*Y0 m (fun j=>α j*(e j x:Int)))=Y0 m (fun j=>α j*((sm t.length (fun x=>f s x*e j x):Nat):Int)):=by
  have e1:∀x,(f s x:Int)*Y0 m (fun j=>α j*(e j x:Int))=Y0 m (fun j=>α j*((f s x*e j x:Nat):Int)):=fun x=>by
   rw[<-Jf];refine ZZ fun j _=>?_;rw[aK,<-bZ,dC _ (α j),bZ]
  rw[ZZ fun x _=>e1 x,Zbp];refine ZZ fun j _=>?_;rw[Jf,Zam]
 rw[h2] at M;have h3:Y0 m (fun j=>α j*((sm t.length (fun x=>f s x*e j x):Nat):Int)) % (p:Int)=Y0 m (fun j=>if j=s then α j else 0) % (p:Int):=Xx fun j J=>by
  have d:=C.du s j O J;have d2:((sm t.length (fun x=>f s x*e j x):Nat):Int) % (p:Int)=(if s=j then 1 else 0:Int):=by
   rw[<-a6,d];split <;> rfl
  rw[bH,d2];by_cases q:j=s
  ·rw[if_pos q,if_pos q.symm]
   simp
  ·rw[if_neg q,if_neg (fun z=>q z.symm)]
   simp
 rw[h3,ZdI O] at M;exact M
theorem ZnW (C:CD t p m e w f)(P:PW t){s c:Nat}(j:s<m)(J:c<m):Vc t p m e (fun s'=>if s'=s then 1 else 0) c=(EC t e s c:Int):=by
 unfold Vc;have:Y0 m (fun s'=>(if s'=s then (1:Int) else 0)*(EC t e s' c:Int))=Y0 m (fun s'=>if s'=s then (EC t e s' c:Int) else 0):=ZZ fun s' _=>by
  split
  ·rw[jo]
  ·rw[ce]
 rw[this,ZdI j];have q:ZI t c<t.length:=(Y6 P).rl c (by have:=C.mc;omega);have:=C.elt s _ j q;rw[fg (by omega)];unfold EC;omega
theorem Zl8 (C:CD t p m e w f)(P:PW t){c:Nat}(J:c<m):Vc t p m e (fun _=>1) c=if c=0 then 1 else 0:=by
 have U:=Y6 P;have j:c<(ZB t t.length).length:=by have:=C.mc;omega
 have q:=U.rl c j;unfold Vc;have:Y0 m (fun s=>1*(EC t e s c:Int))=((sm m (fun s=>e s (ZI t c)):Nat):Int):=by
  rw[<-Zam];exact ZZ fun s _=>jo _
 rw[this,<-a6,C.one _ q];have:ZI t c=0↔c=0:=by
  rw[<-U.z _ q,U.rn c j]
 by_cases h:c=0
 ·rw[if_pos (this.mpr h),if_pos h];rfl
 ·rw[if_neg (fun z=>h (this.mp z)),if_neg h];rfl
end
noncomputable def ffI (w:Nat):Nat->Int
 |0=>1
 |k+1=>ffI w k*((w:Int)-(k:Int))
theorem ZaP {w:Nat}:∀{k:Nat},w<k->ffI w k=0
 |0,h=>by omega
 |k+1,h=>by
  rw[ffI];by_cases e:w=k
  ·subst e
   rw[Int.sub_self,cr]
  ·rw[ZaP (by omega),ce]
theorem PrM.nzI {p:Nat}(h:PrM p){a:Int}{b:Nat}(M:a % (p:Int)≠0)(hb:0<b)(j:b<p):a*(b:Int) % (p:Int)≠0:=by
 have O:=h.p2;have p0:(p:Int)≠0:=by omega
 obtain⟨r,q⟩:=c8 (bV a p0);have J:=bI a (show (0:Int)<p by omega);rw[bH,q,<-a6 b p,<-aK,<-a6,bM j];have:=h.nz r b (by omega) (by omega) hb j;omega
theorem ZhI {p:Nat}(h:PrM p){w:Nat}(hw:w<p):∀{k:Nat},k<=w->ffI w k % (p:Int)≠0
 |0,_=>by
  have:=h.p2;rw[ffI,fg (by omega) (by omega)];decide
 |k+1,j=>by
  rw[ffI,show (w:Int)-(k:Int)=((w-k:Nat):Int) by omega];exact h.nzI (ZhI h hw (by omega)) (by omega) (by omega)
noncomputable def fcI (p:Nat):Nat->Int
 |0=>1
 |k+1=>fcI p k*((k:Int)+1) % (p:Int)
theorem Zb8 (w:Nat):∀k,ffI (w+1) (k+1)=((w:Int)+1)*ffI w k
 |0=>by
  show (1:Int)*(((w+1:Nat):Int)-0)=((w:Int)+1)*1;omega
 |k+1=>by
  rw[ffI,Zb8 w k,ffI];have:((w+1:Nat):Int)-((k+1:Nat):Int)=(w:Int)-(k:Int):=by omega
  rw[this,bZ]
theorem ZhK (p:Nat):∀k,fcI p k % (p:Int)=ffI k k % (p:Int)
 |0=>rfl
 |k+1=>by
  rw[fcI,Zb8,fF _ (iV _),bH,ZhK p k,<-bH,dC]
theorem ZkI {p:Nat}(j:2<=p):∀k,0<=fcI p k/\fcI p k<(p:Int)
 |0=>by unfold fcI;omega
 |k+1=>by
  rw[fcI];exact⟨bV _ (by omega),bI _ (by omega)⟩
noncomputable def J0 (S:Nat->Bool)(s:Nat):Int:=if S s then 1 else 0
theorem ZlA {m:Nat}{S:Nat->Bool}{g:Nat->Nat}(h:∃s,s<m/\S s=true):∃M,(∃s,s<m/\S s=true/\g s=M)/\∀s,s<m->S s=true->g s<=M:=by
 induction m with
 |zero=>obtain⟨s,U,_⟩:=h;omega
 |succ m ih=>
  by_cases O:∃s,s<m/\S s=true
  ·obtain⟨M,⟨s,U,h1,h2⟩,Y⟩:=ih O
   by_cases hq:S m=true/\M<g m
   ·refine⟨g m,⟨m,by omega,hq.1,rfl⟩,fun j J q=>?_⟩
    by_cases z:j=m
    ·rw[z];exact Zq _
    ·have:=Y j (by omega) q
     omega
   ·refine⟨M,⟨s,by omega,h1,h2⟩,fun j J q=>?_⟩
    by_cases z:j=m
    ·subst z
     by_cases zz:M<g j
     ·exact absurd ⟨q,zz⟩ hq
     ·omega
    ·exact Y j (by omega) q
  ·obtain⟨s,U,q⟩:=h
   have:s=m:=by
    by_cases z:s=m
    ·exact z
    ·exact absurd ⟨s,by omega,q⟩ O
   subst this;refine⟨g s,⟨s,by omega,q,rfl⟩,fun j J q'=>?_⟩;by_cases z:j=s
   ·rw[z];exact Zq _
   ·exact absurd ⟨j,by omega,q'⟩ O
section
variable {t:List (List Nat)}{p m:Nat}{e w f:Nat->Nat->Nat}
noncomputable def lpA (S:Nat->Bool)(g:Nat->Nat)(k s:Nat):Int:=J0 S s*ffI (g s) k
theorem Zjw (S:Nat->Bool)(g:Nat->Nat)(k:Nat):(fun s=>lpA S g k s*((g s:Int)-(k:Int)))=lpA S g (k+1):=by
 funext s;unfold lpA;rw[ffI,bZ]
theorem Zjv (S:Nat->Bool)(g:Nat->Nat):lpA S g 0=J0 S:=by
 funext s;unfold lpA;rw[ffI,io]
theorem ZlC (C:CD t p m e w f)(P:PW t){S:Nat->Bool}{g:Nat->Nat}(O:∀s,s<m->g s<p){M:Nat}(U:∃s,s<m/\S s=true/\g s=M)(Y:∀s,s<m->S s=true->g s<=M)(k:Nat) :
  (∃c,c<m/\Vc t p m e (lpA S g k) c≠0)↔k<=M:=by
 constructor
 ·rintro⟨c,J,h⟩
  by_cases z:k<=M
  ·exact z
  ·refine absurd ?_ h
   have:Vc t p m e (lpA S g k) c=Vc t p m e (fun _=>0) c:=JL (fun s j=>by
    unfold lpA J0;by_cases q:S s=true
    ·have:=Y s j q
     rw[ZaP (show g s<k by omega),cr]
    ·rw[if_neg q,ce]) c
   rw[this];unfold Vc;rw[ZZ (g:=fun _=>0) fun s _=>ce _,Jw];rfl
 ·intro hk
  obtain⟨s,j,q1,q2⟩:=U;refine ah fun hn=>?_;have hz:∀c,c<m->Vc t p m e (lpA S g k) c=0:=fun c J=>ah fun z=>hn ⟨c,J,z⟩;have:=ZkM C P _ hz s j;unfold lpA J0 at this;rw[if_pos q1,jo] at this;exact ZhI C.pr (O s j) (by omega) this
noncomputable def JZ (S:Nat->Bool)(g:Nat->Nat)(M:Nat)(s:Nat):Bool:=S s && decide (g s=M)
theorem ZlB (C:CD t p m e w f){S:Nat->Bool}{g:Nat->Nat}{M:Nat}(j:∀s,s<m->S s=true->g s<=M){u:Int}(J:u*fcI p M % (p:Int)=1)(c:Nat) :
  Vc t p m e (lpA S g M) c*u % (p:Int)=Vc t p m e (J0 (JZ S g M)) c:=by
 rw[Zic];refine JL (fun s O=>?_) c;unfold lpA J0 JZ;by_cases q:S s=true
 ·rw[q,if_pos rfl,jo]
  by_cases z:g s=M
  ·rw[decide_eq_true z,z]
   show ffI M M*u % (p:Int)=1 % (p:Int);rw[bH,<-ZhK,<-bH,dC,J,fg (by omega) (by have:=C.pr.p2;omega)]
  ·have:=j s O q
   rw[decide_eq_false z,ZaP (show g s<M by omega),ce];rfl
 ·rw[if_neg q,ce,ce]
  have:S s=false:=by cases U:S s with|true=>exact absurd U q|false=>rfl
  rw[this];rfl
noncomputable def ZaH (S:Nat->Bool)(g:Nat->Nat)(M:Nat)(s:Nat):Bool:=S s && decide (g s<M)
theorem ZlD {S:Nat->Bool}{g:Nat->Nat}{M:Nat}(j:∀s,s<m->S s=true->g s<=M)(c:Nat) :
  (Vc t p m e (J0 S) c-Vc t p m e (J0 (JZ S g M)) c) % (p:Int)=Vc t p m e (J0 (ZaH S g M)) c:=by
 rw[Zl7];refine JL (fun s J=>?_) c;congr 1;unfold J0 JZ ZaH;cases q:S s with
 |false=>rfl
 |true=>
  have:=j s J q;by_cases z:g s=M
  ·rw[decide_eq_true z,decide_eq_false (by omega)];rfl
  ·rw[decide_eq_false z,decide_eq_true (by omega)];rfl
theorem ZeG (C:CD t p m e w f)(P:PW t)(S:Nat->Bool):(∃c,c<m/\Vc t p m e (J0 S) c≠0)↔∃s,s<m/\S s=true:=by
 constructor
 ·rintro⟨c,M,h⟩
  refine ah fun j=>h ?_;have:Vc t p m e (J0 S) c=Vc t p m e (fun _=>0) c:=JL (fun s J=>by
   unfold J0;rw[if_neg (fun z=>j ⟨s,J,z⟩)]) c
  rw[this];unfold Vc;rw[ZZ (g:=fun _=>0) fun s _=>ce _,Jw];rfl
 ·rintro⟨s,J,q⟩
  refine ah fun j=>?_;have:=ZkM C P _ (fun c M=>ah fun z=>j ⟨c,M,z⟩) s J;unfold J0 at this;rw[if_pos q,fg (by omega) (by have:=C.pr.p2;omega)] at this;cases this
end
structure PtS (m:Nat)(S:Nat->Bool)(g:Nat->Nat)(Ss:List (Nat->Bool)):Prop where
 ne:∀T∈Ss,∃s,s<m/\T s=true
 sub:∀T∈Ss,∀s,s<m->T s=true->S s=true
 cov:∀s,s<m->S s=true->∃T∈Ss,T s=true
 dj:Ss.Pairwise fun T T'=>∀s,s<m->T s=true->T' s=true->False
 eq:∀T∈Ss,∀s s',s<m->s'<m->T s=true->T s'=true->g s=g s'
structure PtW (m:Nat)(S:Nat->Bool)(g:Nat->Nat)(Ss:List (Nat->Bool))(R:Nat->Bool):Prop where
 ne:∀T∈Ss,∃s,s<m/\T s=true
 sub:∀T∈Ss,∀s,s<m->T s=true->S s=true
 rs:∀s,s<m->R s=true->S s=true
 cov:∀s,s<m->S s=true->R s=true\/∃T∈Ss,T s=true
 dj:Ss.Pairwise fun T T'=>∀s,s<m->T s=true->T' s=true->False
 dr:∀T∈Ss,∀s,s<m->T s=true->R s=true->False
 eq:∀T∈Ss,∀s s',s<m->s'<m->T s=true->T s'=true->g s=g s'
theorem PtW.zero {m:Nat}{S:Nat->Bool}{g:Nat->Nat}:PtW m S g [] S:=
 ⟨fun _ h=>(by cases h),fun _ h=>(by cases h),fun s _ h=>h,fun s _ h=>.inl h,.nil,fun _ h=>(by cases h),fun _ h=>(by cases h)⟩
theorem PtW.step {m:Nat}{S R:Nat->Bool}{g:Nat->Nat}{Ss:List (Nat->Bool)}(W:PtW m S g Ss R){M:Nat}(h1:∃s,s<m/\R s=true/\g s=M)(h2:∀s,s<m->R s=true->g s<=M):PtW m S g (Ss++[JZ R g M]) (ZaH R g M):=by
 have U:∀s,JZ R g M s=true->R s=true/\g s=M:=fun s h=>by
  unfold JZ at h;rw[ag,decide_eq_true_eq] at h;exact h
 have lw:∀s,ZaH R g M s=true->R s=true/\g s<M:=fun s h=>by
  unfold ZaH at h;rw[ag,decide_eq_true_eq] at h;exact h
 have O:∀{T:Nat->Bool},T∈Ss++[JZ R g M]->T∈Ss\/T=JZ R g M:=fun {T} h=>by
  rcases bJ.mp h with h|h
  ·exact .inl h
  ·exact .inr (aS.mp h)
 refine⟨fun T J=>?_,fun T J s j q=>?_,fun s j q=>W.rs s j (lw s q).1,fun s j q=>?_,?_,fun T J s j q1 q2=>?_,fun T J s s' j m5 q Y=>?_⟩
 ·rcases O J with h|rfl
  ·exact W.ne T h
  ·obtain⟨s,j,a,b⟩:=h1
   exact⟨s,j,by unfold JZ;rw[a,decide_eq_true b];rfl⟩
 ·rcases O J with h|rfl
  ·exact W.sub T h s j q
  ·exact W.rs s j (U s q).1
 ·rcases W.cov s j q with h|⟨T,J,h⟩
  ·have:=h2 s j h
   by_cases z:g s=M
   ·exact .inr ⟨_,aR _ aq,by unfold JZ;rw[h,decide_eq_true z];rfl⟩
   ·exact .inl (by unfold ZaH;rw[h,decide_eq_true (by omega)];rfl)
  ·exact .inr ⟨T,bW _ J,h⟩
 ·rw[hU]
  refine⟨W.dj,gE _ _,fun T J T' m6 s j q Y=>?_⟩;rw[aS.mp m6] at Y;exact W.dr T J s j q (U s Y).1
 ·rcases O J with h|rfl
  ·exact W.dr T h s j q1 (lw s q2).1
  ·have a:=(U s q1).2
   have b:=(lw s q2).2;omega
 ·rcases O J with h|rfl
  ·exact W.eq T h s s' j m5 q Y
  ·rw[(U s q).2,(U s' Y).2]
theorem PtW.end {m:Nat}{S R:Nat->Bool}{g:Nat->Nat}{j:List (Nat->Bool)}(W:PtW m S g j R)(h:¬ ∃s,s<m/\R s=true):PtS m S g j:=
 ⟨W.ne,W.sub,fun s J q=>by
  rcases W.cov s J q with z|z
  ·exact absurd ⟨s,J,z⟩ h
  ·exact z,W.dj,W.eq⟩
structure J6 (m:Nat)(w:Nat->Nat->Nat)(i:Nat)(Ss:List (Nat->Bool)):Prop where
 ne:∀T∈Ss,∃s,s<m/\T s=true
 cov:∀s,s<m->∃T∈Ss,T s=true
 dj:Ss.Pairwise fun T T'=>∀s,s<m->T s=true->T' s=true->False
 eq:∀T∈Ss,∀s s',s<m->s'<m->T s=true->T s'=true->∀j,j<i->w s j=w s' j
theorem J6.zero {m:Nat}(m1:1<=m)(w:Nat->Nat->Nat):J6 m w 0 [fun _=>true]:=
 ⟨fun T q=>⟨0,m1,by rw[aS.mp q]⟩,fun s _=>⟨_,aq,rfl⟩,gE _ _,fun _ _ _ _ _ _ _ _ j J=>by omega⟩
inductive FiS (m:Nat) (g:Nat->Nat):List (Nat->Bool)->List (Nat->Bool)->Prop
 |nil:FiS m g [] []
 |snoc {Ss Fs Ts:List (Nat->Bool)}{S:Nat->Bool}:FiS m g Ss Fs->PtS m S g Ts->FiS m g (Ss++[S]) (Fs++Ts)
theorem FiS.out {m:Nat}{g:Nat->Nat}{M O:List (Nat->Bool)}(h:FiS m g M O):(∀T∈O,(∃s,s<m/\T s=true)/\(∃S∈M,∀s,s<m->T s=true->S s=true)/\∀s s',s<m->s'<m->T s=true->T s'=true->g s=g s')/\(∀S∈M,∀s,s<m->S s=true->∃T∈O,T s=true):=by
 induction h with
 |nil=>exact⟨fun _ h=>(by cases h),fun _ h=>(by cases h)⟩
 |snoc h p U=>
  refine⟨fun T j=>?_,fun S J s Y q=>?_⟩
  ·rcases bJ.mp j with j|j
   ·obtain⟨a,⟨S,J,b⟩,c⟩:=U.1 T j
    exact⟨a,⟨S,bW _ J,b⟩,c⟩
   ·exact⟨p.ne T j,⟨_,aR _ aq,p.sub T j⟩,p.eq T j⟩
  ·rcases bJ.mp J with J|J
   ·obtain⟨T,j,z⟩:=U.2 S J s Y q
    exact⟨T,bW _ j,z⟩
   ·rw[aS.mp J] at q
    obtain⟨T,j,z⟩:=p.cov s Y q;exact⟨T,aR _ j,z⟩
theorem FiS.dj {m:Nat}{g:Nat->Nat}{U Y:List (Nat->Bool)}(h:FiS m g U Y)(J:U.Pairwise fun T j=>∀s,s<m->T s=true->j s=true->False):Y.Pairwise fun T j=>∀s,s<m->T s=true->j s=true->False:=by
 induction h with
 |nil=>exact .nil
 |snoc h p ih=>
  rw[hU] at J ⊢;refine⟨ih J.1,p.dj,fun T hT j M s O q q'=>?_⟩;obtain⟨_,⟨S,hS,b⟩,_⟩:=h.out.1 T hT;exact J.2.2 S hS _ aq s O (b s O q) (p.sub j M s O q')
theorem J6.step {m i:Nat}{w:Nat->Nat->Nat}{Ss Fs:List (Nat->Bool)}(A:J6 m w i Ss)(h:FiS m (fun s=>w s i) Ss Fs):J6 m w (i+1) Fs:=by
 refine⟨fun T O=>(h.out.1 T O).1,fun s M=>?_,h.dj A.dj,fun T O s U M J q q' j hj=>?_⟩
 ·obtain⟨S,Y,q⟩:=A.cov s M
  exact h.out.2 S Y s M q
 ·obtain⟨_,⟨S,Y,b⟩,c⟩:=h.out.1 T O
  by_cases z:j=i
  ·rw[z];exact c s U M J q q'
  ·exact A.eq S Y s U M J (b s M q) (b U J q') j (by omega)
noncomputable def pkS (m:Nat)(T:Nat->Bool):Nat:=((ae m).find? T).getD 0
theorem J7 {m:Nat}{T:Nat->Bool}(h:∃s,s<m/\T s=true):pkS m T<m/\T (pkS m T)=true:=by
 obtain⟨s,j,q⟩:=h;unfold pkS;cases z:(ae m).find? T with
 |none=>
  have:=iF.mp z s (af.mpr j);exact absurd q this
 |some x=>exact⟨af.mp (fZ z),jj z⟩
theorem US {m:Nat}:∀{J:List (Nat->Bool)},(∀T∈J,∃s,s<m/\T s=true)->(J.Pairwise fun T j=>∀s,s<m->T s=true->j s=true->False)->(J.map (pkS m)).Nodup
 | [],_,_=>dU
 |T::J,M,hd=>by
  rw[lH] at hd;rw[aQ,bQ];refine⟨fun h=>?_,US (fun j O=>M j (ao _ O)) hd.2⟩;obtain⟨j,q,z⟩:=aI.mp h;have a:=J7 (M T aq);have b:=J7 (M j (ao _ q));rw[z] at b;exact hd.1 j q _ a.1 a.2 b.2
theorem J6.len {m i:Nat}{w:Nat->Nat->Nat}{j:List (Nat->Bool)}(A:J6 m w i j):j.length<=m:=by
 have:=L2.Yp (j.map (pkS m)) (ae m) (US A.ne A.dj) (fun x q=>by
  obtain⟨T,J,rfl⟩:=aI.mp q;exact af.mpr (J7 (A.ne T J)).1)
 rwa [Za,Zg] at this
theorem Zjq {l:List Nat}{m:Nat}(nd:l.Nodup)(q:∀x∈l,x<m)(len:l.length=m):l.Perm (ae m):=by
 have J:∀x,x<m->x∈l:=fun x M=>by
  refine ah fun O=>?_;have:=L2.Yp (x::l) (ae m) (bQ.mpr ⟨O,nd⟩) (fun y j=>by
   rcases aG.mp j with rfl|j
   ·exact af.mpr M
   ·exact af.mpr (q y j))
  rw[Zi,Zg] at this;omega
 exact (cI nd ee).mpr fun x=>⟨fun h=>af.mpr (q x h),fun h=>J x (af.mp h)⟩
theorem ZnD {m:Nat}{J:List (Nat->Bool)}(hd:J.Pairwise fun T j=>∀s,s<m->T s=true->j s=true->False){T j:Nat->Bool}(h:T∈J)(h':j∈J){s:Nat}(Y:s<m)(q:T s=true)(M:j s=true):T=j:=by
 induction hd with
 |nil=>cases h
 |cons a _ ih=>
  rcases aG.mp h with e1|h1
  ·rcases aG.mp h' with O|U
   ·rw[e1,O]
   ·rw[e1] at q
    exact (a _ U s Y q M).elim
  ·rcases aG.mp h' with O|U
   ·rw[O] at M
    exact (a _ h1 s Y M q).elim
   ·exact ih h1 U
theorem J6.full {m i:Nat}{w:Nat->Nat->Nat}{J:List (Nat->Bool)}(A:J6 m w i J)(h:m<=J.length):∀T∈J,∀s s',s<m->s'<m->T s=true->T s'=true->s=s':=by
 have Y:(J.map (pkS m)).Perm (ae m):=Zjq (US A.ne A.dj) (fun x hx=>by
  obtain⟨T,j,rfl⟩:=aI.mp hx;exact (J7 (A.ne T j)).1) (by rw[Za];have:=A.len;omega)
 have key:∀T∈J,∀s,s<m->T s=true->s=pkS m T:=fun T j s O q=>by
  obtain⟨T',M,z⟩:=aI.mp (Y.mem_iff.mpr (af.mpr O));have b:=J7 (A.ne T' M);rw[z] at b;rw[ZnD A.dj j M O q b.2,z]
 intro T j s s' O U q q';rw[key T j s O q,key T j s' U q']
theorem J6.skip {m i:Nat}{w:Nat->Nat->Nat}{J:List (Nat->Bool)}(A:J6 m w i J)(h:m<=J.length):J6 m w (i+1) J:=
 ⟨A.ne,A.cov,A.dj,fun T O s U Y M q q' j _=>by rw[A.full h T O s U Y M q q']⟩
theorem J6.end {m:Nat}{w:Nat->Nat->Nat}{M:List (Nat->Bool)}(A:J6 m w m M)(O:∀s s',s<m->s'<m->(∀j,j<m->w s j=w s' j)->s=s'):(M.map (pkS m)).Perm (ae m)/\∀T∈M,∀s,s<m->T s=decide (s=pkS m T):=by
 have one:∀T∈M,∀s,s<m->T s=decide (s=pkS m T):=fun T J s U=>by
  have a:=J7 (A.ne T J);cases q:T s with
  |true=>exact (decide_eq_true (O s _ U a.1 (A.eq T J s _ U a.1 q a.2))).symm
  |false=>
   refine (decide_eq_false fun z=>?_).symm;rw[z,a.2] at q;cases q
 refine⟨?_,one⟩;refine (cI (US A.ne A.dj) ee).mpr fun x=>⟨fun h=>?_,fun h=>?_⟩
 ·obtain⟨T,J,rfl⟩:=aI.mp h
  exact af.mpr (J7 (A.ne T J)).1
 ·have Y:=af.mp h
  obtain⟨T,J,q⟩:=A.cov x Y;rw[one T J x Y] at q;rw[of_decide_eq_true q];exact aI.mpr ⟨T,J,rfl⟩
noncomputable def Vt (count p:Nat):Bool:=decide (p*p<=4*count) || (ae (p-2)).any fun k=>p % (k+2) == 0
structure Zn6 (n count p:Nat):Prop where
 st:∃J,p=(n+1)+J*n/\∀j,j<J->Vt count ((n+1)+j*n)=true
 ok:Vt count p=false
 p2:2<=p
 lt:p<=100000
structure ZnX (p z r:Nat):Prop where
 r1:1<=r
 rp:r<=p
 one:z ^ r % p=1
 nz:∀k,1<=k->k<r->z ^ k % p≠1
noncomputable def RtP (n p j:Nat):Prop:=(j=1/\n=1)\/(2<=j/\j<p/\n≠1/\∃r:Nat->Nat,(∀z,2<=z->z<=j->ZnX p z (r z))/\(∀z,2<=z->z<j->r z≠n)/\r j=n)
structure TD (t:List (List Nat))(n p m:Nat)(e ω φ:Nat->Nat->Nat)(z:Nat)(dg:Nat->Nat):Prop where
 cd:CD t p m e ω φ
 n1:1<=n
 n60:n<=60
 all:∀a,a<t.length->it t a n=0
 mn:∀x,(∀a,a<t.length->it t a x=0)->x % n=0
 fit:Zn6 n t.length p
 rt:RtP n p z
 d1:∀s,s<m->1<=dg s
 dp:∀s,s<m->dg s<p
 dl:∀s,s<m->dg s<=1000
 dq:∀s,s<m->((dg s:Int)*(dg s:Int)-(e s 0:Int)*(t.length:Int)) % (p:Int)=0
 dm:∀s d',s<m->1<=d'->d'<dg s->((d':Int)*(d':Int)-(e s 0:Int)*(t.length:Int)) % (p:Int)≠0
structure Dt where
 n:Nat
 p:Nat
 z:Nat
 cl:List Nat
 rp:List Nat
 E:List (List Nat)
 W:List (List Nat)
 F:List (List Nat)
 dg:List Nat
noncomputable def Vu (M:List (List Nat))(i j:Nat):Nat:=(M.getD i []).getD j 0
noncomputable def fA (n:Nat)(f:Nat->Bool):Bool:=(ae n).all f
theorem YD {n:Nat}{f:Nat->Bool}(h:fA n f=true){i:Nat}(j:i<n):f i=true:=aP.mp h i (af.mpr j)
noncomputable def fE (n:Nat)(f:Nat->Bool):Bool:=(ae n).any f
theorem Zeu {n:Nat}{f:Nat->Bool}(h:fE n f=true):∃i,i<n/\f i=true:=by
 obtain⟨i,hi,q⟩:=aY.mp h;exact⟨i,af.mp hi,q⟩
noncomputable def prB (p:Nat):Bool:=decide (2<=p) && (fA (p-1) fun a=>fA (p-1) fun b=>(a+1)*(b+1) % p != 0) && fA (p-1) fun a=>fE (p-1) fun b=>(b+1)*(a+1) % p == 1
theorem Zm0 {p:Nat}(h:prB p=true):PrM p:=by
 unfold prB at h;rw[ag,ag,decide_eq_true_eq] at h;obtain⟨⟨j,J⟩,M⟩:=h;refine⟨j,fun a b O U Y bp=>?_,fun a O U=>?_⟩
 ·have:=YD (YD J (i:=a-1) (by omega)) (i:=b-1) (by omega)
  rw[show a-1+1=a by omega,show b-1+1=b by omega] at this;simpa using this
 ·obtain⟨b,hb,q⟩:=Zeu (YD M (i:=a-1) (by omega))
  rw[show a-1+1=a by omega] at q;exact⟨b+1,by omega,by omega,eq_of_beq q⟩
noncomputable def ZhH (n count p:Nat):Nat->Nat->Bool
 |0,q=>decide (q=p) && !Vt count q
 |f+1,q=>if q=p then !Vt count q else Vt count q && ZhH n count p f (q+n)
theorem Zet {n count p:Nat}:∀{f q:Nat},ZhH n count p f q=true->(∃J,p=q+J*n/\∀j,j<J->Vt count (q+j*n)=true)/\Vt count p=false
 |0,q,h=>by
  rw[ZhH,ag,decide_eq_true_eq] at h;obtain⟨e,h⟩:=h;subst e;exact⟨⟨0,by omega,fun j M=>by omega⟩,by simpa using h⟩
 |f+1,q,h=>by
  rw[ZhH] at h;by_cases e:q=p
  ·rw[if_pos e] at h
   subst e;exact⟨⟨0,by omega,fun j M=>by omega⟩,by simpa using h⟩
  ·rw[if_neg e,ag] at h
   obtain⟨⟨J,O,U⟩,Y⟩:=Zet h.2;refine⟨⟨J+1,by rw[O,b8];omega,fun j M=>?_⟩,Y⟩;cases j with
   |zero=>rw[fV,gQ];exact h.1
   |succ j=>
    have:=U j (by omega);rw[b8];rw[show q+(j*n+n)=q+n+j*n by omega];exact this
noncomputable def Zlp (p z r:Nat):Bool:=decide (1<=r) && decide (r<=p) && (z ^ r % p == 1) && fA r fun k=>k == 0 || z ^ k % p != 1
theorem Zjc {p z r:Nat}(h:Zlp p z r=true):ZnX p z r:=by
 unfold Zlp at h;rw[ag,ag,ag,decide_eq_true_eq,decide_eq_true_eq] at h;obtain⟨⟨⟨j,J⟩,M⟩,O⟩:=h;refine⟨j,J,eq_of_beq M,fun k Y U=>?_⟩;have:=YD O U;rw[bq] at this;rcases this with q|q
 ·have:=eq_of_beq q
  omega
 ·simpa using q
noncomputable def rdZ (p z:Nat):Nat:=(((ae p).find? fun r=>z ^ (r+1) % p == 1).getD 0)+1
noncomputable def rtB (n p j:Nat):Bool:=(j == 1 && n == 1) || (decide (2<=j) && decide (j<p) && n != 1 && (fA (j+1) fun z=>decide (z<2) || (Zlp p z (rdZ p z) && (z == j || rdZ p z != n))) && rdZ p j == n)
theorem ZmP {n p j:Nat}(h:rtB n p j=true):RtP n p j:=by
 unfold rtB at h;rw[bq] at h;rcases h with h|h
 ·rw[ag] at h
  exact .inl ⟨eq_of_beq h.1,eq_of_beq h.2⟩
 ·rw[ag,ag,ag,ag,decide_eq_true_eq,decide_eq_true_eq] at h
  obtain⟨⟨⟨⟨M,O⟩,U⟩,J⟩,Y⟩:=h;refine .inr ⟨M,O,by simpa using U,rdZ p,fun z z2 zz=>?_,fun z z2 zz=>?_,eq_of_beq Y⟩
  ·have:=YD J (i:=z) (by omega)
   rw[decide_eq_false (by omega),gw,ag] at this;exact Zjc this.1
  ·have:=YD J (i:=z) (by omega)
   rw[decide_eq_false (by omega),gw,ag,bq] at this;rcases this.2 with q|q
   ·have:=eq_of_beq q
    omega
   ·simpa using q
noncomputable def itB (t:List (List Nat))(n:Nat):Bool:=(fA t.length fun a=>it t a n == 0) && fA n fun x=>x == 0 || fE t.length fun a=>it t a x != 0
noncomputable def Zj1 (t:List (List Nat))(bs:List Nat):Bool:=fA t.length fun a=>decide (bs.getD a 0<t.length) && ZM t a (bs.getD a 0) == 0
noncomputable def tbL (t:List (List Nat))(bs:List Nat)(b x:Nat):Nat:=ZM t (ZM t x b) (bs.getD x 0)
noncomputable def clB (t:List (List Nat))(bs:List Nat)(D:Dt):Bool:=
 (fA t.length fun x=>decide (D.cl.getD x 0<D.rp.length) && ((D.cl.getD x 0 == 0) == (x == 0)) && (fA t.length fun s=>D.cl.getD (tbL t bs x s) 0 == D.cl.getD x 0) && fE t.length fun s=>tbL t bs (D.rp.getD (D.cl.getD x 0) 0) s == x) &&
 fA D.rp.length fun k=>decide (D.rp.getD k 0<t.length) && D.cl.getD (D.rp.getD k 0) 0 == k
noncomputable def Zo9 (t:List (List Nat))(bs:List Nat)(D:Dt):Bool:=fA D.rp.length fun s=>fA D.rp.length fun i=>fA D.rp.length fun c=>
 sm t.length (fun x=>JF (decide (D.cl.getD x 0=i))*Vu D.E s (D.cl.getD (ZM t (bs.getD x 0) (D.rp.getD c 0)) 0)) % D.p == Vu D.W s i*Vu D.E s c % D.p
noncomputable def tdB (t:List (List Nat))(bs:List Nat)(D:Dt):Bool:=
 prB D.p && decide (D.p<=1000) && decide (1<=D.rp.length) && decide (1<=D.n) && decide (D.n<=60) && itB t D.n && ZhH D.n t.length D.p 60 (D.n+1) && rtB D.n D.p D.z && Zj1 t bs && clB t bs D && Zo9 t bs D &&
 (fA D.rp.length fun s=>fA D.rp.length fun c=>decide (Vu D.E s c<D.p) && decide (Vu D.W s c<D.p)) &&
 (fA D.rp.length fun c=>sm D.rp.length (fun s=>Vu D.E s c) % D.p == if c=0 then 1 else 0) &&
 (fA D.rp.length fun s=>fA D.rp.length fun j=>sm t.length (fun x=>Vu D.F s (D.cl.getD x 0)*Vu D.E j (D.cl.getD x 0)) % D.p == if s=j then 1 else 0) &&
 (fA D.rp.length fun s=>fA D.rp.length fun j=>s == j || fE D.rp.length fun i=>Vu D.W s i != Vu D.W j i) &&
 fA D.rp.length fun s=>decide (1<=D.dg.getD s 0) && decide (D.dg.getD s 0<D.p) && (((D.dg.getD s 0:Int)*(D.dg.getD s 0:Int)-(Vu D.E s 0:Int)*(t.length:Int)) % (D.p:Int) == 0) && fA (D.dg.getD s 0) fun d=>d == 0 || ((d:Int)*(d:Int)-(Vu D.E s 0:Int)*(t.length:Int)) % (D.p:Int) != 0
section
variable {t:List (List Nat)}{bs:List Nat}{D:Dt}
noncomputable def eD (D:Dt)(s x:Nat):Nat:=Vu D.E s (D.cl.getD x 0)
noncomputable def wD (D:Dt)(s x:Nat):Nat:=Vu D.W s (D.cl.getD x 0)
noncomputable def fD (D:Dt)(s x:Nat):Nat:=Vu D.F s (D.cl.getD x 0)
theorem Zh7 (P:PW t)(h:Zj1 t bs=true){a:Nat}(j:a<t.length):bs.getD a 0=YB t a:=by
 have:=YD h j;rw[ag,decide_eq_true_eq] at this;exact Xq P j this.1 (eq_of_beq this.2)
theorem ZfW (P:PW t)(h:Zj1 t bs=true){b x:Nat}(j:x<t.length):tbL t bs b x=tb t b x:=by
 unfold tbL tb;rw[Zh7 P h j]
structure ClW (t:List (List Nat))(cl rp:Nat->Nat)(m:Nat):Prop where
 lt:∀x,x<t.length->cl x<m
 z:∀x,x<t.length->(cl x=0↔x=0)
 con:∀x s,x<t.length->s<t.length->cl (tb t x s)=cl x
 tr:∀x,x<t.length->∃s,s<t.length/\tb t (rp (cl x)) s=x
 rl:∀k,k<m->rp k<t.length
 rn:∀k,k<m->cl (rp k)=k
theorem ZlZ (P:PW t)(hb:Zj1 t bs=true)(h:clB t bs D=true):ClW t (fun x=>D.cl.getD x 0) (fun k=>D.rp.getD k 0) D.rp.length:=by
 unfold clB at h;rw[ag] at h;have g:∀{x},x<t.length->D.cl.getD x 0<D.rp.length/\((D.cl.getD x 0 == 0) == (x == 0))=true/\(fA t.length fun s=>D.cl.getD (tbL t bs x s) 0 == D.cl.getD x 0)=true/\(fE t.length fun s=>tbL t bs (D.rp.getD (D.cl.getD x 0) 0) s == x)=true:=fun {x} j=>by
  have:=YD h.1 j;rw[ag,ag,ag,decide_eq_true_eq] at this;exact⟨this.1.1.1,this.1.1.2,this.1.2,this.2⟩
 have g2:∀{k},k<D.rp.length->D.rp.getD k 0<t.length/\D.cl.getD (D.rp.getD k 0) 0=k:=fun {k} J=>by
  have:=YD h.2 J;rw[ag,decide_eq_true_eq] at this;exact⟨this.1,eq_of_beq this.2⟩
 refine⟨fun x j=>(g j).1,fun x j=>?_,fun x s j M=>?_,fun x j=>?_,fun k J=>(g2 J).1,fun k J=>(g2 J).2⟩
 ·have:=eq_of_beq (g j).2.1
  constructor
  ·intro q
   have q:D.cl.getD x 0=0:=q;rw[q] at this;exact eq_of_beq this.symm
  ·intro q
   rw[q] at this ⊢;exact eq_of_beq this
 ·have:=eq_of_beq (YD (g j).2.2.1 M)
  rw[ZfW P hb M] at this;exact this
 ·obtain⟨s,M,q⟩:=Zeu (g j).2.2.2
  have:=eq_of_beq q;rw[ZfW P hb M] at this;exact⟨s,M,this⟩
variable {cl rp:Nat->Nat}{m:Nat}
theorem ClW.cj (P:PW t)(C:ClW t cl rp m){u x:Nat}(j:u<t.length)(J:x<t.length):cjB t u x=decide (cl x=cl u):=by
 by_cases h:cl x=cl u
 ·rw[decide_eq_true h]
  obtain⟨s1,h1,e1⟩:=C.tr u j;obtain⟨O,h2,U⟩:=C.tr x J;rw[h] at U;have M:=C.rl (cl u) (C.lt u j);have n1:=P.n1;have:tb t u 0=tb t (rp (cl u)) s1:=by rw[Zaf P j];exact e1.symm
  obtain⟨z,hz,ez⟩:=Zag P j M n1 h1 this;have e3:tb t (rp (cl u)) O=tb t x 0:=by rw[Zaf P J];exact U
  have m1:u∈ZO t (rp (cl u)):=(Z4 P M).mpr ⟨s1,h1,e1⟩;have m2:x∈ZO t (rp (cl u)):=(Z4 P M).mpr ⟨O,h2,U⟩;have m3:rp (cl u)∈ZO t u:=(Z4 P j).mpr ⟨z,hz,ez⟩;have m4:x∈ZO t u:=Yd P j J m3 (by
   have:tb t x 0=tb t (rp (cl u)) O:=e3.symm;obtain⟨z2,Y,m5⟩:=Zag P J M n1 h2 this;exact (Z4 P J).mpr ⟨z2,Y,m5⟩)
  exact Xo.mpr ((Z4 P j).mp m4)
 ·rw[decide_eq_false h]
  cases q:cjB t u x with
  |false=>rfl
  |true=>
   obtain⟨y,hy,e⟩:=Xo.mp q;have:=C.con u y j hy;rw[e] at this;exact absurd this h
theorem Zhf {n:Nat}{f:Nat->Nat}(h:∀a b,a<n->b<n->f a=f b->a=b):((ae n).map f).Nodup:=by
 rw[List.Nodup,gf];exact dJ (fun {a b} j hb ne e=>ne (h a b (af.mp j) (af.mp hb) e)) ee
theorem ClW.count (P:PW t)(C:ClW t cl rp m):m=(ZB t t.length).length:=by
 have U:=Y6 P;have q:∀x y,x<t.length->y<t.length->(cl x=cl y↔Y2 t x=Y2 t y):=fun x y j O=>by
  have a:=C.cj P O j;rw[Zh4 P O j] at a;exact⟨fun h=>by
   rw[decide_eq_true h] at a;exact of_decide_eq_true a,fun h=>by
   rw[decide_eq_true h] at a;exact of_decide_eq_true a.symm⟩
 have Y:=L2.Yp ((ae m).map fun k=>Y2 t (rp k)) (ae (ZB t t.length).length) (by
  refine Zhf fun a b J hb e=>?_;have:=(q _ _ (C.rl a J) (C.rl b hb)).mpr e;rw[C.rn a J,C.rn b hb] at this;exact this) (fun x j=>by
  obtain⟨k,M,rfl⟩:=aI.mp j;exact af.mpr (U.lt _ (C.rl k (af.mp M))))
 have l2:=L2.Yp ((ae (ZB t t.length).length).map fun k=>cl (ZI t k)) (ae m) (by
  refine Zhf fun a b J hb e=>?_;have:=(q _ _ (U.rl a J) (U.rl b hb)).mp e;rw[U.rn a J,U.rn b hb] at this;exact this) (fun x j=>by
  obtain⟨k,M,rfl⟩:=aI.mp j;exact af.mpr (C.lt _ (U.rl k (af.mp M))))
 rw[Za,Zg,Zg] at Y l2;omega
theorem ClW.turn (P:PW t)(C:ClW t cl rp m)(E:Nat->Nat)(i:Nat){z y:Nat}(hz:z<t.length)(j:y<t.length):sm t.length (fun x=>JF (decide (cl x=i))*E (cl (ZM t (YB t x) (tb t z y))))=sm t.length (fun x=>JF (decide (cl x=i))*E (cl (ZM t (YB t x) z))):=by
 rw[<-Zix P j (fun x=>JF (decide (cl x=i))*E (cl (ZM t (YB t x) (tb t z y))))];refine Yl fun x q=>?_;rw[C.con x y q j,ZkX P j q,<-Zcx P j (Yh P q).1 hz,C.con _ y (P.lt _ _ (Yh P q).1 hz) j]
theorem ZmA (P:PW t)(h:tdB t bs D=true):TD t D.n D.p D.rp.length (eD D) (wD D) (fD D) D.z (fun s=>D.dg.getD s 0):=by
 unfold tdB at h;simp only[ag] at h;obtain⟨⟨⟨⟨⟨⟨⟨⟨⟨⟨⟨⟨⟨⟨⟨h1,h2⟩,h3⟩,h4⟩,h5⟩,h6⟩,h7⟩,h8⟩,h9⟩,m6⟩,m8⟩,n6⟩,n8⟩,n9⟩,o0⟩,o5⟩:=h;have o6:=of_decide_eq_true h2;have m1:=of_decide_eq_true h3;have n1:=of_decide_eq_true h4;have n60:=of_decide_eq_true h5;have C:=ZlZ P h9 m6;have N1:=P.n1;have pr:=Zm0 h1;have O:∀{s c},s<D.rp.length->c<D.rp.length->Vu D.E s c<D.p/\Vu D.W s c<D.p:=fun {s c} j hc=>by
  have:=YD (YD n6 j) hc;rw[ag,decide_eq_true_eq,decide_eq_true_eq] at this;exact this
 have o7:D.cl.getD 0 0=0:=(C.z 0 N1).mpr rfl;have M:∀{s},s<D.rp.length->1<=D.dg.getD s 0/\D.dg.getD s 0<D.p/\((D.dg.getD s 0:Int)*(D.dg.getD s 0:Int)-(Vu D.E s 0:Int)*(t.length:Int)) % (D.p:Int)=0/\∀d,1<=d->d<D.dg.getD s 0->((d:Int)*(d:Int)-(Vu D.E s 0:Int)*(t.length:Int)) % (D.p:Int)≠0:=fun {s} j=>by
  have:=YD o5 j;simp only[ag,decide_eq_true_eq] at this;obtain⟨⟨⟨a,b⟩,c⟩,d⟩:=this;refine⟨a,b,eq_of_beq c,fun k k1 kd=>?_⟩;have:=YD d kd;rw[bq] at this;rcases this with q|q
  ·have:=eq_of_beq q
   omega
  ·simpa using q
 have e0:∀s,eD D s 0=Vu D.E s 0:=fun s=>by unfold eD;rw[o7]
 unfold itB at h6;rw[ag] at h6;have U:∀a,a<t.length->it t a D.n=0:=fun a Y=>eq_of_beq (YD h6.1 Y);obtain⟨f1,f2⟩:=Zet h7;refine⟨?_,n1,n60,U,fun x J=>?_,⟨f1,f2,pr.p2,by omega⟩,ZmP h8,fun s j=>(M j).1,fun s j=>(M j).2.1,fun s j=>by have:=(M j).2.1;omega,fun s j=>by rw[e0];exact (M j).2.2.1,fun s d' j a b=>by rw[e0];exact (M j).2.2.2 d' a b⟩
 ·refine⟨pr,m1,C.count P,fun s x y j J hy=>?_,fun s x y j J hy=>?_,fun s x j J=>(O j (C.lt x J)).1,fun s x j J=>(O j (C.lt x J)).2,fun s u z j hu hz=>?_,fun x J=>?_,fun s s' j m5=>?_,fun s s' j m5 h=>?_⟩
  ·unfold eD
   have:=C.con x y J hy;rw[this]
  ·unfold wD
   have:=C.con x y J hy;rw[this]
  ·obtain⟨y,hy,ey⟩:=C.tr z hz
   have o8:=C.rl _ (C.lt z hz);have a1:sm t.length (fun x=>JF (cjB t u x)*eD D s (ZM t (YB t x) z))=sm t.length (fun x=>JF (decide (D.cl.getD x 0=D.cl.getD u 0))*Vu D.E s (D.cl.getD (ZM t (YB t x) z) 0)):=Yl fun x J=>by rw[C.cj P hu J];rfl
   have a2:=C.turn P (Vu D.E s) (D.cl.getD u 0) o8 hy;rw[ey] at a2;rw[a1,a2];have a3:=eq_of_beq (YD (YD (YD m8 j) (C.lt u hu)) (C.lt z hz));have a4:sm t.length (fun x=>JF (decide (D.cl.getD x 0=D.cl.getD u 0))*Vu D.E s (D.cl.getD (ZM t (bs.getD x 0) (D.rp.getD (D.cl.getD z 0) 0)) 0))=sm t.length (fun x=>JF (decide (D.cl.getD x 0=D.cl.getD u 0))*Vu D.E s (D.cl.getD (ZM t (YB t x) (D.rp.getD (D.cl.getD z 0) 0)) 0)):=Yl fun x J=>by rw[Zh7 P h9 J]
   rw[a4] at a3;exact a3
  ·have:=eq_of_beq (YD n8 (C.lt x J))
   have e1:sm D.rp.length (fun s=>eD D s x)=sm D.rp.length (fun s=>Vu D.E s (D.cl.getD x 0)):=rfl;rw[e1,this];by_cases q:x=0
   ·rw[if_pos q,if_pos ((C.z x J).mpr q)]
   ·rw[if_neg q,if_neg (fun zz=>q ((C.z x J).mp zz))]
  ·exact eq_of_beq (YD (YD n9 j) m5)
  ·have:=YD (YD o0 j) m5
   rw[bq] at this;rcases this with q|q
   ·exact eq_of_beq q
   ·obtain⟨i,hi,q⟩:=Zeu q
    have:=h (D.rp.getD i 0) (C.rl i hi);unfold wD at this;rw[C.rn i hi] at this;rw[this] at q;simp at q
 ·have o9:∀a,a<t.length->it t a (x % D.n)=0:=fun a Y=>by
   obtain⟨r,R⟩:=P.rd a Y;have p3:x % r=0:=by
    have:=J a Y;rw[V4 R] at this;apply ah;intro zz;exact R.nz _ (by omega) (bP _ R.r1) this
   have p4:D.n % r=0:=by
    have:=U a Y;rw[V4 R] at this;apply ah;intro zz;exact R.nz _ (by omega) (bP _ R.r1) this
   rw[V4 R,ZaB p3 p4];rfl
  apply ah;intro zz;have p6:=bP x (show 0<D.n by omega);have:=YD h6.2 p6;rw[bq] at this;rcases this with q|q
  ·exact zz (eq_of_beq q)
  ·obtain⟨a,Y,q⟩:=Zeu q
   rw[o9 a Y] at q;simp at q
end
section
variable {t:List (List Nat)}{o:List Nat}
theorem VO (P:PW t)(O:Ord t.length o){i j:Nat}(q:i<t.length)(J:j<t.length):o.getD (ZM (ren t o) i j) 0=ZM t (o.getD i 0) (o.getD j 0):=by
 rw[ZaA O q J];exact (Y4 O (P.lt _ _ (Yz O q) (Yz O J))).2
theorem Y3 (O:Ord t.length o):(ren t o).length=t.length:=by rw[Zau,O.len]
theorem ZbA (P:PW t)(O:Ord t.length o){a:Nat}(j:a<t.length):∀k,o.getD (it (ren t o) a k) 0=it t (o.getD a 0) k
 |0=>O.z
 |k+1=>by
  have q:=WU P O;have:=WJ q (a:=a) (by rw[Y3 O];exact j) k;rw[Y3 O] at this;rw[it,VO P O this j,ZbA P O j k];rfl
theorem Zgz (P:PW t)(O:Ord t.length o){a:Nat}(j:a<t.length):o.getD (YB (ren t o) a) 0=YB t (o.getD a 0):=by
 have M:=WU P O;have J:=Y3 O;obtain⟨q,U⟩:=Yh M (a:=a) (by rw[J];exact j);rw[J] at q;refine Xq P (Yz O j) (Yz O q) ?_;rw[<-VO P O j q,U];exact O.z
theorem UR (P:PW t)(O:Ord t.length o){b x:Nat}(hb:b<t.length)(j:x<t.length):o.getD (tb (ren t o) b x) 0=tb t (o.getD b 0) (o.getD x 0):=by
 have J:=WU P O;have q:=Y3 O;have M:=(Yh J (a:=x) (by rw[q];exact j)).1;have U:=J.lt x b (by rw[q];exact j) (by rw[q];exact hb);rw[q] at M U;unfold tb;rw[VO P O U M,VO P O j hb,Zgz P O j]
theorem Zlc (O:Ord t.length o){x:Nat}(j:x<t.length):pos o (o.getD x 0)=x:=by
 have h:=Y4 O (Yz O j);exact inj O h.1 j h.2
theorem Zgy (O:Ord t.length o)(F:Nat->Nat):sm t.length (fun x=>F (o.getD x 0))=sm t.length F:=
 Zal (c:=fun x=>o.getD x 0) (d:=fun x=>pos o x) (fun x j=>Yz O j) (fun x j=>(Y4 O j).1) (fun x j=>Zlc O j) (fun x j=>(Y4 O j).2) F
theorem Zkq (P:PW t)(O:Ord t.length o){u x:Nat}(M:u<t.length)(Y:x<t.length):cjB (ren t o) u x=cjB t (o.getD u 0) (o.getD x 0):=by
 have P':=WU P O;have j:=Y3 O;rw[eR,Xo,Xo,j];constructor
 ·rintro⟨y,q,e⟩
  exact⟨o.getD y 0,Yz O q,by rw[<-UR P O M q,e]⟩
 ·rintro⟨y,q,e⟩
  have J:=Y4 O q;refine⟨pos o y,J.1,?_⟩;have U:=Ve P' (b:=u) (x:=pos o y) (by rw[j];exact M) (by rw[j];exact J.1);rw[j] at U;refine inj O U Y ?_;rw[UR P O M J.1,J.2,e]
variable {n p m:Nat}{e ω φ:Nat->Nat->Nat}{z:Nat}{dg:Nat->Nat}
theorem Zld (P:PW t)(O:Ord t.length o):ClW (ren t o) (fun x=>Y2 t (o.getD x 0)) (fun k=>pos o (ZI t k)) (ZB t t.length).length:=by
 have P':=WU P O;have q:=Y3 O;have U:=Y6 P;refine⟨fun x j=>?_,fun x j=>?_,fun x s j M=>?_,fun x j=>?_,fun k Y=>?_,fun k Y=>?_⟩
 ·rw[q] at j;exact U.lt _ (Yz O j)
 ·rw[q] at j
  rw[U.z _ (Yz O j)];constructor
  ·intro h
   exact inj O j P.n1 (h.trans O.z.symm)
  ·intro h
   rw[h];exact O.z
 ·rw[q] at j M
  show Y2 t (o.getD (tb (ren t o) x s) 0)=_;rw[UR P O j M];exact U.con _ _ (Yz O j) (Yz O M)
 ·rw[q] at j ⊢
  have hc:=U.lt _ (Yz O j);have hr:=U.rl _ hc;obtain⟨s,M,es⟩:=U.tr (ZI t (Y2 t (o.getD x 0))) (o.getD x 0) hr (Yz O j) (U.rn _ hc);have hp:=Y4 O M;have J:=Y4 O hr;refine⟨pos o s,hp.1,?_⟩;have h1:=Ve P' (b:=pos o (ZI t (Y2 t (o.getD x 0)))) (x:=pos o s) (by rw[q];exact J.1) (by rw[q];exact hp.1);rw[q] at h1;refine inj O h1 j ?_;rw[UR P O J.1 hp.1,hp.2,J.2,es]
 ·rw[q];exact (Y4 O (U.rl k Y)).1
 ·show Y2 t (o.getD (pos o (ZI t k)) 0)=k
  rw[(Y4 O (U.rl k Y)).2];exact U.rn k Y
theorem TD.ren (P:PW t)(O:Ord t.length o)(D:TD t n p m e ω φ z dg):TD (ren t o) n p m (fun s x=>e s (o.getD x 0)) (fun s x=>ω s (o.getD x 0)) (fun s x=>φ s (o.getD x 0)) z dg:=by
 have P':=WU P O;have M:=Y3 O;have C:=D.cd;have lt:∀{x},x<(Tb.ren t o).length->x<t.length:=fun {x} h=>by rw[M] at h;exact h
 have e0:∀s,e s (o.getD 0 0)=e s 0:=fun s=>by rw[O.z]
 refine⟨⟨C.pr,C.m1,C.mc.trans ((Zld P O).count P'),fun s x y J j hy=>?_,fun s x y J j hy=>?_,fun s x J j=>C.elt s _ J (Yz O (lt j)),fun s x J j=>C.wlt s _ J (Yz O (lt j)),fun s u z J hu hz=>?_,fun x j=>?_,fun s s' J U=>?_,fun s s' J U h=>?_⟩,D.n1,D.n60,fun a ha=>?_,fun x j=>?_,by rw[M];exact D.fit,D.rt,D.d1,D.dp,D.dl,fun s J=>by rw[M];show ((dg s:Int)*(dg s:Int)-(e s (o.getD 0 0):Int)*(t.length:Int)) % (p:Int)=0;rw[e0];exact D.dq s J,fun s d' J a b=>by rw[M];show ((d':Int)*(d':Int)-(e s (o.getD 0 0):Int)*(t.length:Int)) % (p:Int)≠0;rw[e0];exact D.dm s d' J a b⟩
 ·show e s (o.getD (tb (Tb.ren t o) x y) 0)=_
  rw[UR P O (lt j) (lt hy)];exact C.ec s _ _ J (Yz O (lt j)) (Yz O (lt hy))
 ·show ω s (o.getD (tb (Tb.ren t o) x y) 0)=_
  rw[UR P O (lt j) (lt hy)];exact C.wc s _ _ J (Yz O (lt j)) (Yz O (lt hy))
 ·rw[M]
  have h1:sm t.length (fun x=>JF (cjB (Tb.ren t o) u x)*e s (o.getD (ZM (Tb.ren t o) (YB (Tb.ren t o) x) z) 0))=sm t.length (fun x=>(fun y=>JF (cjB t (o.getD u 0) y)*e s (ZM t (YB t y) (o.getD z 0))) (o.getD x 0)):=Yl fun x j=>by
   have hb:=(Yh P' (a:=x) (by rw[M];exact j)).1;rw[M] at hb;show _=JF (cjB t (o.getD u 0) (o.getD x 0))*e s (ZM t (YB t (o.getD x 0)) (o.getD z 0));rw[Zkq P O (lt hu) j,VO P O hb (lt hz),Zgz P O j]
  rw[h1,Zgy O (fun y=>JF (cjB t (o.getD u 0) y)*e s (ZM t (YB t y) (o.getD z 0)))];exact C.eig s _ _ J (Yz O (lt hu)) (Yz O (lt hz))
 ·have:=C.one _ (Yz O (lt j))
  rw[this];by_cases h:x=0
  ·rw[if_pos h,h,O.z,if_pos rfl]
  ·rw[if_neg h,if_neg]
   intro q;exact h (inj O (lt j) P.n1 (q.trans O.z.symm))
 ·rw[M,Zgy O (fun y=>φ s y*e s' y)]
  exact C.du s s' J U
 ·refine C.sep s s' J U fun u hu=>?_
  have Y:=Y4 O hu;have:=h (pos o u) (by rw[M];exact Y.1);rw[Y.2] at this;exact this
 ·have hi:=WJ P' ha n
  rw[M] at hi;refine inj O hi P.n1 ?_;rw[ZbA P O (lt ha),O.z];exact D.all _ (Yz O (lt ha))
 ·refine D.mn x fun a ha=>?_
  have Y:=Y4 O ha;have:=j (pos o a) (by rw[M];exact Y.1);have h2:=ZbA P O Y.1 x;rw[this,Y.2,O.z] at h2;exact h2.symm
end
end Tb
namespace Pm
open Tb
noncomputable def sm1:List (List Nat):=[[3,2,2,0],[4,2,3,2],[4,1,1,0],[5,1,1,0],[2,2,1,0],[5,2,4,0],[4,2,3,0]]
noncomputable def UN:List (List Nat):=[[3,4,2,0],[7,3,2,0],[1,1,1,0],[3,1,1,0],[2,1,1,0],[6,1,1,0],[5,4,2,0]]
noncomputable def sm3:List (List Nat):=[[6,2,5,0],[3,3,1,0],[7,2,6,0],[8,2,3,0],[8,2,7,4],[8,2,7,0],[7,1,1,0]]
noncomputable def sm4:List (List Nat):=[[4,2,1,0],[8,1,1,0],[8,2,5,0],[9,2,8,0],[9,1,1,0],[4,4,3,0]]
noncomputable def smC:List (List Nat):=sm1++UN++sm3++sm4
noncomputable def pm3:List (List (List Nat)):=[[[1,2,0,3],[1,0,3,2]],[[1,2,3,0],[1,0,2,3]],[[1,2,3,4,0],[1,2,0,3,4]]]
noncomputable def pmI:List (List Nat):=[[3,7,2,6,1,5,0,4],[5,2,0,6,3,1,7,4]]
noncomputable def pc1:List (List Nat)×List (List Nat):=([[1,2,0,3],[1,0,3,2]],[[0,1,2,3],[0,2,3,1],[0,3,1,2],[1,0,3,2],[1,2,0,3],[1,3,2,0],[2,0,1,3],[2,1,3,0],[2,3,0,1],[3,0,2,1],[3,1,0,2],[3,2,1,0]])
noncomputable def pc2:List (List Nat)×List (List Nat):=([[1,2,3,0],[1,0,2,3]],[[0,1,2,3],[0,1,3,2],[0,2,1,3],[0,2,3,1],[0,3,1,2],[0,3,2,1],[1,0,2,3],[1,0,3,2],[1,2,0,3],[1,2,3,0],[1,3,0,2],[1,3,2,0],[2,0,1,3],[2,0,3,1],[2,1,0,3],[2,1,3,0],[2,3,0,1],[2,3,1,0],[3,0,1,2],[3,0,2,1],[3,1,0,2],[3,1,2,0],[3,2,0,1],[3,2,1,0]])
noncomputable def pc3:List (List Nat)×List (List Nat):=([[3,7,2,6,1,5,0,4],[5,2,0,6,3,1,7,4]],[[0,1,2,3,4,5,6,7],[0,1,3,4,2,7,5,6],[0,1,4,2,3,6,7,5],[1,0,5,7,6,2,4,3],[1,0,6,5,7,4,3,2],[1,0,7,6,5,3,2,4],[2,5,1,4,7,0,3,6],[2,5,4,7,1,6,0,3],[2,5,7,1,4,3,6,0],[3,7,1,2,6,0,4,5],[3,7,2,6,1,5,0,4],[3,7,6,1,2,4,5,0],[4,6,1,3,5,0,2,7],[4,6,3,5,1,7,0,2],[4,6,5,1,3,2,7,0],[5,2,0,6,3,1,7,4],[5,2,3,0,6,7,4,1],[5,2,6,3,0,4,1,7],[6,4,0,7,2,1,5,3],[6,4,2,0,7,5,3,1],[6,4,7,2,0,3,1,5],[7,3,0,5,4,1,6,2],[7,3,4,0,5,6,2,1],[7,3,5,4,0,2,1,6]])
noncomputable def pc4:List (List Nat)×List (List Nat):=([[1,2,3,4,0],[1,2,0,3,4]],[[0,1,2,3,4],[0,1,3,4,2],[0,1,4,2,3],[0,2,1,4,3],[0,2,3,1,4],[0,2,4,3,1],[0,3,1,2,4],[0,3,2,4,1],[0,3,4,1,2],[0,4,1,3,2],[0,4,2,1,3],[0,4,3,2,1],[1,0,2,4,3],[1,0,3,2,4],[1,0,4,3,2],[1,2,0,3,4],[1,2,3,4,0],[1,2,4,0,3],[1,3,0,4,2],[1,3,2,0,4],[1,3,4,2,0],[1,4,0,2,3],[1,4,2,3,0],[1,4,3,0,2],[2,0,1,3,4],[2,0,3,4,1],[2,0,4,1,3],[2,1,0,4,3],[2,1,3,0,4],[2,1,4,3,0],[2,3,0,1,4],[2,3,1,4,0],[2,3,4,0,1],[2,4,0,3,1],[2,4,1,0,3],[2,4,3,1,0],[3,0,1,4,2],[3,0,2,1,4],[3,0,4,2,1],[3,1,0,2,4],[3,1,2,4,0],[3,1,4,0,2],[3,2,0,4,1],[3,2,1,0,4],[3,2,4,1,0],[3,4,0,1,2],[3,4,1,2,0],[3,4,2,0,1],[4,0,1,2,3],[4,0,2,3,1],[4,0,3,1,2],[4,1,0,3,2],[4,1,2,0,3],[4,1,3,2,0],[4,2,0,1,3],[4,2,1,3,0],[4,2,3,0,1],[4,3,0,2,1],[4,3,1,0,2],[4,3,2,1,0]])
noncomputable def psC:List (List (List Nat)×List (List Nat)):=[pc1,pc2,pc3,pc4]
noncomputable def twX (x:List Nat):List (List Nat):=twT (x.getD 0 0) (x.getD 1 0) (x.getD 2 0) (x.getD 3 0)
noncomputable def tA5:List (List Nat):=[[0,1,2,3,4,5,6,7,8,9,10,11,12,13,14,15,16,17,18,19,20,21,22,23,24,25,26,27,28,29,30,31,32,33,34,35,36,37,38,39,40,41,42,43,44,45,46,47,48,49,50,51,52,53,54,55,56,57,58,59],[1,2,0,6,8,7,9,11,10,3,4,5,13,14,12,18,20,19,21,23,22,15,16,17,36,38,37,39,41,40,45,46,47,42,43,44,48,50,49,51,53,52,57,58,59,54,55,56,24,25,26,27,28,29,30,31,32,33,34,35],[2,0,1,9,10,11,3,5,4,6,8,7,14,12,13,21,22,23,15,17,16,18,20,19,48,49,50,51,52,53,54,55,56,57,58,59,24,26,25,27,29,28,33,34,35,30,31,32,36,38,37,39,41,40,45,46,47,42,43,44],[3,5,4,0,2,1,10,9,11,7,6,8,24,26,25,27,29,28,33,34,35,30,31,32,12,14,13,15,17,16,21,22,23,18,19,20,49,48,50,54,55,56,51,52,53,57,59,58,37,36,38,42,43,44,39,40,41,45,47,46],[4,3,5,7,6,8,0,1,2,10,11,9,25,24,26,30,31,32,27,28,29,33,35,34,37,36,38,42,43,44,39,40,41,45,47,46,12,13,14,15,16,17,18,19,20,21,22,23,49,50,48,54,56,55,57,59,58,51,52,53],[5,4,3,10,11,9,7,8,6,0,2,1,26,25,24,33,35,34,30,32,31,27,29,28,49,50,48,54,56,55,57,59,58,51,52,53,37,38,36,42,44,43,45,47,46,39,40,41,12,14,13,15,17,16,21,22,23,18,19,20],[6,7,8,1,0,2,4,3,5,11,9,10,36,37,38,39,40,41,42,43,44,45,46,47,13,12,14,18,19,20,15,16,17,21,23,22,25,24,26,30,31,32,27,28,29,33,35,34,50,48,49,57,58,59,51,53,52,54,56,55],[7,8,6,4,5,3,11,10,9,1,0,2,37,38,36,42,44,43,45,47,46,39,40,41,25,26,24,30,32,31,33,35,34,27,28,29,50,49,48,57,59,58,54,56,55,51,53,52,13,12,14,18,19,20,15,16,17,21,23,22],[8,6,7,11,9,10,1,2,0,4,5,3,38,36,37,45,46,47,39,41,40,42,44,43,50,48,49,57,58,59,51,53,52,54,56,55,13,14,12,18,20,19,21,23,22,15,16,17,25,26,24,30,32,31,33,35,34,27,28,29],[9,11,10,2,1,0,8,6,7,5,3,4,48,50,49,51,53,52,57,58,59,54,55,56,14,13,12,21,23,22,18,20,19,15,17,16,38,36,37,45,46,47,39,41,40,42,44,43,26,24,25,33,34,35,27,29,28,30,32,31],[10,9,11,5,3,4,2,0,1,8,7,6,49,48,50,54,55,56,51,52,53,57,59,58,26,24,25,33,34,35,27,29,28,30,32,31,14,12,13,21,22,23,15,17,16,18,20,19,38,37,36,45,47,46,42,44,43,39,41,40],[11,10,9,8,7,6,5,4,3,2,1,0,50,49,48,57,59,58,54,56,55,51,53,52,38,37,36,45,47,46,42,44,43,39,41,40,26,25,24,33,35,34,30,32,31,27,29,28,14,13,12,21,23,22,18,20,19,15,17,16],[12,14,13,15,17,16,21,22,23,18,19,20,0,2,1,3,5,4,9,10,11,6,7,8,27,29,28,24,26,25,34,33,35,31,30,32,51,52,53,48,49,50,55,54,56,58,57,59,39,40,41,36,37,38,43,42,44,46,45,47],[13,12,14,18,19,20,15,16,17,21,23,22,1,0,2,6,7,8,3,4,5,9,11,10,39,40,41,36,37,38,43,42,44,46,45,47,27,28,29,24,25,26,31,30,32,34,33,35,51,53,52,48,50,49,58,57,59,55,54,56],[14,13,12,21,23,22,18,20,19,15,17,16,2,1,0,9,11,10,6,8,7,3,5,4,51,53,52,48,50,49,58,57,59,55,54,56,39,41,40,36,38,37,46,45,47,43,42,44,27,29,28,24,26,25,34,33,35,31,30,32],[15,16,17,12,13,14,19,18,20,22,21,23,27,28,29,24,25,26,31,30,32,34,33,35,0,1,2,3,4,5,6,7,8,9,10,11,40,39,41,43,42,44,36,37,38,46,47,45,52,51,53,55,54,56,48,49,50,58,59,57],[16,17,15,19,20,18,22,23,21,12,13,14,28,29,27,31,32,30,34,35,33,24,25,26,40,41,39,43,44,42,46,47,45,36,37,38,52,53,51,55,56,54,58,59,57,48,49,50,0,1,2,3,4,5,6,7,8,9,10,11],[17,15,16,22,21,23,12,14,13,19,20,18,29,27,28,34,33,35,24,26,25,31,32,30,52,51,53,55,54,56,48,49,50,58,59,57,0,2,1,3,5,4,9,10,11,6,7,8,40,41,39,43,44,42,46,47,45,36,37,38],[18,20,19,13,14,12,23,21,22,16,15,17,39,41,40,36,38,37,46,45,47,43,42,44,1,2,0,6,8,7,9,11,10,3,4,5,53,51,52,58,57,59,48,50,49,55,56,54,28,27,29,31,30,32,24,25,26,34,35,33],[19,18,20,16,15,17,13,12,14,23,22,21,40,39,41,43,42,44,36,37,38,46,47,45,28,27,29,31,30,32,24,25,26,34,35,33,1,0,2,6,7,8,3,4,5,9,11,10,53,52,51,58,59,57,55,56,54,48,50,49],[20,19,18,23,22,21,16,17,15,13,14,12,41,40,39,46,47,45,43,44,42,36,38,37,53,52,51,58,59,57,55,56,54,48,50,49,28,29,27,31,32,30,34,35,33,24,25,26,1,2,0,6,8,7,9,11,10,3,4,5],[21,22,23,14,12,13,17,15,16,20,18,19,51,52,53,48,49,50,55,54,56,58,57,59,2,0,1,9,10,11,3,5,4,6,8,7,29,27,28,34,33,35,24,26,25,31,32,30,41,39,40,46,45,47,36,38,37,43,44,42],[22,23,21,17,16,15,20,19,18,14,12,13,52,53,51,55,56,54,58,59,57,48,49,50,29,28,27,34,35,33,31,32,30,24,26,25,41,40,39,46,47,45,43,44,42,36,38,37,2,0,1,9,10,11,3,5,4,6,8,7],[23,21,22,20,18,19,14,13,12,17,16,15,53,51,52,58,57,59,48,50,49,55,56,54,41,39,40,46,45,47,36,38,37,43,44,42,2,1,0,9,11,10,6,8,7,3,5,4,29,28,27,34,35,33,31,32,30,24,26,25],[24,25,26,27,28,29,30,31,32,33,34,35,3,4,5,0,1,2,7,6,8,10,9,11,15,16,17,12,13,14,19,18,20,22,21,23,42,43,44,37,36,38,40,39,41,47,45,46,54,55,56,49,48,50,52,51,53,59,57,58],[25,26,24,30,32,31,33,35,34,27,28,29,4,5,3,7,8,6,10,11,9,0,1,2,42,44,43,37,38,36,47,45,46,40,39,41,54,56,55,49,50,48,59,57,58,52,51,53,15,16,17,12,13,14,19,18,20,22,21,23],[26,24,25,33,34,35,27,29,28,30,32,31,5,3,4,10,9,11,0,2,1,7,8,6,54,55,56,49,48,50,52,51,53,59,57,58,15,17,16,12,14,13,22,21,23,19,18,20,42,44,43,37,38,36,47,45,46,40,39,41],[27,29,28,24,26,25,34,33,35,31,30,32,15,17,16,12,14,13,22,21,23,19,18,20,3,5,4,0,2,1,10,9,11,7,6,8,55,54,56,52,51,53,49,48,50,59,58,57,43,42,44,40,39,41,37,36,38,47,46,45],[28,27,29,31,30,32,24,25,26,34,35,33,16,15,17,19,18,20,12,13,14,22,23,21,43,42,44,40,39,41,37,36,38,47,46,45,3,4,5,0,1,2,7,6,8,10,9,11,55,56,54,52,53,51,59,58,57,49,48,50],[29,28,27,34,35,33,31,32,30,24,26,25,17,16,15,22,23,21,19,20,18,12,14,13,55,56,54,52,53,51,59,58,57,49,48,50,43,44,42,40,41,39,47,46,45,37,36,38,3,5,4,0,2,1,10,9,11,7,6,8],[30,31,32,25,24,26,28,27,29,35,33,34,42,43,44,37,36,38,40,39,41,47,45,46,4,3,5,7,6,8,0,1,2,10,11,9,16,15,17,19,18,20,12,13,14,22,23,21,56,54,55,59,57,58,49,50,48,52,53,51],[31,32,30,28,29,27,35,34,33,25,24,26,43,44,42,40,41,39,47,46,45,37,36,38,16,17,15,19,20,18,22,23,21,12,13,14,56,55,54,59,58,57,52,53,51,49,50,48,4,3,5,7,6,8,0,1,2,10,11,9],[32,30,31,35,33,34,25,26,24,28,29,27,44,42,43,47,45,46,37,38,36,40,41,39,56,54,55,59,57,58,49,50,48,52,53,51,4,5,3,7,8,6,10,11,9,0,1,2,16,17,15,19,20,18,22,23,21,12,13,14],[33,35,34,26,25,24,32,30,31,29,27,28,54,56,55,49,50,48,59,57,58,52,51,53,5,4,3,10,11,9,7,8,6,0,2,1,44,42,43,47,45,46,37,38,36,40,41,39,17,15,16,22,21,23,12,14,13,19,20,18],[34,33,35,29,27,28,26,24,25,32,31,30,55,54,56,52,51,53,49,48,50,59,58,57,17,15,16,22,21,23,12,14,13,19,20,18,5,3,4,10,9,11,0,2,1,7,8,6,44,43,42,47,46,45,40,41,39,37,38,36],[35,34,33,32,31,30,29,28,27,26,25,24,56,55,54,59,58,57,52,53,51,49,50,48,44,43,42,47,46,45,40,41,39,37,38,36,17,16,15,22,23,21,19,20,18,12,14,13,5,4,3,10,11,9,7,8,6,0,2,1],[36,38,37,39,41,40,45,46,47,42,43,44,6,8,7,1,2,0,11,9,10,4,3,5,18,20,19,13,14,12,23,21,22,16,15,17,57,58,59,50,48,49,53,51,52,56,54,55,30,31,32,25,24,26,28,27,29,35,33,34],[37,36,38,42,43,44,39,40,41,45,47,46,7,6,8,4,3,5,1,0,2,11,10,9,30,31,32,25,24,26,28,27,29,35,33,34,18,19,20,13,12,14,16,15,17,23,21,22,57,59,58,50,49,48,56,54,55,53,51,52],[38,37,36,45,47,46,42,44,43,39,41,40,8,7,6,11,10,9,4,5,3,1,2,0,57,59,58,50,49,48,56,54,55,53,51,52,30,32,31,25,26,24,35,33,34,28,27,29,18,20,19,13,14,12,23,21,22,16,15,17],[39,40,41,36,37,38,43,42,44,46,45,47,18,19,20,13,12,14,16,15,17,23,21,22,6,7,8,1,0,2,4,3,5,11,9,10,31,30,32,28,27,29,25,24,26,35,34,33,58,57,59,53,51,52,50,48,49,56,55,54],[40,41,39,43,44,42,46,47,45,36,37,38,19,20,18,16,17,15,23,22,21,13,12,14,31,32,30,28,29,27,35,34,33,25,24,26,58,59,57,53,52,51,56,55,54,50,48,49,6,7,8,1,0,2,4,3,5,11,9,10],[41,39,40,46,45,47,36,38,37,43,44,42,20,18,19,23,21,22,13,14,12,16,17,15,58,57,59,53,51,52,50,48,49,56,55,54,6,8,7,1,2,0,11,9,10,4,3,5,31,32,30,28,29,27,35,34,33,25,24,26],[42,44,43,37,38,36,47,45,46,40,39,41,30,32,31,25,26,24,35,33,34,28,27,29,7,8,6,4,5,3,11,10,9,1,0,2,59,57,58,56,54,55,50,49,48,53,52,51,19,18,20,16,15,17,13,12,14,23,22,21],[43,42,44,40,39,41,37,36,38,47,46,45,31,30,32,28,27,29,25,24,26,35,34,33,19,18,20,16,15,17,13,12,14,23,22,21,7,6,8,4,3,5,1,0,2,11,10,9,59,58,57,56,55,54,53,52,51,50,49,48],[44,43,42,47,46,45,40,41,39,37,38,36,32,31,30,35,34,33,28,29,27,25,26,24,59,58,57,56,55,54,53,52,51,50,49,48,19,20,18,16,17,15,23,22,21,13,12,14,7,8,6,4,5,3,11,10,9,1,0,2],[45,46,47,38,36,37,41,39,40,44,42,43,57,58,59,50,48,49,53,51,52,56,54,55,8,6,7,11,9,10,1,2,0,4,5,3,20,18,19,23,21,22,13,14,12,16,17,15,32,30,31,35,33,34,25,26,24,28,29,27],[46,47,45,41,40,39,44,43,42,38,36,37,58,59,57,53,52,51,56,55,54,50,48,49,20,19,18,23,22,21,16,17,15,13,14,12,32,31,30,35,34,33,28,29,27,25,26,24,8,6,7,11,9,10,1,2,0,4,5,3],[47,45,46,44,42,43,38,37,36,41,40,39,59,57,58,56,54,55,50,49,48,53,52,51,32,30,31,35,33,34,25,26,24,28,29,27,8,7,6,11,10,9,4,5,3,1,2,0,20,19,18,23,22,21,16,17,15,13,14,12],[48,49,50,51,52,53,54,55,56,57,58,59,9,10,11,2,0,1,5,3,4,8,6,7,21,22,23,14,12,13,17,15,16,20,18,19,33,34,35,26,24,25,29,27,28,32,30,31,45,46,47,38,36,37,41,39,40,44,42,43],[49,50,48,54,56,55,57,59,58,51,52,53,10,11,9,5,4,3,8,7,6,2,0,1,33,35,34,26,25,24,32,30,31,29,27,28,45,47,46,38,37,36,44,42,43,41,39,40,21,22,23,14,12,13,17,15,16,20,18,19],[50,48,49,57,58,59,51,53,52,54,56,55,11,9,10,8,6,7,2,1,0,5,4,3,45,46,47,38,36,37,41,39,40,44,42,43,21,23,22,14,13,12,20,18,19,17,15,16,33,35,34,26,25,24,32,30,31,29,27,28],[51,53,52,48,50,49,58,57,59,55,54,56,21,23,22,14,13,12,20,18,19,17,15,16,9,11,10,2,1,0,8,6,7,5,3,4,46,45,47,41,39,40,38,36,37,44,43,42,34,33,35,29,27,28,26,24,25,32,31,30],[52,51,53,55,54,56,48,49,50,58,59,57,22,21,23,17,15,16,14,12,13,20,19,18,34,33,35,29,27,28,26,24,25,32,31,30,9,10,11,2,0,1,5,3,4,8,6,7,46,47,45,41,40,39,44,43,42,38,36,37],[53,52,51,58,59,57,55,56,54,48,50,49,23,22,21,20,19,18,17,16,15,14,13,12,46,47,45,41,40,39,44,43,42,38,36,37,34,35,33,29,28,27,32,31,30,26,24,25,9,11,10,2,1,0,8,6,7,5,3,4],[54,55,56,49,48,50,52,51,53,59,57,58,33,34,35,26,24,25,29,27,28,32,30,31,10,9,11,5,3,4,2,0,1,8,7,6,22,21,23,17,15,16,14,12,13,20,19,18,47,45,46,44,42,43,38,37,36,41,40,39],[55,56,54,52,53,51,59,58,57,49,48,50,34,35,33,29,28,27,32,31,30,26,24,25,22,23,21,17,16,15,20,19,18,14,12,13,47,46,45,44,43,42,41,40,39,38,37,36,10,9,11,5,3,4,2,0,1,8,7,6],[56,54,55,59,57,58,49,50,48,52,53,51,35,33,34,32,30,31,26,25,24,29,28,27,47,45,46,44,42,43,38,37,36,41,40,39,10,11,9,5,4,3,8,7,6,2,0,1,22,23,21,17,16,15,20,19,18,14,12,13],[57,59,58,50,49,48,56,54,55,53,51,52,45,47,46,38,37,36,44,42,43,41,39,40,11,10,9,8,7,6,5,4,3,2,1,0,35,33,34,32,30,31,26,25,24,29,28,27,23,21,22,20,18,19,14,13,12,17,16,15],[58,57,59,53,51,52,50,48,49,56,55,54,46,45,47,41,39,40,38,36,37,44,43,42,23,21,22,20,18,19,14,13,12,17,16,15,11,9,10,8,6,7,2,1,0,5,4,3,35,34,33,32,31,30,29,28,27,26,25,24],[59,58,57,56,55,54,53,52,51,50,49,48,47,46,45,44,43,42,41,40,39,38,37,36,35,34,33,32,31,30,29,28,27,26,25,24,23,22,21,20,19,18,17,16,15,14,13,12,11,10,9,8,7,6,5,4,3,2,1,0]]
noncomputable def tbC:List (List (List Nat)):=smC.map twX++[YY pc1.2,YY pc2.2,YY pc3.2,tA5]
noncomputable def Zfo:List (List Nat×Dt):=[
 ([0,1,4,3,2,5],⟨6,7,3,[0,1,2,1,2,1],[0,1,2],[[6,1,6],[6,6,6],[3,0,2]],[[1,4,2],[1,3,2],[1,0,6]],[[1,6,1],[1,1,1],[1,0,3]],[1,1,2]⟩),
 ([0,5,6,7,4,1,2,3],⟨4,13,5,[0,1,2,3,4,1,2,3],[0,1,2,3,4],[[5,8,8,5,5],[5,8,5,8,5],[5,5,8,8,5],[5,5,5,5,5],[7,0,0,0,6]],[[1,11,11,2,1],[1,11,2,11,1],[1,2,11,11,1],[1,2,2,2,1],[1,0,0,0,12]],[[1,12,12,1,1],[1,12,1,12,1],[1,1,12,12,1],[1,1,1,1,1],[1,0,0,0,12]],[1,1,1,1,2]⟩),
 ([0,3,2,1],⟨4,5,2,[0,1,2,3],[0,1,2,3],[[4,1,4,1],[4,3,1,2],[4,2,1,3],[4,4,4,4]],[[1,4,1,4],[1,3,4,2],[1,2,4,3],[1,1,1,1]],[[1,4,1,4],[1,3,4,2],[1,2,4,3],[1,1,1,1]],[1,1,1,1]⟩),
 ([0,4,3,2,1],⟨5,11,3,[0,1,2,3,4],[0,1,2,3,4],[[9,1,5,3,4],[9,4,3,5,1],[9,5,4,1,3],[9,3,1,4,5],[9,9,9,9,9]],[[1,9,4,3,5],[1,5,3,4,9],[1,4,5,9,3],[1,3,9,5,4],[1,1,1,1,1]],[[1,9,4,3,5],[1,5,3,4,9],[1,4,5,9,3],[1,3,9,5,4],[1,1,1,1,1]],[1,1,1,1,1]⟩),
 ([0,1,2,3],⟨2,5,4,[0,1,2,3],[0,1,2,3],[[4,1,1,4],[4,1,4,1],[4,4,1,1],[4,4,4,4]],[[1,4,4,1],[1,4,1,4],[1,1,4,4],[1,1,1,1]],[[1,4,4,1],[1,4,1,4],[1,1,4,4],[1,1,1,1]],[1,1,1,1]⟩),
 ([0,1,8,3,6,5,4,7,2,9],⟨10,11,2,[0,1,2,1,3,1,3,1,2,1],[0,1,2,4],[[10,1,10,10],[10,10,10,10],[7,0,8,5],[7,0,5,8]],[[1,6,2,2],[1,5,2,2],[1,0,7,3],[1,0,3,7]],[[1,10,1,1],[1,1,1,1],[1,0,9,7],[1,0,7,9]],[1,1,2,2]⟩),
 ([0,1,6,3,4,5,2,7],⟨4,13,5,[0,1,2,3,4,1,2,3],[0,1,2,3,4],[[5,8,8,5,5],[5,8,5,8,5],[5,5,8,8,5],[5,5,5,5,5],[7,0,0,0,6]],[[1,11,11,2,1],[1,11,2,11,1],[1,2,11,11,1],[1,2,2,2,1],[1,0,0,0,12]],[[1,12,12,1,1],[1,12,1,12,1],[1,1,12,12,1],[1,1,1,1,1],[1,0,0,0,12]],[1,1,1,1,2]⟩),
 ([0,3,2,1,8,7,10,5,4,11,6,9],⟨12,13,2,[0,1,2,3,4,1,5,3,4,1,5,3],[0,1,2,3,4,6],[[12,8,1,5,12,1],[12,1,12,1,12,12],[12,12,12,12,12,12],[12,5,1,8,12,1],[9,0,4,0,2,11],[9,0,9,0,2,2]],[[1,11,12,2,2,11],[1,10,1,10,2,2],[1,3,1,3,2,2],[1,2,12,11,2,11],[1,0,12,0,12,1],[1,0,1,0,12,12]],[[1,8,12,5,1,12],[1,12,1,12,1,1],[1,1,1,1,1,1],[1,5,12,8,1,12],[1,0,12,0,6,7],[1,0,1,0,6,6]],[1,1,1,1,2,2]⟩),
 ([0,2,1,18,11,16,15,20,10,12,8,4,9,17,19,6,5,13,3,14,7],⟨21,43,9,[0,1,2,3,1,2,3,1,2,4,1,2,3,1,2,4,1,2,4,1,2],[0,1,2,3,9],[[41,14,31,41,41],[41,31,14,41,41],[41,41,41,41,41],[25,0,0,21,28],[25,0,0,28,21]],[[1,42,37,3,3],[1,37,42,3,3],[1,7,7,3,3],[1,0,0,24,18],[1,0,0,18,24]],[[1,6,36,1,1],[1,36,6,1,1],[1,1,1,1,1],[1,0,0,8,6],[1,0,0,6,8]],[1,1,1,3,3]⟩),
 ([0],⟨1,3,1,[0],[0],[[1]],[[1]],[[1]],[1]⟩),
 ([0,2,1],⟨3,7,2,[0,1,2],[0,1,2],[[5,3,6],[5,6,3],[5,5,5]],[[1,4,2],[1,2,4],[1,1,1]],[[1,4,2],[1,2,4],[1,1,1]],[1,1,1]⟩),
 ([0,1],⟨2,3,2,[0,1],[0,1],[[2,1],[2,2]],[[1,2],[1,1]],[[1,2],[1,1]],[1,1]⟩),
 ([0,5,4,3,2,1],⟨6,7,3,[0,1,2,3,4,5],[0,1,2,3,4,5],[[6,1,6,1,6,1],[6,4,5,1,3,2],[6,5,3,6,5,3],[6,2,3,1,5,4],[6,3,5,6,3,5],[6,6,6,6,6,6]],[[1,6,1,6,1,6],[1,5,4,6,2,3],[1,4,2,1,4,2],[1,3,2,6,4,5],[1,2,4,1,2,4],[1,1,1,1,1,1]],[[1,6,1,6,1,6],[1,5,4,6,2,3],[1,4,2,1,4,2],[1,3,2,6,4,5],[1,2,4,1,2,4],[1,1,1,1,1,1]],[1,1,1,1,1,1]⟩),
 ([0,3,2,1,16,11,6,13,12,19,10,5,8,7,14,17,4,15,18,9],⟨20,41,2,[0,1,2,3,4,1,2,3,4,1,2,3,4,1,2,3,4,1,2,3],[0,1,2,3,4],[[39,23,2,18,39],[39,2,39,2,39],[39,39,39,39,39],[39,18,2,23,39],[9,0,0,0,8]],[[1,37,36,4,4],[1,36,5,36,4],[1,5,5,5,4],[1,4,36,37,4],[1,0,0,0,40]],[[1,32,40,9,1],[1,40,1,40,1],[1,1,1,1,1],[1,9,40,32,1],[1,0,0,0,10]],[1,1,1,1,4]⟩),
 ([0,1,10,3,8,5,6,7,4,9,2,11],⟨6,7,3,[0,1,2,3,4,1,5,3,4,1,2,3],[0,1,2,3,4,6],[[3,4,4,3,3,4],[3,4,3,4,3,3],[3,3,4,4,3,4],[3,3,3,3,3,3],[5,0,1,0,1,5],[5,0,6,0,1,2]],[[1,4,5,3,2,6],[1,4,2,4,2,1],[1,3,5,4,2,6],[1,3,2,3,2,1],[1,0,6,0,6,1],[1,0,1,0,6,6]],[[1,6,6,1,1,6],[1,6,1,6,1,1],[1,1,6,6,1,6],[1,1,1,1,1,1],[1,0,3,0,3,1],[1,0,4,0,3,6]],[1,1,1,1,2,2]⟩),
 ([0,2,1,6,8,7,3,5,4],⟨3,7,2,[0,1,2,3,4,5,6,7,8],[0,1,2,3,4,5,6,7,8],[[4,1,2,1,2,4,2,4,1],[4,1,2,2,4,1,1,2,4],[4,1,2,4,1,2,4,1,2],[4,2,1,1,4,2,2,1,4],[4,2,1,2,1,4,1,4,2],[4,2,1,4,2,1,4,2,1],[4,4,4,1,1,1,2,2,2],[4,4,4,2,2,2,1,1,1],[4,4,4,4,4,4,4,4,4]],[[1,4,2,4,2,1,2,1,4],[1,4,2,2,1,4,4,2,1],[1,4,2,1,4,2,1,4,2],[1,2,4,4,1,2,2,4,1],[1,2,4,2,4,1,4,1,2],[1,2,4,1,2,4,1,2,4],[1,1,1,4,4,4,2,2,2],[1,1,1,2,2,2,4,4,4],[1,1,1,1,1,1,1,1,1]],[[1,4,2,4,2,1,2,1,4],[1,4,2,2,1,4,4,2,1],[1,4,2,1,4,2,1,4,2],[1,2,4,4,1,2,2,4,1],[1,2,4,2,4,1,4,1,2],[1,2,4,1,2,4,1,2,4],[1,1,1,4,4,4,2,2,2],[1,1,1,2,2,2,4,4,4],[1,1,1,1,1,1,1,1,1]],[1,1,1,1,1,1,1,1,1]⟩),
 ([0,1,12,3,10,5,8,7,6,9,4,11,2,13],⟨14,29,4,[0,1,2,1,3,1,4,1,4,1,3,1,2,1],[0,1,2,4,6],[[27,2,27,27,27],[27,27,27,27,27],[21,0,15,17,1],[21,0,1,15,17],[21,0,17,1,15]],[[1,22,2,2,2],[1,7,2,2,2],[1,0,18,3,7],[1,0,7,18,3],[1,0,3,7,18]],[[1,28,1,1,1],[1,1,1,1,1],[1,0,9,16,18],[1,0,18,9,16],[1,0,16,18,9]],[1,1,2,2,2]⟩),
 ([0,1,14,11,12,5,10,15,8,9,6,3,4,13,2,7],⟨8,17,2,[0,1,2,3,4,1,2,3,5,1,6,3,4,1,6,3],[0,1,2,3,4,8,10],[[16,1,1,16,16,16,1],[16,1,16,1,16,16,16],[16,16,1,1,16,16,1],[16,16,16,16,16,16,16],[13,0,3,0,0,4,14],[13,0,14,0,0,4,3],[13,0,0,0,4,13,0]],[[1,13,15,4,2,1,15],[1,13,2,13,2,1,2],[1,4,15,13,2,1,15],[1,4,2,4,2,1,2],[1,0,10,0,0,16,7],[1,0,7,0,0,16,10],[1,0,0,0,15,1,0]],[[1,16,16,1,1,1,16],[1,16,1,16,1,1,1],[1,1,16,16,1,1,16],[1,1,1,1,1,1,1],[1,0,5,0,0,16,12],[1,0,12,0,0,16,5],[1,0,0,0,16,1,0]],[1,1,1,1,2,2,2]⟩),
 ([0,9,14,11,12,13,10,15,8,1,6,3,4,5,2,7],⟨8,17,2,[0,1,2,3,4,1,5,3,6,1,5,3,4,1,2,3],[0,1,2,3,4,6,8],[[16,1,1,16,16,1,16],[16,1,16,1,16,16,16],[16,16,1,1,16,1,16],[16,16,16,16,16,16,16],[13,0,12,0,0,5,4],[13,0,5,0,0,12,4],[13,0,0,0,4,0,13]],[[1,13,15,4,2,15,1],[1,13,2,13,2,2,1],[1,4,15,13,2,15,1],[1,4,2,4,2,2,1],[1,0,11,0,0,6,16],[1,0,6,0,0,11,16],[1,0,0,0,15,0,1]],[[1,16,16,1,1,16,1],[1,16,1,16,1,1,1],[1,1,16,16,1,16,1],[1,1,1,1,1,1,1],[1,0,14,0,0,3,16],[1,0,3,0,0,14,16],[1,0,0,0,16,0,1]],[1,1,1,1,2,2,2]⟩),
 ([0,1,14,3,12,5,10,7,8,9,6,11,4,13,2,15],⟨8,17,2,[0,1,2,3,4,1,5,3,6,1,5,3,4,1,2,3],[0,1,2,3,4,6,8],[[16,1,1,16,16,1,16],[16,1,16,1,16,16,16],[16,16,1,1,16,1,16],[16,16,16,16,16,16,16],[13,0,12,0,0,5,4],[13,0,5,0,0,12,4],[13,0,0,0,4,0,13]],[[1,13,15,4,2,15,1],[1,13,2,13,2,2,1],[1,4,15,13,2,15,1],[1,4,2,4,2,2,1],[1,0,11,0,0,6,16],[1,0,6,0,0,11,16],[1,0,0,0,15,0,1]],[[1,16,16,1,1,16,1],[1,16,1,16,1,1,1],[1,1,16,16,1,16,1],[1,1,1,1,1,1,1],[1,0,14,0,0,3,16],[1,0,3,0,0,14,16],[1,0,0,0,16,0,1]],[1,1,1,1,2,2,2]⟩),
 ([0,6,5,4,3,2,1],⟨7,29,7,[0,1,2,3,4,5,6],[0,1,2,3,4,5,6],[[25,1,7,20,24,23,16],[25,24,1,23,7,16,20],[25,20,16,7,23,1,24],[25,23,20,1,16,24,7],[25,7,24,16,1,20,23],[25,16,23,24,20,7,1],[25,25,25,25,25,25,25]],[[1,25,16,23,24,20,7],[1,24,25,20,16,7,23],[1,23,7,16,20,25,24],[1,20,23,25,7,24,16],[1,16,24,7,25,23,20],[1,7,20,24,23,16,25],[1,1,1,1,1,1,1]],[[1,25,16,23,24,20,7],[1,24,25,20,16,7,23],[1,23,7,16,20,25,24],[1,20,23,25,7,24,16],[1,16,24,7,25,23,20],[1,7,20,24,23,16,25],[1,1,1,1,1,1,1]],[1,1,1,1,1,1,1]⟩),
 ([0,1,6,7,4,5,2,3],⟨4,13,5,[0,1,2,3,4,5,6,7],[0,1,2,3,4,5,6,7],[[5,8,8,5,5,8,8,5],[5,8,12,1,8,5,1,12],[5,8,1,12,8,5,12,1],[5,8,5,8,5,8,5,8],[5,5,8,8,5,5,8,8],[5,5,12,12,8,8,1,1],[5,5,1,1,8,8,12,12],[5,5,5,5,5,5,5,5]],[[1,12,12,1,1,12,12,1],[1,12,8,5,12,1,5,8],[1,12,5,8,12,1,8,5],[1,12,1,12,1,12,1,12],[1,1,12,12,1,1,12,12],[1,1,8,8,12,12,5,5],[1,1,5,5,12,12,8,8],[1,1,1,1,1,1,1,1]],[[1,12,12,1,1,12,12,1],[1,12,8,5,12,1,5,8],[1,12,5,8,12,1,8,5],[1,12,1,12,1,12,1,12],[1,1,12,12,1,1,12,12],[1,1,8,8,12,12,5,5],[1,1,5,5,12,12,8,8],[1,1,1,1,1,1,1,1]],[1,1,1,1,1,1,1,1]⟩),
 ([0,7,6,5,4,3,2,1],⟨8,17,2,[0,1,2,3,4,5,6,7],[0,1,2,3,4,5,6,7],[[15,2,15,2,15,2,15,2],[15,1,8,13,2,16,9,4],[15,9,2,8,15,9,2,8],[15,13,9,1,2,4,8,16],[15,4,9,16,2,13,8,1],[15,8,2,9,15,8,2,9],[15,16,8,4,2,1,9,13],[15,15,15,15,15,15,15,15]],[[1,16,1,16,1,16,1,16],[1,15,4,9,16,2,13,8],[1,13,16,4,1,13,16,4],[1,9,13,15,16,8,4,2],[1,8,13,2,16,9,4,15],[1,4,16,13,1,4,16,13],[1,2,4,8,16,15,13,9],[1,1,1,1,1,1,1,1]],[[1,16,1,16,1,16,1,16],[1,15,4,9,16,2,13,8],[1,13,16,4,1,13,16,4],[1,9,13,15,16,8,4,2],[1,8,13,2,16,9,4,15],[1,4,16,13,1,4,16,13],[1,2,4,8,16,15,13,9],[1,1,1,1,1,1,1,1]],[1,1,1,1,1,1,1,1]⟩),
 ([0,1,14,7,12,13,10,3,8,9,6,15,4,5,2,11],⟨8,17,2,[0,1,2,3,4,5,6,7,8,1,2,3,9,5,6,7],[0,1,2,3,4,5,6,7,8,12],[[16,1,1,16,16,1,1,16,16,16],[16,1,13,4,1,16,4,13,16,1],[16,1,4,13,1,16,13,4,16,1],[16,1,16,1,16,1,16,1,16,16],[16,16,1,1,16,16,1,1,16,16],[16,16,13,13,1,1,4,4,16,1],[16,16,4,4,1,1,13,13,16,1],[16,16,16,16,16,16,16,16,16,16],[13,0,0,0,1,0,0,0,4,16],[13,0,0,0,16,0,0,0,4,1]],[[1,15,15,2,1,15,15,2,1,1],[1,15,9,8,16,2,8,9,1,16],[1,15,8,9,16,2,9,8,1,16],[1,15,2,15,1,15,2,15,1,1],[1,2,15,15,1,2,15,15,1,1],[1,2,9,9,16,15,8,8,1,16],[1,2,8,8,16,15,9,9,1,16],[1,2,2,2,1,2,2,2,1,1],[1,0,0,0,13,0,0,0,16,4],[1,0,0,0,4,0,0,0,16,13]],[[1,16,16,1,1,16,16,1,1,1],[1,16,13,4,16,1,4,13,1,16],[1,16,4,13,16,1,13,4,1,16],[1,16,1,16,1,16,1,16,1,1],[1,1,16,16,1,1,16,16,1,1],[1,1,13,13,16,16,4,4,1,16],[1,1,4,4,16,16,13,13,1,16],[1,1,1,1,1,1,1,1,1,1],[1,0,0,0,13,0,0,0,16,4],[1,0,0,0,4,0,0,0,16,13]],[1,1,1,1,1,1,1,1,2,2]⟩),
 ([0,1,16,3,14,5,12,7,10,9,8,11,6,13,4,15,2,17],⟨18,19,2,[0,1,2,1,3,1,4,1,5,1,5,1,4,1,3,1,2,1],[0,1,2,4,6,8],[[18,1,18,18,18,18],[18,18,18,18,18,18],[15,0,2,2,15,2],[15,0,1,13,2,5],[15,0,5,1,2,13],[15,0,13,5,2,1]],[[1,10,2,2,2,2],[1,9,2,2,2,2],[1,0,18,18,2,18],[1,0,9,3,18,7],[1,0,7,9,18,3],[1,0,3,7,18,9]],[[1,18,1,1,1,1],[1,1,1,1,1,1],[1,0,9,9,1,9],[1,0,14,11,9,13],[1,0,13,14,9,11],[1,0,11,13,9,14]],[1,1,2,2,2,2]⟩),
 ([0,8,7,6,5,4,3,2,1],⟨9,19,4,[0,1,2,3,4,5,6,7,8],[0,1,2,3,4,5,6,7,8],[[17,1,9,5,7,6,16,11,4],[17,7,4,5,11,9,16,1,6],[17,5,16,17,5,16,17,5,16],[17,4,11,16,6,7,5,9,1],[17,16,5,17,16,5,17,16,5],[17,6,1,16,9,11,5,4,7],[17,11,6,5,1,4,16,7,9],[17,9,7,16,4,1,5,6,11],[17,17,17,17,17,17,17,17,17]],[[1,17,4,11,16,6,7,5,9],[1,16,9,11,5,4,7,17,6],[1,11,7,1,11,7,1,11,7],[1,9,5,7,6,16,11,4,17],[1,7,11,1,7,11,1,7,11],[1,6,17,7,4,5,11,9,16],[1,5,6,11,17,9,7,16,4],[1,4,16,7,9,17,11,6,5],[1,1,1,1,1,1,1,1,1]],[[1,17,4,11,16,6,7,5,9],[1,16,9,11,5,4,7,17,6],[1,11,7,1,11,7,1,11,7],[1,9,5,7,6,16,11,4,17],[1,7,11,1,7,11,1,7,11],[1,6,17,7,4,5,11,9,16],[1,5,6,11,17,9,7,16,4],[1,4,16,7,9,17,11,6,5],[1,1,1,1,1,1,1,1,1]],[1,1,1,1,1,1,1,1,1]⟩),
 ([0,3,2,1,12,7,14,5,8,11,10,9,4,15,6,13],⟨4,13,5,[0,1,2,3,4,5,6,7,8,1,9,3,4,5,6,7],[0,1,2,3,4,5,6,7,8,10],[[9,4,9,4,4,9,4,9,9,9],[9,4,9,4,9,4,9,4,9,9],[9,7,4,6,4,6,9,7,9,4],[9,7,4,6,9,7,4,6,9,4],[9,6,4,7,4,7,9,6,9,4],[9,6,4,7,9,6,4,7,9,4],[9,9,9,9,4,4,4,4,9,9],[9,9,9,9,9,9,9,9,9,9],[10,0,3,0,0,0,0,0,3,10],[10,0,10,0,0,0,0,0,3,3]],[[1,11,1,11,11,2,11,2,1,1],[1,11,1,11,2,11,2,11,1,1],[1,10,12,3,11,3,2,10,1,12],[1,10,12,3,2,10,11,3,1,12],[1,3,12,10,11,10,2,3,1,12],[1,3,12,10,2,3,11,10,1,12],[1,2,1,2,11,11,11,11,1,1],[1,2,1,2,2,2,2,2,1,1],[1,0,12,0,0,0,0,0,12,1],[1,0,1,0,0,0,0,0,12,12]],[[1,12,1,12,12,1,12,1,1,1],[1,12,1,12,1,12,1,12,1,1],[1,5,12,8,12,8,1,5,1,12],[1,5,12,8,1,5,12,8,1,12],[1,8,12,5,12,5,1,8,1,12],[1,8,12,5,1,8,12,5,1,12],[1,1,1,1,12,12,12,12,1,1],[1,1,1,1,1,1,1,1,1,1],[1,0,12,0,0,0,0,0,12,1],[1,0,1,0,0,0,0,0,12,12]],[1,1,1,1,1,1,1,1,2,2]⟩),
 ([0,2,1,3,6,9,4,10,8,5,7,11],⟨6,7,3,[0,1,2,3,2,1,1,2,3,2,1,3],[0,1,2,3],[[3,3,3,3],[3,6,5,3],[3,5,6,3],[6,0,0,5]],[[1,4,4,3],[1,2,1,3],[1,1,2,3],[1,0,0,6]],[[1,1,1,1],[1,4,2,1],[1,2,4,1],[1,0,0,2]],[1,1,1,3]⟩),
 ([0,1,2,4,3,5,6,7,12,18,13,19,8,10,14,20,16,22,9,11,15,21,17,23],⟨12,13,2,[0,1,1,2,2,1,1,3,2,4,4,2,2,4,1,2,3,4,4,2,2,1,4,3],[0,1,3,7,9],[[2,8,0,8,5],[6,7,6,6,7],[6,6,6,6,6],[2,5,0,8,8],[11,0,1,11,0]],[[1,11,0,12,2],[1,7,8,3,7],[1,6,8,3,6],[1,2,0,12,11],[1,0,9,3,0]],[[1,4,0,4,9],[1,12,1,1,12],[1,1,1,1,1],[1,9,0,4,4],[1,0,6,1,0]],[3,1,1,3,2]⟩),
 ([0,2,1,3,5,4,15,18,21,16,19,22,17,20,23,6,9,12,7,10,13,8,11,14],⟨12,13,2,[0,1,2,3,4,5,6,5,2,5,2,6,2,6,5,6,4,1,4,1,6,1,6,4],[0,1,2,3,4,5,6],[[6,2,5,6,5,2,6],[11,1,1,2,12,12,0],[6,5,2,6,2,5,6],[11,3,9,2,4,10,0],[11,9,3,2,10,4,0],[6,6,6,6,6,6,6],[2,0,0,2,0,0,8]],[[1,12,10,1,10,12,6],[1,11,11,12,2,2,0],[1,10,12,1,12,10,6],[1,8,7,12,6,5,0],[1,7,8,12,5,6,0],[1,4,4,1,4,4,6],[1,0,0,1,0,0,11]],[[1,3,9,1,9,3,1],[1,6,6,12,7,7,0],[1,9,3,1,3,9,1],[1,2,5,12,8,11,0],[1,5,2,12,11,8,0],[1,1,1,1,1,1,1],[1,0,0,1,0,0,4]],[1,2,1,2,2,1,3]⟩),
 ([0,2,1,3,6,9,4,10,8,5,7,11,12,13,14,24,48,36,26,37,50,25,49,38,15,21,18,27,39,51,30,54,45,33,42,57,17,19,23,28,52,41,34,43,58,32,56,47,16,22,20,29,40,53,31,55,46,35,44,59],⟨30,31,3,[0,1,1,2,1,1,1,1,2,1,1,2,2,2,2,1,3,4,3,1,4,4,1,3,1,4,3,2,1,1,2,4,4,2,3,3,4,1,3,1,1,2,3,2,3,4,4,2,3,1,4,1,1,2,4,2,4,3,3,2],[0,1,3,16,17],[[3,18,13,0,0],[15,15,15,15,15],[23,29,0,2,2],[11,0,17,27,18],[11,0,17,18,27]],[[1,27,3,0,0],[1,20,15,12,12],[1,5,0,28,28],[1,0,26,21,14],[1,0,26,14,21]],[[1,6,25,0,0],[1,1,1,1,1],[1,8,0,23,23],[1,0,10,25,27],[1,0,10,27,25]],[5,1,4,3,3]⟩)]
noncomputable def d0:List Nat×Dt:=([],⟨0,0,0,[],[],[],[],[],[]⟩)
noncomputable def JS (i:Nat):Bool:=pwB (tbC.getD i []) && tdB (tbC.getD i []) (Zfo.getD i d0).1 (Zfo.getD i d0).2
theorem ZoZ:JS 0=true:=by decide +kernel
theorem ZoY:JS 1=true:=by decide +kernel
theorem ZoX:JS 2=true:=by decide +kernel
theorem ZoW:JS 3=true:=by decide +kernel
theorem ZoV:JS 4=true:=by decide +kernel
theorem ZoU:JS 5=true:=by decide +kernel
theorem ZoT:JS 6=true:=by decide +kernel
theorem ZoS:JS 7=true:=by decide +kernel
theorem ZoR:JS 8=true:=by decide +kernel
theorem ZoQ:JS 9=true:=by decide +kernel
theorem Znp:JS 10=true:=by decide +kernel
theorem Zno:JS 11=true:=by decide +kernel
theorem Znn:JS 12=true:=by decide +kernel
theorem Znm:JS 13=true:=by decide +kernel
theorem Znl:JS 14=true:=by decide +kernel
theorem Znk:JS 15=true:=by decide +kernel
theorem Znj:JS 16=true:=by decide +kernel
theorem Zni:JS 17=true:=by decide +kernel
theorem Znh:JS 18=true:=by decide +kernel
theorem Zng:JS 19=true:=by decide +kernel
theorem Znf:JS 20=true:=by decide +kernel
theorem Zne:JS 21=true:=by decide +kernel
theorem Znd:JS 22=true:=by decide +kernel
theorem Znc:JS 23=true:=by decide +kernel
theorem Znb:JS 24=true:=by decide +kernel
theorem Zna:JS 25=true:=by decide +kernel
theorem Zm9:JS 26=true:=by decide +kernel
theorem Zm8:JS 27=true:=by decide +kernel
theorem Zm7:JS 28=true:=by decide +kernel
theorem Zm6:JS 29=true:=by decide +kernel
theorem Zm5:JS 30=true:=by decide +kernel
theorem okC:∀i,i<31->JS i=true
 |0,_=>ZoZ
 |1,_=>ZoY
 |2,_=>ZoX
 |3,_=>ZoW
 |4,_=>ZoV
 |5,_=>ZoU
 |6,_=>ZoT
 |7,_=>ZoS
 |8,_=>ZoR
 |9,_=>ZoQ
 |10,_=>Znp
 |11,_=>Zno
 |12,_=>Znn
 |13,_=>Znm
 |14,_=>Znl
 |15,_=>Znk
 |16,_=>Znj
 |17,_=>Zni
 |18,_=>Znh
 |19,_=>Zng
 |20,_=>Znf
 |21,_=>Zne
 |22,_=>Znd
 |23,_=>Znc
 |24,_=>Znb
 |25,_=>Zna
 |26,_=>Zm9
 |27,_=>Zm8
 |28,_=>Zm7
 |29,_=>Zm6
 |30,_=>Zm5
 |n+31,h=>by omega
theorem Zk4:YY pc4.2=tA5:=by decide +kernel
noncomputable def MkC (t:List (List Nat)):Prop:=t∈tbC
end Pm
namespace L2
open PySem PySem.Spec PyProof.Rows
section
variable {X:Cx}
noncomputable def Zd0:V->List V->Hp->VK->Prop:=fun x q H Q=>∃l j y,∃k:Nat,x=.ref l/\q=[.int k,y]/\H l=some (.lst j)/\k<=j.length/\fj (k:Int)=true/\j.length<sizeLine/\Q .non (upd H l (.lst (j.take k++y::j.drop k)))
theorem Zfb:MtM X "list.insert" Zd0:=by
 intro m6 s σ H x vs v us Q I rx rv h;obtain⟨l,xs,y,k,rfl,rfl,hH,hk,hf,hz,q⟩:=h;cases rx;obtain⟨O,J,rfl,r1,U⟩:∃O J,us=O::J/\RelV (.int (k:Int)) O/\ZL [y] J:=by
  cases rv with
  |cons r1 U=>exact⟨_,_,rfl,r1,U⟩
 obtain⟨Y,rfl,r2⟩:=U.one;obtain⟨tk,rfl⟩:=r1;obtain⟨z,j,n,r,hl,e⟩:=I.lstM hH;have m8:=r.length;have h1:¬(!fj (k:Int))=true:=by rw[hf];exact aH
 have h2:j.toArray.size<=sizeLine:=by rw[Zh];omega
 have hm:=@PySem.AutoListH.list_insert_list_int_val_1 l j.toArray n (k:Int) tk Y h1 h2;have ha:=F.args_list_insert_3 (.ref l) (.int (k:Int) tk) Y;have hT:s.TypeIs (.ref l) "list":=⟨_,e,rfl⟩;have M:=F.entry_list_insert;have m5:=kq;generalize hB:cC.«list.insert»=B at hm M;refine fJ m5 hT M ha hm ⟨e,?_⟩;refine⟨.non,_,I.lset (its':=j.take k++Y::j.drop k) hH e ?_ ((r.take k).append (.cons r2 (r.drop k))) ?_,rfl,q⟩
 ·have e1:¬((k:Int)<0):=by omega
  simp only[if_neg e1];have e2:min ((k:Int).toNat) j.toArray.size=k:=by rw[Zj,Zh];omega
  rw[e2];simp;exact j3 (by rw[cH];exact Zq _)
 ·rw[Zd,Zi,bT,cH]
  omega
end
end L2
namespace Pm
open PySem L2 PySem.Spec PyProof.Rows
open Tb
section
variable {X:Cx}
theorem ZgJ {op:ko}{r:R2}{a b:Expr}{j tb:TE}{pos:Pos}(q:Vv X (binaryOp op) r)(J:PE X a j)(hb:QE X b tb):QE X (.BinOp a op b pos) (tOp r j tb):=⟨Zz q J hb.h⟩
theorem ZmX {o i e:Expr}{to ti te:TE}{q j M:Pos}(ho:PE X o to)(hi:QE X i ti)(he:QE X e te)(m5:We i=true:=by rfl)(m6:We e=true:=by rfl)
  (O:attributeBase o "insert" X.env (eval o X.env)=eval o X.env:=by rfl)
  (Y:((backTo j (starEach [i,e] X.env)).all (fun x=>!x.1) && (backToKw j (keywordEach [] X.env)).all (fun x=>x.1.isSome)
   && decide (([i,e]:List Expr).length+([]:List Keyword).length+(if ([]:List Keyword).isEmpty then 0 else 1)<30))=true:=by rfl)
  (U:(q.endLine == j.line)=true:=by rfl) (hs:starEach [i,e] X.env=(false,eval i X.env)::starEach [e] X.env:=by rfl) (J:(backTo j (starEach [e] X.env)).any (·.1)=false:=by rfl)
  (m8:swapsWith (.Call (.Attribute o "insert" q) [i,e] [] j) none M.line X.env=pure false:=by rfl) :
  QS X (.Expr (.Call (.Attribute o "insert" q) [i,e] [] j) M) (Zke (tBM X.K "list" Zd0 to (VH ti (VH te ZfZ)))):=⟨Yq (Wj aO kq PySem.F.type_list_insert Zfb ho (pc hi.h (pc he.h Zu m6) m5) O Y U hs J) m8⟩
theorem g4 (K:aa)(i j k l:Nat){X:Cx}{x y z u:Str}{n}{q J M O pos:Pos}(Y:X.calm=true)(hx:PG X (.Name x q) (Z7 i))(hy:PG X (.Name y J) (Z7 j))(hz:PG X (.Name z M) (Z7 k))(hu:PG X (.Name u O) (Z7 l))(hK:X.K=K:=by rfl)
  (hn:(assignEach [.Name x q,.Name y J,.Name z M,.Name u O] X.env).length=4:=by rfl) (U:(assignEach [.Name x q,.Name y J,.Name z M,.Name u O] X.env).findIdx? (·.1)=none:=by rfl) :
  PG X (.Tuple [.Name x q,.Name y J,.Name z M,.Name u O] n pos) (ZhC K 4 (JG (Z7 i) (JG (Z7 j) (JG (Z7 k) (JG (Z7 l) ZhD))))):=hK▸ZcS Y (Wi hx (Wi hy (Wi hz (Wi hu Zav)))) hn U
end
noncomputable def Za5 (H:Hp)(M:Addr)(ls:List Addr)(j:List (List (List Nat))):Prop:=H M=some (.lst (ls.map V.ref))/\ls.length=j.length/\∀(i:Nat) l,ls[i]?=some l->l≠M/\∃bs,TupsAt H l bs (j.getD i [])
theorem Za5.mono {H j:Hp}{M:Addr}{ls:List Addr}{mn:List (List (List Nat))}(s:Zv H j)(h:Za5 H M ls mn):Za5 j M ls mn:=
 ⟨s _ _ h.1,h.2.1,fun i l q=>let ⟨a,bs,b⟩:=h.2.2 i l q;⟨a,bs,b.mono s⟩⟩
theorem TupsAt.updM {H:Hp}{L M:Addr}{bs:List Addr}{yss:List (List Nat)}{vs:List V}{o:HO}(R:TupsAt H L bs yss)(j:H M=some (.lst vs))(q:L≠M):TupsAt (upd H M o) L bs yss:=
 ⟨by rw[Zy q];exact R.1,R.2.1,fun i b hb=>by
  have:=R.2.2 i b hb;rw[Zy (fun z=>by rw[z,j] at this;cases this)];exact this⟩
theorem TupsAt.cat {H:Hp}{Y L2 N:Addr}{j J:List Addr}{M O:List (List Nat)}(q:TupsAt H Y j M)(R2:TupsAt H L2 J O)(nN:H N=none):TupsAt (upd H N (.lst (j.map V.ref++J.map V.ref))) N (j++J) (M++O):=by
 have s:=Zv.upd (H:=H) (o:=.lst (j.map V.ref++J.map V.ref)) nN;refine⟨by rw[Zt,aU],by rw[Zd,Zd,q.2.1,R2.2.1],fun i b hb=>?_⟩;by_cases U:i<j.length
 ·rw[au U] at hb
  rw[Zb,au (by rw[<-q.2.1];exact U),<-Zb];exact s _ _ (q.2.2 i b hb)
 ·rw[aw (by omega)] at hb
  rw[Zb,aw (by rw[<-q.2.1];omega),<-Zb,<-q.2.1];exact s _ _ (R2.2.2 _ b hb)
noncomputable def gkB (k:Nat)(y:List Nat):Bool:=decide (y.length=k) && y.all fun x=>decide (x<k)
theorem ZkF {k:Nat}{y:List Nat}(h:gkB k y=true):Gk k y:=by
 unfold gkB at h;rw[ag,decide_eq_true_eq,aP] at h;exact⟨h.1,fun x j=>of_decide_eq_true (h.2 x j)⟩
noncomputable def ndB:List (List Nat)->Bool
 | []=>true
 |x::r=>!r.contains x && ndB r
theorem Zkx:∀{xs:List (List Nat)},ndB xs=true->xs.Nodup
 | [],_=>dU
 |x::r,h=>by
  unfold ndB at h;rw[ag,gh] at h;refine bQ.mpr ⟨fun j=>?_,Zkx h.2⟩;rw[ay.mpr j] at h;cases h.1
theorem ZlN {q:List (List Nat)}(U:PW (YY q)):∀a∈q,∀b∈q,J1 a b∈q:=by
 intro a Y b hb;obtain⟨i,hi⟩:=bE Y;obtain⟨j,O⟩:=bE hb;have J:(YY q).length=q.length:=by unfold YY;rw[Za]
 have il:=(ac.mp hi).1;have jl:=(ac.mp O).1;have h:=U.lt i j (by rw[J];exact il) (by rw[J];exact jl);have e:ZM (YY q) i j=q.findIdx (· == J1 a b):=by
  unfold ZM YY;rw[Zb,Zb,Zc,hi];show (Option.getD (q.map _)[j]? 0)=_;rw[Zc,O];rfl
 rw[e,J] at h;obtain⟨x,hx,M⟩:=cD.mp h;rw[<-eq_of_beq M];exact hx
noncomputable def ZiD:List (List Nat)->Bool
 | []=>true
 |x::r=>(r.all fun y=>!PyZ.Jt (nI y) (nI x)) && ZiD r
theorem Zf2:∀{xs:List (List Nat)},ZiD xs=true->Srt xs
 | [],_=>eA
 |x::r,h=>by
  unfold ZiD at h;rw[ag,aP] at h;refine List.Pairwise.cons (fun y j=>?_) (Zf2 h.2);obtain⟨z,q,rfl⟩:=aI.mp j;have:=h.1 z q;simpa using this
theorem ZcX {t:List (List Nat)}(h:MkC t):PW t:=by
 obtain⟨i,hi⟩:=bE h;have J:=(ac.mp hi).1;have j:tbC.length=31:=by decide +kernel
 have:=okC i (by omega);unfold JS at this;have q:tbC.getD i []=t:=by rw[Zb,hi];rfl
 rw[q,ag] at this;exact Zli this.1
end Pm
namespace C52
open PySem L2 PySem.Spec PyProof.Rows
open Tb Pm
noncomputable def pcB (x:List (List Nat)×List (List Nat)):Bool:=
 let k:=(x.1.getD 0 []).length
 decide (1<=k) && decide (k<=9) && decide (1<=x.1.length) && decide (x.1.length<=9) && x.1.all (gkB k) && decide ((bfs x.1 61 0 [ae k]).length<=60) && (bfs x.1 61 0 [ae k]).isPerm x.2 && decide (x.2.length<=60) && ndB x.2 && ZiD x.2 && x.2.all (gkB k)
theorem Zlk:psC.all pcB=true:=by decide +kernel
theorem ZeT {x:List (List Nat)×List (List Nat)}(j:x∈psC):x=pc1\/x=pc2\/x=pc3\/x=pc4:=by
 unfold psC at j;rcases aG.mp j with h|h
 ·exact .inl h
 rcases aG.mp h with h|h
 ·exact .inr (.inl h)
 rcases aG.mp h with h|h
 ·exact .inr (.inr (.inl h))
 ·exact .inr (.inr (.inr (aS.mp h)))
theorem in1:pc1∈psC:=aq
theorem in2:pc2∈psC:=ao _ aq
theorem in3:pc3∈psC:=ao _ (ao _ aq)
theorem in4:pc4∈psC:=ao _ (ao _ (ao _ aq))
theorem tb1:YY pc1.2∈[YY pc1.2,YY pc2.2,YY pc3.2,tA5]:=aq
theorem tb2:YY pc2.2∈[YY pc1.2,YY pc2.2,YY pc3.2,tA5]:=ao _ aq
theorem tb3:YY pc3.2∈[YY pc1.2,YY pc2.2,YY pc3.2,tA5]:=ao _ (ao _ aq)
theorem tb4:tA5∈[YY pc1.2,YY pc2.2,YY pc3.2,tA5]:=ao _ (ao _ (ao _ aq))
theorem ZgN (x:List (List Nat)×List (List Nat))(j:x∈psC):MkC (YY x.2):=by
 rcases ZeT j with h|h|h|h
 ·rw[h];exact aR _ tb1
 ·rw[h];exact aR _ tb2
 ·rw[h];exact aR _ tb3
 ·rw[h,Zk4];exact aR _ tb4
theorem Zll {x:List (List Nat)×List (List Nat)}(M:x∈psC):∃k fd,ByC k x.1 fd/\fd.Perm x.2/\Zn5 k x.2:=by
 have:=aP.mp Zlk x M;unfold pcB at this;simp only[ag,decide_eq_true_eq,aP] at this;obtain⟨⟨⟨⟨⟨⟨⟨⟨⟨⟨O,U⟩,Y⟩,h4⟩,h5⟩,h6⟩,h7⟩,h8⟩,h9⟩,j⟩,q⟩:=this;have P:=ZcX (ZgN x M);exact⟨(x.1.getD 0 []).length,bfs x.1 61 0 [ae (x.1.getD 0 []).length],⟨O,U,Y,h4,fun g J=>ZkF (h5 g J),rfl,h6⟩,List.isPerm_iff.mp h7,⟨O,U,h8,Zkx h9,Zf2 j,fun g J=>ZkF (q g J),ZlN P⟩⟩
noncomputable def smB (x:List Nat):Bool:=decide (x.length=4) && decide (1<=x.getD 0 0) && decide (1<=x.getD 1 0) && decide (x.getD 0 0<=60) && decide (x.getD 1 0<=60) && decide (x.getD 0 0*x.getD 1 0<=60) && decide (x.getD 2 0<=60) && decide (x.getD 3 0<=60)
theorem Zk7:smC.all smB=true:=by decide +kernel
theorem Zo8 {x:List Nat}(h:x.length=4):x.map nV=[.int (x.getD 0 0:Nat),.int (x.getD 1 0:Nat),.int (x.getD 2 0:Nat),.int (x.getD 3 0:Nat)]:=by
 match x,h with
 | [a,b,c,d],_=>rfl
noncomputable abbrev Zgr:Stmt:=top 39
noncomputable def Zbm:Sp:=fun M H Q _=>∃(p q:Addr) (b:Nat) (J:Nat),M=[.ref p,.int J]/\Wn H p q b/\b<2 ^ 60/\1<=J/\J<=31/\∀g t j,Tk p H j->Wn j p q (b+1)->GT j g t->MkC t->Q (.ref g) j
section
variable {P:Program}{w:World}{K:aa}{mg:Str->Option Value}{base:Heap}
theorem Zfi {j:TE}{v:V}{σ:L2.St}{H:Hp}{Q:List V->Hp->Prop}(h:j σ H fun x q=>Q [v,x] q):VH (tC v) (VH j ZfZ) σ H Q:=h
structure Wl (p:Prop):Prop where
 h:p
theorem Zj0 {X:Cx}{j:List Stmt}{D:J5}{σ:L2.St}{H:Hp}{t:TS}(h:QSs X j t)(k:Wl (t D σ H)):∃t,PSs X j t/\t D σ H:=⟨t,h.h,k.h⟩
theorem Ze5 {f:Addr}{fd:FuncData}(F:WN K "_law_group" "_law_group" Zgr f fd)(T:BlB mg)(GD:Fn P w K mg base Yi 1 "_law_draw" ["_law_feed_here", "_law_many"] Zai)(p4:Fn P w K mg base Yi 1 "_law_twisted" ["_law_m", "_law_k", "_law_r", "_law_c"] Zdr)(p6:Fn P w K mg base Yi 1 "_law_by_perms" ["_law_perms"] Zkj)(p7:Fn P w K mg base Yi 1 "_law_times_of" ["_law_perms"] Zds):Yb P w K mg base Yi 2 f fd ["_law_feed_here", "_law_most"] Zbm:=by
 refine F.ok (FS (N:=["_law_feed_here", "_law_most", "_law_some", "_law_at", "_law_m", "_law_k", "_law_r", "_law_c", "_law_perms"])) (fun vs H Q E h=>?_) (fun cdv A p8 s H vs Q E hr h=>?_)
 ·obtain⟨p,q,b,ms,rfl,_⟩:=h;rfl
 ·obtain⟨p,q,b,ms,rfl,T0,hb,m1,m31,k⟩:=h
  refine Zj0 (Jz (ZbE 2 rfl (Vf (Jy (Z5 [3,2,2,0] (qa qi (qa qi (qa qi (qa qi ZN)))) (by rfl)) (Jy (Z5 [4,2,3,2] (qa qi (qa qi (qa qi (qa qi ZN)))) (by rfl)) (Jy (Z5 [4,1,1,0] (qa qi (qa qi (qa qi (qa qi ZN)))) (by rfl)) (Jy (Z5 [5,1,1,0] (qa qi (qa qi (qa qi (qa qi ZN)))) (by rfl)) (Jy (Z5 [2,2,1,0] (qa qi (qa qi (qa qi (qa qi ZN)))) (by rfl)) (Jy (Z5 [5,2,4,0] (qa qi (qa qi (qa qi (qa qi ZN)))) (by rfl)) (Jy (Z5 [4,2,3,0] (qa qi (qa qi (qa qi (qa qi ZN)))) (by rfl)) WO)))))))))
   (Jz (ZbE 2 rfl (ZgJ Zaw (vn 2) (Vf (Jy (Z5 [3,4,2,0] (qa qi (qa qi (qa qi (qa qi ZN)))) (by rfl)) (Jy (Z5 [7,3,2,0] (qa qi (qa qi (qa qi (qa qi ZN)))) (by rfl)) (Jy (Z5 [1,1,1,0] (qa qi (qa qi (qa qi (qa qi ZN)))) (by rfl)) (Jy (Z5 [3,1,1,0] (qa qi (qa qi (qa qi (qa qi ZN)))) (by rfl)) (Jy (Z5 [2,1,1,0] (qa qi (qa qi (qa qi (qa qi ZN)))) (by rfl)) (Jy (Z5 [6,1,1,0] (qa qi (qa qi (qa qi (qa qi ZN)))) (by rfl)) (Jy (Z5 [5,4,2,0] (qa qi (qa qi (qa qi (qa qi ZN)))) (by rfl)) WO))))))))))
   (Jz (ZbE 2 rfl (ZgJ Zaw (vn 2) (Vf (Jy (Z5 [6,2,5,0] (qa qi (qa qi (qa qi (qa qi ZN)))) (by rfl)) (Jy (Z5 [3,3,1,0] (qa qi (qa qi (qa qi (qa qi ZN)))) (by rfl)) (Jy (Z5 [7,2,6,0] (qa qi (qa qi (qa qi (qa qi ZN)))) (by rfl)) (Jy (Z5 [8,2,3,0] (qa qi (qa qi (qa qi (qa qi ZN)))) (by rfl)) (Jy (Z5 [8,2,7,4] (qa qi (qa qi (qa qi (qa qi ZN)))) (by rfl)) (Jy (Z5 [8,2,7,0] (qa qi (qa qi (qa qi (qa qi ZN)))) (by rfl)) (Jy (Z5 [7,1,1,0] (qa qi (qa qi (qa qi (qa qi ZN)))) (by rfl)) WO))))))))))
   (Jz (ZbE 2 rfl (ZgJ Zaw (vn 2) (Vf (Jy (Z5 [4,2,1,0] (qa qi (qa qi (qa qi (qa qi ZN)))) (by rfl)) (Jy (Z5 [8,1,1,0] (qa qi (qa qi (qa qi (qa qi ZN)))) (by rfl)) (Jy (Z5 [8,2,5,0] (qa qi (qa qi (qa qi (qa qi ZN)))) (by rfl)) (Jy (Z5 [9,2,8,0] (qa qi (qa qi (qa qi (qa qi ZN)))) (by rfl)) (Jy (Z5 [9,1,1,0] (qa qi (qa qi (qa qi (qa qi ZN)))) (by rfl)) (Jy (Z5 [4,4,3,0] (qa qi (qa qi (qa qi (qa qi ZN)))) (by rfl)) WO)))))))))
   (Jz ⟨ZD 3 rfl (Ws GD hr ZK (pc (vn 0) (pc (vn 1) Zu)))⟩
   (Jz ⟨Jo (ZS Zd7 (vn 3) (cb (YF K) T.len (pc (vn 2) Zu)) (Z6 _))
    (Zs (JB (ZG (X2 K) (vn 2) (vn 3) (fun _ _=>rfl)) (g4 K 4 5 6 7 rfl (gn 4) (gn 5) (gn 6) (gn 7)))
    (Zw (ZF (Ws p4 hr ZK (pc (vn 4) (pc (vn 5) (pc (vn 6) (pc (vn 7) Zu)))))))) YX⟩
   (Jz (ZbE 8 rfl (ZoL (qal (Vf (Jy (Z5 [1,2,0,3] (qa qi (qa qi (qa qi (qa qi ZN)))) (by rfl)) (Jy (Z5 [1,0,3,2] (qa qi (qa qi (qa qi (qa qi ZN)))) (by rfl)) WO))) (qal (Vf (Jy (Z5 [1,2,3,0] (qa qi (qa qi (qa qi (qa qi ZN)))) (by rfl)) (Jy (Z5 [1,0,2,3] (qa qi (qa qi (qa qi (qa qi ZN)))) (by rfl)) WO))) (qal (Vf (Jy (Z5 [1,2,3,4,0] (qa qi (qa qi (qa qi (qa qi (qa qi ZN))))) (by rfl)) (Jy (Z5 [1,2,0,3,4] (qa qi (qa qi (qa qi (qa qi (qa qi ZN))))) (by rfl)) WO))) ZiT)))))
   (Jz (ZmX (vn 8) qi (Vf (Jy (Z5 [3,7,2,6,1,5,0,4] (qa qi (qa qi (qa qi (qa qi (qa qi (qa qi (qa qi (qa qi ZN)))))))) (by rfl)) (Jy (Z5 [5,2,0,6,3,1,7,4] (qa qi (qa qi (qa qi (qa qi (qa qi (qa qi (qa qi (qa qi ZN)))))))) (by rfl)) WO))))
   ⟨Zw (ZF (Ws p7 hr ZK (pc (Ws p6 hr ZK (pc (ZG (X2 K) (vn 8) (Zz Y5 (vn 3) (cb (YF K) T.len (pc (vn 2) Zu))) (fun _ _=>rfl)) Zu)) Zu)))⟩)))))))) ?_
  refine⟨?_⟩;have sz:(16777216:Nat)=sizeLine:=by decide
  refine XC (Jv sm1 (by decide) (by decide) fun O H1 s1 l1 i1 S1 n1=>?_);have t1:=s1.trans (Zv.upd (o:=.lst (O.map V.ref)) n1);have R1:TupsAt (upd H1 S1 (.lst (O.map V.ref))) S1 O sm1:=⟨Zt,l1,fun i b hb=>Zv.upd (o:=.lst (O.map V.ref)) n1 _ _ (i1 i b hb)⟩;generalize upd H1 S1 (.lst (O.map V.ref))=G1 at t1 R1 ⊢;refine XC ⟨_,rfl,Jv UN (by decide) (by decide) fun U H2 s2 l2 i2 S2 n2=>?_⟩;have t2:=s2.trans (Zv.upd (o:=.lst (U.map V.ref)) n2);have R2:TupsAt (upd H2 S2 (.lst (U.map V.ref))) S2 U UN:=⟨Zt,l2,fun i b hb=>Zv.upd (o:=.lst (U.map V.ref)) n2 _ _ (i2 i b hb)⟩;generalize upd H2 S2 (.lst (U.map V.ref))=G2 at t2 R2 ⊢;have m8:=R1.mono t2;refine⟨S1,S2,_,_,rfl,rfl,m8.1,R2.1,by rw[Za,Za,m8.2.1,R2.2.1];decide,fun N2 m2=>?_⟩;have u2:=(t1.trans t2).trans (Zv.upd (o:=.lst (O.map V.ref++U.map V.ref)) m2);have Q2:=m8.cat R2 m2;generalize upd G2 N2 (.lst (O.map V.ref++U.map V.ref))=J2 at u2 Q2 ⊢;refine XC ⟨_,rfl,Jv sm3 (by decide) (by decide) fun Y H3 s3 l3 i3 S3 n3=>?_⟩;have t3:=s3.trans (Zv.upd (o:=.lst (Y.map V.ref)) n3);have R3:TupsAt (upd H3 S3 (.lst (Y.map V.ref))) S3 Y sm3:=⟨Zt,l3,fun i b hb=>Zv.upd (o:=.lst (Y.map V.ref)) n3 _ _ (i3 i b hb)⟩;generalize upd H3 S3 (.lst (Y.map V.ref))=G3 at t3 R3 ⊢;have n6:=Q2.mono t3;refine⟨N2,S3,_,_,rfl,rfl,n6.1,R3.1,by rw[Za,Za,n6.2.1,R3.2.1];decide,fun N3 m3=>?_⟩;have u3:=(u2.trans t3).trans (Zv.upd (o:=.lst ((O++U).map V.ref++Y.map V.ref)) m3);have Q3:=n6.cat R3 m3;generalize upd G3 N3 (.lst ((O++U).map V.ref++Y.map V.ref))=J3 at u3 Q3 ⊢;refine XC ⟨_,rfl,Jv sm4 (by decide) (by decide) fun b4 H4 s4 l4 i4 S4 n4=>?_⟩;have t4:=s4.trans (Zv.upd (o:=.lst (b4.map V.ref)) n4);have R4:TupsAt (upd H4 S4 (.lst (b4.map V.ref))) S4 b4 sm4:=⟨Zt,l4,fun i b hb=>Zv.upd (o:=.lst (b4.map V.ref)) n4 _ _ (i4 i b hb)⟩;generalize upd H4 S4 (.lst (b4.map V.ref))=G4 at t4 R4 ⊢;have n8:=Q3.mono t4;refine⟨N3,S4,_,_,rfl,rfl,n8.1,R4.1,by rw[Za,Za,n8.2.1,R4.2.1];decide,fun N4 m4=>?_⟩;have u4:=(u3.trans t4).trans (Zv.upd (o:=.lst ((O++U++Y).map V.ref++b4.map V.ref)) m4);have Q4:TupsAt _ N4 (O++U++Y++b4) smC:=n8.cat R4 m4;generalize upd G4 N4 (.lst ((O++U++Y).map V.ref++b4.map V.ref))=J4 at u4 Q4 ⊢;generalize O++U++Y++b4=bs at Q4;have T4:=T0.mono u4;have q0:smC.length=27:=by decide
  refine⟨_,rfl,_,rfl,p,q,_,b,rfl,T4,hb,by omega,by omega,fun r H5 r0 r1 k5 T5=>?_⟩;obtain⟨j,rfl⟩:=c8 r0;have Q5:TupsAt H5 N4 bs smC:=⟨k5.lst T4 Q4.1,Q4.2.1,fun i b hb=>k5.tup T4 (Q4.2.2 i b hb)⟩;have kk:=(Tk.of u4).trans k5;have bl:(bs.map V.ref).length=27:=by rw[Za,Q5.2.1,q0]
  refine⟨_,rfl,_,rfl,N4,_,rfl,.inl (.of Q5.1),_,_,rfl,rfl,_,rfl,?_⟩;rw[bl];refine Y8 (fun hl=>?_) (fun hl=>?_)
  ·have hj:j<27:=by
    have:=of_decide_eq_true hl;omega
   have o6:j<smC.length:=by omega
   obtain⟨a,ha,n9,o0⟩:=Q5.get o6;have hm:smC.getD j []∈smC:=ZaC o6;have hs:=aP.mp Zk7 _ hm;unfold smB at hs;simp only[ag,decide_eq_true_eq] at hs;obtain⟨⟨⟨⟨⟨⟨⟨x1,x2⟩,x3⟩,x4⟩,x5⟩,x6⟩,x7⟩,x8⟩:=hs;have o7:MkC (twX (smC.getD j [])):=bW _ (aI.mpr ⟨_,hm,rfl⟩);generalize smC.getD j []=x at o0 hm x1 x2 x3 x4 x5 x6 x7 x8 o7;rw[Zo8 x1] at o0;refine⟨_,rfl,_,rfl,N4,_,_,_,rfl,rfl,.of Q5.1,n9,a,_,rfl,.of o0,rfl,_,_,rfl,_,_,rfl,_,_,rfl,_,_,rfl,rfl,?_⟩;refine⟨_,rfl,_,rfl,_,rfl,_,rfl,x.getD 0 0,x.getD 1 0,x.getD 2 0,x.getD 3 0,rfl,x2,x3,x4,x5,x6,x7,x8,fun g H6 s6 G6=>?_⟩;exact k g _ H6 (kk.trans (Tk.of s6)) (T5.mono s6) G6 o7
  ·have hj:27<=j:=by
    have:¬((j:Int)<((27:Nat):Int)):=fun z=>hl (decide_eq_true z);omega
   have r6:j-27<4:=by omega
   refine XC (Zf0 pm3 (by decide) (by decide) fun ls H6 s6 r8 r9 M hM=>?_);have s7:=s6.trans (Zv.upd (H:=H6) (o:=.lst (ls.map V.ref)) hM);have m7:Za5 (upd H6 M (.lst (ls.map V.ref))) M ls pm3:=⟨Zt,r8,fun i l hl=>by
    obtain⟨u1,cs,u2⟩:=r9 i l hl;refine⟨fun z=>?_,cs,u2.mono (Zv.upd hM)⟩;have:=u2.1;rw[z,hM] at this;cases this⟩
   have t0:H5 M=none:=s6.free hM;generalize upd H6 M (.lst (ls.map V.ref))=H7 at s7 m7 ⊢;refine⟨_,rfl,.inl ⟨rfl,_,.of m7.1⟩,Zfi (Jv pmI (by decide) (by decide) fun cs H8 s8 l8 i8 S hS=>?_)⟩;have s9:=s8.trans (Zv.upd (o:=.lst (cs.map V.ref)) hS);have RS:TupsAt (upd H8 S (.lst (cs.map V.ref))) S cs pmI:=⟨Zt,l8,fun i b hb=>Zv.upd (o:=.lst (cs.map V.ref)) hS _ _ (i8 i b hb)⟩;generalize upd H8 S (.lst (cs.map V.ref))=H9 at s9 RS ⊢;have m9:=m7.mono s9;have ll:ls.length=3:=m9.2.1;have t5:S≠M:=fun z=>by
    have:=s8 _ _ m7.1;rw[<-z,hS] at this;cases this
   refine⟨M,_,_,2,rfl,rfl,m9.1,by rw[Za,ll];decide,by decide,by rw[Za,ll,<-sz];decide,?_⟩
   match ls,ll with
   | [J,a1,a2],_=>
    obtain⟨t6,c0,t7⟩:=m9.2.2 0 J rfl;obtain⟨t9,c1,u5⟩:=m9.2.2 1 a1 rfl;obtain⟨u9,c2,w8⟩:=m9.2.2 2 a2 rfl;have v0:=t7.updM (o:=.lst [.ref J,.ref a1,.ref S,.ref a2]) m9.1 t6;have v1:=u5.updM (o:=.lst [.ref J,.ref a1,.ref S,.ref a2]) m9.1 t9;have v2:=w8.updM (o:=.lst [.ref J,.ref a1,.ref S,.ref a2]) m9.1 u9;have v3:=RS.updM (o:=.lst [.ref J,.ref a1,.ref S,.ref a2]) m9.1 t5;have m5:upd H9 M (.lst [.ref J,.ref a1,.ref S,.ref a2]) M=some (.lst [.ref J,.ref a1,.ref S,.ref a2]):=Zt;have o5:Zv H5 (upd H9 M (.lst [.ref J,.ref a1,.ref S,.ref a2])):=(s7.trans s9).updr t0;rw[show List.take 2 (gF V.ref [J,a1,a2])++V.ref S::List.drop 2 (gF V.ref [J,a1,a2])=[.ref J,.ref a1,.ref S,.ref a2] from rfl];generalize upd H9 M (.lst [.ref J,.ref a1,.ref S,.ref a2])=w9 at v0 v1 v2 v3 m5 o5 ⊢;have o8:∃l cs x,[V.ref J,.ref a1,.ref S,.ref a2][j-27]?=some (.ref l)/\x∈psC/\TupsAt w9 l cs x.1:=by
     match j-27,r6 with
     |0,_=>exact⟨J,c0,pc1,rfl,in1,v0⟩
     |1,_=>exact⟨a1,c1,pc2,rfl,in2,v1⟩
     |2,_=>exact⟨S,cs,pc3,rfl,in3,v3⟩
     |3,_=>exact⟨a2,c2,pc4,rfl,in4,v2⟩
    obtain⟨l,ds,x,n9,hx,Rl⟩:=o8;obtain⟨o9,p3,By,pm,Fs⟩:=Zll hx;have x0:=Q5.mono o5;refine⟨_,rfl,_,rfl,_,rfl,N4,_,rfl,.inl (.of x0.1),_,_,rfl,rfl,M,_,_,_,rfl,rfl,.of m5,?_,l,ds,x.1,o9,p3,rfl,Rl,By,fun L es H11 x9 y4=>?_⟩
    ·rw[bl,show (j:Int)-((27:Nat):Int)=((j-27:Nat):Int) by omega]
     exact ZR n9
    ·refine⟨L,es,p3,x.2,o9,rfl,y4,pm,Fs,fun g y6 y8 y9=>?_⟩
     have m6:=(o5.trans x9).trans y8;exact k g _ y6 (kk.trans (Tk.of m6)) (T5.mono m6) y9 (ZgN x hx)
end
end C52
namespace Tb
theorem Zjb {n:Nat}{o:List Nat}{k a:Nat}(O:Ord n o)(k1:1<=k)(M:k<n)(a1:1<=a)(U:a<n):Ord n ((o.set k (o.getD a 0)).set a (o.getD k 0)):=by
 have j:k<o.length:=by rw[O.len];exact M
 have q:a<o.length:=by rw[O.len];exact U
 have Y:o.getD k 0=o[k]:=by rw[Zb,Zf j];rfl
 have ea:o.getD a 0=o[a]:=by rw[Zb,Zf q];rfl
 have pm:((o.set k (o.getD a 0)).set a (o.getD k 0)).Perm o:=by rw[Y,ea];exact List.set_set_perm j q
 refine⟨by rw[be,be,O.len],pm.nodup_iff.mpr O.nd,fun v J=>pm.mem_iff.mpr (O.all v J),fun v J=>O.lt v (pm.mem_iff.mp J),?_⟩;have z:=O.z;rw[Zb] at z ⊢;rw[fz (by omega),fz (by omega)];exact z
theorem ZeY {n:Nat}(q:1<=n):Ord n (ae n):=⟨Zg,ee,fun v j=>af.mpr j,fun v j=>af.mp j,by rw[Zb,am (by omega)];rfl⟩
end Tb
namespace C52
open PySem L2 PySem.Spec PyProof.Rows
open Tb Pm
noncomputable abbrev Zgn:Stmt:=top 40
noncomputable def Zbl:Sp:=fun J H Q _=>∃(p q:Addr) (b n:Nat),J=[.ref p,.int (n:Nat)]/\Wn H p q b/\b+60<2 ^ 60/\1<=n/\n<=60/\∀L os j,Tk p H j->Wn j p q (b+n)->Ord n os->H L=none->j L=some (.lst (os.map nV))->Q (.ref L) j
theorem Tk.updN {p l:Addr}{H j:Hp}{o:HO}(a:Tk p H j)(h:H l=none):Tk p H (upd j l o):=fun c u e n=>by
 rw[Zy (fun z=>by rw[z,h] at e;cases e)];exact a c u e n
section
variable {P:Program}{w:World}{K:aa}{mg:Str->Option Value}{base:Heap}
theorem Ze4 {f:Addr}{fd:FuncData}(F:WN K "_law_order" "_law_order" Zgn f fd)(T:BlB mg)(GD:Fn P w K mg base Yi 1 "_law_draw" ["_law_feed_here", "_law_many"] Zai):Yb P w K mg base Yi 2 f fd ["_law_feed_here", "_law_many"] Zbl:=by
 refine F.ok (FS (N:=["_law_feed_here", "_law_many", "_law_order_here", "_law_k", "_law_at"])) (fun vs H Q E h=>?_) (fun n6 A m5 s H vs Q E hr h=>?_)
 ·obtain⟨p,q,b,n,rfl,_⟩:=h;rfl
 ·obtain⟨p,q,b,n,rfl,T0,hb,n1,n60,k⟩:=h
  refine⟨_,Zs (ZD 2 rfl (ct (UD rfl) T.list (pc (ct Vo T.range (pc (vn 1) Zu)) Zu)))
   (Zs (ZT av rfl (ZmS T.range (pc Zx (pc (vn 1) Zu))) (gn 3)
    (Zs (ZD 4 rfl (Zz YK Zx (Ws GD hr ZK (pc (vn 0) (pc (Zz Y5 (vn 1) Zx) Zu)))))
    (Zw (JB (VU (pc (ZG (X2 K) (vn 2) (vn 4) (fun _ _=>rfl)) (pc (ZG (X2 K) (vn 2) (vn 3) (fun _ _=>rfl)) Zu))) (ZcS rfl (Wi (XW (vn 2) (vn 3) YT) (Wi (XW (vn 2) (vn 4) YT) Zav)))))))
   (Zw (ZF (vn 2)))),?_⟩
  have sz:(16777216:Nat)=sizeLine:=by decide
  refine⟨_,rfl,_,rfl,fun r0 m6=>⟨r0,0,_,rfl,Zt,⟨by omega,by omega,by omega,by omega⟩,by omega,fun l O=>?_⟩⟩;rw[show ((n:Int)-0).toNat=n by omega];have s1:Zv H (upd H r0 (.rng 0 (n:Int))):=Zv.upd m6;have nl:H l=none:=s1.free O;have s2:=s1.trans (Zv.upd (o:=.lst ((Y1 0 n).map V.int)) O);have h2:upd (upd H r0 (.rng 0 (n:Int))) l (.lst ((Y1 0 n).map V.int)) l=some (.lst ((ae n).map nV)):=by rw[Zt,Zlb]
  have np:=T0.neN nl;generalize upd (upd H r0 (.rng 0 (n:Int))) l (.lst ((Y1 0 n).map V.int))=H2 at s2 h2 ⊢;refine⟨_,rfl,_,_,rfl,⟨by omega,by omega,by omega,by omega⟩,?_⟩;rw[show ((n:Int)-1).toNat=n-1 by omega];refine YC (fun i J H'=>∃(v w:Option V) (os:List Nat),J=[some (.ref p),some (.int (n:Nat)),some (.ref l),v,w]/\Tk p H H'/\Wn H' p q (b+i)/\Ord n os/\H' l=some (.lst (os.map nV))) ⟨_,_,_,rfl,Tk.of s2,T0.mono s2,ZeY n1,h2⟩ ?_ ?_
  ·rintro i J H3 hi ⟨v,w,os,rfl,d3,T3,M,h3⟩
   refine⟨_,rfl,_,rfl,_,_,rfl,rfl,p,q,_,b+i,rfl,T3,by omega,by omega,by omega,fun r H4 m8 n8 d4 T4=>?_⟩;obtain⟨j,rfl⟩:=c8 m8;have h4:=d4.lst T3 h3;have hj:1+j<n:=by omega
   have U:1+i<n:=by omega
   have ej:(1:Int)+(j:Int)=((1+j:Nat):Int):=by omega
   have ei:(1:Int)+(i:Int)=((1+i:Nat):Int):=by omega
   have gj:(os.map nV)[1+j]?=some (nV (os.getD (1+j) 0)):=by rw[Zc,Yo (by rw[M.len];exact hj)];rfl
   have gi:(os.map nV)[1+i]?=some (nV (os.getD (1+i) 0)):=by rw[Zc,Yo (by rw[M.len];exact U)];rfl
   have lm:(os.map nV).length=n:=by rw[Za,M.len]
   refine⟨_,_,rfl,rfl,_,rfl,_,rfl,l,_,_,_,rfl,rfl,.of h4,by rw[ej];exact ZR gj,_,rfl,_,rfl,l,_,_,_,rfl,rfl,.of h4,by rw[ei];exact ZR gi,(by show 2<=sizeLine;decide),fun c nc=>?_⟩;have s5:=Zv.upd (H:=H4) (o:=.tup [nV (os.getD (1+j) 0),nV (os.getD (1+i) 0)]) nc;have h5:=s5 _ _ h4;have Y:upd H4 c (.tup [nV (os.getD (1+j) 0),nV (os.getD (1+i) 0)]) c=some (.tup [nV (os.getD (1+j) 0),nV (os.getD (1+i) 0)]):=Zt;have T5:=T4.mono s5;have d5:=(d3.trans d4).trans (Tk.of s5);generalize upd H4 c (.tup [nV (os.getD (1+j) 0),nV (os.getD (1+i) 0)])=H5 at s5 h5 Y T5 d5 ⊢;refine⟨c,_,rfl,.of Y,rfl,_,_,rfl,_,rfl,_,rfl,l,_,_,1+i,rfl,rfl,h5,by rw[ei];exact JE (by omega),_,_,rfl,_,rfl,_,rfl,l,_,_,1+j,rfl,rfl,Zt,by rw[ej];exact JE (by rw[be];omega),rfl,?_⟩;refine⟨_,_,_,rfl,(d5.updN nl).updN nl,?_,Zjb M (by omega) U (by omega) hj,?_⟩
   ·have:=(T5.put (o:=.lst ((os.map nV).set (1+i) (nV (os.getD (1+j) 0)))) np.1 np.2).put (o:=.lst (((os.map nV).set (1+i) (nV (os.getD (1+j) 0))).set (1+j) (nV (os.getD (1+i) 0)))) np.1 np.2
    rw[show b+(i+1)=b+i+1 by omega];exact this
   ·rw[Zt,j6,j6]
  ·rintro J H3 ⟨v,w,os,rfl,d3,T3,M,h3⟩
   exact⟨_,rfl,k l os H3 d3 (T3.le (by omega)) M nl h3⟩
end
noncomputable abbrev Zgl:Stmt:=top 41
noncomputable def Zdx:Sp:=fun J H Q _=>∃(L g:Addr) (t:List (List Nat)) (os:List Nat),J=[.ref L,.ref g]/\H L=some (.lst (os.map nV))/\GT H g t/\PW t/\Ord t.length os/\∀q j,Zv H j->GT j q (ren t os)->Q (.ref q) j
noncomputable def ZhN (t:List (List Nat))(os:List Nat)(a:Nat):V->V
 | .int z=>.int (pos os (ZM t a z.toNat):Nat)
 |y=>y
theorem ZhM (t:List (List Nat))(os:List Nat)(a:Nat):(os.map nV).map (ZhN t os a)=(os.map fun b=>pos os (ZM t a b)).map nV:=by
 rw[aJ,aJ];refine aX fun b _=>?_;show V.int (pos os (ZM t a (b:Int).toNat):Nat)=nV (pos os (ZM t a b));rw[Zj];rfl
noncomputable def ZlQ (os:List Nat):V->V
 | .int z=>.int (pos os z.toNat:Nat)
 |y=>y
section
variable {P:Program}{w:World}{K:aa}{mg:Str->Option Value}{base:Heap}
theorem Zg1 {f:Addr}{fd:FuncData}(F:WN K "_law_renamed_by" "_law_renamed_by" Zgl f fd)(T:BlB mg):Yb P w K mg base Yi 1 f fd ["_law_order_here", "_law_group_here"] Zdx:=by
 refine F.ok (FS (N:=["_law_order_here", "_law_group_here", "_law_spots"])) (fun vs H Q E h=>?_) (fun p4 A o6 s H vs Q E hr h=>?_)
 ·obtain⟨L,g,t,os,rfl,_⟩:=h;rfl
 ·obtain⟨L,g,t,os,rfl,hL,G0,Pt,O,k⟩:=h
  refine⟨_,Zs (ZD 2 rfl (cmp ["_law_a"] [0] ["_law_a", "_law_order_here"] rfl (XV T.range (pc (cb (YF K) T.len (pc (vn 1) Zu)) Zu)) (fun _ _ _ _ _=>gn 0) (fun _ _ _ _ _=>ZQ) (fun _ _ _ _ _=>Zlo K aO kI PySem.F.type_list_index (Zo2 K hr.units) (vn 1) (pc (vn 0) Zu))))
   (Zw (ZF (ct ZJ T.tuple (pc (cmp ["_law_a"] [0,2,1] ["_law_a", "_law_order_here", "_law_spots", "_law_group_here"] rfl (itL K (vn 0)) (fun _ _ _ _ _=>gnf 0 rfl) (fun _ _ _ _ _=>ZQ) (fun _ _ _ _ _=>ct (ZfU K) (by exact T.tuple) (pc (cmp ["_law_b"] [2,3,0] ["_law_b", "_law_spots", "_law_group_here", "_law_a"] rfl (itL K (vn 1)) (fun _ _ _ _ _=>gn 0) (fun _ _ _ _ _=>ZQ) (fun _ _ _ _ _=>ZG (X2 K) (vn 1) (ZG (XI K) (ZG (XI K) (vn 2) (vn 3) (fun _ _=>rfl)) (vn 0) (fun _ _=>rfl)) (fun _ _=>rfl))) Zu))) Zu)))),?_⟩
  have sz:(16777216:Nat)=sizeLine:=by decide
  have n1:=Pt.n1;have p6:=Pt.n60;obtain⟨gs,u1,u2,_⟩:=id G0;have el:(gs.map V.ref).length=t.length:=by rw[Za,u2]
  refine⟨_,rfl,g,_,rfl,.inr (.of u1),_,rfl,by rw[el];omega,by rw[el];omega,?_⟩;rw[el,Zj];refine WL (XB 0 t.length) [some (.ref L)] rfl (ZlQ os) (by rw[Za,YJ];omega) (fun j x U hx s' R' Y=>?_) (fun D H3 nD s3 hD=>?_)
  ·obtain⟨a,ha,rfl⟩:∃a,a<t.length/\x=.int (a:Nat):=⟨j,Zas hx⟩
   obtain⟨pl,pv⟩:=Y4 O ha;have m5:=s' _ _ hL;have eo:os.map nV=(os.map fun k:Nat=>((k:Nat):Int)).map V.int:=by rw[aJ];rfl
   refine⟨_,rfl,.inl ⟨rfl,_,.of m5⟩,_,rfl,?_⟩;refine⟨L,(os.map fun k:Nat=>((k:Nat):Int)).map V.int,(os.map fun k:Nat=>((k:Nat):Int)).map aW,.int (a:Nat),.int (a:Nat),pos os a,rfl,rfl,by rw[<-eo];exact m5,Wo.ints _,.int _,JK _,rfl,by simp[dR],by rw[Za,Za,O.len];exact pl,fun d q=>?_,fun m d hm q=>?_,?_⟩
   ·have ho:=Yo (o:=os) (i:=pos os a) (by rw[O.len];exact pl)
    rw[Zc,Zc,ho,pv] at q;cases q;rw[Zev];exact decide_eq_true rfl
   ·have m6:m<os.length:=by rw[O.len];omega
    have ho:=Yo (o:=os) m6;rw[Zc,Zc,ho] at q;cases q;rw[Zev];refine decide_eq_false fun z=>?_;have m8:=List.not_of_lt_findIdx (p:=(· == a)) (xs:=os) hm;have J:os[m]=os.getD m 0:=by
     rw[Zf m6] at ho;exact aD ho
    rw[J,beq_eq_false_iff_ne] at m8;have z:((os.getD m 0:Nat):Int)=((a:Nat):Int):=z;exact m8 (by omega)
   ·have:=Y U (Zv.refl _)
    show R' (.int (pos os a:Nat)) U;have e:ZlQ os (.int (a:Nat))=V.int (pos os a:Nat):=by
     show V.int (pos os (a:Int).toNat:Nat)=_;rw[Zj]
    rw[e] at this;exact this
  ·have eD:((Y1 0 t.length).map V.int).map (ZlQ os)=(ae t.length).map fun a=>nV (pos os a):=by
    rw[Zlb,aJ];refine aX fun a _=>?_;show V.int (pos os (a:Int).toNat:Nat)=_;rw[Zj];rfl
   rw[eD] at hD;have M:=s3 _ _ hL;have G3:=G0.mono s3;refine⟨_,rfl,L,rfl,⟨_,.of M⟩,?_⟩;refine Wa (W:=Addr) id (fun i w H=>Tz H w ((os.map fun b=>pos os (ZM t (os.getD i 0) b)).map nV)) (fun _ _=>True) (Yv (K:=K) (.of M)) [some (.ref L),some (.ref D),some (.ref g)] rfl (by rw[Za,O.len];omega) (fun i w H U s h=>h.mono s) (fun w H U s h=>trivial) (fun i w H0 H1 D o ys p7 h h0 h1 h2=>Tz.updL h h2) (fun i y hy H4 s4 R kR=>?_) (fun D2 ws H4 p8 s4 o7 wl hw _=>?_)
   ·obtain⟨a,ha,rfl⟩:=Xh hy
    have n6:a<t.length:=O.lt a (aF ha);have hd:os.getD i 0=a:=by rw[Zb,ha];rfl
    have n8:=s4 _ _ M;refine⟨_,rfl,L,rfl,⟨_,.of n8⟩,?_⟩;refine WL (Yv (K:=K) (.of n8)) [some (.ref D),some (.ref g),some (.int (a:Nat))] rfl (ZhN t os a) (by rw[Za,O.len];omega) (fun j x U hx s' R' Y=>?_) (fun D5 H5 q0 s5 n9=>?_)
    ·obtain⟨b,hb,rfl⟩:=Xh hx
     have o0:b<t.length:=O.lt b (aF hb);obtain⟨q1,q2,q3,_,q4,q5,q6⟩:=(G3.mono (s4.trans s')).at Pt n6;have o8:=Pt.lt a b n6 o0;have o9:=(s4.trans s') _ _ hD;have p3:((ae t.length).map fun a=>nV (pos os a))[ZM t a b]?=some (nV (pos os (ZM t a b))):=by rw[Zc,am o8];rfl
     refine⟨_,rfl,_,rfl,_,rfl,g,_,_,_,rfl,rfl,.of q3,q4,_,rfl,q2,_,_,_,rfl,rfl,q5.sq,q6 b o0,D,_,_,_,rfl,rfl,.of o9,ZR p3,?_⟩;have:=Y U (Zv.refl _);have e:ZhN t os a (.int (b:Nat))=V.int (pos os (ZM t a b):Nat):=by
      show V.int (pos os (ZM t a (b:Int).toNat):Nat)=_;rw[Zj]
     rw[e] at this;exact this
    ·rw[ZhM] at n9
     refine⟨D5,_,rfl,.of n9,fun tr H6 nt s6 hz=>?_⟩;exact kR tr H6 (s5.trans s6) (by rw[hd];exact hz) trivial
   ·rw[Za] at wl
    have R:Zie H4 D2 ws (fun i=>os.map fun b=>pos os (ZM t (os.getD i 0) b)):=⟨o7,fun i r hr=>(hw i r hr).1⟩;refine⟨D2,_,rfl,.inl ⟨.of R.1,fun Y o5=>?_⟩⟩;have GG:=Zn4 R wl (Zv.upd o5) Zt;have er:((ae os.length).map fun i=>os.map fun b=>pos os (ZM t (os.getD i 0) b))=ren t os:=by
     unfold ren;refine bf fun i=>?_;rw[Zc,Zc];by_cases hi:i<os.length
     ·rw[am hi,Yo hi]
      rfl
     ·rw[ak (by rw[Zg];omega),ak (by omega)]
      rfl
    rw[er] at GG;exact k Y _ ((s3.trans s4).trans (Zv.upd o5)) GG
end
end C52
namespace Tb
section
variable {t:List (List Nat)}
noncomputable def V5 (t:List (List Nat))(i a:Nat):Option Nat:=if Ym (ZB t i) a then some ((ZB t i).findIdx (·.contains a)) else none
theorem Zci {i:Nat}(h:Ym (ZB t i) i=false):ZB t (i+1)=ZB t i++[ZO t i]:=by
 rw[ZB,if_neg (by unfold Ym at h;rw[h];decide)]
theorem Zch {i:Nat}(h:Ym (ZB t i) i=true):ZB t (i+1)=ZB t i:=by
 rw[ZB,if_pos (by unfold Ym at h;rw[h])]
theorem ZjJ (P:PW t){i:Nat}(hi:i<t.length)(h:Ym (ZB t i) i=false)(a:Nat):V5 t (i+1) a=if a∈ZO t i then some (ZB t i).length else V5 t i a:=by
 have M:=Zci h;unfold V5;rw[M,List.findIdx_append];by_cases q:a∈ZO t i
 ·have ns:¬ ∃c∈ZB t i,c.contains a=true:=by
   rintro⟨c,O,U⟩;obtain⟨j,hj⟩:=bE O;have jl:=(ac.mp hj).1;have:=XM P (i+1) (by omega) j (ZB t i).length c (ZO t i) a (by rw[M,au jl];exact hj) (by rw[M,aw (Zq _),cF];rfl) (ay.mp U) q;omega
  have Y:Ym (ZB t i++[ZO t i]) a=true:=by
   unfold Ym;rw[gS,eO,ay.mpr q];simp
  rw[if_pos Y,if_pos q,if_neg (fun z=>ns (cD.mp z)),List.findIdx_cons,ay.mpr q];simp
 ·have O:(ZO t i).contains a=false:=by
   cases e:(ZO t i).contains a with
   |false=>rfl
   |true=>exact absurd (ay.mp e) q
  have Y:Ym (ZB t i++[ZO t i]) a=Ym (ZB t i) a:=by
   unfold Ym;rw[gS,eO,j9,O,fu,fu]
  rw[Y,if_neg q];by_cases J:Ym (ZB t i) a=true
  ·rw[if_pos J,if_pos J,if_pos (cD.mpr (by
    obtain⟨c,h1,h2⟩:=aY.mp J;exact⟨c,h1,h2⟩))]
  ·rw[if_neg J,if_neg J]
theorem ZjI {i:Nat}(h:Ym (ZB t i) i=true)(a:Nat):V5 t (i+1) a=V5 t i a:=by
 unfold V5;rw[Zch h]
theorem ZjK (P:PW t){a:Nat}(j:a<t.length):V5 t t.length a=some (Y2 t a):=by
 unfold V5 Y2;rw[if_pos (WM P t.length (Zq _) a j)]
end
end Tb
namespace C52
open PySem L2 PySem.Spec PyProof.Rows
open Tb Pm
theorem Zf9 {ns M:List Int}{c:List Nat}(J:bG ns M)(O:ns.Pairwise (· ≤ ·))(U:M.Nodup)(Y:∀k:Int,k∈M↔∃a∈c,k=(a:Int))(q:c.Pairwise (· < ·)):ns.map V.int=c.map nV:=by
 have e:ns=c.map fun a:Nat=>(a:Int):=by
  refine lf (J.trans ?_) O ?_
  ·refine (cI U ?_).mpr fun k=>?_
   ·refine fC _ (fun a b (h:a<b)=>?_) q
    omega
   ·rw[Y k,aI]
    exact⟨fun ⟨a,j,e⟩=>⟨a,j,e.symm⟩,fun ⟨a,j,e⟩=>⟨a,j,e.symm⟩⟩
  ·refine fC _ (fun a b (h:a<b)=>?_) q
   omega
 rw[e,aJ];rfl
noncomputable def LsC (H:Hp)(L:Addr)(bs:List Addr)(j:List (List Nat)):Prop:=H L=some (.lst (bs.map V.ref))/\bs.length=j.length/\∀(i:Nat) b,bs[i]?=some b->b≠L/\H b=some (.lst ((j.getD i []).map nV))
theorem LsC.mono {H q:Hp}{L:Addr}{bs:List Addr}{j:List (List Nat)}(s:Zv H q)(h:LsC H L bs j):LsC q L bs j:=⟨s _ _ h.1,h.2.1,fun i b hb=>⟨(h.2.2 i b hb).1,s _ _ (h.2.2 i b hb).2⟩⟩
theorem LsC.updD {H:Hp}{L D:Addr}{bs:List Addr}{j:List (List Nat)}{q:List (Yx×V)}{o:HO}(h:LsC H L bs j)(J:H D=some (.dK q)):LsC (upd H D o) L bs j:=
 ⟨by rw[Zy (fun z=>by have:=h.1;rw[z,J] at this;cases this)];exact h.1,h.2.1,fun i b hb=>⟨(h.2.2 i b hb).1,by
  have:=(h.2.2 i b hb).2;rw[Zy (fun z=>by rw[z,J] at this;cases this)];exact this⟩⟩
theorem LsC.push {H:Hp}{L b:Addr}{bs:List Addr}{q:List (List Nat)}{c:List Nat}(h:LsC H L bs q)(hb:H b=some (.lst (c.map nV)))(ne:b≠L):LsC (upd H L (.lst (bs.map V.ref++[.ref b]))) L (bs++[b]) (q++[c]):=by
 refine⟨by rw[Zt,aU];rfl,by rw[Zd,Zd,h.2.1];rfl,fun i d j=>?_⟩;by_cases M:i<bs.length
 ·rw[au M] at j
  obtain⟨O,U⟩:=h.2.2 i d j;rw[Zy O,Zb,au (by rw[<-h.2.1];exact M),<-Zb];exact⟨O,U⟩
 ·rw[aw (by omega)] at j
  cases J:i-bs.length with
  |zero=>
   rw[J] at j;cases j;rw[Zy ne,Zb,aw (by rw[<-h.2.1];omega),<-h.2.1,J];exact⟨ne,hb⟩
  |succ k=>rw[J] at j;cases j
noncomputable abbrev Zbu:Stmt:=top 42
noncomputable def vI:Option Nat->Option V:=Option.map fun n=>V.int (n:Nat)
noncomputable def Zf7:Sp:=fun J H Q _=>∃(g:Addr) (t:List (List Nat)),J=[.ref g]/\GT H g t/\PW t/\∀r L D bs j q,Zv H q->q r=some (.tup [.ref L,.ref D])->LsC q L bs (ZB t t.length)->q D=some (.dK j)->(∀a:Nat,a<t.length->YR j (.inl (a:Int))=some (.int (Y2 t a:Nat)))->Q (.ref r) q
section
variable {P:Program}{w:World}{K:aa}{mg:Str->Option Value}{base:Heap}
theorem Zjl {f:Addr}{fd:FuncData}(F:WN K "_law_classes" "_law_classes" Zbu f fd)(T:BlB mg)(TS:mg "set"=none):Yb P w K mg base Yi 1 f fd ["_law_group_here"] Zf7:=by
 refine F.ok (FS (N:=["_law_group_here", "_law_backs", "_law_found", "_law_met", "_law_thing", "_law_here", "_law_one"])) (fun vs H Q E h=>?_) (fun o6 A n6 s H vs Q E hr h=>?_)
 ·obtain⟨g,t,rfl,_⟩:=h;rfl
 ·obtain⟨g,t,rfl,G0,M,k⟩:=h
  have hu:(A.deeper (envOfC "_law_classes" (ZU Zbu) s.heap.objs.size f o6)).units+1<cLine:=by have:=hr.un;omega
  refine⟨_,Zs (ZD 1 rfl (cmp ["_law_row"] [] ["_law_row"] rfl (itT K (vn 0)) (fun _ _ _ _ _=>gn 0) (fun _ _ _ _ _=>ZQ) (fun _ _ _ _ _=>ZgR ju gI jt (Zmy K) (vn 0) (pc Zx Zu))))
   (Zs (ZD 2 rfl (ZW Zu))
   (Zs (ZD 3 rfl ZbI)
   (Zs (ZT av rfl (XV T.range (pc (cb (YF K) T.len (pc (vn 0) Zu)) Zu)) (gnf 4 rfl)
   (Zw (Jo (ZgM (UU hu (vn 4) (vn 3))) (Zs (ZiJ 5 ["_law_t"] [0,4,1] ["_law_t", "_law_group_here", "_law_thing", "_law_backs"] rfl rfl (XV T.range (pc (cb (YF K) T.len (pc (vn 0) Zu)) Zu)) (fun _ _ _ _ _=>gn 0) (fun _ _ _ _ _=>ZQ) (fun _ _ _ _ _=>ZG (XI K) (ZG (XI K) (vn 1) (ZG (XI K) (ZG (XI K) (vn 1) (vn 0) (fun _ _=>rfl)) (vn 2) (fun _ _=>rfl)) (fun _ _=>rfl)) (ZG (X2 K) (vn 3) (vn 0) (fun _ _=>rfl)) (fun _ _=>rfl)))
   (Zs (ZD 5 rfl (cb (Um rfl) T.sorted (pc (ct (U7 rfl) TS (pc (vn 5) Zu)) Zu)))
   (Zs (ZT av rfl (itL K (vn 5)) (gn 6)
   (Zw (JR hu (vn 3) (vn 6) (cb (YF K) T.len (pc (vn 2) Zu)) (by rfl))))
   (Zw (Yq (Wj aO aT aV Z2 (vn 2) (pc (vn 5) Zu))))))) YX)))
   (Zw (ZF (VU (pc (vn 2) (pc (vn 3) Zu)))))))),?_⟩
  have sz:(16777216:Nat)=sizeLine:=by decide
  have n1:=M.n1;have y9:=M.n60;obtain⟨gs,u1,u2,u3⟩:=id G0;have el:(gs.map V.ref).length=t.length:=by rw[Za,u2]
  refine⟨_,rfl,g,rfl,⟨_,.of u1⟩,?_⟩;refine Wm (Wf (K:=K) (.of u1)) [] rfl (fun a=>nV (YB t a)) (by rw[el];omega) (fun i y hy O s' R' kk=>?_) (fun B H1 nB s1 hB=>?_)
  ·obtain⟨r,p4,rfl⟩:∃r,gs[i]?=some r/\y=.ref r:=by
    rw[Zc] at hy;cases e:gs[i]? with
    |none=>rw[e] at hy;cases hy
    |some r=>rw[e] at hy;exact⟨r,rfl,(aD hy).symm⟩
   have hi:i<t.length:=by rw[<-u2];exact (ac.mp p4).1
   have hz:=(u3 i r p4).mono s';obtain⟨b1,b2⟩:=Yh M hi;have hl:=XD M hi;refine⟨_,rfl,⟨_,_,rfl,hz⟩,r,_,.int 0,YB t i,rfl,rfl,hz.sq,rfl,?_,by rw[Za,hl];exact b1,fun z U=>?_,fun m z hm U=>?_,kk O (Zv.refl _)⟩
   ·rw[aP]
    intro z U;obtain⟨k,_,rfl⟩:=aI.mp U;rfl
   ·rw[XU M hi b1,b2] at U
    cases U;decide
   ·have p6:m<t.length:=by omega
    rw[XU M hi p6] at U;cases U;have:ZM t i m≠0:=fun z=>by
     have:=Xq M hi p6 z;omega
    show decide ((ZM t i m:Int)=0)=false;exact decide_eq_false (by omega)
  ·rw[el] at hB
   refine⟨(by show 0<=sizeLine;decide),fun L nL=>fun D nD=>?_⟩;have s2:=s1.trans (Zv.upd (H:=H1) (o:=.lst []) nL);have s3:=s2.trans (Zv.upd (o:=.dK []) nD);have t0:H L=none:=s1.free nL;have t5:H D=none:=s2.free nD;have p7:=(Zv.upd (o:=.dK []) nD) _ _ ((Zv.upd (H:=H1) (o:=.lst []) nL) _ _ hB);have p8:=(Zv.upd (o:=.dK []) nD) _ _ (Zt (H:=H1) (a:=L) (o:=.lst []));have q0:=Zt (H:=upd H1 L (.lst [])) (a:=D) (o:=.dK []);have t6:B≠L:=fun z=>by rw[z,nL] at hB;cases hB
   generalize upd (upd H1 L (.lst [])) D (.dK [])=H3 at s3 p7 p8 q0 ⊢;refine⟨_,rfl,g,_,rfl,.inr (.of (s3 _ _ u1)),_,rfl,by rw[el];omega,by rw[el];omega,?_⟩;rw[el,Zj];refine YC (fun i J O=>∃(w4 w5 w6:Option V) (bs:List Addr) (q:List (Yx×V)),J=[some (.ref g),some (.ref B),some (.ref L),some (.ref D),w4,w5,w6]/\Zv H O/\O B=some (.lst ((ae t.length).map fun a=>nV (YB t a)))/\LsC O L bs (ZB t i)/\O D=some (.dK q)/\(∀a:Nat,YR q (.inl (a:Int))=vI (V5 t i a))/\q.length<=60*i)
    ⟨_,_,_,[],[],rfl,s3,p7,⟨p8,rfl,fun i b hb=>by cases hb⟩,q0,fun a=>rfl,Zq _⟩ ?_ ?_
   ·rintro i J H4 hi ⟨w4,w5,w6,bs,q,rfl,s4,m5,R4,m6,hv,kl⟩
    rw[show (0:Int)+(i:Int)=(i:Int) by omega];refine⟨_,rfl,_,rfl,D,_,rfl,Jn.k (k:=.inl (i:Int)) m6,_,rfl,?_⟩;have o7:(YR q (.inl (i:Int))).isSome=Ym (ZB t i) i:=by
     rw[hv i];unfold V5 vI;cases Ym (ZB t i) i <;> rfl
    rw[o7];refine Y8 (fun h=>?_) (fun h=>?_)
    ·have h:Ym (ZB t i) i=false:=by simpa using h
     have eU:=Zci h;refine⟨_,rfl,g,_,rfl,.inr (.of (s4 _ _ u1)),_,rfl,by rw[el];omega,by rw[el];omega,?_⟩;rw[el,Zj];refine Wm (XB 0 t.length) [some (.ref g),some (.int (i:Nat)),some (.ref B)] rfl (fun x=>nV (tb t i x)) (by rw[Za,YJ];omega) (fun j y hy O s' R' kk=>?_) (fun Eh H5 nE s5 hE=>?_)
     ·obtain⟨hj,rfl⟩:=Zas hy
      have G':=G0.mono (s4.trans s');obtain⟨rs,r,h1,_,h2,h3,h4⟩:=G'.at M hj;have m1:=M.lt j i hj hi;obtain⟨rs',r',t7,_,t9,u5,u9⟩:=G'.at M m1;have w8:=s' _ _ m5;have gB:((ae t.length).map fun a=>nV (YB t a))[j]?=some (nV (YB t j)):=by rw[Zc,am hj];rfl
      refine⟨_,rfl,_,rfl,_,rfl,g,_,_,_,rfl,rfl,.of h1,h2,_,rfl,r,_,_,_,rfl,rfl,h3.sq,h4 i hi,g,_,_,_,rfl,rfl,.of t7,t9,_,rfl,_,rfl,B,_,_,_,rfl,rfl,.of w8,ZR gB,r',_,_,_,rfl,rfl,u5.sq,u9 _ (Yh M hj).1,?_⟩;exact kk O (Zv.refl _)
     ·rw[Za,YJ] at hE
      have eN:((ae t.length).map fun x=>nV (tb t i x))=((ae t.length).map fun x=>((tb t i x:Nat):Int)).map V.int:=by rw[aJ];rfl
      rw[eN] at hE;generalize hN:((ae t.length).map fun x=>((tb t i x:Nat):Int))=N at hE;have nl:N.length=t.length:=by rw[<-hN,Za,Zg]
      refine⟨_,rfl,Eh,N,rfl,.of hE,by omega,fun p1 w9=>?_⟩;have s6:=Zv.upd (o:=Zbr P w p1 (Jq N N.length)) w9;have ml:(Jq N N.length).length<=N.length:=ja _ _;refine⟨p1,Jq N N.length,rfl,Zt,W6 _ _,by omega,fun l ns o8 hp hs=>?_⟩;rw[show (Zcd Yi P w K mg base ["_law_group_here", "_law_backs", "_law_found", "_law_met", "_law_thing", "_law_here", "_law_one"] "_law_classes" (ZU Zbu) f o6 A n6 s H E).nox.prog=P from rfl,show (Zcd Yi P w K mg base ["_law_group_here", "_law_backs", "_law_found", "_law_met", "_law_thing", "_law_here", "_law_one"] "_law_classes" (ZU Zbu) f o6 A n6 s H E).nox.w=w from rfl] at o8 ⊢;have s7:=Zv.upd (o:=.lst (ns.map V.int)) o8;have e:=Zf9 (c:=ZO t i) hp hs (W6 _ _) (fun k=>?_) (Zcg i)
      ·rw[e] at s7 ⊢
       have n8:=Zt (H:=upd H5 p1 (Zbr P w p1 (Jq N N.length))) (a:=l) (o:=.lst ((ZO t i).map nV));have n9:=(s5.trans s6).trans s7;have x0:l≠L:=fun z=>by
        have:=(s5.trans s6) _ _ R4.1;rw[<-z,o8] at this;cases this
       generalize upd (upd H5 p1 (Zbr P w p1 (Jq N N.length))) l (.lst ((ZO t i).map nV))=H7 at s7 n8 n9 ⊢;have r6:=n9 _ _ m6;have x9:l≠D:=fun z=>by rw[z,r6] at n8;cases n8
       have y4:B≠D:=fun z=>by rw[z,m6] at m5;cases m5
       have cl:=ZaX (t:=t) i;refine⟨_,rfl,l,rfl,⟨_,.of n8⟩,?_⟩;refine ZhG (K:=K) (a:=l) (xs:=(ZO t i).map nV) (fun j J O=>∃(w6:Option V) (Y:List (Yx×V)),J=[some (.ref g),some (.ref B),some (.ref L),some (.ref D),some (.int (i:Nat)),some (.ref l),w6]/\Zv H O/\O l=some (.lst ((ZO t i).map nV))/\O B=some (.lst ((ae t.length).map fun a=>nV (YB t a)))/\LsC O L bs (ZB t i)/\O D=some (.dK Y)/\(∀a:Nat,YR Y (.inl (a:Int))=if a∈(ZO t i).take j then some (.int ((ZB t i).length:Nat)) else vI (V5 t i a))/\Y.length<=60*i+j)
        ⟨_,q,rfl,s4.trans n9,n8,n9 _ _ m5,R4.mono n9,r6,fun a=>by rw[hv a,eY,if_neg (by simp)],kl⟩ (fun j J O _ h=>by
         obtain⟨_,_,_,_,y6,_⟩:=h;exact .of y6) ?_ ?_
       ·rintro j y J H8 hy ⟨y8,Y,rfl,s8,o9,p3,R8,m8,o0,r8⟩
        obtain⟨c,hc,rfl⟩:=Xh hy;have hj:j<(ZO t i).length:=(ac.mp hc).1;have nLD:L≠D:=fun z=>by have:=R8.1;rw[z,m8] at this;cases this
        have bl:=R8.2.1;refine⟨_,rfl,L,_,rfl,.inl (.of R8.1),_,rfl,_,rfl,D,_,rfl,Vd.k (k:=.inl (c:Int)) m8 (by omega),?_⟩;refine⟨_,_,rfl,s8.updr t5,by rw[Zy x9];exact o9,by rw[Zy y4];exact p3,R8.updD m8,Zt,fun a=>?_,?_⟩
        ·rw[ZfQ,o0 a,cP,hc]
         by_cases o5:a=c
         ·rw[if_pos (by rw[o5]),if_pos (by rw[o5];simp),Za,bl]
         ·rw[if_neg (fun z=>o5 (by have:=Sum.inl.inj z;omega))]
          by_cases ha:a∈(ZO t i).take j
          ·rw[if_pos ha,if_pos (bW _ ha)]
          ·rw[if_neg ha,if_neg]
           intro z;rcases bJ.mp z with z|z
           ·exact ha z
           ·exact o5 (aS.mp z)
        ·have:=WQ Y (.inl (c:Int)) (.int ((bs.map V.ref).length:Nat))
         omega
       ·rintro J H8 ⟨y8,Y,rfl,s8,o9,p3,R8,m8,o0,r8⟩
        rw[Za] at o0 r8;have bl:=R8.2.1;have ul:=YU (t:=t) i;refine⟨_,rfl,.inl ⟨rfl,_,.of R8.1⟩,_,rfl,L,_,_,rfl,rfl,R8.1,by rw[Za];omega,?_⟩;refine⟨_,_,_,bs++[l],Y,rfl,s8.updr t0,by rw[Zy t6];exact p3,by rw[eU];exact R8.push o9 x0,?_,fun a=>?_,by omega⟩
        ·rw[Zy (fun z=>by have:=R8.1;rw[<-z,m8] at this;cases this)]
         exact m8
        ·rw[o0 a,cU,ZjJ M hi h]
         by_cases ha:a∈ZO t i
         ·rw[if_pos ha,if_pos ha];rfl
         ·rw[if_neg ha,if_neg ha]
      ·rw[Zed]
       constructor
       ·rintro⟨j,hj,e⟩
        have r9:j<t.length:=by omega
        refine⟨tb t i j,(Z4 M hi).mpr ⟨j,r9,rfl⟩,?_⟩;rw[<-e,<-hN,Zb,Zc,am r9];rfl
       ·rintro⟨a,ha,rfl⟩
        obtain⟨x,hx,e⟩:=(Z4 M hi).mp ha;refine⟨x,by omega,?_⟩;rw[<-e,<-hN,Zb,Zc,am hx];rfl
    ·have h:Ym (ZB t i) i=true:=by simpa using h
     exact⟨_,_,_,bs,q,rfl,s4,m5,by rw[Zch h];exact R4,m6,fun a=>by rw[ZjI h];exact hv a,by omega⟩
   ·rintro J H4 ⟨w4,w5,w6,bs,q,rfl,s4,m5,R4,m6,hv,kl⟩
    refine⟨_,rfl,_,rfl,(by show 2<=sizeLine;decide),fun r nr=>?_⟩;exact k r L D bs q _ (s4.trans (Zv.upd nr)) Zt (R4.mono (Zv.upd nr)) (Zv.upd nr _ _ m6) fun a ha=>by rw[hv a,ZjK M ha];rfl
end
noncomputable abbrev ZdL:Stmt:=top 43
noncomputable def Zbj:Sp:=fun J H Q _=>∃(g:Addr) (t:List (List Nat)) (j:Nat->Nat),J=[.ref g]/\GT H g t/\PW t/\(∀a,a<t.length->Rd t a (j a))/\∀(f:Nat) q,Zv H q->Lc j t.length f->Q (.int f) q
section
variable {P:Program}{w:World}{K:aa}{mg:Str->Option Value}{base:Heap}
theorem Ze2 {f:Addr}{fd:FuncData}(F:WN K "_law_round" "_law_round" ZdL f fd)(T:BlB mg):Yb P w K mg base Yi 1 f fd ["_law_group_here"] Zbj:=by
 refine F.ok (FS (N:=["_law_group_here", "_law_found", "_law_thing", "_law_many", "_law_here", "_law_lead"])) (fun vs H Q E h=>?_) (fun o5 A m6 s H vs Q E hr h=>?_)
 ·obtain⟨g,t,rs,rfl,_⟩:=h;rfl
 ·obtain⟨g,t,rs,rfl,G,Pt,R,q⟩:=h
  refine⟨_,Zs (ZD 1 rfl Zx) (Zs (ZT av rfl (XV T.range (pc (cb (YF K) T.len (pc (vn 0) Zu)) Zu)) (gn 2)
    (Zs (ZD 3 rfl Zx)
    (Zs (ZD 4 rfl (vn 2))
    (Zs (Yg av (ZS Jp (vn 4) Zx (Z6 _))
     (Zs (ZD 4 rfl (ZG (XI K) (ZG (XI K) (vn 0) (vn 4) (fun _ _=>rfl)) (vn 2) (fun _ _=>rfl)))
     (Zw (ZD 3 rfl (Zz YK (vn 3) Zx)))))
    (Zs (ZD 5 rfl (vn 1))
    (Zs (Yg av (ZS Jp (Zz Z0 (vn 5) (vn 3)) Zx (Z6 _)) (Zw (ZD 5 rfl (Zz YK (vn 5) (vn 1)))))
    (Zw (ZD 1 rfl (vn 5)))))))))
   (Zw (ZF (vn 1)))),?_⟩
  have n1:=Pt.n1;have o6:=Pt.n60;obtain⟨gs,g1,g2,_⟩:=id G;have el:(gs.map V.ref).length=t.length:=by rw[Za,g2]
  refine⟨_,rfl,g,_,rfl,.inr (.of g1),_,rfl,by omega,by rw[el];omega,?_⟩;rw[Zj,el];refine YC (fun i Y H'=>∃(f:Nat) (v2 v3 v4 v5:Option V),Y=[some (.ref g),some (.int f),v2,v3,v4,v5]/\Zv H H'/\Lc rs i f) ⟨1,_,_,_,_,rfl,Zv.refl _,⟨Zq _,fun a ha=>absurd ha (eS _),fun x _=>Nat.mod_one x⟩⟩ ?_ ?_
  ·rintro i Y H' hi ⟨f,v2,v3,v4,v5,rfl,sm,L⟩
   rw[show (0:Int)+(i:Int)=(i:Int) by omega];have Ri:=R i hi;have m8:=Ri.r1;have L2:Lc rs (i+1) (upTo (rs i) f 61 f):=L.step (B:=t.length) n1 (fun a ha=>(R a (by omega)).dv) (by omega);have m5:=L2.dv i (by omega);have Gm:=G.mono sm;refine⟨_,rfl,?_⟩;refine Yc (fun m j M=>∃k:Nat,j=[some (.ref g),some (.int f),some (.int i),some (.int k),some (.int (it t i k:Nat)),v5]/\M=H'/\1<=k/\k<=rs i/\m=rs i-k)
    (fun j M=>∃w4:Option V,j=[some (.ref g),some (.int f),some (.int i),some (.int (rs i:Nat)),w4,v5]/\M=H') ?hend1 ⟨rs i-1,1,by rw[Zc0 Pt hi];rfl,rfl,Zq _,m8,rfl⟩ ?turn1
   case turn1=>
    rintro O m j M ⟨k,rfl,rfl,k1,kr,hm⟩;refine⟨_,rfl,rfl,_,rfl,?_⟩;refine Y8 (fun J=>?_) (fun J=>?_)
    ·have J:it t i k≠0:=fun z=>by
      rw[Ye,z] at J;simp at J
     have o7:k<rs i:=bx kr fun z=>J (z▸Ri.z);obtain⟨o8,r2,n8,_,n9,g3,g4⟩:=Gm.at Pt (WJ Pt hi k);refine⟨_,fun _ _ z=>z,_,rfl,_,rfl,g,_,_,_,rfl,rfl,.of n8,n9,_,rfl,r2,_,_,_,rfl,rfl,g3.sq,g4 i hi,_,rfl,_,_,rfl,rfl,rs i-(k+1),by omega,k+1,?_,rfl,by omega,by omega,rfl⟩;rfl
    ·have J:it t i k=0:=by
      apply ah;intro z;apply J;rw[Ye];simp[z]
     have:k=rs i:=by
      apply ah;intro z;exact Ri.nz k k1 (by omega) J
     exact O _ _ ⟨_,by rw[this],rfl⟩
   case hend1=>
    rintro j M ⟨w4,rfl,rfl⟩;refine⟨_,rfl,?_⟩;refine Yc (fun m j H3=>∃x:Nat,j=[some (.ref g),some (.int f),some (.int i),some (.int (rs i:Nat)),w4,some (.int x)]/\H3=M/\upTo (rs i) f m x=upTo (rs i) f 61 f)
     (fun j H3=>j=[some (.ref g),some (.int f),some (.int i),some (.int (rs i:Nat)),w4,some (.int (upTo (rs i) f 61 f:Nat))]/\H3=M) ?hend ⟨61,f,rfl,rfl,rfl⟩ ?turn
    case hend=>
     rintro j H3 ⟨rfl,rfl⟩;exact⟨_,rfl,_,_,_,_,_,rfl,sm,L2⟩
    case turn=>
     rintro O m j H3 ⟨x,rfl,rfl,U⟩;have eT:(x:Int) % ((rs i:Nat):Int)=((x % rs i:Nat):Int):=by push_cast;rfl
     refine⟨_,rfl,_,rfl,_,_,rfl,rfl,(by show (0:Int)<(rs i:Nat);omega),rfl,_,rfl,?_⟩;refine Y8 (fun J=>?_) (fun J=>?_)
     ·have J:x % rs i≠0:=fun z=>by
       rw[Ye,eT,z] at J;simp at J
      cases m with
      |zero=>
       have U:x=upTo (rs i) f 61 f:=U;rw[<-U] at m5;exact absurd m5 J
      |succ m=>
       rw[Tb.upTo,if_neg J] at U;exact⟨_,fun _ _ z=>z,_,rfl,_,rfl,_,_,rfl,rfl,m,by omega,x+f,rfl,rfl,U⟩
     ·have J:x % rs i=0:=by
       apply ah;intro z;apply J;rw[Ye,eT];simp;omega
      have:x=upTo (rs i) f 61 f:=by
       cases m with
       |zero=>exact U
       |succ m=>rw[Tb.upTo,if_pos J] at U;exact U
      exact O _ _ ⟨by rw[this],rfl⟩
  ·rintro Y H' ⟨f,v2,v3,v4,v5,rfl,sm,L⟩
   exact⟨_,rfl,q f H' sm L⟩
end
structure Bl (mg:Str->Option Value):Prop where
 list:mg "list"=none
 len:mg "len"=none
 abs:mg "abs"=none
 range:mg "range"=none
 tuple:mg "tuple"=none
 isi:mg "isinstance"=none
 all:mg "all"=none
 set:mg "set"=none
 repr:mg "repr"=none
 any:mg "any"=none
 int:mg "int"=none
 bool:mg "bool"=none
noncomputable abbrev Zkp:Stmt:=top 3
noncomputable def Zf8 (K:aa):Sp:=fun j H Q _=>∃(g:Addr) (t:List (List Nat)) (a r:Nat),j=[.ref g,.int a]/\GT H g t/\PW t/\a<t.length/\Rd t a r/\Q (.int (it t a (r-1):Nat)) H
section
variable {P:Program}{w:World}{K:aa}{mg:Str->Option Value}{base:Heap}
theorem Zjm {f:Addr}{fd:FuncData}(F:WN K "back" "back" Zkp f fd):Yb P w K mg base Yi 1 f fd ["group", "a"] (Zf8 K):=by
 refine F.ok (FS (N:=["group", "a"])) (fun vs H Q E h=>?_) (fun m5 A U s H vs Q E hr h=>?_)
 ·obtain⟨g,t,a,r,rfl,_⟩:=h;rfl
 ·obtain⟨g,t,a,r,rfl,G,J,M,R,q⟩:=h
  refine⟨_,Zw (ZF (ZgR ju gI jt (Zmy K) (ZG (XI K) (vn 0) (vn 1) (fun _ _=>rfl)) (pc Zx Zu))),?_⟩;obtain⟨rs,r1,h1,_,h2,Y,h4⟩:=G.at J M;have hl:=XD J M;have il:=WJ J M (r-1);refine⟨_,rfl,_,rfl,g,_,_,_,rfl,rfl,.of h1,h2,⟨_,_,rfl,Y⟩,r1,_,.int 0,it t a (r-1),rfl,rfl,Y.sq,rfl,?_,by rw[Za,hl];exact il,fun z j=>?_,fun m z hm j=>?_,q⟩
  ·rw[aP]
   intro z j;obtain⟨k,_,rfl⟩:=aI.mp j;rfl
  ·rw[XU J M il,R.bk] at j
   cases j;decide
  ·have O:m<t.length:=by omega
   rw[XU J M O] at j;cases j;have:ZM t a m≠0:=fun z=>by
    have:=R.un m O z;omega
   show decide ((ZM t a m:Int)=0)=false;exact decide_eq_false (by omega)
end
noncomputable abbrev ZdK:Stmt:=top 7
noncomputable abbrev UP:Stmt:=top 8
noncomputable abbrev VM:Stmt:=top 9
noncomputable abbrev Zgi:Stmt:=top 11
noncomputable abbrev Zk8:Stmt:=top 44
structure Zdi (mg:Str->Option Value):Prop where
 sorted:mg "sorted"=none
 enumerate:mg "enumerate"=none
theorem ZiF {ns M:List Int}{c:List Nat}(J:bG ns M)(O:ns.Pairwise (· ≤ ·))(U:M.Nodup)(Y:∀k:Int,k∈M↔∃a∈c,k=(a:Int))(q:c.Pairwise (· < ·)):ns.map V.int=c.map nV:=by
 have e:ns=c.map fun a:Nat=>(a:Int):=by
  refine lf (J.trans ?_) O ?_
  ·refine (cI U ?_).mpr fun k=>?_
   ·refine fC _ (fun a b (h:a<b)=>?_) q
    omega
   ·rw[Y k,aI]
    exact⟨fun ⟨a,j,e⟩=>⟨a,j,e.symm⟩,fun ⟨a,j,e⟩=>⟨a,j,e.symm⟩⟩
  ·refine fC _ (fun a b (h:a<b)=>?_) q
   omega
 rw[e,aJ];rfl
noncomputable def Zbi:Sp:=fun j H Q _=>∃(g:Addr) (t:List (List Nat)) (b x:Nat),j=[.ref g,.int b,.int x]/\GT H g t/\PW t/\b<t.length/\x<t.length/\Q (.int (tb t b x:Nat)) H
noncomputable def VL:Sp:=fun q H Q _=>∃(g:Addr) (t:List (List Nat)) (b:Nat),q=[.ref g,.int b]/\GT H g t/\PW t/\b<t.length/\∀r j,Zv H j->j r=some (.tup ((ZO t b).map nV))->Q (.ref r) j
section
variable {P:Program}{w:World}{K:aa}{mg:Str->Option Value}{base:Heap}
theorem Ze0 {f:Addr}{fd:FuncData}(F:WN K "turned_by" "turned_by" ZdK f fd)(O:Fn P w K mg base Yi 1 "back" ["group", "a"] (Zf8 K)):Yb P w K mg base Yi 2 f fd ["group", "b", "t"] Zbi:=by
 refine F.ok (FS (N:=["group", "b", "t"])) (fun U H Q E h=>?_) (fun Y A M s H U Q E hr h=>?_)
 ·obtain⟨g,t,b,x,rfl,_⟩:=h;rfl
 ·obtain⟨g,t,b,x,rfl,G,j,hb,J,q⟩:=h
  refine⟨_,Zw (ZF (ZG (XI K) (ZG (XI K) (vn 0) (ZG (XI K) (ZG (XI K) (vn 0) (vn 2) (fun _ _=>rfl)) (vn 1) (fun _ _=>rfl)) (fun _ _=>rfl)) (Ws O hr ZK (pc (vn 0) (pc (vn 2) Zu))) (fun _ _=>rfl))),?_⟩;obtain⟨r,R⟩:=j.rd x J;obtain⟨rs,r1,h1,_,h2,h3,h4⟩:=G.at j J;have ml:=j.lt _ _ J hb;obtain⟨m5,r2,g1,_,g2,g3,g4⟩:=G.at j ml;have q':Q (.int (ZM t (ZM t x b) (it t x (r-1)):Nat)) H:=by rw[Zh9 j J R];exact q
  exact⟨_,rfl,_,rfl,_,rfl,g,_,_,_,rfl,rfl,.of h1,h2,_,rfl,r1,_,_,_,rfl,rfl,h3.sq,h4 b hb,g,_,_,_,rfl,rfl,.of g1,g2,_,rfl,_,rfl,g,t,x,r,rfl,G,j,J,R,r2,_,_,_,rfl,rfl,g3.sq,g4 _ (WJ j J (r-1)),q'⟩
noncomputable def fTb (t:List (List Nat))(b:Nat):V->V
 | .int z=>nV (tb t b z.toNat)
 |y=>y
theorem ZbK {f:Addr}{fd:FuncData}(F:WN K "turnings" "turnings" UP f fd)(T:Bl mg)(T2:Zdi mg)(Y:Fn P w K mg base Yi 2 "turned_by" ["group", "b", "t"] Zbi):Yb P w K mg base Yi 3 f fd ["group", "b"] VL:=by
 refine F.ok (FS (N:=["group", "b"])) (fun vs H Q E h=>?_) (fun m6 A m5 s H vs Q E hr h=>?_)
 ·obtain⟨g,t,b,rfl,_⟩:=h;rfl
 ·obtain⟨g,t,b,rfl,G,U,hb,q⟩:=h
  refine⟨_,Zw (ZF (ct ZJ T.tuple (pc (cb (Um rfl) T2.sorted (pc (ct (U7 rfl) T.set (pc (cmp ["t"] [0,1] ["t", "group", "b"] rfl (XV T.range (pc (cb (YF K) T.len (pc (vn 0) Zu)) Zu)) (fun _ _ _ _ _=>gn 0) (fun _ _ _ _ _=>ZQ)
   (fun _ _ _ _ _=>Ws Y hr ZK (pc (vn 1) (pc (vn 2) (pc (vn 0) Zu))))) Zu)) Zu)) Zu))),?_⟩
  have m8:=U.n60;obtain⟨gs,u1,u2,_⟩:=id G;have el:(gs.map V.ref).length=t.length:=by rw[Za,u2]
  refine⟨_,rfl,g,_,rfl,.inr (.of u1),_,rfl,by rw[el];omega,by rw[el];omega,?_⟩;rw[el,Zj];refine WL (XB 0 t.length) [some (.ref g),some (.int b)] rfl (fTb t b) (by rw[Za,YJ];omega) (fun i x H' J sm R gg=>?_) (fun D H' hD sm M=>?_)
  ·have hi:i<t.length:=by
    have:=(ac.mp J).1;rw[Za,YJ] at this;exact this
   rw[Zc,Zbx hi] at J;have J:x=.int (i:Int):=by
    have:=aD J;rw[<-this,dA]
   subst J;have fin:=gg H' (Zv.refl _);exact⟨_,rfl,_,rfl,_,rfl,g,t,b,i,rfl,G.mono sm,U,hb,hi,fin⟩
  ·have e1:((Y1 0 t.length).map V.int).map (fTb t b)=((ae t.length).map fun x=>((tb t b x:Nat):Int)).map V.int:=by
    unfold Y1;rw[aJ,aJ,aJ];refine aX fun i _=>?_;show nV (tb t b ((0:Int)+(i:Int)).toNat)=V.int _;rw[dA,Zj];rfl
   rw[e1] at M;generalize hN:((ae t.length).map fun x=>((tb t b x:Nat):Int))=N at M;have nl:N.length=t.length:=by rw[<-hN,Za,Zg]
   refine⟨D,N,rfl,.of M,by omega,fun p1 h1=>?_⟩;have s1:=Zv.upd (o:=Zbr P w p1 (Jq N N.length)) h1;have ml:(Jq N N.length).length<=N.length:=ja _ _;refine⟨p1,Jq N N.length,rfl,Zt,W6 _ _,by omega,fun l ns h2 hp hs=>?_⟩;have s2:=Zv.upd (o:=.lst (ns.map V.int)) h2;have e:=ZiF (c:=ZO t b) hp hs (W6 _ _) (fun k=>?_) (Zcg b)
   ·refine⟨l,_,rfl,.inl ⟨.of Zt,fun r nr=>?_⟩⟩
    exact q r _ (((sm.trans s1).trans s2).trans (Zv.upd nr)) (by rw[<-e];exact Zt)
   ·rw[Zed]
    constructor
    ·rintro⟨j,hj,e⟩
     have O:j<t.length:=by omega
     refine⟨tb t b j,(Z4 U hb).mpr ⟨j,O,rfl⟩,?_⟩;rw[<-e,<-hN,Zb,Zc,am O];rfl
    ·rintro⟨a,ha,rfl⟩
     obtain⟨x,J,e⟩:=(Z4 U hb).mp ha;refine⟨x,by omega,?_⟩;rw[<-e,<-hN,Zb,Zc,am J];rfl
end
end C52
namespace L2
open PySem PySem.Spec PyProof.Rows
section
variable {X:Cx}
theorem Zfy (Y:X.calm=true):Yu X (.builtin "sum") (fun xs H Q=>∃(a:Addr) (ns:List Int),xs=[.ref a]/\Wt X.K H a (ns.map V.int)/\Q (.int ns.sum) H):=by
 intro M s σ H xs us Q I r h;obtain⟨a,ns,rfl,hq,q⟩:=h;obtain⟨u,rfl,ru⟩:=vals1 r;cases ru;obtain⟨j,rv,p,hz⟩:=I.list hq;have O:a8 j ns:=intsAre_of rv;obtain⟨xs,U⟩:=O.allInts.items;have J:s.heap.IsList a (intItems xs):=U▸p.isList;refine sum_intListG (I.ok.hd Y) J fun h' tk t' hk=>?_;have e1:ns=xs.toList.map (·.1):=by
  rw[<-nums_intItems,<-U];exact (show numsOf j.toArray.toList=ns from O.numsOf).symm
 have e2:preSum (numAt xs) xs.size=ns.sum:=by
  rw[preSum_eq,j3 (by simp),e1]
 rw[e2];exact⟨.int _,H,I.kept (t':=tk) hk,⟨_,rfl⟩,q⟩
theorem sumK (K:aa)(j:X.calm=true)(q:X.K=K:=by rfl):Yu X (.builtin "sum") (fun xs H Q=>∃(a:Addr) (ns:List Int),xs=[.ref a]/\Wt K H a (ns.map V.int)/\Q (.int ns.sum) H):=q▸Zfy j
end
section
variable {X:Cx}
theorem ZkV {prog:Program}{w:World}{A:Around}{j:List Value}{ns:List Int}(r:ZL (ns.map V.int) j):TruthOf prog w A (fun i v=>j.toArray[i]?=some v) (fun i=>ns.getD i 0 != 0):=by
 intro i v s Q E q M;rw[kD] at q;have Y:i<j.length:=(ac.mp q).1;have O:=r.length;rw[Za] at O;have hb:(ns.map V.int)[i]?=some (.int (ns.getD i 0)):=by
  rw[Zc,Zb,Zf (by omega)];rfl
 obtain⟨u,J,U⟩:=r.get hb;rw[q] at J;cases J;obtain⟨t,rfl⟩:=U;exact truthy_int M
theorem ZcO {ns:List Int}:((ae ns.length).any fun i=>ns.getD i 0 != 0)=ns.any (· != 0):=by
 have:(ae ns.length).map (fun i=>ns.getD i 0)=ns:=by
  apply mm
  ·simp
  ·intro i j q;simp at j;simp[j]
 conv=>rhs;rw[<-this,fR]
 rfl
theorem ZfA (Y:X.calm=true):Yu X (.builtin "any") (fun xs H Q=>∃(a:Addr) (ns:List Int),xs=[.ref a]/\Wt X.K H a (ns.map V.int)/\Q (.bl (ns.any (· != 0))) H):=by
 intro M s σ H xs us Q I r h;obtain⟨a,ns,rfl,hq,q⟩:=h;obtain⟨u,rfl,ru⟩:=vals1 r;cases ru;obtain⟨j,O,p,hz⟩:=I.list hq;have U:=O.length;rw[Za] at U;refine call_any_walk (fo p.isList ?_);have J:a≠s.heap.objs.size:=by obtain⟨o,n,e,_⟩:=p;exact aC (Zp e)
 refine⟨s.heap.objs.size,_,_,_,_,_,(fun i=>ns.getD i 0 != 0),rfl,lc (A:=X.A.in1) (I.ok.hd Y) _ a J j.toArray,⟨⟨_,Zo _ rfl,rfl,rfl⟩,p.isList.push _⟩,ZkV O,fun h' tk k=>?_⟩;rw[Zh,<-U,ZcO];refine⟨.bl _,H,I.kept (t':=tk) fun b o e=>k b o ?_ (Zn _ e),rfl,q⟩;simpa using aC (Zp e)
theorem ZnU (K:aa)(j:X.calm=true)(q:X.K=K:=by rfl):Yu X (.builtin "any") (fun xs H Q=>∃(a:Addr) (ns:List Int),xs=[.ref a]/\Wt K H a (ns.map V.int)/\Q (.bl (ns.any (· != 0))) H):=q▸ZfA j
end
noncomputable def Its (lo st:Int)(n:Nat):It:=⟨fun i _=>i<n,fun i H x j=>j=H/\x=.int (lo+(i:Int)*st),fun i _=>n<=i⟩
theorem ZeL {P:Program}{w:World}{K:aa}{tg:Expr}(it:Addr)(lo st:Int)(n:Nat):UE P w K tg (Its lo st n) [it] it (fun i h=>gM h it (lo+(i:Nat)*st) ((n:Int)-(i:Nat)) st) where
 mem:=by simp
 obj:=fun i h st b hb=>by
  have e:b=it:=by simpa using hb
  subst e;exact⟨_,st,fun v z=>by
   have z':f9 _=fU v:=z;cases z'⟩
 keep:=fun i h M st k=>k it (by simp) _ st
 item:=by
  intro X U Y hK hc i q s σ H E I O j hg;subst U Y hK;obtain⟨f0,f1,f2,f3,f4,f5⟩:=O it (by simp);have W:=kh (prog:=X.prog) (w:=X.w) (I.ok.hd hc) it lo st n;refine W.item i s _ _ hg j fun v M tk hv J kk=>?_;obtain⟨t,rfl⟩:=hv;have I1:Inv X q σ H {s with heap:=M,toks:=tk}:=I.turned (fun b o hb e=>kk b o (by simpa using hb) e) f0 f1 f3 f4 f5;refine⟨_,rfl,Zb5 (s:={s with heap:=M,toks:=tk}) (n:="range_iterator") J rfl rfl (by decide) ⟨.int (lo+(i:Int)*st),H,I1,⟨t,rfl⟩,⟨rfl,rfl⟩,J,fun b hb=>(O b hb).1⟩⟩
 done:=by
  intro X U Y hK hc i q s σ H E I O j hg;subst U Y hK;obtain⟨f0,f1,f2,f3,f4,f5⟩:=O it (by simp);exact ie (I.ok.hd hc) j (by have:n<=i:=hg;omega) fun M eb=>⟨rfl,I.turned (t':=s.toks) (fun b o hb e=>eb b o hb e) f0 f1 f3 f4 f5⟩
 self:=fun _ _ _ _ _ j h=>ig j h
noncomputable def WE (n st:Nat):Nat:=(n+st-1) / st
theorem Jx (n st:Nat)(J:1<=st):bd 0 (n:Int) (st:Int)=(WE n st:Nat):=by
  unfold bd WE;rw[if_pos (by omega)];by_cases h:(0:Int)<(n:Int)
  · rw[if_pos h]
    have:((n+st-1:Nat):Int)=(n:Int)-0-1+(st:Int):=by omega
    first
    |(rw[eB,this];congr 1;omega)
    | (have j:(n+st-1) / st=(n-1) / st+1:=by
         rw[show n+st-1=(n-1)+st by omega,Nat.add_div_right _ (by omega)]
       rw[j];have q:(n:Int)-0-1=((n-1:Nat):Int):=by omega
       first
       |(rw[q,<-eB];omega)
       |(rw[show (n:Int)-1-0=((n-1:Nat):Int) by omega,<-eB];omega))
  · rw[if_neg h]
    have:n=0:=by omega
    subst this;rw[show 0+st-1=st-1 by omega,Nat.div_eq_of_lt (by omega)];rfl
theorem Zf1 (n st:Nat)(j:1<=st):WE n st<=n:=by
 unfold WE;by_cases h:n=0
 ·subst h
  rw[show 0+st-1=st-1 by omega,Nat.div_eq_of_lt (by omega)];exact Zq _
 ·rw[Nat.div_le_iff_le_mul_add_pred (by omega)]
  have:n<=st*n:=Nat.le_mul_of_pos_left n (by omega);omega
theorem ZcK {n st:Nat}(q:1<=st)(J:n<=1000)(j:st<=1000):cp 0 (n:Int) (st:Int)=true:=by
 unfold cp;rw[Jx n st q];have:=Zf1 n st q;have M:((WE n st:Nat):Int)*(st:Int)<=1000000:=by
  have:WE n st*st<=1000*1000:=im (by omega) j;rw[<-aK];omega
 have O:0<=((WE n st:Nat):Int)*(st:Int):=by
  rw[<-aK];omega
 simp only[iu,ag,bq,decide_eq_true_eq,beq_iff_eq];refine⟨by omega,.inr ?_⟩;rw[if_pos (by omega),ag,decide_eq_true_eq,decide_eq_true_eq];omega
noncomputable def Znu (j:TA):TI:=fun q H R=>j q H fun J M=>∃n st:Nat,J=[.int 0,.int n,.int st]/\1<=st/\n<=1000/\st<=1000/\R (Its 0 st (WE n st)) M
theorem ZoG {X:Cx}{tg a b c:Expr}{ta:TA}{p pos:Pos}(hm:X.mg "range"=none)(ha:PA X [a,b,c] ta)(hg:YZ X.env.scope "range"=true:=by kernel_rfl)(hs:starEach [a,b,c] X.env=(false,eval a X.env)::starEach [b,c] X.env:=by rfl)(Y:(backTo pos (starEach [b,c] X.env)).any (·.1)=false:=by rfl) :
  PI X tg (.Call (.Name "range" p) [a,b,c] [] pos) (Znu ta):=by
 intro J s σ H R I h;refine Call_ (Jj I (Xa hg) hm kA (bo (Yj (ha pos J s σ H _ I h) fun us s1 ⟨vs,H1,I1,r1,q1⟩=>?_) hs Y));obtain⟨n,st,e,M,hn,m5,q⟩:=q1;subst e;cases r1 with
 |cons r O=>
  cases O with
  |cons r' O=>
   cases O with
   |cons m6 O=>
    cases O;obtain⟨t,rfl⟩:=r;obtain⟨U,rfl⟩:=r';obtain⟨j,rfl⟩:=m6;have lg:((st:Int)).natAbs.log2<9000:=by
     rw[Int.natAbs_natCast];have h1:st.log2<=st:=Nat.log2_le_self st;omega
    refine call_range_3 (by omega) ?_ (Or.inl (PyProof.noPylong_of_log2 lg));refine i0 (jR ..) (ZcK M hn m5) ?_;have I2:Inv X J σ H1 {s1 with heap:=s1.heap.push {cls:=.type "range",data:=.fields #[.int 0 t,.int (n:Int) U,.int (st:Int) j]},toks:=s1.toks}:=I1.kept fun b o e=>Zn _ e;refine⟨(s1.heap.push {cls:=.type "range",data:=.fields #[.int 0 t,.int (n:Int) U,.int (st:Int) j]}).objs.size,[(s1.heap.push {cls:=.type "range",data:=.fields #[.int 0 t,.int (n:Int) U,.int (st:Int) j]}).objs.size],_,_,H1,rfl,
     I2.kept (t':=s1.toks) fun b o e=>Zn _ e,ZeL _ 0 (st:Int) (WE n st),?_,fun b hb=>?_,q⟩
    ·have e1:(0:Int)+((0:Nat):Int)*(st:Int)=0:=by simp
     have e2:((WE n st:Nat):Int)-((0:Nat):Int)=bd 0 (n:Int) (st:Int):=by rw[Jx n st M];omega
     show gM _ _ ((0:Int)+((0:Nat):Int)*(st:Int)) (((WE n st:Nat):Int)-((0:Nat):Int)) (st:Int);rw[e1,e2];exact Zo _ rfl
    ·have e:b=(s1.heap.push {cls:=.type "range",data:=.fields #[.int 0 t,.int (n:Int) U,.int (st:Int) j]}).objs.size:=by simpa using hb
     subst e;exact I2.fpOk (Zq _) (I2.hok.fresh (Zq _))
theorem ZhF {lo st:Int}{n:Nat}{g:TG}{tb:TS}{D:J5}{σ:St}{H:Hp}(Pv:Nat->St->Hp->Prop)(h0:Pv 0 σ H)
  (Y:∀i σ H,i<n->Pv i σ H->g (.int (lo+(i:Int)*st)) σ H fun j O=>tb {D with nx:=Pv (i+1),ct:=Pv (i+1),bk:=D.nx} j O) (hd:∀ σ H,Pv n σ H->D.nx σ H) :
  ∃W:Nat->Nat->St->Hp->Prop,(∃m,W 0 m σ H)/\∀i m σ H,W i m σ H->
   ((Its lo st n).stop i H/\D.nx σ H)\/((Its lo st n).go i H/\∃N:St->Hp->Prop,(∀ q J,N q J->∃U,U<m/\W (i+1) U q J)/\∀x J,(Its lo st n).yld i H x J->g x σ J fun j O=>tb {D with nx:=N,ct:=N,bk:=D.nx} j O):=by
 refine⟨fun i m σ H=>m=n-i/\i<=n/\Pv i σ H,⟨n,by simp,a5 _,h0⟩,?_⟩;rintro i m σ H ⟨rfl,hi,p⟩;by_cases M:i<n
 ·refine .inr ⟨M,Pv (i+1),fun q J p'=>⟨n-(i+1),by omega,rfl,M,p'⟩,fun x J hy=>?_⟩
  obtain⟨e,rfl⟩:=hy;subst e;exact Y i σ _ M p
 ·have e:i=n:=by omega
  subst e;exact .inl ⟨Zq _,hd σ H p⟩
end L2
namespace C52
open PySem L2 PySem.Spec PyProof.Rows
open Tb Pm
noncomputable abbrev ZmM:Stmt:=top 23
noncomputable abbrev Zgk:Stmt:=top 24
noncomputable abbrev ZdQ:Stmt:=top 25
noncomputable abbrev Zgt:Stmt:=top 31
structure BlT (mg:Str->Option Value):Prop where
 zip:mg "zip"=none
 sum:mg "sum"=none
noncomputable def Xu:Sp:=fun j H Q _=>∃(p:Nat) (x:Int),j=[.int p,.int x]/\2<=p/\p<=100000/\(∃y:Nat,1<=y/\y<p/\(y:Int)*x % (p:Int)=1)/\∀y:Nat,1<=y->y<p->(y:Int)*x % (p:Int)=1->Q (.int (y:Nat)) H
noncomputable def ZdE (K:aa):Sp:=fun J H Q _=>∃(a:Addr) (q:List Int) (e N p d:Nat),J=[.ref a,.int N,.int p]/\Wt K H a (q.map V.int)/\q[0]?=some (e:Int)/\e<=100000/\N<=60/\2<=p/\p<=100000/\1<=d/\d<=1000/\((d:Int)*d-e*N) % (p:Int)=0/\(∀j:Nat,1<=j->j<d->((j:Int)*j-e*N) % (p:Int)≠0)/\Q (.int (d:Nat)) H
noncomputable def Zki:Sp:=fun q H Q _=>∃(n count p:Nat),q=[.int n,.int count]/\1<=n/\n<=60/\count<=4000/\Zn6 n count p/\∀j,Zv H j->Q (.int p) j
theorem Zgx {lo:Int}{n i:Nat}{y:V}(h:((Y1 lo n).map V.int)[i]?=some y):i<n/\y=.int (lo+(i:Int)):=by
 unfold Y1 at h;rw[Zc,Zc] at h;by_cases j:i<n
 ·rw[am j] at h
  exact⟨j,(aD h).symm⟩
 ·rw[ak (by rw[Zg];omega)] at h
  cases h
section
variable {P:Program}{w:World}{K:aa}{mg:Str->Option Value}{base:Heap}
theorem Ze7 {f:Addr}{fd:FuncData}(F:WN K "back_by" "back_by" ZdQ f fd):Yb P w K mg base Yi 1 f fd ["p", "x"] Xu:=by
 refine F.ok (FS (N:=["p", "x", "found"])) (fun Y H Q E h=>?_) (fun m5 A U s H Y Q E hr h=>?_)
 ·obtain⟨p,x,rfl,_⟩:=h;rfl
 ·obtain⟨p,x,rfl,p2,pl,⟨y,y1,yp,hy⟩,q⟩:=h
  refine⟨_,Zs (ZD 2 rfl Zx)
   (Zs (Yg av (ZS Jp (Zz Z0 (Zz ZP (vn 2) (vn 1)) (vn 0)) Zx (Z6 _)) (Zw (JA (i:=2) (Z1 (by kernel_rfl)) rfl (YL (by kernel_rfl)) Zx WY (.inl rfl))))
   (Zw (ZF (vn 2)))),?_⟩
  refine Yc (fun m j O=>∃k:Nat,j=[some (.int p),some (.int x),some (.int (k:Nat))]/\O=H/\1<=k/\k<=y/\m=y-k)
   (fun j O=>∃k:Nat,j=[some (.int p),some (.int x),some (.int (k:Nat))]/\O=H/\1<=k/\k<p/\(k:Int)*x % (p:Int)=1) ?hend ⟨y-1,1,rfl,rfl,Zq _,y1,rfl⟩ ?turn
  case hend=>
   rintro j O ⟨k,rfl,rfl,k1,kp,hk⟩;exact⟨_,rfl,q k k1 kp hk⟩
  case turn=>
   rintro M m j O ⟨k,rfl,rfl,k1,ky,rfl⟩;refine⟨_,rfl,_,rfl,_,_,rfl,rfl,.inl ⟨by omega,by omega⟩,_,rfl,_,_,rfl,rfl,(by show (0:Int)<(p:Int);omega),rfl,_,rfl,?_⟩;refine Y8 (fun J=>?_) (fun J=>?_)
   ·have J:(k:Int)*x % (p:Int)≠1:=fun z=>by
     rw[Ye,z] at J;simp at J
    have:k≠y:=fun z=>by rw[z] at J;exact J hy
    exact⟨_,fun _ _ z=>z,_,rfl,_,_,rfl,rfl,y-(k+1),by omega,k+1,rfl,rfl,by omega,by omega,rfl⟩
   ·have J:(k:Int)*x % (p:Int)=1:=by
     apply ah;intro z;apply J;rw[Ye];simpa using z
    exact M _ _ ⟨k,rfl,rfl,k1,by omega,J⟩
theorem Zg7 {f:Addr}{fd:FuncData}(F:WN K "first_of" "first_of" Zgt f fd):Yb P w K mg base Yi 1 f fd ["one", "count", "p"] (ZdE K):=by
 refine F.ok (FS (N:=["one", "count", "p", "d"])) (fun vs H Q E h=>?_) (fun m6 A Y s H vs Q E hr h=>?_)
 ·obtain⟨a,xs,e,N,p,d,rfl,_⟩:=h;rfl
 ·obtain⟨a,xs,e,N,p,d,rfl,ha,he,e5,m8,p2,pl,d1,dl,hd,hm,q⟩:=h
  refine⟨_,Zs (ZD 3 rfl Zx)
   (Zs (Yg av (ZS Jp (Zz Z0 (Zz Y5 (Zz ZP (vn 3) (vn 3)) (Zz ZP (ZG (X2 K) (vn 0) Zx (fun _ _=>rfl)) (vn 1))) (vn 2)) Zx (Z6 _)) (Zw (JA (i:=3) (Z1 (by kernel_rfl)) rfl (YL (by kernel_rfl)) Zx WY (.inl rfl))))
   (Zw (ZF (vn 3)))),?_⟩
  have h0:(xs.map V.int)[0]?=some (.int (e:Int)):=by rw[Zc,he];rfl
  have m5:X9 (xs.map V.int) 0=some (.int (e:Int)):=by
   show X9 (xs.map V.int) ((0:Nat):Int)=_
   first
   |(rw[O];exact h0)
   |(rw[ZR];exact h0)
   |simpa [X9] using h0
  refine Yc (fun m j U=>∃k:Nat,j=[some (.ref a),some (.int (N:Nat)),some (.int (p:Nat)),some (.int (k:Nat))]/\U=H/\1<=k/\k<=d/\m=d-k)
   (fun j U=>j=[some (.ref a),some (.int (N:Nat)),some (.int (p:Nat)),some (.int (d:Nat))]/\U=H) ?hend ⟨d-1,1,rfl,rfl,Zq _,d1,rfl⟩ ?turn
  case hend=>
   rintro j U ⟨rfl,rfl⟩;exact⟨_,rfl,q⟩
  case turn=>
   rintro M m j U ⟨k,rfl,rfl,k1,ky,rfl⟩;refine⟨_,rfl,_,rfl,_,_,rfl,rfl,.inl ⟨by omega,by omega⟩,_,rfl,a,_,_,_,rfl,rfl,ha,m5,_,rfl,_,_,rfl,rfl,.inl ⟨by omega,by omega⟩,_,_,rfl,rfl,_,rfl,_,_,rfl,rfl,(by show (0:Int)<(p:Int);omega),rfl,_,rfl,?_⟩;refine Y8 (fun J=>?_) (fun J=>?_)
   ·have J:((k:Int)*k-e*N) % (p:Int)≠0:=fun z=>by
     rw[Ye,z] at J;simp at J
    have:k≠d:=fun z=>by rw[z] at J;exact J hd
    exact⟨_,fun _ _ z=>z,_,rfl,_,_,rfl,rfl,d-(k+1),by omega,k+1,rfl,rfl,by omega,by omega,rfl⟩
   ·have J:((k:Int)*k-e*N) % (p:Int)=0:=by
     apply ah;intro z;apply J;rw[Ye];simpa using z
    have:k=d:=by
     apply ah;intro z;exact hm k k1 (by omega) J
    subst this;exact M _ _ ⟨rfl,rfl⟩
theorem Zlv {f:Addr}{fd:FuncData}(F:WN K "fit_prime" "fit_prime" ZmM f fd)(T:Bl mg):Yb P w K mg base Yi 1 f fd ["n", "count"] Zki:=by
 refine F.ok (FS (N:=["n", "count", "p"])) (fun vs H Q E h=>?_) (fun n9 A m8 s H vs Q E hr h=>?_)
 ·obtain⟨n,count,p,rfl,_⟩:=h;rfl
 ·obtain⟨n,count,p,rfl,n1,n60,cl,Fp,q⟩:=h
  refine⟨_,Zs (ZD 2 rfl (Zz YK (vn 0) Zx))
   (Zs (Yg av (ZmY (ZS Zm2 (Zz ZP (vn 2) (vn 2)) (Zz ZP Zx (vn 1)) (Z6 _)) (Zlg (ZcQ (cb (Zh6 rfl) T.any (pc (cmp ["k"] [2] ["k", "p"] rfl (ZmS T.range (pc Zx (pc (vn 2) Zu))) (fun _ _ _ _ _=>gn 0) (fun _ _ _ _ _=>ZQ) (fun _ _ _ _ _=>Zi5 Zd8 (Zz Z0 (vn 1) (vn 0)) Zx (Z6 _))) Zu))))).pt
    (Zw (JA (i:=2) (Z1 (by kernel_rfl)) rfl (YL (by kernel_rfl)) (vn 0) WY (.inl rfl))))
   (Zw (ZF (vn 2)))),?_⟩
  obtain⟨J,eJ,hJ⟩:=Fp.st;have pl:=Fp.lt;have p2:=Fp.p2;refine⟨_,rfl,_,_,rfl,rfl,?_⟩;refine Yc (fun m M H'=>∃j:Nat,M=[some (.int (n:Nat)),some (.int (count:Nat)),some (.int (((n+1)+j*n:Nat):Int))]/\Zv H H'/\j<=J/\m=J-j)
   (fun M H'=>M=[some (.int (n:Nat)),some (.int (count:Nat)),some (.int (p:Nat))]/\Zv H H') ?hend ⟨J,0,by rw[fV,gQ];rfl,Zv.refl _,a5 _,rfl⟩ ?turn
  case hend=>
   rintro M H' ⟨rfl,sm⟩;exact⟨_,rfl,q H' sm⟩
  case turn=>
   rintro O m M H' ⟨j,rfl,sm,jJ,rfl⟩;have jn:(n+1)+j*n<=p:=by rw[eJ];have:=cx n jJ;omega
   have n6:Vt count ((n+1)+j*n)=true\/(n+1)+j*n=p:=by
    by_cases z:j=J
    ·exact .inr (by rw[eJ,z])
    ·exact .inl (hJ j (by omega))
   have ok:=Fp.ok;have o0:2<=(n+1)+j*n:=by omega
   have U:(n+1)+j*n≠p->j<J:=fun z=>by
    by_cases e:j=J
    ·exact absurd (by rw[eJ,e]) z
    ·omega
   have m5:(((n+1)+j*n:Nat):Int)+(n:Int)=(((n+1)+(j+1)*n:Nat):Int):=by
    rw[b8];omega
   generalize hx:(n+1)+j*n=x at *;refine⟨_,rfl,_,rfl,_,_,rfl,rfl,.inl ⟨by omega,by omega⟩,_,rfl,_,_,rfl,rfl,.inl ⟨by omega,by omega⟩,_,_,rfl,rfl,_,rfl,?_⟩;refine Y8 (fun Y=>?_) (fun Y=>?_)
   ·have Y:x*x<=4*count:=by have:=of_decide_eq_true Y;rw[<-aK] at this;omega
    have hb:Vt count x=true:=by unfold Vt;rw[decide_eq_true Y];rfl
    have:=U (fun z=>by rw[z,ok] at hb;cases hb);refine (Y8 (fun _=>?_) (fun h=>absurd rfl h));exact⟨_,fun _ _ z=>z,_,rfl,_,rfl,_,_,rfl,rfl,J-(j+1),by omega,j+1,by rw[<-m5];rfl,sm,by omega,rfl⟩
   ·have Y:¬x*x<=4*count:=fun z=>Y (decide_eq_true (by rw[<-aK];omega))
    refine⟨_,rfl,_,_,rfl,⟨by omega,by omega,by omega,by omega⟩,?_⟩;rw[show ((x:Nat):Int)-2=((x-2:Nat):Int) by omega,Zj];refine WL (XB 2 (x-2)) [some (.int (x:Nat))] rfl (fun y=>match y with | .int z=>.bl ((x:Int) % z == 0)|y=>y) (by rw[Za,YJ];omega) (fun i y H2 hy s2 R gg=>?_) (fun D H2 hD s2 n8=>?_)
    ·obtain⟨hi,rfl⟩:=Zgx hy
     have m6:=gg H2 (Zv.refl _);dsimp only at m6;refine⟨_,rfl,_,rfl,_,_,rfl,rfl,(by show (0:Int)<2+(i:Int);omega),rfl,?_⟩;have e:decide (V.int ((x:Int) % (2+(i:Int)))=V.int 0)=((x:Int) % (2+(i:Int)) == 0):=by
      by_cases h:(x:Int) % (2+(i:Int))=0
      ·rw[h];rfl
      ·rw[decide_eq_false (fun z=>h (by injection z)),beq_eq_false_iff_ne.mpr h]
     rw[e];exact m6
    ·refine⟨D,(ae (x-2)).map fun k=>x % (k+2) == 0,rfl,.of ?_,?_⟩
     ·rw[n8]
      unfold Y1;rw[aJ,aJ,aJ];congr 2;refine aX fun i _=>?_;show V.bl ((x:Int) % (2+(i:Int)) == 0)=V.bl (x % (i+2) == 0);congr 1;have:(x:Int) % (2+(i:Int))=((x % (i+2):Nat):Int):=by
       rw[show (2:Int)+(i:Int)=((i+2:Nat):Int) by omega];rfl
      rw[this];cases hq:(x % (i+2) == 0) with
      |true=>rw[eq_of_beq hq];rfl
      |false=>
       have:=ne_of_beq_false hq;exact beq_eq_false_iff_ne.mpr (by omega)
     ·have ea:((ae (x-2)).map fun k=>x % (k+2) == 0).any id=(ae (x-2)).any fun k=>x % (k+2) == 0:=by rw[fR];rfl
      rw[ea];have eb:Vt count x=((ae (x-2)).any fun k=>x % (k+2) == 0):=by unfold Vt;rw[decide_eq_false Y,gw]
      rw[<-eb];have UN:=sm.trans s2;refine⟨_,rfl,Y8 (fun h2=>?_) (fun h2=>?_)⟩
      ·have:=U (fun z=>by rw[z,ok] at h2;cases h2)
       exact⟨_,fun _ _ z=>z,_,rfl,_,rfl,_,_,rfl,rfl,J-(j+1),by omega,j+1,by rw[<-m5];rfl,UN,by omega,rfl⟩
      ·have:x=p:=by
        rcases n6 with z|z
        ·exact absurd z h2
        ·exact z
       subst this;exact O _ _ ⟨rfl,UN⟩
end
theorem Zo0 {a b:Int}(h:(!decide (V.int a=V.int b))=true):a≠b:=fun e=>by rw[e,decide_eq_true rfl] at h;cases h
theorem Zo1 {a b:Int}(h:¬(!decide (V.int a=V.int b))=true):a=b:=by
 apply ah;intro e;exact h (by rw[decide_eq_false (fun z=>e (by injection z))];rfl)
noncomputable def WT (p z n:Nat):List V:=(ae n).map fun j=>V.int ((z ^ j % p:Nat):Int)
theorem ZbF (p z n:Nat):WT p z (n+1)=WT p z n++[V.int ((z ^ n % p:Nat):Int)]:=by
 unfold WT;rw[cf,aU];rfl
theorem Vy (p z n:Nat):(WT p z n).length=n:=by unfold WT;rw[Za,Zg]
theorem ZiV (p z k:Nat):((z ^ k % p:Nat):Int)*(z:Int) % (p:Int)=((z ^ (k+1) % p:Nat):Int):=by
 rw[<-aK,<-a6,Nat.pow_succ,Nat.mod_mul_mod]
noncomputable def Zdw:Sp:=fun J H Q _=>∃(n p q:Nat),J=[.int n,.int p]/\1<=n/\n<=60/\2<=p/\p<=100000/\RtP n p q/\∀L j,H L=none->Zv H j->j L=some (.lst (WT p q n))->Q (.ref L) j
section
variable {P:Program}{w:World}{K:aa}{mg:Str->Option Value}{base:Heap}
theorem Zg0 {f:Addr}{fd:FuncData}(F:WN K "root_powers" "root_powers" Zgk f fd)(T:Bl mg):Yb P w K mg base Yi 1 f fd ["n", "p"] Zdw:=by
 refine F.ok (FS (N:=["n", "p", "z", "powers"])) (fun vs H Q E h=>?_) (fun p4 A o5 s H vs Q E hr h=>?_)
 ·obtain⟨n,p,z0,rfl,_⟩:=h;rfl
 ·obtain⟨n,p,z0,rfl,n1,n60,p2,pl,R,q⟩:=h
  refine⟨_,Zs (ZD 2 rfl Zx)
   (Zs (ZD 3 rfl (ZW (pc Zx Zu)))
   (Zs (Yg av (ZS Jp (cb (YF K) T.len (pc (vn 3) Zu)) (vn 0) (Z6 _))
    (Zs (JA (i:=2) (Z1 (by kernel_rfl)) rfl (YL (by kernel_rfl)) Zx WY (.inl rfl))
    (Zs (ZD 3 rfl (ZW (pc Zx Zu)))
    (Zw (Yg av (ZS Jp (Zz Z0 (Zz ZP (ZG (X2 K) (vn 3) (Vi Ju Zx) (fun _ _=>rfl)) (vn 2)) (vn 1)) Zx (Z6 _))
     (Zw (Yq (Wj aO aT aV Z2 (vn 3) (pc (Zz Z0 (Zz ZP (ZG (X2 K) (vn 3) (Vi Ju Zx) (fun _ _=>rfl)) (vn 2)) (vn 1)) Zu)))))))))
   (Zw (ZF (vn 3))))),?_⟩
  have p3:(1:Int)=((1 ^ 0 % p:Nat):Int):=by rw[Nat.pow_zero,bM (by omega)];rfl
  have m5:∀z:Nat,V.int 1=V.int ((z ^ 0 % p:Nat):Int):=fun z=>by rw[Nat.pow_zero,bM (by omega)];rfl
  have sz:(16777216:Nat)=sizeLine:=by decide
  refine⟨(by show 1<=sizeLine;decide),fun L0 n6=>?_⟩;have s0:=Zv.upd (H:=H) (o:=.lst [.int 1]) n6;have h0:upd H L0 (.lst [.int 1]) L0=some (.lst (WT p 1 1)):=by
   rw[Zt];show some (HO.lst [V.int 1])=some (HO.lst [V.int ((1 ^ 0 % p:Nat):Int)]);rw[m5 1]
  generalize upd H L0 (.lst [.int 1])=H0 at s0 h0 ⊢;refine Yc (fun m j J=>∃(z k:Nat) (L:Addr),j=[some (.int (n:Nat)),some (.int (p:Nat)),some (.int (z:Nat)),some (.ref L)]/\Zv H J/\H L=none/\J L=some (.lst (WT p z k))/\1<=z/\k<=p/\z<=z0/\m=z0-z/\(k=n->z=z0)/\(k≠n->z<z0))
   (fun j J=>∃(L:Addr),j=[some (.int (n:Nat)),some (.int (p:Nat)),some (.int (z0:Nat)),some (.ref L)]/\Zv H J/\H L=none/\J L=some (.lst (WT p z0 n))) ?hend ⟨z0-1,1,1,L0,rfl,s0,n6,h0,Zq _,by omega,?_,rfl,?_,?_⟩ ?turn
  case hend=>
   rintro j J ⟨L,rfl,sm,nL,hL⟩;exact⟨_,rfl,q L J nL sm hL⟩
  ·rcases R with ⟨a,b⟩|⟨a,_⟩ <;> omega
  ·rcases R with ⟨a,b⟩|⟨a,_,b,_⟩ <;> omega
  ·rcases R with ⟨a,b⟩|⟨a,_,b,_⟩ <;> omega
  case turn=>
   rintro m6 m j J ⟨z,k,L,rfl,sm,nL,hL,z1,kp,zz,rfl,c1,c2⟩;refine⟨_,rfl,L,_,rfl,.inl (.of hL),_,rfl,rfl,_,rfl,?_⟩;rw[Vy];refine Y8 (fun h1=>?_) (fun h1=>?_)
   ·have h1:k≠n:=fun e=>by
     rw[e,Ye] at h1;simp at h1
    have zl:=c2 h1;rcases R with ⟨a,b⟩|⟨a,ap,b,r,o6,o7,o8⟩
    ·omega
    ·have O:=o6 (z+1) (by omega) (by omega)
     have r1:=O.r1;have rp:=O.rp;refine⟨_,fun _ _ z=>z,_,rfl,_,_,rfl,rfl,(by show 1<=sizeLine;decide),fun U n8=>?_⟩;have s1:=Zv.upd (H:=J) (o:=.lst [.int 1]) n8;have n9:upd J U (.lst [.int 1]) U=some (.lst (WT p (z+1) 1)):=by
      rw[Zt];show some (HO.lst [V.int 1])=some (HO.lst [V.int (((z+1) ^ 0 % p:Nat):Int)]);rw[m5 (z+1)]
     have m8:H U=none:=sm.free n8;have sm1:=sm.trans s1;generalize upd J U (.lst [.int 1])=H1 at s1 n9 sm1 ⊢;have ez:(z:Int)+1=((z+1:Nat):Int):=by omega
     refine Yc (fun m j J=>∃k:Nat,j=[some (.int (n:Nat)),some (.int (p:Nat)),some (.int ((z+1:Nat):Int)),some (.ref U)]/\Zv H J/\J U=some (.lst (WT p (z+1) k))/\1<=k/\k<=r (z+1)/\m=r (z+1)-k)
      (fun j J=>j=[some (.int (n:Nat)),some (.int (p:Nat)),some (.int ((z+1:Nat):Int)),some (.ref U)]/\Zv H J/\J U=some (.lst (WT p (z+1) (r (z+1))))) ?hend2 ⟨r (z+1)-1,1,by rw[<-ez];rfl,sm1,n9,Zq _,r1,rfl⟩ ?turn2
     case hend2=>
      rintro j H2 ⟨rfl,UN,h2⟩;refine⟨z0-(z+1),by omega,z+1,r (z+1),U,rfl,UN,m8,h2,by omega,rp,by omega,rfl,fun e=>?_,fun e=>?_⟩
      ·apply ah
       intro ne;exact o7 (z+1) (by omega) (by omega) e
      ·apply ah
       intro ne;have:z+1=z0:=by omega
       rw[this] at e;exact e o8
     case turn2=>
      rintro Y m j H2 ⟨k,rfl,UN,h2,k1,kr,rfl⟩;obtain⟨M,rfl⟩:∃M,k=M+1:=⟨k-1,by omega⟩;have o0:X9 (WT p (z+1) (M+1)) (-1)=some (V.int (((z+1) ^ M % p:Nat):Int)):=by rw[ZbF];exact Ur _ _
      have nx:=ZiV p (z+1) M;refine⟨_,rfl,_,rfl,U,_,_,_,rfl,rfl,.of h2,o0,_,rfl,_,_,rfl,rfl,.inr ⟨by omega,by omega⟩,_,rfl,_,_,rfl,rfl,(by show (0:Int)<(p:Int);omega),rfl,_,rfl,?_⟩;refine Y8 (fun h3=>?_) (fun h3=>?_)
      ·have h3:(z+1) ^ (M+1) % p≠1:=fun e=>by
        rw[Ye,nx,e] at h3;simp at h3
       have:M+1≠r (z+1):=fun e=>by rw[e] at h3;exact h3 O.one
       refine⟨_,fun _ _ z=>z,_,rfl,.inl ⟨rfl,_,.of h2⟩,_,rfl,_,rfl,U,_,_,_,rfl,rfl,.of h2,o0,_,rfl,_,_,rfl,rfl,.inr ⟨by omega,by omega⟩,_,rfl,_,_,rfl,rfl,(by show (0:Int)<(p:Int);omega),U,_,_,rfl,rfl,h2,by rw[Vy];omega,?_⟩;have e5:WT p (z+1) (M+1)++[V.int (((((z+1) ^ M % p:Nat):Int))*((z+1:Nat):Int) % (p:Int))]=WT p (z+1) (M+2):=by rw[nx,ZbF p (z+1) (M+1)]
       rw[e5];exact⟨r (z+1)-(M+2),by omega,M+2,rfl,UN.updr m8,Zt,by omega,by omega,rfl⟩
      ·have h3:(z+1) ^ (M+1) % p=1:=by
        apply ah;intro e;apply h3;rw[Ye,nx,beq_eq_false_iff_ne.mpr (fun q=>e (by exact_mod_cast q))];rfl
       have:M+1=r (z+1):=by
        apply ah;intro e;exact O.nz (M+1) (by omega) (by omega) h3
       rw[this] at h2;exact Y _ _ ⟨rfl,UN,h2⟩
   ·have h1:k=n:=by
     apply ah;intro e;apply h1;rw[Ye];simp;omega
    subst h1;rw[c1 rfl] at hL ⊢;exact m6 _ _ ⟨L,rfl,sm,nL,hL⟩
end
end C52
namespace PyY
open PySem
open AutoSeq1 (wpAny_loadPart')
noncomputable def Vq (b:Bool)(h:Heap)(j a:Addr)(k:Nat):Prop:=match b with
 |true=>h.IsTupleIter j a k
 |false=>h.IsListIter j a k
noncomputable def Vp (b:Bool)(h:Heap)(a:Addr)(j:Array Value):Prop:=match b with
 |true=>h.IsTuple a j
 |false=>h.IsList a j
theorem Vq.ext {b:Bool}{h h':Heap}{c j a:Addr}{k:Nat}(x:Vq b h j a k)(e:g9 c h h')(n:j≠c):Vq b h' j a k:=by
 cases b
 ·exact Heap.IsListIter.extBut x e n
 ·exact Heap.IsTupleIter.extBut x e n
theorem Vp.ext {b:Bool}{h h':Heap}{c a:Addr}{us:Array Value}(x:Vp b h a us)(e:g9 c h h')(n:a≠c):Vp b h' a us:=by
 cases b
 ·exact Heap.IsList.extBut x e n
 ·exact Heap.IsTuple.extBut x e n
theorem Vq.at {b:Bool}{h h':Heap}{j a:Addr}{k:Nat}(x:Vq b h j a k)(e:∀o,h.get? j=some o->h'.get? j=some o):Vq b h' j a k:=by
 cases b
 ·exact Heap.IsListIter.at x e
 ·obtain⟨o,q,r⟩:=(show h.IsTupleIter j a k from x)
  exact⟨o,e o q,r⟩
theorem Vp.at {b:Bool}{h h':Heap}{a:Addr}{us:Array Value}(x:Vp b h a us)(e:∀o,h.get? a=some o->h'.get? a=some o):Vp b h' a us:=by
 cases b
 ·exact Heap.IsList.at x e
 ·obtain⟨o,j,r⟩:=(show h.IsTuple a us from x)
  exact⟨o,e o j,r⟩
theorem Vq.obj {b:Bool}{h:Heap}{j a:Addr}{k:Nat}(x:Vq b h j a k):∃o,h.get? j=some o/\∀v,o.data≠.cell v:=by
 cases b
 ·obtain⟨o,q,_,d⟩:=(show h.IsListIter j a k from x)
  exact⟨o,q,fun v z=>by rw[d] at z;cases z⟩
 ·obtain⟨o,q,_,d⟩:=(show h.IsTupleIter j a k from x)
  exact⟨o,q,fun v z=>by rw[d] at z;cases z⟩
section
variable {prog:Program}{w:World}{A:Around}{E:Value->Shared->Prop}{s:Shared}
theorem Xg {b:Bool}{j a:Addr}{k:Nat}{us:Array Value}{y:Value}{Q:Value->Shared->Prop}(c:Vq b s.heap j a k)(d:Vp b s.heap a us)(e:us[k]?=some y)
  (q:∀g,Vq b g j a (k+1)->ba j s.heap g->Q y {s with heap:=g}):wpAny (model prog w) A (a7 (.ref j)) Q E s:=by
 cases b
 ·exact wpAny_nextOf_list_item c d e q
 ·exact VW c d e q
theorem UW {b:Bool}{j a:Addr}{k:Nat}{us:Array Value}{Q:Value->Shared->Prop}(J:A.handled=none)(c:Vq b s.heap j a k)(d:Vp b s.heap a us)(e:us[k]?=none)
  (q:∀g x,g9 j s.heap g->(∃o,g.get? x=some o/\o.cls=.type "StopIteration")->E (.ref x) {s with heap:=g}):wpAny (model prog w) A (a7 (.ref j)) Q E s:=by
 cases b
 ·exact wpAny_nextOf_list_end J c d e q
 ·exact UV J c d e q
structure ZA (z p r i j a b:Addr):Prop where
 pz:p≠z
 rz:r≠z
 iz:i≠z
 jz:j≠z
 pr:p≠r
 pi:p≠i
 pj:p≠j
 ri:r≠i
 rj:r≠j
 ij:i≠j
 az:a≠z
 ar:a≠r
 ai:a≠i
 aj:a≠j
 bz:b≠z
 br:b≠r
 bi:b≠i
 bj:b≠j
theorem ZeJ {u v:Bool}{z p r i j a b:Addr}{k:Nat}{us vs:Array Value}{x y o1 o2:Value}{Q:Option Value->Shared->Prop}(D:ZA z p r i j a b)
  (hz:ir s.heap z p r .none) (hp:dI s.heap p (.ref i) (.ref j)) (hr:dI s.heap r o1 o2) (hi:Vq u s.heap i a k) (hj:Vq v s.heap j b k) (ha:Vp u s.heap a us) (hb:Vp v s.heap b vs) (ex:us[k]?=some x) (ey:vs[k]?=some y)
  (q:∀g,ir g z p r (rawInt s.heap.objs.size)->dI g r x y->Vq u g i a (k+1)->Vq v g j b (k+1)->dI g s.heap.objs.size x y->g.objs.size=s.heap.objs.size+1->
   (∀c o,c≠z->c≠r->c≠i->c≠j->s.heap.get? c=some o->g.get? c=some o)->Q (some (.ref s.heap.objs.size)) {s with heap:=g}):wpAny (model prog w) A (pyNext (.ref z)) Q E s:=by
 have tz:s.TypeIs (.ref z) "zip":=⟨_,hz,rfl⟩;unfold pyNext;refine Zl (dQ (bn (name:=cQ "__next__") tz hG (bv hG tz F.entry_zip_next ?_ (F.args_zip_next_1 _))));show wpAny _ _ (field (.ref z) 2 >>= _) _ _ s;refine Zl (bN hz rfl (x:=.bool false) rfl ?_);show wpAny _ _ (field (.ref z) 3 >>= _) _ _ s;refine Zl (bN hz rfl (x:=.ref p) rfl ?_);refine Zl (ci hp rfl ?_);show wpAny _ _ (bu (.ref z) >>= _) _ _ s;refine Zl ?_;unfold bu;refine Zl (bN hz rfl (x:=.none) rfl (Zm ?_));rw[if_pos rfl];refine Zl (eE (Zl (bN hz rfl (x:=.ref r) rfl ?_)));refine Zl (bK hz (by simp) fun g1 z1 s1=>?_);replace z1:ir g1 z p r .ellipsis:=z1;refine Zl ?_;simp only[mf,List.zipIdx_nil,ji,jB];refine Zl (Zl (iW ?_));show wpAny _ _ (a7 (.ref i) >>= _) _ _ _;refine Zl (Xg (hi.ext s1.extBut D.iz) (ha.ext s1.extBut D.az) ex fun g2 i2 s2=>Zm ?_);have r2:dI g2 r o1 o2:=s2.extBut _ _ D.ri (s1.extBut _ _ D.rz hr);refine Zl (ci r2 rfl ?_);refine Zl (iG r2 fun g3 r3 O=>?_);replace r3:dI g3 r x o2:=r3;refine Zl (jH (Zm ?_));refine Zl (Zl (iW ?_));show wpAny _ _ (a7 (.ref j) >>= _) _ _ _;refine Zl (Xg (((hj.ext s1.extBut D.jz).ext s2.extBut D.ij.symm).ext O.extBut D.rj.symm) (((hb.ext s1.extBut D.bz).ext s2.extBut D.bi).ext O.extBut D.br) ey fun g4 j4 U=>Zm ?_);have r4:dI g4 r x o2:=U.extBut _ _ D.rj r3;refine Zl (ci r4 rfl ?_);refine Zl (iG r4 fun J r5 Y=>?_);replace r5:dI J r x y:=r5;refine Zl (jH (Zm (Zm ?_)));refine Zl (ci r5 rfl ?_);refine Zl (kc ?_);have sz:J.objs.size=s.heap.objs.size:=by rw[Y.1,U.1,O.1,s2.1,s1.1]
 have z5:ir J z p r .ellipsis:=Y.extBut _ _ D.rz.symm (U.extBut _ _ D.jz.symm (O.extBut _ _ D.rz.symm (s2.extBut _ _ D.iz.symm z1)));have k5:∀c o,c≠z->c≠r->c≠i->c≠j->s.heap.get? c=some o->J.get? c=some o:=fun c o M c2 c3 c4 e=>Y.extBut _ _ c2 (U.extBut _ _ c4 (O.extBut _ _ c2 (s2.extBut _ _ c3 (s1.extBut _ _ M e))));have i5:Vq u J i a (k+1):=((i2.ext O.extBut D.ri.symm).ext U.extBut D.ij).ext Y.extBut D.ri.symm;have j5:Vq v J j b (k+1):=j4.ext Y.extBut D.rj.symm;have zl:z<J.objs.size:=Zp z5;show wpAny _ _ (cg (.ref z) (.ref J.objs.size) >>= _) _ _ _;refine Zl ?_;unfold cg;have z6:ir (J.push {cls:=.type "tuple",data:=.seq #[x,y]}) z p r .ellipsis:=Zn _ z5;refine Zl (bK z6 (by simp) fun g7 z7 s7=>?_);replace z7:ir g7 z p r (rawInt J.objs.size):=z7;refine bK z7 (by simp) fun g8 z8 s8=>?_;replace z8:ir g8 z p r (rawInt J.objs.size):=z8;have up:∀c o,c≠z->J.get? c=some o->g8.get? c=some o:=fun c o M e=>s8.extBut _ _ M (s7.extBut _ _ M (Zn _ e));have t8:dI g8 J.objs.size x y:=s8.extBut _ _ (bb zl) (s7.extBut _ _ (bb zl) (Zo _ rfl));have e8:g8.objs.size=J.objs.size+1:=by rw[s8.1,s7.1,bt]
 rw[sz] at z8 t8 e8;refine Zm ⟨_,rfl,Zm ?_⟩;show Q (some (.ref J.objs.size)) _;rw[sz];exact q g8 z8 (up _ _ D.rz r5) (i5.at fun o e=>up _ o D.iz e) (j5.at fun o e=>up _ o D.jz e) t8 e8 fun c o M c2 c3 c4 e=>up c o M (k5 c o M c2 c3 c4 e)
theorem ZeI {u v:Bool}{z p r i j a b:Addr}{k:Nat}{us vs:Array Value}{o1 o2:Value}{Q:PySem.Fin->Shared->Prop}(hn:A.handled=none)(D:ZA z p r i j a b)
  (hz:ir s.heap z p r .none) (hp:dI s.heap p (.ref i) (.ref j)) (hr:dI s.heap r o1 o2) (hi:Vq u s.heap i a k) (hj:Vq v s.heap j b k) (ha:Vp u s.heap a us) (hb:Vp v s.heap b vs) (en:us[k]?=none\/vs[k]?=none)
  (q:∀g e,(∀c o,c≠z->c≠r->c≠i->c≠j->s.heap.get? c=some o->g.get? c=some o)->(∃o,g.get? e=some o/\o.cls=.type "StopIteration")->E (.ref e) {s with heap:=g}) :
  wpAny (model prog w) A (cC.«zip.__next__» ⟨[.ref z],[]⟩) Q E s:=by
 show wpAny _ _ (field (.ref z) 2 >>= _) _ _ s;refine Zl (bN hz rfl (x:=.bool false) rfl ?_);show wpAny _ _ (field (.ref z) 3 >>= _) _ _ s;refine Zl (bN hz rfl (x:=.ref p) rfl ?_);refine Zl (ci hp rfl ?_);show wpAny _ _ (bu (.ref z) >>= _) _ _ s;refine Zl ?_;unfold bu;refine Zl (bN hz rfl (x:=.none) rfl (Zm ?_));rw[if_pos rfl];refine Zl (eE (Zl (bN hz rfl (x:=.ref r) rfl ?_)));refine Zl (bK hz (by simp) fun g1 z1 O=>?_);replace z1:ir g1 z p r .ellipsis:=z1;refine Zl ?_;simp only[mf,List.zipIdx_nil,ji,jB];refine Zl (Zl (iW ?_));show wpAny _ _ (a7 (.ref i) >>= _) _ _ _;cases ex:us[k]? with
 |none=>
  refine Zl (UW hn (hi.ext O.extBut D.iz) (ha.ext O.extBut D.az) ex fun g2 e U he=>?_);obtain⟨oe,J,M⟩:=he;have z2:ir g2 z p r .ellipsis:=U _ _ D.iz.symm z1;have Y:e≠z:=fun x=>by
   subst x;rw[z2] at J;cases J;simp at M
  exact bK z2 (by simp) fun g3 _ s3=>q g3 e (fun c o c1 _ c3 _ x=>s3.extBut _ _ c1 (U _ _ c3 (O.extBut _ _ c1 x))) ⟨oe,s3.extBut _ _ Y J,M⟩
 |some x=>
  have ey:vs[k]?=none:=by
   rcases en with h|h
   ·rw[ex] at h;cases h
   ·exact h
  refine Zl (Xg (hi.ext O.extBut D.iz) (ha.ext O.extBut D.az) ex fun g2 i2 U=>Zm ?_);have r2:dI g2 r o1 o2:=U.extBut _ _ D.ri (O.extBut _ _ D.rz hr);refine Zl (ci r2 rfl ?_);refine Zl (iG r2 fun g3 r3 s3=>?_);refine Zl (jH (Zm ?_));refine Zl (Zl (iW ?_));show wpAny _ _ (a7 (.ref j) >>= _) _ _ _;refine Zl (UW hn (((hj.ext O.extBut D.jz).ext U.extBut D.ij.symm).ext s3.extBut D.rj.symm) (((hb.ext O.extBut D.bz).ext U.extBut D.bi).ext s3.extBut D.br) ey fun g4 e s4 he=>?_);obtain⟨oe,J,M⟩:=he;have z4:ir g4 z p r .ellipsis:=s4 _ _ D.jz.symm (s3.extBut _ _ D.rz.symm (U.extBut _ _ D.iz.symm z1));have Y:e≠z:=fun x=>by
   subst x;rw[z4] at J;cases J;simp at M
  exact bK z4 (by simp) fun g5 _ s5=>q g5 e (fun c o c1 c2 c3 c4 x=>s5.extBut _ _ c1 (s4 _ _ c4 (s3.extBut _ _ c2 (U.extBut _ _ c3 (O.extBut _ _ c1 x))))) ⟨oe,s5.extBut _ _ Y J,M⟩
theorem ZfL {u v:Bool}{z p r i j a b:Addr}{k:Nat}{us vs:Array Value}{O U:Value}{Q:Option Value->Shared->Prop}(Y:A.handled=none)(D:ZA z p r i j a b)
  (hz:ir s.heap z p r .none) (hp:dI s.heap p (.ref i) (.ref j)) (hr:dI s.heap r O U) (hi:Vq u s.heap i a k) (hj:Vq v s.heap j b k) (ha:Vp u s.heap a us) (hb:Vp v s.heap b vs) (en:us[k]?=none\/vs[k]?=none)
  (q:∀g,(∀c o,c≠z->c≠r->c≠i->c≠j->s.heap.get? c=some o->g.get? c=some o)->Q none {s with heap:=g}):wpAny (model prog w) A (pyNext (.ref z)) Q E s:=by
 have J:s.TypeIs (.ref z) "zip":=⟨_,hz,rfl⟩;unfold pyNext;refine Zl (dQ (bn (name:=cQ "__next__") J hG (bv hG J F.entry_zip_next (ZeI Y D hz hp hr hi hj ha hb en fun g e hk he=>?_) (F.args_zip_next_1 _))));obtain⟨o,ho,hc⟩:=he;refine Zl (gZ (T:="StopIteration") (b:=true) ⟨o,ho,hc⟩ kg ?_);exact Zm (q _ hk)
noncomputable def ZdN (b:Bool):String:=match b with
 |true => "tuple_iterator"
 |false => "list_iterator"
theorem ZkA {b:Bool}{a:Addr}{us:Array Value}{Q:Value->Shared->Prop}(h:Vp b s.heap a us)(q:Q (.ref s.heap.objs.size) {s with heap:=s.heap.push {cls:=.type (ZdN b),data:=.fields #[.ref a,.int 0 0]}}):wpAny (model prog w) A (pyIter (.ref a)) Q E s:=by
 cases b
 ·exact fo h q
 ·exact gx h q
noncomputable abbrev zh1 (h:Heap)(u:Bool)(a:Addr):Heap:=h.push {cls:=.type (ZdN u),data:=.fields #[.ref a,.int 0 0]}
noncomputable abbrev zh2 (h:Heap)(u v:Bool)(a b:Addr):Heap:=(zh1 h u a).push {cls:=.type (ZdN v),data:=.fields #[.ref b,.int 0 0]}
noncomputable abbrev zh3 (h:Heap)(u v:Bool)(a b:Addr):Heap:=(zh2 h u v a b).push {cls:=.type "tuple",data:=.seq #[.ref h.objs.size,.ref (zh1 h u a).objs.size]}
noncomputable abbrev zh4 (h:Heap)(u v:Bool)(a b:Addr):Heap:=(zh3 h u v a b).push {cls:=.type "tuple",data:=.seq #[.none,.none]}
noncomputable abbrev zh5 (h:Heap)(u v:Bool)(a b:Addr):Heap:=(zh4 h u v a b).push {cls:=.type "zip",data:=.fields #[.none,.bool false,.bool false,.ref (zh2 h u v a b).objs.size,.ref (zh3 h u v a b).objs.size]}
theorem Vp.push {b:Bool}{h:Heap}{a:Addr}{us:Array Value}(x:Vp b h a us)(o:Obj):Vp b (h.push o) a us:=x.at fun _ e=>Zn _ e
theorem ZfK (u v:Bool)(a b:Addr)(j vs:Array Value) :
  Meets (cC.«zip.__new__» ⟨[.type "zip",.ref a,.ref b],[]⟩) (fun _ R s=>Vp u s.heap a j/\Vp v s.heap b vs/\R (.ok (.ret (.ref (zh4 s.heap u v a b).objs.size))) {s with heap:=zh5 s.heap u v a b}):=
 .of_wp fun prog w A R s h=>by
  obtain⟨q,J,dr,tk,os⟩:=s;obtain⟨M,hb,h⟩:=h;have sub:=sub_zip;have O:Vp u (jZ ⟨q,J,dr,tk,os⟩) a j:=M;have U:Vp v (jZ ⟨zh1 q u a,J,dr,tk,os⟩) b vs:=Vp.push hb _
  wp_walk using ZkA O,ZkA U
  exact⟨_,rfl,h⟩
theorem Zfx {u v:Bool}{a b:Addr}{us vs:Array Value}{Q:Value->Shared->Prop}(ha:Vp u s.heap a us)(hb:Vp v s.heap b vs)
  (q:∀g,ir g (s.heap.objs.size+4) (s.heap.objs.size+2) (s.heap.objs.size+3) .none->dI g (s.heap.objs.size+2) (.ref s.heap.objs.size) (.ref (s.heap.objs.size+1))->dI g (s.heap.objs.size+3) .none .none->
   Vq u g s.heap.objs.size a 0->Vq v g (s.heap.objs.size+1) b 0->(∀c o,s.heap.get? c=some o->g.get? c=some o)->Q (.ref (s.heap.objs.size+4)) {s with heap:=g}) :
  wpAny (model prog w) A (call (.type "zip") [.ref a,.ref b]) Q E s:=by
 refine callType_new F.called_zip (by decide) (F.typeCall_zip_2 _ _) (F.newCall_zip_2 _ _) (fun obj=>F.args_object_init_3 obj _ _) F.entry_zip_new (ZfK u v a b us vs) ⟨ha,hb,?_⟩;have J:(zh1 s.heap u a).objs.size=s.heap.objs.size+1:=bt ..;have M:(zh2 s.heap u v a b).objs.size=s.heap.objs.size+2:=by rw[bt,J]
 have O:(zh3 s.heap u v a b).objs.size=s.heap.objs.size+3:=by rw[bt,M]
 have Y:(zh4 s.heap u v a b).objs.size=s.heap.objs.size+4:=by rw[bt,O]
 have U:(zh5 s.heap u v a b).get? (zh4 s.heap u v a b).objs.size=some _:=Zo _ rfl;have w4:(zh5 s.heap u v a b).get? (zh3 s.heap u v a b).objs.size=some _:=Zn _ (Zo _ rfl);have w3:(zh5 s.heap u v a b).get? (zh2 s.heap u v a b).objs.size=some _:=Zn _ (Zn _ (Zo _ rfl));have w2:(zh5 s.heap u v a b).get? (zh1 s.heap u a).objs.size=some _:=Zn _ (Zn _ (Zn _ (Zo _ rfl)));have w1:(zh5 s.heap u v a b).get? s.heap.objs.size=some _:=Zn _ (Zn _ (Zn _ (Zn _ (Zo _ rfl))));have it:∀(x:Bool) (g:Heap) (j c:Addr),g.get? j=some {cls:=.type (ZdN x),data:=.fields #[.ref c,.int 0 0]}->Vq x g j c 0:=fun x g j c e=>by
  cases x <;> exact⟨_,e,rfl,rfl⟩
 show _/\_;rw[M,O,Y] at U;rw[J,M] at w3;rw[O] at w4;rw[J] at w2;rw[Y];exact⟨⟨_,U,rfl⟩,q _ U w3 w4 (it u _ _ _ w1) (it v _ _ _ w2) fun c o x=>Zn _ (Zn _ (Zn _ (Zn _ (Zn _ x))))⟩
end
end PyY
namespace L2
open PySem PySem.Spec PyProof.Rows
noncomputable def SqB (b:Bool)(K:aa)(H:Hp)(a:Addr)(xs:List V):Prop:=match b with
 |true=>Xc K H a xs
 |false=>Wt K H a xs
theorem SqB.mono {b:Bool}{K:aa}{H j:Hp}{a:Addr}{xs:List V}(h:SqB b K H a xs)(s:Zv H j):SqB b K j a xs:=by
 cases b
 ·exact s.seq h
 ·exact s.tup h
theorem SqB.lst {K:aa}{H:Hp}{a:Addr}{xs:List V}(h:Wt K H a xs):SqB false K H a xs:=h
section
variable {X:Cx}{pins:List (Addr×Obj)}{σ:St}{H:Hp}{s:Shared}
theorem Inv.sqB {b:Bool}{a:Addr}{xs:List V}(I:Inv X pins σ H s)(h:SqB b X.K H a xs):∃j,ZL xs j/\PyY.Vp b s.heap a j.toArray:=by
 cases b
 ·obtain⟨j,q,p,_⟩:=I.list h
  exact⟨j,q,p.isList⟩
 ·obtain⟨j,q,p,_⟩:=I.tuple h
  exact⟨j,q,p⟩
theorem Inv.sqB_inj {b:Bool}{a:Addr}{xs ys:List V}(I:Inv X pins σ H s)(h:SqB b X.K H a xs)(h':SqB b X.K H a ys):xs=ys:=by
 cases b
 ·exact I.list_inj h h'
 ·exact I.tuple_inj h h'
end
noncomputable def Itz (K:aa)(u v:Bool)(a b:Addr):It:=
  ⟨fun i H=>∃j q x y,SqB u K H a j/\SqB v K H b q/\j[i]?=some x/\q[i]?=some y,
   fun i H x O=>∃T J M,x=.ref T/\H T=none/\O=upd H T (.tup [J,M])/\(∀j,SqB u K H a j->j[i]?=some J)/\∀q,SqB v K H b q->q[i]?=some M,
   fun i H=>∃j q,SqB u K H a j/\SqB v K H b q/\(j.length<=i\/q.length<=i)⟩
theorem ZfS {P:Program}{w:World}{K:aa}{elts:List Expr}{x1}{pos:Pos}(u v:Bool)(a b z p r i j:Addr)(D:PyY.ZA z p r i j a b) :
  UE P w K (.Tuple elts x1 pos) (Itz K u v a b) [z,p,r,i,j] z (fun k h=>ir h z p r .none/\dI h p (.ref i) (.ref j)/\(∃o1 o2,dI h r o1 o2)/\PyY.Vq u h i a k/\PyY.Vq v h j b k) where
 mem:=by simp
 obj:=fun k h st c hc=>by
  obtain⟨O,M,⟨o1,o2,U⟩,hi,Y⟩:=st;simp only[aG,dZ,or_false] at hc;rcases hc with rfl|rfl|rfl|rfl|rfl
  ·exact⟨_,O,fun v z=>by
    have z':f9 _=fU v:=z;cases z'⟩
  ·exact⟨_,M,fun v z=>by
    have z':Data.seq _ _=fU v:=z;cases z'⟩
  ·exact⟨_,U,fun v z=>by
    have z':Data.seq _ _=fU v:=z;cases z'⟩
  ·exact hi.obj
  ·exact Y.obj
 keep:=fun k h h' st kk=>by
  obtain⟨O,M,⟨o1,o2,U⟩,hi,Y⟩:=st;exact⟨kk z (by simp) _ O,kk p (by simp) _ M,⟨o1,o2,kk r (by simp) _ U⟩,hi.at fun o q=>kk i (by simp) o q,Y.at fun o q=>kk j (by simp) o q⟩
 item:=by
  intro X hP hw hK hc k m8 s σ H E I hf st hg;subst hP hw hK;obtain⟨O,M,⟨o1,o2,U⟩,hi,Y⟩:=st;obtain⟨xs,ys,x,y,hA,hB,hx,hy⟩:=hg;obtain⟨n6,rv,pa⟩:=I.sqB hA;obtain⟨n8,m5,pb⟩:=I.sqB hB;obtain⟨ux,n9,o0⟩:=rv.get hx;obtain⟨uy,o5,o6⟩:=m5.get hy;refine PyY.ZeJ D O M U hi Y pa pb (x:=ux) (y:=uy) (by simpa using n9) (by simpa using o5) fun h1 z1 r1 i1 j1 t1 o7 k1=>?_;refine⟨_,rfl,wpAny_letOwnedTupleGo_zip z1 fun h2 z2 s2=>?_⟩;have lt:∀c∈[z,p,r,i,j],c<s.heap.objs.size:=fun c J=>by
   simp only[aG,dZ,or_false] at J;rcases J with rfl|rfl|rfl|rfl|rfl
   ·exact Zp O
   ·exact Zp M
   ·exact Zp U
   ·obtain⟨o,e,_⟩:=hi.obj;exact Zp e
   ·obtain⟨o,e,_⟩:=Y.obj;exact Zp e
  have s3:ba z h1 h2:=s2;have t2:dI h2 s.heap.objs.size ux uy:=(s3.2 _ (bb (lt z (by simp)))).trans t1;have nT:H s.heap.objs.size=none:=I.hok.fresh (Zq _);have p2:dI h2 p (.ref i) (.ref j):=(s3.2 _ D.pz).trans (k1 _ _ D.pz D.pr D.pi D.pj M);have r2:dI h2 r ux uy:=(s3.2 _ D.rz).trans r1;have i2:=i1.ext s3.extBut D.iz;have j2:=j1.ext s3.extBut D.jz;have I2:=I.turnLay (t':=s.toks) (h':=h2) (ts:=[z,p,r,i,j]) (T:=s.heap.objs.size) (o:=.tup [x,y]) (fun c o J q=>?_) (fun c J=>?_) hf (Zq _) ⟨by show 2<=sizeLine;decide,[ux,uy],.cons o0 (.cons o6 .nil),_,t2,rfl,0,rfl⟩
  ·refine⟨.ref s.heap.objs.size,_,I2,rfl,⟨_,x,y,rfl,nT,rfl,fun zs m6=>by rw[I.sqB_inj m6 hA];exact hx,fun zs m6=>by rw[I.sqB_inj m6 hB];exact hy⟩,⟨z2,p2,⟨_,_,r2⟩,i2,j2⟩,fun c J=>?_⟩
   rw[Zy (aC (lt c J))];exact (hf c J).1
  ·have q1:c≠z:=fun e=>J (by simp[e])
   have q2:c≠r:=fun e=>J (by simp[e]);have q3:c≠i:=fun e=>J (by simp[e]);have q4:c≠j:=fun e=>J (by simp[e]);exact (s3.2 c q1).trans (k1 c o q1 q2 q3 q4 q)
  ·simp only[aG,dZ,or_false] at J
   rcases J with rfl|rfl|rfl|rfl|rfl
   ·exact⟨_,z2⟩
   ·exact⟨_,p2⟩
   ·exact⟨_,r2⟩
   ·obtain⟨o,e,_⟩:=i2.obj;exact⟨o,e⟩
   ·obtain⟨o,e,_⟩:=j2.obj;exact⟨o,e⟩
 done:=by
  intro X hP hw hK hc k m8 s σ H E I hf st hg;subst hP hw hK;obtain⟨O,M,⟨o1,o2,U⟩,hi,Y⟩:=st;obtain⟨xs,ys,hA,hB,hl⟩:=hg;obtain⟨n6,rv,pa⟩:=I.sqB hA;obtain⟨n8,m5,pb⟩:=I.sqB hB;have l1:=rv.length;have l2:=m5.length;refine PyY.ZfL (I.ok.hd hc) D O M U hi Y pa pb ?_ fun h1 k1=>⟨rfl,I.turnedL (t':=s.toks) (ts:=[z,p,r,i,j]) (fun c o J q=>?_) hf⟩
  ·rcases hl with h|h
   ·exact .inl (by simp;omega)
   ·exact .inr (by simp;omega)
  ·exact k1 c o (fun e=>J (by simp[e])) (fun e=>J (by simp[e])) (fun e=>J (by simp[e])) (fun e=>J (by simp[e])) q
 self:=fun _ _ _ _ _ st h=>wpAny_pyIter_zip st.1 h
structure Zdd (J:It)(At:Hp->Prop)(ps:List (V×V)):Prop where
 go:∀i H,At H->i<ps.length->J.go i H
 yld:∀i H x H2,At H->J.yld i H x H2->∃T y z,x=.ref T/\H T=none/\H2=upd H T (.tup [y,z])/\ps[i]?=some (y,z)
 stop:∀i H,At H->ps.length<=i->J.stop i H
theorem Zmv {K:aa}{u v:Bool}{a b:Addr}{xs ys:List V}:Zdd (Itz K u v a b) (fun H=>SqB u K H a xs/\SqB v K H b ys) (xs.zip ys) where
 go:=fun i H h j=>by
  rw[eP] at j;exact⟨xs,ys,xs[i]'(by omega),ys[i]'(by omega),h.1,h.2,by simp,by simp⟩
 yld:=fun i H x Y h q=>by
  obtain⟨T,y,z,e,J,M,O,U⟩:=q;refine⟨T,y,z,e,J,M,?_⟩;rw[f6];exact⟨O xs h.1,U ys h.2⟩
 stop:=fun i H h j=>by
  rw[eP] at j;exact⟨xs,ys,h.1,h.2,by omega⟩
noncomputable def Zns (K:aa)(ta:TA):TI:=fun σ H R=>ta σ H fun vs q=>∃a b u v M O j,vs=[.ref a,.ref b]/\SqB u K j a M/\SqB v K j b O/\Zv j q/\∀J U,Zdd J U (M.zip O)->(∀Y,Zv j Y->U Y)->R J q
theorem Zos {X:Cx}{elts:List Expr}{x1}{pt:Pos}{l m:Expr}{ta:TA}{p pos:Pos}(hm:X.mg "zip"=none)(ha:PA X [l,m] ta)(hg:YZ X.env.scope "zip"=true:=by kernel_rfl)(hs:starEach [l,m] X.env=(false,eval l X.env)::starEach [m] X.env:=by rfl)(O:(backTo pos (starEach [m] X.env)).any (·.1)=false:=by rfl) :
  PI X (.Tuple elts x1 pt) (.Call (.Name "zip" p) [l,m] [] pos) (Zns X.K ta):=by
 intro j s σ H R I h;refine Call_ (Jj I (Xa hg) hm (show bootBuiltins "zip"=some (.type "zip") by kernel_rfl) (bo (Yj (ha pos j s σ H _ I h) fun us s1 ⟨vs,H1,J,r1,q1⟩=>?_) hs O));obtain⟨a,b,u,v,xs,ys,Hx,e,hA,hB,sm,q⟩:=q1;subst e;cases r1 with
 |cons r U=>
  cases U with
  |cons r' U=>
   cases U;cases (show _=aB a from r);cases (show _=aB b from r');obtain⟨m5,rv,Y⟩:=J.sqB (hA.mono sm);obtain⟨m6,m8,pb⟩:=J.sqB (hB.mono sm);have la:a<s1.heap.objs.size:=by
    cases u
    ·obtain⟨o,e,_⟩:=(show s1.heap.IsList a _ from Y);exact Zp e
    ·obtain⟨o,e,_⟩:=(show s1.heap.IsTuple a _ from Y);exact Zp e
   have lb:b<s1.heap.objs.size:=by
    cases v
    ·obtain⟨o,e,_⟩:=(show s1.heap.IsList b _ from pb);exact Zp e
    ·obtain⟨o,e,_⟩:=(show s1.heap.IsTuple b _ from pb);exact Zp e
   have nn:∀{c d:Nat},c<d->(c:Addr)≠d:=fun h=>aC h;have D:PyY.ZA (s1.heap.objs.size+4) (s1.heap.objs.size+2) (s1.heap.objs.size+3) s1.heap.objs.size (s1.heap.objs.size+1) a b:=by
    have n6:(a:Nat)<s1.heap.objs.size:=la;have n8:(b:Nat)<s1.heap.objs.size:=lb;constructor <;> first|exact aC (aE la (eh _ _))|exact aC (aE lb (eh _ _))|exact aC la|exact aC lb|exact aC (by omega)|exact bb (by omega)
   refine PyY.Zfx Y pb fun g gz gp gr gi gj gk=>wpAny_pyIter_zip gz ?_;have sz:∀c∈[s1.heap.objs.size+4,s1.heap.objs.size+2,s1.heap.objs.size+3,s1.heap.objs.size,s1.heap.objs.size+1],s1.heap.objs.size<=c:=fun c M=>by
    simp only[aG,dZ,or_false] at M;rcases M with rfl|rfl|rfl|rfl|rfl
    ·exact eh _ _
    ·exact eh _ _
    ·exact eh _ _
    ·exact Zq _
    ·exact eh _ _
   exact⟨_,[s1.heap.objs.size+4,s1.heap.objs.size+2,s1.heap.objs.size+3,s1.heap.objs.size,s1.heap.objs.size+1],_,_,H1,rfl,J.kept (t':=s1.toks) gk,ZfS u v a b _ _ _ _ _ D,⟨gz,gp,⟨_,_,gr⟩,gi,gj⟩,fun c M=>J.fpOk (sz c M) (J.hok.fresh (sz c M)),q _ _ Zmv fun H' s'=>⟨hA.mono s',hB.mono s'⟩⟩
theorem ZkQ (K:aa){X:Cx}{elts:List Expr}{J}{pt:Pos}{l m:Expr}{q:TA}{p pos:Pos}(M:X.mg "zip"=none)(O:PA X [l,m] q)(U:X.K=K:=by rfl)(Y:YZ X.env.scope "zip"=true:=by kernel_rfl)(hs:starEach [l,m] X.env=(false,eval l X.env)::starEach [m] X.env:=by rfl)(j:(backTo pos (starEach [m] X.env)).any (·.1)=false:=by rfl) :
  PI X (.Tuple elts J pt) (.Call (.Name "zip" p) [l,m] [] pos) (Zns K q):=U▸Zos M O Y hs j
theorem ZhW {K:aa}{J:It}{At:Hp->Prop}{own:List Str}{M:List Nat}{te:TE}{σ:St}{H Hx:Hp}{Q:VK}{q:List (V×V)}(S:Zdd J At q)(n6:∀j,Zv Hx j->At j)(sx:Zv Hx H)(O:St)(n8:JJ own M σ=none::none::O)(f:V->V->V)(hz:q.length<=1000000)
  (hs:∀(i:Nat) x y j,q[i]?=some (x,y)->Zv H j->∀R:VK,(∀U,Zv j U->R (f x y) U)->te (some x::some y::O) j R)
  (hd:∀D j,H D=none->Zv H j->j D=some (.lst (q.map fun p=>f p.1 p.2))->Q (.ref D) j):WS own M (ZhC K 2 (JG (Z7 0) (JG (Z7 1) ZhD))) Wr te σ Q J H:=by
 intro D hD;refine⟨fun i m m5 j=>m=q.length-i/\i<=q.length/\(∃v0 v1,m5=v0::v1::O)/\Zv H j/\j D=some (.lst ((q.take i).map fun p=>f p.1 p.2)),⟨_,rfl,a5 _,⟨none,none,n8⟩,Zv.upd hD,by rw[Zt,eY];rfl⟩,?_⟩;rintro i m m5 j ⟨rfl,hi,⟨v0,v1,rfl⟩,s,hl⟩;have Y:=n6 j (sx.trans s);by_cases m6:i<q.length
 ·refine .inr ⟨S.go i j Y m6,fun m8 H2=>(∃v0 v1,m8=v0::v1::O)/\Zv H H2/\H2 D=some (.lst ((q.take (i+1)).map fun p=>f p.1 p.2)),fun m8 H2 z=>⟨q.length-(i+1),by omega,rfl,m6,z.1,z.2.1,z.2.2⟩,fun x H2 hy=>?_⟩
  obtain⟨T,y,z,rfl,hT,rfl,hx⟩:=S.yld i j x H2 Y hy;have ht:q.take (i+1)=q.take i++[(y,z)]:=by rw[cP,hx];rfl
  refine⟨T,_,rfl,.of Zt,rfl,_,_,rfl,_,_,rfl,rfl,?_⟩;refine tT (A:=fun H4=>te (some y::some z::O) H4 fun v U=>∃xs,U D=some (.lst xs)/\xs.length<sizeLine/\(∃v0 v1,(some y::some z::O:St)=v0::v1::O)/\Zv H (upd U D (.lst (xs++[v])))/\(upd U D (.lst (xs++[v]))) D=some (.lst ((q.take (i+1)).map fun p=>f p.1 p.2))) ?_;refine hs i y z _ hx (s.trans (Zv.upd hT)) _ fun U s5=>⟨_,s5 _ _ (Zv.upd hT _ _ hl),?_,⟨_,_,rfl⟩,((s.trans (Zv.upd hT)).trans s5).updr hD,?_⟩
  ·rw[Za,bT]
   have:(16777216:Nat)=sizeLine:=by decide
   omega
  ·rw[Zt,ht,aU]
   rfl
 ·have e:i=q.length:=by omega
  subst e;refine .inl ⟨S.stop _ j Y (Zq _),hd D j hD s ?_⟩;rw[hl,cU]
end L2
namespace C52
open PySem L2 PySem.Spec PyProof.Rows
open Tb Pm
noncomputable abbrev Zgm:Stmt:=top 28
noncomputable abbrev Zkl:Stmt:=top 29
noncomputable abbrev Zkk:Stmt:=top 30
noncomputable def ZH (m:Nat)(v:Nat->Int):List V:=(ae m).map fun c=>V.int (v c)
theorem Yk (m:Nat)(v:Nat->Int):(ZH m v).length=m:=by unfold ZH;rw[Za,Zg]
theorem JO {m c:Nat}(v:Nat->Int)(h:c<m):(ZH m v)[c]?=some (V.int (v c)):=by
 unfold ZH;rw[Zc,am h];rfl
theorem Wb {m:Nat}{v u:Nat->Int}(h:∀c,c<m->v c=u c):ZH m v=ZH m u:=by
 unfold ZH;exact aX fun c j=>by rw[h c (af.mp j)]
theorem W0 (m:Nat)(v:Nat->Int):ZH m v=((ae m).map v).map V.int:=by
 unfold ZH;rw[aJ];rfl
theorem Za9 (m:Nat)(v:Nat->Int):ZH (m+1) v=ZH m v++[V.int (v m)]:=by
 unfold ZH;rw[cf,aU];rfl
theorem Vw (m:Nat)(v:Nat->Int):((ae m).map v).any (· != 0)=true↔∃c,c<m/\v c≠0:=by
 rw[aY];constructor
 ·rintro⟨x,q,h⟩
  obtain⟨c,j,rfl⟩:=aI.mp q;exact⟨c,af.mp j,by simpa using h⟩
 ·rintro⟨c,j,h⟩
  exact⟨v c,aI.mpr ⟨c,af.mpr j,rfl⟩,by simpa using h⟩
noncomputable def fI2 (g:Int->Int->Int):V->V->V:=fun x y=>match x,y with
 | .int a,.int b=>.int (g a b)
 |_,_=>.non
theorem Zdj {m:Nat}{v u:Nat->Int}:(ZH m v).zip (ZH m u)=(ae m).map fun c=>(V.int (v c),V.int (u c)):=by
 unfold ZH;rw[List.zip_map']
theorem X5 {K:aa}{J:It}{At:Hp->Prop}{own:List Str}{M:List Nat}{te:TE}{σ:L2.St}{H Hx:Hp}{Q:VK}{m:Nat}{v u:Nat->Int}(S:Zdd J At ((ZH m v).zip (ZH m u)))(O:∀j,Zv Hx j->At j)(sx:Zv Hx H)(U:L2.St)(Y:JJ own M σ=none::none::U)(g:Int->Int->Int)(hz:m<=1000)
  (hs:∀(i:Nat) j,i<m->Zv H j->∀R:VK,R (.int (g (v i) (u i))) j->te (some (.int (v i))::some (.int (u i))::U) j R)
  (hd:∀D j,H D=none->Zv H j->j D=some (.lst (ZH m fun i=>g (v i) (u i)))->Q (.ref D) j):WS own M (ZhC K 2 (JG (Z7 0) (JG (Z7 1) ZhD))) Wr te σ Q J H:=by
 refine ZhW S O sx U Y (fI2 g) (by rw[eP,Yk,Yk];omega) (fun i x y j q s R gg=>?_) (fun D j nD s hD=>hd D j nD s ?_)
 ·rw[Zdj] at q
  have hi:i<m:=by
   have:=(ac.mp q).1;rw[Za,Zg] at this;exact this
  rw[Zc,am hi] at q;cases q;exact hs i j hi s R (gg j (Zv.refl _))
 ·rw[hD,Zdj,aJ]
  rfl
noncomputable def LLs (H:Hp)(a:Addr)(m:Nat)(F:Nat->Nat->Int):Prop:=∃cs:List Addr,H a=some (.lst (cs.map V.ref))/\cs.length=m/\∀(c:Nat) b,cs[c]?=some b->H b=some (.lst (ZH m (F c)))
theorem LLs.mono {H j:Hp}{a:Addr}{m:Nat}{F:Nat->Nat->Int}(h:LLs H a m F)(s:Zv H j):LLs j a m F:=by
 obtain⟨q,J,M,O⟩:=h;exact⟨q,s _ _ J,M,fun c b hb=>s _ _ (O c b hb)⟩
noncomputable def V3 (m p:Nat)(F:Nat->Nat->Int)(v:Nat->Int)(k:Int)(c:Nat):Int:=(Y0 m (fun j=>v j*F c j)-k*v c) % (p:Int)
structure Zib (m p:Nat)(v:Nat->Int):Prop where
 ge:∀c,c<m->0<=v c
 lt:∀c,c<m->v c<(p:Int)
noncomputable def Zf3:Sp:=fun M H Q _=>∃(q J:Addr) (m k p:Nat) (F:Nat->Nat->Int) (v:Nat->Int),M=[.ref q,.ref J,.int k,.int p]/\LLs H q m F/\H J=some (.lst (ZH m v))/\2<=p/\p<=100000/\m<=60/\k<=100000/\Zib m p v/\∀L j,H L=none->Zv H j->j L=some (.lst (ZH m (V3 m p F v k)))->Q (.ref L) j
section
variable {P:Program}{w:World}{K:aa}{mg:Str->Option Value}{base:Heap}
theorem ZjP {J:It}{g:TG}{tb:TS}{D:J5}{σ:L2.St}{H:Hp}{At:Hp->Prop}{j:List (V×V)}(S:Zdd J At j)(Pv:Nat->L2.St->Hp->Prop)(h0:Pv 0 σ H)(hS:∀i σ H,Pv i σ H->At H)
  (hs:∀(i:Nat) y z σ H T,j[i]?=some (y,z)->Pv i σ H->H T=none->g (.ref T) σ (upd H T (.tup [y,z])) fun M Y=>tb {D with nx:=Pv (i+1),ct:=Pv (i+1),bk:=D.nx} M Y) (hd:∀ σ H,Pv j.length σ H->D.nx σ H) :
  ∃W:Nat->Nat->L2.St->Hp->Prop,(∃m,W 0 m σ H)/\∀i m σ H,W i m σ H->
   (J.stop i H/\D.nx σ H)\/(J.go i H/\∃N:L2.St->Hp->Prop,(∀ O q,N O q->∃m',m'<m/\W (i+1) m' O q)/\∀x q,J.yld i H x q->g x σ q fun M Y=>tb {D with nx:=N,ct:=N,bk:=D.nx} M Y):=by
 refine⟨fun i m σ H=>m=j.length-i/\i<=j.length/\Pv i σ H,⟨_,rfl,a5 _,h0⟩,?_⟩;rintro i m σ H ⟨rfl,hi,p⟩;have s:=hS i σ H p;by_cases U:i<j.length
 ·refine .inr ⟨S.go i H s U,Pv (i+1),fun O q p'=>⟨j.length-(i+1),by omega,rfl,U,p'⟩,fun x q hy=>?_⟩
  obtain⟨T,y,z,rfl,hT,rfl,hx⟩:=S.yld i H x q s hy;exact hs i y z σ H T hx p hT
 ·have e:i=j.length:=by omega
  subst e;exact .inl ⟨S.stop _ H s (Zq _),hd σ H p⟩
theorem Zjf {f:Addr}{fd:FuncData}(F:WN K "less_often" "less_often" Zkk f fd)(T5:BlT mg):Yb P w K mg base Yi 1 f fd ["columns", "one", "k", "p"] Zf3:=by
 refine F.ok (FS (N:=["columns", "one", "k", "p", "found", "column", "x"])) (fun vs H Q E h=>?_) (fun n6 A m5 s H vs Q E hr h=>?_)
 ·obtain⟨ca,oa,m,k,p,G,v,rfl,_⟩:=h;rfl
 ·obtain⟨ca,oa,m,k,p,G,v,rfl,hC,hO,p2,pl,n8,kl,vo,q⟩:=h
  refine⟨_,Zs (ZD 4 rfl (ZW Zu))
   (Zs (ZT av rfl (ZkQ K T5.zip (pc (vn 0) (pc (vn 1) Zu))) (g2 K 5 6 rfl (gn 5) (gn 6))
    (Zw (Yq (Wj aO aT aV Z2 (vn 4)
     (pc (Zz Z0 (Zz Y5 (cb (sumK K rfl) T5.sum (pc (cmp ["y", "often"] [] ["y", "often"] rfl (ZkQ K T5.zip (pc (vn 1) (pc (vn 5) Zu))) (fun _ _ _ _ _=>g2 K 0 1 rfl (gn 0) (gn 1)) (fun _ _ _ _ _=>ZQ)
      (fun _ _ _ _ _=>Zz ZP (vn 0) (vn 1))) Zu)) (Zz ZP (vn 2) (vn 6))) (vn 3)) Zu)))))
   (Zw (ZF (vn 4)))),?_⟩
  have sz:(16777216:Nat)=sizeLine:=by decide
  obtain⟨cs,c1,c2,c3⟩:=id hC;refine⟨(by show 0<=sizeLine;decide),fun L nL=>?_⟩;have s0:=Zv.upd (H:=H) (o:=.lst []) nL;have h0:upd H L (.lst []) L=some (.lst (ZH 0 (V3 m p G v k))):=Zt;generalize upd H L (.lst [])=H0 at s0 h0 ⊢;refine⟨_,rfl,_,rfl,ca,oa,false,false,_,_,H,rfl,.lst (.of c1),.lst (.of hO),s0,fun J At S m6=>?_⟩;have m8:((cs.map V.ref).zip (ZH m v)).length=m:=by rw[eP,Za,Yk,c2];omega
  refine ZjP S (fun i M H'=>∃(v5 v6:Option V),M=[some (.ref ca),some (.ref oa),some (.int (k:Nat)),some (.int (p:Nat)),some (.ref L),v5,v6]/\Zv H H'/\H' L=some (.lst (ZH i (V3 m p G v k))))
   ⟨_,_,rfl,s0,h0⟩ (fun i M H' h=>?_) ?_ ?_
  ·obtain⟨_,_,_,sm,_⟩:=h
   exact m6 H' sm
  ·rintro i y z M H1 T' U ⟨v5,v6,rfl,s1,h1⟩ nT
   have hi:i<m:=by
    have:=(ac.mp U).1;omega
   rw[f6,JO v hi,Zc,Zf (by omega)] at U;obtain⟨e1,e2⟩:=U;cases e1;cases e2;have hb:=c3 i (cs[i]'(by omega)) (Zf (by omega));generalize cs[i]'(by omega)=b at hb ⊢;have s2:=Zv.upd (H:=H1) (o:=.tup [.ref b,.int (v i)]) nT;refine⟨T',_,rfl,.of Zt,rfl,_,_,rfl,_,_,rfl,rfl,?_⟩;have O:=s1.trans s2;have h2:=s2 _ _ h1;generalize upd H1 T' (.tup [.ref b,.int (v i)])=H2 at O h2 ⊢;refine⟨_,rfl,.inl ⟨rfl,_,.of h2⟩,_,rfl,_,rfl,oa,b,false,false,_,_,H,rfl,.lst (.of hO),.lst (.of hb),O,fun J' n9 S' Y=>?_⟩;refine X5 S' Y O [] rfl (fun x y=>x*y) (by omega) (fun j H3 hj s3 R g=>?_) (fun D H3 nD s3 hD=>?_)
   ·have a1:=vo.ge j hj
    have a2:=vo.lt j hj;exact⟨_,rfl,_,rfl,_,_,rfl,rfl,.inl ⟨by omega,by omega⟩,g⟩
   ·rw[W0] at hD
    refine⟨D,_,rfl,.of hD,_,rfl,_,rfl,_,_,rfl,rfl,.inl ⟨by omega,by omega⟩,_,_,rfl,rfl,_,rfl,_,_,rfl,rfl,(by show (0:Int)<(p:Int);omega),L,_,_,rfl,rfl,s3 _ _ h2,by rw[Yk];omega,?_⟩;have e5:ZH i (V3 m p G v k)++[V.int ((((ae m).map fun j=>v j*G i j).sum-(k:Int)*v i) % (p:Int))]=ZH (i+1) (V3 m p G v k):=by
     rw[Za9];rfl
    rw[e5];exact⟨_,_,rfl,(O.trans s3).updr nL,Zt⟩
  ·rintro M H1 ⟨v5,v6,rfl,s1,h1⟩
   rw[m8] at h1;exact⟨_,rfl,q L H1 nL s1 h1⟩
end
noncomputable def Vs (t:List (List Nat))(i c j:Nat):Int:=(cnA t (Y2 t) i j (ZI t c):Nat)
noncomputable def gW (t:List (List Nat))(j:Nat->Nat->Nat)(i s:Nat):Nat:=j s (ZI t i)
section
variable {t:List (List Nat)}{p m:Nat}{e ω φ:Nat->Nat->Nat}
theorem Zkb (C:CD t p m e ω φ)(α:Nat->Int):Zib m p (Vc t p m e α):=
 ⟨fun c _=>bV _ C.p0,fun c _=>bI _ (by have:=C.pr.p2;omega)⟩
theorem Zek (C:CD t p m e ω φ)(j:PW t){i:Nat}(q:i<m)(S:Nat->Bool)(k:Nat):ZH m (V3 m p (Vs t i) (Vc t p m e (lpA S (gW t ω i) k)) (k:Int))=ZH m (Vc t p m e (lpA S (gW t ω i) (k+1))):=by
 refine Wb fun c J=>?_;unfold V3 Vs;rw[Zj5 C j q J,<-Zjw];rfl
theorem ZkG (C:CD t p m e ω φ)(j:PW t){i:Nat}(J:i<m):∀s,s<m->gW t ω i s<p:=fun s q=>C.wlt s _ q ((Y6 j).rl i (by have:=C.mc;omega))
theorem ZjR (C:CD t p m e ω φ){M:Nat}(O:M<p):∃y:Nat,1<=y/\y<p/\(y:Int)*fcI p M % (p:Int)=1:=by
 have U:=C.pr.p2;obtain⟨j,q⟩:=ZkI U M;have J:=ZhI C.pr O (Zq M);rw[<-ZhK,fg j q] at J;obtain⟨a,Y⟩:=c8 j;rw[Y] at J q ⊢;obtain⟨b,b1,b2,b3⟩:=C.pr.iv a (by omega) (by omega);exact⟨b,b1,b2,by rw[<-aK,<-a6,b3];rfl⟩
end
noncomputable def Zf4:Sp:=fun U H Q _=>∃(J O:Addr) (t:List (List Nat)) (p m:Nat) (e j Y:Nat->Nat->Nat) (S:Nat->Bool) (i:Nat),U=[.ref J,.ref O,.int p]/\CD t p m e j Y/\PW t/\i<m/\p<=100000/\LLs H J m (Vs t i)/\H O=some (.lst (ZH m (Vc t p m e (J0 S))))/\(∃s,s<m/\S s=true)/\
 ∀L M q,H L=none->Zv H q->(∃s,s<m/\S s=true/\gW t j i s=M)->(∀s,s<m->S s=true->gW t j i s<=M)->q L=some (.lst (ZH m (Vc t p m e (J0 (JZ S (gW t j i) M)))))->Q (.ref L) q
section
variable {P:Program}{w:World}{K:aa}{mg:Str->Option Value}{base:Heap}
theorem ZjZ {t:List (List Nat)}{p m:Nat}{e j q:Nat->Nat->Nat}(C:CD t p m e j q)(J:PW t):m<=60:=by
 have M:=C.mc;have O:=YU (t:=t) t.length;have U:=J.n60;omega
theorem Zjg {f:Addr}{fd:FuncData}(F:WN K "last_part" "last_part" Zkl f fd)(T:Bl mg)(GL:Fn P w K mg base Yi 1 "less_often" ["columns", "one", "k", "p"] Zf3)(GB:Fn P w K mg base Yi 1 "back_by" ["p", "x"] Xu):Yb P w K mg base Yi 2 f fd ["columns", "one", "p"] Zf4:=by
 refine F.ok (FS (N:=["columns", "one", "p", "k", "factor", "left", "after", "undo"])) (fun vs H Q E h=>?_) (fun o7 A o5 s H vs Q E hr h=>?_)
 ·obtain⟨ca,oa,t,p,m,e,U,φ,S,i,rfl,_⟩:=h;rfl
 ·obtain⟨ca,oa,t,p,m,e,U,φ,S,i,rfl,C,Pt,hi,pl,hC,hO,hS,q⟩:=h
  refine⟨_,Zs (ZD 3 rfl Zx)
   (Zs (ZD 4 rfl Zx)
   (Zs (ZD 5 rfl (vn 1))
   (Zs (ZD 6 rfl (Ws GL hr ZK (pc (vn 0) (pc (vn 5) (pc (vn 3) (pc (vn 2) Zu))))))
   (Zs (Yg av (ZcQ (cb (ZnU K rfl) T.any (pc (vn 6) Zu)))
    (Zs (ZD 5 rfl (vn 6))
    (Zs (JA (i:=3) (Z1 (by kernel_rfl)) rfl (YL (by kernel_rfl)) Zx WY (.inl rfl))
    (Zs (ZD 4 rfl (Zz Z0 (Zz ZP (vn 4) (vn 3)) (vn 2)))
    (Zw (ZD 6 rfl (Ws GL hr ZK (pc (vn 0) (pc (vn 5) (pc (vn 3) (pc (vn 2) Zu)))))))))))
   (Zs (ZD 7 rfl (Ws GB hr ZK (pc (vn 2) (pc (vn 4) Zu))))
   (Zw (ZF (cmp ["x"] [7,2] ["x", "undo", "p"] rfl (itL K (vn 5)) (fun _ _ _ _ _=>gn 0) (fun _ _ _ _ _=>ZQ) (fun _ _ _ _ _=>Zz Z0 (Zz ZP (vn 0) (vn 1)) (vn 2)))))))))),?_⟩
  have p2:=C.pr.p2;have m6:=ZjZ C Pt;obtain⟨M,Y,m5⟩:=ZlA (g:=gW t U i) hS;have m8:=ZkG C Pt hi;have Mp:M<p:=by obtain⟨s',o6,_,e'⟩:=Y;rw[<-e'];exact m8 s' o6
  have any:=ZlC C Pt m8 Y m5;have n6:H oa=some (.lst (ZH m (Vc t p m e (lpA S (gW t U i) 0)))):=by rw[Zjv];exact hO
  refine⟨_,rfl,_,rfl,_,rfl,_,rfl,_,rfl,ca,oa,m,0,p,Vs t i,_,rfl,hC,n6,p2,pl,m6,by omega,Zkb C _,fun L1 H1 o8 s1 h1=>?_⟩;rw[Zek C Pt hi] at h1;refine Yc (fun x j J=>∃(k:Nat) (l a:Addr),j=[some (.ref ca),some (.ref oa),some (.int (p:Nat)),some (.int (k:Nat)),some (.int (fcI p k)),some (.ref l),some (.ref a),none]/\Zv H J/\J l=some (.lst (ZH m (Vc t p m e (lpA S (gW t U i) k))))/\J a=some (.lst (ZH m (Vc t p m e (lpA S (gW t U i) (k+1)))))/\k<=M/\x=M-k)
   (fun j J=>∃(l a:Addr),j=[some (.ref ca),some (.ref oa),some (.int (p:Nat)),some (.int (M:Nat)),some (.int (fcI p M)),some (.ref l),some (.ref a),none]/\Zv H J/\J l=some (.lst (ZH m (Vc t p m e (lpA S (gW t U i) M))))) ?hend ⟨M,0,oa,L1,rfl,s1,s1 _ _ n6,h1,a5 _,rfl⟩ ?turn
  case hend=>
   rintro j J ⟨l,a,rfl,sm,hl⟩;obtain⟨y0,y1,y2,y3⟩:=ZjR C Mp;refine⟨_,rfl,_,rfl,p,_,rfl,p2,pl,⟨y0,y1,y2,y3⟩,fun y a1 a2 a3=>?_⟩;refine⟨_,rfl,l,rfl,⟨_,.of hl⟩,?_⟩;refine Wm (Yv (K:=K) (.of hl)) [some (.int (y:Nat)),some (.int (p:Nat))] rfl (fun c=>V.int (Vc t p m e (J0 (JZ S (gW t U i) M)) c)) (by rw[Yk];omega) (fun c z hz H2 s2 R k2=>?_) (fun D H2 nD s2 hD=>?_)
   ·have hc:c<m:=by
     have:=(ac.mp hz).1;rw[Yk] at this;exact this
    rw[JO _ hc] at hz;cases hz;refine⟨_,rfl,_,rfl,_,_,rfl,rfl,.inr ⟨by omega,by omega⟩,_,rfl,_,_,rfl,rfl,(by show (0:Int)<(p:Int);omega),?_⟩;have n8:=k2 H2 (Zv.refl _);rw[<-ZlB C m5 a3 c] at n8;exact n8
   ·rw[Yk] at hD
    exact q D M H2 (sm.free nD) (sm.trans s2) Y m5 hD
  case turn=>
   rintro O x j J ⟨k,l,a,rfl,sm,hl,ha,kM,rfl⟩;have n9:=ha;rw[W0] at n9;refine⟨_,rfl,a,_,rfl,.of n9,_,rfl,?_⟩;refine Y8 (fun h2=>?_) (fun h2=>?_)
   ·have:k+1<=M:=(any (k+1)).mp ((Vw _ _).mp h2)
    have ek:(k:Int)+1=((k+1:Nat):Int):=by omega
    obtain⟨f0,f1⟩:=ZkI p2 k;refine⟨_,fun _ _ z=>z,_,rfl,_,rfl,_,_,rfl,rfl,_,rfl,_,rfl,_,_,rfl,rfl,.inl ⟨by omega,by omega⟩,_,rfl,_,_,rfl,rfl,(by show (0:Int)<(p:Int);omega),_,rfl,_,rfl,_,rfl,_,rfl,ca,a,m,k+1,p,Vs t i,_,by rw[<-ek];rfl,hC.mono sm,ha,p2,pl,m6,by omega,Zkb C _,fun L2 H2 o9 s2 o0=>?_⟩;rw[Zek C Pt hi] at o0;exact⟨M-(k+1),by omega,k+1,a,L2,by rw[<-ek];rfl,sm.trans s2,s2 _ _ ha,o0,this,rfl⟩
   ·have:¬k+1<=M:=fun z=>h2 ((Vw _ _).mpr ((any (k+1)).mpr z))
    have e2:k=M:=by omega
    subst e2;exact O _ _ ⟨l,a,rfl,sm,hl⟩
end
noncomputable def Wv (H:Hp)(a:Addr)(t:List (List Nat))(p m:Nat)(e:Nat->Nat->Nat)(cs:List Addr)(q:List (Nat->Bool)):Prop:=H a=some (.lst (cs.map V.ref))/\cs.length=q.length/\∀(j:Nat) b,cs[j]?=some b->∃S,q[j]?=some S/\H b=some (.lst (ZH m (Vc t p m e (J0 S))))
section
variable {t:List (List Nat)}{p m:Nat}{e ω φ:Nat->Nat->Nat}
theorem Wv.mono {H q:Hp}{a:Addr}{cs:List Addr}{J:List (Nat->Bool)}(h:Wv H a t p m e cs J)(s:Zv H q):Wv q a t p m e cs J:=
 ⟨s _ _ h.1,h.2.1,fun j b hb=>by
  obtain⟨S,M,O⟩:=h.2.2 j b hb;exact⟨S,M,s _ _ O⟩⟩
theorem Wv.push {H:Hp}{a c:Addr}{cs:List Addr}{q:List (Nat->Bool)}{S:Nat->Bool}(h:Wv H a t p m e cs q)(U:H c=some (.lst (ZH m (Vc t p m e (J0 S)))))(Y:∀(j:Nat) b,(cs++[c])[j]?=some b->b≠a):Wv (upd H a (.lst (cs.map V.ref++[.ref c]))) a t p m e (cs++[c]) (q++[S]):=by
 refine⟨by rw[Zt,aU];rfl,by rw[Zd,Zd,h.2.1];rfl,fun j b hb=>?_⟩;have J:=Y j b hb;by_cases M:j<cs.length
 ·rw[au M] at hb
  obtain⟨S',h1,h2⟩:=h.2.2 j b hb;exact⟨S',by rw[au (by rw[<-h.2.1];exact M)];exact h1,by rw[Zy J];exact h2⟩
 ·have hl:=(ac.mp hb).1
  rw[Zd,Zk] at hl;have O:j=cs.length:=by omega
  rw[aw (by omega),O,cF] at hb;cases hb;refine⟨S,?_,by rw[Zy J];exact U⟩;rw[O,h.2.1,aw (Zq _),cF];rfl
end
theorem Zaz {H:Hp}{a b:Addr}{xs:List V}{ys:List V}(j:H a=some (.lst xs))(q:H b=some (.lst ys))(h:xs≠ys):a≠b:=fun z=>by
 rw[z,q] at j;injection j with j;injection j with j;exact h j.symm
theorem VP {cs:List Addr}{m:Nat}{v:Nat->Int}(q:1<=m):cs.map V.ref≠ZH m v:=fun z=>by
 have h:=congrArg (fun l=>l[0]?) z;simp only[JO v (show 0<m by omega),Zc] at h;cases j:cs[0]? with
 |none=>rw[j] at h;cases h
 |some c=>rw[j] at h;cases h
noncomputable def Zdy:Sp:=fun U H Q _=>∃(q J:Addr) (t:List (List Nat)) (p m:Nat) (e M Y:Nat->Nat->Nat) (S:Nat->Bool) (i:Nat),U=[.ref q,.ref J,.int p]/\CD t p m e M Y/\PW t/\i<m/\p<=100000/\LLs H q m (Vs t i)/\H J=some (.lst (ZH m (Vc t p m e (J0 S))))/\
 ∀L cs O j,H L=none->Zv H j->PtS m S (gW t M i) O->Wv j L t p m e cs O->Q (.ref L) j
theorem Ziw {m:Nat}{S:Nat->Bool}{g:Nat->Nat}{j:List (Nat->Bool)}{R:Nat->Bool}(W:PtW m S g j R):j.length<=m:=by
 have:=L2.Yp (j.map (pkS m)) (ae m) (US W.ne W.dj) (fun x q=>by
  obtain⟨T,J,rfl⟩:=aI.mp q;exact af.mpr (J7 (W.ne T J)).1)
 rwa [Za,Zg] at this
section
variable {P:Program}{w:World}{K:aa}{mg:Str->Option Value}{base:Heap}
theorem Zg2 {f:Addr}{fd:FuncData}(F:WN K "parts_by" "parts_by" Zgm f fd)(T:Bl mg)(T5:BlT mg)(GL:Fn P w K mg base Yi 2 "last_part" ["columns", "one", "p"] Zf4):Yb P w K mg base Yi 3 f fd ["columns", "one", "p"] Zdy:=by
 refine F.ok (FS (N:=["columns", "one", "p", "parts", "rest", "part"])) (fun vs H Q E h=>?_) (fun q0 A o8 s H vs Q E hr h=>?_)
 ·obtain⟨ca,oa,t,p,m,e,Y,φ,S,i,rfl,_⟩:=h;rfl
 ·obtain⟨ca,oa,t,p,m,e,Y,φ,S,i,rfl,C,Pt,hi,pl,hC,hO,q⟩:=h
  refine⟨_,Zs (ZD 3 rfl (ZW Zu))
   (Zs (ZD 4 rfl (vn 1))
   (Zs (Yg av (ZcQ (cb (ZnU K rfl) T.any (pc (vn 4) Zu)))
    (Zs (ZD 5 rfl (Ws GL hr ZK (pc (vn 0) (pc (vn 4) (pc (vn 2) Zu)))))
    (Zs (Yq (Wj aO aT aV Z2 (vn 3) (pc (vn 5) Zu)))
    (Zw (ZiJ 4 ["x", "y"] [2] ["x", "y", "p"] rfl rfl (ZkQ K T5.zip (pc (vn 4) (pc (vn 5) Zu))) (fun _ _ _ _ _=>g2 K 0 1 rfl (gn 0) (gn 1)) (fun _ _ _ _ _=>ZQ) (fun _ _ _ _ _=>Zz Z0 (Zz Y5 (vn 0) (vn 1)) (vn 2)))))))
   (Zw (ZF (vn 3))))),?_⟩
  have p2:=C.pr.p2;have r6:=ZjZ C Pt;have m1:=C.m1;have sz:(16777216:Nat)=sizeLine:=by decide
  have o9:=ZkG C Pt hi;refine⟨(by show 0<=sizeLine;decide),fun L nL=>?_⟩;have s0:=Zv.upd (H:=H) (o:=.lst []) nL;have h0:upd H L (.lst []) L=some (.lst ([]:List V)):=Zt;generalize upd H L (.lst [])=H0 at s0 h0 ⊢;refine⟨_,rfl,?_⟩;refine Yc (fun x U H'=>∃(cs:List Addr) (Ss:List (Nat->Bool)) (R:Nat->Bool) (r:Addr) (v5:Option V),U=[some (.ref ca),some (.ref oa),some (.int (p:Nat)),some (.ref L),some (.ref r),v5]/\Zv H H'/\Wv H' L t p m e cs Ss/\PtW m S (gW t Y i) Ss R/\H' r=some (.lst (ZH m (Vc t p m e (J0 R))))/\∀s,s<m->R s=true->gW t Y i s<x)
   (fun U H'=>∃(cs:List Addr) (Ss:List (Nat->Bool)) (r:Addr) (v5:Option V),U=[some (.ref ca),some (.ref oa),some (.int (p:Nat)),some (.ref L),some (.ref r),v5]/\Zv H H'/\Wv H' L t p m e cs Ss/\PtS m S (gW t Y i) Ss) ?hend
   ⟨p,[],[],S,oa,none,rfl,s0,⟨h0,rfl,fun j b hb=>by simp at hb⟩,.zero,s0 _ _ hO,fun s hs _=>o9 s hs⟩ ?turn
  case hend=>
   rintro U H' ⟨cs,Ss,r,v5,rfl,sm,hP,hS⟩;exact⟨_,rfl,q L cs Ss H' nL sm hS hP⟩
  case turn=>
   rintro m8 x U H' ⟨cs,Ss,R,r,v5,rfl,sm,hP,hW,hR,hx⟩;have n6:=hR;rw[W0] at n6;refine⟨_,rfl,r,_,rfl,.of n6,_,rfl,?_⟩;refine Y8 (fun h2=>?_) (fun h2=>?_)
   ·have p3:=(ZeG C Pt R).mp ((Vw _ _).mp h2)
    refine⟨_,fun _ _ z=>z,_,rfl,_,rfl,_,rfl,ca,r,t,p,m,e,Y,φ,R,i,rfl,C,Pt,hi,pl,hC.mono sm,hR,p3,fun L2 M H2 r8 s2 g1 n8 m5=>?_⟩;have O:=hP.mono s2;have n9:=s2 _ _ hR;have sl:=Ziw hW;have m6:∀{b:Addr}{v:Nat->Int},H2 b=some (.lst (ZH m v))->b≠L:=fun {b v} hb=>Zaz hb O.1 (VP m1).symm;have o0:=O.push m5 (fun j b hb=>by
     rcases bJ.mp (aF hb) with z|z
     ·obtain⟨j',p4⟩:=bE z
      obtain⟨S',_,p6⟩:=O.2.2 j' b p4;exact m6 p6
     ·rw[aS.mp z]
      exact m6 m5)
    refine⟨_,rfl,.inl ⟨rfl,_,.of O.1⟩,_,rfl,L,_,_,rfl,rfl,O.1,by rw[Za,O.2.1];omega,?_⟩;have sm3:Zv H (upd H2 L (.lst (cs.map V.ref++[.ref L2]))):=(sm.trans s2).updr nL;have o5:upd H2 L (.lst (cs.map V.ref++[.ref L2])) r=some (.lst (ZH m (Vc t p m e (J0 R)))):=by rw[Zy (m6 n9)];exact n9
    have o6:upd H2 L (.lst (cs.map V.ref++[.ref L2])) L2=some (.lst (ZH m (Vc t p m e (J0 (JZ R (gW t Y i) M))))):=by rw[Zy (m6 m5)];exact m5
    generalize upd H2 L (.lst (cs.map V.ref++[.ref L2]))=H3 at o0 sm3 o5 o6 ⊢;refine⟨_,rfl,_,rfl,r,L2,false,false,_,_,H3,rfl,.lst (.of o5),.lst (.of o6),Zv.refl _,fun J At S' p7=>?_⟩;refine X5 S' p7 (Zv.refl _) [some (.int (p:Nat))] rfl (fun a b=>(a-b) % (p:Int)) (by omega) (fun j H4 hj s4 R' g=>?_) (fun D H4 nD s4 hD=>?_)
    ·exact⟨_,rfl,_,rfl,_,_,rfl,rfl,_,rfl,_,_,rfl,rfl,(by show (0:Int)<(p:Int);omega),g⟩
    ·have e5:(ZH m fun j=>(Vc t p m e (J0 R) j-Vc t p m e (J0 (JZ R (gW t Y i) M)) j) % (p:Int))=ZH m (Vc t p m e (J0 (ZaH R (gW t Y i) M))):=Wb fun c _=>ZlD n8 c
     rw[e5] at hD;refine⟨M,?_,cs++[L2],Ss++[JZ R (gW t Y i) M],ZaH R (gW t Y i) M,D,_,rfl,sm3.trans s4,o0.mono s4,hW.step g1 n8,hD,fun s' o7 q'=>?_⟩
     ·obtain⟨s',o7,a,b⟩:=g1
      rw[<-b];exact hx s' o7 a
     ·unfold ZaH at q'
      rw[ag,decide_eq_true_eq] at q';exact q'.2
   ·have p8:¬ ∃s,s<m/\R s=true:=fun z=>h2 ((Vw _ _).mpr ((ZeG C Pt R).mpr z))
    exact m8 _ _ ⟨cs,Ss,r,v5,rfl,sm,hP,hW.end p8⟩
end
structure KS (kvs:List (Yx×V))(ks:List Nat):Prop where
 keys:kvs.map (·.1)=ks.map fun a:Nat=>(gO (a:Int):Yx)
 nd:ks.Nodup
theorem KS.nil:KS [] []:=⟨rfl,dU⟩
theorem KS.len {j:List (Yx×V)}{q:List Nat}(h:KS j q):j.length=q.length:=by
 have:=congrArg cu h.keys;rwa [Za,Za] at this
theorem KS.some {j:List (Yx×V)}{q:List Nat}(h:KS j q)(a:Nat):(YR j (.inl (a:Int))).isSome=q.contains a:=by
 rw[<-WD];have e:(j.any fun M=>decide (M.1=(.inl (a:Int):Yx)))=(j.map (·.1)).any fun k=>decide (k=(.inl (a:Int):Yx)):=by rw[fR];rfl
 rw[e,h.keys,fR];by_cases hm:a∈q
 ·rw[ay.mpr hm,aY]
  exact⟨a,hm,by simp⟩
 ·have J:q.contains a=false:=by
   cases J:q.contains a with
   |false=>rfl
   |true=>exact absurd (ay.mp J) hm
  rw[J,List.any_eq_false];intro b hb z;have z:=of_decide_eq_true z;injection z with z;have:b=a:=by omega
  exact hm (this▸hb)
theorem KS.put {j:List (Yx×V)}{q:List Nat}(h:KS j q)(a:Nat)(v:V):KS (Ww j (.inl (a:Int)) v) (if q.contains a then q else q++[a]):=by
 have M:=h.some a;by_cases J:q.contains a=true
 ·rw[if_pos J]
  rw[J] at M;refine⟨?_,h.nd⟩;unfold Ww;rw[if_pos (by rw[WD];exact M),aJ,<-h.keys];refine aX fun O _=>?_;show (if O.1=_ then (O.1,v) else O).1=O.1
  split <;> rfl
 ·rw[if_neg J]
  have U:YR j (.inl (a:Int))=none:=by
   cases Y:YR j (.inl (a:Int)) with
   |none=>rfl
   |some x=>rw[Y] at M;exact absurd M.symm J
  rw[ZgL v U];refine⟨by rw[aU,aU,h.keys];rfl,?_⟩;rw[lU];refine⟨h.nd,by simp,fun b hb c hc z=>J ?_⟩;rw[aS.mp hc] at z;exact ay.mpr (z▸hb)
theorem ZiX {j:List Nat}{a b:Nat}:b∈(if j.contains a then j else j++[a])↔b∈j\/b=a:=by
 split
 ·rename_i h
  exact⟨.inl,fun z=>z.elim id fun e=>by rw[e];exact ay.mp h⟩
 ·rw[bJ,aS]
theorem ZiY (j:List Nat)(a:Nat):(if j.contains a then j else j++[a]).length<=j.length+1:=by
 split
 ·omega
 ·rw[Zd,Zk];exact Zq _
noncomputable def W3:Sp:=fun q H Q _=>∃(g:Addr) (t:List (List Nat)),q=[.ref g]/\GT H g t/\PW t/\∀c j,Zv H j->CT j c (ZB t t.length)->Q (.ref c) j
theorem _root_.Pm.TupsAt.updD {H:Hp}{L D:Addr}{bs:List Addr}{yss:List (List Nat)}{j:List (Yx×V)}{o:HO}(q:H D=some (.dK j))(R:TupsAt H L bs yss):TupsAt (upd H D o) L bs yss:=by
 refine⟨?_,R.2.1,fun i b hb=>?_⟩
 ·rw[Zy fun z=>by have:=R.1;rw[z,q] at this;cases this]
  exact R.1
 ·rw[Zy fun z=>by have:=R.2.2 i b hb;rw[z,q] at this;cases this]
  exact R.2.2 i b hb
theorem _root_.Pm.TupsAt.last {H:Hp}{L r:Addr}{bs:List Addr}{yss:List (List Nat)}{ys:List Nat}(R:TupsAt H L (bs++[r]) (yss++[ys])):H r=some (.tup (ys.map nV)):=by
 have j:=R.2.1;rw[Zd,Zd,Zk,Zk] at j;have:=R.2.2 bs.length r (by rw[aw (Zq _),cF];rfl);rw[Zb,aw (by omega),show bs.length-yss.length=0 by omega] at this;exact this
theorem ZnG {H:Hp}{L c:Addr}{bs:List Addr}{yss:List (List Nat)}(R:TupsAt H L bs yss)(j:H c=none):CT (upd H c (.tup (bs.map V.ref))) c yss:=⟨bs,Zt,R.2.1,fun i r q=>Zv.upd j _ _ (R.2.2 i r q)⟩
section
variable {P:Program}{w:World}{K:aa}{mg:Str->Option Value}{base:Heap}
theorem ZcU {f:Addr}{fd:FuncData}(F:WN K "classes_of" "classes_of" VM f fd)(T:Bl mg)(GN:Fn P w K mg base Yi 3 "turnings" ["group", "b"] VL):Yb P w K mg base Yi 4 f fd ["group"] W3:=by
 refine F.ok (FS (N:=["group", "found", "seen", "b", "a"])) (fun vs H Q E h=>?_) (fun o0 A o5 s H vs Q E hr h=>?_)
 ·obtain⟨g,t,rfl,_⟩:=h;rfl
 ·obtain⟨g,t,rfl,G,Pt,q⟩:=h
  have hu:(A.deeper (envOfC "classes_of" (ZU VM) s.heap.objs.size f o0)).units+1<cLine:=by have:=hr.un;omega
  refine⟨_,Zs (ZD 1 rfl (ZW Zu))
   (Zs (ZD 2 rfl ZbI)
   (Zs (ZT av rfl (XV T.range (pc (cb (YF K) T.len (pc (vn 0) Zu)) Zu)) (gn 3)
    (Zw (Jo (ZgM (UU hu (vn 3) (vn 2)))
     (Zs (Yq (Wj aO aT aV Z2 (vn 1) (pc (Ws GN hr ZK (pc (vn 0) (pc (vn 3) Zu))) Zu)))
     (Zw (ZT av rfl (itT K (ZG (X2 K) (vn 1) (Vi Ju Zx) (fun _ _=>rfl))) (gn 4) (Zw (JR hu (vn 2) (vn 4) Zd6 (by rfl)))))) YX)))
   (Zw (ZF (ct ZJ T.tuple (pc (vn 1) Zu)))))),?_⟩
  have sz:(16777216:Nat)=sizeLine:=by decide
  have p3:=Pt.n60;refine⟨(by show 0<=sizeLine;decide),fun L nL=>fun D nD=>?_⟩;have s1:=Zv.upd (H:=H) (o:=.lst []) nL;have s2:=s1.trans (Zv.upd (o:=.dK []) nD);have o6:H D=none:=s1.free nD;obtain⟨gs,u1,u2,_⟩:=id (G.mono s2);have el:(gs.map V.ref).length=t.length:=by rw[Za,u2]
  refine⟨_,rfl,g,_,rfl,.inr (.of u1),_,rfl,by rw[el];omega,by rw[el];omega,?_⟩;rw[el,Zj];refine YC (fun i M H'=>∃(w3 w4:Option V) (bs:List Addr) (J:List (Yx×V)) (ks:List Nat),M=[some (.ref g),some (.ref L),some (.ref D),w3,w4]/\Zv H H'/\TupsAt H' L bs (ZB t i)/\H' D=some (.dK J)/\KS J ks/\(∀a,a∈ks↔Ym (ZB t i) a=true)/\ks.length<=60*i)
   ⟨_,_,[],[],[],rfl,s2,⟨Zv.upd nD _ _ Zt,rfl,fun i b hb=>by cases hb⟩,Zt,.nil,fun a=>⟨fun z=>(by cases z),fun z=>(by cases z)⟩,Zq _⟩ ?_ ?_
  ·rintro i M H3 hi ⟨w3,w4,bs,J,ks,rfl,s3,R,hD,hK,Y,kl⟩
   rw[show (0:Int)+(i:Int)=(i:Int) by omega];refine⟨_,rfl,_,rfl,D,_,rfl,Jn.k (k:=.inl (i:Int)) hD,_,rfl,?_⟩;have n6:(YR J (.inl (i:Int))).isSome=Ym (ZB t i) i:=by
    rw[hK.some];cases hc:Ym (ZB t i) i with
    |true=>exact ay.mpr ((Y i).mpr hc)
    |false=>
     cases o7:ks.contains i with
     |false=>rfl
     |true=>rw[(Y i).mp (ay.mp o7)] at hc;cases hc
   rw[n6];refine Y8 (fun h=>?_) (fun h=>?_)
   ·have h:Ym (ZB t i) i=false:=by simpa using h
    have eU:ZB t (i+1)=ZB t i++[ZO t i]:=by
     rw[ZB,if_neg (by unfold Ym at h;rw[h];decide)]
    refine⟨_,rfl,.inl ⟨rfl,_,.of R.1⟩,_,rfl,_,rfl,g,t,i,rfl,G.mono s3,Pt,hi,fun r H4 s4 o8=>?_⟩;have R4:=R.mono s4;have bl:=R4.2.1;have ul:=YU (t:=t) i;refine⟨L,_,_,rfl,rfl,R4.1,by rw[Za];omega,?_⟩;have R5:=R4.push o8;have n8:upd H4 L (.lst (bs.map V.ref++[.ref r])) D=some (.dK J):=by
     rw[Zy fun z=>by have:=s4 _ _ hD;rw[z,R4.1] at this;cases this];exact s4 _ _ hD
    have s5:Zv H (upd H4 L (.lst (bs.map V.ref++[.ref r]))):=(s3.trans s4).updr nL;refine⟨_,rfl,_,rfl,L,_,_,_,rfl,rfl,.of Zt,Ur _ _,r,rfl,⟨_,.of R5.last⟩,?_⟩;generalize upd H4 L (.lst (bs.map V.ref++[.ref r]))=H5 at R5 n8 s5 ⊢;have cl:=ZaX (t:=t) i;refine Zer (K:=K) (a:=r) (xs:=(ZO t i).map nV) (fun j M H'=>∃(w4:Option V) (J:List (Yx×V)) (O:List Nat),M=[some (.ref g),some (.ref L),some (.ref D),some (.int (i:Nat)),w4]/\Zv H H'/\TupsAt H' L (bs++[r]) (ZB t i++[ZO t i])/\H' D=some (.dK J)/\KS J O/\(∀a,a∈O↔a∈ks\/a∈(ZO t i).take j)/\O.length<=60*i+j)
     ⟨_,J,ks,rfl,s5,R5,n8,hK,fun a=>⟨.inl,fun z=>z.elim id fun z=>by rw[eY] at z;cases z⟩,kl⟩ (fun j M H' _ h=>by
      obtain⟨_,_,_,_,_,R',_⟩:=h;exact .of R'.last) ?_ ?_
    ·rintro j y M H6 hy ⟨o9,m8,O,rfl,s6,R6,m5,m6,U,n9⟩
     obtain⟨k,hk,rfl⟩:=Xh hy;have hj:j<(ZO t i).length:=(ac.mp hk).1;refine⟨_,rfl,_,rfl,D,_,rfl,Vd.k (k:=.inl (k:Int)) m5 (by rw[m6.len];omega),?_⟩;refine⟨_,_,_,rfl,s6.updr o6,R6.updD m5,Zt,m6.put k (.bl true),fun a=>?_,?_⟩
     ·rw[ZiX,U,cP,hk,bJ]
      show _↔a∈ks\/a∈(ZO t i).take j\/a∈[k];rw[aS];exact⟨fun z=>z.elim (fun z=>z.elim .inl fun z=>.inr (.inl z)) fun z=>.inr (.inr z),fun z=>z.elim (fun z=>.inl (.inl z)) fun z=>z.elim (fun z=>.inl (.inr z)) .inr⟩
     ·have:=ZiY O k
      omega
    ·rintro M H6 ⟨o9,m8,O,rfl,s6,R6,m5,m6,U,n9⟩
     rw[Za] at U n9;refine⟨_,_,bs++[r],m8,O,rfl,s6,by rw[eU];exact R6,m5,m6,fun a=>?_,by omega⟩;rw[U,cU,Y a,eU];unfold Ym;rw[gS,bq,eO,j9,fu,ay]
   ·have h:Ym (ZB t i) i=true:=by simpa using h
    have eU:ZB t (i+1)=ZB t i:=by
     rw[ZB,if_pos (by unfold Ym at h;rw[h])]
    exact⟨_,_,bs,J,ks,rfl,s3,by rw[eU];exact R,hD,hK,fun a=>by rw[eU];exact Y a,by omega⟩
  ·rintro M H3 ⟨w3,w4,bs,J,ks,rfl,s3,R,hD,hK,Y,kl⟩
   exact⟨_,rfl,L,_,rfl,.inl ⟨.of R.1,fun c nc=>q c _ (s3.trans (Zv.upd nc)) (ZnG R nc)⟩⟩
end
noncomputable abbrev Zkm:Stmt:=top 1
noncomputable abbrev Zbt:Stmt:=top 10
noncomputable def V6 (j:List (List Nat)):Nat->Nat->Nat
 |0,_=>0
 |k+1,a=>if (j.getD k []).contains a then k else V6 j k a
noncomputable def Zf5:Sp:=fun J H Q _=>∃(c:Addr) (j:List (List Nat)) (n:Nat),J=[.ref c,.int n]/\CT H c j/\(∀row∈j,∀a∈row,a<n)/\n<=60/\j.length<=60/\∀r q,Zv H q->q r=some (.tup ((Yf n (V6 j j.length)).map nV))->Q (.ref r) q
noncomputable def ZcE:Sp:=fun q H Q _=>∃(g:Addr) (t:List (List Nat)),q=[.ref g]/\GT H g t/\PW t/\∀r j,Zv H j->j r=some (.tup ((Yf t.length (V6 (ZB t t.length) (ZB t t.length).length)).map nV))->Q (.ref r) j
noncomputable def Zdu:Sp:=fun q H Q _=>∃(g:Addr) (t:List (List Nat)),q=[.ref g]/\GT H g t/\PW t/\∀r j,Zv H j->j r=some (.tup (((ZB t t.length).map cu).map nV))->Q (.ref r) j
noncomputable def Zb1 (H:Hp):V->V
 | .ref r=>match H r with
  |some (.tup j)=>.int (j.length:Nat)
  |_=>.non
 |_=>.non
section
variable {P:Program}{w:World}{K:aa}{mg:Str->Option Value}{base:Heap}
theorem Zjh {f:Addr}{fd:FuncData}(F:WN K "holders" "holders" Zkm f fd)(T:Bl mg)(T2:Zdi mg):Yb P w K mg base Yi 1 f fd ["bundles", "count"] Zf5:=by
 refine F.ok (FS (N:=["bundles", "count", "numbers", "k", "members", "a"])) (fun vs H Q E h=>?_) (fun o7 A n8 s H vs Q E hr h=>?_)
 ·obtain⟨c,J,n,rfl,_⟩:=h;rfl
 ·obtain⟨c,J,n,rfl,C,n9,n60,o8,q⟩:=h
  refine⟨_,Zs (ZD 2 rfl (Zz Xf (ZW (pc Zx Zu)) (vn 1)))
   (Zs (ZT av rfl (V7 K T2.enumerate (pc (vn 0) Zu)) (g2 K 3 4 rfl (gn 3) (gn 4))
    (Zw (ZT av rfl (itT K (vn 4)) (gn 5) (Zw (JB (vn 3) (XW (vn 2) (vn 5) YT))))))
   (Zw (ZF (ct ZJ T.tuple (pc (vn 2) Zu))))),?_⟩
  have sz:(16777216:Nat)=sizeLine:=by decide
  obtain⟨rs,c1,c2,c3⟩:=C.row;refine⟨(by show 1<=sizeLine;decide),fun l0 o0=>⟨_,rfl,l0,_,_,rfl,rfl,Zt,by omega,by omega,by show 1*((n:Int)).toNat<=sizeLine;omega,fun L nL=>?_⟩⟩;rw[Zj];have s1:=Zv.upd (H:=H) (o:=.lst [.int 0]) o0;have o5:H L=none:=s1.free nL;have e0:(aA n [V.int 0]).flatten=(Yf n (V6 J 0)).map nV:=by
   unfold Yf;rw[aJ];have:∀m k,(aA m [V.int 0]).flatten=(de k m).map fun _=>nV 0:=fun m=>by
    induction m with
    |zero=>intro k;rfl
    |succ m ih=>intro k;rw[bm,bY,ih (k+1),dY,aQ];rfl
   rw[this n 0,<-dS];rfl
  rw[e0];have s2:=s1.trans (Zv.upd (o:=.lst ((Yf n (V6 J 0)).map nV)) nL);refine⟨_,rfl,c,rfl,.inr ⟨⟨_,.of (s2 _ _ c1)⟩,?_⟩⟩;refine WK (ZaQ (K:=K) (xs:=rs.map V.ref)) (fun i M H'=>∃v3 v4 v5:Option V,M=[some (.ref c),some (.int (n:Nat)),some (.ref L),v3,v4,v5]/\Zv H H'/\H' L=some (.lst ((Yf n (V6 J i)).map nV)))
   ⟨_,_,_,rfl,s2,Zt⟩ (fun i M H' h=>by
    obtain⟨_,_,_,_,sm,_⟩:=h;exact sm.tup (.of c1)) ?_ ?_
  ·rintro i y M H3 T' hy ⟨v3,v4,v5,rfl,s3,O⟩ nT
   obtain⟨r,rfl,hi,U⟩:=c3 i y hy;have s4:=Zv.upd (H:=H3) (o:=.tup [.int (i:Nat),.ref r]) nT;refine⟨T',_,rfl,.of Zt,rfl,_,_,rfl,_,_,rfl,rfl,?_⟩;generalize upd H3 T' (.tup [.int (i:Nat),.ref r])=H4 at s4 ⊢;have m6:=(s3.trans s4) _ _ U;have hm:J.getD i []∈J:=by
    rw[Zb,Zf hi];exact bC hi
   have m5:=n9 _ hm;generalize m8:J.getD i []=row at U m6 m5;refine⟨_,rfl,r,rfl,⟨_,.of m6⟩,?_⟩;refine Zer (K:=K) (a:=r) (xs:=row.map nV) (fun j M H'=>∃v5:Option V,M=[some (.ref c),some (.int (n:Nat)),some (.ref L),some (.int (i:Nat)),some (.ref r),v5]/\Zv H H'/\H' L=some (.lst ((Yf n fun a=>if (row.take j).contains a then i else V6 J i a).map nV)))
    ⟨_,rfl,s3.trans s4,by
     have e:(Yf n fun a=>if ((row.take 0).contains a)=true then i else V6 J i a)=Yf n (V6 J i):=Wd fun a _=>by rw[eY];rfl
     rw[e];exact s4 _ _ O⟩ (fun j M H' _ h=>by
     obtain⟨_,_,sm,_⟩:=h;exact .of (sm _ _ (by rw[<-m8] at U ⊢;exact U))) ?_ ?_
   ·rintro j y M H5 hy ⟨o6,rfl,s5,Y⟩
    obtain⟨k,hk,rfl⟩:=Xh hy;have n6:k<n:=m5 k (aF hk);refine⟨_,rfl,_,rfl,_,rfl,L,_,_,k,rfl,rfl,Y,JE (by rw[Za,Zbz];exact n6),?_⟩;refine⟨_,rfl,s5.updr o5,?_⟩;rw[Zt];have e:=Zby (k:=i) (fun a=>if ((row.take j).contains a)=true then i else V6 J i a) n6
    have e2:(Yf n fun b=>if b=k then i else if ((row.take j).contains b)=true then i else V6 J i b)=Yf n fun a=>if ((row.take (j+1)).contains a)=true then i else V6 J i a:=Wd fun a _=>by
     rw[cP,hk];by_cases h1:a=k
     ·subst h1
      rw[if_pos rfl,if_pos (ay.mpr (aR _ (by simp)))]
     ·rw[if_neg h1]
      by_cases h2:a∈row.take j
      ·rw[if_pos (ay.mpr h2),if_pos (ay.mpr (bW _ h2))]
      ·rw[if_neg (fun z=>h2 (ay.mp z)),if_neg (fun z=>?_)]
       rcases bJ.mp (ay.mp z) with z|z
       ·exact h2 z
       ·exact h1 (by simpa using z)
    rw[e2] at e;exact congrArg (fun xs=>some (HO.lst xs)) e
   ·rintro M H5 ⟨o6,rfl,s5,Y⟩
    refine⟨_,_,_,rfl,s5,?_⟩;rw[Za] at Y;rw[Y];have e:(Yf n fun a=>if ((row.take row.length).contains a)=true then i else V6 J i a)=Yf n (V6 J (i+1)):=Wd fun a _=>by
     rw[cU,V6,m8]
    rw[e]
  ·rintro M H3 ⟨v3,v4,v5,rfl,s3,O⟩
   rw[Za,c2] at O;exact⟨_,rfl,L,_,rfl,.inl ⟨.of O,fun r nr=>q r _ (s3.trans (Zv.upd nr)) Zt⟩⟩
theorem ZjY {t:List (List Nat)}(j:PW t):∀row∈ZB t t.length,∀a∈row,a<t.length:=fun row q a J=>by
 obtain⟨b,_,rfl⟩:=WR j t.length (Zq _) row q;exact Xm J
theorem Zje {f:Addr}{fd:FuncData}(F:WN K "class_numbers" "class_numbers" Zbt f fd)(T:Bl mg)(Y:Fn P w K mg base Yi 4 "classes_of" ["group"] W3)(GH:Fn P w K mg base Yi 1 "holders" ["bundles", "count"] Zf5):Yb P w K mg base Yi 5 f fd ["group"] ZcE:=by
 refine F.ok (FS (N:=["group"])) (fun vs H Q E h=>?_) (fun m5 A j s H vs Q E O h=>?_)
 ·obtain⟨g,t,rfl,_⟩:=h;rfl
 ·obtain⟨g,t,rfl,G,J,q⟩:=h
  refine⟨_,Zw (ZF (Ws GH O ZK (pc (Ws Y O ZK (pc (vn 0) Zu)) (pc (cb (YF K) T.len (pc (vn 0) Zu)) Zu)))),?_⟩;have n60:=J.n60;refine⟨_,rfl,g,t,rfl,G,J,fun c H' U C=>?_⟩;obtain⟨gs,u1,u2,_⟩:=id (G.mono U);have el:(gs.map V.ref).length=t.length:=by rw[Za,u2]
  refine⟨_,rfl,g,_,rfl,.inr (.of u1),?_⟩;rw[el];exact⟨c,_,t.length,rfl,C,ZjY J,n60,aZ (YU _) n60,fun r H2 s2 M=>q r H2 (U.trans s2) M⟩
theorem Zjz {H:Hp}{rs:List Addr}{j:List (List Nat)}(O:rs.length=j.length)(h:∀(i:Nat) y,(rs.map V.ref)[i]?=some y->∃r,y=.ref r/\i<j.length/\H r=some (.tup ((j.getD i []).map nV))):(rs.map V.ref).map (Zb1 H)=(j.map cu).map nV:=by
 refine bf fun i=>?_;rw[Zc];by_cases q:i<j.length
 ·obtain⟨r,J,_,M⟩:=h i _ (Zf (show i<(rs.map V.ref).length by rw[Za];omega))
  rw[Zf (show i<(rs.map V.ref).length by rw[Za];omega),J,Zc,Zc,Zf q];show some (Zb1 H (.ref r))=some (nV j[i].length);unfold Zb1;dsimp only;rw[M];dsimp only;rw[Za,Zb,Zf q];rfl
 ·rw[ak (by rw[Za];omega),ak (by rw[Za,Za];omega)]
  rfl
end
end C52
namespace Tb
noncomputable def rdT (t:List (List Nat))(a:Nat):Nat:=(((ae t.length).find? fun r=>it t a (r+1) == 0).getD 0)+1
theorem VQ {t:List (List Nat)}{a r:Nat}(R:Rd t a r):rdT t a=r:=by
 have q:=R.r1;have:(ae t.length).find? (fun r=>it t a (r+1) == 0)=some (r-1):=by
  rw[jO];refine⟨by rw[show r-1+1=r by omega,R.z];rfl,af.mpr (by have:=R.rn;omega),fun j J=>?_⟩;have:=R.nz (j+1) (by omega) (by omega);simpa using this
 unfold rdT;rw[this];show r-1+1=r;omega
section
variable {t:List (List Nat)}
theorem Zhq (P:PW t){a s:Nat}(j:a<t.length)(q:s<t.length):∀k,it t (tb t a s) k=tb t (it t a k) s
 |0=>(JP P q).symm
 |k+1=>by
  rw[it,it,Zhq P j q k,Zcx P q (WJ P j k) j]
theorem Zou (P:PW t){x s:Nat}(J:x<t.length)(j:s<t.length):tb t x s=0↔x=0:=by
 have M:=P.n1;constructor
 ·intro h
  have q:=Vx P J j;rw[h,P.oneR _ (Yh P j).1,Zad P j] at q;exact q.symm
 ·rintro rfl
  exact JP P j
theorem Zle (P:PW t){a s:Nat}(q:a<t.length)(J:s<t.length):rdT t (tb t a s)=rdT t a:=by
 unfold rdT;have j:(fun r=>it t (tb t a s) (r+1) == 0)=fun r=>it t a (r+1) == 0:=funext fun r=>?_
 ·rw[j]
 have h:=Zhq P q J (r+1);have M:=Zou P (WJ P q (r+1)) J;rw[h];cases O:(it t a (r+1) == 0) with
 |true=>
  have:it t a (r+1)=0:=by simpa using O
  simpa using M.mpr this
 |false=>
  have:it t a (r+1)≠0:=by simpa using O
  have:tb t (it t a (r+1)) s≠0:=fun z=>this (M.mp z);simpa using this
end
end Tb
namespace C52
open PySem L2 PySem.Spec PyProof.Rows
open Tb Pm
theorem Zhy {j:List (List Nat)}{a q:Nat}(M:(j.getD q []).contains a=true)(O:∀k,k<j.length->(j.getD k []).contains a=true->k=q):∀m,m<=j.length->q<m->V6 j m a=q
 |0,_,h=>by omega
 |m+1,hm,h=>by
  unfold V6;split
  ·rename_i J
   exact O m (by omega) J
  ·rename_i J
   refine Zhy M O m (by omega) ?_;by_cases e:q=m
   ·subst e;exact absurd M J
   ·omega
theorem Zh2 {t:List (List Nat)}(U:PW t){a:Nat}(Y:a<t.length):∃j,j<(ZB t t.length).length/\((ZB t t.length).getD j []).contains a=true/\∀k,k<(ZB t t.length).length->((ZB t t.length).getD k []).contains a=true->k=j:=by
 have h:=WM U t.length (Zq _) a Y;unfold Ym at h;obtain⟨c,hc,q⟩:=aY.mp h;obtain⟨j,J⟩:=bE hc;have hl:=(ac.mp J).1;have e:(ZB t t.length).getD j []=c:=by rw[Zb,J];rfl
 refine⟨j,hl,by rw[e];exact q,fun k M O=>?_⟩;have e2:(ZB t t.length)[k]?=some ((ZB t t.length).getD k []):=by rw[Zb,Zf M];rfl
 exact XM U t.length (Zq _) k j _ c a e2 J (ay.mp O) (ay.mp q)
noncomputable abbrev ZdP:Stmt:=top 12
noncomputable def JC (t:List (List Nat))(a:Nat):Nat:=V6 (ZB t t.length) (ZB t t.length).length a
theorem XX {t:List (List Nat)}(M:PW t){a:Nat}(O:a<t.length):JC t a<(ZB t t.length).length/\a∈(ZB t t.length).getD (JC t a) []/\∀k,k<(ZB t t.length).length->a∈(ZB t t.length).getD k []->k=JC t a:=by
 obtain⟨U,j,q,J⟩:=Zh2 M O;have e:JC t a=U:=Zhy q J _ (Zq _) j;rw[e];exact⟨j,ay.mp q,fun k Y hm=>J k Y (ay.mpr hm)⟩
theorem ZiN {t:List (List Nat)}(J:PW t){k a:Nat}(U:k<(ZB t t.length).length)(M:a∈(ZB t t.length).getD k []):a<t.length/\JC t a=k/\∀x,x∈(ZB t t.length).getD k []↔x∈ZO t a:=by
 obtain⟨b,hb,e⟩:=WR J t.length (Zq _) _ (ZdS U);rw[e] at M ⊢;have q:=Xm M;refine⟨q,((XX J q).2.2 k U (by rw[e];exact M)).symm,fun x=>⟨fun O=>?_,fun O=>?_⟩⟩
 ·have j:=Xm O
  exact Yd J q j (Yd J q hb (Ys J q) M) (Yd J j hb (Ys J j) O)
 ·have j:=Xm O
  exact Yd J hb j M (Yd J j q (Ys J j) O)
theorem Zgw {t:List (List Nat)}(j:PW t){k:Nat}(J:k<(ZB t t.length).length):∃a r,(ZB t t.length).getD k []=a::r:=by
 obtain⟨b,hb,e⟩:=WR j t.length (Zq _) _ (ZdS J);have q:=Ys j hb;rw[e];cases h:ZO t b with
 |nil=>rw[h] at q;cases q
 |cons a r=>exact⟨a,r,rfl⟩
end C52
namespace C52
open PySem L2 PySem.Spec PyProof.Rows
open Tb
open Pm
theorem ZhB {X:Cx}:Zmd X (fun x y H Q=>∃(p:Addr) (xs:List V) (i:Nat) (v:V),x=.ref p/\y=.int i/\H p=some (.lst xs)/\xs[i]?=some v/\Q v H):=by
 intro J s σ H x y O iv Q I U Y h;obtain⟨p,xs,i,v,rfl,rfl,hp,M,q⟩:=h;cases (show O=aB p from U);obtain⟨t,rfl⟩:=Y;obtain⟨m5,r,pl,hz⟩:=I.list (.of hp);obtain⟨w,ew,j⟩:=r.get M;have hl:=r.length;have hn:=Xj;have hi:i<xs.length:=(ac.mp M).1;exact wpAny_getItem_list pl.isList (dB _) (by omega) (by simpa using ew) ⟨v,H,I,j,q⟩
theorem Wa {W:Type}(m8:W->Addr)(Pr:Nat->W->Hp->Prop)(U:W->Hp->Prop){J:It}{own:List Str}{m6:List Nat}{te:TE}{σ:L2.St}{H:Hp}{Q:VK}{xs:List V}(S:Wu J H xs)(cs:L2.St)(n9:JJ own m6 σ=none::cs)(hn:xs.length<=1000)
  (mono:∀i w H q,Zv H q->Pr i w H->Pr i w q) (n8:∀w H q,Zv H q->U w q->U w H) (hu:∀i w H0 H1 D o ys o0,Pr i w H1->U w H0->H0 D=some (.lst o)->H1 D=some (.lst ys)->Pr i w (upd H1 D (.lst o0)))
  (hs:∀(i:Nat) y,xs[i]?=some y->∀q,Zv H q->∀R:VK,(∀w Y,Zv q Y->Pr i w Y->U w q->R (.ref (m8 w)) Y)->te (some y::cs) q R)
  (hd:∀D (M:List W) q,H D=none->Zv H q->q D=some (.lst (M.map fun w=>V.ref (m8 w)))->M.length=xs.length->(∀(i:Nat) w,M[i]?=some w->Pr i w q/\U w H)->(∀(i j:Nat) w w',i<j->M[i]?=some w->M[j]?=some w'->∃Hm,Pr i w Hm/\U w' Hm)->Q (.ref D) q):WS own m6 (Z7 0) Wr te σ Q J H:=by
 refine Uc (xs:=xs) (fun D i ys q=>Zv H q/\∃M:List W,ys=M.map (fun w=>V.ref (m8 w))/\M.length=i/\(∀(i:Nat) w,M[i]?=some w->Pr i w q/\U w H/\∃H0 o,H0 D=some (.lst o)/\U w H0)/\(∀(i j:Nat) w w',i<j->M[i]?=some w->M[j]?=some w'->∃Hm,Pr i w Hm/\U w' Hm)) cs n9 (by omega) ?_ ?_ ?_ ?_
 ·intro D i ys q hD O p
  have S':=S.mono p.1;exact⟨fun hi=>⟨S'.go i q (Zv.refl _) hi,fun x H3 y=>S'.yld i q x H3 (Zv.refl _) hi y⟩,fun e=>e▸S'.stop q (Zv.refl _)⟩
 ·intro D hD
  exact⟨Zv.upd hD,[],rfl,rfl,(fun i w hw=>by cases hw),(fun i j w w' _ h=>by cases h)⟩
 ·rintro D i y ys q hD O hy ⟨sm,M,rfl,wl,hw,hp⟩ R k
  refine hs i y hy q sm R fun w Y s5 p5 n5=>?_;have n6:=s5 _ _ O;have lst:∀(b:Nat) v,(M++[w])[b]?=some v->(b<M.length/\M[b]?=some v)\/(b=M.length/\v=w):=fun b v hb=>by
   by_cases m5:b<M.length
   ·rw[au m5] at hb
    exact .inl ⟨m5,hb⟩
   ·rw[aw (by omega)] at hb
    have o5:b-M.length=0:=by
     apply ah;intro z;rw[ak (by rw[Zk];omega)] at hb;cases hb
    rw[o5] at hb;cases hb;exact .inr ⟨by omega,rfl⟩
  refine k _ Y n6 ⟨(sm.trans s5).updr hD,M++[w],by rw[aU];rfl,by rw[Zd,wl];rfl,fun b v hv=>?_,fun a b v v' o6 ha hb=>?_⟩
  ·rcases lst b v hv with ⟨_,hv⟩|⟨hb,hv⟩
   ·obtain⟨h1,h2,H0,o,h3,h4⟩:=hw b v hv
    exact⟨hu b v H0 Y D o _ _ (mono b v _ _ s5 h1) h4 h3 n6,h2,H0,o,h3,h4⟩
   ·subst hv
    subst hb;rw[<-wl] at p5;exact⟨hu _ v q Y D _ _ _ p5 n5 O n6,n8 v _ _ sm n5,q,_,O,n5⟩
  ·rcases lst b v' hb with ⟨m5,hb⟩|⟨m5,hb⟩
   ·rw[au (by omega)] at ha
    exact hp a b v v' o6 ha hb
   ·subst hb
    rw[au (by omega)] at ha;exact⟨q,(hw a v ha).1,n5⟩
 ·rintro D ys Y hD O o7 ⟨sm,M,rfl,wl,hw,hp⟩
  exact hd D M Y hD sm O wl (fun i w h=>⟨(hw i w h).1,(hw i w h).2.1⟩) hp
structure N3 (Hb H:Hp)(L:Addr)(m:Nat)(A:Nat->Addr)(B:Nat->Nat->Addr)(f:Nat->Nat->Nat->Nat):Prop where
 sm:Zv Hb H
 m1:1<=m
 top:H L=some (.lst ((ae m).map fun i=>V.ref (A i)))
 mid:∀i,i<m->H (A i)=some (.lst ((ae m).map fun j=>V.ref (B i j)))
 low:∀i j,i<m->j<m->H (B i j)=some (.lst ((Yf m (f i j)).map nV))
 inj:∀i j i' j',i<m->j<m->i'<m->j'<m->B i j=B i' j'->i=i'/\j=j'
 nw:∀i j,i<m->j<m->Hb (B i j)=none
section
variable {Hb H H':Hp}{L:Addr}{m:Nat}{A:Nat->Addr}{B:Nat->Nat->Addr}{f:Nat->Nat->Nat->Nat}
theorem N3.mono (N:N3 Hb H L m A B f)(s:Zv H H'):N3 Hb H' L m A B f:=⟨N.sm.trans s,N.m1,s _ _ N.top,fun i q=>s _ _ (N.mid i q),fun i j q J=>s _ _ (N.low i j q J),N.inj,N.nw⟩
theorem ZdX {m:Nat}(q:1<=m){a:Nat->Addr}{f:Nat->Nat}:(HO.lst ((ae m).map fun i=>V.ref (a i)))≠.lst ((Yf m f).map nV):=fun z=>by
 injection z with z;have:=congrArg (fun j:List V=>j[0]?) z;unfold Yf at this;rw[Zc,Zc,Zc,am (show 0<m by omega)] at this;cases this
theorem N3.put (N:N3 Hb H L m A B f){i j k v:Nat}(Y:i<m)(hj:j<m)(hk:k<m):N3 Hb (upd H (B i j) (.lst (((Yf m (f i j)).map nV).set k (nV v)))) L m A B (fun q M O=>if q=i/\M=j/\O=k then v else f q M O):=by
 have nL:L≠B i j:=Zhe N.top (N.low i j Y hj) (ZdX N.m1);have nA:∀q,q<m->A q≠B i j:=fun q J=>Zhe (N.mid q J) (N.low i j Y hj) (ZdX N.m1);refine⟨N.sm.updr (N.nw i j Y hj),N.m1,by rw[Zy nL];exact N.top,fun q J=>by rw[Zy (nA q J)];exact N.mid q J,fun q M J U=>?_,N.inj,N.nw⟩;by_cases e:q=i/\M=j
 ·obtain⟨rfl,rfl⟩:=e
  rw[Zt,Zby _ hk];have:(Yf m fun b=>if b=k then v else f q M b)=Yf m fun O=>if q=q/\M=M/\O=k then v else f q M O:=Wd fun b _=>by
   by_cases h:b=k
   ·rw[if_pos h,if_pos ⟨rfl,rfl,h⟩]
   ·rw[if_neg h,if_neg (fun z=>h z.2.2)]
  rw[this]
 ·rw[Zy fun z=>e (N.inj q M i j J U Y hj z),N.low q M J U]
  have:(Yf m (f q M))=Yf m fun O=>if q=i/\M=j/\O=k then v else f q M O:=Wd fun b _=>by rw[if_neg (fun z=>e ⟨z.1,z.2.1⟩)]
  rw[<-this]
theorem N3.congr (N:N3 Hb H L m A B f){g:Nat->Nat->Nat->Nat}(h:∀i j k,i<m->j<m->k<m->f i j k=g i j k):N3 Hb H L m A B g:=⟨N.sm,N.m1,N.top,N.mid,fun i j q J=>by rw[N.low i j q J,Wd fun k M=>h i j k q J M],N.inj,N.nw⟩
end
noncomputable def Zj8 (m:Nat)(b:Addr)(H:Hp):Prop:=H b=some (.lst ((Yf m fun _=>0).map nV))
structure Zmf (m:Nat)(w:Addr×List Addr)(H:Hp):Prop where
 top:H w.1=some (.lst (w.2.map V.ref))
 len:w.2.length=m
 low:∀b∈w.2,Zj8 m b H
 nd:∀(i j:Nat) b b',i<j->w.2[i]?=some b->w.2[j]?=some b'->b≠b'
noncomputable def NwM (w:Addr×List Addr)(H:Hp):Prop:=H w.1=none/\∀b∈w.2,H b=none
theorem Zft {m:Nat}{J:It}{own:List Str}{M:List Nat}{te:TE}{σ:L2.St}{H:Hp}{Q:VK}{xs:List V}(S:Wu J H xs)(U:L2.St)(Y:JJ own M σ=none::U)(hn:xs.length<=1000)(hm:xs.length=m)
  (hs:∀(i:Nat) y,xs[i]?=some y->∀q,Zv H q->∀R:VK,(∀b H5,Zv q H5->Zj8 m b H5->q b=none->R (.ref b) H5)->te (some y::U) q R)
  (hd:∀w q,Zv H q->Zmf m w q->NwM w H->Q (.ref w.1) q):WS own M (Z7 0) Wr te σ Q J H:=by
 refine Wa (W:=Addr) id (fun _ b H=>Zj8 m b H) (fun b H=>H b=none) S U Y hn (fun i w H q s h=>s _ _ h) (fun w H q s h=>s.free h) (fun i w H0 H1 D o ys m6 h h0 O _=>?_) (fun i y hy q s R k=>hs i y hy q s R k) (fun D ws q nD s hD wl hw hp=>?_)
 ·have:w≠D:=fun z=>by rw[z,O] at h0;cases h0
  show upd H1 D _ w=_;rw[Zy this];exact h
 ·refine hd (D,ws) q s ⟨hD,by rw[<-hm];exact wl,fun b hb=>?_,fun i j b b' m5 hi hj z=>?_⟩ ⟨nD,fun b hb=>?_⟩
  ·obtain⟨i,hi⟩:=bE hb
   exact (hw i b hi).1
  ·obtain⟨Hm,O,h2⟩:=hp i j b b' m5 hi hj
   have O:Hm b=some _:=O;rw[z,h2] at O;cases O
  ·obtain⟨i,hi⟩:=bE hb
   exact (hw i b hi).2
theorem Zfs {m:Nat}{J:It}{own:List Str}{m8:List Nat}{te:TE}{σ:L2.St}{H:Hp}{Q:VK}{xs:List V}(S:Wu J H xs)(cs:L2.St)(n8:JJ own m8 σ=none::cs)(hn:xs.length<=1000)(hm:xs.length=m)(m1:1<=m)
  (hs:∀(i:Nat) y,xs[i]?=some y->∀Y,Zv H Y->∀R:VK,(∀w H5,Zv Y H5->Zmf m w H5->NwM w Y->R (.ref w.1) H5)->te (some y::cs) Y R)
  (hd:∀D A B Y,H D=none->N3 H Y D m A B (fun _ _ _=>0)->Q (.ref D) Y):WS own m8 (Z7 0) Wr te σ Q J H:=by
 refine Wa (W:=Addr×List Addr) kL (fun _ w H=>Zmf m w H) NwM S cs n8 hn (fun i w H Y s h=>⟨s _ _ h.top,h.len,fun b hb=>s _ _ (h.low b hb),h.nd⟩) (fun w H Y s h=>⟨s.free h.1,fun b hb=>s.free (h.2 b hb)⟩) (fun i w H0 H1 D o ys o0 h h0 h1 _=>?_) (fun i y hy Y s R k=>hs i y hy Y s R k) (fun D ws Y nD s hD wl hw hp=>?_)
 ·have n1:w.1≠D:=fun z=>by have:=h0.1;rw[z,h1] at this;cases this
  have n2:∀b∈w.2,b≠D:=fun b hb z=>by have:=h0.2 b hb;rw[z,h1] at this;cases this
  exact⟨by rw[Zy n1];exact h.top,h.len,fun b hb=>by show upd H1 D _ b=_;rw[Zy (n2 b hb)];exact h.low b hb,h.nd⟩
 ·rw[hm] at wl
  have wat:∀i,i<m->ws[i]?=some (ws.getD i (0,[])):=fun i q=>by rw[Zb,Zf (by omega)];rfl
  have O:∀i j,i<m->j<m->(ws.getD i (0,[])).2[j]?=some ((ws.getD i (0,[])).2.getD j 0):=fun i j q U=>by
   have:=(hw i _ (wat i q)).1.len;rw[Zb (l:=(ws.getD i (0,[])).2),Zf (by omega)];rfl
  refine hd D (fun i=>(ws.getD i (0,[])).1) (fun i j=>(ws.getD i (0,[])).2.getD j 0) Y nD ⟨s,m1,?_,fun i q=>?_,fun i j q U=>?_,fun i j i' j' q U m6 m5 z=>?_,fun i j q U=>?_⟩
  ·rw[hD]
   congr 2;refine bf fun i=>?_;rw[Zc,Zc];by_cases q:i<m
   ·rw[wat i q,am q]
    rfl
   ·rw[ak (by omega),ak (by rw[Zg];omega)]
    rfl
  ·have M:=(hw i _ (wat i q)).1
   have ml:=M.len;rw[M.top];congr 2;refine bf fun j=>?_;rw[Zc,Zc];by_cases U:j<m
   ·rw[O i j q U,am U]
    rfl
   ·rw[ak (by omega),ak (by rw[Zg];omega)]
    rfl
  ·exact (hw i _ (wat i q)).1.low _ (aF (O i j q U))
  ·have n6:∀i j i' j',i<m->j<m->i'<m->j'<m->i<i'->(ws.getD i (0,[])).2.getD j 0≠(ws.getD i' (0,[])).2.getD j' 0:=fun i j i' j' q U m6 m5 n9 z=>by
    obtain⟨Hm,h1,h2⟩:=hp i i' _ _ n9 (wat i q) (wat i' m6);have a1:=h1.low _ (aF (O i j q U));have a2:=h2.2 _ (aF (O i' j' m6 m5));unfold Zj8 at a1;rw[z,a2] at a1;cases a1
   have ei:i=i':=by
    rcases md i i' with h|h|h
    ·exact absurd z (n6 i j i' j' q U m6 m5 h)
    ·exact h
    ·exact absurd z.symm (n6 i' j' i j m6 m5 q U h)
   subst ei;refine⟨rfl,?_⟩;have nd:=(hw i _ (wat i q)).1.nd;rcases md j j' with h|h|h
   ·exact absurd z (nd j j' _ _ h (O i j q U) (O i j' q m5))
   ·exact h
   ·exact absurd z.symm (nd j' j _ _ h (O i j' q m5) (O i j q U))
  ·exact (hw i _ (wat i q)).2.2 _ (aF (O i j q U))
noncomputable def C3 (H:Hp)(r:Addr)(m:Nat)(F:Nat->Nat->Nat->Nat):Prop:=∃cs:List Addr,H r=some (.tup (cs.map V.ref))/\cs.length=m/\∀(i:Nat) c,cs[i]?=some c->CT H c ((ae m).map fun j=>Yf m (F i j))
noncomputable def PrT (m:Nat)(F:Nat->Nat->Nat)(w:Addr×List Addr)(H:Hp):Prop:=H w.1=some (.tup (w.2.map V.ref))/\w.2.length=m/\∀(j:Nat) r,w.2[j]?=some r->H r=some (.tup ((Yf m (F j)).map nV))
theorem PrT.mono {m:Nat}{F:Nat->Nat->Nat}{w:Addr×List Addr}{H q:Hp}(h:PrT m F w H)(s:Zv H q):PrT m F w q:=⟨s _ _ h.1,h.2.1,fun j r J=>s _ _ (h.2.2 j r J)⟩
theorem PrT.upd {m:Nat}{F:Nat->Nat->Nat}{w:Addr×List Addr}{H:Hp}{D:Addr}{ys:List V}{o:HO}(h:PrT m F w H)(q:H D=some (.lst ys)):PrT m F w (upd H D o):=
 ⟨by rw[Zy fun z=>by have:=h.1;rw[z,q] at this;cases this];exact h.1,h.2.1,fun j r J=>by rw[Zy fun z=>by have:=h.2.2 j r J;rw[z,q] at this;cases this];exact h.2.2 j r J⟩
theorem PrT.ct {m:Nat}{F:Nat->Nat->Nat}{w:Addr×List Addr}{H:Hp}(h:PrT m F w H):CT H w.1 ((ae m).map fun j=>Yf m (F j)):=by
 refine⟨w.2,h.1,by rw[Za,Zg];exact h.2.1,fun i r q=>?_⟩;have J:i<m:=by rw[<-h.2.1];exact (ac.mp q).1
 rw[h.2.2 i r q,Zb,Zc,am J];rfl
theorem Zfr {m:Nat}{F:Nat->Nat->Nat}{J:It}{own:List Str}{M:List Nat}{te:TE}{σ:L2.St}{H:Hp}{Q:VK}{xs:List V}(S:Wu J H xs)(Y:L2.St)(m5:JJ own M σ=none::Y)(hn:xs.length<=1000)(hm:xs.length=m)
  (hs:∀(i:Nat) y,xs[i]?=some y->∀q,Zv H q->∀R:VK,(∀b O,Zv q O->O b=some (.tup ((Yf m (F i)).map nV))->R (.ref b) O)->te (some y::Y) q R)
  (hd:∀D (rs:List Addr) q,H D=none->Zv H q->q D=some (.lst (rs.map V.ref))->(∀r U,U r=some (.tup (rs.map V.ref))->Zv q U->PrT m F (r,rs) U)->Q (.ref D) q):WS own M (Z7 0) Wr te σ Q J H:=by
 refine Wa (W:=Addr) id (fun i b H=>H b=some (.tup ((Yf m (F i)).map nV))) (fun _ _=>True) S Y m5 hn (fun i w H q s h=>s _ _ h) (fun w H q s h=>trivial) (fun i w H0 H1 D o ys m6 h h0 h1 h2=>?_) (fun i y hy q s R k=>hs i y hy q s R fun b O s5 h5=>k b O s5 h5 trivial) (fun D ws q nD s hD wl hw hp=>?_)
 ·rw[Zy fun z=>by rw[z,h2] at h;cases h]
  exact h
 ·exact hd D ws q nD s hD fun r U hr s2=>⟨hr,by rw[<-hm];exact wl,fun j b hb=>s2 _ _ (hw j b hb).1⟩
theorem ZjV {m:Nat}{F:Nat->Nat->Nat->Nat}{J:It}{own:List Str}{q:List Nat}{te:TE}{σ:L2.St}{H:Hp}{Q:VK}{xs:List V}(S:Wu J H xs)(Y:L2.St)(m5:JJ own q σ=none::Y)(hn:xs.length<=1000)(hm:xs.length=m)
  (hs:∀(i:Nat) y,xs[i]?=some y->∀j,Zv H j->∀R:VK,(∀w M,Zv j M->PrT m (F i) w M->R (.ref w.1) M)->te (some y::Y) j R)
  (hd:∀D (ys:List V) j,H D=none->Zv H j->j D=some (.lst ys)->(∀r U,U r=some (.tup ys)->Zv j U->C3 U r m F)->Q (.ref D) j):WS own q (Z7 0) Wr te σ Q J H:=by
 refine Wa (W:=Addr×List Addr) kL (fun i w H=>PrT m (F i) w H) (fun _ _=>True) S Y m5 hn (fun i w H j s h=>h.mono s) (fun w H j s h=>trivial) (fun i w H0 H1 D o ys m6 h h0 h1 h2=>h.upd h2) (fun i y hy j s R k=>hs i y hy j s R fun b M s5 h5=>k b M s5 h5 trivial) (fun D ws j nD s hD wl hw hp=>?_);refine hd D _ j nD s hD fun r U hr s2=>⟨ws.map kL,by rw[hr,aJ];rfl,by rw[Za,<-hm];exact wl,fun i c O=>?_⟩;rw[Zc] at O;cases hx:ws[i]? with
 |none=>rw[hx] at O;cases O
 |some w=>
  rw[hx] at O;cases O;exact ((hw i w hx).1.mono s2).ct
noncomputable def one (q:Nat->Nat)(C:Nat->Nat->Nat->Bool)(i j k x y:Nat):Nat:=JF (decide (q x=i))*(JF (decide (q y=j))*JF (C x y k))
noncomputable def ZE (n:Nat)(q:Nat->Nat)(C:Nat->Nat->Nat->Bool)(X Y i j k:Nat):Nat:=sm X (fun x=>sm n fun y=>one q C i j k x y)+sm Y fun y=>one q C i j k X y
theorem acc_zero (n:Nat)(q:Nat->Nat)(C:Nat->Nat->Nat->Bool)(i j k:Nat):ZE n q C 0 0 i j k=0:=rfl
theorem Zj4 (n:Nat)(q:Nat->Nat)(C:Nat->Nat->Nat->Bool)(X i j k:Nat):ZE n q C X n i j k=ZE n q C (X+1) 0 i j k:=by
 unfold ZE;rw[YM];rfl
theorem acc_step (n:Nat)(q:Nat->Nat)(C:Nat->Nat->Nat->Bool)(X Y i j k:Nat):ZE n q C X (Y+1) i j k=ZE n q C X Y i j k+one q C i j k X Y:=by
 unfold ZE;rw[YM];omega
noncomputable def hdT (t:List (List Nat))(k:Nat):Nat:=((ZB t t.length).getD k []).getD 0 0
theorem ZaL {t:List (List Nat)}(j:PW t){k:Nat}(q:k<(ZB t t.length).length):hdT t k<t.length/\JC t (hdT t k)=k/\((ZB t t.length).getD k [])[0]?=some (hdT t k):=by
 obtain⟨a,r,e⟩:=Zgw j q;have J:hdT t k=a:=by unfold hdT;rw[e];rfl
 have h:=ZiN j q (by rw[e];exact aq);rw[J,e];exact⟨h.1,h.2.1,rfl⟩
noncomputable def Cg (t:List (List Nat))(x y k:Nat):Bool:=decide (ZM t x y=hdT t k)
noncomputable def cnG (t:List (List Nat)):Nat->Nat->Nat->Nat:=ZE t.length (JC t) (Cg t) t.length 0
theorem ZgU (q:Nat->Nat)(C:Nat->Nat->Nat->Bool)(i j k x y:Nat):one q C i j k x y=if i=q x/\j=q y/\C x y k=true then 1 else 0:=by
 unfold one;by_cases J:q x=i
 ·rw[decide_eq_true J]
  by_cases M:q y=j
  ·rw[decide_eq_true M]
   cases O:C x y k with
   |true=>rw[if_pos ⟨J.symm,M.symm,rfl⟩];rfl
   |false=>rw[if_neg (fun z=>by cases z.2.2)];rfl
  ·rw[decide_eq_false M,if_neg (fun z=>M z.2.1.symm)]
   show 1*(0*_)=0;omega
 ·rw[decide_eq_false J,if_neg (fun z=>J z.1.symm)]
  show 0*_=0;omega
noncomputable def Zbn:Sp:=fun q H Q _=>∃(g:Addr) (t:List (List Nat)),q=[.ref g]/\GT H g t/\PW t/\∀r j,Zv H j->C3 j r (ZB t t.length).length (cnG t)->Q (.ref r) j
section
variable {P:Program}{w:World}{K:aa}{mg:Str->Option Value}{base:Heap}
theorem Ze6 {f:Addr}{fd:FuncData}(F:WN K "counts_of" "counts_of" ZdP f fd)(T:Bl mg)(T2:Zdi mg)(GC:Fn P w K mg base Yi 4 "classes_of" ["group"] W3)(GN:Fn P w K mg base Yi 5 "class_numbers" ["group"] ZcE):Yb P w K mg base Yi 6 f fd ["group"] Zbn:=by
 refine F.ok (FS (N:=["group", "classes", "numbers", "counts", "x", "row", "y", "z", "k"])) (fun vs H Q E h=>?_) (fun r6 A o5 s H vs Q E hr h=>?_)
 ·obtain⟨g,t,rfl,_⟩:=h;rfl
 ·obtain⟨g,t,rfl,G,O,q⟩:=h
  refine⟨_,Zs (ZD 1 rfl (Ws GC hr ZK (pc (vn 0) Zu)))
   (Zs (ZD 2 rfl (Ws GN hr ZK (pc (vn 0) Zu)))
   (Zs (ZiJ 3 ["i"] [1] ["i", "classes"] rfl rfl (itT K (vn 1)) (fun _ _ _ _ _=>gn 0) (fun _ _ _ _ _=>ZQ)
    (fun _ _ _ _ _=>cmp ["j"] [1] ["j", "classes"] rfl (itT K (vn 1)) (fun _ _ _ _ _=>gn 0) (fun _ _ _ _ _=>ZQ)
     (fun _ _ _ _ _=>Zz Xf (ZW (pc Zx Zu)) (cb (YF K) (by exact T.len) (pc (vn 1) Zu)))))
   (Zs (ZT av rfl (V7 K T2.enumerate (pc (vn 0) Zu)) (g2 K 4 5 rfl (gn 4) (gn 5))
    (Zw (ZT av rfl (V7 K T2.enumerate (pc (vn 5) Zu)) (g2 K 6 7 rfl (gn 6) (gn 7))
     (Zs (ZD 8 rfl (ZG (XI K) (vn 2) (vn 7) (fun _ _=>rfl)))
     (Zw (Jo (ZS Zd8 (ZG (XI K) (ZG (XI K) (vn 1) (vn 8) (fun _ _=>rfl)) Zx (fun _ _=>rfl)) (vn 7) (Z6 _))
      (Zw (Vz (ZG (X2 K) (ZG (X2 K) (vn 3) (ZG (XI K) (vn 2) (vn 4) (fun _ _=>rfl)) (fun _ _=>rfl)) (ZG (XI K) (vn 2) (vn 6) (fun _ _=>rfl)) (fun _ _=>rfl)) (vn 8) ZhB Zx WY YT)) YX))))))
   (Zw (ZF (ct ZJ T.tuple (pc (cmp ["seconds"] [] ["seconds"] rfl (itL K (vn 3)) (fun _ _ _ _ _=>gn 0) (fun _ _ _ _ _=>ZQ)
    (fun _ _ _ _ _=>ct (tupK K) (by exact T.tuple) (pc (cmp ["ends"] [] ["ends"] rfl (itL K (vn 0)) (fun _ _ _ _ _=>gn 0) (fun _ _ _ _ _=>ZQ)
     (fun _ _ _ _ _=>ct (tupK K) (by exact T.tuple) (pc (vn 0) Zu))) Zu))) Zu))))))),?_⟩
  have sz:(16777216:Nat)=sizeLine:=by decide
  have r8:=O.n60;have ul:=YU (t:=t) t.length;have m1:1<=(ZB t t.length).length:=by
   have:=(XX O (show 0<t.length from O.n1)).1;omega
  refine⟨_,rfl,g,t,rfl,G,O,fun c H1 s1 C1=>?_⟩;refine⟨_,rfl,g,t,rfl,G.mono s1,O,fun r0 H2 s2 m5=>?_⟩;have C2:=C1.mono s2;obtain⟨rs,c1,c2,c3⟩:=C2.row;have cl:(rs.map V.ref).length=(ZB t t.length).length:=by rw[Za,c2]
  replace m5:H2 r0=some (.tup ((Yf t.length (JC t)).map nV)):=m5;generalize hm:(ZB t t.length).length=m at *;refine⟨_,rfl,c,rfl,⟨_,.of c1⟩,?_⟩;refine Zfs (Wf (K:=K) (.of c1)) [some (.ref c)] rfl (by omega) cl m1 (fun i y hy H3 s3 R k=>?_) (fun L A B H3 nL N=>?_)
  ·have m6:=s3 _ _ c1
   refine⟨_,rfl,c,rfl,⟨_,.of m6⟩,?_⟩;refine Zft (Wf (K:=K) (.of m6)) [some (.ref c)] rfl (by omega) cl (fun j y' n6 H4 s4 R' k'=>?_) (fun w' H4 s4 M o6=>k w' H4 s4 M o6);refine⟨(by show 1<=sizeLine;decide),fun l0 o7=>?_⟩;have U:=Zv.upd (H:=H4) (o:=.lst [.int 0]) o7;refine⟨_,rfl,c,_,rfl,.inr (.of (U _ _ (s4 _ _ m6))),l0,_,_,rfl,rfl,Zt,by rw[cl];omega,by rw[cl];omega,by rw[cl];show 1*((m:Int)).toNat<=sizeLine;omega,fun b nb=>?_⟩;rw[cl,Zj];have e0:(aA m [V.int 0]).flatten=(Yf m fun _=>0).map nV:=by
    unfold Yf;rw[aJ];have:∀m k,(aA m [V.int 0]).flatten=(de k m).map fun _=>nV 0:=fun m=>by
     induction m with
     |zero=>intro k;rfl
     |succ m ih=>intro k;rw[bm,bY,ih (k+1),dY,aQ];rfl
    rw[this m 0,<-dS];rfl
   rw[e0];exact k' b _ (U.trans (Zv.upd nb)) Zt (U.free nb)
  have G2:=G.mono (s1.trans s2);obtain⟨gs,u1,u2,u3⟩:=id G2;have el:(gs.map V.ref).length=t.length:=by rw[Za,u2]
  refine⟨_,rfl,g,rfl,.inr ⟨⟨_,.of (N.sm _ _ u1)⟩,?_⟩⟩;refine WK (ZaQ (K:=K) (xs:=gs.map V.ref)) (fun X J H'=>∃v4 v5 v6 v7 v8:Option V,J=[some (.ref g),some (.ref c),some (.ref r0),some (.ref L),v4,v5,v6,v7,v8]/\N3 H2 H' L m A B (ZE t.length (JC t) (Cg t) X 0))
   ⟨_,_,_,_,_,rfl,N.congr fun i j k _ _ _=>(acc_zero _ _ _ _ _ _).symm⟩ (fun i J H' h=>by
    obtain⟨_,_,_,_,_,_,N'⟩:=h;exact N'.sm.tup (.of u1)) ?_ ?_
  ·rintro X y J H4 T' hy ⟨v4,v5,v6,v7,v8,rfl,N4⟩ nT
   have hX:X<t.length:=by
    have:=(ac.mp hy).1;rw[el] at this;exact this
   have n8:gs[X]?=some (gs[X]'(by omega)):=Zf (by omega);rw[Zc,n8] at hy;cases hy;have row:=u3 X _ n8;generalize gs[X]'(by omega)=r at row;have U:=Zv.upd (H:=H4) (o:=.tup [.int (X:Nat),.ref r]) nT;refine⟨T',_,rfl,.of Zt,rfl,_,_,rfl,_,_,rfl,rfl,?_⟩;have N5:=N4.mono U;generalize upd H4 T' (.tup [.int (X:Nat),.ref r])=H5 at U N5 ⊢;refine⟨_,rfl,r,rfl,.inr ⟨⟨_,(row.mono N5.sm).sq⟩,?_⟩⟩;refine WK (ZaQ (K:=K) (xs:=(t.getD X []).map nV)) (fun Y J H'=>∃v6 v7 v8:Option V,J=[some (.ref g),some (.ref c),some (.ref r0),some (.ref L),some (.int (X:Nat)),some (.ref r),v6,v7,v8]/\N3 H2 H' L m A B (ZE t.length (JC t) (Cg t) X Y))
    ⟨_,_,_,rfl,N5⟩ (fun i J H' h=>by
     obtain⟨_,_,_,_,N'⟩:=h;exact (row.mono N'.sm).sq) ?_ ?_
   ·rintro Y y J H6 n9 hy ⟨o8,o9,p3,rfl,N6⟩ p4
    have hY:Y<t.length:=by
     have:=(ac.mp hy).1;rw[Za,XD O hX] at this;exact this
    rw[XU O hX hY] at hy;cases hy;have s7:=Zv.upd (H:=H6) (o:=.tup [.int (Y:Nat),.int (ZM t X Y:Nat)]) p4;refine⟨n9,_,rfl,.of Zt,rfl,_,_,rfl,_,_,rfl,rfl,?_⟩;have N7:=N6.mono s7;generalize upd H6 n9 (.tup [.int (Y:Nat),.int (ZM t X Y:Nat)])=H7 at s7 N7 ⊢;have hz:ZM t X Y<t.length:=O.lt _ _ hX hY;obtain⟨kz,r9,p6⟩:=XX O hz;rw[hm] at kz p6;have kX:=(XX O hX).1;have kY:=(XX O hY).1;rw[hm] at kX kY;have m8:=N7.sm _ _ m5;have p7:=N7.sm _ _ c1;obtain⟨h1,h2,h3⟩:=ZaL O (by rw[hm];exact kz);have o0:JC t (ZM t X Y)<(rs.map V.ref).length:=by omega
    obtain⟨rk,e1,_,e2⟩:=c3 _ _ (Zf o0);have p8:X9 (rs.map V.ref) (JC t (ZM t X Y):Int)=some (.ref rk):=ZR (by rw[Zf o0,e1]);refine⟨_,rfl,_,rfl,r0,_,_,_,rfl,rfl,.of m8,Zat hz,?_⟩;refine⟨_,rfl,_,rfl,c,_,_,_,rfl,rfl,.of p7,p8,rk,_,_,_,rfl,rfl,.of (N7.sm _ _ e2),ZR (j:=0) (by rw[Zc,h3];rfl),_,rfl,rfl,_,rfl,?_⟩;refine Y8 (fun h=>?_) (fun h=>?_)
    ·have he:hdT t (JC t (ZM t X Y))=ZM t X Y:=by
      have h:V.int (hdT t (JC t (ZM t X Y)):Nat)=V.int (ZM t X Y:Nat):=of_decide_eq_true h;injection h with h;omega
     refine⟨_,rfl,_,rfl,_,rfl,r0,_,_,_,rfl,rfl,.of m8,Zat hX,L,_,_,_,rfl,rfl,.of N7.top,ZbC kX,_,rfl,_,rfl,r0,_,_,_,rfl,rfl,.of m8,Zat hY,A (JC t X),_,_,_,rfl,rfl,.of (N7.mid _ kX),ZbC kY,_,rfl,B (JC t X) (JC t Y),_,JC t (ZM t X Y),_,rfl,rfl,N7.low _ _ kX kY,Zhg kz,_,_,rfl,rfl,B (JC t X) (JC t Y),_,_,JC t (ZM t X Y),rfl,rfl,N7.low _ _ kX kY,JE (by rw[Za,Zbz];exact kz),?_⟩;refine⟨_,_,_,rfl,(N7.put (v:=ZE t.length (JC t) (Cg t) X Y (JC t X) (JC t Y) (JC t (ZM t X Y))+1) kX kY kz).congr fun i j k hi hj hk=>?_⟩;rw[acc_step,ZgU];by_cases e:i=JC t X/\j=JC t Y/\k=JC t (ZM t X Y)
     ·obtain⟨rfl,rfl,rfl⟩:=e
      rw[if_pos ⟨rfl,rfl,rfl⟩,if_pos ⟨rfl,rfl,decide_eq_true he.symm⟩]
     ·rw[if_neg e,if_neg,gQ]
      rintro⟨z1,z2,z3⟩;have z3:ZM t X Y=hdT t k:=of_decide_eq_true z3;refine e ⟨z1,z2,?_⟩;rw[z3];exact (ZaL O (by rw[hm];exact hk)).2.1.symm
    ·have he:hdT t (JC t (ZM t X Y))≠ZM t X Y:=fun z=>h (by rw[z];exact decide_eq_true rfl)
     refine⟨_,_,_,rfl,N7.congr fun i j k hi hj hk=>?_⟩;rw[acc_step,ZgU,if_neg,gQ];rintro⟨z1,z2,z3⟩;have z3:ZM t X Y=hdT t k:=of_decide_eq_true z3;have:=(ZaL O (by rw[hm];exact hk)).2.1;rw[<-z3] at this;rw[this] at he;exact he z3.symm
   ·rintro J H6 ⟨o8,o9,p3,rfl,N6⟩
    rw[Za,XD O hX] at N6;exact⟨_,_,_,_,_,rfl,N6.congr fun i j k _ _ _=>Zj4 _ _ _ _ _ _ _⟩
  ·rintro J H4 ⟨v4,v5,v6,v7,v8,rfl,N4⟩
   rw[el] at N4;have tl:((ae m).map fun i=>V.ref (A i)).length=m:=by rw[Za,Zg]
   refine⟨_,rfl,L,rfl,⟨_,.of N4.top⟩,?_⟩;refine ZjV (m:=m) (F:=cnG t) (Yv (K:=K) (.of N4.top)) [] rfl (by rw[tl];omega) tl (fun i y hy H5 U R k=>?_) (fun D ys H5 nD U hD k=>?_)
   ·obtain⟨hi,rfl⟩:=ZbB hy
    have ml:((ae m).map fun j=>V.ref (B i j)).length=m:=by rw[Za,Zg]
    have hA:=U _ _ (N4.mid i hi);refine⟨_,rfl,A i,rfl,⟨_,.of hA⟩,?_⟩;refine Zfr (m:=m) (F:=cnG t i) (Yv (K:=K) (.of hA)) [] rfl (by rw[ml];omega) ml (fun j y' n6 H6 s6 R' k'=>?_) (fun D q0 H6 nD s6 hD k'=>?_)
    ·obtain⟨hj,rfl⟩:=ZbB n6
     refine⟨_,rfl,B i j,_,rfl,.inl ⟨.of ((U.trans s6) _ _ (N4.low i j hi hj)),fun b nb=>?_⟩⟩;exact k' b _ (Zv.upd nb) Zt
    ·refine⟨D,_,rfl,.inl ⟨.of hD,fun r nr=>?_⟩⟩
     exact k (r,q0) _ (s6.trans (Zv.upd nr)) (k' r _ Zt (Zv.upd nr))
   ·refine⟨D,_,rfl,.inl ⟨.of hD,fun r nr=>?_⟩⟩
    exact q r _ ((((s1.trans s2).trans N4.sm).trans U).trans (Zv.upd nr)) (k r _ Zt (Zv.upd nr))
end
end C52
namespace C52
open PySem L2 PySem.Spec PyProof.Rows
open Tb Pm
noncomputable abbrev Zgv:Stmt:=top 27
section
variable {t:List (List Nat)}{p m:Nat}{e ω φ:Nat->Nat->Nat}
theorem Zay (P:PW t){x:Nat}(j:x<t.length):JC t x=Y2 t x:=by
 obtain⟨q,J,M⟩:=XX P j;exact (ZaV P j q J).symm
theorem ZlX (P:PW t){i j k:Nat}(M:k<(ZB t t.length).length):cnG t i j k=cnA t (Y2 t) i j (ZI t k):=by
 have q:ZI t k<t.length:=(Y6 P).rl k M;have O:cnG t i j k=cnA t (JC t) i j (ZI t k):=by
  rw[<-Zfu P q];show ZE t.length (JC t) (Cg t) t.length 0 i j k=_;unfold ZE one Cg;rfl
 rw[O];unfold cnA;refine Yl fun x J=>?_;rw[Zay P J,Zay P (P.lt _ _ (Yh P J).1 q)]
theorem Wv.ext {H:Hp}{a b:Addr}{cs ds:List Addr}{U Y:List (Nat->Bool)}(m1:1<=m)(h:Wv H a t p m e cs U)(g:Wv H b t p m e ds Y):Wv (upd H a (.lst (cs.map V.ref++ds.map V.ref))) a t p m e (cs++ds) (U++Y):=by
 have ne:∀{x:Addr}{v:Nat->Int},H x=some (.lst (ZH m v))->x≠a:=fun {x v} q=>Zaz q h.1 (VP m1).symm;refine⟨by rw[Zt,aU],by rw[Zd,Zd,h.2.1,g.2.1],fun j x q=>?_⟩;by_cases hj:j<cs.length
 ·rw[au hj] at q
  obtain⟨M,O,J⟩:=h.2.2 j x q;exact⟨M,by rw[au (by rw[<-h.2.1];exact hj)];exact O,by rw[Zy (ne J)];exact J⟩
 ·rw[aw (by omega)] at q
  obtain⟨M,O,J⟩:=g.2.2 _ x q;exact⟨M,by rw[aw (by rw[<-h.2.1];omega),<-h.2.1];exact O,by rw[Zy (ne J)];exact J⟩
end
theorem Zdk {t:List (List Nat)}{p m:Nat}{e j q:Nat->Nat->Nat}(C:CD t p m e j q)(J:PW t):[V.int 1]++(aA (m-1) [V.int 0]).flatten=ZH m (Vc t p m e (J0 fun _=>true)):=by
 have Y:=C.m1;have M:ZH m (Vc t p m e (J0 fun _=>true))=ZH m (fun c=>if c=0 then 1 else 0):=Wb fun c O=>Zl8 C J O
 rw[M];obtain⟨k,rfl⟩:∃k,m=k+1:=⟨m-1,by omega⟩;unfold ZH;rw[List.range_succ_eq_map,aQ,aJ,dz];have:∀k a,(aA k [V.int 0]).flatten=(de a k).map fun _=>V.int 0:=fun k=>by
  induction k with
  |zero=>intro a;rfl
  |succ k U=>intro a;rw[bm,bY,U (a+1),dY,aQ];rfl
 rw[this k 0,<-dS];rfl
structure Zpi (H:Hp)(L:Addr)(t:List (List Nat))(m:Nat)(e:Nat->Nat->Nat)(cs:List Addr)(ss:List Nat):Prop where
 at':H L=some (.lst (cs.map V.ref))
 len:cs.length=ss.length
 pm:ss.Perm (ae m)
 it:∀(j:Nat) b,cs[j]?=some b->H b=some (.lst (ZH m fun c=>(EC t e (ss.getD j 0) c:Int)))
noncomputable def ZdF:Sp:=fun J H Q _=>∃(q:Addr) (t:List (List Nat)) (p m:Nat) (e M O:Nat->Nat->Nat),J=[.ref q,.int p]/\CD t p m e M O/\PW t/\p<=100000/\C3 H q m (cnG t)/\∀L U Y j,Zv H j->Zpi j L t m e U Y->Q (.ref L) j
section
variable {P:Program}{w:World}{K:aa}{mg:Str->Option Value}{base:Heap}
theorem Zg8 {f:Addr}{fd:FuncData}(F:WN K "taken_apart" "taken_apart" Zgv f fd)(T:Bl mg)(GP:Fn P w K mg base Yi 3 "parts_by" ["columns", "one", "p"] Zdy):Yb P w K mg base Yi 4 f fd ["counts", "p"] ZdF:=by
 refine F.ok (FS (N:=["counts", "p", "found", "seconds", "columns", "finer", "one"])) (fun vs H Q E h=>?_) (fun t0 A p3 s H vs Q E hr h=>?_)
 ·obtain⟨ra,t,p,m,e,ω,φ,rfl,_⟩:=h;rfl
 ·obtain⟨ra,t,p,m,e,ω,φ,rfl,C,Y,pl,p4,q⟩:=h
  refine⟨_,Zs (ZD 2 rfl (ZW (pc (Zz Zaw (ZW (pc Zx Zu)) (Zz Xf (ZW (pc Zx Zu)) (Zz Y5 (cb (YF K) T.len (pc (vn 0) Zu)) Zx))) Zu)))
   (Zs (ZT av rfl (itT K (vn 0)) (gnf 3 rfl)
    (Zw (Jo (ZS Zd7 (cb (YF K) T.len (pc (vn 2) Zu)) (cb (YF K) T.len (pc (vn 0) Zu)) (Z6 _))
     (Zs (ZiJ 4 ["k"] [3] ["k", "seconds"] rfl rfl (XV T.range (pc (cb (YF K) T.len (pc (vn 0) Zu)) Zu)) (fun _ _ _ _ _=>gnf 0 rfl) (fun _ _ _ _ _=>ZQ)
      (fun _ _ _ _ _=>cmp ["ends"] [0] ["ends", "k"] rfl (itT K (vn 1)) (fun _ _ _ _ _=>gn 0) (fun _ _ _ _ _=>ZQ) (fun _ _ _ _ _=>ZG (XI K) (vn 0) (vn 1) (fun _ _=>rfl))))
     (Zs (ZD 5 rfl (ZW Zu))
     (Zs (ZT av rfl (itL K (vn 2)) (gn 6)
      (Zw (Yq (Wj aO ku PySem.F.type_list_extend Zfc (vn 5) (pc (Ws GP hr ZK (pc (vn 4) (pc (vn 6) (pc (vn 1) Zu)))) Zu)))))
     (Zw (ZD 2 rfl (vn 5)))))) YX)))
   (Zw (ZF (vn 2)))),?_⟩
  have p2:=C.pr.p2;have t5:=ZjZ C Y;have m1:=C.m1;have mc:=C.mc;have sz:(16777216:Nat)=sizeLine:=by decide
  obtain⟨rs,c1,c2,c3⟩:=id p4;have cl:(rs.map V.ref).length=m:=by rw[Za,c2]
  refine⟨(by show 1<=sizeLine;decide),fun a1 p6=>(?_:_)⟩;have s1:=Zv.upd (H:=H) (o:=.lst [.int 1]) p6;have h1:upd H a1 (.lst [.int 1]) a1=some (.lst [.int 1]):=Zt;generalize upd H a1 (.lst [.int 1])=H1 at s1 h1 ⊢;refine⟨(by show 1<=sizeLine;decide),fun a2 p7=>?_⟩;have s2:=Zv.upd (H:=H1) (o:=.lst [.int 0]) p7;have h2:upd H1 a2 (.lst [.int 0]) a2=some (.lst [.int 0]):=Zt;generalize upd H1 a2 (.lst [.int 0])=H2 at s2 h2 ⊢;have n8:=s1.trans s2;refine⟨_,rfl,ra,_,rfl,.inr (.of (n8 _ _ c1)),_,_,rfl,rfl,a2,_,_,rfl,rfl,h2,by rw[cl];omega,by rw[cl];omega,by rw[cl];show 1*((m:Int)-1).toNat<=sizeLine;omega,fun a3 p8=>?_⟩;have et:(((rs.map V.ref).length:Int)-1).toNat=m-1:=by rw[cl];omega
  rw[et];have s3:=Zv.upd (H:=H2) (o:=.lst (aA (m-1) [V.int 0]).flatten) p8;have h3:upd H2 a3 (.lst (aA (m-1) [V.int 0]).flatten) a3=some (.lst (aA (m-1) [V.int 0]).flatten):=Zt;generalize upd H2 a3 (.lst (aA (m-1) [V.int 0]).flatten)=H3 at s3 h3 ⊢;have fl:(aA (m-1) [V.int 0]).flatten.length<=60:=by
   have:=congrArg cu (Zdk C Y);rw[Yk,Zd] at this;omega
  refine⟨a1,a3,_,_,rfl,rfl,(s2.trans s3) _ _ h1,h3,by show 1+_<=sizeLine;omega,fun a4 q0=>?_⟩;rw[Zdk C Y];have s4:=Zv.upd (H:=H3) (o:=.lst (ZH m (Vc t p m e (J0 fun _=>true)))) q0;have h4:upd H3 a4 (.lst (ZH m (Vc t p m e (J0 fun _=>true)))) a4=some (.lst (ZH m (Vc t p m e (J0 fun _=>true)))):=Zt;generalize upd H3 a4 (.lst (ZH m (Vc t p m e (J0 fun _=>true))))=H4 at s4 h4 ⊢;refine⟨(by show 1<=sizeLine;decide),fun L nL=>?_⟩;have s5:=Zv.upd (H:=H4) (o:=.lst [.ref a4]) nL;have h5:upd H4 L (.lst [.ref a4]) L=some (.lst [.ref a4]):=Zt;generalize upd H4 L (.lst [.ref a4])=H5 at s5 h5 ⊢;have n9:Zv H H5:=((n8.trans s3).trans s4).trans s5;have P5:Wv H5 L t p m e [a4] [fun _=>true]:=⟨h5,rfl,fun j b hb=>by
   cases j with
   |zero=>cases hb;exact⟨_,rfl,s5 _ _ h4⟩
   |succ j=>cases hb⟩
  refine⟨_,rfl,ra,rfl,⟨_,.of (n9 _ _ c1)⟩,?_⟩;have wj:∀s s',s<m->s'<m->(∀j,j<m->gW t ω j s=gW t ω j s')->s=s':=fun s s' hs o0 h=>C.sep s s' hs o0 fun u hu=>by
   have hc:=(Y6 Y).lt u hu;rw[C.wat Y hs hu,C.wat Y o0 hu];exact h (Y2 t u) (by omega)
  refine Jl (H0:=H) (Wf (K:=K) (.of c1)) (fun i J H'=>∃(l:Addr) (cs:List Addr) (M:List (Nat->Bool)) (v3 v4 v5 v6:Option V),J=[some (.ref ra),some (.int (p:Nat)),some (.ref l),v3,v4,v5,v6]/\Zv H H'/\Wv H' l t p m e cs M/\J6 m (fun s j=>gW t ω j s) i M)
   ⟨L,_,_,_,_,_,_,rfl,n9,P5,J6.zero m1 _⟩ (fun i J H' h=>by
    obtain⟨_,_,_,_,_,_,_,_,sm,_⟩:=h;exact sm) ?_ ?_
  ·rintro i y J H6 hy ⟨l,cs,M,v3,v4,v5,v6,rfl,s6,O,A6⟩
   have hi:i<m:=by
    have:=(ac.mp hy).1;rw[cl] at this;exact this
   rw[Zc,Zf (show i<rs.length by omega)] at hy;cases hy;obtain⟨es,e1,e2,e3⟩:=c3 i _ (Zf (show i<rs.length by omega));generalize rs[i]'(by omega)=sa at e1 ⊢;rw[Za,Zg] at e2;have el:(es.map V.ref).length=m:=by rw[Za,e2]
   have m6:(cs.map V.ref).length=M.length:=by rw[Za,O.2.1]
   refine⟨_,rfl,l,_,rfl,.inl (.of O.1),_,rfl,ra,_,rfl,.inr (.of (s6 _ _ c1)),_,_,rfl,rfl,_,rfl,?_⟩;rw[m6,cl];refine Y8 (fun o5=>?_) (fun o5=>?_)
   ·refine⟨_,rfl,ra,_,rfl,.inr (.of (s6 _ _ c1)),_,rfl,by rw[cl];omega,by rw[cl];omega,?_⟩
    rw[cl,Zj];refine Pm.Wa (W:=Addr) id (fun k a H=>H a=some (.lst (ZH m (Vs t i k)))) (fun a H=>H a=none) (XB 0 m) [some (.ref sa)] rfl (by rw[Za,YJ];omega) (fun k a H H' sm h=>sm _ _ h) (fun a H H' sm h=>sm.free h) (fun k a t6 t7 D o ys t9 h1 h2 h3 h4=>by rw[Zy (fun z=>by rw[z,h3] at h2;cases h2)];exact h1) (fun k y hy H7 s7 R k7=>?_) (fun D ws H7 nD s7 hD wl hw _=>?_)
    ·obtain⟨hk,rfl⟩:=Zas hy
     have U:=s6.trans s7;refine⟨_,rfl,sa,rfl,⟨_,.of (U _ _ e1)⟩,?_⟩;refine Pm.Wm (Wf (K:=K) (.of (U _ _ e1))) [some (.int (k:Nat))] rfl (fun j=>V.int (Vs t i k j)) (by rw[el];omega) (fun j z hz H8 s8 R' k8=>?_) (fun D8 H8 r6 s8 o6=>?_)
     ·have hj:j<m:=by
       have:=(ac.mp hz).1;rw[el] at this;exact this
      rw[Zc,Zf (show j<es.length by omega)] at hz;cases hz;have hE:=e3 j _ (Zf (show j<es.length by omega));generalize es[j]'(by omega)=ea at hE ⊢;have row:((ae m).map fun j=>Yf m (cnG t i j)).getD j []=Yf m (cnG t i j):=by rw[Zb,Zc,am hj];rfl
      rw[row] at hE;have r8:X9 ((Yf m (cnG t i j)).map nV) (k:Int)=some (V.int (Vs t i k j)):=by
       refine ZR ?_;unfold Yf;rw[Zc,Zc,am hk];show some (V.int ((cnG t i j k:Nat):Int))=some (V.int (Vs t i k j));unfold Vs;rw[ZlX Y (by omega)]
      exact⟨_,rfl,_,rfl,ea,_,_,_,rfl,rfl,.of ((U.trans s8) _ _ hE),r8,k8 H8 (Zv.refl _)⟩
     ·rw[el] at o6
      exact k7 D8 H8 s8 o6 r6
    ·have hL:LLs H7 D m (Vs t i):=⟨ws,hD,by rw[wl,Za,YJ],fun c b hb=>(hw c b hb).1⟩
     have U:=s6.trans s7;have P7:=O.mono s7;refine⟨(by show 0<=sizeLine;decide),fun Fn o7=>?_⟩;have s8:=Zv.upd (H:=H7) (o:=.lst []) o7;have h8:upd H7 Fn (.lst []) Fn=some (.lst ([]:List V)):=Zt;generalize upd H7 Fn (.lst [])=H8 at s8 h8 ⊢;have P8:=P7.mono s8;refine⟨_,rfl,l,rfl,⟨_,.of P8.1⟩,?_⟩;refine Jl (H0:=H7) (Yv (K:=K) (.of P7.1)) (fun j J H'=>∃(ds:List Addr) (Fs:List (Nat->Bool)) (v6:Option V),J=[some (.ref ra),some (.int (p:Nat)),some (.ref l),some (.ref sa),some (.ref D),some (.ref Fn),v6]/\Zv H7 H'/\Wv H' Fn t p m e ds Fs/\FiS m (gW t ω i) (M.take j) Fs)
      ⟨[],[],_,rfl,s8,⟨h8,rfl,fun j b hb=>by simp at hb⟩,by rw[eY];exact .nil⟩ (fun j J H' h=>by
       obtain⟨_,_,_,_,sm,_⟩:=h;exact sm) ?_ ?_
     ·rintro j y J H9 hy ⟨ds,Fs,v6,rfl,s9,P9,F9⟩
      have hj:j<M.length:=by
       have:=(ac.mp hy).1;rw[m6] at this;exact this
      rw[Zc,Zf (show j<cs.length by rw[O.2.1];exact hj)] at hy;cases hy;obtain⟨S,hS,hb⟩:=P7.2.2 j _ (Zf (show j<cs.length by rw[O.2.1];exact hj));generalize cs[j]'(by rw[O.2.1];exact hj)=b at hb ⊢;refine⟨_,rfl,.inl ⟨rfl,_,.of P9.1⟩,_,rfl,_,rfl,_,rfl,D,b,t,p,m,e,ω,φ,S,i,rfl,C,Y,hi,pl,hL.mono s9,s9 _ _ hb,fun B bs Ts u5 nB o8 pS pA=>?_⟩;have m8:=P9.mono o8;have m5:FiS m (gW t ω i) (M.take (j+1)) (Fs++Ts):=by
       rw[cP,hS];exact .snoc F9 pS
      have u9:Fs.length+Ts.length<=m:=by
       have hd:=m5.dj (cT (iN _ _) A6.dj);have:=L2.Yp ((Fs++Ts).map (pkS m)) (ae m) (US (fun T' n6=>(m5.out.1 T' n6).1) hd) (fun x hx=>by
        obtain⟨T',n6,rfl⟩:=aI.mp hx;exact af.mpr (J7 (m5.out.1 T' n6).1).1)
       rwa [Za,Zd,Zg] at this
      refine⟨Fn,B,_,_,rfl,rfl,m8.1,pA.1,by rw[Za,Za,m8.2.1,pA.2.1];omega,?_⟩;refine⟨ds++bs,Fs++Ts,_,rfl,(s9.trans o8).updr o7,?_,m5⟩;exact m8.ext m1 pA
     ·rintro J H9 ⟨ds,Fs,v6,rfl,s9,P9,F9⟩
      rw[m6,cU] at F9;exact⟨_,rfl,Fn,ds,Fs,_,_,_,_,rfl,U.trans s9,P9,A6.step F9⟩
   ·have r9:m<=M.length:=by
     apply ah;intro z;exact o5 (decide_eq_true (by omega))
    exact⟨l,cs,M,_,_,_,_,rfl,s6,O,A6.skip r9⟩
  ·rintro J H6 ⟨l,cs,M,v3,v4,v5,v6,rfl,s6,O,A6⟩
   rw[cl] at A6;obtain⟨hp,o9⟩:=A6.end wj;refine⟨_,rfl,q l cs (M.map (pkS m)) H6 s6 ⟨O.1,by rw[Za];exact O.2.1,hp,fun j b hb=>?_⟩⟩;obtain⟨S,h1,h2⟩:=O.2.2 j b hb;rw[h2];congr 2;have hS:S∈M:=aF h1;have e6:(M.map (pkS m)).getD j 0=pkS m S:=by rw[Zb,Zc,h1];rfl
   have pk:=(J7 (A6.ne S hS)).1;refine Wb fun c hc=>?_;rw[e6,<-ZnW C Y pk hc];refine JL (fun s hs=>?_) c;unfold J0;rw[o9 S hS s hs];by_cases z:s=pkS m S
   ·rw[if_pos z,if_pos (decide_eq_true z)]
   ·rw[if_neg z,if_neg (by rw[decide_eq_false z];decide)]
end
noncomputable abbrev Zgf:Stmt:=top 26
noncomputable def wkF (t:List (List Nat))(a k:Nat):Int:=(Y2 t (it t a k):Nat)
structure ZnV (H:Hp)(L:Addr)(t:List (List Nat))(n:Nat)(cs:List Addr):Prop where
 at':H L=some (.lst (cs.map V.ref))
 len:cs.length=n
 it:∀(c:Nat) b,cs[c]?=some b->H b=some (.lst (ZH (rdT t (ZI t c)) (wkF t (ZI t c))))
noncomputable def Zdq:Sp:=fun q H Q _=>∃(g:Addr) (t:List (List Nat)),q=[.ref g]/\GT H g t/\PW t/\∀L J j,Zv H j->ZnV j L t (ZB t t.length).length J->Q (.ref L) j
noncomputable def but (H:Hp)(W:Addr):Hp:=fun b=>if b=W then none else H b
theorem X8 {H:Hp}{W b:Addr}{o:HO}(h:H b=some o)(hb:b≠W):but H W b=some o:=by unfold but;rw[if_neg hb];exact h
theorem Zax {H:Hp}{W b:Addr}{o:HO}(h:but H W b=some o):b≠W/\H b=some o:=by
 unfold but at h;by_cases z:b=W
 ·rw[if_pos z] at h;cases h
 ·rw[if_neg z] at h;exact⟨z,h⟩
theorem Zba {cs:List Addr}{m:Nat}{v:Nat->Int}(j:1<=m):ZH m v≠cs.map V.ref:=(VP j).symm
section
variable {P:Program}{w:World}{K:aa}{mg:Str->Option Value}{base:Heap}
theorem ZgV {f:Addr}{fd:FuncData}(F:WN K "power_walks" "power_walks" Zgf f fd)(GN:Fn P w K mg base Yi 5 "class_numbers" ["group"] ZcE)(GC:Fn P w K mg base Yi 4 "classes_of" ["group"] W3):Yb P w K mg base Yi 6 f fd ["group"] Zdq:=by
 refine F.ok (FS (N:=["group", "numbers", "walks", "members", "walk", "a"])) (fun vs H Q E h=>?_) (fun u5 A p6 s H vs Q E hr h=>?_)
 ·obtain⟨g,t,rfl,_⟩:=h;rfl
 ·obtain⟨g,t,rfl,G,M,q⟩:=h
  refine⟨_,Zs (ZD 1 rfl (Ws GN hr ZK (pc (vn 0) Zu)))
   (Zs (ZD 2 rfl (ZW Zu))
   (Zs (ZT av rfl (itT K (Ws GC hr ZK (pc (vn 0) Zu))) (gn 3)
    (Zs (ZD 4 rfl (ZW (pc Zx Zu)))
    (Zs (ZD 5 rfl (ZG (XI K) (vn 3) Zx (fun _ _=>rfl)))
    (Zs (Yg av (ZS Jp (vn 5) Zx (Z6 _))
     (Zs (Yq (Wj aO aT aV Z2 (vn 4) (pc (ZG (XI K) (vn 1) (vn 5) (fun _ _=>rfl)) Zu)))
     (Zw (ZD 5 rfl (ZG (XI K) (ZG (XI K) (vn 0) (vn 5) (fun _ _=>rfl)) (ZG (XI K) (vn 3) Zx (fun _ _=>rfl)) (fun _ _=>rfl))))))
    (Zw (Yq (Wj aO aT aV Z2 (vn 2) (pc (vn 4) Zu))))))))
   (Zw (ZF (vn 2))))),?_⟩
  have sz:(16777216:Nat)=sizeLine:=by decide
  have u9:=M.n60;have ul:=YU (t:=t) t.length;have U:=Y6 M;refine⟨_,rfl,g,t,rfl,G,M,fun r0 H1 s1 n6=>?_⟩;replace n6:H1 r0=some (.tup ((Yf t.length (JC t)).map nV)):=n6;refine⟨(by show 0<=sizeLine;decide),fun W nW=>?_⟩;have s2:=Zv.upd (H:=H1) (o:=.lst []) nW;have h2:upd H1 W (.lst []) W=some (.lst ([]:List V)):=Zt;generalize upd H1 W (.lst [])=H2 at s2 h2 ⊢;have o5:=s1.trans s2;refine⟨_,rfl,g,t,rfl,G.mono o5,M,fun c H3 s3 p7=>?_⟩;have o6:=o5.trans s3;have p8:H W=none:=s1.free nW;obtain⟨rs,c1,c2,c3⟩:=p7.row;have cl:(rs.map V.ref).length=(ZB t t.length).length:=by rw[Za,c2]
  have h3:=s3 _ _ h2;have n8:=(s2.trans s3) _ _ n6;generalize hm:(ZB t t.length).length=m at *;refine⟨c,rfl,⟨_,.of c1⟩,?_⟩;refine Jl (H0:=but H3 W) (Wf (K:=K) (.of (X8 c1 (fun z=>by rw[z,h3] at c1;cases c1)))) (fun i J H'=>∃(cs:List Addr) (v3 v4 v5:Option V),J=[some (.ref g),some (.ref r0),some (.ref W),v3,v4,v5]/\Zv (but H3 W) H'/\ZnV H' W t i cs)
   ⟨[],_,_,_,rfl,fun b o hb=>(Zax hb).2,h3,rfl,fun c b hb=>by simp at hb⟩ (fun i J H' h=>by
    obtain⟨_,_,_,_,_,sm,_⟩:=h;exact sm) ?_ ?_
  ·rintro i y J O hy ⟨cs,v3,v4,v5,rfl,s4,W4⟩
   obtain⟨r,rfl,hi,Y⟩:=c3 i y hy;have k4:∀{b:Addr}{o:HO},H3 b=some o->b≠W->O b=some o:=fun {b o} hb z=>s4 b o (X8 hb z);have hR:=U.rl i (by omega);obtain⟨m5,q0,o7⟩:=ZaL M (k:=i) (by omega);have r6:hdT t i=ZI t i:=rfl;rw[r6] at m5 q0 o7;generalize ha:ZI t i=a at *;obtain⟨rd,R⟩:=M.rd a m5;have r8:=VQ R;have r1:=R.r1;have rn:=R.rn;have o8:=k4 Y (fun z=>by rw[z,h3] at Y;cases Y);have r9:=k4 n8 (fun z=>by rw[z,h3] at n8;cases n8);have G3:=G.mono o6;have G4:GT O g t:=by
    obtain⟨gs,g1,g2,g3⟩:=G3;refine⟨gs,k4 g1 (fun z=>by rw[z,h3] at g1;cases g1),g2,fun j b hb=>?_⟩;obtain⟨o,ho,t0⟩:=g3 j b hb;exact⟨o,k4 ho (fun z=>by rw[z,h3] at ho;cases ho),t0⟩
   refine⟨(by show 1<=sizeLine;decide),fun wk n9=>?_⟩;have s5:=Zv.upd (H:=O) (o:=.lst [.int 0]) n9;have h5:upd O wk (.lst [.int 0]) wk=some (.lst (ZH 1 (wkF t a))):=by
    rw[Zt];show some (HO.lst [V.int 0])=some (HO.lst [V.int ((Y2 t (it t a 0):Nat):Int)]);rw[show it t a 0=0 from rfl,Ug M];rfl
   generalize upd O wk (.lst [.int 0])=H5 at s5 h5 ⊢;have m6:X9 (((ZB t t.length).getD i []).map nV) 0=some (V.int (a:Nat)):=by
    refine ZR (j:=0) ?_;rw[Zc,o7];rfl
   have t5:=s5 _ _ o8;refine⟨_,rfl,r,_,_,_,rfl,rfl,.of t5,m6,?_⟩;have t9:∀{b:Addr}{o:HO},O b=some o->b≠wk:=fun {b o} hb z=>by rw[z,n9] at hb;cases hb
   refine Yc (fun x J H'=>∃k:Nat,J=[some (.ref g),some (.ref r0),some (.ref W),some (.ref r),some (.ref wk),some (.int ((it t a k:Nat):Int))]/\Zv O H'/\H' wk=some (.lst (ZH k (wkF t a)))/\1<=k/\k<=rd/\x=rd-k)
    (fun J H'=>∃v5:Option V,J=[some (.ref g),some (.ref r0),some (.ref W),some (.ref r),some (.ref wk),v5]/\Zv O H'/\H' wk=some (.lst (ZH rd (wkF t a)))) ?hend ⟨rd-1,1,by rw[Zc0 M m5];rfl,s5,h5,Zq _,r1,rfl⟩ ?turn
   case hend=>
    rintro J H6 ⟨w8,rfl,s6,h6⟩;have o0:=s6 _ _ W4.at';have o9:∀{b:Addr}{v:Nat->Int}{n:Nat},1<=n->H6 b=some (.lst (ZH n v))->b≠W:=fun {b v n} hn hb=>Zaz hb o0 (Zba hn);refine⟨_,rfl,.inl ⟨rfl,_,.of o0⟩,_,rfl,W,_,_,rfl,rfl,o0,by rw[Za,W4.len];omega,?_⟩;refine⟨cs++[wk],_,_,_,rfl,fun b o hb=>?_,⟨by rw[Zt,aU];rfl,by rw[Zd,W4.len];rfl,fun c' b hb=>?_⟩⟩
    ·rw[Zy (Zax hb).1]
     exact (s4.trans s6) b o hb
    ·by_cases t6:c'<cs.length
     ·rw[au t6] at hb
      have p3:=s6 _ _ (W4.it c' b hb);obtain⟨w9,R'⟩:=M.rd (ZI t c') (U.rl c' (by have:=W4.len;omega));rw[Zy (o9 (by rw[VQ R'];exact R'.r1) p3)];exact p3
     ·have hl:=(ac.mp hb).1
      rw[Zd,Zk] at hl;have ec:c'=cs.length:=by omega
      rw[aw (by omega),ec,cF] at hb;cases hb;rw[ec,W4.len,ha,r8,Zy (o9 r1 h6)];exact h6
   case turn=>
    rintro m8 x J H6 ⟨k,rfl,s6,h6,k1,kr,rfl⟩;have il:=WJ M m5 k;refine⟨_,rfl,rfl,_,rfl,?_⟩;refine Y8 (fun q1=>?_) (fun q1=>?_)
    ·have q1:=Zo0 q1
     have kn:k≠rd:=fun z=>by rw[z,R.z] at q1;exact q1 rfl
     have t7:=s6 _ _ r9;have p4:X9 ((Yf t.length (JC t)).map nV) ((it t a k:Nat):Int)=some (V.int (wkF t a k)):=by
      refine ZR ?_;unfold Yf;rw[Zc,Zc,am il];show some (V.int ((JC t (it t a k):Nat):Int))=_;rw[Zay M il];rfl
     refine⟨_,fun _ _ z=>z,_,rfl,.inl ⟨rfl,_,.of h6⟩,_,rfl,_,rfl,r0,_,_,_,rfl,rfl,.of t7,p4,wk,_,_,rfl,rfl,h6,by rw[Yk];omega,?_⟩;rw[<-Za9];have s7:Zv O (upd H6 wk (.lst (ZH (k+1) (wkF t a)))):=s6.updr n9;have h7:upd H6 wk (.lst (ZH (k+1) (wkF t a))) wk=some (.lst (ZH (k+1) (wkF t a))):=Zt;generalize upd H6 wk (.lst (ZH (k+1) (wkF t a)))=H7 at s7 h7 ⊢;obtain⟨gr,ga,u1,_,u2,u3,u4⟩:=(G4.mono s7).at M il;refine⟨_,rfl,_,rfl,g,_,_,_,rfl,rfl,.of u1,u2,_,rfl,r,_,_,_,rfl,rfl,.of (s7 _ _ o8),m6,ga,_,_,_,rfl,rfl,u3.sq,u4 a m5,?_⟩;exact⟨rd-(k+1),by omega,k+1,rfl,s7,h7,by omega,by omega,rfl⟩
    ·have q1:=Zo1 q1
     have:k=rd:=by
      apply ah;intro z;exact R.nz k k1 (by omega) (by omega)
     rw[this] at h6;exact m8 _ _ ⟨_,rfl,s6,h6⟩
  ·rintro J O ⟨cs,v3,v4,v5,rfl,s4,W4⟩
   rw[cl] at W4;exact⟨_,rfl,q W cs O (fun b o hb=>s4 b o (X8 (o6 _ _ hb) (fun z=>by rw[z,p8] at hb;cases hb))) W4⟩
end
end C52
namespace N52
open PySem L2 PySem.Spec PyProof.Rows
noncomputable def top (i:Nat):Stmt:=PySem.Challenge.pw_classtab_k52_whole_things_in_another_ord.main.body.getD i (.Pass ⟨0,0,0,0⟩)
structure Bl (mg:Str->Option Value):Prop where
 list:mg "list"=none
 len:mg "len"=none
 abs:mg "abs"=none
 range:mg "range"=none
 tuple:mg "tuple"=none
 isi:mg "isinstance"=none
 all:mg "all"=none
 set:mg "set"=none
 repr:mg "repr"=none
 any:mg "any"=none
 int:mg "int"=none
 bool:mg "bool"=none
section
variable {P:Program}{w:World}{K:aa}{mg:Str->Option Value}{base:Heap}
end
section
variable {P:Program}{w:World}{K:aa}{mg:Str->Option Value}{base:Heap}
end
noncomputable abbrev ZdM:Stmt:=top 16
noncomputable def strip:Nat->Int->Int->Int
 |0,r,_=>r
 |g+1,r,p=>if r % p=0 then strip g (r / p) p else r
noncomputable def pr:Nat->Int->Int->List Int->List Int
 |0,_,_,ZE=>ZE
 |f+1,r,p,ZE=>if 1<r then pr f (strip 6 r p) (p+1) (if r % p=0 then ZE++[p] else ZE) else ZE
noncomputable def Zc8:Nat->Int->Int->Bool
 |0,r,_=>decide (r<=1)
 |f+1,r,p=>if 1<r then Zc8 f (strip 6 r p) (p+1) else true
noncomputable def Yr (n:Int):List Int:=pr 100 n 2 []
noncomputable def ZbG (n:Int):Int:=(Yr n).foldl (fun f p=>f / p*(p-1)) n
noncomputable def Znw:Nat->Int->Int->Int
 |0,a,_=>a
 |f+1,a,b=>if 0<b then Znw f b (a % b) else a
noncomputable def Zo5 (a b:Int):Int:=Znw 100 a b
noncomputable def Zkz (n:Int):Int:=(((Y1 1 n.toNat).filter fun k=>decide (Zo5 k n=1)).length:Nat)
noncomputable def okN (n:Nat):Bool:=Zc8 100 n 2 && (Yr n).all (fun p=>decide (2<=p) && decide (p<=60)) && decide (ZbG n=Zkz n) && decide (1<=ZbG n) && decide (ZbG n<=60)
theorem Zjn:((ae 61).all fun n=>n == 0 || okN n)=true:=by decide +kernel
theorem Zlx {n:Nat}(q:1<=n)(J:n<=60):Zc8 100 n 2=true/\(∀p∈Yr n,2<=p/\p<=60)/\ZbG n=Zkz n/\1<=ZbG n/\ZbG n<=60:=by
 have h:=aP.mp Zjn n (af.mpr (by omega));have j:(n == 0)=false:=by simp;omega
 rw[j,gw] at h;unfold okN at h;simp only[ag,decide_eq_true_eq,aP] at h;exact⟨h.1.1.1.1,h.1.1.1.2,h.1.1.2,h.1.2,h.2⟩
theorem Ua {r p:Int}(J:1<=r)(j:2<=p)(h:r % p=0):1<=r / p/\2*(r / p)<=r:=by
 have e:p*(r / p)=r:=Int.mul_ediv_cancel' (Int.dvd_of_emod_eq_zero h);generalize r / p=q at e;have M:1<=q:=by
  apply ah;intro O;have:p*q<=p*0:=Int.mul_le_mul_of_nonneg_left (by omega) (by omega);omega
 have:2*q<=p*q:=c7 j (by omega);omega
theorem Xt:∀(g:Nat) {r p:Int},1<=r->2<=p->1<=strip g r p/\strip g r p<=r
 |0,r,p,j,_=>⟨j,Int.le_refl _⟩
 |g+1,r,p,j,q=>by
  unfold strip;by_cases h:r % p=0
  ·rw[if_pos h]
   obtain⟨a,b⟩:=Ua j q h;have:=Xt g (r:=r / p) (p:=p) a q;omega
  ·rw[if_neg h];omega
theorem VI {g:Nat}{r p:Int}(h:¬r % p=0):strip g r p=r:=by
 cases g with
 |zero=>rfl
 |succ g=>unfold strip;rw[if_neg h]
noncomputable def Zbk:Sp:=fun q H Q _=>∃n:Nat,q=[.int n]/\1<=n/\n<=60/\∀l j,Zv H j->j l=some (.lst ((Yr n).map V.int))->Q (.ref l) j
section
variable {P:Program}{w:World}{K:aa}{mg:Str->Option Value}{base:Heap}
theorem Ze3 {f:Addr}{fd:FuncData}(F:WN K "primes_of" "primes_of" ZdM f fd)(T:Bl mg):Yb P w K mg base Yi 1 f fd ["n"] Zbk:=by
 refine F.ok (FS (N:=["n", "primes", "rest", "p"])) (fun vs H Q E h=>?_) (fun o8 A n9 s H vs Q E hr h=>?_)
 ·obtain⟨n,rfl,_⟩:=h;rfl
 ·obtain⟨n,rfl,n1,n60,q⟩:=h
  obtain⟨n6,o9,_⟩:=Zlx n1 n60;refine⟨_,Zs (ZD 1 rfl (ZW Zu)) (Zs (ZD 2 rfl (vn 0)) (Zs (ZD 3 rfl Zx)
   (Zs (Yg av (ZS Zkv (vn 2) Zx (Z6 _))
    (Zs (Jo (ZS Zd8 (Zz Z0 (vn 2) (vn 3)) Zx (Z6 _)) (Zw (Yq (Wj aO aT aV Z2 (vn 1) (pc (vn 3) Zu)))) YX)
    (Zs (Yg av (ZS Zd8 (Zz Z0 (vn 2) (vn 3)) Zx (Z6 _)) (Zw (ZD 2 rfl (Zz Wx (vn 2) (vn 3)))))
    (Zw (JA (i:=3) (Z1 (by kernel_rfl)) rfl (YL (by kernel_rfl)) Zx WY (.inl rfl))))))
   (Zw (ZF (vn 1)))))),?_⟩
  refine⟨by decide,fun l hl=>⟨_,rfl,?_⟩⟩;have s1:Zv H (upd H l (.lst [])):=Zv.upd hl;refine Yc (fun f O H'=>∃(r p:Int) (ZE:List Int),O=[some (.int n),some (.ref l),some (.int r),some (.int p)]/\H'=upd H l (.lst (ZE.map V.int))/\1<=r/\r<=60/\2<=p/\p+f=102/\ZE.length+f<=100/\Zc8 f r p=true/\pr f r p ZE=Yr n)
   (fun O H'=>∃r p:Option V,O=[some (.int n),some (.ref l),r,p]/\H'=upd H l (.lst ((Yr n).map V.int))) ?hend ⟨100,n,2,[],rfl,rfl,by omega,by omega,by omega,by omega,by decide,n6,rfl⟩ ?turn
  case hend=>
   rintro O H' ⟨r,p,rfl,rfl⟩;exact⟨_,rfl,q l _ (Zv.upd hl) Zt⟩
  case turn=>
   rintro m6 f O H' ⟨r,p,ZE,rfl,rfl,r1,o0,p2,pf,al,he,hp⟩;refine⟨_,rfl,_,_,rfl,rfl,_,rfl,?_⟩;refine Y8 (fun h1=>?_) (fun h1=>?_)
   rotate_left
   ·have h1:¬ 1<r:=fun z=>h1 (decide_eq_true z)
    refine m6 _ _ ⟨_,_,rfl,?_⟩;have:pr f r p ZE=ZE:=by cases f with|zero=>rfl|succ f=>unfold pr;rw[if_neg h1]
    rw[<-hp,this]
   have h1:1<r:=of_decide_eq_true h1;obtain⟨g,rfl⟩:∃g,f=g+1:=by
    cases f with
    |zero=>unfold Zc8 at he;have:=of_decide_eq_true he;omega
    |succ g=>exact⟨g,rfl⟩
   refine⟨_,fun _ _ z=>z,?_⟩;unfold Zc8 at he;unfold pr at hp;rw[if_pos h1] at he hp;have sz:(16777216:Nat)=sizeLine:=by decide
   refine⟨_,rfl,_,rfl,_,_,rfl,rfl,(by show (0:Int)<p;omega),rfl,_,rfl,?_⟩;obtain⟨j,m8,n8,hA⟩:∃j:List Int,j=(if r % p=0 then ZE++[p] else ZE)/\pr g (strip 6 r p) (p+1) j=Yr n/\j.length<=ZE.length+1:=⟨_,rfl,hp,by split <;> simp⟩
   obtain⟨o5,p3⟩:=Xt 6 (r:=r) (p:=p) r1 p2;refine Y8 (fun h2=>?_) (fun h2=>?_)
   ·have h2:r % p=0:=V.int.inj (of_decide_eq_true h2)
    refine⟨_,rfl,.inl ⟨rfl,_,.of Zt⟩,_,rfl,l,_,_,rfl,rfl,Zt,by rw[Za];omega,?_⟩;have e1:upd (upd H l (.lst (ZE.map V.int))) l (.lst (ZE.map V.int++[.int p]))=upd H l (.lst (j.map V.int)):=by
     rw[Ziv,m8,if_pos h2,aU];rfl
    rw[e1];refine Yc (fun m J M=>∃(U:Int) (g':Nat),J=[some (.int n),some (.ref l),some (.int U),some (.int p)]/\M=upd H l (.lst (j.map V.int))/\1<=U/\U<=60/\U<2 ^ g'/\strip g' U p=strip 6 r p/\m=U.toNat)
     (fun J M=>J=[some (.int n),some (.ref l),some (.int (strip 6 r p)),some (.int p)]/\M=upd H l (.lst (j.map V.int))) ?hend2 ⟨_,r,6,rfl,rfl,r1,o0,by omega,rfl,rfl⟩ ?turn2
    case hend2=>
     rintro J M ⟨rfl,rfl⟩;exact⟨_,rfl,_,_,rfl,rfl,g,by omega,strip 6 r p,p+1,j,rfl,rfl,o5,by omega,by omega,by omega,by omega,he,n8⟩
    case turn2=>
     rintro Y m J M ⟨U,g',rfl,rfl,a1,a2,a3,a4,rfl⟩;refine⟨_,rfl,_,rfl,_,_,rfl,rfl,(by show (0:Int)<p;omega),rfl,_,rfl,?_⟩;refine Y8 (fun h3=>?_) (fun h3=>?_)
     ·have h3:U % p=0:=V.int.inj (of_decide_eq_true h3)
      obtain⟨b1,b2⟩:=Ua a1 p2 h3;obtain⟨g2,rfl⟩:∃g2,g'=g2+1:=by
       cases g' with
       |zero=>simp at a3;omega
       |succ g2=>exact⟨g2,rfl⟩
      unfold strip at a4;rw[if_pos h3] at a4;refine⟨_,fun _ _ z=>z,_,rfl,_,rfl,_,_,rfl,rfl,⟨by omega,by omega⟩,(U / p).toNat,by omega,U / p,g2,rfl,rfl,b1,by omega,?_,a4,rfl⟩;rw[Int.pow_succ] at a3;omega
     ·have h3:¬U % p=0:=fun z=>h3 (decide_eq_true (congrArg V.int z))
      rw[VI h3] at a4;exact Y _ _ ⟨by rw[a4],rfl⟩
   ·have h2:¬r % p=0:=fun z=>h2 (decide_eq_true (congrArg V.int z))
    have e1:upd H l (.lst (ZE.map V.int))=upd H l (.lst (j.map V.int)):=by rw[m8,if_neg h2]
    rw[e1];have e2:strip 6 r p=r:=VI h2;refine Yc (fun m J M=>J=[some (.int n),some (.ref l),some (.int r),some (.int p)]/\M=upd H l (.lst (j.map V.int)))
     (fun J M=>J=[some (.int n),some (.ref l),some (.int r),some (.int p)]/\M=upd H l (.lst (j.map V.int))) ?hend3 ⟨0,rfl,rfl⟩ ?turn3
    case hend3=>
     rintro J M ⟨rfl,rfl⟩;exact⟨_,rfl,_,_,rfl,rfl,g,by omega,r,p+1,j,rfl,rfl,r1,by omega,by omega,by omega,by omega,e2▸he,e2▸n8⟩
    case turn3=>
     rintro m5 m J M ⟨rfl,rfl⟩;refine⟨_,rfl,_,rfl,_,_,rfl,rfl,(by show (0:Int)<p;omega),rfl,_,rfl,?_⟩;exact ZlL (fun z=>h2 (V.int.inj (of_decide_eq_true z))) (m5 _ _ ⟨rfl,rfl⟩)
end
section
variable {P:Program}{w:World}{K:aa}{mg:Str->Option Value}{base:Heap}
theorem ZgC (m:Nat):(aA m [V.int 0]).flatten=(aA m (0:Int)).map V.int:=by
 induction m with
 |zero=>rfl
 |succ m j=>rw[bm,bY,j,bm];rfl
end
section
variable {P:Program}{w:World}{K:aa}{mg:Str->Option Value}{base:Heap}
end
end N52
namespace L2
open PySem PySem.Spec PyProof.Rows
end L2
namespace N52
open PySem L2 PySem.Spec PyProof.Rows
section
variable {P:Program}{w:World}{K:aa}{mg:Str->Option Value}{base:Heap}
end
end N52
set_option maxHeartbeats 1000000
namespace Num
noncomputable def co (a:List Int)(i:Nat):Int:=a.getD i 0
theorem YQ (i:Nat):co [] i=0:=by simp[co]
theorem YN (x:Int)(r:List Int):co (x::r) 0=x:=by simp[co]
theorem Wy (x:Int)(r:List Int)(i:Nat):co (x::r) (i+1)=co r i:=by simp[co]
theorem Xb {a:List Int}{i:Nat}(h:a.length<=i):co a i=0:=by
 unfold co;rw[Zb,ak h];rfl
theorem Wq {a:List Int}{i:Nat}(h:i<a.length):a[i]?=some (co a i):=by
 unfold co;rw[Zb,Zf h];rfl
noncomputable def Uw:List Int->List Int->List Int
 | [],b=>b
 |a,[]=>a
 |x::a,y::b=>(x+y)::Uw a b
noncomputable def vsc (c:Int)(a:List Int):List Int:=a.map (c * ·)
theorem XL:∀(a b:List Int) (i:Nat),co (Uw a b) i=co a i+co b i
 | [],b,i=>by rw[Uw,YQ,dA]
 |x::a,[],i=>by rw[Uw,YQ,cG];intro z;cases z
 |x::a,y::b,0=>by rw[Uw,YN,YN,YN]
 |x::a,y::b,i+1=>by rw[Uw,Wy,Wy,Wy,XL a b i]
theorem Zc9 (c:Int):∀(a:List Int) (i:Nat),co (vsc c a) i=c*co a i
 | [],i=>by unfold vsc;rw[eZ,YQ,cr]
 |x::a,0=>by unfold vsc;rw[aQ,YN,YN]
 |x::a,i+1=>by
  have:=Zc9 c a i;unfold vsc at this ⊢;rw[aQ,Wy,Wy,this]
noncomputable def WZ:List Int->List (List Int)->List Int
 |_,[]=>[]
 |a,r::j=>Uw (vsc (co a 0) r) (WZ a.tail j)
theorem ZjW (a:List Int)(i:Nat):co a.tail i=co a (i+1):=by
 cases a with
 |nil=>rw[List.tail_nil,YQ,YQ]
 |cons x r=>rw[cV,Wy]
theorem ZV (a:List Int)(r:List Int)(q:List (List Int))(j:Nat):co (WZ a (r::q)) j=co a 0*co r j+co (WZ a.tail q) j:=by
 rw[WZ,XL,Zc9]
noncomputable def ro (R:List (List Int))(i:Nat):List Int:=R.getD i []
theorem Zaq (r:List Int)(j:List (List Int)):ro (r::j) 0=r:=by simp[ro]
theorem Zar (r:List Int)(j:List (List Int))(i:Nat):ro (r::j) (i+1)=ro j i:=by simp[ro]
theorem Zla (i:Nat):ro [] i=[]:=by simp[ro]
theorem ZaI (j:Nat)(v:Int):∀(a:List Int) (i:Nat) (R:List (List Int)),i<a.length->co (WZ (a.set i v) R) j=co (WZ a R) j+(v-co a i)*co (ro R i) j
 |a,i,[],h=>by rw[Zla,YQ,cr,cG];unfold WZ;rfl
 | [],i,r::q,h=>by cases h
 |x::a,0,r::q,h=>by
  rw[List.set_cons_zero,ZV,ZV,YN,YN,Zaq,cV,cV,lz];omega
 |x::a,i+1,r::q,h=>by
  rw[List.set_cons_succ,ZV,ZV,YN,YN,Wy,Zar,cV,cV,ZaI j v a i q (ff h)];omega
theorem XH:∀(R:List (List Int)) (j:Nat),co (WZ [] R) j=0
 | [],j=>by unfold WZ;exact YQ j
 |r::q,j=>by rw[ZV,YQ,List.tail_nil,XH q j,ce,cG]
theorem UY:∀(m:Nat) (R:List (List Int)) (j:Nat),co (WZ (aA m 0) R) j=0
 |0,R,j=>XH R j
 |m+1,[],j=>by unfold WZ;exact YQ j
 |m+1,r::q,j=>by rw[ZV,bm,YN,cV,UY m q j,ce,cG]
noncomputable def sig (n:Nat)(R:List (List Int))(j:Nat):List Int->Nat->Int
 | [],_=>0
 |x::q,k=>x*co (ro R (k % n)) j+sig n R j q (k+1)
noncomputable def Vk (n:Nat):List Int->Nat->List Int->List Int
 | [],_,ZE=>ZE
 |x::j,k,ZE=>Vk n j (k+1) (ZE.set (k % n) (co ZE (k % n)+x))
noncomputable def Zb7 (n:Nat)(j:List Int):List Int:=Vk n j 0 (aA n 0)
theorem Zb0 (n:Nat)(q:0<n)(R:List (List Int))(j:Nat):∀(J:List Int) (k:Nat) (ZE:List Int),ZE.length=n->co (WZ (Vk n J k ZE) R) j=co (WZ ZE R) j+sig n R j J k
 | [],k,ZE,h=>by rw[Vk,sig,cG]
 |x::M,k,ZE,h=>by
  rw[Vk,Zb0 n q R j M (k+1) _ (by rw[be,h]),ZaI j _ ZE (k % n) R (by rw[h];exact bP _ q),sig];have e:co ZE (k % n)+x-co ZE (k % n)=x:=by omega
  rw[e];omega
theorem Zfd (n:Nat)(J:0<n)(R:List (List Int))(q:List Int)(j:Nat):co (WZ (Zb7 n q) R) j=sig n R j q 0:=by
 unfold Zb7;rw[Zb0 n J R j q 0 _ (dG ..),UY,dA]
theorem UO (n:Nat)(R:List (List Int))(j:Nat)(B M:Nat)(hR:∀i,(co (ro R i) j).natAbs<=M):∀(a:List Int) (k:Nat),(∀x∈a,x.natAbs<=B)->(sig n R j a k).natAbs<=a.length*(B*M)
 | [],k,h=>by simp[sig]
 |x::a,k,h=>by
  rw[sig,Zi,b8];have J:=UO n R j B M hR a (k+1) fun y q=>h y (ao _ q);have O:(x*co (ro R (k % n)) j).natAbs<=B*M:=by
   rw[Int.natAbs_mul];exact im (h x aq) (hR _)
  have U:=Int.natAbs_add_le (x*co (ro R (k % n)) j) (sig n R j a (k+1));omega
noncomputable def lk (n:Nat)(s:Nat)(g:Nat->Int):Nat->Int:=fun k=>g k-g ((k+(n-s)) % n)
noncomputable def Uv (n:Nat)(j:List Nat)(g:Nat->Int):Nat->Int:=j.foldl (fun g s=>lk n s g) g
theorem Zeg (n:Nat):∀(j:List Nat) (g h:Nat->Int) (k:Nat),Uv n j (fun t=>g t+h t) k=Uv n j g k+Uv n j h k
 | [],g,h,k=>rfl
 |s::j,g,h,k=>by
  show Uv n j (lk n s fun t=>g t+h t) k=Uv n j (lk n s g) k+Uv n j (lk n s h) k;rw[<-Zeg n j (lk n s g) (lk n s h) k];congr 1;funext t;unfold lk;show g t+h t-(g ((t+(n-s)) % n)+h ((t+(n-s)) % n))=_;omega
theorem Zhj (n:Nat)(c:Int):∀(j:List Nat) (g:Nat->Int) (k:Nat),Uv n j (fun t=>c*g t) k=c*Uv n j g k
 | [],g,k=>rfl
 |s::j,g,k=>by
  show Uv n j (lk n s fun t=>c*g t) k=c*Uv n j (lk n s g) k;rw[<-Zhj n c j (lk n s g) k];congr 1;funext t;unfold lk;rw[jp]
theorem ZbY (n:Nat):∀(j:List Nat) (k:Nat),Uv n j (fun _=>0) k=0
 | [],k=>rfl
 |s::j,k=>by
  show Uv n j (lk n s fun _=>0) k=0;have:(lk n s fun _=>(0:Int))=fun _=>0:=by funext t;unfold lk;rfl
  rw[this];exact ZbY n j k
theorem W9 (n:Nat)(J:0<n):∀(j:List Nat) (g h:Nat->Int),(∀t,t<n->g t=h t)->∀k,k<n->Uv n j g k=Uv n j h k
 | [],g,h,e,k,q=>e k q
 |s::j,g,h,e,k,q=>by
  refine W9 n J j (lk n s g) (lk n s h) (fun t M=>?_) k q;unfold lk;rw[e t M,e _ (bP _ J)]
noncomputable def lkL (n s:Nat)(a:List Int):List Int:=List.zipWith (· - ·) a (a.drop s++a.take s)
theorem Zeh {n s:Nat}{a:List Int}(h:a.length=n):(lkL n s a).length=n:=by
 unfold lkL;rw[List.length_zipWith,Zd,cH,bT];omega
theorem ZlW {n s k:Nat}{a:List Int}(h:a.length=n)(Y:s<=n)(J:k<n):co (lkL n s a) k=co a k-co a ((k+s) % n):=by
 have hl:(a.drop s++a.take s).length=n:=by
  rw[Zd,cH,bT];omega
 have M:(lkL n s a)[k]?=some (a[k]'(by omega)-(a.drop s++a.take s)[k]'(by omega)):=by
  unfold lkL;rw[List.getElem?_zipWith,Zf (by omega),Zf (by omega)]
 have g2:=Wq (a:=lkL n s a) (i:=k) (by rw[Zeh h];exact J);rw[M] at g2;have O:co a k=a[k]'(by omega):=by
  have:=Wq (a:=a) (i:=k) (by omega);rw[Zf (by omega)] at this;exact (aD this).symm
 have U:co a ((k+s) % n)=(a.drop s++a.take s)[k]'(by omega):=by
  have j:(k+s) % n<a.length:=by rw[h];exact bP _ (by omega)
  have:=Wq (a:=a) j;rw[Zf j] at this;rw[<-aD this];by_cases hc:k<n-s
  ·have q:(k+s) % n=k+s:=bM (by omega)
   rw[List.getElem_append_left (by rw[cH];omega),List.getElem_drop];congr 1;omega
  ·have q:(k+s) % n=k+s-n:=by
    rw[lT (by omega),bM (by omega)]
   rw[List.getElem_append_right (by rw[cH];omega),List.getElem_take];congr 1;rw[cH];omega
 rw[O,U];exact (aD g2).symm
noncomputable def ZlE (n:Nat)(j:List Nat)(a:List Int):List Int:=j.foldl (fun a s=>lkL n (n-s) a) a
theorem ZeB {n:Nat}:∀(j:List Nat) (a:List Int),a.length=n->∀k,k<n->co (ZlE n j a) k=Uv n j (co a) k
 | [],a,h,k,q=>rfl
 |s::j,a,h,k,q=>by
  show co (ZlE n j (lkL n (n-s) a)) k=Uv n j (lk n s (co a)) k;rw[ZeB j _ (Zeh h) k q];exact W9 n (by omega) j _ _ (fun t J=>ZlW h (Nat.sub_le _ _) J) k q
noncomputable def YI:Nat->(Nat->Int)->Int
 |0,_=>0
 |n+1,f=>f 0+YI n fun t=>f (t+1)
theorem Wc:∀(n:Nat) (f g:Nat->Int),(∀t,t<n->f t=g t)->YI n f=YI n g
 |0,f,g,h=>rfl
 |n+1,f,g,h=>by rw[YI,YI,h 0 (kB _),Wc n _ _ fun t j=>h (t+1) (gJ j)]
theorem XT:∀(n:Nat) (f:Nat->Int),(∀t,t<n->f t=0)->YI n f=0
 |0,f,h=>rfl
 |n+1,f,h=>by rw[YI,h 0 (kB _),XT n _ fun t j=>h (t+1) (gJ j),cG]
theorem Zbe:∀(n j:Nat) (f:Nat->Int),j<n->(∀t,t<n->t≠j->f t=0)->YI n f=f j
 |0,j,f,q,h=>absurd q (eS _)
 |n+1,0,f,q,h=>by rw[YI,XT n _ fun t J=>h (t+1) (gJ J) (jb _),cG]
 |n+1,j+1,f,q,h=>by
  rw[YI,h 0 (kB _) (jb _).symm,dA];exact Zbe n j (fun t=>f (t+1)) (ff q) fun t J M=>h (t+1) (gJ J) fun z=>M (cy z)
theorem Zei (j:Nat):∀(R:List (List Int)) (a:List Int),co (WZ a R) j=YI R.length fun t=>co a t*co (ro R t) j
 | [],a=>by rw[WZ,YQ];rfl
 |r::q,a=>by
  rw[ZV,Zei j q a.tail,Zi,YI,Zaq];congr 1;refine Wc _ _ _ fun t J=>?_;rw[ZjW,Zar]
noncomputable def YE (n k:Nat):List Int:=(ae n).map fun t=>if t=k then 1 else 0
theorem ZaT {n k t:Nat}(h:t<n):co (YE n k) t=if t=k then 1 else 0:=by
 unfold YE co;rw[Zb,Zc,am h];rfl
noncomputable def stN (step:Nat):List Int->Nat->List Int->List Int
 | [],_,ZE=>ZE
 |x::j,k,ZE=>stN step j (k+1) (ZE.set (k*step) x)
noncomputable def stM (j:List Int)(step:Nat):List Int:=stN step j 0 (aA ((j.length-1)*step+1) 0)
theorem Zdo (step:Nat):∀(j:List Int) (k:Nat) (ZE:List Int),(stN step j k ZE).length=ZE.length
 | [],k,ZE=>rfl
 |x::q,k,ZE=>by rw[stN,Zdo step q,be]
theorem Zdp (j:List Int)(step:Nat):(stM j step).length=(j.length-1)*step+1:=by unfold stM;rw[Zdo,Ze]
noncomputable def Uu:List Int->Nat->Int->List Int->List Int
 | [],_,_,rest=>rest
 |d::j,b,c,rest=>Uu j (b+1) c (rest.set b (co rest b-c*d))
theorem Zd2:∀(ds:List Int) (b:Nat) (c:Int) (rest:List Int),(Uu ds b c rest).length=rest.length
 | [],b,c,rest=>rfl
 |d::ds,b,c,rest=>by rw[Uu,Zd2 ds,be]
noncomputable def ZgK (ds:List Int)(top:Nat):Nat->List Int->List Int->List Int
 |0,found,_=>found
 |k+1,found,rest=>ZgK ds top k (found.set k (co rest (k+top))) (Uu ds k (co rest (k+top)) rest)
noncomputable def Zd1 (j ds:List Int):List Int:=ZgK ds (ds.length-1) (j.length-(ds.length-1)) (aA (j.length-(ds.length-1)) 0) j
theorem ZhY {a:List Int}{i k:Nat}{v:Int}:co (a.set i v) k=if i=k/\i<a.length then v else co a k:=by
 unfold co;rw[Zb,iO,Zb];by_cases h:i=k
 ·subst h
  by_cases j:i<a.length
  ·rw[if_pos rfl,if_pos j,if_pos ⟨rfl,j⟩];rfl
  ·rw[if_pos rfl,if_neg j,if_neg fun z=>j z.2,ak (by omega)]
 ·rw[if_neg h,if_neg fun z=>h z.1]
theorem ZcP (c:Int):∀(ds:List Int) (b:Nat) (rest:List Int) (i:Nat),b+ds.length<=rest.length->co (Uu ds b c rest) i=if b<=i/\i<b+ds.length then co rest i-c*co ds (i-b) else co rest i
 | [],b,rest,i,h=>by rw[Uu,if_neg (by rw[jh];omega)]
 |d::ds,b,rest,i,h=>by
  rw[Zi] at h ⊢;rw[Uu,ZcP c ds (b+1) _ i (by rw[be];omega),ZhY];by_cases j:i=b
  ·subst j
   rw[if_neg (by omega),if_pos ⟨rfl,by omega⟩,if_pos ⟨Zq _,by omega⟩,cF,YN]
  ·rw[if_neg (show ¬(b=i/\b<rest.length) from fun z=>j z.1.symm)]
   by_cases q:b+1<=i/\i<b+1+ds.length
   ·rw[if_pos q,if_pos ⟨by omega,by omega⟩,show i-b=(i-(b+1))+1 by omega,Wy]
   ·rw[if_neg q,if_neg (by omega)]
theorem Zhk (d:Int)(ds:List Int)(R:List (List Int))(b j:Nat):co (WZ (d::ds) (R.drop b)) j=d*co (ro R b) j+co (WZ ds (R.drop (b+1))) j:=by
 by_cases h:b<R.length
 ·rw[bU h,ZV,YN,cV]
  congr 2;unfold ro;rw[Zb,Zf h];rfl
 ·rw[e7 (by omega),e7 (by omega)]
  unfold ro;rw[Zb,ak (by omega)];show co (WZ (d::ds) []) j=d*co [] j+co (WZ ds []) j;rw[WZ,WZ,YQ,cr,cG]
theorem Zej (c:Int)(R:List (List Int))(j:Nat):∀(ds:List Int) (b:Nat) (rest:List Int),b+ds.length<=rest.length->co (WZ (Uu ds b c rest) R) j=co (WZ rest R) j-c*co (WZ ds (R.drop b)) j
 | [],b,rest,h=>by rw[Uu,XH,cr,kF]
 |d::ds,b,rest,h=>by
  rw[Zi] at h;rw[Uu,Zej c R j ds (b+1) _ (by rw[be];omega),ZaI j _ rest b R (by omega),Zhk,Int.mul_add];have e:(co rest b-c*d-co rest b)*co (ro R b) j=- (c*(d*co (ro R b) j)):=by
   rw[show co rest b-c*d-co rest b=-(c*d) by omega,gv,bZ]
  rw[e];omega
noncomputable def Xi (s:List Int×Int)(p:Int):List Int×Int:=(Zd1 (stM s.1 p.toNat) s.1,s.2*p)
noncomputable def WW (n:Nat)(j:List Int):List Int:=stM (j.foldl Xi ([-1,1],1)).1 ((n:Int) / (j.foldl Xi ([-1,1],1)).2).toNat
noncomputable def small (a:List Int):Bool:=a.all fun x=>decide (x.natAbs<=100)
noncomputable def Zju (s:List Int×Int):Bool:=small s.1 && decide (2<=s.1.length) && decide (s.1.length<=61) && decide (1<=s.2) && decide (s.2<=60)
noncomputable def XG (s:List Int×Int):List Int->Bool
 | []=>Zju s
 |p::j=>Zju s && decide (2<=p) && decide (p<=60) && XG (Xi s p) j
noncomputable def WH (j:List Int)(top:Nat)(r:List Int):List Int:=Uw (0::r.take (top-1)) (vsc (- co r (top-1)) (j.take top))
noncomputable def Z3 (j:List Int)(top:Nat):Nat->List Int->List (List Int)
 |0,_=>[]
 |m+1,r=>r::Z3 j top m (WH j top r)
noncomputable def RT (n:Nat)(j:List Int):List (List Int):=Z3 (WW n j) ((WW n j).length-1) n (YE ((WW n j).length-1) 0)
noncomputable def Zj2 (a:List Int):Bool:=a.all fun x=>x == 0
noncomputable def VJ (n:Nat)(j:List Int):List Nat:=j.map fun p=>n / p.toNat
noncomputable def Xs (n:Nat)(R:List (List Int))(j s:Nat):Nat->List Int
 |0=>[]
 |m+1=>Uw (Xs n R j s m) (ro R ((j+m*s) % n))
theorem ZaU {a:List Int}(h:Zj2 a=true)(i:Nat):co a i=0:=by
 by_cases j:i<a.length
 ·have:=Wq j
  have q:=aP.mp h _ (aF this);simpa using q
 ·exact Xb (by omega)
theorem Uf {a:List Int}(h:small a=true)(i:Nat):(co a i).natAbs<=100:=by
 by_cases j:i<a.length
 ·have:=Wq j
  have q:=aP.mp h _ (aF this);simpa using q
 ·rw[Xb (by omega)];decide
structure Good (n:Nat)(ps least:List Int)(top:Nat)(R:List (List Int)):Prop where
 n1:1<=n
 ls:XG ([-1,1],1) ps=true
 l2:least.length=top+1
 t1:1<=top
 tn:top<=n
 sm:small least=true
 mon:co least top=1
 len:R.length=n
 rsm:∀i j,(co (ro R i) j).natAbs<=100
 rlen:∀i,i<n->(ro R i).length=top
 un:∀k,k<top->ro R k=YE top k
 tails:∀m,m<n-top->∀j,co (WZ least (R.drop m)) j=0
 look:∀k,k<n->∀t,t<n->Uv n (VJ n ps) (fun t=>co (ro R k) t-if t=k then 1 else 0) t=0
 row:∀p∈ps,∀a,a<n->∀j,co (Xs n R a (n / p.toNat) p.toNat) j=0
 nz:∀k,k<n->∃j,j<top/\co (ro R k) j≠0
 div:∀p∈ps,p.toNat*(n / p.toNat)=n
theorem ZmQ {R:List (List Int)}{i:Nat}(h:R.length<=i):ro R i=[]:=by
 unfold ro;rw[Zb,ak h];rfl
noncomputable def Zny {β:Type}(x:Int)(k:Int->β):β:=match x with
 | .ofNat m=>(match m with
  |0=>k (.ofNat 0)
  |m+1=>k (.ofNat (m+1)))
 | .negSucc m=>(match m with
  |0=>k (.negSucc 0)
  |m+1=>k (.negSucc (m+1)))
theorem ZjS {β:Type}(x:Int)(k:Int->β):Zny x k=k x:=by
 cases x with
 |ofNat m=>cases m <;> rfl
 |negSucc m=>cases m <;> rfl
noncomputable def fL {β:Type}:List Int->(List Int->β)->β
 | [],k=>k []
 |x::j,k=>Zny x fun y=>fL j fun q=>k (y::q)
theorem Zb9 {β:Type}:∀(a:List Int) (k:List Int->β),fL a k=k a
 | [],k=>rfl
 |x::j,k=>by rw[fL,ZjS,Zb9 j]
noncomputable def nx (j:List Int)(top:Nat):Nat->List Int->List Int
 |0,r=>r
 |m+1,r=>nx j top m (WH j top r)
noncomputable def nxB (j:List Int)(top:Nat):Nat->List Int->(List Int->Bool)->Bool
 |0,r,k=>k r
 |m+1,r,k=>fL (WH j top r) fun q=>nxB j top m q k
theorem Zhb (j:List Int)(top:Nat):∀(m:Nat) (r:List Int) (k:List Int->Bool),nxB j top m r k=k (nx j top m r)
 |0,r,k=>rfl
 |m+1,r,k=>by rw[nxB,Zb9,Zhb j top m,nx]
noncomputable def ZdR (j:List Int)(top:Nat):Nat->Nat->List Int->Bool
 |0,_,r=>decide (r=YE top 0)
 |m+1,k,r=>small r && decide (r.length=top) && (decide (top<=k) || decide (r=YE top k)) && fL (WH j top r) (ZdR j top m (k+1))
noncomputable def ZiB (q:List Int)(top s:Nat):Nat->List Int->List Int->Bool
 |0,_,ZE=>Zj2 ZE
 |j+1,r,ZE=>fL (Uw ZE r) fun J=>nxB q top s r fun M=>ZiB q top s j M J
noncomputable def ZnR (n:Nat)(q:List Int)(j:List Int)(top:Nat):Bool:=
 decide (2<=j.length) && decide (top+1<=n\/(n=1/\top=1)) && small j && decide (co j top=1) && ZdR j top n 0 (YE top 0) && Zj2 (WZ j (Z3 j top (top+1) (YE top 0))) &&
  (decide (n=1) || Zj2 (ZlE n (VJ n q) (j++aA (n-(top+1)) 0))) && q.all (fun p=>decide (p.toNat*(n / p.toNat)=n) && ZiB j top (n / p.toNat) p.toNat (YE top 0) [])
noncomputable def chk (n:Nat)(q:List Int):Bool:=XG ([-1,1],1) q && fL (WW n q) fun j=>ZnR n q j (j.length-1)
theorem VN (j:List Int)(top:Nat):∀(m:Nat) (r:List Int),(Z3 j top m r).length=m
 |0,r=>rfl
 |m+1,r=>by rw[Z3,Zi,VN j top m]
theorem Jh (j:List Int)(top:Nat):∀(m:Nat) (r:List Int),nx j top (m+1) r=WH j top (nx j top m r)
 |0,r=>rfl
 |m+1,r=>by rw[nx,Jh j top m (WH j top r),nx]
theorem Zha (j:List Int)(top a:Nat):∀(b:Nat) (r:List Int),nx j top (a+b) r=nx j top b (nx j top a r)
 |0,r=>rfl
 |b+1,r=>by rw[Nat.add_succ,Jh,Jh,Zha j top a b r]
theorem ZdT (j:List Int)(top:Nat):∀(m:Nat) (r:List Int) (k:Nat),k<m->ro (Z3 j top m r) k=nx j top k r
 |0,r,k,h=>absurd h (eS _)
 |m+1,r,0,h=>by rw[Z3,Zaq,nx]
 |m+1,r,k+1,h=>by rw[Z3,Zar,ZdT j top m _ k (ff h),nx]
theorem Zbw (j:List Int)(top:Nat):∀(m k:Nat) (r:List Int),ZdR j top m k r=true->
  nx j top m r=YE top 0/\∀i,i<m->small (nx j top i r)=true/\(nx j top i r).length=top/\(k+i<top->nx j top i r=YE top (k+i))
 |0,k,r,h=>⟨of_decide_eq_true h,fun i J=>absurd J (eS _)⟩
 |m+1,k,r,h=>by
  rw[ZdR,Zb9] at h;simp only[ag,decide_eq_true_eq,bq] at h;obtain⟨⟨⟨M,O⟩,q⟩,U⟩:=h;obtain⟨Y,g2⟩:=Zbw j top m (k+1) _ U;refine⟨by rw[nx];exact Y,fun i J=>?_⟩;cases i with
  |zero=>
   refine⟨M,O,fun z=>?_⟩;rcases q with q|q
   ·omega
   ·exact q
  |succ i=>
   obtain⟨q1,q2,q3⟩:=g2 i (ff J);rw[nx];exact⟨q1,q2,fun z=>by rw[q3 (by omega)];congr 1;omega⟩
theorem JW (j:List Int)(top:Nat)(r:List Int)(i:Nat):co (WH j top r) i=(if i=0\/top<=i then 0 else co r (i-1))-co r (top-1)*co (j.take top) i:=by
 have e:co (0::r.take (top-1)) i=if i=0\/top<=i then 0 else co r (i-1):=by
  cases i with
  |zero=>rw[YN,if_pos (.inl rfl)]
  |succ i=>
   rw[Wy,dz];by_cases h:i<top-1
   ·rw[if_neg (by omega)]
    unfold co;rw[Zb,Zb,iE,if_pos h]
   ·rw[if_pos (by omega)]
    exact Xb (by rw[bT];omega)
 unfold WH;rw[XL,Zc9,e,gv];omega
theorem XY (j:List Int)(top:Nat){r:List Int}(h:∀i,co r i=0)(i:Nat):co (WH j top r) i=0:=by
 rw[JW,h,h,ce];split <;> rfl
theorem ZbQ (j:List Int)(top:Nat)(i:Nat):∀(Q:List (List Int)) (a:List Int),co (WH j top (WZ a Q)) i=co (WZ a (Q.map (WH j top))) i
 | [],a=>by
  rw[eZ];refine (XY j top (fun t=>?_) i).trans ?_
  ·rw[WZ];exact YQ t
  ·rw[WZ];exact (YQ i).symm
 |q::J,a=>by
  rw[aQ,ZV,<-ZbQ j top i J a.tail,JW,JW,JW,ZV,ZV];by_cases h:i=0\/top<=i
  ·rw[if_pos h,if_pos h,if_pos h,lA,jp,bZ]
   omega
  ·rw[if_neg h,if_neg h,if_neg h,lA,jp,bZ]
   omega
theorem Zbv (j:List Int)(top:Nat):∀(m:Nat) (r:List Int),(Z3 j top m r).map (WH j top)=Z3 j top m (WH j top r)
 |0,r=>rfl
 |m+1,r=>by rw[Z3,aQ,Zbv j top m,Z3]
theorem ZbZ (q:List Int)(top j:Nat):∀(a:List Int) (m:Nat) (r:List Int),a.length<=m->co (WZ a (Z3 q top m r)) j=co (WZ a (Z3 q top a.length r)) j
 | [],m,r,h=>by rw[XH,XH]
 |x::a,0,r,h=>absurd h (Nat.not_succ_le_zero _)
 |x::a,m+1,r,h=>by
  rw[Zi,Z3,Z3,ZV,ZV,cV,ZbZ q top j a m _ (Nat.le_of_succ_le_succ h)]
theorem U3 (j:List Int)(top:Nat):∀(b m:Nat) (r:List Int),(Z3 j top m r).drop b=Z3 j top (m-b) (nx j top b r)
 |0,m,r=>by rw[List.drop_zero,dw,nx]
 |b+1,0,r=>by rw[Nat.zero_sub,Z3,Z3,List.drop_nil]
 |b+1,m+1,r=>by rw[Z3,List.drop_succ_cons,U3 j top b m,nx,Nat.add_sub_add_right]
theorem Zbc (q:List Int)(top:Nat){r:List Int}(h:∀j,co (WZ q (Z3 q top q.length r)) j=0):∀(m j:Nat),co (WZ q (Z3 q top q.length (nx q top m r))) j=0
 |0,j=>h j
 |m+1,j=>by
  rw[Jh,<-Zbv,<-ZbQ];exact XY q top (fun i=>Zbc q top h m i) j
theorem Zdn (q:List Int)(top s:Nat):∀(j:Nat) (r ZE:List Int),ZiB q top s j r ZE=true->∀i,co ZE i+YI j (fun t=>co (nx q top (t*s) r) i)=0
 |0,r,ZE,h,i=>by rw[YI,cG];exact ZaU h i
 |j+1,r,ZE,h,i=>by
  rw[ZiB,Zb9,Zhb] at h;have:=Zdn q top s j _ _ h i;rw[XL] at this;rw[YI,fV,nx];have e:(YI j fun t=>co (nx q top ((t+1)*s) r) i)=YI j fun t=>co (nx q top (t*s) (nx q top s r)) i:=by
   refine Wc _ _ _ fun t _=>?_;rw[<-Zha,b8,Nat.add_comm]
  rw[e];omega
theorem Ue (n:Nat)(R:List (List Int))(a s i:Nat):∀m:Nat,co (Xs n R a s m) i=YI m fun t=>co (ro R ((a+t*s) % n)) i
 |0=>by rw[Xs,YQ];rfl
 |m+1=>by
  have j:∀(m:Nat) (f:Nat->Int),YI (m+1) f=YI m f+f m:=by
   intro m;induction m with
   |zero=>intro f;rw[YI,YI,YI];omega
   |succ m q=>
    intro f;rw[YI,q,YI];omega
  rw[Xs,XL,Ue n R a s i m,j]
theorem ZlF (n s:Nat)(j:0<n)(g:Nat->Int)(t:Nat):lk n s (fun t=>g ((t+(n-1)) % n)) t=lk n s g ((t+(n-1)) % n):=by
 unfold lk;have e:((t+(n-s)) % n+(n-1)) % n=((t+(n-1)) % n+(n-s)) % n:=by
  rw[gY,gY];congr 1;omega
 show g ((t+(n-1)) % n)-g (((t+(n-s)) % n+(n-1)) % n)=_;rw[e]
theorem Zef (n:Nat)(q:0<n):∀(j:List Nat) (g:Nat->Int) (t:Nat),Uv n j (fun t=>g ((t+(n-1)) % n)) t=Uv n j g ((t+(n-1)) % n)
 | [],g,t=>rfl
 |s::j,g,t=>by
  show Uv n j (lk n s fun t=>g ((t+(n-1)) % n)) t=Uv n j (lk n s g) ((t+(n-1)) % n);rw[<-Zef n q j (lk n s g) t];congr 1;funext u;exact ZlF n s q g u
theorem ZjM {n:Nat}{U:List Int}(n1:1<=n)(h:chk n U=true):Good n U (WW n U) ((WW n U).length-1) (RT n U):=by
 unfold chk at h;rw[ag,Zb9] at h;obtain⟨a1,h⟩:=h;unfold RT;generalize WW n U=q at h ⊢;generalize M:q.length-1=top at h ⊢;unfold ZnR at h;simp only[ag,bq,decide_eq_true_eq,aP] at h;obtain⟨⟨⟨⟨⟨⟨⟨h1,h2⟩,h3⟩,h4⟩,h5⟩,h6⟩,h7⟩,h8⟩:=h;have ll:q.length=top+1:=by omega
 obtain⟨m5,rr⟩:=Zbw q top n 0 _ h5;have J:∀k,k<n->ro (Z3 q top n (YE top 0)) k=nx q top k (YE top 0):=fun k O=>ZdT q top n _ k O;have tl:∀m j,co (WZ q (Z3 q top q.length (nx q top m (YE top 0)))) j=0:=fun m j=>Zbc q top (fun j=>by rw[ll];exact ZaU h6 j) m j;have t1:1<=top:=by omega
 have tn:top<=n:=by omega
 have u0:∀i,co (YE top 0) i=if i=0 then 1 else 0:=fun i=>by
  by_cases Y:i<top
  ·exact ZaT Y
  ·rw[Xb (by unfold YE;rw[Za,Zg];omega),if_neg (by omega)]
 have n8:∀k,nx q top ((k+1) % n) (YE top 0)=WH q top (nx q top (k % n) (YE top 0)):=fun k=>by
  rw[<-Jh];have O:=bP k (show n > 0 by omega);by_cases hc:k % n+1<n
  ·rw[<-gY,bM hc]
  ·have e:k % n+1=n:=by omega
   rw[<-gY,e,Nat.mod_self,m5,nx]
 refine⟨n1,a1,ll,t1,tn,h3,h4,VN ..,fun i j=>?_,fun i Y=>by rw[J i Y];exact (rr i Y).2.1,fun k O=>?_,fun m hm j=>?_,?_,fun p hp a ha j=>?_,fun k O=>?_,fun p hp=>(h8 p hp).1⟩
 ·by_cases Y:i<n
  ·rw[J i Y]
   exact Uf (rr i Y).1 j
  ·rw[ZmQ (by rw[VN];omega),YQ];decide
 ·rw[J k (by omega)]
  have:=(rr k (by omega)).2.2 (by omega);rw[this,iT]
 ·rw[U3,ZbZ q top j q _ _ (by omega)]
  exact tl m j
 ·
  have base:∀t,t<n->top+1<=n->Uv n (VJ n U) (co q) t=0:=fun t M h2=>by
   have h7:=h7.resolve_left (by omega);have e:=ZeB (n:=n) (VJ n U) (q++aA (n-(top+1)) 0) (by rw[Zd,Ze];omega) t M;rw[ZaU h7 t] at e;refine Eq.trans (W9 n (by omega) _ _ _ (fun s hs=>?_) t M) e.symm;unfold co;rw[Zb,Zb,List.getElem?_append];by_cases m6:s<q.length
   ·rw[if_pos m6]
   ·rw[if_neg m6,ak (by omega),gH]
    split <;> rfl
  intro k;induction k with
  |zero=>
   intro O t M;refine Eq.trans (W9 n (by omega) _ _ (fun _=>0) (fun s hs=>?_) t M) (ZbY n _ t);rw[J 0 O,nx,u0];split <;> rfl
  |succ k ih=>
   intro O t M;have n9:top+1<=n:=by omega
   have o0:=ih (by omega);have hl:(nx q top k (YE top 0)).length=top:=(rr k (by omega)).2.1;have e:∀s,s<n->co (ro (Z3 q top n (YE top 0)) (k+1)) s-(if s=k+1 then 1 else 0) =
     (fun s=>(fun t=>co (ro (Z3 q top n (YE top 0)) k) t-if t=k then 1 else 0) ((s+(n-1)) % n)) s+(- co (nx q top k (YE top 0)) (top-1))*co q s:=fun s hs=>by
    rw[J (k+1) O,J k (by omega),Jh,JW];have ct:co (q.take top) s=if s<top then co q s else 0:=by
     by_cases h:s<top
     ·rw[if_pos h]
      unfold co;rw[Zb,Zb,iE,if_pos h]
     ·rw[if_neg h]
      exact Xb (by rw[bT];omega)
    rw[ct];show _=co (nx q top k (YE top 0)) ((s+(n-1)) % n)-(if (s+(n-1)) % n=k then 1 else 0)+(- co (nx q top k (YE top 0)) (top-1))*co q s
    cases s with
    |zero=>
     have e0:(0+(n-1)) % n=n-1:=by rw[iT];exact bM (by omega)
     have c1:¬(0=k+1):=by omega
     have c2:¬(n-1=k):=by omega
     have c3:0<top:=t1;rw[e0,if_pos (.inl rfl),if_pos c3,if_neg c1,if_neg c2,Xb (a:=nx q top k (YE top 0)) (i:=n-1) (by omega),gv];omega
    |succ s=>
     have e1:(s+1+(n-1)) % n=s:=by
      rw[show s+1+(n-1)=s+n by omega,me,bM (by omega)]
     rw[e1,dz];have ei:(if s+1=k+1 then (1:Int) else 0)=if s=k then 1 else 0:=by
      by_cases z:s=k
      ·rw[if_pos z,if_pos (by omega)]
      ·rw[if_neg z,if_neg (by omega)]
     rw[ei,gv];by_cases c1:s+1<top
     ·rw[if_neg (by omega),if_pos c1]
      omega
     ·rw[if_pos (.inr (by omega)),if_neg c1,cr]
      by_cases c2:s+1=top
      ·have:co q (s+1)=1:=by rw[c2];exact h4
       rw[this,show top-1=s by omega,io];omega
      ·rw[Xb (a:=q) (by omega),Xb (a:=nx q top k (YE top 0)) (i:=s) (by omega),cr]
       omega
   rw[W9 n (by omega) _ _ _ e t M,Zeg n _ (fun s=>(fun t=>co (ro (Z3 q top n (YE top 0)) k) t-if t=k then 1 else 0) ((s+(n-1)) % n)) (fun s=>(- co (nx q top k (YE top 0)) (top-1))*co q s) t,Zef n (by omega) _ (fun t=>co (ro (Z3 q top n (YE top 0)) k) t-if t=k then 1 else 0) t,Zhj,base t M n9,
    o0 _ (bP _ (by omega)),cr,cG]
 ·
  rw[Ue];have hb:=Zdn q top (n / p.toNat) p.toNat _ _ (h8 p hp).2;have hd:=(h8 p hp).1;have o5:∀a,a<n->∀i,(YI p.toNat fun t=>co (nx q top ((a+t*(n / p.toNat)) % n) (YE top 0)) i)=0:=by
   intro a;induction a with
   |zero=>
    intro _ i;have:=hb i;rw[YQ,dA] at this;rw[<-this];refine Wc _ _ _ fun t M=>?_;have:t*(n / p.toNat)<n:=by
     have:t*(n / p.toNat)+(n / p.toNat)<=p.toNat*(n / p.toNat):=by
      rw[<-b8];exact cx _ M
     have o7:0<n / p.toNat:=by
      rcases Nat.eq_zero_or_pos (n / p.toNat) with z|z
      ·rw[z,Nat.mul_zero] at hd;omega
      ·exact z
     omega
    rw[iT,bM this]
   |succ a ih=>
    intro ha i;have m8:=ih (by omega);have e:(YI p.toNat fun t=>co (nx q top ((a+1+t*(n / p.toNat)) % n) (YE top 0)) i)=YI p.toNat fun t=>co (WH q top (nx q top ((a+t*(n / p.toNat)) % n) (YE top 0))) i:=by
     refine Wc _ _ _ fun t _=>?_;rw[show a+1+t*(n / p.toNat)=a+t*(n / p.toNat)+1 by omega,n8]
    have n6:∀(m:Nat) (f g:Nat->Int) (c:Int),YI m (fun t=>f t-g t*c)=YI m f-YI m g*c:=by
     intro m;induction m with
     |zero=>intro f g c;simp[YI]
     |succ m ih=>intro f g c;rw[YI,YI,YI,ih (fun t=>f (t+1)) (fun t=>g (t+1)) c,lA];omega
    rw[e];simp only[JW];rw[n6 _ (fun t=>if i=0\/top<=i then 0 else co (nx q top ((a+t*(n / p.toNat)) % n) (YE top 0)) (i-1)) (fun t=>co (nx q top ((a+t*(n / p.toNat)) % n) (YE top 0)) (top-1)),m8 (top-1),ce,kF]
    by_cases hc:i=0\/top<=i
    ·simp only[if_pos hc]
     exact XT _ _ fun _ _=>rfl
    ·simp only[if_neg hc]
     exact m8 (i-1)
  rw[<-o5 a ha j];refine Wc _ _ _ fun t M=>?_;rw[J _ (bP _ (by omega))]
 ·
  apply ah;intro hz;have z0:∀j,co (nx q top k (YE top 0)) j=0:=fun j=>by
   by_cases hj:j<top
   ·apply ah
    intro o6;exact hz ⟨j,hj,by rw[J k O];exact o6⟩
   ·exact Xb (by rw[(rr k O).2.1];omega)
  have all:∀d j,co (nx q top (k+d) (YE top 0)) j=0:=by
   intro d;induction d with
   |zero=>exact z0
   |succ d ih=>intro j;rw[<-Nat.add_assoc,Jh];exact XY q top ih j
  have:=all (n-k) 0;rw[show k+(n-k)=n by omega,m5,u0,if_pos rfl] at this;cases this
noncomputable def ZbN (n top:Nat)(R:List (List Int))(q:List Int):List Int:=(ae top).map fun j=>sig n R j q 0
theorem ZbM (n top:Nat)(R:List (List Int))(j:List Int):(ZbN n top R j).length=top:=by unfold ZbN;rw[Za,Zg]
theorem ZjX {n top:Nat}{R:List (List Int)}{q:List Int}{j:Nat}(h:j<top):co (ZbN n top R q) j=sig n R j q 0:=by
 unfold ZbN co;rw[Zb,Zc,am h];rfl
theorem ZlR {a b:List Int}(h:a.length=b.length)(e:∀j,j<a.length->co a j=co b j):a=b:=by
 refine bf fun i=>?_;by_cases q:i<a.length
 ·rw[Wq q,Wq (by omega),e i q]
 ·rw[ak (by omega),ak (by omega)]
section
variable {n:Nat}{ps least:List Int}{top:Nat}{R:List (List Int)}(G:Good n ps least top R)
include G
theorem ZgE {cur:List Int}{k:Nat}(q:cur.length=n)(J:k<n)(M:top<=k):(Uu least (k-top) (co cur k) cur).length=n/\(∀j,co (WZ (Uu least (k-top) (co cur k) cur) R) j=co (WZ cur R) j)/\
  co (Uu least (k-top) (co cur k) cur) k=0/\∀t,k<t->co (Uu least (k-top) (co cur k) cur) t=co cur t:=by
 have hb:k-top+least.length<=cur.length:=by rw[G.l2,q];omega
 have O:=G.l2;refine⟨by rw[Zd2,q],fun j=>?_,?_,fun t U=>?_⟩
 ·rw[Zej _ _ _ _ _ _ hb,G.tails (k-top) (by omega) j,cr,kF]
 ·rw[ZcP _ _ _ _ _ hb,if_pos ⟨by omega,by omega⟩,show k-(k-top)=top by omega,G.mon,io,Int.sub_self]
 ·rw[ZcP _ _ _ _ _ hb,if_neg (by omega)]
theorem ZiP {cur f:List Int}(hl:cur.length=n)(hz:∀t,top<=t->co cur t=0)(hP:∀j,co (WZ cur R) j=co (WZ f R) j)(Y:List Int)(hf:f=Zb7 n Y):cur.take top=ZbN n top R Y:=by
 have q:(cur.take top).length=top:=by rw[bT,hl];have:=G.tn;omega
 refine ZlR (by rw[q,ZbM]) fun j J=>?_;rw[q] at J;have M:0<n:=G.n1;rw[ZjX J,<-Zfd n M,<-hf,<-hP j,Zei];have O:j<n:=aE J G.tn;rw[Zbe _ j _ (by rw[G.len];exact O) fun t ht U=>?_]
 ·rw[G.un j J,ZaT J,if_pos rfl,io]
  unfold co;rw[Zb,Zb,iE,if_pos J]
 ·by_cases h:t<top
  ·rw[G.un t h,ZaT J,if_neg (bh U),cr]
  ·rw[hz t (by omega),ce]
end
section
variable {n:Nat}{ps least:List Int}{top:Nat}{R:List (List Int)}(G:Good n ps least top R)
include G
end
end Num
set_option maxHeartbeats 4000000
namespace N52
open PySem L2 PySem.Spec PyProof.Rows
open Num
noncomputable abbrev ZmK:Stmt:=top 17
noncomputable abbrev ZmL:Stmt:=top 18
noncomputable abbrev Zgq:Stmt:=top 19
noncomputable abbrev Zgo:Stmt:=top 20
structure Bl2 (mg:Str->Option Value):Prop where
 enumerate:mg "enumerate"=none
 max:mg "max"=none
theorem ZaM {a:List Int}{i:Nat}(h:i<a.length):X9 (a.map V.int) (i:Int)=some (.int (co a i)):=ZR (by rw[Zc,Wq h];rfl)
theorem XA (a:List Int)(i:Nat)(v:Int):(a.map V.int).set i (V.int v)=(a.set i v).map V.int:=by rw[j6]
theorem XE {a:List Int}{i:Nat}{y:V}(h:(a.map V.int)[i]?=some y):i<a.length/\y=.int (co a i):=by
 rw[Zc] at h;by_cases j:i<a.length
 ·rw[Wq j] at h
  exact⟨j,(aD h).symm⟩
 ·rw[ak (by omega)] at h
  cases h
theorem XJ {n i:Nat}(h:i<n):ixN n (i:Int)=some i:=by
 unfold ixN;rw[if_pos (dB _),if_pos (by omega),Zj]
theorem ZgD (m:Nat):(aA m [V.int 0]).flatten=(aA m (0:Int)).map V.int:=ZgC m
theorem ZaN {X:Cx}:Zmd X (fun x y H Q=>∃(p:Addr) (xs:List V) (i:Nat) (v:V),x=.ref p/\y=.int i/\H p=some (.lst xs)/\xs[i]?=some v/\Q v H):=by
 intro J s σ H x y O iv Q I U Y h;obtain⟨p,xs,i,v,rfl,rfl,hp,M,q⟩:=h;cases (show O=aB p from U);obtain⟨t,rfl⟩:=Y;obtain⟨m5,r,pl,hz⟩:=I.list (.of hp);obtain⟨w,ew,j⟩:=r.get M;have hl:=r.length;have hn:=Xj;have hi:i<xs.length:=(ac.mp M).1;exact wpAny_getItem_list pl.isList (dB _) (by omega) (by simpa using ew) ⟨v,H,I,j,q⟩
noncomputable def Zkg (K:aa):Sp:=fun J H Q _=>∃(a:Addr) (j:List Int) (st:Nat),J=[.ref a,.int st]/\Wt K H a (j.map V.int)/\1<=j.length/\(j.length-1)*st<=100000/\j.length<=1000/\st<=1000/\∀l q,Zv H q->q l=some (.lst ((stM j st).map V.int))->Q (.ref l) q
section
variable {P:Program}{w:World}{K:aa}{mg:Str->Option Value}{base:Heap}
theorem Zls {f:Addr}{fd:FuncData}(F:WN K "stretched" "stretched" ZmK f fd)(T:Bl mg)(T2:Bl2 mg):Yb P w K mg base Yi 1 f fd ["powers", "step"] (Zkg K):=by
 refine F.ok (FS (N:=["powers", "step", "wide", "k", "x"])) (fun vs H Q E h=>?_) (fun m8 A m5 s H vs Q E hr h=>?_)
 ·obtain⟨a,j,st,rfl,_⟩:=h;rfl
 ·obtain⟨a,j,st,rfl,hS,hl,hb,n6,n8,q⟩:=h
  refine⟨_,Zs (ZD 2 rfl (Zz Xf (ZW (pc Zx Zu)) (Zz YK (Zz ZP (Zz Y5 (cb (YF K) T.len (pc (vn 0) Zu)) Zx) (vn 1)) Zx)))
   (Zs (ZT av rfl (V7 K T2.enumerate (pc (vn 0) Zu)) (g2 K 3 4 rfl (gn 3) (gn 4))
    (Zw (JB (vn 4) (XW (vn 2) (Zz ZP (vn 3) (vn 1)) YT))))
   (Zw (ZF (vn 2)))),?_⟩
  refine⟨(by show 1<=sizeLine;decide),fun l0 n0=>?_⟩;have s0:Zv H (upd H l0 (.lst [.int 0])):=Zv.upd n0;refine⟨_,rfl,a,_,rfl,.inl (s0.seq hS),_,_,rfl,rfl,_,rfl,_,_,rfl,rfl,.inl ⟨?_,?_⟩,_,_,rfl,rfl,l0,_,_,rfl,rfl,Zt,?_,?_,?_,fun l nl=>?_⟩
  ·rw[Za];omega
  ·rw[Za];omega
  ·rw[Za];have:(0:Int)<=((j.length:Int)-1)*st:=Int.mul_nonneg (by omega) (by omega);omega
  ·rw[Za]
   have:((j.length:Int)-1)*st=(((j.length-1)*st:Nat):Int):=by rw[aK];congr 1;omega
   omega
  ·rw[Za]
   have:((j.length:Int)-1)*st=(((j.length-1)*st:Nat):Int):=by rw[aK];congr 1;omega
   rw[this];show 1*_<=sizeLine;have e:(16777216:Nat)=sizeLine:=by decide
   omega
  have eN:(((j.map V.int).length:Int)-1)*st+1=(((j.length-1)*st+1:Nat):Int):=by
   rw[Za,eV,aK];congr 2;omega
  rw[eN,Zj,ZgD];have m6:H l=none:=s0.free nl;have s1:=s0.trans (Zv.upd (o:=.lst ((aA ((j.length-1)*st+1) (0:Int)).map V.int)) nl);refine⟨_,rfl,a,rfl,.inl ⟨⟨_,s1.seq hS⟩,?_⟩⟩;refine WK V9 (fun i O Y=>∃(J:List Int) (v3 v4:Option V),O=[some (.ref a),some (.int st),some (.ref l),v3,v4]/\Zv H Y/\Y l=some (.lst (J.map V.int))/\J.length=(j.length-1)*st+1/\stN st (j.drop i) i J=stM j st)
   ⟨_,_,_,rfl,s1,Zt,dG ..,rfl⟩ (fun i O Y h=>h.choose_spec.choose_spec.choose_spec.2.1.seq hS) ?_ ?_
  ·rintro i y O Y T' hy ⟨J,v3,v4,rfl,sm,U,hlen,M⟩ nT
   obtain⟨hi,rfl⟩:=XE hy;refine⟨T',_,rfl,.of Zt,rfl,_,_,rfl,_,_,rfl,rfl,_,rfl,_,rfl,_,rfl,_,rfl,_,_,rfl,rfl,.inl ⟨by omega,by omega⟩,l,_,_,i*st,rfl,rfl,Zv.upd nT _ _ U,?_,?_⟩
   rotate_left
   ·have n9:i*st<J.length:=by
     rw[hlen];have:i*st<=(j.length-1)*st:=cx _ (by omega);omega
    refine⟨J.set (i*st) (co j i),_,_,rfl,(sm.trans (Zv.upd nT)).updr m6,?_,?_,?_⟩
    ·rw[Zt,XA]
    ·rw[be];exact hlen
    ·rw[<-M]
     have:j.drop i=co j i::j.drop (i+1):=by
      rw[bU hi];congr 1;have:=Wq hi;rw[Zf hi] at this;exact aD this
     rw[this,Num.stN]
   ·rw[Za]
    have:((i:Int)*(st:Int))=((i*st:Nat):Int):=by rw[aK]
    rw[this];refine XJ ?_;rw[hlen];have:i*st<=(j.length-1)*st:=cx _ (by omega);omega
  ·rintro O Y ⟨J,v3,v4,rfl,sm,U,hlen,M⟩
   rw[Za,fk,Num.stN] at M;rw[M] at U;exact⟨_,rfl,q l Y sm U⟩
end
noncomputable def Zkh (K:aa):Sp:=fun M H Q _=>∃(a b:Addr) (q j:List Int),M=[.ref a,.ref b]/\Wt K H a (q.map V.int)/\Wt K H b (j.map V.int)/\1<=j.length/\j.length<=q.length/\q.length<=100000/\small j=true/\
 ∀l J,Zv H J->J l=some (.lst ((Zd1 q j).map V.int))->Q (.ref l) J
theorem VB {j:List Int}{i:Nat}(q:i<j.length):j.drop i=co j i::j.drop (i+1):=by
 rw[bU q];congr 1;have:=Wq q;rw[Zf q] at this;exact aD this
theorem Zc2 {a:List Int}{i:Nat}(h:i<a.length):(a.map V.int)[i]?=some (.int (co a i)):=by rw[Zc,Wq h];rfl
section
variable {P:Program}{w:World}{K:aa}{mg:Str->Option Value}{base:Heap}
theorem Zlt {f:Addr}{fd:FuncData}(F:WN K "quotient" "quotient" ZmL f fd)(T:Bl mg)(T2:Bl2 mg):Yb P w K mg base Yi 1 f fd ["powers", "divisor"] (Zkh K):=by
 refine F.ok (FS (N:=["powers", "divisor", "rest", "top", "found", "k", "j", "x"])) (fun vs H Q E h=>?_) (fun r9 A p3 s H vs Q E hr h=>?_)
 ·obtain⟨a,b,U,ds,rfl,_⟩:=h;rfl
 ·obtain⟨a,b,U,ds,rfl,hA,hB,t0,t5,t6,p4,q⟩:=h
  refine⟨_,Zs (ZD 2 rfl (ct XO T.list (pc (vn 0) Zu)))
   (Zs (ZD 3 rfl (Zz Y5 (cb (YF K) T.len (pc (vn 1) Zu)) Zx))
   (Zs (ZD 4 rfl (Zz Xf (ZW (pc Zx Zu)) (Zz Y5 (cb (YF K) T.len (pc (vn 2) Zu)) (vn 3))))
   (Zs (ZT av rfl (ZmR T.range (pc (Zz Y5 (cb (YF K) T.len (pc (vn 4) Zu)) Zx) (pc (Vi Ju Zx) (pc (Vi Ju Zx) Zu)))) (gn 5)
    (Zs (JB (ZG (X2 K) (vn 2) (Zz YK (vn 5) (vn 3)) (fun _ _=>rfl)) (XW (vn 4) (vn 5) YT))
    (Zw (ZT av rfl (V7 K T2.enumerate (pc (vn 1) Zu)) (g2 K 6 7 rfl (gn 6) (gn 7))
     (Zw (Vz (vn 2) (Zz YK (vn 5) (vn 6)) ZaN (Zz ZP (ZG (X2 K) (vn 4) (vn 5) (fun _ _=>rfl)) (vn 7)) Zht YT))))))
   (Zw (ZF (vn 4)))))),?_⟩
  refine⟨_,rfl,a,_,rfl,.inl hA,fun r nr=>?_⟩;have s1:Zv H (upd H r (.lst (U.map V.int))):=Zv.upd nr;refine⟨_,rfl,b,_,rfl,.inl (s1.seq hB),_,_,rfl,rfl,?_⟩;refine⟨(by show 1<=sizeLine;decide),fun l0 n0=>?_⟩;have s2:=s1.trans (Zv.upd (o:=.lst [.int 0]) n0);refine⟨_,rfl,r,_,rfl,.inl (.of (Zv.upd n0 _ _ Zt)),_,rfl,_,_,rfl,rfl,l0,_,_,rfl,rfl,Zt,?_,?_,?_,fun l nl=>?_⟩
  ·rw[Za,Za];omega
  ·rw[Za,Za];omega
  ·rw[Za,Za]
   show 1*_<=sizeLine;have e:(16777216:Nat)=sizeLine:=by decide
   omega
  have eN:(((U.map V.int).length:Int)-(((ds.map V.int).length:Int)-1)).toNat=U.length-(ds.length-1):=by rw[Za,Za];omega
  rw[eN,ZgD];have p6:H r=none:=nr;have p7:H l=none:=s2.free nl;have o0:l≠r:=fun z=>by
   rw[z,Zy (fun z2=>by rw[z2,Zt] at n0;cases n0),Zt] at nl;cases nl
  have s3:=s2.trans (Zv.upd (o:=.lst ((aA (U.length-(ds.length-1)) (0:Int)).map V.int)) nl);generalize hN:U.length-(ds.length-1)=N at *;have p8:(upd (upd (upd H r (.lst (U.map V.int))) l0 (.lst [.int 0])) l (.lst ((aA N (0:Int)).map V.int))) r=some (.lst (U.map V.int)):=Zv.upd nl _ _ (Zv.upd n0 _ _ Zt);refine⟨_,rfl,l,_,rfl,.inl (.of Zt),_,_,rfl,rfl,_,rfl,_,rfl,_,_,rfl,⟨by rw[Za,Ze];omega,by rw[Za,Ze];omega,by decide,by decide⟩,?_⟩;rw[Za,Za,Ze];have e2:(((N:Int)-1)-(-1)).toNat=N:=by omega
  rw[e2];refine Zb6 (fun i m8 H'=>∃(J rest:List Int) (v5 v6 v7:Option V),m8=[some (.ref a),some (.ref b),some (.ref r),some (.int ((ds.length:Int)-1)),some (.ref l),v5,v6,v7]/\Zv H H'/\H' l=some (.lst (J.map V.int))/\H' r=some (.lst (rest.map V.int))/\
    J.length=N/\rest.length=U.length/\ZgK ds (ds.length-1) (N-i) J rest=Zd1 U ds)
   ⟨_,_,_,_,_,rfl,s3,Zt,p8,dG ..,rfl,by rw[dw,Zd1,hN]⟩ ?_ ?_
  ·rintro i m8 H' hi ⟨J,rest,v5,v6,v7,rfl,sm,m5,n6,o5,o6,hq⟩
   generalize hk:N-1-i=k;have ek:(N:Int)-1-(i:Int)=(k:Int):=by omega
   rw[ek];have t7:k<N:=by omega
   have q0:N-i=k+1:=by omega
   rw[q0,ZgK] at hq;have o7:k+(ds.length-1)<rest.length:=by omega
   refine⟨_,rfl,_,rfl,_,rfl,_,_,rfl,rfl,r,_,_,.int (co rest (k+(ds.length-1))),rfl,rfl,.of n6,?_,_,rfl,_,rfl,l,_,_,k,rfl,rfl,m5,?_,?_⟩
   ·have:(k:Int)+((ds.length:Int)-1)=((k+(ds.length-1):Nat):Int):=by omega
    rw[this];exact ZaM o7
   ·rw[Za];exact XJ (by omega)
   generalize hc:co rest (k+(ds.length-1))=c at hq ⊢;rw[XA];have sm1:Zv H (upd H' l (.lst ((J.set k c).map V.int))):=sm.updr p7;have r6:(upd H' l (.lst ((J.set k c).map V.int))) r=some (.lst (rest.map V.int)):=by rw[Zy (bh o0)];exact n6
   have r8:co (J.set k c) k=c:=by rw[ZhY,if_pos ⟨rfl,by omega⟩]
   refine⟨_,rfl,b,rfl,.inl ⟨⟨_,sm1.seq hB⟩,?_⟩⟩;refine WK V9 (fun j M O=>∃(cur:List Int) (u6 u7:Option V),M=[some (.ref a),some (.ref b),some (.ref r),some (.int ((ds.length:Int)-1)),some (.ref l),some (.int k),u6,u7]/\Zv H O/\O l=some (.lst ((J.set k c).map V.int))/\O r=some (.lst (cur.map V.int))/\
     cur.length=U.length/\Uu (ds.drop j) (k+j) c cur=Uu ds k c rest)
    ⟨_,_,_,rfl,sm1,Zt,r6,o6,rfl⟩ (fun j M O h=>h.choose_spec.choose_spec.choose_spec.2.1.seq hB) ?_ ?_
   ·rintro j y M O T' hy ⟨cur,u6,u7,rfl,UN,Y,n8,n9,m6⟩ nT
    obtain⟨hj,rfl⟩:=XE hy;have kj:k+j<cur.length:=by omega
    have o8:=Zv.upd (o:=.tup [.int j,.int (co ds j)]) nT _ _ n8;have o9:=Zv.upd (o:=.tup [.int j,.int (co ds j)]) nT _ _ Y;have cb:=Uf p4 j;refine⟨T',_,rfl,.of Zt,rfl,_,_,rfl,_,_,rfl,rfl,_,rfl,_,rfl,_,rfl,_,_,rfl,rfl,r,_,k+j,.int (co cur (k+j)),rfl,congrArg V.int (by omega),o8,Zc2 kj,
     _,rfl,_,rfl,l,_,_,.int c,rfl,rfl,.of o9,?_,_,rfl,_,_,rfl,rfl,.inr ⟨by omega,by omega⟩,_,_,rfl,rfl,r,_,_,k+j,rfl,congrArg V.int (show (k:Int)+(j:Int)=((k+j:Nat):Int) by omega),o8,?_,?_⟩
    ·have:=ZaM (a:=J.set k c) (i:=k) (by rw[be];omega)
     rw[r8] at this;exact this
    ·rw[Za];exact XJ kj
    ·refine⟨cur.set (k+j) (co cur (k+j)-c*co ds j),_,_,rfl,(UN.trans (Zv.upd nT)).updr p6,?_,?_,?_,?_⟩
     ·rw[Zy o0];exact o9
     ·rw[Zt,XA]
     ·rw[be];exact n9
     ·rw[<-m6,VB hj,Num.Uu]
      rfl
   ·rintro M O ⟨cur,u6,u7,rfl,UN,Y,n8,n9,m6⟩
    rw[Za,fk,Num.Uu] at m6;refine⟨J.set k c,cur,_,_,_,rfl,UN,Y,n8,by rw[be];exact o5,n9,?_⟩;rw[show N-(i+1)=k by omega,m6];exact hq
  ·rintro m8 H' ⟨J,rest,v5,v6,v7,rfl,sm,m5,n6,o5,o6,hq⟩
   rw[cF,Num.ZgK] at hq;rw[hq] at m5;exact⟨_,rfl,q l H' sm m5⟩
end
end N52
namespace L2
open PySem PySem.Spec PyProof.Rows
section
variable {X:Cx}
noncomputable def Zhx (K:aa)(Y:TA):TI:=fun σ H R=>Y σ H fun vs M=>∃a q j,vs=[.ref a]/\(Wt K j a q\/Xc K j a q)/\Zv j M/\∀J O,Zih J O q->(∀U,Zv j U->O U)->R J M
theorem ZlT {elts:List Expr}{x1}{pt:Pos}{l:Expr}{ta:TA}{p pos:Pos}(hm:X.mg "enumerate"=none)(ha:PA X [l] ta)(hg:YZ X.env.scope "enumerate"=true:=by kernel_rfl)(hs:starEach [l] X.env=[(false,eval l X.env)]:=by rfl) :
  PI X (.Tuple elts x1 pt) (.Call (.Name "enumerate" p) [l] [] pos) (Zhx X.K ta):=by
 intro M s σ H R I h;refine Call_ (Jj I (Xa hg) hm (show bootBuiltins "enumerate"=some (.type "enumerate") by kernel_rfl) (bo (Yj (ha pos M s σ H _ I h) fun us s1 ⟨vs,H1,j,r1,q1⟩=>?_) hs rfl));obtain⟨a,xs,Hx,e,J,sm,q⟩:=q1;subst e;cases r1 with
 |cons r rr=>
  cases rr;cases (show _=aB a from r);have sz:∀b,b∈[s1.heap.objs.size+1,s1.heap.objs.size]->s1.heap.objs.size<=b:=fun b hb=>by
   rcases aG.mp hb with rfl|hb
   ·exact gu _
   ·have:b=s1.heap.objs.size:=by simpa using hb
    rw[this];exact Zq _
  rcases J with J|J
  ·obtain⟨O,rv,p,hz⟩:=j.list (sm.seq J)
   refine call_enumerate_list p.isList fun g ge U gs Y=>dX ge ?_;exact⟨_,[s1.heap.objs.size+1,s1.heap.objs.size],_,_,H1,rfl,j.kept (t':=s1.toks) Y,VG a _ _ (bb (c6 _)),⟨⟨_,ge⟩,U⟩,fun b hb=>j.fpOk (sz b hb) (j.hok.fresh (sz b hb)),q _ _ V9 fun H' s'=>s'.seq J⟩
  ·obtain⟨O,rv,p,hz⟩:=j.tuple (sm.tup J)
   refine PyY.Uq (show s1.heap.IsTuple a O.toArray from p) fun g ge U gs Y=>dX ge ?_;exact⟨_,[s1.heap.objs.size+1,s1.heap.objs.size],_,_,H1,rfl,j.kept (t':=s1.toks) Y,VF a _ _ (bb (c6 _)),⟨⟨_,ge⟩,U⟩,fun b hb=>j.fpOk (sz b hb) (j.hok.fresh (sz b hb)),q _ _ ZaQ fun H' s'=>s'.tup J⟩
theorem ZlU (K:aa){elts:List Expr}{q}{pt:Pos}{l:Expr}{j:TA}{p pos:Pos}(J:X.mg "enumerate"=none)(M:PA X [l] j)(O:X.K=K:=by rfl)(U:YZ X.env.scope "enumerate"=true:=by kernel_rfl)(Y:starEach [l] X.env=[(false,eval l X.env)]:=by rfl) :
  PI X (.Tuple elts q pt) (.Call (.Name "enumerate" p) [l] [] pos) (Zhx K j):=O▸ZlT J M U Y
end
end L2
namespace N52
open PySem L2 PySem.Spec PyProof.Rows
open Num
noncomputable def lsN (n:Nat):List Int:=WW n (Yr n)
noncomputable def Js (n:Nat):Nat:=(lsN n).length-1
noncomputable def RN (n:Nat):List (List Int):=RT n (Yr n)
noncomputable def XN (n:Nat):Bool:=Num.chk n (Yr n) && decide (((Num.WW n (Yr n)).length:Int)=ZbG n+1)
theorem ZnQ:([1,2,3,4,5,6,7,8,9,10,11,12,13,14,15,16].all XN)=true:=by decide +kernel
theorem ZnP:([17,18,19,20,21,22,23,24].all XN)=true:=by decide +kernel
theorem ZnO:([25,26,27,28,29,30].all XN)=true:=by decide +kernel
theorem ZnN:([31,32,33,34,35].all XN)=true:=by decide +kernel
theorem ZnM:([36,37,38,39,40].all XN)=true:=by decide +kernel
theorem ZnL:([41,42,43,44].all XN)=true:=by decide +kernel
theorem ZnK:([45,46,47].all XN)=true:=by decide +kernel
theorem ZnJ:([48,49,50].all XN)=true:=by decide +kernel
theorem ZnI:([51,52,53].all XN)=true:=by decide +kernel
theorem ZnH:([54,55,56].all XN)=true:=by decide +kernel
theorem Zl2:([57,58].all XN)=true:=by decide +kernel
theorem Zl1:([59,60].all XN)=true:=by decide +kernel
theorem all2 {p:Nat->Bool}{a b:List Nat}(h:a.all p=true)(g:b.all p=true):(a++b).all p=true:=by rw[List.all_append,h,g];rfl
theorem Zl0 {n:Nat}(j:1<=n)(q:n<=60):XN n=true:=aP.mp (all2 ZnQ (all2 ZnP (all2 ZnO (all2 ZnN (all2 ZnM (all2 ZnL (all2 ZnK (all2 ZnJ (all2 ZnI (all2 ZnH (all2 Zl2 Zl1))))))))))) n (by
 show n∈de 1 60;exact List.mem_range'_1.mpr ⟨j,by omega⟩)
theorem Zep {n:Nat}(j:1<=n)(q:n<=60):Good n (Yr n) (lsN n) (Js n) (RN n)/\(Js n:Int)=ZbG n:=by
 have h:=Zl0 j q;unfold XN at h;rw[ag] at h;have g:=ZjM j h.1;refine⟨g,?_⟩;have e:=of_decide_eq_true h.2;have:=g.l2;unfold Js lsN;omega
noncomputable def ZdB:Sp:=fun q H Q _=>∃n:Nat,q=[.int n]/\1<=n/\n<=60/\∀l j,Zv H j->j l=some (.lst ((lsN n).map V.int))->Q (.ref l) j
noncomputable def Zdz (K:aa):Sp:=fun M H Q _=>∃(n:Nat) (a:Addr) (j:List Int),M=[.int n,.ref a]/\1<=n/\n<=60/\(Wt K H a (j.map V.int)\/Xc K H a (j.map V.int))/\j.length<=100000/\
 ∀q J,Zv H J->J q=some (.tup ((ZbN n (Js n) (RN n) j).map V.int))->Q (.ref q) J
theorem ZhT (xs:List V){k:Nat}(h:k<=xs.length):Zcf xs none (some (k:Int))=xs.take k:=by
 unfold Zcf;rw[HT.ZdO];have e:HT.UQ xs.length 0 none=0:=rfl;rw[e,List.drop_zero,dw,Nat.min_eq_left h]
theorem V1 {s:List Int×Int}{j:List Int}(h:XG s j=true):small s.1=true/\2<=s.1.length/\s.1.length<=61/\1<=s.2/\s.2<=60:=by
 have g:Zju s=true:=by
  cases j with
  |nil=>exact h
  |cons p j=>
   rw[Num.XG] at h;simp only[ag] at h;exact h.1.1.1
 unfold Zju at g;simp only[ag,decide_eq_true_eq] at g;exact⟨g.1.1.1.1,g.1.1.1.2,g.1.1.2,g.1.2,g.2⟩
theorem ZcZ {s:List Int×Int}{p:Int}{j:List Int}(h:XG s (p::j)=true):2<=p/\p<=60/\XG (Xi s p) j=true:=by
 rw[Num.XG] at h;simp only[ag,decide_eq_true_eq] at h;exact⟨h.1.1.2,h.1.2,h.2⟩
section
variable {P:Program}{w:World}{K:aa}{mg:Str->Option Value}{base:Heap}
theorem Zg5 {f:Addr}{fd:FuncData}(F:WN K "least_sum" "least_sum" Zgq f fd)(GP:Fn P w K mg base Yi 1 "primes_of" ["n"] Zbk)(GS:Fn P w K mg base Yi 1 "stretched" ["powers", "step"] (Zkg K))(GQ:Fn P w K mg base Yi 1 "quotient" ["powers", "divisor"] (Zkh K)) :
  Yb P w K mg base Yi 2 f fd ["n"] ZdB:=by
 refine F.ok (FS (N:=["n", "found", "built", "p"])) (fun vs H Q E h=>?_) (fun m8 A m6 s H vs Q E hr h=>?_)
 ·obtain⟨n,rfl,_⟩:=h;rfl
 ·obtain⟨n,rfl,n1,n60,q⟩:=h
  obtain⟨G,_⟩:=Zep n1 n60;refine⟨_,Zs (ZD 1 rfl (ZW (pc (Vi Ju Zx) (pc Zx Zu))))
   (Zs (ZD 2 rfl Zx)
   (Zs (ZT av rfl (itL K (Ws GP hr ZK (pc (vn 0) Zu))) (gn 3)
    (Zs (ZD 1 rfl (Ws GQ hr ZK (pc (Ws GS hr ZK (pc (vn 1) (pc (vn 3) Zu))) (pc (vn 1) Zu))))
    (Zw (ZD 2 rfl (Zz ZP (vn 2) (vn 3))))))
   (Zw (ZF (Ws GS hr ZK (pc (vn 1) (pc (Zz Wx (vn 0) (vn 2)) Zu))))))),?_⟩
  refine⟨_,rfl,(by show 2<=sizeLine;decide),fun l0 n0=>?_⟩;have s0:Zv H (upd H l0 (.lst [.int (-1),.int 1])):=Zv.upd n0;refine⟨_,rfl,n,rfl,n1,n60,fun lp H1 s1 hp=>⟨lp,rfl,⟨_,.of hp⟩,?_⟩⟩;refine Jl (Yv (K:=K) (.of hp)) (fun i M U=>∃(st:List Int×Int) (O:Addr) (v3:Option V),M=[some (.int n),some (.ref O),some (.int st.2),v3]/\Zv H1 U/\U O=some (.lst (st.1.map V.int))/\XG st ((Yr n).drop i)=true/\
    ((Yr n).drop i).foldl Xi st=(Yr n).foldl Xi ([-1,1],1))
   ⟨([-1,1],1),l0,_,rfl,Zv.refl _,s1 _ _ Zt,G.ls,rfl⟩ (fun i M U h=>h.choose_spec.choose_spec.choose_spec.2.1) ?_ ?_
  ·rintro i x M U hx ⟨st,O,v3,rfl,sm,hf,J,j⟩
   obtain⟨hi,rfl⟩:=XE hx;rw[VB hi] at J j;obtain⟨p2,n6,Y⟩:=ZcZ J;obtain⟨c1,c2,c3,c4,c5⟩:=V1 J;generalize n8:co (Yr n) i=p at *;have ep:(p.toNat:Int)=p:=by omega
   have m5:(st.1.length-1)*p.toNat<=60*60:=im (by omega) (by omega);refine⟨_,rfl,_,rfl,O,st.1,p.toNat,by rw[ep];rfl,.of hf,by omega,by omega,by omega,by omega,fun l2 H2 s2 h2=>?_⟩;have n9:st.1.length-1<=(st.1.length-1)*p.toNat:=Nat.le_mul_of_pos_right _ (by omega);refine⟨_,rfl,l2,O,_,_,rfl,.of h2,.of (s2 _ _ hf),by omega,by rw[Zdp];omega,by rw[Zdp];omega,c1,fun l3 H3 s3 h3=>?_⟩;refine⟨_,rfl,_,rfl,_,_,rfl,rfl,.inl ⟨by omega,by omega⟩,?_⟩;exact⟨Xi st p,l3,_,rfl,(sm.trans s2).trans s3,h3,Y,j⟩
  ·rintro M U ⟨st,O,v3,rfl,sm,hf,J,j⟩
   rw[Za,fk] at J j;obtain⟨c1,c2,c3,c4,c5⟩:=V1 J;have hd:0<=(n:Int) / st.2/\(n:Int) / st.2<=n:=⟨jx (by omega) (by omega),Int.ediv_le_self _ (by omega)⟩;have m5:(st.1.length-1)*((n:Int) / st.2).toNat<=60*60:=im (by omega) (by omega);refine⟨_,rfl,_,rfl,_,rfl,_,_,rfl,rfl,⟨by omega,by omega⟩,O,st.1,((n:Int) / st.2).toNat,by rw[Int.toNat_of_nonneg hd.1];rfl,.of hf,by omega,by omega,by omega,by omega,fun l4 H4 s4 h4=>?_⟩;refine q l4 H4 (((s0.trans s1).trans sm).trans s4) ?_;rw[h4];unfold lsN WW;rw[<-j];rfl
theorem Zg3 {f:Addr}{fd:FuncData}(F:WN K "number_of" "number_of" Zgo f fd)(T:Bl mg)(T2:Bl2 mg)(GL:Fn P w K mg base Yi 2 "least_sum" ["n"] ZdB):Yb P w K mg base Yi 3 f fd ["n", "powers"] (Zdz K):=by
 refine F.ok (FS (N:=["n", "powers", "least", "top", "rest", "k", "x", "high", "j"])) (fun vs H Q E h=>?_) (fun u5 A p8 s H vs Q E hr h=>?_)
 ·obtain⟨n,a,ws,rfl,_⟩:=h;rfl
 ·obtain⟨n,a,ws,rfl,n1,n60,hS,u9,q⟩:=h
  obtain⟨G,_⟩:=Zep n1 n60;refine⟨_,Zs (ZD 2 rfl (Ws GL hr ZK (pc (vn 0) Zu)))
   (Zs (ZD 3 rfl (Zz Y5 (cb (YF K) T.len (pc (vn 2) Zu)) Zx))
   (Zs (ZD 4 rfl (Zz Xf (ZW (pc Zx Zu)) (vn 0)))
   (Zs (ZT av rfl (ZlU K T2.enumerate (pc (vn 1) Zu)) (g2 K 5 6 rfl (gn 5) (gn 6))
    (Zw (Vz (vn 4) (Zz Z0 (vn 5) (vn 0)) ZaN (vn 6) WY YT)))
   (Zs (ZT av rfl (ZmR T.range (pc (Zz Y5 (vn 0) Zx) (pc (Zz Y5 (vn 3) Zx) (pc (Vi Ju Zx) Zu)))) (gn 5)
    (Zs (ZD 7 rfl (ZG (X2 K) (vn 4) (vn 5) (fun _ _=>rfl)))
    (Zw (Jo (ZS Jp (vn 7) Zx (Z6 _))
     (Zw (ZT av rfl (V7 K T2.enumerate (pc (vn 2) Zu)) (g2 K 8 6 rfl (gn 8) (gn 6))
      (Zw (Vz (vn 4) (Zz YK (Zz Y5 (vn 5) (vn 3)) (vn 8)) ZaN (Zz ZP (vn 7) (vn 6)) Zht YT)))) YX))))
   (Zw (ZF (ct ZJ T.tuple (pc (ZbH ZdJ (vn 4) Zd4 (Zd3 (vn 3))) Zu)))))))),?_⟩
  refine⟨_,rfl,n,rfl,n1,n60,fun ll H1 s1 n8=>?_⟩;have o5:(((lsN n).map V.int).length:Int)-1=(Js n:Int):=by
   rw[Za,G.l2];omega
  have tn:=G.tn;have t1:=G.t1;refine⟨_,rfl,ll,_,rfl,.inl (.of n8),_,_,rfl,rfl,?_⟩;refine⟨(by show 1<=sizeLine;decide),fun l0 n0=>?_⟩;have s2:=s1.trans (Zv.upd (o:=.lst [.int 0]) n0);refine⟨_,rfl,l0,_,_,rfl,rfl,Zt,by omega,by omega,?_,fun l nl=>?_⟩
  ·rw[Zj]
   show 1*n<=sizeLine;have e:(16777216:Nat)=sizeLine:=by decide
   omega
  rw[Zj,ZgD];have o6:H l=none:=s2.free nl;have o7:=Zv.upd (o:=.lst ((aA n (0:Int)).map V.int)) nl _ _ (Zv.upd (o:=.lst [.int 0]) n0 _ _ n8);have o8:l≠ll:=fun z=>by
   rw[z,Zv.upd (o:=.lst [.int 0]) n0 _ _ n8] at nl;cases nl
  have s3:=s2.trans (Zv.upd (o:=.lst ((aA n (0:Int)).map V.int)) nl);refine⟨_,rfl,a,_,H,rfl,hS,s3,fun J At S q0=>?_⟩;refine WK S (fun i m5 H'=>∃(M:List Int) (v5 v6:Option V),m5=[some (.int n),some (.ref a),some (.ref ll),some (.int ((((lsN n).map V.int).length:Int)-1)),some (.ref l),v5,v6,none,none]/\Zv H H'/\H' ll=some (.lst ((lsN n).map V.int))/\H' l=some (.lst (M.map V.int))/\M.length=n/\
    Vk n (ws.drop i) i M=Zb7 n ws)
   ⟨_,_,_,rfl,s3,o7,Zt,dG ..,rfl⟩ (fun i m5 H' h=>q0 _ h.choose_spec.choose_spec.choose_spec.2.1) ?_ ?_
  ·rintro i y m5 H' T' hy ⟨M,v5,v6,rfl,sm,n9,o0,m6,m8⟩ nT
   obtain⟨hi,rfl⟩:=XE hy;have o9:i % n<M.length:=by rw[m6];exact bP _ n1
   have eM:V.int ((i:Int) % (n:Int))=V.int ((i % n:Nat):Int):=congrArg V.int (by omega);have p3:=Zv.upd (o:=.tup [.int i,.int (co ws i)]) nT _ _ o0;refine⟨T',_,rfl,.of Zt,rfl,_,_,rfl,_,_,rfl,rfl,_,rfl,_,rfl,_,rfl,_,_,rfl,rfl,(by show (0:Int)<n;omega),l,_,i % n,.int (co M (i % n)),rfl,eM,p3,Zc2 o9,_,rfl,_,_,rfl,rfl,l,_,_,i % n,rfl,eM,p3,?_,?_⟩
   ·rw[Za];exact XJ o9
   ·refine⟨M.set (i % n) (co M (i % n)+co ws i),_,_,rfl,(sm.trans (Zv.upd nT)).updr o6,?_,?_,?_,?_⟩
    ·rw[Zy (bh o8)];exact Zv.upd nT _ _ n9
    ·rw[Zt,XA]
    ·rw[be];exact m6
    ·rw[<-m8,VB hi,Num.Vk]
  ·rintro m5 H' ⟨M,v5,v6,rfl,sm,n9,o0,m6,m8⟩
   rw[Za,fk,Num.Vk] at m8;refine⟨_,rfl,_,_,rfl,rfl,_,rfl,_,_,rfl,rfl,_,rfl,_,_,rfl,⟨by omega,by omega,by omega,by omega⟩,?_⟩;rw[show (((n:Int)-1)-((((lsN n).map V.int).length:Int)-1-1)).toNat=n-Js n by omega];refine Zb6 (fun i m5 H'=>∃(M:List Int) (v5 v6 v7 v8:Option V),m5=[some (.int n),some (.ref a),some (.ref ll),some (.int ((((lsN n).map V.int).length:Int)-1)),some (.ref l),v5,v6,v7,v8]/\Zv H H'/\H' ll=some (.lst ((lsN n).map V.int))/\H' l=some (.lst (M.map V.int))/\M.length=n/\
     (∀j,co (WZ M (RN n)) j=co (WZ (Zb7 n ws) (RN n)) j)/\∀t,n-i<=t->co M t=0)
    ⟨M,_,_,_,_,rfl,sm,n9,o0,m6,fun j=>by rw[m8],fun t ht=>Xb (by omega)⟩ ?_ ?_
   ·rintro i p4 r6 hi ⟨c2,r8,r9,t0,t5,rfl,UN,Y,O,U,hP,hz⟩
    generalize hk:n-1-i=k;have ek:(n:Int)-1-(i:Int)=(k:Int):=by omega
    rw[ek];have t6:k<n:=by omega
    have t7:Js n<=k:=by omega
    refine⟨_,rfl,_,rfl,l,_,_,.int (co c2 k),rfl,rfl,.of O,ZaM (by omega),?_⟩;refine⟨_,rfl,rfl,_,rfl,Y8 (fun hh=>?_) (fun hh=>?_)⟩
    ·refine⟨_,rfl,ll,rfl,.inl ⟨⟨_,.of Y⟩,?_⟩⟩
     obtain⟨r1,r2,r3,r4⟩:=ZgE G U t6 t7;refine WK V9 (fun j n6 H3=>∃(c3:List Int) (u6 u8:Option V),n6=[some (.int n),some (.ref a),some (.ref ll),some (.int ((((lsN n).map V.int).length:Int)-1)),some (.ref l),some (.int k),u6,some (.int (co c2 k)),u8]/\Zv H H3/\H3 ll=some (.lst ((lsN n).map V.int))/\H3 l=some (.lst (c3.map V.int))/\c3.length=n/\
       Uu ((lsN n).drop j) (k-Js n+j) (co c2 k) c3=Uu (lsN n) (k-Js n) (co c2 k) c2)
      ⟨c2,_,_,rfl,UN,Y,O,U,rfl⟩ (fun j n6 H3 h=>.of h.choose_spec.choose_spec.choose_spec.2.2.1) ?_ ?_
     ·rintro j y n6 H3 T' hy ⟨c3,u6,u8,rfl,sm3,g1,g2,g3,g4⟩ nT
      obtain⟨hj,rfl⟩:=XE hy;have w8:=G.l2;have kj:k-Js n+j<c3.length:=by omega
      have eI:V.int ((k:Int)-((((lsN n).map V.int).length:Int)-1)+(j:Int))=V.int ((k-Js n+j:Nat):Int):=congrArg V.int (by omega);have p6:=Zv.upd (o:=.tup [.int j,.int (co (lsN n) j)]) nT _ _ g2;have cb:=Uf G.sm j;refine⟨T',_,rfl,.of Zt,rfl,_,_,rfl,_,_,rfl,rfl,_,rfl,_,rfl,_,rfl,_,_,rfl,rfl,_,rfl,_,_,rfl,rfl,l,_,k-Js n+j,.int (co c3 (k-Js n+j)),rfl,eI,p6,Zc2 kj,_,rfl,_,rfl,_,_,rfl,rfl,.inr ⟨by omega,by omega⟩,_,_,rfl,rfl,l,_,_,k-Js n+j,rfl,eI,p6,?_,?_⟩
      ·rw[Za];exact XJ kj
      ·refine⟨c3.set (k-Js n+j) (co c3 (k-Js n+j)-co c2 k*co (lsN n) j),_,_,rfl,(sm3.trans (Zv.upd nT)).updr o6,?_,?_,?_,?_⟩
       ·rw[Zy (bh o8)];exact Zv.upd nT _ _ g1
       ·rw[Zt,XA]
       ·rw[be];exact g3
       ·rw[<-g4,VB hj,Num.Uu]
        rfl
     ·rintro n6 H3 ⟨c3,u6,u8,rfl,sm3,g1,g2,g3,g4⟩
      rw[Za,fk,Num.Uu] at g4;refine⟨c3,_,_,_,_,rfl,sm3,g1,g2,g3,fun j=>?_,fun t ht=>?_⟩
      ·rw[g4,r2 j];exact hP j
      ·rw[g4]
       by_cases e:t=k
       ·rw[e];exact r3
       ·rw[r4 t (by omega)];exact hz t (by omega)
    ·have h0:co c2 k=0:=by
      apply ah;intro t9;apply hh;rw[Ye];simp[t9]
     refine⟨c2,_,_,_,_,rfl,UN,Y,O,U,hP,fun t ht=>?_⟩;by_cases e:t=k
     ·rw[e];exact h0
     ·exact hz t (by omega)
   ·rintro p4 r6 ⟨c2,r8,r9,t0,t5,rfl,UN,Y,O,U,hP,hz⟩
    refine⟨_,rfl,_,rfl,_,rfl,l,_,rfl,.of O,fun p1 h1=>⟨p1,_,rfl,.inl ⟨.of Zt,fun qq p7=>?_⟩⟩⟩;rw[o5,ZhT _ (by rw[Za];omega),<-List.map_take] at p7 ⊢;refine q qq _ ((UN.trans (Zv.upd h1)).trans (Zv.upd p7)) ?_;rw[Zt,ZiP G U (fun t ht=>hz t (by omega)) hP ws rfl]
end
end N52
namespace C52
open PySem L2 PySem.Spec PyProof.Rows
open Tb Pm
noncomputable abbrev Zgp:Stmt:=top 32
noncomputable def bkM (p x:Nat):Nat:=((ae p).find? fun y=>y*x % p == 1).getD 0
theorem ZnS {p x y j:Nat}(M:y<p)(q:j<p)(h:y*x % p=1)(h':j*x % p=1):y=j:=by
 have J:y*(j*x) % p=y % p:=by rw[<-Nat.mul_mod_mod,h',ik]
 have O:j*(y*x) % p=j % p:=by rw[<-Nat.mul_mod_mod,h,ik]
 have U:y*(j*x)=j*(y*x):=by rw[<-jW,fc y j,jW]
 rw[U,O,bM M,bM q] at J;exact J.symm
theorem ZkK {p x y:Nat}(j:y<p)(h:y*x % p=1):bkM p x=y:=by
 unfold bkM;cases q:(ae p).find? fun y=>y*x % p == 1 with
 |none=>
  have:=iF.mp q y (af.mpr j);rw[h] at this;exact absurd rfl this
 |some z=>
  have J:=af.mp (fZ q);have M:z*x % p=1:=eq_of_beq (jj (p:=fun y=>y*x % p == 1) q);exact ZnS J j M h
noncomputable def ofF (n r p:Nat)(share:Int)(z:Nat)(o:Nat->Int)(j:Nat):Int:=if j % (n / r)=0 then share*(bkM p r:Int)*Y0 r (fun k=>o k*((z ^ (j*k % n) % p:Nat):Int)) % (p:Int) else 0
noncomputable def Zhc (n:Nat)(v:Nat->Int):List Int:=Num.ZbN n (N52.Js n) (N52.RN n) ((ae n).map v)
noncomputable def ZdA:Sp:=fun vs H Q _=>∃(O U Y:Addr) (r m n p z:Nat) (j:Int) (J one:Nat->Int),vs=[.ref O,.ref U,.int j,.ref Y,.int p]/\H O=some (.lst (ZH r J))/\H U=some (.lst (ZH m one))/\H Y=some (.lst (WT p z n))/\
 1<=n/\n<=60/\m<=60/\1<=r/\r<=n/\r<p/\p<=100000/\PrM p/\Zib m p one/\(∀k,k<r->∃c:Nat,c<m/\J k=(c:Int))/\-(2 ^ 40)<j/\j<2 ^ 40/\
 ∀q M,Zv H M->M q=some (.tup ((Zhc n (ofF n r p j z fun k=>one (J k).toNat)).map V.int))->Q (.ref q) M
theorem ZnB {J:It}{q:Hp->Prop}{xs:List V}(S:Zih J q xs):Zdd J q (((ae xs.length).map nV).zip xs) where
 go:=fun i H h j=>S.go i H h (by rw[eP,Za,Zg,kC] at j;exact j)
 yld:=fun i H x M h O=>by
  obtain⟨T,y,rfl,U,rfl,e⟩:=S.yld i H x M h O;have j:=(ac.mp e).1;refine⟨T,.int i,y,rfl,U,rfl,?_⟩;rw[f6,Zc,am j];exact⟨rfl,e⟩
 stop:=fun i H h j=>S.stop i H h (by rw[eP,Za,Zg,kC] at j;exact j)
theorem ZiU {p z n k:Nat}(h:k<n):X9 (WT p z n) (k:Int)=some (V.int ((z ^ k % p:Nat):Int)):=by
 refine ZR ?_;unfold WT;rw[Zc,am h];rfl
theorem Ziu {n j:Nat}(v:Nat->Int)(x:Int)(h:j<n):(ZH n v).set j (V.int x)=ZH n fun i=>if i=j then x else v i:=by
 refine bf fun i=>?_;by_cases q:i<n
 ·rw[JO _ q,iO]
  by_cases e:j=i
  ·subst e
   rw[if_pos rfl,if_pos (by rw[Yk];exact q),if_pos rfl]
  ·rw[if_neg e,JO _ q,if_neg (fun z=>e z.symm)]
 ·rw[ak (by rw[be,Yk];omega),ak (by rw[Yk];omega)]
theorem Zcu (n:Nat):(aA n [V.int 0]).flatten=ZH n fun _=>0:=by
 have:∀k a,(aA k [V.int 0]).flatten=(de a k).map fun _=>V.int 0:=fun k=>by
  induction k with
  |zero=>intro a;rfl
  |succ k j=>intro a;rw[bm,bY,j (a+1),dY,aQ];rfl
 unfold ZH;rw[this n 0,<-dS]
section
variable {P:Program}{w:World}{K:aa}{mg:Str->Option Value}{base:Heap}
theorem Zg4 {f:Addr}{fd:FuncData}(F:WN K "number_at" "number_at" Zgp f fd)(T:Bl mg)(T2:Zdi mg)(T5:BlT mg)(GB:Fn P w K mg base Yi 1 "back_by" ["p", "x"] Xu)(GN:Fn P w K mg base Yi 3 "number_of" ["n", "powers"] (N52.Zdz K)):Yb P w K mg base Yi 4 f fd ["walk", "one", "share", "roots", "p"] ZdA:=by
 refine F.ok (FS (N:=["walk", "one", "share", "roots", "p", "n", "step", "part", "often", "j"])) (fun vs H Q E h=>?_) (fun o7 A n6 s H vs Q E hr h=>?_)
 ·obtain⟨M,oa,ra,r,m,n,p,z,share,wk,one,rfl,_⟩:=h;rfl
 ·obtain⟨M,oa,ra,r,m,n,p,z,share,wk,one,rfl,hW,hO,hR,n1,n60,o8,r1,rn,rp,pl,pr,vo,n8,o9,p3,q⟩:=h
  refine⟨_,Zs (ZD 5 rfl (cb (YF K) T.len (pc (vn 3) Zu)))
   (Zs (ZD 6 rfl (Zz Wx (vn 5) (cb (YF K) T.len (pc (vn 0) Zu))))
   (Zs (ZD 7 rfl (Zz ZP (vn 2) (Ws GB hr ZK (pc (vn 4) (pc (cb (YF K) T.len (pc (vn 0) Zu)) Zu)))))
   (Zs (ZD 8 rfl (Zz Xf (ZW (pc Zx Zu)) (vn 5)))
   (Zs (ZT av rfl (ZoG T.range (pc Zx (pc (vn 5) (pc (vn 6) Zu)))) (gnf 9 rfl)
    (Zw (JB (Zz Z0 (Zz ZP (vn 7) (cb (sumK K rfl) T5.sum (pc (cmp ["k", "c"] [1,3,9,5] ["k", "c", "one", "roots", "j", "n"] rfl (V7 K T2.enumerate (pc (vn 0) Zu)) (fun _ _ _ _ _=>g2 K 0 1 rfl (gn 0) (gn 1)) (fun _ _ _ _ _=>ZQ)
     (fun _ _ _ _ _=>Zz ZP (ZG (X2 K) (vn 2) (vn 1) (fun _ _=>rfl)) (ZG (X2 K) (vn 3) (Zz Z0 (Zz ZP (vn 4) (vn 0)) (vn 5)) (fun _ _=>rfl)))) Zu))) (vn 4)) (XW (vn 8) (vn 9) YT))))
   (Zw (ZF (Ws GN hr ZK (pc (vn 5) (pc (vn 8) Zu))))))))),?_⟩
  have p2:=pr.p2;have sz:(16777216:Nat)=sizeLine:=by decide
  have n9:1<=n / r:=Nat.div_pos rn (by omega);have p4:n / r<=n:=jw _ _;have p6:((n:Nat):Int) / ((r:Nat):Int)=((n / r:Nat):Int):=rfl;refine⟨_,rfl,ra,_,rfl,.inl (.of hR),?_⟩;rw[Vy];refine⟨_,rfl,_,rfl,M,_,rfl,.inl (.of hW),?_⟩;rw[Yk];refine⟨_,_,rfl,rfl,⟨by omega,by omega⟩,_,rfl,_,rfl,_,rfl,M,_,rfl,.inl (.of hW),?_⟩;rw[Yk];obtain⟨y0,y1,y2,y3⟩:=pr.iv r (by omega) rp;refine⟨p,_,rfl,p2,pl,⟨y0,y1,y2,by rw[<-aK,<-a6,y3];rfl⟩,fun y a1 a2 a3=>?_⟩;have hy:y*r % p=1:=by
   have:((y*r % p:Nat):Int)=1:=by rw[a6,aK];exact a3
   omega
  have eb:=ZkK a2 hy;refine⟨_,_,rfl,rfl,.inl ⟨by omega,by omega⟩,?_⟩;refine⟨(by show 1<=sizeLine;decide),fun l0 o0=>⟨_,rfl,l0,_,_,rfl,rfl,Zt,by omega,by omega,by show 1*((n:Int)).toNat<=sizeLine;omega,fun L nL=>?_⟩⟩;rw[Zj,Zcu];have s1:=Zv.upd (H:=H) (o:=.lst [.int 0]) o0;have o5:H L=none:=s1.free nL;have s2:=s1.trans (Zv.upd (o:=.lst (ZH n fun _=>0)) nL);have h2:upd (upd H l0 (.lst [.int 0])) L (.lst (ZH n fun _=>0)) L=some (.lst (ZH n fun _=>0)):=Zt;generalize upd (upd H l0 (.lst [.int 0])) L (.lst (ZH n fun _=>0))=H2 at s2 h2 ⊢;refine⟨_,rfl,_,rfl,n,n / r,rfl,n9,by omega,by omega,?_⟩;refine ZhF (fun i Y H'=>∃v9:Option V,Y=[some (.ref M),some (.ref oa),some (.int share),some (.ref ra),some (.int (p:Nat)),some (.int (n:Nat)),some (.int ((n / r:Nat):Int)),some (.int (share*(y:Int))),some (.ref L),v9]/\Zv H H'/\H' L=some (.lst (ZH n fun j=>if j<i*(n / r) then ofF n r p share z (fun k=>one (wk k).toNat) j else 0)))
   ⟨_,rfl,s2,by rw[h2];congr 2;exact Wb fun j _=>by rw[if_neg (by omega)]⟩ ?_ ?_
  ·rintro i Y H3 hi ⟨v9,rfl,s3,h3⟩
   have hj:i*(n / r)<n:=by
    unfold WE at hi;have:(i+1)*(n / r)<=n+n / r-1:=aZ (cx _ hi) (Nat.div_mul_le_self _ _);rw[b8] at this;omega
   have ej:(0:Int)+(i:Int)*((n / r:Nat):Int)=((i*(n / r):Nat):Int):=by rw[aK];omega
   rw[ej];generalize O:i*(n / r)=j at hj;have m5:=s3 _ _ hW;refine⟨_,rfl,_,rfl,M,rfl,.inl ⟨⟨_,.of m5⟩,?_⟩⟩;have zi:Zdd (Zj9 K M) (fun H=>Wt K H M (ZH r wk)) ((ZH r fun k=>(k:Int)).zip (ZH r wk)):=by
    have:=ZnB (V9 (K:=K) (a:=M) (xs:=ZH r wk));rw[Yk] at this;exact this
   refine X5 zi (fun H' sm=>.of (sm _ _ m5)) (Zv.refl H3) [some (.ref oa),some (.ref ra),some (.int (j:Nat)),some (.int (n:Nat))] rfl (fun k c=>one c.toNat*((z ^ (j*k.toNat % n) % p:Nat):Int)) (by omega) (fun k H4 hk s4 R g=>?_) (fun D H4 nD s4 hD=>?_)
   ·obtain⟨c,hc,ec⟩:=n8 k hk
    have J:=s3.trans s4;have g1:=vo.ge c hc;have p7:=vo.lt c hc;rw[ec] at g ⊢;rw[Zj,Zj] at g;have m6:((j:Nat):Int)*((k:Nat):Int) % ((n:Nat):Int)=((j*k % n:Nat):Int):=by rw[a6,aK]
    have o6:X9 (WT p z n) (((j:Nat):Int)*((k:Nat):Int) % ((n:Nat):Int))=some (V.int ((z ^ (j*k % n) % p:Nat):Int)):=by
     rw[m6];exact ZiU (bP _ (by omega))
    refine⟨_,rfl,_,rfl,oa,_,_,_,rfl,rfl,.of (J _ _ hO),ZR (JO one hc),_,rfl,_,rfl,_,rfl,_,_,rfl,rfl,.inl ⟨by omega,by omega⟩,_,rfl,_,_,rfl,rfl,(by show (0:Int)<(n:Int);omega),ra,_,_,_,rfl,rfl,.of (J _ _ hR),o6,_,_,rfl,rfl,.inl ⟨by omega,by omega⟩,g⟩
   ·rw[W0] at hD
    have yb:(y:Int)<100000:=by omega
    have mb:-(2 ^ 64)<share*(y:Int)/\share*(y:Int)<2 ^ 64:=by
     have h1:(y:Int) ≥ 1:=by omega
     constructor
     ·have:share*(y:Int) ≥ -(2 ^ 40)*100000:=by
       have a:share*(y:Int) ≥ (-(2 ^ 40))*(y:Int):=c7 (by omega) (by omega);have b:(-(2 ^ 40):Int)*(y:Int) ≥ -(2 ^ 40)*100000:=by omega
       omega
      omega
     ·have:share*(y:Int)<=(2 ^ 40)*(y:Int):=c7 (by omega) (by omega)
      omega
    have J:=s3.trans s4;refine⟨D,_,rfl,.of hD,_,_,rfl,rfl,.inl mb,_,rfl,_,_,rfl,rfl,(by show (0:Int)<(p:Int);omega),_,rfl,_,rfl,L,_,_,j,rfl,rfl,s4 _ _ h3,JE (by rw[Yk];exact hj),?_⟩;refine⟨_,rfl,J.updr o5,?_⟩;rw[Zt,Ziu _ _ hj];congr 2;refine Wb fun a ha=>?_;have U:j % (n / r)=0:=by rw[<-O];exact Nat.mul_mod_left _ _
    by_cases e1:a=j
    ·rw[if_pos e1,if_pos (by rw[e1,<-O,b8];omega),e1]
     unfold ofF;rw[if_pos U,eb];rfl
    ·rw[if_neg e1]
     by_cases e2:a<j
     ·rw[if_pos (by rw[O];exact e2),if_pos (by rw[b8,O];omega)]
     ·rw[if_neg (by rw[O];exact e2)]
      by_cases e3:a<(i+1)*(n / r)
      ·rw[if_pos e3]
       unfold ofF;rw[if_neg];intro hz;rw[b8,O] at e3;obtain⟨q1,m8⟩:=bc hz;obtain⟨q2,p8⟩:=bc U;have:i<q1:=by
        apply ah;intro zz;have h4:(n / r)*q1<=(n / r)*i:=fQ _ (by omega);rw[<-m8,fc,O] at h4;omega
       have h5:(n / r)*(i+1)<=(n / r)*q1:=fQ _ (by omega);rw[<-m8,jf,ik,fc,O] at h5;omega
      ·rw[if_neg e3]
  ·rintro Y H3 ⟨v9,rfl,s3,h3⟩
   have big:n<=WE n (n / r)*(n / r):=by
    unfold WE;have h1:=Nat.div_add_mod (n+n / r-1) (n / r);have h2:=bP (n+n / r-1) (show 0<n / r by omega);rw[fc] at h1;omega
   have e3:(ZH n fun j=>if j<WE n (n / r)*(n / r) then ofF n r p share z (fun k=>one (wk k).toNat) j else 0)=ZH n (ofF n r p share z fun k=>one (wk k).toNat):=Wb fun j hj=>if_pos (by omega)
   rw[e3,W0] at h3;refine⟨_,rfl,_,rfl,n,L,_,rfl,n1,n60,.inl (.of h3),by rw[Za,Zg];omega,fun q' H4 s4 h4=>?_⟩;exact q q' H4 (s3.trans s4) h4
end
noncomputable abbrev Zgj:Stmt:=top 4
noncomputable abbrev Zkn:Stmt:=top 5
noncomputable def Zdv:Sp:=fun j H Q _=>∃(g:Addr) (t:List (List Nat)) (a r:Nat),j=[.ref g,.int a]/\GT H g t/\PW t/\a<t.length/\Rd t a r/\Q (.int r) H
noncomputable def ZcF:Sp:=fun J H Q _=>∃(g:Addr) (t:List (List Nat)) (j:Nat->Nat),J=[.ref g]/\GT H g t/\PW t/\(∀a,a<t.length->Rd t a (j a))/\∀(f:Nat) q,Zv H q->Lc j t.length f->Q (.int f) q
section
variable {P:Program}{w:World}{K:aa}{mg:Str->Option Value}{base:Heap}
theorem ZgZ {f:Addr}{fd:FuncData}(F:WN K "round_of" "round_of" Zgj f fd):Yb P w K mg base Yi 1 f fd ["group", "a"] Zdv:=by
 refine F.ok (FS (N:=["group", "a", "k", "found"])) (fun vs H Q E h=>?_) (fun m5 A U s H vs Q E hr h=>?_)
 ·obtain⟨g,t,a,r,rfl,_⟩:=h;rfl
 ·obtain⟨g,t,a,r,rfl,G,Y,ha,R,q⟩:=h
  refine⟨_,Zs (ZD 2 rfl Zx) (Zs (ZD 3 rfl (vn 1))
   (Zs (Yg av (ZS Jp (vn 3) Zx (Z6 _))
    (Zs (ZD 3 rfl (ZG (XI K) (ZG (XI K) (vn 0) (vn 3) (fun _ _=>rfl)) (vn 1) (fun _ _=>rfl)))
    (Zw (JA (i:=2) (Z1 (by kernel_rfl)) rfl (YL (by kernel_rfl)) Zx WY (.inl rfl)))))
   (Zw (ZF (vn 2))))),?_⟩
  have r1:=R.r1;refine⟨_,rfl,?_⟩;refine Yc (fun m j O=>∃k:Nat,j=[some (.ref g),some (.int a),some (.int k),some (.int (it t a k:Nat))]/\O=H/\1<=k/\k<=r/\m=r-k)
   (fun j O=>∃v3:Option V,j=[some (.ref g),some (.int a),some (.int r),v3]/\O=H) ?hend ⟨r-1,1,by rw[Zc0 Y ha];rfl,rfl,Zq _,r1,rfl⟩ ?turn
  case hend=>
   rintro j O ⟨v3,rfl,rfl⟩;exact⟨_,rfl,q⟩
  case turn=>
   rintro J m j O ⟨k,rfl,rfl,k1,kr,hm⟩;refine⟨_,rfl,rfl,_,rfl,?_⟩;refine Y8 (fun M=>?_) (fun M=>?_)
   ·have M:it t a k≠0:=fun z=>by
     rw[Ye,z] at M;simp at M
    have m6:k<r:=bx kr fun z=>M (z▸R.z);obtain⟨rs,r2,g1,_,g2,g3,g4⟩:=G.at Y (WJ Y ha k);refine⟨_,fun _ _ z=>z,_,rfl,_,rfl,g,_,_,_,rfl,rfl,.of g1,g2,_,rfl,r2,_,_,_,rfl,rfl,g3.sq,g4 a ha,_,rfl,_,_,rfl,rfl,r-(k+1),by omega,k+1,?_,rfl,by omega,by omega,rfl⟩;rfl
   ·have M:it t a k=0:=by
     apply ah;intro z;apply M;rw[Ye];simp[z]
    have:k=r:=by
     apply ah;intro z;exact R.nz k k1 (by omega) M
    exact J _ _ ⟨_,by rw[this],rfl⟩
theorem Zji {f:Addr}{fd:FuncData}(F:WN K "full_round" "full_round" Zkn f fd)(T:Bl mg)(GR:Fn P w K mg base Yi 1 "round_of" ["group", "a"] Zdv):Yb P w K mg base Yi 2 f fd ["group"] ZcF:=by
 refine F.ok (FS (N:=["group", "found", "a", "step"])) (fun vs H Q E h=>?_) (fun m8 A m6 s H vs Q E hr h=>?_)
 ·obtain⟨g,t,rs,rfl,_⟩:=h;rfl
 ·obtain⟨g,t,rs,rfl,G,Pt,R,q⟩:=h
  refine⟨_,Zs (ZD 1 rfl Zx) (Zs (ZT av rfl (XV T.range (pc (cb (YF K) T.len (pc (vn 0) Zu)) Zu)) (gn 2)
    (Zs (ZD 3 rfl (vn 1))
    (Zw (Yg av (ZS Jp (Zz Z0 (vn 1) (Ws GR hr ZK (pc (vn 0) (pc (vn 2) Zu)))) Zx (Z6 _)) (Zw (JA (i:=1) (Z1 (by kernel_rfl)) rfl (YL (by kernel_rfl)) (vn 3) WY (.inl rfl)))))))
   (Zw (ZF (vn 1)))),?_⟩
  have n1:=Pt.n1;have n6:=Pt.n60;obtain⟨gs,g1,g2,_⟩:=id G;have el:(gs.map V.ref).length=t.length:=by rw[Za,g2]
  refine⟨_,rfl,g,_,rfl,.inr (.of g1),_,rfl,by omega,by rw[el];omega,?_⟩;rw[Zj,el];refine YC (fun i Y H'=>∃(f:Nat) (v2 v3:Option V),Y=[some (.ref g),some (.int f),v2,v3]/\Zv H H'/\Lc rs i f) ⟨1,_,_,rfl,Zv.refl _,⟨Zq _,fun a ha=>absurd ha (eS _),fun x _=>Nat.mod_one x⟩⟩ ?_ ?_
  ·rintro i Y H' hi ⟨f,v2,v3,rfl,sm,L⟩
   rw[show (0:Int)+(i:Int)=(i:Int) by omega];have Ri:=R i hi;have n8:=Ri.r1;have L2:Lc rs (i+1) (upTo (rs i) f 61 f):=L.step (B:=t.length) n1 (fun a ha=>(R a (by omega)).dv) (by omega);have m5:=L2.dv i (by omega);refine⟨_,rfl,?_⟩;refine Yc (fun m j J=>∃x:Nat,j=[some (.ref g),some (.int x),some (.int i),some (.int f)]/\J=H'/\upTo (rs i) f m x=upTo (rs i) f 61 f)
    (fun j J=>j=[some (.ref g),some (.int (upTo (rs i) f 61 f:Nat)),some (.int i),some (.int f)]/\J=H') ?hend ⟨61,f,rfl,rfl,rfl⟩ ?turn
   case hend=>
    rintro j J ⟨rfl,rfl⟩;exact⟨_,_,_,rfl,sm,L2⟩
   case turn=>
    rintro O m j J ⟨x,rfl,rfl,U⟩;have eT:(x:Int) % ((rs i:Nat):Int)=((x % rs i:Nat):Int):=by push_cast;rfl
    refine⟨_,rfl,_,rfl,_,rfl,g,t,i,rs i,rfl,G.mono sm,Pt,hi,Ri,_,_,rfl,rfl,(by show (0:Int)<(rs i:Nat);omega),rfl,_,rfl,?_⟩;refine Y8 (fun M=>?_) (fun M=>?_)
    ·have M:x % rs i≠0:=fun z=>by
      rw[Ye,eT,z] at M;simp at M
     cases m with
     |zero=>
      have U:x=upTo (rs i) f 61 f:=U;rw[<-U] at m5;exact absurd m5 M
     |succ m=>
      rw[Tb.upTo,if_neg M] at U;exact⟨_,fun _ _ z=>z,_,rfl,_,rfl,_,_,rfl,rfl,m,by omega,x+f,rfl,rfl,U⟩
    ·have M:x % rs i=0:=by
      apply ah;intro z;apply M;rw[Ye,eT];simp;omega
     have:x=upTo (rs i) f 61 f:=by
      cases m with
      |zero=>exact U
      |succ m=>rw[Tb.upTo,if_pos M] at U;exact U
     exact O _ _ ⟨by rw[this],rfl⟩
  ·rintro Y H' ⟨f,v2,v3,rfl,sm,L⟩
   exact⟨_,rfl,q f H' sm L⟩
end
end C52
namespace PyZ
open PySem PyProof PyProof.Rows SeqAt
open AutoSeq1 (wpAny_loadPart')
theorem ZfT (l b:Addr)(J j:Array Value)(n n2:Nat)(dd n8:Option Addr)(sl n9:Array (Option Value)){xs ys:List Int}(hx:a8 J.toList xs)(hy:a8 j.toList ys) :
  Meets (cC.«tuple.__lt__» ⟨[.ref l,.ref b],[]⟩)
   (fun A R s=>s.heap.get? l=some {cls:=.type "tuple",dict:=dd,data:=.seq J n,slots:=sl}/\s.heap.get? b=some {cls:=.type "tuple",dict:=n8,data:=.seq j n2,slots:=n9}/\
    R (.ok (.ret (.bool (Jt xs ys)))) s):=
 .of_wp fun m6 w A R s h=>by
  obtain⟨hp,g,d,tk,os⟩:=s;obtain⟨hl,hb,h⟩:=h;have f2:=AutoSeq1.sub_tuple_tuple;have sx:J.size=xs.length:=by rw[<-Ja hx,Zr]
  have sy:j.size=ys.length:=by rw[<-Ja hy,Zr]
  have hZ:(J.toList.zip j.toList).length=min J.size j.size:=by simp
  wp_walk using wpAny_loadPart' hl,wpAny_loadPart' hb,wpAny_forIn_list _ (fun rest b s'=>b.1=none/\s'=⟨hp,g,d,tk,os⟩/\∃i,rest=(J.toList.zip j.toList).drop i/\
   R (.ok (.ret (.bool (Uz (decide (xs.length<ys.length)) (xs.drop i) (ys.drop i))))) ⟨hp,g,d,tk,os⟩) _
  case turn=>
   rintro⟨y,x⟩ rest b s' ⟨O,rfl,i,U,M⟩;have m8:i<(J.toList.zip j.toList).length:=by
    rcases cq i (J.toList.zip j.toList).length with Y|Y
    ·exact Y
    ·rw[List.drop_of_length_le Y] at U;cases U
   have hm:i<min J.size j.size:=hZ▸m8;have h1:i<J.size:=aE hm (fM _ _);have h2:i<j.size:=aE hm (Nat.min_le_right _ _);rw[bU m8] at U;injection U with n6 m5;have o0:y=J[i]:=by have:=congrArg kL n6;simpa using this
   have o5:x=j[i]:=by have:=congrArg Prod.snd n6;simpa using this
   subst o0 o5;obtain⟨a,ta,ex,vx⟩:=JV hx (i:=i) (v:=J[i]) (by simp[h1]);obtain⟨c,tc,ey,vy⟩:=JV hy (i:=i) (v:=j[i]) (by simp[h2]);rw[UZ ex ey] at M;rw[vx,vy];refine Zl (fG _ _ _ _ m6 w _ _ ?_);by_cases e:a=c
   ·rw[if_pos e] at M
    rw[show (a == c)=true from beq_iff_eq.mpr e]
    wp_walk
    exact⟨rfl,rfl,i+1,m5,M⟩
   ·rw[if_neg e] at M
    rw[show (a == c)=false from beq_eq_false_iff_ne.mpr e];simp only[Bool.not_false,if_true];refine Zl (eE ?_);refine Zl (show wpAny _ _ (compareOp .Lt (.int a ta) (.int c tc)) _ _ _ from lt_int ?_)
    wp_walk
    exact⟨_,rfl,M⟩
  case fin=>
   rintro⟨b1,b2⟩ s' ⟨O,rfl,i,U,M⟩;simp only at O;subst O;have o7:min J.size j.size<=i:=by
    rcases cq i (J.toList.zip j.toList).length with Y|Y
    ·rw[bU Y] at U;cases U
    ·exact hZ▸Y
   rw[V2 (by
    rcases cq i xs.length with q|q
    ·exact .inr (ak (by omega))
    ·exact .inl (ak q))] at M
   wp_walk
   refine⟨_,rfl,?_⟩;rw[sx,sy];exact M
  case h=>
   exact⟨rfl,rfl,0,rfl,h⟩
noncomputable def Zhl (fin:Bool):List (List Int)->List (List Int)->Bool
 | [],_=>fin
 |_::_,[]=>fin
 |x::j,y::q=>if x=y then Zhl fin j q else Jt x y
noncomputable def XF (xs ys:List (List Int)):Bool:=Zhl (decide (xs.length<ys.length)) xs ys
noncomputable def JM (h:Heap):List Value->List (List Int)->Prop
 | [],[]=>True
 |v::q,x::J=>(∃a j,v=.ref a/\h.IsTuple a j/\a8 j.toList x)/\JM h q J
 |_,_=>False
section
variable {prog:Program}{w:World}{A:Around}{E:Value->Shared->Prop}{s:Shared}
theorem ZjH {us vs:List Value}{xs ys:List Int}(q:a8 us xs)(j:a8 vs ys)(h:us=vs):xs=ys:=by
 subst h;induction q generalizing ys with
 |nil=>cases j;rfl
 |cons _ _ _ J=>cases j with|cons _ _ r=>rw[J r]
theorem Zl5 {xs ys:List Int}:((ae (min xs.length ys.length)).all (fun j=>xs.getD j 0 == ys.getD j 0) && xs.length == ys.length)=decide (xs=ys):=by
 by_cases e:xs=ys
 ·subst e
  rw[decide_eq_true rfl,beq_self_eq_true,fv,aP];intro j _;exact beq_self_eq_true _
 ·rw[decide_eq_false e]
  cases q:((ae (min xs.length ys.length)).all (fun j=>xs.getD j 0 == ys.getD j 0) && xs.length == ys.length) with
  |false=>rfl
  |true=>
   refine absurd ?_ e;rw[ag,aP] at q;have M:xs.length=ys.length:=eq_of_beq q.2;refine bf fun i=>?_;by_cases J:i<xs.length
   ·have:=eq_of_beq (q.1 i (af.mpr (by omega)))
    rw[Zf J,Zf (by omega)];rw[Zb,Zb,Zf J,Zf (by omega)] at this;exact congrArg some this
   ·rw[ak (by omega),ak (by omega)]
theorem ZfF {a b:Addr}{us vs:Array Value}{xs ys:List Int}(U:A.units<cLine)(O:s.heap.IsTuple a us)(hb:s.heap.IsTuple b vs)(J:a8 us.toList xs)(M:a8 vs.toList ys):ki A s (.ref a) (.ref b) (decide (xs=ys)):=by
 by_cases e:a=b
 ·subst e
  obtain⟨o,Y,_,n1,d1⟩:=O;obtain⟨o2,k1,_,n2,q⟩:=hb;rw[Y] at k1;cases k1;rw[d1] at q;injection q with q _;subst q;rw[ZjH J M rfl,decide_eq_true rfl];exact EqAt.same _
 ·have sx:us.size=xs.length:=by rw[<-Ja J,Zr]
  have sy:vs.size=ys.length:=by rw[<-Ja M,Zr]
  have:=RcAt.tuples (A:=A) (s:=s) (e:=fun j=>xs.getD j 0 == ys.getD j 0) O hb U (fun j h1 h2=>by
   obtain⟨x,tx,ex,vx⟩:=JV J (i:=j) (v:=us[j]) (by simp[h1]);obtain⟨y,ty,ey,vy⟩:=JV M (i:=j) (v:=vs[j]) (by simp[h2]);rw[vx,vy,Zb,Zb,ex,ey];exact fG _ _ _ _)
  rw[sx,sy,Zl5] at this;exact EqAt.of_refs e this
theorem Zjs {a b:Addr}{us vs:Array Value}{xs ys:List Int}{Q:Value->Shared->Prop}(hu:A.units<cLine)(ha:s.heap.IsTuple a us)(hb:s.heap.IsTuple b vs)(hx:a8 us.toList xs)(hy:a8 vs.toList ys)(h:Q (.bool (Jt xs ys)) s):wpAny (model prog w) A (compareOp .Lt (.ref a) (.ref b)) Q E s:=by
 obtain⟨⟨m6,dd,data,sl⟩,U,Y,n,hd⟩:=id ha;obtain⟨⟨m5,M,data2,O⟩,j,q,n2,J⟩:=id hb;simp only at Y hd q J;subst Y hd q J;exact richCompare_meets_room (op:=.Lt) ⟨_,U,rfl⟩ ⟨_,j,rfl⟩ F.slot_tuple_lt F.entry_tuple_lt (F.args_tuple_lt_2 _ _) (ZfT a b us vs n n2 dd M sl O hx hy)
  ⟨U,j,show ix (Jt xs ys)≠Value.notImplemented/\Q (.bool (Jt xs ys)) s from ⟨(fun x=>nomatch x),h⟩⟩ hu
theorem Zem {fin:Bool}{Q:Bool->Shared->Prop}(O:A.units<cLine):∀(M vs:List Value) (xs ys:List (List Int)) (i:Nat),JM s.heap M xs->JM s.heap vs ys->Q (Zhl fin xs ys) s->W.KatLex prog w A false fin Q (M.zip vs) i s
 | [],vs,xs,ys,i,j,J,q=>by
  cases xs with
  |nil=>exact iA q
  |cons _ _=>exact j.elim
 |_::_,[],xs,ys,i,j,J,q=>by
  cases ys with
  |cons _ _=>exact J.elim
  |nil=>
   cases xs with
   |nil=>exact iA q
   |cons x xs=>exact iA q
 |u::M,v::vs,xs,ys,i,j,J,q=>by
  cases xs with
  |nil=>exact j.elim
  |cons x xs=>
   cases ys with
   |nil=>exact J.elim
   |cons y ys=>
    obtain⟨⟨a,ua,rfl,U,Y⟩,r1⟩:=j;obtain⟨⟨b,ub,rfl,tb,ib⟩,r2⟩:=J;rw[lG];refine W.kat_cons ?_;refine ZfF O U tb Y ib prog w _ _ ?_;rw[Zhl] at q;by_cases e:x=y
    ·rw[if_pos e] at q
     rw[decide_eq_true e];exact W.kat_yes (Zem O M vs xs ys (i+1) r1 r2 q)
    ·rw[if_neg e] at q
     rw[decide_eq_false e];refine W.kat_no ?_;rw[Bool.false_and];exact W.kat_one _ _ (Zjs O U tb Y ib q)
end
end PyZ
namespace PyZ
open PySem PyProof PyProof.Rows SeqAt
theorem ZaE (ys:List (List Int)):XF [] ys=decide (0<ys.length):=rfl
theorem ZbW (xs:List (List Int)):XF xs []=false:=by
 cases xs with
 |nil=>rfl
 |cons x xs=>
  show decide ((x::xs).length<([]:List (List Int)).length)=false;exact decide_eq_false (by simp)
theorem VZ (x y:List Int)(xs ys:List (List Int)):XF (x::xs) (y::ys)=if x=y then XF xs ys else Jt x y:=by
 unfold XF;show (if x=y then Zhl _ xs ys else _)=_
 have e:decide ((x::xs).length<(y::ys).length)=decide (xs.length<ys.length):=by
  simp only[Zi,jX]
 rw[e]
theorem Zee:∀xs:List (List Int),XF xs xs=false
 | []=>rfl
 |x::xs=>by rw[VZ,if_pos rfl];exact Zee xs
theorem ZaD:∀{xs ys:List (List Int)},XF xs ys=false->XF ys xs=false->xs=ys
 | [],[],_,_=>rfl
 | [],_::_,h,_=>by rw[ZaE] at h;simp at h
 |_::_,[],_,h=>by rw[ZaE] at h;simp at h
 |x::xs,y::ys,j,q=>by
  rw[VZ] at j q;by_cases e:x=y
  ·rw[if_pos e] at j
   rw[if_pos e.symm] at q;rw[e,ZaD j q]
  ·rw[if_neg e] at j
   rw[if_neg (bh e)] at q;exact absurd (VA j q) e
theorem UX:∀{xs ys O:List (List Int)},XF xs ys=true->XF ys O=true->XF xs O=true
 |xs,ys,[],_,h=>by rw[ZbW] at h;cases h
 |xs,[],z::O,h,_=>by rw[ZbW] at h;cases h
 | [],y::ys,z::O,_,_=>by rw[ZaE];exact decide_eq_true (by simp)
 |x::xs,y::ys,z::O,J,q=>by
  rw[VZ] at J q ⊢;by_cases M:x=y
  ·rw[if_pos M] at J
   by_cases j:y=z
   ·rw[if_pos j] at q
    rw[if_pos (M.trans j)];exact UX J q
   ·rw[if_neg j] at q
    rw[if_neg (by rw[M];exact j),M];exact q
  ·rw[if_neg M] at J
   by_cases j:y=z
   ·rw[if_neg (by rw[<-j];exact M),<-j]
    exact J
   ·rw[if_neg j] at q
    have U:=X1 J q;rw[if_neg (fun e=>by rw[e,ZaG] at U;cases U)];exact U
noncomputable def rkR (yss:List (List (List Int)))(i:Nat):Nat:=(ae yss.length).countP fun k=>XF (yss.getD k []) (yss.getD i [])
theorem ZdU {yss:List (List (List Int))}{i j:Nat}(q:i<yss.length)(O:j<yss.length):XF (yss.getD i []) (yss.getD j [])=decide (rkR yss i<rkR yss j):=by
 have J:∀{i j:Nat},i<yss.length->XF (yss.getD i []) (yss.getD j [])=true->rkR yss i<rkR yss j:=fun {i j} q h=>by
  refine X4 (fun k _ U=>UX U h) ⟨i,af.mpr q,Zee _,h⟩
 cases e:XF (yss.getD i []) (yss.getD j []) with
 |true=>rw[decide_eq_true (J q e)]
 |false=>
  cases M:XF (yss.getD j []) (yss.getD i []) with
  |true=>
   have:=J O M;rw[decide_eq_false (by omega)]
  |false=>
   have:=ZaD e M;unfold rkR;rw[this];exact (decide_eq_false (by omega)).symm
theorem ZcI {yss:List (List (List Int))}(M:1<=yss.length):∃p,Xe yss.length (fun i j=>XF (yss.getD i []) (yss.getD j [])) (f8 yss.length)=some p/\p.toList.Perm (ae yss.length)/\(p.toList.map fun i=>yss.getD i []).Pairwise fun a b=>XF b a=false:=by
 obtain⟨p,e,q,J⟩:=ZdG M (rkR yss);refine⟨p,(Xd (fun i j O U=>ZdU O U) _).trans e,q,?_⟩;rw[gf] at J ⊢;refine dJ (fun {a b} Y hb m5=>?_) J;have la:=af.mp (q.mem_iff.mp Y);have lb:=af.mp (q.mem_iff.mp hb);rw[ZdU lb la];exact decide_eq_false (by omega)
theorem JM.len {h:Heap}:∀{us:List Value}{xs:List (List Int)},JM h us xs->us.length=xs.length
 | [],[],_=>rfl
 | [],_::_,h=>h.elim
 |_::_,[],h=>h.elim
 |_::_,_::_,h=>by rw[Zi,Zi,h.2.len]
theorem Zb3 {h:Heap}:∀(as:List Addr) (yss:List (List (List Int))),as.length=yss.length->(∀(i:Nat) a,as[i]?=some a->∃(j:List Value) (ys:List (List Int)),yss[i]?=some ys/\h.IsTuple a j.toArray/\JM h j ys/\ys≠[])->
  ∃fs:List Value,W.KatTups h (as.map aB) fs/\fs.length=as.length/\∀v∈fs,∃a j,v=aB a/\h.IsTuple a j
 | [],[],_,_=>⟨[],lC,rfl,fun v q=>by cases q⟩
 | [],_::_,h,_=>by cases h
 |_::_,[],h,_=>by cases h
 |a::as,ys::yss,M,g=>by
  obtain⟨j,O,e,⟨o,U,c,n,d⟩,J,ne⟩:=g 0 a rfl;cases e;obtain⟨fs,k,l,f⟩:=Zb3 as yss (cy M) fun i Y hi=>g (i+1) Y hi
  match j,ys,J,ne with
  |_,[],_,ne=>exact absurd rfl ne
  | [],_::_,J,_=>exact J.elim
  |u::j,y::ys,J,_=>
   obtain⟨⟨b,ub,rfl,tb,_⟩,_⟩:=J;refine⟨aB b::fs,lq U c d (by simp) k,by rw[Zi,Zi,l],fun v q=>?_⟩;rcases aG.mp q with rfl|q
   ·exact⟨b,ub,rfl,tb⟩
   ·exact f v q
section
variable {prog:Program}{w:World}{A:Around}{E:Value->Shared->Prop}{s:Shared}
theorem Zaj {l L:Addr}{m:Str->Option Value}{as:List Addr}{yss:List (List (List Int))}{p:Array Nat}{Q:Value->Shared->Prop}(hu:A.units+2<cLine)(n6:s.heap.Ns L m)(hl:s.heap.IsList l (as.map aB).toArray)(n2:2<=as.length)(n8:as.length<64)(hy:as.length=yss.length)
  (ht:∀h':Heap,(∀b o,b≠L->s.heap.get? b=some o->h'.get? b=some o)->∀(i:Nat) a,as[i]?=some a->∃(us:List Value) (ys:List (List Int)),yss[i]?=some ys/\h'.IsTuple a us.toArray/\JM h' us ys/\ys≠[])
  (hp:Xe as.length (fun i j=>XF (yss.getD i []) (yss.getD j [])) (f8 as.length)=some p)
  (q:∀D c h',s.heap.get? D=none->D≠L->(∀b o,b≠L->s.heap.get? b=some o->h'.get? b=some o)->h'.Ns L m->h'.get? D=some (lL (p.toList.map fun i=>(as.map aB).getD i a9).toArray c)->Q (.ref D) {s with heap:=h'}) :
  wpAny (model prog w) A (call (.builtin "sorted") [.ref l]) Q E s:=by
 have fr:Fr (UB s.heap L) L s.heap m:=by
  refine⟨n6,fun b o e=>?_,?_⟩
  ·by_cases hb:b<L
   ·rw[YA hb] at e;exact e
   ·rw[WC (ft hb)] at e
    cases e
  ·show (s.heap.objs.extract 0 L).size<=L
   rw[fW,dw];exact fM ..
 have nw:News (UB s.heap L) L s.heap (Ya s.heap L):=fun x hx=>by
  obtain⟨J,h2⟩:=Z9.mp hx;exact⟨h2,bb J,WC (cR J)⟩
 have lv:(as.map aB).length=as.length:=fI ..;refine lh fr nw hl (by rw[lv];exact n2) (by rw[lv];exact n8) fun D e1 h' m5 M big=>?_;have kept:∀b o,b≠L->s.heap.get? b=some o->h'.get? b=some o:=fun b o hb e=>by
  rcases cq b L with J|J
  ·exact m5.keep b o (by rw[YA J];exact e)
  ·exact (M (b,o) (ao _ (Z9.mpr ⟨bx J (bh hb),e⟩))).1
 have dn:s.heap.get? D=none:=by
  cases e:s.heap.get? D with
  |none=>rfl
  |some o=>
   obtain⟨_,dL,dc⟩:=M _ (aq ..);rcases cq D L with J|J
   ·rw[YA J] at dc
    rw[dc] at e;cases e
   ·exact absurd (big (D,o) (Z9.mpr ⟨bx J (bh dL),e⟩)) (bR _)
 have dL:D≠L:=(M _ (aq ..)).2.1;have Y:=ht h' kept;obtain⟨fs,kt,fl,fi⟩:=Zb3 as yss hy Y;refine W.kat_kind (T:=cn "tuple") kt (by omega) (fun v hv=>?_) (by decide +kernel) ?_
 ·obtain⟨a,us,rfl,⟨o,g1,g2,_⟩⟩:=fi v hv
  intro A Q E s' hk q;refine ic (T:="tuple") ⟨o,hk _ _ g1,g2⟩ q
 ·rw[lv]
  have kb:(cn "tuple" != cn "tuple")=false:=by decide +kernel
  rw[kb];refine JU (cmp:=fun i j=>XF (yss.getD i []) (yss.getD j [])) (fun i j C hi hj c=>?_) _ p _ hp ?_
  ·unfold W.kas_ask
   obtain⟨us,ys,e,⟨o,g1,g2,n1,g3⟩,ia,_⟩:=Y i as[i] (Zf hi);obtain⟨n9,m6,e2,⟨o2,k1,k2,o5,k3⟩,m8,_⟩:=Y j as[j] (Zf hj);have v1:(as.map aB).getD i a9=.ref as[i]:=by
    rw[Zb,Zc,Zf hi];rfl
   have v2:(as.map aB).getD j a9=.ref as[j]:=by
    rw[Zb,Zc,Zf hj];rfl
   have w1:yss.getD i []=ys:=by rw[Zb,e];rfl
   have w2:yss.getD j []=m6:=by rw[Zb,e2];rfl
   rw[v1,v2];refine W.kat_lt g1 g3 k1 k3 ?_;refine Zem (by show A.units+1+1<cLine;omega) us n9 ys m6 0 ia m8 ?_;rw[w1,w2] at c;unfold XF at c;rw[Zh,Zh,ia.len,m8.len];exact c
  ·refine⟨_,_,m5,M,jY (fun x hx=>aC (big x hx)),fun o0 c O U=>?_⟩
   refine q D c o0 dn dL (fun b o hb e=>?_) O.ns (U _ (aq ..)).1;rcases cq b L with J|J
   ·exact O.keep b o (by rw[YA J];exact e)
   ·exact (U (b,o) (ao _ (Z9.mpr ⟨bx J (bh hb),e⟩))).1
end
end PyZ
namespace L2
open PySem PySem.Spec PyProof.Rows
noncomputable def RowT (H:Hp)(a:Addr)(ys:List (List Int)):Prop:=∃cs:List Addr,H a=some (.tup (cs.map V.ref))/\cs.length=ys.length/\∀(i:Nat) c,cs[i]?=some c->∃y,ys[i]?=some y/\H c=some (.tup (y.map V.int))
section
variable {X:Cx}{pins:List (Addr×Obj)}{σ:St}{H:Hp}{s:Shared}
noncomputable def Zlf:List V->Hp->VK->Prop:=fun xs H Q=>∃(l:Addr) (q:List Addr) (j:List (List (List Int))),xs=[.ref l]/\H l=some (.lst (q.map V.ref))/\q.length=j.length/\q.length<64/\
 (∀(i:Nat) a,q[i]?=some a->∃J,j[i]?=some J/\J≠[]/\RowT H a J)/\
 ∀D M,H D=none->bG M (ae q.length)->(M.map fun i=>j.getD i []).Pairwise (fun a b=>PyZ.XF b a=false)->Q (.ref D) (upd H D (.lst ((M.map fun i=>q.getD i 0).map V.ref)))
theorem UL (I:Inv X pins σ H s){h':Heap}(kept:∀b o,b≠X.env.locals->s.heap.get? b=some o->h'.get? b=some o):∀(cs:List Addr) (ys:List (List Int)),cs.length=ys.length->(∀(i:Nat) c,cs[i]?=some c->∃y,ys[i]?=some y/\H c=some (.tup (y.map V.int)))->PyZ.JM h' (cs.map aB) ys
 | [],[],_,_=>trivial
 | [],_::_,h,_=>by cases h
 |_::_,[],h,_=>by cases h
 |c::cs,y::ys,J,g=>by
  obtain⟨y',e,j⟩:=g 0 c rfl;cases e;obtain⟨us,M,⟨o,O,g2⟩,_⟩:=I.tuple (.of j);have q:c≠X.env.locals:=fun z=>by rw[z,I.free] at j;cases j
  exact⟨⟨c,us.toArray,rfl,⟨o,kept c o q O,g2⟩,by simpa using Je M⟩,UL I kept cs ys (cy J) fun i U Y=>g (i+1) U Y⟩
theorem Uo (hu:X.A.units+64<cLine):Yu X (.builtin "sorted") Zlf:=by
 intro pins s σ H xs us Q I r h;obtain⟨l,j,J,rfl,hl,hy,m6,ht,q⟩:=h;obtain⟨u,rfl,ru⟩:=r.one;cases ru;obtain⟨m,hm,m8⟩:=id I.loc;obtain⟨z,o7,n,rv,hlen,e⟩:=I.lstM hl;have ei:=WB rv;subst ei;have Y:s.heap.IsList l (j.map aB).toArray:=(I.list (.of hl)).elim fun o6 hh=>by
  obtain⟨O,pl,_⟩:=hh;have:=WB O;rw[this] at pl;exact pl.isList
 have o8:(16777216:Nat)=sizeLine:=by decide
 have n6:∀{a:Addr}{o:HO},H a=some o->a≠X.env.locals:=fun {a o} e z=>by rw[z,I.free] at e;cases e
 by_cases n2:j.length<2
 ·refine PyZ.Xw Y (by rw[Za];exact n2) ?_
  obtain⟨e1,he⟩:=sortedAll_at s.heap (j.map aB) (j.map aB).toArray;have m5:∀b o,s.heap.get? b=some o->(sortedAll s.heap (j.map aB) (j.map aB).toArray).get? b=some o:=fun b o e=>sortedAll_old e;generalize sortedAll s.heap (j.map aB) (j.map aB).toArray=h' at he m5 ⊢;have U:s.heap.objs.size<=s.heap.objs.size+1:=gu _;generalize s.heap.objs.size+1=D at he U ⊢;have em:=Zd9 n2;have n8:=ZgT n2 (fun i=>J.getD i []) fun a b=>PyZ.XF b a=false;have fin:=q D (ae j.length) (I.hok.fresh U) (cS _) n8;rw[em] at fin;have I':Inv X pins σ (upd H D (.lst (j.map V.ref))) {s with heap:=h',toks:=s.toks}:=I.laid (a:=D) (o:=.lst (j.map V.ref)) (t':=s.toks) m5 U ⟨by rw[Za];omega,j.map aB,e1,W5 j,he⟩;exact⟨.ref D,_,I',rfl,fin⟩
 ·obtain⟨p,hp,M,n9⟩:=PyZ.ZcI (yss:=J) (by omega)
  rw[<-hy] at hp M;have o0:∀i∈p.toList,i<j.length:=fun i hi=>af.mp (M.mem_iff.mp hi);have pl:p.toList.length=j.length:=by rw[M.length_eq,Zg]
  have es:(p.toList.map fun i=>(j.map aB).getD i a9)=(p.toList.map fun i=>j.getD i 0).map aB:=by
   rw[aJ];refine aX fun i hi=>?_;have:=o0 i hi;show (j.map aB).getD i a9=aB (j.getD i 0);rw[Zb,Zc,Zf this,Zb,Zf this];rfl
  refine PyZ.Zaj (yss:=J) (p:=p) (by omega) hm Y (by omega) m6 hy (fun h' kept i a hi=>?_) hp (fun D c h' dn dL kept o5 hD=>?_)
  ·obtain⟨ys,e1,ne,cs,ha,cl,hc⟩:=ht i a hi
   obtain⟨us,O,⟨o,g1,g2⟩,_⟩:=I.tuple (.of ha);have eu:=WB O;subst eu;exact⟨_,ys,e1,⟨o,kept a o (n6 ha) g1,g2⟩,UL I kept cs ys cl hc,ne⟩
  ·rw[es] at hD
   obtain⟨I',hH⟩:=I.newL (ys:=(p.toList.map fun i=>j.getD i 0).map V.ref) hm m8 dn dL kept o5 (by rw[Za,Za];omega) (W5 _) hD;exact⟨.ref D,_,I',rfl,q D _ hH M n9⟩
end
end L2
namespace C52
open PySem L2 PySem.Spec PyProof.Rows
open Tb Pm
noncomputable abbrev Zgh:Stmt:=top 22
noncomputable def Xv (t:List (List Nat))(n p:Nat)(e:Nat->Nat->Nat)(z:Nat)(j:Nat->Nat)(s x:Nat):List Int:=Zhc n (ofF n (rdT t x) p ((t.length:Int)*(bkM p (j s):Int)) z fun k=>(e s (it t x k):Int))
noncomputable def Wp (t:List (List Nat))(n p m:Nat)(e:Nat->Nat->Nat)(z:Nat)(j:Nat->Nat)(s:Nat):List (List Int):=(ae m).map fun c=>Xv t n p e z j s (ZI t c)
noncomputable def Zde (H:Hp)(r:Addr)(yss:List (List (List Int))):Prop:=∃cs:List Addr,H r=some (.tup (cs.map V.ref))/\cs.length=yss.length/\∀(i:Nat) c,cs[i]?=some c->∃j,yss[i]?=some j/\RowT H c j
noncomputable def Zdt:Sp:=fun M H Q _=>∃(g:Addr) (t:List (List Nat)) (n p m:Nat) (e O U:Nat->Nat->Nat) (z:Nat) (J:Nat->Nat),M=[.ref g]/\GT H g t/\PW t/\TD t n p m e O U z J/\
 ∀r j q,Zv H q->Zde q r j->j.Perm ((ae m).map (Wp t n p m e z J))->j.Pairwise (fun a b=>PyZ.XF b a=false)->Q (.ref r) q
theorem _root_.L2.RowT.mono {H j:Hp}{a:Addr}{ys:List (List Int)}(h:RowT H a ys)(s:Zv H j):RowT j a ys:=by
 obtain⟨q,J,M,O⟩:=h;refine⟨q,s _ _ J,M,fun i c U=>?_⟩;obtain⟨y,Y,g2⟩:=O i c U;exact⟨y,Y,s _ _ g2⟩
section
variable {t:List (List Nat)}{n p m:Nat}{e ω φ:Nat->Nat->Nat}{z:Nat}{dg:Nat->Nat}
theorem ZgG {a r:Nat}(R:Rd t a r){x:Nat}(h:it t a x=0):x % r=0:=by
 rw[V4 R] at h;apply ah;intro z;exact R.nz (x % r) (by omega) (bP _ R.r1) h
theorem ZlV {a r:Nat}(R:Rd t a r){x:Nat}(h:x % r=0):it t a x=0:=by
 rw[V4 R,h];rfl
theorem _root_.Tb.TD.round (D:TD t n p m e ω φ z dg){rs:Nat->Nat}(R:∀a,a<t.length->Rd t a (rs a)){f:Nat}(L:Lc rs t.length f):f=n:=by
 have q:n % f=0:=L.mn n fun a j=>ZgG (R a j) (D.all a j);have J:f % n=0:=D.mn f fun a j=>ZlV (R a j) (L.dv a j);have M:=L.f1;have O:=D.n1;have U:=gD (by omega) (bc q);have Y:=gD (by omega) (bc J);omega
theorem _root_.Tb.TD.rd (D:TD t n p m e ω φ z dg){a r:Nat}(j:a<t.length)(R:Rd t a r):r<=n/\r<p:=by
 have h:=ZgG R (D.all a j);have M:=D.n1;have q:=gD (by omega) (bc h);obtain⟨J,O,_⟩:=D.fit.st;exact⟨q,by omega⟩
end
section
variable {P:Program}{w:World}{K:aa}{mg:Str->Option Value}{base:Heap}
theorem ZgX {f:Addr}{fd:FuncData}(F:WN K "table_of" "table_of" Zgh f fd)(T:Bl mg)(T2:Zdi mg)(GR:Fn P w K mg base Yi 2 "full_round" ["group"] ZcF)(GF:Fn P w K mg base Yi 1 "fit_prime" ["n", "count"] Zki)(t7:Fn P w K mg base Yi 1 "root_powers" ["n", "p"] Zdw)(GW:Fn P w K mg base Yi 6 "power_walks" ["group"] Zdq)(GC:Fn P w K mg base Yi 6 "counts_of" ["group"] Zbn)(GA:Fn P w K mg base Yi 4 "taken_apart" ["counts", "p"] ZdF)(GB:Fn P w K mg base Yi 1 "back_by" ["p", "x"] Xu)(G1:Fn P w K mg base Yi 1 "first_of" ["one", "count", "p"] (ZdE K))(GN:Fn P w K mg base Yi 4 "number_at" ["walk", "one", "share", "roots", "p"] ZdA):Yb P w K mg base Yi 7 f fd ["group"] Zdt:=by
 refine F.ok (FS (N:=["group", "n", "p", "roots", "walks", "rows", "one", "share"])) (fun vs H Q E h=>?_) (fun cdv A t9 s H vs Q E hr h=>?_)
 ·obtain⟨g,t,n,p,m,e,ω,φ,z,dg,rfl,_⟩:=h;rfl
 ·obtain⟨g,t,n,p,m,e,ω,φ,z,dg,rfl,G,Pt,D,q⟩:=h
  refine⟨_,Zs (ZD 1 rfl (Ws GR hr ZK (pc (vn 0) Zu)))
   (Zs (ZD 2 rfl (Ws GF hr ZK (pc (vn 1) (pc (cb (YF K) T.len (pc (vn 0) Zu)) Zu))))
   (Zs (ZD 3 rfl (Ws t7 hr ZK (pc (vn 1) (pc (vn 2) Zu))))
   (Zs (ZD 4 rfl (Ws GW hr ZK (pc (vn 0) Zu)))
   (Zs (ZD 5 rfl (ZW Zu))
   (Zs (ZT av rfl (itL K (Ws GA hr ZK (pc (Ws GC hr ZK (pc (vn 0) Zu)) (pc (vn 2) Zu)))) (gnf 6 rfl)
    (Zs (ZD 7 rfl (Zz ZP (cb (YF K) T.len (pc (vn 0) Zu)) (Ws GB hr ZK (pc (vn 2) (pc (Ws G1 hr ZK (pc (vn 6) (pc (cb (YF K) T.len (pc (vn 0) Zu)) (pc (vn 2) Zu)))) Zu)))))
    (Zw (Yq (Wj aO aT aV Z2 (vn 5)
     (pc (ct ZJ T.tuple (pc (cmp ["walk"] [6,7,3,2] ["walk", "one", "share", "roots", "p"] rfl (itL K (vn 4)) (fun _ _ _ _ _=>gn 0) (fun _ _ _ _ _=>ZQ)
      (fun _ _ _ _ _=>Ws GN hr ZK (pc (vn 0) (pc (vn 1) (pc (vn 2) (pc (vn 3) (pc (vn 4) Zu))))))) Zu)) Zu))))))
   (Zw (ZF (ct ZJ T.tuple (pc (cb (Uo hr.units) T2.sorted (pc (vn 5) Zu)) Zu))))))))),?_⟩
  have sz:(16777216:Nat)=sizeLine:=by decide
  have n60:=D.n60;have u5:=Pt.n60;have N1:=Pt.n1;have C:=D.cd;have p2:=C.pr.p2;have pl:=D.fit.lt;have m1:=C.m1;have u9:=ZjZ C Pt;have mc:=C.mc;have U:=Y6 Pt;obtain⟨gs,u1,u2,_⟩:=id G;have el:(gs.map V.ref).length=t.length:=by rw[Za,u2]
  have p3:∀a,a<t.length->Rd t a (rdT t a):=fun a ha=>by
   obtain⟨r,R⟩:=Pt.rd a ha;rw[VQ R];exact R
  refine⟨_,rfl,g,t,rdT t,rfl,G,Pt,p3,fun fr H1 s1 L=>?_⟩;have w8:=D.round p3 L;subst w8;refine⟨_,rfl,_,rfl,g,_,rfl,.inr (.of (s1 _ _ u1)),fr,t.length,p,by rw[el];rfl,D.n1,n60,by omega,D.fit,fun H2 s2=>?_⟩;refine⟨_,rfl,_,rfl,fr,p,z,rfl,D.n1,n60,p2,pl,D.rt,fun Ro H3 nRo s3 w9=>?_⟩;have p4:=(s1.trans s2).trans s3;refine⟨_,rfl,g,t,rfl,G.mono p4,Pt,fun Wk ws H4 s4 W4=>?_⟩;rw[<-mc] at W4;refine⟨(by show 0<=sizeLine;decide),fun L nL=>?_⟩;have s5:=Zv.upd (H:=H4) (o:=.lst []) nL;have h5:upd H4 L (.lst []) L=some (.lst ([]:List V)):=Zt;generalize upd H4 L (.lst [])=H5 at s5 h5 ⊢;have q0:=(p4.trans s4).trans s5;have x0:H L=none:=(p4.trans s4).free nL;refine⟨_,rfl,g,t,rfl,G.mono q0,Pt,fun Cn H6 s6 C6=>?_⟩;rw[<-mc] at C6;refine⟨_,rfl,Cn,t,p,m,e,ω,φ,rfl,C,Pt,pl,C6,fun Sm cs ss H7 s7 S7=>?_⟩;have p6:=(q0.trans s6).trans s7;have h7:=(s6.trans s7) _ _ h5;obtain⟨S1,S2,S3,S4⟩:=S7;have o0:ss.length=m:=by rw[S3.length_eq,Zg]
  have m6:∀{b:Addr}{xs:List V},xs≠[]->H7 b=some (.lst xs)->b≠L:=fun {b xs} hx hb=>Zaz hb h7 hx;have neT:∀{b:Addr}{xs:List V},H7 b=some (.tup xs)->b≠L:=fun {b xs} hb z=>by rw[z,h7] at hb;cases hb
  have r6:cs.map V.ref≠[]:=fun z=>by
   have:=congrArg cu z;rw[Za,S2,o0] at this;simp at this;omega
  have r8:∀{k:Nat}{v:Nat->Int},1<=k->ZH k v≠[]:=fun {k v} hk z=>by
   have:=congrArg cu z;rw[Yk] at this;simp at this;omega
  have x9:=X8 S1 (m6 r6 S1);refine⟨Sm,rfl,⟨_,.of S1⟩,?_⟩;have W7:H7 Wk=some (.lst (ws.map V.ref)):=(s5.trans (s6.trans s7)) _ _ W4.at';have R7:H7 Ro=some (.lst (WT p z fr)):=(s4.trans (s5.trans (s6.trans s7))) _ _ w9;have m8:(ws.map V.ref).length=m:=by rw[Za,W4.len]
  refine Jl (H0:=but H7 L) (Yv (K:=K) (.of x9)) (fun i o5 H'=>∃(rs:List Addr) (v6 v7:Option V),o5=[some (.ref g),some (.int (fr:Nat)),some (.int (p:Nat)),some (.ref Ro),some (.ref Wk),some (.ref L),v6,v7]/\Zv (but H7 L) H'/\H' L=some (.lst (rs.map V.ref))/\rs.length=i/\∀(j:Nat) c,rs[j]?=some c->RowT H' c (Wp t fr p m e z dg (ss.getD j 0)))
   ⟨[],_,_,rfl,fun b o hb=>(Zax hb).2,h7,rfl,fun j c O=>by simp at O⟩ (fun i o5 H' h=>by
    obtain⟨_,_,_,_,sm,_⟩:=h;exact sm) ?_ ?_
  ·rintro i y o5 H8 hy ⟨rs,v6,v7,rfl,s8,h8,rl,o6⟩
   have hi:i<m:=by
    have:=(ac.mp hy).1;rw[Za,S2,o0] at this;exact this
   rw[Zc,Zf (show i<cs.length by omega)] at hy;cases hy;have ho:=S4 i _ (Zf (show i<cs.length by omega));generalize cs[i]'(by omega)=oa at ho ⊢;have J:ss.getD i 0<m:=by
    have:ss.getD i 0∈ss:=by rw[Zb,Zf (by omega)];exact bC _
    exact af.mp (S3.mem_iff.mp this)
   generalize y4:ss.getD i 0=M at ho J;have k8:∀{b:Addr}{o:HO},H7 b=some o->b≠L->H8 b=some o:=fun {b o} hb Y=>s8 b o (X8 hb Y);have r9:=k8 ho (m6 (r8 m1) ho);have u8:=k8 (p6 _ _ u1) (neT (p6 _ _ u1));have W8:=k8 W7 (m6 (fun Y=>by rw[Y] at m8;simp at m8;omega) W7);have t0:WT p z fr≠[]:=fun Y=>by
    have:=congrArg cu Y;rw[Vy] at this;have:=D.n1;simp at *;omega
   have R8:=k8 R7 (m6 t0 R7);have ZgD:ZI t 0=0:=by
    have h0:0<(ZB t t.length).length:=by omega
    exact ((U.z _ (U.rl 0 h0)).mp (U.rn 0 h0))
   have e0:EC t e M 0=e M 0:=by unfold EC;rw[ZgD]
   have elt:=C.elt M 0 J (by omega);refine⟨_,rfl,g,_,rfl,.inr (.of u8),_,rfl,_,rfl,_,rfl,g,_,rfl,.inr (.of u8),_,rfl,oa,(ae m).map fun c=>((EC t e M c:Nat):Int),e M 0,t.length,p,dg M,by rw[el];rfl,.of (by rw[r9,W0]),?_,by omega,u5,p2,pl,D.d1 M J,D.dl M J,D.dq M J,fun d' a b=>D.dm M d' J a b,?_⟩
   ·rw[Zc,am (by omega)]
    show some ((EC t e M 0:Nat):Int)=_;rw[e0]
   have y6:=D.dp M J;have dg1:=D.d1 M J;obtain⟨y0,y1,y2,y3⟩:=C.pr.iv (dg M) (by omega) y6;refine⟨p,_,rfl,p2,pl,⟨y0,y1,y2,by rw[<-aK,<-a6,y3];rfl⟩,fun y a1 a2 a3=>?_⟩;have hy:y*dg M % p=1:=by
    have:((y*dg M % p:Nat):Int)=1:=by rw[a6,aK];exact a3
    omega
   have eb:=ZkK a2 hy;refine⟨_,_,rfl,rfl,.inr ⟨by omega,by omega⟩,?_⟩;rw[el];refine⟨_,rfl,.inl ⟨rfl,_,.of h8⟩,_,rfl,Wk,rfl,⟨_,.of W8⟩,?_⟩;refine Pm.Wa (W:=Addr) id (fun c a H=>H a=some (.tup ((Xv t fr p e z dg M (ZI t c)).map V.int))) (fun _ _=>True) (Yv (K:=K) (.of W8)) [some (.ref oa),some (.int ((t.length:Int)*(y:Int))),some (.ref Ro),some (.int (p:Nat))] rfl (by rw[m8];omega) (fun k a H H' sm h=>sm _ _ h) (fun a H H' sm h=>trivial) (fun k a H0' H1' D' o ys ys' h1 h2 h3 h4=>by rw[Zy (fun Y=>by rw[Y,h4] at h1;cases h1)];exact h1) (fun c x hx H9 s9 R k9=>?_) (fun D9 as H9 nD9 s9 y8 t5 has _=>?_)
   ·have O:c<m:=by
     have:=(ac.mp hx).1;rw[m8] at this;exact this
    rw[Zc,Zf (show c<ws.length by have:=W4.len;omega)] at hx;cases hx;have hw:=W4.it c _ (Zf (show c<ws.length by have:=W4.len;omega));generalize ws[c]'(by have:=W4.len;omega)=wa at hw ⊢;have o7:=U.rl c (by omega);have Rr:=p3 _ o7;have rr:=D.rd o7 Rr;have t6:=(s5.trans (s6.trans s7)) _ _ hw;have y9:=k8 t6 (m6 (r8 Rr.r1) t6);have tl:(t.length:Int)<=60:=by omega
    have shb:(t.length:Int)*(y:Int)<2 ^ 40:=by
     have:(t.length:Int)*(y:Int)<=60*(y:Int):=c7 tl (by omega);omega
    have sha:0<=(t.length:Int)*(y:Int):=Int.mul_nonneg (by omega) (by omega);refine⟨_,rfl,_,rfl,_,rfl,_,rfl,_,rfl,wa,oa,Ro,rdT t (ZI t c),m,fr,p,z,_,_,_,rfl,s9 _ _ y9,s9 _ _ r9,s9 _ _ R8,D.n1,n60,u9,Rr.r1,rr.1,rr.2,pl,C.pr,⟨fun c _=>by omega,fun c O=>?_⟩,fun k hk=>?_,by omega,shb,fun q' m5 n6 o8=>?_⟩
    ·have:=C.elt M (ZI t c) J (U.rl c (by omega))
     show ((e M (ZI t c):Nat):Int)<(p:Int);omega
    ·exact⟨Y2 t (it t (ZI t c) k),by have:=U.lt _ (WJ Pt o7 k);omega,rfl⟩
    ·refine k9 q' m5 n6 ?_ trivial
     rw[o8];show some (HO.tup ((Zhc fr (ofF fr (rdT t (ZI t c)) p ((t.length:Int)*(y:Int)) z fun k=>((EC t e M (wkF t (ZI t c) k).toNat:Nat):Int))).map V.int))=_;unfold Xv;rw[eb];congr 3;congr 2;funext k;unfold wkF;rw[Zj,<-C.at Pt J (WJ Pt o7 k)]
   ·refine⟨D9,_,rfl,.inl ⟨.of y8,fun tp p7=>?_⟩⟩
    have n6:=Zv.upd (H:=H9) (o:=.tup (as.map fun w=>V.ref (id w))) p7;have hT:upd H9 tp (.tup (as.map fun w=>V.ref (id w))) tp=some (.tup (as.map V.ref)):=Zt;generalize upd H9 tp (.tup (as.map fun w=>V.ref (id w)))=m5 at n6 hT ⊢;have n8:=s9.trans n6;have o8:=n8 _ _ h8;refine⟨L,_,_,rfl,rfl,o8,by rw[Za,rl];omega,?_⟩;have keep:∀{b:Addr}{xs:List V},m5 b=some (.tup xs)->upd m5 L (.lst (rs.map V.ref++[.ref tp])) b=some (.tup xs):=fun {b xs} hb=>by
     rw[Zy (fun Y=>by rw[Y,o8] at hb;cases hb)];exact hb
    have n9:∀{b:Addr}{ys:List (List Int)},RowT m5 b ys->RowT (upd m5 L (.lst (rs.map V.ref++[.ref tp]))) b ys:=fun {b ys} hb=>by
     obtain⟨bs,b1,b2,b3⟩:=hb;refine⟨bs,keep b1,b2,fun j c O=>?_⟩;obtain⟨yy,c1,c2⟩:=b3 j c O;exact⟨yy,c1,keep c2⟩
    rw[m8] at t5;refine⟨rs++[tp],_,_,rfl,fun b o hb=>?_,by rw[Zt,aU];rfl,by rw[Zd,rl];rfl,fun j c O=>?_⟩
    ·rw[Zy (Zax hb).1]
     exact (s8.trans n8) b o hb
    ·by_cases hj:j<rs.length
     ·rw[au hj] at O
      exact n9 ((o6 j c O).mono n8)
     ·have hl:=(ac.mp O).1
      rw[Zd,Zk] at hl;have ec:j=rs.length:=by omega
      rw[aw (by omega),ec,cF] at O;cases O;rw[ec,rl,y4];refine n9 ⟨as,hT,by unfold Wp;rw[Za,Zg,t5],fun c a ha=>?_⟩;have hcm:c<m:=by
       have:=(ac.mp ha).1;omega
      refine⟨Xv t fr p e z dg M (ZI t c),by unfold Wp;rw[Zc,am hcm];rfl,n6 _ _ (has c a ha).1⟩
  ·rintro o5 H8 ⟨rs,v6,v7,rfl,s8,h8,rl,o6⟩
   rw[Za,S2,o0] at rl;have yl:(ss.map (Wp t fr p m e z dg)).length=m:=by rw[Za,o0]
   have o9:∀j,j<m->(ss.map (Wp t fr p m e z dg))[j]?=some (Wp t fr p m e z dg (ss.getD j 0)):=fun j hj=>by
    rw[Zc,Zf (by omega),Zb,Zf (by omega)];rfl
   refine⟨_,rfl,L,rs,ss.map (Wp t fr p m e z dg),rfl,h8,by omega,by omega,fun j a ha=>?_,fun Ls js nLs pm pw=>?_⟩
   ·have hj:j<m:=by
     have:=(ac.mp ha).1;omega
    exact⟨_,o9 j hj,fun Y=>by
     have:=congrArg cu Y;unfold Wp at this;rw[Za,Zg] at this;simp at this;omega,o6 j a ha⟩
   ·refine⟨Ls,_,rfl,.inl ⟨.of Zt,fun tp p7=>?_⟩⟩
    have sA:=Zv.upd (H:=H8) (o:=.lst ((js.map fun i=>rs.getD i 0).map V.ref)) nLs;have sB:=Zv.upd (H:=upd H8 Ls (.lst ((js.map fun i=>rs.getD i 0).map V.ref))) (o:=.tup ((js.map fun i=>rs.getD i 0).map V.ref)) p7;have p8:=sA.trans sB;have hT:upd (upd H8 Ls (.lst ((js.map fun i=>rs.getD i 0).map V.ref))) tp (.tup ((js.map fun i=>rs.getD i 0).map V.ref)) tp=some (.tup ((js.map fun i=>rs.getD i 0).map V.ref)):=Zt;generalize upd (upd H8 Ls (.lst ((js.map fun i=>rs.getD i 0).map V.ref))) tp (.tup ((js.map fun i=>rs.getD i 0).map V.ref))=H9 at p8 hT ⊢;rw[rl] at pm;have jl:js.length=m:=by rw[pm.length_eq,Zg]
    refine q tp (js.map fun i=>(ss.map (Wp t fr p m e z dg)).getD i []) H9 (fun b o hb=>p8 _ _ (s8 b o (X8 (p6 _ _ hb) (fun Y=>by rw[Y,x0] at hb;cases hb)))) ⟨js.map fun i=>rs.getD i 0,hT,by rw[Za,Za],fun i c O=>?_⟩ ?_ pw
    ·rw[Zc] at O
     cases hj:js[i]? with
     |none=>rw[hj] at O;cases O
     |some j=>
      rw[hj] at O;have hjm:j<m:=af.mp (pm.mem_iff.mp (aF hj));have ec:c=rs.getD j 0:=(aD O).symm;have hrj:rs[j]?=some c:=by rw[ec,Zb,Zf (by omega)];rfl
      refine⟨_,by rw[Zc,hj];rfl,?_⟩;have:=(o6 j c hrj).mono p8;show RowT H9 c ((ss.map (Wp t fr p m e z dg)).getD j []);rw[Zb,o9 j hjm];exact this
    ·have h1:(js.map fun i=>(ss.map (Wp t fr p m e z dg)).getD i []).Perm ((ae m).map fun i=>(ss.map (Wp t fr p m e z dg)).getD i []):=pm.map _
     have h2:((ae m).map fun i=>(ss.map (Wp t fr p m e z dg)).getD i [])=ss.map (Wp t fr p m e z dg):=by
      refine bf fun j=>?_;by_cases hj:j<m
      ·rw[o9 j hj,Zc,am hj]
       show some ((ss.map (Wp t fr p m e z dg)).getD j [])=_;rw[Zb,o9 j hj];rfl
      ·rw[ak (by rw[Za,Zg];omega),ak (by omega)]
     rw[h2] at h1;exact h1.trans (S3.map _)
end
section
variable {P:Program}{w:World}{K:aa}{mg:Str->Option Value}{base:Heap}
theorem ZgY {f:Addr}{fd:FuncData}(F:WN K "sizes_of" "sizes_of" Zgi f fd)(T:Bl mg)(GC:Fn P w K mg base Yi 4 "classes_of" ["group"] W3):Yb P w K mg base Yi 5 f fd ["group"] Zdu:=by
 refine F.ok (FS (N:=["group"])) (fun vs H Q E h=>?_) (fun m5 A J s H vs Q E hr h=>?_)
 ·obtain⟨g,t,rfl,_⟩:=h;rfl
 ·obtain⟨g,t,rfl,G,M,q⟩:=h
  refine⟨_,Zw (ZF (ct ZJ T.tuple (pc (cmp ["members"] [] ["members"] rfl (itT K (Ws GC hr ZK (pc (vn 0) Zu))) (fun _ _ _ _ _=>gn 0) (fun _ _ _ _ _=>ZQ) (fun _ _ _ _ _=>cb (YF K) T.len (pc (vn 0) Zu))) Zu))),?_⟩;have m6:=M.n60;refine⟨_,rfl,g,t,rfl,G,M,fun c O s' C=>?_⟩;obtain⟨rs,U,c2,Y⟩:=C.row;have ul:=YU (t:=t) t.length;refine⟨c,rfl,⟨_,.of U⟩,?_⟩;refine WL (Wf (K:=K) (.of U)) [] rfl (Zb1 O) (by rw[Za];omega) (fun i x HC hx sC R gg=>?_) (fun D HD nD sD hD=>?_)
  ·obtain⟨r,rfl,hi,j⟩:=Y i x hx
   have fin:=gg HC (Zv.refl _);have e:Zb1 O (.ref r)=.int (((((ZB t t.length).getD i []).map nV).length:Nat)):=by
    unfold Zb1;dsimp only;rw[j]
   rw[e] at fin;exact⟨_,rfl,r,_,rfl,.inr (.of (sC _ _ j)),fin⟩
  ·rw[Zjz c2 Y] at hD
   exact⟨D,_,rfl,.inl ⟨.of hD,fun r nr=>q r _ ((s'.trans sD).trans (Zv.upd nr)) Zt⟩⟩
end
noncomputable abbrev Zgs:Stmt:=top 14
noncomputable def ZdD:Sp:=fun J H Q _=>∃(g:Addr) (x:V) (t:List (List Nat)) (q:Nat->Nat),J=[.ref g,x]/\GT H g t/\PW t/\(∀a,a<t.length->Rd t a (q a))/\∀(f:Nat) r c j,Zv H j->Lc q t.length f->j c=some (.tup (((ZB t t.length).map cu).map nV))->j r=some (.tup [.int f,.ref c,x])->Q (.ref r) j
section
variable {P:Program}{w:World}{K:aa}{mg:Str->Option Value}{base:Heap}
theorem Zg6 {f:Addr}{fd:FuncData}(F:WN K "frame_of" "frame_of" Zgs f fd)(Y:Fn P w K mg base Yi 2 "full_round" ["group"] ZcF)(GS:Fn P w K mg base Yi 5 "sizes_of" ["group"] Zdu):Yb P w K mg base Yi 6 f fd ["group", "table"] ZdD:=by
 refine F.ok (FS (N:=["group", "table"])) (fun vs H Q E h=>?_) (fun m5 A j s H vs Q E J h=>?_)
 ·obtain⟨g,x,t,rs,rfl,_⟩:=h;rfl
 ·obtain⟨g,x,t,rs,rfl,G,M,R,q⟩:=h
  refine⟨_,Zw (ZF (VU (pc (Ws Y J ZK (pc (vn 0) Zu)) (pc (Ws GS J ZK (pc (vn 0) Zu)) (pc (vn 1) Zu))))),?_⟩;refine⟨_,rfl,g,t,rs,rfl,G,M,R,fun n H1 O L1=>?_⟩;refine⟨_,rfl,g,t,rfl,G.mono O,M,fun c H2 s2 h2=>?_⟩;refine⟨_,rfl,(by show 3<=sizeLine;decide),fun r U=>?_⟩;exact q n r c _ ((O.trans s2).trans (Zv.upd U)) L1 (Zv.upd U _ _ h2) Zt
end
section
variable {t:List (List Nat)}{n p m:Nat}{e ω φ:Nat->Nat->Nat}{z:Nat}{dg:Nat->Nat}{o:List Nat}
theorem ZfO (P:PW t){s x y:Nat}(ec:∀x y,x<t.length->y<t.length->e s (tb t x y)=e s x)(j:x<t.length)(q:y<t.length):Xv t n p e z dg s (tb t x y)=Xv t n p e z dg s x:=by
 unfold Xv;rw[Zle P j q];congr 2;funext k;rw[Zhq P j q,ec _ _ (WJ P j k) q]
theorem ZiQ (P:PW t)(O:Ord t.length o){x:Nat}(J:x<t.length):rdT (ren t o) x=rdT t (o.getD x 0):=by
 unfold rdT;rw[Y3 O];have j:(fun r=>it (ren t o) x (r+1) == 0)=fun r=>it t (o.getD x 0) (r+1) == 0:=funext fun r=>by
  have U:=ZbA P O J (r+1);have M:=WJ (WU P O) (a:=x) (by rw[Y3 O];exact J) (r+1);rw[Y3 O] at M;rw[<-U];by_cases q:it (ren t o) x (r+1)=0
  ·rw[q,O.z]
  ·have Y:o.getD (it (ren t o) x (r+1)) 0≠0:=fun w=>q (inj O M P.n1 (w.trans O.z.symm))
   rw[beq_eq_false_iff_ne.mpr q,beq_eq_false_iff_ne.mpr Y]
 rw[j]
theorem ZkR (P:PW t)(O:Ord t.length o){s x:Nat}(j:x<t.length):Xv (ren t o) n p (fun s x=>e s (o.getD x 0)) z dg s x=Xv t n p e z dg s (o.getD x 0):=by
 unfold Xv;rw[ZiQ P O j,Y3 O];congr 2;funext k;show ((e s (o.getD (it (ren t o) x k) 0):Nat):Int)=_;rw[ZbA P O j]
end
section
variable {t:List (List Nat)}{o:List Nat}{n p m:Nat}{e ω φ:Nat->Nat->Nat}{z:Nat}{dg:Nat->Nat}
theorem ZfN (P:PW t)(D:TD t n p m e ω φ z dg){s y:Nat}(hs:s<m)(J:y<t.length):Y2 t y<m/\Xv t n p e z dg s (ZI t (Y2 t y))=Xv t n p e z dg s y:=by
 have se:=WM P t.length (Zq _) y J;have j:Y2 t y<(ZB t t.length).length:=cD.mpr (by
  obtain⟨c,q,M⟩:=aY.mp se;exact⟨c,q,M⟩)
 have mc:=D.cd.mc;refine⟨by rw[mc];exact j,?_⟩;obtain⟨q,M⟩:=JX P j;obtain⟨b,hb,O⟩:=Ui P j;have U:y∈ZO t b:=by
  rw[<-O];have this:=dW (xs:=ZB t t.length) (p:=fun c:List Nat=>c.contains y) (w:=j);rw[Zb,Zf j];exact ay.mp this
 rw[O] at q M;have e1:ZI t (Y2 t y)=(ZO t b).getD 0 0:=by unfold ZI;rw[O]
 rw[e1];obtain⟨u,hu,eu⟩:=(Z4 P hb).mp q;obtain⟨v,hv,ev⟩:=(Z4 P hb).mp U;have Y:=fun x y hx J=>D.cd.ec s x y hs hx J;rw[<-eu,<-ev,ZfO P Y hb hu,ZfO P Y hb hv]
noncomputable def YV (t:List (List Nat))(o:List Nat)(c:Nat):Nat:=Y2 t (o.getD (ZI (ren t o) c) 0)
theorem ZiL (P:PW t)(O:Ord t.length o)(D:TD t n p m e ω φ z dg){s:Nat}(M:s<m):Wp (ren t o) n p m (fun s x=>e s (o.getD x 0)) z dg s=(ae m).map fun c=>(Wp t n p m e z dg s).getD (YV t o c) []:=by
 have len:(ren t o).length=t.length:=Y3 O;have U:=WU P O;have Y:=D.ren P O;unfold Wp;refine aX fun c j=>?_;have j:=af.mp j;have q:c<(ZB (ren t o) (ren t o).length).length:=by rw[<-Y.cd.mc];exact j
 have J:ZI (ren t o) c<t.length:=by
  have:=(JX U q).2;rw[len] at this;unfold ZI;rw[len];exact this
 have ho:=Yz O J;rw[ZkR P O J];obtain⟨h1,h2⟩:=ZfN P D M ho;have e1:((ae m).map fun c=>Xv t n p e z dg s (ZI t c)).getD (YV t o c) []=Xv t n p e z dg s (ZI t (YV t o c)):=by
  rw[Zb,Zc,am (show YV t o c<m from h1)];rfl
 rw[e1];exact h2.symm
theorem ZfX {j yss:List (List (List Int))}(q:j.Perm yss)(J:j.Pairwise fun a b=>PyZ.XF b a=false)(M:yss.Pairwise fun a b=>PyZ.XF b a=false):j=yss:=
 jc (le:=fun a b=>PyZ.XF b a=false) (fun a b _ _ x y=>PyZ.ZaD y x) J M q
theorem ZeO (P:PW t)(O:Ord t.length o)(D:TD t n p m e ω φ z dg){q yss j:List (List (List Int))}(J:q.Perm ((ae m).map (Wp t n p m e z dg)))(hz:j.Perm (q.map fun r=>(ae m).map fun c=>r.getD (YV t o c) []))(sz:j.Pairwise fun a b=>PyZ.XF b a=false)
  (M:yss.Perm ((ae m).map (Wp (ren t o) n p m (fun s x=>e s (o.getD x 0)) z dg))) (U:yss.Pairwise fun a b=>PyZ.XF b a=false):j=yss:=by
 refine ZfX (hz.trans ((J.map _).trans ?_)) sz U;rw[aJ];refine List.Perm.trans (kP ?_) M.symm;refine aX fun s Y=>?_;exact (ZiL P O D (af.mp Y)).symm
end
section
variable {t:List (List Nat)}{o:List Nat}
theorem J9 (p:Nat->Bool):∀n,((ae n).filter p).length=sm n fun w=>JF (p w)
 |0=>rfl
 |n+1=>by
  rw[cf,List.filter_append,Zd,J9 p n,YM];congr 1;cases h:p n with
  |true=>rw[List.filter_cons_of_pos h];rfl
  |false=>rw[List.filter_cons_of_neg (by rw[h];decide)];rfl
theorem Zh3 (b:Nat):(ZO t b).length=sm t.length fun a=>JF (cjB t b a):=J9 _ _
theorem VY {b a:Nat}(P:PW t)(hb:b<t.length):cjB t b a=true↔a∈ZO t b:=by rw[Xo,Z4 P hb]
theorem Zh1 (P:PW t){b y:Nat}(hb:b<t.length)(J:y∈ZO t b):ZO t y=ZO t b:=by
 have q:=Xm J;refine List.filter_congr fun a M=>?_;have j:=af.mp M;show cjB t y a=cjB t b a;rw[eR,VY P q,VY P hb];constructor
 ·intro h
  exact Yd P hb j J (Yd P j q (Ys P j) h)
 ·intro h
  exact Yd P q j (Yd P q hb (Ys P q) J) (Yd P j hb (Ys P j) h)
theorem Zh0 (P:PW t){c:Nat}(j:c<(ZB t t.length).length):(ZB t t.length).getD c []=ZO t (ZI t c):=by
 obtain⟨b,hb,J⟩:=Ui P j;have q:=(JX P j).1;unfold ZI;rw[J] at q ⊢;exact (Zh1 P hb q).symm
theorem ZlY (P:PW t){y:Nat}(M:y<t.length):Y2 t y<(ZB t t.length).length/\(ZB t t.length).getD (Y2 t y) []=ZO t y:=by
 have O:=WM P t.length (Zq _) y M;have j:Y2 t y<(ZB t t.length).length:=cD.mpr (by
  obtain⟨c,U,Y⟩:=aY.mp O;exact⟨c,U,Y⟩)
 refine⟨j,?_⟩;obtain⟨b,hb,J⟩:=Ui P j;have q:y∈ZO t b:=by
  rw[<-J];have this:=dW (xs:=ZB t t.length) (p:=fun c:List Nat=>c.contains y) (w:=j);rw[Zb,Zf j];exact ay.mp this
 rw[J];exact (Zh1 P hb q).symm
theorem Zgb (P:PW t)(O:Ord t.length o){c:Nat}(j:c<(ZB (ren t o) (ren t o).length).length):((ZB (ren t o) (ren t o).length).getD c []).length=((ZB t t.length).getD (YV t o c) []).length:=by
 have q:=WU P O;have len:(ren t o).length=t.length:=Y3 O;have J:ZI (ren t o) c<t.length:=by
  have:=(JX q j).2;rw[len] at this;unfold ZI;rw[len];exact this
 unfold YV;rw[Zh0 q j,Zh3,(ZlY P (Yz O J)).2,Zh3,len,<-Zgy O fun a=>JF (cjB t (o.getD (ZI (ren t o) c) 0) a)];exact Yl fun a M=>by rw[Zkq P O J M]
end
noncomputable def dTI (j:List (List Int)):eF:=.tuple (j.map fun q=>c9 (q.map aW))
theorem ZdZ {K:aa}{H:Hp}:∀(rs:List Addr) (q:List (List Int)),rs.length=q.length->(∀(i:Nat) b,rs[i]?=some b->∃y,q[i]?=some y/\H b=some (.tup (y.map V.int)))->Wo K H (rs.map V.ref) (q.map fun xs=>c9 (xs.map aW))
 | [],[],_,_=>.nil
 | [],_::_,h,_=>by cases h
 |_::_,[],h,_=>by cases h
 |b::bs,y::J,h,g=>by
  obtain⟨Y,M,O⟩:=g 0 b rfl;cases M;exact .cons (.tup (.of O) (Wo.ints _)) (ZdZ bs J (cy h) fun j c U=>g (j+1) c U)
theorem ZiO {K:aa}{H:Hp}{r:Addr}{j:List (List Int)}(h:RowT H r j):Us K H (.ref r) (dTI j):=by
 obtain⟨q,J,M,O⟩:=h;exact .tup (.of J) (ZdZ q j M O)
noncomputable def dTb (yss:List (List (List Int))):eF:=.tuple (yss.map dTI)
theorem ZgF {K:aa}{H:Hp}:∀(rs:List Addr) (yss:List (List (List Int))),rs.length=yss.length->(∀(i:Nat) b,rs[i]?=some b->∃y,yss[i]?=some y/\RowT H b y)->Wo K H (rs.map V.ref) (yss.map dTI)
 | [],[],_,_=>.nil
 | [],_::_,h,_=>by cases h
 |_::_,[],h,_=>by cases h
 |b::bs,y::yss,h,g=>by
  obtain⟨O,q,J⟩:=g 0 b rfl;cases q;exact .cons (ZiO J) (ZgF bs yss (cy h) fun j c M=>g (j+1) c M)
theorem Zah {K:aa}{H:Hp}{r:Addr}{yss:List (List (List Int))}(h:Zde H r yss):Us K H (.ref r) (dTb yss):=by
 obtain⟨j,q,J,M⟩:=h;exact .tup (.of q) (ZgF j yss J M)
theorem ZdH {z:Int}(h:z.natAbs<2 ^ 200):VD 0 0 (.int z):=by
 obtain⟨j,_,_,q,_,_⟩:=Xz (ns:=[z]) (fun n J=>by
  rw[aS.mp J];exact h)
 simp only[aQ,eZ,eK,dD,fv] at j q;exact⟨j,rfl,a5 _,q,a5 _⟩
theorem ZjQ {yss:List (List (List Int))}(O:yss.length<=10)(U:∀ys∈yss,ys.length<=10)(J:∀ys∈yss,∀y∈ys,y.length<=60/\∀z∈y,z.natAbs<2 ^ 200):VD 3 (10*(10*(60*1+1)+1)) (dTb yss):=by
 refine VD.tup (by rw[Za];exact O) fun d q=>?_;obtain⟨ys,j,rfl⟩:=aI.mp q;refine VD.tup (by rw[Za];exact U ys j) fun d q=>?_;obtain⟨y,M,rfl⟩:=aI.mp q;refine VD.tup (b:=0) (by rw[Za];exact (J ys j y M).1) fun d q=>?_;obtain⟨z,Y,rfl⟩:=aI.mp q;exact ZdH ((J ys j y M).2 z Y)
variable {t:List (List Nat)}{n p m z:Nat}{e ω φ:Nat->Nat->Nat}{dg:Nat->Nat}
theorem Zly {n r p:Nat}{share:Int}{z:Nat}{o:Nat->Int}{j:Nat}(q:1<=p):(ofF n r p share z o j).natAbs<=p:=by
 unfold ofF;split
 ·have J:=bV (share*(bkM p r:Int)*Y0 r (fun k=>o k*((z ^ (j*k % n) % p:Nat):Int))) (show (p:Int)≠0 by omega)
  have M:=bI (share*(bkM p r:Int)*Y0 r (fun k=>o k*((z ^ (j*k % n) % p:Nat):Int))) (show (0:Int)<p by omega);omega
 ·exact a5 _
theorem ZfM (D:TD t n p m e ω φ z dg){s x:Nat}{q:Int}(O:q∈Xv t n p e z dg s x):q.natAbs<2 ^ 200:=by
 have J:=D.n60;have Y:=D.fit.p2;have pl:=D.fit.lt;unfold Xv Zhc Num.ZbN at O;obtain⟨j,_,rfl⟩:=aI.mp O;have:=Num.UO n (N52.RN n) j 100000 100 (fun i=>(N52.Zep D.n1 J).1.rsm i j) ((ae n).map (ofF n (rdT t x) p ((t.length:Int)*(bkM p (dg s):Int)) z fun k=>(e s (it t x k):Int))) 0 (fun y U=>by
  obtain⟨i,_,rfl⟩:=aI.mp U;have:=Zly (n:=n) (r:=rdT t x) (p:=p) (share:=(t.length:Int)*(bkM p (dg s):Int)) (z:=z) (o:=fun k=>(e s (it t x k):Int)) (j:=i) (by omega);omega)
 rw[Za,Zg] at this;have h2:n*(100000*100)<=60*(100000*100):=cx _ J;have h3:(600000000:Nat)<2 ^ 200:=by decide
 omega
theorem ZkS {t:List (List Nat)}{n p:Nat}{e:Nat->Nat->Nat}{z:Nat}{dg:Nat->Nat}(s x:Nat):(Xv t n p e z dg s x).length=N52.Js n:=by unfold Xv Zhc;exact Num.ZbM _ _ _ _
theorem ZiM (D:TD t n p m e ω φ z dg)(M:m<=10){yss:List (List (List Int))}(h:yss.Perm ((ae m).map (Wp t n p m e z dg))):VD 3 (10*(10*(60*1+1)+1)) (dTb yss):=by
 refine ZjQ (by rw[h.length_eq,Za,Zg];exact M) (fun O J=>?_) fun O J y j=>?_
 ·obtain⟨s,_,rfl⟩:=aI.mp (h.mem_iff.mp J)
  unfold Wp;rw[Za,Zg];exact M
 ·obtain⟨s,_,rfl⟩:=aI.mp (h.mem_iff.mp J)
  unfold Wp at j;obtain⟨c,_,rfl⟩:=aI.mp j;refine⟨?_,fun q U=>ZfM D U⟩;rw[ZkS];have:=(N52.Zep D.n1 D.n60).1.tn;have:=D.n60;omega
theorem ZnE:∀x∈Zfo,x.2.rp.length<=10:=by
 have:(Zfo.all fun x=>decide (x.2.rp.length<=10))=true:=by decide +kernel
 exact fun x j=>of_decide_eq_true (aP.mp this x j)
theorem Zjr {t:List (List Nat)}(h:MkC t):∃(n p m:Nat) (e ω φ:Nat->Nat->Nat) (z:Nat) (dg:Nat->Nat),m<=10/\TD t n p m e ω φ z dg:=by
 have P:=ZcX h;obtain⟨i,hi⟩:=bE h;have M:=(ac.mp hi).1;have j:tbC.length=31:=by decide +kernel
 have:=okC i (by omega);unfold JS at this;have q:tbC.getD i []=t:=by rw[Zb,hi];rfl
 rw[q,ag] at this;have J:Zfo.length=31:=by decide +kernel
 exact⟨_,_,_,_,_,_,_,_,ZnE (Zfo.getD i d0) (by rw[Zb,Zf (by omega)];exact bC _),ZmA P this.2⟩
theorem Zde.mono {H j:Hp}{r:Addr}{yss:List (List (List Int))}(h:Zde H r yss)(s:Zv H j):Zde j r yss:=by
 obtain⟨q,J,M,O⟩:=h;exact⟨q,s _ _ J,M,fun i c U=>let ⟨Y,a,b⟩:=O i c U;⟨Y,a,b.mono s⟩⟩
theorem VD.le {k b j q:Nat}{d:eF}(h:VD k b d)(J:k<=j)(hb:b<=q):VD j q d:=⟨h.sh,h.nd,aZ h.dp J,h.lv,aZ h.bl hb⟩
noncomputable def dFr (n:Nat)(j:List Nat)(yss:List (List (List Int))):eF:=.tuple [.int n,.tuple (j.map fun x=>aW (x:Nat)),dTb yss]
theorem ZkH {K:aa}{H:Hp}{r c q:Addr}{n:Nat}{zs:List Nat}{yss:List (List (List Int))}(j:H r=some (.tup [.int n,.ref c,.ref q]))(J:H c=some (.tup (zs.map nV)))(M:Zde H q yss):Us K H (.ref r) (dFr n zs yss):=by
 refine .tup (.of j) (.cons (.int _) (.cons ?_ (.cons (Zah M) .nil)));have:=Wo.ints (K:=K) (H:=H) (zs.map fun x:Nat=>(x:Int));rw[aJ,aJ] at this;exact .tup (.of J) this
theorem ZlO {n:Nat}{zs:List Nat}{yss:List (List (List Int))}(q:n<=60)(J:zs.length<=10)(M:∀x∈zs,x<=60)(O:VD 3 (10*(10*(60*1+1)+1)) (dTb yss)):Zig (dFr n zs yss):=by
 have b:∀x:Nat,x<=60->VD 0 0 (.int (x:Nat)):=fun x j=>ZdH (by
  have:(60:Nat)<2 ^ 200:=by decide
  omega)
 refine (VD.tup (k:=3) (b:=10*(10*(60*1+1)+1)) (n:=3) (by simp) fun d hd=>?_).fit (by decide) (by decide);rcases aG.mp hd with rfl|hd
 ·exact VD.le (b n q) (by decide) (by decide)
 rcases aG.mp hd with rfl|hd
 ·refine VD.le (VD.tup (k:=0) (b:=0) (n:=10) (by rw[Za];exact J) fun d hd=>?_) (by decide) (by decide)
  obtain⟨x,j,rfl⟩:=aI.mp hd;exact b x (M x j)
 ·rw[aS.mp hd]
  exact O
theorem ZdV {X:Cx}(K:aa){k:Nat}(j:Jc k X.A)(q:X.K=K:=by rfl):Yu X (.builtin "repr") (fun xs H Q=>∃x d,xs=[x]/\Us K H x d/\Zig d/\Q (.str d.shown) H):=q▸Zfz j
noncomputable def Jb (t:List (List Nat))(os:List Nat)(m:Nat)(r:List (List Int)):List (List Int):=(ae m).map fun c=>r.getD (YV t os c) []
theorem ZeR {H:Hp}{a D:Addr}{ys:List (List Int)}{zs:List V}{o:HO}(h:RowT H a ys)(J:H D=some (.lst zs)):RowT (upd H D o) a ys:=by
 obtain⟨M,j,O,U⟩:=h;refine⟨M,by rw[Zy (fun z=>by rw[z,J] at j;cases j)];exact j,O,fun i c Y=>?_⟩;obtain⟨y,e1,q⟩:=U i c Y;exact⟨y,e1,by rw[Zy (fun z=>by rw[z,J] at q;cases q)];exact q⟩
noncomputable def ZdC (K:aa):Sp:=fun q H Q _=>∃(a:Addr) (j:List Int),q=[.ref a]/\Wt K H a (j.map V.int)/\j.length<=63/\∀J,Q (.bl true) J
section
variable {P:Program}{w:World}{K:aa}{mg:Str->Option Value}{base:Heap}
theorem Zlu {f:Addr}{fd:FuncData}(F:WN K "law" "law" Zk8 f fd)(T:Bl mg)(T2:Zdi mg)(GFe:Fn P w K mg base Yi 1 "_law_feed" ["_law_script"] (Zf6 K))(GD:Fn P w K mg base Yi 1 "_law_draw" ["_law_feed_here", "_law_many"] Zai)(GG:Fn P w K mg base Yi 2 "_law_group" ["_law_feed_here", "_law_most"] Zbm)(GO:Fn P w K mg base Yi 2 "_law_order" ["_law_feed_here", "_law_many"] Zbl)
  (GR:Fn P w K mg base Yi 1 "_law_renamed_by" ["_law_order_here", "_law_group_here"] Zdx) (GC:Fn P w K mg base Yi 1 "_law_classes" ["_law_group_here"] Zf7) (GTa:Fn P w K mg base Yi 7 "table_of" ["group"] Zdt) (GRo:Fn P w K mg base Yi 1 "_law_round" ["_law_group_here"] Zbj) (GFr:Fn P w K mg base Yi 6 "frame_of" ["group", "table"] ZdD) :
  Yb P w K mg base Yi 8 f fd ["_law_script"] (ZdC K):=by
 refine F.ok (FS (N:=["_law_script", "_law_feed_here", "_law_turn", "_law_group_here", "_law_order_here", "_law_other", "_law_classes_here", "_law_met", "_law_later", "_law_spots", "_law_came", "_law_table", "_law_due", "_law_told", "_law_frame"])) (fun vs H Q E h=>?_) (fun cdv A outer s H vs Q E O h=>?_)
 ·obtain⟨a,ns,rfl,_⟩:=h;rfl
 ·obtain⟨a,ns,rfl,hS,hl,q⟩:=h
  have hu:(A.deeper (envOfC "law" (ZU Zk8) s.heap.objs.size f cdv)).units+1<cLine:=by have:=O.un;omega
  refine⟨_,Zs (ZD 1 rfl (Ws GFe O ZK (pc (vn 0) Zu)))
   (Zs (ZT av rfl (XV T.range (pc Zx Zu)) (gn 2)
   (Zs (ZD 3 rfl (Ws GG O ZK (pc (vn 1) (pc (ZG (X2 K) (ZW (pc Zx (pc Zx (pc Zx Zu)))) (Ws GD O ZK (pc (vn 1) (pc Zx Zu))) (fun _ _=>rfl)) Zu))))
   (Zs (ZD 4 rfl (Ws GO O ZK (pc (vn 1) (pc (cb (YF K) T.len (pc (vn 3) Zu)) Zu))))
   (Zs (ZD 5 rfl (Ws GR O ZK (pc (vn 4) (pc (vn 3) Zu))))
   (Zs (JB (Ws GC O ZK (pc (vn 3) Zu)) (g2 K 6 7 rfl (gnf 6 rfl) (gnf 7 rfl)))
   (Zs (JB (Ws GC O ZK (pc (vn 5) Zu)) (g2 K 8 9 rfl (gn 8) (gn 9)))
   (Zs (ZD 10 rfl (cmp ["_law_one"] [7,4] ["_law_one", "_law_met", "_law_order_here"] rfl (itL K (vn 8)) (fun _ _ _ _ _=>gn 0) (fun _ _ _ _ _=>ZQ) (fun _ _ _ _ _=>Jg hu (vn 1) (ZG (X2 K) (vn 2) (ZG (X2 K) (vn 0) Zx (fun _ _=>rfl)) (fun _ _=>rfl)) (fun _ _=>rfl))))
   (Zs (ZD 11 rfl (Ws GTa O ZK (pc (vn 3) Zu)))
   (Zs (ZD 12 rfl (ct (tupK K) T.tuple (pc (cb (Uo O.units) T2.sorted (pc (cmp ["_law_row"] [10] ["_law_row", "_law_came"] rfl (itT K (vn 11)) (fun _ _ _ _ _=>gnf 0 rfl) (fun _ _ _ _ _=>ZQ) (fun _ _ _ _ _=>ct (tupK K) (by exact T.tuple) (pc (cmp ["_law_k"] [0] ["_law_k", "_law_row"] rfl (itL K (vn 1)) (fun _ _ _ _ _=>gn 0) (fun _ _ _ _ _=>ZQ) (fun _ _ _ _ _=>ZG (XI K) (vn 1) (vn 0) (fun _ _=>rfl))) Zu))) Zu)) Zu)))
   (Zs (ZD 13 rfl (Ws GTa O ZK (pc (vn 5) Zu)))
   (Zs (Jo (ZS Jp (cb (ZdV K O) T.repr (pc (vn 13) Zu)) (cb (ZdV K O) T.repr (pc (vn 12) Zu)) (Z6 _)) (Zw (ZF Zd6)) YX)
   (Zs (ZD 14 rfl (VU (pc (Ws GRo O ZK (pc (vn 3) Zu)) (pc (ct (tupK K) T.tuple (pc (cmp ["_law_k"] [6] ["_law_k", "_law_classes_here"] rfl (itL K (vn 10)) (fun _ _ _ _ _=>gn 0) (fun _ _ _ _ _=>ZQ) (fun _ _ _ _ _=>cb (YF K) (by exact T.len) (pc (ZG (X2 K) (vn 1) (vn 0) (fun _ _=>rfl)) Zu))) Zu)) (pc (vn 12) Zu)))))
   (Zw (Jo (ZS Jp (cb (ZdV K O) T.repr (pc (Ws GFr O ZK (pc (vn 5) (pc (vn 13) Zu))) Zu)) (cb (ZdV K O) T.repr (pc (vn 14) Zu)) (Z6 _)) (Zw (ZF Zd6)) YX))))))))))))))
   (Zw (ZF Zd6))),?_⟩
  have sz:(16777216:Nat)=sizeLine:=by decide
  refine⟨_,rfl,a,ns,rfl,hS,fun p q' H1 s1 np T1=>?_⟩;refine⟨_,rfl,by decide,by decide,?_⟩;refine YC (fun i t9 H'=>∃v2 v3 v4 v5 v6 v7 v8 v9 u5 u9 w8 w9 x0:Option V,t9=[some (.ref a),some (.ref p),v2,v3,v4,v5,v6,v7,v8,v9,u5,u9,w8,w9,x0]/\Wn H' p q' (100*i)) ⟨_,_,_,_,_,_,_,_,_,_,_,_,_,rfl,T1⟩ ?_ ?_
  ·rintro i t9 H2 hi ⟨v2,v3,v4,v5,v6,v7,v8,v9,u5,u9,w8,w9,x0,rfl,T2'⟩
   have hi:i<2:=hi;refine⟨_,rfl,(by show 3<=sizeLine;decide),fun l nl=>?_⟩;have s3:=Zv.upd (H:=H2) (o:=.lst [.int 14,.int 21,.int 31]) nl;have hl3:=Zt (H:=H2) (a:=l) (o:=.lst [.int 14,.int 21,.int 31]);have T3:=T2'.mono s3;generalize upd H2 l (.lst [.int 14,.int 21,.int 31])=H3 at s3 hl3 T3 ⊢;refine⟨_,rfl,p,q',_,_,rfl,T3,by omega,by decide,by decide,fun r H4 r0 r1 k4 T4=>?_⟩;have hl4:=k4.lst T3 hl3;obtain⟨ms,hm,m1,m31⟩:∃ms:Nat,X9 [V.int 14,.int 21,.int 31] r=some (.int (ms:Nat))/\1<=ms/\ms<=31:=by
    have:r=0\/r=1\/r=2:=by omega
    rcases this with rfl|rfl|rfl
    ·exact⟨14,rfl,by decide,by decide⟩
    ·exact⟨21,rfl,by decide,by decide⟩
    ·exact⟨31,rfl,by decide,by decide⟩
   refine⟨l,_,_,_,rfl,rfl,.of hl4,hm,p,q',_,ms,rfl,T4,by omega,m1,m31,fun g t H5 k5 T5 G5 mk=>?_⟩;have Y:=ZcX mk;have n1:=Y.n1;have n60:=Y.n60;obtain⟨gs,u1,u2,_⟩:=id G5;have el:(gs.map V.ref).length=t.length:=by rw[Za,u2]
   refine⟨_,rfl,_,rfl,g,_,rfl,.inr (.of u1),p,q',_,t.length,by rw[el];rfl,T5,by omega,n1,n60,fun o os H6 k6 T6 O6 no h6=>?_⟩;have G6:=GT.tk T5 k6 G5;refine⟨_,rfl,_,rfl,o,g,t,os,rfl,h6,G6,Y,O6,fun g' H7 s7 G7=>?_⟩;have x9:=G6.mono s7;have h7:=s7 _ _ h6;have T7:=T6.mono s7;have P':=WU Y O6;have len:(ren t os).length=t.length:=Y3 O6;refine⟨_,rfl,g,t,rfl,x9,Y,fun c1 L1 D1 o9 kv1 H8 s8 h8 R8 hD8 hv8=>?_⟩;refine⟨c1,_,rfl,.of h8,rfl,_,_,rfl,_,_,rfl,rfl,?_⟩;refine⟨_,rfl,g',ren t os,rfl,G7.mono s8,P',fun c2 L2 D2 bs2 kv2 H9 s9 h9 R9 hD9 hv9=>?_⟩;refine⟨c2,_,rfl,.of h9,rfl,_,_,rfl,_,_,rfl,rfl,?_⟩;refine⟨_,rfl,L2,rfl,⟨_,.of R9.1⟩,?_⟩;have h9o:=(s8.trans s9) _ _ h7;have hD1:=s9 _ _ hD8;refine Wm (Yv (K:=K) (.of R9.1)) [some (.ref D1),some (.ref o)] rfl (fun c=>nV (YV t os c)) (by rw[Za,R9.2.1];have:=YU (t:=ren t os) (ren t os).length;omega) (fun j y U H' s' R' kk=>?_) (fun Lc H10 nLc s10 p3=>?_)
   ·obtain⟨b,hb,rfl⟩:∃b,bs2[j]?=some b/\y=.ref b:=by
     rw[Zc] at U;cases e:bs2[j]? with
     |none=>rw[e] at U;cases U
     |some r=>rw[e] at U;exact⟨r,rfl,(aD U).symm⟩
    have hj:j<(ZB (ren t os) (ren t os).length).length:=by rw[<-R9.2.1];exact (ac.mp hb).1
    have hb':=s' _ _ (R9.2.2 j b hb).2;obtain⟨e1,e2⟩:=JX P' hj;rw[len] at e2;have p4:ZI (ren t os) j<t.length:=by unfold ZI;rw[len];rw[len] at e1;exact e2
    have g0:(((ZB (ren t os) (ren t os).length).getD j []).map nV)[0]?=some (nV (ZI (ren t os) j)):=by
     rw[Zc,Yo (j7 e1)];rfl
    have go:(os.map nV)[ZI (ren t os) j]?=some (nV (os.getD (ZI (ren t os) j) 0)):=by
     rw[Zc,Yo (by rw[O6.len];exact p4)];rfl
    have V6:=Yz O6 p4;have hg:=Jn.k (k:=.inl ((os.getD (ZI (ren t os) j) 0:Nat):Int)) (s' _ _ hD1);rw[hv8 _ V6] at hg;exact⟨_,rfl,_,rfl,_,rfl,b,_,_,_,rfl,rfl,.of hb',ZR (j:=0) g0,o,_,_,_,rfl,rfl,.of (s' _ _ h9o),ZR go,D1,_,rfl,hg,kk H' (Zv.refl _)⟩
   ·rw[Za,R9.2.1] at p3
    obtain⟨n,pp,m,e,ω,φ,z,dg,m10,M⟩:=Zjr mk;have m8:=(M.ren Y O6).cd.mc;rw[<-m8] at p3;have r6:=(s8.trans s9).trans s10;have G10:=x9.mono r6;refine⟨_,rfl,g,t,n,pp,m,e,ω,φ,z,dg,rfl,G10,Y,M,fun r1 J H11 p6 A11 n8 hs11=>?_⟩;have xl:J.length=m:=by rw[n8.length_eq,Za,Zg]
    have m60:m<=60:=by
     have:=YU (t:=t) t.length;have:=M.cd.mc;omega
    have m1':=M.cd.m1;obtain⟨cs,c1',c2',c3'⟩:=id A11;have rlen:∀ys∈J,ys.length=m:=fun ys U=>by
     obtain⟨s0,_,rfl⟩:=aI.mp (n8.mem_iff.mp U);unfold Wp;rw[Za,Zg]
    have p7:∀c,c<m->YV t os c<m:=fun c hc=>by
     have hc':c<(ZB (ren t os) (ren t os).length).length:=by rw[<-m8];exact hc
     have e2:=(JX P' hc').2;rw[len] at e2;have p4:ZI (ren t os) c<t.length:=by unfold ZI;rw[len];exact e2
     exact (ZfN Y M (s:=0) m1' (Yz O6 p4)).1
    refine⟨_,rfl,r1,rfl,⟨_,.of c1'⟩,?_⟩;have y4:=p6 _ _ p3;refine Wa (W:=Addr) id (fun i w H=>RowT H w (Jb t os m (J.getD i []))) (fun _ _=>True) (Wf (K:=K) (.of c1')) [some (.ref Lc)] rfl (by rw[Za,c2',xl];omega) (fun i w H H' s h=>h.mono s) (fun w H H' s h=>trivial) (fun i w H0 H1 D o ys ys' h h0 h1 h2=>ZeR h h2) (fun i y U H' s' R' kk=>?_) (fun D2' ws y6 nD2 s12 hD2 wl hw _=>?_)
    ·obtain⟨c,hc,rfl⟩:∃c,cs[i]?=some c/\y=.ref c:=by
      rw[Zc] at U;cases e:cs[i]? with
      |none=>rw[e] at U;cases U
      |some r=>rw[e] at U;exact⟨r,rfl,(aD U).symm⟩
     obtain⟨ys,hys,RT⟩:=c3' i c hc;have yl:=rlen ys (aF hys);have eys:J.getD i []=ys:=by rw[Zb,hys];rfl
     obtain⟨n9,w1,w2,w3⟩:=RT.mono s';have r8:=s' _ _ y4;refine⟨_,rfl,Lc,rfl,⟨_,.of r8⟩,?_⟩;refine Wm (Yv (K:=K) (.of r8)) [some (.ref c)] rfl (fun j=>V.ref (n9.getD (YV t os j) 0)) (by rw[Za,Zg];omega) (fun j x hx H5 s5 R5 k5=>?_) (fun Di H5 nDi s5 hDi=>?_)
     ·have hj:j<m:=by
       have:=(ac.mp hx).1;rw[Za,Zg] at this;exact this
      rw[Zc,am hj] at hx;cases hx;have gc:(n9.map V.ref)[YV t os j]?=some (V.ref (n9.getD (YV t os j) 0)):=by
       rw[Zc,Yo (by rw[w2,yl];exact p7 j hj)];rfl
      exact⟨_,rfl,_,rfl,c,_,_,_,rfl,rfl,.of (s5 _ _ w1),ZR gc,k5 H5 (Zv.refl _)⟩
     ·rw[Za,Zg] at hDi
      refine⟨Di,_,rfl,.inl ⟨.of hDi,fun w' nw=>kk w' _ (s5.trans (Zv.upd nw)) ?_ trivial⟩⟩;rw[eys];refine⟨(ae m).map fun j=>n9.getD (YV t os j) 0,by rw[aJ];exact Zt,by unfold Jb;rw[Za,Za],fun j d hd=>?_⟩;have hj:j<m:=by
       have:=(ac.mp hd).1;rw[Za,Zg] at this;exact this
      rw[Zc,am hj] at hd;cases hd;obtain⟨yy,y1,y2⟩:=w3 (YV t os j) (n9.getD (YV t os j) 0) (Yo (by rw[w2,yl];exact p7 j hj));refine⟨yy,?_,(s5.trans (Zv.upd nw)) _ _ y2⟩;unfold Jb;rw[Zc,am hj];show some (ys.getD (YV t os j) [])=some yy;rw[Zb,y1];rfl
    ·rw[Za,c2'] at wl
     refine⟨D2',ws,J.map (Jb t os m),rfl,hD2,by rw[Za];exact wl,by omega,fun i w' hi=>⟨_,?_,?_,(hw i w' hi).1⟩,fun Ds js nDs hpj hsj=>?_⟩
     ·have hil:i<J.length:=by rw[<-wl];exact (ac.mp hi).1
      rw[Zc,Zf hil,Zb,Zf hil];rfl
     ·intro z0
      have:=congrArg cu z0;unfold Jb at this;rw[Za,Zg] at this;have:m=0:=this;omega
     ·refine⟨Ds,_,rfl,.inl ⟨.of Zt,fun r2 nr2=>?_⟩⟩
      have y8:=(Zv.upd (H:=y6) (o:=.lst ((js.map fun i=>ws.getD i 0).map V.ref)) nDs).trans (Zv.upd (o:=.tup ((js.map fun i=>ws.getD i 0).map V.ref)) nr2);have A13:Zde (upd (upd y6 Ds (.lst ((js.map fun i=>ws.getD i 0).map V.ref))) r2 (.tup ((js.map fun i=>ws.getD i 0).map V.ref))) r2 (js.map fun i=>(J.map (Jb t os m)).getD i []):=by
       refine⟨js.map fun i=>ws.getD i 0,Zt,by rw[Za,Za],fun i d hd=>?_⟩;rw[Zc] at hd;cases ej:js[i]? with
       |none=>rw[ej] at hd;cases hd
       |some k=>
        rw[ej] at hd;cases hd;have hk:k<ws.length:=af.mp (hpj.mem_iff.mp (aF ej));refine⟨(J.map (Jb t os m)).getD k [],by rw[Zc,ej];rfl,?_⟩;have:=(hw k (ws.getD k 0) (Yo hk)).1;rw[show (J.map (Jb t os m)).getD k []=Jb t os m (J.getD k []) by
         rw[Zb,Zc,Zf (by omega),Zb,Zf (by omega)];rfl]
        exact this.mono y8
      generalize upd (upd y6 Ds (.lst ((js.map fun i=>ws.getD i 0).map V.ref))) r2 (.tup ((js.map fun i=>ws.getD i 0).map V.ref))=H13 at y8 A13 ⊢;have m5:=s12.trans y8;have r9:=(r6.trans p6).trans m5;refine⟨_,rfl,g',ren t os,n,pp,m,_,_,_,z,dg,rfl,G7.mono r9,P',M.ren Y O6,fun r3 yss H14 p8 A14 t0 hs14=>?_⟩;have zp:(js.map fun i=>(J.map (Jb t os m)).getD i []).Perm (J.map (Jb t os m)):=by
       have:=hpj.map fun i=>(J.map (Jb t os m)).getD i [];refine this.trans (kP ?_);refine bf fun i=>?_;rw[Zc];by_cases hi':i<ws.length
       ·rw[am hi',Zf (by rw[Za];omega)]
        show some ((J.map (Jb t os m)).getD i [])=_;rw[Zb,Zf (by rw[Za];omega)];rfl
       ·rw[ak (by rw[Zg];omega),ak (by rw[Za];omega)]
        rfl
      have ezy:=ZeO Y O6 M n8 zp hsj t0 hs14;have o0:=A13.mono p8;rw[ezy] at o0;have o5:=ZiM (M.ren Y O6) m10 t0;have rsR:∀a,a<t.length->Rd t a (rdT t a):=fun a ha=>by
       obtain⟨r,R⟩:=Y.rd a ha;rw[VQ R];exact R
      have t5:∀a,a<(ren t os).length->Rd (ren t os) a (rdT (ren t os) a):=fun a ha=>by
       obtain⟨r,R⟩:=P'.rd a ha;rw[VQ R];exact R
      have o6:=r9.trans p8;refine⟨_,rfl,_,_,rfl,Zah A14,o5.fit (by decide) (by decide),_,rfl,_,_,rfl,Zah o0,o5.fit (by decide) (by decide),rfl,_,rfl,ZlL (by simp) ?_⟩;refine⟨_,rfl,g,t,_,rfl,x9.mono o6,Y,rsR,fun fr H15 q0 L15=>?_⟩;obtain rfl:=M.round rsR L15;have o7:H15 Lc=some (.lst ((ae m).map fun c=>nV (YV t os c))):=((p6.trans m5).trans (p8.trans q0)) _ _ p3;have y9:=R8.mono ((s9.trans s10).trans ((p6.trans m5).trans (p8.trans q0)));refine⟨_,rfl,Lc,rfl,⟨_,.of o7⟩,?_⟩;refine Wm (Yv (K:=K) (.of o7)) [some (.ref L1)] rfl (fun c=>nV (((ZB t t.length).getD (YV t os c) []).length)) (by rw[Za,Zg];omega) (fun c y U H' s' R' kk=>?_) (fun Dz H16 nDz s16 hDz=>?_)
      ·have hc:c<m:=by
        have:=(ac.mp U).1;rw[Za,Zg] at this;exact this
       rw[Zc,am hc] at U;cases U;have hcm:=p7 c hc;have hcb:YV t os c<o9.length:=by rw[y9.2.1,<-M.cd.mc];exact hcm
       have gb:(o9.map V.ref)[YV t os c]?=some (.ref (o9.getD (YV t os c) 0)):=by
        rw[Zc,Yo hcb];rfl
       have hb:=(y9.2.2 _ _ (Yo hcb)).2;refine⟨_,rfl,_,rfl,L1,_,_,_,rfl,rfl,.of (s' _ _ y9.1),ZR gb,o9.getD (YV t os c) 0,_,rfl,.inl (.of (s' _ _ hb)),?_⟩;rw[Za];exact kk H' (Zv.refl _)
      ·rw[Za,Zg] at hDz
       refine⟨Dz,_,rfl,.inl ⟨.of hDz,fun n6 nsz=>?_⟩⟩;have s17:=s16.trans (Zv.upd (H:=H16) (o:=.tup ((ae m).map fun c=>nV (((ZB t t.length).getD (YV t os c) []).length))) nsz);have h17:upd H16 n6 (.tup ((ae m).map fun c=>nV (((ZB t t.length).getD (YV t os c) []).length))) n6=some (.tup (((ae m).map fun c=>((ZB t t.length).getD (YV t os c) []).length).map nV)):=by
        rw[Zt,aJ];rfl
       generalize upd H16 n6 (.tup ((ae m).map fun c=>nV (((ZB t t.length).getD (YV t os c) []).length)))=H17 at s17 h17 ⊢;refine⟨_,rfl,(by show 3<=sizeLine;decide),fun frA nfr=>?_⟩;have s18:=Zv.upd (H:=H17) (o:=.tup [.int fr,.ref n6,.ref r2]) nfr;have t6:=Zt (H:=H17) (a:=frA) (o:=.tup [.int fr,.ref n6,.ref r2]);generalize upd H17 frA (.tup [.int fr,.ref n6,.ref r2])=H18 at s18 t6 ⊢;have o8:=s17.trans s18;refine⟨_,rfl,_,rfl,g',.ref r3,ren t os,_,rfl,G7.mono ((o6.trans q0).trans o8),P',t5,fun fr2 rr cc H19 s19 L19 hcc hrr=>?_⟩;obtain rfl:=(M.ren Y O6).round t5 L19;have m6:=(q0.trans o8).trans s19;have ezs:(ZB (ren t os) (ren t os).length).map cu=(ae m).map fun c=>((ZB t t.length).getD (YV t os c) []).length:=by
        refine bf fun c=>?_;rw[Zc,Zc];by_cases hc:c<m
        ·rw[am hc,Zf (by rw[<-m8];exact hc)]
         show some _=some (((ZB t t.length).getD (YV t os c) []).length);rw[<-Zgb Y O6 (by rw[<-m8];exact hc),Zb,Zf (by rw[<-m8];exact hc)];rfl
        ·rw[ak (by rw[<-m8];omega),ak (by rw[Zg];omega)]
         rfl
       rw[ezs] at hcc;have t7:Zig (dFr fr2 ((ae m).map fun c=>((ZB t t.length).getD (YV t os c) []).length) yss):=by
        refine ZlO M.n60 (by rw[Za,Zg];exact m10) (fun x hx=>?_) o5;obtain⟨c,hc,rfl⟩:=aI.mp hx;refine aZ ?_ n60;have:=p7 c (af.mp hc);rw[M.cd.mc] at this;rw[Zh0 Y this];exact ZaX _
       refine⟨_,_,rfl,ZkH hrr hcc (A14.mono m6),t7,_,rfl,_,_,rfl,ZkH (s19 _ _ t6) ((s18.trans s19) _ _ h17) (o0.mono m6),t7,rfl,_,rfl,ZlL (by simp) ?_⟩;exact⟨_,_,_,_,_,_,_,_,_,_,_,_,_,rfl,(T7.mono (o6.trans m6)).le (by omega)⟩
  ·rintro t9 H2 ⟨v2,v3,v4,v5,v6,v7,v8,v9,u5,u9,w8,w9,x0,rfl,T2'⟩
   exact q H2
end
theorem all_mk {l:gm}{w:World}{K:aa}{h:Heap}{mg:Str->Option Value}{fa:Addr}(X:K.In h)(G:h.Ns mainGlobals mg)(hfa:mg "law"=some (.ref fa))
  (d1:ZC K "_law_feed" Zko) (d2:ZC K "_law_draw" Zgu) (d3:ZC K "_law_twisted" Zgg) (d4:ZC K "_law_by_perms" ZmO) (d5:ZC K "_law_times_of" ZcM) (d6:ZC K "_law_group" Zgr) (d7:ZC K "_law_order" Zgn) (d8:ZC K "_law_renamed_by" Zgl) (d9:ZC K "_law_classes" Zbu) (d10:ZC K "round_of" Zgj) (d11:ZC K "full_round" Zkn) (d12:ZC K "fit_prime" ZmM) (d13:ZC K "root_powers" Zgk) (d14:ZC K "back" Zkp) (d15:ZC K "turned_by" ZdK) (d16:ZC K "turnings" UP) (d17:ZC K "classes_of" VM) (d18:ZC K "holders" Zkm) (d19:ZC K "class_numbers" Zbt) (d20:ZC K "power_walks" Zgf) (d21:ZC K "counts_of" ZdP) (d22:ZC K "less_often" Zkk) (d23:ZC K "back_by" ZdQ) (d24:ZC K "last_part" Zkl) (d25:ZC K "parts_by" Zgm) (d26:ZC K "taken_apart" Zgv) (d27:ZC K "first_of" Zgt) (d28:ZC K "primes_of" N52.ZdM) (d29:ZC K "stretched" N52.ZmK) (d30:ZC K "quotient" N52.ZmL) (d31:ZC K "least_sum" N52.Zgq) (d32:ZC K "number_of" N52.Zgo) (d33:ZC K "number_at" Zgp) (d34:ZC K "table_of" Zgh) (d35:ZC K "_law_round" ZdL) (d36:ZC K "sizes_of" Zgi) (d37:ZC K "frame_of" Zgs) (d38:ZC K "law" Zk8)
  (z1:bg K mainGlobals "list"=some none) (z2:bg K mainGlobals "len"=some none) (z3:bg K mainGlobals "range"=some none) (z4:bg K mainGlobals "tuple"=some none) (z5:bg K mainGlobals "sorted"=some none) (z6:bg K mainGlobals "set"=some none) (z7:bg K mainGlobals "abs"=some none) (z8:bg K mainGlobals "isinstance"=some none) (z9:bg K mainGlobals "all"=some none) (z10:bg K mainGlobals "repr"=some none) (z11:bg K mainGlobals "any"=some none) (z12:bg K mainGlobals "int"=some none) (z13:bg K mainGlobals "bool"=some none) (z14:bg K mainGlobals "enumerate"=some none) (z15:bg K mainGlobals "zip"=some none) (z16:bg K mainGlobals "sum"=some none) (z17:bg K mainGlobals "max"=some none) :
  ∃fd:FuncData,(∀(s:Shared) (v:Value),iM s fd ⟨[v],[]⟩ [("_law_script",v)])/\∀base:Heap,K.In base->base.Ns mainGlobals mg->Yb l.prog w K mg base Yi 8 fa fd ["_law_script"] (ZdC K):=by
 have q:BlB mg:=⟨ax X G z1,ax X G z2,ax X G z3,ax X G z4,ax X G z5⟩;have j:Bl mg:=⟨ax X G z1,ax X G z2,ax X G z7,ax X G z3,ax X G z4,ax X G z8,ax X G z9,ax X G z6,ax X G z10,ax X G z11,ax X G z12,ax X G z13⟩;have J:Zdi mg:=⟨ax X G z5,ax X G z14⟩;have m6:BlT mg:=⟨ax X G z15,ax X G z16⟩;have Y:N52.Bl mg:=⟨ax X G z1,ax X G z2,ax X G z7,ax X G z3,ax X G z4,ax X G z8,ax X G z9,ax X G z6,ax X G z10,ax X G z11,ax X G z12,ax X G z13⟩;have m8:N52.Bl2 mg:=⟨ax X G z14,ax X G z17⟩;refine d38.law X G hfa (fun base f fd nb kb F=>?_) (fun _ _ _ _ _ _ _ _=>.of_eq rfl);have fn:=@ZC.fn l.prog w K mg base h;have p8:=fn d1 X G (fun f fd F=>Zjj F q) (fun _ _ _ _ _ _=>bd1 fun _=>rfl);have U:=fn d2 X G (fun f fd F=>Zjk F q) (fun _ _ _ _ _ _=>bd2 fun _ _=>rfl);have o5:=fn d3 X G (fun f fd F=>ZgW F q) (fun _ _ _ _ _ _=>bd4 fun _ _ _ _=>rfl);have n9:=fn d4 X G (fun f fd F=>Zlw F q) (fun _ _ _ _ _ _=>bd1 fun _=>rfl);have o0:=fn d5 X G (fun f fd F=>Ze1 F q) (fun _ _ _ _ _ _=>bd1 fun _=>rfl);have p3:=fn d6 X G (fun f fd F=>Ze5 F q U o5 n9 o0) (fun _ _ _ _ _ _=>bd2 fun _ _=>rfl);have p4:=fn d7 X G (fun f fd F=>Ze4 F q U) (fun _ _ _ _ _ _=>bd2 fun _ _=>rfl);have n6:=fn d8 X G (fun f fd F=>Zg1 F q) (fun _ _ _ _ _ _=>bd2 fun _ _=>rfl);have o6:=fn d9 X G (fun f fd F=>Zjl F q (ax X G z6)) (fun _ _ _ _ _ _=>bd1 fun _=>rfl);have u5:=fn d10 X G (fun f fd F=>ZgZ F) (fun _ _ _ _ _ _=>bd2 fun _ _=>rfl);have m5:=fn d11 X G (fun f fd F=>Zji F j u5) (fun _ _ _ _ _ _=>bd1 fun _=>rfl);have q0:=fn d12 X G (fun f fd F=>Zlv F j) (fun _ _ _ _ _ _=>bd2 fun _ _=>rfl);have o7:=fn d13 X G (fun f fd F=>Zg0 F j) (fun _ _ _ _ _ _=>bd2 fun _ _=>rfl);have y9:=fn d14 X G (fun f fd F=>Zjm F) (fun _ _ _ _ _ _=>bd2 fun _ _=>rfl);have r6:=fn d15 X G (fun f fd F=>Ze0 F y9) (fun _ _ _ _ _ _=>bd3 fun _ _ _=>rfl);have u9:=fn d16 X G (fun f fd F=>ZbK F j J r6) (fun _ _ _ _ _ _=>bd2 fun _ _=>rfl);have M:=fn d17 X G (fun f fd F=>ZcU F j u9) (fun _ _ _ _ _ _=>bd1 fun _=>rfl);have y8:=fn d18 X G (fun f fd F=>Zjh F j J) (fun _ _ _ _ _ _=>bd2 fun _ _=>rfl);have O:=fn d19 X G (fun f fd F=>Zje F j M y8) (fun _ _ _ _ _ _=>bd1 fun _=>rfl);have o8:=fn d20 X G (fun f fd F=>ZgV F O M) (fun _ _ _ _ _ _=>bd1 fun _=>rfl);have r8:=fn d21 X G (fun f fd F=>Ze6 F j J M O) (fun _ _ _ _ _ _=>bd1 fun _=>rfl);have p6:=fn d22 X G (fun f fd F=>Zjf F m6) (fun _ _ _ _ _ _=>bd4 fun _ _ _ _=>rfl);have n8:=fn d23 X G (fun f fd F=>Ze7 F) (fun _ _ _ _ _ _=>bd2 fun _ _=>rfl);have r9:=fn d24 X G (fun f fd F=>Zjg F j p6 n8) (fun _ _ _ _ _ _=>bd3 fun _ _ _=>rfl);have w8:=fn d25 X G (fun f fd F=>Zg2 F j m6 r9) (fun _ _ _ _ _ _=>bd3 fun _ _ _=>rfl);have o9:=fn d26 X G (fun f fd F=>Zg8 F j w8) (fun _ _ _ _ _ _=>bd2 fun _ _=>rfl);have w9:=fn d27 X G (fun f fd F=>Zg7 F) (fun _ _ _ _ _ _=>bd3 fun _ _ _=>rfl);have t0:=fn d28 X G (fun f fd F=>N52.Ze3 F Y) (fun _ _ _ _ _ _=>bd1 fun _=>rfl);have t5:=fn d29 X G (fun f fd F=>N52.Zls F Y m8) (fun _ _ _ _ _ _=>bd2 fun _ _=>rfl);have x0:=fn d30 X G (fun f fd F=>N52.Zlt F Y m8) (fun _ _ _ _ _ _=>bd2 fun _ _=>rfl);have t6:=fn d31 X G (fun f fd F=>N52.Zg5 F t0 t5 x0) (fun _ _ _ _ _ _=>bd1 fun _=>rfl);have t7:=fn d32 X G (fun f fd F=>N52.Zg3 F Y m8 t6) (fun _ _ _ _ _ _=>bd2 fun _ _=>rfl);have t9:=fn d33 X G (fun f fd F=>Zg4 F j J m6 n8 t7) (fun _ _ _ _ _ _=>bd5 fun _ _ _ _ _=>rfl);have x9:=fn d34 X G (fun f fd F=>ZgX F j J m5 q0 o7 o8 r8 o9 n8 w9 t9) (fun _ _ _ _ _ _=>bd1 fun _=>rfl);have p7:=fn d35 X G (fun f fd F=>Ze2 F q) (fun _ _ _ _ _ _=>bd1 fun _=>rfl);have y4:=fn d36 X G (fun f fd F=>ZgY F j M) (fun _ _ _ _ _ _=>bd1 fun _=>rfl);have y6:=fn d37 X G (fun f fd F=>Zg6 F m5 y4) (fun _ _ _ _ _ _=>bd2 fun _ _=>rfl);exact Zlu F j J p8 U p3 p4 n6 o6 x9 p7 y6
theorem walk {l:gm}{q:Program}{loose:List Str}{U:(Str->Option Value)->Heap->Prop}{M:World->Heap->Prop}{d:DefRec}{K:Params->aa}(Y:l.most=some 63)(J:d.params.defaults=[])
  (hY:∀(w:World) (h:Heap),M w h->(K w.params).In h)
  (F:∀(w:World) (j:Str->Option Value) (O:Addr) (h:Heap),(K w.params).In h->h.Ns mainGlobals j->j d.name=some (.ref O)->
   ∃fd:FuncData,(∀(s:Shared) (u:Value),iM s fd ⟨[u],[]⟩ [("_law_script",u)])/\∀base:Heap,(K w.params).In base->base.Ns mainGlobals j->Yb l.prog w (K w.params) j base Yi 8 O fd ["_law_script"] (ZdC (K w.params))) :
  ln q loose U M l.row.toRowW d [] (fun f vs=>kZ f vs):=
 L2.Zae (n:=63) (k:=8) (x:="_law_script") (CX:=fun _=>Yi) (sp:=fun w=>ZdC (K w.params)) Y (by decide) J ⟨rfl,by decide,by decide,rfl⟩ hY F (fun _ _ a ns hl _ hS=>⟨a,ns,rfl,hS,hl,fun _=>rfl⟩) fun _ _ _ _ _ z=>z
end C52
namespace PySem.W.Fast
theorem tw2080342135697343358:0=0:=rfl
theorem tw9057831858644338705:0=0:=rfl
theorem tw17672131840822071694:0=0:=rfl
theorem tw639041214258524016:0=0:=rfl
theorem tw2800197214583596199:0=0:=rfl
theorem tw932473622310119684:0=0:=rfl
theorem tw2870193716890710026:0=0:=rfl
theorem tw15125445561369928370:0=0:=rfl
theorem tw905990353820939687:0=0:=rfl
theorem tw2642466114862421179:0=0:=rfl
theorem tw11232373942169449212:0=0:=rfl
theorem tw17096888707526273620:0=0:=rfl
theorem tw10315343755766033222:0=0:=rfl
theorem tw14104330741711393193:0=0:=rfl
theorem tw12953298963644081654:0=0:=rfl
theorem tw13293384906825623123:0=0:=rfl
theorem tw18298208049227733089:0=0:=rfl
theorem tw3118122125355594264:0=0:=rfl
theorem tw11819932318842303468:0=0:=rfl
theorem tw13754839058013422670:0=0:=rfl
theorem tw7756859855353947161:0=0:=rfl
theorem tw16595199207205552285:0=0:=rfl
theorem tw14120267061557739719:0=0:=rfl
theorem tw12708168068979245777:0=0:=rfl
theorem tw11367475479802597818:0=0:=rfl
theorem tw8246631592256007470:0=0:=rfl
theorem tw15299501486453002168:0=0:=rfl
theorem tw5756111963465495871:0=0:=rfl
theorem tw4057969045536677286:0=0:=rfl
theorem tw11301655969223452470:0=0:=rfl
theorem tw14664335239248487612:0=0:=rfl
theorem tw5988843402566220819:0=0:=rfl
theorem tw3904932568426491480:0=0:=rfl
theorem tw17899691815124208883:0=0:=rfl
theorem tw6238269951074287710:0=0:=rfl
theorem tw2782362559970132679:0=0:=rfl
theorem tw16647554800597416503:0=0:=rfl
theorem tw3930699983738474100:0=0:=rfl
theorem tw2912069500844021226:0=0:=rfl
theorem tw4319432804593409868:0=0:=rfl
theorem tw2334902414689898911:0=0:=rfl
theorem tw3862427604378887534:0=0:=rfl
theorem tw15208521740840437689:0=0:=rfl
theorem tw14398920851390051570:0=0:=rfl
theorem tw148098268964484516:0=0:=rfl
theorem tw16921929160916441445:0=0:=rfl
theorem tw9103703839679933325:0=0:=rfl
theorem tw309861222532061966:0=0:=rfl
theorem tw15125177847080226792:0=0:=rfl
theorem tw9569879789562646501:0=0:=rfl
theorem tw13689198743943374002:0=0:=rfl
theorem tw3740233942062385063:0=0:=rfl
theorem tw9260615596844239021:0=0:=rfl
theorem tw8402058299915829323:0=0:=rfl
theorem tw6702051108557436037:0=0:=rfl
theorem tw3859331525589314363:0=0:=rfl
theorem tw8474376145281401002:0=0:=rfl
theorem tw15843486369223151203:0=0:=rfl
theorem tw1506013841947987345:0=0:=rfl
theorem tw14075311217840403033:0=0:=rfl
theorem tw12174189977706679669:0=0:=rfl
theorem tw750260916604197516:0=0:=rfl
theorem tw13267113561402826933:0=0:=rfl
theorem tw9965694231346934899:0=0:=rfl
theorem tw9696567419359574297:0=0:=rfl
theorem tw16081431413884504058:0=0:=rfl
theorem tw4725983563283005325:0=0:=rfl
theorem tw18293169516634969789:0=0:=rfl
theorem tw6789855529622048898:0=0:=rfl
theorem tw11693963013512473996:0=0:=rfl
theorem tw8317283646796845246:0=0:=rfl
theorem tw7634218792968201162:0=0:=rfl
theorem tw16238630858981161071:0=0:=rfl
theorem tw10281470162570393875:0=0:=rfl
theorem tw7168627565463718733:0=0:=rfl
theorem tw3585643824089275799:0=0:=rfl
theorem tw16561709263981444662:0=0:=rfl
theorem tw9327665709629377701:0=0:=rfl
theorem tw2568240832588905202:0=0:=rfl
theorem tw16775620284681132573:0=0:=rfl
theorem tw12276212623454014323:0=0:=rfl
theorem tw9970459411140575136:0=0:=rfl
theorem tw14519556270465054860:0=0:=rfl
theorem tw9443725627879995671:0=0:=rfl
theorem tw6176556232186484052:0=0:=rfl
theorem tw6804715106190934674:0=0:=rfl
theorem tw3342901202690511973:0=0:=rfl
theorem tw6558841429803380548:0=0:=rfl
theorem tw10041476106700128788:0=0:=rfl
theorem tw17169654791306882311:0=0:=rfl
theorem tw13616606129122748103:0=0:=rfl
theorem tw16163618233609507282:0=0:=rfl
theorem tw15800440645033780494:0=0:=rfl
theorem tw11429603234260259358:0=0:=rfl
theorem tw7918109385889992191:0=0:=rfl
theorem tw18236276042933971648:0=0:=rfl
theorem tw11034323368566685318:0=0:=rfl
theorem tw10318857803346329016:0=0:=rfl
theorem tw1591472120479980006:0=0:=rfl
theorem tw8987953976032107681:0=0:=rfl
theorem tw8925359609581919035:0=0:=rfl
theorem tw12645395050856511788:0=0:=rfl
theorem tw4391377573551525817:0=0:=rfl
theorem tw8110072780733374952:0=0:=rfl
theorem tw17298737722593735173:0=0:=rfl
theorem tw17787398005650200145:0=0:=rfl
theorem tw5699093132910204776:0=0:=rfl
theorem tw602517626130580270:0=0:=rfl
theorem tw6920112683740029838:0=0:=rfl
theorem tw14774837335209009934:0=0:=rfl
theorem tw10562210220941604578:0=0:=rfl
theorem tw13877781023617374749:0=0:=rfl
theorem tw9696143323556505491:0=0:=rfl
theorem tw1224024608876538784:0=0:=rfl
theorem tw107488627262479264:0=0:=rfl
theorem tw11457931096494839580:0=0:=rfl
theorem tw12205246434080554838:0=0:=rfl
theorem tw12586405148903542389:0=0:=rfl
theorem tw6353212212385319024:0=0:=rfl
theorem tw6928054104639254621:0=0:=rfl
theorem tw8252054540827096178:0=0:=rfl
theorem tw14687980431617372034:0=0:=rfl
theorem tw3692785198952433744:0=0:=rfl
theorem tw2071197203513354007:0=0:=rfl
theorem tw17018773934514948643:0=0:=rfl
theorem tw8788546754139939813:0=0:=rfl
theorem tw17804028367612297910:0=0:=rfl
theorem tw3743284696758722309:0=0:=rfl
theorem tw17817818121518625031:0=0:=rfl
theorem tw450814942911915189:0=0:=rfl
theorem tw11709924896796873240:0=0:=rfl
theorem tw8997846716018271012:0=0:=rfl
theorem tw8874275521514353464:0=0:=rfl
theorem tw4100477482471341417:0=0:=rfl
theorem tw12693248257023653225:0=0:=rfl
theorem tw1921341485591321947:0=0:=rfl
theorem tw8943267898343811934:0=0:=rfl
theorem tw16638868946983216420:0=0:=rfl
theorem tw713752756541250855:0=0:=rfl
theorem tw14976907706239128634:0=0:=rfl
theorem tw13739624130130337910:0=0:=rfl
theorem tw1442042142363658345:0=0:=rfl
theorem tw14521063709338812388:0=0:=rfl
theorem tw12994661427544885257:0=0:=rfl
theorem tw17472991806491005415:0=0:=rfl
theorem tw10145929095839590213:0=0:=rfl
theorem tw15490306656887062015:0=0:=rfl
theorem tw7748736890418920056:0=0:=rfl
theorem tw16217388851275491793:0=0:=rfl
theorem tw12533225340958436538:0=0:=rfl
theorem tw3746572165297200003:0=0:=rfl
theorem tw3010478766946938211:0=0:=rfl
theorem tw2348419633290243716:0=0:=rfl
theorem tw6192146133522619560:0=0:=rfl
theorem tw7029321576071365631:0=0:=rfl
theorem tw12388947541244314256:0=0:=rfl
theorem tw17999726141424327783:0=0:=rfl
theorem tw10577099211215552470:0=0:=rfl
theorem tw7411022593050872526:0=0:=rfl
theorem tw2130642936908351728:0=0:=rfl
theorem tw16028885291708942461:0=0:=rfl
theorem tw16741802478530313887:0=0:=rfl
theorem tw6900672315422057143:0=0:=rfl
theorem tw14127679027135597787:0=0:=rfl
theorem tw273053990687557701:0=0:=rfl
theorem tw18018540966915527635:0=0:=rfl
theorem tw878764164389234944:0=0:=rfl
theorem tw8572750511282116307:0=0:=rfl
theorem tw1301787232953799836:0=0:=rfl
theorem tw13930180183035806411:0=0:=rfl
theorem tw3625438249280225029:0=0:=rfl
theorem tw14945725016036558561:0=0:=rfl
theorem tw4127240002913397701:0=0:=rfl
theorem tw870464114295600430:0=0:=rfl
theorem tw7469603031848218393:0=0:=rfl
theorem tw4093937101113315331:0=0:=rfl
theorem tw992015481722584188:0=0:=rfl
theorem tw16719266766643568336:0=0:=rfl
theorem tw11454499760298295286:0=0:=rfl
theorem tw7091618282989940287:0=0:=rfl
theorem tw8865710403503776195:0=0:=rfl
theorem tw6963332550826426725:0=0:=rfl
theorem tw10180069369668744445:0=0:=rfl
theorem tw10215307528646280854:0=0:=rfl
theorem tw16938014437193863172:0=0:=rfl
theorem tw7868975885155820188:0=0:=rfl
theorem tw15341319335623085013:0=0:=rfl
theorem tw9275218704917142341:0=0:=rfl
theorem tw13724259159764512143:0=0:=rfl
theorem tw1538623330883245601:0=0:=rfl
theorem tw10069605002692814724:0=0:=rfl
theorem tw1901614952346087263:0=0:=rfl
theorem tw17234673446234315219:0=0:=rfl
theorem tw8693100606375172304:0=0:=rfl
theorem tw1756531763439271248:0=0:=rfl
theorem tw6878794658661725442:0=0:=rfl
theorem tw8422371608945642784:0=0:=rfl
theorem tw4943791911954952380:0=0:=rfl
theorem tw18012674539838295624:0=0:=rfl
theorem tw15876273530661871699:0=0:=rfl
theorem tw17006401015426118291:0=0:=rfl
theorem tw5519182784641891178:0=0:=rfl
theorem tw2184959258846525500:0=0:=rfl
theorem tw14250732920799080813:0=0:=rfl
theorem tw14159640530623246981:0=0:=rfl
theorem tw12906901230644239057:0=0:=rfl
theorem tw11549328292341620825:0=0:=rfl
theorem tw9994570403924704602:0=0:=rfl
theorem tw5228245238024681783:0=0:=rfl
theorem tw16245960841868626571:0=0:=rfl
theorem tw5674341222909505738:0=0:=rfl
theorem tw3109475476009159417:0=0:=rfl
theorem tw6289716465903026051:0=0:=rfl
theorem tw3046451732325553974:0=0:=rfl
theorem tw17923220535397921322:0=0:=rfl
theorem tw7619763543044025965:0=0:=rfl
theorem tw18403278668565775468:0=0:=rfl
theorem tw1370853853690756857:0=0:=rfl
theorem tw17854274696482548027:0=0:=rfl
theorem tw14280411761268032237:0=0:=rfl
theorem tw9337001020968078283:0=0:=rfl
end PySem.W.Fast
open PySem PySem.W PyProof.Rows
set_option maxRecDepth 100000 in
set_option maxHeartbeats 0 in
theorem PySem.Challenge.cw_classtab_k52_whole_things_in_another_ord_holds : PySem.Challenge.rw_classtab_k52_whole_things_in_another_ord.Holds := by
 w_on;o_law;k_head;(case hw=>w_witness2)
 k_fill
 refine C52.walk (l:=PySem.Challenge.rw_classtab_k52_whole_things_in_another_ord) rfl rfl (fun w h Y=>PySem.W.kIn_of Y) ?F
 case F=>
  intro w mg fa h KX G hmg
  refine' C52.all_mk KX G hmg (L2.ZC.mk ?_ ?_ ?_ ?_) (L2.ZC.mk ?_ ?_ ?_ ?_) (L2.ZC.mk ?_ ?_ ?_ ?_) (L2.ZC.mk ?_ ?_ ?_ ?_) (L2.ZC.mk ?_ ?_ ?_ ?_) (L2.ZC.mk ?_ ?_ ?_ ?_) (L2.ZC.mk ?_ ?_ ?_ ?_) (L2.ZC.mk ?_ ?_ ?_ ?_) (L2.ZC.mk ?_ ?_ ?_ ?_) (L2.ZC.mk ?_ ?_ ?_ ?_) (L2.ZC.mk ?_ ?_ ?_ ?_) (L2.ZC.mk ?_ ?_ ?_ ?_) (L2.ZC.mk ?_ ?_ ?_ ?_) (L2.ZC.mk ?_ ?_ ?_ ?_) (L2.ZC.mk ?_ ?_ ?_ ?_) (L2.ZC.mk ?_ ?_ ?_ ?_) (L2.ZC.mk ?_ ?_ ?_ ?_) (L2.ZC.mk ?_ ?_ ?_ ?_) (L2.ZC.mk ?_ ?_ ?_ ?_) (L2.ZC.mk ?_ ?_ ?_ ?_) (L2.ZC.mk ?_ ?_ ?_ ?_) (L2.ZC.mk ?_ ?_ ?_ ?_) (L2.ZC.mk ?_ ?_ ?_ ?_) (L2.ZC.mk ?_ ?_ ?_ ?_) (L2.ZC.mk ?_ ?_ ?_ ?_) (L2.ZC.mk ?_ ?_ ?_ ?_) (L2.ZC.mk ?_ ?_ ?_ ?_) (L2.ZC.mk ?_ ?_ ?_ ?_) (L2.ZC.mk ?_ ?_ ?_ ?_) (L2.ZC.mk ?_ ?_ ?_ ?_) (L2.ZC.mk ?_ ?_ ?_ ?_) (L2.ZC.mk ?_ ?_ ?_ ?_) (L2.ZC.mk ?_ ?_ ?_ ?_) (L2.ZC.mk ?_ ?_ ?_ ?_) (L2.ZC.mk ?_ ?_ ?_ ?_) (L2.ZC.mk ?_ ?_ ?_ ?_) (L2.ZC.mk ?_ ?_ ?_ ?_) (L2.ZC.mk ?_ ?_ ?_ ?_) ?_ ?_ ?_ ?_ ?_ ?_ ?_ ?_ ?_ ?_ ?_ ?_ ?_ ?_ ?_ ?_ ?_
  any_goals k_is
  all_goals kernel_rfl
