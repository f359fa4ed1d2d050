import PyProof.Rows.All
import Wide.All
import OpenK.AllK
import Wide.FinOn
import Lean
import PyProof.EqAt
import PyProof.EqKinds
import PyProof.TupleCall
import PyProof.DictWalks
import KE.KDictSum
import KE.KSortTup
import PyProof.EnumMake
import PyProof.EnumFor
import PyProof.TupleIter
import PyProof.Rows.Range3
import PyProof.AutoListH
import KE.LcSums
import PyProof.ZipIter
import PySem.Challenge.RW_classtab_k51_whole_turned_by_powers
open PySem.W renaming Frag->aa,mg_none_of->ay,nsIn->bv,fnOf->cy,keepIn->dP,codeIn->eY,kas_rev->ff,kas_sort->gx,OpenLaw->gD,cellsFrom_some->gL,methodObj->iM,kat_nil->iQ,KasT->jL,lks_uniq->lN,kat_sorted->lO,WalkO->lP,listOf->mr,kas_tail3->mv,mg_of->mL
open List renaming range->ac,getElem?_eq_some_iff->ae,mem_range->ag,getElem?_eq_none->ak,getElem?_range->ao,mem_cons_of_mem->aq,getElem?_append_left->au,replicate->av,getElem?_append_right->aw,mem_cons_self->ax,contains_iff_mem->aB,mem_of_getElem?->aE,mem_cons->aH,all_eq_true->aI,mem_map->aN,map_map->aP,map_append->aR,mem_append_right->aS,mem_singleton->aU,map_cons->aV,map_congr_left->aX,any_eq_true->aY,replicate_succ->a6,length_set->a9,ext_getElem?->bq,length_drop->bB,getElem_mem->bK,getElem?_of_mem->bN,Perm->bP,mem_append->bS,length_take->bU,getElem?_replicate->bX,nodup_cons->bZ,drop_eq_getElem_cons->ce,filterMap_cons->cf,flatten_cons->cg,range_succ->cm,mem_append_left->cn,perm_ext_iff_of_nodup->cM,length_replicate->cQ,take_add_one->cU,any_cons->c6,take_length->c9,tail_cons->db,lookup_cons->de,range'->dw,findIdx_lt_length->dA,range_eq_range'->dZ,nodup_nil->ee,range'_succ->eA,not_mem_nil->eB,nodup_range->eC,mem_filter->eR,length_zip->eS,length_map->eV,find?_cons->eW,length->e9,take_zero->fg,length_pos_of_mem->fh,drop_eq_nil_of_le->fj,any_map->fk,drop_length->fH,getElem?_set_ne->fP,findIdx_getElem->fQ,append_nil->fY,map_nil->gc,getElem?_take->gq,mem_of_find?_eq_some->gu,getElem?_zip_eq_some->gv,getElem?_eq_none_iff->gw,pairwise_map->gA,pairwise_singleton->gP,map->gQ,length_eq_zero_iff->gR,take_of_length_le->hG,pairwise_lt_range->hU,length_nil->ik,any_append->im,pairwise_append->ix,mem_filterMap->iR,map_inj_right->iS,lookup_append->iT,getElem?_drop->iU,find?_eq_none->iV,take_sublist->jb,getElem?_set->jc,foldl_append->jd,findIdx_lt_length_of_exists->je,append_assoc->jf,filter_cons->jt,of_mem_zip->jG,forIn_cons->jH,find?_some->jI,forIn_nil->jR,pairwise_iff_getElem->jY,find?_range_eq_some->ke,map_set->kD,getElem?_set_self->kE,any_nil->kF,length_filter_le->lq,getElem?_toArray->lr,filterMap_append->lu,mem_erase_of_ne->lG,length_eraseIdx->lH,filter_sublist->lV,zip_cons_cons->ma,pairwise_cons->md,foldl->mf,nodup_append->mF,getElem?_inj->mG,zipIdx_cons->mO,getElem_map->mP,ext_getElem->mQ,countP_cons->mR,cons_append->mS
open Bool renaming and_eq_true->af,false_ne_true->aJ,or_eq_true->bu,false_eq_true->dB,eq_iff_iff->dG,false_or->eQ,not_eq_true'->fm,eq_false_iff->gC,or_false->gJ,false_and->jT,and_false->jU
open Classical renaming byContradiction->ah
open PySem.PassesOwn renaming never->am
open Option.some renaming inj->aA
open PySem.Value renaming ref->aC,none->bf,type->cz,int->f8,bool->iN,isInt_shape->iY,str->mw
open Nat renaming ne_of_lt->aD,lt_of_lt_of_le->aG,mod_eq_of_lt->aW,dvd_of_mod_eq_zero->a7,mod_lt->ba,zero_le->bc,ne_of_gt->bh,le_trans->bm,lt_of_le_of_ne->bw,lt_irrefl->bV,succ_mul->cC,sub_self->cD,lt_or_ge->cF,lt_succ_self->cL,sub_zero->cW,le_of_lt->cY,add_sub_cancel->dD,not_lt_zero->dI,mod_add_mod->dJ,le_of_succ_le->dU,mul_le_mul_right->ef,le_add_right->eF,gcd->eX,zero_mul->ft,mul_comm->fu,lt_succ_of_lt->fv,lt_of_succ_lt_succ->fw,add_zero->fz,le_of_not_lt->fM,le_of_dvd->fO,min_le_left->fZ,div_le_self->f6,mul_le_mul_left->f9,le_succ->gG,add_mod_right->gH,succ_lt_succ->gU,zero_add->ig,add_comm->ii,mul_one->iD,mul_le_mul->iE,lt_trans->ji,succ_ne_zero->jB,div_eq_of_lt->jC,mul_add->jF,lt_of_mul_lt_mul_left->kc,mul_assoc->kw,add_lt_add_iff_right->kx,add_assoc->kA,zero_mod->lc,succ_pos->lf,mod_self->lh,min_self->ln,mod_eq_sub_mod->mE,lt_trichotomy->mN
open Int renaming natCast_mul->aF,natCast_emod->aZ,zero_mul->bn,mul_zero->bE,add_zero->bF,mul_emod->bR,eq_ofNat_of_zero_le->bY,emod_lt_of_pos->b8,mul_assoc->ck,mul_comm->cq,emod_nonneg->cv,zero_add->cG,mul_le_mul_of_nonneg_right->di,natCast_nonneg->dE,natCast_add->dM,natCast_ediv->eK,mul_one->fe,emod_eq_of_lt->fC,neg_mul->fU,emod_emod_of_dvd->fV,ediv_nonneg->f7,one_mul->gI,dvd_of_emod_eq_zero->gX,sub_zero->io,sub_emod->ip,sub_mul->iF,mul_sub->iG,add_mul->iH,toNat_of_nonneg->iP,dvd_refl->jj,add_mul_emod_self_right->jS,sub_self->ly,mul_add->lW,ediv_mul_cancel->mh,lt_of_lt_of_le->mH,lt_of_le_of_lt->mI
open PySem.F renaming plainAttrs_list->aK,slot_list_append->aQ,type_list_append->aT,called_set->cx,slot_tuple_iterator_next->eE,plain_list_iadd->eP,slot_enumerate_next->fN,slot_tuple_index->gS,called_tuple->ie,slot_zip_next->iw,plain_proto_collect->jr,plain_extend_loop->jE,type_tuple_index->jM,plainAttrs_tuple->jN,args_tuple_iterator_next_1->jW,plain_set_new->j8,entry_tuple_iterator_next->j9,slot_list_lt->km,args_object_init_2->ko,slot_list_insert->kQ,slot_list_extend->kS,slot_list_index->lB,slot_list_count->lC,args_enumerate_next_1->lD,entry_enumerate_next->lS
open PySem renaming Spec->aM,wpAny_callSpecial?_slot->bx,wpAny_call_entry->bG,mem_of_lookup->bI,wpAny_newObj_type->bQ,wpAny_setField_rec->bT,wpAny_field->bW,codeAny_builtin->cp,wpAny_seqItems->cw,wpAny_mono->cH,Builtin->cK,wpAny_holding->cR,Scope->cT,plainId_quiet->df,wpAny_setField->dC,wpAny_rule->dO,IsPair->dQ,wpAny_passesOwn->dW,wpAny_attempt->dY,wpAny_pyIter_enum->eh,NameKind->eO,call_meets->fo,wpAny_truthy_bool->fI,wpAny_pyIter_list->fJ,codeAny_mono->fK,sizeLine_eq->gf,wpAny_pyIter_tuple->gK,IsEnum->gN,ItemsOf->gZ,IsRangeIter->g9,wpAny_isInstance->ir,wpAny_typeOf->iy,wpAny_pyNext_range_end->iA,wpAny_pyIter_rangeiter->iB,wpAny_execs_nil->iJ,IsZip->iK,wpAny_updateSeq_pair->iW,wpAny_fieldsOf->iX,PyData->i0,BindsTo->ja,wpAny_standAt->jm,wpAny_onRaise->jo,wpAny_pyIter_range->ju,wpAny_load->jv,wpAny_Call_Name_kw->jw,tupleKind_room_in1->jx,wpAny_askSetting->jV,wpAny_of_eq->jZ,wpAny_letGo->j3,wpAny_ite_split->kf,codeAny_of_tree->kh,wpAny_runValue->kG,wpAny_newTuple->kH,wpAny_letOwnedTupleGo_enum->kI,isSubtype_type->kJ,isSubtype_stop->kK,Paired->kO,Operator->kP,Drawn->kU,wpAny_newList->lI,wpAny_comprehension_free->lJ,rangeSize_one->lK,call->lL,wpAny_Call_method_late->mq,wpAny_isTrue_Compare1->mJ,builtinLookup_eq_fast->mK
open Array renaming getElem?_eq_getElem->aO,getElem?_eq_none->cI,getD_eq_getD_getElem?->cJ,getElem?_toList->cO,size_extract->gm,perm_iff_toList_perm->jP,toArray_toList->lz,getD->lX,toList_push->mo
open PySem.Builtin.SmallTypes renaming nextOf->a5,ownedTupleIsFree->bD,ownedTupleHandOut->cr
open PyProof.Rows renaming IntsAre->a8,callWith_type1->bA,AllBare->iC,firstMet_length_le->jy,assignInOrder_cons->jA,get?_update_seq->ku,boot_range->kZ,firstMet_succ->lT,subscriptTail_builtinR->mD
open Ne renaming symm->bd
open PySem.PyData renaming int->be,canLayAll0->dH,tuple->fc,depth->fX,eqv->gO,canLay0->iq,depthAll->jp
open PySem.Heap renaming SameBut->bg,size_push->bC,get?_update_self->bJ,get?_update_other->b9,ExtBut->iu,size_update->jq,get?_push_ne->mC
open PySem.Builtin.Range renaming rangeSize->bo,small->cB,rangeFitsLong->iL
open PySem.Obj renaming data_mapFields->bH,mapSeq->cP,isFreed_of_fields->cS,cls_mapFields->gE,mapFields->gM,putSet->i6
open PySem.Around renaming under_plainId->bM
open PySem.Heap.SameBut renaming update->bO
open ForInStep renaming yield->cN
open PySem.Str renaming ofString->cV
open List.Perm renaming refl->cZ
open List.Pairwise renaming sublist->c7,imp_of_mem->dR,nil->eG,map->fS
open Nat.succ renaming inj->c8
open PySem.Builtin.List renaming listExtendWith->dh,listTooLong->dS,listLengthHint->fF,listFitsIndex->fG,listSameRef->i9
open PySem.NameKind renaming cell->dk,free->fq
open Option renaming map_some->dz,isSome_iff_exists->gt,isSome_map->lU,getD_none->l9
open PyProof.Rows.F renaming plain_set_update_loop->dF,entry_set_update_loop->gF
open PySem.SetTable renaming grown->dN,below->lZ,slot->mz,fits->mB
open False renaming elim->dX
open PySem.MeetsSeq3 renaming plain_eq_loop->eL,entry_eq_loop->jD
open PySem.Challenge renaming rw_classtab_k51_whole_turned_by_powers->eZ,pw_classtab_k51_whole_turned_by_powers->e7
open PySem.SeqAt.EqAt renaming int_int->fW,str_int->j6,int_str->j7
open PySem.Data renaming cell->gh,fields->gy
open True renaming intro->gY
open Sum renaming inl->ic,inr->jg
open Std.Legacy renaming Range->iI
open PySem.Builtin.Tuple renaming tupleItemsOf->iO,tupleExact->i7
open PySem.SeqAt renaming shaped->iZ,items_eqAt->jh,EqAt->kN,notIn_tupleAt->lA,notIn_listAt->lR,any_by_data->l7
open PySem.pickOrder renaming go->jK
open PySem.Calls renaming Name_function_global->jO,callWith_builtin->kq,evalArgs_plain->kW,call_function_entry->lE
open PySem.Paired renaming length->jQ
open PyProof renaming noPylong_small->jX
open PyProof.Rows.IsTup renaming new->ka
open PySem.IsRange renaming new->ki
open PySem.W.UpdF renaming head->kB
open PySem.Shared renaming heap->kC
open PySem.Walks renaming range->kL,list->lM
open Prod renaming fst->lF
open PySem.W.KatTups renaming cons->lQ,nil->lY
open PySem.Heap.IsTuple renaming typeIs->mM
set_option Elab.async false
set_option linter.all false
set_option maxRecDepth 100000
theorem Za {α j:Type _}{l:List α}{f:α->j}:(l.map f).length=l.length:=eV ..
theorem Zb {α:Type _}{l:List α}{i:Nat}{a:α}:l.getD i a=l[i]?.getD a:=List.getD_eq_getElem?_getD ..
theorem Zc {α j:Type _}{f:α->j}{l:List α}{i:Nat}:(l.map f)[i]?=l[i]?.map f:=List.getElem?_map ..
theorem Zd {α:Type _}{a b:List α}:(a++b).length=a.length+b.length:=List.length_append ..
theorem Ze {α:Type _}{n:Nat}{a:α}:(av n a).length=n:=cQ ..
theorem Zf {α:Type _}{l:List α}{i:Nat}(h:i<l.length):l[i]?=some l[i]:=List.getElem?_eq_getElem h
theorem Zg {n:Nat}:(ac n).length=n:=List.length_range ..
theorem Zh {α:Type _}{l:List α}:l.toArray.size=l.length:=List.size_toArray ..
theorem Zi {α:Type _}{a:α}{l:List α}:(a::l).length=l.length+1:=List.length_cons ..
theorem Zj (n:Nat):(n:Int).toNat=n:=Int.toNat_natCast n
theorem Zk {α:Type _}{a:α}:[a].length=1:=List.length_singleton ..
noncomputable abbrev Zl:=@PySem.wpAny_bind
noncomputable abbrev Zm:=@PySem.wpAny_pure
noncomputable abbrev Zn:=@PySem.Heap.get?_push_of_some
noncomputable abbrev Zo:=@PySem.Heap.get?_push_size
noncomputable abbrev Zp:=@PySem.Heap.lt_size
noncomputable abbrev Zq:=@Nat.le_refl
noncomputable abbrev Zr.{u}:=@Array.length_toList.{u}
namespace L2
open PySem PySem.Spec PyProof.Rows
noncomputable abbrev YE:=Sum Int Str
noncomputable def Zax:YE->Value->Bool
 | .inl k,v=>Value.isInt k v
 | .inr x,v=>Value.isStrOf x v
noncomputable def ZpK (w:World):YE->Int
 | .inl k=>hashInt k
 | .inr x=>hashStr w x
theorem Yv:∀{k:YE}{v:Value},Zax k v=true->(∃i t,k=ic i/\v=f8 i t)\/(∃x t,k=jg x/\v=mw x t)
 | .inl i,v,h=>by
  obtain⟨t,e⟩:=iY (k:=i) (v:=v) h;exact .inl ⟨i,t,rfl,e⟩
 | .inr x,v,h=>by
  obtain⟨t,e⟩:=Value.isStrOf_shape (x:=x) (v:=v) h;exact .inr ⟨x,t,rfl,e⟩
theorem Zf2 (i:Int)(t:Tok):Zax (.inl i) (.int i t)=true:=by simp[Zax,Value.isInt]
theorem Zf1 (x:Str)(t:Tok):Zax (.inr x) (.str x t)=true:=by simp[Zax,Value.isStrOf]
theorem ZmI (a b:Int):decide ((ic a:YE)=ic b)=(a == b):=by
 by_cases e:a=b
 ·subst e;simp
 ·have h:¬(ic a:YE)=ic b:=fun q=>e (Sum.inl.inj q)
  rw[decide_eq_false h];exact (beq_eq_false_iff_ne.mpr e).symm
theorem ZmF (a b:Str):decide ((jg a:YE)=jg b)=decide (a=b):=by
 by_cases e:a=b
 ·subst e;simp
 ·have h:¬(jg a:YE)=jg b:=fun q=>e (Sum.inr.inj q)
  rw[decide_eq_false h,decide_eq_false e]
theorem ZmH (a:Int)(b:Str):decide ((ic a:YE)=jg b)=false:=decide_eq_false (fun q=>nomatch q)
theorem ZmG (a:Str)(b:Int):decide ((jg a:YE)=ic b)=false:=decide_eq_false (fun q=>nomatch q)
noncomputable def YF (prog:Program)(w:World):PySem.KeyKind prog w YE where
 is:=Zax
 hash:=ZpK w
 inj:=fun v a b M hb=>by
  rcases Yv M with ⟨i,t,rfl,rfl⟩|⟨x,t,rfl,rfl⟩
  ·rcases Yv hb with ⟨j,u,rfl,e⟩|⟨y,u,rfl,e⟩
   ·injection e with q _;rw[q]
   ·exact nomatch e
  ·rcases Yv hb with ⟨j,u,rfl,e⟩|⟨y,u,rfl,e⟩
   ·exact nomatch e
   ·injection e with q _;rw[q]
 byValue:=fun k v h=>by
  rcases Yv h with ⟨i,t,rfl,rfl⟩|⟨x,t,rfl,rfl⟩ <;> rfl
 pyHash:=fun J h=>by
  rcases Yv J with ⟨i,t,rfl,rfl⟩|⟨x,t,rfl,rfl⟩
  ·exact wpAny_pyHash_int h
  ·exact wpAny_pyHash_str h
 eqBool:=fun O J h=>by
  rcases Yv O with ⟨i,t,rfl,rfl⟩|⟨x,t,rfl,rfl⟩
  ·rcases Yv J with ⟨j,u,rfl,rfl⟩|⟨y,u,rfl,rfl⟩
   ·rw[ZmI] at h;exact wpAny_eqBool_int h
   ·rw[ZmH] at h;exact j7 i t y u _ _ _ _ h
  ·rcases Yv J with ⟨j,u,rfl,rfl⟩|⟨y,u,rfl,rfl⟩
   ·rw[ZmG] at h;exact j6 x t j u _ _ _ _ h
   ·rw[ZmF] at h;exact wpAny_eqBool_str h
 «strs»:=fun k x t v h=>by
  rcases Yv h with ⟨i,u,rfl,e⟩|⟨y,u,rfl,e⟩
  ·exact nomatch e
  ·injection e with q _
   subst q;cases v <;> rfl
theorem ZcK (prog:Program)(w:World)(i:Int)(t:Tok):(YF prog w).is (.inl i) (.int i t)=true:=Zf2 i t
theorem ZcJ (prog:Program)(w:World)(x:Str)(t:Tok):(YF prog w).is (.inr x) (.str x t)=true:=Zf1 x t
inductive V where
 |non|bl (b:Bool)|int (i:Int)|str (x:Str)|byt (b:Array UInt8)|flt (b:UInt64)|ref (a:Addr)|ty (n:String)
 deriving DecidableEq
noncomputable def RelV:V->Value->Prop
 | .non,u=>u=bf
 | .bl b,u=>u=iN b
 | .int i,u=>∃t,u=f8 i t
 | .str x,u=>∃t,u=mw x t
 | .byt b,u=>∃t,u=Value.bytes b t
 | .flt b,u=>∃t,u=Value.float b t
 | .ref a,u=>u=aC a
 | .ty n,u=>u=cz n
noncomputable abbrev ZP:List V->List Value->Prop:=kO RelV
theorem ZP.length {xs:List V}{us:List Value}(r:ZP xs us):xs.length=us.length:=jQ r
theorem ZP.get:∀{xs:List V}{us:List Value}{i:Nat}{x:V},ZP xs us->xs[i]?=some x->∃u,us[i]?=some u/\RelV x u
 |_,_,_,_,.nil,e=>by simp at e
 |_,_,0,_,.cons r _,e=>by simp at e;subst e;exact⟨_,rfl,r⟩
 |_,_,i+1,x,.cons _ t,e=>by
  obtain⟨u,j,q⟩:=ZP.get (i:=i) (x:=x) t (by simpa using e);exact⟨u,by simpa using j,q⟩
theorem ZP.set {x:V}{u:Value}(r:RelV x u):∀{xs:List V}{us:List Value} (i:Nat),ZP xs us->ZP (xs.set i x) (us.set i u)
 |_,_,_,.nil=>.nil
 |_,_,0,.cons _ t=>.cons r t
 |_,_,i+1,.cons q t=>.cons q (ZP.set r i t)
theorem ZP.append:∀{xs ys:List V}{us j:List Value},ZP xs us->ZP ys j->ZP (xs++ys) (us++j)
 |_,_,_,_,.nil,s=>s
 |_,_,_,_,.cons r t,s=>.cons r (ZP.append t s)
theorem ZP.take:∀{xs:List V}{us:List Value} (n:Nat),ZP xs us->ZP (xs.take n) (us.take n)
 |_,_,0,_=>.nil
 |_,_,_+1,.nil=>.nil
 |_,_,n+1,.cons r t=>.cons r (ZP.take n t)
theorem ZP.drop:∀{xs:List V}{us:List Value} (n:Nat),ZP xs us->ZP (xs.drop n) (us.drop n)
 |_,_,0,r=>r
 |_,_,_+1,.nil=>.nil
 |_,_,n+1,.cons _ t=>ZP.drop n t
noncomputable def Zac:Option V->Option Value->Prop
 |some v,some u=>RelV v u
 |none,none=>True
 |_,_=>False
noncomputable def KV {j:Type}:List (j×V)->List (j×Value)->Prop:=kO fun (p:j×V) (q:j×Value)=>p.1=q.1/\RelV p.2 q.2
noncomputable def kV:YE->V
 | .inl i=>.int i
 | .inr x=>.str x
inductive HO where
 |lst (xs:List V)
 |tup (xs:List V)
 |dK (kvs:List (YE×V))|dT (kvs:List (List YE×V))
 |set (S:Int->Bool) (n:Nat)
 |ins (C dx:Addr) (fs:List (Str×V))
 |own (x:Addr)
 |xd (fs:List (Str×V))
 |met (f x:Addr)
 |rng (lo hi:Int)
 |frz (o:Obj) (u:HO)
 |tbl (ps:Array Value)
 |ext (φ:Heap->Prop)
noncomputable abbrev Hp:=Addr->Option HO
noncomputable def upd (H:Hp)(a:Addr)(o:HO):Hp:=fun b=>if b=a then some o else H b
theorem Zt {H:Hp}{a:Addr}{o:HO}:upd H a o a=some o:=by unfold upd;rw[if_pos rfl]
theorem Zz {H:Hp}{a b:Addr}{o:HO}(h:b≠a):upd H a o b=H b:=by unfold upd;rw[if_neg h]
theorem Zjj {H:Hp}{a:Addr}{o u:HO}:upd (upd H a o) a u=upd H a u:=by
 funext b;unfold upd;split <;> rfl
theorem Zh8 {H:Hp}{a b:Addr}{o u:HO}(h:H a=some o)(h':H b=some u)(d:o≠u):a≠b:=by
 intro e;subst e;rw[h] at h';exact d (aA h')
theorem Yj {H:Hp}{a b:Addr}{o:HO}(h:H a=some o)(h':H b=none):a≠b:=by
 intro e;subst e;rw[h] at h';cases h'
section
variable (P:Program)(w:World)
noncomputable def YD (H:Hp)(h:Heap)(a:Addr):HO->Prop
 | .lst M=>M.length<=sizeLine/\∃(j:List Value) (n:Nat),ZP M j/\h.get? a=some {cls:=.type "list",data:=.seq j.toArray n}
 | .tup M=>M.length<=sizeLine/\∃j:List Value,ZP M j/\IsTup h a j.toArray
 | .dK J=>J.length<=sizeLine/\(a == sysModules)=false/\∃vs,KV J vs/\h.DictOf (YF P w) a vs
 | .dT J=>J.length<=sizeLine/\(a == sysModules)=false/\∃M:List (List YE×Addr×Value),
   kO (fun (p:List YE×V) (q:List YE×Addr×Value)=>p.1=q.1/\H q.2.1=some (.tup (p.1.map kV))/\RelV p.2 q.2.2) J M/\
   ∃o es ep,h.get? a=some o/\o.ExactDict/\o.data=.dict es ep/\es.toList=M.map (entryOfKey (tupleKind (YF P w)))/\(M.map (·.1)).Nodup
 | .set S n=>h.SetOf (intKind P w) a S n
 | .ins C Y fs=>H Y=some (.own a)/\fs.length<=1000/\Y≠a/\h.get? a=some (PySem.W.instObj C Y)/\
   ∃O,h.Ns1 Y O/\(∀f,Zac (fs.lookup f) (O f))/\PySem.Within O (fs.map (·.1))
 | .own _=>∃o,h.get? a=some o
 | .xd fs=>∃O,h.Ns1 a O/\∀f,Zac (fs.lookup f) (O f)
 | .rng lo hi=>∃t u v,h.get? a=some {cls:=.type "range",data:=.fields #[.int lo t,.int hi u,.int 1 v]}
 | .frz o u=>h.get? a=some o/\YD H h a u
 | .tbl ps=>h.get? a=some {cls:=.none,data:=.fields ps}
 | .met f x=>h.get? a=some (iM (.ref f) (.ref x))
 | .ext φ=>φ h/\(∃o,h.get? a=some o)/\∀h1 h2:Heap,φ h1->(∀o,h1.get? a=some o->h2.get? a=some o)->φ h2
noncomputable def Vb (H:Hp)(h:Heap):Prop:=∀a o,H a=some o->YD P w H h a o
end
section
variable {P:Program}{w:World}{H H':Hp}{h h':Heap}{a:Addr}{o:HO}
theorem YD.lt (x:YD P w H h a o):a<h.objs.size:=by
 cases o with
 |lst q=>obtain⟨_,_,_,_,e⟩:=x;exact Zp e
 |tup q=>obtain⟨_,_,_,p⟩:=x;exact p.lt
 |dK j=>obtain⟨_,_,_,_,o,_,_,e,_⟩:=x;exact Zp e
 |dT j=>obtain⟨_,_,_,_,o,_,_,e,_⟩:=x;exact Zp e
 |set S n=>obtain⟨o,_,_,_,e,_⟩:=x;exact Zp e
 |ins C J fs=>obtain⟨_,_,_,e,_⟩:=x;exact Zp e
 |own y=>obtain⟨_,e⟩:=x;exact Zp e
 |xd fs=>obtain⟨_,⟨_,_,_,e,_⟩,_⟩:=x;exact Zp e
 |rng lo M=>obtain⟨_,_,_,e⟩:=x;exact Zp e
 |frz O u=>obtain⟨e,_⟩:=x;exact Zp e
 |tbl Y=>exact Zp (show h.get? a=some _ from x)
 |met f y=>exact Zp (show h.get? a=some _ from x)
 |ext φ=>obtain⟨_,⟨_,e⟩,_⟩:=x;exact Zp e
theorem kO.mapP {α J:Type}{F G:α->J->Prop}:∀{j:List α}{q:List J},kO F j q->(∀a b,F a b->G a b)->kO G j q
 |_,_,.nil,_=>.nil
 |_,_,.cons r t,f=>.cons (f _ _ r) (kO.mapP t f)
theorem YD.stay (x:YD P w H h a o)(k:∀b u,(b=a\/H b=some (.own a))->h.get? b=some u->h'.get? b=some u)
  (ho:∀b,H b=some (.own a)->H' b=some (.own a)) (ht:∀b xs,H b=some (.tup xs)->H' b=some (.tup xs)):YD P w H' h' a o:=by
 induction o with
 |lst xs=>obtain⟨z,O,n,r,e⟩:=x;exact⟨z,O,n,r,k _ _ (.inl rfl) e⟩
 |tup xs=>obtain⟨z,O,r,j,e,c⟩:=x;exact⟨z,O,r,j,k _ _ (.inl rfl) e,c⟩
 |dK Y=>obtain⟨z,y,vs,r,j,J,M,e,c⟩:=x;exact⟨z,y,vs,r,j,J,M,k _ _ (.inl rfl) e,c⟩
 |dT Y=>
  obtain⟨z,y,xs,r,j,J,M,e,c⟩:=x;exact⟨z,y,xs,kO.mapP r fun p q z=>⟨z.1,ht _ _ z.2.1,z.2.2⟩,j,J,M,k _ _ (.inl rfl) e,c⟩
 |set S n=>obtain⟨j,J,M,t,e,c⟩:=x;exact⟨j,J,M,t,k _ _ (.inl rfl) e,c⟩
 |ins C dx fs=>
  obtain⟨d,z,ne,e,mA,⟨od,J,M,e2,c⟩,r⟩:=x;exact⟨ho _ d,z,ne,k _ _ (.inl rfl) e,mA,⟨od,J,M,k _ _ (.inr d) e2,c⟩,r⟩
 |own y=>obtain⟨j,e⟩:=x;exact⟨j,k _ _ (.inl rfl) e⟩
 |xd fs=>obtain⟨mA,⟨od,J,M,e,c⟩,r⟩:=x;exact⟨mA,⟨od,J,M,k _ _ (.inl rfl) e,c⟩,r⟩
 |rng lo hi=>obtain⟨t,u,v,e⟩:=x;exact⟨t,u,v,k _ _ (.inl rfl) e⟩
 |frz j u ih=>obtain⟨e,q⟩:=x;exact⟨k _ _ (.inl rfl) e,ih q⟩
 |tbl ps=>
  have e:h.get? a=some {cls:=.none,data:=.fields ps}:=x;show h'.get? a=some {cls:=.none,data:=.fields ps};exact k a _ (.inl rfl) e
 |met f y=>
  have e:h.get? a=some (iM (.ref f) (.ref y)):=x;show h'.get? a=some (iM (.ref f) (.ref y));exact k a _ (.inl rfl) e
 |ext φ=>obtain⟨p,⟨o,e⟩,st⟩:=x;exact⟨st _ _ p fun o q=>k _ _ (.inl rfl) q,⟨o,k _ _ (.inl rfl) e⟩,st⟩
theorem Vb.lt (x:Vb P w H h)(e:H a=some o):a<h.objs.size:=(x a o e).lt
theorem Vb.fresh (x:Vb P w H h)(e:h.objs.size<=a):H a=none:=by
 cases q:H a with
 |none=>rfl
 |some u=>exact absurd (aG (x.lt q) e) (bV _)
theorem Vb.kept (x:Vb P w H h)(k:∀b u,h.get? b=some u->h'.get? b=some u):Vb P w H h':=fun a o e=>
 (x a o e).stay (fun b u _ q=>k b u q) (fun _ q=>q) fun _ _ q=>q
theorem Vb.laid (x:Vb P w H h)(k:∀b u,h.get? b=some u->h'.get? b=some u)(M:h.objs.size<=a)(j:YD P w (upd H a o) h' a o):Vb P w (upd H a o) h':=fun b u e=>by
 have J:=x.fresh M;by_cases hb:b=a
 ·subst hb;rw[Zt] at e;cases e;exact j
 ·rw[Zz hb] at e
  exact (x b u e).stay (fun c v _ q=>k c v q) (fun c q=>by rw[Zz (Yj q J)];exact q) fun c O q=>by rw[Zz (Yj q J)];exact q
end
noncomputable def Rd (H:Hp)(a:Addr)(u:HO):Prop:=H a=some u\/∃o,H a=some (.frz o u)
theorem Rd.ok {P:Program}{w:World}{H:Hp}{h:Heap}{a:Addr}{u:HO}(r:Rd H a u)(x:Vb P w H h):YD P w H h a u:=by
 rcases r with r|⟨o,r⟩
 ·exact x a u r
 ·obtain⟨_,q⟩:=x a _ r
  exact q
noncomputable def Mut:Option HO->Prop
 |some (.lst _)=>True
 |some (.dK _)=>True
 |some (.dT _)=>True
 |some (.set _ _)=>True
 |some (.ins _ _ _)=>True
 |some (.ext _)=>True
 |_=>False
section
variable {P:Program}{w:World}{H:Hp}{h h':Heap}{x e:Addr}{o':HO}
theorem Vb.write (ok:Vb P w H h)(O:Mut (H x))(he:e=x\/H e=some (.own x))(k:∀b u,b≠e->h.get? b=some u->h'.get? b=some u)(m5:∃u,h'.get? e=some u)
  (m6:YD P w (upd H x o') h' x o'):Vb P w (upd H x o') h':=fun b u q=>by
 have J:∀c y,H c=some (.own y)->c≠x:=fun c y r z=>by subst z;rw[r] at O;exact O
 have M:∀c Y,H c=some (.tup Y)->c≠x:=fun c Y r z=>by subst z;rw[r] at O;exact O
 by_cases hb:b=x
 ·subst hb;rw[Zt] at q;cases q;exact m6
 ·rw[Zz hb] at q
  by_cases j:b=e
  ·have q':H b=some (.own x):=by
    rcases he with z|z
    ·exact absurd (j.trans z) hb
    ·rw[j];exact z
   rw[q] at q';cases q';obtain⟨v,hv⟩:=m5;exact⟨v,by rw[j];exact hv⟩
  ·refine (ok b u q).stay (fun c v hc r=>k c v ?_ r) (fun c r=>by rw[Zz (J c b r)];exact r) fun c Y r=>by rw[Zz (M c Y r)];exact r
   rcases hc with rfl|hc
   ·exact j
   ·rintro rfl
    rcases he with z|z
    ·exact J c b hc z
    ·rw[hc] at z;cases z;exact hb rfl
end
structure Un (fs ex:List Addr)(H H':Hp)(h h':Heap):Prop where
 keep:∀b o,h.get? b=some o->H b=none->b∉fs->b∉ex->h'.get? b=some o
 slot:∀b o,h.get? b=some o->H b=none->b∈fs->b∉ex->∃sl,h'.get? b=some {o with slots:=sl}
 free:∀b o,h.get? b=some o->H b=none->b∉ex->H' b=none
 there:∀b o,h.get? b=some o->b∉ex->∃o',h'.get? b=some o'
 tups:∀b xs,H b=some (.tup xs)->H' b=some (.tup xs)
 frzs:∀b o u,H b=some (.frz o u)->H' b=some (.frz o u)
 tbls:∀b ps,H b=some (.tbl ps)->∃more,H' b=some (.tbl (ps++more))
section
variable {fs fs' ex ex':List Addr}{H H1 H2:Hp}{h h1 h2 h':Heap}{a x e:Addr}{o:HO}
theorem Un.any (u:Un fs ex H H1 h h1){b:Addr}{j:Obj}(q:h.get? b=some j)(n:H b=none)(J:b∉ex):∃M,h1.get? b=some {j with slots:=M}:=by
 by_cases hb:b∈fs
 ·exact u.slot b j q n hb J
 ·exact⟨j.slots,u.keep b j q n hb J⟩
theorem Un.kept (k:∀b u,h.get? b=some u->h'.get? b=some u):Un fs ex H H h h':=
 ⟨fun b j q _ _ _=>k b j q,fun b j q _ _ _=>⟨j.slots,k b j q⟩,fun _ _ _ n _=>n,fun b j q _=>⟨j,k b j q⟩,fun _ _ q=>q,fun _ _ _ q=>q,fun _ J q=>⟨#[],by rw[q];simp⟩⟩
theorem Un.refl:Un fs ex H H h h:=Un.kept fun _ _ q=>q
theorem Un.laid (k:∀b u,h.get? b=some u->h'.get? b=some u)(J:h.objs.size<=a)(j:H a=none):Un fs ex H (upd H a o) h h' where
 keep:=fun b u q _ _ _=>k b u q
 slot:=fun b u q _ _ _=>⟨u.slots,k b u q⟩
 free:=fun b u q n _=>by rw[Zz (aD (aG (Zp q) J))];exact n
 there:=fun b u q _=>⟨u,k b u q⟩
 tups:=fun b M q=>by rw[Zz (Yj q j)];exact q
 frzs:=fun b u M q=>by rw[Zz (Yj q j)];exact q
 tbls:=fun b O q=>⟨#[],by rw[Zz (Yj q j),q];simp⟩
theorem Un.write (J:Mut (H x))(he:e=x\/H e=some (.own x))(k:∀b u,b≠e->h.get? b=some u->h'.get? b=some u)(M:∃u,h'.get? e=some u):Un fs ex H (upd H x o) h h':=by
 have Y:∀b,H b=none->b≠x:=fun b n z=>by subst z;rw[n] at J;exact J
 have hb:∀b,H b=none->b≠e:=fun b n z=>by
  subst z;rcases he with r|r
  ·exact Y b n r
  ·rw[n] at r;cases r
 have O:∀b u,H b=some u->¬Mut (some u)->b≠x:=fun b u q nm z=>by subst z;rw[q] at J;exact nm J
 refine⟨fun b u q n _ _=>k b u (hb b n) q,fun b u q n _ _=>⟨u.slots,k b u (hb b n) q⟩,fun b u q n _=>by rw[Zz (Y b n)];exact n,fun b u q _=>?_,
  fun b xs q=>by rw[Zz (O b _ q fun z=>z)];exact q,fun b u xs q=>by rw[Zz (O b _ q fun z=>z)];exact q,fun b ps q=>⟨#[],by rw[Zz (O b _ q fun z=>z),q];simp⟩⟩
 by_cases j:b=e
 ·subst j;exact M
 ·exact⟨u,k b u j q⟩
end
noncomputable def trk (h:Heap)(H:Hp):List Addr:=(ac h.objs.size).filter fun a=>(H a).isSome
noncomputable def ZbE (h:Heap)(H:Hp):Heap:=PySem.W.hideAll h (trk h H)
theorem Zf6 (h:Heap)(H:Hp):(ZbE h H).objs.size=h.objs.size:=PySem.W.hideAll_size _ _
theorem Ziu {h:Heap}{H:Hp}{b:Addr}{o:Obj}(e:h.get? b=some o)(n:H b=none):(ZbE h H).get? b=some o:=
 PySem.W.hideAll_get _ e fun j=>by
  have q:(H b).isSome=true:=(eR.mp j).2;rw[n] at q;simp at q
theorem Zkd {h:Heap}{H:Hp}{b:Addr}{o:Obj}(e:(ZbE h H).get? b=some o):h.get? b=some o/\H b=none:=by
 have j:h.get? b=some o:=PySem.W.of_hideAll (trk h H) e;refine⟨j,?_⟩;cases q:H b with
 |none=>rfl
 |some x=>
  have J:b∈trk h H:=eR.mpr ⟨ag.mpr (Zp j),by simp[q]⟩;have z:(ZbE h H).get? b=none:=PySem.W.hideAll_none (trk h H) J;rw[z] at e;cases e
structure Mod (K:aa)(mg:Str->Option Value)(base:Heap):Prop where
 kin:K.In base
 glob:base.Ns mainGlobals mg
 blt:∃mb,base.Ns builtinsNs mb/\∀x:Str,x ≠ "__name__"->mb x=bootBuiltins x
 nolimit:base.NoLimit
structure Cx where
 prog:Program
 w:World
 K:aa
 mg:Str->Option Value
 base:Heap
 A:Around
 N:List Str
 s₀:Shared
 H₀:Hp
 env:Env
 outer:List Env
 stack:List Env
 ex:List Addr
 fn:Str->Bool
 calm:Bool
 pn:List (Addr×Obj)
 xe:Value->Shared->Prop
noncomputable def frs (l:List Env):List Addr:=l.filterMap (·.frame)
noncomputable abbrev Cx.fs (X:Cx):List Addr:=frs X.outer
noncomputable def Vis (j:cT)(x:Str):Prop:=j.names.lookup x=some .local\/j.names.lookup x=some .cell\/j.names.lookup x=some .free
noncomputable def Loc (j:cT)(x:Str):Prop:=j.names.lookup x=some .local\/j.names.lookup x=some .cell
noncomputable def Look (env:Env)(h:Heap)(m:Str->Option Value)(x:Str)(u:Value):Prop:=
 (env.kindOf x=some .local/\m x=some u)\/((env.kindOf x=some .cell\/env.kindOf x=some .free)/\∃c,env.cells.lookup x=some c/\h.IsCell c (some u))
structure Cx.Ok (X:Cx):Prop where
 mod:Mod X.K X.mg X.base
 kind:X.env.scope.kind=.function
 glob:X.env.globals=mainGlobals
 blt:X.env.builtins=builtinsNs
 above:X.s₀.heap.objs.size<=X.env.locals
 inj:∀x y c,X.env.cells.lookup x=some c->X.env.cells.lookup y=some c->x=y
 has:∀x,(X.env.kindOf x=some .cell\/X.env.kindOf x=some .free)->∃c,X.env.cells.lookup x=some c
 cab:∀x c,X.fn x=true->X.env.cells.lookup x=some c->X.s₀.heap.objs.size<=c
 hd:X.calm=true->X.A.handled=none
 frames:X.A.frames=some X.stack
 stk:X.stack=X.outer\/(X.stack=X.env::X.outer/\X.env.frame=some X.env.locals)
 exf:∀b∈X.ex,b≠X.env.locals/\∀x c,X.env.cells.lookup x=some c->c≠b
 bs:∀b o,X.base.get? b=some o->X.s₀.heap.get? b=some o/\X.H₀ b=none
 bsz:X.base.objs.size<=X.s₀.heap.objs.size
 noex:∀b o,X.base.get? b=some o->b∉X.ex
 exfs:∀b∈X.ex,b∉X.fs
 funs:X.s₀.heap.FunFrames X.base X.outer
 frf:∀b∈X.fs,X.H₀ b=none
structure Inv (X:Cx)(pins:List (Addr×Obj))(σ:List (Option V))(H:Hp)(s:Shared):Prop where
 ok:X.Ok
 os:s.os=X.s₀.os
 bare:iC s.gens
 base:Un X.fs X.ex X.H₀ H X.s₀.heap s.heap
 loc:∃m,s.heap.Ns X.env.locals m/\∀(i:Nat) (x:Str) (v:V),X.N[i]?=some x->σ[i]?=some (some v)->Vis X.env.scope x->∃u,RelV v u/\Look X.env s.heap m x u
 cell:∀x c,X.env.cells.lookup x=some c->∃v,s.heap.IsCell c v
 free:H X.env.locals=none
 freeC:∀x c,X.env.cells.lookup x=some c->H c=none
 pin:∀p∈X.pn++pins,s.heap.get? p.1=some p.2/\H p.1=none/\p.1≠X.env.locals/\p.1∉X.fs/\∀v,p.2.data≠.cell v
 hok:Vb X.prog X.w H s.heap
 len:σ.length=X.N.length
section
variable {X:Cx}{pins:List (Addr×Obj)}{σ:List (Option V)}{H H':Hp}{s:Shared}{h':Heap}
theorem Cx.Ok.nofr (ok:X.Ok){b:Addr}{o:Obj}(e:X.base.get? b=some o):b∉X.fs:=fun hb=>by
 have:=(ok.funs.mem hb).1;rw[e] at this;cases this
theorem Inv.bs (I:Inv X pins σ H s):∀b o,X.base.get? b=some o->s.heap.get? b=some o/\H b=none:=fun b o e=>
 ⟨I.base.keep b o (I.ok.bs b o e).1 (I.ok.bs b o e).2 (I.ok.nofr e) (I.ok.noex b o e),I.base.free b o (I.ok.bs b o e).1 (I.ok.bs b o e).2 (I.ok.noex b o e)⟩
theorem Inv.bk (I:Inv X pins σ H s):∀b o,X.base.get? b=some o->s.heap.get? b=some o:=fun b o e=>(I.bs b o e).1
theorem Inv.mod (I:Inv X pins σ H s):Mod X.K X.mg X.base:=I.ok.mod
theorem Inv.kIn (I:Inv X pins σ H s):X.K.In s.heap:=I.ok.mod.kin.keeps I.bk
theorem Inv.lt (I:Inv X pins σ H s):X.env.locals<s.heap.objs.size:=let ⟨_,j,_⟩:=I.loc;j.lt
theorem Inv.sz (I:Inv X pins σ H s):X.s₀.heap.objs.size<=s.heap.objs.size:=bm I.ok.above (cY I.lt)
theorem Inv.nofs (I:Inv X pins σ H s){a:Addr}(h:s.heap.objs.size<=a):a∉X.fs:=fun hb=>by
 obtain⟨_,o,j,_⟩:=I.ok.funs.mem hb;exact absurd (aG (Zp j) (bm I.sz h)) (bV _)
theorem Inv.cne (I:Inv X pins σ H s):∀x c,X.env.cells.lookup x=some c->c≠X.env.locals:=fun x c e z=>by
 obtain⟨v,o,J,hd⟩:=I.cell x c e;obtain⟨m,⟨M,O,Y,j,q,_⟩,_⟩:=I.loc;rw[z,j] at J;cases J;rw[q] at hd;cases hd
theorem Inv.funs (I:Inv X pins σ H s):s.heap.FunFrames X.base X.outer:=by
 have all:∀(l:List Env),(∀b∈frs l,b∈X.fs)->X.s₀.heap.FunFrames X.base l->s.heap.FunFrames X.base l:=by
  intro l;induction l with
  |nil=>intro _ _;trivial
  |cons env r J=>
   intro q M;obtain⟨O,⟨L,o,hf,Y,ho,hd⟩,hr⟩:=M;have j:L∈X.fs:=q L (by unfold frs;rw[cf,hf];exact ax);obtain⟨sl,e⟩:=I.base.slot L o ho (I.ok.frf L j) j fun z=>I.ok.exfs L z j;exact⟨O,⟨L,_,hf,Y,e,hd⟩,J (fun b hb=>q b (by unfold frs;rw[cf,hf];exact aq _ hb)) hr⟩
 exact all X.outer (fun _ hb=>hb) I.ok.funs
theorem Inv.stack (I:Inv X pins σ H s):s.heap.FunFrames X.base X.stack:=by
 rcases I.ok.stk with e|⟨e,hf⟩
 ·rw[e];exact I.funs
 ·rw[e]
  obtain⟨m,j,_⟩:=I.loc;refine .cons (by rw[I.ok.kind];decide) hf j ?_ I.funs;exact Heap.get?_none_of_le (bm I.ok.bsz I.ok.above)
theorem Inv.stkSub (I:Inv X pins σ H s):∀b∈frs X.stack,b∈X.env.locals::X.fs:=fun b hb=>by
 rcases I.ok.stk with e|⟨e,hf⟩
 ·rw[e] at hb;exact aq _ hb
 ·rw[e] at hb
  unfold frs at hb;rw[cf,hf] at hb;exact hb
theorem Inv.stkFree (I:Inv X pins σ H s):∀b∈frs X.stack,H b=none:=fun b hb=>by
 rcases aH.mp (I.stkSub b hb) with e|hb
 ·rw[e];exact I.free
 ·obtain⟨_,o,j,_⟩:=I.ok.funs.mem hb
  exact I.base.free b o j (I.ok.frf b hb) fun z=>I.ok.exfs b z hb
theorem Inv.step {g':Array GenState}{t':Nat}{d':kU}{ch:List Addr}(I:Inv X pins σ H s)
  (J:∀b∈ch,(b∈X.ex\/X.s₀.heap.objs.size<=b)/\b≠X.env.locals/\(∀x c,X.env.cells.lookup x=some c->c≠b)/\∀p∈X.pn++pins,p.1≠b)
  (keep:∀b o,b≠X.env.locals->b∉X.fs->b∉ch->s.heap.get? b=some o->H b=none->h'.get? b=some o)
  (slot:∀b o,b≠X.env.locals->b∈X.fs->b∉ch->s.heap.get? b=some o->H b=none->∃sl,h'.get? b=some {o with slots:=sl}) (free:∀b o,b∉ch->s.heap.get? b=some o->H b=none->H' b=none)
  (there:∀b o,b∉ch->s.heap.get? b=some o->∃o',h'.get? b=some o')
  (m5:∀b xs,H b=some (.tup xs)->H' b=some (.tup xs)) (m6:∀b o u,H b=some (.frz o u)->H' b=some (.frz o u)) (m8:∀b ps,H b=some (.tbl ps)->∃n6,H' b=some (.tbl (ps++n6)))
  (ns:∀m,s.heap.Ns X.env.locals m->h'.Ns X.env.locals m) (hok:Vb X.prog X.w H' h') (hg:iC g') :
  Inv X pins σ H' {s with heap:=h',gens:=g',drawn:=d',toks:=t'}:=by
 have n8:∀b o,X.s₀.heap.get? b=some o->b≠X.env.locals:=fun b o e=>aD (aG (Zp e) I.ok.above);have neC:∀b o,X.s₀.heap.get? b=some o->b∉X.ex->b∉ch:=fun b o e j hb=>by
  rcases (J b hb).1 with z|z
  ·exact j z
  ·exact absurd (aG (Zp e) z) (bV _)
 have M:∀x c,X.env.cells.lookup x=some c->∀v,s.heap.IsCell c v->h'.IsCell c v:=fun x c e v ⟨o,ho,hd⟩=>by
  have O:c∉ch:=fun z=>(J c z).2.2.1 x c e rfl;by_cases hc:c∈X.fs
  ·obtain⟨sl,q⟩:=slot c o (I.cne x c e) hc O ho (I.freeC x c e)
   exact⟨_,q,hd⟩
  ·exact⟨o,keep c o (I.cne x c e) hc O ho (I.freeC x c e),hd⟩
 refine⟨I.ok,I.os,hg,⟨fun b o e n hb j=>?_,fun b o e n hb j=>?_,fun b o e n j=>?_,fun b o e j=>?_,fun b xs e=>m5 b xs (I.base.tups b xs e),fun b o xs e=>m6 b o xs (I.base.frzs b o xs e),fun b ps e=>?_⟩,?_,fun x c e=>?_,?_,fun x c e=>?_,fun p hp=>?_,hok,I.len⟩
 ·exact keep b o (n8 b o e) hb (neC b o e j) (I.base.keep b o e n hb j) (I.base.free b o e n j)
 ·obtain⟨sl,Y⟩:=I.base.slot b o e n hb j
  obtain⟨n9,e2⟩:=slot b _ (n8 b o e) hb (neC b o e j) Y (I.base.free b o e n j);exact⟨n9,e2⟩
 ·obtain⟨o',Y⟩:=I.base.there b o e j
  exact free b o' (neC b o e j) Y (I.base.free b o e n j)
 ·obtain⟨o',Y⟩:=I.base.there b o e j
  exact there b o' (neC b o e j) Y
 ·obtain⟨m1,Y⟩:=I.base.tbls b ps e
  obtain⟨m2,e2⟩:=m8 b _ Y;exact⟨m1++m2,by rw[e2,Array.append_assoc]⟩
 ·obtain⟨m,hn,hl⟩:=I.loc
  refine⟨m,ns m hn,fun i x v Y e2 e3=>?_⟩;obtain⟨u,r,l⟩:=hl i x v Y e2 e3;refine⟨u,r,?_⟩;rcases l with l|⟨k,c,e,z⟩
  ·exact .inl l
  ·exact .inr ⟨k,c,e,M x c e _ z⟩
 ·obtain⟨v,z⟩:=I.cell x c e
  exact⟨v,M x c e v z⟩
 ·obtain⟨m,⟨o,_,_,ho,_⟩,_⟩:=I.loc
  exact free _ o (fun z=>(J _ z).2.1 rfl) ho I.free
 ·obtain⟨v,o,ho,hd⟩:=I.cell x c e
  exact free c o (fun z=>(J c z).2.2.1 x c e rfl) ho (I.freeC x c e)
 ·obtain⟨e,n,ne,nf,d⟩:=I.pin p hp
  have O:p.1∉ch:=fun z=>(J p.1 z).2.2.2 p hp rfl;exact⟨keep p.1 p.2 ne nf O e n,free p.1 p.2 O e n,ne,nf,d⟩
theorem Inv.un {t':Nat}(I:Inv X pins σ H s)(u:Un X.fs [] H H' s.heap h')(q:Vb X.prog X.w H' h'):Inv X pins σ H' {s with heap:=h',toks:=t'}:=by
 obtain⟨m,⟨o,es,ep,O,r⟩,_⟩:=id I.loc;obtain⟨sl,Y⟩:=u.any O I.free (by simp);exact I.step (g':=s.gens) (d':=s.drawn) (ch:=[]) (fun _ z=>nomatch z) (fun b o _ hb _ e n=>u.keep b o e n hb (by simp)) (fun b o _ hb _ e n=>u.slot b o e n hb (by simp)) (fun b o _ e n=>u.free b o e n (by simp)) (fun b o _ e=>u.there b o e (by simp)) u.tups u.frzs u.tbls (fun m' hm=>by
  obtain⟨o',J,M,j,r'⟩:=hm;rw[O] at j;cases j;exact⟨_,J,M,Y,r'⟩) q I.bare
theorem Inv.call {g':Array GenState}{t':Nat}{d':kU}{ch:List Addr}(I:Inv X pins σ H s)(u:Un (frs X.stack) ch H H' s.heap h')(M:Vb X.prog X.w H' h')(hg:iC g')
  (q:∀b∈ch,(b∈X.ex\/X.s₀.heap.objs.size<=b)/\b≠X.env.locals/\(∀x c,X.env.cells.lookup x=some c->c≠b)/\∀p∈X.pn++pins,p.1≠b) :
  Inv X pins σ H' {s with heap:=h',gens:=g',drawn:=d',toks:=t'}:=by
 obtain⟨m,⟨o,es,ep,ho,r⟩,_⟩:=id I.loc;obtain⟨sl,O⟩:=u.any ho I.free fun z=>(q _ z).2.1 rfl;exact I.step (ch:=ch) q (fun b o O hb j e n=>u.keep b o e n (fun z=>(aH.mp (I.stkSub b z)).elim O hb) j) (fun b o _ _ j e n=>u.any e n j) (fun b o j e n=>u.free b o e n j) (fun b o j e=>u.there b o e j) u.tups u.frzs u.tbls (fun m' hm=>by
  obtain⟨o',Y,m5,J,r'⟩:=hm;rw[ho] at J;cases J;exact⟨_,Y,m5,O,r'⟩) M hg
theorem Inv.turned {t':Nat}{it:Addr}(I:Inv X pins σ H s)(k:∀b o,b≠it->s.heap.get? b=some o->h'.get? b=some o)(O:H it=none)(M:it≠X.env.locals)
  (Y:it∈X.ex\/X.s₀.heap.objs.size<=it) (h2:∀x c,X.env.cells.lookup x=some c->c≠it) (h3:∀p∈X.pn++pins,p.1≠it):Inv X pins σ H {s with heap:=h',toks:=t'}:=by
 have J:∀b u,H b=some u->b≠it:=fun b u e z=>by rw[z,O] at e;cases e
 refine I.step (g':=s.gens) (d':=s.drawn) (ch:=[it]) (fun b hb=>?_) (fun b o _ _ j e _=>k b o (fun z=>j (by simp[z])) e) (fun b o _ _ j e _=>⟨o.slots,k b o (fun z=>j (by simp[z])) e⟩) (fun _ _ _ _ n=>n)
  (fun b o j e=>⟨o,k b o (fun z=>j (by simp[z])) e⟩) (fun _ _ e=>e) (fun _ _ _ e=>e) (fun b ps e=>⟨#[],by rw[e];simp⟩) (fun m hm=>?_) (fun b u e=>?_) I.bare
 ·have e:b=it:=by simpa using hb
  subst e;exact⟨Y,M,h2,h3⟩
 ·obtain⟨o,es,ep,ho,r⟩:=hm
  exact⟨o,es,ep,k _ o (bd M) ho,r⟩
 ·refine (I.hok b u e).stay (fun c v j q=>k c v ?_ q) (fun _ q=>q) fun _ _ q=>q
  rcases j with z|z
  ·rw[z];exact J b u e
  ·exact J c _ z
theorem Inv.tok (I:Inv X pins σ H s)(t:Nat):Inv X pins σ H {s with toks:=t}:=I.un (h':=s.heap) (t':=t) Un.refl I.hok
theorem Inv.kept {t':Nat}(I:Inv X pins σ H s)(k:∀b u,s.heap.get? b=some u->h'.get? b=some u):Inv X pins σ H {s with heap:=h',toks:=t'}:=I.un (Un.kept k) (I.hok.kept k)
theorem Inv.laid {a:Addr}{o:HO}{t':Nat}(I:Inv X pins σ H s)(k:∀b u,s.heap.get? b=some u->h'.get? b=some u)(j:s.heap.objs.size<=a)(q:YD X.prog X.w (upd H a o) h' a o) :
  Inv X pins σ (upd H a o) {s with heap:=h',toks:=t'}:=I.un (Un.laid k j (I.hok.fresh j)) (I.hok.laid k j q)
theorem Inv.write {x e:Addr}{o:HO}{t':Nat}(I:Inv X pins σ H s)(J:Mut (H x))(M:e=x\/H e=some (.own x))(k:∀b u,b≠e->s.heap.get? b=some u->h'.get? b=some u)(j:∃u,h'.get? e=some u)
  (q:YD X.prog X.w (upd H x o) h' x o):Inv X pins σ (upd H x o) {s with heap:=h',toks:=t'}:=I.un (Un.write J M k j) (I.hok.write J M k j q)
theorem Inv.pins_of {j:List (Addr×Obj)}(I:Inv X pins σ H s)(h:∀p∈j,s.heap.get? p.1=some p.2/\H p.1=none/\p.1≠X.env.locals/\p.1∉X.fs/\∀v,p.2.data≠.cell v):Inv X j σ H s:=
 ⟨I.ok,I.os,I.bare,I.base,I.loc,I.cell,I.free,I.freeC,fun p q=>(bS.mp q).elim (fun z=>I.pin p (cn _ z)) (h p),I.hok,I.len⟩
theorem ZcF {N:List Str}(q:N.Nodup){i j:Nat}{x:Str}(a:N[i]?=some x)(b:N[j]?=some x):i=j:=by
 obtain⟨O,J⟩:=ae.mp a;obtain⟨Y,M⟩:=ae.mp b;exact (List.getElem_inj q).mp (J.trans M.symm)
theorem Zal {M:Model}{A:Around}{E:Value->Shared->Prop}{i:Nat}{x:Str}{v:V}{u:Value}{Q:Unit->Shared->Prop}(I:Inv X pins σ H s)(hN:X.N.Nodup)(hi:X.N[i]?=some x)(hx:Loc X.env.scope x)(r:RelV v u)
  (h:∀s',Inv X pins (σ.set i (some v)) H s'->(∃a,bg a s.heap s'.heap/\(a=X.env.locals\/X.env.cells.lookup x=some a))->Q () s') (hf:X.fn x=true\/X.env.scope.names.lookup x=some .local:=by first|exact .inl rfl|exact .inr rfl|assumption):wpAny M A (storeName X.env x u) Q E s:=by
 obtain⟨m,hn,hl⟩:=id I.loc;have n6:(X.env.scope.kind == .class || (X.env.scope.kind == .module && X.env.locals != X.env.globals))=false:=by rw[I.ok.kind];rfl
 have m6:i < σ.length:=by rw[I.len];exact (ae.mp hi).1
 have cne:=I.cne;have O:∀{a:Addr}{h':Heap},(∃o,s.heap.get? a=some o/\H a=none)->bg a s.heap h'->Vb X.prog X.w H h':=fun {a h'} ha J b ob e=>by
  obtain⟨_,_,m5⟩:=ha;refine (I.hok b ob e).stay (fun c w' hc q=>(J.2 c ?_).trans q) (fun _ q=>q) fun _ _ q=>q;rintro rfl;rcases hc with rfl|hc
  ·rw[m5] at e;cases e
  ·rw[m5] at hc;cases hc
 rcases hx with hk|hk
 ·refine wpAny_storeName_local hk hn (fun h' o6 J=>?_) n6
  obtain⟨oL,_,_,o7,_⟩:=id hn;refine h _ ⟨I.ok,I.os,I.bare,⟨fun b o e n hb hx=>?_,fun b o e n hb hx=>?_,I.base.free,fun b o e hx=>?_,I.base.tups,I.base.frzs,I.base.tbls⟩,⟨_,o6,fun j y v' Y e2 e3=>?_⟩,fun y c e=>?_,I.free,I.freeC,fun p hp=>?_,O ⟨oL,o7,I.free⟩ J,by simpa using I.len⟩ ⟨_,J,.inl rfl⟩
  ·exact (J.2 b (aD (aG (Zp e) I.ok.above))).trans (I.base.keep b o e n hb hx)
  ·obtain⟨sl,Y⟩:=I.base.slot b o e n hb hx
   exact⟨sl,(J.2 b (aD (aG (Zp e) I.ok.above))).trans Y⟩
  ·obtain⟨o',Y⟩:=I.base.there b o e hx
   exact⟨o',(J.2 b (aD (aG (Zp e) I.ok.above))).trans Y⟩
  ·by_cases hj:j=i
   ·subst hj
    rw[hi] at Y;cases Y;rw[kE m6] at e2;cases e2;exact⟨u,r,.inl ⟨hk,by simp⟩⟩
   ·rw[fP (bd hj)] at e2
    obtain⟨u',r',q⟩:=hl j y v' Y e2 e3;refine⟨u',r',?_⟩;rcases q with ⟨k,e⟩|⟨k,c,e,z⟩
    ·refine .inl ⟨k,?_⟩
     have:y≠x:=fun e=>hj (ZcF hN Y (e▸hi));simp[this,e]
    ·exact .inr ⟨k,c,e,z.sameBut J (cne y c e)⟩
  ·obtain⟨w',z⟩:=I.cell y c e
   exact⟨w',z.sameBut J (cne y c e)⟩
  ·obtain⟨e,n,ne,nf,d⟩:=I.pin p hp
   exact⟨(J.2 p.1 ne).trans e,n,ne,nf,d⟩
 ·have m8:X.fn x=true:=by
   rcases hf with z|z
   ·exact z
   ·rw[z] at hk;cases hk
  obtain⟨c,hc⟩:=I.ok.has x (.inl hk);obtain⟨w',z⟩:=I.cell x c hc;refine wpAny_storeName_cell I.ok.kind hk hc z (fun h' n8 J=>?_);obtain⟨oc,n9,o0⟩:=id z;refine h {s with heap:=h'} ⟨I.ok,I.os,I.bare,⟨fun b o e n hb hx=>?_,fun b o e n hb hx=>?_,I.base.free,fun b o e hx=>?_,I.base.tups,I.base.frzs,I.base.tbls⟩,⟨m,hn.sameBut J (bd (cne x c hc)),fun j y v' Y e2 e3=>?_⟩,fun y c' e=>?_,I.free,I.freeC,fun p hp=>?_,O ⟨oc,n9,I.freeC x c hc⟩ J,by simpa using I.len⟩ ⟨c,J,.inr hc⟩
  ·exact (J.2 b (aD (aG (Zp e) (I.ok.cab x c m8 hc)))).trans (I.base.keep b o e n hb hx)
  ·obtain⟨sl,Y⟩:=I.base.slot b o e n hb hx
   exact⟨sl,(J.2 b (aD (aG (Zp e) (I.ok.cab x c m8 hc)))).trans Y⟩
  ·obtain⟨o',Y⟩:=I.base.there b o e hx
   exact⟨o',(J.2 b (aD (aG (Zp e) (I.ok.cab x c m8 hc)))).trans Y⟩
  ·by_cases hj:j=i
   ·subst hj
    rw[hi] at Y;cases Y;rw[kE m6] at e2;cases e2;exact⟨u,r,.inr ⟨.inl hk,c,hc,n8⟩⟩
   ·rw[fP (bd hj)] at e2
    obtain⟨u',r',q⟩:=hl j y v' Y e2 e3;refine⟨u',r',?_⟩;rcases q with q|⟨k,c',e,z'⟩
    ·exact .inl q
    ·refine .inr ⟨k,c',e,z'.sameBut J ?_⟩
     rintro rfl;exact hj (ZcF hN Y (I.ok.inj _ _ _ e hc▸hi))
  ·by_cases o5:c'=c
   ·subst o5;exact⟨_,n8⟩
   ·obtain⟨w2,z2⟩:=I.cell y c' e
    exact⟨w2,z2.sameBut J o5⟩
  ·obtain⟨e,n,ne,nf,d⟩:=I.pin p hp
   refine⟨(J.2 p.1 ?_).trans e,n,ne,nf,d⟩;intro q;rw[q,n9] at e;have q':oc=p.2:=aA e;exact d w' (by rw[<-q'];exact o0)
theorem Ww {M:Model}{A:Around}{E:Value->Shared->Prop}{i:Nat}{x:Str}{v:V}{u:Value}{Q:Unit->Shared->Prop}(I:Inv X pins σ H s)(j:X.N.Nodup)(q:X.N[i]?=some x)(J:Loc X.env.scope x)(r:RelV v u)
  (h:∀s',Inv X pins (σ.set i (some v)) H s'->Q () s') (O:X.fn x=true\/X.env.scope.names.lookup x=some .local:=by first|exact .inl rfl|exact .inr rfl|assumption):wpAny M A (storeName X.env x u) Q E s:=
 Zal I j q J r (fun s' Y _=>h s' Y) O
theorem Inv.call' {s':Shared}{ch:List Addr}(I:Inv X pins σ H s)(Y:s'.os=s.os)(u:Un (frs X.stack) ch H H' s.heap s'.heap)(j:Vb X.prog X.w H' s'.heap)(hg:iC s'.gens)
  (q:∀b∈ch,(b∈X.ex\/X.s₀.heap.objs.size<=b)/\b≠X.env.locals/\(∀x c,X.env.cells.lookup x=some c->c≠b)/\∀p∈X.pn++pins,p.1≠b):Inv X pins σ H' s':=by
 obtain⟨h',J,M,O,o'⟩:=s';have e:o'=s.os:=Y;subst e;exact I.call (g':=J) (t':=O) (d':=M) u j hg q
end
noncomputable abbrev XK:=Value->Option Addr->Hp->Prop
noncomputable abbrev St:=List (Option V)
noncomputable abbrev VK:=V->Hp->Prop
noncomputable abbrev TE:=St->Hp->VK->Prop
noncomputable abbrev TT:=St->Hp->(Bool->Hp->Prop)->Prop
noncomputable abbrev TA:=St->Hp->(List V->Hp->Prop)->Prop
structure WO where
 nx:St->Hp->Prop
 rt:VK
 bk:St->Hp->Prop:=fun _ _=>False
 ct:St->Hp->Prop:=fun _ _=>False
noncomputable abbrev TS:=WO->St->Hp->Prop
noncomputable def EP (X:Cx)(j:List (Addr×Obj))(J:St)(Q:VK)(u:Value)(s':Shared):Prop:=∃v q,Inv X j J q s'/\RelV v u/\Q v q
noncomputable def TP (X:Cx)(j:List (Addr×Obj))(J:St)(Q:Bool->Hp->Prop)(b:Bool)(s':Shared):Prop:=∃q,Inv X j J q s'/\Q b q
noncomputable def AP (X:Cx)(j:List (Addr×Obj))(M:St)(Q:List V->Hp->Prop)(O:List Value)(s':Shared):Prop:=∃q J,Inv X j M J s'/\ZP q O/\Q q J
noncomputable def SP (X:Cx)(q:List (Addr×Obj))(D:WO)(f:Flow)(s':Shared):Prop:=
 match f with
 | .next=>∃ j J,Inv X q j J s'/\D.nx j J
 | .brk=>∃ j J,Inv X q j J s'/\D.bk j J
 | .cont=>∃ j J,Inv X q j J s'/\D.ct j J
 | .ret u=>∃v j J,Inv X q j J s'/\RelV v u/\D.rt v J
noncomputable def PE (X:Cx)(e:Expr)(t:TE):Prop:=
 ∀(j:List (Addr×Obj)) (s:Shared) (q:St) (H:Hp) (Q:VK),Inv X j q H s->t q H Q->wpAny (model X.prog X.w) X.A (eval e X.env) (EP X j q Q) X.xe s
noncomputable def PT (X:Cx)(e:Expr)(t:TT):Prop:=
 ∀(j:List (Addr×Obj)) (s:Shared) (q:St) (H:Hp) (Q:Bool->Hp->Prop),Inv X j q H s->t q H Q->wpAny (model X.prog X.w) X.A (isTrue e X.env (eval e X.env)) (TP X j q Q) X.xe s
noncomputable def PW (X:Cx)(e:Expr)(t:TT):Prop:=
 ∀(q:Sem Value) (j:List (Addr×Obj)) (s:Shared) (J:St) (H:Hp) (Q:Bool->Hp->Prop),Inv X j J H s->t J H Q->wpAny (model X.prog X.w) X.A (isTrue e X.env q) (TP X j J Q) X.xe s
theorem PW.pt {X:Cx}{e:Expr}{t:TT}(h:PW X e t):PT X e t:=h _
noncomputable def PA (X:Cx)(J:List Expr)(t:TA):Prop:=
 ∀(pos:Pos) (j:List (Addr×Obj)) (s:Shared) (q:St) (H:Hp) (Q:List V->Hp->Prop),Inv X j q H s->t q H Q->wpAny (model X.prog X.w) X.A (spliced (backTo pos (starEach J X.env))) (AP X j q Q) X.xe s
noncomputable def PS (X:Cx)(st:Stmt)(t:TS):Prop:=
 ∀(j:List (Addr×Obj)) (s:Shared) (q:St) (H:Hp) (D:WO),Inv X j q H s->t D q H->wpAny (model X.prog X.w) X.A (exec st X.env) (SP X j D) X.xe s
noncomputable def PSs (X:Cx)(st:List Stmt)(t:TS):Prop:=
 ∀(j:List (Addr×Obj)) (s:Shared) (q:St) (H:Hp) (D:WO),Inv X j q H s->t D q H->wpAny (model X.prog X.w) X.A (execs st X.env) (SP X j D) X.xe s
theorem Yq {α:Type}{t:Sem α}{Q j:α->Shared->Prop}{M:Model}{A:Around}{E:Value->Shared->Prop}{s:Shared}(h:wpAny M A t Q E s)(q:∀a s,Q a s->j a s):wpAny M A t j E s:=cH h q fun _ _ x=>x
section
variable {X:Cx}
inductive ZlP (i:Nat) (σ:L2.St) (H:Hp) (Q:VK):Prop
 |mk (v:_):(σ[i]?=some (some v))->(Q v H)->ZlP i σ H Q
noncomputable def tC (v:V):TE:=fun _ H Q=>Q v H
theorem Zmi {i:Nat}{x:Str}{pos:Pos}(hN:X.N[i]?=some x)(hv:Vis X.env.scope x)(O:(x == ("__debug__":Str))=false:=by decide)(Y:(x == ("__classdict__":Str))=false:=by decide):PE X (.Name x pos) (ZlP i):=by
 intro M s σ H Q I h;obtain⟨v,e,h⟩:=h;obtain⟨m,hn,hl⟩:=I.loc;obtain⟨u,r,l⟩:=hl i x v hN e hv;have q:EP X M σ Q u s:=⟨v,H,I,r,h⟩;rcases l with ⟨J,hm⟩|⟨J,c,hc,j⟩
 ·exact wpAny_Name (wpAny_loadName_local I.ok.kind J hn hm q) O
 ·rcases J with J|J
  ·exact wpAny_Name (wpAny_loadName_cell I.ok.kind J hc j q) O
  ·exact wpAny_Name (wpAny_loadName_free I.ok.kind J hc j q Y) O
theorem Zx {i j pos}:PE X (.Constant (.int i) j pos) (tC (.int i)):=fun _ _ _ H _ I h=>wpAny_Constant_int ⟨.int i,H,I.tok _,⟨_,rfl⟩,h⟩
theorem ZcA {b j pos}:PE X (.Constant (.bool b) j pos) (tC (.bl b)):=fun _ _ _ H _ I h=>Constant_bool ⟨.bl b,H,I,rfl,h⟩
theorem ZhI {j pos}:PE X (.Constant .none j pos) (tC .non):=fun _ _ _ H _ I h=>Constant_none ⟨.non,H,I,rfl,h⟩
theorem WU {x j pos}:PE X (.Constant (.str x) j pos) (tC (.str x)):=fun _ _ _ H _ I h=>Calls.Constant_str ⟨.str x,H,I.tok _,⟨_,rfl⟩,h⟩
noncomputable def Gl (X:Cx)(x:Str):Prop:=X.env.kindOf x=some .globalImplicit
theorem Zkr {E:Value->Shared->Prop}{j:List (Addr×Obj)}{s:Shared}{σ:St}{H:Hp}{x:Str}{u:Value}{pos:Pos}{Q:Value->Shared->Prop}(I:Inv X j σ H s)(q:Gl X x)(J:X.mg x=some u)(h:Q u s)
  (M:(x == ("__debug__":Str))=false:=by decide):wpAny (model X.prog X.w) X.A (eval (.Name x pos) X.env) Q E s:=
 jO I.ok.kind q (Calls.loadGlobal_global (by rw[I.ok.glob];exact I.mod.glob.keeps I.bk) J h) M
theorem JF {E:Value->Shared->Prop}{j:List (Addr×Obj)}{s:Shared}{σ:St}{H:Hp}{x:Str}{u:Value}{pos:Pos}{Q:Value->Shared->Prop}(I:Inv X j σ H s)(q:Gl X x)(J:X.mg x=none)(M:bootBuiltins x=some u)(h:Q u s)
  (O:x ≠ "__name__":=by decide) (Y:(x == ("__debug__":Str))=false:=by decide):wpAny (model X.prog X.w) X.A (eval (.Name x pos) X.env) Q E s:=by
 obtain⟨mb,h1,h2⟩:=I.mod.blt;exact jO I.ok.kind q (Calls.loadGlobal_builtin (by rw[I.ok.glob];exact I.mod.glob.keeps I.bk) J (by rw[I.ok.blt];exact h1.keeps I.bk) ((h2 x O).trans M) h) Y
variable {a b:Expr}{ta tb:TE}{pos:Pos}
noncomputable def PC (X:Cx)(op:CmpOp)(a b:Expr)(t:TE):Prop:=
 ∀(j:List (Addr×Obj)) (s:Shared) (M:St) (H:Hp) (Q:VK),Inv X j M H s->t M H Q->
  wpAny (model X.prog X.w) X.A (eval a X.env) (fun v q=>wpAny (model X.prog X.w) X.A (eval b X.env) (fun u J=>wpAny (model X.prog X.w) X.A (compareOp op v u) (EP X j M Q) X.xe J) X.xe q) X.xe s
inductive iBl (Q:Bool->Hp->Prop) (x:V) (H:Hp):Prop
 |mk (c:Bool):x=.bl c->Q c H->iBl Q x H
noncomputable def tB (t:TE):TT:=fun j H Q=>t j H (iBl Q)
theorem ZhG {op:CmpOp}{t:TE}(h:PC X op a b t)(M:behindInMarks op b=false:=by first|exact j _ (by decide) (by decide)|rfl):PT X (.Compare a [op] [b] pos) (tB t):=by
 intro J s O H Q I Y;refine mJ (Yq (h J s O H _ I Y) fun v s1 M=>Yq M fun u s2 h2=>Yq h2 fun c s3 ⟨x,H1,I1,r1,q1⟩=>?_) M;obtain⟨d,rfl,q⟩:=q1;cases r1;exact fI ⟨H1,I1,q⟩
theorem XA {e:Expr}{t:TE}(h:PE X e t)(M:∀j,isTrue e X.env j=(do let v <-j;standAt e.pos;holding [v] (truthy v)):=by intro _;rfl):PT X e (tB t):=by
 intro J s O H Q I Y;refine isTrue_plain (Yq (h J s O H _ I Y) fun v s1 ⟨x,H1,I1,r1,q1⟩=>?_) (M _);obtain⟨d,rfl,q⟩:=q1;cases r1;exact fI ⟨H1,I1,q⟩
variable {tA tB':TT}{rest:List Expr}
noncomputable def Zpt (t u:TT):TT:=fun j H Q=>t j H fun c q=>if c=true then u j q Q else Q false q
noncomputable def tOr (t u:TT):TT:=fun j H Q=>t j H fun c q=>if c=true then Q true q else u j q Q
noncomputable def Zpo (t:TT):TT:=fun j H Q=>t j H fun c q=>Q (!c) q
theorem ZeK (q:PT X a tA):PW X (.BoolOp .And [a] pos) tA:=by
 intro M j s J H Q I h;refine isTrue_and (Yq (q j s J H Q I h) fun c O e=>?_);cases c with
 |true=>exact isTrue_and_nil e
 |false=>exact e
theorem Zl9 (q:PT X a tA):PW X (.BoolOp .Or [a] pos) tA:=by
 intro M j s J H Q I h;refine isTrue_or (Yq (q j s J H Q I h) fun c O e=>?_);cases c with
 |false=>exact isTrue_or_nil e
 |true=>exact e
theorem ZhD (Y:PT X a tA)(hb:PW X (.BoolOp .And (b::rest) pos) tB'):PW X (.BoolOp .And (a::b::rest) pos) (Zpt tA tB'):=by
 intro wh j s q H Q I h;refine isTrue_and (Yq (Y j s q H _ I h) fun c s1 ⟨J,M,O⟩=>?_);cases c with
 |true=>exact hb wh j s1 q J Q M O
 |false=>exact⟨J,M,O⟩
theorem ZnY (Y:PT X a tA)(hb:PW X (.BoolOp .Or (b::rest) pos) tB'):PW X (.BoolOp .Or (a::b::rest) pos) (tOr tA tB'):=by
 intro wh j s q H Q I h;refine isTrue_or (Yq (Y j s q H _ I h) fun c s1 ⟨J,M,O⟩=>?_);cases c with
 |true=>exact⟨J,M,O⟩
 |false=>exact hb wh j s1 q J Q M O
theorem ZhF (q:PT X a tA):PT X (.UnaryOp .Not a pos) (Zpo tA):=by
 intro j s J H Q I h;exact isTrue_not (q j s J H (fun c M=>Q (!c) M) I h)
noncomputable def tIf (t:TT)(ta tb:TE):TE:=fun j H Q=>t j H fun c q=>if c=true then ta j q Q else tb j q Q
theorem ZhJ {c:Expr}(hc:PT X c tA)(ha:PE X a ta)(hb:PE X b tb):PE X (.IfExp c a b pos) (tIf tA ta tb):=by
 intro j s q H Q I h;refine wpAny_IfExp (Yq (hc j s q H _ I h) fun d J ⟨M,O,Y⟩=>?_);cases d with
 |true=>exact ha j J q M Q O Y
 |false=>exact hb j J q M Q O Y
end
noncomputable def W2 (K:aa)(H:Hp)(a:Addr)(xs:List V):Prop:=
 Rd H a (.lst xs)\/
  ∃(o:Obj) (j:Array Value) (n:Nat),K.lookup a=some o/\o.cls=.type "list"/\o.dict=none/\o.data=.seq j n/\j.size<=sizeLine/\ZP xs j.toList
noncomputable def XM (K:aa)(H:Hp)(a:Addr)(xs:List V):Prop:=
 Rd H a (.tup xs)\/
  ∃(o:Obj) (j:Array Value) (n:Nat),K.lookup a=some o/\o.cls=.type "tuple"/\o.data=.seq j n/\j.size<=sizeLine/\ZP xs j.toList
noncomputable def Zp2:Value->Option V
 | .none=>some .non
 | .bool b=>some (.bl b)
 | .int i _=>some (.int i)
 | .str x _=>some (.str x)
 | .bytes b _=>some (.byt b)
 | .float b _=>some (.flt b)
 | .ref a=>some (.ref a)
 | .type n=>some (.ty n)
 |_=>none
theorem RelV.abs {x:V}{u:Value}(r:RelV x u):Zp2 u=some x:=by
 cases x with
 |non=>cases r;rfl
 |bl _=>cases r;rfl
 |int _=>obtain⟨t,rfl⟩:=r;rfl
 |str _=>obtain⟨t,rfl⟩:=r;rfl
 |byt _=>obtain⟨t,rfl⟩:=r;rfl
 |flt _=>obtain⟨t,rfl⟩:=r;rfl
 |ref _=>cases r;rfl
 |ty _=>cases r;rfl
theorem RelV.inj {x y:V}{u:Value}(r:RelV x u)(q:RelV y u):x=y:=aA (r.abs.symm.trans q.abs)
theorem ZP.inj:∀{xs ys:List V}{us:List Value},ZP xs us->ZP ys us->xs=ys
 |_,_,_,.nil,.nil=>rfl
 |_,_,_,.cons r t,.cons j q=>by rw[r.inj j,ZP.inj t q]
section
variable {X:Cx}{pins:List (Addr×Obj)}{σ:St}{H:Hp}{s:Shared}{a:Addr}{xs ys:List V}
theorem W2.of {K:aa}(h:H a=some (.lst xs)):W2 K H a xs:=.inl (.inl h)
theorem XM.of {K:aa}(h:H a=some (.tup xs)):XM K H a xs:=.inl (.inl h)
theorem Inv.list (I:Inv X pins σ H s)(h:W2 X.K H a xs):∃j:List Value,ZP xs j/\PlainL s.heap a j.toArray/\xs.length<=sizeLine:=by
 rcases h with h|⟨o,j,n,q,J,hd,M,O,r⟩
 ·obtain⟨z,j,n,r,e⟩:=h.ok I.hok
  exact⟨j,r,⟨_,n,e,rfl,rfl,rfl⟩,z⟩
 ·refine⟨j.toList,r,⟨o,n,I.kIn a o q,J,hd,by simpa using M⟩,?_⟩
  have e:=r.length;simp only[Zr] at e;omega
theorem Inv.tuple (I:Inv X pins σ H s)(h:XM X.K H a xs):∃j:List Value,ZP xs j/\IsTup s.heap a j.toArray/\xs.length<=sizeLine:=by
 rcases h with h|⟨o,j,n,q,J,M,O,r⟩
 ·obtain⟨z,j,r,p⟩:=h.ok I.hok
  exact⟨j,r,p,z⟩
 ·refine⟨j.toList,r,⟨o,I.kIn a o q,J,n,by simpa using M⟩,?_⟩
  have e:=r.length;simp only[Zr] at e;omega
theorem Inv.list_inj (I:Inv X pins σ H s)(h:W2 X.K H a xs)(h':W2 X.K H a ys):xs=ys:=by
 obtain⟨q,r,⟨o,n,e,_,_,d⟩,_⟩:=I.list h;obtain⟨j,O,⟨Y,n',J,_,_,M⟩,_⟩:=I.list h';rw[e] at J;cases J;rw[d] at M;injection M with d1 _;have:q=j:=by simpa using congrArg Array.toList d1
 subst this;exact r.inj O
theorem Inv.tuple_inj (I:Inv X pins σ H s)(h:XM X.K H a xs)(h':XM X.K H a ys):xs=ys:=by
 obtain⟨q,r,⟨o,e,_,n,d⟩,_⟩:=I.tuple h;obtain⟨j,O,⟨Y,J,_,n',M⟩,_⟩:=I.tuple h';rw[e] at J;cases J;rw[d] at M;injection M with d1 _;have:q=j:=by simpa using congrArg Array.toList d1
 subst this;exact r.inj O
end
noncomputable abbrev Cx.wish (X:Cx)(E:Value->Shared->Prop):Cx:={X with xe:=E}
noncomputable abbrev Cx.nox (X:Cx):Cx:=X.wish fun _ _=>False
theorem Cx.Ok.wish {X:Cx}(ok:X.Ok)(E:Value->Shared->Prop):(X.wish E).Ok:=
 ⟨ok.mod,ok.kind,ok.glob,ok.blt,ok.above,ok.inj,ok.has,ok.cab,ok.hd,ok.frames,ok.stk,ok.exf,ok.bs,ok.bsz,ok.noex,ok.exfs,ok.funs,ok.frf⟩
theorem Cx.Ok.unwish {X:Cx}{E:Value->Shared->Prop}(ok:(X.wish E).Ok):X.Ok:=
 ⟨ok.mod,ok.kind,ok.glob,ok.blt,ok.above,ok.inj,ok.has,ok.cab,ok.hd,ok.frames,ok.stk,ok.exf,ok.bs,ok.bsz,ok.noex,ok.exfs,ok.funs,ok.frf⟩
section
variable {X:Cx}{pins:List (Addr×Obj)}{σ:St}{H:Hp}{s:Shared}{E:Value->Shared->Prop}
theorem Inv.wish (I:Inv X pins σ H s)(E:Value->Shared->Prop):Inv (X.wish E) pins σ H s:=⟨I.ok.wish E,I.os,I.bare,I.base,I.loc,I.cell,I.free,I.freeC,I.pin,I.hok,I.len⟩
theorem Inv.unwish (I:Inv (X.wish E) pins σ H s):Inv X pins σ H s:=⟨I.ok.unwish,I.os,I.bare,I.base,I.loc,I.cell,I.free,I.freeC,I.pin,I.hok,I.len⟩
theorem SP.unwish {D:WO}{f:Flow}{s':Shared}(h:SP (X.wish E) pins D f s'):SP X pins D f s':=by
 cases f with
 |next=>obtain⟨j,J,I,q⟩:=h;exact⟨j,J,I.unwish,q⟩
 |brk=>obtain⟨j,J,I,q⟩:=h;exact⟨j,J,I.unwish,q⟩
 |cont=>obtain⟨j,J,I,q⟩:=h;exact⟨j,J,I.unwish,q⟩
 |ret u=>obtain⟨v,j,J,I,r,q⟩:=h;exact⟨v,j,J,I.unwish,r,q⟩
theorem PSs.nox {st:List Stmt}{t:TS}(h:PSs X.nox st t):PSs X st t:=fun pins s σ H D I j=>
 cH (h pins s σ H D (I.wish _) j) (fun _ _ q=>q.unwish) fun _ _ z=>dX z
end
section
variable {X:Cx}{st:Stmt}{rest:List Stmt}{t u:TS}{e:Expr}{te:TE}{pos:Pos}
noncomputable def ZnA:TS:=fun D j H=>D.nx j H
noncomputable def WO.sq (D:WO)(n:St->Hp->Prop):WO:={D with nx:=n}
noncomputable def WO.lp (D:WO)(n:St->Hp->Prop):WO:={D with nx:=n,ct:=n,bk:=D.nx}
noncomputable def ZlQ (t u:TS):TS:=fun D j H=>t (D.sq (u D)) j H
theorem Yy:PSs X [] ZnA:=fun _ _ j H _ I h=>iJ ⟨j,H,I,h⟩
theorem Zs (M:PS X st t)(O:PSs X rest u):PSs X (st::rest) (ZlQ t u):=by
 intro j s Y H D I h;refine wpAny_execs_cons (Yq (M j s Y H (D.sq (u D)) I h) fun f s1 q=>?_);cases f with
 |next=>
  obtain⟨J,H',I',q⟩:=q;exact O j s1 J H' D I' q
 |ret v=>exact q
 |brk=>exact q
 |cont=>exact q
theorem Zw (J:PS X st t):PSs X [st] t:=by
 intro j s M H D I h;refine wpAny_execs_cons (Yq (J j s M H D I h) fun f O q=>?_);cases f with
 |next=>exact iJ q
 |ret v=>exact q
 |brk=>exact q
 |cont=>exact q
theorem Inv.quiet {j:List (Addr×Obj)}{σ:St}{H:Hp}{s:Shared}(I:Inv X j σ H s):interactive X.env=false:=by simp[interactive,I.ok.kind]
noncomputable def Zk7 (te:TE):TS:=fun D j H=>te j H fun _ q=>D.nx j q
theorem Yu (J:PE X e te)(M:swapsWith e none pos.line X.env=pure false:=by rfl):PS X (.Expr e pos) (Zk7 te):=by
 intro j s q H D I h;exact wpAny_Expr_any (Yq (J j s q H _ I h) fun v s1 ⟨x,O,Y,r1,q1⟩=>⟨q,O,Y,q1⟩) I.quiet M
noncomputable def Zpm (te:TE):TS:=fun D j H=>te j H D.rt
theorem ZJ (q:PE X e te):PS X (.Return (some e) pos) (Zpm te):=by
 intro j s σ H D I h;exact wpAny_Return_some (Yq (q j s σ H _ I h) fun v Y ⟨x,J,M,r1,O⟩=>⟨x,σ,J,M,r1,O⟩)
noncomputable def Zpp (c:TT)(t u:TS):TS:=fun D j H=>c j H fun b q=>if b=true then t D j q else u D j q
theorem WF {c:Expr}{a b:List Stmt}{J:TT}(hc:PT X c J)(ha:PSs X a t)(hb:PSs X b u):PS X (.If c a b pos) (Zpp J t u):=by
 intro j s q H D I h;refine wpAny_If (Yq (hc j s q H _ I h) fun d M ⟨O,Y,q1⟩=>?_);cases d with
 |true=>exact ha j M q O D Y q1
 |false=>exact hb j M q O D Y q1
end
noncomputable abbrev TG:=V->St->Hp->(St->Hp->Prop)->Prop
noncomputable abbrev TGs:=List V->St->Hp->(St->Hp->Prop)->Prop
noncomputable def PG (X:Cx)(j:Expr)(t:TG):Prop:=
 ∀(q:List (Addr×Obj)) (s:Shared) (M:St) (H:Hp) (v:V) (u:Value) (Q:St->Hp->Prop),Inv X q M H s->RelV v u->t v M H Q->
  wpAny (model X.prog X.w) X.A (assign j X.env u) (fun _ Y=>∃ J O,Inv X q J O Y/\Q J O) X.xe s
noncomputable def PGs (X:Cx)(ts:List Expr)(t:TGs):Prop:=
 ∀(j:List (Addr×Obj)) (s:Shared) (J:St) (H:Hp) (M:List V) (O:List Value) (Q:St->Hp->Prop),Inv X j J H s->ZP M O->t M J H Q->
  wpAny (model X.prog X.w) X.A (assignInOrder ((assignEach ts X.env).map (·.2)) O) (fun _ s'=>∃ q Y,Inv X j q Y s'/\Q q Y) X.xe s
noncomputable abbrev Zi0:=V->V->V->Hp->(Hp->Prop)->Prop
noncomputable def Zm8 (X:Cx)(t:Zi0):Prop:=
 ∀(j:List (Addr×Obj)) (s:Shared) (q:St) (H:Hp) (o i v:V) (J M u:Value) (Q:Hp->Prop),Inv X j q H s->RelV o J->RelV i M->RelV v u->t o i v H Q->
  wpAny (model X.prog X.w) X.A (setItem J M u) (fun _ Y=>∃O,Inv X j q O Y/\Q O) X.xe s
noncomputable abbrev TIp:=V->V->Hp->VK->Prop
noncomputable def PIp (X:Cx)(op:kP)(t:TIp):Prop:=
 ∀(j:List (Addr×Obj)) (s:Shared) (q:St) (H:Hp) (x y:V) (v u:Value) (Q:VK),Inv X j q H s->RelV x v->RelV y u->t x y H Q->
  wpAny (model X.prog X.w) X.A (inplaceOp op v u) (EP X j q Q) X.xe s
section
variable {X:Cx}{pos:Pos}
noncomputable def Yg (i:Nat):TG:=fun v j H Q=>Q (j.set i (some v)) H
theorem ZeL {i:Nat}{x:Str}(q:X.N.Nodup)(J:X.N[i]?=some x)(M:Loc X.env.scope x)(O:X.fn x=true\/X.env.scope.names.lookup x=some .local:=by first|exact .inl rfl|exact .inr rfl|assumption):PG X (.Name x pos) (Yg i):=by
 intro j s σ H v u Q I r h;exact wpAny_assign_Name (Ww I q J M r (fun s' Y=>⟨_,H,Y,h⟩) O)
inductive Zf8 (vs:List V) (σ:L2.St) (H:Hp) (Q:(L2.St->Hp->Prop)):Prop
 |mk:(vs=[])->(Q σ H)->Zf8 vs σ H Q
inductive JL (t:TG) (u:TGs) (vs:List V) (σ:L2.St) (H:Hp) (Q:(L2.St->Hp->Prop)):Prop
 |mk (v:_) (r:_):(vs=v::r)->(t v σ H fun σ' H'=>u r σ' H' Q)->JL t u vs σ H Q
theorem Zbm:PGs X [] Zf8:=by
 intro j s q H J M Q I r h;obtain⟨e,h⟩:=h;subst e;cases r;exact assignInOrder_nil ⟨q,H,I,h⟩
theorem Wy {e:Expr}{q:List Expr}{t:TG}{u:TGs}(M:PG X e t)(O:PGs X q u)
  (Y:(assignEach (e::q) X.env).map (·.2)=assign e X.env::(assignEach q X.env).map (·.2):=by rfl):PGs X (e::q) (JL t u):=by
 intro j s σ H vs us Q I r h;obtain⟨v,vr,e1,h⟩:=h;subst e1;cases r with
 |cons r rr=>
  rw[Y];refine jA (Yq (M j s σ H _ _ _ I r h) fun _ s1 ⟨J,H1,I1,q1⟩=>?_);exact O j s1 J H1 _ _ Q I1 rr q1
inductive Zf7 (K:aa) (n:Nat) (t:TGs) (v:V) (σ:L2.St) (H:Hp) (Q:(L2.St->Hp->Prop)):Prop
 |mk (a:_) (xs:_):(v=.ref a)->(XM K H a xs)->(xs.length=n)->(t xs σ H Q)->Zf7 K n t v σ H Q
theorem ZdR {q:List Expr}{k:Nat}{t:TGs}{n:Nat}(hc:X.calm=true)(h:PGs X q t)
  (hn:(assignEach q X.env).length=n:=by rfl) (J:(assignEach q X.env).findIdx? (·.1)=none:=by rfl):PG X (.Tuple q k pos) (Zf7 X.K n t):=by
 intro j s O H v u Q I r M;obtain⟨a,xs,e1,hq,hl,M⟩:=M;subst e1;cases r;obtain⟨m5,Y,ht,hz⟩:=I.tuple hq;refine assign_Tuple_tuple (I.ok.hd hc) ht (by simp[hn,<-hl,Y.length]) J fun h' hx=>?_;have I1:Inv X j O H {s with heap:=h'}:=I.kept (t':=s.toks) fun b o e=>hx b o (aD (Zp e)) e;exact h j _ O H xs _ Q I1 (by simpa using Y) M
noncomputable def ZpP (q J:TE)(t:Zi0):TG:=fun v j H Q=>q j H fun o M=>J j M fun i O=>t o i v O fun Y=>Q j Y
theorem JC {o i:Expr}{to M:TE}{t:Zi0}(O:PE X o to)(Y:PE X i M)(hs:Zm8 X t)
  (ha:∀v,assign (.Subscript o i pos) X.env v=(do
   let q <-holding [v] (eval o X.env)
   let iv <-holding [v,q] (eval i X.env)
   standAt pos
   holding [v,q,iv] (setItem q iv v)
   release [v,q,iv] []):=by intro _;rfl):PG X (.Subscript o i pos) (ZpP to M t):=by
 intro j s J H v u Q I r h;rw[ha];refine Zl (cR (Yq (O j s J H _ I h) fun q s1 ⟨x,H1,I1,r1,q1⟩=>?_));refine Zl (cR (Yq (Y j s1 J H1 _ I1 q1) fun iv s2 ⟨y,H2,I2,r2,q2⟩=>?_));refine Zl (jm (Zl (cR (Yq (hs j s2 J H2 x y v q iv u _ I2 r1 r2 r q2) fun _ s3 ⟨H3,I3,q3⟩=>?_))));exact wpAny_release ⟨J,H3,I3,q3⟩
noncomputable def Zdq (q:TE)(g:TG):TS:=fun D j H=>q j H fun x J=>g x j J D.nx
theorem Jf {J e:Expr}{M:TE}{g:TG}(Y:PE X e M)(hg:PG X J g)(hs:swapsWithSole [J] e pos.line X.env=pure false:=by rfl)(hw:swappedStores [J] e X.env=pure none:=by rfl)
  (h1:(assignEach [J] X.env).map (·.2)=[assign J X.env]:=by rfl):PS X (.Assign [J] e pos) (Zdq M g):=by
 intro j s O H D I h;refine wpAny_Assign_stores (Yq (Y j s O H _ I h) fun v s1 ⟨x,H1,I1,r1,q1⟩=>?_) hs hw;rw[h1];exact Yq (hg j s1 O H1 x v _ I1 r1 q1) fun _ s2 q=>q
theorem Zmb {i:Nat}{x:Str}{e:Expr}{J:TE}{j:Pos}(M:X.N.Nodup)(O:X.N[i]?=some x)(Y:Loc X.env.scope x)(he:PE X e J)(hs:swapsWith e (some (.Name x j)) pos.line X.env=pure false:=by rfl)(hf:X.fn x=true\/X.env.scope.names.lookup x=some .local:=by first|exact .inl rfl|exact .inr rfl|assumption) :
  PS X (.Assign [.Name x j] e pos) (Zdq J (Yg i)):=by
 intro q s σ H D I h;refine wpAny_Assign_Name (Yq (he q s σ H _ I h) fun v s1 ⟨y,H1,I1,r1,q1⟩=>?_) hs;exact Ww I1 M O Y r1 (fun s2 I2=>⟨_,H1,I2,q1⟩) hf
noncomputable def Zpn (i j:Nat)(J:TA):TS:=fun D q H=>J q H fun M O=>∃v w,M=[v,w]/\D.nx ((q.set i (some v)).set j (some w)) O
theorem Zmc {i j:Nat}{x y:Str}{a b:Expr}{ta:TA}{px py pt:Pos}{kt k2 O}(hc:X.calm=true)(hN:X.N.Nodup)(hi:X.N[i]?=some x)(hj:X.N[j]?=some y)(m5:i≠j)
  (hx:X.env.scope.names.lookup x=some .local) (hy:X.env.scope.names.lookup y=some .local) (ha:PA X [a,b] ta)
  (hw:swappedStores [.Tuple [.Name x px,.Name y py] kt pt] (.Tuple [a,b] k2 O) X.env=pure (some [x,y]))
  (hs:swapsWithSole [.Tuple [.Name x px,.Name y py] kt pt] (.Tuple [a,b] k2 O) pos.line X.env=pure false:=by rfl) :
  PS X (.Assign [.Tuple [.Name x px,.Name y py] kt pt] (.Tuple [a,b] k2 O) pos) (Zpn i j ta):=by
 intro M s σ H D I h;rw[exec_Assign_arm];refine Zl (jm ?_);rw[hs];refine Zl (Zm ?_);rw[if_neg (by decide)];refine Zl (Tuple_ (Yq (ha _ M s σ H _ I h) fun us s1 ⟨vs,H1,I1,r1,q1⟩=>?_));obtain⟨v,w,e1,q1⟩:=q1;subst e1;obtain⟨Y,u2,rfl,rv,m6⟩:∃Y u2,us=[Y,u2]/\RelV v Y/\RelV w u2:=by
  cases r1 with
  |cons p q=>
   cases q with
   |cons p' q'=>
    cases q';exact⟨_,_,rfl,p,p'⟩
 refine bQ ?_ (by show 2<=sizeLine;decide);have I2:Inv X M σ H1 {s1 with heap:=s1.heap.push {cls:=.type "tuple",data:=.seq [Y,u2].toArray}}:=I1.kept (t':=s1.toks) fun b o e=>Zn _ e;rw[hw];refine Zl (Zm ?_);show wpAny (model X.prog X.w) X.A (do rule "assign.swapped-stores";let J <-unpackItems (.ref s1.heap.objs.size) 2 none;assignInOrder [fun v=>bindName X.env y v,fun v=>bindName X.env x v] J.reverse;pure Flow.next) _ _ _
 refine Zl (dO (Zl (unpackItems_tuple (items:=#[Y,u2]) (I.ok.hd hc) (ka s1.heap _) fun h' m8=>?_)));have I3:=I2.kept (h':=h') (t':=s1.toks) fun b o e=>m8 b o (aD (Zp e)) e;show wpAny _ _ (assignInOrder [fun v=>bindName X.env y v,fun v=>bindName X.env x v] [u2,Y] >>= fun _=>pure Flow.next) _ _ _;refine Zl (jA (wpAny_bindName (Ww I3 hN hj (.inl hy) m6 (fun s2 I4=>?_) (.inr hy))));refine jA (wpAny_bindName (Ww I4 hN hi (.inl hx) rv (fun s3 I5=>assignInOrder_nil (Zm ?_)) (.inr hx)));rw[List.set_comm _ _ (bd m5)] at I5;exact⟨_,H1,I5,q1⟩
inductive ZnE (i:Nat) (te:TE) (ti:TIp) (D:WO) (σ:L2.St) (H:Hp):Prop
 |mk (x:_):(σ[i]?=some (some x))->(te σ H fun y H1=>ti x y H1 fun z H2=>D.nx (σ.set i (some z)) H2)->ZnE i te ti D σ H
theorem JX {i:Nat}{x:Str}{e:Expr}{te:TE}{op:kP}{ti:TIp}{M:Pos}(hN:X.N.Nodup)(hi:X.N[i]?=some x)(hx:Loc X.env.scope x)(he:PE X e te)(ho:PIp X op ti)(hf:X.fn x=true\/X.env.scope.names.lookup x=some .local:=by first|exact .inl rfl|exact .inr rfl|assumption) :
  PS X (.AugAssign (.Name x M) op e pos) (ZnE i te ti):=by
 intro j s σ H D I h;obtain⟨v,e1,h⟩:=h;obtain⟨m,hn,hl⟩:=I.loc;have m5:Vis X.env.scope x:=by rcases hx with k|k;exact .inl k;exact .inr (.inl k)
 obtain⟨u,r,l⟩:=hl i x v hi e1 m5;refine wpAny_AugAssign_Name ?_;have go:wpAny (model X.prog X.w) X.A (eval e X.env) (fun w O=>wpAny (model X.prog X.w) X.A (inplaceOp op u w) (fun r Y=>wpAny (model X.prog X.w) X.A (storeName X.env x r) (fun _=>SP X j D .next) X.xe Y) X.xe O) X.xe s:=by
  refine Yq (he j s σ H _ I h) fun w s1 ⟨y,H1,I1,r1,q1⟩=>?_;refine Yq (ho j s1 σ H1 v y u w _ I1 r r1 q1) fun z s2 ⟨zv,H2,I2,r2,q2⟩=>?_;exact Ww I2 hN hi hx r2 (fun s3 I3=>⟨_,H2,I3,q2⟩) hf
 rcases l with ⟨q,hm⟩|⟨q,c,hc,J⟩
 ·exact wpAny_loadName_local I.ok.kind q hn hm go
 ·rcases q with q|q
  ·exact wpAny_loadName_cell I.ok.kind q hc J go
  ·rcases hx with k|k
   ·have:X.env.scope.names.lookup x=some .free:=q
    rw[k] at this;cases this
   ·have:X.env.scope.names.lookup x=some .free:=q
    rw[k] at this;cases this
noncomputable def ZnD (O Y te:TE)(j:V->V->Hp->VK->Prop)(M:TIp)(q:Zi0):TS:=fun D J H=>O J H fun o H1=>Y J H1 fun i H2=>j o i H2 fun x H3=>te J H3 fun y H4=>M x y H4 fun z H5=>q o i z H5 fun H6=>D.nx J H6
noncomputable def Zm9 (X:Cx)(t:V->V->Hp->VK->Prop):Prop:=
 ∀(j:List (Addr×Obj)) (s:Shared) (q:St) (H:Hp) (o i:V) (J M:Value) (Q:VK),Inv X j q H s->RelV o J->RelV i M->t o i H Q->
  wpAny (model X.prog X.w) X.A (getItem J M) (EP X j q Q) X.xe s
theorem VX {o i e:Expr}{to ti te:TE}{J:V->V->Hp->VK->Prop}{m5:TIp}{M:Zi0}{op:kP}{m6:Pos}(ho:PE X o to)(hi:PE X i ti)(hg:Zm9 X J)(he:PE X e te)(hp:PIp X op m5)(hs:Zm8 X M)
  (ha:∀O iv q,augStore i O iv q=(do holding [q,O,iv] (setItem O iv q);release [q,O,iv] [];pure .next):=by intros;rfl):PS X (.AugAssign (.Subscript o i m6) op e pos) (ZnD to ti te J m5 M):=by
 intro j s Y H D I h;refine wpAny_AugAssign_SubscriptAny (Yq (ho j s Y H _ I h) fun O s1 ⟨x1,H1,I1,r1,q1⟩=>?_) ha;refine Yq (hi j s1 Y H1 _ I1 q1) fun iv s2 ⟨x2,H2,I2,r2,q2⟩=>?_;refine Yq (hg j s2 Y H2 x1 x2 O iv _ I2 r1 r2 q2) fun m8 s3 ⟨x3,H3,I3,r3,q3⟩=>?_;refine Yq (he j s3 Y H3 _ I3 q3) fun v s4 ⟨x4,H4,I4,r4,q4⟩=>?_;refine Yq (hp j s4 Y H4 x3 x4 m8 v _ I4 r3 r4 q4) fun q s5 ⟨x5,H5,I5,r5,q5⟩=>?_;exact Yq (hs j s5 Y H5 x1 x2 x5 O iv q _ I5 r1 r2 r5 q5) fun _ s6 ⟨H6,I6,q6⟩=>⟨Y,H6,I6,q6⟩
inductive ipI (f:Int->Int->Int) (x:V) (y:V) (H:Hp) (Q:VK):Prop
 |mk (i:_) (j:_):(x=.int i)->(y=.int j)->(Q (.int (f i j)) H)->ipI f x y H Q
theorem Jj:PIp X .Add (ipI fun i j=>i+j):=by
 intro J s σ H x y v u Q I M O h;obtain⟨i,j,Y,e2,q⟩:=h;subst Y;subst e2;obtain⟨t,rfl⟩:=M;obtain⟨t',rfl⟩:=O;exact iadd_int ⟨.int _,H,I.tok _,⟨_,rfl⟩,q⟩
theorem Zin:PIp X .Sub (ipI fun i j=>i-j):=by
 intro J s σ H x y v u Q I M O h;obtain⟨i,j,Y,e2,q⟩:=h;subst Y;subst e2;obtain⟨t,rfl⟩:=M;obtain⟨t',rfl⟩:=O;exact isub_int ⟨.int _,H,I.tok _,⟨_,rfl⟩,q⟩
end
section
variable {X:Cx}{pos:Pos}
noncomputable def ZgP (c:TT)(tb:TS):TS:=fun D j H=>∃W:Nat->St->Hp->Prop,(∃m,W m j H)/\∀m j H,W m j H->
 c j H fun b J=>if b=true then ∃N:St->Hp->Prop,(∀ q M,N q M->∃O,O<m/\W O q M)/\tb (D.lp N) j J else D.nx j J
theorem Yf {c:Expr}{body:List Stmt}{tc:TT}{tb:TS}(hp:PassesOwn (model X.prog X.w) X.A X.env X.xe)(hc:PT X c tc)(hb:PSs X body tb):PS X (.While c body [] pos) (ZgP tc tb):=by
 intro j s σ H D I h;obtain⟨W,⟨m0,w0⟩,turn⟩:=h;refine wpAny_While (codeAny_whileLoop (fun n s'=>∃ M H',Inv X j M H' s'/\W n M H') ?_ m0 ⟨σ,H,I,w0⟩);rintro n s1 ⟨J,H1,I1,w1⟩;refine dW hp (Yq (hc j s1 J H1 _ I1 (turn n J H1 w1)) fun b s2 ⟨H2,I2,Y⟩=>?_);cases b with
 |true=>
  obtain⟨N,hN,Y⟩:=Y;rw[if_pos rfl];refine dW hp (Yq (hb j s2 J H2 _ I2 Y) fun f s3 q3=>?_);cases f with
  |next=>
   obtain⟨q,O,I3,n3⟩:=q3;obtain⟨m',hm,w3⟩:=hN q O n3;exact⟨m',hm,q,O,I3,w3⟩
  |cont=>
   obtain⟨q,O,I3,n3⟩:=q3;obtain⟨m',hm,w3⟩:=hN q O n3;exact⟨m',hm,q,O,I3,w3⟩
  |brk=>exact q3
  |ret v=>exact q3
 |false=>
  rw[if_neg aJ];exact iJ ⟨J,H2,I2,Y⟩
end
structure It where
 go:Nat->Hp->Prop
 yld:Nat->Hp->V->Hp->Prop
 stop:Nat->Hp->Prop
noncomputable def Zad (X:Cx)(j:List (Addr×Obj))(H:Hp)(b:Addr):Prop:=
 H b=none/\b≠X.env.locals/\b∉X.fs/\(b∈X.ex\/X.s₀.heap.objs.size<=b)/\(∀x c,X.env.cells.lookup x=some c->c≠b)/\∀p∈X.pn++j,p.1≠b
theorem Inv.fpOk {X:Cx}{j:List (Addr×Obj)}{σ:St}{H J:Hp}{s:Shared}{b:Addr}(I:Inv X j σ H s)(hb:s.heap.objs.size<=b)(M:J b=none):Zad X j J b:=by
 refine⟨M,bh (aG I.lt hb),I.nofs hb,.inr (bm I.sz hb),fun x c e z=>?_,fun p O z=>?_⟩
 ·obtain⟨v,q⟩:=I.cell x c e
  exact absurd (aG q.lt (by rw[z];exact hb)) (bV _)
 ·exact absurd (aG (Zp (I.pin p O).1) (by rw[z];exact hb)) (bV _)
structure Zab (P:Program)(w:World)(K:aa)(tg:Expr)(J:It)(fp:List Addr)(it:Addr)(tn:Nat->Heap->Prop):Prop where
 mem:it∈fp
 obj:∀i h,tn i h->∀b∈fp,∃o,h.get? b=some o/\∀v,o.data≠.cell v
 keep:∀i h h',tn i h->(∀b∈fp,∀o,h.get? b=some o->h'.get? b=some o)->tn i h'
 item:∀(X:Cx),X.prog=P->X.w=w->X.K=K->X.calm=true->∀(i:Nat) (pins:List (Addr×Obj)) (s:Shared) (σ:St) (H:Hp) (E:Value->Shared->Prop),Inv X pins σ H s->(∀b∈fp,Zad X pins H b)->tn i s.heap->J.go i H->
  wpAny (model P w) X.A (pyNext (.ref it)) (fun r s1=>∃u,r=some u/\
   wpAny (model P w) X.A (letOwnedTupleGo tg (.ref it) u) (fun _ s2=>∃x H',Inv X pins σ H' s2/\RelV x u/\J.yld i H x H'/\tn (i+1) s2.heap/\∀b∈fp,H' b=none) E s1) E s
 done:∀(X:Cx),X.prog=P->X.w=w->X.K=K->X.calm=true->∀(i:Nat) (pins:List (Addr×Obj)) (s:Shared) (σ:St) (H:Hp) (E:Value->Shared->Prop),Inv X pins σ H s->(∀b∈fp,Zad X pins H b)->tn i s.heap->J.stop i H->
  wpAny (model P w) X.A (pyNext (.ref it)) (fun r s1=>r=none/\Inv X pins σ H s1) E s
 self:∀(A:Around) (i:Nat) (s:Shared) (Q:Value->Shared->Prop) (E:Value->Shared->Prop),tn i s.heap->Q (.ref it) s->wpAny (model P w) A (pyIter (.ref it)) Q E s
noncomputable abbrev TI:=St->Hp->(It->Hp->Prop)->Prop
noncomputable def PIE (X:Cx)(j:List (Addr×Obj))(σ:St)(tg:Expr)(R:It->Hp->Prop)(q:Value)(O:Shared):Prop:=
 ∃(it:Addr) (Y:List Addr) (tn:Nat->Heap->Prop) (J:It) (M:Hp),q=.ref it/\Inv X j σ M O/\Zab X.prog X.w X.K tg J Y it tn/\tn 0 O.heap/\(∀b∈Y,Zad X j M b)/\R J M
noncomputable def PI (X:Cx)(M q:Expr)(O:TI):Prop:=
 ∀(j:List (Addr×Obj)) (s:Shared) (J:St) (H:Hp) (R:It->Hp->Prop),Inv X j J H s->O J H R->
  wpAny (model X.prog X.w) X.A (eval q X.env) (fun v Y=>wpAny (model X.prog X.w) X.A (pyIter v) (PIE X j J M R) X.xe Y) X.xe s
theorem ZcT {M:Model}{A:Around}{E:Value->Shared->Prop}{s:Shared}{q:Expr}{it:Addr}{u:Value}{o:Obj}{n:String}{vs:Array Value}{Q:Unit->Shared->Prop}(J:s.heap.get? it=some o)(O:o.cls=.type n)(hd:o.data=.fields vs)
    (Y:["enumerate", "zip", "dict_itemiterator", "dict_reverseitemiterator", "odict_iterator", "itertools.zip_longest", "itertools.pairwise"].contains n=false) (j:Q () s):wpAny M A (letOwnedTupleGo q (.ref it) u) Q E s:=by
  unfold letOwnedTupleGo;cases q <;> first
    |exact Zm j
    |(cases u <;> first
        |exact Zm j
        | (refine Zl (jv J ?_)
           rw[O,hd];show wpAny M A (if (["enumerate", "zip", "dict_itemiterator", "dict_reverseitemiterator", "odict_iterator", "itertools.zip_longest", "itertools.pairwise"].contains n && vs[0]? == some (rawInt _))=true then _ else _) Q E s
           rw[if_neg (by intro h;rw[Y,jT] at h;cases h)];exact Zm j))
noncomputable def Itl (K:aa)(a:Addr):It:=
 ⟨fun i H=>∃j x,W2 K H a j/\j[i]?=some x,fun i H x q=>q=H/\∀j,W2 K H a j->j[i]?=some x,fun i H=>∃j,W2 K H a j/\j.length<=i⟩
noncomputable def Itt (K:aa)(a:Addr):It:=
 ⟨fun i H=>∃j x,XM K H a j/\j[i]?=some x,fun i H x q=>q=H/\∀j,XM K H a j->j[i]?=some x,fun i H=>∃j,XM K H a j/\j.length<=i⟩
noncomputable def Itr (lo:Int)(n:Nat):It:=⟨fun i _=>i<n,fun i H x j=>j=H/\x=.int (lo+i),fun i _=>n<=i⟩
theorem Zfy {P:Program}{w:World}{K:aa}{tg:Expr}(a it:Addr):Zab P w K tg (Itl K a) [it] it (fun i h=>h.IsListIter it a i) where
 mem:=by simp
 obj:=fun i h st b hb=>by
  have e:b=it:=by simpa using hb
  subst e;obtain⟨o,e,c,d⟩:=st;exact⟨o,e,fun v z=>by rw[d] at z;cases z⟩
 keep:=fun i h J st k=>st.at fun o e=>k it (by simp) o e
 item:=by
  intro X Y hw hK hc i j s σ H E I M st hg;subst Y hw hK;obtain⟨xs,x,O,hx⟩:=hg;obtain⟨m5,rv,p,hz⟩:=I.list O;obtain⟨u,hu,ru⟩:=rv.get hx;obtain⟨f0,f1,f2,f3,f4,f5⟩:=M it (by simp);refine wpAny_pyNext_list_item st p.isList (x:=u) (by simpa using hu) fun J q sb=>?_;have I1:Inv X j σ H {s with heap:=J}:=I.turned (t':=s.toks) (fun b o hb e=>(sb.2 b hb).trans e) f0 f1 f3 f4 f5;obtain⟨o,e,c,d⟩:=id q;exact⟨u,rfl,ZcT (s:={s with heap:=J}) e c d (by decide) ⟨x,H,I1,ru,⟨rfl,fun ys hy=>by rw[I.list_inj hy O];exact hx⟩,q,fun b hb=>(M b hb).1⟩⟩
 done:=by
  intro X Y hw hK hc i j s σ H E I M st hg;subst Y hw hK;obtain⟨xs,O,hx⟩:=hg;obtain⟨m5,rv,p,hz⟩:=I.list O;obtain⟨f0,f1,f2,f3,f4,f5⟩:=M it (by simp);have hl:=rv.length;exact wpAny_pyNext_list_end (I.ok.hd hc) st p.isList (by simp;omega) fun J eb=>⟨rfl,I.turned (t':=s.toks) (fun b o hb e=>eb b o hb e) f0 f1 f3 f4 f5⟩
 self:=fun _ _ _ _ _ st h=>wpAny_pyIter_listiter st h
theorem Zdm {P:Program}{w:World}{K:aa}{tg:Expr}(a it:Addr):Zab P w K tg (Itt K a) [it] it (fun i h=>h.IsTupleIter it a i) where
 mem:=by simp
 obj:=fun i h st b hb=>by
  have e:b=it:=by simpa using hb
  subst e;obtain⟨o,e,c,d⟩:=st;exact⟨o,e,fun v z=>by rw[d] at z;cases z⟩
 keep:=fun i h M st k=>st.at fun o e=>k it (by simp) o e
 item:=by
  intro X hP hw hK hc i j s σ H E I O st hg;subst hP hw hK;obtain⟨xs,x,Y,hx⟩:=hg;obtain⟨q,rv,p,hz⟩:=I.tuple Y;obtain⟨u,hu,ru⟩:=rv.get hx;obtain⟨f0,f1,f2,f3,f4,f5⟩:=O it (by simp);refine wpAny_pyNext_tuple_item st (show s.heap.IsTuple a q.toArray from p) (x:=u) (by simpa using hu) fun M J sb=>?_;have I1:Inv X j σ H {s with heap:=M}:=I.turned (t':=s.toks) (fun b o hb e=>(sb.2 b hb).trans e) f0 f1 f3 f4 f5;obtain⟨o,e,c,d⟩:=id J;exact⟨u,rfl,ZcT (s:={s with heap:=M}) e c d (by decide) ⟨x,H,I1,ru,⟨rfl,fun ys hy=>by rw[I.tuple_inj hy Y];exact hx⟩,J,fun b hb=>(O b hb).1⟩⟩
 done:=by
  intro X hP hw hK hc i j s σ H E I O st hg;subst hP hw hK;obtain⟨xs,Y,hx⟩:=hg;obtain⟨q,rv,p,hz⟩:=I.tuple Y;obtain⟨f0,f1,f2,f3,f4,f5⟩:=O it (by simp);have hl:=rv.length;exact wpAny_pyNext_tuple_end (I.ok.hd hc) st (show s.heap.IsTuple a q.toArray from p) (by simp;omega) fun M eb=>⟨rfl,I.turned (t':=s.toks) (fun b o hb e=>eb b o hb e) f0 f1 f3 f4 f5⟩
 self:=fun _ _ _ _ _ st h=>wpAny_pyIter_tupleiter st h
theorem Zdn {P:Program}{w:World}{K:aa}{tg:Expr}(it:Addr)(lo:Int)(n:Nat):Zab P w K tg (Itr lo n) [it] it (fun i h=>g9 h it (lo+(i:Nat)*1) ((n:Int)-(i:Nat)) 1) where
 mem:=by simp
 obj:=fun i h st b hb=>by
  have e:b=it:=by simpa using hb
  subst e;exact⟨_,st,fun v z=>by
   have z':gy _=gh v:=z;cases z'⟩
 keep:=fun i h J st k=>k it (by simp) _ st
 item:=by
  intro X O Y hK hc i j s σ H E I M st hg;subst O Y hK;obtain⟨f0,f1,f2,f3,f4,f5⟩:=M it (by simp);have W:=kL (prog:=X.prog) (w:=X.w) (I.ok.hd hc) it lo 1 n;refine W.item i s _ _ hg st fun v J tk hv q kk=>?_;obtain⟨t,rfl⟩:=hv;have I1:Inv X j σ H {s with heap:=J,toks:=tk}:=I.turned (fun b o hb e=>kk b o (by simpa using hb) e) f0 f1 f3 f4 f5;refine⟨_,rfl,ZcT (s:={s with heap:=J,toks:=tk}) (n:="range_iterator") q rfl rfl (by decide) ⟨.int (lo+i),H,I1,⟨t,?_⟩,⟨rfl,rfl⟩,q,fun b hb=>(M b hb).1⟩⟩;rw[fe]
 done:=by
  intro X O Y hK hc i j s σ H E I M st hg;subst O Y hK;obtain⟨f0,f1,f2,f3,f4,f5⟩:=M it (by simp);exact iA (I.ok.hd hc) st (by have:n<=i:=hg;omega) fun J eb=>⟨rfl,I.turned (t':=s.toks) (fun b o hb e=>eb b o hb e) f0 f1 f3 f4 f5⟩
 self:=fun _ _ _ _ _ st h=>iB st h
section
variable {X:Cx}{tg:Expr}
inductive iLi (K:aa) (R:It->Hp->Prop) (x:V) (H:Hp):Prop
 |mk (a:Addr):x=.ref a->(∃xs,W2 K H a xs)->R (Itl K a) H->iLi K R x H
noncomputable def Zlu (K:aa)(j:TE):TI:=fun q H R=>j q H (iLi K R)
inductive iTi (K:aa) (R:It->Hp->Prop) (x:V) (H:Hp):Prop
 |mk (a:Addr):x=.ref a->(∃xs,XM K H a xs)->R (Itt K a) H->iTi K R x H
noncomputable def Zob (K:aa)(j:TE):TI:=fun q H R=>j q H (iTi K R)
theorem ZjL {l:Expr}{O:TE}(Y:PE X l O):PI X tg l (Zlu X.K O):=by
 intro j s σ H R I h;refine Yq (Y j s σ H _ I h) fun v J ⟨x,H1,M,r1,q1⟩=>?_;obtain⟨a,e,⟨xs,hq⟩,q⟩:=q1;subst e;cases r1;obtain⟨m5,rv,p,hz⟩:=M.list hq;refine fJ p.isList ?_;refine⟨J.heap.objs.size,[J.heap.objs.size],_,_,H1,rfl,M.kept (t':=J.toks) fun b o e=>Zn _ e,Zfy a _,⟨_,Zo _ rfl,rfl,rfl⟩,fun b hb=>?_,q⟩;have e:b=J.heap.objs.size:=by simpa using hb
 subst e;exact M.fpOk (Zq _) (M.hok.fresh (Zq _))
theorem Zmg {l:Expr}{Y:TE}(hl:PE X l Y):PI X tg l (Zob X.K Y):=by
 intro j s σ H R I h;refine Yq (hl j s σ H _ I h) fun v J ⟨x,H1,M,r1,q1⟩=>?_;obtain⟨a,e,⟨xs,hq⟩,q⟩:=q1;subst e;cases r1;obtain⟨O,rv,p,hz⟩:=M.tuple hq;refine gK (show J.heap.IsTuple a O.toArray from p) ?_;refine⟨J.heap.objs.size,[J.heap.objs.size],_,_,H1,rfl,M.kept (t':=J.toks) fun b o e=>Zn _ e,Zdm a _,⟨_,Zo _ rfl,rfl,rfl⟩,fun b hb=>?_,q⟩;have e:b=J.heap.objs.size:=by simpa using hb
 subst e;exact M.fpOk (Zq _) (M.hok.fresh (Zq _))
theorem Zcu {J:List (Addr×Obj)}{σ:St}{H:Hp}{s:Shared}{R:It->Hp->Prop}{E:Value->Shared->Prop}{lo j:Int}{t u v:Tok}{tk:Nat}(I:Inv X J σ H s)(O:-(2 ^ 62)<=lo)(Y:lo<2 ^ 62)(h3:-(2 ^ 62)<=j)(h4:j<2 ^ 62)
  (q:R (Itr lo (j-lo).toNat) H):wpAny (model X.prog X.w) X.A (pyIter (.ref s.heap.objs.size)) (PIE X J σ tg R) E {s with heap:=s.heap.push {cls:=.type "range",data:=.fields #[.int lo t,.int j u,.int 1 v]},toks:=tk}:=by
 refine ju (ki ..) (small_one O Y h3 h4) ?_;have M:Inv X J σ H {s with heap:=s.heap.push {cls:=.type "range",data:=.fields #[.int lo t,.int j u,.int 1 v]},toks:=tk}:=I.kept fun b o e=>Zn _ e;refine⟨(s.heap.push {cls:=.type "range",data:=.fields #[.int lo t,.int j u,.int 1 v]}).objs.size,[(s.heap.push {cls:=.type "range",data:=.fields #[.int lo t,.int j u,.int 1 v]}).objs.size],_,_,H,rfl,
  M.kept (t':=tk) fun b o e=>Zn _ e,Zdn _ lo (j-lo).toNat,?_,fun b hb=>?_,q⟩
 ·have e1:lo+((0:Nat):Int)*1=lo:=by simp
  have e2:(((j-lo).toNat:Nat):Int)-((0:Nat):Int)=bo lo j 1:=by rw[lK];split <;> omega
  show g9 _ _ (lo+((0:Nat):Int)*1) ((((j-lo).toNat:Nat):Int)-((0:Nat):Int)) 1;rw[e1,e2];exact Zo _ rfl
 ·have e:b=(s.heap.push {cls:=.type "range",data:=.fields #[.int lo t,.int j u,.int 1 v]}).objs.size:=by simpa using hb
  subst e;exact M.fpOk (Zq _) (M.hok.fresh (Zq _))
inductive iR1 (R:It->Hp->Prop) (vs:List V) (H1:Hp):Prop
 |mk (j:Int):vs=[.int j]->-(2 ^ 62)<=j->j<2 ^ 62->R (Itr 0 j.toNat) H1->iR1 R vs H1
noncomputable def Zlt (j:TA):TI:=fun q H R=>j q H (iR1 R)
inductive iR2 (R:It->Hp->Prop) (vs:List V) (H1:Hp):Prop
 |mk (i j:Int):vs=[.int i,.int j]->(-(2 ^ 62)<=i/\i<2 ^ 62/\-(2 ^ 62)<=j/\j<2 ^ 62)->R (Itr i (j-i).toNat) H1->iR2 R vs H1
noncomputable def Zls (j:TA):TI:=fun q H R=>j q H (iR2 R)
theorem ZfK {a:Expr}{O:TA}{p pos:Pos}(Y:Gl X "range")(hm:X.mg "range"=none)(ha:PA X [a] O)(hs:starEach [a] X.env=[(false,eval a X.env)]:=by rfl):PI X tg (.Call (.Name "range" p) [a] [] pos) (Zlt O):=by
 intro J s σ H R I h;refine Call_ (JF I Y hm kZ (bA (Yq (ha pos J s σ H _ I h) fun us s1 ⟨vs,H1,I1,r1,M⟩=>?_) hs rfl));obtain⟨j,e,M,q2,q⟩:=M;subst e;cases r1 with
 |cons r rr=>
  cases rr;obtain⟨t,rfl⟩:=r;exact call_range_1 (Zcu I1 (by omega) (by omega) M q2 (by simpa using q))
theorem ZfJ {a b:Expr}{ta:TA}{p pos:Pos}(hg:Gl X "range")(hm:X.mg "range"=none)(ha:PA X [a,b] ta)(hs:starEach [a,b] X.env=[(false,eval a X.env),(false,eval b X.env)]:=by rfl)(J:starEach [b] X.env=[(false,eval b X.env)]:=by rfl) :
  PI X tg (.Call (.Name "range" p) [a,b] [] pos) (Zls ta):=by
 intro M s σ H R I h;refine Call_ (JF I hg hm kZ (bA (Yq (ha pos M s σ H _ I h) fun us s1 ⟨vs,H1,I1,r1,O⟩=>?_) (by rw[hs,J]) (by rw[J];rfl)));obtain⟨i,j,e,⟨O,q2,q3,q4⟩,q⟩:=O;subst e;cases r1 with
 |cons r Y=>
  cases Y with
  |cons r' Y=>
   cases Y;obtain⟨t,rfl⟩:=r;obtain⟨t',rfl⟩:=r';exact call_range_2 (Zcu I1 O q2 q3 q4 q)
noncomputable def Zpq (wi:TI)(g:TG)(tb:TS):TS:=fun D j H=>wi j H fun J H1=>∃W:Nat->Nat->St->Hp->Prop,(∃m,W 0 m j H1)/\∀i m j H,W i m j H->
 (J.stop i H/\D.nx j H)\/(J.go i H/\∃N:St->Hp->Prop,(∀ q M,N q M->∃Y,Y<m/\W (i+1) Y q M)/\∀x M,J.yld i H x M->g x j M fun O H2=>tb (D.lp N) O H2)
noncomputable def Uw (j:List Addr)(h:Heap):List (Addr×Obj):=j.filterMap fun b=>(h.get? b).map fun o=>(b,o)
theorem JE {j:List Addr}{h:Heap}{b:Addr}{o:Obj}(hb:b∈j)(e:h.get? b=some o):(b,o)∈Uw j h:=iR.mpr ⟨b,hb,by rw[e];rfl⟩
theorem ZfV {j:List Addr}{h:Heap}{p:Addr×Obj}(J:p∈Uw j h):p.1∈j/\h.get? p.1=some p.2:=by
 obtain⟨b,hb,e⟩:=iR.mp J;cases q:h.get? b with
 |none=>rw[q] at e;cases e
 |some o=>
  rw[q] at e;have M:(b,o)=p:=aA e;subst M;exact⟨hb,q⟩
theorem Inv.pinned {j:List (Addr×Obj)}{σ:St}{H:Hp}{s:Shared}{q:List Addr}(I:Inv X j σ H s)(M:∀b∈q,Zad X j H b)(O:∀b∈q,∃o,s.heap.get? b=some o/\∀v,o.data≠.cell v):Inv X (j++Uw q s.heap) σ H s:=
 I.pins_of fun p Y=>(bS.mp Y).elim (fun z=>I.pin p (aS _ z)) fun z=>by
  obtain⟨hb,e⟩:=ZfV z;obtain⟨f0,f1,f2,_⟩:=M p.1 hb;obtain⟨o,J,d⟩:=O p.1 hb;rw[e] at J;cases J;exact⟨e,f0,f1,f2,d⟩
theorem Inv.unpinned {j pl:List (Addr×Obj)}{σ:St}{H:Hp}{s:Shared}(I:Inv X (j++pl) σ H s):Inv X j σ H s:=I.pins_of fun p q=>I.pin p (aS _ (cn _ q))
theorem ZM {iter:Expr}{body:List Stmt}{wi:TI}{g:TG}{tb:TS}{pos:Pos}(hp:PassesOwn (model X.prog X.w) X.A X.env X.xe)(hc:X.calm=true)(hi:PI X tg iter wi)(hg:PG X tg g)(hb:PSs X body tb)
  (hs:∀x,foldedSetIterable iter X.env x=pure x:=by intro _;rfl):PS X (.For tg iter body [] pos) (Zpq wi g tb):=by
 intro j s σ H D I h;refine wpAny_For (Yq (hi j s σ H _ I h) fun v s1 h1=>Yq h1 fun o5 s2 h2=>?_) hs;obtain⟨it,fp,tn,J,H2,e,I2,T,n6,f2,W,⟨m0,w0⟩,turn⟩:=h2;subst e;have M:∀{H':Hp},(∀b∈fp,H' b=none)->∀b∈fp,Zad X j H' b:=fun hn b hb=>⟨hn b hb,(f2 b hb).2⟩;refine codeAny_forLoop_any (fun n s'=>∃i O H',Inv X j O H' s'/\tn i s'.heap/\(∀b∈fp,H' b=none)/\W i n O H') ?_ m0 ⟨0,σ,H2,I2,n6,fun b hb=>(f2 b hb).1,w0⟩;rintro n s3 ⟨i,Y,H3,I3,m6,m8,w3⟩;rcases turn i n Y H3 w3 with ⟨stop,qn⟩|⟨go,N,hN,step⟩
 ·refine dW hp (Yq (T.done X rfl rfl rfl hc i j s3 Y H3 X.xe I3 (M m8) m6 stop) fun r s4 ⟨hr,I4⟩=>?_)
  subst hr;exact iJ ⟨Y,H3,I4,qn⟩
 ·refine dW hp (Yq (T.item X rfl rfl rfl hc i j s3 Y H3 X.xe I3 (M m8) m6 go) fun r s4 ⟨u,hr,h4⟩=>?_)
  subst hr;refine dW hp (Yq h4 fun _ s5 ⟨x,H5,I5,r5,y5,m5,n8⟩=>?_);have n9:=I5.pinned (M n8) (T.obj _ _ m5);refine dW hp (Yq (hg _ s5 Y H5 x u _ n9 r5 (step x H5 y5)) fun _ s6 ⟨o0,H6,I6,q6⟩=>?_);refine dW hp (Yq (hb _ s6 o0 H6 _ I6 q6) fun f s7 q7=>?_);have again:∀{q:St}{H7:Hp},Inv X (j++Uw fp s5.heap) q H7 s7->N q H7->∃m,m<n/\∃i O H',Inv X j O H' s7/\tn i s7.heap/\(∀b∈fp,H' b=none)/\W i m O H':=fun {q H7} I7 n7=>by
   obtain⟨m',hm,w7⟩:=hN q H7 n7;refine⟨m',hm,i+1,q,H7,I7.unpinned,T.keep _ _ _ m5 fun b hb o e=>(I7.pin (b,o) (aS _ (aS _ (JE hb e)))).1,fun b hb=>?_,w7⟩;obtain⟨o,e,d⟩:=T.obj _ _ m5 b hb;exact (I7.pin (b,o) (aS _ (aS _ (JE hb e)))).2.1
  cases f with
  |next=>obtain⟨q,H7,I7,n7⟩:=q7;exact again I7 n7
  |cont=>obtain⟨q,H7,I7,n7⟩:=q7;exact again I7 n7
  |brk=>obtain⟨q,H7,I7,q7⟩:=q7;exact⟨q,H7,I7.unpinned,q7⟩
  |ret v=>obtain⟨x7,q,H7,I7,r7,q7⟩:=q7;exact⟨x7,q,H7,I7.unpinned,r7,q7⟩
end
theorem Zix {K:aa}{a:Addr}{xs:List V}{g:TG}{tb:TS}{D:WO}{σ:St}{H:Hp}(Pv:Nat->St->Hp->Prop)(h0:Pv 0 σ H)(hl:∀i σ H,i<=xs.length->Pv i σ H->W2 K H a xs)
  (hs:∀i x σ H,xs[i]?=some x->Pv i σ H->g x σ H fun j Y=>tb (D.lp (Pv (i+1))) j Y) (hd:∀ σ H,Pv xs.length σ H->D.nx σ H) :
  ∃W:Nat->Nat->St->Hp->Prop,(∃m,W 0 m σ H)/\∀i m σ H,W i m σ H->
   ((Itl K a).stop i H/\D.nx σ H)\/((Itl K a).go i H/\∃N:St->Hp->Prop,(∀ J M,N J M->∃m',m'<m/\W (i+1) m' J M)/\∀x M,(Itl K a).yld i H x M->g x σ M fun j Y=>tb (D.lp N) j Y):=by
 refine⟨fun i m σ H=>m=xs.length-i/\i<=xs.length/\Pv i σ H,⟨xs.length,by simp,bc _,h0⟩,?_⟩;rintro i m σ H ⟨rfl,hi,p⟩;have q:=hl i σ H hi p;by_cases O:i<xs.length
 ·refine .inr ⟨⟨xs,xs[i],q,by simp[O]⟩,Pv (i+1),fun J M p'=>⟨xs.length-(i+1),by omega,rfl,O,p'⟩,fun x M y=>?_⟩
  obtain⟨e,y⟩:=y;subst e;exact hs i x σ _ (y xs q) p
 ·have e:i=xs.length:=by omega
  subst e;exact .inl ⟨⟨xs,q,Zq _⟩,hd σ H p⟩
theorem Ze7 {K:aa}{a:Addr}{xs:List V}{g:TG}{tb:TS}{D:WO}{σ:St}{H:Hp}(Pv:Nat->St->Hp->Prop)(h0:Pv 0 σ H)(hl:∀i σ H,i<=xs.length->Pv i σ H->XM K H a xs)
  (hs:∀i x σ H,xs[i]?=some x->Pv i σ H->g x σ H fun j Y=>tb (D.lp (Pv (i+1))) j Y) (hd:∀ σ H,Pv xs.length σ H->D.nx σ H) :
  ∃W:Nat->Nat->St->Hp->Prop,(∃m,W 0 m σ H)/\∀i m σ H,W i m σ H->
   ((Itt K a).stop i H/\D.nx σ H)\/((Itt K a).go i H/\∃N:St->Hp->Prop,(∀ J M,N J M->∃m',m'<m/\W (i+1) m' J M)/\∀x M,(Itt K a).yld i H x M->g x σ M fun j Y=>tb (D.lp N) j Y):=by
 refine⟨fun i m σ H=>m=xs.length-i/\i<=xs.length/\Pv i σ H,⟨xs.length,by simp,bc _,h0⟩,?_⟩;rintro i m σ H ⟨rfl,hi,p⟩;have q:=hl i σ H hi p;by_cases O:i<xs.length
 ·refine .inr ⟨⟨xs,xs[i],q,by simp[O]⟩,Pv (i+1),fun J M p'=>⟨xs.length-(i+1),by omega,rfl,O,p'⟩,fun x M y=>?_⟩
  obtain⟨e,y⟩:=y;subst e;exact hs i x σ _ (y xs q) p
 ·have e:i=xs.length:=by omega
  subst e;exact .inl ⟨⟨xs,q,Zq _⟩,hd σ H p⟩
theorem Z8 {lo:Int}{n:Nat}{g:TG}{tb:TS}{D:WO}{σ:St}{H:Hp}(Pv:Nat->St->Hp->Prop)(h0:Pv 0 σ H)
  (hs:∀i σ H,i<n->Pv i σ H->g (.int (lo+i)) σ H fun j O=>tb (D.lp (Pv (i+1))) j O) (hd:∀ σ H,Pv n σ H->D.nx σ H) :
  ∃W:Nat->Nat->St->Hp->Prop,(∃m,W 0 m σ H)/\∀i m σ H,W i m σ H->
   ((Itr lo n).stop i H/\D.nx σ H)\/((Itr lo n).go i H/\∃N:St->Hp->Prop,(∀ q J,N q J->∃Y,Y<m/\W (i+1) Y q J)/\∀x J,(Itr lo n).yld i H x J->g x σ J fun j O=>tb (D.lp N) j O):=by
 refine⟨fun i m σ H=>m=n-i/\i<=n/\Pv i σ H,⟨n,by simp,bc _,h0⟩,?_⟩;rintro i m σ H ⟨rfl,hi,p⟩;by_cases M:i<n
 ·refine .inr ⟨M,Pv (i+1),fun q J p'=>⟨n-(i+1),by omega,rfl,M,p'⟩,fun x J y=>?_⟩
  obtain⟨e,y⟩:=y;subst e y;exact hs i σ _ M p
 ·have e:i=n:=by omega
  subst e;exact .inl ⟨Zq _,hd σ H p⟩
noncomputable abbrev R2:=V->V->Hp->VK->Prop
noncomputable def Ve (X:Cx)(f:Value->Value->Sem Value)(r:R2):Prop:=
 ∀(j:List (Addr×Obj)) (s:Shared) (q:St) (H:Hp) (x y:V) (v u:Value) (Q:VK),Inv X j q H s->RelV x v->RelV y u->r x y H Q->
  wpAny (model X.prog X.w) X.A (f v u) (EP X j q Q) X.xe s
noncomputable def UnR (X:Cx)(f:Value->Sem Value)(r:V->Hp->VK->Prop):Prop:=
 ∀(j:List (Addr×Obj)) (s:Shared) (q:St) (H:Hp) (x:V) (v:Value) (Q:VK),Inv X j q H s->RelV x v->r x H Q->
  wpAny (model X.prog X.w) X.A (f v) (EP X j q Q) X.xe s
noncomputable def YN (X:Cx)(f:Value)(r:List V->Hp->VK->Prop):Prop:=
 ∀(j:List (Addr×Obj)) (s:Shared) (q:St) (H:Hp) (J:List V) (M:List Value) (Q:VK),Inv X j q H s->ZP J M->r J H Q->
  wpAny (model X.prog X.w) X.A (call f M) (EP X j q Q) X.xe s
noncomputable def tOp (r:R2)(q tb:TE):TE:=fun j H Q=>q j H fun x J=>tb j J fun y M=>r x y M Q
noncomputable def tUn (r:V->Hp->VK->Prop)(j:TE):TE:=fun q H Q=>j q H fun x J=>r x J Q
inductive rI (C:Int->Int->Prop) (g:Int->Int->V) (x:V) (y:V) (H:Hp) (Q:VK):Prop
 |mk (i:_) (j:_):(x=.int i)->(y=.int j)->(C i j)->(Q (g i j) H)->rI C g x y H Q
inductive rI0 (g:Int->Int->V) (x:V) (y:V) (H:Hp) (Q:VK):Prop
 |mk (i:_) (j:_):(x=.int i)->(y=.int j)->(Q (g i j) H)->rI0 g x y H Q
inductive rU (g:Int->V) (x:V) (H:Hp) (Q:VK):Prop
 |mk (i:_):(x=.int i)->(Q (g i) H)->rU g x H Q
section
variable {X:Cx}{a b c:Expr}{ta tb tc:TE}{pos:Pos}
theorem Zm0 (ha:PE X a ta)(hb:PE X b tb){j:List (Addr×Obj)}{s:Shared}{σ:St}{H:Hp}{R:V->V->Hp->Prop}(I:Inv X j σ H s)
  (h:ta σ H fun x Y=>tb σ Y fun y q=>R x y q) {Q:Value->Shared->Prop}{f:Value->Value->Sem Value}
  (hf:∀v u O x y q,Inv X j σ q O->RelV x v->RelV y u->R x y q->wpAny (model X.prog X.w) X.A (f v u) Q X.xe O) :
  wpAny (model X.prog X.w) X.A (eval a X.env) (fun v J=>wpAny (model X.prog X.w) X.A (eval b X.env) (fun u M=>wpAny (model X.prog X.w) X.A (f v u) Q X.xe M) X.xe J) X.xe s:=by
 refine Yq (ha j s σ H _ I h) fun v s1 ⟨x,Y,I1,r1,q1⟩=>?_;refine Yq (hb j s1 σ Y _ I1 q1) fun u O ⟨y,q,I2,r2,q2⟩=>?_;exact hf v u O x y q I2 r1 r2 q2
theorem Zy {op:kP}{r:R2}(J:Ve X (binaryOp op) r)(M:PE X a ta)(hb:PE X b tb):PE X (.BinOp a op b pos) (tOp r ta tb):=by
 intro j s O H Q I h;exact wpAny_BinOp (Zm0 M hb I h fun v u Y x y H2 I2 rx ry q=>J j Y O H2 x y v u Q I2 rx ry q)
theorem X1 {op:UnaryOp}{r:V->Hp->VK->Prop}(J:UnR X (unaryOp op) r)(M:PE X a ta):PE X (.UnaryOp op a pos) (tUn r ta):=by
 intro j s q H Q I h;exact UnaryOp_ (Yq (M j s q H _ I h) fun v O ⟨x,Y,I1,r1,q1⟩=>J j O q Y x v Q I1 r1 q1)
theorem opI {f:Value->Value->Sem Value}{C:Int->Int->Prop}{g:Int->Int->Int}
  (rule:∀(i j:Int) (t u:Tok) (s:Shared) (Q:Value->Shared->Prop) (E:Value->Shared->Prop),C i j->Q (.int (g i j) s.toks) {s with toks:=s.toks+1}->wpAny (model X.prog X.w) X.A (f (.int i t) (.int j u)) Q E s) :
  Ve X f (rI C fun i j=>.int (g i j)):=by
 intro J s σ H x y v u Q I M O h;obtain⟨i,j,rfl,rfl,Y,q⟩:=h;obtain⟨t,rfl⟩:=M;obtain⟨t',rfl⟩:=O;exact rule i j t t' s _ _ Y ⟨.int (g i j),H,I.tok _,⟨_,rfl⟩,q⟩
theorem Zn6 {f:Value->Value->Sem Value}{g:Int->Int->Int}
  (rule:∀(i j:Int) (t u:Tok) (s:Shared) (Q:Value->Shared->Prop) (E:Value->Shared->Prop),Q (.int (g i j) s.toks) {s with toks:=s.toks+1}->wpAny (model X.prog X.w) X.A (f (.int i t) (.int j u)) Q E s) :
  Ve X f (rI0 fun i j=>.int (g i j)):=by
 intro J s σ H x y v u Q I M O h;obtain⟨i,j,rfl,rfl,q⟩:=h;obtain⟨t,rfl⟩:=M;obtain⟨Y,rfl⟩:=O;exact rule i j t Y s _ _ ⟨.int (g i j),H,I.tok _,⟨_,rfl⟩,q⟩
theorem ZjX {f:Value->Value->Sem Value}{g:Int->Int->Bool}
  (rule:∀(i j:Int) (t u:Tok) (s:Shared) (Q:Value->Shared->Prop) (E:Value->Shared->Prop),Q (.bool (g i j)) s->wpAny (model X.prog X.w) X.A (f (.int i t) (.int j u)) Q E s) :
  Ve X f (rI0 fun i j=>.bl (g i j)):=by
 intro J s σ H x y v u Q I M O h;obtain⟨i,j,rfl,rfl,q⟩:=h;obtain⟨t,rfl⟩:=M;obtain⟨Y,rfl⟩:=O;exact rule i j t Y s _ _ ⟨.bl (g i j),H,I,rfl,q⟩
noncomputable def Zqa (i j:Int):Prop:=0<j/\j<1073741824
noncomputable def Zp9 (i j:Int):Prop:=0<=j/\j<=1000000/\i.natAbs<2 ^ 64
noncomputable def Zk1 (i j:Int):Prop:=(-(2 ^ 64)<i/\i<2 ^ 64)\/(-(2 ^ 64)<j/\j<2 ^ 64)
theorem Zk1.ok {i j:Int}(h:Zk1 i j):IntMulOk i j:=by
 rcases h with ⟨q,J⟩|⟨q,J⟩
 ·exact .of_left (intBits_le_64 q J)
 ·exact .of_right (intBits_le_64 q J)
theorem Yr:Ve X (binaryOp .Add) (rI0 fun i j=>.int (i+j)):=Zn6 fun _ _ _ _ _ _ _ q=>add_int q
theorem YC:Ve X (binaryOp .Sub) (rI0 fun i j=>.int (i-j)):=Zn6 fun _ _ _ _ _ _ _ q=>sub_int q
theorem ZN:Ve X (binaryOp .Mult) (rI Zk1 fun i j=>.int (i*j)):=opI fun _ _ _ _ _ _ _ J q=>mul_int q J.ok
theorem Y4:Ve X (binaryOp .FloorDiv) (rI Zqa fun i j=>.int (i / j)):=opI fun i j _ _ _ _ _ J q=>by
 have M:(0:Int)<j:=J.1;have O:j<1073741824:=J.2;exact floordiv_int (by omega) (by rw[Int.fdiv_eq_ediv_of_nonneg i (by omega)];exact q) (.inl (jX (by omega)))
theorem ZV:Ve X (binaryOp .Mod) (rI (fun _ j=>0<j) fun i j=>.int (i % j)):=opI fun i j _ _ _ _ _ J q=>by
 have M:(0:Int)<j:=J;exact mod_int' (by omega) (by rw[Int.fmod_eq_emod_of_nonneg i (by omega)];exact q)
theorem Zmk:Ve X (binaryOp .Pow) (rI Zp9 fun i j=>.int (i ^ j.toNat)):=opI fun _ _ _ _ _ _ _ J q=>pow_int_small J.1 J.2.1 J.2.2 q
theorem unI {f:Value->Sem Value}{g:Int->Int}
  (rule:∀(i:Int) (t:Tok) (s:Shared) (Q:Value->Shared->Prop) (E:Value->Shared->Prop),Q (.int (g i) s.toks) {s with toks:=s.toks+1}->wpAny (model X.prog X.w) X.A (f (.int i t)) Q E s) :
  UnR X f (rU fun i=>.int (g i)):=by
 intro j s M H x v Q I J h;obtain⟨i,rfl,q⟩:=h;obtain⟨t,rfl⟩:=J;exact rule i t s _ _ ⟨.int (g i),H,I.tok _,⟨_,rfl⟩,q⟩
theorem Jy:UnR X (unaryOp .USub) (rU fun i=>.int (-i)):=unI fun _ _ _ _ _ q=>neg_int q
end
noncomputable def ZnF:V->V->Bool
 | .non,.non=>true | .non,.int _=>true | .int _,.non=>true | .non,.bl _=>true | .bl _,.non=>true | .non,.str _=>true | .str _,.non=>true
 | .int _,.int _=>true | .bl _,.bl _=>true | .str _,.str _=>true | .byt _,.byt _=>true
 | .int _,.str _=>true | .str _,.int _=>true | .bl _,.str _=>true | .str _,.bl _=>true
 |_,_=>false
inductive rEq (x:V) (y:V) (H:Hp) (Q:VK):Prop
 |mk:(ZnF x y=true)->(Q (.bl (decide (x=y))) H)->rEq x y H Q
inductive rNe (x:V) (y:V) (H:Hp) (Q:VK):Prop
 |mk:(ZnF x y=true)->(Q (.bl (!decide (x=y))) H)->rNe x y H Q
theorem Yd {i j:Int}:decide (V.int i=V.int j)=(i == j):=by
 rw[dG];simp
theorem ZiI {i j:Bool}:decide (V.bl i=V.bl j)=(i == j):=by
 rw[dG];simp
theorem Zff {i j:Str}:decide (V.str i=V.str j)=(i == j):=by
 rw[dG];simp
theorem Zfg {i j:Array UInt8}:decide (V.byt i=V.byt j)=(i.toList == j.toList):=by
 rw[dG];cases i;cases j;simp
section
variable {X:Cx}{a b c:Expr}{ta tb tc:TE}{pos:Pos}
theorem Z1 {j:List (Addr×Obj)}{σ:St}{H:Hp}{s:Shared}{Q:VK}{k J:Bool}(I:Inv X j σ H s)(q:Q (.bl k) H)(e:k=J):EP X j σ Q (.bool J) s:=by
 subst e;exact⟨.bl k,H,I,rfl,q⟩
theorem VE:Ve X (compareOp .Eq) rEq:=by
 intro m5 s σ H x y v u Q I Y J h;obtain⟨O,q⟩:=h;cases x with
 |non=>
  cases Y;cases y with
  |non=>cases J;exact PySem.EqNone.eq_none_none (Z1 I q (by simp))
  |bl j=>cases J;exact PySem.EqNone.eq_none_bool (Z1 I q (by simp))
  |int j=>obtain⟨M,rfl⟩:=J;exact PySem.EqNone.eq_none_int (Z1 I q (by simp))
  |str j=>obtain⟨M,rfl⟩:=J;exact PySem.EqNone.eq_none_str (Z1 I q (by simp))
  |_=>exact absurd (show false=true from O) aJ
 |bl i=>
  cases Y;cases y with
  |non=>cases J;exact PySem.EqNone.eq_bool_none (Z1 I q (by simp))
  |bl j=>cases J;exact eq_bool (Z1 I q ZiI)
  |str j=>obtain⟨M,rfl⟩:=J;exact PySem.EqMixed.eq_bool_str (Z1 I q (by simp))
  |_=>exact absurd (show false=true from O) aJ
 |int i=>
  obtain⟨t,rfl⟩:=Y;cases y with
  |non=>cases J;exact PySem.EqNone.eq_int_none (Z1 I q (by simp))
  |int j=>obtain⟨M,rfl⟩:=J;exact eq_int (Z1 I q Yd)
  |str j=>obtain⟨M,rfl⟩:=J;exact PySem.EqMixed.eq_int_str (Z1 I q (by simp))
  |_=>exact absurd (show false=true from O) aJ
 |str i=>
  obtain⟨t,rfl⟩:=Y;cases y with
  |non=>cases J;exact PySem.EqNone.eq_str_none (Z1 I q (by simp))
  |bl j=>cases J;exact PySem.EqMixed.eq_str_bool (Z1 I q (by simp))
  |int j=>obtain⟨M,rfl⟩:=J;exact PySem.EqMixed.eq_str_int (Z1 I q (by simp))
  |str j=>obtain⟨M,rfl⟩:=J;exact eq_str (Z1 I q Zff)
  |_=>exact absurd (show false=true from O) aJ
 |byt i=>
  obtain⟨t,rfl⟩:=Y;cases y with
  |byt j=>obtain⟨M,rfl⟩:=J;exact PySem.W.eq_bytes (Z1 I q Zfg)
  |_=>exact absurd (show false=true from O) aJ
 |_=>cases y <;> exact absurd (show false=true from O) aJ
theorem JJ:Ve X (compareOp .NotEq) rNe:=by
 intro m5 s σ H x y v u Q I Y J h;obtain⟨O,q⟩:=h;cases x with
 |non=>
  cases Y;cases y with
  |non=>cases J;exact PySem.EqNone.ne_none_none (Z1 I q (by simp))
  |bl j=>cases J;exact PySem.EqNone.ne_none_bool (Z1 I q (by simp))
  |int j=>obtain⟨M,rfl⟩:=J;exact PySem.EqNone.ne_none_int (Z1 I q (by simp))
  |str j=>obtain⟨M,rfl⟩:=J;exact PySem.EqNone.ne_none_str (Z1 I q (by simp))
  |_=>exact absurd (show false=true from O) aJ
 |bl i=>
  cases Y;cases y with
  |non=>cases J;exact PySem.EqNone.ne_bool_none (Z1 I q (by simp))
  |bl j=>cases J;exact ne_bool (Z1 I q (congrArg not ZiI))
  |str j=>obtain⟨M,rfl⟩:=J;exact PySem.EqMixed.ne_bool_str (Z1 I q (by simp))
  |_=>exact absurd (show false=true from O) aJ
 |int i=>
  obtain⟨t,rfl⟩:=Y;cases y with
  |non=>cases J;exact PySem.EqNone.ne_int_none (Z1 I q (by simp))
  |int j=>obtain⟨M,rfl⟩:=J;exact ne_int (Z1 I q (congrArg not Yd))
  |str j=>obtain⟨M,rfl⟩:=J;exact PySem.EqMixed.ne_int_str (Z1 I q (by simp))
  |_=>exact absurd (show false=true from O) aJ
 |str i=>
  obtain⟨t,rfl⟩:=Y;cases y with
  |non=>cases J;exact PySem.EqNone.ne_str_none (Z1 I q (by simp))
  |bl j=>cases J;exact PySem.EqMixed.ne_str_bool (Z1 I q (by simp))
  |int j=>obtain⟨M,rfl⟩:=J;exact PySem.EqMixed.ne_str_int (Z1 I q (by simp))
  |str j=>obtain⟨M,rfl⟩:=J;exact ne_str (Z1 I q (congrArg not Zff))
  |_=>exact absurd (show false=true from O) aJ
 |byt i=>
  obtain⟨t,rfl⟩:=Y;cases y with
  |byt j=>obtain⟨M,rfl⟩:=J;exact PySem.W.ne_bytes (Z1 I q (congrArg not Zfg))
  |_=>exact absurd (show false=true from O) aJ
 |_=>cases y <;> exact absurd (show false=true from O) aJ
theorem ZeM:Ve X (compareOp .Lt) (rI0 fun i j=>.bl (decide (i<j))):=ZjX fun _ _ _ _ _ _ _ q=>lt_int q
theorem Zn4:Ve X (compareOp .LtE) (rI0 fun i j=>.bl (decide (i<=j))):=ZjX fun _ _ _ _ _ _ _ q=>le_int q
theorem ZhP:Ve X (compareOp .Gt) (rI0 fun i j=>.bl (decide (j<i))):=ZjX fun _ _ _ _ _ _ _ q=>gt_int q
theorem Zn5:Ve X (compareOp .GtE) (rI0 fun i j=>.bl (decide (j<=i))):=ZjX fun _ _ _ _ _ _ _ q=>ge_int q
theorem Zmm:Ve X (compareOp .Is) (fun x y H Q=>y=.non/\Q (.bl (decide (x=.non))) H):=by
 intro j s O H x y v u Q I J M h;obtain⟨rfl,q⟩:=h;cases M;refine is_none_gen (Z1 I q ?_);cases x <;> first
  |(cases J;rfl)
  |(obtain⟨t,rfl⟩:=J;rfl)
theorem ZY (b:Expr){op:CmpOp}(h:op≠.In:=by decide)(j:op≠.NotIn:=by decide):behindInMarks op b=false:=by
 have q:(op == CmpOp.In)=false:=by cases op <;> first|rfl|exact absurd rfl h
 have J:(op == CmpOp.NotIn)=false:=by cases op <;> first|rfl|exact absurd rfl j
 cases b <;> simp[behindInMarks,q,J]
theorem VY {op:CmpOp}{r:R2}(J:Ve X (compareOp op) r)(M:PE X a ta)(hb:PE X b tb)(O:behindInMarks op b=false):PE X (.Compare a [op] [b] pos) (tOp r ta tb):=by
 intro j s Y H Q I h;exact wpAny_Compare1 (Zm0 M hb I h fun v u s2 x y H2 I2 rx ry q=>J j s2 Y H2 x y v u Q I2 rx ry q) O
inductive iTs (Q:Bool->Hp->Prop) (x:V) (H:Hp):Prop
 |mk (c:Bool):x=.bl c->Q c H->iTs Q x H
noncomputable def Znx (t:TE):TT:=fun j H Q=>t j H (iTs Q)
theorem ZS {op:CmpOp}{r:R2}(J:Ve X (compareOp op) r)(M:PE X a ta)(hb:PE X b tb)(O:behindInMarks op b=false):PT X (.Compare a [op] [b] pos) (Znx (tOp r ta tb)):=by
 intro j s q H Q I h;refine mJ (Yq (M j s q H _ I h) fun v Y ⟨x,H1,I1,r1,q1⟩=>Yq (hb j Y q H1 _ I1 q1) fun u s2 ⟨y,H2,I2,r2,q2⟩=>
  Yq (J j s2 q H2 x y v u _ I2 r1 r2 q2) fun c s3 ⟨z,H3,I3,r3,k,e,q3⟩=>?_) O
 subst e;cases r3;exact fI ⟨H3,I3,q3⟩
theorem XE:(sizeLine:Nat)<2 ^ 63:=by rw[gf];decide
theorem vals1 {x:V}{us:List Value}(r:ZP [x] us):∃u,us=[u]/\RelV x u:=by
 cases r with
 |cons r1 j=>cases j;exact⟨_,rfl,r1⟩
end
section
variable {prog:Program}{w:World}{A:Around}{E:Value->Shared->Prop}{s:Shared}{K:aa}{x dx C f:Addr}{mA:Str->Option Value}{name:Str}{v:Value}
end
theorem Zac.some_of {v:V}{o:Option Value}(r:Zac (some v) o):∃u,o=some u/\RelV v u:=by
 cases o with
 |none=>exact (show False from r).elim
 |some u=>exact⟨u,rfl,r⟩
section
variable {P:Program}{w:World}{H H':Hp}{h h':Heap}{a C dx:Addr}{fs fs':List (Str×V)}
end
section
variable {X:Cx}{pins:List (Addr×Obj)}{σ:St}{H:Hp}{s:Shared}{a C dx:Addr}{fs:List (Str×V)}{f:Str}{v:V}{A:Around}{E:Value->Shared->Prop}
end
section
variable {X:Cx}{o e value:Expr}{f:Str}{pos pos' tpos:Pos}{ta tv:TE}
end
section
variable {X:Cx}{pins:List (Addr×Obj)}{σ:St}{H:Hp}{s:Shared}{A:Around}{E:Value->Shared->Prop}{Q:Value->Shared->Prop}{c:Value}{b:Bool}
end
structure JQ (k:Nat)(A:Around):Prop where
 hd:A.handled=none
 dp:A.depth+3*k+5<recursionLimit
 un:A.units+16*k+200<cLine
 gd:A.guards=some []
theorem JQ.mono {j k:Nat}{A:Around}(r:JQ k A)(h:j<=k):JQ j A:=⟨r.hd,by have:=r.dp;omega,by have:=r.un;omega,r.gd⟩
theorem JQ.deeper {k:Nat}{A:Around}(r:JQ (k+1) A)(env:Env):JQ k (A.deeper env):=
 ⟨r.hd,by have:=r.dp;show A.depth+1+3*k+5<_;omega,by have:=r.un;show A.units+3+16*k+200<_;omega,r.gd⟩
theorem JQ.depth {k:Nat}{A:Around}(r:JQ k A):A.depth<recursionLimit:=by have:=r.dp;omega
theorem JQ.units {k:Nat}{A:Around}(r:JQ k A):A.units+64<cLine:=by have:=r.un;omega
noncomputable def ZgQ:TA:=fun _ H Q=>Q [] H
noncomputable def Ub (q:TE)(J:TA):TA:=fun j H Q=>q j H fun x M=>J j M fun O Y=>Q (x::O) Y
section
variable {X:Cx}{e:Expr}{es:List Expr}{te:TE}{t:TA}{pos:Pos}
theorem Zu:PA X [] ZgQ:=fun _ _ _ _ H Q I h=>Calls.spliced_nil ⟨[],H,I,.nil,h⟩
theorem ZjU (J:PE X e te)(M:PA X es t)(O:starEach (e::es) X.env=(false,eval e X.env)::starEach es X.env:=by rfl):PA X (e::es) (Ub te t):=by
 intro pos j s q H Q I h;rw[O];show wpAny _ _ (spliced ((false,eval e X.env)::backTo pos (starEach es X.env))) _ _ s;refine Calls.spliced_cons (Yq (J j s q H _ I h) fun u Y ⟨x,H1,I1,r1,q1⟩=>?_);exact Yq (M pos j Y q H1 _ I1 q1) fun us s2 ⟨xs,H2,I2,r2,q2⟩=>⟨x::xs,H2,I2,.cons r1 r2,q2⟩
inductive iTu (Q:VK) (xs:List V) (H:Hp):Prop
 |mk:xs.length<=sizeLine->(∀p,H p=none->Q (.ref p) (upd H p (.tup xs)))->iTu Q xs H
noncomputable def Zpl (t:TA):TE:=fun j H Q=>t j H (iTu Q)
inductive iLs (Q:VK) (xs:List V) (H:Hp):Prop
 |mk:xs.length<=sizeLine->(∀p,H p=none->Q (.ref p) (upd H p (.lst xs)))->iLs Q xs H
noncomputable def ZlR (t:TA):TE:=fun j H Q=>t j H (iLs Q)
theorem ZdS {Y}(h:PA X es t):PE X (.Tuple es Y pos) (Zpl t):=by
 intro j s σ H Q I hq;refine wpAny_Tuple_spliced (Yq (h pos j s σ H _ I hq) fun us J ⟨xs,M,O,r,z,q⟩=>⟨by rw[<-r.length];exact z,?_⟩);have hf:M J.heap.objs.size=none:=O.hok.fresh (Zq _);refine⟨.ref J.heap.objs.size,upd M J.heap.objs.size (.tup xs),O.laid (t':=J.toks) (fun b u e=>Zn _ e) (Zq _) ?_,rfl,q _ hf⟩;exact⟨z,us,r,⟨_,Zo _ rfl,rfl,_,rfl⟩⟩
theorem ZQ (h:PA X es t):PE X (.List es pos) (ZlR t):=by
 intro j s Y H Q I hq;refine wpAny_List_spliced (Yq (h pos j s Y H _ I hq) fun us J ⟨xs,M,O,r,z,q⟩=>⟨by rw[<-r.length];exact z,?_⟩);have hf:M J.heap.objs.size=none:=O.hok.fresh (Zq _);refine⟨.ref J.heap.objs.size,upd M J.heap.objs.size (.lst xs),O.laid (t':=J.toks) (fun b u e=>Zn _ e) (Zq _) ?_,rfl,q _ hf⟩;exact⟨z,us,0,r,Zo _ rfl⟩
end
noncomputable abbrev Sp:=List V->Hp->VK->XK->Prop
noncomputable abbrev CXT:=List Env->Hp->Shared->XK->Value->Shared->Prop
structure ZkZ (P:Program)(w:World)(K:aa)(mg:Str->Option Value)(base:Heap)(A:Around)(outer:List Env)(s:Shared)(H:Hp):Prop where
 frames:A.frames=some outer
 mod:Mod K mg base
 bs:∀b o,base.get? b=some o->s.heap.get? b=some o/\H b=none
 bsz:base.objs.size<=s.heap.objs.size
 funs:s.heap.FunFrames base outer
 frf:∀b∈frs outer,H b=none
 hok:Vb P w H s.heap
 bare:iC s.gens
noncomputable def CE (outer:List Env)(P:Program)(w:World)(H:Hp)(s:Shared)(Q:VK)(u:Value)(s':Shared):Prop:=
 ∃v j,s'.os=s.os/\iC s'.gens/\Un (frs outer) [] H j s.heap s'.heap/\Vb P w j s'.heap/\RelV v u/\Q v j
noncomputable def CR (CX:CXT)(outer:List Env)(P:Program)(w:World)(H:Hp)(s:Shared)(Q:VK)(E:XK)(r:Result)(s':Shared):Prop:=
 match r with
 | .ok (.ret u)=>CE outer P w H s Q u s'
 | .ok _=>False
 | .error e=>CX outer H s E e s'
structure Ya (P:Program)(w:World)(K:aa)(mg:Str->Option Value)(base:Heap)(CX:CXT)(k:Nat)(f:Addr)(fd:FuncData)(ps:List Str)(sp:Sp):Prop where
 len:∀vs H Q E,sp vs H Q E->vs.length=ps.length
 run:∀(A:Around) (outer:List Env) (s:Shared) (H:Hp) (args:Args) (us:List Value) (vs:List V) (Q:VK) (E:XK),JQ k A->ZkZ P w K mg base A outer s H->ja s fd args (ps.zip us)->ZP vs us->sp vs H Q E->
  codeAny (model P w) A (.call (.ref f) args) (CR CX outer P w H s Q E) s
section
variable {X:Cx}{pins:List (Addr×Obj)}{σ:St}{H:Hp}{s s':Shared}
theorem Inv.env0 (I:Inv X pins σ H s):ZkZ X.prog X.w X.K X.mg X.base X.A X.stack s H:=
 ⟨I.ok.frames,I.ok.mod,I.bs,bm I.ok.bsz I.sz,I.stack,I.stkFree,I.hok,I.bare⟩
theorem Inv.after {Q:VK}{u:Value}(I:Inv X pins σ H s)(h:CE X.stack X.prog X.w H s Q u s'):EP X pins σ Q u s':=by
 obtain⟨v,J,os,bare,un,hok,r,q⟩:=h;obtain⟨M,g,d,t,j⟩:=s';obtain rfl:j=s.os:=os;exact⟨v,J,I.call (h':=M) (g':=g) (d':=d) (t':=t) (ch:=[]) un hok bare (fun b z=>absurd z (by simp)),r,q⟩
end
noncomputable def Zk8 (sp:Sp)(j:List V)(E:XK)(t:TA):TE:=fun q H Q=>t q H fun J M=>sp (J++j) M Q E
noncomputable def Binds (K:aa)(fd:FuncData)(q:List Str)(J:List Value):Prop:=
 ∀(s:Shared) (j:List Value),K.In s.heap->(j++J).length=q.length->ja s fd ⟨j,[]⟩ (q.zip (j++J))
theorem Binds.all {K:aa}{fd:FuncData}{j:List Str}(h:∀us:List Value,us.length=j.length->bindArgs fd ⟨us,[]⟩=pure (j.zip us)):Binds K fd j []:=fun s us _ q=>by
 rw[fY] at q ⊢;exact .of_eq (h us q)
noncomputable def Zb0 (CX:CXT)(X:Cx)(E:XK):Prop:=∀(j:List (Addr×Obj)) (J:St) (H:Hp) (s:Shared) (e:Value) (q:Shared),Inv X j J H s->CX X.stack H s E e q->X.xe e q
section
variable {X:Cx}{CX:CXT}{k:Nat}{f C:Addr}{fd:FuncData}{ps:List Str}{sp:Sp}{dvs:List V}{ds:List Value}{E:XK}{x m:Str}{p pos apos:Pos}{e o:Expr}{es:List Expr}{ta:TE}{t:TA}
theorem Zl0 {j:List (Addr×Obj)}{σ:St}{H:Hp}{s:Shared}{Q:VK}{us:List Value}{vs:List V}(F:Ya X.prog X.w X.K X.mg X.base CX k f fd ps sp)(M:JQ k X.A)(hb:Binds X.K fd ps ds)(O:ZP dvs ds)(Y:Zb0 CX X E)
  (I:Inv X j σ H s) (r:ZP vs us) (h:sp (vs++dvs) H Q E):wpAny (model X.prog X.w) X.A (call (.ref f) us) (EP X j σ Q) X.xe s:=by
 have J:ZP (vs++dvs) (us++ds):=r.append O;have hl:(us++ds).length=ps.length:=by rw[<-J.length];exact F.len _ _ _ _ h
 refine wpAny_call (fK (F.run X.A X.stack s H ⟨us,[]⟩ (us++ds) (vs++dvs) Q E M I.env0 (hb s us I.kIn hl) J h) fun r s' q=>?_);cases r with
 |error e=>exact Y j σ H s e s' I q
 |ok fl=>
  cases fl with
  |ret u=>exact I.after q
  |next=>exact dX q
  |brk=>exact dX q
  |cont=>exact dX q
theorem ZjQ (F:Ya X.prog X.w X.K X.mg X.base CX k f fd ps sp)(hr:JQ k X.A)(hg:Gl X x)(hm:X.mg x=some (.ref f))(hk:dP X.K (.ref f)=true)(hb:Binds X.K fd ps ds)(hd:ZP dvs ds)(hx:Zb0 CX X E)
  (ha:PA X (e::es) t) (J:(x == ("__debug__":Str))=false:=by decide) (he:starEach (e::es) X.env=(false,eval e X.env)::starEach es X.env:=by rfl) (M:(backTo pos (starEach es X.env)).any (·.1)=false:=by rfl) :
  PE X (.Call (.Name x p) (e::es) [] pos) (Zk8 sp dvs E t):=by
 intro j s σ H Q I h;refine jw (Zkr I hg hm ?_ J);refine PySem.W.callWith_K (h₀:=X.base) I.ok.mod.kin hk (Yq (ha pos j s σ H _ I h) fun us s1 ⟨vs,H1,Y,r,q⟩=>⟨Y.kIn,?_⟩) he M;exact Zl0 F hr hb hd hx Y r q
end
section
variable {X:Cx}{CX:CXT}{k:Nat}{f C:Addr}{fd:FuncData}{ps ks:List Str}{sp:Sp}{E:XK}{x m:Str}{p pos apos kpos:Pos}{e o:Expr}{es:List Expr}{kws:List Keyword}{te ta:TE}{t tk:TA}{nm:Option Str}
variable {g:List Value->List Value->List Value}{gV:List V->List V->List V}
end
structure V4 (N P:List Str)(sc:cT):Prop where
 kind:sc.kind=.function
 co:sc.isCoroutine=false
 gen:sc.isGenerator=false
 nd:N.Nodup
 pre:N.take P.length=P
 par:∀x∈P,sc.names.lookup x=some .local\/sc.names.lookup x=some .cell
 nofree:∀y∈sc.names,y.2≠.free
theorem FS {N P:List Str}{j:cT}(a:j.kind=.function:=by rfl)(b:j.isCoroutine=false:=by rfl)(c:j.isGenerator=false:=by rfl)(d:N.Nodup:=by decide +kernel)(e:N.take P.length=P:=by rfl)(f:∀x∈P,j.names.lookup x=some .local\/j.names.lookup x=some .cell:=by decide +kernel)(g:∀y∈j.names,y.2≠.free:=by decide +kernel):V4 N P j:=⟨a,b,c,d,e,f,g⟩
theorem bd1 {α:Type}{f g:List Value->α}(h:∀a,f [a]=g [a])(j:List Value)(l:j.length=1):f j=g j:=by
  cases j with
  |nil=>cases l
  |cons a r=>cases r with
    |nil=>exact h a
    |cons b r=>simp at l
theorem bd2 {α:Type}{f g:List Value->α}(h:∀a b,f [a,b]=g [a,b])(j:List Value)(l:j.length=2):f j=g j:=by
  cases j with
  |nil=>cases l
  |cons a r=>exact bd1 (f:=fun r=>f (a::r)) (g:=fun r=>g (a::r)) (h a) r (c8 l)
theorem bd3 {α:Type}{f g:List Value->α}(h:∀a b c,f [a,b,c]=g [a,b,c])(j:List Value)(l:j.length=3):f j=g j:=by
  cases j with
  |nil=>cases l
  |cons a r=>exact bd2 (f:=fun r=>f (a::r)) (g:=fun r=>g (a::r)) (h a) r (c8 l)
theorem bd4 {α:Type}{f g:List Value->α}(h:∀a b c d,f [a,b,c,d]=g [a,b,c,d])(j:List Value)(l:j.length=4):f j=g j:=by
  cases j with
  |nil=>cases l
  |cons a r=>exact bd3 (f:=fun r=>f (a::r)) (g:=fun r=>g (a::r)) (h a) r (c8 l)
theorem bd5 {α:Type}{f g:List Value->α}(h:∀a b c d e,f [a,b,c,d,e]=g [a,b,c,d,e])(j:List Value)(l:j.length=5):f j=g j:=by
  cases j with
  |nil=>cases l
  |cons a r=>exact bd4 (f:=fun r=>f (a::r)) (g:=fun r=>g (a::r)) (h a) r (c8 l)
theorem ZaG {kindOf:Str->Option eO}{x:Str}:∀{binds:List (Str×Value)}{m:Str->Option Value},(∀v,(x,v)∉binds)->bindL kindOf binds m x=m x
 | [],_,_=>rfl
 |(n,v)::r,m,h=>by
  unfold bindL;rw[ZaG fun w j=>h w (aq _ j)];split
  ·have:x≠n:=by rintro rfl;exact h v ax
   simp[this]
  ·rfl
theorem ZaI {kindOf:Str->Option eO}{x:Str}:∀{binds:List (Str×Value)}{m:Str->Option Value},(∀v,(x,v)∉binds)->bindC kindOf binds m x=m x
 | [],_,_=>rfl
 |(n,v)::r,m,h=>by
  unfold bindC;rw[ZaI fun w j=>h w (aq _ j)];split
  ·rfl
  ·have:x≠n:=by rintro rfl;exact h v ax
   simp[this]
theorem ZaH {kindOf:Str->Option eO}{x:Str}{v:Value}:∀{P:List Str}{vs:List Value}{i:Nat}{m:Str->Option Value},P.Nodup->P[i]?=some x->vs[i]?=some v->kindOf x=some .local->
  bindL kindOf (P.zip vs) m x=some v
 | [],_,_,_,_,h,_,_=>by simp at h
 |_::_,[],_,_,_,_,h,_=>by simp at h
 |p::P,w::vs,0,m,nd,j,q,J=>by
  simp at j q;subst j;subst q;show bindL kindOf ((p,w)::P.zip vs) m p=_;unfold bindL;rw[ZaG fun v M=>(bZ.mp nd).1 (jG M).1,if_pos J];simp
 |p::P,w::vs,i+1,m,nd,j,q,J=>by
  show bindL kindOf ((p,w)::P.zip vs) m x=_;unfold bindL;exact ZaH (i:=i) (bZ.mp nd).2 (by simpa using j) (by simpa using q) J
theorem ZaJ {kindOf:Str->Option eO}{x:Str}{v:Value}:∀{P:List Str}{vs:List Value}{i:Nat}{m:Str->Option Value},P.Nodup->P[i]?=some x->vs[i]?=some v->kindOf x≠some .local->
  bindC kindOf (P.zip vs) m x=some v
 | [],_,_,_,_,h,_,_=>by simp at h
 |_::_,[],_,_,_,_,h,_=>by simp at h
 |p::P,w::vs,0,m,nd,j,q,J=>by
  simp at j q;subst j;subst q;show bindC kindOf ((p,w)::P.zip vs) m p=_;unfold bindC;rw[ZaI fun v M=>(bZ.mp nd).1 (jG M).1,if_neg J];simp
 |p::P,w::vs,i+1,m,nd,j,q,J=>by
  show bindC kindOf ((p,w)::P.zip vs) m x=_;unfold bindC;exact ZaJ (i:=i) (bZ.mp nd).2 (by simpa using j) (by simpa using q) J
noncomputable def start (N:List Str)(vs:List V):St:=vs.map some++av (N.length-vs.length) none
noncomputable def Zc1 (CX:CXT)(P:Program)(w:World)(K:aa)(mg:Str->Option Value)(base:Heap)(N:List Str)(j:Str)(scope:cT)(f:Addr)(J:Value)(A:Around)(outer:List Env)(s:Shared)(H:Hp)(E:XK):Cx where
 prog:=P
 w:=w
 K:=K
 mg:=mg
 base:=base
 A:=A.deeper (envOfC j scope s.heap.objs.size f J)
 N:=N
 s₀:=s
 H₀:=H
 env:=envOfC j scope s.heap.objs.size f J
 outer:=outer
 stack:=envOfC j scope s.heap.objs.size f J::outer
 ex:=[]
 calm:=true
 fn:=fun _=>true
 pn:=[]
 xe:=fun e M=>wpAny (model P w) (A.deeper (envOfC j scope s.heap.objs.size f J)) (leaving (envOfC j scope s.heap.objs.size f J) e) (fun _ q=>CX outer H s E e q) (fun O q=>CX outer H s E O q) M
theorem Zc8 {j:cT}{n:Nat}{x:Str}(h:j.names.lookup x=some .cell):∃c,(cellsFrom n j.names []).lookup x=some c:=by
 have q:=gL j.names n [] (.inl h);exact gt.mp q
theorem Zf4 {CX:CXT}{P:Program}{w:World}{K:aa}{mg:Str->Option Value}{base:Heap}{N M:List Str}{qual:Str}{scope:cT}{f:Addr}{cd:Value}{A:Around}{outer:List Env}{s s1:Shared}{H:Hp}{E:XK}{us:List Value}{vs:List V}
  (S:V4 N M scope) (hd:A.handled=none) (J:ZkZ P w K mg base A outer s H) (hl:vs.length=M.length) (r:ZP vs us)
  (x:InCallC s s.heap.objs.size (bindL (envOfC qual scope s.heap.objs.size f cd).kindOf (M.zip us) fun _=>none) (cellsFrom (s.heap.objs.size+1) scope.names []) (bindC (envOfC qual scope s.heap.objs.size f cd).kindOf (M.zip us) fun _=>none) s1) :
  Inv (Zc1 CX P w K mg base N qual scope f cd A outer s H E) [] (start N vs) H s1:=by
 have m6:M.length<=N.length:=by have:=congrArg e9 S.pre;rw[bU] at this;omega
 obtain⟨h1,tk,rfl,hk⟩:=x.done;have O:∀b:Addr,b∉(Zc1 CX P w K mg base N qual scope f cd A outer s H E).ex:=fun b z=>absurd (show b∈([]:List Addr) from z) (by simp);refine⟨⟨J.mod,S.kind,rfl,rfl,Zq _,fun y z c h1 j=>?_,fun y Y=>?_,fun y c _ h=>?_,fun _=>hd,Around.frames_deeper J.frames,.inr ⟨rfl,rfl⟩,fun b z=>absurd z (O b),J.bs,J.bsz,fun b _ _=>O b,fun b z=>absurd z (O b),J.funs,J.frf⟩,
  rfl,J.bare,Un.kept hk,⟨_,x.toInCall.ns,fun i y v h1 j h3=>?_⟩,fun y c h=>⟨_,x.cell y c h⟩,J.hok.fresh (Zq _),fun y c h=>?_,fun p hp=>absurd (show p∈([]:List (Addr×Obj)) from hp) (by simp),J.hok.kept hk,?_⟩
 ·exact name_of_addr x.apart (bI h1) (bI j)
 ·have Y:scope.names.lookup y=some .cell\/scope.names.lookup y=some .free:=Y
  rcases Y with Y|Y
  ·exact Zc8 Y
  ·exact absurd rfl (S.nofree _ (bI Y))
 ·exact cY (x.above y c (bI h))
 ·have hi:i<vs.length:=by
   unfold start at j;by_cases hi:i<vs.length
   ·exact hi
   ·rw[aw (by simpa using hi)] at j
    rw[bX] at j;split at j <;> cases j
  have ha:vs[i]?=some v:=by
   unfold start at j;rw[au (by simpa using hi),Zc] at j;cases e:vs[i]? with
   |none=>rw[e] at j;cases j
   |some a=>rw[e] at j;cases j;rfl
  obtain⟨u,hu,rv⟩:=r.get ha;have hp:M[i]?=some y:=by
   rw[<-S.pre,List.getElem?_take_of_lt (by omega)];exact h1
  have m5:M.Nodup:=by rw[<-S.pre];exact S.nd.sublist (jb _ _)
  refine⟨u,rv,?_⟩;rcases S.par y (aE hp) with k|k
  ·exact .inl ⟨k,ZaH m5 hp hu k⟩
  ·obtain⟨c,e⟩:=Zc8 (n:=s.heap.objs.size+1) k
   refine .inr ⟨.inl k,c,e,?_⟩;have q:=x.cell y c e;rw[ZaJ m5 hp hu (by show scope.names.lookup y≠_;rw[k];decide)] at q;exact q
 ·exact J.hok.fresh (cY (x.above y c (bI h)))
 ·unfold start
  show _=N.length;rw[Zd,Za,Ze];omega
theorem Zog {CX:CXT}{P:Program}{w:World}{K:aa}{mg:Str->Option Value}{base:Heap}{k:Nat}{f:Addr}{name j:Str}{params:Arguments}{body:List Stmt}{scope:cT}{dV kV m8 pm M ct oc:Value}{an od:Option Addr}
  {n9:Array (Option Value)}{N ps:List Str}{sp:Sp} (lk:K.lookup f=some ⟨oc,od,.func (cy name j params body scope dV kV m8 pm an M ct),n9⟩) (o0:eY K M j=true) (S:V4 N ps scope)
  (len:∀vs H Q E,sp vs H Q E->vs.length=ps.length)
  (m5:∀(A:Around) (outer:List Env) (s:Shared) (H:Hp) (vs:List V) (Q:VK) (E:XK),JQ k (A.deeper (envOfC j scope s.heap.objs.size f M))->sp vs H Q E->
   ∃t,PSs (Zc1 CX P w K mg base N j scope f M A outer s H E) body t/\t {nx:=fun _ Y=>Q .non Y,rt:=Q} (start N vs) H) :
  Ya P w K mg base CX (k+1) f (cy name j params body scope dV kV m8 pm an M ct) ps sp:=by
 refine⟨len,fun A outer s H args us vs Q E hr e0 hb r n6=>?_⟩;have hl:=len _ _ _ _ n6;have KX:K.In s.heap:=e0.mod.kin.keeps fun b o e=>(e0.bs b o e).1;have o5:s.heap.NoLimit:=e0.mod.nolimit.keeps fun b o e=>(e0.bs b o e).1;have m6:∀y∈ps.zip us,scope.names.lookup y.1=some .local\/(scope.names.lookup y.1=some .cell/\((cellsFrom (s.heap.objs.size+1) scope.names []).lookup y.1).isSome=true):=fun ⟨n,v⟩ hy=>by
  rcases S.par n (jG hy).1 with q|q
  ·exact .inl q
  ·exact .inr ⟨q,gL _ _ _ (.inl q)⟩
 refine codeAny_call_function hr.depth (KX _ _ lk) rfl S.co S.gen rfl (PySem.W.codeRec_of KX o0) (hb _ _ _ _ ?_);refine wpAny_newFunctionEnv_cells S.kind m6 fun env he s1 x=>?_;subst he;refine⟨o5.keeps x.toInCall.keep,codeAny_func ?_⟩;obtain⟨t,ht,hq⟩:=m5 A outer s H vs Q E (hr.deeper _) n6;have I:Inv (Zc1 CX P w K mg base N j scope f M A outer s H E) [] (start N vs) H s1:=Zf4 S hr.hd e0 hl r x;refine cH (ht [] s1 (start N vs) H _ I hq) (fun fl s' hs=>?_) fun e s' hs=>hs;have n8:∀{O:St}{Y:Hp}{v:V}{u:Value},Inv (Zc1 CX P w K mg base N j scope f M A outer s H E) [] O Y s'->RelV v u->Q v Y->CE outer P w H s Q u s':=
  fun {O Y v u} J rv q=>⟨v,Y,J.os,J.bare,J.base,J.hok,rv,q⟩
 cases fl with
 |ret u=>
  obtain⟨v,O,Y,J,rv,q⟩:=hs;exact n8 J rv q
 |next=>
  obtain⟨O,Y,J,q⟩:=hs;exact n8 (v:=V.non) (u:=bf) J rfl q
 |brk=>
  obtain⟨_,_,_,q⟩:=hs;exact dX q
 |cont=>
  obtain⟨_,_,_,q⟩:=hs;exact dX q
section
variable {X:Cx}{x:Str}{p pos:Pos}{e:Expr}{es:List Expr}{t:TA}{id T:String}{r:List V->Hp->VK->Prop}
noncomputable def tCB (r:List V->Hp->VK->Prop)(t:TA):TE:=fun j H Q=>t j H fun q J=>r q J Q
theorem ZhL (O:YN X (.builtin id) r)(Y:Gl X x)(hm:X.mg x=none)(hv:bootBuiltins x=some (.builtin id))(ha:PA X (e::es) t)(hn:x ≠ "__name__":=by decide)(q:(x == ("__debug__":Str))=false:=by decide)
  (he:starEach (e::es) X.env=(false,eval e X.env)::starEach es X.env:=by rfl) (J:(backTo pos (starEach es X.env)).any (·.1)=false:=by rfl):PE X (.Call (.Name x p) (e::es) [] pos) (tCB r t):=by
 intro j s M H Q I h;refine jw (JF I Y hm hv ?_ hn q);exact PyProof.Rows.callWith_builtin1 (Yq (ha pos j s M H _ I h) fun us s1 ⟨vs,H1,I1,r1,q1⟩=>O j s1 M H1 vs us Q I1 r1 q1) he J
theorem ZfL (O:YN X (.type T) r)(Y:Gl X x)(hm:X.mg x=none)(hv:bootBuiltins x=some (.type T))(ha:PA X (e::es) t)(hn:x ≠ "__name__":=by decide)(q:(x == ("__debug__":Str))=false:=by decide)
  (he:starEach (e::es) X.env=(false,eval e X.env)::starEach es X.env:=by rfl) (J:(backTo pos (starEach es X.env)).any (·.1)=false:=by rfl):PE X (.Call (.Name x p) (e::es) [] pos) (tCB r t):=by
 intro j s M H Q I h;refine jw (JF I Y hm hv ?_ hn q);exact bA (Yq (ha pos j s M H _ I h) fun us s1 ⟨vs,H1,I1,r1,q1⟩=>O j s1 M H1 vs us Q I1 r1 q1) he J
end
end L2
namespace HT
open PySem PyProof.Rows
section
open PySem.SeqAt
open PySem.AutoSeq1 (wpAny_loadPart')
open PySem.MeetsSeq PySem.MeetsSeq2 PySem.MeetsSeq3
end
section
variable {prog:Program}{w:World}{A:Around}{E:Value->Shared->Prop}{s:Shared}
noncomputable def U0 (n d:Nat):Option Int->Nat
 |none=>d
 |some v=>if v<0 then (v+(n:Int)).toNat else min v.toNat n
theorem Zhh (n d:Nat):U0 n d none=d:=rfl
theorem Zbc (n d k:Nat):U0 n d (some (k:Int))=min k n:=by
 show (if (k:Int)<0 then ((k:Int)+(n:Int)).toNat else min (k:Int).toNat n)=min k n
 rw[if_neg (by omega),Zj]
end
end HT
namespace L2
open PySem PySem.Spec PyProof.Rows
noncomputable abbrev TO:=St->Hp->(Option Int->Hp->Prop)->Prop
noncomputable def PO (X:Cx)(e:Option Expr)(t:TO):Prop:=
 ∀(j:List (Addr×Obj)) (s:Shared) (q:St) (H:Hp) (Q:Option Int->Hp->Prop),Inv X j q H s->t q H Q->
  wpAny (model X.prog X.w) X.A (evalPart e X.env) (fun u M=>∃o J,Inv X j q J M/\IsPart u o/\Q o J) X.xe s
noncomputable def Zjo:TO:=fun _ H Q=>Q none H
inductive iPt (Q:Option Int->Hp->Prop) (x:V) (H:Hp):Prop
 |mk (i:Int):x=.int i->Q (some i) H->iPt Q x H
noncomputable def Zny (t:TE):TO:=fun j H Q=>t j H (iPt Q)
theorem intsAre_of {ns:List Int}:∀{us:List Value},ZP (ns.map V.int) us->a8 us ns:=by
 induction ns with
 |nil=>intro us r;rw[gc] at r;cases r;exact .nil
 |cons n ns j=>
  intro us r;rw[aV] at r;cases r with
  |cons q J=>
   obtain⟨t,e⟩:=q;subst e;exact .cons n t (j J)
section
variable {X:Cx}{e:Expr}{te:TE}{lo hi:Option Expr}{tl th:TO}{pos p2:Pos}
theorem Zbl:PO X none Zjo:=by
 intro j s q H Q I h;rw[evalPart_none];exact Zm ⟨none,H,I,.none,h⟩
theorem Zbk (h:PE X e te):PO X (some e) (Zny te):=by
 intro j s J H Q I M;rw[evalPart_some];refine Yq (h j s J H _ I M) fun u s1 ⟨x,O,Y,r1,q1⟩=>?_;obtain⟨i,rfl,q⟩:=q1;obtain⟨t,rfl⟩:=r1;exact⟨some i,O,Y,.int i t,q⟩
noncomputable def SlR (X:Cx)(r:V->Option Int->Option Int->Hp->VK->Prop):Prop:=
 ∀(j:List (Addr×Obj)) (s:Shared) (q:St) (H:Hp) (x:V) (v J M:Value) (lo hi:Option Int) (O:Addr) (Q:VK),Inv X j q H s->RelV x v->s.heap.IsSliceOf O J M .none->IsPart J lo->IsPart M hi->r x lo hi H Q->
  ∃T id,typeLookup (.type T) "__getitem__"=pure (some (.builtin id))/\s.TypeIs v T/\wpAny (model X.prog X.w) X.A (getItem v (.ref O)) (EP X j q Q) X.xe s
noncomputable def tSl (r:V->Option Int->Option Int->Hp->VK->Prop)(te:TE)(tl th:TO):TE:=fun j H Q=>te j H fun x q=>tl j q fun l J=>th j J fun u M=>r x l u M Q
theorem Ux {r:V->Option Int->Option Int->Hp->VK->Prop}(hr:SlR X r)(he:PE X e te)(hl:PO X lo tl)(hu:PO X hi th):PE X (.Subscript e (.Slice lo hi none p2) pos) (tSl r te tl th):=by
 intro j s M H Q I h;refine Subscript_ (Yq (he j s M H _ I h) fun v s1 ⟨x,H1,I1,r1,q1⟩=>?_);refine wpAny_Slice (Yq (hl j s1 M H1 _ I1 q1) fun O s2 ⟨l,H2,I2,pl,q2⟩=>Yq (hu j s2 M H2 _ I2 q2) fun Y J ⟨u,H3,I3,pu,q3⟩=>?_);rw[evalPart_none];refine Zm ?_;have I4:Inv X j M H3 {J with heap:=J.heap.push {cls:=.type "slice",data:=.fields #[O,Y,.none]}}:=I3.kept (t':=J.toks) fun b ob q=>Zn _ q;obtain⟨T,id,hT,ht,hg⟩:=hr j {J with heap:=J.heap.push {cls:=.type "slice",data:=.fields #[O,Y,.none]}} M H3 x v O Y l u J.heap.objs.size Q I4 r1 (Heap.IsSliceOf.new ..) pl pu q3;show wpAny (model X.prog X.w) X.A (subscriptTail e (.Slice lo hi none p2) v (.ref J.heap.objs.size)) (EP X j M Q) X.xe {J with heap:=J.heap.push {cls:=.type "slice",data:=.fields #[O,Y,.none]}};exact tail_any (ops:=[.ref J.heap.objs.size,v]) ht hT hg (by with_unfolding_all rfl)
noncomputable def X6 (xs:List V)(lo hi:Option Int):List V:=(xs.drop (HT.U0 xs.length 0 lo)).take (HT.U0 xs.length xs.length hi-HT.U0 xs.length 0 lo)
theorem Zc3 (xs:List V)(lo hi:Option Int):(X6 xs lo hi).length<=xs.length:=by
 unfold X6;rw[bU,bB];omega
end
noncomputable def ixN (n:Nat)(i:Int):Option Nat:=if 0<=i then (if i<n then some i.toNat else none) else if -(n:Int)<=i then some (i+n).toNat else none
noncomputable def Vd {α:Type}(xs:List α)(i:Int):Option α:=(ixN xs.length i).bind fun j=>xs[j]?
theorem Ze2 {n:Nat}{i:Int}{j:Nat}(h:ixN n i=some j):seqIndex? i n=some j/\j<n/\-(n:Int)<=i/\i<n:=by
 unfold ixN at h;by_cases J:0<=i
 ·rw[if_pos J] at h
  by_cases q:i<n
  ·rw[if_pos q] at h
   have e:i.toNat=j:=aA h;exact⟨by rw[seqIndex_of J q,e],by omega,by omega,q⟩
  ·rw[if_neg q] at h;cases h
 ·rw[if_neg J] at h
  by_cases q:-(n:Int)<=i
  ·rw[if_pos q] at h
   have e:(i+n).toNat=j:=aA h;exact⟨by rw[seqIndex_neg (by omega) q,e],by omega,q,by omega⟩
  ·rw[if_neg q] at h;cases h
theorem Zfp {α:Type}{xs:List α}{i:Int}{v:α}(h:Vd xs i=some v):∃j,seqIndex? i xs.length=some j/\xs[j]?=some v/\j<xs.length/\-(xs.length:Int)<=i/\i<xs.length:=by
 unfold Vd at h;cases e:ixN xs.length i with
 |none=>rw[e] at h;cases h
 |some j=>
  rw[e] at h;obtain⟨q,J,M,O⟩:=Ze2 e;exact⟨j,q,h,J,M,O⟩
theorem ZK {α:Type}{xs:List α}{j:Nat}{v:α}(h:xs[j]?=some v):Vd xs (j:Int)=some v:=by
 have q:j<xs.length:=(ae.mp h).1;have e:ixN xs.length (j:Int)=some j:=by
  unfold ixN;rw[if_pos (by omega),if_pos (by omega)];simp
 unfold Vd;rw[e];exact h
theorem UY {α:Type}(xs:List α)(v:α):Vd (xs++[v]) (-1)=some v:=by
 have j:(xs++[v]).length=xs.length+1:=by simp
 have e:ixN (xs++[v]).length (-1)=some xs.length:=by
  unfold ixN;rw[j,if_neg (by decide),if_pos (by omega)];congr 1;omega
 unfold Vd;rw[e];show (xs++[v])[xs.length]?=some v;simp
noncomputable def ZkW (b:Expr):Prop:=∀o i,subscripted b false o i=operate [o,i] (getItem o i)
noncomputable def IxR (X:Cx)(r:R2):Prop:=
 ∀(J j:Expr) (q:List (Addr×Obj)) (s:Shared) (M:St) (H:Hp) (x y:V) (v u:Value) (Q:VK),Inv X q M H s->RelV x v->RelV y u->r x y H Q->
  subscripted j false v u=operate [v,u] (getItem v u)->wpAny (model X.prog X.w) X.A (subscriptTail J j v u) (EP X q M Q) X.xe s
noncomputable def MtR (X:Cx)(id:String)(r:V->List V->Hp->VK->Prop):Prop:=
 ∀(j:List (Addr×Obj)) (s:Shared) (q:St) (H:Hp) (x:V) (J:List V) (v:Value) (M:List Value) (Q:VK),Inv X j q H s->RelV x v->ZP J M->r x J H Q->
  wpAny (model X.prog X.w) X.A (call (.builtin id) (v::M)) (EP X j q Q) X.xe s
section
variable {X:Cx}{a b:Expr}{ta tb:TE}{pos:Pos}
theorem ZF {r:R2}(J:IxR X r)(M:PE X a ta)(hb:PE X b tb)(O:ZkW b):PE X (.Subscript a b pos) (tOp r ta tb):=by
 intro j s Y H Q I h;exact Subscript_ (Zm0 M hb I h fun v u s2 x y H2 I2 rx ry q=>J a b j s2 Y H2 x y v u Q I2 rx ry q (O _ _))
inductive Zl7 (K:aa) (x:V) (y:V) (H:Hp) (Q:VK):Prop
 |mk (p:_) (xs:_) (i:_) (v:_):(x=.ref p)->(y=.int i)->(W2 K H p xs)->(Vd xs i=some v)->(Q v H)->Zl7 K x y H Q
inductive Zl6 (K:aa) (x:V) (y:V) (H:Hp) (Q:VK):Prop
 |mk (p:_) (xs:_) (i:_) (v:_):(x=.ref p)->(y=.int i)->(XM K H p xs)->(Vd xs i=some v)->(Q v H)->Zl6 K x y H Q
theorem Zkx:IxR X (Zl7 X.K):=by
 intro O Y J s σ H x y v u Q I rx ry h hs;obtain⟨p,xs,i,z,rfl,rfl,hq,he,q⟩:=h;cases rx;obtain⟨t,rfl⟩:=ry;obtain⟨m5,r,pl,hz⟩:=I.list hq;obtain⟨j,M,h2,h3,h4,h5⟩:=Zfp he;obtain⟨w,ew,m6⟩:=r.get h2;have hl:=r.length;have hn:=XE;have fin:EP X J σ Q w s:=⟨z,H,I,m6,q⟩;by_cases h0:0<=i
 ·have hj:i.toNat=j:=by
   rw[seqIndex_of h0 h5] at M;exact aA M
  exact item_listR pl.isList h0 (by omega) (by rw[hj];simpa using ew) fin hs
 ·have hj:(i+(m5.toArray.size:Int)).toNat=j:=by
   rw[seqIndex_neg (by omega) h4] at M;rw[Zh,<-hl];exact aA M
  exact mD (x:=w) pl.isList.typeIs slot_list_getitem.lookup
   (wpAny_getItem_list_neg (Q:=fun r s'=>r=w/\EP X J σ Q r s') pl.isList (by omega) (by rw[Zh] <;> omega) (by omega) (by rw[hj];simpa using ew) ⟨rfl,fin⟩) hs
theorem ZmJ:IxR X (Zl6 X.K):=by
 intro M O J s σ H x y v u Q I rx ry h hs;obtain⟨p,xs,i,z,rfl,rfl,hq,he,q⟩:=h;cases rx;obtain⟨t,rfl⟩:=ry;obtain⟨m5,r,pl,hz⟩:=I.tuple hq;obtain⟨j,h1,h2,h3,h4,h5⟩:=Zfp he;obtain⟨w,ew,Y⟩:=r.get h2;have hl:=r.length;have hn:=XE;have fin:EP X J σ Q w s:=⟨z,H,I,Y,q⟩;exact mD (x:=w) pl.typeIs slot_tuple_getitem.lookup
  (getItem_tuple (j:=j) (Q:=fun r s'=>r=w/\EP X J σ Q r s') pl (by omega) (by omega) (by rw[Zh,<-hl];exact h1) (by simpa using ew) ⟨rfl,fin⟩) hs
theorem ZdY (q:List Value)(n j:Nat)(u:Value):cP (·.setIfInBounds j u) {cls:=.type "list",data:=.seq q.toArray n}={cls:=.type "list",data:=.seq (q.set j u).toArray n}:=by
 simp[cP]
theorem Inv.lst {q:List (Addr×Obj)}{σ:St}{H:Hp}{s:Shared}{p:Addr}{xs:List V}(I:Inv X q σ H s)(h:H p=some (.lst xs)) :
  ∃(j:List Value) (n:Nat),ZP xs j/\s.heap.get? p=some {cls:=.type "list",data:=.seq j.toArray n}/\xs.length<=sizeLine:=by
 obtain⟨z,j,n,r,e⟩:=I.hok p _ h;exact⟨j,n,r,e,z⟩
theorem Inv.lstUpd {j:List (Addr×Obj)}{σ:St}{H:Hp}{s:Shared}{p:Addr}{xs ys:List V}{J its':List Value}{n M:Nat}{f:Obj->Obj}(I:Inv X j σ H s)(h:H p=some (.lst xs))
  (O:s.heap.get? p=some {cls:=.type "list",data:=.seq J.toArray n}) (hf:f {cls:=.type "list",data:=.seq J.toArray n}={cls:=.type "list",data:=.seq its'.toArray M}) (r:ZP ys its') (hz:ys.length<=sizeLine) (t:Nat) :
  Inv X j σ (upd H p (.lst ys)) {s with heap:=s.heap.update p f,toks:=t}:=by
 have e:(s.heap.update p f).get? p=some {cls:=.type "list",data:=.seq its'.toArray M}:=by
  rw[bJ f O (by rw[hf] <;> rfl),hf]
 refine I.write (x:=p) (e:=p) (by rw[h];trivial) (.inl rfl) (fun b u hb q=>(b9 _ _ (bd hb)).trans q) ⟨_,e⟩ ?_;exact⟨hz,its',M,r,e⟩
inductive Zlm (o:V) (i:V) (v:V) (H:Hp) (Q:(Hp->Prop)):Prop
 |mk (p:_) (xs:_) (k:_) (j:_):(o=.ref p)->(i=.int k)->(H p=some (.lst xs))->(ixN xs.length k=some j)->(Q (upd H p (.lst (xs.set j v))))->Zlm o i v H Q
theorem YB:Zm8 X Zlm:=by
 intro J s σ H o i v ov iv u Q I ro ri rv h;obtain⟨p,xs,k,j,rfl,rfl,hp,hj,q⟩:=h;cases ro;obtain⟨t,rfl⟩:=ri;obtain⟨M,n,r,Y,hz⟩:=I.lst hp;obtain⟨O,h2,h3,h4⟩:=Ze2 hj;have hl:=r.length;have hn:=XE;have I':Inv X J σ (upd H p (.lst (xs.set j v))) {s with heap:=s.heap.update p (cP (·.setIfInBounds j u))}:=
  I.lstUpd hp Y (ZdY M n j u) (r.set rv j) (by rw[a9];exact hz) s.toks
 by_cases h0:0<=k
 ·have hk:k.toNat=j:=by
   rw[seqIndex_of h0 h4] at O;exact aA O
  exact PySem.W.ki_setAt Y h0 (by omega) (by rw[Zh,<-hl];exact h4) (by rw[hk];exact⟨_,I',q⟩)
 ·have hk:(k+(M.toArray.size:Int)).toNat=j:=by
   rw[seqIndex_neg (by omega) h3] at O;rw[Zh,<-hl];exact aA O
  exact PySem.W.ki_setBack Y (by omega) (by rw[Zh,<-hl];exact h3) (by omega) (by rw[hk];exact⟨_,I',q⟩)
theorem Za9 (lo j:Option Int)(n:Nat):(sliceBounds lo j none n).1=((HT.U0 n 0 lo:Nat):Int)/\(sliceBounds lo j none n).2.1=((HT.U0 n n j:Nat):Int)/\(sliceBounds lo j none n).2.2=1:=by
 refine⟨?_,?_,rfl⟩
 ·cases lo with
  |none=>simp[sliceBounds,HT.U0]
  |some i=>
   simp only[sliceBounds,HT.U0,l9,show (1:Int) > 0 by decide,if_true];by_cases h:i<0
   ·simp only[h,if_true] <;> omega
   ·simp only[h,if_false] <;> omega
 ·cases j with
  |none=>simp[sliceBounds,HT.U0]
  |some i=>
   simp only[sliceBounds,HT.U0,l9,show (1:Int) > 0 by decide,if_true];by_cases h:i<0
   ·simp only[h,if_true] <;> omega
   ·simp only[h,if_false] <;> omega
theorem U3 (j:List Value)(lo q:Option Int):slicePick j.toArray lo q none=((j.drop (HT.U0 j.length 0 lo)).take (HT.U0 j.length j.length q-HT.U0 j.length 0 lo)).toArray:=by
 obtain⟨J,M,O⟩:=Za9 lo q j.toArray.size;unfold slicePick;rw[J,M,O];simp only[sliceRange_one,pick_run,Zh] <;> rfl
inductive ZnU (K:aa) (x:V) (lo:Option Int) (hi:Option Int) (H:Hp) (Q:VK):Prop
 |mk (a:_) (xs:_):(x=.ref a)->(W2 K H a xs)->(∀p,H p=none->Q (.ref p) (upd H p (.lst (X6 xs lo hi))))->ZnU K x lo hi H Q
theorem Zba:SlR X (ZnU X.K):=by
 intro M s σ H x v vl vu lo J sl Q I Y hs pl pu h;obtain⟨a,xs,rfl,hx,q⟩:=h;cases Y;obtain⟨m5,r,O,hz⟩:=I.list hx;have j:=r.length;refine⟨"list",_,slot_list_getitem.lookup,O.isList.typeIs,?_⟩;refine wpAny_getItem_list_slice O.isList hs pl pu .none (by simp) ?_ (by rw[Zh] <;> omega)
 rw[U3,<-j];refine⟨.ref s.heap.objs.size,_,I.laid (t':=s.toks) (o:=.lst (X6 xs lo J)) (fun b ob q=>Zn _ q) (Zq _) ?_,rfl,q _ (I.hok.fresh (Zq _))⟩;exact⟨bm (Zc3 xs lo J) hz,_,0,(r.drop (HT.U0 xs.length 0 lo)).take (HT.U0 xs.length xs.length J-HT.U0 xs.length 0 lo),Zo _ rfl⟩
noncomputable def WY:V->Bool
 | .non=>true
 | .bl _=>true
 | .int _=>true
 | .str _=>true
 |_=>false
noncomputable def eqV:V->V->Bool
 | .non,.non=>true
 | .bl a,.bl b=>a == b
 | .bl a,.int b=>(if a then 1 else 0) == b
 | .int a,.bl b=>a == (if b then 1 else 0)
 | .int a,.int b=>a == b
 | .str a,.str b=>a == b
 |_,_=>false
theorem ZmQ {A:Around}{s:Shared}{y x:V}{u v:Value}(J:RelV y u)(j:RelV x v)(O:WY y=true)(M:WY x=true):kN A s u v (eqV y x):=by
 cases y with
 |non=>
  cases J;cases x with
  |non=>cases j;exact SeqAt.EqAt.same _
  |bl b=>cases j;exact SeqAt.EqAt.none_bool b
  |int b=>obtain⟨t,rfl⟩:=j;exact SeqAt.EqAt.none_int b t
  |str b=>obtain⟨t,rfl⟩:=j;exact SeqAt.EqAt.none_str b t
  |_=>exact absurd (show false=true from M) aJ
 |bl a=>
  cases J;cases x with
  |non=>cases j;exact SeqAt.EqAt.bool_none a
  |bl b=>cases j;exact SeqAt.EqAt.bool_bool a b
  |int b=>obtain⟨t,rfl⟩:=j;exact SeqAt.EqAt.bool_int a b t
  |str b=>obtain⟨t,rfl⟩:=j;exact SeqAt.EqAt.bool_str a b t
  |_=>exact absurd (show false=true from M) aJ
 |int a=>
  obtain⟨q,rfl⟩:=J;cases x with
  |non=>cases j;exact SeqAt.EqAt.int_none a q
  |bl b=>cases j;exact SeqAt.EqAt.int_bool a q b
  |int b=>obtain⟨t,rfl⟩:=j;exact fW a q b t
  |str b=>obtain⟨t,rfl⟩:=j;exact j7 a q b t
  |_=>exact absurd (show false=true from M) aJ
 |str a=>
  obtain⟨q,rfl⟩:=J;cases x with
  |non=>cases j;exact SeqAt.EqAt.str_none a q
  |bl b=>cases j;exact SeqAt.EqAt.str_bool a q b
  |int b=>obtain⟨t,rfl⟩:=j;exact j6 a q b t
  |str b=>obtain⟨t,rfl⟩:=j;exact SeqAt.EqAt.str_str a q b t
  |_=>exact absurd (show false=true from M) aJ
 |_=>exact absurd (show false=true from O) aJ
noncomputable def eqU (x:V)(u:Value):Bool:=match u with
 | .none=>eqV .non x
 | .bool b=>eqV (.bl b) x
 | .int i _=>eqV (.int i) x
 | .str z _=>eqV (.str z) x
 |_=>false
theorem ZbK {x y:V}{u:Value}(r:RelV y u)(f:WY y=true):eqU x u=eqV y x:=by
 cases y with
 |non=>cases r;rfl
 |bl b=>cases r;rfl
 |int i=>obtain⟨t,rfl⟩:=r;rfl
 |str z=>obtain⟨t,rfl⟩:=r;rfl
 |_=>exact absurd (show false=true from f) aJ
theorem ZbY {x:V}:∀{xs:List V}{us:List Value},ZP xs us->xs.all WY=true->us.any (eqU x)=xs.any fun y=>eqV y x
 |_,_,.nil,_=>rfl
 |y::xs,u::us,.cons r t,f=>by
  rw[List.all_cons,af] at f;rw[c6,c6,ZbK r f.1,ZbY t f.2]
theorem J0 {A:Around}{s:Shared}{x:V}{v:Value}(q:RelV x v)(J:WY x=true):∀{xs:List V}{us:List Value},ZP xs us->xs.all WY=true->∀u∈us,kN A s u v (eqU x u)
 |_,_,.nil,_=>fun u j=>by cases j
 |y::xs,u::us,.cons r t,f=>fun M j=>by
  rw[List.all_cons,af] at f;rcases aH.mp j with rfl|j
  ·rw[ZbK r f.1];exact ZmQ r q f.1 J
  ·exact J0 q J t f.2 M j
noncomputable def inV (x:V)(xs:List V):Bool:=xs.any fun y=>eqV y x
inductive rIn (K:aa) (neg:Bool) (x:V) (y:V) (H:Hp) (Q:VK):Prop
 |mk (p:_) (xs:_):(y=.ref p)->((W2 K H p xs\/XM K H p xs))->(WY x=true)->(xs.all WY=true)->(Q (.bl (if neg then !inV x xs else inV x xs)) H)->rIn K neg x y H Q
theorem Zbn:Ve X (compareOp .NotIn) (rIn X.K true):=by
 intro O s σ H x y v u Q I Y ry h;obtain⟨p,xs,rfl,J,fx,fs,q⟩:=h;cases ry;rcases J with J|J
 ·obtain⟨j,r,pl,hz⟩:=I.list J
  refine lR (eqU x) pl.isList (fun w M=>J0 Y fx r fs w (by simpa using M)) ⟨.bl _,H,I,rfl,?_⟩;rw[show j.toArray.any (eqU x)=j.any (eqU x) by simp,ZbY r fs];exact q
 ·obtain⟨j,r,pl,hz⟩:=I.tuple J
  refine lA (eqU x) pl (fun w M=>J0 Y fx r fs w (by simpa using M)) ⟨.bl _,H,I,rfl,?_⟩;rw[show j.toArray.any (eqU x)=j.any (eqU x) by simp,ZbY r fs];exact q
inductive I_call_len_seq (K:aa) (xs:List V) (H:Hp) (Q:VK):Prop
 |mk (p:_) (ys:_):(xs=[.ref p])->((W2 K H p ys\/XM K H p ys))->(Q (.int ys.length) H)->I_call_len_seq K xs H Q
theorem ZbU:YN X (.builtin "len") (_root_.L2.I_call_len_seq X.K):=by
 intro O s σ H xs us Q I r h;obtain⟨p,Y,rfl,j,q⟩:=h;obtain⟨u,rfl,rx⟩:=vals1 r;cases rx;have hn:=XE;rcases j with j|j
 ·obtain⟨J,M,pl,hz⟩:=I.list j
  have hlen:=M.length;exact Calls.call_len_list pl.isList (by simp only[Zh] <;> omega) ⟨.int Y.length,H,I.tok _,⟨s.toks+1,by rw[Zh,hlen]⟩,q⟩
 ·obtain⟨J,M,pl,hz⟩:=I.tuple j
  have hlen:=M.length;exact len_tuple pl (by simp only[Zh] <;> omega) ⟨.int Y.length,H,I.tok _,⟨s.toks+1,by rw[Zh,hlen]⟩,q⟩
inductive I_call_list_of (K:aa) (xs:List V) (H:Hp) (Q:VK):Prop
 |mk (p:_) (ys:_):(xs=[.ref p])->((W2 K H p ys\/XM K H p ys))->(∀l,H l=none->Q (.ref l) (upd H l (.lst ys)))->I_call_list_of K xs H Q
theorem JI:YN X (.type "list") (_root_.L2.I_call_list_of X.K):=by
 intro Y s σ H xs us Q I r h;obtain⟨p,ys,rfl,hq,q⟩:=h;obtain⟨u,rfl,rx⟩:=vals1 r;cases rx;have m5:∀(j:List Value),ZP ys j->ys.length<=sizeLine->∀(J:Heap) (M:Nat),(∀b o',s.heap.get? b=some o'->J.get? b=some o')->
   J.get? s.heap.objs.size=some {cls:=.type "list",dict:=none,data:=.seq j.toArray M,slots:=#[]}->EP X Y σ Q (.ref s.heap.objs.size) {s with heap:=J}:=fun j O hz J M kp e=>
  ⟨.ref s.heap.objs.size,_,I.laid (t':=s.toks) kp (Zq _) (show YD X.prog X.w _ J _ (.lst ys) from ⟨hz,j,M,O,e⟩),rfl,q _ (I.hok.fresh (Zq _))⟩
 rcases hq with hq|hq
 ·obtain⟨j,O,pl,hz⟩:=I.list hq
  have m6:=O.length;obtain⟨o,ho,hc,n,hd⟩:=pl.isList;exact call_list_seq p (.inl rfl) ho hc hd (fun J M kp e=>m5 j O hz J M kp e) (by simp only[Zh] <;> omega)
 ·obtain⟨j,O,pl,hz⟩:=I.tuple hq
  have m6:=O.length;obtain⟨o,ho,hc,n,hd⟩:=pl;exact call_list_seq p (.inr rfl) ho hc hd (fun J M kp e=>m5 j O hz J M kp e) (by simp only[Zh] <;> omega)
inductive I_call_tuple_of (K:aa) (xs:List V) (H:Hp) (Q:VK):Prop
 |mk (p:_) (ys:_):(xs=[.ref p])->(((W2 K H p ys/\∀l,H l=none->Q (.ref l) (upd H l (.tup ys)))\/(XM K H p ys/\Q (.ref p) H)))->I_call_tuple_of K xs H Q
theorem ZX:YN X (.type "tuple") (_root_.L2.I_call_tuple_of X.K):=by
 intro j s σ H xs us Q I r h;obtain⟨p,ys,rfl,h⟩:=h;obtain⟨u,rfl,rx⟩:=vals1 r;cases rx;rcases h with ⟨O,q⟩|⟨O,q⟩
 ·obtain⟨J,Y,pl,hz⟩:=I.list O
  have m5:=Y.length;refine call_tuple_list pl.isList (fun M kp=>?_) (by simp only[Zh] <;> omega)
  have I1:Inv X j σ H {s with heap:=M}:=I.kept (t':=s.toks) kp;have I2:Inv X j σ (upd H M.objs.size (.tup ys)) {s with heap:=M.push {cls:=.type "tuple",data:=.seq J.toArray}}:=
   I1.laid (t':=s.toks) (fun b o e=>Zn _ e) (Zq _) (show YD X.prog X.w _ _ _ (.tup ys) from ⟨hz,J,Y,ka _ _⟩)
  exact⟨.ref M.objs.size,_,I2,rfl,q _ (I1.hok.fresh (Zq _))⟩
 ·obtain⟨J,Y,pl,hz⟩:=I.tuple O
  exact call_tuple_same pl ⟨.ref p,H,I,rfl,q⟩
noncomputable def tyV (K:aa)(T:String)(x:V)(H:Hp):Prop:=match x with
 | .str _=>T = "str"
 | .int _=>T = "int"
 | .ref p=>(T = "list"/\∃q,W2 K H p q)\/(T = "tuple"/\∃o,K.lookup p=some o/\o.cls=.type "tuple"/\o.dict=none)\/
   (T = "dict"/\((∃j,H p=some (.dK j))\/∃j,H p=some (.dT j)))\/(T = "set"/\∃S n,H p=some (.set S n))
 |_=>False
theorem ZlJ {q:List (Addr×Obj)}{σ:St}{H:Hp}{s:Shared}{T:String}{x:V}{v:Value}(I:Inv X q σ H s)(r:RelV x v)(J:tyV X.K T x H) :
  s.TypeIs v T/\∀a,v=.ref a->∃Y,s.heap.get? a=some Y/\Y.dict=none:=by
 cases x with
 |str z=>
  obtain⟨t,rfl⟩:=r;cases (show T = "str" from J);exact⟨typeIs_str s z t,fun _ e=>nomatch e⟩
 |int i=>
  obtain⟨t,rfl⟩:=r;cases (show T = "int" from J);exact⟨typeIs_int s i t,fun _ e=>nomatch e⟩
 |ref p=>
  cases r;rcases J with ⟨rfl,xs,hq⟩|⟨rfl,o,j,hc,hd⟩|⟨rfl,j⟩|⟨rfl,S,n,j⟩
  ·obtain⟨m5,_,pl,_⟩:=I.list hq
   refine⟨pl.isList.typeIs,fun a e=>?_⟩;cases e;obtain⟨o,n,e,c,hd,_⟩:=pl;exact⟨o,e,hd⟩
  ·refine⟨⟨o,I.kIn p o j,hc⟩,fun a e=>?_⟩
   cases e;exact⟨o,I.kIn _ o j,hd⟩
  ·have z:∃o,s.heap.get? p=some o/\o.ExactDict:=by
    rcases j with ⟨M,j⟩|⟨M,j⟩
    ·obtain⟨_,_,_,_,o,_,_,e,ex,_⟩:=I.hok p _ j
     exact⟨o,e,ex⟩
    ·obtain⟨_,_,_,_,o,_,_,e,ex,_⟩:=I.hok p _ j
     exact⟨o,e,ex⟩
   obtain⟨o,e,ex⟩:=z;refine⟨⟨o,e,ex.1⟩,fun a O=>?_⟩;cases O;exact⟨o,e,ex.2.1⟩
  ·obtain⟨o,_,_,_,e,ex,_⟩:=I.hok p _ j
   refine⟨⟨o,e,ex.1⟩,fun a O=>?_⟩;cases O;exact⟨o,e,ex.2.1⟩
 |_=>exact dX J
inductive iBM (K:aa) (T:String) (r:V->List V->Hp->VK->Prop) (t:TA) (σ:St) (Q:VK) (x:V) (H:Hp):Prop
 |mk:tyV K T x H->(t σ H fun xs H2=>r x xs H2 Q)->iBM K T r t σ Q x H
noncomputable def tBM (K:aa)(T:String)(r:V->List V->Hp->VK->Prop)(q:TE)(t:TA):TE:=fun j H Q=>q j H (iBM K T r t j Q)
variable {o e:Expr}{es:List Expr}{to:TE}{t:TA}{name:Str}{apos cpos:Pos}{T id:String}{r:V->List V->Hp->VK->Prop}
theorem Wj (pa:PlainAttrs T)(slot:Slot T name id)(Y:typeOf (.builtin id)=pure (.type "method_descriptor"))(hm:MtR X id r)(ho:PE X o to)(ha:PA X (e::es) t)
  (J:attributeBase o name X.env (eval o X.env)=eval o X.env:=by rfl)
  (O:((backTo cpos (starEach (e::es) X.env)).all (fun x=>!x.1) && (backToKw cpos (keywordEach [] X.env)).all (fun x=>x.1.isSome)
   && decide ((e::es).length+([]:List Keyword).length+(if ([]:List Keyword).isEmpty then 0 else 1)<30))=true:=by rfl)
  (M:(apos.endLine == cpos.line)=true:=by rfl) (hs:starEach (e::es) X.env=(false,eval e X.env)::starEach es X.env:=by rfl) (q:(backTo cpos (starEach es X.env)).any (·.1)=false:=by rfl) :
  PE X (.Call (.Attribute o name apos) (e::es) [] cpos) (tBM X.K T r to t):=by
 intro j s σ H Q I h;refine mq J O M rfl (Yq (ho j s σ H _ I h) fun v s1 ⟨x,H1,I1,r1,ty,q1⟩=>?_);obtain⟨h1,h2⟩:=ZlJ I1 r1 ty;refine⟨T,id,pa,slot,Y,h1,h2,?_⟩;have hA:=ha cpos j s1 σ H1 _ I1 q1;rw[hs] at hA ⊢;refine kq (by show (false || (backTo cpos (starEach es X.env)).any (·.1))=false;rw[q] <;> rfl) (kW ?_)
 exact Yq hA fun us s2 ⟨vs,H2,I2,r2,q2⟩=>hm j s2 σ H2 x vs v us Q I2 r1 r2 q2
end
noncomputable def MtM (X:Cx)(id:String)(r:V->List V->Hp->VK->Prop):Prop:=
 ∀(j:List (Addr×Obj)) (s:Shared) (q:St) (H:Hp) (x:V) (J:List V) (v:Value) (M:List Value) (Q:VK),Inv X j q H s->RelV x v->ZP J M->r x J H Q->
  wpAny (model X.prog X.w) X.A (call (.builtin id) (v::M)) (EP X j q Q) X.xe s
theorem ZP.one {x:V}{us:List Value}(h:ZP [x] us):∃u,us=[u]/\RelV x u:=by
 cases h with
 |cons r t=>cases t;exact⟨_,rfl,r⟩
theorem ZP.rep {xs:List V}{us:List Value}(h:ZP xs us):∀k:Nat,ZP (av k xs).flatten (av k us).flatten
 |0=>.nil
 |k+1=>by
  rw[a6,a6,cg,cg];exact ZP.append h (ZP.rep h k)
theorem foldl_rep (j:List Value):∀(k:Nat) (ZH:List Value),
  mf (fun q J=>q++J) ZH.toArray (av k j.toArray)=(ZH++(av k j).flatten).toArray
 |0,ZH=>by simp
 |k+1,ZH=>by
  have e:ZH.toArray++j.toArray=(ZH++j).toArray:=by simp
  have M:(ZH++j)++(av k j).flatten=ZH++(av (k+1) j).flatten:=by
   rw[a6,cg,jf]
  rw[<-M,<-foldl_rep j k (ZH++j),<-e,a6,List.foldl_cons]
section
variable {X:Cx}{pins:List (Addr×Obj)}{σ:St}{H:Hp}{s:Shared}{l b:Addr}{xs ys zs:List V}
theorem Inv.lset {j its':List Value}{n:Nat}{f:Array Value->Array Value}{t':Nat}(I:Inv X pins σ H s)(J:H l=some (.lst xs))
  (e:s.heap.get? l=some {cls:=.type "list",data:=.seq j.toArray n}) (M:f j.toArray=its'.toArray) (O:ZP ys its') (hz:ys.length<=sizeLine) :
  Inv X pins σ (upd H l (.lst ys)) {s with heap:=s.heap.update l (cP f),toks:=t'}:=by
 have q:=PySem.IsL.update e f;rw[M] at q;refine I.write (x:=l) (e:=l) (by rw[J];exact trivial) (.inl rfl) (fun b' u hb Y=>(b9 s.heap (cP f) (bd hb)).trans Y) ⟨_,q⟩ ?_;exact⟨hz,its',_,O,q⟩
theorem Inv.lnew {j:List Value}{t':Nat}(I:Inv X pins σ H s)(J:ZP ys j)(hz:ys.length<=sizeLine) :
  Inv X pins σ (upd H s.heap.objs.size (.lst ys)) {s with heap:=s.heap.push {cls:=.type "list",data:=.seq j.toArray},toks:=t'}:=
 I.laid (fun _ _ q=>Zn _ q) (Zq _) ⟨hz,j,0,J,Zo _ rfl⟩
theorem Inv.fresh (I:Inv X pins σ H s):H s.heap.objs.size=none:=I.hok.fresh (Zq _)
theorem Inv.lstM (I:Inv X pins σ H s)(q:H l=some (.lst xs)):xs.length<=sizeLine/\∃(j:List Value) (n:Nat),ZP xs j/\xs.length=j.length/\s.heap.get? l=some {cls:=.type "list",data:=.seq j.toArray n}:=by
 obtain⟨z,j,n,r,e⟩:=I.hok l _ q;exact⟨z,j,n,r,r.length,e⟩
theorem ZcE {n:Nat}(h:n<=sizeLine):dS n=false:=by
 unfold dS;exact decide_eq_false (by omega)
end
section
variable {X:Cx}
inductive ZeH (x:V) (vs:List V) (H:Hp) (Q:VK):Prop
 |mk (l:_) (xs:_) (y:_):(x=.ref l)->(vs=[y])->(H l=some (.lst xs))->(xs.length<sizeLine)->(Q .non (upd H l (.lst (xs++[y]))))->ZeH x vs H Q
theorem Z7:MtM X "list.append" ZeH:=by
 intro J s σ H x vs v us Q I Y rv h;obtain⟨l,xs,y,rfl,rfl,M,hz,q⟩:=h;cases Y;obtain⟨u,rfl,ru⟩:=rv.one;obtain⟨z,j,n,r,hl,e⟩:=I.lstM M;refine fo aQ ⟨_,e,rfl⟩ F.entry_list_append (F.args_list_append_2 _ _) (PySem.list_append l j.toArray n u (by rw[Zh];omega)) ⟨e,?_⟩;refine⟨.non,_,I.lset (its':=j++[u]) M e (by simp) (r.append (.cons ru .nil)) ?_,rfl,q⟩;rw[Zd,Zk];omega
inductive ZeG (x:V) (vs:List V) (H:Hp) (Q:VK):Prop
 |mk (l:_) (b:_) (xs:_) (zs:_):(x=.ref l)->(vs=[.ref b])->(H l=some (.lst xs))->(H b=some (.lst zs))->(xs.length+zs.length<=sizeLine)->(Q .non (upd H l (.lst (xs++zs))))->ZeG x vs H Q
theorem Zf0:MtM X "list.extend" ZeG:=by
 intro Y s σ H x vs v us Q I rx rv h;obtain⟨l,b,xs,zs,rfl,rfl,hH,hB,hz,q⟩:=h;cases rx;obtain⟨u,rfl,ru⟩:=rv.one;cases ru;obtain⟨z,J,n,r,hl,e⟩:=I.lstM hH;obtain⟨z2,j,n2,r2,m6,e2⟩:=I.lstM hB;have O:J.toArray.size+j.toArray.size<=sizeLine:=by rw[Zh,Zh];omega
 have M:¬(!J.toArray.isEmpty && dS (J.toArray.size+j.toArray.size))=true:=by
  rw[ZcE O,jU];exact aJ
 refine fo kS ⟨_,e,rfl⟩ F.entry_list_extend (F.args_list_extend_2 _ _)
  (AutoSeq1.list_extend_list_list_0 l J.toArray n b j.toArray n2 M (by rw[Zh];omega) (by omega)) ⟨e,e2,?_⟩
 refine⟨.non,_,I.lset (its':=J++j) hH e (by simp) (r.append r2) ?_,rfl,q⟩;rw[Zd];omega
inductive ZnW (x:V) (y:V) (H:Hp) (Q:VK):Prop
 |mk (l:_) (b:_) (xs:_) (zs:_):(x=.ref l)->(y=.ref b)->(H l=some (.lst xs))->(H b=some (.lst zs))->(xs.length+zs.length<=sizeLine)->(∀p,H p=none->Q (.ref p) (upd H p (.lst (xs++zs))))->ZnW x y H Q
theorem Vh:Ve X (binaryOp .Add) ZnW:=by
 intro M s σ H x y v u Q I O Y h;obtain⟨l,b,xs,zs,rfl,rfl,hH,hB,hz,q⟩:=h;cases O;cases Y;obtain⟨z,J,n,r,hl,e⟩:=I.lstM hH;obtain⟨z2,j,n2,r2,m5,e2⟩:=I.lstM hB;refine PySem.P.add_list e e2 ?_ (by rw[Zh,Zh];omega);have ea:J.toArray++j.toArray=(J++j).toArray:=by simp
 rw[ea];exact⟨.ref _,_,I.lnew (t':=s.toks) (r.append r2) (by rw[Zd];omega),rfl,q _ I.fresh⟩
inductive ZnV (x:V) (y:V) (H:Hp) (Q:VK):Prop
 |mk (l:_) (k:_) (xs:_):(x=.ref l)->(y=.int k)->(H l=some (.lst xs))->(-(2 ^ 63)<=k)->(k<2 ^ 63)->(xs.length*k.toNat<=sizeLine)->(∀p,H p=none->Q (.ref p) (upd H p (.lst (av k.toNat xs).flatten)))->ZnV x y H Q
theorem ZeZ {α:Type}(xs:List α)(k:Nat):(av k xs).flatten.length=k*xs.length:=by
 induction k with
 |zero=>simp
 |succ k j=>rw[a6,cg,Zd,j,cC,ii]
theorem WD:Ve X (binaryOp .Mult) ZnV:=by
 intro m6 s σ H x y v u Q I rx ry h;obtain⟨l,k,xs,rfl,rfl,hH,h1,h2,hz,q⟩:=h;cases rx;obtain⟨t,rfl⟩:=ry;obtain⟨z,j,n,r,hl,e⟩:=I.lstM hH;have M:j.toArray.size*k.toNat<=sizeLine:=by rw[Zh,<-hl];exact hz
 have O:¬j.toArray.size*k.toNat > (2 ^ 63-1) / 8:=by
  have:(sizeLine:Nat)<=(2 ^ 63-1) / 8:=by decide
  omega
 have Y:¬(!fG k)=true:=by
  rw[fitsIndex_both h1 h2];exact aJ
 have J:¬dS (j.toArray.size*k.toNat)=true:=by
  rw[ZcE M];exact aJ
 have m5:mf (fun x1 x2=>x1++x2) #[] (av (if j.toArray.isEmpty=true then 0 else k.toNat) j.toArray)=(av k.toNat j).flatten.toArray:=by
  have f0:∀m:Nat,mf (fun x1 x2=>x1++x2) #[] (av m j.toArray)=(av m j).flatten.toArray:=fun m=>by
   have:=foldl_rep j m [];rw[List.nil_append] at this;exact this
  rw[f0];cases j with
  |nil=>simp
  |cons a r'=>rw[if_neg (by simp)]
 refine wpAny_binaryOp_repeat_ref (T:="list") (U:="int") (by decide) ⟨_,e,rfl⟩ (fun s'=>typeIs_int s' k t) noFill_list_mul F.fills_int_mul F.slot_int_rmul repeat_list F.slot_int_index.lookup
  (fo F.slot_int_rmul (typeIs_int s k t) F.entry_int_rmul (F.args_int_rmul_2 _ _) (int___rmul___int_list k t l j.toArray n)
   ⟨e,rfl,⟨_,e,rfl⟩,fo F.slot_list_mul ⟨_,e,rfl⟩ F.entry_list_mul (F.args_list_mul_2 _ _) (AutoListH.list___mul___list_int_3 l j.toArray n k t Y O J) ⟨e,?_⟩⟩)
 rw[m5];exact⟨.ref _,_,I.lnew (t':=s.toks) (r.rep k.toNat) (by rw[ZeZ,fu];exact hz),rfl,q _ I.fresh⟩
end
section
variable {prog:Program}{w:World}{A:Around}{E:Value->Shared->Prop}{s:Shared}
end
section
variable {X:Cx}
end
end L2
namespace Att
open PySem PySem.W PySem.Calls PyProof.Rows
theorem VN {P:Params}{h:Heap}:∀(ns:List Int) (vs:List Value),WellAll P h vs (ns.map WData.int)->a8 vs ns:=by
 intro ns;induction ns with
 |nil=>
  intro vs w;rw[gc] at w;cases w;exact .nil
 |cons n ns j=>
  intro vs w;rw[aV] at w;cases w with
  |cons a b=>
   cases a;exact .cons _ _ (j _ b)
theorem ZfD {l:gD}{n:Nat}(hn:l.most=some n){P:Params}{h:Heap}{args:List WData}{XO:List Value}
  (j:l.row.toRowW.claim.pre args=true) (Y:WellAll P h XO args) :
  ∃a vs ns,XO=[aC a]/\args=[WData.list (ns.map WData.int)]/\h.get? a=some {cls:=.type "list",data:=.seq vs.toArray}/\a8 vs ns/\ns.length<=n:=by
 have m5:WShape.hasAll [] args [.list .int]=true:=(pre_splitW j).1;have hc:l.pre.holds [] {args:=args}=true:=(pre_splitW j).2;obtain⟨d,r,rfl,h1,h2⟩:=hasAllW_cons m5;obtain rfl:=hasAllW_nil h2;obtain⟨xs,rfl,h3⟩:=hasW_list h1;obtain⟨ns,rfl⟩:=items_int h3;have hlen:ns.length<=n:=by
  unfold OpenLaw.pre at hc;have M:(WTm.not (.lt (.lit (.int (n:Int))) (.len (.arg 0)))).holds [] {args:=[.list (ns.map .int)]}=true:=by
   have M:=(holds_andW hc).1;rw[hn] at M;exact M
  have O:=condW_of M (w_not (w_lt w_lit (w_len_list (w_arg rfl))));rw[Za] at O;refine fM fun q=>?_;have q':(n:Int)<((ns.length:Nat):Int):=by omega
  first
   |(rw[decide_eq_true q'] at O;exact absurd O (by decide))
   |(simp at O;omega)
 cases Y with
 |cons w1 w2=>
  cases w2;cases w1 with
  |list ho J=>exact⟨_,_,ns,rfl,rfl,ho,VN ns _ J,hlen⟩
theorem ZfH (l:gD)(args:List WData):l.row.toRowW.claim.post args (.bool true) args=true:=
 postW_of (r:=l.row.toRowW) (X:=(true == true))
  (show WShape.has [] (.bool true) .bool=true by first|rfl|decide|simp[WShape.has,WShape.arms,WShape.armsAll])
  (show (WTm.eq .res (.lit (.bool true))).value [] {args:=args,res:=some (.bool true),after:=args}=some (.bool (true == true)) from w_eq_bool (w_res rfl) w_lit) rfl
theorem Zda {l:gD}{n:Nat}{q:Program}{loose:List Str}{XP:(Str->Option Value)->Heap->Prop}{YP:World->Heap->Prop}{d:DefRec}
  (hn:l.most=some n) (m6:d.params.defaults=[])
  (call:∀(w:World) (s₀ j:Shared) (mg mb:Str->Option Value) (M:Addr) (o:Obj) (pm cd J:Value) (a:Addr) (vs:List Value) (ns:List Int),
   Ground q loose [] XP w s₀ mg mb j.heap->YP w j.heap->
   j.heap.get? M=some o->o.data=.func (docDef d.name d.params d.body d.scope pm cd J)->j.heap.CodeRec cd d.name->mg d.name=some (.ref M)->
   j.heap.get? a=some {cls:=.type "list",data:=.seq vs.toArray}->a8 vs ns->ns.length<=n->j.gens=#[]->
   codeAny (model l.prog w) callerA (.call (.ref M) ⟨[.ref a],[]⟩) (fun r s'=>r=.ok (.ret (.bool true))/\OldK j.heap s'.heap/\s'.os=j.os/\iC s'.gens) j) :
  lP q loose XP YP l.row.toRowW d [] (fun f vs=>lL f vs):=by
 intro w s₀ j mg mb G Y M o pm cd J dV kV ho hd m8 hD n6 hg args XO as O n9 o0 n8 o5;obtain rfl:dV=.none:=Dflts.none hD m6;obtain rfl:kV=.none:=Dflts.noKw hD;obtain⟨a,vs,ns,rfl,rfl,m5,hints,hlen⟩:=ZfD hn O n8;refine enter_call (fK (call w s₀ j mg mb M o pm cd J a vs ns G Y ho (fd_plain hd) m8 n6 m5 hints hlen hg) fun r s' hq=>?_);obtain⟨rfl,h2,h3,h4⟩:=hq;exact⟨.inl ⟨.bool true,.bool true,[],rfl,fun _=>rfl,.bool true,ZfH l _,fun _=>⟨eG,fun _ hm=>(nomatch hm)⟩⟩,h2,h3,h4⟩
section
variable {prog:Program}{w:World}{A:Around}{E:Value->Shared->Prop}{s:Shared}{K:Frag}
end
end Att
namespace L2
open PySem PySem.Spec PyProof.Rows
theorem Zaf:∀{vs:List Value}{ns:List Int},a8 vs ns->ZP (ns.map V.int) vs
 |_,_,.nil=>.nil
 |_,_,.cons n t h=>.cons ⟨t,rfl⟩ (Zaf h)
noncomputable def Zna (H:Hp):Prop:=∀b,H b=none\/∃o j,H b=some (.frz o (.lst j))
theorem Zih {P:Program}{w:World}{K:aa}{mg mb:Str->Option Value}{CX:CXT}{k:Nat}{fa a:Addr}{fd:FuncData}{x:Str}{sp:Sp}{j:Shared}{vs:List Value}{ns:List Int}
  (KX:K.In j.heap) (m5:j.heap.Ns mainGlobals mg) (hb:j.heap.Ns builtinsNs mb) (n9:∀x:Str,x ≠ "__name__"->mb x=bootBuiltins x) (m6:j.heap.NoLimit) (hg:j.gens=#[])
  (ha:j.heap.get? a=some {cls:=.type "list",data:=.seq vs.toArray}) (hi:a8 vs ns) (hl:ns.length<=sizeLine) (hr:JQ k callerA)
  (F:∀base:Heap,K.In base->base.Ns mainGlobals mg->Ya P w K mg base CX k fa fd [x] sp) (Y:∀(s:Shared) (u:Value),ja s fd ⟨[u],[]⟩ [(x,u)])
  (o0:∀H:Hp,Zna H->W2 K H a (ns.map V.int)->sp [.ref a] H (fun v _=>v=.bl true) fun _ _ _=>False)
  (o5:∀H e s',CX [] H j (fun _ _ _=>False) e s'->False) :
  codeAny (model P w) callerA (.call (.ref fa) ⟨[.ref a],[]⟩) (fun r s'=>r=.ok (.ret (.bool true))/\OldK j.heap s'.heap/\s'.os=j.os/\iC s'.gens) j:=by
 have rv:=Zaf hi;have m8:=hi.length;have O:∀H:Hp,Zna H->W2 K H a (ns.map V.int)->Vb P w H j.heap->(∀b,H b≠none->b=a)->(H a≠none->K.lookup a=none)->
   codeAny (model P w) callerA (.call (.ref fa) ⟨[.ref a],[]⟩) (fun r s'=>r=.ok (.ret (.bool true))/\OldK j.heap s'.heap/\s'.os=j.os/\iC s'.gens) j:=by
  intro H hO hS hok hA hK;have J:∀{b:Addr}{o:Obj},j.heap.get? b=some o->H b=none->(ZbE j.heap H).get? b=some o:=fun e n=>Ziu e n;have o6:∀{b:Addr}{o:Obj}{es:Array DictEntry}{ep:Nat},j.heap.get? b=some o->o.data=.dict es ep->H b=none:=fun {b o es ep} e d=>by
   cases q:H b with
   |none=>rfl
   |some u=>
    have e':b=a:=hA b (by rw[q];simp);subst e';rw[ha] at e;cases e;have d':Data.seq vs.toArray _=Data.dict es ep:=d;cases d'
  have M:∀{b:Addr}{m:Str->Option Value},j.heap.Ns b m->(ZbE j.heap H).Ns b m:=fun {b m} ⟨o,es,ep,e,d,r⟩=>⟨o,es,ep,J e (o6 e d),d,r⟩;have n6:K.In (ZbE j.heap H):=fun b o e=>J (KX b o e) (by
   cases q:H b with
   |none=>rfl
   |some u=>
    have e':b=a:=hA b (by rw[q];simp);subst e';rw[hK (by rw[q];simp)] at e;cases e)
  have hM:Mod K mg (ZbE j.heap H):=⟨n6,M m5,⟨mb,M hb,n9⟩,let ⟨mc,h1,h2⟩:=m6;⟨mc,M h1,h2⟩⟩;have e0:ZkZ P w K mg (ZbE j.heap H) callerA [] j H:=⟨rfl,hM,fun b o e=>Zkd e,Nat.le_of_eq (Zf6 _ _),trivial,fun b hb=>absurd (show b∈([]:List Addr) from hb) (by simp),hok,.of_eq hg⟩;refine fK ((F _ n6 (M m5)).run callerA [] j H ⟨[.ref a],[]⟩ [.ref a] [.ref a] _ _ hr e0 (Y j (.ref a)) (.cons rfl .nil) (o0 H hO hS)) fun r s' h=>?_;cases r with
  |error e=>exact (o5 H e s' h).elim
  |ok fl=>
   cases fl with
   |next=>exact dX h
   |brk=>exact dX h
   |cont=>exact dX h
   |ret u=>
    obtain⟨v,H',os,bare,un,n8,r',q⟩:=h;have q':v=.bl true:=q;subst q';obtain rfl:u=iN true:=r';refine⟨rfl,OldK.of_keep fun b o e=>?_,os,bare⟩;cases q:H b with
    |none=>exact un.keep b o e q (by intro z;exact absurd (show b∈([]:List Addr) from z) (by simp)) (by simp)
    |some u=>
     rcases hO b with z|⟨ob,xs,z⟩
     ·rw[q] at z;cases z
     ·have z2:=un.frzs b ob _ z
      obtain⟨e1,_⟩:=hok b _ z;obtain⟨e2,_⟩:=n8 b _ z2;rw[e] at e1;cases e1;exact e2
 cases hk:K.lookup a with
 |some o=>
  have e:=KX a o hk;rw[ha] at e;cases e;refine O (fun _=>none) (fun _=>.inl rfl) (.inr ⟨_,vs.toArray,_,hk,rfl,rfl,rfl,by rw[Zh,m8];exact hl,by simpa using rv⟩) (fun b u z=>by have z':(none:Option HO)=some u:=z;cases z') (fun b z=>absurd rfl z) fun z=>absurd rfl z
 |none=>
  refine O (fun b=>if b=a then some (.frz {cls:=.type "list",data:=.seq vs.toArray} (.lst (ns.map V.int))) else none) (fun b=>?_) (.inl (.inr ⟨{cls:=.type "list",data:=.seq vs.toArray},if_pos rfl⟩)) (fun b u z=>?_) (fun b z=>?_) fun _=>hk
  ·by_cases hb:b=a
   ·exact .inr ⟨_,_,if_pos hb⟩
   ·exact .inl (if_neg hb)
  ·by_cases hb:b=a
   ·have z':=(if_pos hb).symm.trans z
    cases z';subst hb;exact⟨ha,by rw[Za];exact hl,vs,_,rv,ha⟩
   ·have z':=(if_neg hb).symm.trans z
    cases z'
  ·by_cases hb:b=a
   ·exact hb
   ·exact absurd (if_neg hb) z
theorem ZaM {l:gD}{n k:Nat}{q:Program}{loose:List Str}{XP:(Str->Option Value)->Heap->Prop}{YP:World->Heap->Prop}{d:DefRec}{K:Params->aa}{CX:World->CXT}{sp:World->Sp}{x:Str}
  (hn:l.most=some n) (m6:n<=sizeLine) (m8:d.params.defaults=[]) (hr:JQ k callerA)
  (hY:∀(w:World) (h:Heap),YP w h->(K w.params).In h)
  (F:∀(w:World) (M:Str->Option Value) (fa:Addr) (h:Heap),(K w.params).In h->h.Ns mainGlobals M->M d.name=some (.ref fa)->
   ∃fd:FuncData,(∀(s:Shared) (u:Value),ja s fd ⟨[u],[]⟩ [(x,u)])/\
    ∀base:Heap,(K w.params).In base->base.Ns mainGlobals M->Ya l.prog w (K w.params) M base (CX w) k fa fd [x] (sp w))
  (n6:∀(w:World) (H:Hp) (a:Addr) (ns:List Int),ns.length<=n->Zna H->W2 (K w.params) H a (ns.map V.int)->sp w [.ref a] H (fun v _=>v=.bl true) fun _ _ _=>False)
  (n8:∀(w:World) (H:Hp) (s:Shared) (e:Value) (s':Shared),CX w [] H s (fun _ _ _=>False) e s'->False) :
  lP q loose XP YP l.row.toRowW d [] (fun f vs=>lL f vs):=by
 refine Att.Zda hn m8 fun w o0 O M mb fa o pm cd o5 a vs ns G Y ho hd o6 n9 m5 J j hg=>?_;have KX:=hY w _ Y;obtain⟨fd,hb,hF⟩:=F w M fa _ KX G.T.g n9;exact Zih KX G.T.g G.T.b G.T.builtins G.T.nolimit hg m5 J (bm j m6) hr hF hb (fun H hO hS=>n6 w H a ns j hO hS) fun H e s'=>n8 w H O e s'
noncomputable def Wt (s:Stmt):Arguments:=match s with
 | .FunctionDef _ a _ _ _ _ _ _ _ _=>a
 |_=>{posonlyargs:=[],args:=[],vararg:=none,kwonlyargs:=[],kw_defaults:=[],kwarg:=none,defaults:=[]}
noncomputable def Wf (s:Stmt):List Stmt:=match s with
 | .FunctionDef _ _ b _ _ _ _ _ _ _=>b
 |_=>[]
noncomputable def ZZ (s:Stmt):cT:=match s with
 | .FunctionDef _ _ _ _ _ _ j _ _ _=>j
 |_=>{kind:=.function,names:=[],isGenerator:=false,isCoroutine:=false}
noncomputable abbrev Ym:CXT:=fun _ _ _ _ _ _=>False
noncomputable abbrev E0:XK:=fun _ _ _=>False
theorem ZL {X:Cx}:Zb0 Ym X E0:=fun _ _ _ _ _ _ _ h=>h.elim
structure WI (K:aa)(x qual:Str)(st:Stmt)(f:Addr)(fd:FuncData):Prop where
 ex:∃(oc:Value) (od:Option Addr) (kV doc pm:Value) (an:Option Addr) (cdv ct:Value) (osl:Array (Option Value)),
  fd=cy x qual (Wt st) (Wf st) (ZZ st) .none kV doc pm an cdv ct/\K.lookup f=some ⟨oc,od,.func fd,osl⟩/\eY K cdv qual=true
 kp:dP K (.ref f)=true
section
variable {P:Program}{w:World}{K:aa}{mg:Str->Option Value}{base:Heap}
theorem WI.ok {x j:Str}{st:Stmt}{f:Addr}{fd:FuncData}{N O:List Str}{k:Nat}{sp:Sp}(F:WI K x j st f fd)(S:V4 N O (ZZ st))(len:∀vs H Q E,sp vs H Q E->vs.length=O.length)
  (M:∀(J:Value) (A:Around) (outer:List Env) (s:Shared) (H:Hp) (vs:List V) (Q:VK) (E:XK),JQ k (A.deeper (envOfC j (ZZ st) s.heap.objs.size f J))->sp vs H Q E->
   ∃t,PSs (Zc1 Ym P w K mg base N j (ZZ st) f J A outer s H E).nox (Wf st) t/\t {nx:=fun _ H'=>Q .non H',rt:=Q} (start N vs) H):Ya P w K mg base Ym (k+1) f fd O sp:=by
 obtain⟨oc,od,kV,doc,pm,an,J,ct,m6,rfl,lk,Y⟩:=F.ex;refine Zog lk Y S len fun A outer s H vs Q E hr m5=>?_;obtain⟨t,h,q⟩:=M J A outer s H vs Q E hr m5;exact⟨t,h.nox,q⟩
theorem WI.binds {x j:Str}{st:Stmt}{f:Addr}{fd:FuncData}{J:List Str}(F:WI K x j st f fd)
  (h:∀(kV doc pm:Value) (an:Option Addr) (q ct:Value) (us:List Value),us.length=J.length->bindArgs (cy x j (Wt st) (Wf st) (ZZ st) .none kV doc pm an q ct) ⟨us,[]⟩=pure (J.zip us)):Binds K fd J []:=by
 obtain⟨Y,od,kV,doc,pm,an,q,ct,M,rfl,lk,O⟩:=F.ex;exact .all (h kV doc pm an q ct)
theorem Zd3 {x j:Str}{st:Stmt}{f:Addr}{M:Value}{O an:Option Addr}{J:Array (Option Value)}{kV doc pm q ct:Value}(l:K.lookup f=some ⟨M,O,.func (cy x j (Wt st) (Wf st) (ZZ st) .none kV doc pm an q ct),J⟩)
  (c:eY K q j=true) (k:dP K (.ref f)=true):WI K x j st f (cy x j (Wt st) (Wf st) (ZZ st) .none kV doc pm an q ct):=⟨⟨M,O,kV,doc,pm,an,q,ct,J,rfl,l,c⟩,k⟩
end
section
variable {X:Cx}
end
theorem YG {c A B:Prop} [Decidable c](j:c->A)(q:¬c->B):if c then A else B:=by
 by_cases h:c
 ·rw[if_pos h]
  exact j h
 ·rw[if_neg h]
  exact q h
noncomputable def Zv (H j:Hp):Prop:=∀b o,H b=some o->j b=some o
theorem Zv.refl (H:Hp):Zv H H:=fun _ _ h=>h
theorem Zv.trans {H j q:Hp}(a:Zv H j)(b:Zv j q):Zv H q:=fun c o h=>b c o (a c o h)
theorem Zv.free {H j:Hp}(e:Zv H j){l:Addr}(h:j l=Option.none):H l=Option.none:=by
 cases q:H l with
 |none=>rfl
 |some o=>
  rw[e l o q] at h;cases h
theorem Zv.seq {K:aa}{H j:Hp}{a:Addr}{xs:List V}(e:Zv H j)(h:W2 K H a xs):W2 K j a xs:=by
 rcases h with (h|⟨o,h⟩)|h
 ·exact .inl (.inl (e _ _ h))
 ·exact .inl (.inr ⟨o,e _ _ h⟩)
 ·exact .inr h
end L2
set_option maxHeartbeats 4000000
namespace L2
open PySem PySem.Spec PyProof.Rows
structure Jw (N:List Str)(esc:cT)(own:List Str)(caps:List Nat)(N':List Str)(sc:cT):Prop where
 kind:sc.kind=.function
 ndn:(sc.names.map (·.1)).Nodup
 uniq:∀y∈sc.names,y.2=.local->sc.names.lookup y.1=some .local
 nd:N'.Nodup
 eqN:N'=own++caps.map fun j=>N.getD j ""
 cap:∀j∈caps,j<N.length/\sc.names.lookup (N.getD j "")=some .free
 fr:∀y∈sc.names,y.2=.free->esc.names.lookup y.1=some .cell\/esc.names.lookup y.1=some .free
noncomputable def JP (J:List Str)(q:List Nat)(M:St):St:=av J.length none++q.map fun j=>(M[j]?).join
theorem XI {env:Env}:∀(names:List (Str×eO)) (ZH:List (Str×Addr)),(∀y∈names,y.2=.free->∃c,env.cells.lookup y.1=some c)->(∀y c,ZH.lookup y=some c->env.cells.lookup y=some c)->
  ∃cl,(forIn names ZH (fun x r=>if (x.2 == fq)=true then (do let c <-cellOf env x.1;pure (cN ((x.1,c)::r))) else pure (cN r)):Sem (List (Str×Addr)))=pure cl/\
   (∀y c,cl.lookup y=some c->env.cells.lookup y=some c)/\(∀y,(∃c,ZH.lookup y=some c)->∃c,cl.lookup y=some c)/\∀y∈names,y.2=.free->∃c,cl.lookup y.1=some c
 | [],ZH,_,M=>⟨ZH,rfl,M,fun _ h=>h,fun _ h=>absurd h (by simp)⟩
 | (n,k)::r,ZH,hn,M=>by
  rw[jH];by_cases hk:k=.free
  ·subst hk
   obtain⟨c,hc⟩:=hn (n,.free) ax rfl;have m5:∀y d,((n,c)::ZH).lookup y=some d->env.cells.lookup y=some d:=fun y d e=>by
    rw[de] at e;cases q:y == n with
    |true=>rw[q] at e;cases e;rw[beq_iff_eq.mp q];exact hc
    |false=>rw[q] at e;exact M y d e
   obtain⟨cl,e,h1,O,h3⟩:=XI r ((n,c)::ZH) (fun y j=>hn y (aq _ j)) m5;have hh:∀y,(∃d,ZH.lookup y=some d)->∃d,((n,c)::ZH).lookup y=some d:=fun y ⟨d,hd⟩=>by
    rw[de];cases q:y == n with
    |true=>exact⟨c,rfl⟩
    |false=>exact⟨d,hd⟩
   have hs:∃d,((n,c)::ZH).lookup n=some d:=⟨c,by rw[de,beq_self_eq_true]⟩;refine⟨cl,?_,h1,fun y j=>O y (hh y j),fun y j Y=>?_⟩
   ·have J:cellOf env n=pure c:=by simp only[cellOf,hc]
    simp only[beq_self_eq_true,if_true,J];simp only[pure_bind];exact e
   ·rcases aH.mp j with rfl|j
    ·exact O _ hs
    ·exact h3 y j Y
  ·obtain⟨cl,e,h1,O,h3⟩:=XI r ZH (fun y j=>hn y (aq _ j)) M
   refine⟨cl,?_,h1,O,fun y j Y=>?_⟩
   ·have hb:(k == fq)=false:=by simpa using hk
    simp only[hb,dB,if_false,pure_bind];exact e
   ·rcases aH.mp j with rfl|j
    ·exact absurd Y hk
    ·exact h3 y j Y
theorem UT {scope:cT}{env:Env}(h:∀y∈scope.names,y.2=.free->∃c,env.cells.lookup y.1=some c) :
  ∃cl,closureFor scope env=pure cl/\(∀y c,cl.lookup y=some c->env.cells.lookup y=some c)/\∀y∈scope.names,y.2=.free->∃c,cl.lookup y.1=some c:=by
 obtain⟨cl,e,j,_,J⟩:=XI (env:=env) scope.names [] h (fun y c e=>by simp at e);refine⟨cl,?_,j,J⟩;have q:closureFor scope env=((forIn scope.names ([]:List (Str×Addr)) (fun x r=>if (x.2 == fq)=true then (do let c <-cellOf env x.1;pure (cN ((x.1,c)::r))) else pure (cN r)):Sem (List (Str×Addr))) >>= fun M=>pure M):=rfl
 rw[q,e];rfl
theorem WW {names:List (Str×eO)}{x:Str}{k:eO}(h:names.lookup x=some k):(x,k)∈names:=bI h
theorem We {env:Env}{x:Str}:∀{names:List (Str×eO)}{k:eO},
  (names.map fun (n,k)=>if (k == fq && env.scope.kind == .function && env.kindOf n == some .cell) then (n,dk) else (n,k)).lookup x=some k->
  names.lookup x=some k\/(k=.cell/\names.lookup x=some .free)
 | [],_,h=>by simp at h
 | (n,j)::r,k,h=>by
  have O:=@We env x r k;have h:List.lookup x ((if (j == fq && env.scope.kind == .function && env.kindOf n == some .cell)=true then (n,dk) else (n,j))::_)=some k:=h
  rw[de];by_cases J:(j == fq && env.scope.kind == .function && env.kindOf n == some .cell)=true
  ·rw[if_pos J,de] at h
   have M:j=.free:=by
    simp only[af,beq_iff_eq] at J;exact J.1.1
   cases q:x == n with
   |true=>rw[q] at h;cases h;right;exact⟨rfl,by rw[M]⟩
   |false=>rw[q] at h;exact O h
  ·rw[if_neg J,de] at h
   cases q:x == n with
   |true=>rw[q] at h;cases h;left;rfl
   |false=>rw[q] at h;exact O h
section
variable {X:Cx}
noncomputable def ZiS (scope:cT)(x:Str):Bool:=scope.names.any fun y=>y.1 == x && (match y.2 with | .cell=>true|_=>false)
theorem Zgm {scope:cT}{x:Str}(h:ZiS scope x=true):(x,dk)∈scope.names:=by
 unfold ZiS at h;obtain⟨⟨n,k⟩,hm,j⟩:=aY.mp h;rw[af] at j;obtain⟨q,J⟩:=j;have e:n=x:=by simpa using q
 subst e;cases k <;> first|exact hm|cases J
theorem Vk {x:Str}{k:eO}:∀{names:List (Str×eO)},(names.map (·.1)).Nodup->(x,k)∈names->names.lookup x=some k
 | [],_,h=>by cases h
 | (n,j)::r,nd,h=>by
  rw[aV,bZ] at nd;rw[de];rcases aH.mp h with e|h
  ·cases e
   simp
  ·have:(x == n)=false:=by
    refine gC.mpr fun z=>nd.1 ?_;rw[<-beq_iff_eq.mp z];exact aN.mpr ⟨_,h,rfl⟩
   rw[this];exact Vk nd.2 h
theorem Xm:∀(names:List (Str×eO)) (n:Nat) (ZH:List (Str×Addr)),cellsFrom n names ZH=cellsFrom n names []++ZH
 | [],n,ZH=>rfl
 |(x,k)::r,n,ZH=>by
  unfold cellsFrom;by_cases j:(k == dk)=true
  ·rw[if_pos j,if_pos j,Xm r (n+1) ((x,n)::ZH),Xm r (n+1) [(x,n)],jf]
   rfl
  ·rw[if_neg j,if_neg j,Xm r n ZH]
theorem Vt {x:Str}{c:Addr}:∀(names:List (Str×eO)) (n:Nat) (ZH:List (Str×Addr)),(x,c)∈cellsFrom n names ZH->(x,dk)∈names\/(x,c)∈ZH
 | [],n,ZH,h=>.inr h
 | (y,k)::r,n,ZH,h=>by
  unfold cellsFrom at h;by_cases j:(k == dk)=true
  ·rw[if_pos j] at h
   rcases Vt r (n+1) _ h with z|z
   ·exact .inl (aq _ z)
   ·rcases aH.mp z with e|z
    ·cases e
     have:k=.cell:=by cases k <;> first|rfl|cases j
     rw[this];exact .inl ax
    ·exact .inr z
  ·rw[if_neg j] at h
   rcases Vt r n _ h with z|z
   ·exact .inl (aq _ z)
   ·exact .inr z
theorem Zkg {M:Model}{A:Around}{E:Value->Shared->Prop}{s:Shared}{scope:cT}{globals:Addr}{cl:List (Str×Addr)}{qual:Str}{j:Env}{Q:Env->Shared->Prop}
  (Y:Q (newEnv scope s.heap.objs.size globals (cellsFrom (s.heap.objs.size+1) scope.names cl) qual none .none (some j) builtinsNs) {s with heap:=pushCells (s.heap.push {cls:=.type "dict",data:=.dict #[]}) scope.names}) :
  wpAny M A (newFunctionEnv scope globals cl [] qual none .none (some j)) Q E s:=by
 unfold newFunctionEnv;refine Zl (wpAny_alloc ?_);refine Zl (wpAny_layCells _ (fun O kind q=>by cases J:kind == dk <;> simp[J]) _ _ _ _ ?_)
 rw[show ({s with heap:=s.heap.push {cls:=.type (if (some j).isSome=true then "dict" else "frame"),data:=.dict #[]}}:Shared).heap.objs.size=s.heap.objs.size+1 from bC ..]
 exact Zl (by rw[jR];exact Zm (Zm Y))
noncomputable def YX (X:Cx)(scope:cT)(j:List (Str×Addr))(q:List Str)(C:Addr)(s:Shared)(H:Hp)(ex:List Addr):Cx:=
 {X with N:=q,s₀:=s,H₀:=H,env:=compEnvC scope j C X.env,outer:=X.stack,ex:=ex,fn:=ZiS scope,pn:=[],xe:=fun _ _=>False}
noncomputable def W1 (m5:List Str)(q:List Nat)(g:TG)(tc:TT)(te:TE)(σ:St)(Q:VK)(J:It)(H1:Hp):Prop:=∀D,H1 D=none->
 ∃W:Nat->Nat->St->Hp->Prop,(∃m,W 0 m (JP m5 q σ) (upd H1 D (.lst [])))/\∀i m M O,W i m M O->
  (J.stop i O/\Q (.ref D) O)\/(J.go i O/\∃N:St->Hp->Prop,(∀ Y H2,N Y H2->∃m',m'<m/\W (i+1) m' Y H2)/\∀x H2,J.yld i O x H2->g x M H2 fun j H3=>tc j H3 fun b H4=>
   if b=true then te j H4 fun v H5=>∃xs,H5 D=some (.lst xs)/\xs.length<sizeLine/\N j (upd H5 D (.lst (xs++[v]))) else N j H4)
noncomputable def Zel (q:List Str)(j:List Nat)(O:TI)(g:TG)(Y:TT)(te:TE):TE:=fun M H Q=>O M H fun J H1=>W1 q j g Y te M Q J H1
noncomputable def WE:TT:=fun _ H Q=>Q true H
noncomputable def PIf (X:Cx)(q:List Expr)(t:TT):Prop:=
 ∀(j:List (Addr×Obj)) (s:Shared) (J:St) (H:Hp) (Q:Bool->Hp->Prop),Inv X j J H s->t J H Q->
  wpAny (model X.prog X.w) X.A (forIn q true fun c r=>if r=true then do let ok <-isTrue c X.env (eval c X.env);pure (cN ok) else pure (cN r)) (TP X j J Q) X.xe s
theorem Z0:PIf X [] WE:=fun _ _ _ H _ I h=>wpAny_tests_nil ⟨H,I,h⟩
theorem ZjK {c:Expr}{t:TT}(h:PT X c t):PIf X [c] t:=fun j s J H Q I q=>wpAny_tests_one (h j s J H Q I q)
theorem J7 {prog:Program}{w:World}{A:Around}{R:Result->Shared->Prop}{s:Shared}{elt j iter:Expr}{ifs:List Expr}{scope:cT}{pos:Pos}{it ZH:Value}{env:Env}(I:Nat->Shared->Prop)
  (turn:∀n s,I n s->wpAny (model prog w) A (pyNext it) (fun r q=>match r with
   |none=>R (.ok .next) q
   |some v=>wpAny (model prog w) A (letOwnedTupleGo j it v) (fun _ J=>wpAny (model prog w) A (assign j env v) (fun _ Y=>
     wpAny (model prog w) A (forIn ifs true fun c r=>if r=true then do let ok <-isTrue c env (eval c env);pure (cN ok) else pure (cN r)) (fun ok M=>
      if ok=true then wpAny (model prog w) A (eval elt env) (fun x m5=>
       wpAny (model prog w) A (call (.builtin "list.append") [ZH,x]) (fun _ m6=>∃m,m<n/\I m m6) (fun _ _=>False) m5) (fun _ _=>False) M
      else ∃m,m<n/\I m M) (fun _ _=>False) Y) (fun _ _=>False) J) (fun _ _=>False) q) (fun _ _=>False) s)
  (n:Nat) (h:I n s) :
  codeAny (model prog w) A (.compLoop (.ListComp elt [⟨j,iter,ifs,0⟩] scope pos) 0 it ZH env) R s:=by
 refine codeAny_loop rfl I (fun n s hI=>?_) n h;show wpAny _ A ((compTurn (.ListComp elt [⟨j,iter,ifs,0⟩] scope pos) 0 it ZH env).onRaise (fun x=>do noteFrame x env;theTreesLotGoes x)) _ _ s
 refine wpAny_noted ?_;rw[compTurn_list];refine Zl (jm (Zl (cH (turn n s hI) (fun r q m8=>?_) fun _ _ O=>O.elim)));cases r with
 |none=>exact Zm m8
 |some v=>
  refine Zl (cH m8 (fun _ J n8=>?_) fun _ _ O=>O.elim);refine Zl (cH n8 (fun _ Y n9=>Zl (cH n9 (fun ok M n6=>?_) fun _ _ O=>O.elim)) fun _ _ O=>O.elim);cases ok with
  |false=>exact Zm ⟨rfl,n6⟩
  |true=>
   exact Zl (Zl (cH n6 (fun x m5 o0=>Zl (cH o0 (fun _ m6 o5=>Zm (Zm ⟨rfl,o5⟩)) fun _ _ O=>O.elim)) fun _ _ O=>O.elim))
theorem UP {own:List Str}{o7:List Nat}{N':List Str}{esc scope:cT}{elt iter tg:Expr}{ifs:List Expr}{pos:Pos}{g:TG}{tc:TT}{te:TE}{cl:List (Str×Addr)}
  (hesc:X.env.scope=esc) (S:Jw X.N esc own o7 N' scope) (hc:X.calm=true)
  (m6:∀y c,cl.lookup y=some c->X.env.cells.lookup y=some c) (t6:∀y∈scope.names,y.2=.free->∃c,cl.lookup y.1=some c)
  (hg:∀cl C s H ex,PG (YX X scope cl N' C s H ex) tg g) (ht:∀cl C s H ex,PIf (YX X scope cl N' C s H ex) ifs tc) (he:∀cl C s H ex,PE (YX X scope cl N' C s H ex) elt te)
  {n6:List (Addr×Obj)}{σ:St}{H2:Hp}{s2:Shared}{it:Addr}{fp:List Addr}{tn:Nat->Heap->Prop}{J:It}{Q:VK}{RR:Value->Addr->Result->Shared->Prop}{E:Value->Shared->Prop}
  (I2:Inv X n6 σ H2 s2) (T:Zab X.prog X.w X.K tg J fp it tn) (u9:tn 0 s2.heap) (f2:∀b∈fp,Zad X n6 H2 b)
  (h:W1 own o7 g tc te σ Q J H2)
  (hRR:∀D C s' m H',s'.heap.Ns C m->C≠X.env.locals->(∀x c,X.env.cells.lookup x=some c->c≠C)->X.s₀.heap.objs.size<=C->(∀p∈X.pn++n6,p.1≠C)->H' C=none->Q (.ref D) H'->(∀h',bg C s'.heap h'->Inv X n6 σ H' {s' with heap:=h'})->RR (.ref D) C (.ok .next) s') :
  wpAny (model X.prog X.w) X.A (newList []) (fun ZH s₃=>wpAny (model X.prog X.w) X.A (newFunctionEnv scope X.env.globals cl [] X.env.qual none .none (some X.env)) (fun t7 s₄=>
   codeAny (model X.prog X.w) X.A (.compStart (.ListComp elt [⟨tg,iter,ifs,0⟩] scope pos) 0 (.ref it) ZH {t7 with scope:=relabel scope X.env}) (RR ZH t7.locals) s₄) E s₃) E s2:=by
 refine bQ (Zkg ?_)
 try dsimp only
 have hD:H2 s2.heap.objs.size=none:=I2.hok.fresh (Zq _);obtain⟨W,⟨m0,w0⟩,turn⟩:=h _ hD;generalize w8:s2.heap.push {cls:=.type "list",dict:=none,data:=.seq ([]:List Value).toArray}=O;have hC:O.objs.size=s2.heap.objs.size+1:=by rw[<-w8,bC]
 have t9:∀b o,s2.heap.get? b=some o->O.get? b=some o:=fun b o e=>w8▸Zn _ e;have I3:Inv X n6 σ (upd H2 s2.heap.objs.size (.lst [])) {s2 with heap:=O,toks:=s2.toks}:=
  I2.laid (t':=s2.toks) t9 (Zq _) ⟨bc _,[],0,.nil,w8▸Zo _ rfl⟩
 generalize w9:pushCells (O.push {cls:=.type "dict",data:=.dict #[]}) scope.names=n8;have k1:∀b o,O.get? b=some o->n8.get? b=some o:=fun b o e=>w9▸pushCells_keeps _ _ b o (Zn _ e);have p6:n8.Ns O.objs.size (fun _=>none):=w9▸(Heap.Ns.new O (.type "dict")).keeps (pushCells_keeps _ _);have p7:CellsOk n8 (O.objs.size+1) (cellsFrom (O.objs.size+1) scope.names []):=by
  have q:=cellsFrom_ok scope.names (O.push {cls:=.type "dict",data:=.dict #[]}) (O.objs.size+1) [] ⟨fun _ _ hm=>(nomatch hm),eG⟩ (by rw[bC];exact Zq _);rw[bC,w9] at q;exact q
 have o8:cellsFrom (O.objs.size+1) scope.names cl=cellsFrom (O.objs.size+1) scope.names []++cl:=Xm _ _ _;have o0:∀y,scope.names.lookup y=some .cell->∃c,(cellsFrom (O.objs.size+1) scope.names []).lookup y=some c:=fun y hy=>gt.mp (gL scope.names (O.objs.size+1) [] (.inl hy));generalize hcA:cellsFrom (O.objs.size+1) scope.names []=cA at p7 o8 o0;have memA:∀y c,cA.lookup y=some c->(y,dk)∈scope.names:=fun y c e=>by
  have:=bI e;rw[<-hcA] at this;rcases Vt _ _ _ this with z|z
  ·exact z
  ·cases z
 generalize hcE:cellsFrom (O.objs.size+1) scope.names cl=cE at o8;have o9:∀y c,cE.lookup y=some c->cA.lookup y=some c\/(cA.lookup y=none/\cl.lookup y=some c):=fun y c e=>by
  rw[o8,iT] at e;cases q:cA.lookup y with
  |none=>rw[q] at e;exact .inr ⟨rfl,by simpa using e⟩
  |some c'=>rw[q] at e;exact .inl (by simpa using e)
 have lkF:∀y c,scope.names.lookup y=some .free->cl.lookup y=some c->cE.lookup y=some c:=fun y c hy e=>by
  rw[o8,iT];cases q:cA.lookup y with
  |none=>simpa using e
  |some c'=>
   have:=Vk S.ndn (memA y c' q);rw[hy] at this;cases this
 have fpn:∀b∈fp,upd H2 s2.heap.objs.size (.lst []) b=none:=fun b hb=>by
  obtain⟨o,ho,_⟩:=T.obj _ _ u9 b hb;rw[Zz (aD (Zp ho))];exact (f2 b hb).1
 have p3:∀b∈fp,b<O.objs.size:=fun b hb=>by
  obtain⟨o,ho,_⟩:=T.obj _ _ u9 b hb;rw[hC];exact fv (Zp ho)
 generalize M:YX X scope cE N' O.objs.size {s2 with heap:=O,toks:=s2.toks} (upd H2 s2.heap.objs.size (.lst [])) fp=X';have hfs:X'.fs=frs X.stack:=by rw[<-M];rfl
 have x9:∀y,X'.env.kindOf y=some .cell\/X'.env.kindOf y=some .free->∃c,cE.lookup y=some c:=fun y hy=>by
  have hy':(relabel scope X.env).names.lookup y=some .cell\/(relabel scope X.env).names.lookup y=some .free:=by rw[<-M] at hy;exact hy
  have hf:scope.names.lookup y=some .free->∃c,cE.lookup y=some c:=fun hf=>by
   obtain⟨c,o5⟩:=t6 _ (WW hf) rfl;exact⟨c,lkF y c hf o5⟩
  have p8:scope.names.lookup y=some .cell->∃c,cE.lookup y=some c:=fun hf=>by
   obtain⟨c,o5⟩:=o0 y hf;exact⟨c,by rw[o8,iT,o5];rfl⟩
  rcases hy' with q|q
  ·rcases We q with z|z
   ·exact p8 z
   ·exact hf z.2
  ·rcases We q with z|z
   ·exact hf z
   ·exact absurd z.1 (by decide)
 have m8:X'.env.cells=cE:=by rw[<-M];rfl
 have n9:X'.env.locals=O.objs.size:=by rw[<-M];rfl
 have cne:∀x c,cl.lookup x=some c->c≠O.objs.size/\c<O.objs.size:=fun x c e=>by
  obtain⟨v,q⟩:=I3.cell x c (m6 x c e);exact⟨aD q.lt,q.lt⟩
 have Y:∀x c,cA.lookup x=some c->O.objs.size+1<=c:=fun x c e=>(p7.empty x c (bI e)).2;have injE:∀x y c,cE.lookup x=some c->cE.lookup y=some c->x=y:=fun x y c a b=>by
  rcases o9 x c a with a|⟨_,a⟩ <;> rcases o9 y c b with b|⟨_,b⟩
  ·exact name_of_addr p7.apart (bI a) (bI b)
  ·have h1:O.objs.size+1<=c:=Y x c a
   exact absurd (aG (cne y c b).2 (dU h1)) (bV _)
  ·have h1:O.objs.size+1<=c:=Y y c b
   exact absurd (aG (cne x c a).2 (dU h1)) (bV _)
  ·exact I3.ok.inj x y c (m6 x c a) (m6 y c b)
 have ok':X'.Ok:=by
  refine M▸⟨I3.ok.mod,S.kind,I3.ok.glob,I3.ok.blt,Zq _,injE,?_,?cab,I3.ok.hd,I3.ok.frames,.inl rfl,?_,?_,?_,?_,?_,I3.stack,I3.stkFree⟩
  ·intro y hy
   exact x9 y (by rw[<-M];exact hy)
  ·intro x c z e
   have hm:=Vk S.ndn (Zgm z);rcases o9 x c e with e|⟨n,_⟩
   ·exact dU (Y x c e)
   ·obtain⟨c',o5⟩:=o0 x hm
    rw[n] at o5;cases o5
  ·intro b hb
   refine⟨aD (p3 b hb),fun x c e=>?_⟩;rcases o9 x c e with e|⟨_,e⟩
   ·have h1:O.objs.size+1<=c:=Y x c e
    exact fun z=>absurd (aG (p3 b hb) (dU h1)) (by rw[z];exact bV _)
   ·exact (f2 b hb).2.2.2.2.1 x c (m6 x c e)
  ·exact I3.bs
  ·exact bm I3.ok.bsz I3.sz
  ·intro b o e hb
   rcases (f2 b hb).2.2.2.1 with z|z
   ·exact I3.ok.noex b o e z
   ·exact absurd (aG (Zp e) (bm I3.ok.bsz z)) (bV _)
  ·intro b hb z
   rcases aH.mp (I3.stkSub b z) with e|e
   ·exact (f2 b hb).2.1 e
   ·exact (f2 b hb).2.2.1 e
 have I4:Inv X' [] (JP own o7 σ) (upd H2 s2.heap.objs.size (.lst [])) {s2 with heap:=n8,toks:=s2.toks}:=by
  refine⟨ok',M▸rfl,I3.bare,?_,⟨_,by rw[n9];exact p6,?_⟩,?_,?_,?_,?_,?_,?_⟩
  ·rw[<-M];exact Un.kept k1
  ·intro i x v hN o6 hV
   have y4:N'[i]?=some x:=by rw[<-M] at hN;exact hN
   unfold JP at o6;by_cases hi:i<own.length
   ·rw[au (by simpa using hi),bX] at o6
    rw[if_pos hi] at o6;cases o6
   ·rw[aw (by simpa using hi),Ze,Zc] at o6
    rw[S.eqN,aw (by omega),Zc] at y4;cases hj:o7[i-own.length]? with
    |none=>rw[hj] at o6;cases o6
    |some j=>
     rw[hj] at o6 y4;have hx:X.N.getD j ""=x:=aA y4;obtain⟨hjl,p4⟩:=S.cap j (aE hj);rw[hx] at p4;have hjN:X.N[j]?=some x:=by
      rw[Zf hjl,<-hx,Zb,Zf hjl];rfl
     have hv:σ[j]?=some (some v):=by
      have q:(σ[j]?).join=some v:=aA o6;cases q':σ[j]? with
      |none=>rw[q'] at q;cases q
      |some o=>rw[q'] at q;rw[show o=some v from q]
     have y6:=S.fr (x,.free) (WW p4) rfl;rw[<-hesc] at y6;obtain⟨m,hn,hl⟩:=I3.loc;have visX:Vis X.env.scope x:=y6.elim (fun z=>.inr (.inl z)) fun z=>.inr (.inr z);obtain⟨u,ru,look⟩:=hl j x v hjN hv visX;refine⟨u,ru,?_⟩;obtain⟨c,p8⟩:=t6 (x,.free) (WW p4) rfl;rcases look with ⟨a,_⟩|⟨_,c',o5,y8⟩
     ·rcases y6 with z|z
      ·rw[show X.env.kindOf x=X.env.scope.names.lookup x from rfl,z] at a;cases a
      ·rw[show X.env.kindOf x=X.env.scope.names.lookup x from rfl,z] at a;cases a
     ·have:c'=c:=by rw[m6 _ _ p8] at o5;cases o5;rfl
      subst this;refine .inr ⟨?_,c',by rw[m8];exact lkF _ _ p4 p8,y8.keeps k1⟩;rcases hV with q|q|q
      ·have q':(relabel scope X.env).names.lookup x=some .local:=by rw[<-M] at q;exact q
       rcases We q' with z|z
       ·rw[p4] at z;cases z
       ·exact absurd z.1 (by decide)
      ·exact .inl q
      ·exact .inr q
  ·intro x c e
   rw[m8] at e;rcases o9 x c e with e|⟨_,e⟩
   ·exact⟨_,(p7.empty x c (bI e)).1⟩
   ·obtain⟨v,q⟩:=I3.cell x c (m6 x c e)
    exact⟨v,q.keeps k1⟩
  ·rw[n9];exact I3.hok.fresh (Zq _)
  ·intro x c e
   rw[m8] at e;rcases o9 x c e with e|⟨_,e⟩
   ·exact I3.hok.fresh (dU (Y x c e))
   ·exact I3.freeC x c (m6 x c e)
  ·intro p hp
   have:p∈([]:List (Addr×Obj)):=by rw[<-M] at hp;exact hp
   cases this
  ·rw[<-M];exact I3.hok.kept k1
  ·rw[<-M]
   show (JP own o7 σ).length=N'.length;unfold JP;rw[S.eqN,Zd,Zd,Ze,Za,Za]
 have pX:X'.prog=X.prog:=by rw[<-M];rfl
 have wX:X'.w=X.w:=by rw[<-M];rfl
 have KX:X'.K=X.K:=by rw[<-M];rfl
 have AX:X'.A=X.A:=by rw[<-M];rfl
 have cX:X'.calm=true:=by rw[<-M];exact hc
 have xX:X'.xe=fun _ _=>False:=by rw[<-M];rfl
 have envX:X'.env=compEnvC scope cE O.objs.size X.env:=by rw[<-M];rfl
 have exX:X'.ex=fp:=by rw[<-M];rfl
 have hg':PG X' tg g:=M▸hg _ _ _ _ _;have ht':PIf X' ifs tc:=M▸ht _ _ _ _ _;have he':PE X' elt te:=M▸he _ _ _ _ _;have y9:∀{H':Hp},(∀b∈fp,H' b=none)->∀b∈fp,Zad X' [] H' b:=fun {H'} hn b hb=>by
  refine⟨hn b hb,?_,?_,?_,?_,?_⟩
  ·rw[n9];exact aD (p3 b hb)
  ·rw[hfs];intro z
   rcases aH.mp (I3.stkSub b z) with e|e
   ·exact (f2 b hb).2.1 e
   ·exact (f2 b hb).2.2.1 e
  ·rw[exX];exact .inl hb
  ·intro x c e
   rw[m8] at e;rcases o9 x c e with e|⟨_,e⟩
   ·have h1:O.objs.size+1<=c:=Y x c e
    exact fun z=>absurd (aG (p3 b hb) (dU h1)) (by rw[z];exact bV _)
   ·exact (f2 b hb).2.2.2.2.1 x c (m6 x c e)
  ·intro p hp
   have:p∈([]:List (Addr×Obj)):=by rw[<-M] at hp;exact hp
   cases this
 have st1:tn 0 n8:=T.keep _ _ _ u9 fun b hb o e=>k1 b o (t9 b o e);have back:∀{m5:St}{H':Hp}{s':Shared}{pp:List (Addr×Obj)}{h':Heap},Inv X' pp m5 H' s'->bg O.objs.size s'.heap h'->Inv X n6 σ H' {s' with heap:=h'}:=fun {m5 H' s' pp h'} I' sb=>by
  have u:=I'.base;rw[hfs,exX] at u;have hs0:X'.s₀.heap=O:=by rw[<-M];rfl
  have hH0:X'.H₀=upd H2 s2.heap.objs.size (.lst []):=by rw[<-M];rfl
  rw[hs0,hH0] at u;have ne:∀b o,O.get? b=some o->b≠O.objs.size:=fun b o e=>aD (Zp e);have hCn:H' O.objs.size=none:=by have:=I'.free;rw[n9] at this;exact this
  refine I3.call' (s':={s' with heap:=h'}) (ch:=fp) ?_ ⟨?_,?_,?_,?_,?_,?_,?_⟩ ?_ I'.bare ?_
  ·have:=I'.os;rw[<-M] at this;exact this
  ·intro b o e n hb hx;exact sb.extBut b o (ne b o e) (u.keep b o e n hb hx)
  ·intro b o e n hb hx
   obtain⟨sl,q⟩:=u.slot b o e n hb hx;exact⟨sl,sb.extBut b _ (ne b o e) q⟩
  ·exact u.free
  ·intro b o e hx
   obtain⟨o',q⟩:=u.there b o e hx;exact⟨o',sb.extBut b _ (ne b o e) q⟩
  ·exact u.tups
  ·exact u.frzs
  ·exact u.tbls
  ·have hok:=I'.hok
   rw[pX,wX] at hok;intro a o e;refine (hok a o e).stay (fun b v hb r=>sb.extBut b v ?_ r) (fun b r=>r) fun b xs r=>r;rcases hb with rfl|hb
   ·intro z;rw[z,hCn] at e;cases e
   ·intro z;rw[z,hCn] at hb;cases hb
  ·intro b hb
   refine⟨(f2 b hb).2.2.2.1,(f2 b hb).2.1,(f2 b hb).2.2.2.2.1,(f2 b hb).2.2.2.2.2⟩
 have u5:∀s3:Shared,s3={s2 with heap:=n8,toks:=s2.toks}->
   codeAny (model X.prog X.w) X.A (.compLoop (.ListComp elt [⟨tg,iter,ifs,0⟩] scope pos) 0 (.ref it) (.ref s2.heap.objs.size) (compEnvC scope cE O.objs.size X.env)) (RR (.ref s2.heap.objs.size) O.objs.size) s3:=by
  rintro s3 rfl;refine J7 (fun n s'=>∃i m5 H',Inv X' [] m5 H' s'/\tn i s'.heap/\(∀b∈fp,H' b=none)/\W i n m5 H') ?_ m0 ⟨0,_,_,I4,st1,fpn,w0⟩;rintro n s5 ⟨i,q0,H5,I5,st5,fr5,w5⟩;rcases turn i n q0 H5 w5 with ⟨stop,qn⟩|⟨go,N,hN,step⟩
  ·have q:=T.done X' pX wX KX cX i [] s5 q0 H5 (fun _ _=>False) I5 (y9 fr5) st5 stop
   rw[AX] at q;refine Yq q fun r s6 ⟨hr,I6⟩=>?_;subst hr;obtain⟨m,hn,_⟩:=I6.loc;rw[n9] at hn;refine hRR _ _ s6 m H5 hn ?_ ?_ I3.sz ?_ ?_ qn fun h' sb=>back I6 sb
   ·exact bh I3.lt
   ·intro x c e
    obtain⟨v,q⟩:=I3.cell x c e;exact aD q.lt
   ·intro pp hpp
    exact aD (Zp (I3.pin pp hpp).1)
   ·have:=I6.free;rw[n9] at this;exact this
  ·have q:=T.item X' pX wX KX cX i [] s5 q0 H5 (fun _ _=>False) I5 (y9 fr5) st5 go
   rw[AX] at q;refine Yq q fun r s6 ⟨u,hr,h6⟩=>?_;subst hr;refine Yq h6 fun _ s7 ⟨x,H7,I7,r7,y7,st7,fr7⟩=>?_;have I7':=I7.pinned (y9 fr7) (T.obj _ _ st7);have q8:=hg' _ s7 q0 H7 x u _ I7' r7 (step x H7 y7);rw[pX,wX,AX,envX,xX] at q8;refine Yq q8 fun _ s8 ⟨r6,H8,I8,q8⟩=>?_;have q9:=ht' _ s8 r6 H8 _ I8 q8;rw[pX,wX,AX,envX,xX] at q9;have again:∀{m5:St}{H':Hp}{s':Shared},Inv X' ([]++Uw fp s7.heap) m5 H' s'->N m5 H'->∃m,m<n/\∃i m5 H',Inv X' [] m5 H' s'/\tn i s'.heap/\(∀b∈fp,H' b=none)/\W i m m5 H':=fun {m5 H' s'} I' n'=>by
    obtain⟨m',hm,w'⟩:=hN m5 H' n';refine⟨m',hm,i+1,m5,H',I'.unpinned,T.keep _ _ _ st7 fun b hb o e=>(I'.pin (b,o) (aS _ (aS _ (JE hb e)))).1,fun b hb=>?_,w'⟩;obtain⟨o,e,d⟩:=T.obj _ _ st7 b hb;exact (I'.pin (b,o) (aS _ (aS _ (JE hb e)))).2.1
   refine Yq q9 fun ok s9 ⟨H9,I9,q9⟩=>?_;cases ok with
   |false=>
    simp only[dB,if_false] at q9 ⊢;exact again I9 q9
   |true=>
    simp only[if_true] at q9 ⊢;have r8:=he' _ s9 r6 H9 _ I9 q9;rw[pX,wX,AX,envX,xX] at r8;refine Yq r8 fun y s10 ⟨v,H10,I10,rv,xs,hxs,hz,r8⟩=>?_;have t5:=Z7 (X:=X') _ s10 r6 H10 (.ref s2.heap.objs.size) [v] (.ref s2.heap.objs.size) [y] (fun _ H'=>N r6 H') I10 rfl (.cons rv .nil) ⟨_,xs,v,rfl,rfl,hxs,hz,r8⟩;rw[pX,wX,AX,xX] at t5;exact Yq t5 fun _ s11 ⟨_,H11,I11,_,t5⟩=>again I11 t5
 exact codeAny_compStart_list (u5 _ rfl) (T.self _ 0 _ _ _ st1 (u5 _ rfl))
theorem ZjP {own:List Str}{j:List Nat}{N':List Str}{m5 scope:cT}{elt iter tg:Expr}{ifs:List Expr}{pos:Pos}{wi:TI}{g:TG}{tc:TT}{te:TE}
  (M:X.env.scope=m5) (S:Jw X.N m5 own j N' scope) (hc:X.calm=true) (hi:PI X tg iter wi)
  (hg:∀Y C s H ex,PG (YX X scope Y N' C s H ex) tg g) (ht:∀Y C s H ex,PIf (YX X scope Y N' C s H ex) ifs tc) (he:∀Y C s H ex,PE (YX X scope Y N' C s H ex) elt te)
  (hs:∀x,foldedSetIterable iter X.env x=pure x:=by intro _;rfl) :
  PE X (.ListComp elt [⟨tg,iter,ifs,0⟩] scope pos) (Zel own j wi g tc te):=by
 intro O s σ H Q I h;obtain⟨Y,n6,m6,m8⟩:=UT (scope:=scope) (env:=X.env) fun y hy hf=>by
  have:=S.fr y hy hf;rw[<-M] at this;exact I.ok.has y.1 this
 rw[eval_ListComp];refine lJ (use:=none) rfl hs n6 S.kind S.uniq (Yq (hi O s σ H _ I h) fun v s1 h1=>Yq h1 fun n9 s2 h2=>?_);obtain⟨it,fp,tn,J,H2,e,I2,T,n8,f2,q⟩:=h2;subst e;refine UP (RR:=fun ZH C=>compPost (model X.prog X.w) X.A X.xe none (EP X O σ Q) ZH C) M S hc m6 m8 hg ht he I2 T n8 f2 q ?_;intro D C s' m H' hn _ _ _ _ _ q' hb;exact⟨m,hn,fun h' sb=>⟨.ref D,H',hb h' sb,rfl,q'⟩⟩
theorem ZdQ {own:List Str}{M:List Nat}{N':List Str}{m5 scope:cT}{elt iter tg:Expr}{ifs:List Expr}{pos O py:Pos}{y:Str}{i:Nat}{wi:TI}{g:TG}{tc:TT}{te:TE}
  (Y:X.env.scope=m5) (S:Jw X.N m5 own M N' scope) (hc:X.calm=true) (hi:PI X tg iter wi)
  (hg:∀cl C s H ex,PG (YX X scope cl N' C s H ex) tg g) (ht:∀cl C s H ex,PIf (YX X scope cl N' C s H ex) ifs tc) (he:∀cl C s H ex,PE (YX X scope cl N' C s H ex) elt te)
  (hN:X.N.Nodup) (hy:X.N[i]?=some y) (hx:Loc X.env.scope y) (hf:X.fn y=true\/X.env.scope.names.lookup y=some .local)
  (n9:swapsWith (.ListComp elt [⟨tg,iter,ifs,0⟩] scope pos) (some (.Name y py)) O.line X.env=pure true)
  (hs:∀x,foldedSetIterable iter X.env x=pure x:=by intro _;rfl) :
  PS X (.Assign [.Name y py] (.ListComp elt [⟨tg,iter,ifs,0⟩] scope pos) O) (Zdq (Zel own M wi g tc te) (Yg i)):=by
 intro j s σ H D0 I h;obtain⟨cl,o0,m6,m8⟩:=UT (scope:=scope) (env:=X.env) fun y hy hf=>by
  have:=S.fr y hy hf;rw[<-Y] at this;exact I.ok.has y.1 this
 rw[exec_Assign_Name_used _ _ _ _ n9];refine Zl (jm (Zl ?_));show wpAny _ X.A (do let _ <-comprehension (.ListComp elt [⟨tg,iter,ifs,0⟩] scope pos) scope X.env _ (newList []) false (eval iter X.env) (some (assign (.Name y py) X.env))) _ _ s
 refine Zl (cH (lJ (use:=some (assign (.Name y py) X.env)) (Q:=fun _ s'=>SP X j D0 .next s') rfl hs o0 S.kind S.uniq
  (Yq (hi j s σ H _ I h) fun v s1 h1=>Yq h1 fun p7 s2 h2=>?_)) (fun _ s' hq=>Zm (Zm hq)) fun _ _ e=>e)
 obtain⟨it,fp,tn,J,H2,e,I2,T,o5,f2,q⟩:=h2;subst e;refine UP (RR:=fun ZH C=>compPost (model X.prog X.w) X.A X.xe (some (assign (.Name y py) X.env)) (fun _ s'=>SP X j D0 .next s') ZH C) Y S hc m6 m8 hg ht he I2 T o5 f2 q ?_;intro D C s' m H' hn n6 n8 o6 o7 o8 q' hb;have I':Inv X j σ H' s':=hb s'.heap (.refl ..);show wpAny _ X.A (assign (.Name y py) X.env (.ref D)) _ _ s';refine wpAny_assign_Name (Zal I' hN hy hx (v:=.ref D) rfl (fun o9 p3 ⟨a,sb,ha⟩=>?_) hf);have p4:C≠a:=by
  rcases ha with rfl|ha
  ·exact n6
  ·exact fun z=>n8 y a ha z.symm
 refine⟨m,hn.sameBut sb p4,fun h' p6=>⟨_,H',?_,q'⟩⟩;exact p3.turned (t':=o9.toks) (fun b o hb e=>p6.extBut b o hb e) o8 n6 (.inr o6) n8 o7
end
section
variable {κ:Type} [DecidableEq κ]
noncomputable def YT (j:List (κ×V))(k:κ):Option V:=(j.find? fun q=>decide (q.1=k)).map (·.2)
noncomputable def WJ (j:List (κ×V))(k:κ)(v:V):List (κ×V):=
 if (j.any fun q=>decide (q.1=k))=true then j.map (fun q=>if q.1=k then (q.1,v) else q) else j++[(k,v)]
theorem YO {p:κ×V}{r:List (κ×V)}{k:κ}(e:p.1=k):YT (p::r) k=some p.2:=by simp[YT,eW,e]
theorem YQ {p:κ×V}{r:List (κ×V)}{k:κ}(e:¬p.1=k):YT (p::r) k=YT r k:=by simp[YT,eW,e]
theorem WS (k:κ):∀j:List (κ×V),(j.any fun q=>decide (q.1=k))=(YT j k).isSome
 | []=>rfl
 |p::r=>by
  rw[c6];by_cases e:p.1=k
  ·simp only[YO e,decide_eq_true e,Bool.true_or,Option.isSome_some]
  ·rw[YQ e,decide_eq_false e,eQ];exact WS k r
theorem Zb8 (k j:κ)(y:V):∀q:List (κ×V),YT (q.map fun J=>if J.1=k then (J.1,y) else J) j=(YT q j).map fun x=>if j=k then y else x
 | []=>rfl
 |p::r=>by
  have M:=Zb8 k j y r;rw[aV];by_cases h:p.1=k
  ·rw[if_pos h]
   by_cases e:p.1=j
   ·rw[YO (p:=(p.1,y)) e,YO e,dz,if_pos (e.symm.trans h)]
   ·rw[YQ (p:=(p.1,y)) e,YQ e,M]
  ·rw[if_neg h]
   by_cases e:p.1=j
   ·rw[YO (p:=p) e,YO e,dz,if_neg (fun z=>h (e.trans z))]
   ·rw[YQ (p:=p) e,YQ e,M]
theorem Zag (k j:κ)(y:V):∀q:List (κ×V),YT q k=none->YT (q++[(k,y)]) j=if j=k then some y else YT q j
 | [],_=>by
  by_cases e:k=j
  ·rw[if_pos e.symm];exact YO (p:=(k,y)) e
  ·rw[if_neg (fun z=>e z.symm)];exact YQ (p:=(k,y)) e
 |p::r,J=>by
  rw[mS];have M:¬p.1=k:=fun z=>by rw[YO z] at J;cases J
  rw[YQ M] at J;have O:=Zag k j y r J;by_cases e:p.1=j
  ·rw[YO e,YO e,if_neg (fun z=>M (e.trans z))]
  ·rw[YQ e,YQ e,O]
theorem ZgF (J:List (κ×V))(k j:κ)(y:V):YT (WJ J k y) j=if j=k then some y else YT J j:=by
 unfold WJ;by_cases a:(J.any fun M=>decide (M.1=k))=true
 ·rw[if_pos a,Zb8]
  rw[WS] at a;by_cases e:j=k
  ·obtain⟨x,O⟩:=gt.mp a
   rw[if_pos e,e,O,dz,if_pos rfl]
  ·rw[if_neg e]
   cases YT J j with
   |none=>rfl
   |some x=>rw[dz,if_neg e]
 ·rw[if_neg a]
  refine Zag k j y J ?_;rw[WS] at a;cases q:YT J k with
  |none=>rfl
  |some x=>rw[q] at a;exact (a rfl).elim
theorem Ja (j:List (κ×V))(k:κ)(v:V):(WJ j k v).length<=j.length+1:=by
 unfold WJ;split
 ·rw[Za];omega
 ·rw[Zd,Zi,ik];omega
theorem ZhE {j:List (κ×V)}{k:κ}(v:V)(h:YT j k=none):WJ j k v=j++[(k,v)]:=by
 unfold WJ;rw[WS,h];exact if_neg (by decide)
theorem Zac.isSome_eq {o:Option V}{u:Option Value}(r:Zac o u):o.isSome=u.isSome:=by
 cases o with
 |none=>cases u with
  |none=>rfl
  |some _=>exact (show False from r).elim
 |some _=>cases u with
  |none=>exact (show False from r).elim
  |some _=>rfl
theorem KV.val {j:List (κ×V)}{vs:List (κ×Value)}(r:KV j vs)(k:κ):Zac (YT j k) (valueAt vs k):=by
 unfold KV at r;induction r with
 |nil=>exact gY
 | @cons p q ps J h t Y=>
  obtain⟨O,h2⟩:=h;by_cases e:p.1=k
  ·have M:q.1=k:=O.symm.trans e
   have b:valueAt (q::J) k=some q.2:=by simp[valueAt,eW,M]
   rw[YO e,b];exact h2
  ·have M:¬q.1=k:=fun z=>e (O.trans z)
   have b:valueAt (q::J) k=valueAt J k:=by simp[valueAt,eW,M]
   rw[YQ e,b];exact Y
theorem KV.any {j:List (κ×V)}{vs:List (κ×Value)}(r:KV j vs)(k:κ):(j.any fun q=>decide (q.1=k))=vs.any fun q=>decide (q.1=k):=by
 unfold KV at r;induction r with
 |nil=>rfl
 |cons h t J=>rw[c6,c6,J,h.1]
theorem KV.repl {J:List (κ×V)}{vs:List (κ×Value)}(r:KV J vs)(k:κ){y:V}{u:Value}(O:RelV y u) :
  KV (J.map fun j=>if j.1=k then (j.1,y) else j) (vs.map fun j=>if j.1=k then (j.1,u) else j):=by
 unfold KV at r ⊢;induction r with
 |nil=>exact .nil
 | @cons p q ps qs h t Y=>
  rw[aV,aV];refine .cons ?_ Y;obtain⟨M,h2⟩:=h;by_cases e:p.1=k
  ·rw[if_pos e,if_pos (M.symm.trans e)];exact⟨M,O⟩
  ·rw[if_neg e,if_neg (fun z=>e (M.trans z))];exact⟨M,h2⟩
theorem KV.put {j:List (κ×V)}{vs:List (κ×Value)}(r:KV j vs)(k:κ){y:V}{u:Value}(q:RelV y u):KV (WJ j k y) (stored vs k u):=by
 unfold WJ stored;rw[r.any k];by_cases e:(vs.any fun J=>decide (J.1=k))=true
 ·rw[if_pos e,if_pos e];exact r.repl k q
 ·rw[if_neg e,if_neg e];exact Paired.snoc r ⟨rfl,q⟩
theorem KV.length {j:List (κ×V)}{vs:List (κ×Value)}(r:KV j vs):j.length=vs.length:=jQ r
end
theorem ZcS {P:Program}{w:World}{k:YE}{u:Value}(r:RelV (kV k) u):(YF P w).is k u=true:=by
 cases k with
 |inl i=>obtain⟨t,e⟩:=(show ∃t,u=f8 i t from r);subst e;exact ZcK P w i t
 |inr x=>obtain⟨t,e⟩:=(show ∃t,u=mw x t from r);subst e;exact ZcJ P w x t
theorem Zay {P:Program}{w:World}:∀{j:List YE}{us:List Value},ZP (j.map kV) us->ItemsAre (YF P w) j us
 | [],_,r=>by rw[gc] at r;cases r;exact .nil
 |k::j,_,r=>by
  rw[aV] at r;cases r with
  |cons h t=>exact .cons (ZcS h) (Zay t)
noncomputable abbrev KT (H:Hp):List (List YE×V)->List (List YE×Addr×Value)->Prop:=kO fun p q=>p.1=q.1/\H q.2.1=some (.tup (p.1.map kV))/\RelV p.2 q.2.2
theorem KT.val {H:Hp}{j:List (List YE×V)}{xs:List (List YE×Addr×Value)}(r:KT H j xs)(k:List YE):Zac (YT j k) ((atKey xs k).map (·.2)):=by
 induction r with
 |nil=>exact gY
 | @cons p q ps J h t Y=>
  obtain⟨O,_,h2⟩:=h;by_cases e:p.1=k
  ·have M:q.1=k:=O.symm.trans e
   have b:atKey (q::J) k=some q.2:=by simp[atKey,eW,M]
   rw[YO e,b];exact h2
  ·have M:¬q.1=k:=fun z=>e (O.trans z)
   have b:atKey (q::J) k=atKey J k:=by simp[atKey,eW,M]
   rw[YQ e,b];exact Y
theorem KT.repl {H:Hp}{j:List (List YE×V)}{xs:List (List YE×Addr×Value)}(r:KT H j xs)(k:List YE){y:V}{u:Value}(Y:RelV y u) :
  KT H (j.map fun M=>if M.1=k then (M.1,y) else M) (xs.map (putAt k u)):=by
 induction r with
 |nil=>exact .nil
 | @cons p q ps qs h t ih=>
  rw[aV,aV];refine .cons ?_ ih;obtain⟨J,O,h3⟩:=h;unfold putAt;by_cases e:p.1=k
  ·rw[if_pos e,if_pos (J.symm.trans e)];exact⟨J,O,Y⟩
  ·rw[if_neg e,if_neg (fun z=>e (J.trans z))];exact⟨J,O,h3⟩
theorem KT.put {H:Hp}{j:List (List YE×V)}{xs:List (List YE×Addr×Value)}(r:KT H j xs)(k:List YE){b:Addr}{y:V}{u:Value}(hb:H b=some (.tup (k.map kV)))(J:RelV y u) :
  KT H (WJ j k y) (storedH xs k b u):=by
 have e:(j.any fun M=>decide (M.1=k))=(atKey xs k).isSome:=by
  rw[WS,(r.val k).isSome_eq,lU]
 unfold WJ storedH;rw[e];by_cases q:(atKey xs k).isSome=true
 ·rw[if_pos q,if_pos q];exact r.repl k J
 ·rw[if_neg q,if_neg q];exact Paired.snoc r ⟨rfl,hb,J⟩
theorem KT.keeps {H q:Hp}{j:List (List YE×V)}{xs:List (List YE×Addr×Value)}(r:KT H j xs)(J:∀b ys,H b=some (.tup ys)->q b=some (.tup ys)):KT q j xs:=
 kO.mapP r fun _ _ z=>⟨z.1,J _ _ z.2.1,z.2.2⟩
section
variable {P:Program}{w:World}{H:Hp}{h:Heap}{a:Addr}
theorem Zll {u:HO}(ok:Vb P w H h)(e:Rd H a u):YD P w H h a u:=e.ok ok
theorem Zfe {j:List (YE×V)}(ok:Vb P w H h)(e:Rd H a (.dK j)):j.length<=sizeLine/\(a == sysModules)=false/\∃vs,KV j vs/\h.DictOf (YF P w) a vs:=
 show YD P w H h a (.dK j) from Zll ok e
theorem ZlB {j:List (YE×V)}(ok:Vb P w H h)(e:H a=some (.dK j)):j.length<=sizeLine/\(a == sysModules)=false/\∃vs,KV j vs/\h.DictOf (YF P w) a vs:=Zfe ok (.inl e)
theorem ZbC {j:List YE}(ok:Vb P w H h)(e:H a=some (.tup (j.map kV))):(tupleKind (YF P w)).is h j a:=by
 obtain⟨_,q,r,o,J,M,n,O⟩:=(show YD P w H h a (.tup (j.map kV)) from ok a _ e);exact⟨o,q.toArray,n,J,M,O,by simpa using Zay r⟩
theorem Zfd {j:List (List YE×V)}(ok:Vb P w H h)(e:Rd H a (.dT j)):j.length<=sizeLine/\(a == sysModules)=false/\
  ∃xs,KT H j xs/\h.DictOfH (tupleKind (YF P w)) a xs:=by
 obtain⟨z,y,xs,r,o,O,Y,h1,h2,h3,h4,h5⟩:=(show YD P w H h a (.dT j) from Zll ok e);refine⟨z,y,xs,r,o,O,Y,h1,h2,h3,h4,fun x J=>?_,h5⟩;have all:∀{l:List (List YE×V)}{m:List (List YE×Addr×Value)},KT H l m->∀x∈m,(tupleKind (YF P w)).is h x.1 x.2.1:=by
  intro l m q;induction q with
  |nil=>intro x J;exact nomatch J
  | @cons p q ps qs M t ih=>
   intro x J;rcases aH.mp J with e|J
   ·subst e
    exact ZbC ok (by rw[<-M.1];exact M.2.1)
   ·exact ih x J
 exact all r x J
theorem Zol {j:List (List YE×V)}(ok:Vb P w H h)(e:H a=some (.dT j)):j.length<=sizeLine/\(a == sysModules)=false/\
  ∃xs,KT H j xs/\h.DictOfH (tupleKind (YF P w)) a xs:=Zfd ok (.inl e)
end
noncomputable def Jk (H:Hp)(a:Addr)(y:V)(r:Option V):Prop:=
 (∃j k,Rd H a (.dK j)/\y=kV k/\r=YT j k)\/∃j k b,Rd H a (.dT j)/\y=.ref b/\H b=some (.tup (k.map kV))/\r=YT j k
noncomputable def Vz (H:Hp)(a:Addr)(y v:V)(q:Hp):Prop:=
 (∃j k,H a=some (.dK j)/\y=kV k/\j.length<sizeLine/\q=upd H a (.dK (WJ j k v)))\/
 ∃j k b,H a=some (.dT j)/\y=.ref b/\H b=some (.tup (k.map kV))/\j.length<sizeLine/\q=upd H a (.dT (WJ j k v))
theorem Jk.k {H:Hp}{a:Addr}{j:List (YE×V)}{k:YE}(e:H a=some (.dK j)):Jk H a (kV k) (YT j k):=.inl ⟨j,k,.inl e,rfl,rfl⟩
theorem Jk.t {H:Hp}{a b:Addr}{j:List (List YE×V)}{k:List YE}(e:H a=some (.dT j))(q:H b=some (.tup (k.map kV))):Jk H a (.ref b) (YT j k):=.inr ⟨j,k,b,.inl e,rfl,q,rfl⟩
theorem Vz.k {H:Hp}{a:Addr}{j:List (YE×V)}{k:YE}{v:V}(e:H a=some (.dK j))(q:j.length<sizeLine):Vz H a (kV k) v (upd H a (.dK (WJ j k v))):=.inl ⟨j,k,e,rfl,q,rfl⟩
theorem Vz.t {H:Hp}{a b:Addr}{j:List (List YE×V)}{k:List YE}{v:V}(e:H a=some (.dT j))(q:H b=some (.tup (k.map kV)))(J:j.length<sizeLine) :
  Vz H a (.ref b) v (upd H a (.dT (WJ j k v))):=.inr ⟨j,k,b,e,rfl,q,J,rfl⟩
section
variable {X:Cx}{pins:List (Addr×Obj)}{σ:St}{H:Hp}{s:Shared}{a:Addr}{y v:V}{u r:Value}{o:Option V}{A:Around}{E:Value->Shared->Prop}
theorem Inv.big (I:Inv X pins σ H s):sysModules<s.heap.objs.size:=by
 have h:mainGlobals<s.heap.objs.size:=(I.mod.glob.keeps I.bk).lt;exact ji (by decide) h
theorem Zgf {Q:Value->Shared->Prop}(hu:A.units+1<cLine)(I:Inv X pins σ H s)(g:Jk H a y (some v))(ry:RelV y u)(h:∀q s',Inv X pins σ H s'->RelV v q->Q q s') :
  wpAny (model X.prog X.w) A (getItem (.ref a) u) Q E s:=by
 rcases g with ⟨J,k,e,M,l⟩|⟨J,k,b,e,M,eb,l⟩
 ·subst M
  obtain⟨z,hd,vs,rel,O⟩:=Zfe I.hok e;obtain⟨q,Y,j⟩:=Zac.some_of (v:=v) (o:=valueAt vs k) (by rw[l];exact rel.val k);exact wpAny_getItem_of (ZcS ry) O.mapOf Y (h q _ (I.tok _) j)
 ·subst M
  cases (show u=aC b from ry);obtain⟨z,hd,xs,rel,O⟩:=Zfd I.hok e;obtain⟨q,Y,j⟩:=Zac.some_of (v:=v) (o:=(atKey xs k).map (·.2)) (by rw[l];exact rel.val k);obtain⟨p,hp,m5⟩:=Option.map_eq_some_iff.mp Y;refine wpAny_getItem_heap (jx hu) (ZbC I.hok eb) O hp ?_;rw[m5];exact h q _ (I.tok _) j
theorem ZkK {Q:Value->Shared->Prop}(Y:A.units+1<cLine)(I:Inv X pins σ H s)(g:Jk H a y o)(O:RelV y u)(h:∀s',Inv X pins σ H s'->Q (.bool (!o.isSome)) s') :
  wpAny (model X.prog X.w) A (compareOp .NotIn u (.ref a)) Q E s:=by
 rcases g with ⟨j,k,e,J,l⟩|⟨j,k,b,e,J,eb,l⟩
 ·subst J
  obtain⟨z,hd,vs,rel,M⟩:=Zfe I.hok e;refine wpAny_notIn_of (ZcS O) hd M.mapOf ?_;rw[<-(rel.val k).isSome_eq,<-l];exact h _ (I.tok _)
 ·subst J
  cases (show u=aC b from O);obtain⟨z,hd,xs,rel,M⟩:=Zfd I.hok e;refine wpAny_notIn_heap (jx Y) (ZbC I.hok eb) hd M ?_;have q:=(rel.val k).isSome_eq;rw[lU] at q;rw[<-q,<-l];exact h _ (I.tok _)
theorem ZbM {h':Heap}{t':Nat}{j:HO}(I:Inv X pins σ H s)(M:Mut (H a))(O:bg a s.heap h')(Y:∃q,h'.get? a=some q)(J:YD X.prog X.w (upd H a j) h' a j) :
  Inv X pins σ (upd H a j) {s with heap:=h',toks:=t'}:=
 I.write (x:=a) (e:=a) M (.inl rfl) (fun b q hb z=>(O.2 b hb).trans z) Y J
theorem ZiH {P:Program}{w:World}{q:Hp}{h':Heap}{j:List (YE×V)}{vs:List (YE×Value)}(z:j.length<=sizeLine)(hd:(a == sysModules)=false)(rel:KV j vs)(J:h'.DictOf (YF P w) a vs) :
  YD P w q h' a (.dK j):=⟨z,hd,vs,rel,J⟩
theorem Zge {H':Hp}{Q:Unit->Shared->Prop}(hu:A.units+1<cLine)(I:Inv X pins σ H s)(g:Vz H a y v H')(ry:RelV y u)(rv:RelV v r)(h:∀s',Inv X pins σ H' s'->Q () s') :
  wpAny (model X.prog X.w) A (setItem (.ref a) u r) Q E s:=by
 rcases g with ⟨j,k,e,O,l,Y⟩|⟨j,k,b,e,O,eb,l,Y⟩
 ·subst O Y
  obtain⟨z,hd,vs,rel,dd⟩:=ZlB I.hok e;have hz:vs.length<=sizeLine:=by rw[<-rel.length];exact z
  have hl:(WJ j k v).length<=sizeLine:=by have:=Ja j k v;omega
  refine wpAny_setItem_pairs (hsz:=hz) (ZcS ry) dd fun h' J hs=>h _ ?_;have he:∃q,h'.get? a=some q:=by obtain⟨q,_,_,M,_⟩:=J;exact⟨q,M⟩
  exact ZbM I (by rw[e];exact gY) hs he (ZiH hl hd (rel.put k rv) J)
 ·subst O Y
  cases (show u=aC b from ry);obtain⟨z,hd,xs,rel,dd⟩:=Zol I.hok e;have hz:xs.length<=sizeLine:=by rw[<-jQ rel];exact z
  have hl:(WJ j k v).length<=sizeLine:=by have:=Ja j k v;omega
  refine wpAny_setItem_heap (hsz:=hz) (jx hu) (ZbC I.hok eb) dd fun h' J hs=>h _ ?_;obtain⟨q,es,ep,M,h2,h3,h4,_,h5⟩:=J;refine ZbM I (by rw[e];exact gY) hs ⟨q,M⟩ ⟨hl,hd,_,(rel.put k eb rv).keeps fun c ys ec=>?_,q,es,ep,M,h2,h3,h4,h5⟩;rw[Zz (Zh8 ec e (fun z=>nomatch z))];exact ec
end
section
variable {X:Cx}{pins:List (Addr×Obj)}{σ:St}{H:Hp}{s:Shared}{a:Addr}{kvs:List (YE×V)}{k:YE}{u:Value}{A:Around}{E:Value->Shared->Prop}
end
noncomputable def ZoK (i:Expr):Prop:=∀j iv,subscripted i false j iv=operate [j,iv] (getItem j iv)
theorem Zjr {prog:Program}{w:World}{A:Around}{E:Value->Shared->Prop}{s:Shared}{env:Env}{value j:Expr}{pos:Pos}{T id:String}{Q:Value->Shared->Prop}
  (hl:typeLookup (.type T) "__getitem__"=pure (some (.builtin id))) (hs:ZoK j)
  (h:wpAny (model prog w) A (eval value env) (fun o M=>wpAny (model prog w) A (eval j env) (fun i q=>q.TypeIs o T/\wpAny (model prog w) A (getItem o i) Q E q) E M) E s) :
  wpAny (model prog w) A (eval (.Subscript value j pos) env) Q E s:=by
 refine Subscript_ (cH h (fun o M m5=>cH m5 (fun i q J=>?_) fun _ _ x=>x) fun _ _ x=>x);obtain⟨hT,J⟩:=J;unfold subscriptTail;refine Zl ?_;rw[getitemInPython_of_ne hT.not_modules];refine Zl (wpAny_specialOf hT hl ?_);have Y:wpAny (model prog w) A (subscripted j false o i) (fun r O=>wpAny (model prog w) A (letTemporaryGo value o r >>= fun _=>pure r) Q E O) E q:=by
  rw[hs o i];exact wpAny_operating (cH J (fun r O m6=>Zl (wpAny_letTemporaryGo (Zm m6))) fun _ _ x=>x)
 first
  |exact Zm (Zl Y)
  |exact Zl (Zm (Zl Y))
  |exact Zl Y
theorem Zc0 {X:Cx}{j:List (Addr×Obj)}{σ:St}{H:Hp}{s:Shared}{a:Addr}{y:V}{o:Option V}(I:Inv X j σ H s)(g:Jk H a y o):s.TypeIs (.ref a) "dict":=by
 rcases g with ⟨q,k,e,_,_⟩|⟨q,k,b,e,_,_,_⟩
 ·obtain⟨_,_,M,_,J⟩:=Zfe I.hok e
  exact J.typeIs
 ·obtain⟨_,_,xs,_,J⟩:=Zfd I.hok e
  exact J.typeIs
inductive iDG (Q:VK) (x y:V) (H:Hp):Prop
 |mk (a:Addr) (v:V):x=.ref a->Jk H a y (some v)->Q v H->iDG Q x y H
noncomputable def ZnC (q J:TE):TE:=fun j H Q=>q j H fun x M=>J j M (iDG Q x)
noncomputable def Zjp (J M:TE):TE:=fun j H Q=>J j H fun y O=>M j O fun x q=>∃a o,x=.ref a/\Jk q a y o/\Q (.bl (!o.isSome)) q
inductive iDP (D:WO) (σ:St) (x v y:V) (H3:Hp):Prop
 |mk (a:Addr) (H4:Hp):x=.ref a->Vz H3 a y v H4->D.nx σ H4->iDP D σ x v y H3
noncomputable def ZnK (q J M:TE):TS:=fun D j H=>M j H fun v O=>q j O fun x Y=>J j Y (iDP D j x v)
section
variable {X:Cx}{o i e value:Expr}{pos pos' tpos:Pos}{td ty tv:TE}
theorem WK (O:X.A.units+1<cLine)(Y:PE X o td)(hi:PE X i ty)(hs:ZoK i):PE X (.Subscript o i pos) (ZnC td ty):=by
 intro j s J H Q I h;refine Zjr PySem.F.slot_dict_getitem.lookup hs (Yq (Y j s J H _ I h) fun u s1 ⟨x,H1,I1,rx,q1⟩=>Yq (hi j s1 J H1 _ I1 q1) fun iv s2 ⟨y,H2,M,ry,a,v,ex,g,q2⟩=>?_);subst ex;obtain rfl:u=aC a:=rx;exact⟨Zc0 M g,Zgf O M g ry fun w' s3 I3 q=>⟨v,H2,I3,q,q2⟩⟩
theorem Zaq (J:X.A.units+1<cLine)(M:PE X i ty)(O:PE X o td):PC X .NotIn i o (Zjp ty td):=by
 intro j s q H Q I h;refine Yq (M j s q H _ I h) fun iv Y ⟨y,H1,I1,ry,q1⟩=>Yq (O j Y q H1 _ I1 q1) fun u s2 ⟨x,H2,I2,rx,a,ov,ex,g,q2⟩=>?_;subst ex;obtain rfl:u=aC a:=rx;exact ZkK J I2 g ry fun s3 I3=>⟨.bl (!ov.isSome),H2,I3,rfl,q2⟩
theorem Xe (J:X.A.units+1<cLine)(M:PE X o td)(O:PE X i ty)(Y:PE X value tv)(hs:swapsWith value (some (.Subscript o i pos')) pos.line X.env=pure false) :
  PS X (.Assign [.Subscript o i pos'] value pos) (ZnK td ty tv):=by
 intro j s q H D I h;refine wpAny_Assign_Subscript (Yq (Y j s q H _ I h) fun r s1 ⟨v,H1,I1,rv,q1⟩=>Yq (M j s1 q H1 _ I1 q1) fun u s2 ⟨x,H2,I2,rx,q2⟩=>Yq (O j s2 q H2 _ I2 q2) fun iv s3 ⟨y,H3,I3,ry,a,H4,ex,g,q3⟩=>?_) hs;subst ex;obtain rfl:u=aC a:=rx;exact Zge J I3 g ry rv fun s4 I4=>⟨q,H4,I4,q3⟩
end
theorem ZcZ {P:Program}{w:World}{H:Hp}(h:Heap)(hb:sysModules<h.objs.size):YD P w H (h.push {cls:=.type "dict",data:=.dict #[]}) h.objs.size (.dK []):=
 ⟨bc _,beq_eq_false_iff_ne.mpr (bd (aD hb)),[],.nil,Heap.DictOf.new h⟩
theorem ZiG {P:Program}{w:World}{H:Hp}(h:Heap)(hb:sysModules<h.objs.size):YD P w H (h.push {cls:=.type "dict",data:=.dict #[]}) h.objs.size (.dT []):=
 ⟨bc _,beq_eq_false_iff_ne.mpr (bd (aD hb)),[],.nil,_,#[],0,Zo _ rfl,⟨rfl,rfl,rfl⟩,rfl,rfl,ee⟩
noncomputable def ZlT:TE:=fun _ H Q=>∀p,H p=none->Q (.ref p) (upd H p (.dK []))
noncomputable def ZlS:TE:=fun _ H Q=>∀p,H p=none->Q (.ref p) (upd H p (.dT []))
section
variable {X:Cx}{pos:Pos}
theorem Zcz:PE X (.Dict [] [] pos) ZlT:=fun j s J H Q I h=>
 wpAny_Dict_empty ⟨.ref s.heap.objs.size,_,I.laid (a:=s.heap.objs.size) (o:=.dK []) (t':=s.toks) (fun _ _ q=>Zn _ q) (Zq _) (ZcZ s.heap I.big),rfl,h _ (I.hok.fresh (Zq _))⟩
theorem ZhK:PE X (.Dict [] [] pos) ZlS:=fun j s J H Q I h=>
 wpAny_Dict_empty ⟨.ref s.heap.objs.size,_,I.laid (a:=s.heap.objs.size) (o:=.dT []) (t':=s.toks) (fun _ _ q=>Zn _ q) (Zq _) (ZiG s.heap I.big),rfl,h _ (I.hok.fresh (Zq _))⟩
end
noncomputable def Zdp:List (TE×TE)->St->Hp->(List (V×V)->Hp->Prop)->Prop
 | [],_,H,Q=>Q [] H
 |(tk,j)::r,σ,H,Q=>tk σ H fun x q=>j σ q fun y J=>Zdp r σ J fun M O=>Q ((x,y)::M) O
noncomputable abbrev VV:List (V×V)->List (Value×Value)->Prop:=kO fun p q=>RelV p.1 q.1/\RelV p.2 q.2
noncomputable def PPs (X:Cx)(pos:Pos)(J:List (Option Expr))(j:List Expr)(M:List (TE×TE)):Prop:=
 ∀(q:List (Addr×Obj)) (s:Shared) (O:St) (H:Hp) (Q:List (V×V)->Hp->Prop),Inv X q O H s->Zdp M O H Q->
  wpAny (model X.prog X.w) X.A (evalPairs (pairTrees J j X.env pos)) (fun vs s'=>∃Y H',Inv X q O H' s'/\VV Y vs/\Q Y H') X.xe s
theorem ZjI {X:Cx}{pos:Pos}:PPs X pos [] [] []:=fun j s q H Q I h=>pairTrees_nil_walk ⟨[],H,I,.nil,h⟩
theorem Ut {X:Cx}{pos:Pos}{k v:Expr}{M:List (Option Expr)}{vs:List Expr}{tk O:TE}{q:List (TE×TE)}(Y:PE X k tk)(hv:PE X v O)(hr:PPs X pos M vs q) :
  PPs X pos (some k::M) (v::vs) ((tk,O)::q):=fun j s J H Q I h=>
 pairTrees_cons_walk (Yq (Y j s J H _ I h) fun u s1 ⟨x,H1,I1,rx,q1⟩=>Yq (hv j s1 J H1 _ I1 q1) fun w2 s2 ⟨y,H2,I2,ry,q2⟩=>
  Yq (hr j s2 J H2 _ I2 q2) fun ws s3 ⟨ps,H3,I3,rel,q3⟩=>⟨(x,y)::ps,H3,I3,.cons ⟨rx,ry⟩ rel,q3⟩)
noncomputable def Uz (q j:List (YE×V)):List (YE×V):=j.foldl (fun ZH J=>WJ ZH J.1 J.2) q
theorem KV.merge:∀{more:List (YE×V)}{rs:List (YE×Value)}{j:List (YE×V)}{vs:List (YE×Value)},KV more rs->KV j vs->KV (Uz j more) (merged vs rs):=by
 intro more rs j vs r;unfold KV at r;induction r generalizing j vs with
 |nil=>intro q;exact q
 | @cons p q O Y h t J=>
  intro M;have e:KV (WJ j p.1 p.2) (stored vs q.1 q.2):=by
   have:=M.put p.1 h.2;rw[<-h.1];exact this
  exact J e
theorem Xs:∀(q j:List (YE×V)),(Uz j q).length<=j.length+q.length
 | [],j=>by show j.length<=j.length+0;omega
 |p::r,j=>by
  have J:=Xs r (WJ j p.1 p.2);have M:=Ja j p.1 p.2;show (Uz (WJ j p.1 p.2) r).length<=_;rw[Zi];omega
theorem UU {P:Program}{w:World}:∀{j:List (YE×V)}{M:List (Value×Value)},VV (j.map fun O=>(kV O.1,O.2)) M->∃J,Carries (YF P w) M J/\KV j J
 | [],_,r=>by rw[gc] at r;cases r;exact⟨[],gY,.nil⟩
 |p::j,_,r=>by
  rw[aV] at r;cases r with
  | @cons a b as bs h t=>
   obtain⟨J,c,q⟩:=UU (P:=P) (w:=w) t;obtain⟨b1,Y⟩:=b;exact⟨(p.1,Y)::J,⟨ZcS h.1,rfl,c⟩,.cons ⟨rfl,h.2⟩ q⟩
noncomputable def ZnB (q:List (TE×TE)):TE:=fun O H Q=>∀p,H p=none->Zdp q O (upd H p (.dK [])) fun Y J=>J p=some (.dK [])/\∃j:List (YE×V),Y=j.map (fun M=>(kV M.1,M.2))/\j.length<=15/\Q (.ref p) (upd J p (.dK (Uz [] j)))
theorem ZjO {X:Cx}{pos:Pos}{keys:List (Option Expr)}{values:List Expr}{j:List (TE×TE)}(h:PPs X pos keys values j)(J:keys.all (·.isSome)=true)(hl:keys.length=values.length)(h0:keys≠[])
  (m5:keys.length<=15):PE X (.Dict keys values pos) (ZnB j):=by
 intro M s σ H Q I q;have hn:=I.hok.fresh (Zq s.heap.objs.size);have I1:=I.laid (a:=s.heap.objs.size) (o:=.dK []) (h':=s.heap.push {cls:=.type "dict",data:=.dict #[]}) (t':=s.toks) (fun _ _ q=>Zn _ q) (Zq _) (ZcZ s.heap I.big);refine wpAny_Dict_walk (knd:=YF X.prog X.w) J hl h0 m5 (Yq (h M _ σ _ _ I1 (q _ hn)) fun ws s2 ⟨ps,H2,I2,rel,e,O,ep,lk,q2⟩=>?_);subst ep;obtain⟨rs,c,rk⟩:=UU (P:=X.prog) (w:=X.w) rel;obtain⟨z,hd,m8,r0,dd⟩:=ZlB I2.hok e;cases r0;refine⟨rs,c,dd,fun h' Y hs=>⟨.ref s.heap.objs.size,_,?_,rfl,q2⟩⟩;have hz:(Uz [] O).length<=sizeLine:=by
  have h1:=Xs O [];rw[ik] at h1;rw[gf];omega
 have he:∃q,h'.get? s.heap.objs.size=some q:=by obtain⟨q,_,_,hq,_⟩:=Y;exact⟨q,hq⟩
 exact ZbM I2 (by rw[e];exact gY) hs he (ZiH hz hd (rk.merge .nil) Y)
section
variable {X:Cx}{pins:List (Addr×Obj)}{σ:St}{H:Hp}{s:Shared}{a:Addr}{y d:V}{u r:Value}{o:Option V}{A:Around}{E:Value->Shared->Prop}
end
section
variable {X:Cx}{o e f:Expr}{apos cpos:Pos}{td ty tx:TE}
end
section
variable {X:Cx}{pins:List (Addr×Obj)}{σ:St}{H:Hp}{s:Shared}{a:Addr}{kvs:List (YE×V)}{A:Around}{E:Value->Shared->Prop}
end
section
variable {X:Cx}{pins:List (Addr×Obj)}{σ:St}{H:Hp}{s:Shared}{a:Addr}{y:V}{u:Value}{A:Around}{E:Value->Shared->Prop}
end
mutual
inductive RdD (K:aa) (H:Hp):V->i0->Prop where
 |non:RdD K H .non .none
 |bl (b:Bool):RdD K H (.bl b) (.bool b)
 |int (i:Int):RdD K H (.int i) (.int i)
 |str (x:Str):RdD K H (.str x) (.str x)
 |lst {a:Addr}{xs:List V}{ds:List i0} (h:W2 K H a xs) (r:W3 K H xs ds):RdD K H (.ref a) (.list ds)
 |tup {a:Addr}{xs:List V}{ds:List i0} (h:XM K H a xs) (r:W3 K H xs ds):RdD K H (.ref a) (.tuple ds)
inductive W3 (K:aa) (H:Hp):List V->List i0->Prop where
 |nil:W3 K H [] []
 |cons {x:V}{xs:List V}{d:i0}{ds:List i0} (h:RdD K H x d) (r:W3 K H xs ds):W3 K H (x::xs) (d::ds)
end
section
variable {K:aa}{H H':Hp}
theorem Zv.tup {a:Addr}{xs:List V}(e:Zv H H')(h:XM K H a xs):XM K H' a xs:=by
 rcases h with (h|⟨o,h⟩)|h
 ·exact .inl (.inl (e _ _ h))
 ·exact .inl (.inr ⟨o,e _ _ h⟩)
 ·exact .inr h
theorem Zv.upd {p:Addr}{o:HO}(h:H p=none):Zv H (upd H p o):=fun b u e=>by rw[Zz (Yj e h)];exact e
theorem Zv.updr {p:Addr}{o:HO}(s:Zv H H')(h:H p=none):Zv H (L2.upd H' p o):=fun b u e=>by rw[Zz (Yj e h)];exact s b u e
mutual
theorem RdD.mono (s:Zv H H'):∀{v:V}{d:i0},RdD K H v d->RdD K H' v d
 |_,_,.non=>.non
 |_,_,.bl b=>.bl b
 |_,_,.int i=>.int i
 |_,_,.str x=>.str x
 |_,_,.lst h r=>.lst (s.seq h) (W3.mono s r)
 |_,_,.tup h r=>.tup (s.tup h) (W3.mono s r)
theorem W3.mono (s:Zv H H'):∀{v:List V}{d:List i0},W3 K H v d->W3 K H' v d
 |_,_,.nil=>.nil
 |_,_,.cons h r=>.cons (RdD.mono s h) (W3.mono s r)
end
theorem W3.ints:∀ns:List Int,W3 K H (ns.map V.int) (ns.map be)
 | []=>.nil
 |n::r=>.cons (.int n) (W3.ints r)
end
section
variable {X:Cx}{pins:List (Addr×Obj)}{σ:St}{H:Hp}{s:Shared}
mutual
theorem Inv.reads (I:Inv X pins σ H s):∀{v:V}{d:i0}{u:Value},RdD X.K H v d->RelV v u->∃as,Reads s.heap u d as
 |_,_,_,.non,r=>by cases (show _=bf from r);exact⟨_,.none⟩
 |_,_,_,.bl b,r=>by cases (show _=iN b from r);exact⟨_,.bool b⟩
 |_,_,_,.int i,r=>by obtain⟨t,rfl⟩:=r;exact⟨_,.int i t⟩
 |_,_,_,.str x,r=>by obtain⟨t,rfl⟩:=r;exact⟨_,.str x t⟩
 |_,_,_,.lst (a:=a) h q,r=>by
  cases (show _=aC a from r);obtain⟨j,J,⟨o,n,e,c,_,d⟩,_⟩:=I.list h;obtain⟨as,M⟩:=Inv.readsAll I q J;exact⟨_,.list e c d (by simpa using M)⟩
 |_,_,_,.tup (a:=a) h q,r=>by
  cases (show _=aC a from r);obtain⟨j,J,⟨o,e,c,n,d⟩,_⟩:=I.tuple h;obtain⟨as,M⟩:=Inv.readsAll I q J;exact⟨_,.tuple e c d (by simpa using M)⟩
theorem Inv.readsAll (I:Inv X pins σ H s):∀{v:List V}{d:List i0}{u:List Value},W3 X.K H v d->ZP v u->∃as,ReadsAll s.heap u d as
 |_,_,_,.nil,r=>by cases r;exact⟨_,.nil⟩
 |_,_,_,.cons h q,r=>by
  cases r with
  |cons r j=>
   obtain⟨O,J⟩:=Inv.reads I h r;obtain⟨Y,M⟩:=Inv.readsAll I q j;exact⟨_,.cons J M⟩
end
end
section
variable {X:Cx}
inductive I_op_neD (K:aa) (x:V) (y:V) (H:Hp) (Q:VK):Prop
 |mk (dx:_) (dy:_):(RdD K H x dx)->(RdD K H y dy)->(iZ dx=true)->(iZ dy=true)->(Q (.bl (!gO dx dy)) H)->I_op_neD K x y H Q
theorem Zml (J:X.A.units+64<cLine):Ve X (compareOp .NotEq) (_root_.L2.I_op_neD X.K):=by
 intro j s σ H x y v u Q I M O ⟨dx,dy,Y,h2,s1,s2,q⟩;obtain⟨as,r1⟩:=I.reads Y M;obtain⟨bs,r2⟩:=I.reads h2 O;exact SeqAt.compareNe_shaped r1 r2 s1 s2 J ⟨.bl _,H,I,rfl,q⟩
theorem ZlM {prog:Program}{w:World}{A:Around}{j:List Value}{bs:List Bool}(r:ZP (bs.map V.bl) j):TruthOf prog w A (fun i v=>j.toArray[i]?=some v) (fun i=>bs.getD i false):=by
 intro i v s Q E q M;rw[lr] at q;have hi:i<j.length:=(ae.mp q).1;have O:=r.length;rw[Za] at O;have hb:(bs.map V.bl)[i]?=some (.bl (bs.getD i false)):=by
  rw[Zc,Zb,Zf (by omega)];rfl
 obtain⟨u,J,Y⟩:=r.get hb;rw[q] at J;cases J;cases (show v=iN _ from Y);exact fI M
theorem ZfF {bs:List Bool}:((ac bs.length).any fun i=>bs.getD i false)=bs.any id:=by
 have:(ac bs.length).map (fun i=>bs.getD i false)=bs:=by
  apply mQ
  ·simp
  ·intro i j q;simp at j;simp[j]
 conv=>rhs;rw[<-this,fk]
 rfl
inductive I_call_any (K:aa) (xs:List V) (H:Hp) (Q:VK):Prop
 |mk (a:Addr) (bs:List Bool):(xs=[.ref a])->(W2 K H a (bs.map V.bl))->(Q (.bl (bs.any id)) H)->I_call_any K xs H Q
theorem ZiT (hc:X.calm=true):YN X (.builtin "any") (_root_.L2.I_call_any X.K):=by
 intro M s σ H xs us Q I r h;obtain⟨a,bs,rfl,hq,q⟩:=h;obtain⟨u,rfl,ru⟩:=vals1 r;cases ru;obtain⟨j,O,p,hz⟩:=I.list hq;have Y:=O.length;rw[Za] at Y;refine call_any_walk (fJ p.isList ?_);have J:a≠s.heap.objs.size:=by obtain⟨o,n,e,_⟩:=p;exact aD (Zp e)
 refine⟨s.heap.objs.size,_,_,_,_,_,(fun i=>bs.getD i false),rfl,lM (A:=X.A.in1) (I.ok.hd hc) _ a J j.toArray,⟨⟨_,Zo _ rfl,rfl,rfl⟩,p.isList.push _⟩,ZlM O,fun h' tk k=>?_⟩;rw[Zh,<-Y,ZfF];refine⟨.bl _,H,I.kept (t':=tk) fun b o e=>k b o ?_ (Zn _ e),rfl,q⟩;simpa using aD (Zp e)
end
noncomputable abbrev JK (ns:List Int)(n:Nat):List Int:=firstMet (fun i=>ns.getD i 0) n
section
variable {prog:Program}{w:World}{A:Around}{E:Value->Shared->Prop}{s:Shared}
end
theorem Ze5:∀{ns:List Int}{us:List Value},ZP (ns.map V.int) us->a8 us ns
 | [],_,.nil=>.nil
 |n::r,_,.cons h t=>by
  obtain⟨k,rfl⟩:=(show ∃t,_=f8 n t from h);exact .cons n k (Ze5 t)
section
variable {X:Cx}
inductive I_call_range1 (xs:List V) (H:Hp) (Q:VK):Prop
 |mk (j:Int):(xs=[.int j])->(∀p,H p=none->Q (.ref p) (upd H p (.rng 0 j)))->I_call_range1 xs H Q
theorem VJ:YN X (.type "range") _root_.L2.I_call_range1:=by
 intro J s O H Y us Q I r h;obtain⟨j,rfl,q⟩:=h;obtain⟨u,rfl,M⟩:=vals1 r;obtain⟨t,rfl⟩:=M;exact call_range_1 ⟨.ref s.heap.objs.size,_,I.laid (a:=s.heap.objs.size) (o:=.rng 0 j) (fun b o e=>Zn _ e) (Zq _) ⟨_,_,_,Zo _ rfl⟩,rfl,q _ (I.hok.fresh (Zq _))⟩
noncomputable def YZ (lo:Int)(n:Nat):List Int:=(ac n).map fun i:Nat=>lo+(i:Int)
theorem Zcp {lo:Int}{n i:Nat}(h:i<n):(YZ lo n)[i]?=some (lo+i):=by unfold YZ;rw[Zc,ao h];rfl
theorem Yl {lo:Int}{n:Nat}:(YZ lo n).length=n:=by unfold YZ;rw[Za,Zg]
theorem Zae {lo:Int}{n:Nat}{ZH:Array Value}(h:gZ (fun i v=>∃t,v=.int (lo+i*1) t) ZH n):ZP ((YZ lo n).map V.int) ZH.toList:=by
 have go:∀(l:List Value) (k:Nat),(∀(j:Nat) v,l[j]?=some v->∃t,v=.int (lo+((k+j:Nat):Int)) t)->ZP (((dw k l.length).map fun i:Nat=>lo+(i:Int)).map V.int) l:=by
  intro l;induction l with
  |nil=>intro k _;exact .nil
  |cons x r M=>
   intro k J;rw[Zi,eA];refine .cons ?_ (M (k+1) fun j v q=>?_)
   ·obtain⟨t,e⟩:=J 0 x rfl
    exact⟨t,e⟩
   ·obtain⟨t,e⟩:=J (j+1) v q
    exact⟨t,by rw[e];congr 2;omega⟩
 have e:=go ZH.toList 0 fun j v q=>by
  rw[cO] at q;obtain⟨t,e⟩:=h.2 j v q;exact⟨t,by rw[e];congr 1 <;> omega⟩
 rw[Zr,h.1] at e;unfold YZ;rw[dZ];exact e
inductive I_call_list_rng (xs:List V) (H:Hp) (Q:VK):Prop
 |mk (a:Addr) (lo hi:Int):(xs=[.ref a])->(H a=some (.rng lo hi))->((-(2 ^ 62)<=lo/\lo<2 ^ 62/\-(2 ^ 62)<=hi/\hi<2 ^ 62))->((hi-lo).toNat<=sizeLine)->(∀l,H l=none->Q (.ref l) (upd H l (.lst ((YZ lo (hi-lo).toNat).map V.int))))->I_call_list_rng xs H Q
theorem Zaa (O:X.calm=true):YN X (.type "list") _root_.L2.I_call_list_rng:=by
 intro J s σ H xs us Q I r h;obtain⟨a,lo,hi,rfl,Y,⟨b1,b2,b3,b4⟩,M,q⟩:=h;obtain⟨u,rfl,ru⟩:=vals1 r;cases ru;obtain⟨t,u,v,e⟩:=(show ∃t u v,s.heap.get? a=some {cls:=.type "range",data:=.fields #[.int lo t,.int hi u,.int 1 v]} from I.hok a _ Y);refine call_list_range (n:=(hi-lo).toNat) (I.ok.hd O) e (small_one b1 b2 b3 b4) (by rw[lK];split <;> omega) M fun h' tk ZH c' hk hl j=>?_
 exact⟨.ref _,_,I.laid (a:=s.heap.objs.size) (o:=.lst ((YZ lo (hi-lo).toNat).map V.int)) (t':=tk) hk (Zq _) ⟨by rw[Za,Yl];exact M,ZH.toList,c',Zae j,by simpa using hl⟩,rfl,q _ (I.hok.fresh (Zq _))⟩
end
noncomputable def Jg:List Str->Bool
 | []=>true
 |x::r=>!(r.contains x) && Jg r
theorem Z6:∀{l:List Str},Jg l=true->l.Nodup
 | [],_=>ee
 |x::r,h=>by
  unfold Jg at h;simp only[af,fm] at h;refine bZ.mpr ⟨fun z=>?_,Z6 h.2⟩;have:=aB.mpr z;rw[h.1] at this;cases this
noncomputable def Zaz (j:cT)(x:Str):Bool:=match j.names.lookup x with
 |some .local=>true
 |some .cell=>true
 |_=>false
theorem YR {j:cT}{x:Str}(h:Zaz j x=true):Loc j x:=by
 unfold Zaz at h;split at h
 ·rename_i e;exact .inl e
 ·rename_i e;exact .inr e
 ·cases h
noncomputable def JG (j:cT)(x:Str):Bool:=match j.names.lookup x with
 |some .local=>true
 |_=>false
theorem Y0 {j:cT}{x:Str}(h:JG j x=true):j.names.lookup x=some .local:=by
 unfold JG at h;split at h
 ·rename_i e;exact e
 ·cases h
noncomputable def Zim (j:cT)(x:Str):Bool:=match j.names.lookup x with
 |some .local=>true
 |some .cell=>true
 |some .free=>true
 |_=>false
theorem Zil {j:cT}{x:Str}(h:Zim j x=true):Vis j x:=by
 unfold Zim at h;split at h
 ·rename_i e;exact .inl e
 ·rename_i e;exact .inr (.inl e)
 ·rename_i e;exact .inr (.inr e)
 ·cases h
noncomputable def Y9 (j:cT)(x:Str):Bool:=match j.names.lookup x with
 |some .globalImplicit=>true
 |_=>false
noncomputable def Wo:Expr->Bool
 | .Starred _ _=>false
 |_=>true
theorem Jo {e:Expr}{j:List Expr}{env:Env}(h:Wo e=true):starEach (e::j) env=(false,eval e env)::starEach j env:=by cases e <;> first|rfl|cases h
noncomputable def Xf:List Expr->Bool
 | []=>true
 |e::r=>Wo e && Xf r
theorem W9 {env:Env}{pos:Pos}:∀{j:List Expr},Xf j=true->(backTo pos (starEach j env)).any (·.1)=false
 | [],_=>rfl
 |e::r,h=>by
  unfold Xf at h;rw[af] at h;rw[Jo h.1];exact W9 h.2
section
variable {X:Cx}
theorem pc {e:Expr}{j:List Expr}{q:TE}{t:TA}(J:PE X e q)(M:PA X j t)(O:Wo e=true:=by rfl):PA X (e::j) (Ub q t):=ZjU J M (Jo O)
theorem Xw {x:Str}(h:Y9 X.env.scope x=true):Gl X x:=by
 unfold Y9 at h;split at h
 ·rename_i e;exact e
 ·cases h
theorem vn (i:Nat){x:Str}{pos:Pos}(q:X.N[i]?=some x:=by rfl)(J:Zim X.env.scope x=true:=by kernel_rfl)(M:(x == ("__debug__":Str))=false:=by kernel_rfl)(j:(x == ("__classdict__":Str))=false:=by kernel_rfl) :
  PE X (.Name x pos) (ZlP i):=Zmi q (Zil J) M j
theorem gn (i:Nat){x:Str}{pos:Pos}(q:X.N[i]?=some x:=by rfl)(J:Jg X.N=true:=by kernel_rfl)(j:JG X.env.scope x=true:=by kernel_rfl):PG X (.Name x pos) (Yg i):=
 ZeL (Z6 J) q (.inl (Y0 j)) (.inr (Y0 j))
theorem gnf (i:Nat){x:Str}{pos:Pos}(j:X.fn x=true)(q:X.N[i]?=some x:=by rfl)(J:Jg X.N=true:=by kernel_rfl)(M:Zaz X.env.scope x=true:=by kernel_rfl):PG X (.Name x pos) (Yg i):=
 ZeL (Z6 J) q (YR M) (.inl j)
theorem ZE (i:Nat){x:Str}{e:Expr}{q:TE}{pos j:Pos}(J:X.fn x=true)(M:PE X e q)(O:X.N[i]?=some x:=by rfl)(Y:Jg X.N=true:=by kernel_rfl)(hx:Zaz X.env.scope x=true:=by kernel_rfl)
  (hs:swapsWith e (some (.Name x j)) pos.line X.env=pure false:=by rfl):PS X (.Assign [.Name x j] e pos) (Zdq q (Yg i)):=
 Zmb (Z6 Y) O (YR hx) M hs (.inl J)
theorem cb {x:Str}{id:String}{r:List V->Hp->VK->Prop}{e:Expr}{j:List Expr}{t:TA}{p pos:Pos}(J:YN X (.builtin id) r)(M:X.mg x=none)(O:PA X (e::j) t)(Y:Y9 X.env.scope x=true:=by kernel_rfl)(hv:bootBuiltins x=some (.builtin id):=by kernel_rfl)
  (hn:x ≠ "__name__":=by decide) (hd:(x == ("__debug__":Str))=false:=by kernel_rfl) (he:Wo e=true:=by rfl) (q:Xf j=true:=by rfl) :
  PE X (.Call (.Name x p) (e::j) [] pos) (tCB r t):=ZhL J (Xw Y) M hv O hn hd (Jo he) (W9 q)
theorem ct {x:Str}{T:String}{r:List V->Hp->VK->Prop}{e:Expr}{j:List Expr}{t:TA}{p pos:Pos}(J:YN X (.type T) r)(M:X.mg x=none)(O:PA X (e::j) t)(Y:Y9 X.env.scope x=true:=by kernel_rfl)(hv:bootBuiltins x=some (.type T):=by kernel_rfl)
  (hn:x ≠ "__name__":=by decide) (hd:(x == ("__debug__":Str))=false:=by kernel_rfl) (he:Wo e=true:=by rfl) (q:Xf j=true:=by rfl) :
  PE X (.Call (.Name x p) (e::j) [] pos) (tCB r t):=ZfL J (Xw Y) M hv O hn hd (Jo he) (W9 q)
theorem JA {q a:Expr}{j:TA}{p pos:Pos}(J:X.mg "range"=none)(M:PA X [a] j)(O:Y9 X.env.scope "range"=true:=by kernel_rfl)(Y:starEach [a] X.env=[(false,eval a X.env)]:=by rfl):PI X q (.Call (.Name "range" p) [a] [] pos) (Zlt j):=ZfK (Xw O) J M Y
theorem Zhn {J a b:Expr}{q:TA}{p pos:Pos}(M:X.mg "range"=none)(O:PA X [a,b] q)(Y:Y9 X.env.scope "range"=true:=by kernel_rfl)(hs:starEach [a,b] X.env=[(false,eval a X.env),(false,eval b X.env)]:=by rfl)(j:starEach [b] X.env=[(false,eval b X.env)]:=by rfl) :
  PI X J (.Call (.Name "range" p) [a,b] [] pos) (Zls q):=ZfJ (Xw Y) M O hs j
end
noncomputable def Fn (P:Program)(w:World)(K:aa)(j:Str->Option Value)(base:Heap)(CX:CXT)(k:Nat)(x:Str)(q:List Str)(sp:Sp):Prop:=
 ∃f J,Ya P w K j base CX k f J q sp/\j x=some (.ref f)/\dP K (.ref f)=true/\Binds K J q []
section
variable {X:Cx}
theorem Wr {CX:CXT}{k j:Nat}{x:Str}{M:List Str}{sp:Sp}{E:XK}{e:Expr}{q:List Expr}{t:TA}{p pos:Pos}(G:Fn X.prog X.w X.K X.mg X.base CX k x M sp)(O:JQ j X.A)(Y:Zb0 CX X E)(ha:PA X (e::q) t)(hk:k<=j:=by decide)
  (hg:Y9 X.env.scope x=true:=by kernel_rfl) (hd:(x == ("__debug__":Str))=false:=by kernel_rfl) (he:Wo e=true:=by rfl) (J:Xf q=true:=by rfl) :
  PE X (.Call (.Name x p) (e::q) [] pos) (Zk8 sp [] E t):=by
 obtain⟨f,fd,F,hm,kp,b⟩:=G;exact ZjQ F (O.mono hk) (Xw hg) hm kp b .nil Y ha hd (Jo he) (W9 J)
end
theorem Fn.mk {P:Program}{w:World}{K:aa}{mg:Str->Option Value}{base h:Heap}{CX:CXT}{k:Nat}{x:Str}{J:List Str}{sp:Sp}{st:Stmt}{f:Addr}{oc:Value}{od M:Option Addr}{O:Array (Option Value)}{kV q Y j ct:Value}(X:K.In h)(G:h.Ns mainGlobals mg)
  (a:bv K mainGlobals x=some (some (.ref f))) (l:K.lookup f=some ⟨oc,od,.func (cy x x (Wt st) (Wf st) (ZZ st) .none kV q Y M j ct),O⟩) (c:eY K j x=true) (kp:dP K (.ref f)=true)
  (hok:∀fd,WI K x x st f fd->Ya P w K mg base CX k f fd J sp)
  (hb:∀(kV q Y:Value) (M:Option Addr) (j ct:Value) (us:List Value),us.length=J.length->bindArgs (cy x x (Wt st) (Wf st) (ZZ st) .none kV q Y M j ct) ⟨us,[]⟩=pure (J.zip us)) :
  Fn P w K mg base CX k x J sp:=
 ⟨f,_,hok _ (Zd3 l c kp),mL X G a,kp,(Zd3 l c kp).binds hb⟩
section
variable {X:Cx}
theorem Xt (K:aa)(j:X.K=K:=by rfl):IxR X (Zl6 K):=j▸ZmJ
theorem Ji (K:aa)(j:X.K=K:=by rfl):IxR X (Zl7 K):=j▸Zkx
theorem ZpF (K:aa)(j:X.K=K:=by rfl):Ve X (compareOp .NotIn) (rIn K true):=j▸Zbn
noncomputable abbrev Zpw (K:aa):List V->Hp->VK->Prop:=_root_.L2.I_call_len_seq K
theorem Yx (K:aa)(j:X.K=K:=by rfl):YN X (.builtin "len") (Zpw K):=j▸ZbU
theorem itT (K:aa){q l:Expr}{j:TE}(J:PE X l j)(M:X.K=K:=by rfl):PI X q l (Zob K j):=M▸Zmg J
theorem itL (K:aa){q l:Expr}{j:TE}(J:PE X l j)(M:X.K=K:=by rfl):PI X q l (Zlu K j):=M▸ZjL J
end
noncomputable def ZbN (N:List Str)(M:cT)(O:List Str)(q:List Nat)(Y:List Str)(J:cT):Bool:=
 (J.kind == .function) && Jg (J.names.map (·.1)) && J.names.all (fun y=>y.2 != .local || JG J y.1) && Jg Y && decide (Y=O++q.map fun j=>N.getD j "") &&
  q.all (fun j=>decide (j<N.length) && (match J.names.lookup (N.getD j "") with|some .free=>true|_=>false)) &&
  J.names.all (fun y=>y.2 != .free || (match M.names.lookup y.1 with|some .cell=>true|some .free=>true|_=>false))
theorem Jw.of {N:List Str}{M:cT}{own:List Str}{J:List Nat}{Y:List Str}{sc:cT}(h:ZbN N M own J Y sc=true):Jw N M own J Y sc:=by
 unfold ZbN at h;simp only[af,aI,decide_eq_true_eq,beq_iff_eq,bne_iff_ne,ne_eq,bu] at h;obtain⟨⟨⟨⟨⟨⟨h1,h2⟩,h3⟩,h4⟩,h5⟩,h6⟩,h7⟩:=h;refine⟨h1,Z6 h2,fun y O e=>?_,Z6 h4,h5,fun j hj=>⟨(h6 j hj).1,?_⟩,fun y O e=>?_⟩
 ·rcases h3 y O with z|z
  ·exact absurd e z
  ·exact Y0 z
 ·have:=(h6 j hj).2
  split at this
  ·rename_i z;exact z
  ·cases this
 ·rcases h7 y O with z|z
  ·exact absurd e z
  ·split at z
   ·rename_i q;exact .inl q
   ·rename_i q;exact .inr q
   ·cases z
theorem cmp {X:Cx}(q:List Str)(j:List Nat)(M:List Str){scope:cT}{elt iter O:Expr}{ifs:List Expr}{pos:Pos}{Y:TI}{g:TG}{tc:TT}{te:TE}(hc:X.calm=true)(hi:PI X O iter Y)
  (hg:∀J C s H ex,PG (YX X scope J M C s H ex) O g) (ht:∀J C s H ex,PIf (YX X scope J M C s H ex) ifs tc) (he:∀J C s H ex,PE (YX X scope J M C s H ex) elt te)
  (hS:ZbN X.N X.env.scope q j M scope=true:=by kernel_rfl) (hs:∀x,foldedSetIterable iter X.env x=pure x:=by intro _;rfl) :
  PE X (.ListComp elt [⟨O,iter,ifs,0⟩] scope pos) (Zel q j Y g tc te):=ZjP rfl (.of hS) hc hi hg ht he hs
section
variable {X:Cx}
end
theorem Z9 {c:TT}{tb:TS}{D:WO}{σ:St}{H:Hp}(Pv:Nat->St->Hp->Prop)(q:St->Hp->Prop)(hend:∀ σ H,q σ H->D.nx σ H)(h0:∃m,Pv m σ H)
  (turn:(∀ σ H,q σ H->D.nx σ H)->∀m σ H,Pv m σ H->c σ H fun b J=>if b=true then ∃N:St->Hp->Prop,(∀ j M,N j M->∃O,O<m/\Pv O j M)/\tb (D.lp N) σ J else D.nx σ J) :
  ZgP c tb D σ H:=⟨Pv,h0,turn hend⟩
structure WB (J:It)(H:Hp)(xs:List V):Prop where
 go:∀(i:Nat) H',Zv H H'->i<xs.length->J.go i H'
 yld:∀(i:Nat) H' x H2,Zv H H'->i<xs.length->J.yld i H' x H2->H2=H'/\xs[i]?=some x
 stop:∀H',Zv H H'->J.stop xs.length H'
theorem WB.mono {J:It}{H q:Hp}{xs:List V}(s:Zv H q)(S:WB J H xs):WB J q xs:=
 ⟨fun i j e=>S.go i j (s.trans e),fun i j x M e=>S.yld i j x M (s.trans e),fun j e=>S.stop j (s.trans e)⟩
theorem Wq {K:aa}{H:Hp}{a:Addr}{xs:List V}(h:XM K H a xs):WB (Itt K a) H xs:=
 ⟨fun i j s q=>⟨xs,_,s.tup h,Zf q⟩,fun i j x J s _ y=>⟨y.1,y.2 xs (s.tup h)⟩,fun j s=>⟨xs,s.tup h,Zq _⟩⟩
theorem YV {K:aa}{H:Hp}{a:Addr}{xs:List V}(h:W2 K H a xs):WB (Itl K a) H xs:=
 ⟨fun i j s q=>⟨xs,_,s.seq h,Zf q⟩,fun i j x J s _ y=>⟨y.1,y.2 xs (s.seq h)⟩,fun j s=>⟨xs,s.seq h,Zq _⟩⟩
theorem W5 {H:Hp}(lo:Int)(n:Nat):WB (Itr lo n) H ((YZ lo n).map V.int):=by
 have q:((YZ lo n).map V.int).length=n:=by rw[Za,Yl]
 refine⟨fun i J s j=>by rw[q] at j;exact j,fun i J x M s j y=>?_,fun J s=>by show n<=_;rw[q];exact Zq _⟩;rw[q] at j;exact⟨y.1,by rw[y.2,Zc,Zcp j];rfl⟩
theorem Zc4 {J:It}{own:List Str}{O:List Nat}{g:TG}{tc:TT}{te:TE}{σ:St}{H:Hp}{Q:VK}{xs:List V}(S:WB J H xs)(cs:St)(m6:JP own O σ=none::cs)(f:V->Option V)(hz:xs.length<=1000000)
  (hs:∀(i:Nat) x v0 j,xs[i]?=some x->Zv H j->∀(R:St->V->Hp->Prop) (R':St->Hp->Prop),(∀v H5,f x=some v->Zv j H5->R (some x::cs) v H5)->(∀Y,f x=none->Zv j Y->R' (some x::cs) Y)->
   g x (v0::cs) j fun q H3=>tc q H3 fun b Y=>if b=true then te q Y (R q) else R' q Y)
  (hd:∀D j,H D=none->Zv H j->j D=some (.lst (xs.filterMap f))->Q (.ref D) j) :
  W1 own O g tc te σ Q J H:=by
 intro D hD;refine⟨fun i m m5 j=>m=xs.length-i/\i<=xs.length/\(∃v0,m5=v0::cs)/\Zv H j/\j D=some (.lst ((xs.take i).filterMap f)),⟨_,rfl,bc _,⟨none,m6⟩,Zv.upd hD,by rw[Zt,fg];rfl⟩,?_⟩;rintro i m m5 j ⟨rfl,hi,⟨v0,rfl⟩,s,hl⟩;by_cases M:i<xs.length
 ·refine .inr ⟨S.go i j s M,_,fun n6 H2 z=>z,fun x H2 y=>?_⟩
  obtain⟨rfl,hx⟩:=S.yld i j x H2 s M y;have ht:xs.take (i+1)=xs.take i++[x]:=by rw[cU,hx];rfl
  have m8:((xs.take i).filterMap f).length<=i:=bm (List.length_filterMap_le _ _) (by rw[bU];omega);refine hs i x v0 H2 hx s _ _ (fun v H5 e s5=>?_) (fun Y e s4=>?_)
  ·refine⟨_,s5 _ _ hl,?_,xs.length-(i+1),by omega,rfl,M,⟨_,rfl⟩,(s.trans s5).updr hD,?_⟩
   ·have:(16777216:Nat)=sizeLine:=by decide
    omega
   ·rw[Zt,ht,lu,cf,e];rfl
  ·refine⟨xs.length-(i+1),by omega,rfl,M,⟨_,rfl⟩,s.trans s4,?_⟩
   rw[s4 _ _ hl,ht,lu,cf,e];simp
 ·have e:i=xs.length:=by omega
  subst e;refine .inl ⟨S.stop j s,hd D j hD s ?_⟩;rw[hl,c9]
theorem WL {J:It}{g:TG}{tb:TS}{D:WO}{σ:St}{H0 H:Hp}{xs:List V}(S:WB J H0 xs)(Pv:Nat->St->Hp->Prop)(h0:Pv 0 σ H)(hS:∀i σ H,Pv i σ H->Zv H0 H)
  (hs:∀(i:Nat) x σ H,xs[i]?=some x->Pv i σ H->g x σ H fun q Y=>tb (D.lp (Pv (i+1))) q Y) (hd:∀ σ H,Pv xs.length σ H->D.nx σ H) :
  ∃W:Nat->Nat->St->Hp->Prop,(∃m,W 0 m σ H)/\∀i m σ H,W i m σ H->
   (J.stop i H/\D.nx σ H)\/(J.go i H/\∃N:St->Hp->Prop,(∀ M j,N M j->∃m',m'<m/\W (i+1) m' M j)/\∀x j,J.yld i H x j->g x σ j fun q Y=>tb (D.lp N) q Y):=by
 refine⟨fun i m σ H=>m=xs.length-i/\i<=xs.length/\Pv i σ H,⟨_,rfl,bc _,h0⟩,?_⟩;rintro i m σ H ⟨rfl,hi,p⟩;have s:=hS i σ H p;by_cases O:i<xs.length
 ·refine .inr ⟨S.go i H s O,Pv (i+1),fun M j p'=>⟨xs.length-(i+1),by omega,rfl,O,p'⟩,fun x j y=>?_⟩
  obtain⟨rfl,hx⟩:=S.yld i H x j s O y;exact hs i x σ _ hx p
 ·have e:i=xs.length:=by omega
  subst e;exact .inl ⟨S.stop H s,hd σ H p⟩
theorem tT {A B:Hp->Prop}{σ:St}{H:Hp}(h:A H):WE σ H fun b j=>if b=true then A j else B j:=by
 show if true=true then A H else B H
 rw[if_pos rfl];exact h
theorem Ze8 {α j:Type}(g:α->j):∀xs:List α,xs.filterMap (fun y=>some (g y))=xs.map g
 | []=>rfl
 |x::r=>by rw[cf,aV,Ze8 g r]
theorem Zlz {α j:Type}(p:α->Bool)(g:α->j):∀xs:List α,xs.filterMap (fun y=>if p y=true then some (g y) else none)=(xs.filter p).map g
 | []=>rfl
 |x::r=>by
  rw[cf,jt,Zlz p g r];by_cases h:p x=true
  ·rw[if_pos h,if_pos h];rfl
  ·rw[if_neg h,if_neg h]
theorem ZpL {c A B:Prop} [Decidable c](j:¬c)(h:B):if c then A else B:=by rw[if_neg j];exact h
theorem Ju {J:It}{own:List Str}{M:List Nat}{O:TE}{σ:St}{H:Hp}{Q:VK}{xs:List V}(S:WB J H xs)(q:St)(m5:JP own M σ=none::q)(f:V->V)(hz:xs.length<=1000000)
  (hs:∀(i:Nat) x j,xs[i]?=some x->Zv H j->∀R:VK,(∀Y,Zv j Y->R (f x) Y)->O (some x::q) j R)
  (hd:∀D j,H D=none->Zv H j->j D=some (.lst (xs.map f))->Q (.ref D) j):W1 own M (Yg 0) WE O σ Q J H:=by
 refine Zc4 S q m5 (fun x=>some (f x)) hz (fun i x v0 j hx s R R' h1 h2=>?_) fun D j hD s hl=>hd D j hD s (by rw[hl,Ze8]);show WE (some x::q) j fun b H4=>if b=true then O (some x::q) H4 (R (some x::q)) else R' (some x::q) H4
 exact tT (A:=fun H4=>O (some x::q) H4 (R (some x::q))) (hs i x j hx s _ fun Y s5=>h1 _ Y rfl s5)
theorem Zgj {J:It}{own:List Str}{q:List Nat}{tc:TT}{te:TE}{σ:St}{H:Hp}{Q:VK}{xs:List V}(S:WB J H xs)(O:St)(m5:JP own q σ=none::O)(p:V->Bool)(f:V->V)(hz:xs.length<=1000000)
  (hs:∀(i:Nat) x j,xs[i]?=some x->Zv H j->∀(R:VK) (Y:Hp->Prop),(p x=true->∀H5,Zv j H5->R (f x) H5)->(p x=false->∀M,Zv j M->Y M)->tc (some x::O) j fun b M=>if b=true then te (some x::O) M R else Y M)
  (hd:∀D j,H D=none->Zv H j->j D=some (.lst ((xs.filter p).map f))->Q (.ref D) j):W1 own q (Yg 0) tc te σ Q J H:=by
 refine Zc4 S O m5 (fun x=>if p x=true then some (f x) else none) hz (fun i x v0 j hx s R Y h1 h2=>?_) fun D j hD s hl=>hd D j hD s (by rw[hl,Zlz])
 exact hs i x j hx s (R (some x::O)) (Y (some x::O)) (fun e H5 s5=>h1 _ H5 (by rw[if_pos e]) s5) fun e M s4=>h2 M (by rw[if_neg (by rw[e];decide)]) s4
noncomputable def ZB (K:aa)(x:Str)(st:Stmt):Prop:=
 ∃(f:Addr) (M:Value) (O Y:Option Addr) (q:Array (Option Value)) (kV J pm j ct:Value),bv K mainGlobals x=some (some (.ref f))/\
  K.lookup f=some ⟨M,O,.func (cy x x (Wt st) (Wf st) (ZZ st) .none kV J pm Y j ct),q⟩/\eY K j x=true/\dP K (.ref f)=true
theorem ZB.mk {K:aa}{x:Str}{st:Stmt}{f:Addr}{J:Value}{M an:Option Addr}{q:Array (Option Value)}{kV doc pm j ct:Value}(a:bv K mainGlobals x=some (some (.ref f)))
  (l:K.lookup f=some ⟨J,M,.func (cy x x (Wt st) (Wf st) (ZZ st) .none kV doc pm an j ct),q⟩) (c:eY K j x=true) (k:dP K (.ref f)=true):ZB K x st:=
 ⟨f,J,M,an,q,kV,doc,pm,j,ct,a,l,c,k⟩
theorem ZB.fn {P:Program}{w:World}{K:aa}{mg:Str->Option Value}{base h:Heap}{CX:CXT}{k:Nat}{x:Str}{q:List Str}{sp:Sp}{st:Stmt}(D:ZB K x st)(X:K.In h)(G:h.Ns mainGlobals mg)
  (J:∀f fd,WI K x x st f fd->Ya P w K mg base CX k f fd q sp)
  (hb:∀(kV doc pm:Value) (an:Option Addr) (j ct:Value) (us:List Value),us.length=q.length->bindArgs (cy x x (Wt st) (Wf st) (ZZ st) .none kV doc pm an j ct) ⟨us,[]⟩=pure (q.zip us)) :
  Fn P w K mg base CX k x q sp:=by
 obtain⟨f,O,Y,an,M,kV,doc,pm,j,ct,a,l,c,kp⟩:=D;exact Fn.mk X G a l c kp (fun fd F=>J f fd F) hb
theorem ZB.law {P:Program}{w:World}{K:aa}{mg:Str->Option Value}{h:Heap}{CX:CXT}{k:Nat}{x:Str}{p:Str}{sp:Sp}{st:Stmt}{M:Addr}(D:ZB K x st)(X:K.In h)(G:h.Ns mainGlobals mg)(q:mg x=some (.ref M))
  (J:∀(base:Heap) f fd,base.Ns mainGlobals mg->K.In base->WI K x x st f fd->Ya P w K mg base CX k f fd [p] sp)
  (hb:∀(kV doc pm:Value) (an:Option Addr) (j ct:Value) (s:Shared) (u:Value),ja s (cy x x (Wt st) (Wf st) (ZZ st) .none kV doc pm an j ct) ⟨[u],[]⟩ [(p,u)]) :
  ∃fd:FuncData,(∀(s:Shared) (u:Value),ja s fd ⟨[u],[]⟩ [(p,u)])/\∀base:Heap,K.In base->base.Ns mainGlobals mg->Ya P w K mg base CX k M fd [p] sp:=by
 obtain⟨f,oc,od,an,O,kV,doc,pm,j,ct,a,l,c,kp⟩:=D;have e:=q.symm.trans (mL X G a);cases e;exact⟨_,fun s u=>hb kV doc pm an j ct s u,fun base Y nb=>J base _ _ nb Y (Zd3 l c kp)⟩
theorem Yw {α:Type} [DecidableEq α]:∀(l j:List α),l.Nodup->(∀a∈l,a∈j)->l.length<=j.length
 | [],_,_,_=>bc _
 |a::r,j,nd,h=>by
  obtain⟨M,O⟩:=bZ.mp nd;have J:a∈j:=h a ax;have:=Yw r (j.erase a) O fun b hb=>by
   have q:b≠a:=fun e=>M (e▸hb);exact (lG q).mpr (h b (aq _ hb))
  rw[List.length_erase_of_mem J] at this;have Y:0<j.length:=fh J;rw[Zi];omega
theorem Js (val:Nat->Int):∀i,(firstMet val i).Nodup
 |0=>ee
 |i+1=>by
  have j:=Js val i;rw[lT];unfold step_dedup;split
  ·exact j
  ·rename_i h
   refine mF.mpr ⟨j,bZ.mpr ⟨by simp,ee⟩,?_⟩;intro a q b hb e;rw[aU.mp hb] at e;apply h
   first
    |exact aY.mpr ⟨a,q,by simp[e]⟩
    |simpa [e] using q
theorem ZeR (val:Nat->Int)(i:Nat)(k:Int):k∈firstMet val i↔∃j,j<i/\val j=k:=by
 have h:=firstMet_any val i k;constructor
 ·intro M
  have:(firstMet val i).any (· == k)=true:=aY.mpr ⟨k,M,by simp⟩;rw[h] at this;obtain⟨x,q,e⟩:=aY.mp this;obtain⟨j,J,rfl⟩:=aN.mp q;exact⟨j,ag.mp J,by simpa using e⟩
 ·rintro⟨j,J,rfl⟩
  have:((ac i).map val).any (· == val j)=true:=aY.mpr ⟨val j,aN.mpr ⟨j,ag.mpr J,rfl⟩,by simp⟩;rw[<-h] at this;obtain⟨x,q,e⟩:=aY.mp this;have:x=val j:=by simpa using e
  exact this▸q
section
variable {X:Cx}
end
theorem gT {q:TE}{N:St->Hp->Prop}{J:St->V->Hp->Prop}{x:V}{O:Option V}{cs:St}{H:Hp}(h:q (some x::cs) H (J (some x::cs))):Yg 0 x (O::cs) H fun j Y=>WE j Y fun b M=>if b=true then q j M (J j) else N j M:=by
 show if true=true then q (some x::cs) H (J (some x::cs)) else N (some x::cs) H
 rw[if_pos rfl];exact h
theorem UO {J:It}{own:List Str}{q:List Nat}{te:TE}{σ:St}{H:Hp}{Q:VK}{xs:List V}(G:Addr->Nat->List V->Hp->Prop)(cs:St)(m5:JP own q σ=none::cs)(hz:xs.length<=1000000)
  (S:∀D i ys j,H D=none->j D=some (.lst ys)->G D i ys j->(i<xs.length->J.go i j/\∀x O,J.yld i j x O->O=j/\xs[i]?=some x)/\(i=xs.length->J.stop i j))
  (h0:∀D,H D=none->G D 0 [] (upd H D (.lst [])))
  (hs:∀D (i:Nat) x ys j,H D=none->j D=some (.lst ys)->xs[i]?=some x->G D i ys j->∀R:VK,(∀v H5,H5 D=some (.lst ys)->G D (i+1) (ys++[v]) (upd H5 D (.lst (ys++[v])))->R v H5)->te (some x::cs) j R)
  (hd:∀D ys j,H D=none->j D=some (.lst ys)->ys.length=xs.length->G D xs.length ys j->Q (.ref D) j):W1 own q (Yg 0) WE te σ Q J H:=by
 intro D hD;refine⟨fun i m Y j=>m=xs.length-i/\i<=xs.length/\(∃v0,Y=v0::cs)/\∃ys,j D=some (.lst ys)/\ys.length=i/\G D i ys j,⟨_,rfl,bc _,⟨none,m5⟩,[],Zt,rfl,h0 D hD⟩,?_⟩;rintro i m Y j ⟨rfl,hi,⟨v0,rfl⟩,ys,hl,hy,g⟩;obtain⟨S1,S2⟩:=S D i ys j hD hl g;by_cases M:i<xs.length
 ·refine .inr ⟨(S1 M).1,_,fun m6 O z=>z,fun x O y=>?_⟩
  obtain⟨rfl,hx⟩:=(S1 M).2 x O y;refine gT ?_;refine hs D i x ys O hD hl hx g _ fun v H5 h5 g5=>⟨ys,h5,?_,xs.length-(i+1),by omega,rfl,M,⟨_,rfl⟩,ys++[v],Zt,by rw[Zd];simp[hy],g5⟩;have:(16777216:Nat)=sizeLine:=by decide
  omega
 ·have e:i=xs.length:=by omega
  exact .inl ⟨S2 e,hd D ys j hD hl (by omega) (e▸g)⟩
theorem ZfC {X:Cx}(i:Nat)(J:List Str)(j:List Nat)(O:List Str){scope:cT}{elt iter Y:Expr}{ifs:List Expr}{pos q py:Pos}{y:Str}{wi:TI}{g:TG}{tc:TT}{te:TE}(hc:X.calm=true)(hf:X.fn y=true)(hi:PI X Y iter wi)
  (hg:∀M C s H ex,PG (YX X scope M O C s H ex) Y g) (ht:∀M C s H ex,PIf (YX X scope M O C s H ex) ifs tc) (he:∀M C s H ex,PE (YX X scope M O C s H ex) elt te)
  (hS:ZbN X.N X.env.scope J j O scope=true:=by kernel_rfl) (hy:X.N[i]?=some y:=by rfl) (hN:Jg X.N=true:=by kernel_rfl) (hx:Zaz X.env.scope y=true:=by kernel_rfl)
  (m5:swapsWith (.ListComp elt [⟨Y,iter,ifs,0⟩] scope pos) (some (.Name y py)) q.line X.env=pure true:=by rfl) (hs:∀x,foldedSetIterable iter X.env x=pure x:=by intro _;rfl) :
  PS X (.Assign [.Name y py] (.ListComp elt [⟨Y,iter,ifs,0⟩] scope pos) q) (Zdq (Zel J j wi g tc te) (Yg i)):=ZdQ rfl (.of hS) hc hi hg ht he (Z6 hN) hy (YR hx) (.inl hf) m5 hs
end L2
namespace HT
open PySem PyProof.Rows
section
variable {prog:Program}{w:World}{A:Around}{E:Value->Shared->Prop}{s:Shared}
end
end HT
namespace L2
open PySem PySem.Spec PyProof.Rows
section
variable {X:Cx}{e:Expr}{te ts:TE}{st:Expr}{pos p2:Pos}
end
end L2
namespace HT
open PySem PyProof.Rows
section
variable {prog:Program}{w:World}{A:Around}{E:Value->Shared->Prop}{s:Shared}
end
end HT
namespace L2
open PySem PySem.Spec PyProof.Rows
section
variable {X:Cx}
end
end L2
namespace PyS
open PySem PySem.SetTable
noncomputable def Vx (p:Array Nat):Prop:=p.toList.Pairwise (· < ·)
theorem Vx.lt {p:Array Nat}(h:Vx p){i j:Nat}{x y:Nat}(q:i<j)(J:p[i]?=some x)(M:p[j]?=some y):x<y:=by
 rw[<-cO] at J M;obtain⟨O,rfl⟩:=ae.mp J;obtain⟨Y,rfl⟩:=ae.mp M;exact jY.mp h i j O Y q
structure Zeh (p:Array Nat)(j k:Nat):Prop where
 le:k<=p.size
 lo:∀i x,i<k->p[i]?=some x->x<j
 hi:∀i x,k<=i->p[i]?=some x->j<=x
theorem Zd0 {p:Array Nat}(h:Vx p)(j:Nat):∀(q lo hi:Nat),lo<=hi->hi<=p.size->hi-lo<=q->(∀i x,i<lo->p[i]?=some x->x<j)->(∀i x,hi<=i->p[i]?=some x->j<=x)->Zeh p j (below.go p j q lo hi)
 |0,lo,hi,h1,O,h3,Y,h5=>by
  have:lo=hi:=by omega
  subst this;exact⟨O,Y,h5⟩
 |q+1,lo,hi,h1,O,h3,Y,h5=>by
  unfold below.go;by_cases J:lo<hi
  ·rw[if_pos J]
   try dsimp only
   have hm:(lo+hi) / 2<p.size:=by omega
   have M:p[(lo+hi) / 2]?=some p[(lo+hi) / 2]:=aO hm;have eg:p.getD ((lo+hi) / 2) j=p[(lo+hi) / 2]:=by rw[cJ,M];rfl
   rw[eg];by_cases hc:p[(lo+hi) / 2]<j
   ·rw[if_pos hc]
    refine Zd0 h j q _ _ (by omega) O (by omega) (fun i x m5 e=>?_) h5;by_cases e1:i=(lo+hi) / 2
    ·subst e1
     rw[M] at e;cases e;exact hc
    ·exact ji (h.lt (by omega) e M) hc
   ·rw[if_neg hc]
    refine Zd0 h j q _ _ (by omega) (by omega) (by omega) Y fun i x m5 e=>?_;by_cases e1:i=(lo+hi) / 2
    ·subst e1
     rw[M] at e;cases e;omega
    ·have:=h.lt (by omega) M e
     omega
  ·rw[if_neg J]
   have:lo=hi:=by omega
   subst this;exact⟨O,Y,h5⟩
theorem ZaK {p:Array Nat}(h:Vx p)(j:Nat):Zeh p j (below p j):=Zd0 h j _ _ _ (bc _) (Zq _) (by omega) (fun i x q=>absurd q (dI _)) (fun i x q e=>by
 rw[cI q] at e;cases e)
theorem Zeh.uniq {p:Array Nat}{j k q:Nat}(a:Zeh p j k)(b:Zeh p j q):k=q:=by
 have J:∀{k q:Nat},Zeh p j k->Zeh p j q->¬k<q:=fun {k q} a b M=>by
  have O:k<p.size:=aG M b.le;have e:p[k]?=some p[k]:=aO O;have Y:=b.lo k _ M e;have h2:=a.hi k _ (Zq _) e;omega
 have:=J a b;have:=J b a;omega
theorem Vx.insert {p:Array Nat}(h:Vx p){j:Nat}(M:p[below p j]?≠some j):Vx (insertAt p (below p j) j):=by
 have c:=ZaK h j;generalize below p j=k at c M;unfold Vx;rw[toList_insertAt];have O:∀y∈p.toList.take k,y<j:=fun y q=>by
  obtain⟨i,hi,rfl⟩:=List.mem_take_iff_getElem.mp q;have:i<p.size:=by rw[<-Zr];omega
  exact c.lo i _ (by omega) (by rw[aO this];simp)
 have Y:∀y∈p.toList.drop k,j<y:=fun y q=>by
  obtain⟨i,hi,rfl⟩:=List.mem_drop_iff_getElem.mp q;have J:k+i<p.size:=by rw[Zr] at hi;omega
  have h1:=c.hi (k+i) p[k+i] (by omega) (by rw[aO J]);have h2:p[k+i]≠j:=fun z=>by
   by_cases e:i=0
   ·subst e
    exact M (by rw[<-z];exact aO (by simpa using J))
   ·have hk:k<p.size:=by omega
    have h3:=h.lt (i:=k) (j:=k+i) (by omega) (aO hk) (aO J);have h4:=c.hi k _ (Zq _) (aO hk);omega
  show j<p.toList[k+i];rw[Array.getElem_toList];omega
 rw[ix];refine⟨c7 (jb k _) h,?_,fun a ha b hb=>?_⟩
 ·rw[md]
  exact⟨Y,c7 (List.drop_sublist k _) h⟩
 ·rcases aH.mp hb with hb|hb
  ·rw[hb];exact O a ha
  ·exact ji (O a ha) (Y b hb)
theorem VC {t:SetTable}(Y:t.dummies=#[]){hashAt:Nat->Int}{h:Int}:∀(q:Nat) (p:Probe),p.dummy=none->∀{j:Nat}{d:Option Nat},probe.go t hashAt h q p=some (.empty j d)->t.slot j=.empty/\d=none
 |0,p,_,j,d,e=>by
  unfold probe.go at e;cases e
 |q+1,p,M,j,d,e=>by
  unfold probe.go at e;cases J:t.slot p.j with
  |empty=>
   rw[J] at e;dsimp only at e;have e:=aA e;injection e with e1 e2;subst e1;exact⟨J,by rw[<-e2];exact M⟩
  |dummy=>
   exfalso;unfold mz at J;dsimp only at J;split at J
   ·cases J
   ·split at J
    ·rename_i O
     unfold has at O;rw[Y] at O;simp at O
    ·cases J
  |live i=>
   rw[J] at e;dsimp only at e;split at e
   ·cases e
   ·refine VC Y q _ ?_ e
    unfold advance;split
    ·exact M
    ·exact M
theorem Zf9 {t:SetTable}(O:t.dummies=#[]){h:Int}{j:Nat}{b:Bool}(e:t.freeSlot h=some (j,b)):t.place[below t.place j]?≠some j:=by
 unfold SetTable.freeSlot at e;split at e
 ·rename_i Y d' e'
  have e:=aA e;injection e with J e2;obtain⟨q,h2⟩:=VC O _ _ rfl e';subst h2;have J:Y=j:=J;subst J;unfold mz at q;dsimp only at q;split at q
  ·cases q
  ·rename_i M
   intro z;exact M (by rw[z];simp)
 ·cases e
structure Wk (t:SetTable)(led:Bool):Prop where
 rise:Vx t.place
 dum:t.dummies=#[]
 led:t.led=led
theorem ZdM (n:Nat):Vx (Array.range n):=by
 unfold Vx;rw[Array.toList_range];exact hU
theorem Wk.standIn {t:SetTable}{led:Bool}(h:t.led=led)(n:Nat):Wk (t.standIn n) led:=⟨ZdM n,rfl,h⟩
theorem Wk.lay {t:SetTable}{led:Bool}(W:Wk t led)(J:Array (Int×Value))(h:Int)(x:Value):Wk (layNew t J h x).2.1 led:=by
 unfold layNew;split
 ·rename_i slot M e
  try dsimp only
  have j:=Zf9 W.dum e;have q:Wk (t.put slot).1 led:=by
   unfold put
   try dsimp only
   refine⟨W.rise.insert j,?_,W.led⟩
   try dsimp only
   rw[W.dum];unfold has;simp
  unfold SetTable.orStandIn;split
  ·exact q
  ·exact .standIn q.led _
 ·exact .standIn W.led _
theorem ZjT {n:Nat}(g:Nat->Option Nat):(((ac n).filterMap fun j=>(g j).map (j,·)).map (·.1)).Pairwise (· < ·):=by
 have e:∀l:List Nat,(l.filterMap fun j=>(g j).map (j,·)).map (·.1)=l.filter fun j=>(g j).isSome:=fun l=>by
  induction l with
  |nil=>rfl
  |cons a l q=>
   rw[cf,jt];cases h:g a with
   |none=>rw[Option.map_none];dsimp only;rw[q];rfl
   |some b=>rw[dz];dsimp only;rw[aV,q];rfl
 rw[e];exact c7 lV hU
theorem Wk.relay {t:SetTable}{led:Bool}(W:Wk t led)(M:Array (Int×Value))(j:Nat):Wk (relayAll t M j).2.1 led:=by
 unfold relayAll;split
 ·rename_i t' q e
  try dsimp only
  split
  ·dsimp only
   unfold relaid laid at e;cases O:layClean (sizeAbove j-1) (M.map (·.1)) with
   |none=>rw[O] at e;cases e
   |some J=>
    rw[O] at e;have e:=aA e;injection e with Y e2;subst Y;refine⟨?_,rfl,W.led⟩;unfold Vx;exact ZjT _
  ·exact .standIn W.led _
 ·exact .standIn W.led _
theorem Wk.plain {t:SetTable}{led:Bool}(W:Wk t led)(b:Bool):Wk {t with plain:=b} led:=⟨W.rise,W.dum,W.led⟩
theorem Wk.fresh (led:Bool):Wk (SetTable.fresh 0 0 led) led:=⟨eG,rfl,rfl⟩
theorem ZeQ {p:Array Nat}(h:Vx p){i:Nat}{slot:Nat}(M:i<=p.size)(J:(i=0/\slot=0)\/(∃j x,i=j+1/\p[j]?=some x/\slot=x+1)):below p slot=i:=by
 refine (ZaK h slot).uniq ⟨M,fun k x O e=>?_,fun k x O e=>?_⟩
 ·rcases J with ⟨rfl,_⟩|⟨j,y,rfl,q,rfl⟩
  ·omega
  ·by_cases Y:k=j
   ·subst Y
    rw[q] at e;cases e;omega
   ·have:=h.lt (by omega) e q
    omega
 ·rcases J with ⟨_,rfl⟩|⟨j,y,rfl,q,rfl⟩
  ·omega
  ·have:=h.lt (by omega) q e
   omega
theorem XG {α:Type}:∀{l:List α}{i:Nat}{x:α},l[i]?=some x->bP (x::l.eraseIdx i) l
 | [],i,x,e=>by cases e
 |a::l,0,x,e=>by cases e;exact cZ _
 |a::l,i+1,x,e=>by
  rw[List.getElem?_cons_succ] at e;rw[List.eraseIdx_cons_succ];exact (List.Perm.swap a x _).trans ((XG e).cons a)
theorem Zap {α:Type}(next:Nat->Nat):∀(j k:Nat) (left:List α) (out:Array α),left.length<=j->bP (jK next j k left out).toList (out.toList++left)
 |0,k,left,out,h=>by
  have:left=[]:=gR.mp (by omega);subst this;unfold jK;rw[fY]
 |j+1,k,left,out,h=>by
  unfold jK;split
  ·rename_i x e
   have q:=(ae.mp e).1;refine (Zap next j (k+1) _ _ (by rw[lH];split <;> omega)).trans ?_
   rw[mo,jf];refine List.Perm.append_left _ ?_;exact XG e
  ·rename_i e
   have:left=[]:=by
    rcases left with _|⟨a,l⟩
    ·rfl
    ·exfalso
     rw[gw] at e;have:=ba (next k) (show 0<(a::l).length by rw[Zi];omega);omega
   subst this;rw[fY]
theorem WT {α:Type}(next:Nat->Nat)(xs:Array α):bP (pickOrder next xs).toList xs.toList:=by
 unfold pickOrder;have:=Zap next xs.size 0 xs.toList #[] (by rw[Zr];exact Zq _);simpa using this
end PyS
namespace PyS
open PySem
theorem Z3:Slot "set_iterator" "__next__" "set_iterator.__next__":=
 .of (owner:="set_iterator") (n:="__next__") (by rw[typeLookup_type,mK];kernel_rfl) (by decide +kernel) (by decide +kernel) (by decide +kernel)
  (by first|exact .inl (by decide +kernel)|exact .inr (by decide +kernel)) (by rw[kJ];kernel_rfl)
theorem Ws:entryFor table "set_iterator.__next__"=some cK.«set_iterator.__next__»:=entryFor_of_tree (by kernel_rfl)
theorem ZcB:Manifest.owners.lookup (String.ofList ['r','o','t','a','r','e','t','i','_','t','e','s'].reverse)=some Manifest.sig_set_iterator:=by kernel_rfl
theorem WN (a:Value):argsOk "set_iterator.__next__" ⟨[a],[]⟩:=by
 unfold argsOk;rw[signature?_of (id:="set_iterator.__next__") (n:=['_','_','t','x','e','n','_','_']) (o:=['r','o','t','a','r','e','t','i','_','t','e','s']) (by kernel_rfl) ZcB];kernel_rfl
theorem XW:Slot "set_iterator" "__iter__" "set_iterator.__iter__":=
 .of (owner:="set_iterator") (n:="__iter__") (by rw[typeLookup_type,mK];kernel_rfl) (by decide +kernel) (by decide +kernel) (by decide +kernel)
  (by first|exact .inl (by decide +kernel)|exact .inr (by decide +kernel)) (by rw[kJ];kernel_rfl)
theorem U6:entryFor table "set_iterator.__iter__"=some cK.«dict_keyiterator.__iter__»:=entryFor_alias (id':="dict_keyiterator.__iter__") (by kernel_rfl) rfl (by decide +kernel) (by kernel_rfl)
theorem ZbX (a:Value):argsOk "set_iterator.__iter__" ⟨[a],[]⟩:=by
 unfold argsOk;rw[signature?_of (id:="set_iterator.__iter__") (n:=['_','_','r','e','t','i','_','_']) (o:=['r','o','t','a','r','e','t','i','_','t','e','s']) (by kernel_rfl) ZcB];kernel_rfl
theorem UK:entryFor table "set.__iter__"=some cK.«frozenset.__iter__»:=entryFor_alias (id':="frozenset.__iter__") (by kernel_rfl) rfl (by decide +kernel) (by kernel_rfl)
noncomputable def JM (h:Heap)(a:Addr)(j:Array (Int×Value))(ep:Nat)(t:SetTable):Prop:=∃o,h.get? a=some o/\o.ExactSet/\o.data=.set j ep t/\t.fits j.size=true
noncomputable def Y2 (h:Heap)(I:Addr)(first:Value)(i:Nat)(a:Addr)(n ep:Nat):Prop:=∃o,h.get? I=some o/\o.cls=.type "set_iterator"/\o.data=.fields #[first,.int i 0,.ref a,.int n 0,.int ep 0]
theorem JM.keep {h h':Heap}{a:Addr}{j:Array (Int×Value)}{ep:Nat}{t:SetTable}(S:JM h a j ep t)(k:∀o,h.get? a=some o->h'.get? a=some o):JM h' a j ep t:=let ⟨o,e,r⟩:=S;⟨o,k o e,r⟩
theorem Y2.keep {h h':Heap}{I:Addr}{first:Value}{i:Nat}{a:Addr}{n ep:Nat}(S:Y2 h I first i a n ep)(k:∀o,h.get? I=some o->h'.get? I=some o):Y2 h' I first i a n ep:=let ⟨o,e,r⟩:=S;⟨o,k o e,r⟩
section
variable {prog:Program}{w:World}{A:Around}{E:Value->Shared->Prop}{s:Shared}{I a:Addr}{es:Array (Int×Value)}{ep:Nat}{t:SetTable}{first:Value}{i n:Nat}
theorem Y2.typeIs (h:Y2 s.heap I first i a n ep):s.TypeIs (.ref I) "set_iterator":=let ⟨o,e,c,_⟩:=h;⟨o,e,c⟩
theorem JM.typeIs (h:JM s.heap a es ep t):s.TypeIs (.ref a) "set":=let ⟨o,e,c,_⟩:=h;⟨o,e,c.1⟩
theorem JM.state (h:JM s.heap a es ep t){Q:(Array (Int×Value)×Nat×SetTable)->Shared->Prop}(q:Q (es,ep,t) s):wpAny (model prog w) A (setState a) Q E s:=let ⟨_,e,_,d,f⟩:=h;wpAny_setState_of e d f q
theorem JM.entries (h:JM s.heap a es ep t){Q:Array (Int×Value)->Shared->Prop}(q:Q es s):wpAny (model prog w) A (setEntries a) Q E s:=by
 unfold setEntries;exact Zl (h.state (Zm q))
theorem JM.epoch (h:JM s.heap a es ep t){Q:Nat->Shared->Prop}(q:Q ep s):wpAny (model prog w) A (setEpoch a) Q E s:=by
 unfold setEpoch;exact Zl (h.state (Zm q))
theorem ZbV {Q:Bool->Shared->Prop}(q:Q (w.params.followText "set-order") s):wpAny (model prog w) A setsByText Q E s:=by
 unfold setsByText;exact Zl (jV (Zm q))
theorem Y2.turn {h:Heap}{o:Obj}(e:h.get? I=some o)(c:o.cls=.type "set_iterator")(d:o.data=.fields #[first,.int i 0,.ref a,.int n 0,.int ep 0])(next:Value) :
  Y2 ((h.update I (gM (·.setIfInBounds 0 next))).update I (gM (·.setIfInBounds 1 (rawInt ((i:Int)+1))))) I next (i+1) a n ep:=by
 have q:=bJ (gM (·.setIfInBounds 0 next)) e (cS (bH d _));have j:=bH d (·.setIfInBounds 0 next);refine⟨_,bJ _ q (cS (bH j _)),?_,?_⟩
 ·rw[gE,gE,c]
 ·rw[bH j]
  simp[rawInt]
theorem ZcH {slot:Nat}{Q:Option Value->Shared->Prop}(j:Y2 s.heap I (.int slot 0) i a n ep)(M:JM s.heap a es ep t)(O:es.size=n){x:Value}{nx:Nat}
  (Y:∀{R:Option (Value×Nat)->Shared->Prop}{A':Around}{E':Value->Shared->Prop},R (some (x,nx)) s->wpAny (model prog w) A' (setNext a slot i ep) R E' s)
  (q:∀h',Y2 h' I (.int nx 0) (i+1) a n ep->bg I s.heap h'->Q (some x) {s with heap:=h'}):wpAny (model prog w) A (pyNext (.ref I)) Q E s:=by
 obtain⟨o,e,c,d⟩:=id j;unfold pyNext;refine Zl (dY (bx (name:=cV "__next__") j.typeIs Z3 (bG Z3 j.typeIs Ws ?_ (WN _))));unfold cK.«set_iterator.__next__»;refine Zl (Zm ?_);refine Zl (iX e d ?_);refine Zl (M.entries ?_);rw[O];rw[if_neg (by simp)];show wpAny _ _ (setNext a slot i ep >>= _) _ _ s;refine Zl (Y ?_)
 try dsimp only
 refine Zl (dC e d (by simp) ?_);have h1:=bJ (gM (·.setIfInBounds 0 (rawInt nx))) e (cS (bH d _));have d1:=bH d (·.setIfInBounds 0 (rawInt nx));refine Zl (dC h1 d1 (by simp) ?_);exact Zm ⟨_,rfl,Zm (q _ (Y2.turn e c d _) ((bO ..).trans (bO ..)))⟩
theorem Zcc {h:Heap}{Q:Option Value->Shared->Prop}{F:Fin->Shared->Prop}(j:A.handled=none)(q:∀h',(∀b o,h.get? b=some o->h'.get? b=some o)->Q none {s with heap:=h'}) :
  wpAny (model prog w) A.in1 (do let x <-newExc (.type "StopIteration") [];raiseNew (α:=Fin) x) F (fun e s'=>wpAny (model prog w) A (do let b <-isInstance e (.type "StopIteration");if b=true then pure none else throw e) Q E s') {s with heap:=h}:=by
 refine Zl ?_;unfold newExc newTuple;refine Zl (bQ (Q:=_) ?_ (by size_fits));refine Zl (m:=firstArgMember _ _) (jZ (a:=bf) (by first|rfl|(unfold firstArgMember;rfl)) ?_)
 refine bQ (Q:=_) ?_ (by size_fits);unfold raiseNew;refine Zl (wpAny_handled ?_);rw[show A.in1.handled=none from j];refine Zl (Zm (wpAny_throw ?_));refine Zl (ir (T:="StopIteration") (b:=true) ⟨_,Zo _ rfl,rfl⟩ kK ?_);exact Zm (q _ fun b o e=>Zn _ (Zn _ e))
theorem Zfc {slot:Nat}{Q:Option Value->Shared->Prop}(O:A.handled=none)(j:Y2 s.heap I (.int slot 0) i a n ep)(Y:JM s.heap a es ep t)(hn:es.size=n)
  (hN:∀{R:Option (Value×Nat)->Shared->Prop}{A':Around}{E':Value->Shared->Prop},R none s->wpAny (model prog w) A' (setNext a slot i ep) R E' s)
  (q:∀h',(∀b o,b≠I->s.heap.get? b=some o->h'.get? b=some o)->Q none {s with heap:=h'}):wpAny (model prog w) A (pyNext (.ref I)) Q E s:=by
 obtain⟨o,e,c,d⟩:=id j;unfold pyNext;refine Zl (dY (bx (name:=cV "__next__") j.typeIs Z3 (bG Z3 j.typeIs Ws ?_ (WN _))));unfold cK.«set_iterator.__next__»;refine Zl (Zm ?_);refine Zl (iX e d ?_);refine Zl (Y.entries ?_);rw[hn];rw[if_neg (by simp)];show wpAny _ _ (setNext a slot i ep >>= _) _ _ s;refine Zl (hN ?_)
 try dsimp only
 refine Zl (dC e d (by simp) ?_);exact Zcc O fun h' k=>q h' fun b M hb e'=>k b M ((bO s.heap I _).extBut b M hb e')
theorem ZeP (j:w.params.followText "set-order"=true)(J:JM s.heap a es ep t){slot:Nat}{R:Option (Value×Nat)->Shared->Prop}
  (q:R (((pickOrder (w.params.setOrder a ep) es)[i]?).map fun e=>(e.2,slot)) s):wpAny (model prog w) A (setNext a slot i ep) R E s:=by
 unfold setNext;refine Zl (J.state ?_)
 try dsimp only
 refine Zl (ZbV ?_);rw[j,if_pos rfl,if_neg (by simp)];refine Zl ?_;unfold setWalk;refine Zl (J.state ?_)
 try dsimp only
 refine Zl (ZbV ?_);rw[j,if_pos rfl];exact Zl (jV (Zm (Zm q)))
theorem ZcD (J:w.params.followText "set-order"=false)(M:JM s.heap a es ep t)(hd:t.plain=true\/es.size<=1)(O:t.led=true){slot:Nat}{R:Option (Value×Nat)->Shared->Prop}
  (q:R (match es[lZ t.place slot]?,t.place[lZ t.place slot]? with|some (_,x),some j=>some (x,j+1)|_,_=>none) s):wpAny (model prog w) A (setNext a slot i ep) R E s:=by
 unfold setNext;refine Zl (M.state ?_)
 try dsimp only
 refine Zl (ZbV ?_);rw[J,if_neg (by decide)];show wpAny _ _ (if (!t.plain && decide (es.size > 1))=true then _ else _) _ _ s
 rw[if_neg (by
  rcases hd with hd|hd
  ·rw[hd];simp
  ·rw[decide_eq_false (by omega),jU];decide)]
 show wpAny _ _ ((if (!t.led && !es.isEmpty)=true then _ else _) >>= _) _ _ s
 rw[O];exact Zl (Zm (Zm q))
theorem ZdW {T0:Addr}{J:Array Value}{pl:Nat}{Q:Option Value->Shared->Prop}(j:Y2 s.heap I (.ref T0) i a n ep)(Y:∃o k,s.heap.get? T0=some o/\o.data=.seq J k)(M:JM s.heap a es ep t)(hn:es.size=n)(hp:J[i]?=some (.int pl 0)){h:Int}{x:Value}(hx:es[pl]?=some (h,x))
  (q:∀h',Y2 h' I (.ref T0) (i+1) a n ep->bg I s.heap h'->Q (some x) {s with heap:=h'}):wpAny (model prog w) A (pyNext (.ref I)) Q E s:=by
 obtain⟨o,e,c,d⟩:=id j;obtain⟨ot,k,et,dt⟩:=Y;unfold pyNext;refine Zl (dY (bx (name:=cV "__next__") j.typeIs Z3 (bG Z3 j.typeIs Ws ?_ (WN _))));unfold cK.«set_iterator.__next__»;refine Zl (Zm ?_);refine Zl (iX e d ?_);refine Zl (M.entries ?_);rw[hn];rw[if_neg (by simp)];show wpAny _ _ (seqItems? (.ref T0) >>= _) _ _ s;refine Zl (cw et dt ?_)
 try dsimp only
 rw[Zj,hp];show wpAny _ _ (setNextDrawn a pl ep >>= _) _ _ s;refine Zl ?_;unfold setNextDrawn;refine Zl (M.state ?_)
 try dsimp only
 rw[if_neg (by simp),hx];refine Zm ?_;refine Zl (dC e d (by simp) ?_);refine Zm ⟨_,rfl,Zm (q _ ⟨_,bJ _ e (cS (bH d _)),?_,?_⟩ (bO ..))⟩
 ·rw[gE,c]
 ·rw[bH d]
  simp[rawInt]
theorem Zgc {T0:Addr}{J:Array Value}{Q:Option Value->Shared->Prop}(Y:A.handled=none)(j:Y2 s.heap I (.ref T0) i a n ep)(hT:∃o k,s.heap.get? T0=some o/\o.data=.seq J k)(hS:JM s.heap a es ep t)(hn:es.size=n)(hp:J[i]?=none)
  (q:∀h',(∀b o,b≠I->s.heap.get? b=some o->h'.get? b=some o)->Q none {s with heap:=h'}):wpAny (model prog w) A (pyNext (.ref I)) Q E s:=by
 obtain⟨o,e,c,d⟩:=id j;obtain⟨ot,k,et,dt⟩:=hT;unfold pyNext;refine Zl (dY (bx (name:=cV "__next__") j.typeIs Z3 (bG Z3 j.typeIs Ws ?_ (WN _))));unfold cK.«set_iterator.__next__»;refine Zl (Zm ?_);refine Zl (iX e d ?_);refine Zl (hS.entries ?_);rw[hn];rw[if_neg (by simp)];show wpAny _ _ (seqItems? (.ref T0) >>= _) _ _ s;refine Zl (cw et dt ?_)
 try dsimp only
 rw[Zj,hp]
 try dsimp only
 refine Zl (dC e d (by simp) ?_);have h1:=bJ (gM (·.setIfInBounds 0 (rawInt 0))) e (cS (bH d _));have d1:=bH d (·.setIfInBounds 0 (rawInt 0));refine Zl (dC h1 d1 (by simp) ?_);exact Zcc Y fun h' k=>q h' fun b O hb e'=>k b O (((bO s.heap I _).trans (bO _ I _)).extBut b O hb e')
theorem Zgl {src:Source}{m:Nat}{Q:Nat->Shared->Prop}(j:m≠0)(q:∀k J,k<m->Q k {s with drawn:=J}):wpAny (model prog w) A (choose src m) Q E s:=fun _ _ _=>⟨j,q _ _ (ba _ (by omega))⟩
theorem ZaC {α:Type}:∀(m:Nat) (xs:List α) {s:Shared}{Q:List α->Shared->Prop},xs.length<=m->(∀ys M,bP ys xs->Q ys {s with drawn:=M})->wpAny (model prog w) A (drawOrder m xs) Q E s
 |0,xs,s,Q,h,q=>by
  have:xs=[]:=gR.mp (by omega);subst this;unfold drawOrder;exact Zm (q [] s.drawn (cZ _))
 |m+1,[],s,Q,h,q=>by
  unfold drawOrder;exact Zm (q [] s.drawn (cZ _))
 |m+1,x::xs,s,Q,h,q=>by
  unfold drawOrder;refine Zl (Zgl (by rw[Zi];omega) fun k M j=>?_);rw[Zf j]
  try dsimp only
  refine Zl (ZaC m _ (by rw[lH,if_pos j];omega) fun ys J O=>Zm ?_);exact q _ J ((O.cons _).trans (XG (Zf j)))
end
section
variable {prog:Program}{w:World}{A:Around}{E:Value->Shared->Prop}{s:Shared}{I a:Addr}{es:Array (Int×Value)}{ep:Nat}{t:SetTable}{first:Value}{i n:Nat}
theorem Zbb {Q:Value->Shared->Prop}(j:Y2 s.heap I first i a n ep)(q:Q (.ref I) s):wpAny (model prog w) A (pyIter (.ref I)) Q E s:=by
 refine wpAny_pyIter_slot j.typeIs XW (bG XW j.typeIs U6 ?_ (ZbX _));show wpAny _ _ (ret (.ref I)) _ _ s;exact Zm ⟨_,rfl, "set_iterator",_,j.typeIs,Z3.lookup,q⟩
noncomputable def XO (es:Array (Int×Value)):List Value:=es.toList.map (·.2)
theorem Zfu (hh:A.handled=none)(O:w.params.followText "set-order"=true)(q:a≠I) :
  Walks prog w A I [I,a] [I] es.size (fun i v=>((pickOrder (w.params.setOrder a ep) es).toList.map (·.2))[i]?=some v) (fun i h=>Y2 h I (.int 0 0) i a es.size ep/\JM h a es ep t) where
 sub:=fun b hb=>by simp at hb;simp[hb]
 frame:=fun _ _ _ st k=>⟨st.1.keep fun o e=>k I (by simp) o e,st.2.keep fun o e=>k a (by simp) o e⟩
 item:=fun i s Q E hi st j=>by
  have J:=WT (w.params.setOrder a ep) es;have hl:(pickOrder (w.params.setOrder a ep) es).size=es.size:=by rw[<-Zr,J.length_eq,Zr]
  have e:(pickOrder (w.params.setOrder a ep) es)[i]?=some ((pickOrder (w.params.setOrder a ep) es)[i]'(by omega)):=aO (by omega);generalize (pickOrder (w.params.setOrder a ep) es)[i]'(by omega)=y at e;refine ZcH (slot:=0) (x:=y.2) (nx:=0) st.1 st.2 rfl (fun {R A' E'} r=>ZeP O st.2 (by rw[e];exact r)) fun M i' Y=>?_;refine j y.2 M s.toks ?_ ⟨i',st.2.keep fun o e=>Y.extBut a o q e⟩ fun b o hb e=>Y.extBut b o (fun z=>hb (by simp[z])) e;rw[Zc,cO,e];rfl
 done:=fun s Q E st j=>by
  have J:=WT (w.params.setOrder a ep) es;have hl:(pickOrder (w.params.setOrder a ep) es).size=es.size:=by rw[<-Zr,J.length_eq,Zr]
  refine Zfc (slot:=0) hh st.1 st.2 rfl (fun {R A' E'} r=>ZeP O st.2 (by rw[cI (by omega)];exact r)) fun M k=>j M s.toks fun b o hb e=>k b o (fun z=>hb (by simp[z])) e
 self:=fun _ _ _ _ st j=>Zbb st.1 j
theorem Zdk (hh:A.handled=none)(ht:w.params.followText "set-order"=false)(hd:t.plain=true\/es.size<=1)(W:Wk t true)(Y:a≠I) :
  Walks prog w A I [I,a] [I] es.size (fun i v=>(XO es)[i]?=some v) (fun i h=>∃slot:Nat,((i=0/\slot=0)\/(∃j x,i=j+1/\t.place[j]?=some x/\slot=x+1))/\Y2 h I (.int slot 0) i a es.size ep/\JM h a es ep t) where
 sub:=fun b hb=>by simp at hb;simp[hb]
 frame:=fun _ _ _ st k=>by
  obtain⟨slot,M,J,q⟩:=st;exact⟨slot,M,J.keep fun o e=>k I (by simp) o e,q.keep fun o e=>k a (by simp) o e⟩
 item:=fun i s Q E hi st O=>by
  obtain⟨slot,M,J,q⟩:=st;have hf:t.place.size=es.size:=by
   obtain⟨_,_,_,_,f⟩:=q;simp only[mB,af,beq_iff_eq] at f;exact f.1
  have hb:=ZeQ W.rise (i:=i) (slot:=slot) (by omega) M;have e1:es[i]?=some es[i]:=aO hi;have e2:t.place[i]?=some (t.place[i]'(by omega)):=aO (by omega);generalize es[i]=y at e1;generalize t.place[i]'(by omega)=j at e2;refine ZcH (slot:=slot) (x:=y.2) (nx:=j+1) J q rfl (fun {R A' E'} r=>ZcD ht q hd W.led (by rw[hb,e1,e2];exact r)) fun h' i' sb=>?_;refine O y.2 h' s.toks ?_ ⟨j+1,.inr ⟨i,j,rfl,e2,rfl⟩,i',q.keep fun o e=>sb.extBut a o Y e⟩ fun b o hb e=>sb.extBut b o (fun z=>hb (by simp[z])) e;show (es.toList.map (·.2))[i]?=some y.2;rw[Zc,cO,e1];rfl
 done:=fun s Q E st O=>by
  obtain⟨slot,M,J,q⟩:=st;have hf:t.place.size=es.size:=by
   obtain⟨_,_,_,_,f⟩:=q;simp only[mB,af,beq_iff_eq] at f;exact f.1
  have hb:=ZeQ W.rise (i:=es.size) (slot:=slot) (by omega) M;refine Zfc (slot:=slot) hh J q rfl (fun {R A' E'} r=>ZcD ht q hd W.led (by rw[hb,cI (Zq _)];exact r)) fun h' k=>O h' s.toks fun b o hb e=>k b o (fun z=>hb (by simp[z])) e
 self:=fun _ _ _ _ st O=>by
  obtain⟨slot,M,J,q⟩:=st;exact Zbb J O
theorem Zdl (hh:A.handled=none){T0:Addr}{j:List Nat}(M:bP j (ac es.size))(m5:a≠I)(m6:T0≠I) :
  Walks prog w A I [I,a,T0] [I] es.size (fun i v=>(j.filterMap fun p=>(es[p]?).map (·.2))[i]?=some v) (fun i h=>Y2 h I (.ref T0) i a es.size ep/\JM h a es ep t/\∃o k,h.get? T0=some o/\o.data=.seq (j.map fun (p:Nat)=>rawInt p).toArray k) where
 sub:=fun b hb=>by simp at hb;simp[hb]
 frame:=fun _ _ _ st k=>by
  obtain⟨Y,O,o,k0,J,h4⟩:=st;exact⟨Y.keep fun o e=>k I (by simp) o e,O.keep fun o e=>k a (by simp) o e,o,k0,k T0 (by simp) o J,h4⟩
 item:=fun i s Q E hi st hQ=>by
  obtain⟨Y,O,J⟩:=st;have hl:j.length=es.size:=by rw[M.length_eq,Zg]
  have e0:j[i]?=some (j[i]'(by omega)):=Zf (by omega);have hm:j[i]'(by omega)<es.size:=ag.mp (M.mem_iff.mp (bK _));generalize j[i]'(by omega)=pl at e0 hm;have e1:es[pl]?=some es[pl]:=aO hm;generalize es[pl]=y at e1;obtain⟨hv,x⟩:=y;refine ZdW (pl:=pl) Y J O rfl (by simp[e0,rawInt]) e1 fun h' i' sb=>?_;obtain⟨o,k0,J,h4⟩:=J;refine hQ x h' s.toks ?_ ⟨i',O.keep fun o e=>sb.extBut a o m5 e,o,k0,sb.extBut T0 o m6 J,h4⟩ fun b o hb e=>sb.extBut b o (fun z=>hb (by simp[z])) e;have all:∀(l:List Nat),(∀p∈l,p<es.size)->(l.filterMap fun p=>(es[p]?).map (·.2))=l.map fun p=>(es.getD p (0,.none)).2:=fun l=>by
   induction l with
   |nil=>intro _;rfl
   |cons p l ih=>
    intro h;have M:=h p ax;rw[cf,aO M,dz,aV,ih fun q hq=>h q (aq _ hq)]
    try dsimp only
    rw[cJ,aO M];rfl
  rw[all j fun p hm=>ag.mp (M.mem_iff.mp hm),Zc,e0,dz,cJ,e1];rfl
 done:=fun s Q E st hQ=>by
  obtain⟨Y,O,J⟩:=st;have hl:j.length=es.size:=by rw[M.length_eq,Zg]
  refine Zgc hh Y J O rfl (by rw[cI (by simp[hl])]) fun h' k=>hQ h' s.toks fun b o hb e=>k b o (fun z=>hb (by simp[z])) e
 self:=fun _ _ _ _ st hQ=>Zbb st.1 hQ
theorem Zg7 (hz:es.size<=sizeLine)(M:JM s.heap a es ep t)(W:Wk t (!w.params.followText "set-order")){Q:Value->Shared->Prop}
  (q:∀(I:Addr) (fp:List Addr) (h':Heap) (dr:kU) (L:List Value) (St:Nat->Heap->Prop),s.heap.objs.size<=I->(∀b∈fp,b=a\/s.heap.objs.size<=b)->(∀b o,s.heap.get? b=some o->h'.get? b=some o)->bP L (XO es)->
   (∀A':Around,A'.handled=none->Walks prog w A' I fp [I] es.size (fun i v=>L[i]?=some v) St)->St 0 h'->Q (.ref I) {s with heap:=h',drawn:=dr}) :
  wpAny (model prog w) A (pyIter (.ref a)) Q E s:=by
 have ha:a<s.heap.objs.size:=let ⟨o,e,_⟩:=M;Zp e;refine wpAny_pyIter_slot M.typeIs F.slot_set_iter (bG F.slot_set_iter M.typeIs UK ?_ (F.args_set_iter_1 _));unfold cK.«frozenset.__iter__»;show wpAny _ _ (pure a >>= _) _ _ s;refine Zl (Zm ?_);refine Zl ?_;unfold Builtin.Frozenset.sizeOf;refine Zl (M.entries (Zm ?_));refine Zl ?_;unfold setDrawn;refine Zl (M.state ?_)
 try dsimp only
 refine Zl (ZbV (Zm ?_));show wpAny _ _ (if (!w.params.followText "set-order" && (!t.plain && decide (es.size > 1)))=true then _ else _) _ _ s
 by_cases J:(!w.params.followText "set-order" && (!t.plain && decide (es.size > 1)))=true
 ·rw[if_pos J]
  refine Zl (ZaC _ _ (by rw[Zg];exact Zq _) fun O dr hp=>?_);have hl:O.length=es.size:=by rw[hp.length_eq,Zg]
  unfold newTuple;refine Zl (bQ ?_ (by show (gQ (fun (i:Nat)=>rawInt i) O).toArray.size<=sizeLine;rw[Zh,Za,hl];exact hz));have h1:(s.heap.push {cls:=.type "tuple",data:=.seq (gQ (fun (i:Nat)=>rawInt i) O).toArray}).get? s.heap.objs.size=some {cls:=.type "tuple",data:=.seq (gQ (fun (i:Nat)=>rawInt i) O).toArray}:=Zo _ rfl;have m5:∀b o,s.heap.get? b=some o->(s.heap.push {cls:=.type "tuple",data:=.seq (gQ (fun (i:Nat)=>rawInt i) O).toArray}).get? b=some o:=fun b o e=>Zn _ e;have m6:(s.heap.push {cls:=.type "tuple",data:=.seq (gQ (fun (i:Nat)=>rawInt i) O).toArray}).objs.size=s.heap.objs.size+1:=bC ..;generalize s.heap.push {cls:=.type "tuple",data:=.seq (gQ (fun (i:Nat)=>rawInt i) O).toArray}=g1 at h1 m5 m6 ⊢;have m8:JM g1 a es ep t:=M.keep fun o e=>m5 a o e;refine Zl (JM.epoch (s:={s with heap:=g1,drawn:=dr}) m8 ?_);refine Zl ?_;unfold newFields;refine bQ (Zm ⟨_,rfl, "set_iterator",_,⟨_,Zo _ rfl,rfl⟩,Z3.lookup,?_⟩) (by size_fits);refine q g1.objs.size [g1.objs.size,a,s.heap.objs.size] _ dr _ (fun i h=>Y2 h g1.objs.size (.ref s.heap.objs.size) i a es.size ep/\JM h a es ep t/\∃o k,h.get? s.heap.objs.size=some o/\o.data=.seq (O.map fun (p:Nat)=>rawInt p).toArray k) (by omega) (fun b hb=>?_) (fun b o e=>Zn _ (m5 b o e)) ?_
   (fun A' hh=>Zdl hh hp (aD (by rw[m6];exact fv ha)) (aD (by rw[m6];exact cL _))) ⟨⟨_,Zo _ rfl,rfl,rfl⟩,m8.keep fun o e=>Zn _ e,_,_,Zn _ h1,rfl⟩
  ·simp only[aH,eB,or_false] at hb
   rcases hb with rfl|rfl|rfl
   ·right;omega
   ·left;rfl
   ·right;omega
  ·refine (hp.filterMap _).trans ?_
   have e:((ac es.size).filterMap fun p=>(es[p]?).map (·.2))=XO es:=by
    unfold XO;rw[<-filterMap_getElem?_range es,List.map_filterMap]
   rw[e]
 ·rw[if_neg J]
  refine Zl (Zm ?_);refine Zl (M.epoch ?_);refine Zl ?_;unfold newFields;refine bQ (Zm ⟨_,rfl, "set_iterator",_,⟨_,Zo _ rfl,rfl⟩,Z3.lookup,?_⟩) (by size_fits);have Y:∀b∈[s.heap.objs.size,a],b=a\/s.heap.objs.size<=b:=fun b hb=>by
   simp only[aH,eB,or_false] at hb;rcases hb with rfl|rfl
   ·right;omega
   ·left;rfl
  cases ht:w.params.followText "set-order" with
  |true=>
   refine q s.heap.objs.size [s.heap.objs.size,a] _ s.drawn _ (fun i h=>Y2 h s.heap.objs.size (.int 0 0) i a es.size ep/\JM h a es ep t) (Zq _) Y (fun b o e=>Zn _ e) ?_
    (fun A' hh=>Zfu hh ht (aD ha)) ⟨⟨_,Zo _ rfl,rfl,rfl⟩,M.keep fun o e=>Zn _ e⟩
   exact (WT _ es).map _
  |false=>
   rw[ht] at W J;refine q s.heap.objs.size [s.heap.objs.size,a] _ s.drawn _ (fun i h=>∃slot:Nat,((i=0/\slot=0)\/(∃j x,i=j+1/\t.place[j]?=some x/\slot=x+1))/\Y2 h s.heap.objs.size (.int slot 0) i a es.size ep/\JM h a es ep t) (Zq _) Y (fun b o e=>Zn _ e) (cZ _)
    (fun A' hh=>Zdk hh ht ?_ W (aD ha)) ⟨0,.inl ⟨rfl,rfl⟩,⟨_,Zo _ rfl,rfl,rfl⟩,M.keep fun o e=>Zn _ e⟩
   cases hp:t.plain with
   |true=>exact .inl rfl
   |false=>
    rw[hp] at J;right;by_cases h1:es.size > 1
    ·exfalso
     apply J;simp[h1]
    ·omega
end
end PyS
namespace PyS
open PySem PySem.W PyProof.Rows PySem.Calls PyProof.V PySem.Spec
section
variable {prog:Program}{w:World}{A:Around}{E:Value->Shared->Prop}{s:Shared}{a:Addr}{es:Array (Int×Value)}{ep:Nat}{t:SetTable}
theorem Zit {r:Addr}{Q:Bool->Shared->Prop}(J:s.TypeIs (.ref r) "set")(h:Q false s):wpAny (model prog w) A (fF (.ref r)) Q E s:=by
 unfold fF;refine Zl (wpAny_specialOf J PySem.F.slot_set_len.lookup ?_);generalize q:("set.__len__":String)=M
 wp_delta
 rw[show splitId M=some ("set", "__len__") from by subst q;decide +kernel];subst q;refine Zl (ir (T:="set") (b:=true) J (by rw[kJ];kernel_rfl) ?_);refine kf (fun j=>absurd j (by decide)) (fun _=>?_);refine kf (fun _=>?_) (fun j=>absurd (by decide +kernel) j);refine Zl (iy J ?_);exact Zm h
theorem Zik {L:List Value}{ZH:Array Value}{n:Nat}(q:L.length=n)(h:gZ (fun i v=>L[i]?=some v) ZH n):ZH.toList=L:=by
 refine bq fun i=>?_;by_cases j:i<n
 ·have e:ZH[i]?=some (ZH[i]'(by rw[h.1];exact j)):=aO _
  rw[cO,e];exact (h.2 i _ e).symm
 ·rw[ak (by rw[Zr,h.1];omega),ak (by omega)]
structure Src (prog:Program)(w:World)(T:String)(a d:Addr)(n:Nat)(Good:(Nat->Value->Prop)->Prop)(OK:Heap->Prop):Prop where
 type:∀s:Shared,OK s.heap->s.TypeIs (.ref a) T
 there:∀s:Shared,OK s.heap->d<s.heap.objs.size
 keep:∀h h':Heap,OK h->(∀b o,h.get? b=some o->h'.get? b=some o)->OK h'
 notList:(cz T == cz "list")=false
 notTuple:(cz T == cz "tuple")=false
 hint:∀(A:Around) (E:Value->Shared->Prop) (s:Shared) (Q:Bool->Shared->Prop),OK s.heap->Q false s->wpAny (model prog w) A (fF (.ref a)) Q E s
 iter:∀(A:Around) (E:Value->Shared->Prop) (s:Shared) (Q:Value->Shared->Prop),OK s.heap->
  (∀(I:Addr) (fp:List Addr) (h':Heap) (dr:kU) (P:Nat->Value->Prop) (St:Nat->Heap->Prop),s.heap.objs.size<=I->(∀b∈fp,b=a\/b=d\/s.heap.objs.size<=b)->(∀b o,s.heap.get? b=some o->h'.get? b=some o)->Good P->
   (∀A':Around,A'.handled=none->Walks prog w A' I fp [I] n P St)->St 0 h'->Q (.ref I) {s with heap:=h',drawn:=dr})->wpAny (model prog w) A (pyIter (.ref a)) Q E s
section
variable {T:String}{d:Addr}{n:Nat}{Good:(Nat->Value->Prop)->Prop}{OK:Heap->Prop}
theorem Zdu {R:Result->Shared->Prop}(C:Src prog w T a d n Good OK)(hh:A.handled=none)(hz:n<=sizeLine)(m5:OK s.heap)(S:Addr)(m8:S≠a)(o5:S≠d)(res:Value)(Y:Nat)(hL:s.heap.get? S=some {cls:=.type "list",data:=.seq #[] Y})
  (hR:∀h' dr tk (q:Array Value) c' P,(∀b o,b≠S->s.heap.get? b=some o->h'.get? b=some o)->h'.get? S=some {cls:=.type "list",dict:=none,data:=.seq q c',slots:=#[]}->Good P->gZ P q n->R (.ok (.ret res)) {s with heap:=h',drawn:=dr,toks:=tk}) :
  wpAny (model prog w) A.in1 (dh (.ref S) (.ref a) res)
   (fun fin s'=>match fin with | .done f=>R (.ok f) s' | .again c'=>c'.quiet=true/\codeAny (model prog w) A c' R s') (fun e s'=>R (.error e) s') s:=by
 have o6:S<s.heap.objs.size:=Zp hL;unfold dh;refine Zl (iy (T:=T) (C.type s m5) ?_);have h1:i9 (.ref S) (.ref a)=false:=by simp[i9,m8]
 simp only[h1,C.notList,C.notTuple,gJ,dB,if_false];refine Zl (C.iter _ _ _ _ m5 fun I fp h' dr P St hI o7 hk hp n6 st=>?_);have n8:S∉fp:=fun z=>by
  rcases o7 S z with e|e|e
  ·exact m8 e
  ·exact o5 e
  ·exact absurd o6 (Nat.not_lt.mpr e)
 have key:∀(h:Heap) (J tk:Nat),St 0 h->(∀b o,b≠S->s.heap.get? b=some o->h.get? b=some o)->
   h.get? S=some {cls:=.type "list",data:=.seq #[] J}->codeAny (model prog w) A (.builtin "list.extend.loop" ⟨[.ref S,.ref I,res],[]⟩) R {s with heap:=h,drawn:=dr,toks:=tk}:=by
  intro h J tk o8 hk j;refine codeAny_extend_loopS (n6 A.in1 hh).toS hz S n8 res n 0 _ #[] J rfl (bc _) o8 j (ItemsOf.nil _) fun s' q c' hm o9 n9=>?_;rw[Moved.eq_with hm];refine hR s'.heap dr s'.toks q c' P (fun b o hb e=>hm.heap b o (fun M=>?_) (hk b o hb e)) o9 hp n9;rcases aH.mp M with e'|M
  ·exact hb e'
  ·exact absurd (Zp e) (by rw[aU.mp M];exact Nat.not_lt.mpr hI)
 have j:=hk S _ hL;refine Zl (cR (C.hint _ _ {s with heap:=h',drawn:=dr} _ (C.keep _ _ m5 fun b o e=>hk b o e) ?_));refine kf (fun _=>?_) (fun _=>Zm ⟨df jE _,key _ Y _ st (fun b o _ e=>hk b o e) j⟩);refine Zl (dO ?_);refine Zl ?_;show wpAny _ _ (updateSeq S (·.push .none) >>= fun _=>updateSeq S (·.pop)) _ _ _;refine Zl (wpAny_updateSeq j rfl ?_);have O:=bJ (cP (·.push bf)) j rfl;refine wpAny_updateSeq (hz:=by seq_fits) O rfl ?_;have m6:=bJ (cP (·.pop)) O rfl;refine Zm ⟨df jE _,key _ _ _ ?_ (fun b o hb e=>?_) m6⟩
 ·refine (n6 A.in1 hh).frame 0 _ _ st fun b hb o e=>?_
  have o0:b≠S:=fun h=>n8 (h▸hb);exact (b9 _ _ (bd o0)).trans ((b9 _ _ (bd o0)).trans e)
 ·exact (b9 _ _ (bd hb)).trans ((b9 _ _ (bd hb)).trans (hk b o e))
theorem Zce {R:List Value->Shared->Prop}(C:Src prog w T a d n Good OK)(hh:A.handled=none)(hz:n<=sizeLine)(O:OK s.heap)
  (h:∀(h':Heap) (dr:kU) (tk:Nat) (ZH:Array Value) (P:Nat->Value->Prop),s.heap.objs.size<h'.objs.size->(∀b o,s.heap.get? b=some o->h'.get? b=some o)->Good P->gZ P ZH n->R ZH.toList {s with heap:=h',drawn:=dr,toks:=tk}) :
  wpAny (model prog w) A (collect (.ref a)) R E s:=by
 have ha:a<s.heap.objs.size:=let ⟨o,e,_⟩:=C.type s O;Zp e;unfold collect;refine Zl (kG (cp entry_proto_collect' ?_));rw[bM jr _];show wpAny _ A.in1 (newList [] >>= fun l=>again (.builtin "list.__iadd__" ⟨[l,.ref a],[]⟩)) _ _ s;refine Zl (bQ ?_);refine Zm ⟨df eP _,cp entry_list_iadd' ?_⟩;rw[bM eP _];have Y:(s.heap.push {cls:=.type "list",data:=.seq ([]:List Value).toArray}).get? s.heap.objs.size=some {cls:=.type "list",data:=.seq #[]}:=Zo _ rfl;show wpAny _ A.in1 (dh (.ref s.heap.objs.size) (.ref a) (.ref s.heap.objs.size)) _ _ _;have m5:=Zdu (prog:=prog) (w:=w) (A:=A) (s:={s with heap:=s.heap.push {cls:=.type "list",data:=.seq ([]:List Value).toArray}})
  (R:=fun (q:Result) (s':Shared)=>∃(h':Heap) (dr:kU) (tk:Nat) (j:Array Value) (c':Nat) (P:Nat->Value->Prop),q=.ok (.ret (.ref s.heap.objs.size))/\s'={s with heap:=h',drawn:=dr,toks:=tk}/\
   (∀b o,s.heap.get? b=some o->h'.get? b=some o)/\h'.get? s.heap.objs.size=some {cls:=.type "list",dict:=none,data:=.seq j c',slots:=#[]}/\Good P/\gZ P j n)
  C hh hz (C.keep _ _ O fun b o e=>Zn _ e) s.heap.objs.size (bh ha) (bh (C.there _ O)) (.ref s.heap.objs.size) 0 Y
  (fun h' dr tk j c' P hk M hg J=>⟨h',dr,tk,j,c',P,rfl,rfl,fun b o e=>hk b o (aD (Zp e)) (Zn _ e),M,hg,J⟩)
 refine cH m5 (fun m6 s' x=>?_) fun e s' x=>?_
 ·cases m6 with
  |done f=>
   obtain⟨h',dr,tk,j,c',P,e,rfl,hk,M,hg,J⟩:=x;cases e;show wpAny _ A (load s.heap.objs.size >>= _) _ _ _;refine Zl (jv M ?_);exact Zm (h h' dr tk j P (Zp M) hk hg J)
  |again m8=>
   refine⟨x.1,fK x.2 fun q n6 y=>?_⟩;obtain⟨h',dr,tk,j,c',P,rfl,rfl,hk,M,hg,J⟩:=y;show wpAny _ A (load s.heap.objs.size >>= _) _ _ _;refine Zl (jv M ?_);exact Zm (h h' dr tk j P (Zp M) hk hg J)
 ·obtain⟨_,_,_,_,_,_,e',_⟩:=x
  cases e'
noncomputable def ZdV:Value->Int
 | .int k _=>k
 |_=>0
theorem Ziq:∀{l:List Value}{ns:List Int},a8 l ns->ns=l.map ZdV
 |_,_,.nil=>rfl
 |_,_,.cons n t r=>by rw[aV,<-Ziq r];rfl
theorem Zip:∀{l:List Value}{ns:List Int},a8 l ns->∀v∈l,∃k t,v=.int k t
 |_,_,.nil,v,h=>by cases h
 |_,_,.cons n t r,v,h=>by
  rcases aH.mp h with h|h
  ·exact⟨n,t,h⟩
  ·exact Zip r v h
theorem Zio:∀{l:List Value},(∀v∈l,∃k t,v=.int k t)->a8 l (l.map ZdV)
 | [],_=>.nil
 |v::l,h=>by
  obtain⟨k,t,rfl⟩:=h v ax;exact .cons k t (Zio fun u j=>h u (aq _ j))
theorem ZkC {l j:List Value}{ns:List Int}(p:bP j l)(h:a8 l ns):a8 j (j.map ZdV)/\bP (j.map ZdV) ns:=
 ⟨Zio fun v q=>Zip h v (p.mem_iff.mp q),by rw[Ziq h];exact p.map _⟩
theorem Zdt {Q:Value->Shared->Prop}(C:Src prog w T a d n Good OK)(hh:A.handled=none)(m8:n<64)(Y:OK s.heap){ns:List Int}(hi:∀P ZH,Good P->gZ P ZH n->a8 ZH.toList (ZH.toList.map ZdV)/\bP (ZH.toList.map ZdV) ns)
    (q:∀(D:Addr) (h':Heap) (dr:kU) (tk:Nat) (out:List Value) (j:List Int) (c:Nat),s.heap.objs.size<=D->(∀b o,s.heap.get? b=some o->h'.get? b=some o)->h'.get? D=some (seqObj "list" out.toArray c)->a8 out j->bP j ns->j.Pairwise (· ≤ ·)->Q (.ref D) {s with heap:=h',drawn:=dr,toks:=tk}) :
    wpAny (model prog w) A (call (.builtin "sorted") [.ref a]) Q E s:=by
  have hz : n ≤ sizeLine := by have:(16777216:Nat)=sizeLine:=by decide
                               omega
  refine lE kind_sorted plain_sorted entry_sorted (args_sorted1 _) ?_;unfold cK.«sorted»;refine Zl (m:=checkCount "sorted" 1 1 _) (Zm ?_);refine Zl (Zce (A:=A.in1) C hh hz Y fun h' dr tk ZH P O hk hg J=>?_);obtain⟨i1,i2⟩:=hi P ZH hg J;have hl:ZH.toList.length=n:=by rw[Zr];exact J.1
  generalize ZH.toList=M at i1 i2 hl ⊢;refine Zl (lI ?_ (by rw[hl];exact hz));have ho:(h'.push {cls:=.type "list",data:=.seq M.toArray}).get? h'.objs.size=some (seqObj "list" M.toArray 0):=Zo _ rfl;have m5:∀b o,s.heap.get? b=some o->(h'.push {cls:=.type "list",data:=.seq M.toArray}).get? b=some o:=fun b o e=>Zn _ (hk b o e);refine Zl (cR ?_);refine bG slot_list_sort ⟨_,ho,rfl⟩ entry_list_sort (list_sort_tree (n:=0) (vs:=M) ho i1 (by omega) fun out j hI m6 hP=>⟨.none,rfl,?_⟩) (args_list_sort _);refine Zm ⟨_,rfl,?_⟩;have o1:=ku ho (fun _=>(#[]:Array Value));have o2:=Zn (seqObj "tuple" M.toArray 0) o1;have o3:=Zn (seqObj "list" #[] 0) o2;have o4:=ku o3 (fun _=>out);refine q h'.objs.size _ dr tk out.toList j _ (cY O) (fun b o e=>?_) (by rw[lz];exact o4) hI (m6.trans i2) hP;have hb:b≠h'.objs.size:=aD (ji (Zp e) O);unfold sortedHeap;rw[b9 _ _ (bd hb)];refine Zn _ (Zn _ ?_);rw[b9 _ _ (bd hb)];exact m5 b o e
end
theorem Zjt (hz:es.size<=sizeLine)(W:Wk t (!w.params.followText "set-order")):Src prog w "set" a a es.size (fun P=>∃L:List Value,bP L (XO es)/\P=fun i v=>L[i]?=some v) (fun h=>JM h a es ep t) where
 type:=fun s h=>JM.typeIs h
 there:=fun s S=>let ⟨o,e,_⟩:=JM.typeIs (s:=s) S;Zp e
 keep:=fun h M S k=>S.keep (k a)
 notList:=by decide
 notTuple:=by decide
 hint:=fun A E s Q S q=>Zit (JM.typeIs S) q
 iter:=fun A E s Q S q=>Zg7 hz S W fun I O M Y L St hI j hk hp J st=>q I O M Y _ St hI (fun b hb=>(j b hb).elim .inl fun z=>.inr (.inr z)) hk ⟨L,hp,rfl⟩ J st
theorem ZdF {ns:List Int}{Q:Value->Shared->Prop}(Y:A.handled=none)(M:es.size<64)(hS:JM s.heap a es ep t)(W:Wk t (!w.params.followText "set-order"))(hi:a8 (XO es) ns)
    (q:∀(D:Addr) (h':Heap) (dr:kU) (tk:Nat) (out:List Value) (j:List Int) (c:Nat),s.heap.objs.size<=D->(∀b o,s.heap.get? b=some o->h'.get? b=some o)->h'.get? D=some (seqObj "list" out.toArray c)->a8 out j->bP j ns->j.Pairwise (· ≤ ·)->Q (.ref D) {s with heap:=h',drawn:=dr,toks:=tk}) :
    wpAny (model prog w) A (call (.builtin "sorted") [.ref a]) Q E s:=by
  have hz : es.size ≤ sizeLine := by have:(16777216:Nat)=sizeLine:=by decide
                                     omega
  refine Zdt (Zjt (ep:=ep) hz W) Y M hS (ns:=ns) (fun P ZH hg J=>?_) q;obtain⟨L,O,rfl⟩:=hg;rw[Zik (by rw[O.length_eq];unfold XO;rw[Za,Zr]) J];exact ZkC O hi
section
variable {K:Type} [DecidableEq K]{knd:PySem.KeyKind prog w K}{kvs:List (K×Value)}
end
end
structure SX (prog:Program)(w:World)(h:Heap)(a:Addr)(es:Array (Int×Value))(ep:Nat)(t:SetTable)(S:Int->Bool)(n:Nat):Prop where
 at_:JM h a es ep t
 el:ElemsOf (intKind prog w) es.toList
 mem:∀k,S k=true↔∃e∈es.toList,(intKind prog w).is k e.2=true
 sb:es.size<scanBound
 sz:es.size=n
 wk:Wk t (!w.params.followText "set-order")
noncomputable def Va (prog:Program)(w:World)(h:Heap)(a:Addr)(S:Int->Bool)(n:Nat):Prop:=∃j q t,SX prog w h a j q t S n
section
variable {prog:Program}{w:World}{A:Around}{E:Value->Shared->Prop}{s:Shared}{a:Addr}
theorem Va.keep {h h':Heap}{S:Int->Bool}{n:Nat}(X:Va prog w h a S n)(k:∀o,h.get? a=some o->h'.get? a=some o):Va prog w h' a S n:=by
 obtain⟨j,q,t,X⟩:=X;exact⟨j,q,t,X.at_.keep k,X.el,X.mem,X.sb,X.sz,X.wk⟩
theorem Va.congr {h:Heap}{S j:Int->Bool}{n q:Nat}(X:Va prog w h a S n)(e:∀k,S k=j k)(J:n=q):Va prog w h a j q:=by
 have:S=j:=funext e;subst this;subst J;exact X
theorem stored {h:Heap}{q es':Array (Int×Value)}{ep:Nat}{t t':SetTable}(S:JM h a q ep t)(hf:t'.fits es'.size=true):JM (h.update a (i6 es' t')) a es' (ep+1) t':=by
 obtain⟨o,e,x,d,_⟩:=S;have j:=bJ (i6 es' t') e (by rw[putSet_of es' t' d];rfl);rw[putSet_of es' t' d] at j;exact⟨_,j,x,rfl,hf⟩
theorem Ww {j es':Array (Int×Value)}{ep:Nat}{t t':SetTable}{Q:Unit->Shared->Prop}(S:JM s.heap a j ep t)(hz:es'.size<=sizeLine)(q:Q () {s with heap:=s.heap.update a (i6 es' t')}):wpAny (model prog w) A (storeSet a es' t') Q E s:=by
 obtain⟨o,e,x,d,_⟩:=S;exact wpAny_storeSet_of e d q hz
theorem Zdb {g:Bool->Sem Unit}(hg:∀(b:Bool) (O:Shared) (Q':Unit->Shared->Prop),Q' () O->wpAny (model prog w) A (g b) Q' E O){es j:Array (Int×Value)}{ep:Nat}{t q:SetTable}{led:Bool}(S:JM s.heap a es ep t)(hz:j.size<=sizeLine)(f2:q.fits j.size=true)(w2:Wk q led)
  {Y:Bool}{R:Option Bool->Shared->Prop} (fin:∀(h':Heap) (es':Array (Int×Value)) (n8:Nat) (t':SetTable),bg a s.heap h'->JM h' a es' n8 t'->bP es'.toList j.toList->Wk t' led->R (some true) {s with heap:=h'}) :
  wpAny (model prog w) A (do
    storeSet a j q
    if (!Y && q.tooFull)=true then do
      g (relayAll q j (dN j.size)).2.2
      storeSet a (relayAll q j (dN j.size)).1 (relayAll q j (dN j.size)).2.1
      pure (some true)
     else pure (some true)) R E s:=by
 refine Zl (Ww S hz ?_);have S2:=stored S (es':=j) f2;have m5:=bO s.heap a (i6 j q);generalize s.heap.update a (i6 j q)=h2 at S2 m5 ⊢;by_cases J:(!Y && q.tooFull)=true
 ·rw[if_pos J]
  have M:=relayAll_perm q j (dN j.size);have m6:=relayAll_fits q j (dN j.size);have m8:=w2.relay j (dN j.size);generalize relayAll q j (dN j.size)=Rl at M m6 m8 ⊢;obtain⟨n6,t3,n9⟩:=Rl;dsimp only at M m6 m8 ⊢;have o0:n6.size=j.size:=by rw[<-Zr,M.length_eq,Zr]
  refine Zl (hg _ _ _ ?_);refine Zl (Ww (s:={s with heap:=h2}) S2 (by rw[o0];exact hz) ?_);exact Zm (fin _ n6 _ t3 (m5.trans (bO _ a _)) (stored S2 m6) M m8)
 ·rw[if_neg J]
  exact Zm (fin h2 j _ q m5 S2 (cZ _) w2)
theorem add_int {S:Int->Bool}{n:Nat}{k:Int}{x:Value}{Q:Bool->Shared->Prop}(m8:(intKind prog w).is k x=true)(o0:x.scannable=true)(X:Va prog w s.heap a S n)(o5:n+1<scanBound)
  (q:∀b h',bg a s.heap h'->Va prog w h' a (fun k'=>S k' || decide (k'=k)) (if S k then n else n+1)->Q b {s with heap:=h'}) :
  wpAny (model prog w) A (setAddHashed a x ((intKind prog w).hash k)) Q E s:=by
 obtain⟨es,ep,t,X⟩:=X;obtain⟨o,e1,e2,e3,e4⟩:=id X.at_;unfold setAddHashed setAddHashedIn;refine cR (Zl (X.at_.state ?_))
 try dsimp only
 rw[byScan_of o0 X.sb X.el];simp only[↓reduceIte];unfold setAddByScan;refine Zl (Zl (dO (Zl (wpAny_setScan_of m8 e1 e3 e4 X.el ?_))));cases hr:List.findIdx? (fun e=>(intKind prog w).is k e.2) es.toList with
 |some j=>
  obtain⟨hj,p4,_⟩:=List.findIdx?_eq_some_iff_getElem.mp hr;have n9:S k=true:=(X.mem k).mpr ⟨_,bK hj,p4⟩;refine Zm (Zm ?_);have:=q false s.heap (Heap.SameBut.refl a s.heap) ⟨es,ep,t,X.at_,X.el,fun k'=>?_,X.sb,by rw[n9];exact X.sz,X.wk⟩
  ·exact this
  ·rw[bu,decide_eq_true_eq,<-X.mem k']
   exact⟨fun h=>h.elim id fun e=>by rw[e];exact n9,.inl⟩
 |none=>
  have n9:S k=false:=by
   cases hk:S k with
   |false=>rfl
   |true=>
    obtain⟨e,he,hp⟩:=(X.mem k).mp hk;have:=List.findIdx?_eq_none_iff.mp hr e he;rw[hp] at this;exact Bool.noConfusion this
  try dsimp only
  have J:=layNew_perm t es ((intKind prog w).hash k) x;have M:=layNew_fits t es ((intKind prog w).hash k) x;have n6:=X.wk.lay es ((intKind prog w).hash k) x;generalize layNew t es ((intKind prog w).hash k) x=L at J M n6 ⊢;obtain⟨m6,t1,p8,o7⟩:=L;dsimp only at J M n6 ⊢;rw[mo] at J;have p6:∀(b:Bool) {Y:Shared}{Q':Unit->Shared->Prop},Q' () Y->wpAny (model prog w) A (match b with|true=>rule "set.scan.the-table-gave-way" |false=>pure ()) Q' E Y:=
   fun b Y Q' hq=>by cases b <;> first|exact Zm hq|exact dO hq
  have o8:m6.size=n+1:=by rw[<-Zr,J.length_eq,Zd,Zr,X.sz];rfl
  have p7:ElemsOf (intKind prog w) m6.toList:=(X.el.push m8 o0).perm J;have o9:∀k',(S k' || decide (k'=k))=true↔∃e∈m6.toList,(intKind prog w).is k' e.2=true:=mem_push_iff m8 X.mem J;have o6:m6.size<scanBound:=by rw[o8];exact o5
  have zl:∀m,m<scanBound->m<=sizeLine:=fun m h=>fits_of_scanBound h;have p3:∀(h':Heap) (O:Array (Int×Value)) (m5:Nat) (t':SetTable),bg a s.heap h'->JM h' a O m5 t'->bP O.toList m6.toList->Wk t' (!w.params.followText "set-order")->Q true {s with heap:=h'}:=fun h' O m5 t' sb at' hp n8=>by
   have hs:O.size=m6.size:=by rw[<-Zr,hp.length_eq,Zr]
   refine q true h' sb ⟨O,m5,t',at',p7.perm hp,fun k'=>?_,by rw[hs];exact o6,by rw[n9,hs];exact o8,n8⟩;rw[o9 k'];exact⟨fun ⟨e,he,r⟩=>⟨e,hp.mem_iff.mpr he,r⟩,fun ⟨e,he,r⟩=>⟨e,hp.mem_iff.mp he,r⟩⟩
  refine Zl (p6 o7 ?_);split
  ·refine Zl ?_
   rw[hashByValue_scannable 8 o0];refine Zm ?_;refine Zdb (fun b Y Q' hq=>?_) X.at_ (zl _ o6) ?_ ?_ fun h' O m5 t' sb at' hp n8=>Zm (p3 h' O m5 t' sb at' hp n8)
   ·cases b <;> first|exact Zm hq|exact dO hq
   ·split
    ·exact M
    ·exact SetTable.fits_plain_off M
   ·split
    ·exact n6
    ·exact n6.plain false
  ·refine Zl (Zm ?_)
   simp only[↓reduceIte];refine Zdb (fun b Y Q' hq=>?_) X.at_ (zl _ o6) M n6 fun h' O m5 t' sb at' hp n8=>Zm (p3 h' O m5 t' sb at' hp n8);cases b <;> first|exact Zm hq|exact dO hq
end
section
variable {prog:Program}{w:World}{A:Around}{R:Result->Shared->Prop}{I:Addr}{fp wr:List Addr}{G:Array GenState->Array GenState->Prop}{n:Nat}{P:Nat->Value->Prop}{St:Nat->Shared->Prop}
theorem ZgG (W:WalksS prog w A.in1 I fp wr G n P St)(S:Addr)(O:S∉fp)(val:Nat->Int)(Y:∀i v,P i v->∃t,v=.int (val i) t)(hb:n+1<scanBound) :
  ∀(k i:Nat) (s:Shared),n-i=k->i<=n->St i s->Va prog w s.heap S (fun M=>(firstMet val i).any (· == M)) (firstMet val i).length->
   (∀s',Moved (S::wr) G s s'->Va prog w s'.heap S (fun M=>(firstMet val n).any (· == M)) (firstMet val n).length->R (.ok (.ret .none)) s')->
   codeAny (model prog w) A (.builtin "set.update.loop" ⟨[.ref S,.ref I],[]⟩) R s:=by
 have m5:S∉wr:=fun h=>O (W.sub _ h);have j:∀b∈wr,b∈S::wr:=fun b hb=>aq _ hb;intro k;induction k with
 |zero=>
  intro i s hk hi q hS hR;have o0:i=n:=by omega
  subst o0;refine cp gF ?_;rw[bM dF _];show wpAny _ A.in1 (pyNext (.ref I) >>= _) _ _ s;refine Zl (W.done s _ _ q fun s' hm=>?_);show wpAny _ A.in1 (ret bf) _ _ s';exact Zm (hR s' (hm.mono j) (hS.keep fun o e=>hm.heap S o m5 e))
 |succ k ih=>
  intro i s hk hi q hS hR;have m6:i<n:=by omega
  refine cp gF ?_;rw[bM dF _];show wpAny _ A.in1 (pyNext (.ref I) >>= _) _ _ s;refine Zl (W.item i s _ _ m6 q fun v s' hP m8 hm=>?_);obtain⟨t,rfl⟩:=Y i v hP;have o5:=hS.keep fun o e=>hm.heap S o m5 e;show wpAny _ A.in1 (holding [f8 (val i) t] (setAdd S (.int (val i) t)) >>= _) _ _ s';refine Zl (cR ?_);unfold setAdd;refine cR ?_;refine Zl ((intKind prog w).pyHash (k:=val i) (intKind_is _ _ _ _) ?_);have J:(firstMet val i).length+1<scanBound:=by have:=jy val i;omega
  refine add_int (s:={s' with toks:=s'.toks+1}) (intKind_is _ _ _ _) rfl o5 J fun _ h' n6 o6=>?_;have o7:Va prog w h' S (fun M=>(firstMet val (i+1)).any (· == M)) (firstMet val (i+1)).length:=
   o6.congr (fun M=>by rw[lT,step_any]) (by rw[lT,step_length])
  refine Zm ⟨df dF _,ih (i+1) _ (by omega) m6 (W.frame _ s' _ _ m8 (gG _) fun b hb o e=>?_) o7 fun o8 n8 n9=>?_⟩
  ·rw[n6.2 b (fun h:b=S=>O (by rw[<-h];exact hb))];exact e
  ·refine hR o8 (Moved.trans W.gtrans ((hm.mono j).then_heap (gG _) fun b o hb e=>?_) n8) n9
   rw[n6.2 b (fun h:b=S=>hb (by rw[h];exact ax))];exact e
end
section
variable {prog:Program}{w:World}{A:Around}{E:Value->Shared->Prop}{s:Shared}
theorem Zjy (a:Value){Q₁:Value->Shared->Prop}
  (h:Q₁ (.ref s.heap.objs.size) {s with heap:=s.heap.push {cls:=.type "set",dict:=none,data:=.set #[] 0 (.fresh 0 0 (!w.params.followText "set-order"))}}) :
  codeAny (model prog w) A (.call (.builtin "set.__new__") ⟨[.type "set",a],[]⟩) (wants Q₁ E) s:=by
 refine kh ?_;show wpAny _ A.in1 (do checkBuiltinCall "set.__new__" ⟨[.type "set",a],[]⟩;again (.builtin "set.__new__" ⟨[.type "set",a],[]⟩)) _ _ s
 refine Zl (jZ (PySem.F.newCall_set_1 a) (Zm ⟨df j8 _,cp PySem.F.entry_set_new ?_⟩));rw[bM j8 _];unfold cK.«set.__new__» Builtin.Frozenset.newClass;have j:=sub_set_self;obtain⟨q,g,d,tk,os⟩:=s
 try dsimp only
 wp_walk
 refine jV (Zm ?_)
 try dsimp only
 simp only[newObj];refine Zl (wpAny_alloc (Zm ?_));exact Zm h
theorem ZkG {h:Heap}{a:Addr}(e:h.get? a=some {cls:=.type "set",dict:=none,data:=.set #[] 0 (.fresh 0 0 (!w.params.followText "set-order"))}):Va prog w h a (fun _=>false) 0:=
 ⟨#[],0,_,⟨_,e,⟨rfl,rfl,rfl⟩,rfl,rfl⟩,fun x j=>(by simp at j),fun k=>(by simp),by unfold scanBound;decide,rfl,Wk.fresh _⟩
noncomputable abbrev Zfr (prog:Program)(w:World)(s:Shared)(ns:List Int)(n:Nat)(h':Heap):Prop:=
 Va prog w h' s.heap.objs.size (fun j=>(L2.JK ns n).any (· == j)) (L2.JK ns n).length/\∀b o,b<s.heap.objs.size->s.heap.get? b=some o->h'.get? b=some o
theorem Zci {l:Addr}{items:Array Value}{ns:List Int}{Q:Value->Shared->Prop}(hh:A.handled=none)(hl:s.heap.IsList l items)(hi:a8 items.toList ns)(hb:items.size+1<scanBound)
  (h:∀(h':Heap) (tk:Nat),Zfr prog w s ns items.size h'->Q (.ref s.heap.objs.size) {s with heap:=h',toks:=tk}):wpAny (model prog w) A (call (.type "set") [.ref l]) Q E s:=by
 obtain⟨c,tl,p7⟩:=cx.mro;have o5:=cx.made;have p8:=cx.sub;refine wpAny_call (kh ?_);show wpAny _ _ (callAny (.type "set") _) _ _ _;refine Zm ⟨Code.quiet_builtin _ (by decide +kernel),cp PySem.F.entry_type_call ?_⟩;rw[Around.under_plain (weight_type_call_type "set" [.ref l] []) rfl];have h1:=cx.notType;have h2:=cx.canCreate;have t6:=PySem.F.typeCall_set_1 (.ref l)
 repeat (any_goals (first|assumption|wp_step))
 let J:Obj:={cls:=.type "set",dict:=none,data:=.set #[] 0 (.fresh 0 0 (!w.params.followText "set-order"))}
 refine fK (Zjy (.ref l) (E:=E) (Q₁:=fun obj M=>obj=.ref s.heap.objs.size/\M={s with heap:=s.heap.push J}) ⟨rfl,rfl⟩) fun r M hr=>?_;cases r with
 |error e=>exact hr
 |ok fl=>
  cases fl with
  |ret obj=>
   obtain⟨rfl,rfl⟩:=hr;have hS:(s.heap.push J).get? s.heap.objs.size=some J:=Zo _ rfl;have hT:Shared.TypeIs {s with heap:=s.heap.push J} (.ref s.heap.objs.size) "set":=⟨_,hS,rfl⟩;have t7:=cx.init.lookup;have t9:=cx.init.bind (.ref s.heap.objs.size)
   repeat (any_goals (first|assumption|wp_step))
   refine fK (codeAny_call_builtin (R:=wants (fun r O=>r=.none/\∃h' tk,O={s with heap:=h',toks:=tk}/\Zfr prog w s ns items.size h') E) cx.init.plain PySem.F.entry_set_init (check_set_init_1 hT ?_)) fun m8 O j=>?_
   ·obtain⟨ol,U5,n6,nl,n8⟩:=id hl
    obtain⟨r6,m5,o6,q⟩:=ol;simp only at n6 n8;subst n6;subst n8;have Y:(s.heap.push J).get? l=some {cls:=.type "list",dict:=m5,data:=.seq items nl,slots:=q}:=Zn _ U5;have r8:=PySem.F.sub_list_set;have t5:=PySem.F.sub_list_frozenset;have u5:(cz "list" == cz "dict")=false:=by decide
    have o7:(s.heap.push J).IsList l items:=⟨_,Y,rfl,nl,rfl⟩;unfold cK.«set.__init__» noKeywords Builtin.Frozenset.updateFrom;generalize o8:pyIter=PI
    wp_walk
    subst o8;refine fJ o7 ?_;refine Zl (kG ?_);have n9:l<s.heap.objs.size:=Zp U5;have o0:l≠(s.heap.push J).objs.size:=by rw[bC];exact aD (fv n9)
    have o9:s.heap.objs.size∉[(s.heap.push J).objs.size,l]:=by
     rw[bC];intro z;rcases aH.mp z with z|z
     ·exact absurd z (aD (cL _))
     ·exact absurd (aU.mp z) (bh n9)
    refine ZgG ((lM (A:=A.in1.in1.in1) (by simp[hh]) _ l o0 items).toS) s.heap.objs.size o9 (fun i=>ns.getD i 0) (fun i v hv=>IntsAre.int_at hi i v (by rw[cO];exact hv)) hb (items.size-0) 0 _ (by omega) (bc _)
     ⟨⟨_,Zo _ rfl,rfl,rfl⟩,⟨_,Zn _ Y,rfl,nl,rfl⟩⟩ ?hS0 ?hR
    case hS0=>exact (ZkG (Zn _ hS)).congr (fun _=>rfl) rfl
    case hR=>
     intro s' hm p3;obtain⟨h',g',d',p4,p6⟩:=s';obtain rfl:g'=s.gens:=hm.gens;obtain rfl:d'=s.drawn:=hm.drawn;obtain rfl:p6=s.os:=hm.os;show wpAny _ _ _ _ _ _;refine Zm ?_;show wpAny _ _ (ret bf) _ _ _;refine Zm ⟨rfl,h',p4,rfl,p3,fun b o hb e=>hm.heap b o (fun z=>?_) (Zn _ (Zn _ e))⟩;rcases aH.mp z with z|z
     ·exact absurd z (aD hb)
     ·refine absurd (aU.mp z) (aD ?_);rw[bC];exact fv hb
   ·cases m8 with
    |error e=>exact j
    |ok m6=>
     cases m6 with
     |ret r=>
      obtain⟨rfl,h',tk,rfl,he⟩:=j
      repeat (any_goals (first|assumption|wp_step))
      exact h _ _ he
     |_=>exact j.elim
  |_=>exact hr.elim
end
end PyS
namespace L2
open PySem PySem.Spec PyProof.Rows
theorem VD:∀{M L:List Int},M.Nodup->(∀x∈M,x∈L)->L.length=M.length->bP L M
 | [],L,_,_,h=>by
  have:L=[]:=gR.mp (by simpa using h);subst this;exact cZ _
 |x::M,L,j,J,h=>by
  have hx:=J x ax;have O:=List.perm_cons_erase hx;rw[bZ] at j;refine O.trans ((VD j.2 (fun y Y=>?_) ?_).cons x)
  ·have q:y≠x:=fun z=>j.1 (z▸Y)
   exact (lG q).mpr (J y (aq _ Y))
  ·have:=O.length_eq
   rw[Zi] at this;rw[Zi] at h;omega
theorem Zek:∀{out:List Value}{ns:List Int},a8 out ns->ZP (ns.map V.int) out
 |_,_,.nil=>.nil
 |_,_,.cons n t r=>.cons ⟨t,rfl⟩ (Zek r)
noncomputable def Zcj (prog:Program)(w:World)(a:Addr)(M:List Int):HO:=.ext fun h=>PyS.Va prog w h a (fun k=>M.any (· == k)) M.length
section
variable {X:Cx}{pins:List (Addr×Obj)}{σ:L2.St}{H:Hp}{s:Shared}
theorem Inv.drawn (I:Inv X pins σ H s)(d:kU):Inv X pins σ H {s with drawn:=d}:=⟨I.ok,I.os,I.bare,I.base,I.loc,I.cell,I.free,I.freeC,I.pin,I.hok,I.len⟩
inductive I_call_setL (K:aa) (P0:Program) (w0:World) (xs:List V) (H:Hp) (Q:VK):Prop
 |mk (a:Addr) (ns:List Int):(xs=[.ref a])->(W2 K H a (ns.map V.int))->(ns.length<1000)->(∀p,H p=none->Q (.ref p) (upd H p (Zcj P0 w0 p (JK ns ns.length))))->I_call_setL K P0 w0 xs H Q
theorem ZaF (Y:X.calm=true):YN X (.type "set") (_root_.L2.I_call_setL X.K X.prog X.w):=by
 intro pins s σ H xs us Q I r h;obtain⟨a,ns,rfl,hq,hn,q⟩:=h;obtain⟨u,rfl,ru⟩:=vals1 r;cases ru;obtain⟨j,M,p,hz⟩:=I.list hq;have O:j.toArray.size=ns.length:=by rw[Zh,<-M.length,Za]
 refine PyS.Zci (I.ok.hd Y) p.isList (ns:=ns) (by simpa using Ze5 M) (by rw[O];unfold scanBound;omega) fun h' tk ⟨J,e2⟩=>?_;rw[O] at J;refine⟨.ref _,_,I.laid (a:=s.heap.objs.size) (o:=Zcj X.prog X.w s.heap.objs.size (JK ns ns.length)) (t':=tk) (fun b o e=>e2 b o (Zp e) e) (Zq _) ⟨J,?_,fun h1 h2 x k=>x.keep k⟩,rfl,q _ (I.hok.fresh (Zq _))⟩;obtain⟨es,ep,t,⟨o,e,_⟩,_⟩:=J;exact⟨o,e⟩
inductive I_call_sortS (P0:Program) (w0:World) (xs:List V) (H:Hp) (Q:VK):Prop
 |mk (a:Addr) (M:List Int):(xs=[.ref a])->(H a=some (Zcj P0 w0 a M))->(M.Nodup)->(M.length<64)->(∀l ns,H l=none->bP ns M->ns.Pairwise (· ≤ ·)->Q (.ref l) (upd H l (.lst (ns.map V.int))))->I_call_sortS P0 w0 xs H Q
theorem UW (hc:X.calm=true):YN X (.builtin "sorted") (_root_.L2.I_call_sortS X.prog X.w):=by
 intro pins s σ H xs us Q I r h;obtain⟨a,M,rfl,ha,hn,m5,q⟩:=h;obtain⟨u,rfl,ru⟩:=vals1 r;cases ru;obtain⟨J,_,_⟩:=(show YD X.prog X.w H s.heap a (Zcj X.prog X.w a M) from I.hok a _ ha);obtain⟨es,ep,t,J⟩:=J;have O:∀v∈PyS.XO es,∃k tk,v=.int k tk:=fun v hv=>by
  obtain⟨e,he,rfl⟩:=aN.mp hv;obtain⟨⟨k,hk,_⟩,_⟩:=J.el e he;obtain⟨tk,et⟩:=iY hk;exact⟨k,tk,et⟩
 have m6:=PyS.Zio O;have hp:bP ((PyS.XO es).map PyS.ZdV) M:=by
  refine VD hn (fun x hx=>?_) ?_
  ·have hS:M.any (· == x)=true:=aY.mpr ⟨x,hx,by simp⟩
   obtain⟨e,he,hk⟩:=(J.mem x).mp hS;obtain⟨tk,et⟩:=iY hk;refine aN.mpr ⟨e.2,aN.mpr ⟨e,he,rfl⟩,?_⟩;rw[et];rfl
  ·unfold PyS.XO
   rw[Za,Za,Zr];exact J.sz
 refine PyS.ZdF (I.ok.hd hc) (by rw[J.sz];exact m5) J.at_ J.wk m6 fun D h' dr tk out j c hD kp m8 hi Y hP=>?_;have hl:ZP (j.map V.int) out:=Zek hi;have sz:(16777216:Nat)=sizeLine:=by decide
 have n6:j.length=M.length:=(Y.trans hp).length_eq;refine⟨.ref D,_,(I.laid (a:=D) (o:=.lst (j.map V.int)) (t':=tk) kp hD ⟨by rw[Za];omega,out,c,hl,m8⟩).drawn dr,rfl,q _ j (I.hok.fresh hD) (Y.trans hp) hP⟩
end
section
variable {X:Cx}{pins:List (Addr×Obj)}{σ:L2.St}{H:Hp}{s:Shared}
end
end L2
namespace Tb
noncomputable def ZT (t:List (List Nat))(a b:Nat):Nat:=(t.getD a []).getD b 0
noncomputable def it (t:List (List Nat))(a:Nat):Nat->Nat
 |0=>0
 |k+1=>ZT t (it t a k) a
structure Rd (t:List (List Nat))(a r:Nat):Prop where
 r1:1<=r
 rn:r<=t.length
 dv:t.length % r=0
 z:it t a r=0
 nz:∀k,1<=k->k<r->it t a k≠0
 bk:ZT t a (it t a (r-1))=0
 un:∀b,b<t.length->ZT t a b=0->b=it t a (r-1)
structure PW (t:List (List Nat)):Prop where
 n1:1<=t.length
 n60:t.length<=60
 len:∀row∈t,row.length=t.length
 lt:∀a b,a<t.length->b<t.length->ZT t a b<t.length
 one:∀a,a<t.length->ZT t 0 a=a
 rd:∀a,a<t.length->∃r,Rd t a r
 oneR:∀a,a<t.length->ZT t a 0=a
 ass:∀a b c,a<t.length->b<t.length->c<t.length->ZT t (ZT t a b) c=ZT t a (ZT t b c)
section
variable {t:List (List Nat)}{a r:Nat}
theorem YW (P:PW t)(j:a<t.length):∀k,it t a k<t.length
 |0=>P.n1
 |k+1=>P.lt _ _ (YW P j k) j
theorem ZbD (P:PW t)(j:a<t.length):it t a 1=a:=P.one a j
theorem ZmK (R:Rd t a r)(k:Nat):it t a (r+k)=it t a k:=by
 induction k with
 |zero=>exact R.z
 |succ k j=>rw[Nat.add_succ,it,it,j]
theorem UH (R:Rd t a r)(k:Nat):it t a k=it t a (k % r):=by
 have q:=R.r1;induction k using Nat.strongRecOn with
 |_ k j=>
  by_cases h:k<r
  ·rw[aW h]
  ·have e:k=r+(k-r):=by omega
   rw[mE (by omega),<-j (k-r) (by omega),<-ZmK R (k-r),<-e]
end
noncomputable def rdB (t:List (List Nat))(n a:Nat):Nat->Nat->Nat->Bool
 |0,_,_=>false
 |f+1,k,prev=>
  let x:=ZT t prev a
  match x with
  |0=>decide (n % (k+1)=0) && decide (k+1<=n) && decide (ZT t a prev=0) && ((ac n).all fun b=>decide (b=prev) || !decide (ZT t a b=0))
  |y+1=>rdB t n a f (k+1) (y+1)
noncomputable def fq1 {β:Type}(m:Nat)(k:Nat->β):β:=match m with
 |0=>k 0
 |m+1=>k (m+1)
theorem Ziw {β:Type}(m:Nat)(k:Nat->β):fq1 m k=k m:=by cases m <;> rfl
noncomputable def fql {β:Type}:List Nat->(List Nat->β)->β
 | [],k=>k []
 |x::j,k=>fq1 x fun y=>fql j fun q=>k (y::q)
theorem ZbI {β:Type}:∀(a:List Nat) (k:List Nat->β),fql a k=k a
 | [],k=>rfl
 |x::j,k=>by rw[fql,Ziw,ZbI j]
noncomputable def Zm3 (ZH:List Nat)(y:Nat):List Nat:=if ZH.contains y then ZH else ZH++[y]
noncomputable def Zgr (t:List (List Nat))(gens:List Nat):Nat->Nat->List Nat->List Nat
 |0,_,ZH=>ZH
 |f+1,i,ZH=>match ZH[i]? with
  |none=>ZH
  |some x=>fql (gens.foldl (fun ZH g=>fq1 (ZT t x g) fun y=>Zm3 ZH y) ZH) fun ZH=>Zgr t gens f (i+1) ZH
noncomputable def Ze6 (t:List (List Nat)):Nat->Nat->List Nat->List Nat->List Nat
 |0,_,gens,_=>gens
 |f+1,a,gens,ZH=>if ZH.contains a then Ze6 t f (a+1) gens ZH else fql (Zgr t (gens++[a]) t.length 0 [0]) fun ZH=>Ze6 t f (a+1) (gens++[a]) ZH
noncomputable def liB (t:List (List Nat))(g:Nat):Bool:=decide (g<t.length) && t.all fun j=>(t.getD (j.getD g 0) [] == (t.getD g []).map fun c=>j.getD c 0)
noncomputable def asG (t:List (List Nat))(gens:List Nat):Bool:=gens.all (liB t) && fql (Zgr t gens t.length 0 [0]) fun ZH=>(ac t.length).all fun a=>ZH.contains a
noncomputable def asB (t:List (List Nat)):Bool:=fql (Ze6 t t.length 0 [] [0]) (asG t)
noncomputable def ZnZ (t:List (List Nat)):Bool:=decide (1<=t.length) && decide (t.length<=60) && (t.all fun row=>decide (row.length=t.length) && row.all fun x=>decide (x<t.length)) && ((ac t.length).all fun a=>decide (ZT t 0 a=a) && rdB t t.length a t.length 0 0)
noncomputable def pwB (t:List (List Nat)):Bool:=ZnZ t && ((ac t.length).all fun a=>decide (ZT t a 0=a)) && asB t
noncomputable def Pr (t:List (List Nat))(a:Nat):Prop:=a<t.length/\∀x y,x<t.length->y<t.length->ZT t (ZT t x a) y=ZT t x (ZT t a y)
theorem Zn8 {t:List (List Nat)}(Y:∀row∈t,row.length=t.length){g:Nat}(h:liB t g=true):Pr t g:=by
 unfold liB at h;simp only[aI,af,beq_iff_eq,decide_eq_true_eq] at h;obtain⟨q,h⟩:=h;refine⟨q,fun x y M hy=>?_⟩;have hm:t.getD x []∈t:=by
  rw[Zb,Zf M];exact bK M
 have J:t.getD g []∈t:=by
  rw[Zb,Zf q];exact bK q
 have h1:=h _ hm;unfold ZT;rw[h1];have m5:=Y _ J;generalize t.getD g []=O at *;have j:y<O.length:=by omega
 rw[Zb,Zc,Zf j,Zb (l:=O),Zf j];rfl
theorem Pr.times {t:List (List Nat)}(lt:∀a b,a<t.length->b<t.length->ZT t a b<t.length){a g:Nat}(j:Pr t a)(q:Pr t g):Pr t (ZT t a g):=by
 refine⟨lt _ _ j.1 q.1,fun x y J M=>?_⟩;rw[<-j.2 x g J q.1,q.2 _ y (lt _ _ J j.1) M,j.2 x _ J (lt _ _ q.1 M),q.2 a y j.1 M]
theorem Zfn {t:List (List Nat)}(lt:∀a b,a<t.length->b<t.length->ZT t a b<t.length){gens:List Nat}(hg:∀g∈gens,Pr t g):∀(f i:Nat) (ZH:List Nat),(∀a∈ZH,Pr t a)->∀a∈Zgr t gens f i ZH,Pr t a
 |0,i,ZH,h=>by unfold Zgr;exact h
 |f+1,i,ZH,h=>by
  unfold Zgr;split
  ·exact h
  ·rename_i x hx
   rw[ZbI];refine Zfn lt hg f (i+1) _ ?_;have O:=h x (aE hx);have Y:∀(J ZH:List Nat),(∀g∈J,Pr t g)->(∀a∈ZH,Pr t a)->∀a∈J.foldl (fun ZH g=>fq1 (ZT t x g) fun y=>Zm3 ZH y) ZH,Pr t a:=fun J=>by
    induction J with
    |nil=>intro ZH _ h;exact h
    |cons g J ih=>
     intro ZH M q;rw[List.foldl_cons];refine ih _ (fun g' m5=>M g' (aq _ m5)) fun a j=>?_;rw[Ziw] at j;unfold Zm3 at j;split at j
     ·exact q a j
     ·rcases bS.mp j with j|j
      ·exact q a j
      ·rw[aU.mp j]
       exact O.times lt (M g ax)
   exact Y gens ZH hg h
theorem Zm1 {t:List (List Nat)}(n1:1<=t.length)(O:∀row∈t,row.length=t.length)(lt:∀a b,a<t.length->b<t.length->ZT t a b<t.length)(one:∀a,a<t.length->ZT t 0 a=a)(j:∀a,a<t.length->ZT t a 0=a)(h:asB t=true):∀a b c,a<t.length->b<t.length->c<t.length->ZT t (ZT t a b) c=ZT t a (ZT t b c):=by
 intro a b c q hb Y;unfold asB at h;rw[ZbI] at h;generalize Ze6 t t.length 0 [] [0]=M at h;unfold asG at h;rw[ZbI,af,aI,aI] at h;have h0:Pr t 0:=⟨by omega,fun x y hx hy=>by rw[j x hx,one y hy]⟩;have J:=Zfn lt (fun g hg=>Zn8 O (h.1 g hg)) t.length 0 [0] (fun a q=>by rw[aU.mp q];exact h0) b (aB.mp (h.2 b (ag.mpr hb)));exact J.2 a c q Y
theorem Zhw {t:List (List Nat)}{a:Nat}:∀(f k prev:Nat),prev=it t a k->(∀j,1<=j->j<=k->it t a j≠0)->rdB t t.length a f k prev=true->∃r,Rd t a r
 |0,k,prev,_,_,h=>by cases h
 |f+1,k,prev,e,M,h=>by
  unfold rdB at h;have ex:it t a (k+1)=ZT t prev a:=by rw[it,e]
  cases q:ZT t prev a with
  |zero=>
   simp only[q,af,decide_eq_true_eq,aI,bu,fm,decide_eq_false_iff_not] at h;obtain⟨⟨⟨O,Y⟩,h3⟩,h4⟩:=h;refine⟨k+1,by omega,Y,O,by rw[ex,q],fun j J jk=>M j J (by omega),by rw[dD,<-e];exact h3,fun b hb hm=>?_⟩;rw[dD,<-e];exact (h4 b (ag.mpr hb)).resolve_right fun z=>z hm
  |succ y=>
   simp only[q] at h;refine Zhw f (k+1) (y+1) (by rw[ex,q]) (fun j J jk=>?_) h;by_cases ej:j=k+1
   ·rw[ej,ex,q]
    exact jB _
   ·exact M j J (by omega)
theorem Zma {t:List (List Nat)}(h:pwB t=true):PW t:=by
 unfold pwB at h;rw[af,af] at h;obtain⟨⟨h,M⟩,O⟩:=h;unfold ZnZ at h;simp only[af,decide_eq_true_eq,aI] at h;obtain⟨⟨⟨h1,h2⟩,Y⟩,h4⟩:=h;have lt:∀a b,a<t.length->b<t.length->ZT t a b<t.length:=fun a b q hb=>by
  unfold ZT;have hm:t.getD a []∈t:=by
   rw[Zb,Zf q];exact bK q
  obtain⟨hl,hx⟩:=Y _ hm;generalize t.getD a []=row at *;have J:b<row.length:=by omega
  refine hx _ ?_;rw[Zb,Zf J];exact bK J
 have oneR:∀a,a<t.length->ZT t a 0=a:=fun a q=>of_decide_eq_true (aI.mp M a (ag.mpr q));have one:∀a,a<t.length->ZT t 0 a=a:=fun a q=>(h4 a (ag.mpr q)).1;refine⟨h1,h2,fun row hr=>(Y row hr).1,lt,one,fun a q=>?_,oneR,Zm1 h1 (fun row hr=>(Y row hr).1) lt one oneR O⟩
 ·exact Zhw _ 0 0 rfl (fun j j1 j0=>by omega) (h4 a (ag.mpr q)).2
noncomputable def pos (o:List Nat)(v:Nat):Nat:=o.findIdx (· == v)
noncomputable def ren (t:List (List Nat))(o:List Nat):List (List Nat):=o.map fun a=>o.map fun b=>pos o (ZT t a b)
structure Ord (n:Nat)(o:List Nat):Prop where
 len:o.length=n
 nd:o.Nodup
 all:∀v,v<n->v∈o
 lt:∀v∈o,v<n
 z:o.getD 0 0=0
section
variable {t:List (List Nat)}{o:List Nat}
theorem Y5 {o:List Nat}{i:Nat}(h:i<o.length):o[i]?=some (o.getD i 0):=by
 rw[Zb,Zf h];rfl
theorem Wd {n v:Nat}(O:Ord n o)(q:v<n):pos o v<n/\o.getD (pos o v) 0=v:=by
 have hm:=O.all v q;have j:o.findIdx (· == v)<o.length:=je ⟨v,hm,by simp⟩;refine⟨by rw[<-O.len];exact j,?_⟩;have J:=fQ (w:=j);have M:o[o.findIdx (· == v)]=v:=by simpa using J
 unfold pos;rw[Zb,Zf j];exact M
theorem inj {n i j:Nat}(O:Ord n o)(q:i<n)(M:j<n)(e:o.getD i 0=o.getD j 0):i=j:=by
 have J:=Y5 (o:=o) (i:=i) (by rw[O.len];exact q);have Y:=Y5 (o:=o) (i:=j) (by rw[O.len];exact M);rw[e] at J;exact (mG (by rw[O.len];exact q) O.nd).mp (J.trans Y.symm)
theorem YJ {n i:Nat}(O:Ord n o)(j:i<n):o.getD i 0<n:=O.lt _ (aE (Y5 (by rw[O.len];exact j)))
theorem Zbh:(ren t o).length=o.length:=by unfold ren;rw[Za]
theorem Zbr {n i j:Nat}(O:Ord n o)(q:i<n)(J:j<n):ZT (ren t o) i j=pos o (ZT t (o.getD i 0) (o.getD j 0)):=by
 unfold ZT ren;have M:=Y5 (o:=o) (i:=i) (by rw[O.len];exact q);have Y:=Y5 (o:=o) (i:=j) (by rw[O.len];exact J);rw[Zb (l:=o.map _),Zc,M];show (o.map fun b=>pos o ((t.getD (o.getD i 0) []).getD b 0)).getD j 0=_;rw[Zb,Zc,Y];rfl
theorem JB (P:PW t)(O:Ord t.length o):PW (ren t o):=by
 have L:(ren t o).length=t.length:=by rw[Zbh,O.len]
 have back:∀i j,i<t.length->j<t.length->o.getD (ZT (ren t o) i j) 0=ZT t (o.getD i 0) (o.getD j 0):=fun i j hi hj=>by
  rw[Zbr O hi hj];exact (Wd O (P.lt _ _ (YJ O hi) (YJ O hj))).2
 have lt:∀i j,i<t.length->j<t.length->ZT (ren t o) i j<t.length:=fun i j hi hj=>by
  rw[Zbr O hi hj];exact (Wd O (P.lt _ _ (YJ O hi) (YJ O hj))).1
 have n1:=P.n1;have M:∀a,a<t.length->∀k,it (ren t o) a k<t.length/\o.getD (it (ren t o) a k) 0=it t (o.getD a 0) k:=fun a ha k=>by
  induction k with
  |zero=>exact⟨n1,O.z⟩
  |succ k ih=>
   rw[it,it];exact⟨lt _ _ ih.1 ha,by rw[back _ _ ih.1 ha,ih.2]⟩
 have zz:∀i,i<t.length->(i=0↔o.getD i 0=0):=fun i hi=>by
  constructor
  ·intro e;rw[e,O.z]
  ·intro e;exact inj O hi n1 (by rw[e,O.z])
 refine⟨by omega,by have:=P.n60;omega,fun row hr=>?_,fun a b ha hb=>by rw[L];exact lt a b (by omega) (by omega),fun a ha=>?_,fun a ha=>?_,fun a ha=>?_,fun a b c ha hb hc=>?_⟩
 ·unfold ren at hr
  obtain⟨a,_,rfl⟩:=aN.mp hr;rw[Za,Zbh]
 ·refine inj O (lt 0 a n1 (by omega)) (by omega) ?_
  rw[back 0 a n1 (by omega),O.z,P.one _ (YJ O (by omega))]
 ·have q:a<t.length:=by omega
  obtain⟨r,R⟩:=P.rd _ (YJ O q);have m5:∀k,it (ren t o) a k=0↔it t (o.getD a 0) k=0:=fun k=>by
   rw[zz _ (M a q k).1,(M a q k).2]
  refine⟨r,R.r1,by rw[L];exact R.rn,by rw[L];exact R.dv,(m5 r).mpr R.z,fun k k1 kr z=>R.nz k k1 kr ((m5 k).mp z),?_,fun b hb hm=>?_⟩
  ·refine (zz _ (lt _ _ q (M a q _).1)).mpr ?_
   rw[back _ _ q (M a q _).1,(M a q _).2];exact R.bk
  ·have J:b<t.length:=by omega
   refine inj O J (M a q _).1 ?_;rw[(M a q _).2];refine R.un _ (YJ O J) ?_;rw[<-back a b q J,hm,O.z]
 ·refine inj O (lt a 0 (by omega) n1) (by omega) ?_
  rw[back a 0 (by omega) n1,O.z,P.oneR _ (YJ O (by omega))]
 ·have q:a<t.length:=by omega
  have J:b<t.length:=by omega
  have Y:c<t.length:=by omega
  refine inj O (lt _ _ (lt _ _ q J) Y) (lt _ _ q (lt _ _ J Y)) ?_;rw[back _ _ (lt _ _ q J) Y,back _ _ q J,back _ _ q (lt _ _ J Y),back _ _ J Y];exact P.ass _ _ _ (YJ O q) (YJ O J) (YJ O Y)
end
noncomputable def upTo (r st:Nat):Nat->Nat->Nat
 |0,f=>f
 |k+1,f=>if f % r=0 then f else upTo r st k (f+st)
theorem Zah {r st B:Nat}(j:1<=st)(hB:B % r=0)(q:B % st=0):∀(k f:Nat),f % st=0->f<=B->B-f<k*st->(∀x,x % st=0->x % r=0->1<=x->x<f->False)->upTo r st k f % r=0/\upTo r st k f % st=0/\f<=upTo r st k f/\upTo r st k f<=B/\(∀x,x % st=0->x % r=0->1<=x->x<upTo r st k f->False)
 |0,f,J,M,O,_=>by rw[ft] at O;omega
 |k+1,f,J,M,O,h4=>by
  unfold upTo;by_cases h:f % r=0
  ·rw[if_pos h]
   exact⟨h,J,Zq _,M,h4⟩
  ·rw[if_neg h]
   have fB:f≠B:=fun z=>h (z▸hB);obtain⟨u,rfl⟩:=a7 J;obtain⟨v,rfl⟩:=a7 q;have uv:u<v:=kc (bw M fB);have h5:st*u+st<=st*v:=by
    have:=f9 st (show u+1<=v by omega);rw[jF,iD] at this;exact this
   have:=Zah j hB q k (st*u+st) (by rw[gH,Nat.mul_mod_right]) h5 (by rw[cC] at O;omega) fun x x1 Y x3 x4=>?_
   ·exact⟨this.1,this.2.1,by omega,this.2.2.2.1,this.2.2.2.2⟩
   ·by_cases hx:x<st*u
    ·exact h4 x x1 Y x3 hx
    ·obtain⟨y,rfl⟩:=a7 x1
     have y1:u<=y:=Nat.le_of_mul_le_mul_left (by omega) j;have y2:y<u+1:=kc (a:=st) (by rw[jF,iD];exact x4);have:y=u:=by omega
     rw[this] at Y;exact h Y
theorem Zbs {x d r:Nat}(q:x % r=0)(hd:d % r=0):x % d % r=0:=by
 have J:=Nat.mod_add_div x d;have M:(d*(x / d)) % r=0:=by rw[Nat.mul_mod,hd,ft,lc]
 have j:(x % d+d*(x / d)) % r=0:=by rw[J];exact q
 rw[Nat.add_mod,M,fz,Nat.mod_mod] at j;exact j
structure Lc (rs:Nat->Nat)(i f:Nat):Prop where
 f1:1<=f
 dv:∀a,a<i->f % rs a=0
 mn:∀x,(∀a,a<i->x % rs a=0)->x % f=0
theorem Lc.step {rs:Nat->Nat}{i f B:Nat}(L:Lc rs i f)(hB:1<=B)(j:∀a,a<i+1->B % rs a=0){k:Nat}(hk:B<k):Lc rs (i+1) (upTo (rs i) f k f):=by
 have q:B % f=0:=L.mn B fun a J=>j a (by omega);have M:=L.f1;have fB:f<=B:=fO (by omega) (a7 q);obtain⟨O,Y,h3,h4,h5⟩:=Zah (r:=rs i) M (j i (by omega)) q k f (lh f) fB (by
  have:k*1<=k*f:=f9 k M;omega) fun x x1 x2 x3 x4=>by
   have:=fO (by omega) (a7 x1);omega
 refine⟨by omega,fun a J=>?_,fun x hx=>?_⟩
 ·by_cases e:a=i
  ·rw[e];exact O
  ·have:=L.dv a (by omega)
   obtain⟨u,hu⟩:=a7 Y;rw[hu,Nat.mul_mod,this,ft,lc]
 ·have xf:x % f=0:=L.mn x fun a J=>hx a (by omega)
  apply ah;intro z;exact h5 (x % upTo (rs i) f k f) (Zbs xf Y) (Zbs (hx i (by omega)) O) (by omega) (ba _ (by omega))
end Tb
namespace L2
open PySem PySem.Spec PyProof.Rows
section
variable {X:Cx}
inductive Zl8 (K:aa) (neg:Bool) (x:V) (y:V) (H:Hp) (Q:VK):Prop
 |mk (p:_) (xs:_) (ds:_) (dx:_):(y=.ref p)->((W2 K H p xs\/XM K H p xs))->(W3 K H xs ds)->(RdD K H x dx)->(dH ds=true)->(dx.canLay0=true)->(dx.depth<=60)->(Q (.bl (if neg then !(ds.any fun y=>y.eqv dx) else ds.any fun y=>y.eqv dx)) H)->Zl8 K neg x y H Q
theorem ZfN (hu:X.A.units+64<cLine):Ve X (compareOp .NotIn) (Zl8 X.K true):=by
 intro Y s σ H x y v u Q I rx ry h;obtain⟨p,xs,ds,dx,rfl,j,hs,hd,M,c2,dp,q⟩:=h;cases ry;obtain⟨bs,r1⟩:=I.reads hd rx;rcases j with j|j
 ·obtain⟨O,r,pl,hz⟩:=I.list j
  obtain⟨as,J⟩:=I.readsAll hs r;refine lR _ pl.isList (jh (by simpa using J) r1 M c2 (by omega)) ⟨.bl _,H,I,rfl,?_⟩;rw[l7 (by simpa using J) M];exact q
 ·obtain⟨O,r,pl,hz⟩:=I.tuple j
  obtain⟨as,J⟩:=I.readsAll hs r;refine lA _ pl (jh (by simpa using J) r1 M c2 (by omega)) ⟨.bl _,H,I,rfl,?_⟩;rw[l7 (by simpa using J) M];exact q
theorem Zn7 (K:aa)(j:X.A.units+64<cLine)(q:X.K=K:=by rfl):Ve X (compareOp .NotIn) (Zl8 K true):=q▸ZfN j
end
theorem J8:∀ns:List Int,dH (ns.map be)=true
 | []=>rfl
 |n::ns=>by
  show (iq (.int n) && dH (ns.map be))=true;rw[J8 ns];rfl
theorem XJ (ns:List Int):iq (.tuple (ns.map be))=true:=J8 ns
theorem VI:∀yss:List (List Int),dH (yss.map fun ns=>fc (ns.map be))=true
 | []=>rfl
 |y::yss=>by
  show (iq (.tuple (y.map be)) && dH (yss.map fun ns=>fc (ns.map be)))=true;rw[VI yss,XJ];rfl
theorem UN:∀ns:List Int,jp (ns.map be)<=1
 | []=>by decide
 |n::ns=>by
  have:=UN ns;show max (fX (.int n)) (jp (ns.map be))<=1;have e:fX (.int n)<=1:=by simp[fX]
  omega
end L2
namespace L2
open PySem
theorem ZaD (ns:List Int):fX (.tuple (ns.map be))<=60:=by
 have:=UN ns;show jp (ns.map be)+1<=60;omega
end L2
namespace PyZ
open PySem
theorem U2 (l:Addr)(items:Array Value)(x:Value)(e:Value->Bool)(j:Nat)(hj:j<items.size)(J:e items[j]=true)(M:∀(m:Nat) (hm:m<items.size),m<j->e items[m]=false) :
  Meets (cK.«tuple.index» {pos:=[aC l,x]}) fun A R s=>
   s.heap.IsTuple l items/\(∀(y:Value),y∈items->kN A.in1 s y x (e y))/\
    R (Except.ok (Flow.ret (f8 (↑j) s.toks))) {heap:=s.heap,gens:=s.gens,drawn:=s.drawn,toks:=s.toks+1,os:=s.os}:=by
 intro m6 w A R s h;obtain⟨hl,he,h⟩:=h;obtain⟨oa,ha,_,na,da⟩:=hl;unfold cK.«tuple.index»;refine Zl ?_;show wpAny _ _ (pure (aC l,[x])) _ _ s;refine Zm ?_;show wpAny _ _ (iO (aC l) >>= _) _ _ s;refine Zl ?_;unfold iO;refine Zl (cw ha da ?_);refine Zm ?_;show wpAny _ _ (pure 0 >>= _) _ _ s;refine Zl (Zm ?_);show wpAny _ _ (pure items.size >>= _) _ _ s;refine Zl (Zm ?_);refine Zl ?_;rw[ln,Std.Legacy.Range.forIn_eq_forIn_range'];have O:(dw ([0:items.size]:iI).start ([0:items.size]:iI).size ([0:items.size]:iI).step)=dw 0 items.size:=by
  show dw 0 ((items.size-0+1-1) / 1) 1=_;rw[Nat.div_one,cW,dD]
 rw[O];refine wpAny_forIn_list _ (fun rest b Y=>Y=s/\b=(none,())/\∃k,rest=dw k (items.size-k)/\k<=j) _ ?_ ?_ _ _ ⟨rfl,rfl,0,rfl,bc _⟩
 ·rintro i rest b Y ⟨rfl,rfl,k,q,hk⟩
  have hs:items.size-k=(items.size-(k+1))+1:=by omega
  rw[hs,eA] at q;obtain⟨rfl,rfl⟩:=List.cons.inj q;have hi:i<items.size:=by omega
  rw[aO hi];show wpAny _ _ (eqBool items[i] x >>= _) _ _ _;refine Zl (he items[i] (Array.getElem_mem hi) _ _ _ _ ?_);by_cases m5:i=j
  ·subst m5
   rw[J,if_pos rfl];refine Zl ?_;unfold retInt;refine Zl (wpAny_mkInt ?_);refine Zm ?_;refine Zm ?_;show wpAny _ _ (pure _) _ _ _;exact Zm h
  ·rw[M i hi (by omega),if_neg aJ]
   refine Zm ?_;exact⟨rfl,rfl,i+1,rfl,by omega⟩
 ·rintro b Y ⟨rfl,rfl,k,q,hk⟩
  have:items.size-k=0:=by
   have:=congrArg e9 q;rw[List.length_range'] at this;exact this.symm
  omega
end PyZ
namespace L2
open PySem PySem.Spec PyProof.Rows
section
variable {X:Cx}
inductive Zhx (K:aa) (x:V) (vs:List V) (H:Hp) (Q:VK):Prop
 |mk (p:_) (xs:_) (y:_) (j:Nat):(x=.ref p)->(vs=[y])->(XM K H p xs)->(WY y=true)->(xs.all WY=true)->(j<xs.length)->((∀z,xs[j]?=some z->eqV z y=true))->((∀m z,m<j->xs[m]?=some z->eqV z y=false))->(Q (.int j) H)->Zhx K x vs H Q
theorem ZfW:MtR X "tuple.index" (Zhx X.K):=by
 intro o0 s σ H x vs v us Q I rx rv h;obtain⟨p,xs,y,j,rfl,rfl,hq,fy,fs,hj,h1,h2,q⟩:=h;cases rx;obtain⟨u,rfl,ru⟩:=rv.one;obtain⟨J,r,pl,hz⟩:=I.tuple hq;have hl:=r.length;have M:∀(m:Nat) (z:V),xs[m]?=some z->WY z=true:=fun m z hm=>aI.mp fs z (aE hm);have eu:∀(m:Nat) (hm:m<J.toArray.size),∃z,xs[m]?=some z/\eqU y J.toArray[m]=eqV z y:=fun m hm=>by
  have O:m<xs.length:=by rw[hl];simpa using hm
  obtain⟨w,hw,m8⟩:=r.get (Zf O);have n6:J.toArray[m]=w:=by
   have:=(ae.mp hw).2;simpa using this
  exact⟨_,Zf O,by rw[n6];exact ZbK m8 (M m _ (Zf O))⟩
 have m6:j<J.toArray.size:=by rw[Zh,<-hl];exact hj
 have n8:s.TypeIs (.ref p) "tuple":=mM pl;refine fo gS n8 F.entry_tuple_index (F.args_tuple_index_2 _ _) (PyZ.U2 p J.toArray u (eqU y) j m6 ?_ ?_) ⟨pl,fun w hw=>J0 ru fy r fs w (by simpa using hw),?_⟩
 ·obtain⟨z,Y,m5⟩:=eu j m6
  rw[m5];exact h1 z Y
 ·intro m hm n9
  obtain⟨z,Y,m5⟩:=eu m hm;rw[m5];exact h2 m z n9 Y
 ·exact⟨.int j,H,I.kept (t':=s.toks+1) fun b o e=>e,⟨_,rfl⟩,q⟩
inductive Zhz (K:aa) (x:V) (vs:List V) (H:Hp) (Q:VK):Prop
 |mk (p:_) (xs:_) (ds:_) (dy:_) (y:_) (j:Nat):(x=.ref p)->(vs=[y])->(H p=some (.lst xs))->(W3 K H xs ds)->(RdD K H y dy)->(dH ds=true)->(dy.canLay0=true)->(dy.depth<=60)->(j<ds.length)->((∀d,ds[j]?=some d->d.eqv dy=true))->((∀m d,m<j->ds[m]?=some d->d.eqv dy=false))->(Q (.int j) H)->Zhz K x vs H Q
theorem ZfX (hu:X.A.units+64<cLine):MtR X "list.index" (Zhz X.K):=by
 intro m8 s σ H x vs v us Q I rx rv h;obtain⟨p,xs,ds,dy,y,j,rfl,rfl,hp,hs,hd,c1,c2,dp,hj,h1,h2,q⟩:=h;cases rx;obtain⟨u,rfl,ru⟩:=rv.one;obtain⟨z,J,n,r,hl,e⟩:=I.lstM hp;obtain⟨bs,r1⟩:=I.reads hd ru;obtain⟨as,ra⟩:=I.readsAll hs r;have hm:=SeqAt.readsAll_map ds J as c1 ra;have hlen:J.length=ds.length:=by rw[<-hm,Za]
 have M:∀(m:Nat) (Y:m<J.toArray.size),ds[m]?=some (SeqAt.readOf s.heap J.toArray[m]):=fun m Y=>by
  have m5:m<J.length:=by simpa using Y
  rw[<-hm,Zc,Zf m5];simp
 have O:j<J.toArray.size:=by rw[Zh,hlen];exact hj
 have sz:=XE;refine fo lB ⟨_,e,rfl⟩ F.entry_list_index (F.args_list_index_2 _ _) (SeqAt.list_indexAt p J.toArray n none #[] u (fun y=>(SeqAt.readOf s.heap y).eqv dy) j O (by omega) (h1 _ (M j O)) fun m Y m6=>h2 m _ m6 (M m Y)) ⟨e,jh (by simpa using ra) r1 c1 c2 (by omega),?_⟩;exact⟨.int j,H,I.kept (t':=s.toks+1) fun b o e=>e,⟨_,rfl⟩,q⟩
theorem Znv (K:aa)(j:X.K=K:=by rfl):MtR X "tuple.index" (Zhx K):=j▸ZfW
theorem ZpI (K:aa)(j:X.A.units+64<cLine)(q:X.K=K:=by rfl):MtR X "list.index" (Zhz K):=q▸ZfX j
end
end L2
namespace PyZ
open PySem PyProof PyProof.Rows
noncomputable def Xz (n:Nat)(cmp:Nat->Nat->Bool){α:Type}:jL α->Option α
 | .ret a=>some a
 | .ask i j k=>if i<n/\j<n then Xz n cmp (k (cmp i j)) else none
theorem Xi {α:Type}{n:Nat}{cmp:Nat->Nat->Bool}{ask:Nat->Nat->(Bool->Shared->Prop)->Shared->Prop}{s:Shared}(h:∀i j C,i<n->j<n->C (cmp i j) s->ask i j C s):∀(t:jL α) (a:α) (Q:α->Shared->Prop),Xz n cmp t=some a->Q a s->W.KasT.kasWp ask t Q s
 | .ret b,a,Q,e,q=>by
  cases (aA e);exact q
 | .ask i j k,a,Q,e,q=>by
  rw[Xz] at e;by_cases J:i<n/\j<n
  ·rw[if_pos J] at e
   exact h i j _ J.1 J.2 (Xi h (k (cmp i j)) a Q e q)
  ·rw[if_neg J] at e
   cases e
noncomputable def U4 (fin:Bool):List Int->List Int->Bool
 | [],_=>fin
 |_::_,[]=>fin
 |x::j,y::q=>if x=y then U4 fin j q else decide (x<y)
noncomputable def JO (xs ys:List Int):Bool:=U4 (decide (xs.length<ys.length)) xs ys
section
variable {prog:Program}{w:World}{A:Around}{E:Value->Shared->Prop}{s:Shared}
theorem Zij {fin:Bool}{Q:Bool->Shared->Prop}:∀(j vs:List Value) (xs ys:List Int) (i:Nat),a8 j xs->a8 vs ys->Q (U4 fin xs ys) s->W.KatLex prog w A true fin Q (j.zip vs) i s
 | [],vs,xs,ys,i,J,M,q=>by
  cases J;exact iQ q
 |_::_,[],xs,ys,i,J,M,q=>by
  cases M;cases xs with
  |nil=>exact iQ q
  |cons x xs=>exact iQ q
 |u::j,v::vs,xs,ys,i,J,M,q=>by
  cases J with
  |cons x t1 Y=>
   cases M with
   |cons y t2 r2=>
    rename_i xs ys
    rw[ma];refine W.kat_cons ?_;refine fW _ _ _ _ prog w _ _ ?_;rw[U4] at q;by_cases e:x=y
    ·rw[if_pos e] at q
     rw[show (x == y)=true from beq_iff_eq.mpr e];exact W.kat_yes (Zij j vs xs ys (i+1) Y r2 q)
    ·rw[if_neg e] at q
     rw[show (x == y)=false from beq_eq_false_iff_ne.mpr e];refine W.kat_no ?_;by_cases O:i=0
     ·subst O
      exact oneLt_int q
     ·have:(true && i == 0)=false:=by simp[O]
      rw[this];exact W.kat_one _ _ (lt_int q)
noncomputable def U8 (h:Heap)(L:Addr):Heap:={h with objs:=h.objs.extract 0 L}
theorem YK {h:Heap}{L b:Addr}(hb:b<L):(U8 h L).get? b=h.get? b:=by
 unfold U8 Heap.get?;have:(h.objs.extract 0 L)[b]?=h.objs[b]?:=by
  rw[Array.getElem?_extract];by_cases j:b<h.objs.size
  ·simp only[cW,ig]
   rw[if_pos (show b<min L h.objs.size from Nat.lt_min.mpr ⟨hb,j⟩)]
  ·rw[cI (fM j)]
   split <;> simp_all
 simp only[this]
theorem WQ {h:Heap}{L b:Addr}(hb:L<=b):(U8 h L).get? b=none:=by
 unfold U8 Heap.get?;have:(h.objs.extract 0 L)[b]?=none:=by
  apply cI;rw[gm];exact bm (by rw[cW];exact fZ ..) hb
 simp only[this]
noncomputable def Yh (h:Heap)(L:Addr):List (Addr×Obj):=(ac h.objs.size).filterMap fun a=>if L<a then (h.get? a).map fun o=>(a,o) else none
theorem Yk {h:Heap}{L:Addr}{p:Addr×Obj}:p∈Yh h L↔L<p.1/\h.get? p.1=some p.2:=by
 unfold Yh;rw[iR];constructor
 ·rintro⟨a,J,e⟩
  by_cases j:L<a
  ·rw[if_pos j] at e
   cases q:h.get? a with
   |none=>rw[q] at e;cases e
   |some o=>
    rw[q] at e;cases (aA e);exact⟨j,q⟩
  ·rw[if_neg j] at e
   cases e
 ·rintro⟨j,e⟩
  refine⟨p.1,ag.mpr (Zp e),?_⟩;rw[if_pos j,e];rfl
theorem Ze0 {h:Heap}:∀(as:List Addr) (yss:List (List Int)),as.length=yss.length->(∀(i:Nat) a,as[i]?=some a->∃(q:List Value) (ys:List Int),yss[i]?=some ys/\h.IsTuple a q.toArray/\a8 q ys/\ys≠[])->
  ∃fs:List Value,W.KatTups h (as.map aC) fs/\fs.length=as.length/\∀v∈fs,∃n t,v=f8 n t
 | [],[],_,_=>⟨[],lY,rfl,fun v j=>by cases j⟩
 | [],_::_,h,_=>by cases h
 |_::_,[],h,_=>by cases h
 |a::as,ys::yss,J,g=>by
  obtain⟨q,M,e,⟨o,O,c,n,d⟩,Y,ne⟩:=g 0 a rfl;cases e;obtain⟨fs,k,l,f⟩:=Ze0 as yss (c8 J) fun i a' hi=>g (i+1) a' hi;cases Y with
  |nil=>exact absurd rfl ne
  |cons z t r=>
   refine⟨f8 z t::fs,lQ O c d (by simp) k,by rw[Zi,Zi,l],fun v j=>?_⟩;rcases aH.mp j with rfl|j
   ·exact⟨_,_,rfl⟩
   ·exact f v j
theorem Zcg {l L:Addr}{m:Str->Option Value}{as:List Addr}{yss:List (List Int)}{p:Array Nat}{Q:Value->Shared->Prop}(n8:s.heap.Ns L m)(hl:s.heap.IsList l (as.map aC).toArray)(n2:2<=as.length)(n9:as.length<64)(hy:as.length=yss.length)
  (ht:∀(i:Nat) a,as[i]?=some a->a≠L/\∃(us:List Value) (ys:List Int),yss[i]?=some ys/\s.heap.IsTuple a us.toArray/\a8 us ys/\ys≠[])
  (hp:Xz as.length (fun i j=>JO (yss.getD i []) (yss.getD j [])) (gx as.length)=some p)
  (q:∀D c h',s.heap.get? D=none->D≠L->(∀b o,b≠L->s.heap.get? b=some o->h'.get? b=some o)->h'.Ns L m->h'.get? D=some (mr (p.toList.map fun i=>(as.map aC).getD i bf).toArray c)->Q (.ref D) {s with heap:=h'}) :
  wpAny (model prog w) A (call (.builtin "sorted") [.ref l]) Q E s:=by
 have fr:Fr (U8 s.heap L) L s.heap m:=by
  refine⟨n8,fun b o e=>?_,?_⟩
  ·by_cases hb:b<L
   ·rw[YK hb] at e;exact e
   ·rw[WQ (fM hb)] at e
    cases e
  ·show (s.heap.objs.extract 0 L).size<=L
   rw[gm,cW];exact fZ ..
 have nw:News (U8 s.heap L) L s.heap (Yh s.heap L):=fun x hx=>by
  obtain⟨J,h2⟩:=Yk.mp hx;exact⟨h2,bh J,WQ (cY J)⟩
 have lv:(as.map aC).length=as.length:=eV ..;refine lO fr nw hl (by rw[lv];exact n2) (by rw[lv];exact n9) fun D e1 h' m6 M big=>?_;have kept:∀b o,b≠L->s.heap.get? b=some o->h'.get? b=some o:=fun b o hb e=>by
  rcases cF b L with J|J
  ·exact m6.keep b o (by rw[YK J];exact e)
  ·exact (M (b,o) (aq _ (Yk.mpr ⟨bw J (bd hb),e⟩))).1
 have dn:s.heap.get? D=none:=by
  cases e:s.heap.get? D with
  |none=>rfl
  |some o=>
   obtain⟨_,dL,dc⟩:=M _ (ax ..);rcases cF D L with J|J
   ·rw[YK J] at dc
    rw[dc] at e;cases e
   ·exact absurd (big (D,o) (Yk.mpr ⟨bw J (bd dL),e⟩)) (bV _)
 have dL:D≠L:=(M _ (ax ..)).2.1;have m5:∀(i:Nat) a,as[i]?=some a->∃(us:List Value) (ys:List Int),yss[i]?=some ys/\h'.IsTuple a us.toArray/\a8 us ys/\ys≠[]:=fun i a hi=>by
  obtain⟨aL,us,ys,e,⟨o,g1,g2⟩,ia,ne⟩:=ht i a hi;exact⟨us,ys,e,⟨o,kept a o aL g1,g2⟩,ia,ne⟩
 obtain⟨fs,kt,fl,fi⟩:=Ze0 as yss hy m5;refine W.kat_kind (T:=cz "int") kt (by omega) (fun v hv=>?_) (by decide +kernel) ?_
 ·obtain⟨n,t,rfl⟩:=fi v hv
  intro A Q E s' _ q;exact Zm q
 ·rw[lv]
  have kb:(cz "int" != cz "tuple")=true:=by decide +kernel
  rw[kb];refine Xi (cmp:=fun i j=>JO (yss.getD i []) (yss.getD j [])) (fun i j C hi hj c=>?_) _ p _ hp ?_
  ·unfold W.kas_ask
   obtain⟨us,ys,e,⟨o,g1,g2,n1,g3⟩,ia,_⟩:=m5 i as[i] (Zf hi);obtain⟨o0,m8,e2,⟨o2,k1,k2,o6,k3⟩,n6,_⟩:=m5 j as[j] (Zf hj);have v1:(as.map aC).getD i bf=.ref as[i]:=by
    rw[Zb,Zc,Zf hi];rfl
   have v2:(as.map aC).getD j bf=.ref as[j]:=by
    rw[Zb,Zc,Zf hj];rfl
   have w1:yss.getD i []=ys:=by rw[Zb,e];rfl
   have w2:yss.getD j []=m8:=by rw[Zb,e2];rfl
   rw[v1,v2];refine W.kat_lt g1 g3 k1 k3 ?_;have il:∀{us:List Value}{ys:List Int},a8 us ys->us.length=ys.length:=fun {us ys} h=>by
    induction h with
    |nil=>rfl
    |cons _ _ _ ih=>rw[Zi,Zi,ih]
   refine Zij us o0 ys m8 0 ia n6 ?_;rw[w1,w2] at c;unfold JO at c;rw[Zh,Zh,il ia,il n6];exact c
  ·refine⟨_,_,m6,M,kB (fun x hx=>aD (big x hx)),fun o5 c O Y=>?_⟩
   refine q D c o5 dn dL (fun b o hb e=>?_) O.ns (Y _ (ax ..)).1;rcases cF b L with J|J
   ·exact O.keep b o (by rw[YK J];exact e)
   ·exact (Y (b,o) (aq _ (Yk.mpr ⟨bw J (bd hb),e⟩))).1
end
end PyZ
namespace L2
open PySem PySem.Spec PyProof.Rows
theorem YD.there {P:Program}{w:World}{H:Hp}{h:Heap}{a:Addr}{o:HO}(x:YD P w H h a o):∃j,h.get? a=some j:=by
 cases o with
 |lst J=>obtain⟨_,_,_,_,e⟩:=x;exact⟨_,e⟩
 |tup J=>obtain⟨_,_,_,j,e,_⟩:=x;exact⟨_,e⟩
 |dK q=>obtain⟨_,_,_,_,o,_,_,e,_⟩:=x;exact⟨_,e⟩
 |dT q=>obtain⟨_,_,_,_,o,_,_,e,_⟩:=x;exact⟨_,e⟩
 |set S n=>obtain⟨o,_,_,_,e,_⟩:=x;exact⟨_,e⟩
 |ins C M fs=>obtain⟨_,_,_,e,_⟩:=x;exact⟨_,e⟩
 |own y=>obtain⟨_,e⟩:=x;exact⟨_,e⟩
 |xd fs=>obtain⟨_,⟨_,_,_,e,_⟩,_⟩:=x;exact⟨_,e⟩
 |rng lo O=>obtain⟨_,_,_,e⟩:=x;exact⟨_,e⟩
 |frz j u=>obtain⟨e,_⟩:=x;exact⟨_,e⟩
 |tbl Y=>exact⟨_,(show h.get? a=some _ from x)⟩
 |met f y=>exact⟨_,(show h.get? a=some _ from x)⟩
 |ext φ=>obtain⟨_,⟨_,e⟩,_⟩:=x;exact⟨_,e⟩
section
variable {X:Cx}{pins:List (Addr×Obj)}{σ:St}{H:Hp}{s:Shared}
theorem Inv.newL {D:Addr}{c:Nat}{h':Heap}{m:Str->Option Value}{ys:List V}{Y:List Value}(I:Inv X pins σ H s)(hm:s.heap.Ns X.env.locals m)
  (hl:∀(i:Nat) (x:Str) (v:V),X.N[i]?=some x->σ[i]?=some (some v)->Vis X.env.scope x->∃u,RelV v u/\Look X.env s.heap m x u)
  (dn:s.heap.get? D=none) (dL:D≠X.env.locals) (kept:∀b o,b≠X.env.locals->s.heap.get? b=some o->h'.get? b=some o) (n8:h'.Ns X.env.locals m) (hz:ys.length<=sizeLine) (hv:ZP ys Y) (hD:h'.get? D=some {cls:=.type "list",data:=.seq Y.toArray c}) :
  Inv X pins σ (upd H D (.lst ys)) {s with heap:=h'}/\H D=none:=by
 have m6:H D=none:=by
  cases e:H D with
  |none=>rfl
  |some o=>
   obtain⟨ob,e2⟩:=(I.hok D o e).there;rw[dn] at e2;cases e2
 have m5:∀{b:Addr}{o:Obj},s.heap.get? b=some o->b≠D:=fun {b o} e z=>by rw[z,dn] at e;cases e
 have M:∀{b:Addr}{o:HO},H b=some o->b≠D:=fun {b o} e z=>by rw[z,m6] at e;cases e
 have m8:∀{b:Addr}{o:HO},H b=some o->b≠X.env.locals:=fun {b o} e z=>by rw[z,I.free] at e;cases e
 have bL:∀{b:Addr}{o:Obj},X.s₀.heap.get? b=some o->b≠X.env.locals:=fun {b o} e=>aD (aG (Zp e) I.ok.above);refine⟨⟨I.ok,I.os,I.bare,⟨fun b o e n hb O=>?_,fun b o e n hb O=>?_,fun b o e n O=>?_,fun b o e O=>?_,fun b xs e=>?_,fun b o u e=>?_,fun b ps e=>?_⟩,⟨m,n8,fun j y v e1 e2 e3=>?_⟩,fun y J e=>?_,?_,fun y J e=>?_,fun p hp=>?_,fun b ob e=>?_,I.len⟩,m6⟩
 ·exact kept b o (bL e) (I.base.keep b o e n hb O)
 ·obtain⟨sl,e1⟩:=I.base.slot b o e n hb O
  exact⟨sl,kept b _ (bL e) e1⟩
 ·obtain⟨o',e1⟩:=I.base.there b o e O
  rw[Zz (m5 e1)];exact I.base.free b o e n O
 ·obtain⟨o',e1⟩:=I.base.there b o e O
  exact⟨o',kept b _ (bL e) e1⟩
 ·have:=I.base.tups b xs e
  rw[Zz (M this)];exact this
 ·have:=I.base.frzs b o u e
  rw[Zz (M this)];exact this
 ·obtain⟨n6,this⟩:=I.base.tbls b ps e
  exact⟨n6,by rw[Zz (M this)];exact this⟩
 ·obtain⟨u,r,q⟩:=hl j y v e1 e2 e3
  refine⟨u,r,?_⟩;rcases q with ⟨k,e⟩|⟨k,J,e,z⟩
  ·exact .inl ⟨k,e⟩
  ·obtain⟨o,g,rest⟩:=z
   exact .inr ⟨k,J,e,o,kept J o (I.cne y J e) g,rest⟩
 ·obtain⟨w',o,g,rest⟩:=I.cell y J e
  exact⟨w',o,kept J o (I.cne y J e) g,rest⟩
 ·rw[Zz (bd dL)]
  exact I.free
 ·obtain⟨w',o,g,rest⟩:=I.cell y J e
  rw[Zz (m5 g)];exact I.freeC y J e
 ·obtain⟨e,n,ne,nf,d⟩:=I.pin p hp
  exact⟨kept p.1 _ ne e,by rw[Zz (m5 e)];exact n,ne,nf,d⟩
 ·by_cases hb:b=D
  ·subst hb
   rw[Zt] at e;cases (aA e);exact⟨hz,Y,c,hv,hD⟩
  ·rw[Zz hb] at e
   refine (I.hok b ob e).stay (fun J w' hc q=>kept J w' ?_ q) (fun J q=>?_) fun J xs q=>?_
   ·rcases hc with rfl|hc
    ·exact m8 e
    ·exact m8 hc
   ·rw[Zz (M q)]
    exact q
   ·rw[Zz (M q)]
    exact q
theorem WP:∀{as:List Addr}{us:List Value},ZP (as.map V.ref) us->us=as.map aC
 | [],_,h=>by cases h;rfl
 |a::as,_,h=>by
  cases h with
  |cons r t=>rw[show _=aC a from r,WP t];rfl
theorem Jx:∀{ns:List Int}{us:List Value},ZP (ns.map V.int) us->a8 us ns
 | [],_,h=>by cases h;exact .nil
 |n::ns,_,h=>by
  cases h with
  |cons r t=>
   obtain⟨k,rfl⟩:=r;exact .cons n k (Jx t)
theorem Jq:∀as:List Addr,ZP (as.map V.ref) (as.map aC)
 | []=>.nil
 |a::as=>.cons rfl (Jq as)
end
section
variable {X:Cx}
noncomputable def Tz (H:Hp)(a:Addr)(ys:List V):Prop:=∃o:Obj,H a=some (.frz o (.tup ys))/\o.cls=.type "tuple"/\o.dict=none
theorem Tz.sq {K:aa}{H:Hp}{a:Addr}{ys:List V}(h:Tz H a ys):XM K H a ys:=by
 obtain⟨o,h,_⟩:=h;exact .inl (.inr ⟨o,h⟩)
theorem Tz.mono {H j:Hp}{a:Addr}{ys:List V}(s:Zv H j)(h:Tz H a ys):Tz j a ys:=by
 obtain⟨o,h,r⟩:=h;exact⟨o,s _ _ h,r⟩
inductive I_call_tupleZ (K:aa) (xs:List V) (H:Hp) (Q:VK):Prop
 |mk (p:_) (ys:_):(xs=[.ref p])->(W2 K H p ys)->(∀l H',H l=none->Zv H H'->Tz H' l ys->Q (.ref l) H')->I_call_tupleZ K xs H Q
theorem Zc9:YN X (.type "tuple") (_root_.L2.I_call_tupleZ X.K):=by
 intro j s O H xs us Q I r h;obtain⟨p,ys,rfl,hq,q⟩:=h;obtain⟨u,rfl,rx⟩:=vals1 r;cases rx;obtain⟨J,Y,pl,hz⟩:=I.list hq;have m5:=Y.length;refine call_tuple_list pl.isList (fun M kp=>?_) (by simp only[Zh] <;> omega)
 have I1:Inv X j O H {s with heap:=M}:=I.kept (t':=s.toks) kp;have hf:=I1.hok.fresh (Zq _);have I2:Inv X j O (upd H M.objs.size (.frz {cls:=.type "tuple",data:=.seq J.toArray} (.tup ys))) {s with heap:=M.push {cls:=.type "tuple",data:=.seq J.toArray}}:=
  I1.laid (t':=s.toks) (fun b o e=>Zn _ e) (Zq _) ⟨Zo _ rfl,hz,J,Y,ka _ _⟩
 exact⟨.ref M.objs.size,_,I2,rfl,q _ _ hf (Zv.upd hf) ⟨_,Zt,rfl,rfl⟩⟩
variable {o e:Expr}{es:List Expr}{to:TE}{t:TA}{name:Str}{apos cpos:Pos}{id:String}{r:V->List V->Hp->VK->Prop}
inductive Zoe (r:V->List V->Hp->VK->Prop) (t:TA) (σ:St) (Q:VK) (x:V) (H:Hp):Prop
 |mk:(∃p ys,x=.ref p/\Tz H p ys)->(t σ H fun xs H2=>r x xs H2 Q)->Zoe r t σ Q x H
noncomputable def Zpr (r:V->List V->Hp->VK->Prop)(to:TE)(t:TA):TE:=fun j H Q=>to j H (Zoe r t j Q)
theorem ZhM (pa:PlainAttrs "tuple")(slot:Slot "tuple" name id)(Y:typeOf (.builtin id)=pure (.type "method_descriptor"))(hm:MtR X id r)(ho:PE X o to)(ha:PA X (e::es) t)
  (J:attributeBase o name X.env (eval o X.env)=eval o X.env:=by rfl)
  (O:((backTo cpos (starEach (e::es) X.env)).all (fun x=>!x.1) && (backToKw cpos (keywordEach [] X.env)).all (fun x=>x.1.isSome)
   && decide ((e::es).length+([]:List Keyword).length+(if ([]:List Keyword).isEmpty then 0 else 1)<30))=true:=by rfl)
  (M:(apos.endLine == cpos.line)=true:=by rfl) (hs:starEach (e::es) X.env=(false,eval e X.env)::starEach es X.env:=by rfl) (q:(backTo cpos (starEach es X.env)).any (·.1)=false:=by rfl) :
  PE X (.Call (.Attribute o name apos) (e::es) [] cpos) (Zpr r to t):=by
 intro j s σ H Q I h;refine mq J O M rfl (Yq (ho j s σ H _ I h) fun v s1 ⟨x,H1,I1,r1,ty,q1⟩=>?_);obtain⟨p,ys,rfl,ob,m5,hc,hd⟩:=ty;cases r1;obtain⟨eo,_⟩:=I1.hok p _ m5;refine⟨"tuple",id,pa,slot,Y,⟨ob,eo,hc⟩,fun a e=>?_,?_⟩
 ·cases e
  exact⟨ob,eo,hd⟩
 have hA:=ha cpos j s1 σ H1 _ I1 q1;rw[hs] at hA ⊢;refine kq (by show (false || (backTo cpos (starEach es X.env)).any (·.1))=false;rw[q] <;> rfl) (kW ?_)
 exact Yq hA fun us s2 ⟨vs,H2,I2,r2,q2⟩=>hm j s2 σ H2 (.ref p) vs (.ref p) us Q I2 rfl r2 q2
end
end L2
namespace PyZ
open PySem PySem.Spec PyProof.Rows
section
variable {prog:Program}{w:World}{A:Around}{E:Value->Shared->Prop}{s:Shared}
theorem U9 {R:List Value->Shared->Prop}{r:Addr}{a b c:Int}{t u v:Tok}{n:Nat}(hh:A.handled=none)(hr:IsRange s.heap r a b c t u v)(O:cB a b c=true)
  (hn:bo a b c=n) (m5:n<=2 ^ 24)
  (h:∀(h':Heap) (tk:Nat) (ZH:Array Value),(∀b o,s.heap.get? b=some o->h'.get? b=some o)->gZ (fun i v=>∃t,v=.int (a+i*c) t) ZH n->R ZH.toList {s with heap:=h',toks:=tk}) :
  wpAny (model prog w) A (collect (.ref r)) R E s:=by
 unfold collect;refine Zl (kG (cp PySem.F.entry_proto_collect ?_));rw[bM jr _];show wpAny _ A.in1 (newList [] >>= fun l=>again (.builtin "list.__iadd__" ⟨[l,.ref r],[]⟩)) _ _ s;refine Zl (bQ ?_);refine Zm ⟨df eP _,cp PySem.F.entry_list_iadd ?_⟩;rw[bM eP _];have Y:(s.heap.push {cls:=.type "list",data:=.seq ([]:List Value).toArray}).get? s.heap.objs.size=some {cls:=.type "list",data:=.seq #[]}:=Zo _ rfl;show wpAny _ A.in1 (dh (.ref s.heap.objs.size) (.ref r) (.ref s.heap.objs.size)) _ _ _;have m6:=wpAny_extend_range (prog:=prog) (w:=w) (A:=A) (s:={s with heap:=s.heap.push {cls:=.type "list",data:=.seq ([]:List Value).toArray}})
  (R:=fun (q:Result) (s':Shared)=>∃(h':Heap) (tk:Nat) (j:Array Value) (c':Nat),q=.ok (.ret (.ref s.heap.objs.size))/\s'={s with heap:=h',toks:=tk}/\
   (∀b o,s.heap.get? b=some o->h'.get? b=some o)/\h'.get? s.heap.objs.size=some {cls:=.type "list",dict:=none,data:=.seq j c',slots:=#[]}/\gZ (fun i v=>∃t,v=.int (a+i*c) t) j n)
  hh (Zn _ hr) O hn m5 s.heap.objs.size (.ref s.heap.objs.size) 0 Y
  (fun h' tk j c' hk M J=>⟨h',tk,j,c',rfl,rfl,fun b o e=>hk b o (aD (Zp e)) (Zn _ e),M,J⟩)
 refine cH m6 (fun m8 s' x=>?_) fun e s' x=>?_
 ·cases m8 with
  |done f=>
   obtain⟨h',tk,j,c',e,rfl,hk,M,J⟩:=x;cases e;show wpAny _ A (load s.heap.objs.size >>= _) _ _ _;refine Zl (jv M ?_);exact Zm (h h' tk j hk J)
  |again n6=>
   refine⟨x.1,fK x.2 fun q n8 y=>?_⟩;obtain⟨h',tk,j,c',rfl,rfl,hk,M,J⟩:=y;show wpAny _ A (load s.heap.objs.size >>= _) _ _ _;refine Zl (jv M ?_);exact Zm (h h' tk j hk J)
 ·obtain⟨_,_,_,_,e',_⟩:=x
  cases e'
theorem J6 {Q₁:Value->Shared->Prop}{r:Addr}{a b c:Int}{t u v:Tok}{n:Nat}(hh:A.handled=none)(hr:IsRange s.heap r a b c t u v)(j:cB a b c=true)
  (hn:bo a b c=n) (J:n<=2 ^ 24)
  (h:∀(h':Heap) (tk:Nat) (ZH:Array Value),(∀b o,s.heap.get? b=some o->h'.get? b=some o)->gZ (fun i v=>∃t,v=.int (a+i*c) t) ZH n->
   Q₁ (.ref h'.objs.size) {s with heap:=h'.push {cls:=.type "tuple",data:=.seq ZH},toks:=tk}) :
  codeAny (model prog w) A (.call (.builtin "tuple.__new__") ⟨[.type "tuple",.ref r],[]⟩) (wants Q₁ E) s:=by
 refine kh ?_;show wpAny _ A.in1 (do checkBuiltinCall "tuple.__new__" ⟨[.type "tuple",.ref r],[]⟩;again (.builtin "tuple.__new__" ⟨[.type "tuple",.ref r],[]⟩)) _ _ s
 refine Zl (jZ (PySem.F.newCall_tuple_1 _) (Zm ⟨df (show plainId "tuple.__new__"=true by decide +kernel) _,cp PySem.F.entry_tuple_new ?_⟩));rw[bM (show plainId "tuple.__new__"=true by decide +kernel) _];have m5:=sub_tuple_self;have M:=init_tuple_lookup;have m6:=madeHere_tuple;have O:s.TypeIs (.ref r) "range":=⟨_,hr,rfl⟩;have Y:n<=sizeLine:=by
  have:(16777216:Nat)=sizeLine:=by decide
  omega
 wp_walk using iy O,U9 (A:=A.in1) hh hr j hn J
 intro h' tk ZH hm q;show wpAny _ _ (i7 ZH.toList.toArray >>= fun v=>ret v) _ _ _;unfold i7;refine Zl (bQ ?_ (by show ZH.toList.toArray.size<=sizeLine;simp only[lz];rw[q.1];exact Y));refine Zm ?_;have e:ZH.toList.toArray=ZH:=by simp
 rw[e];exact h h' tk ZH hm q
theorem Vu {Q:Value->Shared->Prop}{r:Addr}{a b c:Int}{t u v:Tok}{n:Nat}(hh:A.handled=none)(hr:IsRange s.heap r a b c t u v)(J:cB a b c=true)
  (hn:bo a b c=n) (M:n<=2 ^ 24)
  (h:∀(h':Heap) (tk:Nat) (ZH:Array Value),(∀b o,s.heap.get? b=some o->h'.get? b=some o)->gZ (fun i v=>∃t,v=.int (a+i*c) t) ZH n->
   Q (.ref h'.objs.size) {s with heap:=h'.push {cls:=.type "tuple",data:=.seq ZH},toks:=tk}) :
  wpAny (model prog w) A (call (.type "tuple") [.ref r]) Q E s:=by
 refine callType_codes (Q₁:=fun obj j=>j.TypeIs obj "tuple"/\Q obj j) ie (PySem.F.typeCall_tuple_1 _) PySem.F.entry_object_init
  (J6 (A:=A.in1) hh hr J hn M fun h' tk ZH hk O=>⟨⟨_,Zo _ rfl,rfl⟩,h h' tk ZH hk O⟩) fun obj j q=>?_
 exact⟨q.1,ko obj _,object_init_meets ie.init.lookup ie.made (by decide) prog w A.in1 _ j ⟨q.1,rfl,q.2⟩⟩
end
end PyZ
namespace L2
open PySem PySem.Spec PyProof.Rows
section
variable {X:Cx}
inductive I_call_tuple_rng (xs:List V) (H:Hp) (Q:VK):Prop
 |mk (a:Addr) (lo hi:Int):(xs=[.ref a])->(H a=some (.rng lo hi))->((-(2 ^ 62)<=lo/\lo<2 ^ 62/\-(2 ^ 62)<=hi/\hi<2 ^ 62))->((hi-lo).toNat<=sizeLine)->(∀l,H l=none->Q (.ref l) (upd H l (.tup ((YZ lo (hi-lo).toNat).map V.int))))->I_call_tuple_rng xs H Q
theorem UV (hc:X.calm=true):YN X (.type "tuple") _root_.L2.I_call_tuple_rng:=by
 intro j s O H xs us Q I r h;obtain⟨a,lo,hi,rfl,ha,⟨b1,b2,b3,b4⟩,Y,q⟩:=h;obtain⟨u,rfl,ru⟩:=vals1 r;cases ru;obtain⟨t,u,v,e⟩:=(show ∃t u v,s.heap.get? a=some {cls:=.type "range",data:=.fields #[.int lo t,.int hi u,.int 1 v]} from I.hok a _ ha);refine PyZ.Vu (n:=(hi-lo).toNat) (I.ok.hd hc) e (small_one b1 b2 b3 b4) (by rw[lK];split <;> omega) Y fun J tk ZH hk M=>?_
 have I1:Inv X j O H {s with heap:=J,toks:=tk}:=I.kept (t':=tk) hk;have I2:Inv X j O (upd H J.objs.size (.tup ((YZ lo (hi-lo).toNat).map V.int))) {s with heap:=J.push {cls:=.type "tuple",data:=.seq ZH},toks:=tk}:=
  I1.laid (t':=tk) (fun b o e=>Zn _ e) (Zq _) (show YD X.prog X.w _ _ _ (.tup ((YZ lo (hi-lo).toNat).map V.int)) from ⟨by rw[Za,Yl];exact Y,ZH.toList,Zae M,by simpa using ka _ _⟩)
 exact⟨.ref J.objs.size,_,I2,rfl,q _ (I1.hok.fresh (Zq _))⟩
end
end L2
namespace PyY
open PySem
open AutoSeq1 (wpAny_loadPart')
section
variable {prog:Program}{w:World}{A:Around}{E:Value->Shared->Prop}{s:Shared}
theorem Uy {j a:Addr}{k:Nat}{us:Array Value}{y:Value}{Q:Value->Shared->Prop}(c:s.heap.IsTupleIter j a k)(d:s.heap.IsTuple a us)(e:us[k]?=some y)
  (q:∀g,g.IsTupleIter j a (k+1)->bg j s.heap g->Q y {s with heap:=g}):wpAny (model prog w) A (a5 (.ref j)) Q E s:=by
 obtain⟨oj,J,cj,dj⟩:=id c;obtain⟨oa,O,_,na,Y⟩:=d;unfold a5;refine Zl (bx (name:=cV "__next__") c.typeIs eE (bG eE c.typeIs j9 ?_ (jW _)));show wpAny _ _ (field (.ref j) 0 >>= _) _ _ s;refine Zl (bW J dj (x:=.ref a) rfl ?_);show wpAny _ _ (if (aC a == bf)=true then _ else _) _ _ s
 rw[if_neg (show ¬((aC a == bf)=true) from aJ)];show wpAny _ _ (field (.ref j) 1 >>= _) _ _ s;refine Zl (bW J dj (x:=.int k 0) rfl ?_);show wpAny _ _ (seqItems? (.ref a) >>= _) _ _ s;refine Zl (cw O Y ?_);simp only[Zj,e];refine Zl (dC J dj (by simp) (Zm ⟨y,rfl,Zm (q _ ?_ (bO ..))⟩));refine⟨_,bJ _ J (cS (bH dj _)),(gE ..).trans cj,?_⟩;rw[bH dj];simp[rawInt]
theorem Zar {j a:Addr}{k:Nat}{us:Array Value}{Q:Value->Shared->Prop}(Y:A.handled=none)(c:s.heap.IsTupleIter j a k)(d:s.heap.IsTuple a us)(e:us[k]?=none)
  (q:∀g x,iu j s.heap g->(∃o,g.get? x=some o/\o.cls=.type "StopIteration")->E (.ref x) {s with heap:=g}):wpAny (model prog w) A (a5 (.ref j)) Q E s:=by
 obtain⟨oj,J,cj,dj⟩:=id c;obtain⟨oa,ha,_,na,da⟩:=d;unfold a5;refine Zl (bx (name:=cV "__next__") c.typeIs eE (bG eE c.typeIs j9 ?_ (jW _)));show wpAny _ _ (field (.ref j) 0 >>= _) _ _ s;refine Zl (bW J dj (x:=.ref a) rfl ?_);show wpAny _ _ (if (aC a == bf)=true then _ else _) _ _ s
 rw[if_neg (show ¬((aC a == bf)=true) from aJ)];show wpAny _ _ (field (.ref j) 1 >>= _) _ _ s;refine Zl (bW J dj (x:=.int k 0) rfl ?_);show wpAny _ _ (seqItems? (.ref a) >>= _) _ _ s;refine Zl (cw ha da ?_);simp only[Zj,e];refine Zl (dO (Zl (dC J dj (by simp) ?_)));show wpAny _ _ (newExc (.type "StopIteration") [] >>= _) _ _ {s with heap:=_};refine Zl ?_;unfold newExc newTuple;refine Zl (bQ (Q:=_) ?_ (by size_fits));refine Zl (m:=firstArgMember _ _) (jZ (a:=bf) (by first|rfl|(unfold firstArgMember;rfl)) ?_)
 refine bQ (Q:=_) ?_ (by size_fits);unfold raiseNew;refine Zl (wpAny_handled ?_);have M:A.in1.handled=none:=Y;rw[M];refine Zl (Zm (wpAny_throw (E:=E) ?_));exact q _ _ (((bO ..).extBut.push _).push _) ⟨_,Zo _ rfl,rfl⟩
theorem Zd7 {n j a:Addr}{k:Nat}{us:Array Value}{y J:Value}{Q:Option Value->Shared->Prop}(b:gN s.heap n j k J)(c:s.heap.IsTupleIter j a k)(d:s.heap.IsTuple a us)(e:us[k]?=some y)(nj:n≠j)
  (q:∀g,IsEnumOut g n j ((k:Int)+1) y s.heap.objs.size->g.IsTupleIter j a (k+1)->g.get? s.heap.objs.size=some {cls:=.type "tuple",data:=.seq #[.int k s.toks,y]}->g.objs.size=s.heap.objs.size+1->
   (∀x o,x≠n->x≠j->s.heap.get? x=some o->g.get? x=some o)->Q (some (.ref s.heap.objs.size)) {s with heap:=g,toks:=s.toks+1}):wpAny (model prog w) A (pyNext (.ref n)) Q E s:=by
 have tn:s.TypeIs (.ref n) "enumerate":=⟨_,b,rfl⟩;unfold pyNext;refine Zl (dY (bx (name:=cV "__next__") tn fN (bG fN tn lS ?_ (lD _))));obtain⟨M,O,dr,tk,os⟩:=s;show wpAny _ _ (field (.ref n) 2 >>= _) _ _ _;refine Zl (bW b rfl (x:=.ref j) rfl ?_);refine Zl (Uy c d e fun Y c1 s1=>?_);replace s1:bg j M Y:=s1;have b1:gN Y n j k J:=(s1.2 n nj).trans b;show wpAny _ _ (field (.ref n) 3 >>= _) _ _ ⟨Y,O,dr,tk,os⟩;refine Zl (bW b1 rfl (x:=rawInt k) rfl ?_);show wpAny _ _ (field (.ref n) 4 >>= _) _ _ ⟨Y,O,dr,tk,os⟩;refine Zl (bW b1 rfl (x:=.none) rfl ?_);show wpAny _ _ (mkInt k >>= _) _ _ ⟨Y,O,dr,tk,os⟩;refine Zl (wpAny_mkInt ?_);show wpAny _ _ (setField (.ref n) 3 (rawInt ((k:Int)+1)) >>= _) _ _ ⟨Y,O,dr,tk+1,os⟩;refine Zl (bT b1 (by simp) fun g2 b2 s2=>?_);replace s2:bg n Y g2:=s2;replace b2:gN g2 n j ((k:Int)+1) J:=b2;show wpAny _ _ (setField (.ref n) 4 .none >>= _) _ _ ⟨g2,O,dr,tk+1,os⟩;refine Zl (bT b2 (by simp) fun g3 b3 s3=>?_);replace s3:bg n g2 g3:=s3;replace b3:gN g3 n j ((k:Int)+1) J:=b3;show wpAny _ _ (newTuple [.int k tk,y] >>= _) _ _ ⟨g3,O,dr,tk+1,os⟩;refine Zl (kH ?_);have b4:gN (g3.push {cls:=.type "tuple",data:=.seq #[.int k tk,y]}) n j ((k:Int)+1) J:=Zn _ b3;generalize z4:g3.push {cls:=.type "tuple",data:=.seq #[.int k tk,y]}=g4 at b4;have sz:g3.objs.size=M.objs.size:=by rw[s3.1,s2.1,s1.1]
 have nl:n<M.objs.size:=Zp b;have t4:g4.get? M.objs.size=some {cls:=.type "tuple",data:=.seq #[.int k tk,y]}:=by
  rw[<-z4,<-sz];exact Zo _ rfl
 have w4:g4.objs.size=M.objs.size+1:=by
  rw[<-z4,bC,sz]
 have k4:∀x o,x≠n->x≠j->M.get? x=some o->g4.get? x=some o:=fun x o xn xj hx=>by
  rw[<-z4];exact Zn _ (s3.extBut x o xn (s2.extBut x o xn (s1.extBut x o xj hx)))
 have c4:g4.IsTupleIter j a (k+1):=by
  obtain⟨o,ho,r⟩:=(c1.extBut s2.extBut (bd nj)).extBut s3.extBut (bd nj);rw[<-z4];exact⟨o,Zn _ ho,r⟩
 show wpAny _ _ (bD (.ref n) >>= _) _ _ ⟨g4,O,dr,tk+1,os⟩;rw[sz];clear z4 b3 s3 b2 s2 b1 s1 c1 sz g3 g2 Y;refine Zl ?_;unfold bD;refine Zl (bW b4 rfl (x:=.none) rfl (Zm ?_));rw[if_pos rfl];refine Zl (dO (Zl (bW b4 rfl (x:=J) rfl ?_)));refine Zl (bT b4 (by simp) fun g5 b5 s5=>?_);replace s5:bg n g4 g5:=s5;replace b5:gN g5 n j ((k:Int)+1) y:=b5;show wpAny _ _ (cr (.ref n) (.ref M.objs.size) >>= _) _ _ ⟨g5,O,dr,tk+1,os⟩;refine Zl ?_;unfold cr;refine Zl (bT b5 (by simp) fun g6 b6 s6=>?_);replace s6:bg n g5 g6:=s6;replace b6:IsEnumOut g6 n j ((k:Int)+1) y M.objs.size:=b6;refine bT b6 (by simp) fun g7 b7 s7=>?_;replace s7:bg n g6 g7:=s7;replace b7:IsEnumOut g7 n j ((k:Int)+1) y M.objs.size:=b7;refine Zl (j3 (Zm ⟨_,rfl,Zm (q g7 b7 ?_ ?_ ?_ ?_)⟩))
 ·exact ((c4.extBut s5.extBut (bd nj)).extBut s6.extBut (bd nj)).extBut s7.extBut (bd nj)
 ·exact s7.extBut _ _ (bh nl) (s6.extBut _ _ (bh nl) (s5.extBut _ _ (bh nl) t4))
 ·rw[s7.1,s6.1,s5.1,w4]
 ·exact fun x o xn xj hx=>s7.extBut x o xn (s6.extBut x o xn (s5.extBut x o xn (k4 x o xn xj hx)))
theorem Zgb {n j a:Addr}{k:Nat}{us:Array Value}{old:Value}{Q:Option Value->Shared->Prop}(O:A.handled=none)(b:gN s.heap n j k old)(c:s.heap.IsTupleIter j a k)(d:s.heap.IsTuple a us)(e:us[k]?=none)
  (q:∀g,iu j s.heap g->Q none {s with heap:=g}):wpAny (model prog w) A (pyNext (.ref n)) Q E s:=by
 have J:s.TypeIs (.ref n) "enumerate":=⟨_,b,rfl⟩;unfold pyNext;refine Zl (dY (bx (name:=cV "__next__") J fN (bG fN J lS ?_ (lD _))));show wpAny _ _ (field (.ref n) 2 >>= _) _ _ _;refine Zl (bW b rfl (x:=.ref j) rfl ?_);refine Zl (Zar O c d e fun g x Y xs=>?_);obtain⟨o,ho,hc⟩:=xs;refine Zl (ir (T:="StopIteration") (b:=true) ⟨o,ho,hc⟩ kK ?_);exact Zm (q _ Y)
theorem Zga (a:Addr)(q:Array Value)(n:Nat)(M:Option Addr)(O:Array (Option Value)) :
  Meets (cK.«enumerate.__new__» ⟨[.type "enumerate",.ref a],[]⟩) (fun _ R s=>s.heap.get? a=some {cls:=.type "tuple",dict:=M,data:=.seq q n,slots:=O}/\
   R (.ok (.ret (.ref (s.heap.push {cls:=.type "tuple_iterator",data:=.fields #[.ref a,.int 0 0]}).objs.size)))
    {s with heap:=(s.heap.push {cls:=.type "tuple_iterator",data:=.fields #[.ref a,.int 0 0]}).push {cls:=.type "enumerate",data:=.fields #[.none,.bool false,.ref s.heap.objs.size,rawInt 0,.none,.none]}}):=
 .of_wp fun prog w A R s h=>by
  obtain⟨Y,gg,dr,tk,os⟩:=s;obtain⟨j,h⟩:=h;have sub:=sub_enumerate;have J:Heap.IsTuple (kC ⟨Y,gg,dr,tk,os⟩) a q:=⟨_,j,rfl,n,rfl⟩
  wp_walk using wpAny_loadPart' j
  refine wpAny_stack_any fun st=>Zm ?_;split
  ·rename_i c1 _ _ _ _ _
   cases (c1 == cz "enumerate") <;> (wp_walk using wpAny_loadPart' j,gK J) <;> exact⟨_,rfl,h⟩
  ·wp_walk using wpAny_loadPart' j,gK J
   exact⟨_,rfl,h⟩
theorem UX {a:Addr}{us:Array Value}{Q:Value->Shared->Prop}(M:s.heap.IsTuple a us)
  (h:∀g,gN g (s.heap.objs.size+1) s.heap.objs.size 0 .none->g.IsTupleIter s.heap.objs.size a 0->g.objs.size=s.heap.objs.size+2->(∀b o,s.heap.get? b=some o->g.get? b=some o)->Q (.ref (s.heap.objs.size+1)) {s with heap:=g}) :
  wpAny (model prog w) A (call (.type "enumerate") [.ref a]) Q E s:=by
 obtain⟨⟨O,Y,dt,sl⟩,ha,hc,n,hd⟩:=M;have j:O=.type "tuple":=hc;have q:dt=.seq us n:=hd;subst j q;refine callType_new F.called_enumerate (by decide) (F.typeCall_enumerate_1 _) (F.newCall_enumerate_1 _) (fun obj=>ko obj _) F.entry_enumerate_new (Zga a us n Y sl) ⟨ha,?_⟩;have J:(s.heap.push {cls:=.type "tuple_iterator",data:=.fields #[.ref a,.int 0 0]}).objs.size=s.heap.objs.size+1:=bC ..;show _/\_;rw[J];have he:gN ((s.heap.push {cls:=.type "tuple_iterator",data:=.fields #[.ref a,.int 0 0]}).push {cls:=.type "enumerate",data:=.fields #[.none,.bool false,.ref s.heap.objs.size,rawInt 0,.none,.none]}) (s.heap.objs.size+1) s.heap.objs.size 0 .none:=by
  have z:=Zo (s.heap.push {cls:=.type "tuple_iterator",data:=.fields #[.ref a,.int 0 0]}) (o:={cls:=.type "enumerate",data:=.fields #[.none,.bool false,.ref s.heap.objs.size,rawInt 0,.none,.none]}) rfl;rw[J] at z;exact z
 exact⟨⟨_,he,rfl⟩,h _ he ⟨_,Zn _ (Zo _ rfl),rfl,rfl⟩ (by rw[bC,J]) fun b o y=>Zn _ (Zn _ y)⟩
end
end PyY
namespace L2
open PySem PySem.Spec PyProof.Rows
section
variable {X:Cx}{pins:List (Addr×Obj)}{σ:St}{H:Hp}{s:Shared}{h':Heap}
theorem Inv.turnLay {t':Nat}{ts:List Addr}{T:Addr}{o:HO}(I:Inv X pins σ H s)(k:∀b u,b∉ts->s.heap.get? b=some u->h'.get? b=some u)(ht:∀b∈ts,∃u,h'.get? b=some u)(O:∀b∈ts,Zad X pins H b)(Y:s.heap.objs.size<=T)
  (M:YD X.prog X.w (upd H T o) h' T o):Inv X pins σ (upd H T o) {s with heap:=h',toks:=t'}:=by
 have j:H T=none:=I.hok.fresh Y;have J:∀b u,H b=some u->b∉ts:=fun b u e z=>by
  have:=(O b z).1;rw[e] at this;cases this
 refine I.call (ch:=ts) (g':=s.gens) (d':=s.drawn) ⟨fun b u e _ _ nx=>k b u nx e,fun b u e _ _ nx=>⟨u.slots,k b u nx e⟩,fun b u e n _=>?_,fun b u e nx=>⟨u,k b u nx e⟩,fun b ys q=>?_,fun b u v q=>?_,fun b ps q=>⟨#[],?_⟩⟩
  (fun b u e=>?_) I.bare fun b hb=>?_
 ·rw[Zz (aD (aG (Zp e) Y))]
  exact n
 ·rw[Zz (Yj q j)]
  exact q
 ·rw[Zz (Yj q j)]
  exact q
 ·rw[Zz (Yj q j),q]
  simp
 ·by_cases hb:b=T
  ·subst hb
   rw[Zt] at e;cases e;exact M
  ·rw[Zz hb] at e
   refine (I.hok b u e).stay (fun c v hc q=>k c v ?_ q) (fun c r=>by rw[Zz (Yj r j)];exact r) fun c ys r=>by rw[Zz (Yj r j)];exact r
   rcases hc with z|z
   ·rw[z]
    exact J b u e
   ·exact J c _ z
 ·obtain⟨f0,f1,f2,f3,f4,f5⟩:=O b hb
  exact⟨f3,f1,f4,f5⟩
theorem Inv.turnedL {t':Nat}{ts:List Addr}(I:Inv X pins σ H s)(k:∀b u,b∉ts->s.heap.get? b=some u->h'.get? b=some u)(J:∀b∈ts,Zad X pins H b):Inv X pins σ H {s with heap:=h',toks:=t'}:=by
 have j:∀b u,H b=some u->b∉ts:=fun b u e z=>by
  have:=(J b z).1;rw[e] at this;cases this
 refine I.call (ch:=ts) (g':=s.gens) (d':=s.drawn) ⟨fun b u e _ _ nx=>k b u nx e,fun b u e _ _ nx=>⟨u.slots,k b u nx e⟩,fun b u e n _=>n,fun b u e nx=>⟨u,k b u nx e⟩,fun b M q=>q,fun b u v q=>q,fun b ps q=>⟨#[],by rw[q];simp⟩⟩
  (fun b u e=>?_) I.bare fun b hb=>?_
 ·refine (I.hok b u e).stay (fun c v O q=>k c v ?_ q) (fun c r=>r) fun c M r=>r
  rcases O with z|z
  ·rw[z]
   exact j b u e
  ·exact j c _ z
 ·obtain⟨f0,f1,f2,Y,f4,f5⟩:=J b hb
  exact⟨Y,f1,f4,f5⟩
end
noncomputable def ZkY (K:aa)(a:Addr):It:=
 ⟨fun i H=>∃j x,W2 K H a j/\j[i]?=some x,fun i H x q=>∃T y,x=.ref T/\H T=none/\q=upd H T (.tup [.int i,y])/\∀j,W2 K H a j->j[i]?=some y,fun i H=>∃j,W2 K H a j/\j.length<=i⟩
noncomputable def Znd (K:aa)(a:Addr):It:=
 ⟨fun i H=>∃j x,XM K H a j/\j[i]?=some x,fun i H x q=>∃T y,x=.ref T/\H T=none/\q=upd H T (.tup [.int i,y])/\∀j,XM K H a j->j[i]?=some y,fun i H=>∃j,XM K H a j/\j.length<=i⟩
theorem Ua {P:Program}{w:World}{K:aa}{elts:List Expr}{x1}{pos:Pos}(a e it:Addr)(ne:e≠it) :
  Zab P w K (.Tuple elts x1 pos) (ZkY K a) [e,it] e (fun i h=>(∃j,gN h e it i j)/\h.IsListIter it a i) where
 mem:=by simp
 obj:=fun i h st b hb=>by
  obtain⟨⟨j,J⟩,⟨o,Y,c,d⟩⟩:=st;rcases aH.mp hb with rfl|hb
  ·exact⟨_,J,fun v z=>by
    have z':gy _=gh v:=z;cases z'⟩
  ·have q:b=it:=by simpa using hb
   subst q;exact⟨o,Y,fun v z=>by rw[d] at z;cases z⟩
 keep:=fun i h h' st k=>by
  obtain⟨⟨j,J⟩,M⟩:=st;exact⟨⟨j,k e (by simp) _ J⟩,M.at fun o q=>k it (by simp) o q⟩
 item:=by
  intro X hP hw hK hc i m5 s σ H E I hf st hg;subst hP hw hK;obtain⟨⟨j,J⟩,M⟩:=st;obtain⟨xs,x,hq,hx⟩:=hg;obtain⟨n6,rv,p,hz⟩:=I.list hq;obtain⟨u,hu,ru⟩:=rv.get hx;refine wpAny_pyNext_enum_item J M p.isList (x:=u) (by simpa using hu) ne fun h1 ho n8 hT o6 hk=>?_;refine⟨_,rfl,kI ho fun h2 n9 o0=>?_⟩;have le:e<s.heap.objs.size:=Zp J;have O:bg e h1 h2:=o0;have o5:h2.get? s.heap.objs.size=some {cls:=.type "tuple",data:=.seq #[.int i s.toks,u]}:=(O.2 _ (bh le)).trans hT;have m6:h2.IsListIter it a (i+1):=n8.at fun o q=>(O.2 it (bd ne)).trans q;have m8:gN h2 e it ((i+1:Nat):Int) u:=by
   have:=n9;simpa using this
  have nT:H s.heap.objs.size=none:=I.hok.fresh (Zq _);have I2:=I.turnLay (t':=s.toks+1) (h':=h2) (ts:=[e,it]) (T:=s.heap.objs.size) (o:=.tup [.int i,x]) (fun b v hb q=>?_) (fun b hb=>?_) hf (Zq _) ⟨by show 2<=sizeLine;decide,[.int i s.toks,u],.cons ⟨_,rfl⟩ (.cons ru .nil),_,o5,rfl,0,rfl⟩
  ·refine⟨.ref s.heap.objs.size,_,I2,rfl,⟨_,x,rfl,nT,rfl,fun ys hy=>by rw[I.list_inj hy hq];exact hx⟩,⟨⟨u,m8⟩,m6⟩,fun b hb=>?_⟩
   have fb:=(hf b hb).1;have lb:b<s.heap.objs.size:=by
    rcases aH.mp hb with rfl|hb
    ·exact le
    ·have q:b=it:=by simpa using hb
     subst q;obtain⟨o,Y,_⟩:=M;exact Zp Y
   rw[Zz (aD lb)];exact fb
  ·have q1:b≠e:=fun z=>hb (by simp[z])
   have q2:b≠it:=fun z=>hb (by simp[z]);exact (O.2 b q1).trans (hk b v q1 q2 q)
  ·rcases aH.mp hb with rfl|hb
   ·exact⟨_,m8⟩
   ·have q:b=it:=by simpa using hb
    subst q;obtain⟨o,Y,_⟩:=m6;exact⟨o,Y⟩
 done:=by
  intro X hP hw hK hc i m5 s σ H E I hf st hg;subst hP hw hK;obtain⟨⟨j,J⟩,M⟩:=st;obtain⟨xs,hq,hx⟩:=hg;obtain⟨n6,rv,p,hz⟩:=I.list hq;have hl:=rv.length;exact wpAny_pyNext_enum_end (I.ok.hd hc) J M p.isList (by simp;omega) fun h1 eb=>⟨rfl,I.turnedL (t':=s.toks) (ts:=[e,it]) (fun b o hb q=>eb b o (fun z=>hb (by simp[z])) q) hf⟩
 self:=fun _ _ _ _ _ st h=>by
  obtain⟨⟨j,J⟩,M⟩:=st;exact eh J h
theorem V9 {P:Program}{w:World}{K:aa}{elts:List Expr}{x1}{pos:Pos}(a e it:Addr)(ne:e≠it) :
  Zab P w K (.Tuple elts x1 pos) (Znd K a) [e,it] e (fun i h=>(∃j,gN h e it i j)/\h.IsTupleIter it a i) where
 mem:=by simp
 obj:=fun i h st b hb=>by
  obtain⟨⟨j,J⟩,⟨o,e1,c,d⟩⟩:=st;rcases aH.mp hb with rfl|hb
  ·exact⟨_,J,fun v z=>by
    have z':gy _=gh v:=z;cases z'⟩
  ·have q:b=it:=by simpa using hb
   subst q;exact⟨o,e1,fun v z=>by rw[d] at z;cases z⟩
 keep:=fun i h h' st k=>by
  obtain⟨⟨j,J⟩,M⟩:=st;exact⟨⟨j,k e (by simp) _ J⟩,M.at fun o q=>k it (by simp) o q⟩
 item:=by
  intro X hP hw hK hc i m5 s σ H E I hf st hg;subst hP hw hK;obtain⟨⟨j,J⟩,M⟩:=st;obtain⟨xs,x,hq,hx⟩:=hg;obtain⟨O,rv,p,hz⟩:=I.tuple hq;obtain⟨u,hu,ru⟩:=rv.get hx;refine PyY.Zd7 J M (show s.heap.IsTuple a O.toArray from p) (y:=u) (by simpa using hu) ne fun h1 ho n6 hT o5 hk=>?_;refine⟨_,rfl,kI ho fun h2 n8 n9=>?_⟩;have le:e<s.heap.objs.size:=Zp J;have Y:bg e h1 h2:=n9;have o0:h2.get? s.heap.objs.size=some {cls:=.type "tuple",data:=.seq #[.int i s.toks,u]}:=(Y.2 _ (bh le)).trans hT;have m6:h2.IsTupleIter it a (i+1):=n6.at fun o q=>(Y.2 it (bd ne)).trans q;have m8:gN h2 e it ((i+1:Nat):Int) u:=by
   have:=n8;simpa using this
  have nT:H s.heap.objs.size=none:=I.hok.fresh (Zq _);have I2:=I.turnLay (t':=s.toks+1) (h':=h2) (ts:=[e,it]) (T:=s.heap.objs.size) (o:=.tup [.int i,x]) (fun b v hb q=>?_) (fun b hb=>?_) hf (Zq _) ⟨by show 2<=sizeLine;decide,[.int i s.toks,u],.cons ⟨_,rfl⟩ (.cons ru .nil),_,o0,rfl,0,rfl⟩
  ·refine⟨.ref s.heap.objs.size,_,I2,rfl,⟨_,x,rfl,nT,rfl,fun ys hy=>by rw[I.tuple_inj hy hq];exact hx⟩,⟨⟨u,m8⟩,m6⟩,fun b hb=>?_⟩
   have fb:=(hf b hb).1;have lb:b<s.heap.objs.size:=by
    rcases aH.mp hb with rfl|hb
    ·exact le
    ·have q:b=it:=by simpa using hb
     subst q;obtain⟨o,e1,_⟩:=M;exact Zp e1
   rw[Zz (aD lb)];exact fb
  ·have q1:b≠e:=fun z=>hb (by simp[z])
   have q2:b≠it:=fun z=>hb (by simp[z]);exact (Y.2 b q1).trans (hk b v q1 q2 q)
  ·rcases aH.mp hb with rfl|hb
   ·exact⟨_,m8⟩
   ·have q:b=it:=by simpa using hb
    subst q;obtain⟨o,e1,_⟩:=m6;exact⟨o,e1⟩
 done:=by
  intro X hP hw hK hc i m5 s σ H E I hf st hg;subst hP hw hK;obtain⟨⟨j,J⟩,M⟩:=st;obtain⟨xs,hq,hx⟩:=hg;obtain⟨O,rv,p,hz⟩:=I.tuple hq;have hl:=rv.length;exact PyY.Zgb (I.ok.hd hc) J M (show s.heap.IsTuple a O.toArray from p) (by simp;omega) fun h1 eb=>⟨rfl,I.turnedL (t':=s.toks) (ts:=[e,it]) (fun b o hb q=>eb b o (fun z=>hb (by simp[z])) q) hf⟩
 self:=fun _ _ _ _ _ st h=>by
  obtain⟨⟨j,J⟩,M⟩:=st;exact eh J h
section
variable {X:Cx}
noncomputable def Zlv (K:aa)(J:TA):TI:=fun M H R=>J M H fun O j=>∃a,O=[.ref a]/\(((∃q,W2 K j a q)/\R (ZkY K a) j)\/((∃q,XM K j a q)/\R (Znd K a) j))
theorem Zoj {elts:List Expr}{x1}{pt:Pos}{l:Expr}{ta:TA}{p pos:Pos}(hm:X.mg "enumerate"=none)(ha:PA X [l] ta)(hg:Y9 X.env.scope "enumerate"=true:=by kernel_rfl)(hs:starEach [l] X.env=[(false,eval l X.env)]:=by rfl) :
  PI X (.Tuple elts x1 pt) (.Call (.Name "enumerate" p) [l] [] pos) (Zlv X.K ta):=by
 intro J s σ H R I h;refine Call_ (JF I (Xw hg) hm (show bootBuiltins "enumerate"=some (.type "enumerate") by kernel_rfl) (bA (Yq (ha pos J s σ H _ I h) fun us s1 ⟨vs,H1,j,r1,q1⟩=>?_) hs rfl));obtain⟨a,e,q⟩:=q1;subst e;cases r1 with
 |cons r rr=>
  cases rr;cases (show _=aC a from r);have sz:∀b,b∈[s1.heap.objs.size+1,s1.heap.objs.size]->s1.heap.objs.size<=b:=fun b hb=>by
   rcases aH.mp hb with rfl|hb
   ·exact gG _
   ·have:b=s1.heap.objs.size:=by simpa using hb
    rw[this];exact Zq _
  rcases q with ⟨⟨xs,O⟩,q⟩|⟨⟨xs,O⟩,q⟩
  ·obtain⟨M,rv,p,hz⟩:=j.list O
   refine call_enumerate_list p.isList fun g ge Y gs gk=>?_;refine eh ge ?_;exact⟨_,[s1.heap.objs.size+1,s1.heap.objs.size],_,_,H1,rfl,j.kept (t':=s1.toks) gk,Ua a _ _ (bh (cL _)),⟨⟨_,ge⟩,Y⟩,fun b hb=>j.fpOk (sz b hb) (j.hok.fresh (sz b hb)),q⟩
  ·obtain⟨M,rv,p,hz⟩:=j.tuple O
   refine PyY.UX (show s1.heap.IsTuple a M.toArray from p) fun g ge Y gs gk=>?_;refine eh ge ?_;exact⟨_,[s1.heap.objs.size+1,s1.heap.objs.size],_,_,H1,rfl,j.kept (t':=s1.toks) gk,V9 a _ _ (bh (cL _)),⟨⟨_,ge⟩,Y⟩,fun b hb=>j.fpOk (sz b hb) (j.hok.fresh (sz b hb)),q⟩
theorem UJ (K:aa){elts:List Expr}{q}{pt:Pos}{l:Expr}{j:TA}{p pos:Pos}(J:X.mg "enumerate"=none)(M:PA X [l] j)(O:X.K=K:=by rfl)(Y:Y9 X.env.scope "enumerate"=true:=by kernel_rfl)(hs:starEach [l] X.env=[(false,eval l X.env)]:=by rfl) :
  PI X (.Tuple elts q pt) (.Call (.Name "enumerate" p) [l] [] pos) (Zlv K j):=O▸Zoj J M Y hs
end
structure Zi3 (J:It)(At:Hp->Prop)(xs:List V):Prop where
 go:∀i H,At H->i<xs.length->J.go i H
 yld:∀i H x H2,At H->J.yld i H x H2->∃T y,x=.ref T/\H T=none/\H2=upd H T (.tup [.int i,y])/\xs[i]?=some y
 stop:∀i H,At H->xs.length<=i->J.stop i H
theorem UL {K:aa}{a:Addr}{xs:List V}:Zi3 (ZkY K a) (fun H=>W2 K H a xs) xs:=
 ⟨fun i H h hi=>⟨xs,xs[i],h,by simp[hi]⟩,fun i H x O h j=>by
  obtain⟨T,y,e,J,M,q⟩:=j;exact⟨T,y,e,J,M,q xs h⟩,fun i H h hi=>⟨xs,h,hi⟩⟩
theorem ZbL {K:aa}{a:Addr}{xs:List V}:Zi3 (Znd K a) (fun H=>XM K H a xs) xs:=
 ⟨fun i H h hi=>⟨xs,xs[i],h,by simp[hi]⟩,fun i H x O h j=>by
  obtain⟨T,y,e,J,M,q⟩:=j;exact⟨T,y,e,J,M,q xs h⟩,fun i H h hi=>⟨xs,h,hi⟩⟩
theorem WX {J:It}{g:TG}{tb:TS}{D:WO}{σ:St}{H:Hp}{At:Hp->Prop}{xs:List V}(S:Zi3 J At xs)(Pv:Nat->St->Hp->Prop)(h0:Pv 0 σ H)(hS:∀i σ H,Pv i σ H->At H)
  (hs:∀(i:Nat) y σ H T,xs[i]?=some y->Pv i σ H->H T=none->g (.ref T) σ (upd H T (.tup [.int i,y])) fun q Y=>tb (D.lp (Pv (i+1))) q Y) (hd:∀ σ H,Pv xs.length σ H->D.nx σ H) :
  ∃W:Nat->Nat->St->Hp->Prop,(∃m,W 0 m σ H)/\∀i m σ H,W i m σ H->
   (J.stop i H/\D.nx σ H)\/(J.go i H/\∃N:St->Hp->Prop,(∀ M j,N M j->∃m',m'<m/\W (i+1) m' M j)/\∀x j,J.yld i H x j->g x σ j fun q Y=>tb (D.lp N) q Y):=by
 refine⟨fun i m σ H=>m=xs.length-i/\i<=xs.length/\Pv i σ H,⟨_,rfl,bc _,h0⟩,?_⟩;rintro i m σ H ⟨rfl,hi,p⟩;have s:=hS i σ H p;by_cases O:i<xs.length
 ·refine .inr ⟨S.go i H s O,Pv (i+1),fun M j p'=>⟨xs.length-(i+1),by omega,rfl,O,p'⟩,fun x j hy=>?_⟩
  obtain⟨T,y,rfl,hT,rfl,hx⟩:=S.yld i H x j s hy;exact hs i y σ H T hx p hT
 ·have e:i=xs.length:=by omega
  subst e;exact .inl ⟨S.stop _ H s (Zq _),hd σ H p⟩
noncomputable def Itd (lo:Int)(n:Nat):It:=⟨fun i _=>i<n,fun i H x j=>j=H/\x=.int (lo-i),fun i _=>n<=i⟩
theorem Zfz {P:Program}{w:World}{K:aa}{tg:Expr}(it:Addr)(lo:Int)(n:Nat):Zab P w K tg (Itd lo n) [it] it (fun i h=>g9 h it (lo+(i:Nat)*(-1)) ((n:Int)-(i:Nat)) (-1)) where
 mem:=by simp
 obj:=fun i h st b hb=>by
  have e:b=it:=by simpa using hb
  subst e;exact⟨_,st,fun v z=>by
   have z':gy _=gh v:=z;cases z'⟩
 keep:=fun i h J st k=>k it (by simp) _ st
 item:=by
  intro X O Y hK hc i j s σ H E I M st hg;subst O Y hK;obtain⟨f0,f1,f2,f3,f4,f5⟩:=M it (by simp);have W:=kL (prog:=X.prog) (w:=X.w) (I.ok.hd hc) it lo (-1) n;refine W.item i s _ _ hg st fun v J tk hv q kk=>?_;obtain⟨t,rfl⟩:=hv;have I1:Inv X j σ H {s with heap:=J,toks:=tk}:=I.turned (fun b o hb e=>kk b o (by simpa using hb) e) f0 f1 f3 f4 f5;refine⟨_,rfl,ZcT (s:={s with heap:=J,toks:=tk}) (n:="range_iterator") q rfl rfl (by decide) ⟨.int (lo-i),H,I1,⟨t,?_⟩,⟨rfl,rfl⟩,q,fun b hb=>(M b hb).1⟩⟩;rw[show lo-(i:Int)=lo+(i:Int)*(-1) by omega]
 done:=by
  intro X O Y hK hc i j s σ H E I M st hg;subst O Y hK;obtain⟨f0,f1,f2,f3,f4,f5⟩:=M it (by simp);exact iA (I.ok.hd hc) st (by have:n<=i:=hg;omega) fun J eb=>⟨rfl,I.turned (t':=s.toks) (fun b o hb e=>eb b o hb e) f0 f1 f3 f4 f5⟩
 self:=fun _ _ _ _ _ st h=>iB st h
theorem rangeSize_down (a b:Int):bo a b (-1)=if b<a then a-b else 0:=by
 unfold bo;rw[if_neg (by decide),Int.neg_neg,Int.ediv_one];by_cases h:b<a
 ·rw[if_pos h,if_pos h]
  omega
 ·rw[if_neg h,if_neg h]
theorem small_down {a b:Int}(j:-(2 ^ 62)<=a)(q:a<2 ^ 62)(J:-(2 ^ 62)<=b)(M:b<2 ^ 62):cB a b (-1)=true:=by
 unfold cB;rw[rangeSize_down];simp only[iL,af,bu,decide_eq_true_eq,beq_iff_eq,show ¬((-1:Int) > 0) by decide,if_false];split <;> omega
noncomputable def Zod (q:TA):TI:=fun J H R=>q J H fun M O=>∃i j:Int,M=[.int i,.int j,.int (-1)]/\(-(2 ^ 62)<=i/\i<2 ^ 62/\-(2 ^ 62)<=j/\j<2 ^ 62)/\R (Itd i (i-j).toNat) O
theorem ZnS {X:Cx}{tg a b c:Expr}{ta:TA}{p pos:Pos}(hm:X.mg "range"=none)(ha:PA X [a,b,c] ta)(hg:Y9 X.env.scope "range"=true:=by kernel_rfl)(hs:starEach [a,b,c] X.env=(false,eval a X.env)::starEach [b,c] X.env:=by rfl)(m5:(backTo pos (starEach [b,c] X.env)).any (·.1)=false:=by rfl) :
  PI X tg (.Call (.Name "range" p) [a,b,c] [] pos) (Zod ta):=by
 intro M s σ H R I h;refine Call_ (JF I (Xw hg) hm kZ (bA (Yq (ha pos M s σ H _ I h) fun us s1 ⟨vs,H1,I1,r1,q1⟩=>?_) hs m5));obtain⟨i,j,e,⟨q1,q2,q3,q4⟩,q⟩:=q1;subst e;cases r1 with
 |cons r O=>
  cases O with
  |cons r' O=>
   cases O with
   |cons m6 O=>
    cases O;obtain⟨t,rfl⟩:=r;obtain⟨Y,rfl⟩:=r';obtain⟨J,rfl⟩:=m6;refine call_range_3 (by decide) ?_ (Or.inl (jX (by decide)));refine ju (ki ..) (small_down q1 q2 q3 q4) ?_;have I2:Inv X M σ H1 {s1 with heap:=s1.heap.push {cls:=.type "range",data:=.fields #[.int i t,.int j Y,.int (-1) J]},toks:=s1.toks}:=I1.kept fun b o e=>Zn _ e;refine⟨(s1.heap.push {cls:=.type "range",data:=.fields #[.int i t,.int j Y,.int (-1) J]}).objs.size,[(s1.heap.push {cls:=.type "range",data:=.fields #[.int i t,.int j Y,.int (-1) J]}).objs.size],_,_,H1,rfl,
     I2.kept (t':=s1.toks) fun b o e=>Zn _ e,Zfz _ i (i-j).toNat,?_,fun b hb=>?_,q⟩
    ·have e1:i+((0:Nat):Int)*(-1)=i:=by simp
     have e2:(((i-j).toNat:Nat):Int)-((0:Nat):Int)=bo i j (-1):=by rw[rangeSize_down];split <;> omega
     show g9 _ _ (i+((0:Nat):Int)*(-1)) ((((i-j).toNat:Nat):Int)-((0:Nat):Int)) (-1);rw[e1,e2];exact Zo _ rfl
    ·have e:b=(s1.heap.push {cls:=.type "range",data:=.fields #[.int i t,.int j Y,.int (-1) J]}).objs.size:=by simpa using hb
     subst e;exact I2.fpOk (Zq _) (I2.hok.fresh (Zq _))
theorem ZcV {lo:Int}{n:Nat}{g:TG}{tb:TS}{D:WO}{σ:St}{H:Hp}(Pv:Nat->St->Hp->Prop)(h0:Pv 0 σ H)
  (hs:∀i σ H,i<n->Pv i σ H->g (.int (lo-i)) σ H fun j O=>tb (D.lp (Pv (i+1))) j O) (hd:∀ σ H,Pv n σ H->D.nx σ H) :
  ∃W:Nat->Nat->St->Hp->Prop,(∃m,W 0 m σ H)/\∀i m σ H,W i m σ H->
   ((Itd lo n).stop i H/\D.nx σ H)\/((Itd lo n).go i H/\∃N:St->Hp->Prop,(∀ q J,N q J->∃Y,Y<m/\W (i+1) Y q J)/\∀x J,(Itd lo n).yld i H x J->g x σ J fun j O=>tb (D.lp N) j O):=by
 refine⟨fun i m σ H=>m=n-i/\i<=n/\Pv i σ H,⟨n,by simp,bc _,h0⟩,?_⟩;rintro i m σ H ⟨rfl,hi,p⟩;by_cases M:i<n
 ·refine .inr ⟨M,Pv (i+1),fun q J p'=>⟨n-(i+1),by omega,rfl,M,p'⟩,fun x J hy=>?_⟩
  obtain⟨e,rfl⟩:=hy;subst e;exact hs i σ _ M p
 ·have e:i=n:=by omega
  subst e;exact .inl ⟨Zq _,hd σ H p⟩
theorem g2 (K:aa)(i j:Nat){X:Cx}{x y:Str}{k}{q J pos:Pos}(O:X.calm=true)(Y:PG X (.Name x q) (Yg i))(hy:PG X (.Name y J) (Yg j))(hK:X.K=K:=by rfl)
  (hn:(assignEach [.Name x q,.Name y J] X.env).length=2:=by rfl) (M:(assignEach [.Name x q,.Name y J] X.env).findIdx? (·.1)=none:=by rfl) :
  PG X (.Tuple [.Name x q,.Name y J] k pos) (Zf7 K 2 (JL (Yg i) (JL (Yg j) Zf8))):=hK▸ZdR O (Wy Y (Wy hy Zbm)) hn M
theorem ZhN {X:Cx}(K:aa){o e:Expr}{M:List Expr}{to:TE}{t:TA}{name:Str}{J j:Pos}{T id:String}{r:V->List V->Hp->VK->Prop}(pa:PlainAttrs T)(slot:Slot T name id)(m6:typeOf (.builtin id)=pure (.type "method_descriptor"))(hm:MtR X id r)(ho:PE X o to)(ha:PA X (e::M) t)
  (hK:X.K=K:=by rfl) (O:attributeBase o name X.env (eval o X.env)=eval o X.env:=by rfl)
  (m5:((backTo j (starEach (e::M) X.env)).all (fun x=>!x.1) && (backToKw j (keywordEach [] X.env)).all (fun x=>x.1.isSome)
   && decide ((e::M).length+([]:List Keyword).length+(if ([]:List Keyword).isEmpty then 0 else 1)<30))=true:=by rfl)
  (Y:(J.endLine == j.line)=true:=by rfl) (hs:starEach (e::M) X.env=(false,eval e X.env)::starEach M X.env:=by rfl) (q:(backTo j (starEach M X.env)).any (·.1)=false:=by rfl) :
  PE X (.Call (.Attribute o name J) (e::M) [] j) (tBM K T r to t):=hK▸Wj pa slot m6 hm ho ha O m5 Y hs q
end L2
namespace Pm
open PySem L2 PySem.Spec PyProof.Rows
open Tb
noncomputable def nV (k:Nat):V:=.int (k:Int)
noncomputable def GT (H:Hp)(g:Addr)(t:List (List Nat)):Prop:=∃rs:List Addr,H g=some (.tup (rs.map V.ref))/\rs.length=t.length/\∀(i:Nat) r,rs[i]?=some r->Tz H r ((t.getD i []).map nV)
theorem GT.mono {H j:Hp}{g:Addr}{t:List (List Nat)}(s:Zv H j)(G:GT H g t):GT j g t:=by
 obtain⟨q,J,M,O⟩:=G;exact⟨q,s _ _ J,M,fun i r Y=>(O i r Y).mono s⟩
theorem XZ {t:List (List Nat)}(P:PW t){a:Nat}(j:a<t.length):(t.getD a []).length=t.length:=by
 refine P.len _ ?_;rw[Zb,Zf j];exact bK j
theorem Vg {t:List (List Nat)}(P:PW t){a b:Nat}(j:a<t.length)(hb:b<t.length):((t.getD a []).map nV)[b]?=some (.int (ZT t a b:Nat)):=by
 have q:=XZ P j;unfold ZT;generalize t.getD a []=row at *;rw[Zc,Zf (show b<row.length by omega),Zb,Zf (show b<row.length by omega)];rfl
theorem GT.at {H:Hp}{g:Addr}{t:List (List Nat)}(G:GT H g t)(P:PW t){a:Nat}(J:a<t.length):∃(j:List Addr) (r:Addr),H g=some (.tup (j.map V.ref))/\j.length=t.length/\Vd (j.map V.ref) (a:Int)=some (.ref r)/\Tz H r ((t.getD a []).map nV)/\∀b,b<t.length->Vd ((t.getD a []).map nV) (b:Int)=some (.int (ZT t a b:Nat)):=by
 obtain⟨j,M,O,Y⟩:=G;have q:j[a]?=some (j[a]'(by omega)):=Zf (by omega);exact⟨j,_,M,O,ZK (by rw[Zc,q];rfl),Y a _ q,fun b hb=>ZK (Vg P J hb)⟩
noncomputable def Zi1 (H:Hp)(L:Addr)(rs:List Addr)(f:Nat->List Nat):Prop:=H L=some (.lst (rs.map V.ref))/\∀(i:Nat) r,rs[i]?=some r->Tz H r ((f i).map nV)
theorem ZoP {H j:Hp}{L g:Addr}{rs:List Addr}{f:Nat->List Nat}{n:Nat}(R:Zi1 H L rs f)(q:rs.length=n)(s:Zv H j)(M:j g=some (.tup (rs.map V.ref))):GT j g ((ac n).map f):=by
 refine⟨rs,M,by rw[q,Za,Zg],fun i r J=>?_⟩;have O:i<n:=by rw[<-q];exact (ae.mp J).1
 rw[Zb,Zc,ao O];exact (R.2 i r J).mono s
theorem Zfb (i j:Int):gO (.int i) (.int j)=decide (i=j):=by
 first|rfl|simp[gO]
theorem WA {n i:Nat}(h:i<n):ixN n (i:Int)=some i:=by
 unfold ixN;rw[if_pos (dE _),if_pos (by omega),Zj]
theorem XC {xs:List Nat}{i:Nat}{y:V}(h:(xs.map nV)[i]?=some y):∃k,xs[i]?=some k/\y=.int (k:Nat):=by
 rw[Zc] at h;cases e:xs[i]? with
 |none=>rw[e] at h;cases h
 |some k=>rw[e] at h;exact⟨k,rfl,(aA h).symm⟩
noncomputable def Xp (f g:List Nat):List Nat:=g.map fun i=>f.getD i 0
noncomputable def nI (xs:List Nat):List Int:=xs.map fun k:Nat=>((k:Nat):Int)
theorem Zmw (xs:List Nat):(nI xs).map V.int=xs.map nV:=by unfold nI;rw[aP];rfl
noncomputable def TupsAt (H:Hp)(L:Addr)(bs:List Addr)(yss:List (List Nat)):Prop:=H L=some (.lst (bs.map V.ref))/\bs.length=yss.length/\∀(i:Nat) b,bs[i]?=some b->H b=some (.tup ((yss.getD i []).map nV))
theorem TupsAt.mono {H j:Hp}{L:Addr}{bs:List Addr}{yss:List (List Nat)}(s:Zv H j)(R:TupsAt H L bs yss):TupsAt j L bs yss:=⟨s _ _ R.1,R.2.1,fun i b hb=>s _ _ (R.2.2 i b hb)⟩
theorem TupsAt.push {H:Hp}{L:Addr}{bs:List Addr}{yss:List (List Nat)}{b:Addr}{ys:List Nat}(R:TupsAt H L bs yss)(h:H b=some (.tup (ys.map nV))):TupsAt (upd H L (.lst (bs.map V.ref++[.ref b]))) L (bs++[b]) (yss++[ys]):=by
 have ne:∀{b ys},H b=some (.tup ys)->upd H L (.lst (bs.map V.ref++[.ref b])) b=some (.tup ys):=fun {b ys} hb=>by
  rw[Zz (fun z=>by rw[z,R.1] at hb;cases hb)];exact hb
 refine⟨by rw[Zt,aR];rfl,by rw[Zd,Zd,R.2.1];rfl,fun i c j=>?_⟩;have q:c≠L->upd H L (.lst (bs.map V.ref++[.ref b])) c=H c:=fun z=>Zz z;by_cases J:i<bs.length
 ·rw[au J] at j
  have:=R.2.2 i c j;rw[q (fun z=>by rw[z,R.1] at this;cases this),Zb,au (by rw[<-R.2.1];exact J),<-Zb];exact this
 ·rw[aw (by omega)] at j
  have M:i-bs.length=0:=by
   apply ah;intro z;rw[ak (by rw[Zk];omega)] at j;cases j
  rw[M] at j;cases j;have:i=yss.length:=by rw[<-R.2.1];omega
  rw[q (fun z=>by rw[z,R.1] at h;cases h),this,Zb,aw (Zq _),cD];exact h
theorem ZeF {K:aa}{H:Hp}:∀(bs:List Addr) (yss:List (List Nat)),bs.length=yss.length->(∀(j:Nat) b,bs[j]?=some b->H b=some (.tup ((yss.getD j []).map nV)))->W3 K H (bs.map V.ref) (yss.map fun ns=>fc ((nI ns).map be))
 | [],[],_,_=>.nil
 | [],_::_,h,_=>by cases h
 |_::_,[],h,_=>by cases h
 |b::bs,y::yss,h,g=>by
  have hb:=g 0 b rfl;have q:H b=some (.tup ((nI y).map V.int)):=by rw[Zmw];exact hb
  exact .cons (.tup (.of q) (W3.ints _)) (ZeF bs yss (c8 h) fun j J M=>g (j+1) J M)
theorem Zib {a b:List Nat}:nI a=nI b↔a=b:=by
 constructor
 ·intro h
  unfold nI at h;exact (iS (fun x y e=>by exact Int.ofNat.inj e)).mp h
 ·intro h;rw[h]
theorem Zoi (a b:List Nat):gO (.tuple ((nI a).map be)) (.tuple ((nI b).map be))=decide (a=b):=by
 have:gO (.tuple ((nI a).map be)) (.tuple ((nI b).map be))=decide (nI a=nI b):=by
  show PyData.eqvAll _ _=_;exact PySem.W.ked_eqvAll _ _
 rw[this,decide_eq_decide];exact Zib
theorem ZbZ (yss:List (List Nat))(o:List Nat):((yss.map fun ns=>fc ((nI ns).map be)).any fun y=>y.eqv (.tuple ((nI o).map be)))=yss.contains o:=by
 rw[fk,List.contains_eq_any_beq];congr 1;funext y;show gO _ _=(o == y);rw[Zoi];by_cases h:y=o
 ·rw[decide_eq_true h,h,beq_self_eq_true]
 ·rw[decide_eq_false h]
  exact (beq_eq_false_iff_ne.mpr (fun z=>h z.symm)).symm
noncomputable def ZiF (j:List Nat):V->V
 | .int z=>nV (j.getD z.toNat 0)
 |y=>y
theorem ZcY (j g:List Nat):(g.map nV).map (ZiF j)=(Xp j g).map nV:=by
 unfold Xp;rw[aP,aP];refine aX fun b _=>?_;show nV (j.getD (b:Int).toNat 0)=nV (j.getD b 0);rw[Zj]
noncomputable def Y7 (j:List (List Nat)):List (List Nat):=j.map fun a=>j.map fun b=>j.findIdx (· == Xp a b)
noncomputable def Gk (k:Nat)(y:List Nat):Prop:=y.length=k/\∀x∈y,x<k
theorem ZiX {k:Nat}{a g:List Nat}(j:Gk k a)(q:Gk k g):Gk k (Xp a g):=by
 unfold Xp;refine⟨by rw[Za];exact q.1,fun x J=>?_⟩;obtain⟨i,hi,rfl⟩:=aN.mp J;have M:=q.2 i hi;have O:=j.1;rw[Zb,Zf (show i<a.length by omega)];exact j.2 _ (bK _)
theorem TupsAt.get {H:Hp}{L:Addr}{bs:List Addr}{yss:List (List Nat)}(R:TupsAt H L bs yss){i:Nat}(j:i<yss.length):∃b,bs[i]?=some b/\Vd (bs.map V.ref) (i:Int)=some (.ref b)/\H b=some (.tup ((yss.getD i []).map nV)):=by
 have hb:i<bs.length:=by rw[R.2.1];exact j
 have e:bs[i]?=some bs[i]:=Zf hb;exact⟨_,e,ZK (by rw[Zc,e];rfl),R.2.2 i _ e⟩
theorem TupsAt.ref {H:Hp}{L:Addr}{bs:List Addr}{yss:List (List Nat)}(R:TupsAt H L bs yss){i:Nat}{y:V}(h:(bs.map V.ref)[i]?=some y):∃b,y=.ref b/\i<yss.length/\H b=some (.tup ((yss.getD i []).map nV)):=by
 rw[Zc] at h;cases e:bs[i]? with
 |none=>rw[e] at h;cases h
 |some b=>
  rw[e] at h;refine⟨b,(aA h).symm,?_,R.2.2 i b e⟩;rw[<-R.2.1];exact (ae.mp e).1
theorem getL {yss:List (List Nat)}{i:Nat}(h:i<yss.length):yss[i]?=some (yss.getD i []):=by
 rw[Zb,Zf h];rfl
theorem Zbt {yss:List (List Nat)}{i:Nat}(h:i<yss.length):yss.getD i []∈yss:=aE (getL h)
theorem Zln {xs:List Nat}{i:Nat}(h:i<xs.length):Vd (xs.map nV) (i:Int)=some (nV (xs.getD i 0)):=ZK (by rw[Zc,Zf h,Zb,Zf h];rfl)
noncomputable def ZcI:List (List Nat)->Hp->(List V->Hp->Prop)->Prop
 | [],H,Q=>Q [] H
 |x::r,H,Q=>iTu (fun v j=>ZcI r j fun q J=>Q (v::q) J) (x.map nV) H
theorem JZ:∀(j:List (List Nat)) (H:Hp) (Q:List V->Hp->Prop),(∀x∈j,x.length<=1000)->
  (∀(bs:List Addr) (J:Hp),Zv H J->bs.length=j.length->(∀(i:Nat) b,bs[i]?=some b->J b=some (.tup ((j.getD i []).map nV)))->Q (bs.map V.ref) J)->ZcI j H Q
 | [],H,Q,_,q=>q [] H (Zv.refl _) rfl fun i b hb=>by cases hb
 |x::r,H,Q,O,q=>by
  have sz:(16777216:Nat)=sizeLine:=by decide
  refine⟨?_,fun p hp=>JZ r _ _ (fun y hy=>O y (aq _ hy)) fun bs J Y hb hi=>?_⟩
  ·have:=O x ax
   rw[Za];omega
  ·refine q (p::bs) J ((Zv.upd hp).trans Y) (by rw[Zi,Zi,hb]) fun i b M=>?_
   cases i with
   |zero=>
    cases M;exact Y _ _ Zt
   |succ i=>exact hi i b M
noncomputable def Zh7:List (List (List Nat))->Hp->(List V->Hp->Prop)->Prop
 | [],H,Q=>Q [] H
 |j::r,H,Q=>ZcI j H (iLs fun v q=>Zh7 r q fun J M=>Q (v::J) M)
theorem VF:∀(j:List (List (List Nat))) (H:Hp) (Q:List V->Hp->Prop),(∀J∈j,J.length<=1000/\∀x∈J,x.length<=1000)->
  (∀(ls:List Addr) (M:Hp),Zv H M->ls.length=j.length->(∀(i:Nat) l,ls[i]?=some l->H l=none/\∃bs,TupsAt M l bs (j.getD i []))->Q (ls.map V.ref) M)->Zh7 j H Q
 | [],H,Q,_,q=>q [] H (Zv.refl _) rfl fun i b hb=>by cases hb
 |J::r,H,Q,hl,q=>by
  have sz:(16777216:Nat)=sizeLine:=by decide
  obtain⟨h1,h2⟩:=hl J ax;refine JZ J H _ h2 fun bs H1 s1 hb hi=>⟨by rw[Za];omega,fun p Y=>VF r _ _ (fun y hy=>hl y (aq _ hy)) fun ls M s' m5 m6=>?_⟩;have s2:=s1.trans (Zv.upd (o:=.lst (bs.map V.ref)) Y);refine q (p::ls) M (s2.trans s') (by rw[Zi,Zi,m5]) fun i l O=>?_;cases i with
  |zero=>
   cases O;refine⟨s1.free Y,bs,TupsAt.mono s' ⟨Zt,hb,fun i b m8=>?_⟩⟩;exact Zv.upd (o:=.lst (bs.map V.ref)) Y _ _ (hi i b m8)
  |succ i=>
   obtain⟨h3,h4⟩:=m6 i l O;exact⟨s2.free h3,h4⟩
section
variable {X:Cx}
noncomputable def teT (x:List Nat):TE:=fun _ H Q=>iTu Q (x.map nV) H
theorem ZjM (x:List Nat){j:List Expr}{t:TA}{q}{pos:Pos}(h:PA X j t)(e:t=fun _ H Q=>Q (x.map nV) H):PE X (.Tuple j q pos) (teT x):=by
 subst e;exact ZdS h
noncomputable def taN (j:List (List Nat)):TA:=fun _ H Q=>ZcI j H Q
theorem ZjR:PA X [] (taN []):=Zu
theorem pan {e:Expr}{q:List Expr}{x:List Nat}{j:List (List Nat)}(h:PE X e (teT x))(r:PA X q (taN j))(J:Wo e=true:=by rfl):PA X (e::q) (taN (x::j)):=pc h r J
noncomputable def teL (j:List (List Nat)):TE:=fun _ H Q=>ZcI j H (iLs Q)
theorem ZjN {q:List Expr}{j:List (List Nat)}{pos:Pos}(h:PA X q (taN j)):PE X (.List q pos) (teL j):=ZQ h
noncomputable def taL (j:List (List (List Nat))):TA:=fun _ H Q=>Zh7 j H Q
theorem ZjS:PA X [] (taL []):=Zu
theorem pal {e:Expr}{J:List Expr}{q:List (List Nat)}{j:List (List (List Nat))}(h:PE X e (teL q))(r:PA X J (taL j))(M:Wo e=true:=by rfl):PA X (e::J) (taL (q::j)):=pc h r M
structure QE (X:Cx)(e:Expr)(t:TE):Prop where
 h:PE X e t
structure QA (X:Cx)(es:List Expr)(t:TA):Prop where
 h:PA X es t
structure QS (X:Cx)(st:Stmt)(t:TS):Prop where
 h:PS X st t
structure QSs (X:Cx)(sts:List Stmt)(t:TS):Prop where
 h:PSs X sts t
theorem qi {i:Int}{j}{pos:Pos}:QE X (.Constant (.int i) j pos) (tC (.int i)):=⟨Zx⟩
theorem ZU:QA X [] ZgQ:=⟨Zu⟩
theorem qa {e:Expr}{j:List Expr}{q:TE}{t:TA}(h:QE X e q)(r:QA X j t)(J:Wo e=true:=by rfl):QA X (e::j) (Ub q t):=⟨pc h.h r.h J⟩
theorem Ye (x:List Nat){j:List Expr}{t:TA}{q}{pos:Pos}(h:QA X j t)(e:t=fun _ H Q=>Q (x.map nV) H):QE X (.Tuple j q pos) (teT x):=⟨ZjM x h.h e⟩
theorem W6:QA X [] (taN []):=⟨ZjR⟩
theorem JV {e:Expr}{q:List Expr}{x:List Nat}{j:List (List Nat)}(h:QE X e (teT x))(r:QA X q (taN j))(J:Wo e=true:=by rfl):QA X (e::q) (taN (x::j)):=⟨pan h.h r.h J⟩
theorem VB {q:List Expr}{j:List (List Nat)}{pos:Pos}(h:QA X q (taN j)):QE X (.List q pos) (teL j):=⟨ZjN h.h⟩
theorem ZjD:QA X [] (taL []):=⟨ZjS⟩
theorem qal {e:Expr}{J:List Expr}{q:List (List Nat)}{j:List (List (List Nat))}(h:QE X e (teL q))(r:QA X J (taL j))(M:Wo e=true:=by rfl):QA X (e::J) (taL (q::j)):=⟨pal h.h r.h M⟩
theorem Zpy {j:List Expr}{t:TA}{pos:Pos}(h:QA X j t):QE X (.List j pos) (ZlR t):=⟨ZQ h.h⟩
theorem Zcv (i:Nat){x:Str}{e:Expr}{q:TE}{pos j:Pos}(J:X.fn x=true)(M:QE X e q)(O:X.N[i]?=some x:=by rfl)(Y:Jg X.N=true:=by kernel_rfl)(hx:Zaz X.env.scope x=true:=by kernel_rfl)
  (hs:swapsWith e (some (.Name x j)) pos.line X.env=pure false:=by rfl):QS X (.Assign [.Name x j] e pos) (Zdq q (Yg i)):=⟨ZE i J M.h O Y hx hs⟩
theorem JW {st:Stmt}{rest:List Stmt}{t u:TS}(j:QS X st t)(q:QSs X rest u):QSs X (st::rest) (ZlQ t u):=⟨Zs j.h q.h⟩
theorem XY {j:TE}{g:TG}{u:TS}{D:WO}{σ:L2.St}{H:Hp}(h:j σ H fun x q=>g x σ q (u D)):ZlQ (Zdq j g) u D σ H:=h
theorem ZgR (j:List (List (List Nat))){σ:L2.St}{H:Hp}{Q:VK}(O:∀M∈j,M.length<=1000/\∀x∈M,x.length<=1000)(hk:j.length<=1000)
  (q:∀(ls:List Addr) (J:Hp),Zv H J->ls.length=j.length->(∀(i:Nat) l,ls[i]?=some l->H l=none/\∃bs,TupsAt J l bs (j.getD i []))->∀S,J S=none->Q (.ref S) (upd J S (.lst (ls.map V.ref)))):ZlR (taL j) σ H Q:=by
 have sz:(16777216:Nat)=sizeLine:=by decide
 exact VF j H _ O fun ls J Y h1 h2=>⟨by rw[Za];omega,q ls J Y h1 h2⟩
theorem JR (j:List (List Nat)){σ:L2.St}{H:Hp}{Q:VK}(M:∀x∈j,x.length<=1000)(hk:j.length<=1000)
  (q:∀(bs:List Addr) (J:Hp),Zv H J->bs.length=j.length->(∀(i:Nat) b,bs[i]?=some b->J b=some (.tup ((j.getD i []).map nV)))->∀S,J S=none->Q (.ref S) (upd J S (.lst (bs.map V.ref)))):teL j σ H Q:=by
 have sz:(16777216:Nat)=sizeLine:=by decide
 exact JZ j H _ M fun bs J O Y h2=>⟨by rw[Za];omega,q bs J O Y h2⟩
end
noncomputable def CT (H:Hp)(c:Addr)(j:List (List Nat)):Prop:=∃rs:List Addr,H c=some (.tup (rs.map V.ref))/\rs.length=j.length/\∀(i:Nat) r,rs[i]?=some r->H r=some (.tup ((j.getD i []).map nV))
theorem CT.mono {H q:Hp}{c:Addr}{j:List (List Nat)}(s:Zv H q)(h:CT H c j):CT q c j:=by
 obtain⟨J,M,O,Y⟩:=h;exact⟨J,s _ _ M,O,fun i r hr=>s _ _ (Y i r hr)⟩
noncomputable def Yn (n:Nat)(f:Nat->Nat):List Nat:=(ac n).map f
theorem Zcr (n:Nat)(f:Nat->Nat):(Yn n f).length=n:=by unfold Yn;rw[Za,Zg]
theorem Zcq {n a k:Nat}(f:Nat->Nat)(j:a<n):((Yn n f).map nV).set a (nV k)=(Yn n fun b=>if b=a then k else f b).map nV:=by
 unfold Yn;refine bq fun i=>?_;rw[jc];by_cases q:i<n
 ·by_cases e:a=i
  ·subst e
   rw[if_pos rfl,if_pos (by rw[Za,Za,Zg];exact j),Zc,Zc,ao j];show some (nV k)=some (nV (if a=a then k else f a))
   rw[if_pos rfl]
  ·rw[if_neg e,Zc,Zc,ao q,Zc,Zc,ao q]
   show some (nV (f i))=some (nV (if i=a then k else f i))
   rw[if_neg (fun z=>e z.symm)]
 ·have J:a≠i:=by omega
  rw[if_neg J,ak (by rw[Za,Za,Zg];omega),ak (by rw[Za,Za,Zg];omega)]
theorem Wn {n:Nat}{f g:Nat->Nat}(h:∀a,a<n->f a=g a):Yn n f=Yn n g:=aX fun a j=>h a (ag.mp j)
theorem CT.row {H:Hp}{c:Addr}{j:List (List Nat)}(h:CT H c j):∃q:List Addr,H c=some (.tup (q.map V.ref))/\q.length=j.length/\∀(i:Nat) y,(q.map V.ref)[i]?=some y->∃r,y=.ref r/\i<j.length/\H r=some (.tup ((j.getD i []).map nV)):=by
 obtain⟨q,Y,O,h3⟩:=h;refine⟨q,Y,O,fun i y J=>?_⟩;rw[Zc] at J;cases M:q[i]? with
 |none=>rw[M] at J;cases J
 |some r=>
  rw[M] at J;cases J;exact⟨r,rfl,by rw[<-O];exact (ae.mp M).1,h3 i r M⟩
theorem Zez {j:List (List Nat)}{k:Nat}(q:k<j.length):j.getD k []∈j:=by
 rw[Zb,Zf q];exact bK q
theorem Zbf {n:Nat}{f:Nat->Nat}{a:Nat}(j:a<n):Vd ((Yn n f).map nV) (a:Int)=some (.int (f a:Nat)):=ZK (by
 unfold Yn;rw[Zc,Zc,ao j];rfl)
theorem tupK {X:Cx}(K:aa)(j:X.K=K:=by rfl):YN X (.type "tuple") (_root_.L2.I_call_tuple_of K):=j▸ZX
theorem Zct {m i:Nat}{a:Nat->Addr}(j:i<m):Vd ((ac m).map fun i=>V.ref (a i)) (i:Int)=some (.ref (a i)):=ZK (by rw[Zc,ao j];rfl)
theorem Zcs {m i:Nat}{a:Nat->Addr}{y:V}(h:((ac m).map fun i=>V.ref (a i))[i]?=some y):i<m/\y=.ref (a i):=by
 have j:i<m:=by
  have:=(ae.mp h).1;rw[Za,Zg] at this;exact this
 rw[Zc,ao j] at h;exact⟨j,(aA h).symm⟩
theorem Zia {m i:Nat}{f:Nat->Nat}(j:i<m):((Yn m f).map nV)[i]?=some (.int (f i:Nat)):=by
 unfold Yn;rw[Zc,Zc,ao j];rfl
theorem Zl3 (m:Nat):(YZ 0 m).map V.int=(ac m).map nV:=by
 unfold YZ;rw[aP];refine aX fun i _=>?_;show V.int (0+(i:Int))=nV i;rw[cG];rfl
theorem VU {m i:Nat}{y:V}(h:((YZ 0 m).map V.int)[i]?=some y):i<m/\y=.int (i:Nat):=by
 rw[Zl3] at h;have j:i<m:=by
  have:=(ae.mp h).1;rw[Za,Zg] at this;exact this
 rw[Zc,ao j] at h;exact⟨j,(aA h).symm⟩
end Pm
namespace C51
open PySem L2 PySem.Spec PyProof.Rows
open Tb Pm
noncomputable def top (i:Nat):Stmt:=e7.main.body.getD i (.Pass ⟨0,0,0,0⟩)
noncomputable abbrev Zli:Stmt:=top 31
noncomputable abbrev Zhk:Stmt:=top 32
structure BlB (mg:Str->Option Value):Prop where
 list:mg "list"=none
 len:mg "len"=none
 range:mg "range"=none
 tuple:mg "tuple"=none
 sorted:mg "sorted"=none
theorem neC {X:Cx}(K:aa)(j:X.A.units+64<cLine)(q:X.K=K:=by rfl):Ve X (compareOp .NotEq) (_root_.L2.I_op_neD K):=q▸Zml j
noncomputable def fdK (q:Addr)(a l:Int):List (YE×V):=[(.inr "cells",.ref q),(.inr "at",.int a),(.inr "left",.int l)]
noncomputable def Wi (H:Hp)(p q:Addr)(b:Nat):Prop:=∃(j:List Int) (a l:Int),H p=some (.dK (fdK q a l))/\H q=some (.lst (j.map V.int))/\j.length<=63/\0<=l/\0<=a/\a<=b
theorem Wi.mono {H j:Hp}{p q:Addr}{b:Nat}(s:Zv H j)(h:Wi H p q b):Wi j p q b:=by
 obtain⟨J,a,l,M,O,Y⟩:=h;exact⟨J,a,l,s _ _ M,s _ _ O,Y⟩
theorem Wi.le {H:Hp}{p q:Addr}{b j:Nat}(h:Wi H p q b)(hb:b<=j):Wi H p q j:=by
 obtain⟨J,a,l,M,O,Y,h4,h5,h6⟩:=h;exact⟨J,a,l,M,O,Y,h4,h5,by omega⟩
theorem ZkE {H:Hp}{p q:Addr}{a l:Int}(h:H p=some (.dK (fdK q a l))):Jk H p (.str "cells") (some (.ref q)):=Jk.k (k:=.inr "cells") h
theorem ZpO {H:Hp}{p q:Addr}{a l:Int}(h:H p=some (.dK (fdK q a l))):Jk H p (.str "at") (some (.int a)):=Jk.k (k:=.inr "at") h
theorem Zd2 {H:Hp}{p q:Addr}{a l:Int}(h:H p=some (.dK (fdK q a l))):Jk H p (.str "left") (some (.int l)):=Jk.k (k:=.inr "left") h
theorem ZpC {H:Hp}{p q:Addr}{a l j:Int}(h:H p=some (.dK (fdK q a l))):Vz H p (.str "at") (.int j) (upd H p (.dK (fdK q j l))):=Vz.k (k:=.inr "at") h (by rw[gf];show 3<_;omega)
theorem ZhO {H:Hp}{p q:Addr}{a l j:Int}(h:H p=some (.dK (fdK q a l))):Vz H p (.str "left") (.int j) (upd H p (.dK (fdK q a j))):=Vz.k (k:=.inr "left") h (by rw[gf];show 3<_;omega)
noncomputable def Tk (p:Addr)(H j:Hp):Prop:=∀b o,H b=some o->b≠p->j b=some o
theorem Tk.of {p:Addr}{H j:Hp}(s:Zv H j):Tk p H j:=fun b o e _=>s b o e
theorem Tk.trans {p:Addr}{H j q:Hp}(a:Tk p H j)(b:Tk p j q):Tk p H q:=fun c o e n=>b c o (a c o e n) n
theorem Wi.ne {H:Hp}{p q a:Addr}{b:Nat}{o:HO}(h:Wi H p q b)(e:H a=some o)(J:∀j,o≠.dK j):a≠p:=fun z=>by
 obtain⟨O,c,l,M,_⟩:=h;rw[z,M] at e;exact J _ (aA e).symm
theorem Wi.neN {H:Hp}{p q a:Addr}{b:Nat}(h:Wi H p q b)(e:H a=none):a≠p/\a≠q:=by
 obtain⟨M,c,l,j,J,_⟩:=h;exact⟨fun z=>(by rw[z,j] at e;cases e),fun z=>(by rw[z,J] at e;cases e)⟩
theorem Wi.put {H:Hp}{p q L:Addr}{b:Nat}{o:HO}(h:Wi H p q b)(j:L≠p)(J:L≠q):Wi (upd H L o) p q b:=by
 obtain⟨M,c,l,O,Y,h3⟩:=h;exact⟨M,c,l,by rw[Zz (bd j)];exact O,by rw[Zz (bd J)];exact Y,h3⟩
theorem Tk.tup {p q a:Addr}{H j:Hp}{b:Nat}{xs:List V}(d:Tk p H j)(T:Wi H p q b)(h:H a=some (.tup xs)):j a=some (.tup xs):=d a _ h (T.ne h fun _ z=>by cases z)
theorem Tk.lst {p q a:Addr}{H j:Hp}{b:Nat}{xs:List V}(d:Tk p H j)(T:Wi H p q b)(h:H a=some (.lst xs)):j a=some (.lst xs):=d a _ h (T.ne h fun _ z=>by cases z)
theorem GT.tk {H j:Hp}{p q g:Addr}{b:Nat}{t:List (List Nat)}(T:Wi H p q b)(d:Tk p H j)(G:GT H g t):GT j g t:=by
 obtain⟨M,O,Y,h3⟩:=G;refine⟨M,d.tup T O,Y,fun i r hr=>?_⟩;obtain⟨o,J,e2⟩:=h3 i r hr;exact⟨o,d _ _ J (T.ne J fun _ z=>by cases z),e2⟩
theorem Zg6 (ns:List Int):iZ (.list (ns.map be))=true:=by
 unfold iZ;have j:iq (.list (ns.map be))=true:=XJ ns;have q:fX (.list (ns.map be))<=60:=ZaD ns;simp only[j,Bool.true_and,Bool.and_true,decide_eq_true_eq];omega
inductive ZdC (K:aa) (vs:List V) (H:Hp) (Q:VK) (E03:XK):Prop
 |mk (a:Addr) (ns:List Int):(vs=[.ref a])->(W2 K H a (ns.map V.int))->(∀p q H',Zv H H'->H p=none->Wi H' p q 0->Q (.ref p) H')->ZdC K vs H Q E03
inductive Ui (vs:List V) (H:Hp) (Q:VK) (E03:XK):Prop
 |mk (p q:Addr) (m:Int) (b:Nat):(vs=[.ref p,.int m])->(Wi H p q b)->(b<2 ^ 60)->(0<m)->(m<1073741824)->(∀r H',0<=r->r<m->Tk p H H'->Wi H' p q (b+1)->Q (.int r) H')->Ui vs H Q E03
theorem ZiK (ns:List Int)(lo hi:Option Int):∃j:List Int,X6 (ns.map V.int) lo hi=j.map V.int/\(∀k:Nat,hi=some (k:Int)->j.length<=k):=by
 refine⟨(ns.drop (HT.U0 ns.length 0 lo)).take (HT.U0 ns.length ns.length hi-HT.U0 ns.length 0 lo),?_,fun k e=>?_⟩
 ·unfold X6;rw[Za,List.map_take,List.map_drop]
 ·subst e
  rw[bU,HT.Zbc];omega
section
variable {P:Program}{w:World}{K:aa}{mg:Str->Option Value}{base:Heap}
theorem Zj8 {f:Addr}{fd:FuncData}(F:WI K "_law_feed" "_law_feed" Zli f fd)(T:BlB mg):Ya P w K mg base Ym 1 f fd ["_law_script"] (ZdC K):=by
 refine F.ok (FS (N:=["_law_script"])) (fun vs H Q E h=>?_) (fun n6 A m5 s H vs Q E hr h=>?_)
 ·obtain⟨a,ns,rfl,_⟩:=h;rfl
 ·obtain⟨a,ns,rfl,hS,k⟩:=h
  refine⟨_,Zw (ZJ (ZjO (Ut WU (ct JI T.list (pc (Ux Zba (vn 0) Zbl (Zbk Zx)) Zu)) (Ut WU Zx (Ut WU Zx ZjI))) rfl rfl (by simp) (by decide))),?_⟩;intro p np;obtain⟨J,e,hl⟩:=ZiK ns none (some 63);have s0:=Zv.upd (H:=H) (o:=.dK []) np;refine⟨_,rfl,_,rfl,a,_,rfl,s0.seq hS,fun p1 h1=>⟨p1,_,rfl,.inl (.of Zt),fun q Y=>?_⟩⟩;rw[e] at Y ⊢;have O:upd H p (.dK []) p=some (.dK []):=Zt;generalize upd H p (.dK [])=H1 at s0 h1 Y O ⊢;have s1:=Zv.upd (H:=H1) (o:=.lst (J.map V.int)) h1;generalize upd H1 p1 (.lst (J.map V.int))=H2 at s1 Y ⊢;have s2:=Zv.upd (H:=H2) (o:=.lst (J.map V.int)) Y;have j:upd H2 q (.lst (J.map V.int)) q=some (.lst (J.map V.int)):=Zt;have M:=s2 _ _ (s1 _ _ O);generalize upd H2 q (.lst (J.map V.int))=H3 at s2 j M ⊢;have m6:q≠p:=fun z=>by rw[z,M] at j;cases j
  refine⟨M,fdK q 0 0,rfl,(by show 3<=15;decide),?_⟩;refine k p q _ (fun b o hb=>?_) np ⟨J,0,0,Zt,by rw[Zz m6];exact j,hl 63 rfl,by decide,by decide,by decide⟩;have m8:b≠p:=fun z=>by rw[z,np] at hb;cases hb
  rw[Zz m8];exact s2 _ _ (s1 _ _ (s0 _ _ hb))
theorem Zj9 {f:Addr}{fd:FuncData}(F:WI K "_law_draw" "_law_draw" Zhk f fd)(T:BlB mg):Ya P w K mg base Ym 1 f fd ["_law_feed_here", "_law_many"] Ui:=by
 refine F.ok (FS (N:=["_law_feed_here", "_law_many", "_law_found", "_law_at", "_law_cells", "_law_cell", "_law_number"])) (fun vs H Q E h=>?_) (fun n8 A n9 s H vs Q E hr h=>?_)
 ·obtain⟨p,q,m,b,rfl,_⟩:=h;rfl
 ·obtain⟨p,q,m,b,rfl,⟨M,a,l,h1,h2,O,l0,a0,ab⟩,hb,m0,m1,k⟩:=h
  have Y:(A.deeper (envOfC "_law_draw" (ZZ Zhk) s.heap.objs.size f n8)).units+1<cLine:=by have:=hr.un;omega
  refine⟨_,Zs (WF (ZS ZhP (WK Y (vn 0) WU (fun _ _=>rfl)) Zx (ZY _)) (Zs (ZE 2 rfl (Zy ZV (WK Y (vn 0) WU (fun _ _=>rfl)) (vn 1)))
   (Zs (Xe Y (vn 0) WU (Zy Y4 (WK Y (vn 0) WU (fun _ _=>rfl)) (vn 1)) (by rfl))
   (Zw (ZJ (vn 2))))) Yy)
   (Zs (ZE 3 rfl (WK Y (vn 0) WU (fun _ _=>rfl)))
   (Zs (Xe Y (vn 0) WU (Zy Yr (vn 3) Zx) (by rfl))
   (Zs (ZE 4 rfl (WK Y (vn 0) WU (fun _ _=>rfl)))
   (Zs (ZE 5 rfl (ZhJ (ZS (neC K hr.units) (vn 4) (ZQ Zu) (ZY _)) (ZF (Ji K) (vn 4) (Zy ZV (vn 3) (cb (Yx K) T.len (pc (vn 4) Zu))) (fun _ _=>rfl)) (Zy ZN (vn 3) (vn 3))))
   (Zs (WF (ZhD (ZS Zn5 (vn 5) (Zy Zmk Zx Zx) (ZY _)) (ZeK (ZS ZeM (vn 3) (cb (Yx K) T.len (pc (vn 4) Zu)) (ZY _)))).pt (Zs (Xe Y (vn 0) WU (Zy Y4 (vn 5) (vn 1)) (by rfl))
   (Zw (ZJ (Zy ZV (vn 5) (vn 1))))) Yy)
   (Zs (ZE 6 rfl (Zy ZV (Zy ZN (Zy Yr (Zy ZV (vn 5) Zx) Zx) (Zy Yr Zx (Zy ZN Zx (vn 3)))) Zx))
   (Zw (ZJ (Zy ZV (Zy Y4 (Zy ZV (Zy Yr (Zy ZN (vn 6) Zx) (Zy ZN (Zy ZN (vn 3) (vn 3)) Zx)) Zx) Zx) (vn 1)))))))))),?_⟩
  have m5:q≠p:=fun z=>by rw[z,h1] at h2;cases h2
  refine⟨_,rfl,p,_,rfl,Zd2 h1,_,_,rfl,rfl,_,rfl,?_⟩;refine YG (fun h=>?_) (fun h=>?_)
  ·refine⟨_,rfl,p,_,rfl,Zd2 h1,_,rfl,_,_,rfl,rfl,m0,?_⟩
   refine⟨_,rfl,p,_,rfl,Zd2 h1,_,rfl,_,_,rfl,rfl,⟨m0,m1⟩,_,rfl,p,_,rfl,ZhO h1,?_⟩;exact⟨_,rfl,k _ _ (cv _ (by omega)) (b8 _ m0) (fun b o e hb=>by rw[Zz hb];exact e) ⟨M,a,l / m,Zt,by rw[Zz m5];exact h2,O,f7 l0 (by omega),a0,by omega⟩⟩
  ·refine⟨_,rfl,p,_,rfl,ZpO h1,?_⟩
   refine⟨_,rfl,_,_,rfl,rfl,_,rfl,p,_,rfl,ZpC h1,?_⟩;have h3:upd H p (.dK (fdK q (a+1) l)) p=some (.dK (fdK q (a+1) l)):=Zt;have m6:upd H p (.dK (fdK q (a+1) l)) q=some (.lst (M.map V.int)):=by rw[Zz m5];exact h2
   have k3:Tk p H (upd H p (.dK (fdK q (a+1) l))):=fun b o e hb=>by rw[Zz hb];exact e
   generalize upd H p (.dK (fdK q (a+1) l))=H3 at h3 m6 k3 ⊢;refine⟨_,rfl,p,_,rfl,ZkE h3,?_⟩;refine⟨_,rfl,(by show 0<=sizeLine;decide),fun e0 o0=>?_⟩;have s4:=Zv.upd (H:=H3) (o:=.lst []) o0;have k4:=k3.trans (Tk.of s4);have h4:=s4 _ _ h3;have J:=s4 _ _ m6;have m8:upd H3 e0 (.lst []) e0=some (.lst []):=Zt;generalize upd H3 e0 (.lst [])=H4 at s4 k4 h4 J m8 ⊢;refine⟨_,_,.lst (.of J) (W3.ints M),.lst (.of m8) .nil,Zg6 M,rfl,_,rfl,?_⟩;have len:(M.map V.int).length=M.length:=eV ..;have T4:∀l',0<=l'->Wi (upd H4 p (.dK (fdK q (a+1) l'))) p q (b+1):=fun l' o5=>⟨M,a+1,l',Zt,by rw[Zz m5];exact J,O,o5,by omega,by omega⟩;refine YG (fun n6=>?ca) (fun n6=>?cb)
   case' ca=>
    have hn:(0:Int)<M.length:=by
     cases M with
     |nil=>exact absurd n6 (by decide)
     |cons x r=>simp only[Zi];omega
    have r0:=cv a (show (M.length:Int)≠0 by omega);have r1:=b8 a hn;obtain⟨j,ej⟩:=bY r0;have hj:j<M.length:=by omega
    refine⟨_,rfl,_,rfl,_,rfl,q,_,rfl,.inl (.of J),?_⟩;rw[len];refine⟨_,_,rfl,rfl,hn,?_⟩
    try dsimp only
    rw[ej];refine⟨q,_,_,_,rfl,rfl,.of J,ZK (j:=j) (by rw[Zc,Zf hj];rfl),?_⟩;generalize M[j]=c
   case' cb=>
    refine⟨_,rfl,_,rfl,_,_,rfl,rfl,.inr ⟨by omega,by omega⟩,?_⟩
    try dsimp only
    generalize a*a=c
   all_goals
    refine⟨_,rfl,_,_,rfl,rfl,⟨by decide,by decide,by decide⟩,_,_,rfl,rfl,_,rfl,?_⟩;refine YG (fun hA=>?_) (fun hA=>?_)
    ·refine⟨_,rfl,_,rfl,q,_,rfl,.inl (.of J),?_⟩
     rw[len];refine⟨_,_,rfl,rfl,_,rfl,?_⟩;refine YG (fun hB=>?_) (fun hB=>?_)
     ·have hc:0<=c:=by
       have:=of_decide_eq_true hA;have o6:(10:Int) ^ (18:Int).toNat=1000000000000000000:=by decide
       omega
      refine⟨_,rfl,_,rfl,_,_,rfl,rfl,⟨m0,m1⟩,_,rfl,p,_,rfl,ZhO h4,?_⟩;refine⟨_,rfl,_,rfl,_,_,rfl,rfl,m0,?_⟩;exact k _ _ (cv _ (by omega)) (b8 _ m0) (k4.trans fun b o e hb=>by rw[Zz hb];exact e) (T4 _ (f7 hc (by omega)))
     ·refine⟨_,rfl,_,_,rfl,rfl,(by show (0:Int)<_;decide),_,_,rfl,rfl,_,rfl,_,_,rfl,rfl,.inl ⟨by decide,by decide⟩,_,_,rfl,rfl,_,_,rfl,rfl,.inl ⟨by have:=cv c (show (2147483629:Int)≠0 by decide);omega,by have:=b8 c (show (0:Int)<2147483629 by decide);omega⟩,_,_,rfl,rfl,(by show (0:Int)<_;decide),?_⟩
      refine⟨_,rfl,_,_,rfl,rfl,.inr ⟨by decide,by decide⟩,_,rfl,_,rfl,_,_,rfl,rfl,.inr ⟨by omega,by omega⟩,_,_,rfl,rfl,.inr ⟨by decide,by decide⟩,_,_,rfl,rfl,_,_,rfl,rfl,(by show (0:Int)<_;decide),_,_,rfl,rfl,⟨by decide,by decide⟩,_,rfl,_,_,rfl,rfl,m0,?_⟩;exact k _ _ (cv _ (by omega)) (b8 _ m0) k4 ⟨M,a+1,l,h4,J,O,l0,by omega,by omega⟩
    ·refine⟨_,rfl,_,_,rfl,rfl,(by show (0:Int)<_;decide),_,_,rfl,rfl,_,rfl,_,_,rfl,rfl,.inl ⟨by decide,by decide⟩,_,_,rfl,rfl,_,_,rfl,rfl,.inl ⟨by have:=cv c (show (2147483629:Int)≠0 by decide);omega,by have:=b8 c (show (0:Int)<2147483629 by decide);omega⟩,_,_,rfl,rfl,(by show (0:Int)<_;decide),?_⟩
     refine⟨_,rfl,_,_,rfl,rfl,.inr ⟨by decide,by decide⟩,_,rfl,_,rfl,_,_,rfl,rfl,.inr ⟨by omega,by omega⟩,_,_,rfl,rfl,.inr ⟨by decide,by decide⟩,_,_,rfl,rfl,_,_,rfl,rfl,(by show (0:Int)<_;decide),_,_,rfl,rfl,⟨by decide,by decide⟩,_,rfl,_,_,rfl,rfl,m0,?_⟩;exact k _ _ (cv _ (by omega)) (b8 _ m0) k4 ⟨M,a+1,l,h4,J,O,l0,by omega,by omega⟩
end
end C51
namespace Pm
open PySem L2 PySem.Spec PyProof.Rows
open Tb
theorem Wg {W:Type}(m8:W->Addr)(Pr:Nat->W->Hp->Prop)(Y:W->Hp->Prop){J:It}{own:List Str}{m6:List Nat}{te:TE}{σ:L2.St}{H:Hp}{Q:VK}{xs:List V}(S:WB J H xs)(cs:L2.St)(n9:JP own m6 σ=none::cs)(hn:xs.length<=1000)
  (mono:∀i w H q,Zv H q->Pr i w H->Pr i w q) (n8:∀w H q,Zv H q->Y w q->Y w H) (hu:∀i w H0 H1 D o ys o0,Pr i w H1->Y w H0->H0 D=some (.lst o)->H1 D=some (.lst ys)->Pr i w (upd H1 D (.lst o0)))
  (hs:∀(i:Nat) y,xs[i]?=some y->∀q,Zv H q->∀R:VK,(∀w H5,Zv q H5->Pr i w H5->Y w q->R (.ref (m8 w)) H5)->te (some y::cs) q R)
  (hd:∀D (M:List W) q,H D=none->Zv H q->q D=some (.lst (M.map fun w=>V.ref (m8 w)))->M.length=xs.length->(∀(i:Nat) w,M[i]?=some w->Pr i w q/\Y w H)->(∀(i j:Nat) w w',i<j->M[i]?=some w->M[j]?=some w'->∃Hm,Pr i w Hm/\Y w' Hm)->Q (.ref D) q):W1 own m6 (Yg 0) WE te σ Q J H:=by
 refine UO (xs:=xs) (fun D i ys q=>Zv H q/\∃M:List W,ys=M.map (fun w=>V.ref (m8 w))/\M.length=i/\(∀(i:Nat) w,M[i]?=some w->Pr i w q/\Y w H/\∃H0 o,H0 D=some (.lst o)/\Y w H0)/\(∀(i j:Nat) w w',i<j->M[i]?=some w->M[j]?=some w'->∃Hm,Pr i w Hm/\Y w' Hm)) cs n9 (by omega) ?_ ?_ ?_ ?_
 ·intro D i ys q hD O p
  have S':=S.mono p.1;exact⟨fun hi=>⟨S'.go i q (Zv.refl _) hi,fun x H3 y=>S'.yld i q x H3 (Zv.refl _) hi y⟩,fun e=>e▸S'.stop q (Zv.refl _)⟩
 ·intro D hD
  exact⟨Zv.upd hD,[],rfl,rfl,(fun i w hw=>by cases hw),(fun i j w w' _ h=>by cases h)⟩
 ·rintro D i y ys q hD O hy ⟨sm,M,rfl,wl,hw,hp⟩ R k
  refine hs i y hy q sm R fun w H5 s5 p5 n5=>?_;have n6:=s5 _ _ O;have lst:∀(b:Nat) v,(M++[w])[b]?=some v->(b<M.length/\M[b]?=some v)\/(b=M.length/\v=w):=fun b v hb=>by
   by_cases m5:b<M.length
   ·rw[au m5] at hb
    exact .inl ⟨m5,hb⟩
   ·rw[aw (by omega)] at hb
    have o5:b-M.length=0:=by
     apply ah;intro z;rw[ak (by rw[Zk];omega)] at hb;cases hb
    rw[o5] at hb;cases hb;exact .inr ⟨by omega,rfl⟩
  refine k _ H5 n6 ⟨(sm.trans s5).updr hD,M++[w],by rw[aR];rfl,by rw[Zd,wl];rfl,fun b v hv=>?_,fun a b v v' o6 ha hb=>?_⟩
  ·rcases lst b v hv with ⟨_,hv⟩|⟨hb,hv⟩
   ·obtain⟨h1,h2,H0,o,h3,h4⟩:=hw b v hv
    exact⟨hu b v H0 H5 D o _ _ (mono b v _ _ s5 h1) h4 h3 n6,h2,H0,o,h3,h4⟩
   ·subst hv
    subst hb;rw[<-wl] at p5;exact⟨hu _ v q H5 D _ _ _ p5 n5 O n6,n8 v _ _ sm n5,q,_,O,n5⟩
  ·rcases lst b v' hb with ⟨m5,hb⟩|⟨m5,hb⟩
   ·rw[au (by omega)] at ha
    exact hp a b v v' o6 ha hb
   ·subst hb
    rw[au (by omega)] at ha;exact⟨q,(hw a v ha).1,n5⟩
 ·rintro D ys H5 hD O o7 ⟨sm,M,rfl,wl,hw,hp⟩
  exact hd D M H5 hD sm O wl (fun i w h=>⟨(hw i w h).1,(hw i w h).2.1⟩) hp
theorem WZ {J:It}{own:List Str}{M:List Nat}{te:TE}{σ:L2.St}{H:Hp}{Q:VK}{xs:List V}(S:WB J H xs)(cs:L2.St)(m5:JP own M σ=none::cs)(F:Nat->V)(hz:xs.length<=1000)
  (hs:∀(i:Nat) y,xs[i]?=some y->∀j,Zv H j->∀R:VK,(∀O,Zv j O->R (F i) O)->te (some y::cs) j R)
  (hd:∀D j,H D=none->Zv H j->j D=some (.lst ((ac xs.length).map F))->Q (.ref D) j):W1 own M (Yg 0) WE te σ Q J H:=by
 refine UO (xs:=xs) (fun D i ys j=>Zv H j/\ys=(ac i).map F) cs m5 (by omega) ?_ ?_ ?_ ?_
 ·intro D i ys j Y q p
  have S':=S.mono p.1;exact⟨fun hi=>⟨S'.go i j (Zv.refl _) hi,fun x H3 y=>S'.yld i j x H3 (Zv.refl _) hi y⟩,fun e=>e▸S'.stop j (Zv.refl _)⟩
 ·intro D Y
  exact⟨Zv.upd Y,rfl⟩
 ·rintro D i y ys j Y q hy ⟨sm,rfl⟩ R k
  refine hs i y hy j sm R fun O s5=>k _ O (s5 _ _ q) ⟨(sm.trans s5).updr Y,?_⟩;rw[cm,aR];rfl
 ·rintro D ys O Y q m6 ⟨sm,rfl⟩
  exact hd D O Y sm q
theorem ZgL {X:Cx}(K:aa)(j:X.K=K:=by rfl):YN X (.type "tuple") (_root_.L2.I_call_tupleZ K):=j▸Zc9
theorem Tz.updL {H:Hp}{a D:Addr}{ys q:List V}{o:HO}(h:Tz H a ys)(J:H D=some (.lst q)):Tz (upd H D o) a ys:=by
 obtain⟨u,j,M⟩:=h;exact⟨u,by rw[Zz (fun z=>by rw[z,J] at j;cases j)];exact j,M⟩
noncomputable def XF (y:List Nat):List YE:=y.map fun x:Nat=>ic (x:Int)
theorem Zii (y:List Nat):(XF y).map kV=y.map nV:=by
 unfold XF;rw[aP];rfl
theorem ZcQ {a b:List Nat}(h:XF a=XF b):a=b:=by
 unfold XF at h;refine (iS (fun x y e=>?_)).mp h;injection e with e;omega
section
variable {fd:List (List Nat)}{os:List Nat}
theorem ZiA (J:fd.Nodup){a b:Nat}(j:a<fd.length)(hb:b<fd.length)(h:fd.getD a []=fd.getD b []):a=b:=by
 have q:=getL j;have M:=getL hb;rw[h,<-M] at q;exact (mG j J).mp q
end
end Pm
namespace Tb
noncomputable def trn (m r:Nat):Nat->Nat
 |0=>1
 |s+1=>trn m r s*r % m
theorem ZgM {m:Nat}(j:m<=60)(q:1<=m)(r:Nat):∀s,trn m r s<=60
 |0=>by show 1<=60;omega
 |s+1=>by
  have:=ba (trn m r s*r) (show 0<m by omega);rw[trn];omega
noncomputable def twV (m k r c a b:Nat):Nat:=(a / k+trn m r (a % k)*(b / k)+c*((a % k+b % k) / k)) % m*k+(a % k+b % k) % k
noncomputable def twT (m k r c:Nat):List (List Nat):=(ac (m*k)).map fun a=>(ac (m*k)).map fun b=>twV m k r c a b
end Tb
namespace C51
open PySem L2 PySem.Spec PyProof.Rows
open Tb Pm
noncomputable abbrev Zg9:Stmt:=top 33
inductive ZaQ (vs:List V) (H:Hp) (Q:VK) (E03:XK):Prop
 |mk (m k r c:Nat):(vs=[.int m,.int k,.int r,.int c])->(1<=m)->(1<=k)->(m<=60)->(k<=60)->(m*k<=60)->(r<=60)->(c<=60)->(∀g H',Zv H H'->GT H' g (twT m k r c)->Q (.ref g) H')->ZaQ vs H Q E03
theorem Zks (f:Nat->V)(s:Nat):Vd ((ac (s+1)).map f) (-1)=some (f s):=by
 rw[cm,aR];exact UY _ _
section
variable {P:Program}{w:World}{K:aa}{mg:Str->Option Value}{base:Heap}
theorem ZhT {f:Addr}{fd:FuncData}(F:WI K "_law_twisted" "_law_twisted" Zg9 f fd)(T:BlB mg):Ya P w K mg base Ym 1 f fd ["_law_m", "_law_k", "_law_r", "_law_c"] ZaQ:=by
 refine F.ok (FS (N:=["_law_m", "_law_k", "_law_r", "_law_c", "_law_turns", "_law_s", "_law_rows", "_law_a", "_law_i", "_law_line", "_law_b", "_law_t", "_law_first"])) (fun vs H Q E h=>?_) (fun p4 A o8 s H vs Q E hr h=>?_)
 ·obtain⟨m,k,r,c,rfl,_⟩:=h;rfl
 ·obtain⟨m,k,r,c,rfl,m1,k1,n8,p6,p3,p7,p8,q⟩:=h
  refine⟨_,Zs (ZE 4 rfl (ZQ (pc Zx Zu)))
   (Zs (ZM am rfl (JA T.range (pc (vn 1) Zu)) (gn 5)
   (Zw (Yu (Wj aK aQ aT Z7 (vn 4) (pc (Zy ZV (Zy ZN (ZF (Ji K) (vn 4) (X1 Jy Zx) (fun _ _=>rfl)) (vn 2)) (vn 0)) Zu)))))
   (Zs (ZE 6 rfl (ZQ Zu))
   (Zs (ZM am rfl (JA T.range (pc (Zy ZN (vn 0) (vn 1)) Zu)) (gn 7)
   (Zs (ZE 8 rfl (Zy Y4 (vn 7) (vn 1)))
   (Zs (ZE 5 rfl (Zy ZV (vn 7) (vn 1)))
   (Zs (ZE 9 rfl (ZQ Zu))
   (Zs (ZM am rfl (JA T.range (pc (Zy ZN (vn 0) (vn 1)) Zu)) (gn 10)
   (Zs (ZE 11 rfl (Zy Yr (vn 5) (Zy ZV (vn 10) (vn 1))))
   (Zs (ZE 12 rfl (Zy Yr (Zy Yr (vn 8) (Zy ZN (ZF (Ji K) (vn 4) (vn 5) (fun _ _=>rfl)) (Zy Y4 (vn 10) (vn 1)))) (Zy ZN (vn 3) (Zy Y4 (vn 11) (vn 1)))))
   (Zw (Yu (Wj aK aQ aT Z7 (vn 9) (pc (Zy Yr (Zy ZN (Zy ZV (vn 12) (vn 0)) (vn 1)) (Zy ZV (vn 11) (vn 1))) Zu)))))))
   (Zw (Yu (Wj aK aQ aT Z7 (vn 6) (pc (ct (ZgL K) T.tuple (pc (vn 9) Zu)) Zu)))))))))
   (Zw (ZJ (ct ZX T.tuple (pc (vn 6) Zu))))))),?_⟩
  have sz:(16777216:Nat)=sizeLine:=by decide
  refine⟨(by show 1<=sizeLine;decide),fun Lt n9=>?_⟩;have s1:=Zv.upd (H:=H) (o:=.lst [.int 1]) n9;have h1:upd H Lt (.lst [.int 1]) Lt=some (.lst ((ac (0+1)).map fun i=>V.int ((trn m r i:Nat):Int))):=Zt;generalize upd H Lt (.lst [.int 1])=H1 at s1 h1 ⊢;refine⟨_,rfl,_,rfl,by omega,by omega,?_⟩;rw[Zj];refine Z8 (fun i J H'=>∃v5 v6 v7 v8 v9 M O Y:Option V,J=[some (.int (m:Nat)),some (.int (k:Nat)),some (.int (r:Nat)),some (.int (c:Nat)),some (.ref Lt),v5,v6,v7,v8,v9,M,O,Y]/\Zv H H'/\H' Lt=some (.lst ((ac (i+1)).map fun i=>V.int ((trn m r i:Nat):Int)))) ⟨_,_,_,_,_,_,_,_,rfl,s1,h1⟩ ?_ ?_
  ·rintro i J H2 hi ⟨v5,v6,v7,v8,v9,M,O,Y,rfl,s2,h2⟩
   have tl:=ZgM n8 m1 r i;refine⟨_,rfl,.inl ⟨rfl,_,.of h2⟩,_,rfl,_,rfl,Lt,_,_,_,rfl,rfl,.of h2,Zks _ i,_,rfl,_,_,rfl,rfl,.inr ⟨by omega,by omega⟩,_,rfl,_,_,rfl,rfl,(by show (0:Int)<(m:Int);omega),Lt,_,_,rfl,rfl,h2,by rw[Za,Zg];omega,?_⟩;refine⟨_,_,_,_,_,_,_,_,rfl,s2.updr n9,?_⟩;rw[Zt,cm (n:=i+1),aR];rfl
  ·rintro J H2 ⟨v5,v6,v7,v8,v9,M,O,Y,rfl,s2,h2⟩
   refine⟨(by show 0<=sizeLine;decide),fun Lr m5=>?_⟩;have s3:=s2.trans (Zv.upd (H:=H2) (o:=.lst []) m5);have h3:upd H2 Lr (.lst []) Lr=some (.lst ([]:List V)):=Zt;have o0:=(Zv.upd (H:=H2) (o:=.lst []) m5) _ _ h2;have o5:H Lr=none:=s2.free m5;have o6:Lt≠Lr:=fun z=>by rw[z,m5] at h2;cases h2
   generalize upd H2 Lr (.lst [])=H3 at s3 h3 o0 ⊢;refine⟨_,rfl,_,rfl,_,_,rfl,rfl,.inr ⟨by omega,by omega⟩,_,rfl,?_,?_,?_⟩
   ·rw[<-aF];omega
   ·rw[<-aF];omega
   rw[<-aF,Zj];refine Z8 (fun a J H'=>∃(rs:List Addr) (v5 v7 v8 v9 M O Y:Option V),J=[some (.int (m:Nat)),some (.int (k:Nat)),some (.int (r:Nat)),some (.int (c:Nat)),some (.ref Lt),v5,some (.ref Lr),v7,v8,v9,M,O,Y]/\Zv H H'/\H' Lt=some (.lst ((ac (k+1)).map fun i=>V.int ((trn m r i:Nat):Int)))/\H' Lr=some (.lst (rs.map V.ref))/\rs.length=a/\∀(i:Nat) x,rs[i]?=some x->Tz H' x (((ac (m*k)).map fun b=>twV m k r c i b).map nV)) ⟨[],_,_,_,_,_,_,_,rfl,s3,o0,h3,rfl,fun i x h=>by cases h⟩ ?_ ?_
   ·rintro a J H4 ha ⟨rs,v5,v7,v8,v9,M,O,Y,rfl,s4,m8,h4,rl,n6⟩
    rw[show (0:Int)+(a:Int)=(a:Int) by omega];refine⟨_,rfl,_,rfl,_,_,rfl,rfl,⟨by omega,by omega⟩,?_⟩;refine⟨_,rfl,_,rfl,_,_,rfl,rfl,(by show (0:Int)<(k:Int);omega),?_⟩;refine⟨(by show 0<=sizeLine;decide),fun Ln o7=>?_⟩;have s5:=Zv.upd (H:=H4) (o:=.lst []) o7;have h5:upd H4 Ln (.lst []) Ln=some (.lst ((ac 0).map fun b=>nV (twV m k r c a b))):=Zt;generalize upd H4 Ln (.lst [])=H5 at s5 h5 ⊢;refine⟨_,rfl,_,rfl,_,_,rfl,rfl,.inr ⟨by omega,by omega⟩,_,rfl,?_,?_,?_⟩
    ·rw[<-aF];omega
    ·rw[<-aF];omega
    rw[<-aF,Zj];have ed:(a:Int) / (k:Int)=((a / k:Nat):Int):=(eK a k).symm;have em:(a:Int) % (k:Int)=((a % k:Nat):Int):=(aZ a k).symm;refine Z8 (fun b J H'=>∃(M O Y:Option V),J=[some (.int (m:Nat)),some (.int (k:Nat)),some (.int (r:Nat)),some (.int (c:Nat)),some (.ref Lt),some (.int ((a % k:Nat):Int)),some (.ref Lr),some (.int (a:Nat)),some (.int ((a / k:Nat):Int)),some (.ref Ln),M,O,Y]/\Zv H4 H'/\H' Ln=some (.lst ((ac b).map fun b=>nV (twV m k r c a b)))) ⟨_,_,_,by rw[<-ed,<-em];rfl,s5,h5⟩ ?_ ?_
    ·rintro b J H6 hb ⟨M,O,Y,rfl,s6,h6⟩
     rw[show (0:Int)+(b:Int)=(b:Int) by omega];have q0:a % k<k:=ba _ (by omega);have tl:=ZgM n8 m1 r (a % k);have bk:b / k<=60:=bm (f6 _ _) (by omega);have tk:(a % k+b % k) / k<=120:=by
      have:=ba b (show 0<k by omega);exact bm (f6 _ _) (by omega)
     refine⟨_,rfl,_,rfl,_,rfl,_,_,rfl,rfl,(by show (0:Int)<(k:Int);omega),_,_,rfl,rfl,?_⟩
     try dsimp only
     rw[<-aZ,<-dM];refine⟨_,rfl,_,rfl,_,rfl,Lt,_,_,_,rfl,rfl,.of (s6 _ _ m8),ZK (j:=a % k) (by rw[Zc,ao (by omega)];rfl),_,rfl,_,rfl,_,_,rfl,rfl,⟨by omega,by omega⟩,?_⟩
     try dsimp only
     rw[<-eK];refine⟨_,_,rfl,rfl,.inr ⟨mH (by decide) (dE _),mI (Int.ofNat_le.mpr bk) (by decide)⟩,_,_,rfl,rfl,_,rfl,_,rfl,_,rfl,_,_,rfl,rfl,⟨by omega,by omega⟩,?_⟩
     try dsimp only
     rw[<-eK];refine⟨_,_,rfl,rfl,.inr ⟨mH (by decide) (dE _),mI (Int.ofNat_le.mpr tk) (by decide)⟩,_,_,rfl,rfl,?_⟩
     try dsimp only
     rw[<-aF,<-aF,<-dM,<-dM];refine⟨_,rfl,.inl ⟨rfl,_,.of h6⟩,_,rfl,_,rfl,_,_,rfl,rfl,(by show (0:Int)<(m:Int);omega),_,rfl,_,_,rfl,rfl,.inr ⟨by omega,by omega⟩,_,rfl,_,rfl,_,_,rfl,rfl,(by show (0:Int)<(k:Int);omega),_,_,rfl,rfl,Ln,_,_,rfl,rfl,h6,by rw[Za,Zg];omega,?_⟩;refine⟨_,_,_,rfl,s6.updr o7,?_⟩;rw[Zt,cm,aR]
     try dsimp only
     rw[<-aZ,<-aF,<-aZ,<-dM];rfl
    ·rintro J H6 ⟨M,O,Y,rfl,s6,h6⟩
     have o9:=s6 _ _ h4;refine⟨_,rfl,.inl ⟨rfl,_,.of o9⟩,_,rfl,Ln,_,rfl,.of h6,fun l H7 nl s7 hz=>?_⟩;have m6:=s6.trans s7;have h7:=m6 _ _ h4;refine⟨Lr,_,_,rfl,rfl,h7,by rw[Za,rl];omega,?_⟩;have ez:((ac (m*k)).map fun b=>nV (twV m k r c a b))=((ac (m*k)).map fun b=>twV m k r c a b).map nV:=by rw[aP];rfl
     rw[ez] at hz;refine⟨rs++[l],_,_,_,_,_,_,_,rfl,(s4.trans m6).updr o5,by rw[Zz o6];exact m6 _ _ m8,by rw[Zt,aR];rfl,by rw[Zd,rl];rfl,fun i x hx=>?_⟩;by_cases hi:i<rs.length
     ·rw[au hi] at hx
      exact Tz.updL ((n6 i x hx).mono m6) h7
     ·have hl:=(ae.mp hx).1
      rw[Zd,Zk] at hl;have ei:i=rs.length:=by omega
      rw[aw (by omega),ei,cD] at hx;cases hx;rw[ei,rl];exact Tz.updL hz h7
   ·rintro J H4 ⟨rs,v5,v7,v8,v9,M,O,Y,rfl,s4,m8,h4,rl,n6⟩
    refine⟨_,rfl,Lr,_,rfl,.inl ⟨.of h4,fun g ng=>?_⟩⟩;have s5:=Zv.upd (H:=H4) (o:=.tup (rs.map V.ref)) ng;refine q g _ (s4.trans s5) ⟨rs,Zt,by unfold twT;rw[Za,Zg,rl],fun i x hx=>?_⟩;have hi:i<m*k:=by rw[<-rl];exact (ae.mp hx).1
    have er:(twT m k r c).getD i []=(ac (m*k)).map fun b=>twV m k r c i b:=by unfold twT;rw[Zb,Zc,ao hi];rfl
    rw[er];exact (n6 i x hx).mono s5
end
end C51
namespace PyZ
open PySem PyProof PyProof.Rows
noncomputable def Runs (n:Nat)(cmp:Nat->Nat->Bool){α:Type}:jL α->(α->Prop)->Prop
 | .ret a,Q=>Q a
 | .ask i j k,Q=>i<n/\j<n/\Runs n cmp (k (cmp i j)) Q
theorem Runs.run {n:Nat}{cmp:Nat->Nat->Bool}{α:Type}{Q:α->Prop}:∀{t:jL α},Runs n cmp t Q->∃a,Xz n cmp t=some a/\Q a
 | .ret a,h=>⟨a,rfl,h⟩
 | .ask i j k,h=>by
  obtain⟨J,M,O⟩:=h;obtain⟨a,e,q⟩:=O.run;exact⟨a,by rw[Xz,if_pos ⟨J,M⟩];exact e,q⟩
theorem Runs.bind {n:Nat}{cmp:Nat->Nat->Bool}{α q:Type}{f:α->jL q}{Q:q->Prop}:∀{t:jL α},Runs n cmp t (fun a=>Runs n cmp (f a) Q)->Runs n cmp (t.bind f) Q
 | .ret a,h=>h
 | .ask i j k,h=>⟨h.1,h.2.1,h.2.2.bind⟩
theorem Runs.mono {n:Nat}{cmp:Nat->Nat->Bool}{α:Type}{Q q:α->Prop}(J:∀a,Q a->q a):∀{t:jL α},Runs n cmp t Q->Runs n cmp t q
 | .ret a,h=>J a h
 | .ask i j k,h=>⟨h.1,h.2.1,h.2.2.mono J⟩
section
variable {n:Nat}{rank:Nat->Nat}
noncomputable abbrev WM (rank:Nat->Nat):Nat->Nat->Bool:=fun i j=>decide (rank i<rank j)
noncomputable def RK (rank:Nat->Nat)(p:Array Nat)(i:Nat):Nat:=rank (p.getD i 0)
structure UZ (n:Nat)(p:Array Nat):Prop where
 pm:p.Perm (ac n).toArray
theorem UZ.size {p:Array Nat}(h:UZ n p):p.size=n:=by
 have:=h.pm.size_eq;simpa using this
theorem UZ.lt {p:Array Nat}(h:UZ n p){i:Nat}(hi:i<n):p.getD i 0<n:=by
 have j:=h.size;have q:p.toList.Perm (ac n):=by have:=h.pm;rw[jP] at this;simpa using this
 have e:p.getD i 0=p[i]'(by omega):=by simp[lX,j,hi]
 rw[e];have J:p[i]'(by omega)∈p.toList:=by simp
 exact ag.mp (q.mem_iff.mp J)
theorem Xb {p q:Array Nat}{i j:Nat}(h:p[i]?=q[j]?):RK rank p i=RK rank q j:=by
 unfold RK;rw[cJ,cJ,h]
theorem Zgu {xs:Array Nat}{src d:Nat}(J:src<xs.size)(M:d<=src)(k:Nat) :
  RK rank (bubble xs src d) k=if k=src-d then RK rank xs src else if src-d<k/\k<=src then RK rank xs (k-1) else RK rank xs k:=by
 have e:=getElem?_bubble J d M k;by_cases j:k=src-d
 ·rw[if_pos j] at e ⊢;exact Xb e
 ·rw[if_neg j] at e ⊢
  by_cases q:src-d<k/\k<=src
  ·rw[if_pos q] at e ⊢;exact Xb e
  ·rw[if_neg q] at e ⊢;exact Xb e
theorem Zef {xs:Array Nat}{i j:Nat}(J:j<=xs.size)(k:Nat):RK rank (ff xs i j) k=if i<=k/\k<j then RK rank xs (i+j-1-k) else RK rank xs k:=by
 have e:=getElem?_mirror_all (i:=i) J k;unfold ff;by_cases q:i<=k/\k<j
 ·rw[if_pos q] at e ⊢;exact Xb e
 ·rw[if_neg q] at e ⊢;exact Xb e
theorem Vy {xs:Array Nat}{i j:Nat}(q:j<=xs.size)(heq:∀k,i<=k->k<j->RK rank xs k=RK rank xs (j-1))(k:Nat):RK rank (ff xs i j) k=RK rank xs k:=by
 rw[Zef q];split
 ·rw[heq _ (by omega) (by omega),heq k (by omega) (by omega)]
 ·rfl
theorem UZ.rev {p:Array Nat}(h:UZ n p)(i j:Nat):UZ n (ff p i j):=⟨(mirror_perm p i j _).trans h.pm⟩
theorem UZ.bub {p:Array Nat}(h:UZ n p)(k d:Nat):UZ n (bubble p k d):=⟨(bubble_perm p k d).trans h.pm⟩
noncomputable def Up (rank:Nat->Nat)(p:Array Nat)(k:Nat):Prop:=∀i j,i<=j->j<k->RK rank p i<=RK rank p j
noncomputable def Dn (rank:Nat->Nat)(p:Array Nat)(k:Nat):Prop:=∀i j,i<=j->j<k->RK rank p j<=RK rank p i
theorem Up.snoc {p:Array Nat}{k:Nat}(O:1<=k)(h:Up rank p k)(J:RK rank p (k-1)<=RK rank p k):Up rank p (k+1):=fun i j q Y=>by
 by_cases e:j=k
 ·subst e
  by_cases M:i=j
  ·rw[M];exact Zq _
  ·exact bm (h i (j-1) (by omega) (by omega)) J
 ·exact h i j q (by omega)
theorem Dn.snoc {p:Array Nat}{k:Nat}(O:1<=k)(h:Dn rank p k)(J:RK rank p k<=RK rank p (k-1)):Dn rank p (k+1):=fun i j q Y=>by
 by_cases e:j=k
 ·subst e
  by_cases M:i=j
  ·rw[M];exact Zq _
  ·exact bm J (h i (j-1) (by omega) (by omega))
 ·exact h i j q (by omega)
theorem Zed {p:Array Nat}(q:UZ n p):∀(f k:Nat),1<=k->k+f<=n->Up rank p k->Runs n (WM rank) (W.kas_asc p f k) fun m=>k<=m/\m<=k+f/\Up rank p m/\(m<k+f->RK rank p m<RK rank p (m-1))
 |0,k,J,M,j=>⟨Zq _,Zq _,j,fun z=>absurd z (by omega)⟩
 |f+1,k,J,M,j=>by
  refine⟨q.lt (by omega),q.lt (by omega),?_⟩;by_cases c:rank (p.getD k 0)<rank (p.getD (k-1) 0)
  ·rw[show WM rank _ _=true from decide_eq_true c]
   exact⟨Zq _,by omega,j,fun _=>c⟩
  ·rw[show WM rank _ _=false from decide_eq_false c]
   refine (Zed q f (k+1) (by omega) (by omega) (j.snoc J (by unfold RK;omega))).mono fun m ⟨a,b,u,d⟩=>⟨by omega,by omega,u,fun z=>d (by omega)⟩
theorem V2:∀(f:Nat) (p:Array Nat) (k q:Nat),UZ n p->1<=k->k+f<=n->q+1<=k->Dn rank p k->(∀j,k-1-q<=j->j<k->RK rank p j=RK rank p (k-1))->
  Runs n (WM rank) (W.kas_desc f p k q) fun r=>UZ n r.1/\1<=r.2.1/\r.2.1<=k+f/\r.2.2+1<=r.2.1/\Dn rank r.1 r.2.1/\∀j,r.2.1-1-r.2.2<=j->j<r.2.1->RK rank r.1 j=RK rank r.1 (r.2.1-1)
 |0,p,k,q,J,M,hk,Y,hd,he=>⟨J,M,Zq _,Y,hd,he⟩
 |f+1,p,k,q,J,M,hk,Y,hd,he=>by
  refine⟨J.lt (by omega),J.lt (by omega),?_⟩;by_cases c:rank (p.getD k 0)<rank (p.getD (k-1) 0)
  ·rw[show WM rank _ _=true from decide_eq_true c]
   show Runs n (WM rank) (if q > 0 then W.kas_desc f (ff p (k-(q+1)) k) (k+1) 0 else W.kas_desc f p (k+1) 0) _
   have O:=hd.snoc M (cY c);have sz:=J.size;split
   ·have er:∀j,RK rank (ff p (k-(q+1)) k) j=RK rank p j:=fun j=>Vy (by omega) (fun i a b=>he i (by omega) b) j
    refine (V2 f _ (k+1) 0 (J.rev _ _) (by omega) (by omega) (by omega) (fun i j a b=>?_) (fun j a b=>?_)).mono fun r ⟨a,b,c,d⟩=>⟨a,b,by omega,d⟩
    ·rw[er,er];exact O i j a b
    ·rw[show j=k+1-1 by omega]
   ·refine (V2 f _ (k+1) 0 J (by omega) (by omega) (by omega) O (fun j a b=>?_)).mono fun r ⟨a,b,c,d⟩=>⟨a,b,by omega,d⟩
    rw[show j=k+1-1 by omega]
  ·rw[show WM rank _ _=false from decide_eq_false c]
   refine⟨J.lt (by omega),J.lt (by omega),?_⟩;by_cases d:rank (p.getD (k-1) 0)<rank (p.getD k 0)
   ·rw[show WM rank _ _=true from decide_eq_true d]
    exact⟨J,M,(show k<=k+(f+1) by omega),Y,hd,he⟩
   ·rw[show WM rank _ _=false from decide_eq_false d]
    have e:RK rank p k=RK rank p (k-1):=by unfold RK;omega
    refine (V2 f _ (k+1) (q+1) J (by omega) (by omega) (by omega) (hd.snoc M (by omega)) (fun j a b=>?_)).mono fun r ⟨a,b,c,d⟩=>⟨a,b,by omega,d⟩;rw[show k+1-1=k by omega];by_cases ej:j=k
    ·rw[ej]
    ·rw[he j (by omega) (by omega),e]
theorem Zca {p:Array Nat}{k:Nat}(q:UZ n p)(J:1<=k)(Y:k<=n)(M:Dn rank p k):Runs n (WM rank) (mv k n p) fun r=>1<=r.1/\r.1<=n/\UZ n r.2/\Up rank r.2 r.1:=by
 have sz:=q.size;have O:Up rank (ff p 0 k) k:=fun i j a b=>by
  rw[Zef (by omega),Zef (by omega),if_pos ⟨bc _,by omega⟩,if_pos ⟨bc _,b⟩];exact M _ _ (by omega) (by omega)
 exact Runs.bind ((Zed (q.rev 0 k) (n-k) k J (by omega) O).mono fun m ⟨a,b,c,_⟩=>⟨bm J a,by show m<=n;omega,q.rev 0 k,c⟩)
theorem VH {p:Array Nat}{k:Nat}(J:UZ n p)(O:k+1<=n)(M:Dn rank p (k+1)):Runs n (WM rank) (W.kas_descPart k n p) fun r=>1<=r.1/\r.1<=n/\UZ n r.2/\Up rank r.2 r.1:=by
 refine Runs.bind ((V2 (n-(k+1)) p (k+1) 0 J (by omega) (by omega) (by omega) M (fun j a b=>by rw[show j=k+1-1 by omega])).mono fun r ⟨a,b,c,d,e,g⟩=>?_);have sz:=a.size;show Runs n (WM rank) (if r.2.2 > 0 then mv r.2.1 n (ff r.1 (r.2.1-(r.2.2+1)) r.2.1) else mv r.2.1 n r.1) _
 split
 ·have q:∀j,RK rank (ff r.1 (r.2.1-(r.2.2+1)) r.2.1) j=RK rank r.1 j:=fun j=>Vy (by omega) (fun i x y=>g i (by omega) y) j
  exact Zca (a.rev _ _) b (by omega) fun i j x y=>by rw[q,q];exact e i j x y
 ·exact Zca a b (by omega) e
theorem ZiL {p:Array Nat}(q:UZ n p)(h1:1<=n):Runs n (WM rank) (W.kas_count n p) fun r=>1<=r.1/\r.1<=n/\UZ n r.2/\Up rank r.2 r.1:=by
 refine Runs.bind ((Zed q (n-1) 1 (Zq _) (by omega) (fun i j a b=>by rw[show i=0 by omega,show j=0 by omega];exact Zq _)).mono fun m ⟨a,b,c,d⟩=>?_);have sz:=q.size;show Runs n (WM rank) (if (m == n)=true then _ else _) _
 by_cases e:m=n
 ·rw[if_pos (by rw[e];exact beq_self_eq_true n)]
  exact⟨a,by show m<=n;omega,q,c⟩
 ·rw[if_neg (by simpa using e)]
  have O:=d (by omega);have J:Dn rank p m->Dn rank p (m+1):=fun h=>h.snoc a (cY O);split
  ·refine⟨q.lt (by omega),q.lt (by omega),?_⟩
   by_cases g:rank (p.getD 0 0)<rank (p.getD (m-1) 0)
   ·rw[show WM rank _ _=true from decide_eq_true g]
    exact⟨a,by show m<=n;omega,q,c⟩
   ·rw[show WM rank _ _=false from decide_eq_false g]
    have all:∀j,j<m->RK rank p j=RK rank p (m-1):=fun j Y=>by
     have x:=c 0 j (by omega) Y;have y:=c j (m-1) (by omega) (by omega);unfold RK at x y ⊢;omega
    have M:∀j,RK rank (ff p 0 m) j=RK rank p j:=fun j=>Vy (by omega) (fun i _ y=>all i y) j;refine VH (q.rev 0 m) (by omega) fun i j x y=>?_;rw[M,M];exact J (fun i j x y=>by rw[all i (by omega),all j y];exact Zq _) i j x y
  ·have e1:m=1:=by omega
   subst e1;exact VH q (by omega) (J fun i j x y=>by rw[show i=0 by omega,show j=0 by omega];exact Zq _)
theorem Uv {p:Array Nat}{k:Nat}(j:UZ n p)(Y:k<n)(q:Up rank p k):∀(f l r:Nat),r-l<=f->l<=r->r<=k->(∀i,i<l->RK rank p i<=RK rank p k)->(∀i,r<=i->i<k->RK rank p k<RK rank p i)->
  Runs n (WM rank) (W.kas_place p k f l r) fun m=>m<=k/\(∀i,i<m->RK rank p i<=RK rank p k)/\∀i,m<=i->i<k->RK rank p k<RK rank p i
 |0,l,r,hf,m5,J,M,O=>by
  have e:l=r:=by omega
  subst e;exact⟨J,M,O⟩
 |f+1,l,r,hf,m5,J,M,O=>by
  show Runs n (WM rank) (if l ≥ r then _ else _) _
  split
  ·have e:l=r:=by omega
   subst e;exact⟨J,M,O⟩
  ·refine⟨j.lt Y,j.lt (by omega),?_⟩
   by_cases c:rank (p.getD k 0)<rank (p.getD ((l+r) / 2) 0)
   ·rw[show WM rank _ _=true from decide_eq_true c]
    refine Uv j Y q f l ((l+r) / 2) (by omega) (by omega) (by omega) M fun i a b=>?_;exact aG c (q _ _ a b)
   ·rw[show WM rank _ _=false from decide_eq_false c]
    refine Uv j Y q f ((l+r) / 2+1) r (by omega) (by omega) J (fun i a=>?_) O;have:=q i ((l+r) / 2) (by omega) (by omega);unfold RK at this ⊢;omega
theorem ZiV:∀(f:Nat) (p:Array Nat) (k:Nat),UZ n p->k+f=n->Up rank p k->Runs n (WM rank) (W.kas_bin f p k) fun r=>UZ n r/\Up rank r n
 |0,p,k,J,Y,q=>⟨J,by rw[<-Y];exact q⟩
 |f+1,p,k,J,Y,q=>by
  have sz:=J.size;refine Runs.bind ((Uv J (by omega) q k 0 k (by omega) (by omega) (Zq _) (fun i h=>by omega) (fun i a b=>by omega)).mono fun l ⟨a,b,c⟩=>?_);refine ZiV f _ (k+1) (J.bub _ _) (by omega) fun i j O hj=>?_;have hb:=fun x=>Zgu (rank:=rank) (xs:=p) (src:=k) (d:=k-l) (by omega) (by omega) x;rw[hb i,hb j];have el:k-(k-l)=l:=by omega
  rw[el];have m6:=q;by_cases i1:i=l
  ·rw[if_pos i1]
   by_cases M:j=l
   ·rw[if_pos M];exact Zq _
   ·rw[if_neg M,if_pos ⟨by omega,by omega⟩]
    exact cY (c (j-1) (by omega) (by omega))
  ·rw[if_neg i1]
   by_cases i2:l<i/\i<=k
   ·rw[if_pos i2,if_neg (by omega),if_pos ⟨by omega,by omega⟩]
    exact q _ _ (by omega) (by omega)
   ·rw[if_neg i2]
    have il:i<l:=by omega
    by_cases M:j=l
    ·rw[if_pos M];exact b i il
    ·rw[if_neg M]
     by_cases j2:l<j/\j<=k
     ·rw[if_pos j2];exact q _ _ (by omega) (by omega)
     ·rw[if_neg j2];exact q _ _ O (by omega)
theorem Zep (O:1<=n)(rank:Nat->Nat):∃p,Xz n (WM rank) (gx n)=some p/\p.toList.Perm (ac n)/\(p.toList.map rank).Pairwise (· ≤ ·):=by
 have:Runs n (WM rank) (gx n) fun p=>UZ n p/\Up rank p n:=by
  refine Runs.bind ((ZiL (rank:=rank) ⟨Array.Perm.refl _⟩ O).mono fun r ⟨a,b,c,d⟩=>?_);show Runs n (WM rank) (if r.1<n then _ else _) _
  split
  ·have e:max r.1 1=r.1:=by omega
   rw[e];exact ZiV _ _ _ c (by omega) d
  ·exact⟨c,by rw[show n=r.1 by omega];exact d⟩
 obtain⟨p,e,M,Y⟩:=this.run;refine⟨p,e,?_,?_⟩
 ·have:=M.pm
  rw[jP] at this;simpa using this
 ·have sz:=M.size
  rw[jY];intro i j q J m5;rw[Za] at q J;have li:i<p.size:=by simpa using q
  have lj:j<p.size:=by simpa using J
  have:=Y i j (by omega) (by omega);unfold RK at this;rw[mP,mP];have ei:p.getD i 0=p.toList[i]'q:=by simp[lX,li]
  have ej:p.getD j 0=p.toList[j]'J:=by simp[lX,lj]
  rw[ei,ej] at this;exact this
end
end PyZ
namespace PyZ
open PySem PyProof PyProof.Rows SeqAt
open AutoSeq1 (wpAny_loadPart')
theorem Xj {vs:List Value}{ns:List Int}(h:a8 vs ns):∀{i:Nat}{v:Value},vs[i]?=some v->∃n t,ns[i]?=some n/\v=.int n t:=by
 induction h with
 |nil=>intro i v e;simp at e
 |cons n t _ j=>
  intro i v e
  match i,e with
  |0,e=>cases e;exact⟨_,_,rfl,rfl⟩
  |i+1,e=>exact j (i:=i) (by simpa using e)
theorem Jt {vs:List Value}{ns:List Int}(h:a8 vs ns):vs.length=ns.length:=by
 induction h with
 |nil=>rfl
 |cons _ _ _ j=>rw[Zi,Zi,j]
theorem Zaw {fin:Bool}{xs ys:List Int}{i:Nat}{x y:Int}(j:xs[i]?=some x)(q:ys[i]?=some y):U4 fin (xs.drop i) (ys.drop i)=if x=y then U4 fin (xs.drop (i+1)) (ys.drop (i+1)) else decide (x<y):=by
 have J:=(ae.mp j);have M:=(ae.mp q);obtain⟨O,Y⟩:=J;obtain⟨l2,e2⟩:=M;rw[ce O,ce l2,Y,e2];rfl
theorem UF {fin:Bool}{xs ys:List Int}{i:Nat}(h:xs[i]?=none\/ys[i]?=none):U4 fin (xs.drop i) (ys.drop i)=fin:=by
 rcases h with h|h
 ·rw[fj (gw.mp h)]
  rfl
 ·rw[fj (as:=ys) (gw.mp h)]
  cases xs.drop i with
  |nil=>rfl
  |cons _ _=>rfl
theorem Zkm (l b:Addr)(items j:Array Value)(n n2:Nat)(dd m6:Option Addr)(sl m8:Array (Option Value)){xs ys:List Int}(hx:a8 items.toList xs)(hy:a8 j.toList ys)(k:Nat) :
  ∀i:Nat,items.size-i=k->Meets (cK.«list.__eq__.loop» ⟨[.ref l,.ref b,rawInt i,rawInt 0],[]⟩)
   (fun A R s=>s.heap.get? l=some {cls:=.type "list",dict:=dd,data:=.seq items n,slots:=sl}/\s.heap.get? b=some {cls:=.type "list",dict:=m6,data:=.seq j n2,slots:=m8}/\
    R (.ok (.ret (.bool (U4 (decide (xs.length<ys.length)) (xs.drop i) (ys.drop i))))) s):=by
 have sx:items.size=xs.length:=by rw[<-Jt hx,Zr]
 have sy:j.size=ys.length:=by rw[<-Jt hy,Zr]
 induction k with
 |zero=>
  intro i hk q w A R s h;obtain⟨hp,g,d,tk,os⟩:=s;obtain⟨Y,hb,h⟩:=h
  wp_walk using wpAny_loadPart' Y,wpAny_loadPart' hb
  have J:items[((i:Nat):Int).toNat]?=none:=by simp;omega
  rw[UF (.inl (ak (by omega)))] at h;rw[J]
  wp_walk using wpAny_loadPart' Y,wpAny_loadPart' hb
  show R (.ok (.ret (.bool (decide (items.size<j.size))))) _;rw[sx,sy];exact h
 |succ k ih=>
  intro i hk q w A R s h;obtain⟨hp,g,d,tk,os⟩:=s;obtain⟨Y,hb,h⟩:=h
  wp_walk using wpAny_loadPart' Y,wpAny_loadPart' hb
  have m5:i<items.size:=by omega
  have J:items[((i:Nat):Int).toNat]?=some items[i]:=by simp[m5]
  have hc:((i:Int)+1)=((i+1:Nat):Int):=by push_cast;rfl
  by_cases O:i<j.size
  ·have M:j[((i:Nat):Int).toNat]?=some j[i]:=by simp[O]
   obtain⟨x,tx,ex,vx⟩:=Xj hx (i:=i) (v:=items[i]) (by simp[m5]);obtain⟨y,ty,ey,vy⟩:=Xj hy (i:=i) (v:=j[i]) (by simp[O]);rw[Zaw ex ey] at h;rw[J,M,vx,vy];refine Zl (fW _ _ _ _ q w _ _ ?_);by_cases e:x=y
   ·rw[if_pos e] at h
    rw[show (x == y)=true from beq_iff_eq.mpr e]
    wp_walk
    rw[hc];exact⟨df eL _,cp jD (by
     rw[bM eL _];exact ih (i+1) (by omega) q w A R _ ⟨Y,hb,h⟩)⟩
   ·rw[if_neg e] at h
    rw[show (x == y)=false from beq_eq_false_iff_ne.mpr e]
    wp_walk using wpAny_loadPart' Y,wpAny_loadPart' hb
    rw[J,M,vx,vy];refine Zl (lt_int ?_);exact Zm h
  ·have M:j[((i:Nat):Int).toNat]?=none:=by simp;omega
   rw[UF (.inr (ak (by omega)))] at h;rw[J,M]
   wp_walk using wpAny_loadPart' Y,wpAny_loadPart' hb
   show R (.ok (.ret (.bool (decide (items.size<j.size))))) _;rw[sx,sy];exact h
theorem Zkq (l b:Addr)(items j:Array Value)(n O:Nat)(Y q:Option Addr)(sl J:Array (Option Value)){xs ys:List Int}(hx:a8 items.toList xs)(hy:a8 j.toList ys) :
  Meets (cK.«list.__lt__» ⟨[.ref l,.ref b],[]⟩)
   (fun A R s=>s.heap.get? l=some {cls:=.type "list",dict:=Y,data:=.seq items n,slots:=sl}/\s.heap.get? b=some {cls:=.type "list",dict:=q,data:=.seq j O,slots:=J}/\
    R (.ok (.ret (.bool (JO xs ys)))) s):=by
 intro M w A R s h;obtain⟨hp,g,d,tk,os⟩:=s;obtain⟨hl,hb,h⟩:=h;have f3:=AutoSeq1.sub_list_list
 wp_walk using wpAny_loadPart' hl,wpAny_loadPart' hb
 exact⟨df eL _,cp jD (by
  rw[bM eL _];exact Zkm l b items j n O Y q sl J hx hy _ 0 rfl M w A R _ ⟨hl,hb,by simpa [JO] using h⟩)⟩
section
variable {prog:Program}{w:World}{A:Around}{E:Value->Shared->Prop}{s:Shared}
theorem ZdT {l b:Addr}{us vs:List Value}{xs ys:List Int}{Q:Bool->Shared->Prop}(hu:A.units<cLine)(hl:s.heap.IsList l us.toArray)(hb:s.heap.IsList b vs.toArray)(hx:a8 us xs)(hy:a8 vs ys)(h:Q (JO xs ys) s) :
  wpAny (model prog w) A (keyLt' oneType' (.ref l) (.ref b)) Q E s:=by
 obtain⟨ol,Y,c1,n1,d1⟩:=hl;obtain⟨ob,e2,c2,n2,d2⟩:=hb;obtain⟨m8,M,m5,q⟩:=ol;obtain⟨m6,J,O,j⟩:=ob;simp only at c1 d1 c2 d2;subst c1 d1 c2 d2;rw[keyLt'_oneType,oneLt'_eq];simp only[if_true];refine Zl (wpAny_cRoomFor hu ?_);refine Zl (wpAny_callSpecialIfBound?_slot ⟨_,Y,rfl⟩ km ?_);refine fo km ⟨_,Y,rfl⟩ PySem.F.entry_list_lt (PySem.F.args_list_lt_2 _ _) (Zkq l b us.toArray vs.toArray n1 n2 M J q j (by simpa using hx) (by simpa using hy)) ⟨Y,e2,?_⟩;exact fI h
end
end PyZ
namespace PyZ
open PySem PyProof PyProof.Rows
theorem Zbw (ys:List Int):JO [] ys=decide (0<ys.length):=rfl
theorem ZcM (xs:List Int):JO xs []=false:=by
 cases xs with
 |nil=>rfl
 |cons x xs=>
  show decide ((x::xs).length<([]:List Int).length)=false;exact decide_eq_false (by simp)
theorem UB (x y:Int)(xs ys:List Int):JO (x::xs) (y::ys)=if x=y then JO xs ys else decide (x<y):=by
 unfold JO;show (if x=y then U4 _ xs ys else _)=_
 have e:decide ((x::xs).length<(y::ys).length)=decide (xs.length<ys.length):=by
  simp only[Zi,kx]
 rw[e]
theorem Zbx:∀xs:List Int,JO xs xs=false
 | []=>rfl
 |x::xs=>by rw[UB,if_pos rfl];exact Zbx xs
theorem V0:∀{xs ys:List Int},JO xs ys=false->JO ys xs=false->xs=ys
 | [],[],_,_=>rfl
 | [],_::_,h,_=>by rw[Zbw] at h;simp at h
 |_::_,[],_,h=>by rw[Zbw] at h;simp at h
 |x::xs,y::ys,j,q=>by
  rw[UB] at j q;by_cases e:x=y
  ·rw[if_pos e] at j
   rw[if_pos e.symm] at q;rw[e,V0 j q]
  ·rw[if_neg e] at j
   rw[if_neg (bd e)] at q;have a:=of_decide_eq_false j;have b:=of_decide_eq_false q;omega
theorem Vm:∀{xs ys q:List Int},JO xs ys=true->JO ys q=true->JO xs q=true
 |xs,ys,[],_,h=>by rw[ZcM] at h;cases h
 |xs,[],z::q,h,_=>by rw[ZcM] at h;cases h
 | [],y::ys,z::q,_,_=>by rw[Zbw];exact decide_eq_true (by simp)
 |x::xs,y::ys,z::q,J,j=>by
  rw[UB] at J j ⊢;by_cases O:x=y
  ·rw[if_pos O] at J
   by_cases M:y=z
   ·rw[if_pos M] at j
    rw[if_pos (O.trans M)];exact Vm J j
   ·rw[if_neg M] at j
    have:=of_decide_eq_true j;rw[if_neg (by omega)];exact decide_eq_true (by omega)
  ·rw[if_neg O] at J
   have a:=of_decide_eq_true J;by_cases M:y=z
   ·rw[if_neg (by omega)]
    exact decide_eq_true (by omega)
   ·rw[if_neg M] at j
    have:=of_decide_eq_true j;rw[if_neg (by omega)];exact decide_eq_true (by omega)
theorem Xy {n:Nat}{cmp q:Nat->Nat->Bool}(h:∀i j,i<n->j<n->cmp i j=q i j){α:Type}:∀t:jL α,Xz n cmp t=Xz n q t
 | .ret a=>rfl
 | .ask i j k=>by
  rw[Xz,Xz];by_cases J:i<n/\j<n
  ·rw[if_pos J,if_pos J,h i j J.1 J.2]
   exact Xy h _
  ·rw[if_neg J,if_neg J]
theorem Vp {α:Type}{p q:α->Bool}:∀{l:List α},(∀x∈l,p x=true->q x=true)->(∃x∈l,p x=false/\q x=true)->l.countP p<l.countP q
 | [],_,⟨x,j,_⟩=>by cases j
 |y::l,h,⟨x,j,J,M⟩=>by
  have le:∀{l:List α},(∀x∈l,p x=true->q x=true)->l.countP p<=l.countP q:=fun {l} h=>List.countP_mono_left h;rw[mR,mR];have O:∀x∈l,p x=true->q x=true:=fun z Y=>h z (aq _ Y);rcases aH.mp j with e|j
  ·rw[<-e,J,M]
   have:=le O;simp only[dB,if_false,if_true];omega
  ·have:=Vp O ⟨x,j,J,M⟩
   have hy:=h y ax;cases e1:p y with
   |true=>rw[hy e1];omega
   |false=>
    simp only[dB,if_false];split <;> omega
noncomputable def rkB (yss:List (List Int))(i:Nat):Nat:=(ac yss.length).countP fun k=>JO (yss.getD k []) (yss.getD i [])
theorem Zhp {yss:List (List Int)}{i j:Nat}(q:i<yss.length)(O:j<yss.length):JO (yss.getD i []) (yss.getD j [])=decide (rkB yss i<rkB yss j):=by
 have J:∀{i j:Nat},i<yss.length->JO (yss.getD i []) (yss.getD j [])=true->rkB yss i<rkB yss j:=fun {i j} q h=>by
  refine Vp (fun k _ Y=>Vm Y h) ⟨i,ag.mpr q,Zbx _,h⟩
 cases e:JO (yss.getD i []) (yss.getD j []) with
 |true=>rw[decide_eq_true (J q e)]
 |false=>
  cases M:JO (yss.getD j []) (yss.getD i []) with
  |true=>
   have:=J O M;rw[decide_eq_false (by omega)]
  |false=>
   have:=V0 e M;unfold rkB;rw[this];exact (decide_eq_false (by omega)).symm
theorem ZfB {yss:List (List Int)}(M:1<=yss.length):∃p,Xz yss.length (fun i j=>JO (yss.getD i []) (yss.getD j [])) (gx yss.length)=some p/\p.toList.Perm (ac yss.length)/\(p.toList.map fun i=>yss.getD i []).Pairwise fun a b=>JO b a=false:=by
 obtain⟨p,e,q,J⟩:=Zep M (rkB yss);refine⟨p,(Xy (fun i j O Y=>Zhp O Y) _).trans e,q,?_⟩;rw[gA] at J ⊢;refine dR (fun {a b} ha hb m5=>?_) J;have la:=ag.mp (q.mem_iff.mp ha);have lb:=ag.mp (q.mem_iff.mp hb);rw[Zhp lb la];exact decide_eq_false (by omega)
section
variable {prog:Program}{w:World}{A:Around}{E:Value->Shared->Prop}{s:Shared}
theorem Zjf (vs:List Value)(h:vs.length<2):(vs.toArray.zip vs.toArray).map (·.2)=vs.toArray:=by
 cases vs with
 |nil=>simp
 |cons v r=>
  cases r with
  |nil=>simp
  |cons a b=>exact absurd h (by rw[Zi,Zi];omega)
theorem ZdG {a:Addr}{vs:List Value}{n:Nat}{P:Fin->Shared->Prop}(M:s.heap.get? a=some (seqObj "list" vs.toArray n))(h2:vs.length<2)
  (h:P (.done (.ret .none)) {s with heap:=sortedHeap s.heap a vs vs.toArray}):wpAny (model prog w) A (cK.«list.sort» ⟨[.ref a],[]⟩) P E s:=by
 rw[list_sort_plain];have Y:a<s.heap.objs.size:=Zp M;refine Zl (listItems_at M rfl ?_);refine Zl (listUpdate_at M rfl ?_);obtain⟨O,j⟩:∃O,(s.heap.update a (cP fun _=>#[])).get? a=some (seqObj "list" #[] O):=⟨_,ku M (fun _=>#[])⟩;refine Zl (seqEpoch_at j rfl ?_);refine Zl (kH ?_);refine Zl (lI ?_);refine cR ?_;have q:(((s.heap.update a (cP fun _=>#[])).push (seqObj "tuple" vs.toArray 0)).push (seqObj "list" #[] 0)).get? a=some (seqObj "list" #[] O):=by
  rw[mC _ _ _ (by rw[size_push',jq];exact aD (fv Y)),mC _ _ _ (by rw[jq];exact aD Y)];exact j
 show wpAny (model prog w) A _ P E {s with heap:=((s.heap.update a (cP fun _=>#[])).push (seqObj "tuple" vs.toArray 0)).push (seqObj "list" #[] 0)}
 try dsimp only
 have m6:vs.toArray.size=vs.length:=by simp
 have J:vs.toArray.size<2:=by omega
 rw[if_pos J,if_pos J];refine Zl (Zm ?_);rw[StateT.run_pure];refine Zl (Zm ?_)
 try dsimp only
 have eo:(arrOf (SortSt.mk' general' (vs.toArray.zip vs.toArray) #[] 7 none)).map (·.2)=vs.toArray:=by
  exact Zjf _ h2
 refine Zl (seqEpoch_at q rfl ?_);refine Zl (listUpdate_at q rfl ?_ (hsz2:=by rw[Array.size_map];show (pairsOf vs).size<=_;rw[pairsOf_size,gf];omega));simp only[bne_self_eq_false,dB,if_false];refine Zm ?_;rw[eo];exact h
theorem XU {l:Addr}{vs:List Value}{Q:Value->Shared->Prop}(J:s.heap.IsList l vs.toArray)(M:vs.length<2)
  (h:Q (.ref (s.heap.objs.size+1)) {s with heap:=sortedAll s.heap vs vs.toArray}):wpAny (model prog w) A (call (.builtin "sorted") [.ref l]) Q E s:=by
 refine lE kind_sorted plain_sorted entry_sorted (args_sorted1 _) ?_;unfold cK.«sorted»;refine Zl (m:=checkCount "sorted" 1 1 _) (Zm ?_);refine Zl (collect_list J ?_ (by rw[gf];omega));refine Zl (lI ?_ (by rw[gf];omega));have j:((s.heap.push (seqObj "list" #[] 0)).update s.heap.objs.size (cP (· ++ vs.toArray))).objs.size=s.heap.objs.size+1:=by
  rw[jq,size_push']
 have q:(((s.heap.push (seqObj "list" #[] 0)).update s.heap.objs.size (cP (· ++ vs.toArray))).push (seqObj "list" vs.toArray 0)).get? (s.heap.objs.size+1)=some (seqObj "list" vs.toArray 0):=by
  rw[<-j];exact Zo _ rfl
 show wpAny _ _ _ _ _ {s with heap:=((s.heap.push (seqObj "list" #[] 0)).update s.heap.objs.size (cP (· ++ vs.toArray))).push (seqObj "list" vs.toArray 0)};rw[j];refine Zl (cR (bG slot_list_sort ⟨_,q,rfl⟩ entry_list_sort (ZdG q M ⟨_,rfl,?_⟩) (args_list_sort _)));exact Zm ⟨_,rfl,h⟩
end
end PyZ
namespace Pm
section
variable {gs:List (List Nat)}{n:Nat}
noncomputable def Srt (yss:List (List Nat)):Prop:=(yss.map nI).Pairwise (fun x y=>PyZ.JO y x=false)
theorem Srt.eq {a b:List (List Nat)}(j:Srt a)(hb:Srt b)(p:bP a b):a=b:=by
 have:a.map nI=b.map nI:=List.Perm.eq_of_pairwise (le:=fun x y:List Int=>PyZ.JO y x=false) (fun x y _ _ q J=>PyZ.V0 J q) j hb (p.map nI);exact (iS (fun x y e=>Zib.mp e)).mp this
end
end Pm
namespace PyZ
open PySem PyProof PyProof.Rows
section
variable {prog:Program}{w:World}{A:Around}{E:Value->Shared->Prop}{s:Shared}
theorem Za5 {l L:Addr}{m:Str->Option Value}{as:List Addr}{yss:List (List Int)}{p:Array Nat}{Q:Value->Shared->Prop}(hu:A.units+2<cLine)(m8:s.heap.Ns L m)(hl:s.heap.IsList l (as.map aC).toArray)(n2:2<=as.length)(n6:as.length<64)(hy:as.length=yss.length)
  (ht:∀(i:Nat) a,as[i]?=some a->a≠L/\∃(us:List Value) (ys:List Int),yss[i]?=some ys/\s.heap.IsList a us.toArray/\a8 us ys)
  (hp:Xz as.length (fun i j=>JO (yss.getD i []) (yss.getD j [])) (gx as.length)=some p)
  (q:∀D c h',s.heap.get? D=none->D≠L->(∀b o,b≠L->s.heap.get? b=some o->h'.get? b=some o)->h'.Ns L m->h'.get? D=some (mr (p.toList.map fun i=>(as.map aC).getD i bf).toArray c)->Q (.ref D) {s with heap:=h'}) :
  wpAny (model prog w) A (call (.builtin "sorted") [.ref l]) Q E s:=by
 have fr:Fr (U8 s.heap L) L s.heap m:=by
  refine⟨m8,fun b o e=>?_,?_⟩
  ·by_cases hb:b<L
   ·rw[YK hb] at e;exact e
   ·rw[WQ (fM hb)] at e
    cases e
  ·show (s.heap.objs.extract 0 L).size<=L
   rw[gm,cW];exact fZ ..
 have nw:News (U8 s.heap L) L s.heap (Yh s.heap L):=fun x hx=>by
  obtain⟨J,h2⟩:=Yk.mp hx;exact⟨h2,bh J,WQ (cY J)⟩
 have lv:(as.map aC).length=as.length:=eV ..;refine lO fr nw hl (by rw[lv];exact n2) (by rw[lv];exact n6) fun D e1 h' m6 M big=>?_;have kept:∀b o,b≠L->s.heap.get? b=some o->h'.get? b=some o:=fun b o hb e=>by
  rcases cF b L with J|J
  ·exact m6.keep b o (by rw[YK J];exact e)
  ·exact (M (b,o) (aq _ (Yk.mpr ⟨bw J (bd hb),e⟩))).1
 have dn:s.heap.get? D=none:=by
  cases e:s.heap.get? D with
  |none=>rfl
  |some o=>
   obtain⟨_,dL,dc⟩:=M _ (ax ..);rcases cF D L with J|J
   ·rw[YK J] at dc
    rw[dc] at e;cases e
   ·exact absurd (big (D,o) (Yk.mpr ⟨bw J (bd dL),e⟩)) (bV _)
 have dL:D≠L:=(M _ (ax ..)).2.1;have m5:∀(i:Nat) a,as[i]?=some a->∃(us:List Value) (ys:List Int),yss[i]?=some ys/\h'.IsList a us.toArray/\a8 us ys:=fun i a hi=>by
  obtain⟨aL,us,ys,e,⟨o,g1,g2⟩,ia⟩:=ht i a hi;exact⟨us,ys,e,⟨o,kept a o aL g1,g2⟩,ia⟩
 refine W.kas_kind (T:=cz "list") (by rw[lv];exact n2) (fun v hv=>?_) (by decide +kernel) (by decide +kernel) ?_
 ·obtain⟨a,ha,rfl⟩:=aN.mp hv
  obtain⟨i,hi⟩:=bN ha;obtain⟨us,ys,_,⟨o,g1,g2,_⟩,_⟩:=m5 i a hi;intro A Q E s' hk q;refine iy (T:="list") ⟨o,hk _ _ g1,g2⟩ q
 ·rw[lv]
  refine Xi (cmp:=fun i j=>JO (yss.getD i []) (yss.getD j [])) (fun i j C hi hj c=>?_) _ p _ hp ?_
  ·unfold W.kas_ask
   obtain⟨us,ys,e,i1,ia⟩:=m5 i as[i] (Zf hi);obtain⟨o5,n8,e2,i2,n9⟩:=m5 j as[j] (Zf hj);have v1:(as.map aC).getD i bf=.ref as[i]:=by
    rw[Zb,Zc,Zf hi];rfl
   have v2:(as.map aC).getD j bf=.ref as[j]:=by
    rw[Zb,Zc,Zf hj];rfl
   have w1:yss.getD i []=ys:=by rw[Zb,e];rfl
   have w2:yss.getD j []=n8:=by rw[Zb,e2];rfl
   rw[v1,v2];rw[w1,w2] at c;exact ZdT (by show A.units+1+1<cLine;omega) i1 i2 ia n9 c
  ·refine⟨_,_,m6,M,kB (fun x hx=>aD (big x hx)),fun o0 c O Y=>?_⟩
   refine q D c o0 dn dL (fun b o hb e=>?_) O.ns (Y _ (ax ..)).1;rcases cF b L with J|J
   ·exact O.keep b o (by rw[YK J];exact e)
   ·exact (Y (b,o) (aq _ (Yk.mpr ⟨bw J (bd hb),e⟩))).1
end
end PyZ
namespace L2
open PySem PySem.Spec PyProof.Rows
section
variable {X:Cx}{pins:List (Addr×Obj)}{σ:St}{H:Hp}{s:Shared}
theorem ZeN:∀{as:List Addr},as.length<2->((ac as.length).map fun i=>as.getD i 0)=as
 | [],_=>rfl
 | [_],_=>rfl
theorem ZhQ {β:Type}:∀{n:Nat},n<2->∀(f:Nat->β) (R:β->β->Prop),((ac n).map f).Pairwise R
 |0,_,_,_=>eG
 |1,_,_,_=>gP _ _
noncomputable def Zpv (j:Bool)(ys:List Int):HO:=if j then .tup (ys.map V.int) else .lst (ys.map V.int)
inductive ZdO (tp:Bool) (xs:List V) (H:Hp) (Q:VK):Prop
 |mk (l:Addr) (as:List Addr) (yss:List (List Int)):(xs=[.ref l])->(H l=some (.lst (as.map V.ref)))->(as.length=yss.length)->(as.length<64)->((∀(i:Nat) a,as[i]?=some a->∃ys,yss[i]?=some ys/\ys≠[]/\H a=some (Zpv tp ys)))->(∀D js,H D=none->bP js (ac as.length)->(js.map fun i=>yss.getD i []).Pairwise (fun a b=>PyZ.JO b a=false)->Q (.ref D) (upd H D (.lst ((js.map fun i=>as.getD i 0).map V.ref))))->ZdO tp xs H Q
theorem Zec (tp:Bool)(hu:X.A.units+64<cLine):YN X (.builtin "sorted") (ZdO tp):=by
 intro pins s σ H xs us Q I r h;obtain⟨l,j,J,rfl,hl,hy,m8,ht,q⟩:=h;obtain⟨u,rfl,ru⟩:=r.one;cases ru;obtain⟨m,hm,n9⟩:=id I.loc;obtain⟨z,o9,n,rv,hlen,e⟩:=I.lstM hl;have ei:=WP rv;subst ei;have m5:s.heap.IsList l (j.map aC).toArray:=(I.list (.of hl)).elim fun o8 hh=>by
  obtain⟨M,pl,_⟩:=hh;have:=WP M;rw[this] at pl;exact pl.isList
 have p3:(16777216:Nat)=sizeLine:=by decide
 have n6:∀{a:Addr}{o:HO},H a=some o->a≠X.env.locals:=fun {a o} e z=>by rw[z,I.free] at e;cases e
 by_cases n2:j.length<2
 ·refine PyZ.XU m5 (by rw[Za];exact n2) ?_
  obtain⟨e1,he⟩:=sortedAll_at s.heap (j.map aC) (j.map aC).toArray;have n8:∀b o,s.heap.get? b=some o->(sortedAll s.heap (j.map aC) (j.map aC).toArray).get? b=some o:=fun b o e=>sortedAll_old e;generalize sortedAll s.heap (j.map aC) (j.map aC).toArray=h' at he n8 ⊢;have m6:s.heap.objs.size<=s.heap.objs.size+1:=gG _;generalize s.heap.objs.size+1=D at he m6 ⊢;have em:=ZeN n2;have o0:=ZhQ n2 (fun i=>J.getD i []) fun a b=>PyZ.JO b a=false;have fin:=q D (ac j.length) (I.hok.fresh m6) (cZ _) o0;rw[em] at fin;have I':Inv X pins σ (upd H D (.lst (j.map V.ref))) {s with heap:=h',toks:=s.toks}:=I.laid (a:=D) (o:=.lst (j.map V.ref)) (t':=s.toks) n8 m6 ⟨by rw[Za];omega,j.map aC,e1,Jq j,he⟩;exact⟨.ref D,_,I',rfl,fin⟩
 ·obtain⟨p,hp,O,o5⟩:=PyZ.ZfB (yss:=J) (by omega)
  rw[<-hy] at hp O;have o6:∀i∈p.toList,i<j.length:=fun i hi=>ag.mp (O.mem_iff.mp hi);have pl:p.toList.length=j.length:=by rw[O.length_eq,Zg]
  have es:(p.toList.map fun i=>(j.map aC).getD i bf)=(p.toList.map fun i=>j.getD i 0).map aC:=by
   rw[aP];refine aX fun i hi=>?_;have:=o6 i hi;show (j.map aC).getD i bf=aC (j.getD i 0);rw[Zb,Zc,Zf this,Zb,Zf this];rfl
  have fin:∀D c h',s.heap.get? D=none->D≠X.env.locals->(∀b o,b≠X.env.locals->s.heap.get? b=some o->h'.get? b=some o)->h'.Ns X.env.locals m->h'.get? D=some (mr (p.toList.map fun i=>(j.map aC).getD i bf).toArray c)->
    ∃v H',Inv X pins σ H' {s with heap:=h'}/\RelV v (.ref D)/\Q v H':=fun D c h' dn dL kept o7 hD=>by
   rw[es] at hD;obtain⟨I',hH⟩:=I.newL (ys:=(p.toList.map fun i=>j.getD i 0).map V.ref) hm n9 dn dL kept o7 (by rw[Za,Za];omega) (Jq _) hD;exact⟨.ref D,_,I',rfl,q D _ hH O o5⟩
  cases tp with
  |true=>
   refine PyZ.Zcg (yss:=J) (p:=p) hm m5 (by omega) m8 hy (fun i a hi=>?_) hp fin;obtain⟨ys,e1,ne,Y⟩:=ht i a hi;have Y:H a=some (.tup (ys.map V.int)):=Y;obtain⟨us,M,pt,_⟩:=I.tuple (.of Y);exact⟨n6 Y,us,ys,e1,pt,Jx M,ne⟩
  |false=>
   refine PyZ.Za5 (yss:=J) (p:=p) (by omega) hm m5 (by omega) m8 hy (fun i a hi=>?_) hp fin;obtain⟨ys,e1,ne,Y⟩:=ht i a hi;have Y:H a=some (.lst (ys.map V.int)):=Y;obtain⟨us,M,pt,_⟩:=I.list (.of Y);exact⟨n6 Y,us,ys,e1,pt.isList,Jx M⟩
end
end L2
namespace Pm
open PySem L2 PySem.Spec PyProof.Rows
open Tb
noncomputable def X9 (fd:List (List Nat))(o:List Nat):List (List Nat):=if fd.contains o then fd else fd++[o]
noncomputable def YY (j:List Nat)(q:List (List Nat))(fd:List (List Nat)):List (List Nat):=q.foldl (fun fd p=>X9 fd (Xp j p)) fd
noncomputable def bfs (j:List (List Nat)):Nat->Nat->List (List Nat)->List (List Nat)
 |0,_,fd=>fd
 |f+1,at',fd=>if at'<fd.length then bfs j f (at'+1) (YY (fd.getD at' []) j fd) else fd
theorem Zdc (fd:List (List Nat))(o:List Nat):fd.length<=(X9 fd o).length:=by
 unfold X9;split
 ·exact Zq _
 ·rw[Zd];omega
theorem Xd (j:List Nat):∀(q fd:List (List Nat)),fd.length<=(YY j q fd).length
 | [],fd=>Zq _
 |p::q,fd=>bm (Zdc fd (Xp j p)) (Xd j q (X9 fd (Xp j p)))
theorem Zfm (j:List (List Nat)):∀(f at':Nat) (fd:List (List Nat)),fd.length<=(bfs j f at' fd).length
 |0,_,fd=>Zq _
 |f+1,at',fd=>by
  unfold bfs;split
  ·exact bm (Xd _ j fd) (Zfm j f (at'+1) _)
  ·exact Zq _
theorem Zgt {k:Nat}{fd:List (List Nat)}{o:List Nat}(h:∀y∈fd,Gk k y)(j:Gk k o):∀y∈X9 fd o,Gk k y:=by
 unfold X9;split
 ·exact h
 ·intro y q
  rcases bS.mp q with z|z
  ·exact h y z
  ·rw[aU.mp z];exact j
theorem ZkS {fd:List (List Nat)}{o:List Nat}{j:Nat}(h:j<fd.length):(X9 fd o).getD j []=fd.getD j []:=by
 unfold X9;split
 ·rfl
 ·rw[Zb,au h,<-Zb]
theorem Zcd (q:List Nat){j:Nat}:∀(J fd:List (List Nat)),j<fd.length->(YY q J fd).getD j []=fd.getD j []
 | [],fd,_=>rfl
 |p::J,fd,h=>by
  show (YY q J (X9 fd (Xp q p))).getD j []=_;rw[Zcd q J _ (aG h (Zdc fd _)),ZkS h]
theorem Zdr (j:List Nat){q fd:List (List Nat)}{i:Nat}{g:List Nat}(h:q[i]?=some g):YY j (q.take (i+1)) fd=X9 (YY j (q.take i) fd) (Xp j g):=by
 unfold YY;rw[cU,h,jd];rfl
theorem Zds (j:List Nat)(q fd:List (List Nat))(i:Nat):(YY j (q.take i) fd).length<=(YY j q fd).length:=by
 have:YY j q fd=YY j (q.drop i) (YY j (q.take i) fd):=by
  unfold YY;rw[<-jd,List.take_append_drop]
 rw[this];exact Xd _ _ _
end Pm
namespace C51
open PySem L2 PySem.Spec PyProof.Rows
open Tb Pm
noncomputable abbrev ZnL:Stmt:=top 34
noncomputable abbrev ZdL:Stmt:=top 35
structure ByC (k:Nat)(ps fd:List (List Nat)):Prop where
 k1:1<=k
 k9:k<=9
 p1:1<=ps.length
 p9:ps.length<=9
 pl:∀g∈ps,Gk k g
 fin:bfs ps 61 0 [ac k]=fd
 n60:fd.length<=60
inductive Zg1 (vs:List V) (H:Hp) (Q:VK) (E03:XK):Prop
 |mk (pl:Addr) (prs:List Addr) (ps:List (List Nat)) (k:Nat) (fd:List (List Nat)):(vs=[.ref pl])->(TupsAt H pl prs ps)->(ByC k ps fd)->(∀L bs H',Zv H H'->TupsAt H' L bs fd->Q (.ref L) H')->Zg1 vs H Q E03
section
variable {P:Program}{w:World}{K:aa}{mg:Str->Option Value}{base:Heap}
theorem Zmt {f:Addr}{fd:FuncData}(F:WI K "_law_by_perms" "_law_by_perms" ZnL f fd)(T:BlB mg):Ya P w K mg base Ym 1 f fd ["_law_perms"] Zg1:=by
 refine F.ok (FS (N:=["_law_perms", "_law_found", "_law_at", "_law_here", "_law_perm", "_law_other"])) (fun vs H Q E h=>?_) (fun u5 A r6 s H vs Q E hr h=>?_)
 ·obtain⟨pl,o8,O,k,m5,rfl,_⟩:=h;rfl
 ·obtain⟨pl,o8,O,k,m5,rfl,R0,B,q⟩:=h
  refine⟨_,Zs (ZE 1 rfl (ZQ (pc (ct (UV rfl) T.tuple (pc (ct VJ T.range (pc (cb (Yx K) T.len (pc (ZF (Ji K) (vn 0) Zx (fun _ _=>rfl)) Zu)) Zu)) Zu)) Zu)))
   (Zs (ZE 2 rfl Zx)
   (Zs (Yf am (ZS ZeM (vn 2) (cb (Yx K) T.len (pc (vn 1) Zu)) (ZY _))
   (Zs (ZE 3 rfl (ZF (Ji K) (vn 1) (vn 2) (fun _ _=>rfl)))
   (Zs (ZE 2 rfl (Zy Yr (vn 2) Zx))
   (Zw (ZM am rfl (itL K (vn 0)) (gn 4)
   (Zs (ZE 5 rfl (ct ZX T.tuple (pc (cmp ["_law_spot"] [3] ["_law_spot", "_law_here"] rfl (itT K (vn 4)) (fun _ _ _ _ _=>gn 0) (fun _ _ _ _ _=>Z0) (fun _ _ _ _ _=>ZF (Xt K) (vn 1) (vn 0) (fun _ _=>rfl))) Zu)))
   (Zw (WF (ZS (Zn7 K hr.units) (vn 5) (vn 1) (by rfl)) (Zw (Yu (Wj aK aQ aT Z7 (vn 1) (pc (vn 5) Zu)))) Yy))))))))
   (Zw (ZJ (vn 1))))),?_⟩
  have sz:(16777216:Nat)=sizeLine:=by decide
  have k1:=B.k1;have k9:=B.k9;have p1:=B.p1;have p9:=B.p9;have u9:=B.n60;have o9:∀g∈O,Gk k g:=B.pl;obtain⟨b0,_,p3,m6⟩:=R0.get (i:=0) (by omega);have e0:((O.getD 0 []).map nV).length=k:=by rw[Za];exact (o9 _ (Zbt (by omega))).1
  refine⟨_,rfl,pl,_,_,_,rfl,rfl,.of R0.1,p3,b0,_,rfl,.inr (.of m6),_,rfl,fun r0 r8=>⟨r0,0,_,rfl,Zt,⟨by omega,by omega,by rw[e0];omega,by rw[e0];omega⟩,by rw[e0];omega,fun l hl=>?_⟩⟩;rw[e0] at hl ⊢;have ek:((k:Int)-0).toNat=k:=by omega
  rw[ek] at *;refine⟨(by show 1<=sizeLine;decide),fun F0 n9=>?_⟩;have s1:Zv H (upd H r0 (.rng 0 (k:Int))):=Zv.upd r8;have s2:=s1.trans (Zv.upd (o:=.tup ((YZ 0 k).map V.int)) hl);have s3:=s2.trans (Zv.upd (o:=.lst [.ref l]) n9);have nF:H F0=none:=s2.free n9;have el:(YZ 0 k).map V.int=(ac k).map nV:=by
   unfold YZ;rw[aP];refine aX fun i _=>?_;show V.int (0+(i:Int))=nV i;rw[cG];rfl
  have R1:TupsAt (upd (upd (upd H r0 (.rng 0 (k:Int))) l (.tup ((YZ 0 k).map V.int))) F0 (.lst [.ref l])) F0 [l] [ac k]:=by
   refine⟨Zt,rfl,fun i b hb=>?_⟩;cases i with
   |zero=>
    cases hb;rw[Zz (fun z=>by rw[<-z,Zt] at n9;cases n9),Zt,el];rfl
   |succ i=>cases hb
  have g0:∀y∈[ac k],Gk k y:=fun y hy=>by
   rw[aU.mp hy];exact⟨Zg,fun x hx=>ag.mp hx⟩
  refine Z9 (fun m n6 H'=>∃(at':Nat) (bs:List Addr) (M:List (List Nat)) (v3 v4 v5:Option V),n6=[some (.ref pl),some (.ref F0),some (.int at'),v3,v4,v5]/\Zv H H'/\TupsAt H' F0 bs M/\(∀y∈M,Gk k y)/\m+at'=61/\bfs O m at' M=m5)
   (fun n6 H'=>∃(at':Nat) (bs:List Addr) (v3 v4 v5:Option V),n6=[some (.ref pl),some (.ref F0),some (.int at'),v3,v4,v5]/\Zv H H'/\TupsAt H' F0 bs m5/\(∀y∈m5,Gk k y)) ?hend ⟨61,0,_,_,_,_,_,rfl,s3,R1,g0,rfl,B.fin⟩ ?turn
  case turn=>
   rintro o5 m n6 H' ⟨at',bs,M,v3,v4,v5,rfl,sm,R,gd,hm,hb⟩;have bl:(bs.map V.ref).length=M.length:=by rw[Za,R.2.1]
   refine⟨_,rfl,_,rfl,F0,_,rfl,.inl (.of R.1),_,_,rfl,rfl,_,rfl,?_⟩;rw[bl];refine YG (fun h1=>?_) (fun h1=>?_)
   ·have Y:at'<M.length:=by
     have:=of_decide_eq_true h1;omega
    cases m with
    |zero=>
     have hb:M=m5:=hb;rw[hb] at Y;omega
    |succ m=>
     rw[bfs,if_pos Y] at hb;have p4:(YY (M.getD at' []) O M).length<=60:=by
      have:=Zfm O m (at'+1) (YY (M.getD at' []) O M);rw[hb] at this;omega
     have o6:Gk k (M.getD at' []):=gd _ (Zbt Y);generalize o7:M.getD at' []=J at *;have t5:(o8.map V.ref).length=O.length:=by rw[Za,R0.2.1]
     obtain⟨m6,_,p6,p7⟩:=R.get Y;rw[o7] at p7;refine⟨_,fun _ _ z=>z,_,rfl,_,rfl,F0,_,_,_,rfl,rfl,.of R.1,p6,_,rfl,_,_,rfl,rfl,_,rfl,pl,rfl,⟨_,.of (sm _ _ R0.1)⟩,?_⟩;refine WL (H0:=H) (YV (K:=K) (.of R0.1)) (fun i τ HH=>∃(m8:List Addr) (w3 w4:Option V),τ=[some (.ref pl),some (.ref F0),some (.int ((at':Int)+1)),some (.ref m6),w3,w4]/\Zv H HH/\HH m6=some (.tup (J.map nV))/\TupsAt HH F0 m8 (YY J (O.take i) M)/\(∀y∈YY J (O.take i) M,Gk k y))
      ⟨bs,v4,v5,rfl,sm,p7,R,gd⟩ (fun i τ HH h=>h.choose_spec.choose_spec.choose_spec.2.1) ?_ ?_
     ·rintro i y τ HH hy ⟨m8,w3,w4,rfl,sH,hH,R',n8⟩
      obtain⟨b,rfl,hi,p8⟩:=R0.ref hy;have q0:=sH _ _ p8;have gg:Gk k (O.getD i []):=o9 _ (Zbt hi);have pi:O[i]?=some (O.getD i []):=getL hi;generalize O.getD i []=gp at *;have w8:(YY J (O.take i) M).length<=60:=bm (Zds J O M i) p4;have t7:at'<(YY J (O.take i) M).length:=aG Y (Xd J _ M);have t9:(YY J (O.take i) M).getD at' []=J:=by rw[Zcd J _ _ Y,o7]
      have o0:=Zdr J (fd:=M) pi;generalize YY J (O.take i) M=zs at *;have gl:=gg.1;have cl:=o6.1;refine⟨_,rfl,b,rfl,⟨_,.of q0⟩,?_⟩;refine Ju (Wq (.of q0)) [some (.ref m6)] rfl (ZiF J) (by rw[Za,gl];omega) (fun j x HC hx sC w9 g2=>?_) (fun D HD nD sD hD=>?_)
      ·obtain⟨c,hc,rfl⟩:=XC hx
       have x9:c<k:=gg.2 c (aE hc);refine⟨_,rfl,_,rfl,m6,_,_,_,rfl,rfl,.of (sC _ _ hH),Zln (by omega),?_⟩;have:=g2 HC (Zv.refl _);have e:ZiF J (.int (c:Nat))=nV (J.getD c 0):=by
        show nV (J.getD (c:Int).toNat 0)=_;rw[Zj]
       rw[e] at this;exact this
      ·rw[ZcY] at hD
       refine⟨D,_,rfl,.inl ⟨.of hD,fun tp t6=>?_⟩⟩;have sE:=sD.trans (Zv.upd (o:=.tup ((Xp J gp).map nV)) t6);have hE:upd HD tp (.tup ((Xp J gp).map nV)) tp=some (.tup ((Xp J gp).map nV)):=Zt;generalize upd HD tp (.tup ((Xp J gp).map nV))=HE at sE hE ⊢;have RE:=R'.mono sE;have go:Gk k (Xp J gp):=ZiX o6 gg;have ey:(zs.map fun ns=>fc ((nI ns).map be))=(zs.map nI).map fun ns=>fc (ns.map be):=by rw[aP];rfl
       refine⟨_,rfl,_,rfl,F0,_,(zs.map fun ns=>fc ((nI ns).map be)),.tuple ((nI (Xp J gp)).map be),rfl,.inl (.of RE.1),ZeF _ _ RE.2.1 RE.2.2,.tup (.of (by rw[Zmw];exact hE)) (W3.ints _),by rw[ey];exact VI _,XJ _,ZaD _,_,rfl,?_⟩;rw[if_pos rfl,ZbZ];have zl:=RE.2.1;refine YG (fun h2=>?_) (fun h2=>?_)
       ·have h2:zs.contains (Xp J gp)=false:=by simpa using h2
        have e3:X9 zs (Xp J gp)=zs++[Xp J gp]:=by
         unfold X9;rw[if_neg (by rw[h2];decide)]
        refine⟨_,rfl,.inl ⟨rfl,_,.of RE.1⟩,_,rfl,F0,_,_,rfl,rfl,RE.1,by rw[Za];omega,?_⟩;refine⟨m8++[tp],_,_,rfl,(sH.trans sE).updr nF,by rw[Zz (fun z=>by have:=sE _ _ hH;rw[z,RE.1] at this;cases this)];exact sE _ _ hH,?_,?_⟩
        ·rw[o0,e3];exact RE.push hE
        ·rw[o0];exact Zgt n8 go
       ·have h2:zs.contains (Xp J gp)=true:=by simpa using h2
        have e3:X9 zs (Xp J gp)=zs:=by
         unfold X9;rw[if_pos h2]
        exact⟨m8,_,_,rfl,sH.trans sE,sE _ _ hH,by rw[o0,e3];exact RE,by rw[o0,e3];exact n8⟩
     ·rintro τ HH ⟨m8,w3,w4,rfl,sH,hH,R',n8⟩
      rw[t5,c9] at R' n8;exact⟨m,by omega,at'+1,m8,_,_,_,_,by rw[dM];rfl,sH,R',n8,by omega,hb⟩
   ·have Y:¬at'<M.length:=fun z=>h1 (decide_eq_true (by omega))
    have e:M=m5:=by
     cases m with
     |zero=>exact hb
     |succ m=>rw[bfs,if_neg Y] at hb;exact hb
    subst e;exact o5 _ _ ⟨at',bs,v3,v4,v5,rfl,sm,R,gd⟩
  case hend=>
   rintro n6 H1 ⟨at',bs,v3,v4,v5,rfl,sm,R,gd⟩;exact⟨_,rfl,q F0 bs H1 sm R⟩
end
end C51
namespace Pm
open PySem L2 PySem.Spec PyProof.Rows
open Tb
noncomputable def kvF (fd:List (List Nat))(m:Nat):List (List YE×V):=(ac m).map fun i=>(XF (fd.getD i []),.int (i:Nat))
theorem Zkv (fd:List (List Nat))(m:Nat):(kvF fd m).length=m:=by unfold kvF;rw[Za,Zg]
theorem Zku {fd:List (List Nat)}(J:fd.Nodup){m:Nat}(M:m<fd.length):WJ (kvF fd m) (XF (fd.getD m [])) (.int (m:Nat))=kvF fd (m+1):=by
 have:(kvF fd m).any (fun q=>decide (q.1=XF (fd.getD m [])))=false:=by
  rw[gC];intro h;rw[aY] at h;obtain⟨q,j,e⟩:=h;obtain⟨i,hi,rfl⟩:=aN.mp j;have hi:=ag.mp hi;have:=ZiA J (by omega) M (ZcQ (of_decide_eq_true e));omega
 unfold WJ;rw[this];unfold kvF;rw[cm,aR];rfl
theorem ZiE {fd:List (List Nat)}{y:List Nat}(q:y∈fd):fd.findIdx (· == y)<fd.length/\fd.getD (fd.findIdx (· == y)) []=y:=by
 have j:fd.findIdx (· == y)<fd.length:=dA.mpr ⟨y,q,beq_self_eq_true y⟩;refine⟨j,?_⟩;have:=fQ (p:=(· == y)) (w:=j);rw[Zb,Zf j];exact eq_of_beq this
theorem Zkt {fd:List (List Nat)}(J:fd.Nodup){y:List Nat}(M:y∈fd):YT (kvF fd fd.length) (XF y)=some (.int (fd.findIdx (· == y):Nat)):=by
 obtain⟨q,p2⟩:=ZiE M;unfold YT kvF;rw[List.find?_map];have:(ac fd.length).find? ((fun O:List YE×V=>decide (O.1=XF y)) ∘ fun i:Nat=>((XF (fd.getD i []),V.int (i:Nat)):List YE×V))=some (fd.findIdx (· == y)):=by
  rw[ke];refine⟨decide_eq_true (show XF (fd.getD (fd.findIdx (· == y)) [])=XF y by rw[p2]),ag.mpr q,fun j Y=>?_⟩;rw[fm];refine decide_eq_false fun h=>?_;have:=ZiA J (by omega) q ((ZcQ h).trans p2.symm);omega
 rw[this];rfl
theorem Zjn {fd:List (List Nat)}{i:Nat}(J:i<fd.length):(Y7 fd).getD i []=(ac fd.length).map fun j=>fd.findIdx (· == Xp (fd.getD i []) (fd.getD j [])):=by
 unfold Y7;rw[Zb,Zc,getL J];show fd.map (fun b=>fd.findIdx (· == Xp (fd.getD i []) b))=_;refine bq fun j=>?_;rw[Zc,Zc];by_cases q:j<fd.length
 ·rw[getL q,ao q]
  rfl
 ·rw[ak (by omega),ak (by rw[Zg];omega)]
  rfl
theorem ZdI {H:Hp}{L:Addr}{bs:List Addr}{fd:List (List Nat)}{Q:VK}(R:TupsAt H L bs fd)(n6:fd.length<64)(m5:∀y∈fd,y≠[])(q:∀D cs O H',Zv H H'->H D=none->TupsAt H' D cs O->Srt O->bP O fd->Q (.ref D) H'):ZdO true [.ref L] H Q:=by
 have hl:bs.length=fd.length:=R.2.1;refine⟨L,bs,fd.map nI,rfl,R.1,by rw[hl,Za],by omega,fun i a ha=>?_,fun D M nD pj hs=>?_⟩
 ·have hi:=(ae.mp ha).1
  have Y:i<fd.length:=by omega
  have h:=R.2.2 i a ha;refine⟨nI (fd.getD i []),by rw[Zc,getL Y];rfl,fun z=>?_,?_⟩
  ·refine m5 _ (Zbt Y) ?_
   unfold nI at z;exact List.map_eq_nil_iff.mp z
  ·show H a=some (.tup ((nI (fd.getD i [])).map V.int))
   rw[Zmw];exact h
 ·have hj:∀j∈M,j<fd.length:=fun j hj=>by
   have:=ag.mp (pj.mem_iff.mp hj);omega
  have s:=Zv.upd (H:=H) (o:=.lst ((M.map fun i=>bs.getD i 0).map V.ref)) nD;refine q D (M.map fun i=>bs.getD i 0) (M.map fun i=>fd.getD i []) _ s nD ⟨Zt,by rw[Za,Za],fun i b hb=>?_⟩ ?_ ?_
  ·rw[Zc] at hb
   cases J:M[i]? with
   |none=>rw[J] at hb;cases hb
   |some j=>
    rw[J] at hb;have hb:bs.getD j 0=b:=aA hb;have n8:=hj j (aE J);have m6:bs[j]?=some (bs.getD j 0):=by rw[Zb,Zf (show j<bs.length by omega)];rfl
    have:=s _ _ (R.2.2 j _ m6);rw[hb] at this;rw[Zb (l:=M.map _),Zc,J];exact this
  ·unfold Srt
   rw[aP];have e:M.map (nI ∘ fun i=>fd.getD i [])=M.map fun i=>(fd.map nI).getD i []:=aX fun j m8=>by
    show nI (fd.getD j [])=_;rw[Zb (l:=fd.map nI),Zc,getL (hj j m8)];rfl
   rw[e];exact hs
  ·have:=pj.map fun i=>fd.getD i []
   rw[hl] at this;have e:(ac fd.length).map (fun i=>fd.getD i [])=fd:=by
    refine bq fun i=>?_;rw[Zc];by_cases hi:i<fd.length
    ·rw[ao hi,getL hi];rfl
    ·rw[ak (by rw[Zg];omega),ak (by omega)];rfl
   rwa [e] at this
noncomputable def Zgq (H:Hp)(W:Addr):Hp:=fun b=>if b=W then none else H b
theorem ZbW {H:Hp}{W b:Addr}{o:HO}(h:H b=some o)(hb:b≠W):Zgq H W b=some o:=by unfold Zgq;rw[if_neg hb];exact h
theorem ZeO {H:Hp}{W b:Addr}{o:HO}(h:Zgq H W b=some o):b≠W/\H b=some o:=by
 unfold Zgq at h;by_cases z:b=W
 ·rw[if_pos z] at h;cases h
 ·rw[if_neg z] at h
  exact⟨z,h⟩
end Pm
namespace C51
open PySem L2 PySem.Spec PyProof.Rows
open Tb Pm
structure ZoR (k:Nat)(fs:List (List Nat)):Prop where
 k1:1<=k
 k9:k<=9
 n60:fs.length<=60
 nd:fs.Nodup
 st:Srt fs
 gk:∀g∈fs,Gk k g
 cl:∀a∈fs,∀b∈fs,Xp a b∈fs
inductive ZaR (vs:List V) (H:Hp) (Q:VK) (E03:XK):Prop
 |mk (L:Addr) (bs:List Addr) (fd fs:List (List Nat)) (k:Nat):(vs=[.ref L])->(TupsAt H L bs fd)->(fd.Perm fs)->(ZoR k fs)->(∀g H',Zv H H'->GT H' g (Y7 fs)->Q (.ref g) H')->ZaR vs H Q E03
section
variable {P:Program}{w:World}{K:aa}{mg:Str->Option Value}{base:Heap}
theorem ZfP {f:Addr}{fd:FuncData}(F:WI K "_law_times_of" "_law_times_of" ZdL f fd)(T:BlB mg):Ya P w K mg base Ym 1 f fd ["_law_perms"] ZaR:=by
 refine F.ok (FS (N:=["_law_perms", "_law_numbers", "_law_things", "_law_k", "_law_rows", "_law_one"])) (fun vs H Q E h=>?_) (fun p3 A p4 s H vs Q E hr h=>?_)
 ·obtain⟨L,bs,fd,fs,k,rfl,_⟩:=h;rfl
 ·obtain⟨L,bs,fd,fs,k,rfl,R0,pm,Z,q⟩:=h
  have hu:(A.deeper (envOfC "_law_times_of" (ZZ ZdL) s.heap.objs.size f p3)).units+1<cLine:=by have:=hr.un;omega
  refine⟨_,Zs (ZE 1 rfl ZhK)
   (Zs (ZE 2 rfl (cb (Zec true hr.units) T.sorted (pc (vn 0) Zu)))
   (Zs (ZM am rfl (JA T.range (pc (cb (Yx K) T.len (pc (vn 2) Zu)) Zu)) (gn 3)
    (Zw (Xe hu (vn 1) (ZF (Ji K) (vn 2) (vn 3) (fun _ _=>rfl)) (vn 3) (by rfl))))
   (Zs (ZE 4 rfl (ZQ Zu))
   (Zs (ZM am rfl (itL K (vn 2)) (gnf 5 rfl)
    (Zw (Yu (Wj aK aQ aT Z7 (vn 4) (pc (ct (ZgL K) T.tuple (pc (cmp ["_law_other"] [1,5] ["_law_other", "_law_numbers", "_law_one"] rfl (itL K (vn 2)) (fun _ _ _ _ _=>gn 0) (fun _ _ _ _ _=>Z0)
     (fun _ _ _ _ _=>WK hu (vn 1) (ct (tupK K) (by exact T.tuple) (pc (cmp ["_law_place"] [2] ["_law_place", "_law_one"] rfl (itT K (vn 0)) (fun _ _ _ _ _=>gn 0) (fun _ _ _ _ _=>Z0) (fun _ _ _ _ _=>ZF (Xt K) (vn 1) (vn 0) (fun _ _=>rfl))) Zu)) (fun _ _=>rfl))) Zu)) Zu)))))
   (Zw (ZJ (ct ZX T.tuple (pc (vn 4) Zu)))))))),?_⟩
  have sz:(16777216:Nat)=sizeLine:=by decide
  have u5:=Z.n60;have k1:=Z.k1;have k9:=Z.k9;have fl:=pm.length_eq;intro O o0;have s1:=Zv.upd (H:=H) (o:=.dT []) o0;have m5:upd H O (.dT []) O=some (.dT []):=Zt;generalize upd H O (.dT [])=H1 at s1 m5 ⊢;refine⟨_,rfl,?_⟩;unfold ZgQ
  try dsimp only
  refine ZdI (R0.mono s1) (by omega) (fun y hy z=>?_) fun Th cs J H2 s2 p6 R2 hs pz=>?_
  ·have:=(Z.gk y (pm.mem_iff.mp hy)).1
   rw[z] at this;simp at this;omega
  have ez:J=fs:=hs.eq Z.st (pz.trans pm);subst ez;have p7:=s1.trans s2;have o5:=s2 _ _ m5;have p8:O≠Th:=fun z=>by rw[z,p6] at m5;cases m5
  have cl:(cs.map V.ref).length=J.length:=by rw[Za,R2.2.1]
  refine⟨_,rfl,Th,_,rfl,.inl (.of R2.1),_,rfl,by rw[cl];omega,by rw[cl];omega,?_⟩;rw[cl,Zj];have kT:∀{Y:Hp},Zv (Zgq H2 O) Y->TupsAt Y Th cs J:=fun {Y} sm=>⟨sm _ _ (ZbW R2.1 (bd p8)),R2.2.1,fun i b hb=>sm _ _ (ZbW (R2.2.2 i b hb) fun z=>by have:=R2.2.2 i b hb;rw[z,o5] at this;cases this)⟩;refine Z8 (fun i M Y=>∃v3 v4 v5:Option V,M=[some (.ref L),some (.ref O),some (.ref Th),v3,v4,v5]/\Zv (Zgq H2 O) Y/\Y O=some (.dT (kvF J i))) ⟨_,_,_,rfl,fun b o hb=>(ZeO hb).2,o5⟩ ?_ ?_
  ·rintro i M H3 hi ⟨v3,v4,v5,rfl,s3,m6⟩
   rw[show (0:Int)+(i:Int)=(i:Int) by omega];have R3:=kT s3;obtain⟨b,hb,q0,r6⟩:=R3.get hi;refine⟨_,rfl,_,rfl,_,rfl,_,rfl,Th,_,_,_,rfl,rfl,.of R3.1,q0,O,_,rfl,Vz.t (k:=XF (J.getD i [])) m6 (by rw[Zii];exact r6) (by rw[Zkv];omega),?_⟩;rw[Zku Z.nd hi];refine⟨_,_,_,rfl,fun b o hb=>?_,Zt⟩;rw[Zz (ZeO hb).1];exact s3 b o hb
  ·rintro M H3 ⟨v3,v4,v5,rfl,s3,m6⟩
   have R3:=kT s3;have o6:Zv H H3:=fun b o hb=>s3 b o (ZbW (p7 _ _ hb) fun z=>by rw[z,o0] at hb;cases hb);refine⟨(by show 0<=sizeLine;decide),fun Lr m8=>?_⟩;have s4:=Zv.upd (H:=H3) (o:=.lst []) m8;have h4:upd H3 Lr (.lst []) Lr=some (.lst ([]:List V)):=Zt;have u9:H Lr=none:=o6.free m8;generalize upd H3 Lr (.lst [])=H4 at s4 h4 ⊢;have R4:=R3.mono s4;refine⟨_,rfl,Th,rfl,⟨_,.of R4.1⟩,?_⟩;refine WL (H0:=H3) (YV (K:=K) (.of R3.1)) (fun i M Y=>∃(rs:List Addr) (v5:Option V),M=[some (.ref L),some (.ref O),some (.ref Th),v3,some (.ref Lr),v5]/\Zv H3 Y/\Y Lr=some (.lst (rs.map V.ref))/\rs.length=i/\∀(j:Nat) x,rs[j]?=some x->Tz Y x (((Y7 J).getD j []).map nV))
    ⟨[],_,rfl,s4,h4,rfl,fun j x h=>by cases h⟩ (fun i M Y h=>by
     obtain⟨_,_,_,sm,_⟩:=h;exact sm) ?_ ?_
   ·rintro i y M H5 hy ⟨rs,v5,rfl,s5,h5,rl,n6⟩
    obtain⟨c,rfl,hi,hc⟩:=R3.ref hy;have R5:=R3.mono s5;have r8:=s5 _ _ hc;have gi:=Z.gk _ (Zbt hi);have mi:=Zbt hi;have et:=Zjn hi;refine⟨_,rfl,.inl ⟨rfl,_,.of h5⟩,_,rfl,Th,rfl,⟨_,.of R5.1⟩,?_⟩;refine Pm.WZ (YV (K:=K) (.of R5.1)) [some (.ref O),some (.ref c)] rfl (fun j=>nV (J.findIdx (· == Xp (J.getD i []) (J.getD j [])))) (by rw[cl];omega) (fun j y' t5 H6 s6 R' k6=>?_) (fun D6 H6 w8 s6 o7=>?_)
    ·obtain⟨d,rfl,hj,hd⟩:=R5.ref t5
     have gj:=Z.gk _ (Zbt hj);have mj:=Zbt hj;have n8:=s6 _ _ hd;have o8:=s6 _ _ r8;have fin:=k6;generalize J.getD i []=x at gi mi o8 fin;generalize J.getD j []=y at gj mj n8 fin;refine⟨_,rfl,_,rfl,d,rfl,⟨_,.of n8⟩,?_⟩;refine Ju (Wq (K:=K) (.of n8)) [some (.ref c)] rfl (ZiF x) (by rw[Za,gj.1];omega) (fun u v H7 hv s7 w9 k7=>?_) (fun D7 H7 x9 s7 o9=>?_)
     ·obtain⟨e,he,rfl⟩:=XC hv
      have t6:e<k:=gj.2 e (aE he);refine⟨_,rfl,_,rfl,c,_,_,_,rfl,rfl,.of (s7 _ _ o8),Zln (by rw[gi.1];exact t6),?_⟩;have:=k7 H7 (Zv.refl _);have e2:ZiF x (.int (e:Nat))=nV (x.getD e 0):=by
       show nV (x.getD (e:Int).toNat 0)=_;rw[Zj]
      rw[e2] at this;exact this
     ·rw[ZcY] at o9
      refine⟨D7,_,rfl,.inl ⟨.of o9,fun tp t7=>?_⟩⟩;have s8:=s7.trans (Zv.upd (H:=H7) (o:=.tup ((Xp x y).map nV)) t7);have h8:upd H7 tp (.tup ((Xp x y).map nV)) tp=some (.tup ((Xp x y).map nV)):=Zt;generalize upd H7 tp (.tup ((Xp x y).map nV))=H8 at s8 h8 ⊢;have t9:=((s5.trans s6).trans s8) _ _ m6;have dg:=Jk.t (k:=XF (Xp x y)) t9 (by rw[Zii];exact h8);rw[Zkt Z.nd (Z.cl x mi y mj)] at dg;exact⟨O,_,rfl,dg,fin H8 s8⟩
    ·rw[cl] at o7
     refine⟨D6,_,rfl,.of o7,fun l H7 nl s7 hz=>?_⟩;have n9:=s6.trans s7;have h7:=n9 _ _ h5;refine⟨Lr,_,_,rfl,rfl,h7,by rw[Za,rl];omega,?_⟩;refine⟨rs++[l],_,rfl,(s5.trans n9).updr m8,by rw[Zt,aR];rfl,by rw[Zd,rl];rfl,fun j x hx=>?_⟩;by_cases hj:j<rs.length
     ·rw[au hj] at hx
      exact Tz.updL ((n6 j x hx).mono n9) h7
     ·have hl:=(ae.mp hx).1
      rw[Zd,Zk] at hl;have ej:j=rs.length:=by omega
      rw[aw (by omega),ej,cD] at hx;cases hx;have ez:((ac J.length).map fun j=>nV (J.findIdx (· == Xp (J.getD i []) (J.getD j []))))=((Y7 J).getD rs.length []).map nV:=by rw[rl,et,aP];rfl
      rw[ej];rw[ez] at hz;exact Tz.updL hz h7
   ·rintro M H5 ⟨rs,v5,rfl,s5,h5,rl,n6⟩
    rw[cl] at rl;refine⟨_,rfl,Lr,_,rfl,.inl ⟨.of h5,fun g ng=>?_⟩⟩;have s6:=Zv.upd (H:=H5) (o:=.tup (rs.map V.ref)) ng;exact q g _ ((o6.trans s5).trans s6) ⟨rs,Zt,by unfold Y7;rw[Za,rl],fun i x hx=>(n6 i x hx).mono s6⟩
end
end C51
namespace Tb
section
variable {t:List (List Nat)}
noncomputable def YL (t:List (List Nat))(a:Nat):Nat:=((ac t.length).find? fun b=>ZT t a b == 0).getD 0
theorem Yo (P:PW t){a:Nat}(j:a<t.length):YL t a<t.length/\ZT t a (YL t a)=0:=by
 obtain⟨r,R⟩:=P.rd a j;unfold YL;cases h:(ac t.length).find? fun b=>ZT t a b == 0 with
 |none=>
  exfalso;rw[iV] at h;exact h _ (ag.mpr (YW P j (r-1))) (by rw[R.bk];rfl)
 |some b=>
  have q:=ag.mp (gu h);have J:=jI h;exact⟨q,by simpa using J⟩
theorem ZiW (P:PW t){a r:Nat}(j:a<t.length)(R:Rd t a r):it t a (r-1)=YL t a:=((R.un _ (Yo P j).1 (Yo P j).2)).symm
theorem XL (P:PW t){a b:Nat}(j:a<t.length)(hb:b<t.length)(h:ZT t a b=0):b=YL t a:=by
 obtain⟨r,R⟩:=P.rd a j;rw[<-ZiW P j R];exact R.un b hb h
theorem ZaL (P:PW t){a:Nat}(j:a<t.length):ZT t (YL t a) a=0:=by
 obtain⟨q,O⟩:=Yo P j;obtain⟨J,M⟩:=Yo P q;have e:a=YL t (YL t a):=by
  have:=P.ass a (YL t a) (YL t (YL t a)) j q J;rw[O,M,P.one _ J,P.oneR a j] at this;exact this.symm
 conv=>lhs;rw[e]
 rw[<-e]
 conv=>lhs;rw[e]
 rw[<-e];rw[show ZT t (YL t a) a=ZT t (YL t a) (YL t (YL t a)) by rw[<-e]];exact M
noncomputable def tb (t:List (List Nat))(b x:Nat):Nat:=ZT t (ZT t x b) (YL t x)
theorem VA (P:PW t){b x:Nat}(hb:b<t.length)(j:x<t.length):tb t b x<t.length:=P.lt _ _ (P.lt _ _ j hb) (Yo P j).1
theorem ZaN (P:PW t){b:Nat}(hb:b<t.length):tb t b 0=b:=by
 have j:=P.n1;have e:YL t 0=0:=(XL P (by omega) (by omega) (P.one 0 (by omega))).symm;unfold tb;rw[e,P.one b hb,P.oneR b hb]
theorem VS (P:PW t){b x:Nat}(hb:b<t.length)(j:x<t.length):ZT t (ZT t (YL t x) (tb t b x)) x=b:=by
 obtain⟨q,_⟩:=Yo P j;have J:=ZaL P j;unfold tb;rw[<-P.ass (YL t x) (ZT t x b) (YL t x) q (P.lt _ _ j hb) q,<-P.ass (YL t x) x b q j hb,J,P.one b hb,P.ass b (YL t x) x hb q j,J,P.oneR b hb]
theorem ZaO (P:PW t){b k x y:Nat}(hb:b<t.length)(hk:k<t.length)(q:x<t.length)(j:y<t.length)(h:tb t b x=tb t k y):∃z,z<t.length/\tb t b z=k:=by
 obtain⟨J,x2⟩:=Yo P q;obtain⟨M,y2⟩:=Yo P j;have yl:=ZaL P j;have Y:=P.lt _ _ M q;refine⟨ZT t (YL t y) x,Y,?_⟩;have e1:YL t (ZT t (YL t y) x)=ZT t (YL t x) y:=by
  refine (XL P Y (P.lt _ _ J j) ?_).symm;rw[P.ass _ x _ M q (P.lt _ _ J j),<-P.ass x (YL t x) y q J j,x2,P.one y j,yl]
 have O:=VS P hk j;rw[<-h] at O;unfold tb at O ⊢;rw[e1,P.ass (YL t y) x b M q hb,<-P.ass (ZT t (YL t y) (ZT t x b)) (YL t x) y (P.lt _ _ M (P.lt _ _ q hb)) J j,P.ass (YL t y) (ZT t x b) (YL t x) M (P.lt _ _ q hb) J];exact O
noncomputable def Z2 (t:List (List Nat))(b:Nat):List Nat:=(ac t.length).filter fun a=>(ac t.length).any fun x=>tb t b x == a
theorem Yi (P:PW t){b a:Nat}(hb:b<t.length):a∈Z2 t b↔∃x,x<t.length/\tb t b x=a:=by
 unfold Z2;rw[eR,aY];constructor
 ·rintro⟨_,x,j,e⟩
  exact⟨x,ag.mp j,by simpa using e⟩
 ·rintro⟨x,j,e⟩
  exact⟨ag.mpr (e▸VA P hb j),x,ag.mpr j,by simpa using e⟩
theorem Vr {b a:Nat}(h:a∈Z2 t b):a<t.length:=ag.mp (eR.mp h).1
theorem Zc5 (b:Nat):(Z2 t b).Pairwise (· < ·):=c7 lV hU
theorem Zfj (b:Nat):(Z2 t b).length<=t.length:=by
 have:=lq (fun a=>(ac t.length).any fun x=>tb t b x == a) (ac t.length);rw[Zg] at this;exact this
theorem Y1 (P:PW t){b:Nat}(hb:b<t.length):b∈Z2 t b:=(Yi P hb).mpr ⟨0,by have:=P.n1;omega,ZaN P hb⟩
theorem YS (P:PW t){b k a:Nat}(hb:b<t.length)(j:k<t.length)(q:a∈Z2 t b)(J:a∈Z2 t k):k∈Z2 t b:=by
 obtain⟨x,M,O⟩:=(Yi P hb).mp q;obtain⟨y,Y,e2⟩:=(Yi P j).mp J;exact (Yi P hb).mpr (ZaO P hb j M Y (O.trans e2.symm))
noncomputable def ZD (t:List (List Nat)):Nat->List (List Nat)
 |0=>[]
 |k+1=>if (ZD t k).any (·.contains k) then ZD t k else ZD t k++[Z2 t k]
noncomputable def Yt (j:List (List Nat))(a:Nat):Bool:=j.any (·.contains a)
theorem Jc (P:PW t):∀k,k<=t.length->∀c∈ZD t k,∃b,b<k/\c=Z2 t b
 |0,_,c,h=>by cases h
 |k+1,J,c,h=>by
  unfold ZD at h;split at h
  ·obtain⟨b,q,j⟩:=Jc P k (by omega) c h
   exact⟨b,by omega,j⟩
  ·rcases bS.mp h with h|h
   ·obtain⟨b,q,j⟩:=Jc P k (by omega) c h
    exact⟨b,by omega,j⟩
   ·exact⟨k,by omega,aU.mp h⟩
theorem Jv (P:PW t):∀k,k<=t.length->∀b,b<k->Yt (ZD t k) b=true
 |0,_,b,h=>by omega
 |k+1,q,b,h=>by
  unfold Yt ZD;split
  ·rename_i j
   by_cases e:b=k
   ·subst e;exact j
   ·exact Jv P k (by omega) b (by omega)
  ·rw[im,bu]
   by_cases e:b=k
   ·subst e
    right;rw[c6,kF,gJ];exact aB.mpr (Y1 P (by omega))
   ·left
    exact Jv P k (by omega) b (by omega)
theorem X7 (P:PW t):∀k,k<=t.length->∀(i j:Nat) (c d:List Nat) (a:Nat),(ZD t k)[i]?=some c->(ZD t k)[j]?=some d->a∈c->a∈d->i=j
 |0,_,i,j,c,d,a,h,_,_,_=>by cases h
 |k+1,hk,i,j,c,d,a,J,q,Y,h4=>by
  have ih:=X7 P k (by omega);unfold ZD at J q;split at J
  ·rename_i hc
   rw[if_pos hc] at q;exact ih i j c d a J q Y h4
  ·rename_i hc
   rw[if_neg hc] at q;have O:∀c,c∈ZD t k->∀a,a∈c->a∈Z2 t k->False:=fun c hm a ha m5=>by
    obtain⟨b,hb,rfl⟩:=Jc P k (by omega) c hm;have:=YS P (by omega) (by omega) ha m5;exact hc (aY.mpr ⟨_,hm,aB.mpr this⟩)
   by_cases hi:i<(ZD t k).length
   ·rw[au hi] at J
    by_cases hj:j<(ZD t k).length
    ·rw[au hj] at q
     exact ih i j c d a J q Y h4
    ·rw[aw (by omega)] at q
     have hd:d=Z2 t k:=by
      cases M:j-(ZD t k).length with
      |zero=>rw[M] at q;cases q;rfl
      |succ m=>rw[M] at q;cases q
     subst hd;exact (O c (aE J) a Y h4).elim
   ·rw[aw (by omega)] at J
    have m6:c=Z2 t k/\i=(ZD t k).length:=by
     cases M:i-(ZD t k).length with
     |zero=>rw[M] at J;cases J;exact⟨rfl,by omega⟩
     |succ m=>rw[M] at J;cases J
    obtain⟨rfl,ei⟩:=m6;by_cases hj:j<(ZD t k).length
    ·rw[au hj] at q
     exact (O d (aE q) a h4 Y).elim
    ·rw[aw (by omega)] at q
     cases M:j-(ZD t k).length with
     |zero=>omega
     |succ m=>rw[M] at q;cases q
theorem W0:∀k,(ZD t k).length<=k
 |0=>Zq _
 |k+1=>by
  have:=W0 k;unfold ZD;split
  ·omega
  ·rw[Zd,Zk];omega
end
section
variable {t:List (List Nat)}
noncomputable def sm (n:Nat)(f:Nat->Nat):Nat:=((ac n).map f).sum
theorem Yz {n:Nat}{f g:Nat->Nat}(h:∀x,x<n->f x=g x):sm n f=sm n g:=by
 unfold sm;rw[aX fun x j=>h x (ag.mp j)]
theorem Y3 (n:Nat)(f:Nat->Nat):sm (n+1) f=sm n f+f n:=by
 unfold sm;rw[cm,aR,List.sum_append];simp
theorem Zjv (n:Nat):sm n (fun _=>0)=0:=by
 induction n with
 |zero=>rfl
 |succ n j=>rw[Y3,j]
theorem ZlW (n:Nat)(f g:Nat->Nat):sm n (fun x=>f x+g x)=sm n f+sm n g:=by
 induction n with
 |zero=>rfl
 |succ n j=>rw[Y3,Y3,Y3,j];omega
theorem ZdK (n k:Nat)(f:Nat->Nat):sm n (fun x=>k*f x)=k*sm n f:=by
 induction n with
 |zero=>rfl
 |succ n j=>rw[Y3,Y3,j,jF]
theorem Zjw (n m:Nat)(f:Nat->Nat->Nat):sm n (fun x=>sm m fun y=>f x y)=sm m (fun y=>sm n fun x=>f x y):=by
 induction n with
 |zero=>exact (Zjv m).symm
 |succ n j=>
  rw[Y3,j,<-ZlW];exact Yz fun y _=>(Y3 n fun x=>f x y).symm
theorem Za6 {n:Nat}{c d:Nat->Nat}(M:∀x,x<n->c x<n)(O:∀x,x<n->d x<n)(q:∀x,x<n->d (c x)=x)(Y:∀x,x<n->c (d x)=x)(f:Nat->Nat):sm n (fun x=>f (c x))=sm n f:=by
 unfold sm;have hp:bP ((ac n).map c) (ac n):=by
  refine (cM ?_ eC).mpr fun k=>?_
  ·unfold List.Nodup
   rw[gA];refine dR (fun {a b} ha hb j z=>j ?_) eC;rw[<-q a (ag.mp ha),z,q b (ag.mp hb)]
  ·rw[aN]
   constructor
   ·rintro⟨x,hx,rfl⟩
    exact ag.mpr (M x (ag.mp hx))
   ·intro J
    exact⟨d k,ag.mpr (O k (ag.mp J)),Y k (ag.mp J)⟩
 have:=(hp.map f).sum_nat;rw[aP] at this;exact this
theorem Zjm (P:PW t){s:Nat}(q:s<t.length)(f:Nat->Nat):sm t.length (fun x=>f (tb t x s))=sm t.length f:=by
 obtain⟨J,O⟩:=Yo P q;have M:=ZaL P q;have e:YL t (YL t s)=s:=(XL P J q M).symm;refine Za6 (c:=fun x=>tb t x s) (d:=fun x=>tb t x (YL t s)) (fun x j=>VA P j q) (fun x j=>VA P j J) (fun x j=>?_) (fun x j=>?_) f
 ·show tb t (tb t x s) (YL t s)=x
  have:=VS P j q;unfold tb at this ⊢;rw[e];exact this
 ·show tb t (tb t x (YL t s)) s=x
  have:=VS P j J;rw[e] at this;unfold tb at this ⊢;rw[e] at this ⊢;exact this
theorem Zdo (P:PW t){s x y:Nat}(j:s<t.length)(M:x<t.length)(J:y<t.length):tb t (ZT t x y) s=ZT t (tb t x s) (tb t y s):=by
 obtain⟨q,_⟩:=Yo P j;have hl:=ZaL P j;have O:=P.lt _ _ j M;have Y:=P.lt _ _ j J;unfold tb;rw[P.ass (ZT t s x) (YL t s) (ZT t (ZT t s y) (YL t s)) O q (P.lt _ _ Y q),<-P.ass (YL t s) (ZT t s y) (YL t s) q Y q,<-P.ass (YL t s) s y q j J,hl,P.one y J,<-P.ass s x y j M J,P.ass (ZT t s x) y (YL t s) O J q]
theorem Xc (P:PW t){s:Nat}(j:s<t.length):tb t 0 s=0:=by
 have q:=P.n1;unfold tb;rw[P.oneR s j,(Yo P j).2]
theorem ZlN (P:PW t){s x:Nat}(j:s<t.length)(q:x<t.length):YL t (tb t x s)=tb t (YL t x) s:=by
 obtain⟨J,M⟩:=Yo P q;refine (XL P (VA P q j) (VA P J j) ?_).symm;rw[<-Zdo P j q J,M,Xc P j]
theorem Zic (P:PW t){x:Nat}(q:x<t.length)(F:Nat->Nat->Nat):sm t.length (fun y=>F y (ZT t x y))=sm t.length (fun w=>F (ZT t (YL t x) w) w):=by
 obtain⟨J,O⟩:=Yo P q;have M:=ZaL P q;have:=Za6 (c:=fun y=>ZT t x y) (d:=fun y=>ZT t (YL t x) y) (fun y j=>P.lt _ _ q j) (fun y j=>P.lt _ _ J j) (fun y j=>by
  show ZT t (YL t x) (ZT t x y)=y;rw[<-P.ass _ _ _ J q j,M,P.one y j]) (fun y j=>by
  show ZT t x (ZT t (YL t x) y)=y;rw[<-P.ass _ _ _ q J j,O,P.one y j]) (fun w=>F (ZT t (YL t x) w) w)
 rw[<-this];refine Yz fun y j=>?_;show F y (ZT t x y)=F (ZT t (YL t x) (ZT t x y)) (ZT t x y);rw[<-P.ass _ _ _ J q j,M,P.one y j]
noncomputable def Xu (b:Bool):Nat:=if b then 1 else 0
theorem Zg4 {n z:Nat}(hz:z<n)(f:Nat->Nat):sm n (fun w=>Xu (decide (w=z))*f w)=f z:=by
 have j:∀m,m<=n->sm m (fun w=>Xu (decide (w=z))*f w)=if z<m then f z else 0:=fun m=>by
  induction m with
  |zero=>intro _;rfl
  |succ m q=>
   intro J;rw[Y3,q (by omega)];by_cases e:m=z
   ·subst e
    rw[if_neg (bV _),if_pos (cL _),decide_eq_true rfl];show 0+1*f m=f m;omega
   ·rw[decide_eq_false e]
    show _+0*f m=_;by_cases h:z<m
    ·rw[if_pos h,if_pos (by omega)];omega
    ·rw[if_neg h,if_neg (by omega)];omega
 rw[j n (Zq _),if_pos hz]
noncomputable def cnA (t:List (List Nat))(q:Nat->Nat)(i j z:Nat):Nat:=sm t.length fun x=>Xu (decide (q x=i))*Xu (decide (q (ZT t (YL t x) z)=j))
section
variable {nu:Nat->Nat}
theorem Zgk (P:PW t){i j z:Nat}(hz:z<t.length):sm t.length (fun x=>sm t.length fun y=>Xu (decide (nu x=i))*(Xu (decide (nu y=j))*Xu (decide (ZT t x y=z))))=cnA t nu i j z:=by
 unfold cnA;refine Yz fun x q=>?_;rw[ZdK,Zic P q (fun y w=>Xu (decide (nu y=j))*Xu (decide (w=z)))];congr 1;have:sm t.length (fun w=>Xu (decide (nu (ZT t (YL t x) w)=j))*Xu (decide (w=z)))=sm t.length (fun w=>Xu (decide (w=z))*Xu (decide (nu (ZT t (YL t x) w)=j))):=Yz fun w _=>fu _ _;rw[this,Zg4 hz fun w=>Xu (decide (nu (ZT t (YL t x) w)=j))]
end
end
structure Nus (t:List (List Nat))(nu rep:Nat->Nat)(N:Nat):Prop where
 lt:∀x,x<t.length->nu x<N
 con:∀x s,x<t.length->s<t.length->nu (tb t x s)=nu x
 tr:∀x y,x<t.length->y<t.length->nu x=nu y->∃s,s<t.length/\tb t x s=y
 rl:∀k,k<N->rep k<t.length
 rn:∀k,k<N->nu (rep k)=k
 z:∀x,x<t.length->(nu x=0↔x=0)
section
variable {t:List (List Nat)}{nu rep:Nat->Nat}{N:Nat}
end
section
variable {t1 t2 T:List (List Nat)}
end
section
variable {t:List (List Nat)}{On:Nat->List Nat}{n:Nat}
end
section
variable {t:List (List Nat)}{o:List Nat}
end
section
variable {t:List (List Nat)}{o o2:List Nat}
noncomputable def Y6 (t:List (List Nat))(b:Nat):Nat:=(ZD t t.length).findIdx (·.contains b)
theorem US (P:PW t){b:Nat}(hb:b<t.length):Y6 t b<(ZD t t.length).length/\b∈(ZD t t.length).getD (Y6 t b) []:=by
 have q:=Jv P t.length (Zq _) b hb;unfold Yt at q;obtain⟨c,J,hm⟩:=aY.mp q;have j:(ZD t t.length).findIdx (·.contains b)<(ZD t t.length).length:=je ⟨c,J,hm⟩;refine⟨j,?_⟩;have M:=fQ (w:=j);unfold Y6;rw[Zb,Zf j];exact aB.mp M
theorem Vo {α:Type}{l:List (List α)}{i:Nat}(h:i<l.length):l[i]?=some (l.getD i []):=by
 rw[Zb,Zf h];rfl
theorem ZbR (P:PW t){b i:Nat}(hb:b<t.length)(j:i<(ZD t t.length).length)(q:b∈(ZD t t.length).getD i []):Y6 t b=i:=by
 obtain⟨J,M⟩:=US P hb;exact X7 P t.length (Zq _) _ _ _ _ b (Vo J) (Vo j) M q
theorem Zea (P:PW t){i:Nat}(j:i<(ZD t t.length).length):∃b,b<t.length/\(ZD t t.length).getD i []=Z2 t b:=Jc P t.length (Zq _) _ (aE (Vo j))
theorem ZiO (P:PW t){b x:Nat}(hb:b<t.length)(j:x<t.length):Y6 t (tb t b x)=Y6 t b:=by
 have M:=VA P hb j;obtain⟨q,J⟩:=US P M;obtain⟨c,O,e⟩:=Zea P q;have Y:tb t b x∈Z2 t b:=(Yi P hb).mpr ⟨x,j,rfl⟩;rw[e] at J;have h4:=YS P O hb J Y;exact (ZbR P hb q (by rw[e];exact h4)).symm
theorem ZbT (P:PW t){i:Nat}(q:i<(ZD t t.length).length):((ZD t t.length).getD i []).getD 0 0∈(ZD t t.length).getD i []/\((ZD t t.length).getD i []).getD 0 0<t.length:=by
 obtain⟨b,hb,e⟩:=Zea P q;rw[e];have j:=Y1 P hb;have:(Z2 t b).getD 0 0∈Z2 t b:=by
  cases h:Z2 t b with
  |nil=>rw[h] at j;cases j
  |cons x r=>exact ax
 exact⟨this,Vr this⟩
end
noncomputable def ZO (t:List (List Nat))(k:Nat):Nat:=((ZD t t.length).getD k []).getD 0 0
section
variable {t:List (List Nat)}
theorem JH (P:PW t){k:Nat}(j:k<(ZD t t.length).length):∃b,b<t.length/\(ZD t t.length).getD k []=Z2 t b:=by
 have q:(ZD t t.length).getD k []∈ZD t t.length:=by
  rw[Zb,Zf j];exact bK j
 exact Jc P t.length (Zq _) _ q
theorem ZeD (P:PW t){k:Nat}(q:k<(ZD t t.length).length):ZO t k∈(ZD t t.length).getD k []:=by
 obtain⟨b,hb,e⟩:=JH P q;unfold ZO;rw[e];have j:=Y1 P hb;cases h:Z2 t b with
 |nil=>rw[h] at j;cases j
 |cons x r=>exact ax
theorem Zhr (P:PW t){k:Nat}(j:k<(ZD t t.length).length):ZO t k<t.length:=by
 obtain⟨b,hb,e⟩:=JH P j;have:=ZeD P j;rw[e] at this;exact Vr this
theorem Zck (P:PW t){x y:Nat}(j:x<t.length)(M:y<t.length)(h:Y6 t x=Y6 t y):∃s,s<t.length/\tb t x s=y:=by
 obtain⟨hk,Y⟩:=US P j;obtain⟨_,O⟩:=US P M;rw[<-h] at O;obtain⟨b,hb,e⟩:=JH P hk;rw[e] at Y O;obtain⟨u,hu,eu⟩:=(Yi P hb).mp Y;have m5:x∈Z2 t x:=Y1 P j;have J:b∈Z2 t x:=YS P j hb m5 Y;have:y∈Z2 t x:=by
  obtain⟨v,hv,ev⟩:=(Yi P hb).mp O;obtain⟨q,hq,eq⟩:=(Yi P j).mp J;have m6:b∈Z2 t y:=YS P M hb (Y1 P M) O;have m8:y∈Z2 t x:=YS P j M J m6;exact m8
 exact (Yi P j).mp this
theorem ZaE:∀k,(ZD t (k+1))[0]?=some (Z2 t 0)
 |0=>rfl
 |k+1=>by
  have j:=ZaE k;show (if (ZD t (k+1)).any (·.contains (k+1)) then ZD t (k+1) else ZD t (k+1)++[Z2 t (k+1)])[0]?=_
  split
  ·exact j
  ·rw[au (ae.mp j).1]
   exact j
theorem UR (P:PW t):Y6 t 0=0:=by
 obtain⟨k,j⟩:∃k,t.length=k+1:=⟨t.length-1,by have:=P.n1;omega⟩;have h:=ZaE (t:=t) k;rw[<-j] at h;have q:=(ae.mp h).1;refine ZbR P P.n1 q ?_;rw[Zb,h];exact Y1 P P.n1
theorem Y8 (P:PW t):Nus t (Y6 t) (ZO t) (ZD t t.length).length:=by
 have M:=UR P;refine⟨fun x j=>(US P j).1,fun x s j J=>ZiO P j J,fun x y j O h=>Zck P j O h,fun k q=>Zhr P q,fun k q=>ZbR P (Zhr P q) q (ZeD P q),fun x j=>⟨fun h=>?_,fun h=>by rw[h];exact M⟩⟩;obtain⟨s,J,e⟩:=Zck P P.n1 j (M.trans h.symm);rw[Xc P J] at e;exact e.symm
end
noncomputable def Wc (n:Nat)(f:Nat->Int):Int:=((ac n).map f).sum
theorem YA (n:Nat)(f:Nat->Int):Wc (n+1) f=Wc n f+f n:=by
 unfold Wc;rw[cm,aR,List.sum_append];simp
theorem Z5 {n:Nat}{f g:Nat->Int}(h:∀x,x<n->f x=g x):Wc n f=Wc n g:=by
 unfold Wc;rw[aX fun x j=>h x (ag.mp j)]
theorem JT (n:Nat):Wc n (fun _=>0)=0:=by
 induction n with
 |zero=>rfl
 |succ n j=>rw[YA,j];rfl
theorem Za8 (n:Nat)(f g:Nat->Int):Wc n (fun x=>f x+g x)=Wc n f+Wc n g:=by
 induction n with
 |zero=>rfl
 |succ n j=>rw[YA,YA,YA,j];omega
theorem Jz (n:Nat)(k:Int)(f:Nat->Int):Wc n (fun x=>k*f x)=k*Wc n f:=by
 induction n with
 |zero=>exact (bE k).symm
 |succ n j=>rw[YA,YA,j,lW]
theorem Zch (n m:Nat)(f:Nat->Nat->Int):Wc n (fun x=>Wc m fun y=>f x y)=Wc m (fun y=>Wc n fun x=>f x y):=by
 induction n with
 |zero=>
  show (0:Int)=_;exact (JT m).symm
 |succ n j=>
  rw[YA,j,<-Za8];exact Z5 fun y _=>(YA n _).symm
theorem XV {n:Nat}{p:Int}{f g:Nat->Int}(h:∀x,x<n->f x % p=g x % p):Wc n f % p=Wc n g % p:=by
 induction n with
 |zero=>rfl
 |succ n j=>
  rw[YA,YA,Int.add_emod,j fun x q=>h x (by omega),h n (by omega),<-Int.add_emod]
theorem Zeq {n z:Nat}(hz:z<n)(f:Nat->Int):Wc n (fun w=>if w=z then f w else 0)=f z:=by
 induction n with
 |zero=>omega
 |succ n j=>
  rw[YA];by_cases e:z=n
  ·subst e
   rw[if_pos rfl];have:Wc z (fun w=>if w=z then f w else 0)=Wc z (fun _=>0):=Z5 fun x q=>if_neg (by omega)
   rw[this,JT,cG]
  ·rw[j (by omega),if_neg (fun x=>e x.symm),bF]
theorem Za7 (n:Nat)(f:Nat->Nat):Wc n (fun x=>(f x:Int))=(sm n f:Nat):=by
 induction n with
 |zero=>rfl
 |succ n j=>rw[YA,Y3,j];omega
noncomputable def cjB (t:List (List Nat))(u x:Nat):Bool:=(ac t.length).any fun y=>tb t u y == x
theorem Vs {t:List (List Nat)}{u x:Nat}:cjB t u x=true↔∃y,y<t.length/\tb t u y=x:=by
 unfold cjB;rw[aY];constructor
 ·rintro⟨y,j,e⟩;exact⟨y,ag.mp j,eq_of_beq e⟩
 ·rintro⟨y,j,e⟩;exact⟨y,ag.mpr j,beq_iff_eq.mpr e⟩
structure PrM (p:Nat):Prop where
 p2:2<=p
 nz:∀a b,0<a->a<p->0<b->b<p->a*b % p≠0
 iv:∀a,0<a->a<p->∃b,0<b/\b<p/\b*a % p=1
structure CD (t:List (List Nat))(p m:Nat)(e w f:Nat->Nat->Nat):Prop where
 pr:PrM p
 m1:1<=m
 mc:m=(ZD t t.length).length
 ec:∀s x y,s<m->x<t.length->y<t.length->e s (tb t x y)=e s x
 wc:∀s x y,s<m->x<t.length->y<t.length->w s (tb t x y)=w s x
 elt:∀s x,s<m->x<t.length->e s x<p
 wlt:∀s x,s<m->x<t.length->w s x<p
 eig:∀s u z,s<m->u<t.length->z<t.length->sm t.length (fun x=>Xu (cjB t u x)*e s (ZT t (YL t x) z)) % p=w s u*e s z % p
 one:∀x,x<t.length->sm m (fun s=>e s x) % p=if x=0 then 1 else 0
 du:∀s s',s<m->s'<m->sm t.length (fun x=>f s x*e s' x) % p=if s=s' then 1 else 0
 sep:∀s s',s<m->s'<m->(∀u,u<t.length->w s u=w s' u)->s=s'
section
variable {t:List (List Nat)}{p m:Nat}{e w f:Nat->Nat->Nat}
theorem CD.p0 (C:CD t p m e w f):(p:Int)≠0:=by have:=C.pr.p2;omega
noncomputable def EC (t:List (List Nat))(e:Nat->Nat->Nat)(s c:Nat):Nat:=e s (ZO t c)
theorem CD.at (C:CD t p m e w f)(P:PW t){s x:Nat}(J:s<m)(q:x<t.length):e s x=EC t e s (Y6 t x):=by
 have U:=Y8 P;have j:=U.lt x q;obtain⟨y,M,h⟩:=U.tr (ZO t (Y6 t x)) x (U.rl _ j) q (U.rn _ j);have:=C.ec s _ y J (U.rl _ j) M;rw[h] at this;exact this
theorem CD.wat (C:CD t p m e w f)(P:PW t){s x:Nat}(J:s<m)(q:x<t.length):w s x=w s (ZO t (Y6 t x)):=by
 have U:=Y8 P;have j:=U.lt x q;obtain⟨y,M,h⟩:=U.tr (ZO t (Y6 t x)) x (U.rl _ j) q (U.rn _ j);have:=C.wc s _ y J (U.rl _ j) M;rw[h] at this;exact this
theorem ZiR (P:PW t){u x:Nat}(j:u<t.length)(J:x<t.length):cjB t u x=decide (Y6 t x=Y6 t u):=by
 have U:=Y8 P;by_cases h:Y6 t x=Y6 t u
 ·rw[decide_eq_true h]
  exact Vs.mpr (U.tr u x j J h.symm)
 ·rw[decide_eq_false h]
  cases q:cjB t u x with
  |false=>rfl
  |true=>
   obtain⟨y,M,e⟩:=Vs.mp q;have:=U.con u y j M;rw[e] at this;exact absurd this h
theorem CD.LE (C:CD t p m e w f)(P:PW t){s i c:Nat}(J:s<m)(hi:i<m)(hc:c<m) :
  sm m (fun j=>EC t e s j*cnA t (Y6 t) i j (ZO t c)) % p=w s (ZO t i)*EC t e s c % p:=by
 have U:=Y8 P;have Y:=C.mc;have M:ZO t i<t.length:=U.rl i (by omega);have q:ZO t c<t.length:=U.rl c (by omega);rw[show w s (ZO t i)*EC t e s c=w s (ZO t i)*e s (ZO t c) from rfl,<-C.eig s _ _ J M q];congr 1;have h1:sm m (fun j=>EC t e s j*cnA t (Y6 t) i j (ZO t c))=sm m (fun j=>sm t.length fun x=>Xu (decide (Y6 t x=i))*(Xu (decide (Y6 t (ZT t (YL t x) (ZO t c))=j))*EC t e s j)):=Yz fun j _=>by
  unfold cnA;rw[<-ZdK];refine Yz fun x _=>?_;rw[fu (EC t e s j),kw]
 rw[h1,Zjw];refine Yz fun x O=>?_;rw[ZdK,ZiR P M O,U.rn i (by omega)];congr 1;have hb:=(Yo P O).1;have hl:Y6 t (ZT t (YL t x) (ZO t c))<m:=by rw[Y];exact U.lt _ (P.lt _ _ hb q)
 have:=Zg4 hl (fun j=>EC t e s j);rw[C.at P J (P.lt _ _ hb q),<-this];refine Yz fun j _=>?_;congr 2;rw[decide_eq_decide];exact eq_comm
noncomputable def Vc (t:List (List Nat))(p m:Nat)(e:Nat->Nat->Nat)(α:Nat->Int)(c:Nat):Int:=Wc m (fun s=>α s*(EC t e s c:Int)) % (p:Int)
theorem J9 {α j:Nat->Int}(h:∀s,s<m->α s % (p:Int)=j s % (p:Int))(c:Nat):Vc t p m e α c=Vc t p m e j c:=by
 unfold Vc;refine XV fun s q=>?_;rw[bR,h s q,<-bR]
theorem ZiZ (α:Nat->Int)(u:Int)(c:Nat):Vc t p m e α c*u % (p:Int)=Vc t p m e (fun s=>α s*u) c:=by
 unfold Vc;rw[bR,fV _ (jj _),<-bR,cq,<-Jz];congr 1;refine Z5 fun s _=>?_;rw[<-ck,cq u]
theorem Zm4 (α j:Nat->Int)(c:Nat):(Vc t p m e α c-Vc t p m e j c) % (p:Int)=Vc t p m e (fun s=>α s - j s) c:=by
 unfold Vc;rw[<-ip];congr 1;have:Wc m (fun s=>(α s - j s)*(EC t e s c:Int))=Wc m (fun s=>α s*(EC t e s c:Int)+(-1)*(j s*(EC t e s c:Int))):=Z5 fun s _=>by
  rw[iF];omega
 rw[this,Za8,Jz];omega
theorem ZkU (C:CD t p m e w f)(P:PW t){i c:Nat}(q:i<m)(J:c<m)(α:Nat->Int)(k:Int) :
  (Wc m (fun j=>Vc t p m e α j*(cnA t (Y6 t) i j (ZO t c):Int))-k*Vc t p m e α c) % (p:Int)=Vc t p m e (fun s=>α s*((w s (ZO t i):Int)-k)) c:=by
 have M:Wc m (fun j=>Vc t p m e α j*(cnA t (Y6 t) i j (ZO t c):Int)) % (p:Int)=Wc m (fun s=>α s*((w s (ZO t i):Int)*(EC t e s c:Int))) % (p:Int):=by
  have O:Wc m (fun j=>Vc t p m e α j*(cnA t (Y6 t) i j (ZO t c):Int)) % (p:Int)=Wc m (fun j=>Wc m (fun s=>α s*(EC t e s j:Int))*(cnA t (Y6 t) i j (ZO t c):Int)) % (p:Int):=XV fun j _=>by
   unfold Vc;rw[bR,fV _ (jj _),<-bR]
  rw[O];have Y:Wc m (fun j=>Wc m (fun s=>α s*(EC t e s j:Int))*(cnA t (Y6 t) i j (ZO t c):Int))=Wc m (fun s=>α s*Wc m (fun j=>((EC t e s j*cnA t (Y6 t) i j (ZO t c):Nat):Int))):=by
   have e3:∀j,Wc m (fun s=>α s*(EC t e s j:Int))*(cnA t (Y6 t) i j (ZO t c):Int)=Wc m (fun s=>α s*((EC t e s j*cnA t (Y6 t) i j (ZO t c):Nat):Int)):=fun j=>by
    rw[cq,<-Jz];refine Z5 fun s _=>?_;rw[aF,<-ck,cq _ (α s),ck,cq (cnA t (Y6 t) i j (ZO t c):Int)]
   rw[Z5 fun j _=>e3 j,Zch];refine Z5 fun s _=>?_;rw[<-Jz]
  rw[Y];refine XV fun s hs=>?_;rw[Za7,bR];have:=C.LE P hs q J;have h2:((sm m (fun j=>EC t e s j*cnA t (Y6 t) i j (ZO t c)):Nat):Int) % (p:Int)=((w s (ZO t i):Int)*(EC t e s c:Int)) % (p:Int):=by
   rw[<-aF,<-aZ,<-aZ,this]
  rw[h2,<-bR]
 rw[ip,M,<-ip];have h3:(k*Vc t p m e α c) % (p:Int)=(k*Wc m (fun s=>α s*(EC t e s c:Int))) % (p:Int):=by
  unfold Vc;rw[bR,fV _ (jj _),<-bR]
 rw[ip,h3,<-ip];unfold Vc;congr 1;have:Wc m (fun s=>α s*((w s (ZO t i):Int)-k)*(EC t e s c:Int))=Wc m (fun s=>α s*((w s (ZO t i):Int)*(EC t e s c:Int))+(-k)*(α s*(EC t e s c:Int))):=Z5 fun s _=>by
  rw[iG,iF,ck,fU,cq (α s) k,ck k];omega
 rw[this,Za8,Jz,fU];omega
theorem ZlF (C:CD t p m e w f)(P:PW t)(α:Nat->Int)(h:∀c,c<m->Vc t p m e α c=0):∀s,s<m->α s % (p:Int)=0:=by
 intro s O;have U:=Y8 P;have mc:=C.mc;have M:Wc t.length (fun x=>(f s x:Int)*Wc m (fun j=>α j*(e j x:Int))) % (p:Int)=0:=by
  have:Wc t.length (fun x=>(f s x:Int)*Wc m (fun j=>α j*(e j x:Int))) % (p:Int)=Wc t.length (fun _=>0) % (p:Int):=XV fun x Y=>by
   have hc:=U.lt x Y;have hv:=h (Y6 t x) (by omega);unfold Vc at hv;have:Wc m (fun j=>α j*(e j x:Int))=Wc m (fun j=>α j*(EC t e j (Y6 t x):Int)):=Z5 fun j J=>by rw[C.at P J Y]
   rw[this,bR,hv];simp
  rw[this,JT];rfl
 have h2:Wc t.length (fun x=>(f s x:Int)*Wc m (fun j=>α j*(e j x:Int)))=Wc m (fun j=>α j*((sm t.length (fun x=>f s x*e j x):Nat):Int)):=by
  have e1:∀x,(f s x:Int)*Wc m (fun j=>α j*(e j x:Int))=Wc m (fun j=>α j*((f s x*e j x:Nat):Int)):=fun x=>by
   rw[<-Jz];refine Z5 fun j _=>?_;rw[aF,<-ck,cq _ (α j),ck]
  rw[Z5 fun x _=>e1 x,Zch];refine Z5 fun j _=>?_;rw[Jz,Za7]
 rw[h2] at M;have h3:Wc m (fun j=>α j*((sm t.length (fun x=>f s x*e j x):Nat):Int)) % (p:Int)=Wc m (fun j=>if j=s then α j else 0) % (p:Int):=XV fun j J=>by
  have d:=C.du s j O J;have d2:((sm t.length (fun x=>f s x*e j x):Nat):Int) % (p:Int)=(if s=j then 1 else 0:Int):=by
   rw[<-aZ,d];split <;> rfl
  rw[bR,d2];by_cases q:j=s
  ·rw[if_pos q,if_pos q.symm]
   simp
  ·rw[if_neg q,if_neg (fun z=>q z.symm)]
   simp
 rw[h3,Zeq O] at M;exact M
theorem ZoG (C:CD t p m e w f)(P:PW t){s c:Nat}(j:s<m)(J:c<m):Vc t p m e (fun s'=>if s'=s then 1 else 0) c=(EC t e s c:Int):=by
 unfold Vc;have:Wc m (fun s'=>(if s'=s then (1:Int) else 0)*(EC t e s' c:Int))=Wc m (fun s'=>if s'=s then (EC t e s' c:Int) else 0):=Z5 fun s' _=>by
  split
  ·rw[gI]
  ·rw[bn]
 rw[this,Zeq j];have q:ZO t c<t.length:=(Y8 P).rl c (by have:=C.mc;omega);have:=C.elt s _ j q;rw[fC (by omega)];unfold EC;omega
theorem Zm5 (C:CD t p m e w f)(P:PW t){c:Nat}(J:c<m):Vc t p m e (fun _=>1) c=if c=0 then 1 else 0:=by
 have U:=Y8 P;have j:c<(ZD t t.length).length:=by have:=C.mc;omega
 have q:=U.rl c j;unfold Vc;have:Wc m (fun s=>1*(EC t e s c:Int))=((sm m (fun s=>e s (ZO t c)):Nat):Int):=by
  rw[<-Za7];exact Z5 fun s _=>gI _
 rw[this,<-aZ,C.one _ q];have:ZO t c=0↔c=0:=by
  rw[<-U.z _ q,U.rn c j]
 by_cases h:c=0
 ·rw[if_pos (this.mpr h),if_pos h];rfl
 ·rw[if_neg (fun z=>h (this.mp z)),if_neg h];rfl
end
noncomputable def ffI (w:Nat):Nat->Int
 |0=>1
 |k+1=>ffI w k*((w:Int)-(k:Int))
theorem ZbJ {w:Nat}:∀{k:Nat},w<k->ffI w k=0
 |0,h=>by omega
 |k+1,h=>by
  rw[ffI];by_cases e:w=k
  ·subst e
   rw[ly,bE]
  ·rw[ZbJ (by omega),bn]
theorem PrM.nzI {p:Nat}(h:PrM p){a:Int}{b:Nat}(M:a % (p:Int)≠0)(hb:0<b)(j:b<p):a*(b:Int) % (p:Int)≠0:=by
 have O:=h.p2;have p0:(p:Int)≠0:=by omega
 obtain⟨r,q⟩:=bY (cv a p0);have J:=b8 a (show (0:Int)<p by omega);rw[bR,q,<-aZ b p,<-aF,<-aZ,aW j];have:=h.nz r b (by omega) (by omega) hb j;omega
theorem Ziz {p:Nat}(h:PrM p){w:Nat}(hw:w<p):∀{k:Nat},k<=w->ffI w k % (p:Int)≠0
 |0,_=>by
  have:=h.p2;rw[ffI,fC (by omega) (by omega)];decide
 |k+1,j=>by
  rw[ffI,show (w:Int)-(k:Int)=((w-k:Nat):Int) by omega];exact h.nzI (Ziz h hw (by omega)) (by omega) (by omega)
noncomputable def fcI (p:Nat):Nat->Int
 |0=>1
 |k+1=>fcI p k*((k:Int)+1) % (p:Int)
theorem ZcW (w:Nat):∀k,ffI (w+1) (k+1)=((w:Int)+1)*ffI w k
 |0=>by
  show (1:Int)*(((w+1:Nat):Int)-0)=((w:Int)+1)*1;omega
 |k+1=>by
  rw[ffI,ZcW w k,ffI];have:((w+1:Nat):Int)-((k+1:Nat):Int)=(w:Int)-(k:Int):=by omega
  rw[this,ck]
theorem ZiB (p:Nat):∀k,fcI p k % (p:Int)=ffI k k % (p:Int)
 |0=>rfl
 |k+1=>by
  rw[fcI,ZcW,fV _ (jj _),bR,ZiB p k,<-bR,cq]
theorem ZlA {p:Nat}(j:2<=p):∀k,0<=fcI p k/\fcI p k<(p:Int)
 |0=>by unfold fcI;omega
 |k+1=>by
  rw[fcI];exact⟨cv _ (by omega),b8 _ (by omega)⟩
noncomputable def Xo (S:Nat->Bool)(s:Nat):Int:=if S s then 1 else 0
theorem Zmz {m:Nat}{S:Nat->Bool}{g:Nat->Nat}(h:∃s,s<m/\S s=true):∃M,(∃s,s<m/\S s=true/\g s=M)/\∀s,s<m->S s=true->g s<=M:=by
 induction m with
 |zero=>obtain⟨s,Y,_⟩:=h;omega
 |succ m ih=>
  by_cases O:∃s,s<m/\S s=true
  ·obtain⟨M,⟨s,Y,h1,h2⟩,h3⟩:=ih O
   by_cases hq:S m=true/\M<g m
   ·refine⟨g m,⟨m,by omega,hq.1,rfl⟩,fun j J q=>?_⟩
    by_cases z:j=m
    ·rw[z];exact Zq _
    ·have:=h3 j (by omega) q
     omega
   ·refine⟨M,⟨s,by omega,h1,h2⟩,fun j J q=>?_⟩
    by_cases z:j=m
    ·subst z
     by_cases zz:M<g j
     ·exact absurd ⟨q,zz⟩ hq
     ·omega
    ·exact h3 j (by omega) q
  ·obtain⟨s,Y,q⟩:=h
   have:s=m:=by
    by_cases z:s=m
    ·exact z
    ·exact absurd ⟨s,by omega,q⟩ O
   subst this;refine⟨g s,⟨s,by omega,q,rfl⟩,fun j J q'=>?_⟩;by_cases z:j=s
   ·rw[z];exact Zq _
   ·exact absurd ⟨j,by omega,q'⟩ O
section
variable {t:List (List Nat)}{p m:Nat}{e w f:Nat->Nat->Nat}
noncomputable def lpA (S:Nat->Bool)(g:Nat->Nat)(k s:Nat):Int:=Xo S s*ffI (g s) k
theorem Zkp (S:Nat->Bool)(g:Nat->Nat)(k:Nat):(fun s=>lpA S g k s*((g s:Int)-(k:Int)))=lpA S g (k+1):=by
 funext s;unfold lpA;rw[ffI,ck]
theorem Zko (S:Nat->Bool)(g:Nat->Nat):lpA S g 0=Xo S:=by
 funext s;unfold lpA;rw[ffI,fe]
theorem ZmB (C:CD t p m e w f)(P:PW t){S:Nat->Bool}{g:Nat->Nat}(O:∀s,s<m->g s<p){M:Nat}(Y:∃s,s<m/\S s=true/\g s=M)(h2:∀s,s<m->S s=true->g s<=M)(k:Nat) :
  (∃c,c<m/\Vc t p m e (lpA S g k) c≠0)↔k<=M:=by
 constructor
 ·rintro⟨c,J,h⟩
  by_cases z:k<=M
  ·exact z
  ·refine absurd ?_ h
   have:Vc t p m e (lpA S g k) c=Vc t p m e (fun _=>0) c:=J9 (fun s j=>by
    unfold lpA Xo;by_cases q:S s=true
    ·have:=h2 s j q
     rw[ZbJ (show g s<k by omega),bE]
    ·rw[if_neg q,bn]) c
   rw[this];unfold Vc;rw[Z5 (g:=fun _=>0) fun s _=>bn _,JT];rfl
 ·intro hk
  obtain⟨s,j,q1,q2⟩:=Y;refine ah fun hn=>?_;have hz:∀c,c<m->Vc t p m e (lpA S g k) c=0:=fun c J=>ah fun z=>hn ⟨c,J,z⟩;have:=ZlF C P _ hz s j;unfold lpA Xo at this;rw[if_pos q1,gI] at this;exact Ziz C.pr (O s j) (by omega) this
noncomputable def Xn (S:Nat->Bool)(g:Nat->Nat)(M:Nat)(s:Nat):Bool:=S s && decide (g s=M)
theorem ZmA (C:CD t p m e w f){S:Nat->Bool}{g:Nat->Nat}{M:Nat}(j:∀s,s<m->S s=true->g s<=M){u:Int}(J:u*fcI p M % (p:Int)=1)(c:Nat) :
  Vc t p m e (lpA S g M) c*u % (p:Int)=Vc t p m e (Xo (Xn S g M)) c:=by
 rw[ZiZ];refine J9 (fun s O=>?_) c;unfold lpA Xo Xn;by_cases q:S s=true
 ·rw[q,if_pos rfl,gI]
  by_cases z:g s=M
  ·rw[decide_eq_true z,z]
   show ffI M M*u % (p:Int)=1 % (p:Int);rw[bR,<-ZiB,<-bR,cq,J,fC (by omega) (by have:=C.pr.p2;omega)]
  ·have:=j s O q
   rw[decide_eq_false z,ZbJ (show g s<M by omega),bn];rfl
 ·rw[if_neg q,bn,bn]
  have:S s=false:=by cases Y:S s with|true=>exact absurd Y q|false=>rfl
  rw[this];rfl
noncomputable def Zby (S:Nat->Bool)(g:Nat->Nat)(M:Nat)(s:Nat):Bool:=S s && decide (g s<M)
theorem ZmC {S:Nat->Bool}{g:Nat->Nat}{M:Nat}(j:∀s,s<m->S s=true->g s<=M)(c:Nat) :
  (Vc t p m e (Xo S) c-Vc t p m e (Xo (Xn S g M)) c) % (p:Int)=Vc t p m e (Xo (Zby S g M)) c:=by
 rw[Zm4];refine J9 (fun s J=>?_) c;congr 1;unfold Xo Xn Zby
 cases q:S s with
 |false=>rfl
 |true=>
  have:=j s J q;by_cases z:g s=M
  ·rw[decide_eq_true z,decide_eq_false (by omega)];rfl
  ·rw[decide_eq_false z,decide_eq_true (by omega)];rfl
theorem Zfq (C:CD t p m e w f)(P:PW t)(S:Nat->Bool):(∃c,c<m/\Vc t p m e (Xo S) c≠0)↔∃s,s<m/\S s=true:=by
 constructor
 ·rintro⟨c,M,h⟩
  refine ah fun j=>h ?_;have:Vc t p m e (Xo S) c=Vc t p m e (fun _=>0) c:=J9 (fun s J=>by
   unfold Xo;rw[if_neg (fun z=>j ⟨s,J,z⟩)]) c
  rw[this];unfold Vc;rw[Z5 (g:=fun _=>0) fun s _=>bn _,JT];rfl
 ·rintro⟨s,J,q⟩
  refine ah fun j=>?_;have:=ZlF C P _ (fun c M=>ah fun z=>j ⟨c,M,z⟩) s J;unfold Xo at this;rw[if_pos q,fC (by omega) (by have:=C.pr.p2;omega)] at this;cases this
end
structure PtS (m:Nat)(S:Nat->Bool)(g:Nat->Nat)(Ss:List (Nat->Bool)):Prop where
 ne:∀T∈Ss,∃s,s<m/\T s=true
 sub:∀T∈Ss,∀s,s<m->T s=true->S s=true
 cov:∀s,s<m->S s=true->∃T∈Ss,T s=true
 dj:Ss.Pairwise fun T T'=>∀s,s<m->T s=true->T' s=true->False
 eq:∀T∈Ss,∀s s',s<m->s'<m->T s=true->T s'=true->g s=g s'
structure PtW (m:Nat)(S:Nat->Bool)(g:Nat->Nat)(Ss:List (Nat->Bool))(R:Nat->Bool):Prop where
 ne:∀T∈Ss,∃s,s<m/\T s=true
 sub:∀T∈Ss,∀s,s<m->T s=true->S s=true
 rs:∀s,s<m->R s=true->S s=true
 cov:∀s,s<m->S s=true->R s=true\/∃T∈Ss,T s=true
 dj:Ss.Pairwise fun T T'=>∀s,s<m->T s=true->T' s=true->False
 dr:∀T∈Ss,∀s,s<m->T s=true->R s=true->False
 eq:∀T∈Ss,∀s s',s<m->s'<m->T s=true->T s'=true->g s=g s'
theorem PtW.zero {m:Nat}{S:Nat->Bool}{g:Nat->Nat}:PtW m S g [] S:=
 ⟨fun _ h=>(by cases h),fun _ h=>(by cases h),fun s _ h=>h,fun s _ h=>.inl h,.nil,fun _ h=>(by cases h),fun _ h=>(by cases h)⟩
theorem PtW.step {m:Nat}{S R:Nat->Bool}{g:Nat->Nat}{Ss:List (Nat->Bool)}(W:PtW m S g Ss R){M:Nat}(h1:∃s,s<m/\R s=true/\g s=M)(h2:∀s,s<m->R s=true->g s<=M):PtW m S g (Ss++[Xn R g M]) (Zby R g M):=by
 have Y:∀s,Xn R g M s=true->R s=true/\g s=M:=fun s h=>by
  unfold Xn at h;rw[af,decide_eq_true_eq] at h;exact h
 have lw:∀s,Zby R g M s=true->R s=true/\g s<M:=fun s h=>by
  unfold Zby at h;rw[af,decide_eq_true_eq] at h;exact h
 have O:∀{T:Nat->Bool},T∈Ss++[Xn R g M]->T∈Ss\/T=Xn R g M:=fun {T} h=>by
  rcases bS.mp h with h|h
  ·exact .inl h
  ·exact .inr (aU.mp h)
 refine⟨fun T J=>?_,fun T J s j q=>?_,fun s j q=>W.rs s j (lw s q).1,fun s j q=>?_,?_,fun T J s j q1 q2=>?_,fun T J s s' j m5 q q'=>?_⟩
 ·rcases O J with h|rfl
  ·exact W.ne T h
  ·obtain⟨s,j,a,b⟩:=h1
   exact⟨s,j,by unfold Xn;rw[a,decide_eq_true b];rfl⟩
 ·rcases O J with h|rfl
  ·exact W.sub T h s j q
  ·exact W.rs s j (Y s q).1
 ·rcases W.cov s j q with h|⟨T,J,h⟩
  ·have:=h2 s j h
   by_cases z:g s=M
   ·exact .inr ⟨_,aS _ ax,by unfold Xn;rw[h,decide_eq_true z];rfl⟩
   ·exact .inl (by unfold Zby;rw[h,decide_eq_true (by omega)];rfl)
  ·exact .inr ⟨T,cn _ J,h⟩
 ·rw[ix]
  refine⟨W.dj,gP _ _,fun T J T' m6 s j q q'=>?_⟩;rw[aU.mp m6] at q';exact W.dr T J s j q (Y s q').1
 ·rcases O J with h|rfl
  ·exact W.dr T h s j q1 (lw s q2).1
  ·have a:=(Y s q1).2
   have b:=(lw s q2).2;omega
 ·rcases O J with h|rfl
  ·exact W.eq T h s s' j m5 q q'
  ·rw[(Y s q).2,(Y s' q').2]
theorem PtW.end {m:Nat}{S R:Nat->Bool}{g:Nat->Nat}{j:List (Nat->Bool)}(W:PtW m S g j R)(h:¬ ∃s,s<m/\R s=true):PtS m S g j:=
 ⟨W.ne,W.sub,fun s J q=>by
  rcases W.cov s J q with z|z
  ·exact absurd ⟨s,J,z⟩ h
  ·exact z,W.dj,W.eq⟩
structure Xq (m:Nat)(w:Nat->Nat->Nat)(i:Nat)(Ss:List (Nat->Bool)):Prop where
 ne:∀T∈Ss,∃s,s<m/\T s=true
 cov:∀s,s<m->∃T∈Ss,T s=true
 dj:Ss.Pairwise fun T T'=>∀s,s<m->T s=true->T' s=true->False
 eq:∀T∈Ss,∀s s',s<m->s'<m->T s=true->T s'=true->∀j,j<i->w s j=w s' j
theorem Xq.zero {m:Nat}(m1:1<=m)(w:Nat->Nat->Nat):Xq m w 0 [fun _=>true]:=
 ⟨fun T q=>⟨0,m1,by rw[aU.mp q]⟩,fun s _=>⟨_,ax,rfl⟩,gP _ _,fun _ _ _ _ _ _ _ _ j J=>by omega⟩
inductive FiS (m:Nat) (g:Nat->Nat):List (Nat->Bool)->List (Nat->Bool)->Prop
 |nil:FiS m g [] []
 |snoc {Ss Fs Ts:List (Nat->Bool)}{S:Nat->Bool}:FiS m g Ss Fs->PtS m S g Ts->FiS m g (Ss++[S]) (Fs++Ts)
theorem FiS.out {m:Nat}{g:Nat->Nat}{M O:List (Nat->Bool)}(h:FiS m g M O):(∀T∈O,(∃s,s<m/\T s=true)/\(∃S∈M,∀s,s<m->T s=true->S s=true)/\∀s s',s<m->s'<m->T s=true->T s'=true->g s=g s')/\(∀S∈M,∀s,s<m->S s=true->∃T∈O,T s=true):=by
 induction h with
 |nil=>exact⟨fun _ h=>(by cases h),fun _ h=>(by cases h)⟩
 |snoc h p Y=>
  refine⟨fun T j=>?_,fun S J s hs q=>?_⟩
  ·rcases bS.mp j with j|j
   ·obtain⟨a,⟨S,J,b⟩,c⟩:=Y.1 T j
    exact⟨a,⟨S,cn _ J,b⟩,c⟩
   ·exact⟨p.ne T j,⟨_,aS _ ax,p.sub T j⟩,p.eq T j⟩
  ·rcases bS.mp J with J|J
   ·obtain⟨T,j,z⟩:=Y.2 S J s hs q
    exact⟨T,cn _ j,z⟩
   ·rw[aU.mp J] at q
    obtain⟨T,j,z⟩:=p.cov s hs q;exact⟨T,aS _ j,z⟩
theorem FiS.dj {m:Nat}{g:Nat->Nat}{Y Fs:List (Nat->Bool)}(h:FiS m g Y Fs)(J:Y.Pairwise fun T j=>∀s,s<m->T s=true->j s=true->False):Fs.Pairwise fun T j=>∀s,s<m->T s=true->j s=true->False:=by
 induction h with
 |nil=>exact .nil
 |snoc h p ih=>
  rw[ix] at J ⊢;refine⟨ih J.1,p.dj,fun T hT j M s O q q'=>?_⟩;obtain⟨_,⟨S,hS,b⟩,_⟩:=h.out.1 T hT;exact J.2.2 S hS _ ax s O (b s O q) (p.sub j M s O q')
theorem Xq.step {m i:Nat}{w:Nat->Nat->Nat}{Ss Fs:List (Nat->Bool)}(A:Xq m w i Ss)(h:FiS m (fun s=>w s i) Ss Fs):Xq m w (i+1) Fs:=by
 refine⟨fun T O=>(h.out.1 T O).1,fun s M=>?_,h.dj A.dj,fun T O s Y M J q q' j hj=>?_⟩
 ·obtain⟨S,hS,q⟩:=A.cov s M
  exact h.out.2 S hS s M q
 ·obtain⟨_,⟨S,hS,b⟩,c⟩:=h.out.1 T O
  by_cases z:j=i
  ·rw[z];exact c s Y M J q q'
  ·exact A.eq S hS s Y M J (b s M q) (b Y J q') j (by omega)
noncomputable def pkS (m:Nat)(T:Nat->Bool):Nat:=((ac m).find? T).getD 0
theorem Xr {m:Nat}{T:Nat->Bool}(h:∃s,s<m/\T s=true):pkS m T<m/\T (pkS m T)=true:=by
 obtain⟨s,j,q⟩:=h;unfold pkS;cases z:(ac m).find? T with
 |none=>
  have:=iV.mp z s (ag.mpr j);exact absurd q this
 |some x=>exact⟨ag.mp (gu z),jI z⟩
theorem Zao {m:Nat}:∀{J:List (Nat->Bool)},(∀T∈J,∃s,s<m/\T s=true)->(J.Pairwise fun T j=>∀s,s<m->T s=true->j s=true->False)->(J.map (pkS m)).Nodup
 | [],_,_=>ee
 |T::J,M,hd=>by
  rw[md] at hd;rw[aV,bZ];refine⟨fun h=>?_,Zao (fun j O=>M j (aq _ O)) hd.2⟩;obtain⟨j,q,z⟩:=aN.mp h;have a:=Xr (M T ax);have b:=Xr (M j (aq _ q));rw[z] at b;exact hd.1 j q _ a.1 a.2 b.2
theorem Xq.len {m i:Nat}{w:Nat->Nat->Nat}{j:List (Nat->Bool)}(A:Xq m w i j):j.length<=m:=by
 have:=L2.Yw (j.map (pkS m)) (ac m) (Zao A.ne A.dj) (fun x q=>by
  obtain⟨T,J,rfl⟩:=aN.mp q;exact ag.mpr (Xr (A.ne T J)).1)
 rwa [Za,Zg] at this
theorem Zkh {l:List Nat}{m:Nat}(nd:l.Nodup)(q:∀x∈l,x<m)(len:l.length=m):l.Perm (ac m):=by
 have J:∀x,x<m->x∈l:=fun x M=>by
  refine ah fun O=>?_;have:=L2.Yw (x::l) (ac m) (bZ.mpr ⟨O,nd⟩) (fun y j=>by
   rcases aH.mp j with rfl|j
   ·exact ag.mpr M
   ·exact ag.mpr (q y j))
  rw[Zi,Zg] at this;omega
 exact (cM nd eC).mpr fun x=>⟨fun h=>ag.mpr (q x h),fun h=>J x (ag.mp h)⟩
theorem Zom {m:Nat}{J:List (Nat->Bool)}(hd:J.Pairwise fun T j=>∀s,s<m->T s=true->j s=true->False){T j:Nat->Bool}(h:T∈J)(h':j∈J){s:Nat}(hs:s<m)(q:T s=true)(M:j s=true):T=j:=by
 induction hd with
 |nil=>cases h
 |cons a _ ih=>
  rcases aH.mp h with e1|h1
  ·rcases aH.mp h' with O|Y
   ·rw[e1,O]
   ·rw[e1] at q
    exact (a _ Y s hs q M).elim
  ·rcases aH.mp h' with O|Y
   ·rw[O] at M
    exact (a _ h1 s hs M q).elim
   ·exact ih h1 Y
theorem Xq.full {m i:Nat}{w:Nat->Nat->Nat}{J:List (Nat->Bool)}(A:Xq m w i J)(h:m<=J.length):∀T∈J,∀s s',s<m->s'<m->T s=true->T s'=true->s=s':=by
 have hp:(J.map (pkS m)).Perm (ac m):=Zkh (Zao A.ne A.dj) (fun x hx=>by
  obtain⟨T,j,rfl⟩:=aN.mp hx;exact (Xr (A.ne T j)).1) (by rw[Za];have:=A.len;omega)
 have key:∀T∈J,∀s,s<m->T s=true->s=pkS m T:=fun T j s O q=>by
  obtain⟨T',M,z⟩:=aN.mp (hp.mem_iff.mpr (ag.mpr O));have b:=Xr (A.ne T' M);rw[z] at b;rw[Zom A.dj j M O q b.2,z]
 intro T j s s' O Y q q';rw[key T j s O q,key T j s' Y q']
theorem Xq.skip {m i:Nat}{w:Nat->Nat->Nat}{J:List (Nat->Bool)}(A:Xq m w i J)(h:m<=J.length):Xq m w (i+1) J:=
 ⟨A.ne,A.cov,A.dj,fun T O s Y hs M q q' j _=>by rw[A.full h T O s Y hs M q q']⟩
theorem Xq.end {m:Nat}{w:Nat->Nat->Nat}{M:List (Nat->Bool)}(A:Xq m w m M)(O:∀s s',s<m->s'<m->(∀j,j<m->w s j=w s' j)->s=s'):(M.map (pkS m)).Perm (ac m)/\∀T∈M,∀s,s<m->T s=decide (s=pkS m T):=by
 have one:∀T∈M,∀s,s<m->T s=decide (s=pkS m T):=fun T J s Y=>by
  have a:=Xr (A.ne T J);cases q:T s with
  |true=>exact (decide_eq_true (O s _ Y a.1 (A.eq T J s _ Y a.1 q a.2))).symm
  |false=>
   refine (decide_eq_false fun z=>?_).symm;rw[z,a.2] at q;cases q
 refine⟨?_,one⟩;refine (cM (Zao A.ne A.dj) eC).mpr fun x=>⟨fun h=>?_,fun h=>?_⟩
 ·obtain⟨T,J,rfl⟩:=aN.mp h
  exact ag.mpr (Xr (A.ne T J)).1
 ·have hx:=ag.mp h
  obtain⟨T,J,q⟩:=A.cov x hx;rw[one T J x hx] at q;rw[of_decide_eq_true q];exact aN.mpr ⟨T,J,rfl⟩
noncomputable def VP (count p:Nat):Bool:=decide (p*p<=4*count) || (ac (p-2)).any fun k=>p % (k+2) == 0
structure ZoS (n count p:Nat):Prop where
 st:∃J,p=(n+1)+J*n/\∀j,j<J->VP count ((n+1)+j*n)=true
 ok:VP count p=false
 p2:2<=p
 lt:p<=100000
structure ZoJ (p z r:Nat):Prop where
 r1:1<=r
 rp:r<=p
 one:z ^ r % p=1
 nz:∀k,1<=k->k<r->z ^ k % p≠1
noncomputable def RtP (n p j:Nat):Prop:=(j=1/\n=1)\/(2<=j/\j<p/\n≠1/\∃r:Nat->Nat,(∀z,2<=z->z<=j->ZoJ p z (r z))/\(∀z,2<=z->z<j->r z≠n)/\r j=n)
structure TD (t:List (List Nat))(n p m:Nat)(e ω φ:Nat->Nat->Nat)(z:Nat)(dg:Nat->Nat):Prop where
 cd:CD t p m e ω φ
 n1:1<=n
 n60:n<=60
 all:∀a,a<t.length->it t a n=0
 mn:∀x,(∀a,a<t.length->it t a x=0)->x % n=0
 fit:ZoS n t.length p
 rt:RtP n p z
 d1:∀s,s<m->1<=dg s
 dp:∀s,s<m->dg s<p
 dl:∀s,s<m->dg s<=1000
 dq:∀s,s<m->((dg s:Int)*(dg s:Int)-(e s 0:Int)*(t.length:Int)) % (p:Int)=0
 dm:∀s d',s<m->1<=d'->d'<dg s->((d':Int)*(d':Int)-(e s 0:Int)*(t.length:Int)) % (p:Int)≠0
structure Dt where
 n:Nat
 p:Nat
 z:Nat
 cl:List Nat
 rp:List Nat
 E:List (List Nat)
 W:List (List Nat)
 F:List (List Nat)
 dg:List Nat
noncomputable def Vw (M:List (List Nat))(i j:Nat):Nat:=(M.getD i []).getD j 0
noncomputable def fA (n:Nat)(f:Nat->Bool):Bool:=(ac n).all f
theorem Yb {n:Nat}{f:Nat->Bool}(h:fA n f=true){i:Nat}(j:i<n):f i=true:=aI.mp h i (ag.mpr j)
noncomputable def fE (n:Nat)(f:Nat->Bool):Bool:=(ac n).any f
theorem Zfa {n:Nat}{f:Nat->Bool}(h:fE n f=true):∃i,i<n/\f i=true:=by
 obtain⟨i,hi,q⟩:=aY.mp h;exact⟨i,ag.mp hi,q⟩
noncomputable def prB (p:Nat):Bool:=decide (2<=p) && (fA (p-1) fun a=>fA (p-1) fun b=>(a+1)*(b+1) % p != 0) && fA (p-1) fun a=>fE (p-1) fun b=>(b+1)*(a+1) % p == 1
theorem Zn1 {p:Nat}(h:prB p=true):PrM p:=by
 unfold prB at h;rw[af,af,decide_eq_true_eq] at h;obtain⟨⟨j,J⟩,M⟩:=h;refine⟨j,fun a b O Y b0 bp=>?_,fun a O Y=>?_⟩
 ·have:=Yb (Yb J (i:=a-1) (by omega)) (i:=b-1) (by omega)
  rw[show a-1+1=a by omega,show b-1+1=b by omega] at this;simpa using this
 ·obtain⟨b,hb,q⟩:=Zfa (Yb M (i:=a-1) (by omega))
  rw[show a-1+1=a by omega] at q;exact⟨b+1,by omega,by omega,eq_of_beq q⟩
noncomputable def Ziy (n count p:Nat):Nat->Nat->Bool
 |0,q=>decide (q=p) && !VP count q
 |f+1,q=>if q=p then !VP count q else VP count q && Ziy n count p f (q+n)
theorem Ze9 {n count p:Nat}:∀{f q:Nat},Ziy n count p f q=true->(∃J,p=q+J*n/\∀j,j<J->VP count (q+j*n)=true)/\VP count p=false
 |0,q,h=>by
  rw[Ziy,af,decide_eq_true_eq] at h;obtain⟨e,h⟩:=h;subst e;exact⟨⟨0,by omega,fun j M=>by omega⟩,by simpa using h⟩
 |f+1,q,h=>by
  rw[Ziy] at h;by_cases e:q=p
  ·rw[if_pos e] at h
   subst e;exact⟨⟨0,by omega,fun j M=>by omega⟩,by simpa using h⟩
  ·rw[if_neg e,af] at h
   obtain⟨⟨J,O,Y⟩,h3⟩:=Ze9 h.2;refine⟨⟨J+1,by rw[O,cC];omega,fun j M=>?_⟩,h3⟩;cases j with
   |zero=>rw[ft,fz];exact h.1
   |succ j=>
    have:=Y j (by omega);rw[cC];rw[show q+(j*n+n)=q+n+j*n by omega];exact this
noncomputable def Zmj (p z r:Nat):Bool:=decide (1<=r) && decide (r<=p) && (z ^ r % p == 1) && fA r fun k=>k == 0 || z ^ k % p != 1
theorem ZjW {p z r:Nat}(h:Zmj p z r=true):ZoJ p z r:=by
 unfold Zmj at h;rw[af,af,af,decide_eq_true_eq,decide_eq_true_eq] at h;obtain⟨⟨⟨j,J⟩,M⟩,O⟩:=h;refine⟨j,J,eq_of_beq M,fun k k1 Y=>?_⟩;have:=Yb O Y;rw[bu] at this;rcases this with q|q
 ·have:=eq_of_beq q
  omega
 ·simpa using q
noncomputable def rdZ (p z:Nat):Nat:=(((ac p).find? fun r=>z ^ (r+1) % p == 1).getD 0)+1
noncomputable def rtB (n p j:Nat):Bool:=(j == 1 && n == 1) || (decide (2<=j) && decide (j<p) && n != 1 && (fA (j+1) fun z=>decide (z<2) || (Zmj p z (rdZ p z) && (z == j || rdZ p z != n))) && rdZ p j == n)
theorem ZnO {n p j:Nat}(h:rtB n p j=true):RtP n p j:=by
 unfold rtB at h;rw[bu] at h;rcases h with h|h
 ·rw[af] at h
  exact .inl ⟨eq_of_beq h.1,eq_of_beq h.2⟩
 ·rw[af,af,af,af,decide_eq_true_eq,decide_eq_true_eq] at h
  obtain⟨⟨⟨⟨M,O⟩,Y⟩,J⟩,h5⟩:=h;refine .inr ⟨M,O,by simpa using Y,rdZ p,fun z z2 zz=>?_,fun z z2 zz=>?_,eq_of_beq h5⟩
  ·have:=Yb J (i:=z) (by omega)
   rw[decide_eq_false (by omega),eQ,af] at this;exact ZjW this.1
  ·have:=Yb J (i:=z) (by omega)
   rw[decide_eq_false (by omega),eQ,af,bu] at this;rcases this.2 with q|q
   ·have:=eq_of_beq q
    omega
   ·simpa using q
noncomputable def itB (t:List (List Nat))(n:Nat):Bool:=(fA t.length fun a=>it t a n == 0) && fA n fun x=>x == 0 || fE t.length fun a=>it t a x != 0
noncomputable def ZkQ (t:List (List Nat))(bs:List Nat):Bool:=fA t.length fun a=>decide (bs.getD a 0<t.length) && ZT t a (bs.getD a 0) == 0
noncomputable def tbL (t:List (List Nat))(bs:List Nat)(b x:Nat):Nat:=ZT t (ZT t x b) (bs.getD x 0)
noncomputable def clB (t:List (List Nat))(bs:List Nat)(D:Dt):Bool:=
 (fA t.length fun x=>decide (D.cl.getD x 0<D.rp.length) && ((D.cl.getD x 0 == 0) == (x == 0)) && (fA t.length fun s=>D.cl.getD (tbL t bs x s) 0 == D.cl.getD x 0) && fE t.length fun s=>tbL t bs (D.rp.getD (D.cl.getD x 0) 0) s == x) &&
 fA D.rp.length fun k=>decide (D.rp.getD k 0<t.length) && D.cl.getD (D.rp.getD k 0) 0 == k
noncomputable def ZpR (t:List (List Nat))(bs:List Nat)(D:Dt):Bool:=fA D.rp.length fun s=>fA D.rp.length fun i=>fA D.rp.length fun c=>
 sm t.length (fun x=>Xu (decide (D.cl.getD x 0=i))*Vw D.E s (D.cl.getD (ZT t (bs.getD x 0) (D.rp.getD c 0)) 0)) % D.p == Vw D.W s i*Vw D.E s c % D.p
noncomputable def tdB (t:List (List Nat))(bs:List Nat)(D:Dt):Bool:=
 prB D.p && decide (D.p<=1000) && decide (1<=D.rp.length) && decide (1<=D.n) && decide (D.n<=60) && itB t D.n && Ziy D.n t.length D.p 60 (D.n+1) && rtB D.n D.p D.z && ZkQ t bs && clB t bs D && ZpR t bs D &&
 (fA D.rp.length fun s=>fA D.rp.length fun c=>decide (Vw D.E s c<D.p) && decide (Vw D.W s c<D.p)) &&
 (fA D.rp.length fun c=>sm D.rp.length (fun s=>Vw D.E s c) % D.p == if c=0 then 1 else 0) &&
 (fA D.rp.length fun s=>fA D.rp.length fun j=>sm t.length (fun x=>Vw D.F s (D.cl.getD x 0)*Vw D.E j (D.cl.getD x 0)) % D.p == if s=j then 1 else 0) &&
 (fA D.rp.length fun s=>fA D.rp.length fun j=>s == j || fE D.rp.length fun i=>Vw D.W s i != Vw D.W j i) &&
 fA D.rp.length fun s=>decide (1<=D.dg.getD s 0) && decide (D.dg.getD s 0<D.p) && (((D.dg.getD s 0:Int)*(D.dg.getD s 0:Int)-(Vw D.E s 0:Int)*(t.length:Int)) % (D.p:Int) == 0) && fA (D.dg.getD s 0) fun d=>d == 0 || ((d:Int)*(d:Int)-(Vw D.E s 0:Int)*(t.length:Int)) % (D.p:Int) != 0
section
variable {t:List (List Nat)}{bs:List Nat}{D:Dt}
noncomputable def eD (D:Dt)(s x:Nat):Nat:=Vw D.E s (D.cl.getD x 0)
noncomputable def wD (D:Dt)(s x:Nat):Nat:=Vw D.W s (D.cl.getD x 0)
noncomputable def fD (D:Dt)(s x:Nat):Nat:=Vw D.F s (D.cl.getD x 0)
theorem ZiU (P:PW t)(h:ZkQ t bs=true){a:Nat}(j:a<t.length):bs.getD a 0=YL t a:=by
 have:=Yb h j;rw[af,decide_eq_true_eq] at this;exact XL P j this.1 (eq_of_beq this.2)
theorem ZgN (P:PW t)(h:ZkQ t bs=true){b x:Nat}(j:x<t.length):tbL t bs b x=tb t b x:=by
 unfold tbL tb;rw[ZiU P h j]
structure ClW (t:List (List Nat))(cl rp:Nat->Nat)(m:Nat):Prop where
 lt:∀x,x<t.length->cl x<m
 z:∀x,x<t.length->(cl x=0↔x=0)
 con:∀x s,x<t.length->s<t.length->cl (tb t x s)=cl x
 tr:∀x,x<t.length->∃s,s<t.length/\tb t (rp (cl x)) s=x
 rl:∀k,k<m->rp k<t.length
 rn:∀k,k<m->cl (rp k)=k
theorem ZiQ (P:PW t)(hb:ZkQ t bs=true)(h:clB t bs D=true):ClW t (fun x=>D.cl.getD x 0) (fun k=>D.rp.getD k 0) D.rp.length:=by
 unfold clB at h;rw[af] at h;have g:∀{x},x<t.length->D.cl.getD x 0<D.rp.length/\((D.cl.getD x 0 == 0) == (x == 0))=true/\(fA t.length fun s=>D.cl.getD (tbL t bs x s) 0 == D.cl.getD x 0)=true/\(fE t.length fun s=>tbL t bs (D.rp.getD (D.cl.getD x 0) 0) s == x)=true:=fun {x} j=>by
  have:=Yb h.1 j;rw[af,af,af,decide_eq_true_eq] at this;exact⟨this.1.1.1,this.1.1.2,this.1.2,this.2⟩
 have g2:∀{k},k<D.rp.length->D.rp.getD k 0<t.length/\D.cl.getD (D.rp.getD k 0) 0=k:=fun {k} J=>by
  have:=Yb h.2 J;rw[af,decide_eq_true_eq] at this;exact⟨this.1,eq_of_beq this.2⟩
 refine⟨fun x j=>(g j).1,fun x j=>?_,fun x s j M=>?_,fun x j=>?_,fun k J=>(g2 J).1,fun k J=>(g2 J).2⟩
 ·have:=eq_of_beq (g j).2.1
  constructor
  ·intro q
   have q:D.cl.getD x 0=0:=q;rw[q] at this;exact eq_of_beq this.symm
  ·intro q
   rw[q] at this ⊢;exact eq_of_beq this
 ·have:=eq_of_beq (Yb (g j).2.2.1 M)
  rw[ZgN P hb M] at this;exact this
 ·obtain⟨s,M,q⟩:=Zfa (g j).2.2.2
  have:=eq_of_beq q;rw[ZgN P hb M] at this;exact⟨s,M,this⟩
variable {cl rp:Nat->Nat}{m:Nat}
theorem ClW.cj (P:PW t)(C:ClW t cl rp m){u x:Nat}(j:u<t.length)(J:x<t.length):cjB t u x=decide (cl x=cl u):=by
 by_cases h:cl x=cl u
 ·rw[decide_eq_true h]
  obtain⟨s1,h1,e1⟩:=C.tr u j;obtain⟨O,h2,Y⟩:=C.tr x J;rw[h] at Y;have M:=C.rl (cl u) (C.lt u j);have n1:=P.n1;have:tb t u 0=tb t (rp (cl u)) s1:=by rw[ZaN P j];exact e1.symm
  obtain⟨z,hz,ez⟩:=ZaO P j M n1 h1 this;have e3:tb t (rp (cl u)) O=tb t x 0:=by rw[ZaN P J];exact Y
  have m1:u∈Z2 t (rp (cl u)):=(Yi P M).mpr ⟨s1,h1,e1⟩;have m2:x∈Z2 t (rp (cl u)):=(Yi P M).mpr ⟨O,h2,Y⟩;have m3:rp (cl u)∈Z2 t u:=(Yi P j).mpr ⟨z,hz,ez⟩;have m4:x∈Z2 t u:=YS P j J m3 (by
   have:tb t x 0=tb t (rp (cl u)) O:=e3.symm;obtain⟨z2,m5,m6⟩:=ZaO P J M n1 h2 this;exact (Yi P J).mpr ⟨z2,m5,m6⟩)
  exact Vs.mpr ((Yi P j).mp m4)
 ·rw[decide_eq_false h]
  cases q:cjB t u x with
  |false=>rfl
  |true=>
   obtain⟨y,hy,e⟩:=Vs.mp q;have:=C.con u y j hy;rw[e] at this;exact absurd this h
theorem Zh9 {n:Nat}{f:Nat->Nat}(h:∀a b,a<n->b<n->f a=f b->a=b):((ac n).map f).Nodup:=by
 rw[List.Nodup,gA];exact dR (fun {a b} j hb ne e=>ne (h a b (ag.mp j) (ag.mp hb) e)) eC
theorem ClW.count (P:PW t)(C:ClW t cl rp m):m=(ZD t t.length).length:=by
 have U:=Y8 P;have q:∀x y,x<t.length->y<t.length->(cl x=cl y↔Y6 t x=Y6 t y):=fun x y j O=>by
  have a:=C.cj P O j;rw[ZiR P O j] at a;exact⟨fun h=>by
   rw[decide_eq_true h] at a;exact of_decide_eq_true a,fun h=>by
   rw[decide_eq_true h] at a;exact of_decide_eq_true a.symm⟩
 have Y:=L2.Yw ((ac m).map fun k=>Y6 t (rp k)) (ac (ZD t t.length).length) (by
  refine Zh9 fun a b J hb e=>?_;have:=(q _ _ (C.rl a J) (C.rl b hb)).mpr e;rw[C.rn a J,C.rn b hb] at this;exact this) (fun x j=>by
  obtain⟨k,M,rfl⟩:=aN.mp j;exact ag.mpr (U.lt _ (C.rl k (ag.mp M))))
 have l2:=L2.Yw ((ac (ZD t t.length).length).map fun k=>cl (ZO t k)) (ac m) (by
  refine Zh9 fun a b J hb e=>?_;have:=(q _ _ (U.rl a J) (U.rl b hb)).mp e;rw[U.rn a J,U.rn b hb] at this;exact this) (fun x j=>by
  obtain⟨k,M,rfl⟩:=aN.mp j;exact ag.mpr (C.lt _ (U.rl k (ag.mp M))))
 rw[Za,Zg,Zg] at Y l2;omega
theorem ClW.turn (P:PW t)(C:ClW t cl rp m)(E:Nat->Nat)(i:Nat){z y:Nat}(hz:z<t.length)(j:y<t.length):sm t.length (fun x=>Xu (decide (cl x=i))*E (cl (ZT t (YL t x) (tb t z y))))=sm t.length (fun x=>Xu (decide (cl x=i))*E (cl (ZT t (YL t x) z))):=by
 rw[<-Zjm P j (fun x=>Xu (decide (cl x=i))*E (cl (ZT t (YL t x) (tb t z y))))];refine Yz fun x q=>?_;rw[C.con x y q j,ZlN P j q,<-Zdo P j (Yo P q).1 hz,C.con _ y (P.lt _ _ (Yo P q).1 hz) j]
theorem Zk5 (P:PW t)(h:tdB t bs D=true):TD t D.n D.p D.rp.length (eD D) (wD D) (fD D) D.z (fun s=>D.dg.getD s 0):=by
 unfold tdB at h;simp only[af] at h;obtain⟨⟨⟨⟨⟨⟨⟨⟨⟨⟨⟨⟨⟨⟨⟨h1,h2⟩,h3⟩,h4⟩,h5⟩,h6⟩,h7⟩,h8⟩,h9⟩,m6⟩,m8⟩,n6⟩,n8⟩,n9⟩,o0⟩,o5⟩:=h;have o6:=of_decide_eq_true h2;have m1:=of_decide_eq_true h3;have n1:=of_decide_eq_true h4;have n60:=of_decide_eq_true h5;have C:=ZiQ P h9 m6;have N1:=P.n1;have pr:=Zn1 h1;have O:∀{s c},s<D.rp.length->c<D.rp.length->Vw D.E s c<D.p/\Vw D.W s c<D.p:=fun {s c} j hc=>by
  have:=Yb (Yb n6 j) hc;rw[af,decide_eq_true_eq,decide_eq_true_eq] at this;exact this
 have o7:D.cl.getD 0 0=0:=(C.z 0 N1).mpr rfl;have M:∀{s},s<D.rp.length->1<=D.dg.getD s 0/\D.dg.getD s 0<D.p/\((D.dg.getD s 0:Int)*(D.dg.getD s 0:Int)-(Vw D.E s 0:Int)*(t.length:Int)) % (D.p:Int)=0/\∀d,1<=d->d<D.dg.getD s 0->((d:Int)*(d:Int)-(Vw D.E s 0:Int)*(t.length:Int)) % (D.p:Int)≠0:=fun {s} j=>by
  have:=Yb o5 j;simp only[af,decide_eq_true_eq] at this;obtain⟨⟨⟨a,b⟩,c⟩,d⟩:=this;refine⟨a,b,eq_of_beq c,fun k k1 kd=>?_⟩;have:=Yb d kd;rw[bu] at this;rcases this with q|q
  ·have:=eq_of_beq q
   omega
  ·simpa using q
 have e0:∀s,eD D s 0=Vw D.E s 0:=fun s=>by unfold eD;rw[o7]
 unfold itB at h6;rw[af] at h6;have Y:∀a,a<t.length->it t a D.n=0:=fun a ha=>eq_of_beq (Yb h6.1 ha);obtain⟨f1,f2⟩:=Ze9 h7;refine⟨?_,n1,n60,Y,fun x J=>?_,⟨f1,f2,pr.p2,by omega⟩,ZnO h8,fun s j=>(M j).1,fun s j=>(M j).2.1,fun s j=>by have:=(M j).2.1;omega,fun s j=>by rw[e0];exact (M j).2.2.1,fun s d' j a b=>by rw[e0];exact (M j).2.2.2 d' a b⟩
 ·refine⟨pr,m1,C.count P,fun s x y j J hy=>?_,fun s x y j J hy=>?_,fun s x j J=>(O j (C.lt x J)).1,fun s x j J=>(O j (C.lt x J)).2,fun s u z j hu hz=>?_,fun x J=>?_,fun s s' j m5=>?_,fun s s' j m5 h=>?_⟩
  ·unfold eD
   have:=C.con x y J hy;rw[this]
  ·unfold wD
   have:=C.con x y J hy;rw[this]
  ·obtain⟨y,hy,ey⟩:=C.tr z hz
   have o8:=C.rl _ (C.lt z hz);have a1:sm t.length (fun x=>Xu (cjB t u x)*eD D s (ZT t (YL t x) z))=sm t.length (fun x=>Xu (decide (D.cl.getD x 0=D.cl.getD u 0))*Vw D.E s (D.cl.getD (ZT t (YL t x) z) 0)):=Yz fun x J=>by rw[C.cj P hu J];rfl
   have a2:=C.turn P (Vw D.E s) (D.cl.getD u 0) o8 hy;rw[ey] at a2;rw[a1,a2];have a3:=eq_of_beq (Yb (Yb (Yb m8 j) (C.lt u hu)) (C.lt z hz));have a4:sm t.length (fun x=>Xu (decide (D.cl.getD x 0=D.cl.getD u 0))*Vw D.E s (D.cl.getD (ZT t (bs.getD x 0) (D.rp.getD (D.cl.getD z 0) 0)) 0))=sm t.length (fun x=>Xu (decide (D.cl.getD x 0=D.cl.getD u 0))*Vw D.E s (D.cl.getD (ZT t (YL t x) (D.rp.getD (D.cl.getD z 0) 0)) 0)):=Yz fun x J=>by rw[ZiU P h9 J]
   rw[a4] at a3;exact a3
  ·have:=eq_of_beq (Yb n8 (C.lt x J))
   have e1:sm D.rp.length (fun s=>eD D s x)=sm D.rp.length (fun s=>Vw D.E s (D.cl.getD x 0)):=rfl;rw[e1,this];by_cases q:x=0
   ·rw[if_pos q,if_pos ((C.z x J).mpr q)]
   ·rw[if_neg q,if_neg (fun zz=>q ((C.z x J).mp zz))]
  ·exact eq_of_beq (Yb (Yb n9 j) m5)
  ·have:=Yb (Yb o0 j) m5
   rw[bu] at this;rcases this with q|q
   ·exact eq_of_beq q
   ·obtain⟨i,hi,q⟩:=Zfa q
    have:=h (D.rp.getD i 0) (C.rl i hi);unfold wD at this;rw[C.rn i hi] at this;rw[this] at q;simp at q
 ·have o9:∀a,a<t.length->it t a (x % D.n)=0:=fun a ha=>by
   obtain⟨r,R⟩:=P.rd a ha;have p3:x % r=0:=by
    have:=J a ha;rw[UH R] at this;apply ah;intro zz;exact R.nz _ (by omega) (ba _ R.r1) this
   have p4:D.n % r=0:=by
    have:=Y a ha;rw[UH R] at this;apply ah;intro zz;exact R.nz _ (by omega) (ba _ R.r1) this
   rw[UH R,Zbs p3 p4];rfl
  apply ah;intro zz;have p6:=ba x (show 0<D.n by omega);have:=Yb h6.2 p6;rw[bu] at this;rcases this with q|q
  ·exact zz (eq_of_beq q)
  ·obtain⟨a,ha,q⟩:=Zfa q
   rw[o9 a ha] at q;simp at q
end
section
variable {t:List (List Nat)}{o:List Nat}
theorem Uo (P:PW t)(O:Ord t.length o){i j:Nat}(q:i<t.length)(J:j<t.length):o.getD (ZT (ren t o) i j) 0=ZT t (o.getD i 0) (o.getD j 0):=by
 rw[Zbr O q J];exact (Wd O (P.lt _ _ (YJ O q) (YJ O J))).2
theorem WC (O:Ord t.length o):(ren t o).length=t.length:=by rw[Zbh,O.len]
theorem Uq (P:PW t)(O:Ord t.length o){a:Nat}(j:a<t.length):∀k,o.getD (it (ren t o) a k) 0=it t (o.getD a 0) k
 |0=>O.z
 |k+1=>by
  have q:=JB P O;have:=YW q (a:=a) (by rw[WC O];exact j) k;rw[WC O] at this;rw[it,Uo P O this j,Uq P O j k];rfl
theorem Zho (P:PW t)(O:Ord t.length o){a:Nat}(j:a<t.length):o.getD (YL (ren t o) a) 0=YL t (o.getD a 0):=by
 have M:=JB P O;have J:=WC O;obtain⟨q,Y⟩:=Yo M (a:=a) (by rw[J];exact j);rw[J] at q;refine XL P (YJ O j) (YJ O q) ?_;rw[<-Uo P O j q,Y];exact O.z
theorem Zan (P:PW t)(O:Ord t.length o){b x:Nat}(hb:b<t.length)(j:x<t.length):o.getD (tb (ren t o) b x) 0=tb t (o.getD b 0) (o.getD x 0):=by
 have J:=JB P O;have q:=WC O;have M:=(Yo J (a:=x) (by rw[q];exact j)).1;have Y:=J.lt x b (by rw[q];exact j) (by rw[q];exact hb);rw[q] at M Y;unfold tb;rw[Uo P O Y M,Uo P O j hb,Zho P O j]
theorem Zl4 (O:Ord t.length o){x:Nat}(j:x<t.length):pos o (o.getD x 0)=x:=by
 have h:=Wd O (YJ O j);exact inj O h.1 j h.2
theorem Zlk (O:Ord t.length o)(F:Nat->Nat):sm t.length (fun x=>F (o.getD x 0))=sm t.length F:=
 Za6 (c:=fun x=>o.getD x 0) (d:=fun x=>pos o x) (fun x j=>YJ O j) (fun x j=>(Wd O j).1) (fun x j=>Zl4 O j) (fun x j=>(Wd O j).2) F
theorem ZnT (P:PW t)(O:Ord t.length o){u x:Nat}(M:u<t.length)(hx:x<t.length):cjB (ren t o) u x=cjB t (o.getD u 0) (o.getD x 0):=by
 have P':=JB P O;have j:=WC O;rw[dG,Vs,Vs,j];constructor
 ·rintro⟨y,q,e⟩
  exact⟨o.getD y 0,YJ O q,by rw[<-Zan P O M q,e]⟩
 ·rintro⟨y,q,e⟩
  have J:=Wd O q;refine⟨pos o y,J.1,?_⟩;have Y:=VA P' (b:=u) (x:=pos o y) (by rw[j];exact M) (by rw[j];exact J.1);rw[j] at Y;refine inj O Y hx ?_;rw[Zan P O M J.1,J.2,e]
variable {n p m:Nat}{e ω φ:Nat->Nat->Nat}{z:Nat}{dg:Nat->Nat}
theorem Zl5 (P:PW t)(O:Ord t.length o):ClW (ren t o) (fun x=>Y6 t (o.getD x 0)) (fun k=>pos o (ZO t k)) (ZD t t.length).length:=by
 have P':=JB P O;have q:=WC O;have U:=Y8 P;refine⟨fun x j=>?_,fun x j=>?_,fun x s j M=>?_,fun x j=>?_,fun k Y=>?_,fun k Y=>?_⟩
 ·rw[q] at j;exact U.lt _ (YJ O j)
 ·rw[q] at j
  rw[U.z _ (YJ O j)];constructor
  ·intro h
   exact inj O j P.n1 (h.trans O.z.symm)
  ·intro h
   rw[h];exact O.z
 ·rw[q] at j M
  show Y6 t (o.getD (tb (ren t o) x s) 0)=_;rw[Zan P O j M];exact U.con _ _ (YJ O j) (YJ O M)
 ·rw[q] at j ⊢
  have hc:=U.lt _ (YJ O j);have hr:=U.rl _ hc;obtain⟨s,M,es⟩:=U.tr (ZO t (Y6 t (o.getD x 0))) (o.getD x 0) hr (YJ O j) (U.rn _ hc);have hp:=Wd O M;have J:=Wd O hr;refine⟨pos o s,hp.1,?_⟩;have h1:=VA P' (b:=pos o (ZO t (Y6 t (o.getD x 0)))) (x:=pos o s) (by rw[q];exact J.1) (by rw[q];exact hp.1);rw[q] at h1;refine inj O h1 j ?_;rw[Zan P O J.1 hp.1,hp.2,J.2,es]
 ·rw[q];exact (Wd O (U.rl k Y)).1
 ·show Y6 t (o.getD (pos o (ZO t k)) 0)=k
  rw[(Wd O (U.rl k Y)).2];exact U.rn k Y
theorem TD.ren (P:PW t)(O:Ord t.length o)(D:TD t n p m e ω φ z dg):TD (ren t o) n p m (fun s x=>e s (o.getD x 0)) (fun s x=>ω s (o.getD x 0)) (fun s x=>φ s (o.getD x 0)) z dg:=by
 have P':=JB P O;have M:=WC O;have C:=D.cd;have lt:∀{x},x<(Tb.ren t o).length->x<t.length:=fun {x} h=>by rw[M] at h;exact h
 have e0:∀s,e s (o.getD 0 0)=e s 0:=fun s=>by rw[O.z]
 refine⟨⟨C.pr,C.m1,C.mc.trans ((Zl5 P O).count P'),fun s x y J j hy=>?_,fun s x y J j hy=>?_,fun s x J j=>C.elt s _ J (YJ O (lt j)),fun s x J j=>C.wlt s _ J (YJ O (lt j)),fun s u z J hu hz=>?_,fun x j=>?_,fun s s' J Y=>?_,fun s s' J Y h=>?_⟩,D.n1,D.n60,fun a ha=>?_,fun x j=>?_,by rw[M];exact D.fit,D.rt,D.d1,D.dp,D.dl,fun s J=>by rw[M];show ((dg s:Int)*(dg s:Int)-(e s (o.getD 0 0):Int)*(t.length:Int)) % (p:Int)=0;rw[e0];exact D.dq s J,fun s d' J a b=>by rw[M];show ((d':Int)*(d':Int)-(e s (o.getD 0 0):Int)*(t.length:Int)) % (p:Int)≠0;rw[e0];exact D.dm s d' J a b⟩
 ·show e s (o.getD (tb (Tb.ren t o) x y) 0)=_
  rw[Zan P O (lt j) (lt hy)];exact C.ec s _ _ J (YJ O (lt j)) (YJ O (lt hy))
 ·show ω s (o.getD (tb (Tb.ren t o) x y) 0)=_
  rw[Zan P O (lt j) (lt hy)];exact C.wc s _ _ J (YJ O (lt j)) (YJ O (lt hy))
 ·rw[M]
  have h1:sm t.length (fun x=>Xu (cjB (Tb.ren t o) u x)*e s (o.getD (ZT (Tb.ren t o) (YL (Tb.ren t o) x) z) 0))=sm t.length (fun x=>(fun y=>Xu (cjB t (o.getD u 0) y)*e s (ZT t (YL t y) (o.getD z 0))) (o.getD x 0)):=Yz fun x j=>by
   have hb:=(Yo P' (a:=x) (by rw[M];exact j)).1;rw[M] at hb;show _=Xu (cjB t (o.getD u 0) (o.getD x 0))*e s (ZT t (YL t (o.getD x 0)) (o.getD z 0));rw[ZnT P O (lt hu) j,Uo P O hb (lt hz),Zho P O j]
  rw[h1,Zlk O (fun y=>Xu (cjB t (o.getD u 0) y)*e s (ZT t (YL t y) (o.getD z 0)))];exact C.eig s _ _ J (YJ O (lt hu)) (YJ O (lt hz))
 ·have:=C.one _ (YJ O (lt j))
  rw[this];by_cases h:x=0
  ·rw[if_pos h,h,O.z,if_pos rfl]
  ·rw[if_neg h,if_neg]
   intro q;exact h (inj O (lt j) P.n1 (q.trans O.z.symm))
 ·rw[M,Zlk O (fun y=>φ s y*e s' y)]
  exact C.du s s' J Y
 ·refine C.sep s s' J Y fun u hu=>?_
  have hp:=Wd O hu;have:=h (pos o u) (by rw[M];exact hp.1);rw[hp.2] at this;exact this
 ·have hi:=YW P' ha n
  rw[M] at hi;refine inj O hi P.n1 ?_;rw[Uq P O (lt ha),O.z];exact D.all _ (YJ O (lt ha))
 ·refine D.mn x fun a ha=>?_
  have hp:=Wd O ha;have:=j (pos o a) (by rw[M];exact hp.1);have h2:=Uq P O hp.1 x;rw[this,hp.2,O.z] at h2;exact h2.symm
end
noncomputable def Zgd:Nat->Nat->List Nat
 |0,_=>[]
 |k+1,x=>x % 64::Zgd k (x / 64)
noncomputable def dgZ (k x:Nat):List Int:=(Zgd k x).map fun (v:Nat)=>(v:Int)-32
noncomputable def rwL {α:Type}(k:Nat):Nat->List α->List (List α)
 |0,_=>[]
 |r+1,l=>l.take k::rwL k r (l.drop k)
end Tb
namespace Pm
open Tb
noncomputable def sm1:List (List Nat):=[[3,2,2,0],[4,2,3,2],[4,1,1,0],[5,1,1,0],[2,2,1,0],[5,2,4,0],[4,2,3,0]]
noncomputable def VT:List (List Nat):=[[3,4,2,0],[7,3,2,0],[1,1,1,0],[3,1,1,0],[2,1,1,0],[6,1,1,0],[5,4,2,0]]
noncomputable def sm3:List (List Nat):=[[6,2,5,0],[3,3,1,0],[7,2,6,0],[8,2,3,0],[8,2,7,4],[8,2,7,0],[7,1,1,0]]
noncomputable def sm4:List (List Nat):=[[4,2,1,0],[8,1,1,0],[8,2,5,0],[9,2,8,0],[9,1,1,0],[4,4,3,0]]
noncomputable def smC:List (List Nat):=sm1++VT++sm3++sm4
noncomputable def pm3:List (List (List Nat)):=[[[1,2,0,3],[1,0,3,2]],[[1,2,3,0],[1,0,2,3]],[[1,2,3,4,0],[1,2,0,3,4]]]
noncomputable def pmI:List (List Nat):=[[3,7,2,6,1,5,0,4],[5,2,0,6,3,1,7,4]]
noncomputable def pc1:List (List Nat)×List (List Nat):=([[1,2,0,3],[1,0,3,2]],[[0,1,2,3],[0,2,3,1],[0,3,1,2],[1,0,3,2],[1,2,0,3],[1,3,2,0],[2,0,1,3],[2,1,3,0],[2,3,0,1],[3,0,2,1],[3,1,0,2],[3,2,1,0]])
noncomputable def pc2:List (List Nat)×List (List Nat):=([[1,2,3,0],[1,0,2,3]],[[0,1,2,3],[0,1,3,2],[0,2,1,3],[0,2,3,1],[0,3,1,2],[0,3,2,1],[1,0,2,3],[1,0,3,2],[1,2,0,3],[1,2,3,0],[1,3,0,2],[1,3,2,0],[2,0,1,3],[2,0,3,1],[2,1,0,3],[2,1,3,0],[2,3,0,1],[2,3,1,0],[3,0,1,2],[3,0,2,1],[3,1,0,2],[3,1,2,0],[3,2,0,1],[3,2,1,0]])
noncomputable def pc3:List (List Nat)×List (List Nat):=([[3,7,2,6,1,5,0,4],[5,2,0,6,3,1,7,4]],[[0,1,2,3,4,5,6,7],[0,1,3,4,2,7,5,6],[0,1,4,2,3,6,7,5],[1,0,5,7,6,2,4,3],[1,0,6,5,7,4,3,2],[1,0,7,6,5,3,2,4],[2,5,1,4,7,0,3,6],[2,5,4,7,1,6,0,3],[2,5,7,1,4,3,6,0],[3,7,1,2,6,0,4,5],[3,7,2,6,1,5,0,4],[3,7,6,1,2,4,5,0],[4,6,1,3,5,0,2,7],[4,6,3,5,1,7,0,2],[4,6,5,1,3,2,7,0],[5,2,0,6,3,1,7,4],[5,2,3,0,6,7,4,1],[5,2,6,3,0,4,1,7],[6,4,0,7,2,1,5,3],[6,4,2,0,7,5,3,1],[6,4,7,2,0,3,1,5],[7,3,0,5,4,1,6,2],[7,3,4,0,5,6,2,1],[7,3,5,4,0,2,1,6]])
noncomputable def pc4:List (List Nat)×List (List Nat):=([[1,2,3,4,0],[1,2,0,3,4]],[[0,1,2,3,4],[0,1,3,4,2],[0,1,4,2,3],[0,2,1,4,3],[0,2,3,1,4],[0,2,4,3,1],[0,3,1,2,4],[0,3,2,4,1],[0,3,4,1,2],[0,4,1,3,2],[0,4,2,1,3],[0,4,3,2,1],[1,0,2,4,3],[1,0,3,2,4],[1,0,4,3,2],[1,2,0,3,4],[1,2,3,4,0],[1,2,4,0,3],[1,3,0,4,2],[1,3,2,0,4],[1,3,4,2,0],[1,4,0,2,3],[1,4,2,3,0],[1,4,3,0,2],[2,0,1,3,4],[2,0,3,4,1],[2,0,4,1,3],[2,1,0,4,3],[2,1,3,0,4],[2,1,4,3,0],[2,3,0,1,4],[2,3,1,4,0],[2,3,4,0,1],[2,4,0,3,1],[2,4,1,0,3],[2,4,3,1,0],[3,0,1,4,2],[3,0,2,1,4],[3,0,4,2,1],[3,1,0,2,4],[3,1,2,4,0],[3,1,4,0,2],[3,2,0,4,1],[3,2,1,0,4],[3,2,4,1,0],[3,4,0,1,2],[3,4,1,2,0],[3,4,2,0,1],[4,0,1,2,3],[4,0,2,3,1],[4,0,3,1,2],[4,1,0,3,2],[4,1,2,0,3],[4,1,3,2,0],[4,2,0,1,3],[4,2,1,3,0],[4,2,3,0,1],[4,3,0,2,1],[4,3,1,0,2],[4,3,2,1,0]])
noncomputable def psC:List (List (List Nat)×List (List Nat)):=[pc1,pc2,pc3,pc4]
noncomputable def twX (x:List Nat):List (List Nat):=twT (x.getD 0 0) (x.getD 1 0) (x.getD 2 0) (x.getD 3 0)
noncomputable def a5D:List Nat:=Zgd 298 0xe2fd6c873923b697556d39ee7e5796a9164c9926902d8d32dce2465cf2883451c40bae7b8a0adc528c70d83040041040000000040000001040041001001040040001001001001001001001001001001000040040041001001036c70badae59238e281f79d6da6596185d65955134924514103ce34d30c2cb2892081c7185144103082041000e7beb2c70e36df5cf4b6fba6964b2aae99e82ca2481c61440c20408e18a079f69961d71b5d559449338d31140f8e28607de75c6da658e37dbbeb9d35cf1cb0b2baafbada299e59a44503d65d54d448c38d1440ca2c91c8180081
noncomputable def a5G:List Nat:=a5D.take 60
noncomputable def a5H:List Nat:=(a5D.drop 60).take 60
noncomputable def a5R:List Nat->List Nat->List (List Nat)->List (List Nat)
 |p::j,w::q,ZH=>a5R j q (ZH++[(ZH.getD p []).map fun y=>(if w=0 then a5G else a5H).getD y 0])
 |_,_,ZH=>ZH
noncomputable def tA5:List (List Nat):=(a5D.drop 238).map fun k=>(a5R ((a5D.drop 120).take 59) ((a5D.drop 179).take 59) [ac 60]).getD k []
noncomputable def tbC:List (List (List Nat)):=smC.map twX++[Y7 pc1.2,Y7 pc2.2,Y7 pc3.2,tA5]
noncomputable def ivM (p x:Nat):Nat:=((ac p).find? fun y=>y*x % p == 1).getD 0
noncomputable def Zon (N p:Nat)(bs J j q:List Nat)(E:List (List Nat)):List (List Nat):=(ac j.length).map fun s=>(ac j.length).map fun c=>N*Vw E s (J.getD (bs.getD (j.getD c 0) 0) 0)*ivM p (q.getD s 0*q.getD s 0 % p) % p
noncomputable def ZpU (p:Nat)(j:List Nat)(F:List (List Nat)):List (List Nat):=F.map fun r=>(ac r.length).map fun c=>r.getD c 0*(j.filter (· == c)).length % p
noncomputable def ZpW (N n p z:Nat)(bs cl rp dg:List Nat)(E:List (List Nat)):List Nat×Dt:=(bs,⟨n,p,z,cl,rp,E,ZpU p cl (Zon N p bs cl rp dg E),Zon N p bs cl rp dg E,dg⟩)
noncomputable def ZpV (x:Nat):List Nat×Dt:=match Zgd 5 x with
 | [N,m,n,p,z]=>let r:=Zgd (2*N+2*m+m*m) (x / 1073741824);ZpW N n p z (r.take N) ((r.drop N).take N) ((r.drop (2*N)).take m) (r.drop (2*N+m+m*m)) (rwL m m (r.drop (2*N+m)))
 |_=>([],⟨0,0,0,[],[],[],[],[],[]⟩)
noncomputable def U7:List (List Nat×Dt):=[
 0x810420031861860460810010810810050831010031c60c6,
 0x81041046000007145145145208145148148145148205103081003081103081003081107185005344148,
 0x1041044104103042102043101101103081003081001083002144104,
 0x410410492492491440432430441490450c42440c50491030810040c20400420c40032c5145,
 0x1041044104101044101101104041103081003081003081004142104,
 0x20810481401c52001ca28a28a2812840810010810c10c10810090871051832010022ca10a,
 0x81041046000007145145145208145148148145148205103081003081103081007085103181005344148,
 0x208104104208024024b08010024130804530c30c30c30c30130130130504830610308100314110314110308100918b10528720108300234c18c,
 0xc3041055700019715000669a69a69a6939fa69a5f3a92430810020440811020430811020430810c20401ce0cd1464d124420c2943d02d2042009ad5155,
 0x410000010c1041,
 0x410451450c61460c50810020400420021c30c3,
 0x10420810810010010020c2082,
 0x10410410461861861850c61431841410c21831460c51820c11441811811811851030810051030810010831050031c6186,
 0x1010410480000099d70929e79e79e79c29c29e74825e710308100308110308110308110308110308100948f11138720529330d18b401083002a54154,
 0x20810410420401801450400401430c30c30c40c41030c30c40c40c40c31040c610308100308110314110308100b0891071852032810031c618c,
 0x410410410410441041041041040410420821041020820410441040421010840421021011010810841010821010421020440811020441020411020811011021020420442071851030810081c61440c20401050c72060420021c3249,
 0x8208104f05101544f04054144f0156db6db6db6db09b1840810010810c11011010c108100d08b10918720528330100474e14e,
 0x8208104104034400000d0c400038034e10000300d41041041040141004141041040140140141040105028810308100318110318114308110308100708d10318920f28530b3810024481d0,
 0x8208104104d00400000d10c00014034414000c00d41041041041005004141041040140141005040105020610308100308110314118314110308100708510318120f28d30b3890024481d0,
 0x8208104104d00400000d10c00014034414000c00d41041041041005004141041040140141005040105020610308100308110314118314110308100f08d10b1892072853033810024481d0,
 0x410410410596596596590475185d06575014181d91d84015176580571d05195101d70586505d85070591851030810061440c20400420c41460077471c7,
 0x104104104104514514514514c30820104514104820c30514820514820514814814814814130520c04814c045201308145208145208147185103081007185103081003085107181005344208,
 0x104104104104f3cf3cf3cf3cd2410842103c90883c90883c120d0902443d020408124d3c80893c80893c425008d2013c23c23c23c23c7185103081007185103081001083105187002448208,
 0x208104104104104110000040000035010000004000035041041041041040140d34104411040140410104d35041040105040105041040140140140140140435004d10140140d11004434141041004141004140c20718510308100718524308120718510308100b08510f18920328d307381002448290,
 0x20820810410853403cd0811403c508d0403c23c20803d24924924924924814881840810010810c11011411411010c108101108f10d18b2092873053834010024d2192,
 0x410410410410514514514514512c61411101c94491d01011462d11c414b2500464454111504454110491471902c44501514054501511814092c51074442d01871490512071851030810081c61440c20400420c41461c80044c9249,
 0x20810410410410430c000000028028a0c00000000c028924924924924924924410410924924424710624710624424624710710624424610724610724424724610610724924424424424424924910910424424a20718510308100718510324120718510308100d18f10928b205387301083005344290,
 0x30410450001831850c31460c30c30c30810030420c204108308100b1c520a1091830420031c610c,
 0x830410c02c100b2080050861861861c61871852002022470c10031010821040c20440821040830410820410174553cb25641438a2133523071850c408100234c158,
 0xc108204204800008000218618618618010a08324b00a1022432c614218214600c3020412c608518508618510308100418118110110614608608508518510308100e2c834a1cc2465d44564d05523c414304200234c1d8,
 0xc310115b49100b49b4402c20807573cf3cf3c000d4834500c10020c31021020411010c21040c20c20410c11030c21040810420c40430441010c40c108208204108104104204103bb23bb77f5a1d51642fe20eab8a9d1c5d3479aa1b767b39db4953e6c59ca56a4c1838d30b1c520a1091830420037de17c].map ZpV
noncomputable def d0:List Nat×Dt:=([],⟨0,0,0,[],[],[],[],[],[]⟩)
noncomputable def okB (i:Nat):Bool:=pwB (tbC.getD i []) && tdB (tbC.getD i []) (U7.getD i d0).1 (U7.getD i d0).2
theorem okC:∀i,i<31->okB i=true
 |0,_=>by decide +kernel
 |1,_=>by decide +kernel
 |2,_=>by decide +kernel
 |3,_=>by decide +kernel
 |4,_=>by decide +kernel
 |5,_=>by decide +kernel
 |6,_=>by decide +kernel
 |7,_=>by decide +kernel
 |8,_=>by decide +kernel
 |9,_=>by decide +kernel
 |10,_=>by decide +kernel
 |11,_=>by decide +kernel
 |12,_=>by decide +kernel
 |13,_=>by decide +kernel
 |14,_=>by decide +kernel
 |15,_=>by decide +kernel
 |16,_=>by decide +kernel
 |17,_=>by decide +kernel
 |18,_=>by decide +kernel
 |19,_=>by decide +kernel
 |20,_=>by decide +kernel
 |21,_=>by decide +kernel
 |22,_=>by decide +kernel
 |23,_=>by decide +kernel
 |24,_=>by decide +kernel
 |25,_=>by decide +kernel
 |26,_=>by decide +kernel
 |27,_=>by decide +kernel
 |28,_=>by decide +kernel
 |29,_=>by decide +kernel
 |30,_=>by decide +kernel
 |n+31,h=>by omega
theorem ZlU:Y7 pc4.2=tA5:=by decide +kernel
noncomputable def MkC (t:List (List Nat)):Prop:=t∈tbC
end Pm
namespace L2
open PySem PySem.Spec PyProof.Rows
section
variable {X:Cx}
inductive Zbj (x:V) (vs:List V) (H:Hp) (Q:VK):Prop
 |mk (l:_) (xs:_) (y:_) (k:Nat):(x=.ref l)->(vs=[.int k,y])->(H l=some (.lst xs))->(k<=xs.length)->(fG (k:Int)=true)->(xs.length<sizeLine)->(Q .non (upd H l (.lst (xs.take k++y::xs.drop k))))->Zbj x vs H Q
theorem ZfZ:MtM X "list.insert" Zbj:=by
 intro m6 s σ H x vs v us Q I rx rv h;obtain⟨l,xs,y,k,rfl,rfl,hH,hk,hf,hz,q⟩:=h;cases rx;obtain⟨O,J,rfl,r1,Y⟩:∃O J,us=O::J/\RelV (.int (k:Int)) O/\ZP [y] J:=by
  cases rv with
  |cons r1 Y=>exact⟨_,_,rfl,r1,Y⟩
 obtain⟨u2,rfl,r2⟩:=Y.one;obtain⟨tk,rfl⟩:=r1;obtain⟨z,j,n,r,hl,e⟩:=I.lstM hH;have m8:=r.length;have h1:¬(!fG (k:Int))=true:=by rw[hf];exact aJ
 have h2:j.toArray.size<=sizeLine:=by rw[Zh];omega
 have hm:=@PySem.AutoListH.list_insert_list_int_val_1 l j.toArray n (k:Int) tk u2 h1 h2;have ha:=F.args_list_insert_3 (.ref l) (.int (k:Int) tk) u2;have hT:s.TypeIs (.ref l) "list":=⟨_,e,rfl⟩;have M:=F.entry_list_insert;have m5:=kQ;generalize hB:cK.«list.insert»=B at hm M;refine fo m5 hT M ha hm ⟨e,?_⟩;refine⟨.non,_,I.lset (its':=j.take k++u2::j.drop k) hH e ?_ ((r.take k).append (.cons r2 (r.drop k))) ?_,rfl,q⟩
 ·have e1:¬((k:Int)<0):=by omega
  simp only[if_neg e1];have e2:min ((k:Int).toNat) j.toArray.size=k:=by rw[Zj,Zh];omega
  rw[e2];simp;exact hG (by rw[bB];exact Zq _)
 ·rw[Zd,Zi,bU,bB]
  omega
end
end L2
namespace Pm
open PySem L2 PySem.Spec PyProof.Rows
open Tb
section
variable {X:Cx}
theorem ZhB {op:kP}{r:R2}{a b:Expr}{j tb:TE}{pos:Pos}(q:Ve X (binaryOp op) r)(J:PE X a j)(hb:QE X b tb):QE X (.BinOp a op b pos) (tOp r j tb):=⟨Zy q J hb.h⟩
theorem ZnX {o i e:Expr}{to ti te:TE}{q j M:Pos}(ho:PE X o to)(hi:QE X i ti)(he:QE X e te)(m6:Wo i=true:=by rfl)(m8:Wo e=true:=by rfl)
  (O:attributeBase o "insert" X.env (eval o X.env)=eval o X.env:=by rfl)
  (m5:((backTo j (starEach [i,e] X.env)).all (fun x=>!x.1) && (backToKw j (keywordEach [] X.env)).all (fun x=>x.1.isSome)
   && decide (([i,e]:List Expr).length+([]:List Keyword).length+(if ([]:List Keyword).isEmpty then 0 else 1)<30))=true:=by rfl)
  (Y:(q.endLine == j.line)=true:=by rfl) (hs:starEach [i,e] X.env=(false,eval i X.env)::starEach [e] X.env:=by rfl) (J:(backTo j (starEach [e] X.env)).any (·.1)=false:=by rfl)
  (n6:swapsWith (.Call (.Attribute o "insert" q) [i,e] [] j) none M.line X.env=pure false:=by rfl) :
  QS X (.Expr (.Call (.Attribute o "insert" q) [i,e] [] j) M) (Zk7 (tBM X.K "list" Zbj to (Ub ti (Ub te ZgQ)))):=⟨Yu (Wj aK kQ PySem.F.type_list_insert ZfZ ho (pc hi.h (pc he.h Zu m8) m6) O m5 Y hs J) n6⟩
theorem g4 (K:aa)(i j k l:Nat){X:Cx}{x y z u:Str}{n}{q J M O pos:Pos}(hc:X.calm=true)(hx:PG X (.Name x q) (Yg i))(hy:PG X (.Name y J) (Yg j))(hz:PG X (.Name z M) (Yg k))(hu:PG X (.Name u O) (Yg l))(hK:X.K=K:=by rfl)
  (hn:(assignEach [.Name x q,.Name y J,.Name z M,.Name u O] X.env).length=4:=by rfl) (Y:(assignEach [.Name x q,.Name y J,.Name z M,.Name u O] X.env).findIdx? (·.1)=none:=by rfl) :
  PG X (.Tuple [.Name x q,.Name y J,.Name z M,.Name u O] n pos) (Zf7 K 4 (JL (Yg i) (JL (Yg j) (JL (Yg k) (JL (Yg l) Zf8))))):=hK▸ZdR hc (Wy hx (Wy hy (Wy hz (Wy hu Zbm)))) hn Y
end
noncomputable def Zb1 (H:Hp)(M:Addr)(ls:List Addr)(j:List (List (List Nat))):Prop:=H M=some (.lst (ls.map V.ref))/\ls.length=j.length/\∀(i:Nat) l,ls[i]?=some l->l≠M/\∃bs,TupsAt H l bs (j.getD i [])
theorem Zb1.mono {H j:Hp}{M:Addr}{ls:List Addr}{mn:List (List (List Nat))}(s:Zv H j)(h:Zb1 H M ls mn):Zb1 j M ls mn:=
 ⟨s _ _ h.1,h.2.1,fun i l q=>let ⟨a,bs,b⟩:=h.2.2 i l q;⟨a,bs,b.mono s⟩⟩
theorem TupsAt.updM {H:Hp}{L M:Addr}{bs:List Addr}{yss:List (List Nat)}{vs:List V}{o:HO}(R:TupsAt H L bs yss)(j:H M=some (.lst vs))(q:L≠M):TupsAt (upd H M o) L bs yss:=
 ⟨by rw[Zz q];exact R.1,R.2.1,fun i b hb=>by
  have:=R.2.2 i b hb;rw[Zz (fun z=>by rw[z,j] at this;cases this)];exact this⟩
theorem TupsAt.cat {H:Hp}{L1 L2 N:Addr}{j J:List Addr}{M O:List (List Nat)}(q:TupsAt H L1 j M)(R2:TupsAt H L2 J O)(nN:H N=none):TupsAt (upd H N (.lst (j.map V.ref++J.map V.ref))) N (j++J) (M++O):=by
 have s:=Zv.upd (H:=H) (o:=.lst (j.map V.ref++J.map V.ref)) nN;refine⟨by rw[Zt,aR],by rw[Zd,Zd,q.2.1,R2.2.1],fun i b hb=>?_⟩;by_cases Y:i<j.length
 ·rw[au Y] at hb
  rw[Zb,au (by rw[<-q.2.1];exact Y),<-Zb];exact s _ _ (q.2.2 i b hb)
 ·rw[aw (by omega)] at hb
  rw[Zb,aw (by rw[<-q.2.1];omega),<-Zb,<-q.2.1];exact s _ _ (R2.2.2 _ b hb)
noncomputable def gkB (k:Nat)(y:List Nat):Bool:=decide (y.length=k) && y.all fun x=>decide (x<k)
theorem Zlx {k:Nat}{y:List Nat}(h:gkB k y=true):Gk k y:=by
 unfold gkB at h;rw[af,decide_eq_true_eq,aI] at h;exact⟨h.1,fun x j=>of_decide_eq_true (h.2 x j)⟩
noncomputable def ndB:List (List Nat)->Bool
 | []=>true
 |x::r=>!r.contains x && ndB r
theorem Zlo:∀{xs:List (List Nat)},ndB xs=true->xs.Nodup
 | [],_=>ee
 |x::r,h=>by
  unfold ndB at h;rw[af,fm] at h;refine bZ.mpr ⟨fun j=>?_,Zlo h.2⟩;rw[aB.mpr j] at h;cases h.1
theorem ZmL {q:List (List Nat)}(Y:PW (Y7 q)):∀a∈q,∀b∈q,Xp a b∈q:=by
 intro a ha b hb;obtain⟨i,hi⟩:=bN ha;obtain⟨j,O⟩:=bN hb;have J:(Y7 q).length=q.length:=by unfold Y7;rw[Za]
 have il:=(ae.mp hi).1;have jl:=(ae.mp O).1;have h:=Y.lt i j (by rw[J];exact il) (by rw[J];exact jl);have e:ZT (Y7 q) i j=q.findIdx (· == Xp a b):=by
  unfold ZT Y7;rw[Zb,Zb,Zc,hi];show (Option.getD (q.map _)[j]? 0)=_;rw[Zc,O];rfl
 rw[e,J] at h;obtain⟨x,hx,M⟩:=dA.mp h;rw[<-eq_of_beq M];exact hx
noncomputable def Zjs:List (List Nat)->Bool
 | []=>true
 |x::r=>(r.all fun y=>!PyZ.JO (nI y) (nI x)) && Zjs r
theorem ZgV:∀{xs:List (List Nat)},Zjs xs=true->Srt xs
 | [],_=>eG
 |x::r,h=>by
  unfold Zjs at h;rw[af,aI] at h;refine List.Pairwise.cons (fun y j=>?_) (ZgV h.2);obtain⟨z,q,rfl⟩:=aN.mp j;have:=h.1 z q;simpa using this
theorem Vl {t:List (List Nat)}(h:MkC t):PW t:=by
 obtain⟨i,hi⟩:=bN h;have J:=(ae.mp hi).1;have j:tbC.length=31:=by decide +kernel
 have:=okC i (by omega);unfold okB at this;have q:tbC.getD i []=t:=by rw[Zb,hi];rfl
 rw[q,af] at this;exact Zma this.1
end Pm
namespace C51
open PySem L2 PySem.Spec PyProof.Rows
open Tb Pm
noncomputable def pcB (x:List (List Nat)×List (List Nat)):Bool:=
 let k:=(x.1.getD 0 []).length
 decide (1<=k) && decide (k<=9) && decide (1<=x.1.length) && decide (x.1.length<=9) && x.1.all (gkB k) && decide ((bfs x.1 61 0 [ac k]).length<=60) && (bfs x.1 61 0 [ac k]).isPerm x.2 && decide (x.2.length<=60) && ndB x.2 && Zjs x.2 && x.2.all (gkB k)
theorem Zmd:psC.all pcB=true:=by decide +kernel
theorem ZfG {x:List (List Nat)×List (List Nat)}(j:x∈psC):x=pc1\/x=pc2\/x=pc3\/x=pc4:=by
 unfold psC at j;rcases aH.mp j with h|h
 ·exact .inl h
 rcases aH.mp h with h|h
 ·exact .inr (.inl h)
 rcases aH.mp h with h|h
 ·exact .inr (.inr (.inl h))
 ·exact .inr (.inr (.inr (aU.mp h)))
theorem in1:pc1∈psC:=ax
theorem in2:pc2∈psC:=aq _ ax
theorem in3:pc3∈psC:=aq _ (aq _ ax)
theorem in4:pc4∈psC:=aq _ (aq _ (aq _ ax))
theorem tb1:Y7 pc1.2∈[Y7 pc1.2,Y7 pc2.2,Y7 pc3.2,tA5]:=ax
theorem tb2:Y7 pc2.2∈[Y7 pc1.2,Y7 pc2.2,Y7 pc3.2,tA5]:=aq _ ax
theorem tb3:Y7 pc3.2∈[Y7 pc1.2,Y7 pc2.2,Y7 pc3.2,tA5]:=aq _ (aq _ ax)
theorem tb4:tA5∈[Y7 pc1.2,Y7 pc2.2,Y7 pc3.2,tA5]:=aq _ (aq _ (aq _ ax))
theorem ZhH (x:List (List Nat)×List (List Nat))(j:x∈psC):MkC (Y7 x.2):=by
 rcases ZfG j with h|h|h|h
 ·rw[h];exact aS _ tb1
 ·rw[h];exact aS _ tb2
 ·rw[h];exact aS _ tb3
 ·rw[h,ZlU];exact aS _ tb4
theorem Zme {x:List (List Nat)×List (List Nat)}(M:x∈psC):∃k fd,ByC k x.1 fd/\fd.Perm x.2/\ZoR k x.2:=by
 have:=aI.mp Zmd x M;unfold pcB at this;simp only[af,decide_eq_true_eq,aI] at this;obtain⟨⟨⟨⟨⟨⟨⟨⟨⟨⟨O,Y⟩,h3⟩,h4⟩,h5⟩,h6⟩,h7⟩,h8⟩,h9⟩,j⟩,q⟩:=this;have P:=Vl (ZhH x M);exact⟨(x.1.getD 0 []).length,bfs x.1 61 0 [ac (x.1.getD 0 []).length],⟨O,Y,h3,h4,fun g J=>Zlx (h5 g J),rfl,h6⟩,List.isPerm_iff.mp h7,⟨O,Y,h8,Zlo h9,ZgV j,fun g J=>Zlx (q g J),ZmL P⟩⟩
noncomputable def smB (x:List Nat):Bool:=decide (x.length=4) && decide (1<=x.getD 0 0) && decide (1<=x.getD 1 0) && decide (x.getD 0 0<=60) && decide (x.getD 1 0<=60) && decide (x.getD 0 0*x.getD 1 0<=60) && decide (x.getD 2 0<=60) && decide (x.getD 3 0<=60)
theorem ZlX:smC.all smB=true:=by decide +kernel
theorem ZpQ {x:List Nat}(h:x.length=4):x.map nV=[.int (x.getD 0 0:Nat),.int (x.getD 1 0:Nat),.int (x.getD 2 0:Nat),.int (x.getD 3 0:Nat)]:=by
 match x,h with
 | [a,b,c,d],_=>rfl
noncomputable abbrev Zhi:Stmt:=top 36
inductive Uh (vs:List V) (H:Hp) (Q:VK) (E03:XK):Prop
 |mk (p q:Addr) (b:Nat) (ms:Nat):(vs=[.ref p,.int ms])->(Wi H p q b)->(b<2 ^ 60)->(1<=ms)->(ms<=31)->(∀g t H',Tk p H H'->Wi H' p q (b+1)->GT H' g t->MkC t->Q (.ref g) H')->Uh vs H Q E03
section
variable {P:Program}{w:World}{K:aa}{mg:Str->Option Value}{base:Heap}
theorem Zf5 {j:TE}{v:V}{σ:L2.St}{H:Hp}{Q:List V->Hp->Prop}(h:j σ H fun x q=>Q [v,x] q):Ub (tC v) (Ub j ZgQ) σ H Q:=h
structure Wl (p:Prop):Prop where
 h:p
theorem ZkP {X:Cx}{j:List Stmt}{D:WO}{σ:L2.St}{H:Hp}{t:TS}(h:QSs X j t)(k:Wl (t D σ H)):∃t,PSs X j t/\t D σ H:=⟨t,h.h,k.h⟩
theorem ZfS {f:Addr}{fd:FuncData}(F:WI K "_law_group" "_law_group" Zhi f fd)(T:BlB mg)(GD:Fn P w K mg base Ym 1 "_law_draw" ["_law_feed_here", "_law_many"] Ui)(p4:Fn P w K mg base Ym 1 "_law_twisted" ["_law_m", "_law_k", "_law_r", "_law_c"] ZaQ)(p6:Fn P w K mg base Ym 1 "_law_by_perms" ["_law_perms"] Zg1)(p7:Fn P w K mg base Ym 1 "_law_times_of" ["_law_perms"] ZaR):Ya P w K mg base Ym 2 f fd ["_law_feed_here", "_law_most"] Uh:=by
 refine F.ok (FS (N:=["_law_feed_here", "_law_most", "_law_some", "_law_at", "_law_m", "_law_k", "_law_r", "_law_c", "_law_perms"])) (fun vs H Q E h=>?_) (fun cdv A p8 s H vs Q E hr h=>?_)
 ·obtain⟨p,q,b,ms,rfl,_⟩:=h;rfl
 ·obtain⟨p,q,b,ms,rfl,T0,hb,m1,m31,k⟩:=h
  refine ZkP (JW (Zcv 2 rfl (VB (JV (Ye [3,2,2,0] (qa qi (qa qi (qa qi (qa qi ZU)))) (by rfl)) (JV (Ye [4,2,3,2] (qa qi (qa qi (qa qi (qa qi ZU)))) (by rfl)) (JV (Ye [4,1,1,0] (qa qi (qa qi (qa qi (qa qi ZU)))) (by rfl)) (JV (Ye [5,1,1,0] (qa qi (qa qi (qa qi (qa qi ZU)))) (by rfl)) (JV (Ye [2,2,1,0] (qa qi (qa qi (qa qi (qa qi ZU)))) (by rfl)) (JV (Ye [5,2,4,0] (qa qi (qa qi (qa qi (qa qi ZU)))) (by rfl)) (JV (Ye [4,2,3,0] (qa qi (qa qi (qa qi (qa qi ZU)))) (by rfl)) W6)))))))))
   (JW (Zcv 2 rfl (ZhB Vh (vn 2) (VB (JV (Ye [3,4,2,0] (qa qi (qa qi (qa qi (qa qi ZU)))) (by rfl)) (JV (Ye [7,3,2,0] (qa qi (qa qi (qa qi (qa qi ZU)))) (by rfl)) (JV (Ye [1,1,1,0] (qa qi (qa qi (qa qi (qa qi ZU)))) (by rfl)) (JV (Ye [3,1,1,0] (qa qi (qa qi (qa qi (qa qi ZU)))) (by rfl)) (JV (Ye [2,1,1,0] (qa qi (qa qi (qa qi (qa qi ZU)))) (by rfl)) (JV (Ye [6,1,1,0] (qa qi (qa qi (qa qi (qa qi ZU)))) (by rfl)) (JV (Ye [5,4,2,0] (qa qi (qa qi (qa qi (qa qi ZU)))) (by rfl)) W6))))))))))
   (JW (Zcv 2 rfl (ZhB Vh (vn 2) (VB (JV (Ye [6,2,5,0] (qa qi (qa qi (qa qi (qa qi ZU)))) (by rfl)) (JV (Ye [3,3,1,0] (qa qi (qa qi (qa qi (qa qi ZU)))) (by rfl)) (JV (Ye [7,2,6,0] (qa qi (qa qi (qa qi (qa qi ZU)))) (by rfl)) (JV (Ye [8,2,3,0] (qa qi (qa qi (qa qi (qa qi ZU)))) (by rfl)) (JV (Ye [8,2,7,4] (qa qi (qa qi (qa qi (qa qi ZU)))) (by rfl)) (JV (Ye [8,2,7,0] (qa qi (qa qi (qa qi (qa qi ZU)))) (by rfl)) (JV (Ye [7,1,1,0] (qa qi (qa qi (qa qi (qa qi ZU)))) (by rfl)) W6))))))))))
   (JW (Zcv 2 rfl (ZhB Vh (vn 2) (VB (JV (Ye [4,2,1,0] (qa qi (qa qi (qa qi (qa qi ZU)))) (by rfl)) (JV (Ye [8,1,1,0] (qa qi (qa qi (qa qi (qa qi ZU)))) (by rfl)) (JV (Ye [8,2,5,0] (qa qi (qa qi (qa qi (qa qi ZU)))) (by rfl)) (JV (Ye [9,2,8,0] (qa qi (qa qi (qa qi (qa qi ZU)))) (by rfl)) (JV (Ye [9,1,1,0] (qa qi (qa qi (qa qi (qa qi ZU)))) (by rfl)) (JV (Ye [4,4,3,0] (qa qi (qa qi (qa qi (qa qi ZU)))) (by rfl)) W6)))))))))
   (JW ⟨ZE 3 rfl (Wr GD hr ZL (pc (vn 0) (pc (vn 1) Zu)))⟩
   (JW ⟨WF (ZS ZeM (vn 3) (cb (Yx K) T.len (pc (vn 2) Zu)) (ZY _))
    (Zs (Jf (ZF (Ji K) (vn 2) (vn 3) (fun _ _=>rfl)) (g4 K 4 5 6 7 rfl (gn 4) (gn 5) (gn 6) (gn 7)))
    (Zw (ZJ (Wr p4 hr ZL (pc (vn 4) (pc (vn 5) (pc (vn 6) (pc (vn 7) Zu)))))))) Yy⟩
   (JW (Zcv 8 rfl (Zpy (qal (VB (JV (Ye [1,2,0,3] (qa qi (qa qi (qa qi (qa qi ZU)))) (by rfl)) (JV (Ye [1,0,3,2] (qa qi (qa qi (qa qi (qa qi ZU)))) (by rfl)) W6))) (qal (VB (JV (Ye [1,2,3,0] (qa qi (qa qi (qa qi (qa qi ZU)))) (by rfl)) (JV (Ye [1,0,2,3] (qa qi (qa qi (qa qi (qa qi ZU)))) (by rfl)) W6))) (qal (VB (JV (Ye [1,2,3,4,0] (qa qi (qa qi (qa qi (qa qi (qa qi ZU))))) (by rfl)) (JV (Ye [1,2,0,3,4] (qa qi (qa qi (qa qi (qa qi (qa qi ZU))))) (by rfl)) W6))) ZjD)))))
   (JW (ZnX (vn 8) qi (VB (JV (Ye [3,7,2,6,1,5,0,4] (qa qi (qa qi (qa qi (qa qi (qa qi (qa qi (qa qi (qa qi ZU)))))))) (by rfl)) (JV (Ye [5,2,0,6,3,1,7,4] (qa qi (qa qi (qa qi (qa qi (qa qi (qa qi (qa qi (qa qi ZU)))))))) (by rfl)) W6))))
   ⟨Zw (ZJ (Wr p7 hr ZL (pc (Wr p6 hr ZL (pc (ZF (Ji K) (vn 8) (Zy YC (vn 3) (cb (Yx K) T.len (pc (vn 2) Zu))) (fun _ _=>rfl)) Zu)) Zu)))⟩)))))))) ?_
  refine⟨?_⟩;have sz:(16777216:Nat)=sizeLine:=by decide
  refine XY (JR sm1 (by decide) (by decide) fun O H1 s1 l1 i1 S1 n1=>?_);have t1:=s1.trans (Zv.upd (o:=.lst (O.map V.ref)) n1);have R1:TupsAt (upd H1 S1 (.lst (O.map V.ref))) S1 O sm1:=⟨Zt,l1,fun i b hb=>Zv.upd (o:=.lst (O.map V.ref)) n1 _ _ (i1 i b hb)⟩;generalize upd H1 S1 (.lst (O.map V.ref))=G1 at t1 R1 ⊢;refine XY ⟨_,rfl,JR VT (by decide) (by decide) fun Y H2 s2 l2 i2 S2 n2=>?_⟩;have t2:=s2.trans (Zv.upd (o:=.lst (Y.map V.ref)) n2);have R2:TupsAt (upd H2 S2 (.lst (Y.map V.ref))) S2 Y VT:=⟨Zt,l2,fun i b hb=>Zv.upd (o:=.lst (Y.map V.ref)) n2 _ _ (i2 i b hb)⟩;generalize upd H2 S2 (.lst (Y.map V.ref))=G2 at t2 R2 ⊢;have m8:=R1.mono t2;refine⟨S1,S2,_,_,rfl,rfl,m8.1,R2.1,by rw[Za,Za,m8.2.1,R2.2.1];decide,fun N2 m2=>?_⟩;have u2:=(t1.trans t2).trans (Zv.upd (o:=.lst (O.map V.ref++Y.map V.ref)) m2);have Q2:=m8.cat R2 m2;generalize upd G2 N2 (.lst (O.map V.ref++Y.map V.ref))=J2 at u2 Q2 ⊢;refine XY ⟨_,rfl,JR sm3 (by decide) (by decide) fun b3 H3 s3 l3 i3 S3 n3=>?_⟩;have t3:=s3.trans (Zv.upd (o:=.lst (b3.map V.ref)) n3);have R3:TupsAt (upd H3 S3 (.lst (b3.map V.ref))) S3 b3 sm3:=⟨Zt,l3,fun i b hb=>Zv.upd (o:=.lst (b3.map V.ref)) n3 _ _ (i3 i b hb)⟩;generalize upd H3 S3 (.lst (b3.map V.ref))=G3 at t3 R3 ⊢;have n6:=Q2.mono t3;refine⟨N2,S3,_,_,rfl,rfl,n6.1,R3.1,by rw[Za,Za,n6.2.1,R3.2.1];decide,fun N3 m3=>?_⟩;have u3:=(u2.trans t3).trans (Zv.upd (o:=.lst ((O++Y).map V.ref++b3.map V.ref)) m3);have Q3:=n6.cat R3 m3;generalize upd G3 N3 (.lst ((O++Y).map V.ref++b3.map V.ref))=J3 at u3 Q3 ⊢;refine XY ⟨_,rfl,JR sm4 (by decide) (by decide) fun b4 H4 s4 l4 i4 S4 n4=>?_⟩;have t4:=s4.trans (Zv.upd (o:=.lst (b4.map V.ref)) n4);have R4:TupsAt (upd H4 S4 (.lst (b4.map V.ref))) S4 b4 sm4:=⟨Zt,l4,fun i b hb=>Zv.upd (o:=.lst (b4.map V.ref)) n4 _ _ (i4 i b hb)⟩;generalize upd H4 S4 (.lst (b4.map V.ref))=G4 at t4 R4 ⊢;have n8:=Q3.mono t4;refine⟨N3,S4,_,_,rfl,rfl,n8.1,R4.1,by rw[Za,Za,n8.2.1,R4.2.1];decide,fun N4 m4=>?_⟩;have u4:=(u3.trans t4).trans (Zv.upd (o:=.lst ((O++Y++b3).map V.ref++b4.map V.ref)) m4);have Q4:TupsAt _ N4 (O++Y++b3++b4) smC:=n8.cat R4 m4;generalize upd G4 N4 (.lst ((O++Y++b3).map V.ref++b4.map V.ref))=J4 at u4 Q4 ⊢;generalize O++Y++b3++b4=bs at Q4;have T4:=T0.mono u4;have q0:smC.length=27:=by decide
  refine⟨_,rfl,_,rfl,p,q,_,b,rfl,T4,hb,by omega,by omega,fun r H5 r0 r1 k5 T5=>?_⟩;obtain⟨j,rfl⟩:=bY r0;have Q5:TupsAt H5 N4 bs smC:=⟨k5.lst T4 Q4.1,Q4.2.1,fun i b hb=>k5.tup T4 (Q4.2.2 i b hb)⟩;have kk:=(Tk.of u4).trans k5;have bl:(bs.map V.ref).length=27:=by rw[Za,Q5.2.1,q0]
  refine⟨_,rfl,_,rfl,N4,_,rfl,.inl (.of Q5.1),_,_,rfl,rfl,_,rfl,?_⟩;rw[bl];refine YG (fun hl=>?_) (fun hl=>?_)
  ·have hj:j<27:=by
    have:=of_decide_eq_true hl;omega
   have o6:j<smC.length:=by omega
   obtain⟨a,ha,n9,o0⟩:=Q5.get o6;have hm:smC.getD j []∈smC:=Zbt o6;have hs:=aI.mp ZlX _ hm;unfold smB at hs;simp only[af,decide_eq_true_eq] at hs;obtain⟨⟨⟨⟨⟨⟨⟨x1,x2⟩,x3⟩,x4⟩,x5⟩,x6⟩,x7⟩,x8⟩:=hs;have o7:MkC (twX (smC.getD j [])):=cn _ (aN.mpr ⟨_,hm,rfl⟩);generalize smC.getD j []=x at o0 hm x1 x2 x3 x4 x5 x6 x7 x8 o7;rw[ZpQ x1] at o0;refine⟨_,rfl,_,rfl,N4,_,_,_,rfl,rfl,.of Q5.1,n9,a,_,rfl,.of o0,rfl,_,_,rfl,_,_,rfl,_,_,rfl,_,_,rfl,rfl,?_⟩;refine⟨_,rfl,_,rfl,_,rfl,_,rfl,x.getD 0 0,x.getD 1 0,x.getD 2 0,x.getD 3 0,rfl,x2,x3,x4,x5,x6,x7,x8,fun g H6 s6 G6=>?_⟩;exact k g _ H6 (kk.trans (Tk.of s6)) (T5.mono s6) G6 o7
  ·have hj:27<=j:=by
    have:¬((j:Int)<((27:Nat):Int)):=fun z=>hl (decide_eq_true z);omega
   have r6:j-27<4:=by omega
   refine XY (ZgR pm3 (by decide) (by decide) fun ls H6 s6 r8 t5 M hM=>?_);have s7:=s6.trans (Zv.upd (H:=H6) (o:=.lst (ls.map V.ref)) hM);have m7:Zb1 (upd H6 M (.lst (ls.map V.ref))) M ls pm3:=⟨Zt,r8,fun i l hl=>by
    obtain⟨u1,cs,u2⟩:=t5 i l hl;refine⟨fun z=>?_,cs,u2.mono (Zv.upd hM)⟩;have:=u2.1;rw[z,hM] at this;cases this⟩
   have t6:H5 M=none:=s6.free hM;generalize upd H6 M (.lst (ls.map V.ref))=H7 at s7 m7 ⊢;refine⟨_,rfl,.inl ⟨rfl,_,.of m7.1⟩,Zf5 (JR pmI (by decide) (by decide) fun cs H8 s8 l8 i8 S hS=>?_)⟩;have s9:=s8.trans (Zv.upd (o:=.lst (cs.map V.ref)) hS);have RS:TupsAt (upd H8 S (.lst (cs.map V.ref))) S cs pmI:=⟨Zt,l8,fun i b hb=>Zv.upd (o:=.lst (cs.map V.ref)) hS _ _ (i8 i b hb)⟩;generalize upd H8 S (.lst (cs.map V.ref))=H9 at s9 RS ⊢;have m9:=m7.mono s9;have ll:ls.length=3:=m9.2.1;have t7:S≠M:=fun z=>by
    have:=s8 _ _ m7.1;rw[<-z,hS] at this;cases this
   refine⟨M,_,_,2,rfl,rfl,m9.1,by rw[Za,ll];decide,by decide,by rw[Za,ll,<-sz];decide,?_⟩
   match ls,ll with
   | [J,a1,a2],_=>
    obtain⟨t9,c0,u5⟩:=m9.2.2 0 J rfl;obtain⟨u9,c1,w8⟩:=m9.2.2 1 a1 rfl;obtain⟨w9,c2,x9⟩:=m9.2.2 2 a2 rfl;have v0:=u5.updM (o:=.lst [.ref J,.ref a1,.ref S,.ref a2]) m9.1 t9;have v1:=w8.updM (o:=.lst [.ref J,.ref a1,.ref S,.ref a2]) m9.1 u9;have v2:=x9.updM (o:=.lst [.ref J,.ref a1,.ref S,.ref a2]) m9.1 w9;have v3:=RS.updM (o:=.lst [.ref J,.ref a1,.ref S,.ref a2]) m9.1 t7;have m5:upd H9 M (.lst [.ref J,.ref a1,.ref S,.ref a2]) M=some (.lst [.ref J,.ref a1,.ref S,.ref a2]):=Zt;have o5:Zv H5 (upd H9 M (.lst [.ref J,.ref a1,.ref S,.ref a2])):=(s7.trans s9).updr t6;rw[show List.take 2 (gQ V.ref [J,a1,a2])++V.ref S::List.drop 2 (gQ V.ref [J,a1,a2])=[.ref J,.ref a1,.ref S,.ref a2] from rfl];generalize upd H9 M (.lst [.ref J,.ref a1,.ref S,.ref a2])=y4 at v0 v1 v2 v3 m5 o5 ⊢;have o8:∃l cs x,[V.ref J,.ref a1,.ref S,.ref a2][j-27]?=some (.ref l)/\x∈psC/\TupsAt y4 l cs x.1:=by
     match j-27,r6 with
     |0,_=>exact⟨J,c0,pc1,rfl,in1,v0⟩
     |1,_=>exact⟨a1,c1,pc2,rfl,in2,v1⟩
     |2,_=>exact⟨S,cs,pc3,rfl,in3,v3⟩
     |3,_=>exact⟨a2,c2,pc4,rfl,in4,v2⟩
    obtain⟨l,ds,x,n9,hx,Rl⟩:=o8;obtain⟨o9,p3,By,pm,Fs⟩:=Zme hx;have y6:=Q5.mono o5;refine⟨_,rfl,_,rfl,_,rfl,N4,_,rfl,.inl (.of y6.1),_,_,rfl,rfl,M,_,_,_,rfl,rfl,.of m5,?_,l,ds,x.1,o9,p3,rfl,Rl,By,fun L es H11 y8 y9=>?_⟩
    ·rw[bl,show (j:Int)-((27:Nat):Int)=((j-27:Nat):Int) by omega]
     exact ZK n9
    ·refine⟨L,es,p3,x.2,o9,rfl,y9,pm,Fs,fun g H12 s12 G12=>?_⟩
     have m6:=(o5.trans y8).trans s12;exact k g _ H12 (kk.trans (Tk.of m6)) (T5.mono m6) G12 (ZhH x hx)
end
end C51
namespace Tb
section
variable {t:List (List Nat)}
noncomputable def UI (t:List (List Nat))(i a:Nat):Option Nat:=if Yt (ZD t i) a then some ((ZD t i).findIdx (·.contains a)) else none
theorem Zc7 {i:Nat}(h:Yt (ZD t i) i=false):ZD t (i+1)=ZD t i++[Z2 t i]:=by
 rw[ZD,if_neg (by unfold Yt at h;rw[h];decide)]
theorem Zc6 {i:Nat}(h:Yt (ZD t i) i=true):ZD t (i+1)=ZD t i:=by
 rw[ZD,if_pos (by unfold Yt at h;rw[h])]
theorem ZkA (P:PW t){i:Nat}(hi:i<t.length)(h:Yt (ZD t i) i=false)(a:Nat):UI t (i+1) a=if a∈Z2 t i then some (ZD t i).length else UI t i a:=by
 have M:=Zc7 h;unfold UI;rw[M,List.findIdx_append];by_cases q:a∈Z2 t i
 ·have ns:¬ ∃c∈ZD t i,c.contains a=true:=by
   rintro⟨c,O,Y⟩;obtain⟨j,hj⟩:=bN O;have jl:=(ae.mp hj).1;have:=X7 P (i+1) (by omega) j (ZD t i).length c (Z2 t i) a (by rw[M,au jl];exact hj) (by rw[M,aw (Zq _),cD];rfl) (aB.mp Y) q;omega
  have se:Yt (ZD t i++[Z2 t i]) a=true:=by
   unfold Yt;rw[im,c6,aB.mpr q];simp
  rw[if_pos se,if_pos q,if_neg (fun z=>ns (dA.mp z)),List.findIdx_cons,aB.mpr q];simp
 ·have O:(Z2 t i).contains a=false:=by
   cases e:(Z2 t i).contains a with
   |false=>rfl
   |true=>exact absurd (aB.mp e) q
  have se:Yt (ZD t i++[Z2 t i]) a=Yt (ZD t i) a:=by
   unfold Yt;rw[im,c6,kF,O,gJ,gJ]
  rw[se,if_neg q];by_cases J:Yt (ZD t i) a=true
  ·rw[if_pos J,if_pos J,if_pos (dA.mpr (by
    obtain⟨c,h1,h2⟩:=aY.mp J;exact⟨c,h1,h2⟩))]
  ·rw[if_neg J,if_neg J]
theorem Zkz {i:Nat}(h:Yt (ZD t i) i=true)(a:Nat):UI t (i+1) a=UI t i a:=by
 unfold UI;rw[Zc6 h]
theorem ZkB (P:PW t){a:Nat}(j:a<t.length):UI t t.length a=some (Y6 t a):=by
 unfold UI Y6;rw[if_pos (Jv P t.length (Zq _) a j)]
end
end Tb
namespace C51
open PySem L2 PySem.Spec PyProof.Rows
open Tb Pm
theorem Zg3 {ns M:List Int}{c:List Nat}(J:bP ns M)(O:ns.Pairwise (· ≤ ·))(Y:M.Nodup)(hm:∀k:Int,k∈M↔∃a∈c,k=(a:Int))(q:c.Pairwise (· < ·)):ns.map V.int=c.map nV:=by
 have e:ns=c.map fun a:Nat=>(a:Int):=by
  refine lN (J.trans ?_) O ?_
  ·refine (cM Y ?_).mpr fun k=>?_
   ·refine fS _ (fun a b (h:a<b)=>?_) q
    omega
   ·rw[hm k,aN]
    exact⟨fun ⟨a,j,e⟩=>⟨a,j,e.symm⟩,fun ⟨a,j,e⟩=>⟨a,j,e.symm⟩⟩
  ·refine fS _ (fun a b (h:a<b)=>?_) q
   omega
 rw[e,aP];rfl
noncomputable def LsC (H:Hp)(L:Addr)(bs:List Addr)(j:List (List Nat)):Prop:=H L=some (.lst (bs.map V.ref))/\bs.length=j.length/\∀(i:Nat) b,bs[i]?=some b->b≠L/\H b=some (.lst ((j.getD i []).map nV))
theorem LsC.mono {H q:Hp}{L:Addr}{bs:List Addr}{j:List (List Nat)}(s:Zv H q)(h:LsC H L bs j):LsC q L bs j:=⟨s _ _ h.1,h.2.1,fun i b hb=>⟨(h.2.2 i b hb).1,s _ _ (h.2.2 i b hb).2⟩⟩
theorem LsC.updD {H:Hp}{L D:Addr}{bs:List Addr}{j:List (List Nat)}{q:List (YE×V)}{o:HO}(h:LsC H L bs j)(J:H D=some (.dK q)):LsC (upd H D o) L bs j:=
 ⟨by rw[Zz (fun z=>by have:=h.1;rw[z,J] at this;cases this)];exact h.1,h.2.1,fun i b hb=>⟨(h.2.2 i b hb).1,by
  have:=(h.2.2 i b hb).2;rw[Zz (fun z=>by rw[z,J] at this;cases this)];exact this⟩⟩
theorem LsC.push {H:Hp}{L b:Addr}{bs:List Addr}{q:List (List Nat)}{c:List Nat}(h:LsC H L bs q)(hb:H b=some (.lst (c.map nV)))(ne:b≠L):LsC (upd H L (.lst (bs.map V.ref++[.ref b]))) L (bs++[b]) (q++[c]):=by
 refine⟨by rw[Zt,aR];rfl,by rw[Zd,Zd,h.2.1];rfl,fun i d j=>?_⟩;by_cases M:i<bs.length
 ·rw[au M] at j
  obtain⟨O,Y⟩:=h.2.2 i d j;rw[Zz O,Zb,au (by rw[<-h.2.1];exact M),<-Zb];exact⟨O,Y⟩
 ·rw[aw (by omega)] at j
  cases J:i-bs.length with
  |zero=>
   rw[J] at j;cases j;rw[Zz ne,Zb,aw (by rw[<-h.2.1];omega),<-h.2.1,J];exact⟨ne,hb⟩
  |succ k=>rw[J] at j;cases j
noncomputable abbrev Zcm:Stmt:=top 38
noncomputable def vI:Option Nat->Option V:=Option.map fun n=>V.int (n:Nat)
inductive ZdD (vs:List V) (H:Hp) (Q:VK) (E03:XK):Prop
 |mk (g:Addr) (t:List (List Nat)):(vs=[.ref g])->(GT H g t)->(PW t)->(∀r L D bs kvs H',Zv H H'->H' r=some (.tup [.ref L,.ref D])->LsC H' L bs (ZD t t.length)->H' D=some (.dK kvs)->(∀a:Nat,a<t.length->YT kvs (.inl (a:Int))=some (.int (Y6 t a:Nat)))->Q (.ref r) H')->ZdD vs H Q E03
section
variable {P:Program}{w:World}{K:aa}{mg:Str->Option Value}{base:Heap}
theorem Zka {f:Addr}{fd:FuncData}(F:WI K "_law_classes" "_law_classes" Zcm f fd)(T:BlB mg)(TS:mg "set"=none):Ya P w K mg base Ym 1 f fd ["_law_group_here"] ZdD:=by
 refine F.ok (FS (N:=["_law_group_here", "_law_backs", "_law_found", "_law_met", "_law_thing", "_law_here", "_law_one"])) (fun vs H Q E h=>?_) (fun o7 A n8 s H vs Q E hr h=>?_)
 ·obtain⟨g,t,rfl,_⟩:=h;rfl
 ·obtain⟨g,t,rfl,G0,M,k⟩:=h
  have hu:(A.deeper (envOfC "_law_classes" (ZZ Zcm) s.heap.objs.size f o7)).units+1<cLine:=by have:=hr.un;omega
  refine⟨_,Zs (ZE 1 rfl (cmp ["_law_row"] [] ["_law_row"] rfl (itT K (vn 0)) (fun _ _ _ _ _=>gn 0) (fun _ _ _ _ _=>Z0) (fun _ _ _ _ _=>ZhM jN gS jM (Znv K) (vn 0) (pc Zx Zu))))
   (Zs (ZE 2 rfl (ZQ Zu))
   (Zs (ZE 3 rfl Zcz)
   (Zs (ZM am rfl (JA T.range (pc (cb (Yx K) T.len (pc (vn 0) Zu)) Zu)) (gnf 4 rfl)
   (Zw (WF (ZhG (Zaq hu (vn 4) (vn 3))) (Zs (ZfC 5 ["_law_t"] [0,4,1] ["_law_t", "_law_group_here", "_law_thing", "_law_backs"] rfl rfl (JA T.range (pc (cb (Yx K) T.len (pc (vn 0) Zu)) Zu)) (fun _ _ _ _ _=>gn 0) (fun _ _ _ _ _=>Z0) (fun _ _ _ _ _=>ZF (Xt K) (ZF (Xt K) (vn 1) (ZF (Xt K) (ZF (Xt K) (vn 1) (vn 0) (fun _ _=>rfl)) (vn 2) (fun _ _=>rfl)) (fun _ _=>rfl)) (ZF (Ji K) (vn 3) (vn 0) (fun _ _=>rfl)) (fun _ _=>rfl)))
   (Zs (ZE 5 rfl (cb (UW rfl) T.sorted (pc (ct (ZaF rfl) TS (pc (vn 5) Zu)) Zu)))
   (Zs (ZM am rfl (itL K (vn 5)) (gn 6)
   (Zw (Xe hu (vn 3) (vn 6) (cb (Yx K) T.len (pc (vn 2) Zu)) (by rfl))))
   (Zw (Yu (Wj aK aQ aT Z7 (vn 2) (pc (vn 5) Zu))))))) Yy)))
   (Zw (ZJ (ZdS (pc (vn 2) (pc (vn 3) Zu)))))))),?_⟩
  have sz:(16777216:Nat)=sizeLine:=by decide
  have n1:=M.n1;have n60:=M.n60;obtain⟨gs,u1,u2,u3⟩:=id G0;have el:(gs.map V.ref).length=t.length:=by rw[Za,u2]
  refine⟨_,rfl,g,rfl,⟨_,.of u1⟩,?_⟩;refine WZ (Wq (K:=K) (.of u1)) [] rfl (fun a=>nV (YL t a)) (by rw[el];omega) (fun i y hy O s' R' kk=>?_) (fun B H1 nB s1 hB=>?_)
  ·obtain⟨r,p6,rfl⟩:∃r,gs[i]?=some r/\y=.ref r:=by
    rw[Zc] at hy;cases e:gs[i]? with
    |none=>rw[e] at hy;cases hy
    |some r=>rw[e] at hy;exact⟨r,rfl,(aA hy).symm⟩
   have hi:i<t.length:=by rw[<-u2];exact (ae.mp p6).1
   have hz:=(u3 i r p6).mono s';obtain⟨b1,b2⟩:=Yo M hi;have hl:=XZ M hi;refine⟨_,rfl,⟨_,_,rfl,hz⟩,r,_,.int 0,YL t i,rfl,rfl,hz.sq,rfl,?_,by rw[Za,hl];exact b1,fun z Y=>?_,fun m z hm Y=>?_,kk O (Zv.refl _)⟩
   ·rw[aI]
    intro z Y;obtain⟨k,_,rfl⟩:=aN.mp Y;rfl
   ·rw[Vg M hi b1,b2] at Y
    cases Y;decide
   ·have p7:m<t.length:=by omega
    rw[Vg M hi p7] at Y;cases Y;have:ZT t i m≠0:=fun z=>by
     have:=XL M hi p7 z;omega
    show decide ((ZT t i m:Int)=0)=false;exact decide_eq_false (by omega)
  ·rw[el] at hB
   refine⟨(by show 0<=sizeLine;decide),fun L nL=>fun D nD=>?_⟩;have s2:=s1.trans (Zv.upd (H:=H1) (o:=.lst []) nL);have s3:=s2.trans (Zv.upd (o:=.dK []) nD);have t7:H L=none:=s1.free nL;have t9:H D=none:=s2.free nD;have p8:=(Zv.upd (o:=.dK []) nD) _ _ ((Zv.upd (H:=H1) (o:=.lst []) nL) _ _ hB);have q0:=(Zv.upd (o:=.dK []) nD) _ _ (Zt (H:=H1) (a:=L) (o:=.lst []));have r6:=Zt (H:=upd H1 L (.lst [])) (a:=D) (o:=.dK []);have u5:B≠L:=fun z=>by rw[z,nL] at hB;cases hB
   generalize upd (upd H1 L (.lst [])) D (.dK [])=H3 at s3 p8 q0 r6 ⊢;refine⟨_,rfl,g,_,rfl,.inr (.of (s3 _ _ u1)),_,rfl,by rw[el];omega,by rw[el];omega,?_⟩;rw[el,Zj];refine Z8 (fun i J O=>∃(w4 w5 w6:Option V) (bs:List Addr) (q:List (YE×V)),J=[some (.ref g),some (.ref B),some (.ref L),some (.ref D),w4,w5,w6]/\Zv H O/\O B=some (.lst ((ac t.length).map fun a=>nV (YL t a)))/\LsC O L bs (ZD t i)/\O D=some (.dK q)/\(∀a:Nat,YT q (.inl (a:Int))=vI (UI t i a))/\q.length<=60*i)
    ⟨_,_,_,[],[],rfl,s3,p8,⟨q0,rfl,fun i b hb=>by cases hb⟩,r6,fun a=>rfl,Zq _⟩ ?_ ?_
   ·rintro i J H4 hi ⟨w4,w5,w6,bs,q,rfl,s4,m6,R4,m8,hv,kl⟩
    rw[show (0:Int)+(i:Int)=(i:Int) by omega];refine⟨_,rfl,_,rfl,D,_,rfl,Jk.k (k:=.inl (i:Int)) m8,_,rfl,?_⟩;have o8:(YT q (.inl (i:Int))).isSome=Yt (ZD t i) i:=by
     rw[hv i];unfold UI vI;cases Yt (ZD t i) i <;> rfl
    rw[o8];refine YG (fun h=>?_) (fun h=>?_)
    ·have h:Yt (ZD t i) i=false:=by simpa using h
     have eU:=Zc7 h;refine⟨_,rfl,g,_,rfl,.inr (.of (s4 _ _ u1)),_,rfl,by rw[el];omega,by rw[el];omega,?_⟩;rw[el,Zj];refine WZ (W5 0 t.length) [some (.ref g),some (.int (i:Nat)),some (.ref B)] rfl (fun x=>nV (tb t i x)) (by rw[Za,Yl];omega) (fun j y hy O s' R' kk=>?_) (fun Eh H5 nE s5 hE=>?_)
     ·obtain⟨hj,rfl⟩:=VU hy
      have G':=G0.mono (s4.trans s');obtain⟨rs,r,h1,_,h2,h3,h4⟩:=G'.at M hj;have m1:=M.lt j i hj hi;obtain⟨rs',r',u9,_,w8,w9,x9⟩:=G'.at M m1;have y4:=s' _ _ m6;have gB:((ac t.length).map fun a=>nV (YL t a))[j]?=some (nV (YL t j)):=by rw[Zc,ao hj];rfl
      refine⟨_,rfl,_,rfl,_,rfl,g,_,_,_,rfl,rfl,.of h1,h2,_,rfl,r,_,_,_,rfl,rfl,h3.sq,h4 i hi,g,_,_,_,rfl,rfl,.of u9,w8,_,rfl,_,rfl,B,_,_,_,rfl,rfl,.of y4,ZK gB,r',_,_,_,rfl,rfl,w9.sq,x9 _ (Yo M hj).1,?_⟩;exact kk O (Zv.refl _)
     ·rw[Za,Yl] at hE
      have eN:((ac t.length).map fun x=>nV (tb t i x))=((ac t.length).map fun x=>((tb t i x:Nat):Int)).map V.int:=by rw[aP];rfl
      rw[eN] at hE;generalize hN:((ac t.length).map fun x=>((tb t i x:Nat):Int))=N at hE;have nl:N.length=t.length:=by rw[<-hN,Za,Zg]
      refine⟨_,rfl,Eh,N,rfl,.of hE,by omega,fun p1 y6=>?_⟩;have s6:=Zv.upd (o:=Zcj P w p1 (JK N N.length)) y6;have ml:(JK N N.length).length<=N.length:=jy _ _;refine⟨p1,JK N N.length,rfl,Zt,Js _ _,by omega,fun l ns o9 hp hs=>?_⟩;rw[show (Zc1 Ym P w K mg base ["_law_group_here", "_law_backs", "_law_found", "_law_met", "_law_thing", "_law_here", "_law_one"] "_law_classes" (ZZ Zcm) f o7 A n8 s H E).nox.prog=P from rfl,show (Zc1 Ym P w K mg base ["_law_group_here", "_law_backs", "_law_found", "_law_met", "_law_thing", "_law_here", "_law_one"] "_law_classes" (ZZ Zcm) f o7 A n8 s H E).nox.w=w from rfl] at o9 ⊢;have s7:=Zv.upd (o:=.lst (ns.map V.int)) o9;have e:=Zg3 (c:=Z2 t i) hp hs (Js _ _) (fun k=>?_) (Zc5 i)
      ·rw[e] at s7 ⊢
       have n9:=Zt (H:=upd H5 p1 (Zcj P w p1 (JK N N.length))) (a:=l) (o:=.lst ((Z2 t i).map nV));have o0:=(s5.trans s6).trans s7;have y8:l≠L:=fun z=>by
        have:=(s5.trans s6) _ _ R4.1;rw[<-z,o9] at this;cases this
       generalize upd (upd H5 p1 (Zcj P w p1 (JK N N.length))) l (.lst ((Z2 t i).map nV))=H7 at s7 n9 o0 ⊢;have r8:=o0 _ _ m8;have y9:l≠D:=fun z=>by rw[z,r8] at n9;cases n9
       have nBD:B≠D:=fun z=>by rw[z,m8] at m6;cases m6
       have cl:=Zfj (t:=t) i;refine⟨_,rfl,l,rfl,⟨_,.of n9⟩,?_⟩;refine Zix (K:=K) (a:=l) (xs:=(Z2 t i).map nV) (fun j J O=>∃(w6:Option V) (m5:List (YE×V)),J=[some (.ref g),some (.ref B),some (.ref L),some (.ref D),some (.int (i:Nat)),some (.ref l),w6]/\Zv H O/\O l=some (.lst ((Z2 t i).map nV))/\O B=some (.lst ((ac t.length).map fun a=>nV (YL t a)))/\LsC O L bs (ZD t i)/\O D=some (.dK m5)/\(∀a:Nat,YT m5 (.inl (a:Int))=if a∈(Z2 t i).take j then some (.int ((ZD t i).length:Nat)) else vI (UI t i a))/\m5.length<=60*i+j)
        ⟨_,q,rfl,s4.trans o0,n9,o0 _ _ m6,R4.mono o0,r8,fun a=>by rw[hv a,fg,if_neg (by simp)],kl⟩ (fun j J O _ h=>by
         obtain⟨_,_,_,_,hl',_⟩:=h;exact .of hl') ?_ ?_
       ·rintro j y J H8 hy ⟨w6',m5,rfl,s8,p3,p4,R8,n6,o5,t5⟩
        obtain⟨c,hc,rfl⟩:=XC hy;have hj:j<(Z2 t i).length:=(ae.mp hc).1;have nLD:L≠D:=fun z=>by have:=R8.1;rw[z,n6] at this;cases this
        have bl:=R8.2.1;refine⟨_,rfl,L,_,rfl,.inl (.of R8.1),_,rfl,_,rfl,D,_,rfl,Vz.k (k:=.inl (c:Int)) n6 (by omega),?_⟩;refine⟨_,_,rfl,s8.updr t9,by rw[Zz y9];exact p3,by rw[Zz nBD];exact p4,R8.updD n6,Zt,fun a=>?_,?_⟩
        ·rw[ZgF,o5 a,cU,hc]
         by_cases o6:a=c
         ·rw[if_pos (by rw[o6]),if_pos (by rw[o6];simp),Za,bl]
         ·rw[if_neg (fun z=>o6 (by have:=Sum.inl.inj z;omega))]
          by_cases ha:a∈(Z2 t i).take j
          ·rw[if_pos ha,if_pos (cn _ ha)]
          ·rw[if_neg ha,if_neg]
           intro z;rcases bS.mp z with z|z
           ·exact ha z
           ·exact o6 (aU.mp z)
        ·have:=Ja m5 (.inl (c:Int)) (.int ((bs.map V.ref).length:Nat))
         omega
       ·rintro J H8 ⟨w6',m5,rfl,s8,p3,p4,R8,n6,o5,t5⟩
        rw[Za] at o5 t5;have bl:=R8.2.1;have ul:=W0 (t:=t) i;refine⟨_,rfl,.inl ⟨rfl,_,.of R8.1⟩,_,rfl,L,_,_,rfl,rfl,R8.1,by rw[Za];omega,?_⟩;refine⟨_,_,_,bs++[l],m5,rfl,s8.updr t7,by rw[Zz u5];exact p4,by rw[eU];exact R8.push p3 y8,?_,fun a=>?_,by omega⟩
        ·rw[Zz (fun z=>by have:=R8.1;rw[<-z,n6] at this;cases this)]
         exact n6
        ·rw[o5 a,c9,ZkA M hi h]
         by_cases ha:a∈Z2 t i
         ·rw[if_pos ha,if_pos ha];rfl
         ·rw[if_neg ha,if_neg ha]
      ·rw[ZeR]
       constructor
       ·rintro⟨j,hj,e⟩
        have t6:j<t.length:=by omega
        refine⟨tb t i j,(Yi M hi).mpr ⟨j,t6,rfl⟩,?_⟩;rw[<-e,<-hN,Zb,Zc,ao t6];rfl
       ·rintro⟨a,ha,rfl⟩
        obtain⟨x,hx,e⟩:=(Yi M hi).mp ha;refine⟨x,by omega,?_⟩;rw[<-e,<-hN,Zb,Zc,ao hx];rfl
    ·have h:Yt (ZD t i) i=true:=by simpa using h
     exact⟨_,_,_,bs,q,rfl,s4,m6,by rw[Zc6 h];exact R4,m8,fun a=>by rw[Zkz h];exact hv a,by omega⟩
   ·rintro J H4 ⟨w4,w5,w6,bs,q,rfl,s4,m6,R4,m8,hv,kl⟩
    refine⟨_,rfl,_,rfl,(by show 2<=sizeLine;decide),fun r nr=>?_⟩;exact k r L D bs q _ (s4.trans (Zv.upd nr)) Zt (R4.mono (Zv.upd nr)) (Zv.upd nr _ _ m8) fun a ha=>by rw[hv a,ZkB M ha];rfl
end
noncomputable abbrev Zet:Stmt:=top 39
inductive Uf (vs:List V) (H:Hp) (Q:VK) (E03:XK):Prop
 |mk (g:Addr) (t:List (List Nat)) (rs:Nat->Nat):(vs=[.ref g])->(GT H g t)->(PW t)->((∀a,a<t.length->Rd t a (rs a)))->(∀(f:Nat) H',Zv H H'->Lc rs t.length f->Q (.int f) H')->Uf vs H Q E03
section
variable {P:Program}{w:World}{K:aa}{mg:Str->Option Value}{base:Heap}
theorem ZfQ {f:Addr}{fd:FuncData}(F:WI K "_law_round" "_law_round" Zet f fd)(T:BlB mg):Ya P w K mg base Ym 1 f fd ["_law_group_here"] Uf:=by
 refine F.ok (FS (N:=["_law_group_here", "_law_found", "_law_thing", "_law_many", "_law_here", "_law_lead"])) (fun vs H Q E h=>?_) (fun o6 A m8 s H vs Q E hr h=>?_)
 ·obtain⟨g,t,rs,rfl,_⟩:=h;rfl
 ·obtain⟨g,t,rs,rfl,G,Pt,R,q⟩:=h
  refine⟨_,Zs (ZE 1 rfl Zx) (Zs (ZM am rfl (JA T.range (pc (cb (Yx K) T.len (pc (vn 0) Zu)) Zu)) (gn 2)
    (Zs (ZE 3 rfl Zx)
    (Zs (ZE 4 rfl (vn 2))
    (Zs (Yf am (ZS JJ (vn 4) Zx (ZY _))
     (Zs (ZE 4 rfl (ZF (Xt K) (ZF (Xt K) (vn 0) (vn 4) (fun _ _=>rfl)) (vn 2) (fun _ _=>rfl)))
     (Zw (ZE 3 rfl (Zy Yr (vn 3) Zx)))))
    (Zs (ZE 5 rfl (vn 1))
    (Zs (Yf am (ZS JJ (Zy ZV (vn 5) (vn 3)) Zx (ZY _)) (Zw (ZE 5 rfl (Zy Yr (vn 5) (vn 1)))))
    (Zw (ZE 1 rfl (vn 5)))))))))
   (Zw (ZJ (vn 1)))),?_⟩
  have n1:=Pt.n1;have o7:=Pt.n60;obtain⟨gs,g1,g2,_⟩:=id G;have el:(gs.map V.ref).length=t.length:=by rw[Za,g2]
  refine⟨_,rfl,g,_,rfl,.inr (.of g1),_,rfl,by omega,by rw[el];omega,?_⟩;rw[Zj,el];refine Z8 (fun i m5 H'=>∃(f:Nat) (v2 v3 v4 v5:Option V),m5=[some (.ref g),some (.int f),v2,v3,v4,v5]/\Zv H H'/\Lc rs i f) ⟨1,_,_,_,_,rfl,Zv.refl _,⟨Zq _,fun a ha=>absurd ha (dI _),fun x _=>Nat.mod_one x⟩⟩ ?_ ?_
  ·rintro i m5 H' hi ⟨f,v2,v3,v4,v5,rfl,sm,L⟩
   rw[show (0:Int)+(i:Int)=(i:Int) by omega];have Ri:=R i hi;have n6:=Ri.r1;have L2:Lc rs (i+1) (upTo (rs i) f 61 f):=L.step (B:=t.length) n1 (fun a ha=>(R a (by omega)).dv) (by omega);have m6:=L2.dv i (by omega);have Gm:=G.mono sm;refine⟨_,rfl,?_⟩;refine Z9 (fun m j M=>∃k:Nat,j=[some (.ref g),some (.int f),some (.int i),some (.int k),some (.int (it t i k:Nat)),v5]/\M=H'/\1<=k/\k<=rs i/\m=rs i-k)
    (fun j M=>∃w4:Option V,j=[some (.ref g),some (.int f),some (.int i),some (.int (rs i:Nat)),w4,v5]/\M=H') ?hend1 ⟨rs i-1,1,by rw[ZbD Pt hi];rfl,rfl,Zq _,n6,rfl⟩ ?turn1
   case turn1=>
    rintro O m j M ⟨k,rfl,rfl,k1,kr,hm⟩;refine⟨_,rfl,rfl,_,rfl,?_⟩;refine YG (fun J=>?_) (fun J=>?_)
    ·have J:it t i k≠0:=fun z=>by
      rw[Yd,z] at J;simp at J
     have o8:k<rs i:=bw kr fun z=>J (z▸Ri.z);obtain⟨o9,r2,n9,_,o0,g3,g4⟩:=Gm.at Pt (YW Pt hi k);refine⟨_,fun _ _ z=>z,_,rfl,_,rfl,g,_,_,_,rfl,rfl,.of n9,o0,_,rfl,r2,_,_,_,rfl,rfl,g3.sq,g4 i hi,_,rfl,_,_,rfl,rfl,rs i-(k+1),by omega,k+1,?_,rfl,by omega,by omega,rfl⟩;rfl
    ·have J:it t i k=0:=by
      apply ah;intro z;apply J;rw[Yd];simp[z]
     have:k=rs i:=by
      apply ah;intro z;exact Ri.nz k k1 (by omega) J
     exact O _ _ ⟨_,by rw[this],rfl⟩
   case hend1=>
    rintro j M ⟨w4,rfl,rfl⟩;refine⟨_,rfl,?_⟩;refine Z9 (fun m j H3=>∃x:Nat,j=[some (.ref g),some (.int f),some (.int i),some (.int (rs i:Nat)),w4,some (.int x)]/\H3=M/\upTo (rs i) f m x=upTo (rs i) f 61 f)
     (fun j H3=>j=[some (.ref g),some (.int f),some (.int i),some (.int (rs i:Nat)),w4,some (.int (upTo (rs i) f 61 f:Nat))]/\H3=M) ?hend ⟨61,f,rfl,rfl,rfl⟩ ?turn
    case hend=>
     rintro j H3 ⟨rfl,rfl⟩;exact⟨_,rfl,_,_,_,_,_,rfl,sm,L2⟩
    case turn=>
     rintro O m j H3 ⟨x,rfl,rfl,Y⟩;have eT:(x:Int) % ((rs i:Nat):Int)=((x % rs i:Nat):Int):=by push_cast;rfl
     refine⟨_,rfl,_,rfl,_,_,rfl,rfl,(by show (0:Int)<(rs i:Nat);omega),rfl,_,rfl,?_⟩;refine YG (fun J=>?_) (fun J=>?_)
     ·have J:x % rs i≠0:=fun z=>by
       rw[Yd,eT,z] at J;simp at J
      cases m with
      |zero=>
       have Y:x=upTo (rs i) f 61 f:=Y;rw[<-Y] at m6;exact absurd m6 J
      |succ m=>
       rw[Tb.upTo,if_neg J] at Y;exact⟨_,fun _ _ z=>z,_,rfl,_,rfl,_,_,rfl,rfl,m,by omega,x+f,rfl,rfl,Y⟩
     ·have J:x % rs i=0:=by
       apply ah;intro z;apply J;rw[Yd,eT];simp;omega
      have:x=upTo (rs i) f 61 f:=by
       cases m with
       |zero=>exact Y
       |succ m=>rw[Tb.upTo,if_pos J] at Y;exact Y
      exact O _ _ ⟨by rw[this],rfl⟩
  ·rintro m5 H' ⟨f,v2,v3,v4,v5,rfl,sm,L⟩
   exact⟨_,rfl,q f H' sm L⟩
end
structure Bl (mg:Str->Option Value):Prop where
 list:mg "list"=none
 len:mg "len"=none
 abs:mg "abs"=none
 range:mg "range"=none
 tuple:mg "tuple"=none
 isi:mg "isinstance"=none
 all:mg "all"=none
 set:mg "set"=none
 repr:mg "repr"=none
 any:mg "any"=none
 int:mg "int"=none
 bool:mg "bool"=none
noncomputable abbrev Zlj:Stmt:=top 3
inductive ZdE (K:aa) (vs:List V) (H:Hp) (Q:VK) (E03:XK):Prop
 |mk (g:Addr) (t:List (List Nat)) (a r:Nat):(vs=[.ref g,.int a])->(GT H g t)->(PW t)->(a<t.length)->(Rd t a r)->(Q (.int (it t a (r-1):Nat)) H)->ZdE K vs H Q E03
section
variable {P:Program}{w:World}{K:aa}{mg:Str->Option Value}{base:Heap}
theorem Zkb {f:Addr}{fd:FuncData}(F:WI K "back" "back" Zlj f fd):Ya P w K mg base Ym 1 f fd ["group", "a"] (ZdE K):=by
 refine F.ok (FS (N:=["group", "a"])) (fun vs H Q E h=>?_) (fun m5 A Y s H vs Q E hr h=>?_)
 ·obtain⟨g,t,a,r,rfl,_⟩:=h;rfl
 ·obtain⟨g,t,a,r,rfl,G,J,M,R,q⟩:=h
  refine⟨_,Zw (ZJ (ZhM jN gS jM (Znv K) (ZF (Xt K) (vn 0) (vn 1) (fun _ _=>rfl)) (pc Zx Zu))),?_⟩;obtain⟨rs,r1,h1,_,h2,h3,h4⟩:=G.at J M;have hl:=XZ J M;have il:=YW J M (r-1);refine⟨_,rfl,_,rfl,g,_,_,_,rfl,rfl,.of h1,h2,⟨_,_,rfl,h3⟩,r1,_,.int 0,it t a (r-1),rfl,rfl,h3.sq,rfl,?_,by rw[Za,hl];exact il,fun z j=>?_,fun m z hm j=>?_,q⟩
  ·rw[aI]
   intro z j;obtain⟨k,_,rfl⟩:=aN.mp j;rfl
  ·rw[Vg J M il,R.bk] at j
   cases j;decide
  ·have O:m<t.length:=by omega
   rw[Vg J M O] at j;cases j;have:ZT t a m≠0:=fun z=>by
    have:=R.un m O z;omega
   show decide ((ZT t a m:Int)=0)=false;exact decide_eq_false (by omega)
end
noncomputable abbrev Zes:Stmt:=top 7
noncomputable abbrev Zam:Stmt:=top 8
noncomputable abbrev Uk:Stmt:=top 9
noncomputable abbrev ZlZ:Stmt:=top 47
structure Zgw (mg:Str->Option Value):Prop where
 sorted:mg "sorted"=none
 enumerate:mg "enumerate"=none
theorem Zju {ns M:List Int}{c:List Nat}(J:bP ns M)(O:ns.Pairwise (· ≤ ·))(Y:M.Nodup)(hm:∀k:Int,k∈M↔∃a∈c,k=(a:Int))(q:c.Pairwise (· < ·)):ns.map V.int=c.map nV:=by
 have e:ns=c.map fun a:Nat=>(a:Int):=by
  refine lN (J.trans ?_) O ?_
  ·refine (cM Y ?_).mpr fun k=>?_
   ·refine fS _ (fun a b (h:a<b)=>?_) q
    omega
   ·rw[hm k,aN]
    exact⟨fun ⟨a,j,e⟩=>⟨a,j,e.symm⟩,fun ⟨a,j,e⟩=>⟨a,j,e.symm⟩⟩
  ·refine fS _ (fun a b (h:a<b)=>?_) q
   omega
 rw[e,aP];rfl
inductive Ue (vs:List V) (H:Hp) (Q:VK) (E03:XK):Prop
 |mk (g:Addr) (t:List (List Nat)) (b x:Nat):(vs=[.ref g,.int b,.int x])->(GT H g t)->(PW t)->(b<t.length)->(x<t.length)->(Q (.int (tb t b x:Nat)) H)->Ue vs H Q E03
inductive Xx (vs:List V) (H:Hp) (Q:VK) (E03:XK):Prop
 |mk (g:Addr) (t:List (List Nat)) (b:Nat):(vs=[.ref g,.int b])->(GT H g t)->(PW t)->(b<t.length)->(∀r H',Zv H H'->H' r=some (.tup ((Z2 t b).map nV))->Q (.ref r) H')->Xx vs H Q E03
section
variable {P:Program}{w:World}{K:aa}{mg:Str->Option Value}{base:Heap}
theorem ZfO {f:Addr}{fd:FuncData}(F:WI K "turned_by" "turned_by" Zes f fd)(O:Fn P w K mg base Ym 1 "back" ["group", "a"] (ZdE K)):Ya P w K mg base Ym 2 f fd ["group", "b", "t"] Ue:=by
 refine F.ok (FS (N:=["group", "b", "t"])) (fun Y H Q E h=>?_) (fun m5 A M s H Y Q E hr h=>?_)
 ·obtain⟨g,t,b,x,rfl,_⟩:=h;rfl
 ·obtain⟨g,t,b,x,rfl,G,j,hb,J,q⟩:=h
  refine⟨_,Zw (ZJ (ZF (Xt K) (ZF (Xt K) (vn 0) (ZF (Xt K) (ZF (Xt K) (vn 0) (vn 2) (fun _ _=>rfl)) (vn 1) (fun _ _=>rfl)) (fun _ _=>rfl)) (Wr O hr ZL (pc (vn 0) (pc (vn 2) Zu))) (fun _ _=>rfl))),?_⟩;obtain⟨r,R⟩:=j.rd x J;obtain⟨rs,r1,h1,_,h2,h3,h4⟩:=G.at j J;have ml:=j.lt _ _ J hb;obtain⟨m6,r2,g1,_,g2,g3,g4⟩:=G.at j ml;have q':Q (.int (ZT t (ZT t x b) (it t x (r-1)):Nat)) H:=by rw[ZiW j J R];exact q
  exact⟨_,rfl,_,rfl,_,rfl,g,_,_,_,rfl,rfl,.of h1,h2,_,rfl,r1,_,_,_,rfl,rfl,h3.sq,h4 b hb,g,_,_,_,rfl,rfl,.of g1,g2,_,rfl,_,rfl,g,t,x,r,rfl,G,j,J,R,r2,_,_,_,rfl,rfl,g3.sq,g4 _ (YW j J (r-1)),q'⟩
noncomputable def fTb (t:List (List Nat))(b:Nat):V->V
 | .int z=>nV (tb t b z.toNat)
 |y=>y
theorem ZcC {f:Addr}{fd:FuncData}(F:WI K "turnings" "turnings" Zam f fd)(T:Bl mg)(T2:Zgw mg)(m5:Fn P w K mg base Ym 2 "turned_by" ["group", "b", "t"] Ue):Ya P w K mg base Ym 3 f fd ["group", "b"] Xx:=by
 refine F.ok (FS (N:=["group", "b"])) (fun vs H Q E h=>?_) (fun m8 A m6 s H vs Q E hr h=>?_)
 ·obtain⟨g,t,b,rfl,_⟩:=h;rfl
 ·obtain⟨g,t,b,rfl,G,Y,hb,q⟩:=h
  refine⟨_,Zw (ZJ (ct ZX T.tuple (pc (cb (UW rfl) T2.sorted (pc (ct (ZaF rfl) T.set (pc (cmp ["t"] [0,1] ["t", "group", "b"] rfl (JA T.range (pc (cb (Yx K) T.len (pc (vn 0) Zu)) Zu)) (fun _ _ _ _ _=>gn 0) (fun _ _ _ _ _=>Z0)
   (fun _ _ _ _ _=>Wr m5 hr ZL (pc (vn 1) (pc (vn 2) (pc (vn 0) Zu))))) Zu)) Zu)) Zu))),?_⟩
  have n6:=Y.n60;obtain⟨gs,u1,u2,_⟩:=id G;have el:(gs.map V.ref).length=t.length:=by rw[Za,u2]
  refine⟨_,rfl,g,_,rfl,.inr (.of u1),_,rfl,by rw[el];omega,by rw[el];omega,?_⟩;rw[el,Zj];refine Ju (W5 0 t.length) [some (.ref g),some (.int b)] rfl (fTb t b) (by rw[Za,Yl];omega) (fun i x H' J sm R gg=>?_) (fun D H' hD sm M=>?_)
  ·have hi:i<t.length:=by
    have:=(ae.mp J).1;rw[Za,Yl] at this;exact this
   rw[Zc,Zcp hi] at J;have J:x=.int (i:Int):=by
    have:=aA J;rw[<-this,cG]
   subst J;have fin:=gg H' (Zv.refl _);exact⟨_,rfl,_,rfl,_,rfl,g,t,b,i,rfl,G.mono sm,Y,hb,hi,fin⟩
  ·have e1:((YZ 0 t.length).map V.int).map (fTb t b)=((ac t.length).map fun x=>((tb t b x:Nat):Int)).map V.int:=by
    unfold YZ;rw[aP,aP,aP];refine aX fun i _=>?_;show nV (tb t b ((0:Int)+(i:Int)).toNat)=V.int _;rw[cG,Zj];rfl
   rw[e1] at M;generalize hN:((ac t.length).map fun x=>((tb t b x:Nat):Int))=N at M;have nl:N.length=t.length:=by rw[<-hN,Za,Zg]
   refine⟨D,N,rfl,.of M,by omega,fun p1 h1=>?_⟩;have s1:=Zv.upd (o:=Zcj P w p1 (JK N N.length)) h1;have ml:(JK N N.length).length<=N.length:=jy _ _;refine⟨p1,JK N N.length,rfl,Zt,Js _ _,by omega,fun l ns h2 hp hs=>?_⟩;have s2:=Zv.upd (o:=.lst (ns.map V.int)) h2;have e:=Zju (c:=Z2 t b) hp hs (Js _ _) (fun k=>?_) (Zc5 b)
   ·refine⟨l,_,rfl,.inl ⟨.of Zt,fun r nr=>?_⟩⟩
    exact q r _ (((sm.trans s1).trans s2).trans (Zv.upd nr)) (by rw[<-e];exact Zt)
   ·rw[ZeR]
    constructor
    ·rintro⟨j,hj,e⟩
     have O:j<t.length:=by omega
     refine⟨tb t b j,(Yi Y hb).mpr ⟨j,O,rfl⟩,?_⟩;rw[<-e,<-hN,Zb,Zc,ao O];rfl
    ·rintro⟨a,ha,rfl⟩
     obtain⟨x,J,e⟩:=(Yi Y hb).mp ha;refine⟨x,by omega,?_⟩;rw[<-e,<-hN,Zb,Zc,ao J];rfl
end
end C51
namespace L2
open PySem PySem.Spec PyProof.Rows
section
variable {X:Cx}
inductive I_call_sumL (K:aa) (xs:List V) (H:Hp) (Q:VK):Prop
 |mk (a:Addr) (ns:List Int):(xs=[.ref a])->(W2 K H a (ns.map V.int))->(Q (.int ns.sum) H)->I_call_sumL K xs H Q
theorem Zgo (hc:X.calm=true):YN X (.builtin "sum") (_root_.L2.I_call_sumL X.K):=by
 intro O s σ H j us Q I r h;obtain⟨a,ns,rfl,hq,q⟩:=h;obtain⟨u,rfl,ru⟩:=vals1 r;cases ru;obtain⟨J,rv,p,hz⟩:=I.list hq;have Y:a8 J ns:=intsAre_of rv;obtain⟨j,hx⟩:=Y.allInts.items;have M:s.heap.IsList a (intItems j):=hx▸p.isList;refine sum_intListG (I.ok.hd hc) M fun h' tk t' hk=>?_;have e1:ns=j.toList.map (·.1):=by
  rw[<-nums_intItems,<-hx];exact (show numsOf J.toArray.toList=ns from Y.numsOf).symm
 have e2:preSum (numAt j) j.size=ns.sum:=by
  rw[preSum_eq,hG (by simp),e1]
 rw[e2];exact⟨.int _,H,I.kept (t':=tk) hk,⟨_,rfl⟩,q⟩
theorem sumK (K:aa)(j:X.calm=true)(q:X.K=K:=by rfl):YN X (.builtin "sum") (_root_.L2.I_call_sumL K):=q▸Zgo j
end
section
variable {X:Cx}
theorem ZlL {prog:Program}{w:World}{A:Around}{j:List Value}{ns:List Int}(r:ZP (ns.map V.int) j):TruthOf prog w A (fun i v=>j.toArray[i]?=some v) (fun i=>ns.getD i 0 != 0):=by
 intro i v s Q E q M;rw[lr] at q;have hi:i<j.length:=(ae.mp q).1;have O:=r.length;rw[Za] at O;have hb:(ns.map V.int)[i]?=some (.int (ns.getD i 0)):=by
  rw[Zc,Zb,Zf (by omega)];rfl
 obtain⟨u,J,Y⟩:=r.get hb;rw[q] at J;cases J;obtain⟨t,rfl⟩:=Y;exact truthy_int M
theorem ZdN {ns:List Int}:((ac ns.length).any fun i=>ns.getD i 0 != 0)=ns.any (· != 0):=by
 have:(ac ns.length).map (fun i=>ns.getD i 0)=ns:=by
  apply mQ
  ·simp
  ·intro i j q;simp at j;simp[j]
 conv=>rhs;rw[<-this,fk]
 rfl
inductive I_call_anyI (K:aa) (xs:List V) (H:Hp) (Q:VK):Prop
 |mk (a:Addr) (ns:List Int):(xs=[.ref a])->(W2 K H a (ns.map V.int))->(Q (.bl (ns.any (· != 0))) H)->I_call_anyI K xs H Q
theorem Zgp (hc:X.calm=true):YN X (.builtin "any") (_root_.L2.I_call_anyI X.K):=by
 intro M s σ H xs us Q I r h;obtain⟨a,ns,rfl,hq,q⟩:=h;obtain⟨u,rfl,ru⟩:=vals1 r;cases ru;obtain⟨j,O,p,hz⟩:=I.list hq;have Y:=O.length;rw[Za] at Y;refine call_any_walk (fJ p.isList ?_);have J:a≠s.heap.objs.size:=by obtain⟨o,n,e,_⟩:=p;exact aD (Zp e)
 refine⟨s.heap.objs.size,_,_,_,_,_,(fun i=>ns.getD i 0 != 0),rfl,lM (A:=X.A.in1) (I.ok.hd hc) _ a J j.toArray,⟨⟨_,Zo _ rfl,rfl,rfl⟩,p.isList.push _⟩,ZlL O,fun h' tk k=>?_⟩;rw[Zh,<-Y,ZdN];refine⟨.bl _,H,I.kept (t':=tk) fun b o e=>k b o ?_ (Zn _ e),rfl,q⟩;simpa using aD (Zp e)
theorem ZoD (K:aa)(j:X.calm=true)(q:X.K=K:=by rfl):YN X (.builtin "any") (_root_.L2.I_call_anyI K):=q▸Zgp j
end
noncomputable def Its (lo st:Int)(n:Nat):It:=⟨fun i _=>i<n,fun i H x j=>j=H/\x=.int (lo+(i:Int)*st),fun i _=>n<=i⟩
theorem Zfx {P:Program}{w:World}{K:aa}{tg:Expr}(it:Addr)(lo st:Int)(n:Nat):Zab P w K tg (Its lo st n) [it] it (fun i h=>g9 h it (lo+(i:Nat)*st) ((n:Int)-(i:Nat)) st) where
 mem:=by simp
 obj:=fun i h st b hb=>by
  have e:b=it:=by simpa using hb
  subst e;exact⟨_,st,fun v z=>by
   have z':gy _=gh v:=z;cases z'⟩
 keep:=fun i h M st k=>k it (by simp) _ st
 item:=by
  intro X Y hw hK hc i q s σ H E I O j hg;subst Y hw hK;obtain⟨f0,f1,f2,f3,f4,f5⟩:=O it (by simp);have W:=kL (prog:=X.prog) (w:=X.w) (I.ok.hd hc) it lo st n;refine W.item i s _ _ hg j fun v M tk hv J kk=>?_;obtain⟨t,rfl⟩:=hv;have I1:Inv X q σ H {s with heap:=M,toks:=tk}:=I.turned (fun b o hb e=>kk b o (by simpa using hb) e) f0 f1 f3 f4 f5;refine⟨_,rfl,ZcT (s:={s with heap:=M,toks:=tk}) (n:="range_iterator") J rfl rfl (by decide) ⟨.int (lo+(i:Int)*st),H,I1,⟨t,rfl⟩,⟨rfl,rfl⟩,J,fun b hb=>(O b hb).1⟩⟩
 done:=by
  intro X Y hw hK hc i q s σ H E I O j hg;subst Y hw hK;obtain⟨f0,f1,f2,f3,f4,f5⟩:=O it (by simp);exact iA (I.ok.hd hc) j (by have:n<=i:=hg;omega) fun M eb=>⟨rfl,I.turned (t':=s.toks) (fun b o hb e=>eb b o hb e) f0 f1 f3 f4 f5⟩
 self:=fun _ _ _ _ _ j h=>iB j h
noncomputable def Wx (n st:Nat):Nat:=(n+st-1) / st
theorem JU (n st:Nat)(J:1<=st):bo 0 (n:Int) (st:Int)=(Wx n st:Nat):=by
  unfold bo Wx;rw[if_pos (by omega)];by_cases h:(0:Int)<(n:Int)
  · rw[if_pos h]
    have:((n+st-1:Nat):Int)=(n:Int)-0-1+(st:Int):=by omega
    first
    |(rw[eK,this];congr 1;omega)
    | (have j:(n+st-1) / st=(n-1) / st+1:=by
         rw[show n+st-1=(n-1)+st by omega,Nat.add_div_right _ (by omega)]
       rw[j];have q:(n:Int)-0-1=((n-1:Nat):Int):=by omega
       first
       |(rw[q,<-eK];omega)
       |(rw[show (n:Int)-1-0=((n-1:Nat):Int) by omega,<-eK];omega))
  · rw[if_neg h]
    have:n=0:=by omega
    subst this;rw[show 0+st-1=st-1 by omega,jC (by omega)];rfl
theorem ZgU (n st:Nat)(j:1<=st):Wx n st<=n:=by
 unfold Wx;by_cases h:n=0
 ·subst h
  rw[show 0+st-1=st-1 by omega,jC (by omega)];exact Zq _
 ·rw[Nat.div_le_iff_le_mul_add_pred (by omega)]
  have:n<=st*n:=Nat.le_mul_of_pos_left n (by omega);omega
theorem ZdJ {n st:Nat}(q:1<=st)(J:n<=1000)(j:st<=1000):cB 0 (n:Int) (st:Int)=true:=by
 unfold cB;rw[JU n st q];have:=ZgU n st q;have M:((Wx n st:Nat):Int)*(st:Int)<=1000000:=by
  have:Wx n st*st<=1000*1000:=iE (by omega) j;rw[<-aF];omega
 have O:0<=((Wx n st:Nat):Int)*(st:Int):=by
  rw[<-aF];omega
 simp only[iL,af,bu,decide_eq_true_eq,beq_iff_eq];refine⟨by omega,.inr ?_⟩;rw[if_pos (by omega),af,decide_eq_true_eq,decide_eq_true_eq];omega
noncomputable def Zoc (j:TA):TI:=fun q H R=>j q H fun J M=>∃n st:Nat,J=[.int 0,.int n,.int st]/\1<=st/\n<=1000/\st<=1000/\R (Its 0 st (Wx n st)) M
theorem ZnR {X:Cx}{tg a b c:Expr}{ta:TA}{p pos:Pos}(hm:X.mg "range"=none)(ha:PA X [a,b,c] ta)(hg:Y9 X.env.scope "range"=true:=by kernel_rfl)(hs:starEach [a,b,c] X.env=(false,eval a X.env)::starEach [b,c] X.env:=by rfl)(m5:(backTo pos (starEach [b,c] X.env)).any (·.1)=false:=by rfl) :
  PI X tg (.Call (.Name "range" p) [a,b,c] [] pos) (Zoc ta):=by
 intro J s σ H R I h;refine Call_ (JF I (Xw hg) hm kZ (bA (Yq (ha pos J s σ H _ I h) fun us s1 ⟨vs,H1,I1,r1,q1⟩=>?_) hs m5));obtain⟨n,st,e,M,hn,m6,q⟩:=q1;subst e;cases r1 with
 |cons r O=>
  cases O with
  |cons r' O=>
   cases O with
   |cons m8 O=>
    cases O;obtain⟨t,rfl⟩:=r;obtain⟨Y,rfl⟩:=r';obtain⟨j,rfl⟩:=m8;have lg:((st:Int)).natAbs.log2<9000:=by
     rw[Int.natAbs_natCast];have h1:st.log2<=st:=Nat.log2_le_self st;omega
    refine call_range_3 (by omega) ?_ (Or.inl (PyProof.noPylong_of_log2 lg));refine ju (ki ..) (ZdJ M hn m6) ?_;have I2:Inv X J σ H1 {s1 with heap:=s1.heap.push {cls:=.type "range",data:=.fields #[.int 0 t,.int (n:Int) Y,.int (st:Int) j]},toks:=s1.toks}:=I1.kept fun b o e=>Zn _ e;refine⟨(s1.heap.push {cls:=.type "range",data:=.fields #[.int 0 t,.int (n:Int) Y,.int (st:Int) j]}).objs.size,[(s1.heap.push {cls:=.type "range",data:=.fields #[.int 0 t,.int (n:Int) Y,.int (st:Int) j]}).objs.size],_,_,H1,rfl,
     I2.kept (t':=s1.toks) fun b o e=>Zn _ e,Zfx _ 0 (st:Int) (Wx n st),?_,fun b hb=>?_,q⟩
    ·have e1:(0:Int)+((0:Nat):Int)*(st:Int)=0:=by simp
     have e2:((Wx n st:Nat):Int)-((0:Nat):Int)=bo 0 (n:Int) (st:Int):=by rw[JU n st M];omega
     show g9 _ _ ((0:Int)+((0:Nat):Int)*(st:Int)) (((Wx n st:Nat):Int)-((0:Nat):Int)) (st:Int);rw[e1,e2];exact Zo _ rfl
    ·have e:b=(s1.heap.push {cls:=.type "range",data:=.fields #[.int 0 t,.int (n:Int) Y,.int (st:Int) j]}).objs.size:=by simpa using hb
     subst e;exact I2.fpOk (Zq _) (I2.hok.fresh (Zq _))
theorem ZcU {lo st:Int}{n:Nat}{g:TG}{tb:TS}{D:WO}{σ:St}{H:Hp}(Pv:Nat->St->Hp->Prop)(h0:Pv 0 σ H)
  (hs:∀i σ H,i<n->Pv i σ H->g (.int (lo+(i:Int)*st)) σ H fun j O=>tb (D.lp (Pv (i+1))) j O) (hd:∀ σ H,Pv n σ H->D.nx σ H) :
  ∃W:Nat->Nat->St->Hp->Prop,(∃m,W 0 m σ H)/\∀i m σ H,W i m σ H->
   ((Its lo st n).stop i H/\D.nx σ H)\/((Its lo st n).go i H/\∃N:St->Hp->Prop,(∀ q J,N q J->∃Y,Y<m/\W (i+1) Y q J)/\∀x J,(Its lo st n).yld i H x J->g x σ J fun j O=>tb (D.lp N) j O):=by
 refine⟨fun i m σ H=>m=n-i/\i<=n/\Pv i σ H,⟨n,by simp,bc _,h0⟩,?_⟩;rintro i m σ H ⟨rfl,hi,p⟩;by_cases M:i<n
 ·refine .inr ⟨M,Pv (i+1),fun q J p'=>⟨n-(i+1),by omega,rfl,M,p'⟩,fun x J hy=>?_⟩
  obtain⟨e,rfl⟩:=hy;subst e;exact hs i σ _ M p
 ·have e:i=n:=by omega
  subst e;exact .inl ⟨Zq _,hd σ H p⟩
end L2
namespace C51
open PySem L2 PySem.Spec PyProof.Rows
open Tb Pm
noncomputable abbrev ZnJ:Stmt:=top 20
noncomputable abbrev Zhc:Stmt:=top 21
noncomputable abbrev Zex:Stmt:=top 22
noncomputable abbrev Zhj:Stmt:=top 28
structure BlT (mg:Str->Option Value):Prop where
 zip:mg "zip"=none
 sum:mg "sum"=none
inductive JS (vs:List V) (H:Hp) (Q:VK) (E03:XK):Prop
 |mk (p:Nat) (x:Int):(vs=[.int p,.int x])->(2<=p)->(p<=100000)->((∃y:Nat,1<=y/\y<p/\(y:Int)*x % (p:Int)=1))->(∀y:Nat,1<=y->y<p->(y:Int)*x % (p:Int)=1->Q (.int (y:Nat)) H)->JS vs H Q E03
inductive Za2 (K:aa) (vs:List V) (H:Hp) (Q:VK) (E03:XK):Prop
 |mk (a:Addr) (xs:List Int) (e N p d:Nat):(vs=[.ref a,.int N,.int p])->(W2 K H a (xs.map V.int))->(xs[0]?=some (e:Int))->(e<=100000)->(N<=60)->(2<=p)->(p<=100000)->(1<=d)->(d<=1000)->(((d:Int)*d-e*N) % (p:Int)=0)->((∀d':Nat,1<=d'->d'<d->((d':Int)*d'-e*N) % (p:Int)≠0))->(Q (.int (d:Nat)) H)->Za2 K vs H Q E03
inductive Zg0 (vs:List V) (H:Hp) (Q:VK) (E03:XK):Prop
 |mk (n count p:Nat):(vs=[.int n,.int count])->(1<=n)->(n<=60)->(count<=4000)->(ZoS n count p)->(∀H',Zv H H'->Q (.int p) H')->Zg0 vs H Q E03
theorem Um {lo:Int}{n i:Nat}{y:V}(h:((YZ lo n).map V.int)[i]?=some y):i<n/\y=.int (lo+(i:Int)):=by
 unfold YZ at h;rw[Zc,Zc] at h;by_cases j:i<n
 ·rw[ao j] at h
  exact⟨j,(aA h).symm⟩
 ·rw[ak (by rw[Zg];omega)] at h
  cases h
section
variable {P:Program}{w:World}{K:aa}{mg:Str->Option Value}{base:Heap}
theorem ZfU {f:Addr}{fd:FuncData}(F:WI K "back_by" "back_by" Zex f fd):Ya P w K mg base Ym 1 f fd ["p", "x"] JS:=by
 refine F.ok (FS (N:=["p", "x", "found"])) (fun vs H Q E h=>?_) (fun m5 A Y s H vs Q E hr h=>?_)
 ·obtain⟨p,x,rfl,_⟩:=h;rfl
 ·obtain⟨p,x,rfl,p2,pl,⟨y,y1,yp,hy⟩,q⟩:=h
  refine⟨_,Zs (ZE 2 rfl Zx)
   (Zs (Yf am (ZS JJ (Zy ZV (Zy ZN (vn 2) (vn 1)) (vn 0)) Zx (ZY _)) (Zw (JX (i:=2) (Z6 (by kernel_rfl)) rfl (YR (by kernel_rfl)) Zx Jj (.inl rfl))))
   (Zw (ZJ (vn 2)))),?_⟩
  refine Z9 (fun m j O=>∃k:Nat,j=[some (.int p),some (.int x),some (.int (k:Nat))]/\O=H/\1<=k/\k<=y/\m=y-k)
   (fun j O=>∃k:Nat,j=[some (.int p),some (.int x),some (.int (k:Nat))]/\O=H/\1<=k/\k<p/\(k:Int)*x % (p:Int)=1) ?hend ⟨y-1,1,rfl,rfl,Zq _,y1,rfl⟩ ?turn
  case hend=>
   rintro j O ⟨k,rfl,rfl,k1,kp,hk⟩;exact⟨_,rfl,q k k1 kp hk⟩
  case turn=>
   rintro M m j O ⟨k,rfl,rfl,k1,ky,rfl⟩;refine⟨_,rfl,_,rfl,_,_,rfl,rfl,.inl ⟨by omega,by omega⟩,_,rfl,_,_,rfl,rfl,(by show (0:Int)<(p:Int);omega),rfl,_,rfl,?_⟩;refine YG (fun J=>?_) (fun J=>?_)
   ·have J:(k:Int)*x % (p:Int)≠1:=fun z=>by
     rw[Yd,z] at J;simp at J
    have:k≠y:=fun z=>by rw[z] at J;exact J hy
    exact⟨_,fun _ _ z=>z,_,rfl,_,_,rfl,rfl,y-(k+1),by omega,k+1,rfl,rfl,by omega,by omega,rfl⟩
   ·have J:(k:Int)*x % (p:Int)=1:=by
     apply ah;intro z;apply J;rw[Yd];simpa using z
    exact M _ _ ⟨k,rfl,rfl,k1,by omega,J⟩
theorem Zh1 {f:Addr}{fd:FuncData}(F:WI K "first_of" "first_of" Zhj f fd):Ya P w K mg base Ym 1 f fd ["one", "count", "p"] (Za2 K):=by
 refine F.ok (FS (N:=["one", "count", "p", "d"])) (fun vs H Q E h=>?_) (fun m8 A m5 s H vs Q E hr h=>?_)
 ·obtain⟨a,xs,e,N,p,d,rfl,_⟩:=h;rfl
 ·obtain⟨a,xs,e,N,p,d,rfl,ha,he,e5,n6,p2,pl,d1,dl,hd,hm,q⟩:=h
  refine⟨_,Zs (ZE 3 rfl Zx)
   (Zs (Yf am (ZS JJ (Zy ZV (Zy YC (Zy ZN (vn 3) (vn 3)) (Zy ZN (ZF (Ji K) (vn 0) Zx (fun _ _=>rfl)) (vn 1))) (vn 2)) Zx (ZY _)) (Zw (JX (i:=3) (Z6 (by kernel_rfl)) rfl (YR (by kernel_rfl)) Zx Jj (.inl rfl))))
   (Zw (ZJ (vn 3)))),?_⟩
  have h0:(xs.map V.int)[0]?=some (.int (e:Int)):=by rw[Zc,he];rfl
  have m6:Vd (xs.map V.int) 0=some (.int (e:Int)):=by
   show Vd (xs.map V.int) ((0:Nat):Int)=_
   first
   |(rw[O];exact h0)
   |(rw[ZK];exact h0)
   |simpa [Vd] using h0
  refine Z9 (fun m j Y=>∃k:Nat,j=[some (.ref a),some (.int (N:Nat)),some (.int (p:Nat)),some (.int (k:Nat))]/\Y=H/\1<=k/\k<=d/\m=d-k)
   (fun j Y=>j=[some (.ref a),some (.int (N:Nat)),some (.int (p:Nat)),some (.int (d:Nat))]/\Y=H) ?hend ⟨d-1,1,rfl,rfl,Zq _,d1,rfl⟩ ?turn
  case hend=>
   rintro j Y ⟨rfl,rfl⟩;exact⟨_,rfl,q⟩
  case turn=>
   rintro M m j Y ⟨k,rfl,rfl,k1,ky,rfl⟩;refine⟨_,rfl,_,rfl,_,_,rfl,rfl,.inl ⟨by omega,by omega⟩,_,rfl,a,_,_,_,rfl,rfl,ha,m6,_,rfl,_,_,rfl,rfl,.inl ⟨by omega,by omega⟩,_,_,rfl,rfl,_,rfl,_,_,rfl,rfl,(by show (0:Int)<(p:Int);omega),rfl,_,rfl,?_⟩;refine YG (fun J=>?_) (fun J=>?_)
   ·have J:((k:Int)*k-e*N) % (p:Int)≠0:=fun z=>by
     rw[Yd,z] at J;simp at J
    have:k≠d:=fun z=>by rw[z] at J;exact J hd
    exact⟨_,fun _ _ z=>z,_,rfl,_,_,rfl,rfl,d-(k+1),by omega,k+1,rfl,rfl,by omega,by omega,rfl⟩
   ·have J:((k:Int)*k-e*N) % (p:Int)=0:=by
     apply ah;intro z;apply J;rw[Yd];simpa using z
    have:k=d:=by
     apply ah;intro z;exact hm k k1 (by omega) J
    subst this;exact M _ _ ⟨rfl,rfl⟩
theorem Zms {f:Addr}{fd:FuncData}(F:WI K "fit_prime" "fit_prime" ZnJ f fd)(T:Bl mg):Ya P w K mg base Ym 1 f fd ["n", "count"] Zg0:=by
 refine F.ok (FS (N:=["n", "count", "p"])) (fun vs H Q E h=>?_) (fun n9 A m8 s H vs Q E hr h=>?_)
 ·obtain⟨n,count,p,rfl,_⟩:=h;rfl
 ·obtain⟨n,count,p,rfl,n1,n60,cl,Fp,q⟩:=h
  refine⟨_,Zs (ZE 2 rfl (Zy Yr (vn 0) Zx))
   (Zs (Yf am (ZnY (ZS Zn4 (Zy ZN (vn 2) (vn 2)) (Zy ZN Zx (vn 1)) (ZY _)) (Zl9 (XA (cb (ZiT rfl) T.any (pc (cmp ["k"] [2] ["k", "p"] rfl (Zhn T.range (pc Zx (pc (vn 2) Zu))) (fun _ _ _ _ _=>gn 0) (fun _ _ _ _ _=>Z0) (fun _ _ _ _ _=>VY VE (Zy ZV (vn 1) (vn 0)) Zx (ZY _))) Zu))))).pt
    (Zw (JX (i:=2) (Z6 (by kernel_rfl)) rfl (YR (by kernel_rfl)) (vn 0) Jj (.inl rfl))))
   (Zw (ZJ (vn 2)))),?_⟩
  obtain⟨J,eJ,hJ⟩:=Fp.st;have pl:=Fp.lt;have p2:=Fp.p2;refine⟨_,rfl,_,_,rfl,rfl,?_⟩;refine Z9 (fun m M H'=>∃j:Nat,M=[some (.int (n:Nat)),some (.int (count:Nat)),some (.int (((n+1)+j*n:Nat):Int))]/\Zv H H'/\j<=J/\m=J-j)
   (fun M H'=>M=[some (.int (n:Nat)),some (.int (count:Nat)),some (.int (p:Nat))]/\Zv H H') ?hend ⟨J,0,by rw[ft,fz];rfl,Zv.refl _,bc _,rfl⟩ ?turn
  case hend=>
   rintro M H' ⟨rfl,sm⟩;exact⟨_,rfl,q H' sm⟩
  case turn=>
   rintro O m M H' ⟨j,rfl,sm,jJ,rfl⟩;have jn:(n+1)+j*n<=p:=by rw[eJ];have:=ef n jJ;omega
   have n6:VP count ((n+1)+j*n)=true\/(n+1)+j*n=p:=by
    by_cases z:j=J
    ·exact .inr (by rw[eJ,z])
    ·exact .inl (hJ j (by omega))
   have ok:=Fp.ok;have o0:2<=(n+1)+j*n:=by omega
   have Y:(n+1)+j*n≠p->j<J:=fun z=>by
    by_cases e:j=J
    ·exact absurd (by rw[eJ,e]) z
    ·omega
   have m5:(((n+1)+j*n:Nat):Int)+(n:Int)=(((n+1)+(j+1)*n:Nat):Int):=by
    rw[cC];omega
   generalize hx:(n+1)+j*n=x at *;refine⟨_,rfl,_,rfl,_,_,rfl,rfl,.inl ⟨by omega,by omega⟩,_,rfl,_,_,rfl,rfl,.inl ⟨by omega,by omega⟩,_,_,rfl,rfl,_,rfl,?_⟩;refine YG (fun h1=>?_) (fun h1=>?_)
   ·have h1:x*x<=4*count:=by have:=of_decide_eq_true h1;rw[<-aF] at this;omega
    have hb:VP count x=true:=by unfold VP;rw[decide_eq_true h1];rfl
    have:=Y (fun z=>by rw[z,ok] at hb;cases hb);refine (YG (fun _=>?_) (fun h=>absurd rfl h));exact⟨_,fun _ _ z=>z,_,rfl,_,rfl,_,_,rfl,rfl,J-(j+1),by omega,j+1,by rw[<-m5];rfl,sm,by omega,rfl⟩
   ·have h1:¬x*x<=4*count:=fun z=>h1 (decide_eq_true (by rw[<-aF];omega))
    refine⟨_,rfl,_,_,rfl,⟨by omega,by omega,by omega,by omega⟩,?_⟩;rw[show ((x:Nat):Int)-2=((x-2:Nat):Int) by omega,Zj];refine Ju (W5 2 (x-2)) [some (.int (x:Nat))] rfl (fun y=>match y with | .int z=>.bl ((x:Int) % z == 0)|y=>y) (by rw[Za,Yl];omega) (fun i y H2 hy s2 R gg=>?_) (fun D H2 hD s2 n8=>?_)
    ·obtain⟨hi,rfl⟩:=Um hy
     have m6:=gg H2 (Zv.refl _);dsimp only at m6;refine⟨_,rfl,_,rfl,_,_,rfl,rfl,(by show (0:Int)<2+(i:Int);omega),rfl,?_⟩;have e:decide (V.int ((x:Int) % (2+(i:Int)))=V.int 0)=((x:Int) % (2+(i:Int)) == 0):=by
      by_cases h:(x:Int) % (2+(i:Int))=0
      ·rw[h];rfl
      ·rw[decide_eq_false (fun z=>h (by injection z)),beq_eq_false_iff_ne.mpr h]
     rw[e];exact m6
    ·refine⟨D,(ac (x-2)).map fun k=>x % (k+2) == 0,rfl,.of ?_,?_⟩
     ·rw[n8]
      unfold YZ;rw[aP,aP,aP];congr 2;refine aX fun i _=>?_;show V.bl ((x:Int) % (2+(i:Int)) == 0)=V.bl (x % (i+2) == 0);congr 1;have:(x:Int) % (2+(i:Int))=((x % (i+2):Nat):Int):=by
       rw[show (2:Int)+(i:Int)=((i+2:Nat):Int) by omega];rfl
      rw[this];cases hq:(x % (i+2) == 0) with
      |true=>rw[eq_of_beq hq];rfl
      |false=>
       have:=ne_of_beq_false hq;exact beq_eq_false_iff_ne.mpr (by omega)
     ·have ea:((ac (x-2)).map fun k=>x % (k+2) == 0).any id=(ac (x-2)).any fun k=>x % (k+2) == 0:=by rw[fk];rfl
      rw[ea];have eb:VP count x=((ac (x-2)).any fun k=>x % (k+2) == 0):=by unfold VP;rw[decide_eq_false h1,eQ]
      rw[<-eb];have VT:=sm.trans s2;refine⟨_,rfl,YG (fun h2=>?_) (fun h2=>?_)⟩
      ·have:=Y (fun z=>by rw[z,ok] at h2;cases h2)
       exact⟨_,fun _ _ z=>z,_,rfl,_,rfl,_,_,rfl,rfl,J-(j+1),by omega,j+1,by rw[<-m5];rfl,VT,by omega,rfl⟩
      ·have:x=p:=by
        rcases n6 with z|z
        ·exact absurd z h2
        ·exact z
       subst this;exact O _ _ ⟨rfl,VT⟩
end
theorem ZpG {a b:Int}(h:(!decide (V.int a=V.int b))=true):a≠b:=fun e=>by rw[e,decide_eq_true rfl] at h;cases h
theorem ZpH {a b:Int}(h:¬(!decide (V.int a=V.int b))=true):a=b:=by
 apply ah;intro e;exact h (by rw[decide_eq_false (fun z=>e (by injection z))];rfl)
noncomputable def Je (p z n:Nat):List V:=(ac n).map fun j=>V.int ((z ^ j % p:Nat):Int)
theorem Zcw (p z n:Nat):Je p z (n+1)=Je p z n++[V.int ((z ^ n % p:Nat):Int)]:=by
 unfold Je;rw[cm,aR];rfl
theorem VW (p z n:Nat):(Je p z n).length=n:=by unfold Je;rw[Za,Zg]
theorem ZjF (p z k:Nat):((z ^ k % p:Nat):Int)*(z:Int) % (p:Int)=((z ^ (k+1) % p:Nat):Int):=by
 rw[<-aF,<-aZ,Nat.pow_succ,Nat.mod_mul_mod]
inductive ZaV (vs:List V) (H:Hp) (Q:VK) (E03:XK):Prop
 |mk (n p z0:Nat):(vs=[.int n,.int p])->(1<=n)->(n<=60)->(2<=p)->(p<=100000)->(RtP n p z0)->(∀L H',H L=none->Zv H H'->H' L=some (.lst (Je p z0 n))->Q (.ref L) H')->ZaV vs H Q E03
section
variable {P:Program}{w:World}{K:aa}{mg:Str->Option Value}{base:Heap}
theorem ZhW {f:Addr}{fd:FuncData}(F:WI K "root_powers" "root_powers" Zhc f fd)(T:Bl mg):Ya P w K mg base Ym 1 f fd ["n", "p"] ZaV:=by
 refine F.ok (FS (N:=["n", "p", "z", "powers"])) (fun vs H Q E h=>?_) (fun p6 A o6 s H vs Q E hr h=>?_)
 ·obtain⟨n,p,z0,rfl,_⟩:=h;rfl
 ·obtain⟨n,p,z0,rfl,n1,n60,p2,pl,R,q⟩:=h
  refine⟨_,Zs (ZE 2 rfl Zx)
   (Zs (ZE 3 rfl (ZQ (pc Zx Zu)))
   (Zs (Yf am (ZS JJ (cb (Yx K) T.len (pc (vn 3) Zu)) (vn 0) (ZY _))
    (Zs (JX (i:=2) (Z6 (by kernel_rfl)) rfl (YR (by kernel_rfl)) Zx Jj (.inl rfl))
    (Zs (ZE 3 rfl (ZQ (pc Zx Zu)))
    (Zw (Yf am (ZS JJ (Zy ZV (Zy ZN (ZF (Ji K) (vn 3) (X1 Jy Zx) (fun _ _=>rfl)) (vn 2)) (vn 1)) Zx (ZY _))
     (Zw (Yu (Wj aK aQ aT Z7 (vn 3) (pc (Zy ZV (Zy ZN (ZF (Ji K) (vn 3) (X1 Jy Zx) (fun _ _=>rfl)) (vn 2)) (vn 1)) Zu)))))))))
   (Zw (ZJ (vn 3))))),?_⟩
  have p4:(1:Int)=((1 ^ 0 % p:Nat):Int):=by rw[Nat.pow_zero,aW (by omega)];rfl
  have m6:∀z:Nat,V.int 1=V.int ((z ^ 0 % p:Nat):Int):=fun z=>by rw[Nat.pow_zero,aW (by omega)];rfl
  have sz:(16777216:Nat)=sizeLine:=by decide
  refine⟨(by show 1<=sizeLine;decide),fun L0 n8=>?_⟩;have s0:=Zv.upd (H:=H) (o:=.lst [.int 1]) n8;have h0:upd H L0 (.lst [.int 1]) L0=some (.lst (Je p 1 1)):=by
   rw[Zt];show some (HO.lst [V.int 1])=some (HO.lst [V.int ((1 ^ 0 % p:Nat):Int)]);rw[m6 1]
  generalize upd H L0 (.lst [.int 1])=H0 at s0 h0 ⊢;refine Z9 (fun m j J=>∃(z k:Nat) (L:Addr),j=[some (.int (n:Nat)),some (.int (p:Nat)),some (.int (z:Nat)),some (.ref L)]/\Zv H J/\H L=none/\J L=some (.lst (Je p z k))/\1<=z/\k<=p/\z<=z0/\m=z0-z/\(k=n->z=z0)/\(k≠n->z<z0))
   (fun j J=>∃(L:Addr),j=[some (.int (n:Nat)),some (.int (p:Nat)),some (.int (z0:Nat)),some (.ref L)]/\Zv H J/\H L=none/\J L=some (.lst (Je p z0 n))) ?hend ⟨z0-1,1,1,L0,rfl,s0,n8,h0,Zq _,by omega,?_,rfl,?_,?_⟩ ?turn
  case hend=>
   rintro j J ⟨L,rfl,sm,nL,hL⟩;exact⟨_,rfl,q L J nL sm hL⟩
  ·rcases R with ⟨a,b⟩|⟨a,_⟩ <;> omega
  ·rcases R with ⟨a,b⟩|⟨a,_,b,_⟩ <;> omega
  ·rcases R with ⟨a,b⟩|⟨a,_,b,_⟩ <;> omega
  case turn=>
   rintro m8 m j J ⟨z,k,L,rfl,sm,nL,hL,z1,kp,zz,rfl,c1,c2⟩;refine⟨_,rfl,L,_,rfl,.inl (.of hL),_,rfl,rfl,_,rfl,?_⟩;rw[VW];refine YG (fun h1=>?_) (fun h1=>?_)
   ·have h1:k≠n:=fun e=>by
     rw[e,Yd] at h1;simp at h1
    have zl:=c2 h1;rcases R with ⟨a,b⟩|⟨a,ap,b,r,o7,o8,o9⟩
    ·omega
    ·have O:=o7 (z+1) (by omega) (by omega)
     have r1:=O.r1;have rp:=O.rp;refine⟨_,fun _ _ z=>z,_,rfl,_,_,rfl,rfl,(by show 1<=sizeLine;decide),fun Y n9=>?_⟩;have s1:=Zv.upd (H:=J) (o:=.lst [.int 1]) n9;have o0:upd J Y (.lst [.int 1]) Y=some (.lst (Je p (z+1) 1)):=by
      rw[Zt];show some (HO.lst [V.int 1])=some (HO.lst [V.int (((z+1) ^ 0 % p:Nat):Int)]);rw[m6 (z+1)]
     have n6:H Y=none:=sm.free n9;have sm1:=sm.trans s1;generalize upd J Y (.lst [.int 1])=H1 at s1 o0 sm1 ⊢;have ez:(z:Int)+1=((z+1:Nat):Int):=by omega
     refine Z9 (fun m j J=>∃k:Nat,j=[some (.int (n:Nat)),some (.int (p:Nat)),some (.int ((z+1:Nat):Int)),some (.ref Y)]/\Zv H J/\J Y=some (.lst (Je p (z+1) k))/\1<=k/\k<=r (z+1)/\m=r (z+1)-k)
      (fun j J=>j=[some (.int (n:Nat)),some (.int (p:Nat)),some (.int ((z+1:Nat):Int)),some (.ref Y)]/\Zv H J/\J Y=some (.lst (Je p (z+1) (r (z+1))))) ?hend2 ⟨r (z+1)-1,1,by rw[<-ez];rfl,sm1,o0,Zq _,r1,rfl⟩ ?turn2
     case hend2=>
      rintro j H2 ⟨rfl,VT,h2⟩;refine⟨z0-(z+1),by omega,z+1,r (z+1),Y,rfl,VT,n6,h2,by omega,rp,by omega,rfl,fun e=>?_,fun e=>?_⟩
      ·apply ah
       intro ne;exact o8 (z+1) (by omega) (by omega) e
      ·apply ah
       intro ne;have:z+1=z0:=by omega
       rw[this] at e;exact e o9
     case turn2=>
      rintro m5 m j H2 ⟨k,rfl,VT,h2,k1,kr,rfl⟩;obtain⟨M,rfl⟩:∃M,k=M+1:=⟨k-1,by omega⟩;have o5:Vd (Je p (z+1) (M+1)) (-1)=some (V.int (((z+1) ^ M % p:Nat):Int)):=by rw[Zcw];exact UY _ _
      have nx:=ZjF p (z+1) M;refine⟨_,rfl,_,rfl,Y,_,_,_,rfl,rfl,.of h2,o5,_,rfl,_,_,rfl,rfl,.inr ⟨by omega,by omega⟩,_,rfl,_,_,rfl,rfl,(by show (0:Int)<(p:Int);omega),rfl,_,rfl,?_⟩;refine YG (fun h3=>?_) (fun h3=>?_)
      ·have h3:(z+1) ^ (M+1) % p≠1:=fun e=>by
        rw[Yd,nx,e] at h3;simp at h3
       have:M+1≠r (z+1):=fun e=>by rw[e] at h3;exact h3 O.one
       refine⟨_,fun _ _ z=>z,_,rfl,.inl ⟨rfl,_,.of h2⟩,_,rfl,_,rfl,Y,_,_,_,rfl,rfl,.of h2,o5,_,rfl,_,_,rfl,rfl,.inr ⟨by omega,by omega⟩,_,rfl,_,_,rfl,rfl,(by show (0:Int)<(p:Int);omega),Y,_,_,rfl,rfl,h2,by rw[VW];omega,?_⟩;have e5:Je p (z+1) (M+1)++[V.int (((((z+1) ^ M % p:Nat):Int))*((z+1:Nat):Int) % (p:Int))]=Je p (z+1) (M+2):=by rw[nx,Zcw p (z+1) (M+1)]
       rw[e5];exact⟨r (z+1)-(M+2),by omega,M+2,rfl,VT.updr n6,Zt,by omega,by omega,rfl⟩
      ·have h3:(z+1) ^ (M+1) % p=1:=by
        apply ah;intro e;apply h3;rw[Yd,nx,beq_eq_false_iff_ne.mpr (fun q=>e (by exact_mod_cast q))];rfl
       have:M+1=r (z+1):=by
        apply ah;intro e;exact O.nz (M+1) (by omega) (by omega) h3
       rw[this] at h2;exact m5 _ _ ⟨rfl,VT,h2⟩
   ·have h1:k=n:=by
     apply ah;intro e;apply h1;rw[Yd];simp;omega
    subst h1;rw[c1 rfl] at hL ⊢;exact m8 _ _ ⟨L,rfl,sm,nL,hL⟩
end
end C51
namespace PyY
open PySem
open AutoSeq1 (wpAny_loadPart')
noncomputable def VM (b:Bool)(h:Heap)(j a:Addr)(k:Nat):Prop:=match b with
 |true=>h.IsTupleIter j a k
 |false=>h.IsListIter j a k
noncomputable def VL (b:Bool)(h:Heap)(a:Addr)(j:Array Value):Prop:=match b with
 |true=>h.IsTuple a j
 |false=>h.IsList a j
theorem VM.ext {b:Bool}{h h':Heap}{c j a:Addr}{k:Nat}(x:VM b h j a k)(e:iu c h h')(n:j≠c):VM b h' j a k:=by
 cases b
 ·exact Heap.IsListIter.extBut x e n
 ·exact Heap.IsTupleIter.extBut x e n
theorem VL.ext {b:Bool}{h h':Heap}{c a:Addr}{us:Array Value}(x:VL b h a us)(e:iu c h h')(n:a≠c):VL b h' a us:=by
 cases b
 ·exact Heap.IsList.extBut x e n
 ·exact Heap.IsTuple.extBut x e n
theorem VM.at {b:Bool}{h h':Heap}{j a:Addr}{k:Nat}(x:VM b h j a k)(e:∀o,h.get? j=some o->h'.get? j=some o):VM b h' j a k:=by
 cases b
 ·exact Heap.IsListIter.at x e
 ·obtain⟨o,q,r⟩:=(show h.IsTupleIter j a k from x)
  exact⟨o,e o q,r⟩
theorem VL.at {b:Bool}{h h':Heap}{a:Addr}{us:Array Value}(x:VL b h a us)(e:∀o,h.get? a=some o->h'.get? a=some o):VL b h' a us:=by
 cases b
 ·exact Heap.IsList.at x e
 ·obtain⟨o,j,r⟩:=(show h.IsTuple a us from x)
  exact⟨o,e o j,r⟩
theorem VM.obj {b:Bool}{h:Heap}{j a:Addr}{k:Nat}(x:VM b h j a k):∃o,h.get? j=some o/\∀v,o.data≠.cell v:=by
 cases b
 ·obtain⟨o,q,_,d⟩:=(show h.IsListIter j a k from x)
  exact⟨o,q,fun v z=>by rw[d] at z;cases z⟩
 ·obtain⟨o,q,_,d⟩:=(show h.IsTupleIter j a k from x)
  exact⟨o,q,fun v z=>by rw[d] at z;cases z⟩
section
variable {prog:Program}{w:World}{A:Around}{E:Value->Shared->Prop}{s:Shared}
theorem XB {b:Bool}{j a:Addr}{k:Nat}{us:Array Value}{y:Value}{Q:Value->Shared->Prop}(c:VM b s.heap j a k)(d:VL b s.heap a us)(e:us[k]?=some y)
  (q:∀g,VM b g j a (k+1)->bg j s.heap g->Q y {s with heap:=g}):wpAny (model prog w) A (a5 (.ref j)) Q E s:=by
 cases b
 ·exact wpAny_nextOf_list_item c d e q
 ·exact Uy c d e q
theorem Zas {b:Bool}{j a:Addr}{k:Nat}{us:Array Value}{Q:Value->Shared->Prop}(J:A.handled=none)(c:VM b s.heap j a k)(d:VL b s.heap a us)(e:us[k]?=none)
  (q:∀g x,iu j s.heap g->(∃o,g.get? x=some o/\o.cls=.type "StopIteration")->E (.ref x) {s with heap:=g}):wpAny (model prog w) A (a5 (.ref j)) Q E s:=by
 cases b
 ·exact wpAny_nextOf_list_end J c d e q
 ·exact Zar J c d e q
structure ZA (z p r i j a b:Addr):Prop where
 pz:p≠z
 rz:r≠z
 iz:i≠z
 jz:j≠z
 pr:p≠r
 pi:p≠i
 pj:p≠j
 ri:r≠i
 rj:r≠j
 ij:i≠j
 az:a≠z
 ar:a≠r
 ai:a≠i
 aj:a≠j
 bz:b≠z
 br:b≠r
 bi:b≠i
 bj:b≠j
theorem Zft {u v:Bool}{z p r i j a b:Addr}{k:Nat}{us vs:Array Value}{x y o1 o2:Value}{Q:Option Value->Shared->Prop}(D:ZA z p r i j a b)
  (hz:iK s.heap z p r .none) (hp:dQ s.heap p (.ref i) (.ref j)) (hr:dQ s.heap r o1 o2) (hi:VM u s.heap i a k) (hj:VM v s.heap j b k) (ha:VL u s.heap a us) (hb:VL v s.heap b vs) (ex:us[k]?=some x) (ey:vs[k]?=some y)
  (q:∀g,iK g z p r (rawInt s.heap.objs.size)->dQ g r x y->VM u g i a (k+1)->VM v g j b (k+1)->dQ g s.heap.objs.size x y->g.objs.size=s.heap.objs.size+1->
   (∀c o,c≠z->c≠r->c≠i->c≠j->s.heap.get? c=some o->g.get? c=some o)->Q (some (.ref s.heap.objs.size)) {s with heap:=g}):wpAny (model prog w) A (pyNext (.ref z)) Q E s:=by
 have tz:s.TypeIs (.ref z) "zip":=⟨_,hz,rfl⟩;unfold pyNext;refine Zl (dY (bx (name:=cV "__next__") tz iw (bG iw tz F.entry_zip_next ?_ (F.args_zip_next_1 _))));show wpAny _ _ (field (.ref z) 2 >>= _) _ _ s;refine Zl (bW hz rfl (x:=.bool false) rfl ?_);show wpAny _ _ (field (.ref z) 3 >>= _) _ _ s;refine Zl (bW hz rfl (x:=.ref p) rfl ?_);refine Zl (cw hp rfl ?_);show wpAny _ _ (bD (.ref z) >>= _) _ _ s;refine Zl ?_;unfold bD;refine Zl (bW hz rfl (x:=.none) rfl (Zm ?_));rw[if_pos rfl];refine Zl (dO (Zl (bW hz rfl (x:=.ref r) rfl ?_)));refine Zl (bT hz (by simp) fun g1 z1 s1=>?_);replace z1:iK g1 z p r .ellipsis:=z1;refine Zl ?_;simp only[mO,List.zipIdx_nil,jH,jR];refine Zl (Zl (jo ?_));show wpAny _ _ (a5 (.ref i) >>= _) _ _ _;refine Zl (XB (hi.ext s1.extBut D.iz) (ha.ext s1.extBut D.az) ex fun g2 i2 s2=>Zm ?_);have r2:dQ g2 r o1 o2:=s2.extBut _ _ D.ri (s1.extBut _ _ D.rz hr);refine Zl (cw r2 rfl ?_);refine Zl (iW r2 fun g3 r3 O=>?_);replace r3:dQ g3 r x o2:=r3;refine Zl (j3 (Zm ?_));refine Zl (Zl (jo ?_));show wpAny _ _ (a5 (.ref j) >>= _) _ _ _;refine Zl (XB (((hj.ext s1.extBut D.jz).ext s2.extBut D.ij.symm).ext O.extBut D.rj.symm) (((hb.ext s1.extBut D.bz).ext s2.extBut D.bi).ext O.extBut D.br) ey fun g4 j4 Y=>Zm ?_);have r4:dQ g4 r x o2:=Y.extBut _ _ D.rj r3;refine Zl (cw r4 rfl ?_);refine Zl (iW r4 fun J r5 s5=>?_);replace r5:dQ J r x y:=r5;refine Zl (j3 (Zm (Zm ?_)));refine Zl (cw r5 rfl ?_);refine Zl (kH ?_);have sz:J.objs.size=s.heap.objs.size:=by rw[s5.1,Y.1,O.1,s2.1,s1.1]
 have z5:iK J z p r .ellipsis:=s5.extBut _ _ D.rz.symm (Y.extBut _ _ D.jz.symm (O.extBut _ _ D.rz.symm (s2.extBut _ _ D.iz.symm z1)));have k5:∀c o,c≠z->c≠r->c≠i->c≠j->s.heap.get? c=some o->J.get? c=some o:=fun c o M c2 c3 c4 e=>s5.extBut _ _ c2 (Y.extBut _ _ c4 (O.extBut _ _ c2 (s2.extBut _ _ c3 (s1.extBut _ _ M e))));have i5:VM u J i a (k+1):=((i2.ext O.extBut D.ri.symm).ext Y.extBut D.ij).ext s5.extBut D.ri.symm;have j5:VM v J j b (k+1):=j4.ext s5.extBut D.rj.symm;have zl:z<J.objs.size:=Zp z5;show wpAny _ _ (cr (.ref z) (.ref J.objs.size) >>= _) _ _ _;refine Zl ?_;unfold cr;have z6:iK (J.push {cls:=.type "tuple",data:=.seq #[x,y]}) z p r .ellipsis:=Zn _ z5;refine Zl (bT z6 (by simp) fun g7 z7 s7=>?_);replace z7:iK g7 z p r (rawInt J.objs.size):=z7;refine bT z7 (by simp) fun g8 z8 s8=>?_;replace z8:iK g8 z p r (rawInt J.objs.size):=z8;have up:∀c o,c≠z->J.get? c=some o->g8.get? c=some o:=fun c o M e=>s8.extBut _ _ M (s7.extBut _ _ M (Zn _ e));have t8:dQ g8 J.objs.size x y:=s8.extBut _ _ (bh zl) (s7.extBut _ _ (bh zl) (Zo _ rfl));have e8:g8.objs.size=J.objs.size+1:=by rw[s8.1,s7.1,bC]
 rw[sz] at z8 t8 e8;refine Zm ⟨_,rfl,Zm ?_⟩;show Q (some (.ref J.objs.size)) _;rw[sz];exact q g8 z8 (up _ _ D.rz r5) (i5.at fun o e=>up _ o D.iz e) (j5.at fun o e=>up _ o D.jz e) t8 e8 fun c o M c2 c3 c4 e=>up c o M (k5 c o M c2 c3 c4 e)
theorem Zfs {u v:Bool}{z p r i j a b:Addr}{k:Nat}{us vs:Array Value}{o1 o2:Value}{Q:PySem.Fin->Shared->Prop}(hn:A.handled=none)(D:ZA z p r i j a b)
  (hz:iK s.heap z p r .none) (hp:dQ s.heap p (.ref i) (.ref j)) (hr:dQ s.heap r o1 o2) (hi:VM u s.heap i a k) (hj:VM v s.heap j b k) (ha:VL u s.heap a us) (hb:VL v s.heap b vs) (en:us[k]?=none\/vs[k]?=none)
  (q:∀g e,(∀c o,c≠z->c≠r->c≠i->c≠j->s.heap.get? c=some o->g.get? c=some o)->(∃o,g.get? e=some o/\o.cls=.type "StopIteration")->E (.ref e) {s with heap:=g}) :
  wpAny (model prog w) A (cK.«zip.__next__» ⟨[.ref z],[]⟩) Q E s:=by
 show wpAny _ _ (field (.ref z) 2 >>= _) _ _ s;refine Zl (bW hz rfl (x:=.bool false) rfl ?_);show wpAny _ _ (field (.ref z) 3 >>= _) _ _ s;refine Zl (bW hz rfl (x:=.ref p) rfl ?_);refine Zl (cw hp rfl ?_);show wpAny _ _ (bD (.ref z) >>= _) _ _ s;refine Zl ?_;unfold bD;refine Zl (bW hz rfl (x:=.none) rfl (Zm ?_));rw[if_pos rfl];refine Zl (dO (Zl (bW hz rfl (x:=.ref r) rfl ?_)));refine Zl (bT hz (by simp) fun g1 z1 O=>?_);replace z1:iK g1 z p r .ellipsis:=z1;refine Zl ?_;simp only[mO,List.zipIdx_nil,jH,jR];refine Zl (Zl (jo ?_));show wpAny _ _ (a5 (.ref i) >>= _) _ _ _;cases ex:us[k]? with
 |none=>
  refine Zl (Zas hn (hi.ext O.extBut D.iz) (ha.ext O.extBut D.az) ex fun g2 e Y he=>?_);obtain⟨oe,J,M⟩:=he;have z2:iK g2 z p r .ellipsis:=Y _ _ D.iz.symm z1;have m5:e≠z:=fun x=>by
   subst x;rw[z2] at J;cases J;simp at M
  exact bT z2 (by simp) fun g3 _ s3=>q g3 e (fun c o c1 _ c3 _ x=>s3.extBut _ _ c1 (Y _ _ c3 (O.extBut _ _ c1 x))) ⟨oe,s3.extBut _ _ m5 J,M⟩
 |some x=>
  have ey:vs[k]?=none:=by
   rcases en with h|h
   ·rw[ex] at h;cases h
   ·exact h
  refine Zl (XB (hi.ext O.extBut D.iz) (ha.ext O.extBut D.az) ex fun g2 i2 Y=>Zm ?_);have r2:dQ g2 r o1 o2:=Y.extBut _ _ D.ri (O.extBut _ _ D.rz hr);refine Zl (cw r2 rfl ?_);refine Zl (iW r2 fun g3 r3 s3=>?_);refine Zl (j3 (Zm ?_));refine Zl (Zl (jo ?_));show wpAny _ _ (a5 (.ref j) >>= _) _ _ _;refine Zl (Zas hn (((hj.ext O.extBut D.jz).ext Y.extBut D.ij.symm).ext s3.extBut D.rj.symm) (((hb.ext O.extBut D.bz).ext Y.extBut D.bi).ext s3.extBut D.br) ey fun g4 e s4 he=>?_);obtain⟨oe,J,M⟩:=he;have z4:iK g4 z p r .ellipsis:=s4 _ _ D.jz.symm (s3.extBut _ _ D.rz.symm (Y.extBut _ _ D.iz.symm z1));have m5:e≠z:=fun x=>by
   subst x;rw[z4] at J;cases J;simp at M
  exact bT z4 (by simp) fun g5 _ s5=>q g5 e (fun c o c1 c2 c3 c4 x=>s5.extBut _ _ c1 (s4 _ _ c4 (s3.extBut _ _ c2 (Y.extBut _ _ c3 (O.extBut _ _ c1 x))))) ⟨oe,s5.extBut _ _ m5 J,M⟩
theorem ZgC {u v:Bool}{z p r i j a b:Addr}{k:Nat}{us vs:Array Value}{O Y:Value}{Q:Option Value->Shared->Prop}(hn:A.handled=none)(D:ZA z p r i j a b)
  (hz:iK s.heap z p r .none) (hp:dQ s.heap p (.ref i) (.ref j)) (hr:dQ s.heap r O Y) (hi:VM u s.heap i a k) (hj:VM v s.heap j b k) (ha:VL u s.heap a us) (hb:VL v s.heap b vs) (en:us[k]?=none\/vs[k]?=none)
  (q:∀g,(∀c o,c≠z->c≠r->c≠i->c≠j->s.heap.get? c=some o->g.get? c=some o)->Q none {s with heap:=g}):wpAny (model prog w) A (pyNext (.ref z)) Q E s:=by
 have J:s.TypeIs (.ref z) "zip":=⟨_,hz,rfl⟩;unfold pyNext;refine Zl (dY (bx (name:=cV "__next__") J iw (bG iw J F.entry_zip_next (Zfs hn D hz hp hr hi hj ha hb en fun g e hk he=>?_) (F.args_zip_next_1 _))));obtain⟨o,ho,hc⟩:=he;refine Zl (ir (T:="StopIteration") (b:=true) ⟨o,ho,hc⟩ kK ?_);exact Zm (q _ hk)
noncomputable def Zev (b:Bool):String:=match b with
 |true => "tuple_iterator"
 |false => "list_iterator"
theorem Zlr {b:Bool}{a:Addr}{us:Array Value}{Q:Value->Shared->Prop}(h:VL b s.heap a us)(q:Q (.ref s.heap.objs.size) {s with heap:=s.heap.push {cls:=.type (Zev b),data:=.fields #[.ref a,.int 0 0]}}):wpAny (model prog w) A (pyIter (.ref a)) Q E s:=by
 cases b
 ·exact fJ h q
 ·exact gK h q
noncomputable abbrev zh1 (h:Heap)(u:Bool)(a:Addr):Heap:=h.push {cls:=.type (Zev u),data:=.fields #[.ref a,.int 0 0]}
noncomputable abbrev zh2 (h:Heap)(u v:Bool)(a b:Addr):Heap:=(zh1 h u a).push {cls:=.type (Zev v),data:=.fields #[.ref b,.int 0 0]}
noncomputable abbrev zh3 (h:Heap)(u v:Bool)(a b:Addr):Heap:=(zh2 h u v a b).push {cls:=.type "tuple",data:=.seq #[.ref h.objs.size,.ref (zh1 h u a).objs.size]}
noncomputable abbrev zh4 (h:Heap)(u v:Bool)(a b:Addr):Heap:=(zh3 h u v a b).push {cls:=.type "tuple",data:=.seq #[.none,.none]}
noncomputable abbrev zh5 (h:Heap)(u v:Bool)(a b:Addr):Heap:=(zh4 h u v a b).push {cls:=.type "zip",data:=.fields #[.none,.bool false,.bool false,.ref (zh2 h u v a b).objs.size,.ref (zh3 h u v a b).objs.size]}
theorem VL.push {b:Bool}{h:Heap}{a:Addr}{us:Array Value}(x:VL b h a us)(o:Obj):VL b (h.push o) a us:=x.at fun _ e=>Zn _ e
theorem ZgB (u v:Bool)(a b:Addr)(j vs:Array Value) :
  Meets (cK.«zip.__new__» ⟨[.type "zip",.ref a,.ref b],[]⟩) (fun _ R s=>VL u s.heap a j/\VL v s.heap b vs/\R (.ok (.ret (.ref (zh4 s.heap u v a b).objs.size))) {s with heap:=zh5 s.heap u v a b}):=
 .of_wp fun prog w A R s h=>by
  obtain⟨q,J,dr,tk,os⟩:=s;obtain⟨M,hb,h⟩:=h;have sub:=sub_zip;have O:VL u (kC ⟨q,J,dr,tk,os⟩) a j:=M;have Y:VL v (kC ⟨zh1 q u a,J,dr,tk,os⟩) b vs:=VL.push hb _
  wp_walk using Zlr O,Zlr Y
  exact⟨_,rfl,h⟩
theorem Zgn {u v:Bool}{a b:Addr}{us vs:Array Value}{Q:Value->Shared->Prop}(ha:VL u s.heap a us)(hb:VL v s.heap b vs)
  (q:∀g,iK g (s.heap.objs.size+4) (s.heap.objs.size+2) (s.heap.objs.size+3) .none->dQ g (s.heap.objs.size+2) (.ref s.heap.objs.size) (.ref (s.heap.objs.size+1))->dQ g (s.heap.objs.size+3) .none .none->
   VM u g s.heap.objs.size a 0->VM v g (s.heap.objs.size+1) b 0->(∀c o,s.heap.get? c=some o->g.get? c=some o)->Q (.ref (s.heap.objs.size+4)) {s with heap:=g}) :
  wpAny (model prog w) A (call (.type "zip") [.ref a,.ref b]) Q E s:=by
 refine callType_new F.called_zip (by decide) (F.typeCall_zip_2 _ _) (F.newCall_zip_2 _ _) (fun obj=>F.args_object_init_3 obj _ _) F.entry_zip_new (ZgB u v a b us vs) ⟨ha,hb,?_⟩;have J:(zh1 s.heap u a).objs.size=s.heap.objs.size+1:=bC ..;have M:(zh2 s.heap u v a b).objs.size=s.heap.objs.size+2:=by rw[bC,J]
 have O:(zh3 s.heap u v a b).objs.size=s.heap.objs.size+3:=by rw[bC,M]
 have e4:(zh4 s.heap u v a b).objs.size=s.heap.objs.size+4:=by rw[bC,O]
 have Y:(zh5 s.heap u v a b).get? (zh4 s.heap u v a b).objs.size=some _:=Zo _ rfl;have w4:(zh5 s.heap u v a b).get? (zh3 s.heap u v a b).objs.size=some _:=Zn _ (Zo _ rfl);have w3:(zh5 s.heap u v a b).get? (zh2 s.heap u v a b).objs.size=some _:=Zn _ (Zn _ (Zo _ rfl));have w2:(zh5 s.heap u v a b).get? (zh1 s.heap u a).objs.size=some _:=Zn _ (Zn _ (Zn _ (Zo _ rfl)));have w1:(zh5 s.heap u v a b).get? s.heap.objs.size=some _:=Zn _ (Zn _ (Zn _ (Zn _ (Zo _ rfl))));have it:∀(x:Bool) (g:Heap) (j c:Addr),g.get? j=some {cls:=.type (Zev x),data:=.fields #[.ref c,.int 0 0]}->VM x g j c 0:=fun x g j c e=>by
  cases x <;> exact⟨_,e,rfl,rfl⟩
 show _/\_;rw[M,O,e4] at Y;rw[J,M] at w3;rw[O] at w4;rw[J] at w2;rw[e4];exact⟨⟨_,Y,rfl⟩,q _ Y w3 w4 (it u _ _ _ w1) (it v _ _ _ w2) fun c o x=>Zn _ (Zn _ (Zn _ (Zn _ (Zn _ x))))⟩
end
end PyY
namespace L2
open PySem PySem.Spec PyProof.Rows
noncomputable def SqB (b:Bool)(K:aa)(H:Hp)(a:Addr)(xs:List V):Prop:=match b with
 |true=>XM K H a xs
 |false=>W2 K H a xs
theorem SqB.mono {b:Bool}{K:aa}{H j:Hp}{a:Addr}{xs:List V}(h:SqB b K H a xs)(s:Zv H j):SqB b K j a xs:=by
 cases b
 ·exact s.seq h
 ·exact s.tup h
theorem SqB.lst {K:aa}{H:Hp}{a:Addr}{xs:List V}(h:W2 K H a xs):SqB false K H a xs:=h
section
variable {X:Cx}{pins:List (Addr×Obj)}{σ:St}{H:Hp}{s:Shared}
theorem Inv.sqB {b:Bool}{a:Addr}{xs:List V}(I:Inv X pins σ H s)(h:SqB b X.K H a xs):∃j,ZP xs j/\PyY.VL b s.heap a j.toArray:=by
 cases b
 ·obtain⟨j,q,p,_⟩:=I.list h
  exact⟨j,q,p.isList⟩
 ·obtain⟨j,q,p,_⟩:=I.tuple h
  exact⟨j,q,p⟩
theorem Inv.sqB_inj {b:Bool}{a:Addr}{xs ys:List V}(I:Inv X pins σ H s)(h:SqB b X.K H a xs)(h':SqB b X.K H a ys):xs=ys:=by
 cases b
 ·exact I.list_inj h h'
 ·exact I.tuple_inj h h'
end
noncomputable def Itz (K:aa)(u v:Bool)(a b:Addr):It:=
  ⟨fun i H=>∃j q x y,SqB u K H a j/\SqB v K H b q/\j[i]?=some x/\q[i]?=some y,
   fun i H x O=>∃T J M,x=.ref T/\H T=none/\O=upd H T (.tup [J,M])/\(∀j,SqB u K H a j->j[i]?=some J)/\∀q,SqB v K H b q->q[i]?=some M,
   fun i H=>∃j q,SqB u K H a j/\SqB v K H b q/\(j.length<=i\/q.length<=i)⟩
theorem ZgJ {P:Program}{w:World}{K:aa}{elts:List Expr}{x1}{pos:Pos}(u v:Bool)(a b z p r i j:Addr)(D:PyY.ZA z p r i j a b) :
  Zab P w K (.Tuple elts x1 pos) (Itz K u v a b) [z,p,r,i,j] z (fun k h=>iK h z p r .none/\dQ h p (.ref i) (.ref j)/\(∃o1 o2,dQ h r o1 o2)/\PyY.VM u h i a k/\PyY.VM v h j b k) where
 mem:=by simp
 obj:=fun k h st c hc=>by
  obtain⟨O,M,⟨o1,o2,Y⟩,hi,hj⟩:=st;simp only[aH,eB,or_false] at hc;rcases hc with rfl|rfl|rfl|rfl|rfl
  ·exact⟨_,O,fun v z=>by
    have z':gy _=gh v:=z;cases z'⟩
  ·exact⟨_,M,fun v z=>by
    have z':Data.seq _ _=gh v:=z;cases z'⟩
  ·exact⟨_,Y,fun v z=>by
    have z':Data.seq _ _=gh v:=z;cases z'⟩
  ·exact hi.obj
  ·exact hj.obj
 keep:=fun k h h' st kk=>by
  obtain⟨O,M,⟨o1,o2,Y⟩,hi,hj⟩:=st;exact⟨kk z (by simp) _ O,kk p (by simp) _ M,⟨o1,o2,kk r (by simp) _ Y⟩,hi.at fun o q=>kk i (by simp) o q,hj.at fun o q=>kk j (by simp) o q⟩
 item:=by
  intro X hP hw hK hc k m8 s σ H E I hf st hg;subst hP hw hK;obtain⟨O,M,⟨o1,o2,Y⟩,hi,hj⟩:=st;obtain⟨xs,ys,x,y,hA,hB,hx,hy⟩:=hg;obtain⟨n6,rv,pa⟩:=I.sqB hA;obtain⟨n8,m5,pb⟩:=I.sqB hB;obtain⟨ux,n9,o0⟩:=rv.get hx;obtain⟨uy,o5,o6⟩:=m5.get hy;refine PyY.Zft D O M Y hi hj pa pb (x:=ux) (y:=uy) (by simpa using n9) (by simpa using o5) fun h1 z1 r1 i1 j1 t1 o7 k1=>?_;refine⟨_,rfl,wpAny_letOwnedTupleGo_zip z1 fun h2 z2 s2=>?_⟩;have lt:∀c∈[z,p,r,i,j],c<s.heap.objs.size:=fun c J=>by
   simp only[aH,eB,or_false] at J;rcases J with rfl|rfl|rfl|rfl|rfl
   ·exact Zp O
   ·exact Zp M
   ·exact Zp Y
   ·obtain⟨o,e,_⟩:=hi.obj;exact Zp e
   ·obtain⟨o,e,_⟩:=hj.obj;exact Zp e
  have s3:bg z h1 h2:=s2;have t2:dQ h2 s.heap.objs.size ux uy:=(s3.2 _ (bh (lt z (by simp)))).trans t1;have nT:H s.heap.objs.size=none:=I.hok.fresh (Zq _);have p2:dQ h2 p (.ref i) (.ref j):=(s3.2 _ D.pz).trans (k1 _ _ D.pz D.pr D.pi D.pj M);have r2:dQ h2 r ux uy:=(s3.2 _ D.rz).trans r1;have i2:=i1.ext s3.extBut D.iz;have j2:=j1.ext s3.extBut D.jz;have I2:=I.turnLay (t':=s.toks) (h':=h2) (ts:=[z,p,r,i,j]) (T:=s.heap.objs.size) (o:=.tup [x,y]) (fun c o J q=>?_) (fun c J=>?_) hf (Zq _) ⟨by show 2<=sizeLine;decide,[ux,uy],.cons o0 (.cons o6 .nil),_,t2,rfl,0,rfl⟩
  ·refine⟨.ref s.heap.objs.size,_,I2,rfl,⟨_,x,y,rfl,nT,rfl,fun zs m6=>by rw[I.sqB_inj m6 hA];exact hx,fun zs m6=>by rw[I.sqB_inj m6 hB];exact hy⟩,⟨z2,p2,⟨_,_,r2⟩,i2,j2⟩,fun c J=>?_⟩
   rw[Zz (aD (lt c J))];exact (hf c J).1
  ·have q1:c≠z:=fun e=>J (by simp[e])
   have q2:c≠r:=fun e=>J (by simp[e]);have q3:c≠i:=fun e=>J (by simp[e]);have q4:c≠j:=fun e=>J (by simp[e]);exact (s3.2 c q1).trans (k1 c o q1 q2 q3 q4 q)
  ·simp only[aH,eB,or_false] at J
   rcases J with rfl|rfl|rfl|rfl|rfl
   ·exact⟨_,z2⟩
   ·exact⟨_,p2⟩
   ·exact⟨_,r2⟩
   ·obtain⟨o,e,_⟩:=i2.obj;exact⟨o,e⟩
   ·obtain⟨o,e,_⟩:=j2.obj;exact⟨o,e⟩
 done:=by
  intro X hP hw hK hc k m8 s σ H E I hf st hg;subst hP hw hK;obtain⟨O,M,⟨o1,o2,Y⟩,hi,hj⟩:=st;obtain⟨xs,ys,hA,hB,hl⟩:=hg;obtain⟨n6,rv,pa⟩:=I.sqB hA;obtain⟨n8,m5,pb⟩:=I.sqB hB;have l1:=rv.length;have l2:=m5.length;refine PyY.ZgC (I.ok.hd hc) D O M Y hi hj pa pb ?_ fun h1 k1=>⟨rfl,I.turnedL (t':=s.toks) (ts:=[z,p,r,i,j]) (fun c o J q=>?_) hf⟩
  ·rcases hl with h|h
   ·exact .inl (by simp;omega)
   ·exact .inr (by simp;omega)
  ·exact k1 c o (fun e=>J (by simp[e])) (fun e=>J (by simp[e])) (fun e=>J (by simp[e])) (fun e=>J (by simp[e])) q
 self:=fun _ _ _ _ _ st h=>wpAny_pyIter_zip st.1 h
structure Zee (J:It)(At:Hp->Prop)(ps:List (V×V)):Prop where
 go:∀i H,At H->i<ps.length->J.go i H
 yld:∀i H x H2,At H->J.yld i H x H2->∃T y z,x=.ref T/\H T=none/\H2=upd H T (.tup [y,z])/\ps[i]?=some (y,z)
 stop:∀i H,At H->ps.length<=i->J.stop i H
theorem Znr {K:aa}{u v:Bool}{a b:Addr}{xs ys:List V}:Zee (Itz K u v a b) (fun H=>SqB u K H a xs/\SqB v K H b ys) (xs.zip ys) where
 go:=fun i H h j=>by
  rw[eS] at j;exact⟨xs,ys,xs[i]'(by omega),ys[i]'(by omega),h.1,h.2,by simp,by simp⟩
 yld:=fun i H x H2 h q=>by
  obtain⟨T,y,z,e,J,M,O,Y⟩:=q;refine⟨T,y,z,e,J,M,?_⟩;rw[gv];exact⟨O xs h.1,Y ys h.2⟩
 stop:=fun i H h j=>by
  rw[eS] at j;exact⟨xs,ys,h.1,h.2,by omega⟩
noncomputable def Zoa (K:aa)(ta:TA):TI:=fun σ H R=>ta σ H fun vs q=>∃a b u v M O j,vs=[.ref a,.ref b]/\SqB u K j a M/\SqB v K j b O/\Zv j q/\∀J Y,Zee J Y (M.zip O)->(∀H',Zv j H'->Y H')->R J q
theorem Zpi {X:Cx}{elts:List Expr}{x1}{pt:Pos}{l m:Expr}{ta:TA}{p pos:Pos}(hm:X.mg "zip"=none)(ha:PA X [l,m] ta)(hg:Y9 X.env.scope "zip"=true:=by kernel_rfl)(hs:starEach [l,m] X.env=(false,eval l X.env)::starEach [m] X.env:=by rfl)(O:(backTo pos (starEach [m] X.env)).any (·.1)=false:=by rfl) :
  PI X (.Tuple elts x1 pt) (.Call (.Name "zip" p) [l,m] [] pos) (Zoa X.K ta):=by
 intro j s σ H R I h;refine Call_ (JF I (Xw hg) hm (show bootBuiltins "zip"=some (.type "zip") by kernel_rfl) (bA (Yq (ha pos j s σ H _ I h) fun us s1 ⟨vs,H1,J,r1,q1⟩=>?_) hs O));obtain⟨a,b,u,v,xs,ys,Hx,e,hA,hB,sm,q⟩:=q1;subst e;cases r1 with
 |cons r Y=>
  cases Y with
  |cons r' Y=>
   cases Y;cases (show _=aC a from r);cases (show _=aC b from r');obtain⟨m5,rv,pa⟩:=J.sqB (hA.mono sm);obtain⟨m6,m8,pb⟩:=J.sqB (hB.mono sm);have la:a<s1.heap.objs.size:=by
    cases u
    ·obtain⟨o,e,_⟩:=(show s1.heap.IsList a _ from pa);exact Zp e
    ·obtain⟨o,e,_⟩:=(show s1.heap.IsTuple a _ from pa);exact Zp e
   have lb:b<s1.heap.objs.size:=by
    cases v
    ·obtain⟨o,e,_⟩:=(show s1.heap.IsList b _ from pb);exact Zp e
    ·obtain⟨o,e,_⟩:=(show s1.heap.IsTuple b _ from pb);exact Zp e
   have nn:∀{c d:Nat},c<d->(c:Addr)≠d:=fun h=>aD h;have D:PyY.ZA (s1.heap.objs.size+4) (s1.heap.objs.size+2) (s1.heap.objs.size+3) s1.heap.objs.size (s1.heap.objs.size+1) a b:=by
    have n6:(a:Nat)<s1.heap.objs.size:=la;have n8:(b:Nat)<s1.heap.objs.size:=lb;constructor <;> first|exact aD (aG la (eF _ _))|exact aD (aG lb (eF _ _))|exact aD la|exact aD lb|exact aD (by omega)|exact bh (by omega)
   refine PyY.Zgn pa pb fun g gz gp gr gi gj gk=>wpAny_pyIter_zip gz ?_;have sz:∀c∈[s1.heap.objs.size+4,s1.heap.objs.size+2,s1.heap.objs.size+3,s1.heap.objs.size,s1.heap.objs.size+1],s1.heap.objs.size<=c:=fun c M=>by
    simp only[aH,eB,or_false] at M;rcases M with rfl|rfl|rfl|rfl|rfl
    ·exact eF _ _
    ·exact eF _ _
    ·exact eF _ _
    ·exact Zq _
    ·exact eF _ _
   exact⟨_,[s1.heap.objs.size+4,s1.heap.objs.size+2,s1.heap.objs.size+3,s1.heap.objs.size,s1.heap.objs.size+1],_,_,H1,rfl,J.kept (t':=s1.toks) gk,ZgJ u v a b _ _ _ _ _ D,⟨gz,gp,⟨_,_,gr⟩,gi,gj⟩,fun c M=>J.fpOk (sz c M) (J.hok.fresh (sz c M)),q _ _ Znr fun H' s'=>⟨hA.mono s',hB.mono s'⟩⟩
theorem Zjg (K:aa){X:Cx}{elts:List Expr}{J}{pt:Pos}{l m:Expr}{q:TA}{p pos:Pos}(M:X.mg "zip"=none)(O:PA X [l,m] q)(Y:X.K=K:=by rfl)(hg:Y9 X.env.scope "zip"=true:=by kernel_rfl)(hs:starEach [l,m] X.env=(false,eval l X.env)::starEach [m] X.env:=by rfl)(j:(backTo pos (starEach [m] X.env)).any (·.1)=false:=by rfl) :
  PI X (.Tuple elts J pt) (.Call (.Name "zip" p) [l,m] [] pos) (Zoa K q):=Y▸Zpi M O hg hs j
theorem ZiM {K:aa}{J:It}{At:Hp->Prop}{own:List Str}{M:List Nat}{te:TE}{σ:St}{H Hx:Hp}{Q:VK}{q:List (V×V)}(S:Zee J At q)(n8:∀j,Zv Hx j->At j)(sx:Zv Hx H)(O:St)(n9:JP own M σ=none::none::O)(f:V->V->V)(hz:q.length<=1000000)
  (hs:∀(i:Nat) x y j,q[i]?=some (x,y)->Zv H j->∀R:VK,(∀Y,Zv j Y->R (f x y) Y)->te (some x::some y::O) j R)
  (hd:∀D j,H D=none->Zv H j->j D=some (.lst (q.map fun p=>f p.1 p.2))->Q (.ref D) j):W1 own M (Zf7 K 2 (JL (Yg 0) (JL (Yg 1) Zf8))) WE te σ Q J H:=by
 intro D hD;refine⟨fun i m m6 j=>m=q.length-i/\i<=q.length/\(∃v0 v1,m6=v0::v1::O)/\Zv H j/\j D=some (.lst ((q.take i).map fun p=>f p.1 p.2)),⟨_,rfl,bc _,⟨none,none,n9⟩,Zv.upd hD,by rw[Zt,fg];rfl⟩,?_⟩;rintro i m m6 j ⟨rfl,hi,⟨v0,v1,rfl⟩,s,hl⟩;have m5:=n8 j (sx.trans s);by_cases m8:i<q.length
 ·refine .inr ⟨S.go i j m5 m8,fun n6 H2=>(∃v0 v1,n6=v0::v1::O)/\Zv H H2/\H2 D=some (.lst ((q.take (i+1)).map fun p=>f p.1 p.2)),fun n6 H2 z=>⟨q.length-(i+1),by omega,rfl,m8,z.1,z.2.1,z.2.2⟩,fun x H2 hy=>?_⟩
  obtain⟨T,y,z,rfl,hT,rfl,hx⟩:=S.yld i j x H2 m5 hy;have ht:q.take (i+1)=q.take i++[(y,z)]:=by rw[cU,hx];rfl
  refine⟨T,_,rfl,.of Zt,rfl,_,_,rfl,_,_,rfl,rfl,?_⟩;refine tT (A:=fun H4=>te (some y::some z::O) H4 fun v Y=>∃xs,Y D=some (.lst xs)/\xs.length<sizeLine/\(∃v0 v1,(some y::some z::O:St)=v0::v1::O)/\Zv H (upd Y D (.lst (xs++[v])))/\(upd Y D (.lst (xs++[v]))) D=some (.lst ((q.take (i+1)).map fun p=>f p.1 p.2))) ?_;refine hs i y z _ hx (s.trans (Zv.upd hT)) _ fun Y s5=>⟨_,s5 _ _ (Zv.upd hT _ _ hl),?_,⟨_,_,rfl⟩,((s.trans (Zv.upd hT)).trans s5).updr hD,?_⟩
  ·rw[Za,bU]
   have:(16777216:Nat)=sizeLine:=by decide
   omega
  ·rw[Zt,ht,aR]
   rfl
 ·have e:i=q.length:=by omega
  subst e;refine .inl ⟨S.stop _ j m5 (Zq _),hd D j hD s ?_⟩;rw[hl,c9]
end L2
namespace C51
open PySem L2 PySem.Spec PyProof.Rows
open Tb Pm
noncomputable abbrev Zhd:Stmt:=top 25
noncomputable abbrev Zlf:Stmt:=top 26
noncomputable abbrev Zle:Stmt:=top 27
noncomputable def ZC (m:Nat)(v:Nat->Int):List V:=(ac m).map fun c=>V.int (v c)
theorem ZR (m:Nat)(v:Nat->Int):(ZC m v).length=m:=by unfold ZC;rw[Za,Zg]
theorem Yc {m c:Nat}(v:Nat->Int)(h:c<m):(ZC m v)[c]?=some (V.int (v c)):=by
 unfold ZC;rw[Zc,ao h];rfl
theorem Wm {m:Nat}{v u:Nat->Int}(h:∀c,c<m->v c=u c):ZC m v=ZC m u:=by
 unfold ZC;exact aX fun c j=>by rw[h c (ag.mp j)]
theorem Jl (m:Nat)(v:Nat->Int):ZC m v=((ac m).map v).map V.int:=by
 unfold ZC;rw[aP];rfl
theorem V8 (m:Nat)(v:Nat->Int):ZC (m+1) v=ZC m v++[V.int (v m)]:=by
 unfold ZC;rw[cm,aR];rfl
theorem VR (m:Nat)(v:Nat->Int):((ac m).map v).any (· != 0)=true↔∃c,c<m/\v c≠0:=by
 rw[aY];constructor
 ·rintro⟨x,q,h⟩
  obtain⟨c,j,rfl⟩:=aN.mp q;exact⟨c,ag.mp j,by simpa using h⟩
 ·rintro⟨c,j,h⟩
  exact⟨v c,aN.mpr ⟨c,ag.mpr j,rfl⟩,by simpa using h⟩
noncomputable def fI2 (g:Int->Int->Int):V->V->V:=fun x y=>match x,y with
 | .int a,.int b=>.int (g a b)
 |_,_=>.non
theorem Zei {m:Nat}{v u:Nat->Int}:(ZC m v).zip (ZC m u)=(ac m).map fun c=>(V.int (v c),V.int (u c)):=by
 unfold ZC;rw[List.zip_map']
theorem Xk {K:aa}{J:It}{At:Hp->Prop}{own:List Str}{M:List Nat}{te:TE}{σ:L2.St}{H Hx:Hp}{Q:VK}{m:Nat}{v u:Nat->Int}(S:Zee J At ((ZC m v).zip (ZC m u)))(O:∀j,Zv Hx j->At j)(sx:Zv Hx H)(Y:L2.St)(m5:JP own M σ=none::none::Y)(g:Int->Int->Int)(hz:m<=1000)
  (hs:∀(i:Nat) j,i<m->Zv H j->∀R:VK,R (.int (g (v i) (u i))) j->te (some (.int (v i))::some (.int (u i))::Y) j R)
  (hd:∀D j,H D=none->Zv H j->j D=some (.lst (ZC m fun i=>g (v i) (u i)))->Q (.ref D) j):W1 own M (Zf7 K 2 (JL (Yg 0) (JL (Yg 1) Zf8))) WE te σ Q J H:=by
 refine ZiM S O sx Y m5 (fI2 g) (by rw[eS,ZR,ZR];omega) (fun i x y j q s R gg=>?_) (fun D j nD s hD=>hd D j nD s ?_)
 ·rw[Zei] at q
  have hi:i<m:=by
   have:=(ae.mp q).1;rw[Za,Zg] at this;exact this
  rw[Zc,ao hi] at q;cases q;exact hs i j hi s R (gg j (Zv.refl _))
 ·rw[hD,Zei,aP]
  rfl
noncomputable def LLs (H:Hp)(a:Addr)(m:Nat)(F:Nat->Nat->Int):Prop:=∃cs:List Addr,H a=some (.lst (cs.map V.ref))/\cs.length=m/\∀(c:Nat) b,cs[c]?=some b->H b=some (.lst (ZC m (F c)))
theorem LLs.mono {H j:Hp}{a:Addr}{m:Nat}{F:Nat->Nat->Int}(h:LLs H a m F)(s:Zv H j):LLs j a m F:=by
 obtain⟨q,J,M,O⟩:=h;exact⟨q,s _ _ J,M,fun c b hb=>s _ _ (O c b hb)⟩
noncomputable def UG (m p:Nat)(F:Nat->Nat->Int)(v:Nat->Int)(k:Int)(c:Nat):Int:=(Wc m (fun j=>v j*F c j)-k*v c) % (p:Int)
structure ZiY (m p:Nat)(v:Nat->Int):Prop where
 ge:∀c,c<m->0<=v c
 lt:∀c,c<m->v c<(p:Int)
inductive Zdy (vs:List V) (H:Hp) (Q:VK) (E03:XK):Prop
 |mk (ca oa:Addr) (m k p:Nat) (F:Nat->Nat->Int) (v:Nat->Int):(vs=[.ref ca,.ref oa,.int k,.int p])->(LLs H ca m F)->(H oa=some (.lst (ZC m v)))->(2<=p)->(p<=100000)->(m<=60)->(k<=100000)->(ZiY m p v)->(∀L H',H L=none->Zv H H'->H' L=some (.lst (ZC m (UG m p F v k)))->Q (.ref L) H')->Zdy vs H Q E03
section
variable {P:Program}{w:World}{K:aa}{mg:Str->Option Value}{base:Heap}
theorem ZkH {J:It}{g:TG}{tb:TS}{D:WO}{σ:L2.St}{H:Hp}{At:Hp->Prop}{j:List (V×V)}(S:Zee J At j)(Pv:Nat->L2.St->Hp->Prop)(h0:Pv 0 σ H)(hS:∀i σ H,Pv i σ H->At H)
  (hs:∀(i:Nat) y z σ H T,j[i]?=some (y,z)->Pv i σ H->H T=none->g (.ref T) σ (upd H T (.tup [y,z])) fun M H2=>tb (D.lp (Pv (i+1))) M H2) (hd:∀ σ H,Pv j.length σ H->D.nx σ H) :
  ∃W:Nat->Nat->L2.St->Hp->Prop,(∃m,W 0 m σ H)/\∀i m σ H,W i m σ H->
   (J.stop i H/\D.nx σ H)\/(J.go i H/\∃N:L2.St->Hp->Prop,(∀ O q,N O q->∃m',m'<m/\W (i+1) m' O q)/\∀x q,J.yld i H x q->g x σ q fun M H2=>tb (D.lp N) M H2):=by
 refine⟨fun i m σ H=>m=j.length-i/\i<=j.length/\Pv i σ H,⟨_,rfl,bc _,h0⟩,?_⟩;rintro i m σ H ⟨rfl,hi,p⟩;have s:=hS i σ H p;by_cases Y:i<j.length
 ·refine .inr ⟨S.go i H s Y,Pv (i+1),fun O q p'=>⟨j.length-(i+1),by omega,rfl,Y,p'⟩,fun x q hy=>?_⟩
  obtain⟨T,y,z,rfl,hT,rfl,hx⟩:=S.yld i H x q s hy;exact hs i y z σ H T hx p hT
 ·have e:i=j.length:=by omega
  subst e;exact .inl ⟨S.stop _ H s (Zq _),hd σ H p⟩
theorem Zj4 {f:Addr}{fd:FuncData}(F:WI K "less_often" "less_often" Zle f fd)(T5:BlT mg):Ya P w K mg base Ym 1 f fd ["columns", "one", "k", "p"] Zdy:=by
 refine F.ok (FS (N:=["columns", "one", "k", "p", "found", "column", "x"])) (fun vs H Q E h=>?_) (fun n8 A m6 s H vs Q E hr h=>?_)
 ·obtain⟨ca,oa,m,k,p,G,v,rfl,_⟩:=h;rfl
 ·obtain⟨ca,oa,m,k,p,G,v,rfl,hC,hO,p2,pl,n9,kl,vo,q⟩:=h
  refine⟨_,Zs (ZE 4 rfl (ZQ Zu))
   (Zs (ZM am rfl (Zjg K T5.zip (pc (vn 0) (pc (vn 1) Zu))) (g2 K 5 6 rfl (gn 5) (gn 6))
    (Zw (Yu (Wj aK aQ aT Z7 (vn 4)
     (pc (Zy ZV (Zy YC (cb (sumK K rfl) T5.sum (pc (cmp ["y", "often"] [] ["y", "often"] rfl (Zjg K T5.zip (pc (vn 1) (pc (vn 5) Zu))) (fun _ _ _ _ _=>g2 K 0 1 rfl (gn 0) (gn 1)) (fun _ _ _ _ _=>Z0)
      (fun _ _ _ _ _=>Zy ZN (vn 0) (vn 1))) Zu)) (Zy ZN (vn 2) (vn 6))) (vn 3)) Zu)))))
   (Zw (ZJ (vn 4)))),?_⟩
  have sz:(16777216:Nat)=sizeLine:=by decide
  obtain⟨cs,c1,c2,c3⟩:=id hC;refine⟨(by show 0<=sizeLine;decide),fun L nL=>?_⟩;have s0:=Zv.upd (H:=H) (o:=.lst []) nL;have h0:upd H L (.lst []) L=some (.lst (ZC 0 (UG m p G v k))):=Zt;generalize upd H L (.lst [])=H0 at s0 h0 ⊢;refine⟨_,rfl,_,rfl,ca,oa,false,false,_,_,H,rfl,.lst (.of c1),.lst (.of hO),s0,fun J At S m8=>?_⟩;have n6:((cs.map V.ref).zip (ZC m v)).length=m:=by rw[eS,Za,ZR,c2];omega
  refine ZkH S (fun i M H'=>∃(v5 v6:Option V),M=[some (.ref ca),some (.ref oa),some (.int (k:Nat)),some (.int (p:Nat)),some (.ref L),v5,v6]/\Zv H H'/\H' L=some (.lst (ZC i (UG m p G v k))))
   ⟨_,_,rfl,s0,h0⟩ (fun i M H' h=>?_) ?_ ?_
  ·obtain⟨_,_,_,sm,_⟩:=h
   exact m8 H' sm
  ·rintro i y z M H1 T' Y ⟨v5,v6,rfl,s1,h1⟩ nT
   have hi:i<m:=by
    have:=(ae.mp Y).1;omega
   rw[gv,Yc v hi,Zc,Zf (by omega)] at Y;obtain⟨e1,e2⟩:=Y;cases e1;cases e2;have hb:=c3 i (cs[i]'(by omega)) (Zf (by omega));generalize cs[i]'(by omega)=b at hb ⊢;have s2:=Zv.upd (H:=H1) (o:=.tup [.ref b,.int (v i)]) nT;refine⟨T',_,rfl,.of Zt,rfl,_,_,rfl,_,_,rfl,rfl,?_⟩;have O:=s1.trans s2;have h2:=s2 _ _ h1;generalize upd H1 T' (.tup [.ref b,.int (v i)])=H2 at O h2 ⊢;refine⟨_,rfl,.inl ⟨rfl,_,.of h2⟩,_,rfl,_,rfl,oa,b,false,false,_,_,H,rfl,.lst (.of hO),.lst (.of hb),O,fun J' o0 S' m5=>?_⟩;refine Xk S' m5 O [] rfl (fun x y=>x*y) (by omega) (fun j H3 hj s3 R g=>?_) (fun D H3 nD s3 hD=>?_)
   ·have a1:=vo.ge j hj
    have a2:=vo.lt j hj;exact⟨_,rfl,_,rfl,_,_,rfl,rfl,.inl ⟨by omega,by omega⟩,g⟩
   ·rw[Jl] at hD
    refine⟨D,_,rfl,.of hD,_,rfl,_,rfl,_,_,rfl,rfl,.inl ⟨by omega,by omega⟩,_,_,rfl,rfl,_,rfl,_,_,rfl,rfl,(by show (0:Int)<(p:Int);omega),L,_,_,rfl,rfl,s3 _ _ h2,by rw[ZR];omega,?_⟩;have e5:ZC i (UG m p G v k)++[V.int ((((ac m).map fun j=>v j*G i j).sum-(k:Int)*v i) % (p:Int))]=ZC (i+1) (UG m p G v k):=by
     rw[V8];rfl
    rw[e5];exact⟨_,_,rfl,(O.trans s3).updr nL,Zt⟩
  ·rintro M H1 ⟨v5,v6,rfl,s1,h1⟩
   rw[n6] at h1;exact⟨_,rfl,q L H1 nL s1 h1⟩
end
noncomputable def VO (t:List (List Nat))(i c j:Nat):Int:=(cnA t (Y6 t) i j (ZO t c):Nat)
noncomputable def gW (t:List (List Nat))(j:Nat->Nat->Nat)(i s:Nat):Nat:=j s (ZO t i)
section
variable {t:List (List Nat)}{p m:Nat}{e ω φ:Nat->Nat->Nat}
theorem Zk3 (C:CD t p m e ω φ)(α:Nat->Int):ZiY m p (Vc t p m e α):=
 ⟨fun c _=>cv _ C.p0,fun c _=>b8 _ (by have:=C.pr.p2;omega)⟩
theorem ZeY (C:CD t p m e ω φ)(j:PW t){i:Nat}(q:i<m)(S:Nat->Bool)(k:Nat):ZC m (UG m p (VO t i) (Vc t p m e (lpA S (gW t ω i) k)) (k:Int))=ZC m (Vc t p m e (lpA S (gW t ω i) (k+1))):=by
 refine Wm fun c J=>?_;unfold UG VO;rw[ZkU C j q J,<-Zkp];rfl
theorem Zly (C:CD t p m e ω φ)(j:PW t){i:Nat}(J:i<m):∀s,s<m->gW t ω i s<p:=fun s q=>C.wlt s _ q ((Y8 j).rl i (by have:=C.mc;omega))
theorem ZkI (C:CD t p m e ω φ){M:Nat}(O:M<p):∃y:Nat,1<=y/\y<p/\(y:Int)*fcI p M % (p:Int)=1:=by
 have Y:=C.pr.p2;obtain⟨j,q⟩:=ZlA Y M;have J:=Ziz C.pr O (Zq M);rw[<-ZiB,fC j q] at J;obtain⟨a,ha⟩:=bY j;rw[ha] at J q ⊢;obtain⟨b,b1,b2,b3⟩:=C.pr.iv a (by omega) (by omega);exact⟨b,b1,b2,by rw[<-aF,<-aZ,b3];rfl⟩
end
inductive Zdz (vs:List V) (H:Hp) (Q:VK) (E03:XK):Prop
 |mk (ca oa:Addr) (t:List (List Nat)) (p m:Nat) (e ω φ:Nat->Nat->Nat) (S:Nat->Bool) (i:Nat):(vs=[.ref ca,.ref oa,.int p])->(CD t p m e ω φ)->(PW t)->(i<m)->(p<=100000)->(LLs H ca m (VO t i))->(H oa=some (.lst (ZC m (Vc t p m e (Xo S)))))->((∃s,s<m/\S s=true))->(∀L M H',H L=none->Zv H H'->(∃s,s<m/\S s=true/\gW t ω i s=M)->(∀s,s<m->S s=true->gW t ω i s<=M)->H' L=some (.lst (ZC m (Vc t p m e (Xo (Xn S (gW t ω i) M)))))->Q (.ref L) H')->Zdz vs H Q E03
section
variable {P:Program}{w:World}{K:aa}{mg:Str->Option Value}{base:Heap}
theorem ZkO {t:List (List Nat)}{p m:Nat}{e j q:Nat->Nat->Nat}(C:CD t p m e j q)(J:PW t):m<=60:=by
 have M:=C.mc;have O:=W0 (t:=t) t.length;have Y:=J.n60;omega
theorem Zj5 {f:Addr}{fd:FuncData}(F:WI K "last_part" "last_part" Zlf f fd)(T:Bl mg)(GL:Fn P w K mg base Ym 1 "less_often" ["columns", "one", "k", "p"] Zdy)(GB:Fn P w K mg base Ym 1 "back_by" ["p", "x"] JS):Ya P w K mg base Ym 2 f fd ["columns", "one", "p"] Zdz:=by
 refine F.ok (FS (N:=["columns", "one", "p", "k", "factor", "left", "after", "undo"])) (fun vs H Q E h=>?_) (fun o8 A o6 s H vs Q E hr h=>?_)
 ·obtain⟨ca,oa,t,p,m,e,Y,φ,S,i,rfl,_⟩:=h;rfl
 ·obtain⟨ca,oa,t,p,m,e,Y,φ,S,i,rfl,C,Pt,hi,pl,hC,hO,hS,q⟩:=h
  refine⟨_,Zs (ZE 3 rfl Zx)
   (Zs (ZE 4 rfl Zx)
   (Zs (ZE 5 rfl (vn 1))
   (Zs (ZE 6 rfl (Wr GL hr ZL (pc (vn 0) (pc (vn 5) (pc (vn 3) (pc (vn 2) Zu))))))
   (Zs (Yf am (XA (cb (ZoD K rfl) T.any (pc (vn 6) Zu)))
    (Zs (ZE 5 rfl (vn 6))
    (Zs (JX (i:=3) (Z6 (by kernel_rfl)) rfl (YR (by kernel_rfl)) Zx Jj (.inl rfl))
    (Zs (ZE 4 rfl (Zy ZV (Zy ZN (vn 4) (vn 3)) (vn 2)))
    (Zw (ZE 6 rfl (Wr GL hr ZL (pc (vn 0) (pc (vn 5) (pc (vn 3) (pc (vn 2) Zu)))))))))))
   (Zs (ZE 7 rfl (Wr GB hr ZL (pc (vn 2) (pc (vn 4) Zu))))
   (Zw (ZJ (cmp ["x"] [7,2] ["x", "undo", "p"] rfl (itL K (vn 5)) (fun _ _ _ _ _=>gn 0) (fun _ _ _ _ _=>Z0) (fun _ _ _ _ _=>Zy ZV (Zy ZN (vn 0) (vn 1)) (vn 2)))))))))),?_⟩
  have p2:=C.pr.p2;have m8:=ZkO C Pt;obtain⟨M,m5,m6⟩:=Zmz (g:=gW t Y i) hS;have n6:=Zly C Pt hi;have Mp:M<p:=by obtain⟨s',o7,_,e'⟩:=m5;rw[<-e'];exact n6 s' o7
  have any:=ZmB C Pt n6 m5 m6;have n8:H oa=some (.lst (ZC m (Vc t p m e (lpA S (gW t Y i) 0)))):=by rw[Zko];exact hO
  refine⟨_,rfl,_,rfl,_,rfl,_,rfl,_,rfl,ca,oa,m,0,p,VO t i,_,rfl,hC,n8,p2,pl,m8,by omega,Zk3 C _,fun L1 H1 o9 s1 h1=>?_⟩;rw[ZeY C Pt hi] at h1;refine Z9 (fun x j J=>∃(k:Nat) (l a:Addr),j=[some (.ref ca),some (.ref oa),some (.int (p:Nat)),some (.int (k:Nat)),some (.int (fcI p k)),some (.ref l),some (.ref a),none]/\Zv H J/\J l=some (.lst (ZC m (Vc t p m e (lpA S (gW t Y i) k))))/\J a=some (.lst (ZC m (Vc t p m e (lpA S (gW t Y i) (k+1)))))/\k<=M/\x=M-k)
   (fun j J=>∃(l a:Addr),j=[some (.ref ca),some (.ref oa),some (.int (p:Nat)),some (.int (M:Nat)),some (.int (fcI p M)),some (.ref l),some (.ref a),none]/\Zv H J/\J l=some (.lst (ZC m (Vc t p m e (lpA S (gW t Y i) M))))) ?hend ⟨M,0,oa,L1,rfl,s1,s1 _ _ n8,h1,bc _,rfl⟩ ?turn
  case hend=>
   rintro j J ⟨l,a,rfl,sm,hl⟩;obtain⟨y0,y1,y2,y3⟩:=ZkI C Mp;refine⟨_,rfl,_,rfl,p,_,rfl,p2,pl,⟨y0,y1,y2,y3⟩,fun y a1 a2 a3=>?_⟩;refine⟨_,rfl,l,rfl,⟨_,.of hl⟩,?_⟩;refine WZ (YV (K:=K) (.of hl)) [some (.int (y:Nat)),some (.int (p:Nat))] rfl (fun c=>V.int (Vc t p m e (Xo (Xn S (gW t Y i) M)) c)) (by rw[ZR];omega) (fun c z hz H2 s2 R k2=>?_) (fun D H2 nD s2 hD=>?_)
   ·have hc:c<m:=by
     have:=(ae.mp hz).1;rw[ZR] at this;exact this
    rw[Yc _ hc] at hz;cases hz;refine⟨_,rfl,_,rfl,_,_,rfl,rfl,.inr ⟨by omega,by omega⟩,_,rfl,_,_,rfl,rfl,(by show (0:Int)<(p:Int);omega),?_⟩;have n9:=k2 H2 (Zv.refl _);rw[<-ZmA C m6 a3 c] at n9;exact n9
   ·rw[ZR] at hD
    exact q D M H2 (sm.free nD) (sm.trans s2) m5 m6 hD
  case turn=>
   rintro O x j J ⟨k,l,a,rfl,sm,hl,ha,kM,rfl⟩;have o0:=ha;rw[Jl] at o0;refine⟨_,rfl,a,_,rfl,.of o0,_,rfl,?_⟩;refine YG (fun h2=>?_) (fun h2=>?_)
   ·have:k+1<=M:=(any (k+1)).mp ((VR _ _).mp h2)
    have ek:(k:Int)+1=((k+1:Nat):Int):=by omega
    obtain⟨f0,f1⟩:=ZlA p2 k;refine⟨_,fun _ _ z=>z,_,rfl,_,rfl,_,_,rfl,rfl,_,rfl,_,rfl,_,_,rfl,rfl,.inl ⟨by omega,by omega⟩,_,rfl,_,_,rfl,rfl,(by show (0:Int)<(p:Int);omega),_,rfl,_,rfl,_,rfl,_,rfl,ca,a,m,k+1,p,VO t i,_,by rw[<-ek];rfl,hC.mono sm,ha,p2,pl,m8,by omega,Zk3 C _,fun L2 H2 p3 s2 o5=>?_⟩;rw[ZeY C Pt hi] at o5;exact⟨M-(k+1),by omega,k+1,a,L2,by rw[<-ek];rfl,sm.trans s2,s2 _ _ ha,o5,this,rfl⟩
   ·have:¬k+1<=M:=fun z=>h2 ((VR _ _).mpr ((any (k+1)).mpr z))
    have e2:k=M:=by omega
    subst e2;exact O _ _ ⟨l,a,rfl,sm,hl⟩
end
noncomputable def WH (H:Hp)(a:Addr)(t:List (List Nat))(p m:Nat)(e:Nat->Nat->Nat)(cs:List Addr)(q:List (Nat->Bool)):Prop:=H a=some (.lst (cs.map V.ref))/\cs.length=q.length/\∀(j:Nat) b,cs[j]?=some b->∃S,q[j]?=some S/\H b=some (.lst (ZC m (Vc t p m e (Xo S))))
section
variable {t:List (List Nat)}{p m:Nat}{e ω φ:Nat->Nat->Nat}
theorem WH.mono {H q:Hp}{a:Addr}{cs:List Addr}{J:List (Nat->Bool)}(h:WH H a t p m e cs J)(s:Zv H q):WH q a t p m e cs J:=
 ⟨s _ _ h.1,h.2.1,fun j b hb=>by
  obtain⟨S,M,O⟩:=h.2.2 j b hb;exact⟨S,M,s _ _ O⟩⟩
theorem WH.push {H:Hp}{a c:Addr}{cs:List Addr}{q:List (Nat->Bool)}{S:Nat->Bool}(h:WH H a t p m e cs q)(Y:H c=some (.lst (ZC m (Vc t p m e (Xo S)))))(hv:∀(j:Nat) b,(cs++[c])[j]?=some b->b≠a):WH (upd H a (.lst (cs.map V.ref++[.ref c]))) a t p m e (cs++[c]) (q++[S]):=by
 refine⟨by rw[Zt,aR];rfl,by rw[Zd,Zd,h.2.1];rfl,fun j b hb=>?_⟩;have J:=hv j b hb;by_cases M:j<cs.length
 ·rw[au M] at hb
  obtain⟨S',h1,h2⟩:=h.2.2 j b hb;exact⟨S',by rw[au (by rw[<-h.2.1];exact M)];exact h1,by rw[Zz J];exact h2⟩
 ·have hl:=(ae.mp hb).1
  rw[Zd,Zk] at hl;have O:j=cs.length:=by omega
  rw[aw (by omega),O,cD] at hb;cases hb;refine⟨S,?_,by rw[Zz J];exact Y⟩;rw[O,h.2.1,aw (Zq _),cD];rfl
end
theorem Zbq {H:Hp}{a b:Addr}{xs:List V}{ys:List V}(j:H a=some (.lst xs))(q:H b=some (.lst ys))(h:xs≠ys):a≠b:=fun z=>by
 rw[z,q] at j;injection j with j;injection j with j;exact h j.symm
theorem Ur {cs:List Addr}{m:Nat}{v:Nat->Int}(q:1<=m):cs.map V.ref≠ZC m v:=fun z=>by
 have h:=congrArg (fun l=>l[0]?) z;simp only[Yc v (show 0<m by omega),Zc] at h;cases j:cs[0]? with
 |none=>rw[j] at h;cases h
 |some c=>rw[j] at h;cases h
inductive ZaW (vs:List V) (H:Hp) (Q:VK) (E03:XK):Prop
 |mk (ca oa:Addr) (t:List (List Nat)) (p m:Nat) (e ω φ:Nat->Nat->Nat) (S:Nat->Bool) (i:Nat):(vs=[.ref ca,.ref oa,.int p])->(CD t p m e ω φ)->(PW t)->(i<m)->(p<=100000)->(LLs H ca m (VO t i))->(H oa=some (.lst (ZC m (Vc t p m e (Xo S)))))->(∀L cs Ss H',H L=none->Zv H H'->PtS m S (gW t ω i) Ss->WH H' L t p m e cs Ss->Q (.ref L) H')->ZaW vs H Q E03
theorem Zjl {m:Nat}{S:Nat->Bool}{g:Nat->Nat}{j:List (Nat->Bool)}{R:Nat->Bool}(W:PtW m S g j R):j.length<=m:=by
 have:=L2.Yw (j.map (pkS m)) (ac m) (Zao W.ne W.dj) (fun x q=>by
  obtain⟨T,J,rfl⟩:=aN.mp q;exact ag.mpr (Xr (W.ne T J)).1)
 rwa [Za,Zg] at this
section
variable {P:Program}{w:World}{K:aa}{mg:Str->Option Value}{base:Heap}
theorem ZhX {f:Addr}{fd:FuncData}(F:WI K "parts_by" "parts_by" Zhd f fd)(T:Bl mg)(T5:BlT mg)(GL:Fn P w K mg base Ym 2 "last_part" ["columns", "one", "p"] Zdz):Ya P w K mg base Ym 3 f fd ["columns", "one", "p"] ZaW:=by
 refine F.ok (FS (N:=["columns", "one", "p", "parts", "rest", "part"])) (fun vs H Q E h=>?_) (fun q0 A o8 s H vs Q E hr h=>?_)
 ·obtain⟨ca,oa,t,p,m,e,ω,φ,S,i,rfl,_⟩:=h;rfl
 ·obtain⟨ca,oa,t,p,m,e,ω,φ,S,i,rfl,C,Pt,hi,pl,hC,hO,q⟩:=h
  refine⟨_,Zs (ZE 3 rfl (ZQ Zu))
   (Zs (ZE 4 rfl (vn 1))
   (Zs (Yf am (XA (cb (ZoD K rfl) T.any (pc (vn 4) Zu)))
    (Zs (ZE 5 rfl (Wr GL hr ZL (pc (vn 0) (pc (vn 4) (pc (vn 2) Zu)))))
    (Zs (Yu (Wj aK aQ aT Z7 (vn 3) (pc (vn 5) Zu)))
    (Zw (ZfC 4 ["x", "y"] [2] ["x", "y", "p"] rfl rfl (Zjg K T5.zip (pc (vn 4) (pc (vn 5) Zu))) (fun _ _ _ _ _=>g2 K 0 1 rfl (gn 0) (gn 1)) (fun _ _ _ _ _=>Z0) (fun _ _ _ _ _=>Zy ZV (Zy YC (vn 0) (vn 1)) (vn 2)))))))
   (Zw (ZJ (vn 3))))),?_⟩
  have p2:=C.pr.p2;have r6:=ZkO C Pt;have m1:=C.m1;have sz:(16777216:Nat)=sizeLine:=by decide
  have o9:=Zly C Pt hi;refine⟨(by show 0<=sizeLine;decide),fun L nL=>?_⟩;have s0:=Zv.upd (H:=H) (o:=.lst []) nL;have h0:upd H L (.lst []) L=some (.lst ([]:List V)):=Zt;generalize upd H L (.lst [])=H0 at s0 h0 ⊢;refine⟨_,rfl,?_⟩;refine Z9 (fun x Y H'=>∃(cs:List Addr) (Ss:List (Nat->Bool)) (R:Nat->Bool) (r:Addr) (v5:Option V),Y=[some (.ref ca),some (.ref oa),some (.int (p:Nat)),some (.ref L),some (.ref r),v5]/\Zv H H'/\WH H' L t p m e cs Ss/\PtW m S (gW t ω i) Ss R/\H' r=some (.lst (ZC m (Vc t p m e (Xo R))))/\∀s,s<m->R s=true->gW t ω i s<x)
   (fun Y H'=>∃(cs:List Addr) (Ss:List (Nat->Bool)) (r:Addr) (v5:Option V),Y=[some (.ref ca),some (.ref oa),some (.int (p:Nat)),some (.ref L),some (.ref r),v5]/\Zv H H'/\WH H' L t p m e cs Ss/\PtS m S (gW t ω i) Ss) ?hend
   ⟨p,[],[],S,oa,none,rfl,s0,⟨h0,rfl,fun j b hb=>by simp at hb⟩,.zero,s0 _ _ hO,fun s hs _=>o9 s hs⟩ ?turn
  case hend=>
   rintro Y H' ⟨cs,Ss,r,v5,rfl,sm,hP,hS⟩;exact⟨_,rfl,q L cs Ss H' nL sm hS hP⟩
  case turn=>
   rintro m8 x Y H' ⟨cs,Ss,R,r,v5,rfl,sm,hP,hW,hR,hx⟩;have n6:=hR;rw[Jl] at n6;refine⟨_,rfl,r,_,rfl,.of n6,_,rfl,?_⟩;refine YG (fun h2=>?_) (fun h2=>?_)
   ·have p3:=(Zfq C Pt R).mp ((VR _ _).mp h2)
    refine⟨_,fun _ _ z=>z,_,rfl,_,rfl,_,rfl,ca,r,t,p,m,e,ω,φ,R,i,rfl,C,Pt,hi,pl,hC.mono sm,hR,p3,fun L2 M H2 r8 s2 g1 n8 m5=>?_⟩;have O:=hP.mono s2;have n9:=s2 _ _ hR;have sl:=Zjl hW;have m6:∀{b:Addr}{v:Nat->Int},H2 b=some (.lst (ZC m v))->b≠L:=fun {b v} hb=>Zbq hb O.1 (Ur m1).symm;have o0:=O.push m5 (fun j b hb=>by
     rcases bS.mp (aE hb) with z|z
     ·obtain⟨j',p4⟩:=bN z
      obtain⟨S',_,p6⟩:=O.2.2 j' b p4;exact m6 p6
     ·rw[aU.mp z]
      exact m6 m5)
    refine⟨_,rfl,.inl ⟨rfl,_,.of O.1⟩,_,rfl,L,_,_,rfl,rfl,O.1,by rw[Za,O.2.1];omega,?_⟩;have sm3:Zv H (upd H2 L (.lst (cs.map V.ref++[.ref L2]))):=(sm.trans s2).updr nL;have o5:upd H2 L (.lst (cs.map V.ref++[.ref L2])) r=some (.lst (ZC m (Vc t p m e (Xo R)))):=by rw[Zz (m6 n9)];exact n9
    have o6:upd H2 L (.lst (cs.map V.ref++[.ref L2])) L2=some (.lst (ZC m (Vc t p m e (Xo (Xn R (gW t ω i) M))))):=by rw[Zz (m6 m5)];exact m5
    generalize upd H2 L (.lst (cs.map V.ref++[.ref L2]))=H3 at o0 sm3 o5 o6 ⊢;refine⟨_,rfl,_,rfl,r,L2,false,false,_,_,H3,rfl,.lst (.of o5),.lst (.of o6),Zv.refl _,fun J At S' p7=>?_⟩;refine Xk S' p7 (Zv.refl _) [some (.int (p:Nat))] rfl (fun a b=>(a-b) % (p:Int)) (by omega) (fun j H4 hj s4 R' g=>?_) (fun D H4 nD s4 hD=>?_)
    ·exact⟨_,rfl,_,rfl,_,_,rfl,rfl,_,rfl,_,_,rfl,rfl,(by show (0:Int)<(p:Int);omega),g⟩
    ·have e5:(ZC m fun j=>(Vc t p m e (Xo R) j-Vc t p m e (Xo (Xn R (gW t ω i) M)) j) % (p:Int))=ZC m (Vc t p m e (Xo (Zby R (gW t ω i) M))):=Wm fun c _=>ZmC n8 c
     rw[e5] at hD;refine⟨M,?_,cs++[L2],Ss++[Xn R (gW t ω i) M],Zby R (gW t ω i) M,D,_,rfl,sm3.trans s4,o0.mono s4,hW.step g1 n8,hD,fun s' o7 q'=>?_⟩
     ·obtain⟨s',o7,a,b⟩:=g1
      rw[<-b];exact hx s' o7 a
     ·unfold Zby at q'
      rw[af,decide_eq_true_eq] at q';exact q'.2
   ·have p8:¬ ∃s,s<m/\R s=true:=fun z=>h2 ((VR _ _).mpr ((Zfq C Pt R).mpr z))
    exact m8 _ _ ⟨cs,Ss,r,v5,rfl,sm,hP,hW.end p8⟩
end
structure KS (kvs:List (YE×V))(ks:List Nat):Prop where
 keys:kvs.map (·.1)=ks.map fun a:Nat=>(ic (a:Int):YE)
 nd:ks.Nodup
theorem KS.nil:KS [] []:=⟨rfl,ee⟩
theorem KS.len {j:List (YE×V)}{q:List Nat}(h:KS j q):j.length=q.length:=by
 have:=congrArg e9 h.keys;rwa [Za,Za] at this
theorem KS.some {j:List (YE×V)}{q:List Nat}(h:KS j q)(a:Nat):(YT j (.inl (a:Int))).isSome=q.contains a:=by
 rw[<-WS];have e:(j.any fun M=>decide (M.1=(.inl (a:Int):YE)))=(j.map (·.1)).any fun k=>decide (k=(.inl (a:Int):YE)):=by rw[fk];rfl
 rw[e,h.keys,fk];by_cases hm:a∈q
 ·rw[aB.mpr hm,aY]
  exact⟨a,hm,by simp⟩
 ·have J:q.contains a=false:=by
   cases J:q.contains a with
   |false=>rfl
   |true=>exact absurd (aB.mp J) hm
  rw[J,List.any_eq_false];intro b hb z;have z:=of_decide_eq_true z;injection z with z;have:b=a:=by omega
  exact hm (this▸hb)
theorem KS.put {j:List (YE×V)}{q:List Nat}(h:KS j q)(a:Nat)(v:V):KS (WJ j (.inl (a:Int)) v) (if q.contains a then q else q++[a]):=by
 have M:=h.some a;by_cases J:q.contains a=true
 ·rw[if_pos J]
  rw[J] at M;refine⟨?_,h.nd⟩;unfold WJ;rw[if_pos (by rw[WS];exact M),aP,<-h.keys];refine aX fun O _=>?_;show (if O.1=_ then (O.1,v) else O).1=O.1
  split <;> rfl
 ·rw[if_neg J]
  have Y:YT j (.inl (a:Int))=none:=by
   cases hv:YT j (.inl (a:Int)) with
   |none=>rfl
   |some x=>rw[hv] at M;exact absurd M.symm J
  rw[ZhE v Y];refine⟨by rw[aR,aR,h.keys];rfl,?_⟩;rw[mF];refine⟨h.nd,by simp,fun b hb c hc z=>J ?_⟩;rw[aU.mp hc] at z;exact aB.mpr (z▸hb)
theorem ZjG {j:List Nat}{a b:Nat}:b∈(if j.contains a then j else j++[a])↔b∈j\/b=a:=by
 split
 ·rename_i h
  exact⟨.inl,fun z=>z.elim id fun e=>by rw[e];exact aB.mp h⟩
 ·rw[bS,aU]
theorem ZjH (j:List Nat)(a:Nat):(if j.contains a then j else j++[a]).length<=j.length+1:=by
 split
 ·omega
 ·rw[Zd,Zk];exact Zq _
inductive Jp (vs:List V) (H:Hp) (Q:VK) (E03:XK):Prop
 |mk (g:Addr) (t:List (List Nat)):(vs=[.ref g])->(GT H g t)->(PW t)->(∀c H',Zv H H'->CT H' c (ZD t t.length)->Q (.ref c) H')->Jp vs H Q E03
theorem _root_.Pm.TupsAt.updD {H:Hp}{L D:Addr}{bs:List Addr}{yss:List (List Nat)}{j:List (YE×V)}{o:HO}(q:H D=some (.dK j))(R:TupsAt H L bs yss):TupsAt (upd H D o) L bs yss:=by
 refine⟨?_,R.2.1,fun i b hb=>?_⟩
 ·rw[Zz fun z=>by have:=R.1;rw[z,q] at this;cases this]
  exact R.1
 ·rw[Zz fun z=>by have:=R.2.2 i b hb;rw[z,q] at this;cases this]
  exact R.2.2 i b hb
theorem _root_.Pm.TupsAt.last {H:Hp}{L r:Addr}{bs:List Addr}{yss:List (List Nat)}{ys:List Nat}(R:TupsAt H L (bs++[r]) (yss++[ys])):H r=some (.tup (ys.map nV)):=by
 have j:=R.2.1;rw[Zd,Zd,Zk,Zk] at j;have:=R.2.2 bs.length r (by rw[aw (Zq _),cD];rfl);rw[Zb,aw (by omega),show bs.length-yss.length=0 by omega] at this;exact this
theorem Zop {H:Hp}{L c:Addr}{bs:List Addr}{yss:List (List Nat)}(R:TupsAt H L bs yss)(j:H c=none):CT (upd H c (.tup (bs.map V.ref))) c yss:=⟨bs,Zt,R.2.1,fun i r q=>Zv.upd j _ _ (R.2.2 i r q)⟩
section
variable {P:Program}{w:World}{K:aa}{mg:Str->Option Value}{base:Heap}
theorem ZdU {f:Addr}{fd:FuncData}(F:WI K "classes_of" "classes_of" Uk f fd)(T:Bl mg)(GN:Fn P w K mg base Ym 3 "turnings" ["group", "b"] Xx):Ya P w K mg base Ym 4 f fd ["group"] Jp:=by
 refine F.ok (FS (N:=["group", "found", "seen", "b", "a"])) (fun vs H Q E h=>?_) (fun o5 A o6 s H vs Q E hr h=>?_)
 ·obtain⟨g,t,rfl,_⟩:=h;rfl
 ·obtain⟨g,t,rfl,G,Pt,q⟩:=h
  have hu:(A.deeper (envOfC "classes_of" (ZZ Uk) s.heap.objs.size f o5)).units+1<cLine:=by have:=hr.un;omega
  refine⟨_,Zs (ZE 1 rfl (ZQ Zu))
   (Zs (ZE 2 rfl Zcz)
   (Zs (ZM am rfl (JA T.range (pc (cb (Yx K) T.len (pc (vn 0) Zu)) Zu)) (gn 3)
    (Zw (WF (ZhG (Zaq hu (vn 3) (vn 2)))
     (Zs (Yu (Wj aK aQ aT Z7 (vn 1) (pc (Wr GN hr ZL (pc (vn 0) (pc (vn 3) Zu))) Zu)))
     (Zw (ZM am rfl (itT K (ZF (Ji K) (vn 1) (X1 Jy Zx) (fun _ _=>rfl))) (gn 4) (Zw (Xe hu (vn 2) (vn 4) ZcA (by rfl)))))) Yy)))
   (Zw (ZJ (ct ZX T.tuple (pc (vn 1) Zu)))))),?_⟩
  have sz:(16777216:Nat)=sizeLine:=by decide
  have p4:=Pt.n60;refine⟨(by show 0<=sizeLine;decide),fun L nL=>fun D nD=>?_⟩;have s1:=Zv.upd (H:=H) (o:=.lst []) nL;have s2:=s1.trans (Zv.upd (o:=.dK []) nD);have o7:H D=none:=s1.free nD;obtain⟨gs,u1,u2,_⟩:=id (G.mono s2);have el:(gs.map V.ref).length=t.length:=by rw[Za,u2]
  refine⟨_,rfl,g,_,rfl,.inr (.of u1),_,rfl,by rw[el];omega,by rw[el];omega,?_⟩;rw[el,Zj];refine Z8 (fun i M H'=>∃(w3 w4:Option V) (bs:List Addr) (J:List (YE×V)) (ks:List Nat),M=[some (.ref g),some (.ref L),some (.ref D),w3,w4]/\Zv H H'/\TupsAt H' L bs (ZD t i)/\H' D=some (.dK J)/\KS J ks/\(∀a,a∈ks↔Yt (ZD t i) a=true)/\ks.length<=60*i)
   ⟨_,_,[],[],[],rfl,s2,⟨Zv.upd nD _ _ Zt,rfl,fun i b hb=>by cases hb⟩,Zt,.nil,fun a=>⟨fun z=>(by cases z),fun z=>(by cases z)⟩,Zq _⟩ ?_ ?_
  ·rintro i M H3 hi ⟨w3,w4,bs,J,ks,rfl,s3,R,hD,hK,m5,kl⟩
   rw[show (0:Int)+(i:Int)=(i:Int) by omega];refine⟨_,rfl,_,rfl,D,_,rfl,Jk.k (k:=.inl (i:Int)) hD,_,rfl,?_⟩;have n8:(YT J (.inl (i:Int))).isSome=Yt (ZD t i) i:=by
    rw[hK.some];cases hc:Yt (ZD t i) i with
    |true=>exact aB.mpr ((m5 i).mpr hc)
    |false=>
     cases o8:ks.contains i with
     |false=>rfl
     |true=>rw[(m5 i).mp (aB.mp o8)] at hc;cases hc
   rw[n8];refine YG (fun h=>?_) (fun h=>?_)
   ·have h:Yt (ZD t i) i=false:=by simpa using h
    have eU:ZD t (i+1)=ZD t i++[Z2 t i]:=by
     rw[ZD,if_neg (by unfold Yt at h;rw[h];decide)]
    refine⟨_,rfl,.inl ⟨rfl,_,.of R.1⟩,_,rfl,_,rfl,g,t,i,rfl,G.mono s3,Pt,hi,fun r H4 s4 o9=>?_⟩;have R4:=R.mono s4;have bl:=R4.2.1;have ul:=W0 (t:=t) i;refine⟨L,_,_,rfl,rfl,R4.1,by rw[Za];omega,?_⟩;have R5:=R4.push o9;have n9:upd H4 L (.lst (bs.map V.ref++[.ref r])) D=some (.dK J):=by
     rw[Zz fun z=>by have:=s4 _ _ hD;rw[z,R4.1] at this;cases this];exact s4 _ _ hD
    have s5:Zv H (upd H4 L (.lst (bs.map V.ref++[.ref r]))):=(s3.trans s4).updr nL;refine⟨_,rfl,_,rfl,L,_,_,_,rfl,rfl,.of Zt,UY _ _,r,rfl,⟨_,.of R5.last⟩,?_⟩;generalize upd H4 L (.lst (bs.map V.ref++[.ref r]))=H5 at R5 n9 s5 ⊢;have cl:=Zfj (t:=t) i;refine Ze7 (K:=K) (a:=r) (xs:=(Z2 t i).map nV) (fun j M H'=>∃(w4:Option V) (J:List (YE×V)) (O:List Nat),M=[some (.ref g),some (.ref L),some (.ref D),some (.int (i:Nat)),w4]/\Zv H H'/\TupsAt H' L (bs++[r]) (ZD t i++[Z2 t i])/\H' D=some (.dK J)/\KS J O/\(∀a,a∈O↔a∈ks\/a∈(Z2 t i).take j)/\O.length<=60*i+j)
     ⟨_,J,ks,rfl,s5,R5,n9,hK,fun a=>⟨.inl,fun z=>z.elim id fun z=>by rw[fg] at z;cases z⟩,kl⟩ (fun j M H' _ h=>by
      obtain⟨_,_,_,_,_,R',_⟩:=h;exact .of R'.last) ?_ ?_
    ·rintro j y M H6 hy ⟨p3,n6,O,rfl,s6,R6,m6,m8,Y,o0⟩
     obtain⟨k,hk,rfl⟩:=XC hy;have hj:j<(Z2 t i).length:=(ae.mp hk).1;refine⟨_,rfl,_,rfl,D,_,rfl,Vz.k (k:=.inl (k:Int)) m6 (by rw[m8.len];omega),?_⟩;refine⟨_,_,_,rfl,s6.updr o7,R6.updD m6,Zt,m8.put k (.bl true),fun a=>?_,?_⟩
     ·rw[ZjG,Y,cU,hk,bS]
      show _↔a∈ks\/a∈(Z2 t i).take j\/a∈[k];rw[aU];exact⟨fun z=>z.elim (fun z=>z.elim .inl fun z=>.inr (.inl z)) fun z=>.inr (.inr z),fun z=>z.elim (fun z=>.inl (.inl z)) fun z=>z.elim (fun z=>.inl (.inr z)) .inr⟩
     ·have:=ZjH O k
      omega
    ·rintro M H6 ⟨p3,n6,O,rfl,s6,R6,m6,m8,Y,o0⟩
     rw[Za] at Y o0;refine⟨_,_,bs++[r],n6,O,rfl,s6,by rw[eU];exact R6,m6,m8,fun a=>?_,by omega⟩;rw[Y,c9,m5 a,eU];unfold Yt;rw[im,bu,c6,kF,gJ,aB]
   ·have h:Yt (ZD t i) i=true:=by simpa using h
    have eU:ZD t (i+1)=ZD t i:=by
     rw[ZD,if_pos (by unfold Yt at h;rw[h])]
    exact⟨_,_,bs,J,ks,rfl,s3,by rw[eU];exact R,hD,hK,fun a=>by rw[eU];exact m5 a,by omega⟩
  ·rintro M H3 ⟨w3,w4,bs,J,ks,rfl,s3,R,hD,hK,m5,kl⟩
   exact⟨_,rfl,L,_,rfl,.inl ⟨.of R.1,fun c nc=>q c _ (s3.trans (Zv.upd nc)) (Zop R nc)⟩⟩
end
noncomputable abbrev Zlg:Stmt:=top 1
noncomputable abbrev Zcl:Stmt:=top 10
noncomputable def U5 (j:List (List Nat)):Nat->Nat->Nat
 |0,_=>0
 |k+1,a=>if (j.getD k []).contains a then k else U5 j k a
inductive ZdA (vs:List V) (H:Hp) (Q:VK) (E03:XK):Prop
 |mk (c:Addr) (css:List (List Nat)) (n:Nat):(vs=[.ref c,.int n])->(CT H c css)->((∀row∈css,∀a∈row,a<n))->(n<=60)->(css.length<=60)->(∀r H',Zv H H'->H' r=some (.tup ((Yn n (U5 css css.length)).map nV))->Q (.ref r) H')->ZdA vs H Q E03
inductive ZaX (vs:List V) (H:Hp) (Q:VK) (E03:XK):Prop
 |mk (g:Addr) (t:List (List Nat)):(vs=[.ref g])->(GT H g t)->(PW t)->(∀r H',Zv H H'->H' r=some (.tup ((Yn t.length (U5 (ZD t t.length) (ZD t t.length).length)).map nV))->Q (.ref r) H')->ZaX vs H Q E03
section
variable {P:Program}{w:World}{K:aa}{mg:Str->Option Value}{base:Heap}
theorem Zj6 {f:Addr}{fd:FuncData}(F:WI K "holders" "holders" Zlg f fd)(T:Bl mg)(T2:Zgw mg):Ya P w K mg base Ym 1 f fd ["bundles", "count"] ZdA:=by
 refine F.ok (FS (N:=["bundles", "count", "numbers", "k", "members", "a"])) (fun vs H Q E h=>?_) (fun o8 A n9 s H vs Q E hr h=>?_)
 ·obtain⟨c,J,n,rfl,_⟩:=h;rfl
 ·obtain⟨c,J,n,rfl,C,o0,n60,o9,q⟩:=h
  refine⟨_,Zs (ZE 2 rfl (Zy WD (ZQ (pc Zx Zu)) (vn 1)))
   (Zs (ZM am rfl (UJ K T2.enumerate (pc (vn 0) Zu)) (g2 K 3 4 rfl (gn 3) (gn 4))
    (Zw (ZM am rfl (itT K (vn 4)) (gn 5) (Zw (Jf (vn 3) (JC (vn 2) (vn 5) YB))))))
   (Zw (ZJ (ct ZX T.tuple (pc (vn 2) Zu))))),?_⟩
  have sz:(16777216:Nat)=sizeLine:=by decide
  obtain⟨rs,c1,c2,c3⟩:=C.row;refine⟨(by show 1<=sizeLine;decide),fun l0 o5=>⟨_,rfl,l0,_,_,rfl,rfl,Zt,by omega,by omega,by show 1*((n:Int)).toNat<=sizeLine;omega,fun L nL=>?_⟩⟩;rw[Zj];have s1:=Zv.upd (H:=H) (o:=.lst [.int 0]) o5;have o6:H L=none:=s1.free nL;have e0:(av n [V.int 0]).flatten=(Yn n (U5 J 0)).map nV:=by
   unfold Yn;rw[aP];have:∀m k,(av m [V.int 0]).flatten=(dw k m).map fun _=>nV 0:=fun m=>by
    induction m with
    |zero=>intro k;rfl
    |succ m ih=>intro k;rw[a6,cg,ih (k+1),eA,aV];rfl
   rw[this n 0,<-dZ];rfl
  rw[e0];have s2:=s1.trans (Zv.upd (o:=.lst ((Yn n (U5 J 0)).map nV)) nL);refine⟨_,rfl,c,rfl,.inr ⟨⟨_,.of (s2 _ _ c1)⟩,?_⟩⟩;refine WX (ZbL (K:=K) (xs:=rs.map V.ref)) (fun i M H'=>∃v3 v4 v5:Option V,M=[some (.ref c),some (.int (n:Nat)),some (.ref L),v3,v4,v5]/\Zv H H'/\H' L=some (.lst ((Yn n (U5 J i)).map nV)))
   ⟨_,_,_,rfl,s2,Zt⟩ (fun i M H' h=>by
    obtain⟨_,_,_,_,sm,_⟩:=h;exact sm.tup (.of c1)) ?_ ?_
  ·rintro i y M H3 T' hy ⟨v3,v4,v5,rfl,s3,O⟩ nT
   obtain⟨r,rfl,hi,Y⟩:=c3 i y hy;have s4:=Zv.upd (H:=H3) (o:=.tup [.int (i:Nat),.ref r]) nT;refine⟨T',_,rfl,.of Zt,rfl,_,_,rfl,_,_,rfl,rfl,?_⟩;generalize upd H3 T' (.tup [.int (i:Nat),.ref r])=H4 at s4 ⊢;have m8:=(s3.trans s4) _ _ Y;have hm:J.getD i []∈J:=by
    rw[Zb,Zf hi];exact bK hi
   have m6:=o0 _ hm;generalize n6:J.getD i []=row at Y m8 m6;refine⟨_,rfl,r,rfl,⟨_,.of m8⟩,?_⟩;refine Ze7 (K:=K) (a:=r) (xs:=row.map nV) (fun j M H'=>∃v5:Option V,M=[some (.ref c),some (.int (n:Nat)),some (.ref L),some (.int (i:Nat)),some (.ref r),v5]/\Zv H H'/\H' L=some (.lst ((Yn n fun a=>if (row.take j).contains a then i else U5 J i a).map nV)))
    ⟨_,rfl,s3.trans s4,by
     have e:(Yn n fun a=>if ((row.take 0).contains a)=true then i else U5 J i a)=Yn n (U5 J i):=Wn fun a _=>by rw[fg];rfl
     rw[e];exact s4 _ _ O⟩ (fun j M H' _ h=>by
     obtain⟨_,_,sm,_⟩:=h;exact .of (sm _ _ (by rw[<-n6] at Y ⊢;exact Y))) ?_ ?_
   ·rintro j y M H5 hy ⟨o7,rfl,s5,m5⟩
    obtain⟨k,hk,rfl⟩:=XC hy;have n8:k<n:=m6 k (aE hk);refine⟨_,rfl,_,rfl,_,rfl,L,_,_,k,rfl,rfl,m5,WA (by rw[Za,Zcr];exact n8),?_⟩;refine⟨_,rfl,s5.updr o6,?_⟩;rw[Zt];have e:=Zcq (k:=i) (fun a=>if ((row.take j).contains a)=true then i else U5 J i a) n8
    have e2:(Yn n fun b=>if b=k then i else if ((row.take j).contains b)=true then i else U5 J i b)=Yn n fun a=>if ((row.take (j+1)).contains a)=true then i else U5 J i a:=Wn fun a _=>by
     rw[cU,hk];by_cases h1:a=k
     ·subst h1
      rw[if_pos rfl,if_pos (aB.mpr (aS _ (by simp)))]
     ·rw[if_neg h1]
      by_cases h2:a∈row.take j
      ·rw[if_pos (aB.mpr h2),if_pos (aB.mpr (cn _ h2))]
      ·rw[if_neg (fun z=>h2 (aB.mp z)),if_neg (fun z=>?_)]
       rcases bS.mp (aB.mp z) with z|z
       ·exact h2 z
       ·exact h1 (by simpa using z)
    rw[e2] at e;exact congrArg (fun xs=>some (HO.lst xs)) e
   ·rintro M H5 ⟨o7,rfl,s5,m5⟩
    refine⟨_,_,_,rfl,s5,?_⟩;rw[Za] at m5;rw[m5];have e:(Yn n fun a=>if ((row.take row.length).contains a)=true then i else U5 J i a)=Yn n (U5 J (i+1)):=Wn fun a _=>by
     rw[c9,U5,n6]
    rw[e]
  ·rintro M H3 ⟨v3,v4,v5,rfl,s3,O⟩
   rw[Za,c2] at O;exact⟨_,rfl,L,_,rfl,.inl ⟨.of O,fun r nr=>q r _ (s3.trans (Zv.upd nr)) Zt⟩⟩
theorem ZkN {t:List (List Nat)}(j:PW t):∀row∈ZD t t.length,∀a∈row,a<t.length:=fun row q a J=>by
 obtain⟨b,_,rfl⟩:=Jc j t.length (Zq _) row q;exact Vr J
theorem Zj1 {f:Addr}{fd:FuncData}(F:WI K "class_numbers" "class_numbers" Zcl f fd)(T:Bl mg)(GC:Fn P w K mg base Ym 4 "classes_of" ["group"] Jp)(GH:Fn P w K mg base Ym 1 "holders" ["bundles", "count"] ZdA):Ya P w K mg base Ym 5 f fd ["group"] ZaX:=by
 refine F.ok (FS (N:=["group"])) (fun vs H Q E h=>?_) (fun m5 A j s H vs Q E O h=>?_)
 ·obtain⟨g,t,rfl,_⟩:=h;rfl
 ·obtain⟨g,t,rfl,G,J,q⟩:=h
  refine⟨_,Zw (ZJ (Wr GH O ZL (pc (Wr GC O ZL (pc (vn 0) Zu)) (pc (cb (Yx K) T.len (pc (vn 0) Zu)) Zu)))),?_⟩;have n60:=J.n60;refine⟨_,rfl,g,t,rfl,G,J,fun c H' Y C=>?_⟩;obtain⟨gs,u1,u2,_⟩:=id (G.mono Y);have el:(gs.map V.ref).length=t.length:=by rw[Za,u2]
  refine⟨_,rfl,g,_,rfl,.inr (.of u1),?_⟩;rw[el];exact⟨c,_,t.length,rfl,C,ZkN J,n60,bm (W0 _) n60,fun r H2 s2 M=>q r H2 (Y.trans s2) M⟩
end
end C51
namespace Tb
noncomputable def Jd (t:List (List Nat))(a:Nat):Nat:=(((ac t.length).find? fun r=>it t a (r+1) == 0).getD 0)+1
theorem Us {t:List (List Nat)}{a r:Nat}(R:Rd t a r):Jd t a=r:=by
 have q:=R.r1;have:(ac t.length).find? (fun r=>it t a (r+1) == 0)=some (r-1):=by
  rw[ke];refine⟨by rw[show r-1+1=r by omega,R.z];rfl,ag.mpr (by have:=R.rn;omega),fun j J=>?_⟩;have:=R.nz (j+1) (by omega) (by omega);simpa using this
 unfold Jd;rw[this];show r-1+1=r;omega
section
variable {t:List (List Nat)}
theorem Ze3 (P:PW t){a s:Nat}(j:a<t.length)(q:s<t.length):∀k,it t (tb t a s) k=tb t (it t a k) s
 |0=>(Xc P q).symm
 |k+1=>by
  rw[it,it,Ze3 P j q k,Zdo P q (YW P j k) j]
theorem Zpk (P:PW t){x s:Nat}(J:x<t.length)(j:s<t.length):tb t x s=0↔x=0:=by
 have M:=P.n1;constructor
 ·intro h
  have q:=VS P J j;rw[h,P.oneR _ (Yo P j).1,ZaL P j] at q;exact q.symm
 ·rintro rfl
  exact Xc P j
theorem Zhv (P:PW t){a s:Nat}(q:a<t.length)(J:s<t.length):Jd t (tb t a s)=Jd t a:=by
 unfold Jd;have j:(fun r=>it t (tb t a s) (r+1) == 0)=fun r=>it t a (r+1) == 0:=funext fun r=>?_
 ·rw[j]
 have h:=Ze3 P q J (r+1);have M:=Zpk P (YW P q (r+1)) J;rw[h];cases O:(it t a (r+1) == 0) with
 |true=>
  have:it t a (r+1)=0:=by simpa using O
  simpa using M.mpr this
 |false=>
  have:it t a (r+1)≠0:=by simpa using O
  have:tb t (it t a (r+1)) s≠0:=fun z=>this (M.mp z);simpa using this
end
end Tb
namespace C51
open PySem L2 PySem.Spec PyProof.Rows
open Tb Pm
theorem Zis {j:List (List Nat)}{a q:Nat}(M:(j.getD q []).contains a=true)(O:∀k,k<j.length->(j.getD k []).contains a=true->k=q):∀m,m<=j.length->q<m->U5 j m a=q
 |0,_,h=>by omega
 |m+1,hm,h=>by
  unfold U5;split
  ·rename_i J
   exact O m (by omega) J
  ·rename_i J
   refine Zis M O m (by omega) ?_;by_cases e:q=m
   ·subst e;exact absurd M J
   ·omega
theorem ZiP {t:List (List Nat)}(Y:PW t){a:Nat}(ha:a<t.length):∃j,j<(ZD t t.length).length/\((ZD t t.length).getD j []).contains a=true/\∀k,k<(ZD t t.length).length->((ZD t t.length).getD k []).contains a=true->k=j:=by
 have h:=Jv Y t.length (Zq _) a ha;unfold Yt at h;obtain⟨c,hc,q⟩:=aY.mp h;obtain⟨j,J⟩:=bN hc;have hl:=(ae.mp J).1;have e:(ZD t t.length).getD j []=c:=by rw[Zb,J];rfl
 refine⟨j,hl,by rw[e];exact q,fun k M O=>?_⟩;have e2:(ZD t t.length)[k]?=some ((ZD t t.length).getD k []):=by rw[Zb,Zf M];rfl
 exact X7 Y t.length (Zq _) k j _ c a e2 J (aB.mp O) (aB.mp q)
noncomputable abbrev Zew:Stmt:=top 11
noncomputable def JY (t:List (List Nat))(a:Nat):Nat:=U5 (ZD t t.length) (ZD t t.length).length a
theorem Vi {t:List (List Nat)}(M:PW t){a:Nat}(O:a<t.length):JY t a<(ZD t t.length).length/\a∈(ZD t t.length).getD (JY t a) []/\∀k,k<(ZD t t.length).length->a∈(ZD t t.length).getD k []->k=JY t a:=by
 obtain⟨Y,j,q,J⟩:=ZiP M O;have e:JY t a=Y:=Zis q J _ (Zq _) j;rw[e];exact⟨j,aB.mp q,fun k hk hm=>J k hk (aB.mpr hm)⟩
theorem Zjz {t:List (List Nat)}(J:PW t){k a:Nat}(Y:k<(ZD t t.length).length)(M:a∈(ZD t t.length).getD k []):a<t.length/\JY t a=k/\∀x,x∈(ZD t t.length).getD k []↔x∈Z2 t a:=by
 obtain⟨b,hb,e⟩:=Jc J t.length (Zq _) _ (Zez Y);rw[e] at M ⊢;have q:=Vr M;refine⟨q,((Vi J q).2.2 k Y (by rw[e];exact M)).symm,fun x=>⟨fun O=>?_,fun O=>?_⟩⟩
 ·have j:=Vr O
  exact YS J q j (YS J q hb (Y1 J q) M) (YS J j hb (Y1 J j) O)
 ·have j:=Vr O
  exact YS J hb j M (YS J j q (Y1 J j) O)
theorem Zhm {t:List (List Nat)}(j:PW t){k:Nat}(J:k<(ZD t t.length).length):∃a r,(ZD t t.length).getD k []=a::r:=by
 obtain⟨b,hb,e⟩:=Jc j t.length (Zq _) _ (Zez J);have q:=Y1 j hb;rw[e];cases h:Z2 t b with
 |nil=>rw[h] at q;cases q
 |cons a r=>exact⟨a,r,rfl⟩
end C51
namespace C51
open PySem L2 PySem.Spec PyProof.Rows
open Tb
open Pm
theorem Ziv {X:Cx}:Zm9 X (fun x y H Q=>∃(p:Addr) (xs:List V) (i:Nat) (v:V),x=.ref p/\y=.int i/\H p=some (.lst xs)/\xs[i]?=some v/\Q v H):=by
 intro J s σ H x y O iv Q I Y ry h;obtain⟨p,xs,i,v,rfl,rfl,hp,M,q⟩:=h;cases (show O=aC p from Y);obtain⟨t,rfl⟩:=ry;obtain⟨m5,r,pl,hz⟩:=I.list (.of hp);obtain⟨w,ew,j⟩:=r.get M;have hl:=r.length;have hn:=XE;have hi:i<xs.length:=(ae.mp M).1;exact wpAny_getItem_list pl.isList (dE _) (by omega) (by simpa using ew) ⟨v,H,I,j,q⟩
theorem Wg {W:Type}(m8:W->Addr)(Pr:Nat->W->Hp->Prop)(Y:W->Hp->Prop){J:It}{own:List Str}{m6:List Nat}{te:TE}{σ:L2.St}{H:Hp}{Q:VK}{xs:List V}(S:WB J H xs)(cs:L2.St)(n9:JP own m6 σ=none::cs)(hn:xs.length<=1000)
  (mono:∀i w H q,Zv H q->Pr i w H->Pr i w q) (n8:∀w H q,Zv H q->Y w q->Y w H) (hu:∀i w H0 H1 D o ys o0,Pr i w H1->Y w H0->H0 D=some (.lst o)->H1 D=some (.lst ys)->Pr i w (upd H1 D (.lst o0)))
  (hs:∀(i:Nat) y,xs[i]?=some y->∀q,Zv H q->∀R:VK,(∀w H5,Zv q H5->Pr i w H5->Y w q->R (.ref (m8 w)) H5)->te (some y::cs) q R)
  (hd:∀D (M:List W) q,H D=none->Zv H q->q D=some (.lst (M.map fun w=>V.ref (m8 w)))->M.length=xs.length->(∀(i:Nat) w,M[i]?=some w->Pr i w q/\Y w H)->(∀(i j:Nat) w w',i<j->M[i]?=some w->M[j]?=some w'->∃Hm,Pr i w Hm/\Y w' Hm)->Q (.ref D) q):W1 own m6 (Yg 0) WE te σ Q J H:=by
 refine UO (xs:=xs) (fun D i ys q=>Zv H q/\∃M:List W,ys=M.map (fun w=>V.ref (m8 w))/\M.length=i/\(∀(i:Nat) w,M[i]?=some w->Pr i w q/\Y w H/\∃H0 o,H0 D=some (.lst o)/\Y w H0)/\(∀(i j:Nat) w w',i<j->M[i]?=some w->M[j]?=some w'->∃Hm,Pr i w Hm/\Y w' Hm)) cs n9 (by omega) ?_ ?_ ?_ ?_
 ·intro D i ys q hD O p
  have S':=S.mono p.1;exact⟨fun hi=>⟨S'.go i q (Zv.refl _) hi,fun x H3 y=>S'.yld i q x H3 (Zv.refl _) hi y⟩,fun e=>e▸S'.stop q (Zv.refl _)⟩
 ·intro D hD
  exact⟨Zv.upd hD,[],rfl,rfl,(fun i w hw=>by cases hw),(fun i j w w' _ h=>by cases h)⟩
 ·rintro D i y ys q hD O hy ⟨sm,M,rfl,wl,hw,hp⟩ R k
  refine hs i y hy q sm R fun w H5 s5 p5 n5=>?_;have n6:=s5 _ _ O;have lst:∀(b:Nat) v,(M++[w])[b]?=some v->(b<M.length/\M[b]?=some v)\/(b=M.length/\v=w):=fun b v hb=>by
   by_cases m5:b<M.length
   ·rw[au m5] at hb
    exact .inl ⟨m5,hb⟩
   ·rw[aw (by omega)] at hb
    have o5:b-M.length=0:=by
     apply ah;intro z;rw[ak (by rw[Zk];omega)] at hb;cases hb
    rw[o5] at hb;cases hb;exact .inr ⟨by omega,rfl⟩
  refine k _ H5 n6 ⟨(sm.trans s5).updr hD,M++[w],by rw[aR];rfl,by rw[Zd,wl];rfl,fun b v hv=>?_,fun a b v v' o6 ha hb=>?_⟩
  ·rcases lst b v hv with ⟨_,hv⟩|⟨hb,hv⟩
   ·obtain⟨h1,h2,H0,o,h3,h4⟩:=hw b v hv
    exact⟨hu b v H0 H5 D o _ _ (mono b v _ _ s5 h1) h4 h3 n6,h2,H0,o,h3,h4⟩
   ·subst hv
    subst hb;rw[<-wl] at p5;exact⟨hu _ v q H5 D _ _ _ p5 n5 O n6,n8 v _ _ sm n5,q,_,O,n5⟩
  ·rcases lst b v' hb with ⟨m5,hb⟩|⟨m5,hb⟩
   ·rw[au (by omega)] at ha
    exact hp a b v v' o6 ha hb
   ·subst hb
    rw[au (by omega)] at ha;exact⟨q,(hw a v ha).1,n5⟩
 ·rintro D ys H5 hD O o7 ⟨sm,M,rfl,wl,hw,hp⟩
  exact hd D M H5 hD sm O wl (fun i w h=>⟨(hw i w h).1,(hw i w h).2.1⟩) hp
structure N3 (Hb H:Hp)(L:Addr)(m:Nat)(A:Nat->Addr)(B:Nat->Nat->Addr)(f:Nat->Nat->Nat->Nat):Prop where
 sm:Zv Hb H
 m1:1<=m
 top:H L=some (.lst ((ac m).map fun i=>V.ref (A i)))
 mid:∀i,i<m->H (A i)=some (.lst ((ac m).map fun j=>V.ref (B i j)))
 low:∀i j,i<m->j<m->H (B i j)=some (.lst ((Yn m (f i j)).map nV))
 inj:∀i j i' j',i<m->j<m->i'<m->j'<m->B i j=B i' j'->i=i'/\j=j'
 nw:∀i j,i<m->j<m->Hb (B i j)=none
section
variable {Hb H H':Hp}{L:Addr}{m:Nat}{A:Nat->Addr}{B:Nat->Nat->Addr}{f:Nat->Nat->Nat->Nat}
theorem N3.mono (N:N3 Hb H L m A B f)(s:Zv H H'):N3 Hb H' L m A B f:=⟨N.sm.trans s,N.m1,s _ _ N.top,fun i q=>s _ _ (N.mid i q),fun i j q J=>s _ _ (N.low i j q J),N.inj,N.nw⟩
theorem ZeE {m:Nat}(q:1<=m){a:Nat->Addr}{f:Nat->Nat}:(HO.lst ((ac m).map fun i=>V.ref (a i)))≠.lst ((Yn m f).map nV):=fun z=>by
 injection z with z;have:=congrArg (fun j:List V=>j[0]?) z;unfold Yn at this;rw[Zc,Zc,Zc,ao (show 0<m by omega)] at this;cases this
theorem N3.put (N:N3 Hb H L m A B f){i j k v:Nat}(hi:i<m)(hj:j<m)(hk:k<m):N3 Hb (upd H (B i j) (.lst (((Yn m (f i j)).map nV).set k (nV v)))) L m A B (fun q M O=>if q=i/\M=j/\O=k then v else f q M O):=by
 have nL:L≠B i j:=Zh8 N.top (N.low i j hi hj) (ZeE N.m1);have nA:∀q,q<m->A q≠B i j:=fun q J=>Zh8 (N.mid q J) (N.low i j hi hj) (ZeE N.m1);refine⟨N.sm.updr (N.nw i j hi hj),N.m1,by rw[Zz nL];exact N.top,fun q J=>by rw[Zz (nA q J)];exact N.mid q J,fun q M J Y=>?_,N.inj,N.nw⟩;by_cases e:q=i/\M=j
 ·obtain⟨rfl,rfl⟩:=e
  rw[Zt,Zcq _ hk];have:(Yn m fun b=>if b=k then v else f q M b)=Yn m fun O=>if q=q/\M=M/\O=k then v else f q M O:=Wn fun b _=>by
   by_cases h:b=k
   ·rw[if_pos h,if_pos ⟨rfl,rfl,h⟩]
   ·rw[if_neg h,if_neg (fun z=>h z.2.2)]
  rw[this]
 ·rw[Zz fun z=>e (N.inj q M i j J Y hi hj z),N.low q M J Y]
  have:(Yn m (f q M))=Yn m fun O=>if q=i/\M=j/\O=k then v else f q M O:=Wn fun b _=>by rw[if_neg (fun z=>e ⟨z.1,z.2.1⟩)]
  rw[<-this]
theorem N3.congr (N:N3 Hb H L m A B f){g:Nat->Nat->Nat->Nat}(h:∀i j k,i<m->j<m->k<m->f i j k=g i j k):N3 Hb H L m A B g:=⟨N.sm,N.m1,N.top,N.mid,fun i j q J=>by rw[N.low i j q J,Wn fun k M=>h i j k q J M],N.inj,N.nw⟩
end
noncomputable def ZkX (m:Nat)(b:Addr)(H:Hp):Prop:=H b=some (.lst ((Yn m fun _=>0).map nV))
structure Znb (m:Nat)(w:Addr×List Addr)(H:Hp):Prop where
 top:H w.1=some (.lst (w.2.map V.ref))
 len:w.2.length=m
 low:∀b∈w.2,ZkX m b H
 nd:∀(i j:Nat) b b',i<j->w.2[i]?=some b->w.2[j]?=some b'->b≠b'
noncomputable def NwM (w:Addr×List Addr)(H:Hp):Prop:=H w.1=none/\∀b∈w.2,H b=none
theorem Zgi {m:Nat}{J:It}{own:List Str}{M:List Nat}{te:TE}{σ:L2.St}{H:Hp}{Q:VK}{xs:List V}(S:WB J H xs)(Y:L2.St)(m5:JP own M σ=none::Y)(hn:xs.length<=1000)(hm:xs.length=m)
  (hs:∀(i:Nat) y,xs[i]?=some y->∀q,Zv H q->∀R:VK,(∀b H5,Zv q H5->ZkX m b H5->q b=none->R (.ref b) H5)->te (some y::Y) q R)
  (hd:∀w q,Zv H q->Znb m w q->NwM w H->Q (.ref w.1) q):W1 own M (Yg 0) WE te σ Q J H:=by
 refine Wg (W:=Addr) id (fun _ b H=>ZkX m b H) (fun b H=>H b=none) S Y m5 hn (fun i w H q s h=>s _ _ h) (fun w H q s h=>s.free h) (fun i w H0 H1 D o ys m8 h h0 O _=>?_) (fun i y hy q s R k=>hs i y hy q s R k) (fun D ws q nD s hD wl hw hp=>?_)
 ·have:w≠D:=fun z=>by rw[z,O] at h0;cases h0
  show upd H1 D _ w=_;rw[Zz this];exact h
 ·refine hd (D,ws) q s ⟨hD,by rw[<-hm];exact wl,fun b hb=>?_,fun i j b b' m6 hi hj z=>?_⟩ ⟨nD,fun b hb=>?_⟩
  ·obtain⟨i,hi⟩:=bN hb
   exact (hw i b hi).1
  ·obtain⟨Hm,O,h2⟩:=hp i j b b' m6 hi hj
   have O:Hm b=some _:=O;rw[z,h2] at O;cases O
  ·obtain⟨i,hi⟩:=bN hb
   exact (hw i b hi).2
theorem Zgh {m:Nat}{J:It}{own:List Str}{m8:List Nat}{te:TE}{σ:L2.St}{H:Hp}{Q:VK}{xs:List V}(S:WB J H xs)(cs:L2.St)(n8:JP own m8 σ=none::cs)(hn:xs.length<=1000)(hm:xs.length=m)(m1:1<=m)
  (hs:∀(i:Nat) y,xs[i]?=some y->∀H',Zv H H'->∀R:VK,(∀w H5,Zv H' H5->Znb m w H5->NwM w H'->R (.ref w.1) H5)->te (some y::cs) H' R)
  (hd:∀D A B H',H D=none->N3 H H' D m A B (fun _ _ _=>0)->Q (.ref D) H'):W1 own m8 (Yg 0) WE te σ Q J H:=by
 refine Wg (W:=Addr×List Addr) lF (fun _ w H=>Znb m w H) NwM S cs n8 hn (fun i w H H' s h=>⟨s _ _ h.top,h.len,fun b hb=>s _ _ (h.low b hb),h.nd⟩) (fun w H H' s h=>⟨s.free h.1,fun b hb=>s.free (h.2 b hb)⟩) (fun i w H0 H1 D o ys o0 h h0 h1 _=>?_) (fun i y hy H' s R k=>hs i y hy H' s R k) (fun D ws H' nD s hD wl hw hp=>?_)
 ·have n1:w.1≠D:=fun z=>by have:=h0.1;rw[z,h1] at this;cases this
  have n2:∀b∈w.2,b≠D:=fun b hb z=>by have:=h0.2 b hb;rw[z,h1] at this;cases this
  exact⟨by rw[Zz n1];exact h.top,h.len,fun b hb=>by show upd H1 D _ b=_;rw[Zz (n2 b hb)];exact h.low b hb,h.nd⟩
 ·rw[hm] at wl
  have wat:∀i,i<m->ws[i]?=some (ws.getD i (0,[])):=fun i q=>by rw[Zb,Zf (by omega)];rfl
  have O:∀i j,i<m->j<m->(ws.getD i (0,[])).2[j]?=some ((ws.getD i (0,[])).2.getD j 0):=fun i j q Y=>by
   have:=(hw i _ (wat i q)).1.len;rw[Zb (l:=(ws.getD i (0,[])).2),Zf (by omega)];rfl
  refine hd D (fun i=>(ws.getD i (0,[])).1) (fun i j=>(ws.getD i (0,[])).2.getD j 0) H' nD ⟨s,m1,?_,fun i q=>?_,fun i j q Y=>?_,fun i j i' j' q Y m6 m5 z=>?_,fun i j q Y=>?_⟩
  ·rw[hD]
   congr 2;refine bq fun i=>?_;rw[Zc,Zc];by_cases q:i<m
   ·rw[wat i q,ao q]
    rfl
   ·rw[ak (by omega),ak (by rw[Zg];omega)]
    rfl
  ·have M:=(hw i _ (wat i q)).1
   have ml:=M.len;rw[M.top];congr 2;refine bq fun j=>?_;rw[Zc,Zc];by_cases Y:j<m
   ·rw[O i j q Y,ao Y]
    rfl
   ·rw[ak (by omega),ak (by rw[Zg];omega)]
    rfl
  ·exact (hw i _ (wat i q)).1.low _ (aE (O i j q Y))
  ·have n6:∀i j i' j',i<m->j<m->i'<m->j'<m->i<i'->(ws.getD i (0,[])).2.getD j 0≠(ws.getD i' (0,[])).2.getD j' 0:=fun i j i' j' q Y m6 m5 n9 z=>by
    obtain⟨Hm,h1,h2⟩:=hp i i' _ _ n9 (wat i q) (wat i' m6);have a1:=h1.low _ (aE (O i j q Y));have a2:=h2.2 _ (aE (O i' j' m6 m5));unfold ZkX at a1;rw[z,a2] at a1;cases a1
   have ei:i=i':=by
    rcases mN i i' with h|h|h
    ·exact absurd z (n6 i j i' j' q Y m6 m5 h)
    ·exact h
    ·exact absurd z.symm (n6 i' j' i j m6 m5 q Y h)
   subst ei;refine⟨rfl,?_⟩;have nd:=(hw i _ (wat i q)).1.nd;rcases mN j j' with h|h|h
   ·exact absurd z (nd j j' _ _ h (O i j q Y) (O i j' q m5))
   ·exact h
   ·exact absurd z.symm (nd j' j _ _ h (O i j' q m5) (O i j q Y))
  ·exact (hw i _ (wat i q)).2.2 _ (aE (O i j q Y))
noncomputable def C3 (H:Hp)(r:Addr)(m:Nat)(F:Nat->Nat->Nat->Nat):Prop:=∃cs:List Addr,H r=some (.tup (cs.map V.ref))/\cs.length=m/\∀(i:Nat) c,cs[i]?=some c->CT H c ((ac m).map fun j=>Yn m (F i j))
noncomputable def PrT (m:Nat)(F:Nat->Nat->Nat)(w:Addr×List Addr)(H:Hp):Prop:=H w.1=some (.tup (w.2.map V.ref))/\w.2.length=m/\∀(j:Nat) r,w.2[j]?=some r->H r=some (.tup ((Yn m (F j)).map nV))
theorem PrT.mono {m:Nat}{F:Nat->Nat->Nat}{w:Addr×List Addr}{H q:Hp}(h:PrT m F w H)(s:Zv H q):PrT m F w q:=⟨s _ _ h.1,h.2.1,fun j r J=>s _ _ (h.2.2 j r J)⟩
theorem PrT.upd {m:Nat}{F:Nat->Nat->Nat}{w:Addr×List Addr}{H:Hp}{D:Addr}{ys:List V}{o:HO}(h:PrT m F w H)(q:H D=some (.lst ys)):PrT m F w (upd H D o):=
 ⟨by rw[Zz fun z=>by have:=h.1;rw[z,q] at this;cases this];exact h.1,h.2.1,fun j r J=>by rw[Zz fun z=>by have:=h.2.2 j r J;rw[z,q] at this;cases this];exact h.2.2 j r J⟩
theorem PrT.ct {m:Nat}{F:Nat->Nat->Nat}{w:Addr×List Addr}{H:Hp}(h:PrT m F w H):CT H w.1 ((ac m).map fun j=>Yn m (F j)):=by
 refine⟨w.2,h.1,by rw[Za,Zg];exact h.2.1,fun i r q=>?_⟩;have J:i<m:=by rw[<-h.2.1];exact (ae.mp q).1
 rw[h.2.2 i r q,Zb,Zc,ao J];rfl
theorem Zgg {m:Nat}{F:Nat->Nat->Nat}{J:It}{own:List Str}{M:List Nat}{te:TE}{σ:L2.St}{H:Hp}{Q:VK}{xs:List V}(S:WB J H xs)(cs:L2.St)(m5:JP own M σ=none::cs)(hn:xs.length<=1000)(hm:xs.length=m)
  (hs:∀(i:Nat) y,xs[i]?=some y->∀q,Zv H q->∀R:VK,(∀b O,Zv q O->O b=some (.tup ((Yn m (F i)).map nV))->R (.ref b) O)->te (some y::cs) q R)
  (hd:∀D (rs:List Addr) q,H D=none->Zv H q->q D=some (.lst (rs.map V.ref))->(∀r Y,Y r=some (.tup (rs.map V.ref))->Zv q Y->PrT m F (r,rs) Y)->Q (.ref D) q):W1 own M (Yg 0) WE te σ Q J H:=by
 refine Wg (W:=Addr) id (fun i b H=>H b=some (.tup ((Yn m (F i)).map nV))) (fun _ _=>True) S cs m5 hn (fun i w H q s h=>s _ _ h) (fun w H q s h=>trivial) (fun i w H0 H1 D o ys m6 h h0 h1 h2=>?_) (fun i y hy q s R k=>hs i y hy q s R fun b O s5 h5=>k b O s5 h5 trivial) (fun D ws q nD s hD wl hw hp=>?_)
 ·rw[Zz fun z=>by rw[z,h2] at h;cases h]
  exact h
 ·exact hd D ws q nD s hD fun r Y hr s2=>⟨hr,by rw[<-hm];exact wl,fun j b hb=>s2 _ _ (hw j b hb).1⟩
theorem ZkL {m:Nat}{F:Nat->Nat->Nat->Nat}{J:It}{own:List Str}{q:List Nat}{te:TE}{σ:L2.St}{H:Hp}{Q:VK}{xs:List V}(S:WB J H xs)(cs:L2.St)(m5:JP own q σ=none::cs)(hn:xs.length<=1000)(hm:xs.length=m)
  (hs:∀(i:Nat) y,xs[i]?=some y->∀j,Zv H j->∀R:VK,(∀w M,Zv j M->PrT m (F i) w M->R (.ref w.1) M)->te (some y::cs) j R)
  (hd:∀D (ys:List V) j,H D=none->Zv H j->j D=some (.lst ys)->(∀r Y,Y r=some (.tup ys)->Zv j Y->C3 Y r m F)->Q (.ref D) j):W1 own q (Yg 0) WE te σ Q J H:=by
 refine Wg (W:=Addr×List Addr) lF (fun i w H=>PrT m (F i) w H) (fun _ _=>True) S cs m5 hn (fun i w H j s h=>h.mono s) (fun w H j s h=>trivial) (fun i w H0 H1 D o ys m6 h h0 h1 h2=>h.upd h2) (fun i y hy j s R k=>hs i y hy j s R fun b M s5 h5=>k b M s5 h5 trivial) (fun D ws j nD s hD wl hw hp=>?_);refine hd D _ j nD s hD fun r Y hr s2=>⟨ws.map lF,by rw[hr,aP];rfl,by rw[Za,<-hm];exact wl,fun i c O=>?_⟩;rw[Zc] at O;cases hx:ws[i]? with
 |none=>rw[hx] at O;cases O
 |some w=>
  rw[hx] at O;cases O;exact ((hw i w hx).1.mono s2).ct
noncomputable def one (q:Nat->Nat)(C:Nat->Nat->Nat->Bool)(i j k x y:Nat):Nat:=Xu (decide (q x=i))*(Xu (decide (q y=j))*Xu (C x y k))
noncomputable def ZH (n:Nat)(q:Nat->Nat)(C:Nat->Nat->Nat->Bool)(X Y i j k:Nat):Nat:=sm X (fun x=>sm n fun y=>one q C i j k x y)+sm Y fun y=>one q C i j k X y
theorem acc_zero (n:Nat)(q:Nat->Nat)(C:Nat->Nat->Nat->Bool)(i j k:Nat):ZH n q C 0 0 i j k=0:=rfl
theorem ZkT (n:Nat)(q:Nat->Nat)(C:Nat->Nat->Nat->Bool)(X i j k:Nat):ZH n q C X n i j k=ZH n q C (X+1) 0 i j k:=by
 unfold ZH;rw[Y3];rfl
theorem acc_step (n:Nat)(q:Nat->Nat)(C:Nat->Nat->Nat->Bool)(X Y i j k:Nat):ZH n q C X (Y+1) i j k=ZH n q C X Y i j k+one q C i j k X Y:=by
 unfold ZH;rw[Y3];omega
noncomputable def hdT (t:List (List Nat))(k:Nat):Nat:=((ZD t t.length).getD k []).getD 0 0
theorem ZbF {t:List (List Nat)}(j:PW t){k:Nat}(q:k<(ZD t t.length).length):hdT t k<t.length/\JY t (hdT t k)=k/\((ZD t t.length).getD k [])[0]?=some (hdT t k):=by
 obtain⟨a,r,e⟩:=Zhm j q;have J:hdT t k=a:=by unfold hdT;rw[e];rfl
 have h:=Zjz j q (by rw[e];exact ax);rw[J,e];exact⟨h.1,h.2.1,rfl⟩
noncomputable def Cg (t:List (List Nat))(x y k:Nat):Bool:=decide (ZT t x y=hdT t k)
noncomputable def cnG (t:List (List Nat)):Nat->Nat->Nat->Nat:=ZH t.length (JY t) (Cg t) t.length 0
theorem ZhR (q:Nat->Nat)(C:Nat->Nat->Nat->Bool)(i j k x y:Nat):one q C i j k x y=if i=q x/\j=q y/\C x y k=true then 1 else 0:=by
 unfold one;by_cases J:q x=i
 ·rw[decide_eq_true J]
  by_cases M:q y=j
  ·rw[decide_eq_true M]
   cases O:C x y k with
   |true=>rw[if_pos ⟨J.symm,M.symm,rfl⟩];rfl
   |false=>rw[if_neg (fun z=>by cases z.2.2)];rfl
  ·rw[decide_eq_false M,if_neg (fun z=>M z.2.1.symm)]
   show 1*(0*_)=0;omega
 ·rw[decide_eq_false J,if_neg (fun z=>J z.1.symm)]
  show 0*_=0;omega
inductive Uj (vs:List V) (H:Hp) (Q:VK) (E03:XK):Prop
 |mk (g:Addr) (t:List (List Nat)):(vs=[.ref g])->(GT H g t)->(PW t)->(∀r H',Zv H H'->C3 H' r (ZD t t.length).length (cnG t)->Q (.ref r) H')->Uj vs H Q E03
section
variable {P:Program}{w:World}{K:aa}{mg:Str->Option Value}{base:Heap}
theorem ZfT {f:Addr}{fd:FuncData}(F:WI K "counts_of" "counts_of" Zew f fd)(T:Bl mg)(T2:Zgw mg)(GC:Fn P w K mg base Ym 4 "classes_of" ["group"] Jp)(GN:Fn P w K mg base Ym 5 "class_numbers" ["group"] ZaX):Ya P w K mg base Ym 6 f fd ["group"] Uj:=by
 refine F.ok (FS (N:=["group", "classes", "numbers", "counts", "x", "row", "y", "z", "k"])) (fun vs H Q E h=>?_) (fun r6 A o5 s H vs Q E hr h=>?_)
 ·obtain⟨g,t,rfl,_⟩:=h;rfl
 ·obtain⟨g,t,rfl,G,O,q⟩:=h
  refine⟨_,Zs (ZE 1 rfl (Wr GC hr ZL (pc (vn 0) Zu)))
   (Zs (ZE 2 rfl (Wr GN hr ZL (pc (vn 0) Zu)))
   (Zs (ZfC 3 ["i"] [1] ["i", "classes"] rfl rfl (itT K (vn 1)) (fun _ _ _ _ _=>gn 0) (fun _ _ _ _ _=>Z0)
    (fun _ _ _ _ _=>cmp ["j"] [1] ["j", "classes"] rfl (itT K (vn 1)) (fun _ _ _ _ _=>gn 0) (fun _ _ _ _ _=>Z0)
     (fun _ _ _ _ _=>Zy WD (ZQ (pc Zx Zu)) (cb (Yx K) (by exact T.len) (pc (vn 1) Zu)))))
   (Zs (ZM am rfl (UJ K T2.enumerate (pc (vn 0) Zu)) (g2 K 4 5 rfl (gn 4) (gn 5))
    (Zw (ZM am rfl (UJ K T2.enumerate (pc (vn 5) Zu)) (g2 K 6 7 rfl (gn 6) (gn 7))
     (Zs (ZE 8 rfl (ZF (Xt K) (vn 2) (vn 7) (fun _ _=>rfl)))
     (Zw (WF (ZS VE (ZF (Xt K) (ZF (Xt K) (vn 1) (vn 8) (fun _ _=>rfl)) Zx (fun _ _=>rfl)) (vn 7) (ZY _))
      (Zw (VX (ZF (Ji K) (ZF (Ji K) (vn 3) (ZF (Xt K) (vn 2) (vn 4) (fun _ _=>rfl)) (fun _ _=>rfl)) (ZF (Xt K) (vn 2) (vn 6) (fun _ _=>rfl)) (fun _ _=>rfl)) (vn 8) Ziv Zx Jj YB)) Yy))))))
   (Zw (ZJ (ct ZX T.tuple (pc (cmp ["seconds"] [] ["seconds"] rfl (itL K (vn 3)) (fun _ _ _ _ _=>gn 0) (fun _ _ _ _ _=>Z0)
    (fun _ _ _ _ _=>ct (tupK K) (by exact T.tuple) (pc (cmp ["ends"] [] ["ends"] rfl (itL K (vn 0)) (fun _ _ _ _ _=>gn 0) (fun _ _ _ _ _=>Z0)
     (fun _ _ _ _ _=>ct (tupK K) (by exact T.tuple) (pc (vn 0) Zu))) Zu))) Zu))))))),?_⟩
  have sz:(16777216:Nat)=sizeLine:=by decide
  have r8:=O.n60;have ul:=W0 (t:=t) t.length;have m1:1<=(ZD t t.length).length:=by
   have:=(Vi O (show 0<t.length from O.n1)).1;omega
  refine⟨_,rfl,g,t,rfl,G,O,fun c H1 s1 C1=>?_⟩;refine⟨_,rfl,g,t,rfl,G.mono s1,O,fun r0 H2 s2 m5=>?_⟩;have C2:=C1.mono s2;obtain⟨rs,c1,c2,c3⟩:=C2.row;have cl:(rs.map V.ref).length=(ZD t t.length).length:=by rw[Za,c2]
  replace m5:H2 r0=some (.tup ((Yn t.length (JY t)).map nV)):=m5;generalize hm:(ZD t t.length).length=m at *;refine⟨_,rfl,c,rfl,⟨_,.of c1⟩,?_⟩;refine Zgh (Wq (K:=K) (.of c1)) [some (.ref c)] rfl (by omega) cl m1 (fun i y hy H3 s3 R k=>?_) (fun L A B H3 nL N=>?_)
  ·have m6:=s3 _ _ c1
   refine⟨_,rfl,c,rfl,⟨_,.of m6⟩,?_⟩;refine Zgi (Wq (K:=K) (.of m6)) [some (.ref c)] rfl (by omega) cl (fun j y' n6 H4 s4 R' k'=>?_) (fun w' H4 s4 M o6=>k w' H4 s4 M o6);refine⟨(by show 1<=sizeLine;decide),fun l0 o7=>?_⟩;have s5:=Zv.upd (H:=H4) (o:=.lst [.int 0]) o7;refine⟨_,rfl,c,_,rfl,.inr (.of (s5 _ _ (s4 _ _ m6))),l0,_,_,rfl,rfl,Zt,by rw[cl];omega,by rw[cl];omega,by rw[cl];show 1*((m:Int)).toNat<=sizeLine;omega,fun b nb=>?_⟩;rw[cl,Zj];have e0:(av m [V.int 0]).flatten=(Yn m fun _=>0).map nV:=by
    unfold Yn;rw[aP];have:∀m k,(av m [V.int 0]).flatten=(dw k m).map fun _=>nV 0:=fun m=>by
     induction m with
     |zero=>intro k;rfl
     |succ m ih=>intro k;rw[a6,cg,ih (k+1),eA,aV];rfl
    rw[this m 0,<-dZ];rfl
   rw[e0];exact k' b _ (s5.trans (Zv.upd nb)) Zt (s5.free nb)
  have G2:=G.mono (s1.trans s2);obtain⟨gs,u1,u2,u3⟩:=id G2;have el:(gs.map V.ref).length=t.length:=by rw[Za,u2]
  refine⟨_,rfl,g,rfl,.inr ⟨⟨_,.of (N.sm _ _ u1)⟩,?_⟩⟩;refine WX (ZbL (K:=K) (xs:=gs.map V.ref)) (fun X J H'=>∃v4 v5 v6 v7 v8:Option V,J=[some (.ref g),some (.ref c),some (.ref r0),some (.ref L),v4,v5,v6,v7,v8]/\N3 H2 H' L m A B (ZH t.length (JY t) (Cg t) X 0))
   ⟨_,_,_,_,_,rfl,N.congr fun i j k _ _ _=>(acc_zero _ _ _ _ _ _).symm⟩ (fun i J H' h=>by
    obtain⟨_,_,_,_,_,_,N'⟩:=h;exact N'.sm.tup (.of u1)) ?_ ?_
  ·rintro X y J H4 T' hy ⟨v4,v5,v6,v7,v8,rfl,N4⟩ nT
   have hX:X<t.length:=by
    have:=(ae.mp hy).1;rw[el] at this;exact this
   have n8:gs[X]?=some (gs[X]'(by omega)):=Zf (by omega);rw[Zc,n8] at hy;cases hy;have row:=u3 X _ n8;generalize gs[X]'(by omega)=r at row;have s5:=Zv.upd (H:=H4) (o:=.tup [.int (X:Nat),.ref r]) nT;refine⟨T',_,rfl,.of Zt,rfl,_,_,rfl,_,_,rfl,rfl,?_⟩;have N5:=N4.mono s5;generalize upd H4 T' (.tup [.int (X:Nat),.ref r])=H5 at s5 N5 ⊢;refine⟨_,rfl,r,rfl,.inr ⟨⟨_,(row.mono N5.sm).sq⟩,?_⟩⟩;refine WX (ZbL (K:=K) (xs:=(t.getD X []).map nV)) (fun Y J H'=>∃v6 v7 v8:Option V,J=[some (.ref g),some (.ref c),some (.ref r0),some (.ref L),some (.int (X:Nat)),some (.ref r),v6,v7,v8]/\N3 H2 H' L m A B (ZH t.length (JY t) (Cg t) X Y))
    ⟨_,_,_,rfl,N5⟩ (fun i J H' h=>by
     obtain⟨_,_,_,_,N'⟩:=h;exact (row.mono N'.sm).sq) ?_ ?_
   ·rintro Y y J H6 n9 hy ⟨o8,o9,p3,rfl,N6⟩ p4
    have hY:Y<t.length:=by
     have:=(ae.mp hy).1;rw[Za,XZ O hX] at this;exact this
    rw[Vg O hX hY] at hy;cases hy;have s7:=Zv.upd (H:=H6) (o:=.tup [.int (Y:Nat),.int (ZT t X Y:Nat)]) p4;refine⟨n9,_,rfl,.of Zt,rfl,_,_,rfl,_,_,rfl,rfl,?_⟩;have N7:=N6.mono s7;generalize upd H6 n9 (.tup [.int (Y:Nat),.int (ZT t X Y:Nat)])=H7 at s7 N7 ⊢;have hz:ZT t X Y<t.length:=O.lt _ _ hX hY;obtain⟨kz,t5,p6⟩:=Vi O hz;rw[hm] at kz p6;have kX:=(Vi O hX).1;have kY:=(Vi O hY).1;rw[hm] at kX kY;have m8:=N7.sm _ _ m5;have p7:=N7.sm _ _ c1;obtain⟨h1,h2,h3⟩:=ZbF O (by rw[hm];exact kz);have o0:JY t (ZT t X Y)<(rs.map V.ref).length:=by omega
    obtain⟨rk,e1,_,e2⟩:=c3 _ _ (Zf o0);have p8:Vd (rs.map V.ref) (JY t (ZT t X Y):Int)=some (.ref rk):=ZK (by rw[Zf o0,e1]);refine⟨_,rfl,_,rfl,r0,_,_,_,rfl,rfl,.of m8,Zbf hz,?_⟩;refine⟨_,rfl,_,rfl,c,_,_,_,rfl,rfl,.of p7,p8,rk,_,_,_,rfl,rfl,.of (N7.sm _ _ e2),ZK (j:=0) (by rw[Zc,h3];rfl),_,rfl,rfl,_,rfl,?_⟩;refine YG (fun h=>?_) (fun h=>?_)
    ·have he:hdT t (JY t (ZT t X Y))=ZT t X Y:=by
      have h:V.int (hdT t (JY t (ZT t X Y)):Nat)=V.int (ZT t X Y:Nat):=of_decide_eq_true h;injection h with h;omega
     refine⟨_,rfl,_,rfl,_,rfl,r0,_,_,_,rfl,rfl,.of m8,Zbf hX,L,_,_,_,rfl,rfl,.of N7.top,Zct kX,_,rfl,_,rfl,r0,_,_,_,rfl,rfl,.of m8,Zbf hY,A (JY t X),_,_,_,rfl,rfl,.of (N7.mid _ kX),Zct kY,_,rfl,B (JY t X) (JY t Y),_,JY t (ZT t X Y),_,rfl,rfl,N7.low _ _ kX kY,Zia kz,_,_,rfl,rfl,B (JY t X) (JY t Y),_,_,JY t (ZT t X Y),rfl,rfl,N7.low _ _ kX kY,WA (by rw[Za,Zcr];exact kz),?_⟩;refine⟨_,_,_,rfl,(N7.put (v:=ZH t.length (JY t) (Cg t) X Y (JY t X) (JY t Y) (JY t (ZT t X Y))+1) kX kY kz).congr fun i j k hi hj hk=>?_⟩;rw[acc_step,ZhR];by_cases e:i=JY t X/\j=JY t Y/\k=JY t (ZT t X Y)
     ·obtain⟨rfl,rfl,rfl⟩:=e
      rw[if_pos ⟨rfl,rfl,rfl⟩,if_pos ⟨rfl,rfl,decide_eq_true he.symm⟩]
     ·rw[if_neg e,if_neg,fz]
      rintro⟨z1,z2,z3⟩;have z3:ZT t X Y=hdT t k:=of_decide_eq_true z3;refine e ⟨z1,z2,?_⟩;rw[z3];exact (ZbF O (by rw[hm];exact hk)).2.1.symm
    ·have he:hdT t (JY t (ZT t X Y))≠ZT t X Y:=fun z=>h (by rw[z];exact decide_eq_true rfl)
     refine⟨_,_,_,rfl,N7.congr fun i j k hi hj hk=>?_⟩;rw[acc_step,ZhR,if_neg,fz];rintro⟨z1,z2,z3⟩;have z3:ZT t X Y=hdT t k:=of_decide_eq_true z3;have:=(ZbF O (by rw[hm];exact hk)).2.1;rw[<-z3] at this;rw[this] at he;exact he z3.symm
   ·rintro J H6 ⟨o8,o9,p3,rfl,N6⟩
    rw[Za,XZ O hX] at N6;exact⟨_,_,_,_,_,rfl,N6.congr fun i j k _ _ _=>ZkT _ _ _ _ _ _ _⟩
  ·rintro J H4 ⟨v4,v5,v6,v7,v8,rfl,N4⟩
   rw[el] at N4;have tl:((ac m).map fun i=>V.ref (A i)).length=m:=by rw[Za,Zg]
   refine⟨_,rfl,L,rfl,⟨_,.of N4.top⟩,?_⟩;refine ZkL (m:=m) (F:=cnG t) (YV (K:=K) (.of N4.top)) [] rfl (by rw[tl];omega) tl (fun i y hy H5 s5 R k=>?_) (fun D ys H5 nD s5 hD k=>?_)
   ·obtain⟨hi,rfl⟩:=Zcs hy
    have ml:((ac m).map fun j=>V.ref (B i j)).length=m:=by rw[Za,Zg]
    have hA:=s5 _ _ (N4.mid i hi);refine⟨_,rfl,A i,rfl,⟨_,.of hA⟩,?_⟩;refine Zgg (m:=m) (F:=cnG t i) (YV (K:=K) (.of hA)) [] rfl (by rw[ml];omega) ml (fun j y' n6 H6 s6 R' k'=>?_) (fun D q0 H6 nD s6 hD k'=>?_)
    ·obtain⟨hj,rfl⟩:=Zcs n6
     refine⟨_,rfl,B i j,_,rfl,.inl ⟨.of ((s5.trans s6) _ _ (N4.low i j hi hj)),fun b nb=>?_⟩⟩;exact k' b _ (Zv.upd nb) Zt
    ·refine⟨D,_,rfl,.inl ⟨.of hD,fun r nr=>?_⟩⟩
     exact k (r,q0) _ (s6.trans (Zv.upd nr)) (k' r _ Zt (Zv.upd nr))
   ·refine⟨D,_,rfl,.inl ⟨.of hD,fun r nr=>?_⟩⟩
    exact q r _ ((((s1.trans s2).trans N4.sm).trans s5).trans (Zv.upd nr)) (k r _ Zt (Zv.upd nr))
end
end C51
namespace C51
open PySem L2 PySem.Spec PyProof.Rows
open Tb Pm
noncomputable abbrev Zhl:Stmt:=top 24
section
variable {t:List (List Nat)}{p m:Nat}{e ω φ:Nat->Nat->Nat}
theorem Zbp (P:PW t){x:Nat}(j:x<t.length):JY t x=Y6 t x:=by
 obtain⟨q,J,M⟩:=Vi P j;exact (ZbR P j q J).symm
theorem ZmV (P:PW t){i j k:Nat}(M:k<(ZD t t.length).length):cnG t i j k=cnA t (Y6 t) i j (ZO t k):=by
 have q:ZO t k<t.length:=(Y8 P).rl k M;have O:cnG t i j k=cnA t (JY t) i j (ZO t k):=by
  rw[<-Zgk P q];show ZH t.length (JY t) (Cg t) t.length 0 i j k=_;unfold ZH one Cg;rfl
 rw[O];unfold cnA;refine Yz fun x J=>?_;rw[Zbp P J,Zbp P (P.lt _ _ (Yo P J).1 q)]
theorem WH.ext {H:Hp}{a b:Addr}{cs M:List Addr}{Ss Ts:List (Nat->Bool)}(m1:1<=m)(h:WH H a t p m e cs Ss)(g:WH H b t p m e M Ts):WH (upd H a (.lst (cs.map V.ref++M.map V.ref))) a t p m e (cs++M) (Ss++Ts):=by
 have ne:∀{x:Addr}{v:Nat->Int},H x=some (.lst (ZC m v))->x≠a:=fun {x v} q=>Zbq q h.1 (Ur m1).symm;refine⟨by rw[Zt,aR],by rw[Zd,Zd,h.2.1,g.2.1],fun j x q=>?_⟩;by_cases hj:j<cs.length
 ·rw[au hj] at q
  obtain⟨O,Y,J⟩:=h.2.2 j x q;exact⟨O,by rw[au (by rw[<-h.2.1];exact hj)];exact Y,by rw[Zz (ne J)];exact J⟩
 ·rw[aw (by omega)] at q
  obtain⟨O,Y,J⟩:=g.2.2 _ x q;exact⟨O,by rw[aw (by rw[<-h.2.1];omega),<-h.2.1];exact Y,by rw[Zz (ne J)];exact J⟩
end
theorem Zej {t:List (List Nat)}{p m:Nat}{e j q:Nat->Nat->Nat}(C:CD t p m e j q)(J:PW t):[V.int 1]++(av (m-1) [V.int 0]).flatten=ZC m (Vc t p m e (Xo fun _=>true)):=by
 have m1:=C.m1;have M:ZC m (Vc t p m e (Xo fun _=>true))=ZC m (fun c=>if c=0 then 1 else 0):=Wm fun c O=>Zm5 C J O
 rw[M];obtain⟨k,rfl⟩:∃k,m=k+1:=⟨m-1,by omega⟩;unfold ZC;rw[List.range_succ_eq_map,aV,aP,dD];have:∀k a,(av k [V.int 0]).flatten=(dw a k).map fun _=>V.int 0:=fun k=>by
  induction k with
  |zero=>intro a;rfl
  |succ k Y=>intro a;rw[a6,cg,Y (a+1),eA,aV];rfl
 rw[this k 0,<-dZ];rfl
structure Zp4 (H:Hp)(L:Addr)(t:List (List Nat))(m:Nat)(e:Nat->Nat->Nat)(cs:List Addr)(ss:List Nat):Prop where
 at':H L=some (.lst (cs.map V.ref))
 len:cs.length=ss.length
 pm:ss.Perm (ac m)
 it:∀(j:Nat) b,cs[j]?=some b->H b=some (.lst (ZC m fun c=>(EC t e (ss.getD j 0) c:Int)))
inductive Za3 (vs:List V) (H:Hp) (Q:VK) (E03:XK):Prop
 |mk (ra:Addr) (t:List (List Nat)) (p m:Nat) (e ω φ:Nat->Nat->Nat):(vs=[.ref ra,.int p])->(CD t p m e ω φ)->(PW t)->(p<=100000)->(C3 H ra m (cnG t))->(∀L cs ss H',Zv H H'->Zp4 H' L t m e cs ss->Q (.ref L) H')->Za3 vs H Q E03
section
variable {P:Program}{w:World}{K:aa}{mg:Str->Option Value}{base:Heap}
theorem Zh2 {f:Addr}{fd:FuncData}(F:WI K "taken_apart" "taken_apart" Zhl f fd)(T:Bl mg)(GP:Fn P w K mg base Ym 3 "parts_by" ["columns", "one", "p"] ZaW):Ya P w K mg base Ym 4 f fd ["counts", "p"] Za3:=by
 refine F.ok (FS (N:=["counts", "p", "found", "seconds", "columns", "finer", "one"])) (fun vs H Q E h=>?_) (fun t6 A p3 s H vs Q E hr h=>?_)
 ·obtain⟨ra,t,p,m,e,ω,φ,rfl,_⟩:=h;rfl
 ·obtain⟨ra,t,p,m,e,ω,φ,rfl,C,Pt,pl,p4,q⟩:=h
  refine⟨_,Zs (ZE 2 rfl (ZQ (pc (Zy Vh (ZQ (pc Zx Zu)) (Zy WD (ZQ (pc Zx Zu)) (Zy YC (cb (Yx K) T.len (pc (vn 0) Zu)) Zx))) Zu)))
   (Zs (ZM am rfl (itT K (vn 0)) (gnf 3 rfl)
    (Zw (WF (ZS ZeM (cb (Yx K) T.len (pc (vn 2) Zu)) (cb (Yx K) T.len (pc (vn 0) Zu)) (ZY _))
     (Zs (ZfC 4 ["k"] [3] ["k", "seconds"] rfl rfl (JA T.range (pc (cb (Yx K) T.len (pc (vn 0) Zu)) Zu)) (fun _ _ _ _ _=>gnf 0 rfl) (fun _ _ _ _ _=>Z0)
      (fun _ _ _ _ _=>cmp ["ends"] [0] ["ends", "k"] rfl (itT K (vn 1)) (fun _ _ _ _ _=>gn 0) (fun _ _ _ _ _=>Z0) (fun _ _ _ _ _=>ZF (Xt K) (vn 0) (vn 1) (fun _ _=>rfl))))
     (Zs (ZE 5 rfl (ZQ Zu))
     (Zs (ZM am rfl (itL K (vn 2)) (gn 6)
      (Zw (Yu (Wj aK kS PySem.F.type_list_extend Zf0 (vn 5) (pc (Wr GP hr ZL (pc (vn 4) (pc (vn 6) (pc (vn 1) Zu)))) Zu)))))
     (Zw (ZE 2 rfl (vn 5)))))) Yy)))
   (Zw (ZJ (vn 2)))),?_⟩
  have p2:=C.pr.p2;have t7:=ZkO C Pt;have m1:=C.m1;have mc:=C.mc;have sz:(16777216:Nat)=sizeLine:=by decide
  obtain⟨rs,c1,c2,c3⟩:=id p4;have cl:(rs.map V.ref).length=m:=by rw[Za,c2]
  refine⟨(by show 1<=sizeLine;decide),fun a1 p6=>(?_:_)⟩;have s1:=Zv.upd (H:=H) (o:=.lst [.int 1]) p6;have h1:upd H a1 (.lst [.int 1]) a1=some (.lst [.int 1]):=Zt;generalize upd H a1 (.lst [.int 1])=H1 at s1 h1 ⊢;refine⟨(by show 1<=sizeLine;decide),fun a2 p7=>?_⟩;have s2:=Zv.upd (H:=H1) (o:=.lst [.int 0]) p7;have h2:upd H1 a2 (.lst [.int 0]) a2=some (.lst [.int 0]):=Zt;generalize upd H1 a2 (.lst [.int 0])=H2 at s2 h2 ⊢;have n8:=s1.trans s2;refine⟨_,rfl,ra,_,rfl,.inr (.of (n8 _ _ c1)),_,_,rfl,rfl,a2,_,_,rfl,rfl,h2,by rw[cl];omega,by rw[cl];omega,by rw[cl];show 1*((m:Int)-1).toNat<=sizeLine;omega,fun a3 p8=>?_⟩;have et:(((rs.map V.ref).length:Int)-1).toNat=m-1:=by rw[cl];omega
  rw[et];have s3:=Zv.upd (H:=H2) (o:=.lst (av (m-1) [V.int 0]).flatten) p8;have h3:upd H2 a3 (.lst (av (m-1) [V.int 0]).flatten) a3=some (.lst (av (m-1) [V.int 0]).flatten):=Zt;generalize upd H2 a3 (.lst (av (m-1) [V.int 0]).flatten)=H3 at s3 h3 ⊢;have fl:(av (m-1) [V.int 0]).flatten.length<=60:=by
   have:=congrArg e9 (Zej C Pt);rw[ZR,Zd] at this;omega
  refine⟨a1,a3,_,_,rfl,rfl,(s2.trans s3) _ _ h1,h3,by show 1+_<=sizeLine;omega,fun a4 q0=>?_⟩;rw[Zej C Pt];have s4:=Zv.upd (H:=H3) (o:=.lst (ZC m (Vc t p m e (Xo fun _=>true)))) q0;have h4:upd H3 a4 (.lst (ZC m (Vc t p m e (Xo fun _=>true)))) a4=some (.lst (ZC m (Vc t p m e (Xo fun _=>true)))):=Zt;generalize upd H3 a4 (.lst (ZC m (Vc t p m e (Xo fun _=>true))))=H4 at s4 h4 ⊢;refine⟨(by show 1<=sizeLine;decide),fun L nL=>?_⟩;have s5:=Zv.upd (H:=H4) (o:=.lst [.ref a4]) nL;have h5:upd H4 L (.lst [.ref a4]) L=some (.lst [.ref a4]):=Zt;generalize upd H4 L (.lst [.ref a4])=H5 at s5 h5 ⊢;have n9:Zv H H5:=((n8.trans s3).trans s4).trans s5;have P5:WH H5 L t p m e [a4] [fun _=>true]:=⟨h5,rfl,fun j b hb=>by
   cases j with
   |zero=>cases hb;exact⟨_,rfl,s5 _ _ h4⟩
   |succ j=>cases hb⟩
  refine⟨_,rfl,ra,rfl,⟨_,.of (n9 _ _ c1)⟩,?_⟩;have wj:∀s s',s<m->s'<m->(∀j,j<m->gW t ω j s=gW t ω j s')->s=s':=fun s s' hs o0 h=>C.sep s s' hs o0 fun u hu=>by
   have hc:=(Y8 Pt).lt u hu;rw[C.wat Pt hs hu,C.wat Pt o0 hu];exact h (Y6 t u) (by omega)
  refine WL (H0:=H) (Wq (K:=K) (.of c1)) (fun i J H'=>∃(l:Addr) (cs:List Addr) (M:List (Nat->Bool)) (v3 v4 v5 v6:Option V),J=[some (.ref ra),some (.int (p:Nat)),some (.ref l),v3,v4,v5,v6]/\Zv H H'/\WH H' l t p m e cs M/\Xq m (fun s j=>gW t ω j s) i M)
   ⟨L,_,_,_,_,_,_,rfl,n9,P5,Xq.zero m1 _⟩ (fun i J H' h=>by
    obtain⟨_,_,_,_,_,_,_,_,sm,_⟩:=h;exact sm) ?_ ?_
  ·rintro i y J H6 hy ⟨l,cs,M,v3,v4,v5,v6,rfl,s6,O,A6⟩
   have hi:i<m:=by
    have:=(ae.mp hy).1;rw[cl] at this;exact this
   rw[Zc,Zf (show i<rs.length by omega)] at hy;cases hy;obtain⟨es,e1,e2,e3⟩:=c3 i _ (Zf (show i<rs.length by omega));generalize rs[i]'(by omega)=sa at e1 ⊢;rw[Za,Zg] at e2;have el:(es.map V.ref).length=m:=by rw[Za,e2]
   have m6:(cs.map V.ref).length=M.length:=by rw[Za,O.2.1]
   refine⟨_,rfl,l,_,rfl,.inl (.of O.1),_,rfl,ra,_,rfl,.inr (.of (s6 _ _ c1)),_,_,rfl,rfl,_,rfl,?_⟩;rw[m6,cl];refine YG (fun o5=>?_) (fun o5=>?_)
   ·refine⟨_,rfl,ra,_,rfl,.inr (.of (s6 _ _ c1)),_,rfl,by rw[cl];omega,by rw[cl];omega,?_⟩
    rw[cl,Zj];refine Pm.Wg (W:=Addr) id (fun k a H=>H a=some (.lst (ZC m (VO t i k)))) (fun a H=>H a=none) (W5 0 m) [some (.ref sa)] rfl (by rw[Za,Yl];omega) (fun k a H H' sm h=>sm _ _ h) (fun a H H' sm h=>sm.free h) (fun k a t9 u5 D o ys u9 h1 h2 h3 h4=>by rw[Zz (fun z=>by rw[z,h3] at h2;cases h2)];exact h1) (fun k y hy H7 s7 R k7=>?_) (fun D ws H7 nD s7 hD wl hw _=>?_)
    ·obtain⟨hk,rfl⟩:=VU hy
     have Y:=s6.trans s7;refine⟨_,rfl,sa,rfl,⟨_,.of (Y _ _ e1)⟩,?_⟩;refine Pm.WZ (Wq (K:=K) (.of (Y _ _ e1))) [some (.int (k:Nat))] rfl (fun j=>V.int (VO t i k j)) (by rw[el];omega) (fun j z hz H8 s8 R' k8=>?_) (fun D8 H8 r6 s8 o6=>?_)
     ·have hj:j<m:=by
       have:=(ae.mp hz).1;rw[el] at this;exact this
      rw[Zc,Zf (show j<es.length by omega)] at hz;cases hz;have hE:=e3 j _ (Zf (show j<es.length by omega));generalize es[j]'(by omega)=ea at hE ⊢;have row:((ac m).map fun j=>Yn m (cnG t i j)).getD j []=Yn m (cnG t i j):=by rw[Zb,Zc,ao hj];rfl
      rw[row] at hE;have r8:Vd ((Yn m (cnG t i j)).map nV) (k:Int)=some (V.int (VO t i k j)):=by
       refine ZK ?_;unfold Yn;rw[Zc,Zc,ao hk];show some (V.int ((cnG t i j k:Nat):Int))=some (V.int (VO t i k j));unfold VO;rw[ZmV Pt (by omega)]
      exact⟨_,rfl,_,rfl,ea,_,_,_,rfl,rfl,.of ((Y.trans s8) _ _ hE),r8,k8 H8 (Zv.refl _)⟩
     ·rw[el] at o6
      exact k7 D8 H8 s8 o6 r6
    ·have hL:LLs H7 D m (VO t i):=⟨ws,hD,by rw[wl,Za,Yl],fun c b hb=>(hw c b hb).1⟩
     have Y:=s6.trans s7;have P7:=O.mono s7;refine⟨(by show 0<=sizeLine;decide),fun Fn o7=>?_⟩;have s8:=Zv.upd (H:=H7) (o:=.lst []) o7;have h8:upd H7 Fn (.lst []) Fn=some (.lst ([]:List V)):=Zt;generalize upd H7 Fn (.lst [])=H8 at s8 h8 ⊢;have P8:=P7.mono s8;refine⟨_,rfl,l,rfl,⟨_,.of P8.1⟩,?_⟩;refine WL (H0:=H7) (YV (K:=K) (.of P7.1)) (fun j J H'=>∃(ds:List Addr) (Fs:List (Nat->Bool)) (v6:Option V),J=[some (.ref ra),some (.int (p:Nat)),some (.ref l),some (.ref sa),some (.ref D),some (.ref Fn),v6]/\Zv H7 H'/\WH H' Fn t p m e ds Fs/\FiS m (gW t ω i) (M.take j) Fs)
      ⟨[],[],_,rfl,s8,⟨h8,rfl,fun j b hb=>by simp at hb⟩,by rw[fg];exact .nil⟩ (fun j J H' h=>by
       obtain⟨_,_,_,_,sm,_⟩:=h;exact sm) ?_ ?_
     ·rintro j y J H9 hy ⟨ds,Fs,v6,rfl,s9,P9,F9⟩
      have hj:j<M.length:=by
       have:=(ae.mp hy).1;rw[m6] at this;exact this
      rw[Zc,Zf (show j<cs.length by rw[O.2.1];exact hj)] at hy;cases hy;obtain⟨S,hS,hb⟩:=P7.2.2 j _ (Zf (show j<cs.length by rw[O.2.1];exact hj));generalize cs[j]'(by rw[O.2.1];exact hj)=b at hb ⊢;refine⟨_,rfl,.inl ⟨rfl,_,.of P9.1⟩,_,rfl,_,rfl,_,rfl,D,b,t,p,m,e,ω,φ,S,i,rfl,C,Pt,hi,pl,hL.mono s9,s9 _ _ hb,fun B bs Ts w8 nB o8 pS pA=>?_⟩;have m8:=P9.mono o8;have m5:FiS m (gW t ω i) (M.take (j+1)) (Fs++Ts):=by
       rw[cU,hS];exact .snoc F9 pS
      have w9:Fs.length+Ts.length<=m:=by
       have hd:=m5.dj (c7 (jb _ _) A6.dj);have:=L2.Yw ((Fs++Ts).map (pkS m)) (ac m) (Zao (fun T' n6=>(m5.out.1 T' n6).1) hd) (fun x hx=>by
        obtain⟨T',n6,rfl⟩:=aN.mp hx;exact ag.mpr (Xr (m5.out.1 T' n6).1).1)
       rwa [Za,Zd,Zg] at this
      refine⟨Fn,B,_,_,rfl,rfl,m8.1,pA.1,by rw[Za,Za,m8.2.1,pA.2.1];omega,?_⟩;refine⟨ds++bs,Fs++Ts,_,rfl,(s9.trans o8).updr o7,?_,m5⟩;exact m8.ext m1 pA
     ·rintro J H9 ⟨ds,Fs,v6,rfl,s9,P9,F9⟩
      rw[m6,c9] at F9;exact⟨_,rfl,Fn,ds,Fs,_,_,_,_,rfl,Y.trans s9,P9,A6.step F9⟩
   ·have t5:m<=M.length:=by
     apply ah;intro z;exact o5 (decide_eq_true (by omega))
    exact⟨l,cs,M,_,_,_,_,rfl,s6,O,A6.skip t5⟩
  ·rintro J H6 ⟨l,cs,M,v3,v4,v5,v6,rfl,s6,O,A6⟩
   rw[cl] at A6;obtain⟨hp,o9⟩:=A6.end wj;refine⟨_,rfl,q l cs (M.map (pkS m)) H6 s6 ⟨O.1,by rw[Za];exact O.2.1,hp,fun j b hb=>?_⟩⟩;obtain⟨S,h1,h2⟩:=O.2.2 j b hb;rw[h2];congr 2;have hS:S∈M:=aE h1;have e6:(M.map (pkS m)).getD j 0=pkS m S:=by rw[Zb,Zc,h1];rfl
   have pk:=(Xr (A6.ne S hS)).1;refine Wm fun c hc=>?_;rw[e6,<-ZoG C Pt pk hc];refine J9 (fun s hs=>?_) c;unfold Xo;rw[o9 S hS s hs];by_cases z:s=pkS m S
   ·rw[if_pos z,if_pos (decide_eq_true z)]
   ·rw[if_neg z,if_neg (by rw[decide_eq_false z];decide)]
end
noncomputable abbrev Zg8:Stmt:=top 23
noncomputable def wkF (t:List (List Nat))(a k:Nat):Int:=(Y6 t (it t a k):Nat)
structure ZoF (H:Hp)(L:Addr)(t:List (List Nat))(n:Nat)(cs:List Addr):Prop where
 at':H L=some (.lst (cs.map V.ref))
 len:cs.length=n
 it:∀(c:Nat) b,cs[c]?=some b->H b=some (.lst (ZC (Jd t (ZO t c)) (wkF t (ZO t c))))
inductive ZaP (vs:List V) (H:Hp) (Q:VK) (E03:XK):Prop
 |mk (g:Addr) (t:List (List Nat)):(vs=[.ref g])->(GT H g t)->(PW t)->(∀L cs H',Zv H H'->ZoF H' L t (ZD t t.length).length cs->Q (.ref L) H')->ZaP vs H Q E03
noncomputable def but (H:Hp)(W:Addr):Hp:=fun b=>if b=W then none else H b
theorem Vv {H:Hp}{W b:Addr}{o:HO}(h:H b=some o)(hb:b≠W):but H W b=some o:=by unfold but;rw[if_neg hb];exact h
theorem Zbo {H:Hp}{W b:Addr}{o:HO}(h:but H W b=some o):b≠W/\H b=some o:=by
 unfold but at h;by_cases z:b=W
 ·rw[if_pos z] at h;cases h
 ·rw[if_neg z] at h;exact⟨z,h⟩
theorem Zb6 {cs:List Addr}{m:Nat}{v:Nat->Int}(j:1<=m):ZC m v≠cs.map V.ref:=(Ur j).symm
section
variable {P:Program}{w:World}{K:aa}{mg:Str->Option Value}{base:Heap}
theorem ZhS {f:Addr}{fd:FuncData}(F:WI K "power_walks" "power_walks" Zg8 f fd)(GN:Fn P w K mg base Ym 5 "class_numbers" ["group"] ZaX)(GC:Fn P w K mg base Ym 4 "classes_of" ["group"] Jp):Ya P w K mg base Ym 6 f fd ["group"] ZaP:=by
 refine F.ok (FS (N:=["group", "numbers", "walks", "members", "walk", "a"])) (fun vs H Q E h=>?_) (fun w8 A p6 s H vs Q E hr h=>?_)
 ·obtain⟨g,t,rfl,_⟩:=h;rfl
 ·obtain⟨g,t,rfl,G,M,q⟩:=h
  refine⟨_,Zs (ZE 1 rfl (Wr GN hr ZL (pc (vn 0) Zu)))
   (Zs (ZE 2 rfl (ZQ Zu))
   (Zs (ZM am rfl (itT K (Wr GC hr ZL (pc (vn 0) Zu))) (gn 3)
    (Zs (ZE 4 rfl (ZQ (pc Zx Zu)))
    (Zs (ZE 5 rfl (ZF (Xt K) (vn 3) Zx (fun _ _=>rfl)))
    (Zs (Yf am (ZS JJ (vn 5) Zx (ZY _))
     (Zs (Yu (Wj aK aQ aT Z7 (vn 4) (pc (ZF (Xt K) (vn 1) (vn 5) (fun _ _=>rfl)) Zu)))
     (Zw (ZE 5 rfl (ZF (Xt K) (ZF (Xt K) (vn 0) (vn 5) (fun _ _=>rfl)) (ZF (Xt K) (vn 3) Zx (fun _ _=>rfl)) (fun _ _=>rfl))))))
    (Zw (Yu (Wj aK aQ aT Z7 (vn 2) (pc (vn 4) Zu))))))))
   (Zw (ZJ (vn 2))))),?_⟩
  have sz:(16777216:Nat)=sizeLine:=by decide
  have w9:=M.n60;have ul:=W0 (t:=t) t.length;have U:=Y8 M;refine⟨_,rfl,g,t,rfl,G,M,fun r0 H1 s1 n6=>?_⟩;replace n6:H1 r0=some (.tup ((Yn t.length (JY t)).map nV)):=n6;refine⟨(by show 0<=sizeLine;decide),fun W nW=>?_⟩;have s2:=Zv.upd (H:=H1) (o:=.lst []) nW;have h2:upd H1 W (.lst []) W=some (.lst ([]:List V)):=Zt;generalize upd H1 W (.lst [])=H2 at s2 h2 ⊢;have o5:=s1.trans s2;refine⟨_,rfl,g,t,rfl,G.mono o5,M,fun c H3 s3 p7=>?_⟩;have o6:=o5.trans s3;have p8:H W=none:=s1.free nW;obtain⟨rs,c1,c2,c3⟩:=p7.row;have cl:(rs.map V.ref).length=(ZD t t.length).length:=by rw[Za,c2]
  have h3:=s3 _ _ h2;have n8:=(s2.trans s3) _ _ n6;generalize hm:(ZD t t.length).length=m at *;refine⟨c,rfl,⟨_,.of c1⟩,?_⟩;refine WL (H0:=but H3 W) (Wq (K:=K) (.of (Vv c1 (fun z=>by rw[z,h3] at c1;cases c1)))) (fun i J H'=>∃(cs:List Addr) (v3 v4 v5:Option V),J=[some (.ref g),some (.ref r0),some (.ref W),v3,v4,v5]/\Zv (but H3 W) H'/\ZoF H' W t i cs)
   ⟨[],_,_,_,rfl,fun b o hb=>(Zbo hb).2,h3,rfl,fun c b hb=>by simp at hb⟩ (fun i J H' h=>by
    obtain⟨_,_,_,_,_,sm,_⟩:=h;exact sm) ?_ ?_
  ·rintro i y J O hy ⟨cs,v3,v4,v5,rfl,s4,W4⟩
   obtain⟨r,rfl,hi,Y⟩:=c3 i y hy;have k4:∀{b:Addr}{o:HO},H3 b=some o->b≠W->O b=some o:=fun {b o} hb z=>s4 b o (Vv hb z);have hR:=U.rl i (by omega);obtain⟨m5,q0,o7⟩:=ZbF M (k:=i) (by omega);have r6:hdT t i=ZO t i:=rfl;rw[r6] at m5 q0 o7;generalize ha:ZO t i=a at *;obtain⟨rd,R⟩:=M.rd a m5;have r8:=Us R;have r1:=R.r1;have rn:=R.rn;have o8:=k4 Y (fun z=>by rw[z,h3] at Y;cases Y);have t5:=k4 n8 (fun z=>by rw[z,h3] at n8;cases n8);have G3:=G.mono o6;have G4:GT O g t:=by
    obtain⟨gs,g1,g2,g3⟩:=G3;refine⟨gs,k4 g1 (fun z=>by rw[z,h3] at g1;cases g1),g2,fun j b hb=>?_⟩;obtain⟨o,ho,t6⟩:=g3 j b hb;exact⟨o,k4 ho (fun z=>by rw[z,h3] at ho;cases ho),t6⟩
   refine⟨(by show 1<=sizeLine;decide),fun wk n9=>?_⟩;have s5:=Zv.upd (H:=O) (o:=.lst [.int 0]) n9;have h5:upd O wk (.lst [.int 0]) wk=some (.lst (ZC 1 (wkF t a))):=by
    rw[Zt];show some (HO.lst [V.int 0])=some (HO.lst [V.int ((Y6 t (it t a 0):Nat):Int)]);rw[show it t a 0=0 from rfl,UR M];rfl
   generalize upd O wk (.lst [.int 0])=H5 at s5 h5 ⊢;have m6:Vd (((ZD t t.length).getD i []).map nV) 0=some (V.int (a:Nat)):=by
    refine ZK (j:=0) ?_;rw[Zc,o7];rfl
   have t7:=s5 _ _ o8;refine⟨_,rfl,r,_,_,_,rfl,rfl,.of t7,m6,?_⟩;have u9:∀{b:Addr}{o:HO},O b=some o->b≠wk:=fun {b o} hb z=>by rw[z,n9] at hb;cases hb
   refine Z9 (fun x J H'=>∃k:Nat,J=[some (.ref g),some (.ref r0),some (.ref W),some (.ref r),some (.ref wk),some (.int ((it t a k:Nat):Int))]/\Zv O H'/\H' wk=some (.lst (ZC k (wkF t a)))/\1<=k/\k<=rd/\x=rd-k)
    (fun J H'=>∃v5:Option V,J=[some (.ref g),some (.ref r0),some (.ref W),some (.ref r),some (.ref wk),v5]/\Zv O H'/\H' wk=some (.lst (ZC rd (wkF t a)))) ?hend ⟨rd-1,1,by rw[ZbD M m5];rfl,s5,h5,Zq _,r1,rfl⟩ ?turn
   case hend=>
    rintro J H6 ⟨x9,rfl,s6,h6⟩;have o0:=s6 _ _ W4.at';have o9:∀{b:Addr}{v:Nat->Int}{n:Nat},1<=n->H6 b=some (.lst (ZC n v))->b≠W:=fun {b v n} hn hb=>Zbq hb o0 (Zb6 hn);refine⟨_,rfl,.inl ⟨rfl,_,.of o0⟩,_,rfl,W,_,_,rfl,rfl,o0,by rw[Za,W4.len];omega,?_⟩;refine⟨cs++[wk],_,_,_,rfl,fun b o hb=>?_,⟨by rw[Zt,aR];rfl,by rw[Zd,W4.len];rfl,fun c' b hb=>?_⟩⟩
    ·rw[Zz (Zbo hb).1]
     exact (s4.trans s6) b o hb
    ·by_cases t9:c'<cs.length
     ·rw[au t9] at hb
      have p3:=s6 _ _ (W4.it c' b hb);obtain⟨y4,R'⟩:=M.rd (ZO t c') (U.rl c' (by have:=W4.len;omega));rw[Zz (o9 (by rw[Us R'];exact R'.r1) p3)];exact p3
     ·have hl:=(ae.mp hb).1
      rw[Zd,Zk] at hl;have ec:c'=cs.length:=by omega
      rw[aw (by omega),ec,cD] at hb;cases hb;rw[ec,W4.len,ha,r8,Zz (o9 r1 h6)];exact h6
   case turn=>
    rintro m8 x J H6 ⟨k,rfl,s6,h6,k1,kr,rfl⟩;have il:=YW M m5 k;refine⟨_,rfl,rfl,_,rfl,?_⟩;refine YG (fun q1=>?_) (fun q1=>?_)
    ·have q1:=ZpG q1
     have kn:k≠rd:=fun z=>by rw[z,R.z] at q1;exact q1 rfl
     have u5:=s6 _ _ t5;have p4:Vd ((Yn t.length (JY t)).map nV) ((it t a k:Nat):Int)=some (V.int (wkF t a k)):=by
      refine ZK ?_;unfold Yn;rw[Zc,Zc,ao il];show some (V.int ((JY t (it t a k):Nat):Int))=_;rw[Zbp M il];rfl
     refine⟨_,fun _ _ z=>z,_,rfl,.inl ⟨rfl,_,.of h6⟩,_,rfl,_,rfl,r0,_,_,_,rfl,rfl,.of u5,p4,wk,_,_,rfl,rfl,h6,by rw[ZR];omega,?_⟩;rw[<-V8];have s7:Zv O (upd H6 wk (.lst (ZC (k+1) (wkF t a)))):=s6.updr n9;have h7:upd H6 wk (.lst (ZC (k+1) (wkF t a))) wk=some (.lst (ZC (k+1) (wkF t a))):=Zt;generalize upd H6 wk (.lst (ZC (k+1) (wkF t a)))=H7 at s7 h7 ⊢;obtain⟨gr,ga,u1,_,u2,u3,u4⟩:=(G4.mono s7).at M il;refine⟨_,rfl,_,rfl,g,_,_,_,rfl,rfl,.of u1,u2,_,rfl,r,_,_,_,rfl,rfl,.of (s7 _ _ o8),m6,ga,_,_,_,rfl,rfl,u3.sq,u4 a m5,?_⟩;exact⟨rd-(k+1),by omega,k+1,rfl,s7,h7,by omega,by omega,rfl⟩
    ·have q1:=ZpH q1
     have:k=rd:=by
      apply ah;intro z;exact R.nz k k1 (by omega) (by omega)
     rw[this] at h6;exact m8 _ _ ⟨_,rfl,s6,h6⟩
  ·rintro J O ⟨cs,v3,v4,v5,rfl,s4,W4⟩
   rw[cl] at W4;exact⟨_,rfl,q W cs O (fun b o hb=>s4 b o (Vv (o6 _ _ hb) (fun z=>by rw[z,p8] at hb;cases hb))) W4⟩
end
end C51
namespace N51
open PySem L2 PySem.Spec PyProof.Rows
noncomputable def top (i:Nat):Stmt:=e7.main.body.getD i (.Pass ⟨0,0,0,0⟩)
structure Bl (mg:Str->Option Value):Prop where
 list:mg "list"=none
 len:mg "len"=none
 abs:mg "abs"=none
 range:mg "range"=none
 tuple:mg "tuple"=none
 isi:mg "isinstance"=none
 all:mg "all"=none
 set:mg "set"=none
 repr:mg "repr"=none
 any:mg "any"=none
 int:mg "int"=none
 bool:mg "bool"=none
section
variable {P:Program}{w:World}{K:aa}{mg:Str->Option Value}{base:Heap}
end
section
variable {P:Program}{w:World}{K:aa}{mg:Str->Option Value}{base:Heap}
end
noncomputable abbrev Zeu:Stmt:=top 13
noncomputable def strip:Nat->Int->Int->Int
 |0,r,_=>r
 |g+1,r,p=>if r % p=0 then strip g (r / p) p else r
noncomputable def pr:Nat->Int->Int->List Int->List Int
 |0,_,_,ZH=>ZH
 |f+1,r,p,ZH=>if 1<r then pr f (strip 6 r p) (p+1) (if r % p=0 then ZH++[p] else ZH) else ZH
noncomputable def Zd8:Nat->Int->Int->Bool
 |0,r,_=>decide (r<=1)
 |f+1,r,p=>if 1<r then Zd8 f (strip 6 r p) (p+1) else true
noncomputable def Yp (n:Int):List Int:=pr 100 n 2 []
noncomputable def Zcy (n:Int):Int:=(Yp n).foldl (fun f p=>f / p*(p-1)) n
noncomputable def Zof:Nat->Int->Int->Int
 |0,a,_=>a
 |f+1,a,b=>if 0<b then Zof f b (a % b) else a
noncomputable def ZpN (a b:Int):Int:=Zof 100 a b
noncomputable def Zlq (n:Int):Int:=(((YZ 1 n.toNat).filter fun k=>decide (ZpN k n=1)).length:Nat)
noncomputable def okN (n:Nat):Bool:=Zd8 100 n 2 && (Yp n).all (fun p=>decide (2<=p) && decide (p<=60)) && decide (Zcy n=Zlq n) && decide (1<=Zcy n) && decide (Zcy n<=60)
theorem Zkc:((ac 61).all fun n=>n == 0 || okN n)=true:=by decide +kernel
theorem Zh3 {n:Nat}(q:1<=n)(J:n<=60):Zd8 100 n 2=true/\(∀p∈Yp n,2<=p/\p<=60)/\Zcy n=Zlq n/\1<=Zcy n/\Zcy n<=60:=by
 have h:=aI.mp Zkc n (ag.mpr (by omega));have j:(n == 0)=false:=by simp;omega
 rw[j,eQ] at h;unfold okN at h;simp only[af,decide_eq_true_eq,aI] at h;exact⟨h.1.1.1.1,h.1.1.1.2,h.1.1.2,h.1.2,h.2⟩
theorem UM {r p:Int}(J:1<=r)(j:2<=p)(h:r % p=0):1<=r / p/\2*(r / p)<=r:=by
 have e:p*(r / p)=r:=Int.mul_ediv_cancel' (gX h);generalize r / p=q at e;have M:1<=q:=by
  apply ah;intro O;have:p*q<=p*0:=Int.mul_le_mul_of_nonneg_left (by omega) (by omega);omega
 have:2*q<=p*q:=di j (by omega);omega
theorem XT:∀(g:Nat) {r p:Int},1<=r->2<=p->1<=strip g r p/\strip g r p<=r
 |0,r,p,j,_=>⟨j,Int.le_refl _⟩
 |g+1,r,p,j,q=>by
  unfold strip;by_cases h:r % p=0
  ·rw[if_pos h]
   obtain⟨a,b⟩:=UM j q h;have:=XT g (r:=r / p) (p:=p) a q;omega
  ·rw[if_neg h];omega
theorem Ud {g:Nat}{r p:Int}(h:¬r % p=0):strip g r p=r:=by
 cases g with
 |zero=>rfl
 |succ g=>unfold strip;rw[if_neg h]
inductive Ug (vs:List V) (H:Hp) (Q:VK) (E03:XK):Prop
 |mk (n:Nat):(vs=[.int n])->(1<=n)->(n<=60)->(∀l H',Zv H H'->H' l=some (.lst ((Yp n).map V.int))->Q (.ref l) H')->Ug vs H Q E03
section
variable {P:Program}{w:World}{K:aa}{mg:Str->Option Value}{base:Heap}
theorem ZfR {f:Addr}{fd:FuncData}(F:WI K "primes_of" "primes_of" Zeu f fd)(T:Bl mg):Ya P w K mg base Ym 1 f fd ["n"] Ug:=by
 refine F.ok (FS (N:=["n", "primes", "rest", "p"])) (fun vs H Q E h=>?_) (fun o9 A o0 s H vs Q E hr h=>?_)
 ·obtain⟨n,rfl,_⟩:=h;rfl
 ·obtain⟨n,rfl,n1,n60,q⟩:=h
  obtain⟨n8,p3,_⟩:=Zh3 n1 n60;refine⟨_,Zs (ZE 1 rfl (ZQ Zu)) (Zs (ZE 2 rfl (vn 0)) (Zs (ZE 3 rfl Zx)
   (Zs (Yf am (ZS ZhP (vn 2) Zx (ZY _))
    (Zs (WF (ZS VE (Zy ZV (vn 2) (vn 3)) Zx (ZY _)) (Zw (Yu (Wj aK aQ aT Z7 (vn 1) (pc (vn 3) Zu)))) Yy)
    (Zs (Yf am (ZS VE (Zy ZV (vn 2) (vn 3)) Zx (ZY _)) (Zw (ZE 2 rfl (Zy Y4 (vn 2) (vn 3)))))
    (Zw (JX (i:=3) (Z6 (by kernel_rfl)) rfl (YR (by kernel_rfl)) Zx Jj (.inl rfl))))))
   (Zw (ZJ (vn 1)))))),?_⟩
  refine⟨by decide,fun l hl=>⟨_,rfl,?_⟩⟩;have s1:Zv H (upd H l (.lst [])):=Zv.upd hl;refine Z9 (fun f O H'=>∃(r p:Int) (ZH:List Int),O=[some (.int n),some (.ref l),some (.int r),some (.int p)]/\H'=upd H l (.lst (ZH.map V.int))/\1<=r/\r<=60/\2<=p/\p+f=102/\ZH.length+f<=100/\Zd8 f r p=true/\pr f r p ZH=Yp n)
   (fun O H'=>∃r p:Option V,O=[some (.int n),some (.ref l),r,p]/\H'=upd H l (.lst ((Yp n).map V.int))) ?hend ⟨100,n,2,[],rfl,rfl,by omega,by omega,by omega,by omega,by decide,n8,rfl⟩ ?turn
  case hend=>
   rintro O H' ⟨r,p,rfl,rfl⟩;exact⟨_,rfl,q l _ (Zv.upd hl) Zt⟩
  case turn=>
   rintro m8 f O H' ⟨r,p,ZH,rfl,rfl,r1,o5,p2,pf,al,he,hp⟩;refine⟨_,rfl,_,_,rfl,rfl,_,rfl,?_⟩;refine YG (fun h1=>?_) (fun h1=>?_)
   rotate_left
   ·have h1:¬ 1<r:=fun z=>h1 (decide_eq_true z)
    refine m8 _ _ ⟨_,_,rfl,?_⟩;have:pr f r p ZH=ZH:=by cases f with|zero=>rfl|succ f=>unfold pr;rw[if_neg h1]
    rw[<-hp,this]
   have h1:1<r:=of_decide_eq_true h1;obtain⟨g,rfl⟩:∃g,f=g+1:=by
    cases f with
    |zero=>unfold Zd8 at he;have:=of_decide_eq_true he;omega
    |succ g=>exact⟨g,rfl⟩
   refine⟨_,fun _ _ z=>z,?_⟩;unfold Zd8 at he;unfold pr at hp;rw[if_pos h1] at he hp;have sz:(16777216:Nat)=sizeLine:=by decide
   refine⟨_,rfl,_,rfl,_,_,rfl,rfl,(by show (0:Int)<p;omega),rfl,_,rfl,?_⟩;obtain⟨j,n6,n9,hA⟩:∃j:List Int,j=(if r % p=0 then ZH++[p] else ZH)/\pr g (strip 6 r p) (p+1) j=Yp n/\j.length<=ZH.length+1:=⟨_,rfl,hp,by split <;> simp⟩
   obtain⟨o6,p4⟩:=XT 6 (r:=r) (p:=p) r1 p2;refine YG (fun h2=>?_) (fun h2=>?_)
   ·have h2:r % p=0:=V.int.inj (of_decide_eq_true h2)
    refine⟨_,rfl,.inl ⟨rfl,_,.of Zt⟩,_,rfl,l,_,_,rfl,rfl,Zt,by rw[Za];omega,?_⟩;have e1:upd (upd H l (.lst (ZH.map V.int))) l (.lst (ZH.map V.int++[.int p]))=upd H l (.lst (j.map V.int)):=by
     rw[Zjj,n6,if_pos h2,aR];rfl
    rw[e1];refine Z9 (fun m J M=>∃(Y:Int) (g':Nat),J=[some (.int n),some (.ref l),some (.int Y),some (.int p)]/\M=upd H l (.lst (j.map V.int))/\1<=Y/\Y<=60/\Y<2 ^ g'/\strip g' Y p=strip 6 r p/\m=Y.toNat)
     (fun J M=>J=[some (.int n),some (.ref l),some (.int (strip 6 r p)),some (.int p)]/\M=upd H l (.lst (j.map V.int))) ?hend2 ⟨_,r,6,rfl,rfl,r1,o5,by omega,rfl,rfl⟩ ?turn2
    case hend2=>
     rintro J M ⟨rfl,rfl⟩;exact⟨_,rfl,_,_,rfl,rfl,g,by omega,strip 6 r p,p+1,j,rfl,rfl,o6,by omega,by omega,by omega,by omega,he,n9⟩
    case turn2=>
     rintro m5 m J M ⟨Y,g',rfl,rfl,a1,a2,a3,a4,rfl⟩;refine⟨_,rfl,_,rfl,_,_,rfl,rfl,(by show (0:Int)<p;omega),rfl,_,rfl,?_⟩;refine YG (fun h3=>?_) (fun h3=>?_)
     ·have h3:Y % p=0:=V.int.inj (of_decide_eq_true h3)
      obtain⟨b1,b2⟩:=UM a1 p2 h3;obtain⟨g2,rfl⟩:∃g2,g'=g2+1:=by
       cases g' with
       |zero=>simp at a3;omega
       |succ g2=>exact⟨g2,rfl⟩
      unfold strip at a4;rw[if_pos h3] at a4;refine⟨_,fun _ _ z=>z,_,rfl,_,rfl,_,_,rfl,rfl,⟨by omega,by omega⟩,(Y / p).toNat,by omega,Y / p,g2,rfl,rfl,b1,by omega,?_,a4,rfl⟩;rw[Int.pow_succ] at a3;omega
     ·have h3:¬Y % p=0:=fun z=>h3 (decide_eq_true (congrArg V.int z))
      rw[Ud h3] at a4;exact m5 _ _ ⟨by rw[a4],rfl⟩
   ·have h2:¬r % p=0:=fun z=>h2 (decide_eq_true (congrArg V.int z))
    have e1:upd H l (.lst (ZH.map V.int))=upd H l (.lst (j.map V.int)):=by rw[n6,if_neg h2]
    rw[e1];have e2:strip 6 r p=r:=Ud h2;refine Z9 (fun m J M=>J=[some (.int n),some (.ref l),some (.int r),some (.int p)]/\M=upd H l (.lst (j.map V.int)))
     (fun J M=>J=[some (.int n),some (.ref l),some (.int r),some (.int p)]/\M=upd H l (.lst (j.map V.int))) ?hend3 ⟨0,rfl,rfl⟩ ?turn3
    case hend3=>
     rintro J M ⟨rfl,rfl⟩;exact⟨_,rfl,_,_,rfl,rfl,g,by omega,r,p+1,j,rfl,rfl,r1,by omega,by omega,by omega,by omega,e2▸he,e2▸n9⟩
    case turn3=>
     rintro m6 m J M ⟨rfl,rfl⟩;refine⟨_,rfl,_,rfl,_,_,rfl,rfl,(by show (0:Int)<p;omega),rfl,_,rfl,?_⟩;exact ZpL (fun z=>h2 (V.int.inj (of_decide_eq_true z))) (m6 _ _ ⟨rfl,rfl⟩)
end
section
variable {P:Program}{w:World}{K:aa}{mg:Str->Option Value}{base:Heap}
theorem Zhs (m:Nat):(av m [V.int 0]).flatten=(av m (0:Int)).map V.int:=by
 induction m with
 |zero=>rfl
 |succ m j=>rw[a6,cg,j,a6];rfl
end
section
variable {P:Program}{w:World}{K:aa}{mg:Str->Option Value}{base:Heap}
end
end N51
namespace L2
open PySem PySem.Spec PyProof.Rows
end L2
namespace N51
open PySem L2 PySem.Spec PyProof.Rows
section
variable {P:Program}{w:World}{K:aa}{mg:Str->Option Value}{base:Heap}
end
end N51
set_option maxHeartbeats 1000000
namespace Num
noncomputable def co (a:List Int)(i:Nat):Int:=a.getD i 0
theorem YI (i:Nat):co [] i=0:=by simp[co]
theorem YH (x:Int)(r:List Int):co (x::r) 0=x:=by simp[co]
theorem Wh (x:Int)(r:List Int)(i:Nat):co (x::r) (i+1)=co r i:=by simp[co]
theorem WG {a:List Int}{i:Nat}(h:a.length<=i):co a i=0:=by
 unfold co;rw[Zb,ak h];rfl
theorem Wp {a:List Int}{i:Nat}(h:i<a.length):a[i]?=some (co a i):=by
 unfold co;rw[Zb,Zf h];rfl
noncomputable def Vf:List Int->List Int->List Int
 | [],b=>b
 |a,[]=>a
 |x::a,y::b=>(x+y)::Vf a b
noncomputable def vsc (c:Int)(a:List Int):List Int:=a.map (c * ·)
theorem Wu:∀(a b:List Int) (i:Nat),co (Vf a b) i=co a i+co b i
 | [],b,i=>by rw[Vf,YI,cG]
 |x::a,[],i=>by rw[Vf,YI,bF];intro z;cases z
 |x::a,y::b,0=>by rw[Vf,YH,YH,YH]
 |x::a,y::b,i+1=>by rw[Vf,Wh,Wh,Wh,Wu a b i]
theorem Vq (c:Int):∀(a:List Int) (i:Nat),co (vsc c a) i=c*co a i
 | [],i=>by unfold vsc;rw[gc,YI,bE]
 |x::a,0=>by unfold vsc;rw[aV,YH,YH]
 |x::a,i+1=>by
  have:=Vq c a i;unfold vsc at this ⊢;rw[aV,Wh,Wh,this]
noncomputable def Wz:List Int->List (List Int)->List Int
 |_,[]=>[]
 |a,r::j=>Vf (vsc (co a 0) r) (Wz a.tail j)
theorem ZkM (a:List Int)(i:Nat):co a.tail i=co a (i+1):=by
 cases a with
 |nil=>rw[List.tail_nil,YI,YI]
 |cons x r=>rw[db,Wh]
theorem ZW (a:List Int)(r:List Int)(q:List (List Int))(j:Nat):co (Wz a (r::q)) j=co a 0*co r j+co (Wz a.tail q) j:=by
 rw[Wz,Wu,Vq]
noncomputable def ro (R:List (List Int))(i:Nat):List Int:=R.getD i []
theorem Zbd (r:List Int)(j:List (List Int)):ro (r::j) 0=r:=by simp[ro]
theorem Zbe (r:List Int)(j:List (List Int))(i:Nat):ro (r::j) (i+1)=ro j i:=by simp[ro]
theorem Zl2 (i:Nat):ro [] i=[]:=by simp[ro]
theorem ZbB (j:Nat)(v:Int):∀(a:List Int) (i:Nat) (R:List (List Int)),i<a.length->co (Wz (a.set i v) R) j=co (Wz a R) j+(v-co a i)*co (ro R i) j
 |a,i,[],h=>by rw[Zl2,YI,bE,bF];unfold Wz;rfl
 | [],i,r::q,h=>by cases h
 |x::a,0,r::q,h=>by
  rw[List.set_cons_zero,ZW,ZW,YH,YH,Zbd,db,db,iF];omega
 |x::a,i+1,r::q,h=>by
  rw[List.set_cons_succ,ZW,ZW,YH,YH,Wh,Zbe,db,db,ZbB j v a i q (fw h)];omega
theorem Xh:∀(R:List (List Int)) (j:Nat),co (Wz [] R) j=0
 | [],j=>by unfold Wz;exact YI j
 |r::q,j=>by rw[ZW,YI,List.tail_nil,Xh q j,bn,bF]
theorem Zau:∀(m:Nat) (R:List (List Int)) (j:Nat),co (Wz (av m 0) R) j=0
 |0,R,j=>Xh R j
 |m+1,[],j=>by unfold Wz;exact YI j
 |m+1,r::q,j=>by rw[ZW,a6,YH,db,Zau m q j,bn,bF]
noncomputable def sig (n:Nat)(R:List (List Int))(j:Nat):List Int->Nat->Int
 | [],_=>0
 |x::q,k=>x*co (ro R (k % n)) j+sig n R j q (k+1)
noncomputable def J1 (n:Nat):List Int->Nat->List Int->List Int
 | [],_,ZH=>ZH
 |x::j,k,ZH=>J1 n j (k+1) (ZH.set (k % n) (co ZH (k % n)+x))
noncomputable def Wb (n:Nat)(j:List Int):List Int:=J1 n j 0 (av n 0)
theorem ZcO (n:Nat)(q:0<n)(R:List (List Int))(j:Nat):∀(J:List Int) (k:Nat) (ZH:List Int),ZH.length=n->co (Wz (J1 n J k ZH) R) j=co (Wz ZH R) j+sig n R j J k
 | [],k,ZH,h=>by rw[J1,sig,bF]
 |x::M,k,ZH,h=>by
  rw[J1,ZcO n q R j M (k+1) _ (by rw[a9,h]),ZbB j _ ZH (k % n) R (by rw[h];exact ba _ q),sig];have e:co ZH (k % n)+x-co ZH (k % n)=x:=by omega
  rw[e];omega
theorem Zav (n:Nat)(J:0<n)(R:List (List Int))(q:List Int)(j:Nat):co (Wz (Wb n q) R) j=sig n R j q 0:=by
 unfold Wb;rw[ZcO n J R j q 0 _ (cQ ..),Zau,cG]
noncomputable def lk (n:Nat)(s:Nat)(g:Nat->Int):Nat->Int:=fun k=>g k-g ((k+(n-s)) % n)
noncomputable def XN (n:Nat)(j:List Nat)(g:Nat->Int):Nat->Int:=j.foldl (fun g s=>lk n s g) g
theorem ZbA (n:Nat):∀(j:List Nat) (g h:Nat->Int) (k:Nat),XN n j (fun t=>g t+h t) k=XN n j g k+XN n j h k
 | [],g,h,k=>rfl
 |s::j,g,h,k=>by
  show XN n j (lk n s fun t=>g t+h t) k=XN n j (lk n s g) k+XN n j (lk n s h) k;rw[<-ZbA n j (lk n s g) (lk n s h) k];congr 1;funext t;unfold lk;show g t+h t-(g ((t+(n-s)) % n)+h ((t+(n-s)) % n))=_;omega
theorem Zbz (n:Nat)(c:Int):∀(j:List Nat) (g:Nat->Int) (k:Nat),XN n j (fun t=>c*g t) k=c*XN n j g k
 | [],g,k=>rfl
 |s::j,g,k=>by
  show XN n j (lk n s fun t=>c*g t) k=c*XN n j (lk n s g) k;rw[<-Zbz n c j (lk n s g) k];congr 1;funext t;unfold lk;rw[iG]
theorem UE (n:Nat):∀(j:List Nat) (k:Nat),XN n j (fun _=>0) k=0
 | [],k=>rfl
 |s::j,k=>by
  show XN n j (lk n s fun _=>0) k=0;have:(lk n s fun _=>(0:Int))=fun _=>0:=by funext t;unfold lk;rfl
  rw[this];exact UE n j k
theorem ZeV (n:Nat)(j:List Nat)(k:Nat):∀(U:List (List Int)) (f:List Int),(∀r∈U,XN n j (co r) k=0)->XN n j (co (Wz f U)) k=0
 | [],f,h=>by
  have:co (Wz f [])=fun _=>0:=by funext t;unfold Wz;exact YI t
  rw[this];exact UE n j k
 |r::J,f,h=>by
  have e:co (Wz f (r::J))=fun t=>co f 0*co r t+co (Wz f.tail J) t:=by funext t;exact ZW f r J t
  rw[e,ZbA n j (fun t=>co f 0*co r t) (co (Wz f.tail J)) k,Zbz,h r ax,ZeV n j k J f.tail fun q M=>h q (aq _ M),bE,bF]
theorem Wa (n:Nat)(J:0<n):∀(j:List Nat) (g h:Nat->Int),(∀t,t<n->g t=h t)->∀k,k<n->XN n j g k=XN n j h k
 | [],g,h,e,k,q=>e k q
 |s::j,g,h,e,k,q=>by
  refine Wa n J j (lk n s g) (lk n s h) (fun t M=>?_) k q;unfold lk;rw[e t M,e _ (ba _ J)]
noncomputable def lkL (n s:Nat)(a:List Int):List Int:=List.zipWith (· - ·) a (a.drop s++a.take s)
theorem ZeW {n s:Nat}{a:List Int}(h:a.length=n):(lkL n s a).length=n:=by
 unfold lkL;rw[List.length_zipWith,Zd,bB,bU];omega
theorem ZmU {n s k:Nat}{a:List Int}(h:a.length=n)(hs:s<=n)(J:k<n):co (lkL n s a) k=co a k-co a ((k+s) % n):=by
 have hl:(a.drop s++a.take s).length=n:=by
  rw[Zd,bB,bU];omega
 have M:(lkL n s a)[k]?=some (a[k]'(by omega)-(a.drop s++a.take s)[k]'(by omega)):=by
  unfold lkL;rw[List.getElem?_zipWith,Zf (by omega),Zf (by omega)]
 have g2:=Wp (a:=lkL n s a) (i:=k) (by rw[ZeW h];exact J);rw[M] at g2;have O:co a k=a[k]'(by omega):=by
  have:=Wp (a:=a) (i:=k) (by omega);rw[Zf (by omega)] at this;exact (aA this).symm
 have Y:co a ((k+s) % n)=(a.drop s++a.take s)[k]'(by omega):=by
  have j:(k+s) % n<a.length:=by rw[h];exact ba _ (by omega)
  have:=Wp (a:=a) j;rw[Zf j] at this;rw[<-aA this];by_cases hc:k<n-s
  ·have q:(k+s) % n=k+s:=aW (by omega)
   rw[List.getElem_append_left (by rw[bB];omega),List.getElem_drop];congr 1;omega
  ·have q:(k+s) % n=k+s-n:=by
    rw[mE (by omega),aW (by omega)]
   rw[List.getElem_append_right (by rw[bB];omega),List.getElem_take];congr 1;rw[bB];omega
 rw[O,Y];exact (aA g2).symm
noncomputable def ZmD (n:Nat)(j:List Nat)(a:List Int):List Int:=j.foldl (fun a s=>lkL n (n-s) a) a
theorem Zfi {n:Nat}:∀(j:List Nat) (a:List Int),a.length=n->∀k,k<n->co (ZmD n j a) k=XN n j (co a) k
 | [],a,h,k,q=>rfl
 |s::j,a,h,k,q=>by
  show co (ZmD n j (lkL n (n-s) a)) k=XN n j (lk n s (co a)) k;rw[Zfi j _ (ZeW h) k q];exact Wa n (by omega) j _ _ (fun t J=>ZmU h (Nat.sub_le _ _) J) k q
noncomputable def ZG:Nat->(Nat->Int)->Int
 |0,_=>0
 |n+1,f=>f 0+ZG n fun t=>f (t+1)
theorem ZI:∀(n:Nat) (f g:Nat->Int),(∀t,t<n->f t=g t)->ZG n f=ZG n g
 |0,f,g,h=>rfl
 |n+1,f,g,h=>by rw[ZG,ZG,h 0 (lf _),ZI n _ _ fun t j=>h (t+1) (gU j)]
theorem YU:∀(n:Nat) (f:Nat->Int),(∀t,t<n->f t=0)->ZG n f=0
 |0,f,h=>rfl
 |n+1,f,h=>by rw[ZG,h 0 (lf _),YU n _ fun t j=>h (t+1) (gU j),bF]
theorem Jm:∀(n j:Nat) (f:Nat->Int),j<n->(∀t,t<n->t≠j->f t=0)->ZG n f=f j
 |0,j,f,q,h=>absurd q (dI _)
 |n+1,0,f,q,h=>by rw[ZG,YU n _ fun t J=>h (t+1) (gU J) (jB _),bF]
 |n+1,j+1,f,q,h=>by
  rw[ZG,h 0 (lf _) (jB _).symm,cG];exact Jm n j (fun t=>f (t+1)) (fw q) fun t J M=>h (t+1) (gU J) fun z=>M (c8 z)
theorem Uc:∀(n:Nat) (f g:Nat->Int),ZG n (fun t=>f t-g t)=ZG n f-ZG n g
 |0,f,g=>rfl
 |n+1,f,g=>by
  rw[ZG,ZG,ZG,Uc n (fun t=>f (t+1)) fun t=>g (t+1)];omega
theorem Xg (j:Nat):∀(R:List (List Int)) (a:List Int),co (Wz a R) j=ZG R.length fun t=>co a t*co (ro R t) j
 | [],a=>by rw[Wz,YI];rfl
 |r::q,a=>by
  rw[ZW,Xg j q a.tail,Zi,ZG,Zbd];congr 1;refine ZI _ _ _ fun t J=>?_;rw[ZkM,Zbe]
noncomputable def YM (n k:Nat):List Int:=(ac n).map fun t=>if t=k then 1 else 0
theorem Jb {n k t:Nat}(h:t<n):co (YM n k) t=if t=k then 1 else 0:=by
 unfold YM co;rw[Zb,Zc,ao h];rfl
noncomputable def stN (step:Nat):List Int->Nat->List Int->List Int
 | [],_,ZH=>ZH
 |x::j,k,ZH=>stN step j (k+1) (ZH.set (k*step) x)
noncomputable def stM (j:List Int)(step:Nat):List Int:=stN step j 0 (av ((j.length-1)*step+1) 0)
theorem Zen (step:Nat):∀(j:List Int) (k:Nat) (ZH:List Int),(stN step j k ZH).length=ZH.length
 | [],k,ZH=>rfl
 |x::q,k,ZH=>by rw[stN,Zen step q,a9]
theorem Zeo (j:List Int)(step:Nat):(stM j step).length=(j.length-1)*step+1:=by unfold stM;rw[Zen,Ze]
noncomputable def U1:List Int->Nat->Int->List Int->List Int
 | [],_,_,rest=>rest
 |d::j,b,c,rest=>U1 j (b+1) c (rest.set b (co rest b-c*d))
theorem ZeJ:∀(j:List Int) (b:Nat) (c:Int) (rest:List Int),(U1 j b c rest).length=rest.length
 | [],b,c,rest=>rfl
 |d::j,b,c,rest=>by rw[U1,ZeJ j,a9]
noncomputable def ZhC (j:List Int)(top:Nat):Nat->List Int->List Int->List Int
 |0,found,_=>found
 |k+1,found,rest=>ZhC j top k (found.set k (co rest (k+top))) (U1 j k (co rest (k+top)) rest)
noncomputable def ZeI (q j:List Int):List Int:=ZhC j (j.length-1) (q.length-(j.length-1)) (av (q.length-(j.length-1)) 0) q
theorem ZbO {a:List Int}{i k:Nat}{v:Int}:co (a.set i v) k=if i=k/\i<a.length then v else co a k:=by
 unfold co;rw[Zb,jc,Zb];by_cases h:i=k
 ·subst h
  by_cases j:i<a.length
  ·rw[if_pos rfl,if_pos j,if_pos ⟨rfl,j⟩];rfl
  ·rw[if_pos rfl,if_neg j,if_neg fun z=>j z.2,ak (by omega)]
 ·rw[if_neg h,if_neg fun z=>h z.1]
theorem ZdP (c:Int):∀(j:List Int) (b:Nat) (rest:List Int) (i:Nat),b+j.length<=rest.length->co (U1 j b c rest) i=if b<=i/\i<b+j.length then co rest i-c*co j (i-b) else co rest i
 | [],b,rest,i,h=>by rw[U1,if_neg (by rw[ik];omega)]
 |d::j,b,rest,i,h=>by
  rw[Zi] at h ⊢;rw[U1,ZdP c j (b+1) _ i (by rw[a9];omega),ZbO];by_cases q:i=b
  ·subst q
   rw[if_neg (by omega),if_pos ⟨rfl,by omega⟩,if_pos ⟨Zq _,by omega⟩,cD,YH]
  ·rw[if_neg (show ¬(b=i/\b<rest.length) from fun z=>q z.1.symm)]
   by_cases J:b+1<=i/\i<b+1+j.length
   ·rw[if_pos J,if_pos ⟨by omega,by omega⟩,show i-b=(i-(b+1))+1 by omega,Wh]
   ·rw[if_neg J,if_neg (by omega)]
theorem Zif (d:Int)(q:List Int)(R:List (List Int))(b j:Nat):co (Wz (d::q) (R.drop b)) j=d*co (ro R b) j+co (Wz q (R.drop (b+1))) j:=by
 by_cases h:b<R.length
 ·rw[ce h,ZW,YH,db]
  congr 2;unfold ro;rw[Zb,Zf h];rfl
 ·rw[fj (by omega),fj (by omega)]
  unfold ro;rw[Zb,ak (by omega)];show co (Wz (d::q) []) j=d*co [] j+co (Wz q []) j;rw[Wz,Wz,YI,bE,bF]
theorem ZeX (c:Int)(R:List (List Int))(j:Nat):∀(q:List Int) (b:Nat) (rest:List Int),b+q.length<=rest.length->co (Wz (U1 q b c rest) R) j=co (Wz rest R) j-c*co (Wz q (R.drop b)) j
 | [],b,rest,h=>by rw[U1,Xh,bE,io]
 |d::q,b,rest,h=>by
  rw[Zi] at h;rw[U1,ZeX c R j q (b+1) _ (by rw[a9];omega),ZbB j _ rest b R (by omega),Zif,lW];have e:(co rest b-c*d-co rest b)*co (ro R b) j=- (c*(d*co (ro R b) j)):=by
   rw[show co rest b-c*d-co rest b=-(c*d) by omega,fU,ck]
  rw[e];omega
noncomputable def XD (s:List Int×Int)(p:Int):List Int×Int:=(ZeI (stM s.1 p.toNat) s.1,s.2*p)
noncomputable def Jh (n:Nat)(j:List Int):List Int:=stM (j.foldl XD ([-1,1],1)).1 ((n:Int) / (j.foldl XD ([-1,1],1)).2).toNat
noncomputable def small (a:List Int):Bool:=a.all fun x=>decide (x.natAbs<=100)
noncomputable def Zkn (s:List Int×Int):Bool:=small s.1 && decide (2<=s.1.length) && decide (s.1.length<=61) && decide (1<=s.2) && decide (s.2<=60)
noncomputable def X4 (s:List Int×Int):List Int->Bool
 | []=>Zkn s
 |p::j=>Zkn s && decide (2<=p) && decide (p<=60) && X4 (XD s p) j
noncomputable def WV (j:List Int)(top:Nat)(r:List Int):List Int:=Vf (0::r.take (top-1)) (vsc (- co r (top-1)) (j.take top))
noncomputable def Z4 (j:List Int)(top:Nat):Nat->List Int->List (List Int)
 |0,_=>[]
 |m+1,r=>r::Z4 j top m (WV j top r)
noncomputable def RT (n:Nat)(j:List Int):List (List Int):=Z4 (Jh n j) ((Jh n j).length-1) n (YM ((Jh n j).length-1) 0)
noncomputable def ZkR (a:List Int):Bool:=a.all fun x=>x == 0
noncomputable def Jn (n:Nat)(j:List Int):List Nat:=j.map fun p=>n / p.toNat
noncomputable def ZgI (n:Nat)(R:List (List Int))(k:Nat):List Int:=Vf (av n 0) (Vf (ro R k) (vsc (-1) (YM n k)))
noncomputable def XQ (n:Nat)(R:List (List Int))(j s:Nat):Nat->List Int
 |0=>[]
 |m+1=>Vf (XQ n R j s m) (ro R ((j+m*s) % n))
theorem ZbQ {a:List Int}(h:ZkR a=true)(i:Nat):co a i=0:=by
 by_cases j:i<a.length
 ·have:=Wp j
  have q:=aI.mp h _ (aE this);simpa using q
 ·exact WG (by omega)
theorem UQ {a:List Int}(h:small a=true)(i:Nat):(co a i).natAbs<=100:=by
 by_cases j:i<a.length
 ·have:=Wp j
  have q:=aI.mp h _ (aE this);simpa using q
 ·rw[WG (by omega)];decide
structure Good (n:Nat)(ps least:List Int)(top:Nat)(R:List (List Int)):Prop where
 n1:1<=n
 ls:X4 ([-1,1],1) ps=true
 l2:least.length=top+1
 t1:1<=top
 tn:top<=n
 sm:small least=true
 mon:co least top=1
 len:R.length=n
 rsm:∀i j,(co (ro R i) j).natAbs<=100
 rlen:∀i,i<n->(ro R i).length=top
 un:∀k,k<top->ro R k=YM top k
 tails:∀m,m<n-top->∀j,co (Wz least (R.drop m)) j=0
 look:∀k,k<n->∀t,t<n->XN n (Jn n ps) (fun t=>co (ro R k) t-if t=k then 1 else 0) t=0
 row:∀p∈ps,∀a,a<n->∀j,co (XQ n R a (n / p.toNat) p.toNat) j=0
 nz:∀k,k<n->∃j,j<top/\co (ro R k) j≠0
 div:∀p∈ps,p.toNat*(n / p.toNat)=n
theorem ZnQ {R:List (List Int)}{i:Nat}(h:R.length<=i):ro R i=[]:=by
 unfold ro;rw[Zb,ak h];rfl
noncomputable def Zoh {β:Type}(x:Int)(k:Int->β):β:=match x with
 | .ofNat m=>(match m with
  |0=>k (.ofNat 0)
  |m+1=>k (.ofNat (m+1)))
 | .negSucc m=>(match m with
  |0=>k (.negSucc 0)
  |m+1=>k (.negSucc (m+1)))
theorem ZkJ {β:Type}(x:Int)(k:Int->β):Zoh x k=k x:=by
 cases x with
 |ofNat m=>cases m <;> rfl
 |negSucc m=>cases m <;> rfl
noncomputable def fL {β:Type}:List Int->(List Int->β)->β
 | [],k=>k []
 |x::j,k=>Zoh x fun y=>fL j fun q=>k (y::q)
theorem ZcX {β:Type}:∀(a:List Int) (k:List Int->β),fL a k=k a
 | [],k=>rfl
 |x::j,k=>by rw[fL,ZkJ,ZcX j]
noncomputable def nx (j:List Int)(top:Nat):Nat->List Int->List Int
 |0,r=>r
 |m+1,r=>nx j top m (WV j top r)
noncomputable def nxB (j:List Int)(top:Nat):Nat->List Int->(List Int->Bool)->Bool
 |0,r,k=>k r
 |m+1,r,k=>fL (WV j top r) fun q=>nxB j top m q k
theorem Zh5 (j:List Int)(top:Nat):∀(m:Nat) (r:List Int) (k:List Int->Bool),nxB j top m r k=k (nx j top m r)
 |0,r,k=>rfl
 |m+1,r,k=>by rw[nxB,ZcX,Zh5 j top m,nx]
noncomputable def Zey (j:List Int)(top:Nat):Nat->Nat->List Int->Bool
 |0,_,r=>decide (r=YM top 0)
 |m+1,k,r=>small r && decide (r.length=top) && (decide (top<=k) || decide (r=YM top k)) && fL (WV j top r) (Zey j top m (k+1))
noncomputable def Zjq (q:List Int)(top s:Nat):Nat->List Int->List Int->Bool
 |0,_,ZH=>ZkR ZH
 |j+1,r,ZH=>fL (Vf ZH r) fun J=>nxB q top s r fun M=>Zjq q top s j M J
noncomputable def ZoA (n:Nat)(q:List Int)(j:List Int)(top:Nat):Bool:=
 decide (2<=j.length) && decide (top+1<=n\/(n=1/\top=1)) && small j && decide (co j top=1) && Zey j top n 0 (YM top 0) && ZkR (Wz j (Z4 j top (top+1) (YM top 0))) &&
  (decide (n=1) || ZkR (ZmD n (Jn n q) (j++av (n-(top+1)) 0))) && q.all (fun p=>decide (p.toNat*(n / p.toNat)=n) && Zjq j top (n / p.toNat) p.toNat (YM top 0) [])
noncomputable def chk (n:Nat)(q:List Int):Bool:=X4 ([-1,1],1) q && fL (Jh n q) fun j=>ZoA n q j (j.length-1)
theorem Ul (j:List Int)(top:Nat):∀(m:Nat) (r:List Int),(Z4 j top m r).length=m
 |0,r=>rfl
 |m+1,r=>by rw[Z4,Zi,Ul j top m]
theorem JD (j:List Int)(top:Nat):∀(m:Nat) (r:List Int),nx j top (m+1) r=WV j top (nx j top m r)
 |0,r=>rfl
 |m+1,r=>by rw[nx,JD j top m (WV j top r),nx]
theorem Zh4 (j:List Int)(top a:Nat):∀(b:Nat) (r:List Int),nx j top (a+b) r=nx j top b (nx j top a r)
 |0,r=>rfl
 |b+1,r=>by rw[Nat.add_succ,JD,JD,Zh4 j top a b r]
theorem ZeA (j:List Int)(top:Nat):∀(m:Nat) (r:List Int) (k:Nat),k<m->ro (Z4 j top m r) k=nx j top k r
 |0,r,k,h=>absurd h (dI _)
 |m+1,r,0,h=>by rw[Z4,Zbd,nx]
 |m+1,r,k+1,h=>by rw[Z4,Zbe,ZeA j top m _ k (fw h),nx]
theorem Zco (j:List Int)(top:Nat):∀(m k:Nat) (r:List Int),Zey j top m k r=true->
  nx j top m r=YM top 0/\∀i,i<m->small (nx j top i r)=true/\(nx j top i r).length=top/\(k+i<top->nx j top i r=YM top (k+i))
 |0,k,r,h=>⟨of_decide_eq_true h,fun i J=>absurd J (dI _)⟩
 |m+1,k,r,h=>by
  rw[Zey,ZcX] at h;simp only[af,decide_eq_true_eq,bu] at h;obtain⟨⟨⟨M,O⟩,q⟩,Y⟩:=h;obtain⟨g1,g2⟩:=Zco j top m (k+1) _ Y;refine⟨by rw[nx];exact g1,fun i J=>?_⟩;cases i with
  |zero=>
   refine⟨M,O,fun z=>?_⟩;rcases q with q|q
   ·omega
   ·exact q
  |succ i=>
   obtain⟨q1,q2,q3⟩:=g2 i (fw J);rw[nx];exact⟨q1,q2,fun z=>by rw[q3 (by omega)];congr 1;omega⟩
theorem Xl (j:List Int)(top:Nat)(r:List Int)(i:Nat):co (WV j top r) i=(if i=0\/top<=i then 0 else co r (i-1))-co r (top-1)*co (j.take top) i:=by
 have e:co (0::r.take (top-1)) i=if i=0\/top<=i then 0 else co r (i-1):=by
  cases i with
  |zero=>rw[YH,if_pos (.inl rfl)]
  |succ i=>
   rw[Wh,dD];by_cases h:i<top-1
   ·rw[if_neg (by omega)]
    unfold co;rw[Zb,Zb,gq,if_pos h]
   ·rw[if_pos (by omega)]
    exact WG (by rw[bU];omega)
 unfold WV;rw[Wu,Vq,e,fU];omega
theorem Vj (j:List Int)(top:Nat){r:List Int}(h:∀i,co r i=0)(i:Nat):co (WV j top r) i=0:=by
 rw[Xl,h,h,bn];split <;> rfl
theorem ZcG (j:List Int)(top:Nat)(i:Nat):∀(Q:List (List Int)) (a:List Int),co (WV j top (Wz a Q)) i=co (Wz a (Q.map (WV j top))) i
 | [],a=>by
  rw[gc];refine (Vj j top (fun t=>?_) i).trans ?_
  ·rw[Wz];exact YI t
  ·rw[Wz];exact (YI i).symm
 |q::J,a=>by
  rw[aV,ZW,<-ZcG j top i J a.tail,Xl,Xl,Xl,ZW,ZW];by_cases h:i=0\/top<=i
  ·rw[if_pos h,if_pos h,if_pos h,iH,iG,ck]
   omega
  ·rw[if_neg h,if_neg h,if_neg h,iH,iG,ck]
   omega
theorem Zcn (j:List Int)(top:Nat):∀(m:Nat) (r:List Int),(Z4 j top m r).map (WV j top)=Z4 j top m (WV j top r)
 |0,r=>rfl
 |m+1,r=>by rw[Z4,aV,Zcn j top m,Z4]
theorem ZcN (q:List Int)(top j:Nat):∀(a:List Int) (m:Nat) (r:List Int),a.length<=m->co (Wz a (Z4 q top m r)) j=co (Wz a (Z4 q top a.length r)) j
 | [],m,r,h=>by rw[Xh,Xh]
 |x::a,0,r,h=>absurd h (Nat.not_succ_le_zero _)
 |x::a,m+1,r,h=>by
  rw[Zi,Z4,Z4,ZW,ZW,db,ZcN q top j a m _ (Nat.le_of_succ_le_succ h)]
theorem ZaB (j:List Int)(top:Nat):∀(b m:Nat) (r:List Int),(Z4 j top m r).drop b=Z4 j top (m-b) (nx j top b r)
 |0,m,r=>by rw[List.drop_zero,cW,nx]
 |b+1,0,r=>by rw[Nat.zero_sub,Z4,Z4,List.drop_nil]
 |b+1,m+1,r=>by rw[Z4,List.drop_succ_cons,ZaB j top b m,nx,Nat.add_sub_add_right]
theorem Zb9 (q:List Int)(top:Nat){r:List Int}(h:∀j,co (Wz q (Z4 q top q.length r)) j=0):∀(m j:Nat),co (Wz q (Z4 q top q.length (nx q top m r))) j=0
 |0,j=>h j
 |m+1,j=>by
  rw[JD,<-Zcn,<-ZcG];exact Vj q top (fun i=>Zb9 q top h m i) j
theorem Zem (q:List Int)(top s:Nat):∀(j:Nat) (r ZH:List Int),Zjq q top s j r ZH=true->∀i,co ZH i+ZG j (fun t=>co (nx q top (t*s) r) i)=0
 |0,r,ZH,h,i=>by rw[ZG,bF];exact ZbQ h i
 |j+1,r,ZH,h,i=>by
  rw[Zjq,ZcX,Zh5] at h;have:=Zem q top s j _ _ h i;rw[Wu] at this;rw[ZG,ft,nx];have e:(ZG j fun t=>co (nx q top ((t+1)*s) r) i)=ZG j fun t=>co (nx q top (t*s) (nx q top s r)) i:=by
   refine ZI _ _ _ fun t _=>?_;rw[<-Zh4,cC,ii]
  rw[e];omega
theorem XH (n:Nat)(R:List (List Int))(a s i:Nat):∀m:Nat,co (XQ n R a s m) i=ZG m fun t=>co (ro R ((a+t*s) % n)) i
 |0=>by rw[XQ,YI];rfl
 |m+1=>by
  have j:∀(m:Nat) (f:Nat->Int),ZG (m+1) f=ZG m f+f m:=by
   intro m;induction m with
   |zero=>intro f;rw[ZG,ZG,ZG];omega
   |succ m q=>
    intro f;rw[ZG,q,ZG];omega
  rw[XQ,Wu,XH n R a s i m,j]
theorem ZmE (n s:Nat)(j:0<n)(g:Nat->Int)(t:Nat):lk n s (fun t=>g ((t+(n-1)) % n)) t=lk n s g ((t+(n-1)) % n):=by
 unfold lk;have e:((t+(n-s)) % n+(n-1)) % n=((t+(n-1)) % n+(n-s)) % n:=by
  rw[dJ,dJ];congr 1;omega
 show g ((t+(n-1)) % n)-g (((t+(n-s)) % n+(n-1)) % n)=_;rw[e]
theorem ZeU (n:Nat)(q:0<n):∀(j:List Nat) (g:Nat->Int) (t:Nat),XN n j (fun t=>g ((t+(n-1)) % n)) t=XN n j g ((t+(n-1)) % n)
 | [],g,t=>rfl
 |s::j,g,t=>by
  show XN n j (lk n s fun t=>g ((t+(n-1)) % n)) t=XN n j (lk n s g) ((t+(n-1)) % n);rw[<-ZeU n q j (lk n s g) t];congr 1;funext u;exact ZmE n s q g u
theorem ZkD {n:Nat}{Y:List Int}(n1:1<=n)(h:chk n Y=true):Good n Y (Jh n Y) ((Jh n Y).length-1) (RT n Y):=by
 unfold chk at h;rw[af,ZcX] at h;obtain⟨a1,h⟩:=h;unfold RT;generalize Jh n Y=q at h ⊢;generalize M:q.length-1=top at h ⊢;unfold ZoA at h;simp only[af,bu,decide_eq_true_eq,aI] at h;obtain⟨⟨⟨⟨⟨⟨⟨h1,h2⟩,h3⟩,h4⟩,h5⟩,h6⟩,h7⟩,h8⟩:=h;have ll:q.length=top+1:=by omega
 obtain⟨m5,rr⟩:=Zco q top n 0 _ h5;have J:∀k,k<n->ro (Z4 q top n (YM top 0)) k=nx q top k (YM top 0):=fun k O=>ZeA q top n _ k O;have tl:∀m j,co (Wz q (Z4 q top q.length (nx q top m (YM top 0)))) j=0:=fun m j=>Zb9 q top (fun j=>by rw[ll];exact ZbQ h6 j) m j;have t1:1<=top:=by omega
 have tn:top<=n:=by omega
 have u0:∀i,co (YM top 0) i=if i=0 then 1 else 0:=fun i=>by
  by_cases hi:i<top
  ·exact Jb hi
  ·rw[WG (by unfold YM;rw[Za,Zg];omega),if_neg (by omega)]
 have n8:∀k,nx q top ((k+1) % n) (YM top 0)=WV q top (nx q top (k % n) (YM top 0)):=fun k=>by
  rw[<-JD];have O:=ba k (show n > 0 by omega);by_cases hc:k % n+1<n
  ·rw[<-dJ,aW hc]
  ·have e:k % n+1=n:=by omega
   rw[<-dJ,e,lh,m5,nx]
 refine⟨n1,a1,ll,t1,tn,h3,h4,Ul ..,fun i j=>?_,fun i hi=>by rw[J i hi];exact (rr i hi).2.1,fun k O=>?_,fun m hm j=>?_,?_,fun p hp a ha j=>?_,fun k O=>?_,fun p hp=>(h8 p hp).1⟩
 ·by_cases hi:i<n
  ·rw[J i hi]
   exact UQ (rr i hi).1 j
  ·rw[ZnQ (by rw[Ul];omega),YI];decide
 ·rw[J k (by omega)]
  have:=(rr k (by omega)).2.2 (by omega);rw[this,ig]
 ·rw[ZaB,ZcN q top j q _ _ (by omega)]
  exact tl m j
 ·
  have base:∀t,t<n->top+1<=n->XN n (Jn n Y) (co q) t=0:=fun t M h2=>by
   have h7:=h7.resolve_left (by omega);have e:=Zfi (n:=n) (Jn n Y) (q++av (n-(top+1)) 0) (by rw[Zd,Ze];omega) t M;rw[ZbQ h7 t] at e;refine Eq.trans (Wa n (by omega) _ _ _ (fun s hs=>?_) t M) e.symm;unfold co;rw[Zb,Zb,List.getElem?_append];by_cases m6:s<q.length
   ·rw[if_pos m6]
   ·rw[if_neg m6,ak (by omega),bX]
    split <;> rfl
  intro k;induction k with
  |zero=>
   intro O t M;refine Eq.trans (Wa n (by omega) _ _ (fun _=>0) (fun s hs=>?_) t M) (UE n _ t);rw[J 0 O,nx,u0];split <;> rfl
  |succ k ih=>
   intro O t M;have n9:top+1<=n:=by omega
   have o0:=ih (by omega);have hl:(nx q top k (YM top 0)).length=top:=(rr k (by omega)).2.1;have e:∀s,s<n->co (ro (Z4 q top n (YM top 0)) (k+1)) s-(if s=k+1 then 1 else 0) =
     (fun s=>(fun t=>co (ro (Z4 q top n (YM top 0)) k) t-if t=k then 1 else 0) ((s+(n-1)) % n)) s+(- co (nx q top k (YM top 0)) (top-1))*co q s:=fun s hs=>by
    rw[J (k+1) O,J k (by omega),JD,Xl];have ct:co (q.take top) s=if s<top then co q s else 0:=by
     by_cases h:s<top
     ·rw[if_pos h]
      unfold co;rw[Zb,Zb,gq,if_pos h]
     ·rw[if_neg h]
      exact WG (by rw[bU];omega)
    rw[ct];show _=co (nx q top k (YM top 0)) ((s+(n-1)) % n)-(if (s+(n-1)) % n=k then 1 else 0)+(- co (nx q top k (YM top 0)) (top-1))*co q s
    cases s with
    |zero=>
     have e0:(0+(n-1)) % n=n-1:=by rw[ig];exact aW (by omega)
     have c1:¬(0=k+1):=by omega
     have c2:¬(n-1=k):=by omega
     have c3:0<top:=t1;rw[e0,if_pos (.inl rfl),if_pos c3,if_neg c1,if_neg c2,WG (a:=nx q top k (YM top 0)) (i:=n-1) (by omega),fU];omega
    |succ s=>
     have e1:(s+1+(n-1)) % n=s:=by
      rw[show s+1+(n-1)=s+n by omega,gH,aW (by omega)]
     rw[e1,dD];have ei:(if s+1=k+1 then (1:Int) else 0)=if s=k then 1 else 0:=by
      by_cases z:s=k
      ·rw[if_pos z,if_pos (by omega)]
      ·rw[if_neg z,if_neg (by omega)]
     rw[ei,fU];by_cases c1:s+1<top
     ·rw[if_neg (by omega),if_pos c1]
      omega
     ·rw[if_pos (.inr (by omega)),if_neg c1,bE]
      by_cases c2:s+1=top
      ·have:co q (s+1)=1:=by rw[c2];exact h4
       rw[this,show top-1=s by omega,fe];omega
      ·rw[WG (a:=q) (by omega),WG (a:=nx q top k (YM top 0)) (i:=s) (by omega),bE]
       omega
   rw[Wa n (by omega) _ _ _ e t M,ZbA n _ (fun s=>(fun t=>co (ro (Z4 q top n (YM top 0)) k) t-if t=k then 1 else 0) ((s+(n-1)) % n)) (fun s=>(- co (nx q top k (YM top 0)) (top-1))*co q s) t,ZeU n (by omega) _ (fun t=>co (ro (Z4 q top n (YM top 0)) k) t-if t=k then 1 else 0) t,Zbz,base t M n9,
    o0 _ (ba _ (by omega)),bE,bF]
 ·
  rw[XH];have hb:=Zem q top (n / p.toNat) p.toNat _ _ (h8 p hp).2;have hd:=(h8 p hp).1;have o5:∀a,a<n->∀i,(ZG p.toNat fun t=>co (nx q top ((a+t*(n / p.toNat)) % n) (YM top 0)) i)=0:=by
   intro a;induction a with
   |zero=>
    intro _ i;have:=hb i;rw[YI,cG] at this;rw[<-this];refine ZI _ _ _ fun t M=>?_;have:t*(n / p.toNat)<n:=by
     have:t*(n / p.toNat)+(n / p.toNat)<=p.toNat*(n / p.toNat):=by
      rw[<-cC];exact ef _ M
     have o7:0<n / p.toNat:=by
      rcases Nat.eq_zero_or_pos (n / p.toNat) with z|z
      ·rw[z,Nat.mul_zero] at hd;omega
      ·exact z
     omega
    rw[ig,aW this]
   |succ a ih=>
    intro ha i;have m8:=ih (by omega);have e:(ZG p.toNat fun t=>co (nx q top ((a+1+t*(n / p.toNat)) % n) (YM top 0)) i)=ZG p.toNat fun t=>co (WV q top (nx q top ((a+t*(n / p.toNat)) % n) (YM top 0))) i:=by
     refine ZI _ _ _ fun t _=>?_;rw[show a+1+t*(n / p.toNat)=a+t*(n / p.toNat)+1 by omega,n8]
    have n6:∀(m:Nat) (f g:Nat->Int) (c:Int),ZG m (fun t=>f t-g t*c)=ZG m f-ZG m g*c:=by
     intro m;induction m with
     |zero=>intro f g c;simp[ZG]
     |succ m ih=>intro f g c;rw[ZG,ZG,ZG,ih (fun t=>f (t+1)) (fun t=>g (t+1)) c,iH];omega
    rw[e];simp only[Xl];rw[n6 _ (fun t=>if i=0\/top<=i then 0 else co (nx q top ((a+t*(n / p.toNat)) % n) (YM top 0)) (i-1)) (fun t=>co (nx q top ((a+t*(n / p.toNat)) % n) (YM top 0)) (top-1)),m8 (top-1),bn,io]
    by_cases hc:i=0\/top<=i
    ·simp only[if_pos hc]
     exact YU _ _ fun _ _=>rfl
    ·simp only[if_neg hc]
     exact m8 (i-1)
  rw[<-o5 a ha j];refine ZI _ _ _ fun t M=>?_;rw[J _ (ba _ (by omega))]
 ·
  apply ah;intro hz;have z0:∀j,co (nx q top k (YM top 0)) j=0:=fun j=>by
   by_cases hj:j<top
   ·apply ah
    intro o6;exact hz ⟨j,hj,by rw[J k O];exact o6⟩
   ·exact WG (by rw[(rr k O).2.1];omega)
  have all:∀d j,co (nx q top (k+d) (YM top 0)) j=0:=by
   intro d;induction d with
   |zero=>exact z0
   |succ d ih=>intro j;rw[<-kA,JD];exact Vj q top ih j
  have:=all (n-k) 0;rw[show k+(n-k)=n by omega,m5,u0,if_pos rfl] at this;cases this
noncomputable def X2 (n top:Nat)(R:List (List Int))(q:List Int):List Int:=(ac top).map fun j=>sig n R j q 0
theorem Jr (n top:Nat)(R:List (List Int))(j:List Int):(X2 n top R j).length=top:=by unfold X2;rw[Za,Zg]
theorem ZbP {n top:Nat}{R:List (List Int)}{q:List Int}{j:Nat}(h:j<top):co (X2 n top R q) j=sig n R j q 0:=by
 unfold X2 co;rw[Zb,Zc,ao h];rfl
theorem ZmP {a b:List Int}(h:a.length=b.length)(e:∀j,j<a.length->co a j=co b j):a=b:=by
 refine bq fun i=>?_;by_cases q:i<a.length
 ·rw[Wp q,Wp (by omega),e i q]
 ·rw[ak (by omega),ak (by omega)]
section
variable {n:Nat}{ps least:List Int}{top:Nat}{R:List (List Int)}(G:Good n ps least top R)
include G
theorem Zht {cur:List Int}{k:Nat}(q:cur.length=n)(J:k<n)(M:top<=k):(U1 least (k-top) (co cur k) cur).length=n/\(∀j,co (Wz (U1 least (k-top) (co cur k) cur) R) j=co (Wz cur R) j)/\
  co (U1 least (k-top) (co cur k) cur) k=0/\∀t,k<t->co (U1 least (k-top) (co cur k) cur) t=co cur t:=by
 have hb:k-top+least.length<=cur.length:=by rw[G.l2,q];omega
 have O:=G.l2;refine⟨by rw[ZeJ,q],fun j=>?_,?_,fun t Y=>?_⟩
 ·rw[ZeX _ _ _ _ _ _ hb,G.tails (k-top) (by omega) j,bE,io]
 ·rw[ZdP _ _ _ _ _ hb,if_pos ⟨by omega,by omega⟩,show k-(k-top)=top by omega,G.mon,fe,ly]
 ·rw[ZdP _ _ _ _ _ hb,if_neg (by omega)]
theorem ZjB {cur f:List Int}(hl:cur.length=n)(hz:∀t,top<=t->co cur t=0)(hP:∀j,co (Wz cur R) j=co (Wz f R) j)(qs:List Int)(hf:f=Wb n qs):cur.take top=X2 n top R qs:=by
 have q:(cur.take top).length=top:=by rw[bU,hl];have:=G.tn;omega
 refine ZmP (by rw[q,Jr]) fun j J=>?_;rw[q] at J;have M:0<n:=G.n1;rw[ZbP J,<-Zav n M,<-hf,<-hP j,Xg];have O:j<n:=aG J G.tn;rw[Jm _ j _ (by rw[G.len];exact O) fun t ht Y=>?_]
 ·rw[G.un j J,Jb J,if_pos rfl,fe]
  unfold co;rw[Zb,Zb,gq,if_pos J]
 ·by_cases h:t<top
  ·rw[G.un t h,Jb J,if_neg (bd Y),bE]
  ·rw[hz t (by omega),bn]
end
theorem VG (n:Nat):∀(xs:List Int) (k:Nat) (ZH:List Int),ZH.length=n->k+xs.length<=n->(∀t,k<=t->co ZH t=0)->∀t,co (J1 n xs k ZH) t=if t<k then co ZH t else co xs (t-k)
 | [],k,ZH,q,J,j,t=>by
  rw[J1,YI];split
  ·rfl
  ·exact j t (by omega)
 |x::xs,k,ZH,q,J,j,t=>by
  rw[Zi] at J;have e:k % n=k:=aW (by omega);rw[J1,e,j k (Zq _),cG,VG n xs (k+1) _ (by rw[a9,q]) (by omega) (fun s Y=>by rw[ZbO,if_neg (by omega)];exact j s (by omega)) t,ZbO];by_cases O:t=k
  ·subst O
   rw[if_pos (cL _),if_pos ⟨rfl,by omega⟩,if_neg (bV _),cD,YH]
  ·by_cases M:t<k
   ·rw[if_pos (by omega),if_neg (by omega),if_pos M]
   ·rw[if_neg (by omega),if_neg M,show t-k=(t-(k+1))+1 by omega,Wh]
theorem J5 {n:Nat}{xs:List Int}(h:xs.length<=n)(t:Nat):co (Wb n xs) t=co xs t:=by
 unfold Wb;rw[VG n xs 0 _ (cQ ..) (by omega) (fun s _=>?_) t,if_neg (dI _),cW];unfold co;rw[Zb,bX];split <;> rfl
section
variable {n:Nat}{ps least:List Int}{top:Nat}{R:List (List Int)}(G:Good n ps least top R)
include G
theorem Zie (j:List Int)(k:Nat)(O:k<n):XN n (Jn n ps) (fun t=>co (Wb n (X2 n top R j)) t-co (Wb n j) t) k=0:=by
 have q:0<n:=G.n1;have e:∀t,t<n->co (Wb n (X2 n top R j)) t-co (Wb n j) t=co (Wz (Wb n j) ((ac n).map (ZgI n R))) t:=fun t M=>by
  rw[J5 (by rw[Jr];exact G.tn),Xg,Za,Zg];have e1:co (X2 n top R j) t=ZG n fun s=>co (Wb n j) s*co (ro R s) t:=by
   have:=Xg t R (Wb n j);rw[G.len] at this;rw[<-this];by_cases h:t<top
   ·rw[ZbP h,Zav n q]
   ·rw[WG (by rw[Jr];omega),this]
    refine (YU _ _ fun s J=>?_).symm;rw[WG (a:=ro R s) (by rw[G.rlen s J];omega),bE]
  have e2:co (Wb n j) t=ZG n fun s=>co (Wb n j) s*(if t=s then 1 else 0):=by
   rw[Jm n t _ M fun s J Y=>by rw[if_neg (bd Y),bE],if_pos rfl,fe]
  rw[e1]
  conv=>lhs;rw[e2]
  rw[<-Uc];refine ZI _ _ _ fun s J=>?_;have er:ro ((ac n).map (ZgI n R)) s=ZgI n R s:=by
   unfold ro;rw[Zb,Zc,ao J];rfl
  have z:co (av n (0:Int)) t=0:=by
   unfold co;rw[Zb,bX];split <;> rfl
  rw[er];unfold ZgI;rw[Wu,Wu,Vq,z,Jb M,<-iG];congr 1;split <;> omega
 rw[Wa n q _ _ _ e k O];refine ZeV n _ k _ _ fun r hr=>?_;obtain⟨s,J,rfl⟩:=aN.mp hr;have m5:=ag.mp J;rw[<-G.look s m5 k O];refine Wa n q _ _ _ (fun t M=>?_) k O;have z:co (av n (0:Int)) t=0:=by
  unfold co;rw[Zb,bX];split <;> rfl
 unfold ZgI;rw[Wu,Wu,Vq,z,Jb M];omega
end
end Num
set_option maxHeartbeats 4000000
namespace N51
open PySem L2 PySem.Spec PyProof.Rows
open Num
noncomputable abbrev ZnH:Stmt:=top 14
noncomputable abbrev ZnI:Stmt:=top 15
noncomputable abbrev Zhg:Stmt:=top 16
noncomputable abbrev Zhe:Stmt:=top 17
structure Bl2 (mg:Str->Option Value):Prop where
 enumerate:mg "enumerate"=none
 max:mg "max"=none
theorem ZbG {a:List Int}{i:Nat}(h:i<a.length):Vd (a.map V.int) (i:Int)=some (.int (co a i)):=ZK (by rw[Zc,Wp h];rfl)
theorem XX (a:List Int)(i:Nat)(v:Int):(a.map V.int).set i (V.int v)=(a.set i v).map V.int:=by rw[kD]
theorem X3 {a:List Int}{i:Nat}{y:V}(h:(a.map V.int)[i]?=some y):i<a.length/\y=.int (co a i):=by
 rw[Zc] at h;by_cases j:i<a.length
 ·rw[Wp j] at h
  exact⟨j,(aA h).symm⟩
 ·rw[ak (by omega)] at h
  cases h
theorem X5 {n i:Nat}(h:i<n):ixN n (i:Int)=some i:=by
 unfold ixN;rw[if_pos (dE _),if_pos (by omega),Zj]
theorem Zbg (m:Nat):(av m [V.int 0]).flatten=(av m (0:Int)).map V.int:=Zhs m
theorem ZbH {X:Cx}:Zm9 X (fun x y H Q=>∃(p:Addr) (xs:List V) (i:Nat) (v:V),x=.ref p/\y=.int i/\H p=some (.lst xs)/\xs[i]?=some v/\Q v H):=by
 intro J s σ H x y O iv Q I Y ry h;obtain⟨p,xs,i,v,rfl,rfl,hp,M,q⟩:=h;cases (show O=aC p from Y);obtain⟨t,rfl⟩:=ry;obtain⟨m5,r,pl,hz⟩:=I.list (.of hp);obtain⟨w,ew,j⟩:=r.get M;have hl:=r.length;have hn:=XE;have hi:i<xs.length:=(ae.mp M).1;exact wpAny_getItem_list pl.isList (dE _) (by omega) (by simpa using ew) ⟨v,H,I,j,q⟩
inductive ZgX (K:aa) (vs:List V) (H:Hp) (Q:VK) (E03:XK):Prop
 |mk (a:Addr) (ps:List Int) (st:Nat):(vs=[.ref a,.int st])->(W2 K H a (ps.map V.int))->(1<=ps.length)->((ps.length-1)*st<=100000)->(ps.length<=1000)->(st<=1000)->(∀l H',Zv H H'->H' l=some (.lst ((stM ps st).map V.int))->Q (.ref l) H')->ZgX K vs H Q E03
section
variable {P:Program}{w:World}{K:aa}{mg:Str->Option Value}{base:Heap}
theorem Zmo {f:Addr}{fd:FuncData}(F:WI K "stretched" "stretched" ZnH f fd)(T:Bl mg)(T2:Bl2 mg):Ya P w K mg base Ym 1 f fd ["powers", "step"] (ZgX K):=by
 refine F.ok (FS (N:=["powers", "step", "wide", "k", "x"])) (fun vs H Q E h=>?_) (fun m8 A m5 s H vs Q E hr h=>?_)
 ·obtain⟨a,j,st,rfl,_⟩:=h;rfl
 ·obtain⟨a,j,st,rfl,hS,hl,hb,n6,n8,q⟩:=h
  refine⟨_,Zs (ZE 2 rfl (Zy WD (ZQ (pc Zx Zu)) (Zy Yr (Zy ZN (Zy YC (cb (Yx K) T.len (pc (vn 0) Zu)) Zx) (vn 1)) Zx)))
   (Zs (ZM am rfl (UJ K T2.enumerate (pc (vn 0) Zu)) (g2 K 3 4 rfl (gn 3) (gn 4))
    (Zw (Jf (vn 4) (JC (vn 2) (Zy ZN (vn 3) (vn 1)) YB))))
   (Zw (ZJ (vn 2)))),?_⟩
  refine⟨(by show 1<=sizeLine;decide),fun l0 n0=>?_⟩;have s0:Zv H (upd H l0 (.lst [.int 0])):=Zv.upd n0;refine⟨_,rfl,a,_,rfl,.inl (s0.seq hS),_,_,rfl,rfl,_,rfl,_,_,rfl,rfl,.inl ⟨?_,?_⟩,_,_,rfl,rfl,l0,_,_,rfl,rfl,Zt,?_,?_,?_,fun l nl=>?_⟩
  ·rw[Za];omega
  ·rw[Za];omega
  ·rw[Za];have:(0:Int)<=((j.length:Int)-1)*st:=Int.mul_nonneg (by omega) (by omega);omega
  ·rw[Za]
   have:((j.length:Int)-1)*st=(((j.length-1)*st:Nat):Int):=by rw[aF];congr 1;omega
   omega
  ·rw[Za]
   have:((j.length:Int)-1)*st=(((j.length-1)*st:Nat):Int):=by rw[aF];congr 1;omega
   rw[this];show 1*_<=sizeLine;have e:(16777216:Nat)=sizeLine:=by decide
   omega
  have eN:(((j.map V.int).length:Int)-1)*st+1=(((j.length-1)*st+1:Nat):Int):=by
   rw[Za,dM,aF];congr 2;omega
  rw[eN,Zj,Zbg];have m6:H l=none:=s0.free nl;have s1:=s0.trans (Zv.upd (o:=.lst ((av ((j.length-1)*st+1) (0:Int)).map V.int)) nl);refine⟨_,rfl,a,rfl,.inl ⟨⟨_,s1.seq hS⟩,?_⟩⟩;refine WX UL (fun i O H'=>∃(J:List Int) (v3 v4:Option V),O=[some (.ref a),some (.int st),some (.ref l),v3,v4]/\Zv H H'/\H' l=some (.lst (J.map V.int))/\J.length=(j.length-1)*st+1/\stN st (j.drop i) i J=stM j st)
   ⟨_,_,_,rfl,s1,Zt,cQ ..,rfl⟩ (fun i O H' h=>h.choose_spec.choose_spec.choose_spec.2.1.seq hS) ?_ ?_
  ·rintro i y O H' T' hy ⟨J,v3,v4,rfl,sm,Y,hlen,M⟩ nT
   obtain⟨hi,rfl⟩:=X3 hy;refine⟨T',_,rfl,.of Zt,rfl,_,_,rfl,_,_,rfl,rfl,_,rfl,_,rfl,_,rfl,_,rfl,_,_,rfl,rfl,.inl ⟨by omega,by omega⟩,l,_,_,i*st,rfl,rfl,Zv.upd nT _ _ Y,?_,?_⟩
   rotate_left
   ·have n9:i*st<J.length:=by
     rw[hlen];have:i*st<=(j.length-1)*st:=ef _ (by omega);omega
    refine⟨J.set (i*st) (co j i),_,_,rfl,(sm.trans (Zv.upd nT)).updr m6,?_,?_,?_⟩
    ·rw[Zt,XX]
    ·rw[a9];exact hlen
    ·rw[<-M]
     have:j.drop i=co j i::j.drop (i+1):=by
      rw[ce hi];congr 1;have:=Wp hi;rw[Zf hi] at this;exact aA this
     rw[this,Num.stN]
   ·rw[Za]
    have:((i:Int)*(st:Int))=((i*st:Nat):Int):=by rw[aF]
    rw[this];refine X5 ?_;rw[hlen];have:i*st<=(j.length-1)*st:=ef _ (by omega);omega
  ·rintro O H' ⟨J,v3,v4,rfl,sm,Y,hlen,M⟩
   rw[Za,fH,Num.stN] at M;rw[M] at Y;exact⟨_,rfl,q l H' sm Y⟩
end
inductive ZgZ (K:aa) (vs:List V) (H:Hp) (Q:VK) (E03:XK):Prop
 |mk (a b:Addr) (ps ds:List Int):(vs=[.ref a,.ref b])->(W2 K H a (ps.map V.int))->(W2 K H b (ds.map V.int))->(1<=ds.length)->(ds.length<=ps.length)->(ps.length<=100000)->(small ds=true)->(∀l H',Zv H H'->H' l=some (.lst ((ZeI ps ds).map V.int))->Q (.ref l) H')->ZgZ K vs H Q E03
theorem V1 {j:List Int}{i:Nat}(q:i<j.length):j.drop i=co j i::j.drop (i+1):=by
 rw[ce q];congr 1;have:=Wp q;rw[Zf q] at this;exact aA this
theorem Zd1 {a:List Int}{i:Nat}(h:i<a.length):(a.map V.int)[i]?=some (.int (co a i)):=by rw[Zc,Wp h];rfl
section
variable {P:Program}{w:World}{K:aa}{mg:Str->Option Value}{base:Heap}
theorem Zmq {f:Addr}{fd:FuncData}(F:WI K "quotient" "quotient" ZnI f fd)(T:Bl mg)(T2:Bl2 mg):Ya P w K mg base Ym 1 f fd ["powers", "divisor"] (ZgZ K):=by
 refine F.ok (FS (N:=["powers", "divisor", "rest", "top", "found", "k", "j", "x"])) (fun vs H Q E h=>?_) (fun t6 A p4 s H vs Q E hr h=>?_)
 ·obtain⟨a,b,Y,ds,rfl,_⟩:=h;rfl
 ·obtain⟨a,b,Y,ds,rfl,hA,hB,t7,t9,u5,p6,q⟩:=h
  refine⟨_,Zs (ZE 2 rfl (ct JI T.list (pc (vn 0) Zu)))
   (Zs (ZE 3 rfl (Zy YC (cb (Yx K) T.len (pc (vn 1) Zu)) Zx))
   (Zs (ZE 4 rfl (Zy WD (ZQ (pc Zx Zu)) (Zy YC (cb (Yx K) T.len (pc (vn 2) Zu)) (vn 3))))
   (Zs (ZM am rfl (ZnS T.range (pc (Zy YC (cb (Yx K) T.len (pc (vn 4) Zu)) Zx) (pc (X1 Jy Zx) (pc (X1 Jy Zx) Zu)))) (gn 5)
    (Zs (Jf (ZF (Ji K) (vn 2) (Zy Yr (vn 5) (vn 3)) (fun _ _=>rfl)) (JC (vn 4) (vn 5) YB))
    (Zw (ZM am rfl (UJ K T2.enumerate (pc (vn 1) Zu)) (g2 K 6 7 rfl (gn 6) (gn 7))
     (Zw (VX (vn 2) (Zy Yr (vn 5) (vn 6)) ZbH (Zy ZN (ZF (Ji K) (vn 4) (vn 5) (fun _ _=>rfl)) (vn 7)) Zin YB))))))
   (Zw (ZJ (vn 4)))))),?_⟩
  refine⟨_,rfl,a,_,rfl,.inl hA,fun r nr=>?_⟩;have s1:Zv H (upd H r (.lst (Y.map V.int))):=Zv.upd nr;refine⟨_,rfl,b,_,rfl,.inl (s1.seq hB),_,_,rfl,rfl,?_⟩;refine⟨(by show 1<=sizeLine;decide),fun l0 n0=>?_⟩;have s2:=s1.trans (Zv.upd (o:=.lst [.int 0]) n0);refine⟨_,rfl,r,_,rfl,.inl (.of (Zv.upd n0 _ _ Zt)),_,rfl,_,_,rfl,rfl,l0,_,_,rfl,rfl,Zt,?_,?_,?_,fun l nl=>?_⟩
  ·rw[Za,Za];omega
  ·rw[Za,Za];omega
  ·rw[Za,Za]
   show 1*_<=sizeLine;have e:(16777216:Nat)=sizeLine:=by decide
   omega
  have eN:(((Y.map V.int).length:Int)-(((ds.map V.int).length:Int)-1)).toNat=Y.length-(ds.length-1):=by rw[Za,Za];omega
  rw[eN,Zbg];have p7:H r=none:=nr;have p8:H l=none:=s2.free nl;have o5:l≠r:=fun z=>by
   rw[z,Zz (fun z2=>by rw[z2,Zt] at n0;cases n0),Zt] at nl;cases nl
  have s3:=s2.trans (Zv.upd (o:=.lst ((av (Y.length-(ds.length-1)) (0:Int)).map V.int)) nl);generalize hN:Y.length-(ds.length-1)=N at *;have q0:(upd (upd (upd H r (.lst (Y.map V.int))) l0 (.lst [.int 0])) l (.lst ((av N (0:Int)).map V.int))) r=some (.lst (Y.map V.int)):=Zv.upd nl _ _ (Zv.upd n0 _ _ Zt);refine⟨_,rfl,l,_,rfl,.inl (.of Zt),_,_,rfl,rfl,_,rfl,_,rfl,_,_,rfl,⟨by rw[Za,Ze];omega,by rw[Za,Ze];omega,by decide,by decide⟩,?_⟩;rw[Za,Za,Ze];have e2:(((N:Int)-1)-(-1)).toNat=N:=by omega
  rw[e2];refine ZcV (fun i n6 H'=>∃(J rest:List Int) (v5 v6 v7:Option V),n6=[some (.ref a),some (.ref b),some (.ref r),some (.int ((ds.length:Int)-1)),some (.ref l),v5,v6,v7]/\Zv H H'/\H' l=some (.lst (J.map V.int))/\H' r=some (.lst (rest.map V.int))/\
    J.length=N/\rest.length=Y.length/\ZhC ds (ds.length-1) (N-i) J rest=ZeI Y ds)
   ⟨_,_,_,_,_,rfl,s3,Zt,q0,cQ ..,rfl,by rw[cW,ZeI,hN]⟩ ?_ ?_
  ·rintro i n6 H' hi ⟨J,rest,v5,v6,v7,rfl,sm,m6,n8,o6,o7,hq⟩
   generalize hk:N-1-i=k;have ek:(N:Int)-1-(i:Int)=(k:Int):=by omega
   rw[ek];have u9:k<N:=by omega
   have r6:N-i=k+1:=by omega
   rw[r6,ZhC] at hq;have o8:k+(ds.length-1)<rest.length:=by omega
   refine⟨_,rfl,_,rfl,_,rfl,_,_,rfl,rfl,r,_,_,.int (co rest (k+(ds.length-1))),rfl,rfl,.of n8,?_,_,rfl,_,rfl,l,_,_,k,rfl,rfl,m6,?_,?_⟩
   ·have:(k:Int)+((ds.length:Int)-1)=((k+(ds.length-1):Nat):Int):=by omega
    rw[this];exact ZbG o8
   ·rw[Za];exact X5 (by omega)
   generalize hc:co rest (k+(ds.length-1))=c at hq ⊢;rw[XX];have sm1:Zv H (upd H' l (.lst ((J.set k c).map V.int))):=sm.updr p8;have r8:(upd H' l (.lst ((J.set k c).map V.int))) r=some (.lst (rest.map V.int)):=by rw[Zz (bd o5)];exact n8
   have t5:co (J.set k c) k=c:=by rw[ZbO,if_pos ⟨rfl,by omega⟩]
   refine⟨_,rfl,b,rfl,.inl ⟨⟨_,sm1.seq hB⟩,?_⟩⟩;refine WX UL (fun j M O=>∃(cur:List Int) (u6 u7:Option V),M=[some (.ref a),some (.ref b),some (.ref r),some (.int ((ds.length:Int)-1)),some (.ref l),some (.int k),u6,u7]/\Zv H O/\O l=some (.lst ((J.set k c).map V.int))/\O r=some (.lst (cur.map V.int))/\
     cur.length=Y.length/\U1 (ds.drop j) (k+j) c cur=U1 ds k c rest)
    ⟨_,_,_,rfl,sm1,Zt,r8,o7,rfl⟩ (fun j M O h=>h.choose_spec.choose_spec.choose_spec.2.1.seq hB) ?_ ?_
   ·rintro j y M O T' hy ⟨cur,u6,u7,rfl,VT,m5,n9,o0,m8⟩ nT
    obtain⟨hj,rfl⟩:=X3 hy;have kj:k+j<cur.length:=by omega
    have o9:=Zv.upd (o:=.tup [.int j,.int (co ds j)]) nT _ _ n9;have p3:=Zv.upd (o:=.tup [.int j,.int (co ds j)]) nT _ _ m5;have cb:=UQ p6 j;refine⟨T',_,rfl,.of Zt,rfl,_,_,rfl,_,_,rfl,rfl,_,rfl,_,rfl,_,rfl,_,_,rfl,rfl,r,_,k+j,.int (co cur (k+j)),rfl,congrArg V.int (by omega),o9,Zd1 kj,
     _,rfl,_,rfl,l,_,_,.int c,rfl,rfl,.of p3,?_,_,rfl,_,_,rfl,rfl,.inr ⟨by omega,by omega⟩,_,_,rfl,rfl,r,_,_,k+j,rfl,congrArg V.int (show (k:Int)+(j:Int)=((k+j:Nat):Int) by omega),o9,?_,?_⟩
    ·have:=ZbG (a:=J.set k c) (i:=k) (by rw[a9];omega)
     rw[t5] at this;exact this
    ·rw[Za];exact X5 kj
    ·refine⟨cur.set (k+j) (co cur (k+j)-c*co ds j),_,_,rfl,(VT.trans (Zv.upd nT)).updr p7,?_,?_,?_,?_⟩
     ·rw[Zz o5];exact p3
     ·rw[Zt,XX]
     ·rw[a9];exact o0
     ·rw[<-m8,V1 hj,Num.U1]
      rfl
   ·rintro M O ⟨cur,u6,u7,rfl,VT,m5,n9,o0,m8⟩
    rw[Za,fH,Num.U1] at m8;refine⟨J.set k c,cur,_,_,_,rfl,VT,m5,n9,by rw[a9];exact o6,o0,?_⟩;rw[show N-(i+1)=k by omega,m8];exact hq
  ·rintro n6 H' ⟨J,rest,v5,v6,v7,rfl,sm,m6,n8,o6,o7,hq⟩
   rw[cD,Num.ZhC] at hq;rw[hq] at m6;exact⟨_,rfl,q l H' sm m6⟩
end
end N51
namespace L2
open PySem PySem.Spec PyProof.Rows
section
variable {X:Cx}
noncomputable def Zir (K:aa)(ta:TA):TI:=fun σ H R=>ta σ H fun vs M=>∃a q j,vs=[.ref a]/\(W2 K j a q\/XM K j a q)/\Zv j M/\∀J O,Zi3 J O q->(∀Y,Zv j Y->O Y)->R J M
theorem ZmR {elts:List Expr}{x1}{pt:Pos}{l:Expr}{ta:TA}{p pos:Pos}(hm:X.mg "enumerate"=none)(ha:PA X [l] ta)(hg:Y9 X.env.scope "enumerate"=true:=by kernel_rfl)(hs:starEach [l] X.env=[(false,eval l X.env)]:=by rfl) :
  PI X (.Tuple elts x1 pt) (.Call (.Name "enumerate" p) [l] [] pos) (Zir X.K ta):=by
 intro M s σ H R I h;refine Call_ (JF I (Xw hg) hm (show bootBuiltins "enumerate"=some (.type "enumerate") by kernel_rfl) (bA (Yq (ha pos M s σ H _ I h) fun us s1 ⟨vs,H1,j,r1,q1⟩=>?_) hs rfl));obtain⟨a,xs,Hx,e,J,sm,q⟩:=q1;subst e;cases r1 with
 |cons r rr=>
  cases rr;cases (show _=aC a from r);have sz:∀b,b∈[s1.heap.objs.size+1,s1.heap.objs.size]->s1.heap.objs.size<=b:=fun b hb=>by
   rcases aH.mp hb with rfl|hb
   ·exact gG _
   ·have:b=s1.heap.objs.size:=by simpa using hb
    rw[this];exact Zq _
  rcases J with J|J
  ·obtain⟨O,rv,p,hz⟩:=j.list (sm.seq J)
   refine call_enumerate_list p.isList fun g ge Y gs gk=>eh ge ?_;exact⟨_,[s1.heap.objs.size+1,s1.heap.objs.size],_,_,H1,rfl,j.kept (t':=s1.toks) gk,Ua a _ _ (bh (cL _)),⟨⟨_,ge⟩,Y⟩,fun b hb=>j.fpOk (sz b hb) (j.hok.fresh (sz b hb)),q _ _ UL fun H' s'=>s'.seq J⟩
  ·obtain⟨O,rv,p,hz⟩:=j.tuple (sm.tup J)
   refine PyY.UX (show s1.heap.IsTuple a O.toArray from p) fun g ge Y gs gk=>eh ge ?_;exact⟨_,[s1.heap.objs.size+1,s1.heap.objs.size],_,_,H1,rfl,j.kept (t':=s1.toks) gk,V9 a _ _ (bh (cL _)),⟨⟨_,ge⟩,Y⟩,fun b hb=>j.fpOk (sz b hb) (j.hok.fresh (sz b hb)),q _ _ ZbL fun H' s'=>s'.tup J⟩
theorem ZmS (K:aa){elts:List Expr}{q}{pt:Pos}{l:Expr}{j:TA}{p pos:Pos}(J:X.mg "enumerate"=none)(M:PA X [l] j)(O:X.K=K:=by rfl)(Y:Y9 X.env.scope "enumerate"=true:=by kernel_rfl)(hs:starEach [l] X.env=[(false,eval l X.env)]:=by rfl) :
  PI X (.Tuple elts q pt) (.Call (.Name "enumerate" p) [l] [] pos) (Zir K j):=O▸ZmR J M Y hs
end
end L2
namespace N51
open PySem L2 PySem.Spec PyProof.Rows
open Num
noncomputable def lsN (n:Nat):List Int:=Jh n (Yp n)
noncomputable def Wv (n:Nat):Nat:=(lsN n).length-1
noncomputable def RN (n:Nat):List (List Int):=RT n (Yp n)
noncomputable def X8 (n:Nat):Bool:=Num.chk n (Yp n) && decide (((Num.Jh n (Yp n)).length:Int)=Zcy n+1)
theorem Zoz:([1,2,3,4,5,6,7,8,9,10,11,12,13,14,15,16].all X8)=true:=by decide +kernel
theorem Zoy:([17,18,19,20,21,22,23,24].all X8)=true:=by decide +kernel
theorem Zox:([25,26,27,28,29,30].all X8)=true:=by decide +kernel
theorem Zow:([31,32,33,34,35].all X8)=true:=by decide +kernel
theorem Zov:([36,37,38,39,40].all X8)=true:=by decide +kernel
theorem Zou:([41,42,43,44].all X8)=true:=by decide +kernel
theorem Zot:([45,46,47].all X8)=true:=by decide +kernel
theorem Zos:([48,49,50].all X8)=true:=by decide +kernel
theorem Zor:([51,52,53].all X8)=true:=by decide +kernel
theorem Zoq:([54,55,56].all X8)=true:=by decide +kernel
theorem ZmZ:([57,58].all X8)=true:=by decide +kernel
theorem ZmY:([59,60].all X8)=true:=by decide +kernel
theorem all2 {p:Nat->Bool}{a b:List Nat}(h:a.all p=true)(g:b.all p=true):(a++b).all p=true:=by rw[List.all_append,h,g];rfl
theorem ZmX {n:Nat}(j:1<=n)(q:n<=60):X8 n=true:=aI.mp (all2 Zoz (all2 Zoy (all2 Zox (all2 Zow (all2 Zov (all2 Zou (all2 Zot (all2 Zos (all2 Zor (all2 Zoq (all2 ZmZ ZmY))))))))))) n (by
 show n∈dw 1 60;exact List.mem_range'_1.mpr ⟨j,by omega⟩)
theorem ZaA {n:Nat}(j:1<=n)(q:n<=60):Good n (Yp n) (lsN n) (Wv n) (RN n)/\(Wv n:Int)=Zcy n:=by
 have h:=ZmX j q;unfold X8 at h;rw[af] at h;have g:=ZkD j h.1;refine⟨g,?_⟩;have e:=of_decide_eq_true h.2;have:=g.l2;unfold Wv lsN;omega
inductive Za1 (vs:List V) (H:Hp) (Q:VK) (E03:XK):Prop
 |mk (n:Nat):(vs=[.int n])->(1<=n)->(n<=60)->(∀l H',Zv H H'->H' l=some (.lst ((lsN n).map V.int))->Q (.ref l) H')->Za1 vs H Q E03
inductive ZaY (K:aa) (vs:List V) (H:Hp) (Q:VK) (E03:XK):Prop
 |mk (n:Nat) (a:Addr) (ws:List Int):(vs=[.int n,.ref a])->(1<=n)->(n<=60)->((W2 K H a (ws.map V.int)\/XM K H a (ws.map V.int)))->(ws.length<=100000)->(∀q H',Zv H H'->H' q=some (.tup ((X2 n (Wv n) (RN n) ws).map V.int))->Q (.ref q) H')->ZaY K vs H Q E03
theorem ZiJ (xs:List V){k:Nat}(h:k<=xs.length):X6 xs none (some (k:Int))=xs.take k:=by
 unfold X6;rw[HT.Zbc];have e:HT.U0 xs.length 0 none=0:=rfl;rw[e,List.drop_zero,cW,Nat.min_eq_left h]
theorem UD {s:List Int×Int}{j:List Int}(h:X4 s j=true):small s.1=true/\2<=s.1.length/\s.1.length<=61/\1<=s.2/\s.2<=60:=by
 have g:Zkn s=true:=by
  cases j with
  |nil=>exact h
  |cons p j=>
   rw[Num.X4] at h;simp only[af] at h;exact h.1.1.1
 unfold Zkn at g;simp only[af,decide_eq_true_eq] at g;exact⟨g.1.1.1.1,g.1.1.1.2,g.1.1.2,g.1.2,g.2⟩
theorem ZdZ {s:List Int×Int}{p:Int}{j:List Int}(h:X4 s (p::j)=true):2<=p/\p<=60/\X4 (XD s p) j=true:=by
 rw[Num.X4] at h;simp only[af,decide_eq_true_eq] at h;exact⟨h.1.1.2,h.1.2,h.2⟩
section
variable {P:Program}{w:World}{K:aa}{mg:Str->Option Value}{base:Heap}
theorem Zh0 {f:Addr}{fd:FuncData}(F:WI K "least_sum" "least_sum" Zhg f fd)(GP:Fn P w K mg base Ym 1 "primes_of" ["n"] Ug)(GS:Fn P w K mg base Ym 1 "stretched" ["powers", "step"] (ZgX K))(GQ:Fn P w K mg base Ym 1 "quotient" ["powers", "divisor"] (ZgZ K)) :
  Ya P w K mg base Ym 2 f fd ["n"] Za1:=by
 refine F.ok (FS (N:=["n", "found", "built", "p"])) (fun vs H Q E h=>?_) (fun n6 A m8 s H vs Q E hr h=>?_)
 ·obtain⟨n,rfl,_⟩:=h;rfl
 ·obtain⟨n,rfl,n1,n60,q⟩:=h
  obtain⟨G,_⟩:=ZaA n1 n60;refine⟨_,Zs (ZE 1 rfl (ZQ (pc (X1 Jy Zx) (pc Zx Zu))))
   (Zs (ZE 2 rfl Zx)
   (Zs (ZM am rfl (itL K (Wr GP hr ZL (pc (vn 0) Zu))) (gn 3)
    (Zs (ZE 1 rfl (Wr GQ hr ZL (pc (Wr GS hr ZL (pc (vn 1) (pc (vn 3) Zu))) (pc (vn 1) Zu))))
    (Zw (ZE 2 rfl (Zy ZN (vn 2) (vn 3))))))
   (Zw (ZJ (Wr GS hr ZL (pc (vn 1) (pc (Zy Y4 (vn 0) (vn 2)) Zu))))))),?_⟩
  refine⟨_,rfl,(by show 2<=sizeLine;decide),fun l0 n0=>?_⟩;have s0:Zv H (upd H l0 (.lst [.int (-1),.int 1])):=Zv.upd n0;refine⟨_,rfl,n,rfl,n1,n60,fun lp H1 s1 hp=>⟨lp,rfl,⟨_,.of hp⟩,?_⟩⟩;refine WL (YV (K:=K) (.of hp)) (fun i M Y=>∃(st:List Int×Int) (O:Addr) (v3:Option V),M=[some (.int n),some (.ref O),some (.int st.2),v3]/\Zv H1 Y/\Y O=some (.lst (st.1.map V.int))/\X4 st ((Yp n).drop i)=true/\
    ((Yp n).drop i).foldl XD st=(Yp n).foldl XD ([-1,1],1))
   ⟨([-1,1],1),l0,_,rfl,Zv.refl _,s1 _ _ Zt,G.ls,rfl⟩ (fun i M Y h=>h.choose_spec.choose_spec.choose_spec.2.1) ?_ ?_
  ·rintro i x M Y hx ⟨st,O,v3,rfl,sm,hf,J,j⟩
   obtain⟨hi,rfl⟩:=X3 hx;rw[V1 hi] at J j;obtain⟨p2,n8,m5⟩:=ZdZ J;obtain⟨c1,c2,c3,c4,c5⟩:=UD J;generalize n9:co (Yp n) i=p at *;have ep:(p.toNat:Int)=p:=by omega
   have m6:(st.1.length-1)*p.toNat<=60*60:=iE (by omega) (by omega);refine⟨_,rfl,_,rfl,O,st.1,p.toNat,by rw[ep];rfl,.of hf,by omega,by omega,by omega,by omega,fun l2 H2 s2 h2=>?_⟩;have o0:st.1.length-1<=(st.1.length-1)*p.toNat:=Nat.le_mul_of_pos_right _ (by omega);refine⟨_,rfl,l2,O,_,_,rfl,.of h2,.of (s2 _ _ hf),by omega,by rw[Zeo];omega,by rw[Zeo];omega,c1,fun l3 H3 s3 h3=>?_⟩;refine⟨_,rfl,_,rfl,_,_,rfl,rfl,.inl ⟨by omega,by omega⟩,?_⟩;exact⟨XD st p,l3,_,rfl,(sm.trans s2).trans s3,h3,m5,j⟩
  ·rintro M Y ⟨st,O,v3,rfl,sm,hf,J,j⟩
   rw[Za,fH] at J j;obtain⟨c1,c2,c3,c4,c5⟩:=UD J;have hd:0<=(n:Int) / st.2/\(n:Int) / st.2<=n:=⟨f7 (by omega) (by omega),Int.ediv_le_self _ (by omega)⟩;have m6:(st.1.length-1)*((n:Int) / st.2).toNat<=60*60:=iE (by omega) (by omega);refine⟨_,rfl,_,rfl,_,rfl,_,_,rfl,rfl,⟨by omega,by omega⟩,O,st.1,((n:Int) / st.2).toNat,by rw[iP hd.1];rfl,.of hf,by omega,by omega,by omega,by omega,fun l4 H4 s4 h4=>?_⟩;refine q l4 H4 (((s0.trans s1).trans sm).trans s4) ?_;rw[h4];unfold lsN Jh;rw[<-j];rfl
theorem ZhY {f:Addr}{fd:FuncData}(F:WI K "number_of" "number_of" Zhe f fd)(T:Bl mg)(T2:Bl2 mg)(GL:Fn P w K mg base Ym 2 "least_sum" ["n"] Za1):Ya P w K mg base Ym 3 f fd ["n", "powers"] (ZaY K):=by
 refine F.ok (FS (N:=["n", "powers", "least", "top", "rest", "k", "x", "high", "j"])) (fun vs H Q E h=>?_) (fun w9 A q0 s H vs Q E hr h=>?_)
 ·obtain⟨n,a,ws,rfl,_⟩:=h;rfl
 ·obtain⟨n,a,ws,rfl,n1,n60,hS,x9,q⟩:=h
  obtain⟨G,_⟩:=ZaA n1 n60;refine⟨_,Zs (ZE 2 rfl (Wr GL hr ZL (pc (vn 0) Zu)))
   (Zs (ZE 3 rfl (Zy YC (cb (Yx K) T.len (pc (vn 2) Zu)) Zx))
   (Zs (ZE 4 rfl (Zy WD (ZQ (pc Zx Zu)) (vn 0)))
   (Zs (ZM am rfl (ZmS K T2.enumerate (pc (vn 1) Zu)) (g2 K 5 6 rfl (gn 5) (gn 6))
    (Zw (VX (vn 4) (Zy ZV (vn 5) (vn 0)) ZbH (vn 6) Jj YB)))
   (Zs (ZM am rfl (ZnS T.range (pc (Zy YC (vn 0) Zx) (pc (Zy YC (vn 3) Zx) (pc (X1 Jy Zx) Zu)))) (gn 5)
    (Zs (ZE 7 rfl (ZF (Ji K) (vn 4) (vn 5) (fun _ _=>rfl)))
    (Zw (WF (ZS JJ (vn 7) Zx (ZY _))
     (Zw (ZM am rfl (UJ K T2.enumerate (pc (vn 2) Zu)) (g2 K 8 6 rfl (gn 8) (gn 6))
      (Zw (VX (vn 4) (Zy Yr (Zy YC (vn 5) (vn 3)) (vn 8)) ZbH (Zy ZN (vn 7) (vn 6)) Zin YB)))) Yy))))
   (Zw (ZJ (ct ZX T.tuple (pc (Ux Zba (vn 4) Zbl (Zbk (vn 3))) Zu)))))))),?_⟩
  refine⟨_,rfl,n,rfl,n1,n60,fun ll H1 s1 n9=>?_⟩;have o6:(((lsN n).map V.int).length:Int)-1=(Wv n:Int):=by
   rw[Za,G.l2];omega
  have tn:=G.tn;have t1:=G.t1;refine⟨_,rfl,ll,_,rfl,.inl (.of n9),_,_,rfl,rfl,?_⟩;refine⟨(by show 1<=sizeLine;decide),fun l0 n0=>?_⟩;have s2:=s1.trans (Zv.upd (o:=.lst [.int 0]) n0);refine⟨_,rfl,l0,_,_,rfl,rfl,Zt,by omega,by omega,?_,fun l nl=>?_⟩
  ·rw[Zj]
   show 1*n<=sizeLine;have e:(16777216:Nat)=sizeLine:=by decide
   omega
  rw[Zj,Zbg];have o7:H l=none:=s2.free nl;have o8:=Zv.upd (o:=.lst ((av n (0:Int)).map V.int)) nl _ _ (Zv.upd (o:=.lst [.int 0]) n0 _ _ n9);have o9:l≠ll:=fun z=>by
   rw[z,Zv.upd (o:=.lst [.int 0]) n0 _ _ n9] at nl;cases nl
  have s3:=s2.trans (Zv.upd (o:=.lst ((av n (0:Int)).map V.int)) nl);refine⟨_,rfl,a,_,H,rfl,hS,s3,fun J At S r6=>?_⟩;refine WX S (fun i m6 H'=>∃(M:List Int) (v5 v6:Option V),m6=[some (.int n),some (.ref a),some (.ref ll),some (.int ((((lsN n).map V.int).length:Int)-1)),some (.ref l),v5,v6,none,none]/\Zv H H'/\H' ll=some (.lst ((lsN n).map V.int))/\H' l=some (.lst (M.map V.int))/\M.length=n/\
    J1 n (ws.drop i) i M=Wb n ws)
   ⟨_,_,_,rfl,s3,o8,Zt,cQ ..,rfl⟩ (fun i m6 H' h=>r6 _ h.choose_spec.choose_spec.choose_spec.2.1) ?_ ?_
  ·rintro i y m6 H' T' hy ⟨M,v5,v6,rfl,sm,o0,o5,m8,n6⟩ nT
   obtain⟨hi,rfl⟩:=X3 hy;have p3:i % n<M.length:=by rw[m8];exact ba _ n1
   have eM:V.int ((i:Int) % (n:Int))=V.int ((i % n:Nat):Int):=congrArg V.int (by omega);have p4:=Zv.upd (o:=.tup [.int i,.int (co ws i)]) nT _ _ o5;refine⟨T',_,rfl,.of Zt,rfl,_,_,rfl,_,_,rfl,rfl,_,rfl,_,rfl,_,rfl,_,_,rfl,rfl,(by show (0:Int)<n;omega),l,_,i % n,.int (co M (i % n)),rfl,eM,p4,Zd1 p3,_,rfl,_,_,rfl,rfl,l,_,_,i % n,rfl,eM,p4,?_,?_⟩
   ·rw[Za];exact X5 p3
   ·refine⟨M.set (i % n) (co M (i % n)+co ws i),_,_,rfl,(sm.trans (Zv.upd nT)).updr o7,?_,?_,?_,?_⟩
    ·rw[Zz (bd o9)];exact Zv.upd nT _ _ o0
    ·rw[Zt,XX]
    ·rw[a9];exact m8
    ·rw[<-n6,V1 hi,Num.J1]
  ·rintro m6 H' ⟨M,v5,v6,rfl,sm,o0,o5,m8,n6⟩
   rw[Za,fH,Num.J1] at n6;refine⟨_,rfl,_,_,rfl,rfl,_,rfl,_,_,rfl,rfl,_,rfl,_,_,rfl,⟨by omega,by omega,by omega,by omega⟩,?_⟩;rw[show (((n:Int)-1)-((((lsN n).map V.int).length:Int)-1-1)).toNat=n-Wv n by omega];refine ZcV (fun i m6 H'=>∃(M:List Int) (v5 v6 v7 v8:Option V),m6=[some (.int n),some (.ref a),some (.ref ll),some (.int ((((lsN n).map V.int).length:Int)-1)),some (.ref l),v5,v6,v7,v8]/\Zv H H'/\H' ll=some (.lst ((lsN n).map V.int))/\H' l=some (.lst (M.map V.int))/\M.length=n/\
     (∀j,co (Wz M (RN n)) j=co (Wz (Wb n ws) (RN n)) j)/\∀t,n-i<=t->co M t=0)
    ⟨M,_,_,_,_,rfl,sm,o0,o5,m8,fun j=>by rw[n6],fun t ht=>WG (by omega)⟩ ?_ ?_
   ·rintro i p6 r8 hi ⟨c2,t5,t6,t7,t9,rfl,VT,m5,O,Y,hP,hz⟩
    generalize hk:n-1-i=k;have ek:(n:Int)-1-(i:Int)=(k:Int):=by omega
    rw[ek];have u5:k<n:=by omega
    have u9:Wv n<=k:=by omega
    refine⟨_,rfl,_,rfl,l,_,_,.int (co c2 k),rfl,rfl,.of O,ZbG (by omega),?_⟩;refine⟨_,rfl,rfl,_,rfl,YG (fun hh=>?_) (fun hh=>?_)⟩
    ·refine⟨_,rfl,ll,rfl,.inl ⟨⟨_,.of m5⟩,?_⟩⟩
     obtain⟨r1,r2,r3,r4⟩:=Zht G Y u5 u9;refine WX UL (fun j n8 H3=>∃(c3:List Int) (u6 u8:Option V),n8=[some (.int n),some (.ref a),some (.ref ll),some (.int ((((lsN n).map V.int).length:Int)-1)),some (.ref l),some (.int k),u6,some (.int (co c2 k)),u8]/\Zv H H3/\H3 ll=some (.lst ((lsN n).map V.int))/\H3 l=some (.lst (c3.map V.int))/\c3.length=n/\
       U1 ((lsN n).drop j) (k-Wv n+j) (co c2 k) c3=U1 (lsN n) (k-Wv n) (co c2 k) c2)
      ⟨c2,_,_,rfl,VT,m5,O,Y,rfl⟩ (fun j n8 H3 h=>.of h.choose_spec.choose_spec.choose_spec.2.2.1) ?_ ?_
     ·rintro j y n8 H3 T' hy ⟨c3,u6,u8,rfl,sm3,g1,g2,g3,g4⟩ nT
      obtain⟨hj,rfl⟩:=X3 hy;have y4:=G.l2;have kj:k-Wv n+j<c3.length:=by omega
      have eI:V.int ((k:Int)-((((lsN n).map V.int).length:Int)-1)+(j:Int))=V.int ((k-Wv n+j:Nat):Int):=congrArg V.int (by omega);have p7:=Zv.upd (o:=.tup [.int j,.int (co (lsN n) j)]) nT _ _ g2;have cb:=UQ G.sm j;refine⟨T',_,rfl,.of Zt,rfl,_,_,rfl,_,_,rfl,rfl,_,rfl,_,rfl,_,rfl,_,_,rfl,rfl,_,rfl,_,_,rfl,rfl,l,_,k-Wv n+j,.int (co c3 (k-Wv n+j)),rfl,eI,p7,Zd1 kj,_,rfl,_,rfl,_,_,rfl,rfl,.inr ⟨by omega,by omega⟩,_,_,rfl,rfl,l,_,_,k-Wv n+j,rfl,eI,p7,?_,?_⟩
      ·rw[Za];exact X5 kj
      ·refine⟨c3.set (k-Wv n+j) (co c3 (k-Wv n+j)-co c2 k*co (lsN n) j),_,_,rfl,(sm3.trans (Zv.upd nT)).updr o7,?_,?_,?_,?_⟩
       ·rw[Zz (bd o9)];exact Zv.upd nT _ _ g1
       ·rw[Zt,XX]
       ·rw[a9];exact g3
       ·rw[<-g4,V1 hj,Num.U1]
        rfl
     ·rintro n8 H3 ⟨c3,u6,u8,rfl,sm3,g1,g2,g3,g4⟩
      rw[Za,fH,Num.U1] at g4;refine⟨c3,_,_,_,_,rfl,sm3,g1,g2,g3,fun j=>?_,fun t ht=>?_⟩
      ·rw[g4,r2 j];exact hP j
      ·rw[g4]
       by_cases e:t=k
       ·rw[e];exact r3
       ·rw[r4 t (by omega)];exact hz t (by omega)
    ·have h0:co c2 k=0:=by
      apply ah;intro w8;apply hh;rw[Yd];simp[w8]
     refine⟨c2,_,_,_,_,rfl,VT,m5,O,Y,hP,fun t ht=>?_⟩;by_cases e:t=k
     ·rw[e];exact h0
     ·exact hz t (by omega)
   ·rintro p6 r8 ⟨c2,t5,t6,t7,t9,rfl,VT,m5,O,Y,hP,hz⟩
    refine⟨_,rfl,_,rfl,_,rfl,l,_,rfl,.of O,fun p1 h1=>⟨p1,_,rfl,.inl ⟨.of Zt,fun qq p8=>?_⟩⟩⟩;rw[o6,ZiJ _ (by rw[Za];omega),<-List.map_take] at p8 ⊢;refine q qq _ ((VT.trans (Zv.upd h1)).trans (Zv.upd p8)) ?_;rw[Zt,ZjB G Y (fun t ht=>hz t (by omega)) hP ws rfl]
end
end N51
namespace C51
open PySem L2 PySem.Spec PyProof.Rows
open Tb Pm
noncomputable abbrev Zhf:Stmt:=top 29
noncomputable def bkM (p x:Nat):Nat:=((ac p).find? fun y=>y*x % p == 1).getD 0
theorem ZoB {p x y j:Nat}(M:y<p)(q:j<p)(h:y*x % p=1)(h':j*x % p=1):y=j:=by
 have J:y*(j*x) % p=y % p:=by rw[<-Nat.mul_mod_mod,h',iD]
 have O:j*(y*x) % p=j % p:=by rw[<-Nat.mul_mod_mod,h,iD]
 have Y:y*(j*x)=j*(y*x):=by rw[<-kw,fu y j,kw]
 rw[Y,O,aW M,aW q] at J;exact J.symm
theorem ZlD {p x y:Nat}(j:y<p)(h:y*x % p=1):bkM p x=y:=by
 unfold bkM;cases q:(ac p).find? fun y=>y*x % p == 1 with
 |none=>
  have:=iV.mp q y (ag.mpr j);rw[h] at this;exact absurd rfl this
 |some z=>
  have J:=ag.mp (gu q);have M:z*x % p=1:=eq_of_beq (jI (p:=fun y=>y*x % p == 1) q);exact ZoB J j M h
noncomputable def ofF (n r p:Nat)(q:Int)(z:Nat)(o:Nat->Int)(j:Nat):Int:=if j % (n / r)=0 then q*(bkM p r:Int)*Wc r (fun k=>o k*((z ^ (j*k % n) % p:Nat):Int)) % (p:Int) else 0
noncomputable def Zh6 (n:Nat)(v:Nat->Int):List Int:=Num.X2 n (N51.Wv n) (N51.RN n) ((ac n).map v)
inductive ZaZ (vs:List V) (H:Hp) (Q:VK) (E03:XK):Prop
 |mk (wa oa ra:Addr) (r m n p z:Nat) (share:Int) (wk one:Nat->Int):(vs=[.ref wa,.ref oa,.int share,.ref ra,.int p])->(H wa=some (.lst (ZC r wk)))->(H oa=some (.lst (ZC m one)))->(H ra=some (.lst (Je p z n)))->(1<=n)->(n<=60)->(m<=60)->(1<=r)->(r<=n)->(r<p)->(p<=100000)->(PrM p)->(ZiY m p one)->((∀k,k<r->∃c:Nat,c<m/\wk k=(c:Int)))->(-(2 ^ 40)<share)->(share<2 ^ 40)->(∀q H',Zv H H'->H' q=some (.tup ((Zh6 n (ofF n r p share z fun k=>one (wk k).toNat)).map V.int))->Q (.ref q) H')->ZaZ vs H Q E03
theorem Zok {J:It}{q:Hp->Prop}{xs:List V}(S:Zi3 J q xs):Zee J q (((ac xs.length).map nV).zip xs) where
 go:=fun i H h j=>S.go i H h (by rw[eS,Za,Zg,ln] at j;exact j)
 yld:=fun i H x M h O=>by
  obtain⟨T,y,rfl,Y,rfl,e⟩:=S.yld i H x M h O;have j:=(ae.mp e).1;refine⟨T,.int i,y,rfl,Y,rfl,?_⟩;rw[gv,Zc,ao j];exact⟨rfl,e⟩
 stop:=fun i H h j=>S.stop i H h (by rw[eS,Za,Zg,ln] at j;exact j)
theorem ZjE {p z n k:Nat}(h:k<n):Vd (Je p z n) (k:Int)=some (V.int ((z ^ k % p:Nat):Int)):=by
 refine ZK ?_;unfold Je;rw[Zc,ao h];rfl
theorem VQ {n j:Nat}(v:Nat->Int)(x:Int)(h:j<n):(ZC n v).set j (V.int x)=ZC n fun i=>if i=j then x else v i:=by
 refine bq fun i=>?_;by_cases q:i<n
 ·rw[Yc _ q,jc]
  by_cases e:j=i
  ·subst e
   rw[if_pos rfl,if_pos (by rw[ZR];exact q),if_pos rfl]
  ·rw[if_neg e,Yc _ q,if_neg (fun z=>e z.symm)]
 ·rw[ak (by rw[a9,ZR];omega),ak (by rw[ZR];omega)]
theorem WR (n:Nat):(av n [V.int 0]).flatten=ZC n fun _=>0:=by
 have:∀k a,(av k [V.int 0]).flatten=(dw a k).map fun _=>V.int 0:=fun k=>by
  induction k with
  |zero=>intro a;rfl
  |succ k j=>intro a;rw[a6,cg,j (a+1),eA,aV];rfl
 unfold ZC;rw[this n 0,<-dZ]
section
variable {P:Program}{w:World}{K:aa}{mg:Str->Option Value}{base:Heap}
theorem ZhZ {f:Addr}{fd:FuncData}(F:WI K "number_at" "number_at" Zhf f fd)(T:Bl mg)(T2:Zgw mg)(T5:BlT mg)(GB:Fn P w K mg base Ym 1 "back_by" ["p", "x"] JS)(GN:Fn P w K mg base Ym 3 "number_of" ["n", "powers"] (N51.ZaY K)):Ya P w K mg base Ym 4 f fd ["walk", "one", "share", "roots", "p"] ZaZ:=by
 refine F.ok (FS (N:=["walk", "one", "share", "roots", "p", "n", "step", "part", "often", "j"])) (fun vs H Q E h=>?_) (fun o8 A n8 s H vs Q E hr h=>?_)
 ·obtain⟨M,oa,ra,r,m,n,p,z,share,wk,one,rfl,_⟩:=h;rfl
 ·obtain⟨M,oa,ra,r,m,n,p,z,share,wk,one,rfl,hW,hO,hR,n1,n60,o9,r1,rn,rp,pl,pr,vo,n9,p3,p4,q⟩:=h
  refine⟨_,Zs (ZE 5 rfl (cb (Yx K) T.len (pc (vn 3) Zu)))
   (Zs (ZE 6 rfl (Zy Y4 (vn 5) (cb (Yx K) T.len (pc (vn 0) Zu))))
   (Zs (ZE 7 rfl (Zy ZN (vn 2) (Wr GB hr ZL (pc (vn 4) (pc (cb (Yx K) T.len (pc (vn 0) Zu)) Zu)))))
   (Zs (ZE 8 rfl (Zy WD (ZQ (pc Zx Zu)) (vn 5)))
   (Zs (ZM am rfl (ZnR T.range (pc Zx (pc (vn 5) (pc (vn 6) Zu)))) (gnf 9 rfl)
    (Zw (Jf (Zy ZV (Zy ZN (vn 7) (cb (sumK K rfl) T5.sum (pc (cmp ["k", "c"] [1,3,9,5] ["k", "c", "one", "roots", "j", "n"] rfl (UJ K T2.enumerate (pc (vn 0) Zu)) (fun _ _ _ _ _=>g2 K 0 1 rfl (gn 0) (gn 1)) (fun _ _ _ _ _=>Z0)
     (fun _ _ _ _ _=>Zy ZN (ZF (Ji K) (vn 2) (vn 1) (fun _ _=>rfl)) (ZF (Ji K) (vn 3) (Zy ZV (Zy ZN (vn 4) (vn 0)) (vn 5)) (fun _ _=>rfl)))) Zu))) (vn 4)) (JC (vn 8) (vn 9) YB))))
   (Zw (ZJ (Wr GN hr ZL (pc (vn 5) (pc (vn 8) Zu))))))))),?_⟩
  have p2:=pr.p2;have sz:(16777216:Nat)=sizeLine:=by decide
  have o0:1<=n / r:=Nat.div_pos rn (by omega);have p6:n / r<=n:=f6 _ _;have p7:((n:Nat):Int) / ((r:Nat):Int)=((n / r:Nat):Int):=rfl;refine⟨_,rfl,ra,_,rfl,.inl (.of hR),?_⟩;rw[VW];refine⟨_,rfl,_,rfl,M,_,rfl,.inl (.of hW),?_⟩;rw[ZR];refine⟨_,_,rfl,rfl,⟨by omega,by omega⟩,_,rfl,_,rfl,_,rfl,M,_,rfl,.inl (.of hW),?_⟩;rw[ZR];obtain⟨y0,y1,y2,y3⟩:=pr.iv r (by omega) rp;refine⟨p,_,rfl,p2,pl,⟨y0,y1,y2,by rw[<-aF,<-aZ,y3];rfl⟩,fun y a1 a2 a3=>?_⟩;have hy:y*r % p=1:=by
   have:((y*r % p:Nat):Int)=1:=by rw[aZ,aF];exact a3
   omega
  have eb:=ZlD a2 hy;refine⟨_,_,rfl,rfl,.inl ⟨by omega,by omega⟩,?_⟩;refine⟨(by show 1<=sizeLine;decide),fun l0 o5=>⟨_,rfl,l0,_,_,rfl,rfl,Zt,by omega,by omega,by show 1*((n:Int)).toNat<=sizeLine;omega,fun L nL=>?_⟩⟩;rw[Zj,WR];have s1:=Zv.upd (H:=H) (o:=.lst [.int 0]) o5;have o6:H L=none:=s1.free nL;have s2:=s1.trans (Zv.upd (o:=.lst (ZC n fun _=>0)) nL);have h2:upd (upd H l0 (.lst [.int 0])) L (.lst (ZC n fun _=>0)) L=some (.lst (ZC n fun _=>0)):=Zt;generalize upd (upd H l0 (.lst [.int 0])) L (.lst (ZC n fun _=>0))=H2 at s2 h2 ⊢;refine⟨_,rfl,_,rfl,n,n / r,rfl,o0,by omega,by omega,?_⟩;refine ZcU (fun i m5 H'=>∃v9:Option V,m5=[some (.ref M),some (.ref oa),some (.int share),some (.ref ra),some (.int (p:Nat)),some (.int (n:Nat)),some (.int ((n / r:Nat):Int)),some (.int (share*(y:Int))),some (.ref L),v9]/\Zv H H'/\H' L=some (.lst (ZC n fun j=>if j<i*(n / r) then ofF n r p share z (fun k=>one (wk k).toNat) j else 0)))
   ⟨_,rfl,s2,by rw[h2];congr 2;exact Wm fun j _=>by rw[if_neg (by omega)]⟩ ?_ ?_
  ·rintro i m5 H3 hi ⟨v9,rfl,s3,h3⟩
   have hj:i*(n / r)<n:=by
    unfold Wx at hi;have:(i+1)*(n / r)<=n+n / r-1:=bm (ef _ hi) (Nat.div_mul_le_self _ _);rw[cC] at this;omega
   have ej:(0:Int)+(i:Int)*((n / r:Nat):Int)=((i*(n / r):Nat):Int):=by rw[aF];omega
   rw[ej];generalize O:i*(n / r)=j at hj;have m6:=s3 _ _ hW;refine⟨_,rfl,_,rfl,M,rfl,.inl ⟨⟨_,.of m6⟩,?_⟩⟩;have zi:Zee (ZkY K M) (fun H=>W2 K H M (ZC r wk)) ((ZC r fun k=>(k:Int)).zip (ZC r wk)):=by
    have:=Zok (UL (K:=K) (a:=M) (xs:=ZC r wk));rw[ZR] at this;exact this
   refine Xk zi (fun H' sm=>.of (sm _ _ m6)) (Zv.refl H3) [some (.ref oa),some (.ref ra),some (.int (j:Nat)),some (.int (n:Nat))] rfl (fun k c=>one c.toNat*((z ^ (j*k.toNat % n) % p:Nat):Int)) (by omega) (fun k H4 hk s4 R g=>?_) (fun D H4 nD s4 hD=>?_)
   ·obtain⟨c,hc,ec⟩:=n9 k hk
    have J:=s3.trans s4;have g1:=vo.ge c hc;have p8:=vo.lt c hc;rw[ec] at g ⊢;rw[Zj,Zj] at g;have m8:((j:Nat):Int)*((k:Nat):Int) % ((n:Nat):Int)=((j*k % n:Nat):Int):=by rw[aZ,aF]
    have o7:Vd (Je p z n) (((j:Nat):Int)*((k:Nat):Int) % ((n:Nat):Int))=some (V.int ((z ^ (j*k % n) % p:Nat):Int)):=by
     rw[m8];exact ZjE (ba _ (by omega))
    refine⟨_,rfl,_,rfl,oa,_,_,_,rfl,rfl,.of (J _ _ hO),ZK (Yc one hc),_,rfl,_,rfl,_,rfl,_,_,rfl,rfl,.inl ⟨by omega,by omega⟩,_,rfl,_,_,rfl,rfl,(by show (0:Int)<(n:Int);omega),ra,_,_,_,rfl,rfl,.of (J _ _ hR),o7,_,_,rfl,rfl,.inl ⟨by omega,by omega⟩,g⟩
   ·rw[Jl] at hD
    have yb:(y:Int)<100000:=by omega
    have mb:-(2 ^ 64)<share*(y:Int)/\share*(y:Int)<2 ^ 64:=by
     have h1:(y:Int) ≥ 1:=by omega
     constructor
     ·have:share*(y:Int) ≥ -(2 ^ 40)*100000:=by
       have a:share*(y:Int) ≥ (-(2 ^ 40))*(y:Int):=di (by omega) (by omega);have b:(-(2 ^ 40):Int)*(y:Int) ≥ -(2 ^ 40)*100000:=by omega
       omega
      omega
     ·have:share*(y:Int)<=(2 ^ 40)*(y:Int):=di (by omega) (by omega)
      omega
    have J:=s3.trans s4;refine⟨D,_,rfl,.of hD,_,_,rfl,rfl,.inl mb,_,rfl,_,_,rfl,rfl,(by show (0:Int)<(p:Int);omega),_,rfl,_,rfl,L,_,_,j,rfl,rfl,s4 _ _ h3,WA (by rw[ZR];exact hj),?_⟩;refine⟨_,rfl,J.updr o6,?_⟩;rw[Zt,VQ _ _ hj];congr 2;refine Wm fun a ha=>?_;have Y:j % (n / r)=0:=by rw[<-O];exact Nat.mul_mod_left _ _
    by_cases e1:a=j
    ·rw[if_pos e1,if_pos (by rw[e1,<-O,cC];omega),e1]
     unfold ofF;rw[if_pos Y,eb];rfl
    ·rw[if_neg e1]
     by_cases e2:a<j
     ·rw[if_pos (by rw[O];exact e2),if_pos (by rw[cC,O];omega)]
     ·rw[if_neg (by rw[O];exact e2)]
      by_cases e3:a<(i+1)*(n / r)
      ·rw[if_pos e3]
       unfold ofF;rw[if_neg];intro hz;rw[cC,O] at e3;obtain⟨q1,n6⟩:=a7 hz;obtain⟨q2,q0⟩:=a7 Y;have:i<q1:=by
        apply ah;intro zz;have h4:(n / r)*q1<=(n / r)*i:=f9 _ (by omega);rw[<-n6,fu,O] at h4;omega
       have h5:(n / r)*(i+1)<=(n / r)*q1:=f9 _ (by omega);rw[<-n6,jF,iD,fu,O] at h5;omega
      ·rw[if_neg e3]
  ·rintro m5 H3 ⟨v9,rfl,s3,h3⟩
   have big:n<=Wx n (n / r)*(n / r):=by
    unfold Wx;have h1:=Nat.div_add_mod (n+n / r-1) (n / r);have h2:=ba (n+n / r-1) (show 0<n / r by omega);rw[fu] at h1;omega
   have e3:(ZC n fun j=>if j<Wx n (n / r)*(n / r) then ofF n r p share z (fun k=>one (wk k).toNat) j else 0)=ZC n (ofF n r p share z fun k=>one (wk k).toNat):=Wm fun j hj=>if_pos (by omega)
   rw[e3,Jl] at h3;refine⟨_,rfl,_,rfl,n,L,_,rfl,n1,n60,.inl (.of h3),by rw[Za,Zg];omega,fun q' H4 s4 h4=>?_⟩;exact q q' H4 (s3.trans s4) h4
end
noncomputable abbrev Zhb:Stmt:=top 4
noncomputable abbrev Zlh:Stmt:=top 5
inductive ZaU (vs:List V) (H:Hp) (Q:VK) (E03:XK):Prop
 |mk (g:Addr) (t:List (List Nat)) (a r:Nat):(vs=[.ref g,.int a])->(GT H g t)->(PW t)->(a<t.length)->(Rd t a r)->(Q (.int r) H)->ZaU vs H Q E03
inductive ZdB (vs:List V) (H:Hp) (Q:VK) (E03:XK):Prop
 |mk (g:Addr) (t:List (List Nat)) (rs:Nat->Nat):(vs=[.ref g])->(GT H g t)->(PW t)->((∀a,a<t.length->Rd t a (rs a)))->(∀(f:Nat) H',Zv H H'->Lc rs t.length f->Q (.int f) H')->ZdB vs H Q E03
section
variable {P:Program}{w:World}{K:aa}{mg:Str->Option Value}{base:Heap}
theorem ZhV {f:Addr}{fd:FuncData}(F:WI K "round_of" "round_of" Zhb f fd):Ya P w K mg base Ym 1 f fd ["group", "a"] ZaU:=by
 refine F.ok (FS (N:=["group", "a", "k", "found"])) (fun vs H Q E h=>?_) (fun m5 A Y s H vs Q E hr h=>?_)
 ·obtain⟨g,t,a,r,rfl,_⟩:=h;rfl
 ·obtain⟨g,t,a,r,rfl,G,Pt,ha,R,q⟩:=h
  refine⟨_,Zs (ZE 2 rfl Zx) (Zs (ZE 3 rfl (vn 1))
   (Zs (Yf am (ZS JJ (vn 3) Zx (ZY _))
    (Zs (ZE 3 rfl (ZF (Xt K) (ZF (Xt K) (vn 0) (vn 3) (fun _ _=>rfl)) (vn 1) (fun _ _=>rfl)))
    (Zw (JX (i:=2) (Z6 (by kernel_rfl)) rfl (YR (by kernel_rfl)) Zx Jj (.inl rfl)))))
   (Zw (ZJ (vn 2))))),?_⟩
  have r1:=R.r1;refine⟨_,rfl,?_⟩;refine Z9 (fun m j O=>∃k:Nat,j=[some (.ref g),some (.int a),some (.int k),some (.int (it t a k:Nat))]/\O=H/\1<=k/\k<=r/\m=r-k)
   (fun j O=>∃v3:Option V,j=[some (.ref g),some (.int a),some (.int r),v3]/\O=H) ?hend ⟨r-1,1,by rw[ZbD Pt ha];rfl,rfl,Zq _,r1,rfl⟩ ?turn
  case hend=>
   rintro j O ⟨v3,rfl,rfl⟩;exact⟨_,rfl,q⟩
  case turn=>
   rintro J m j O ⟨k,rfl,rfl,k1,kr,hm⟩;refine⟨_,rfl,rfl,_,rfl,?_⟩;refine YG (fun M=>?_) (fun M=>?_)
   ·have M:it t a k≠0:=fun z=>by
     rw[Yd,z] at M;simp at M
    have m6:k<r:=bw kr fun z=>M (z▸R.z);obtain⟨rs,r2,g1,_,g2,g3,g4⟩:=G.at Pt (YW Pt ha k);refine⟨_,fun _ _ z=>z,_,rfl,_,rfl,g,_,_,_,rfl,rfl,.of g1,g2,_,rfl,r2,_,_,_,rfl,rfl,g3.sq,g4 a ha,_,rfl,_,_,rfl,rfl,r-(k+1),by omega,k+1,?_,rfl,by omega,by omega,rfl⟩;rfl
   ·have M:it t a k=0:=by
     apply ah;intro z;apply M;rw[Yd];simp[z]
    have:k=r:=by
     apply ah;intro z;exact R.nz k k1 (by omega) M
    exact J _ _ ⟨_,by rw[this],rfl⟩
theorem Zj7 {f:Addr}{fd:FuncData}(F:WI K "full_round" "full_round" Zlh f fd)(T:Bl mg)(GR:Fn P w K mg base Ym 1 "round_of" ["group", "a"] ZaU):Ya P w K mg base Ym 2 f fd ["group"] ZdB:=by
 refine F.ok (FS (N:=["group", "found", "a", "step"])) (fun vs H Q E h=>?_) (fun n6 A m8 s H vs Q E hr h=>?_)
 ·obtain⟨g,t,rs,rfl,_⟩:=h;rfl
 ·obtain⟨g,t,rs,rfl,G,Pt,R,q⟩:=h
  refine⟨_,Zs (ZE 1 rfl Zx) (Zs (ZM am rfl (JA T.range (pc (cb (Yx K) T.len (pc (vn 0) Zu)) Zu)) (gn 2)
    (Zs (ZE 3 rfl (vn 1))
    (Zw (Yf am (ZS JJ (Zy ZV (vn 1) (Wr GR hr ZL (pc (vn 0) (pc (vn 2) Zu)))) Zx (ZY _)) (Zw (JX (i:=1) (Z6 (by kernel_rfl)) rfl (YR (by kernel_rfl)) (vn 3) Jj (.inl rfl)))))))
   (Zw (ZJ (vn 1)))),?_⟩
  have n1:=Pt.n1;have n8:=Pt.n60;obtain⟨gs,g1,g2,_⟩:=id G;have el:(gs.map V.ref).length=t.length:=by rw[Za,g2]
  refine⟨_,rfl,g,_,rfl,.inr (.of g1),_,rfl,by omega,by rw[el];omega,?_⟩;rw[Zj,el];refine Z8 (fun i m5 H'=>∃(f:Nat) (v2 v3:Option V),m5=[some (.ref g),some (.int f),v2,v3]/\Zv H H'/\Lc rs i f) ⟨1,_,_,rfl,Zv.refl _,⟨Zq _,fun a ha=>absurd ha (dI _),fun x _=>Nat.mod_one x⟩⟩ ?_ ?_
  ·rintro i m5 H' hi ⟨f,v2,v3,rfl,sm,L⟩
   rw[show (0:Int)+(i:Int)=(i:Int) by omega];have Ri:=R i hi;have n9:=Ri.r1;have L2:Lc rs (i+1) (upTo (rs i) f 61 f):=L.step (B:=t.length) n1 (fun a ha=>(R a (by omega)).dv) (by omega);have m6:=L2.dv i (by omega);refine⟨_,rfl,?_⟩;refine Z9 (fun m j J=>∃x:Nat,j=[some (.ref g),some (.int x),some (.int i),some (.int f)]/\J=H'/\upTo (rs i) f m x=upTo (rs i) f 61 f)
    (fun j J=>j=[some (.ref g),some (.int (upTo (rs i) f 61 f:Nat)),some (.int i),some (.int f)]/\J=H') ?hend ⟨61,f,rfl,rfl,rfl⟩ ?turn
   case hend=>
    rintro j J ⟨rfl,rfl⟩;exact⟨_,_,_,rfl,sm,L2⟩
   case turn=>
    rintro O m j J ⟨x,rfl,rfl,Y⟩;have eT:(x:Int) % ((rs i:Nat):Int)=((x % rs i:Nat):Int):=by push_cast;rfl
    refine⟨_,rfl,_,rfl,_,rfl,g,t,i,rs i,rfl,G.mono sm,Pt,hi,Ri,_,_,rfl,rfl,(by show (0:Int)<(rs i:Nat);omega),rfl,_,rfl,?_⟩;refine YG (fun M=>?_) (fun M=>?_)
    ·have M:x % rs i≠0:=fun z=>by
      rw[Yd,eT,z] at M;simp at M
     cases m with
     |zero=>
      have Y:x=upTo (rs i) f 61 f:=Y;rw[<-Y] at m6;exact absurd m6 M
     |succ m=>
      rw[Tb.upTo,if_neg M] at Y;exact⟨_,fun _ _ z=>z,_,rfl,_,rfl,_,_,rfl,rfl,m,by omega,x+f,rfl,rfl,Y⟩
    ·have M:x % rs i=0:=by
      apply ah;intro z;apply M;rw[Yd,eT];simp;omega
     have:x=upTo (rs i) f 61 f:=by
      cases m with
      |zero=>exact Y
      |succ m=>rw[Tb.upTo,if_pos M] at Y;exact Y
     exact O _ _ ⟨by rw[this],rfl⟩
  ·rintro m5 H' ⟨f,v2,v3,rfl,sm,L⟩
   exact⟨_,rfl,q f H' sm L⟩
end
end C51
namespace PyZ
open PySem PyProof PyProof.Rows SeqAt
open AutoSeq1 (wpAny_loadPart')
theorem ZgK (l b:Addr)(items j:Array Value)(n n2:Nat)(dd n8:Option Addr)(sl n9:Array (Option Value)){xs ys:List Int}(hx:a8 items.toList xs)(hy:a8 j.toList ys) :
  Meets (cK.«tuple.__lt__» ⟨[.ref l,.ref b],[]⟩)
   (fun A R s=>s.heap.get? l=some {cls:=.type "tuple",dict:=dd,data:=.seq items n,slots:=sl}/\s.heap.get? b=some {cls:=.type "tuple",dict:=n8,data:=.seq j n2,slots:=n9}/\
    R (.ok (.ret (.bool (JO xs ys)))) s):=
 .of_wp fun m6 w A R s h=>by
  obtain⟨hp,g,d,tk,os⟩:=s;obtain⟨hl,hb,h⟩:=h;have f2:=AutoSeq1.sub_tuple_tuple;have sx:items.size=xs.length:=by rw[<-Jt hx,Zr]
  have sy:j.size=ys.length:=by rw[<-Jt hy,Zr]
  have hZ:(items.toList.zip j.toList).length=min items.size j.size:=by simp
  wp_walk using wpAny_loadPart' hl,wpAny_loadPart' hb,wpAny_forIn_list _ (fun rest b s'=>b.1=none/\s'=⟨hp,g,d,tk,os⟩/\∃i,rest=(items.toList.zip j.toList).drop i/\
   R (.ok (.ret (.bool (U4 (decide (xs.length<ys.length)) (xs.drop i) (ys.drop i))))) ⟨hp,g,d,tk,os⟩) _
  case turn=>
   rintro⟨y,x⟩ rest b s' ⟨M,rfl,i,O,J⟩;have m8:i<(items.toList.zip j.toList).length:=by
    rcases cF i (items.toList.zip j.toList).length with Y|Y
    ·exact Y
    ·rw[List.drop_of_length_le Y] at O;cases O
   have hm:i<min items.size j.size:=hZ▸m8;have h1:i<items.size:=aG hm (fZ _ _);have h2:i<j.size:=aG hm (Nat.min_le_right _ _);rw[ce m8] at O;injection O with n6 m5;have o0:y=items[i]:=by have:=congrArg lF n6;simpa using this
   have o5:x=j[i]:=by have:=congrArg Prod.snd n6;simpa using this
   subst o0 o5;obtain⟨a,ta,ex,vx⟩:=Xj hx (i:=i) (v:=items[i]) (by simp[h1]);obtain⟨c,tc,ey,vy⟩:=Xj hy (i:=i) (v:=j[i]) (by simp[h2]);rw[Zaw ex ey] at J;rw[vx,vy];refine Zl (fW _ _ _ _ m6 w _ _ ?_);by_cases e:a=c
   ·rw[if_pos e] at J
    rw[show (a == c)=true from beq_iff_eq.mpr e]
    wp_walk
    exact⟨rfl,rfl,i+1,m5,J⟩
   ·rw[if_neg e] at J
    rw[show (a == c)=false from beq_eq_false_iff_ne.mpr e];simp only[Bool.not_false,if_true];refine Zl (dO ?_);refine Zl (show wpAny _ _ (compareOp .Lt (.int a ta) (.int c tc)) _ _ _ from lt_int ?_)
    wp_walk
    exact⟨_,rfl,J⟩
  case fin=>
   rintro⟨b1,b2⟩ s' ⟨M,rfl,i,O,J⟩;simp only at M;subst M;have o7:min items.size j.size<=i:=by
    rcases cF i (items.toList.zip j.toList).length with Y|Y
    ·rw[ce Y] at O;cases O
    ·exact hZ▸Y
   rw[UF (by
    rcases cF i xs.length with q|q
    ·exact .inr (ak (by omega))
    ·exact .inl (ak q))] at J
   wp_walk
   refine⟨_,rfl,?_⟩;rw[sx,sy];exact J
  case h=>
   exact⟨rfl,rfl,0,rfl,h⟩
noncomputable def Zig (fin:Bool):List (List Int)->List (List Int)->Bool
 | [],_=>fin
 |_::_,[]=>fin
 |x::j,y::q=>if x=y then Zig fin j q else JO x y
noncomputable def VZ (xs ys:List (List Int)):Bool:=Zig (decide (xs.length<ys.length)) xs ys
noncomputable def Xa (h:Heap):List Value->List (List Int)->Prop
 | [],[]=>True
 |v::q,x::J=>(∃a j,v=.ref a/\h.IsTuple a j/\a8 j.toList x)/\Xa h q J
 |_,_=>False
section
variable {prog:Program}{w:World}{A:Around}{E:Value->Shared->Prop}{s:Shared}
theorem Zky {us vs:List Value}{xs ys:List Int}(q:a8 us xs)(j:a8 vs ys)(h:us=vs):xs=ys:=by
 subst h;induction q generalizing ys with
 |nil=>cases j;rfl
 |cons _ _ _ J=>cases j with|cons _ _ r=>rw[J r]
theorem Zm2 {xs ys:List Int}:((ac (min xs.length ys.length)).all (fun j=>xs.getD j 0 == ys.getD j 0) && xs.length == ys.length)=decide (xs=ys):=by
 by_cases e:xs=ys
 ·subst e
  rw[decide_eq_true rfl,beq_self_eq_true,Bool.and_true,aI];intro j _;exact beq_self_eq_true _
 ·rw[decide_eq_false e]
  cases q:((ac (min xs.length ys.length)).all (fun j=>xs.getD j 0 == ys.getD j 0) && xs.length == ys.length) with
  |false=>rfl
  |true=>
   refine absurd ?_ e;rw[af,aI] at q;have M:xs.length=ys.length:=eq_of_beq q.2;refine bq fun i=>?_;by_cases J:i<xs.length
   ·have:=eq_of_beq (q.1 i (ag.mpr (by omega)))
    rw[Zf J,Zf (by omega)];rw[Zb,Zb,Zf J,Zf (by omega)] at this;exact congrArg some this
   ·rw[ak (by omega),ak (by omega)]
theorem Zgv {a b:Addr}{us vs:Array Value}{xs ys:List Int}(Y:A.units<cLine)(O:s.heap.IsTuple a us)(hb:s.heap.IsTuple b vs)(J:a8 us.toList xs)(M:a8 vs.toList ys):kN A s (.ref a) (.ref b) (decide (xs=ys)):=by
 by_cases e:a=b
 ·subst e
  obtain⟨o,g1,_,n1,d1⟩:=O;obtain⟨o2,k1,_,n2,q⟩:=hb;rw[g1] at k1;cases k1;rw[d1] at q;injection q with q _;subst q;rw[Zky J M rfl,decide_eq_true rfl];exact EqAt.same _
 ·have sx:us.size=xs.length:=by rw[<-Jt J,Zr]
  have sy:vs.size=ys.length:=by rw[<-Jt M,Zr]
  have:=RcAt.tuples (A:=A) (s:=s) (e:=fun j=>xs.getD j 0 == ys.getD j 0) O hb Y (fun j h1 h2=>by
   obtain⟨x,tx,ex,vx⟩:=Xj J (i:=j) (v:=us[j]) (by simp[h1]);obtain⟨y,ty,ey,vy⟩:=Xj M (i:=j) (v:=vs[j]) (by simp[h2]);rw[vx,vy,Zb,Zb,ex,ey];exact fW _ _ _ _)
  rw[sx,sy,Zm2] at this;exact EqAt.of_refs e this
theorem Zkl {a b:Addr}{us vs:Array Value}{xs ys:List Int}{Q:Value->Shared->Prop}(hu:A.units<cLine)(ha:s.heap.IsTuple a us)(hb:s.heap.IsTuple b vs)(hx:a8 us.toList xs)(hy:a8 vs.toList ys)(h:Q (.bool (JO xs ys)) s):wpAny (model prog w) A (compareOp .Lt (.ref a) (.ref b)) Q E s:=by
 obtain⟨⟨m6,dd,data,sl⟩,Y,hc,n,hd⟩:=id ha;obtain⟨⟨m5,M,data2,O⟩,j,q,n2,J⟩:=id hb;simp only at hc hd q J;subst hc hd q J;exact richCompare_meets_room (op:=.Lt) ⟨_,Y,rfl⟩ ⟨_,j,rfl⟩ F.slot_tuple_lt F.entry_tuple_lt (F.args_tuple_lt_2 _ _) (ZgK a b us vs n n2 dd M sl O hx hy)
  ⟨Y,j,show iN (JO xs ys)≠Value.notImplemented/\Q (.bool (JO xs ys)) s from ⟨(fun x=>nomatch x),h⟩⟩ hu
theorem Ze1 {fin:Bool}{Q:Bool->Shared->Prop}(O:A.units<cLine):∀(M vs:List Value) (xs ys:List (List Int)) (i:Nat),Xa s.heap M xs->Xa s.heap vs ys->Q (Zig fin xs ys) s->W.KatLex prog w A false fin Q (M.zip vs) i s
 | [],vs,xs,ys,i,j,J,q=>by
  cases xs with
  |nil=>exact iQ q
  |cons _ _=>exact j.elim
 |_::_,[],xs,ys,i,j,J,q=>by
  cases ys with
  |cons _ _=>exact J.elim
  |nil=>
   cases xs with
   |nil=>exact iQ q
   |cons x xs=>exact iQ q
 |u::M,v::vs,xs,ys,i,j,J,q=>by
  cases xs with
  |nil=>exact j.elim
  |cons x xs=>
   cases ys with
   |nil=>exact J.elim
   |cons y ys=>
    obtain⟨⟨a,ua,rfl,Y,ia⟩,r1⟩:=j;obtain⟨⟨b,ub,rfl,tb,ib⟩,r2⟩:=J;rw[ma];refine W.kat_cons ?_;refine Zgv O Y tb ia ib prog w _ _ ?_;rw[Zig] at q;by_cases e:x=y
    ·rw[if_pos e] at q
     rw[decide_eq_true e];exact W.kat_yes (Ze1 O M vs xs ys (i+1) r1 r2 q)
    ·rw[if_neg e] at q
     rw[decide_eq_false e];refine W.kat_no ?_;rw[jT];exact W.kat_one _ _ (Zkl O Y tb ia ib q)
end
end PyZ
namespace PyZ
open PySem PyProof PyProof.Rows SeqAt
theorem Zbv (ys:List (List Int)):VZ [] ys=decide (0<ys.length):=rfl
theorem ZcL (xs:List (List Int)):VZ xs []=false:=by
 cases xs with
 |nil=>rfl
 |cons x xs=>
  show decide ((x::xs).length<([]:List (List Int)).length)=false;exact decide_eq_false (by simp)
theorem UA (x y:List Int)(xs ys:List (List Int)):VZ (x::xs) (y::ys)=if x=y then VZ xs ys else JO x y:=by
 unfold VZ;show (if x=y then Zig _ xs ys else _)=_
 have e:decide ((x::xs).length<(y::ys).length)=decide (xs.length<ys.length):=by
  simp only[Zi,kx]
 rw[e]
theorem ZeT:∀xs:List (List Int),VZ xs xs=false
 | []=>rfl
 |x::xs=>by rw[UA,if_pos rfl];exact ZeT xs
theorem ZeS:∀{xs ys:List (List Int)},VZ xs ys=false->VZ ys xs=false->xs=ys
 | [],[],_,_=>rfl
 | [],_::_,h,_=>by rw[Zbv] at h;simp at h
 |_::_,[],_,h=>by rw[Zbv] at h;simp at h
 |x::xs,y::ys,j,q=>by
  rw[UA] at j q;by_cases e:x=y
  ·rw[if_pos e] at j
   rw[if_pos e.symm] at q;rw[e,ZeS j q]
  ·rw[if_neg e] at j
   rw[if_neg (bd e)] at q;exact absurd (V0 j q) e
theorem Zat:∀{xs ys O:List (List Int)},VZ xs ys=true->VZ ys O=true->VZ xs O=true
 |xs,ys,[],_,h=>by rw[ZcL] at h;cases h
 |xs,[],z::O,h,_=>by rw[ZcL] at h;cases h
 | [],y::ys,z::O,_,_=>by rw[Zbv];exact decide_eq_true (by simp)
 |x::xs,y::ys,z::O,J,q=>by
  rw[UA] at J q ⊢;by_cases M:x=y
  ·rw[if_pos M] at J
   by_cases j:y=z
   ·rw[if_pos j] at q
    rw[if_pos (M.trans j)];exact Zat J q
   ·rw[if_neg j] at q
    rw[if_neg (by rw[M];exact j),M];exact q
  ·rw[if_neg M] at J
   by_cases j:y=z
   ·rw[if_neg (by rw[<-j];exact M),<-j]
    exact J
   ·rw[if_neg j] at q
    have Y:=Vm J q;rw[if_neg (fun e=>by rw[e,Zbx] at Y;cases Y)];exact Y
noncomputable def rkR (yss:List (List (List Int)))(i:Nat):Nat:=(ac yss.length).countP fun k=>VZ (yss.getD k []) (yss.getD i [])
theorem ZeB {yss:List (List (List Int))}{i j:Nat}(q:i<yss.length)(O:j<yss.length):VZ (yss.getD i []) (yss.getD j [])=decide (rkR yss i<rkR yss j):=by
 have J:∀{i j:Nat},i<yss.length->VZ (yss.getD i []) (yss.getD j [])=true->rkR yss i<rkR yss j:=fun {i j} q h=>by
  refine Vp (fun k _ Y=>Zat Y h) ⟨i,ag.mpr q,ZeT _,h⟩
 cases e:VZ (yss.getD i []) (yss.getD j []) with
 |true=>rw[decide_eq_true (J q e)]
 |false=>
  cases M:VZ (yss.getD j []) (yss.getD i []) with
  |true=>
   have:=J O M;rw[decide_eq_false (by omega)]
  |false=>
   have:=ZeS e M;unfold rkR;rw[this];exact (decide_eq_false (by omega)).symm
theorem ZdH {yss:List (List (List Int))}(M:1<=yss.length):∃p,Xz yss.length (fun i j=>VZ (yss.getD i []) (yss.getD j [])) (gx yss.length)=some p/\p.toList.Perm (ac yss.length)/\(p.toList.map fun i=>yss.getD i []).Pairwise fun a b=>VZ b a=false:=by
 obtain⟨p,e,q,J⟩:=Zep M (rkR yss);refine⟨p,(Xy (fun i j O Y=>ZeB O Y) _).trans e,q,?_⟩;rw[gA] at J ⊢;refine dR (fun {a b} ha hb m5=>?_) J;have la:=ag.mp (q.mem_iff.mp ha);have lb:=ag.mp (q.mem_iff.mp hb);rw[ZeB lb la];exact decide_eq_false (by omega)
theorem Xa.len {h:Heap}:∀{us:List Value}{xs:List (List Int)},Xa h us xs->us.length=xs.length
 | [],[],_=>rfl
 | [],_::_,h=>h.elim
 |_::_,[],h=>h.elim
 |_::_,_::_,h=>by rw[Zi,Zi,h.2.len]
theorem ZcR {h:Heap}:∀(as:List Addr) (yss:List (List (List Int))),as.length=yss.length->(∀(i:Nat) a,as[i]?=some a->∃(j:List Value) (ys:List (List Int)),yss[i]?=some ys/\h.IsTuple a j.toArray/\Xa h j ys/\ys≠[])->
  ∃fs:List Value,W.KatTups h (as.map aC) fs/\fs.length=as.length/\∀v∈fs,∃a j,v=aC a/\h.IsTuple a j
 | [],[],_,_=>⟨[],lY,rfl,fun v q=>by cases q⟩
 | [],_::_,h,_=>by cases h
 |_::_,[],h,_=>by cases h
 |a::as,ys::yss,M,g=>by
  obtain⟨j,O,e,⟨o,Y,c,n,d⟩,J,ne⟩:=g 0 a rfl;cases e;obtain⟨fs,k,l,f⟩:=ZcR as yss (c8 M) fun i a' hi=>g (i+1) a' hi
  match j,ys,J,ne with
  |_,[],_,ne=>exact absurd rfl ne
  | [],_::_,J,_=>exact J.elim
  |u::j,y::ys,J,_=>
   obtain⟨⟨b,ub,rfl,tb,_⟩,_⟩:=J;refine⟨aC b::fs,lQ Y c d (by simp) k,by rw[Zi,Zi,l],fun v q=>?_⟩;rcases aH.mp q with rfl|q
   ·exact⟨b,ub,rfl,tb⟩
   ·exact f v q
section
variable {prog:Program}{w:World}{A:Around}{E:Value->Shared->Prop}{s:Shared}
theorem Za4 {l L:Addr}{m:Str->Option Value}{as:List Addr}{yss:List (List (List Int))}{p:Array Nat}{Q:Value->Shared->Prop}(hu:A.units+2<cLine)(n8:s.heap.Ns L m)(hl:s.heap.IsList l (as.map aC).toArray)(n2:2<=as.length)(n9:as.length<64)(hy:as.length=yss.length)
  (ht:∀h':Heap,(∀b o,b≠L->s.heap.get? b=some o->h'.get? b=some o)->∀(i:Nat) a,as[i]?=some a->∃(us:List Value) (ys:List (List Int)),yss[i]?=some ys/\h'.IsTuple a us.toArray/\Xa h' us ys/\ys≠[])
  (hp:Xz as.length (fun i j=>VZ (yss.getD i []) (yss.getD j [])) (gx as.length)=some p)
  (q:∀D c h',s.heap.get? D=none->D≠L->(∀b o,b≠L->s.heap.get? b=some o->h'.get? b=some o)->h'.Ns L m->h'.get? D=some (mr (p.toList.map fun i=>(as.map aC).getD i bf).toArray c)->Q (.ref D) {s with heap:=h'}) :
  wpAny (model prog w) A (call (.builtin "sorted") [.ref l]) Q E s:=by
 have fr:Fr (U8 s.heap L) L s.heap m:=by
  refine⟨n8,fun b o e=>?_,?_⟩
  ·by_cases hb:b<L
   ·rw[YK hb] at e;exact e
   ·rw[WQ (fM hb)] at e
    cases e
  ·show (s.heap.objs.extract 0 L).size<=L
   rw[gm,cW];exact fZ ..
 have nw:News (U8 s.heap L) L s.heap (Yh s.heap L):=fun x hx=>by
  obtain⟨J,h2⟩:=Yk.mp hx;exact⟨h2,bh J,WQ (cY J)⟩
 have lv:(as.map aC).length=as.length:=eV ..;refine lO fr nw hl (by rw[lv];exact n2) (by rw[lv];exact n9) fun D e1 h' m6 M big=>?_;have kept:∀b o,b≠L->s.heap.get? b=some o->h'.get? b=some o:=fun b o hb e=>by
  rcases cF b L with J|J
  ·exact m6.keep b o (by rw[YK J];exact e)
  ·exact (M (b,o) (aq _ (Yk.mpr ⟨bw J (bd hb),e⟩))).1
 have dn:s.heap.get? D=none:=by
  cases e:s.heap.get? D with
  |none=>rfl
  |some o=>
   obtain⟨_,dL,dc⟩:=M _ (ax ..);rcases cF D L with J|J
   ·rw[YK J] at dc
    rw[dc] at e;cases e
   ·exact absurd (big (D,o) (Yk.mpr ⟨bw J (bd dL),e⟩)) (bV _)
 have dL:D≠L:=(M _ (ax ..)).2.1;have m5:=ht h' kept;obtain⟨fs,kt,fl,fi⟩:=ZcR as yss hy m5;refine W.kat_kind (T:=cz "tuple") kt (by omega) (fun v hv=>?_) (by decide +kernel) ?_
 ·obtain⟨a,us,rfl,⟨o,g1,g2,_⟩⟩:=fi v hv
  intro A Q E s' hk q;refine iy (T:="tuple") ⟨o,hk _ _ g1,g2⟩ q
 ·rw[lv]
  have kb:(cz "tuple" != cz "tuple")=false:=by decide +kernel
  rw[kb];refine Xi (cmp:=fun i j=>VZ (yss.getD i []) (yss.getD j [])) (fun i j C hi hj c=>?_) _ p _ hp ?_
  ·unfold W.kas_ask
   obtain⟨us,ys,e,⟨o,g1,g2,n1,g3⟩,ia,_⟩:=m5 i as[i] (Zf hi);obtain⟨o0,m8,e2,⟨o2,k1,k2,o6,k3⟩,n6,_⟩:=m5 j as[j] (Zf hj);have v1:(as.map aC).getD i bf=.ref as[i]:=by
    rw[Zb,Zc,Zf hi];rfl
   have v2:(as.map aC).getD j bf=.ref as[j]:=by
    rw[Zb,Zc,Zf hj];rfl
   have w1:yss.getD i []=ys:=by rw[Zb,e];rfl
   have w2:yss.getD j []=m8:=by rw[Zb,e2];rfl
   rw[v1,v2];refine W.kat_lt g1 g3 k1 k3 ?_;refine Ze1 (by show A.units+1+1<cLine;omega) us o0 ys m8 0 ia n6 ?_;rw[w1,w2] at c;unfold VZ at c;rw[Zh,Zh,ia.len,n6.len];exact c
  ·refine⟨_,_,m6,M,kB (fun x hx=>aD (big x hx)),fun o5 c O Y=>?_⟩
   refine q D c o5 dn dL (fun b o hb e=>?_) O.ns (Y _ (ax ..)).1;rcases cF b L with J|J
   ·exact O.keep b o (by rw[YK J];exact e)
   ·exact (Y (b,o) (aq _ (Yk.mpr ⟨bw J (bd hb),e⟩))).1
end
end PyZ
namespace L2
open PySem PySem.Spec PyProof.Rows
noncomputable def RowT (H:Hp)(a:Addr)(ys:List (List Int)):Prop:=∃cs:List Addr,H a=some (.tup (cs.map V.ref))/\cs.length=ys.length/\∀(i:Nat) c,cs[i]?=some c->∃y,ys[i]?=some y/\H c=some (.tup (y.map V.int))
section
variable {X:Cx}{pins:List (Addr×Obj)}{σ:St}{H:Hp}{s:Shared}
inductive Zhy (xs:List V) (H:Hp) (Q:VK):Prop
 |mk (l:Addr) (as:List Addr) (yss:List (List (List Int))):(xs=[.ref l])->(H l=some (.lst (as.map V.ref)))->(as.length=yss.length)->(as.length<64)->((∀(i:Nat) a,as[i]?=some a->∃ys,yss[i]?=some ys/\ys≠[]/\RowT H a ys))->(∀D js,H D=none->bP js (ac as.length)->(js.map fun i=>yss.getD i []).Pairwise (fun a b=>PyZ.VZ b a=false)->Q (.ref D) (upd H D (.lst ((js.map fun i=>as.getD i 0).map V.ref))))->Zhy xs H Q
theorem Zai (I:Inv X pins σ H s){h':Heap}(kept:∀b o,b≠X.env.locals->s.heap.get? b=some o->h'.get? b=some o):∀(cs:List Addr) (ys:List (List Int)),cs.length=ys.length->(∀(i:Nat) c,cs[i]?=some c->∃y,ys[i]?=some y/\H c=some (.tup (y.map V.int)))->PyZ.Xa h' (cs.map aC) ys
 | [],[],_,_=>trivial
 | [],_::_,h,_=>by cases h
 |_::_,[],h,_=>by cases h
 |c::cs,y::ys,J,g=>by
  obtain⟨y',e,j⟩:=g 0 c rfl;cases e;obtain⟨us,M,⟨o,O,g2⟩,_⟩:=I.tuple (.of j);have q:c≠X.env.locals:=fun z=>by rw[z,I.free] at j;cases j
  exact⟨⟨c,us.toArray,rfl,⟨o,kept c o q O,g2⟩,by simpa using Jx M⟩,Zai I kept cs ys (c8 J) fun i Y hi=>g (i+1) Y hi⟩
theorem Zeb (hu:X.A.units+64<cLine):YN X (.builtin "sorted") Zhy:=by
 intro pins s σ H xs us Q I r h;obtain⟨l,j,J,rfl,hl,hy,m8,ht,q⟩:=h;obtain⟨u,rfl,ru⟩:=r.one;cases ru;obtain⟨m,hm,n6⟩:=id I.loc;obtain⟨z,o8,n,rv,hlen,e⟩:=I.lstM hl;have ei:=WP rv;subst ei;have m5:s.heap.IsList l (j.map aC).toArray:=(I.list (.of hl)).elim fun o7 hh=>by
  obtain⟨O,pl,_⟩:=hh;have:=WP O;rw[this] at pl;exact pl.isList
 have o9:(16777216:Nat)=sizeLine:=by decide
 have n8:∀{a:Addr}{o:HO},H a=some o->a≠X.env.locals:=fun {a o} e z=>by rw[z,I.free] at e;cases e
 by_cases n2:j.length<2
 ·refine PyZ.XU m5 (by rw[Za];exact n2) ?_
  obtain⟨e1,he⟩:=sortedAll_at s.heap (j.map aC) (j.map aC).toArray;have m6:∀b o,s.heap.get? b=some o->(sortedAll s.heap (j.map aC) (j.map aC).toArray).get? b=some o:=fun b o e=>sortedAll_old e;generalize sortedAll s.heap (j.map aC) (j.map aC).toArray=h' at he m6 ⊢;have Y:s.heap.objs.size<=s.heap.objs.size+1:=gG _;generalize s.heap.objs.size+1=D at he Y ⊢;have em:=ZeN n2;have n9:=ZhQ n2 (fun i=>J.getD i []) fun a b=>PyZ.VZ b a=false;have fin:=q D (ac j.length) (I.hok.fresh Y) (cZ _) n9;rw[em] at fin;have I':Inv X pins σ (upd H D (.lst (j.map V.ref))) {s with heap:=h',toks:=s.toks}:=I.laid (a:=D) (o:=.lst (j.map V.ref)) (t':=s.toks) m6 Y ⟨by rw[Za];omega,j.map aC,e1,Jq j,he⟩;exact⟨.ref D,_,I',rfl,fin⟩
 ·obtain⟨p,hp,M,o0⟩:=PyZ.ZdH (yss:=J) (by omega)
  rw[<-hy] at hp M;have o5:∀i∈p.toList,i<j.length:=fun i hi=>ag.mp (M.mem_iff.mp hi);have pl:p.toList.length=j.length:=by rw[M.length_eq,Zg]
  have es:(p.toList.map fun i=>(j.map aC).getD i bf)=(p.toList.map fun i=>j.getD i 0).map aC:=by
   rw[aP];refine aX fun i hi=>?_;have:=o5 i hi;show (j.map aC).getD i bf=aC (j.getD i 0);rw[Zb,Zc,Zf this,Zb,Zf this];rfl
  refine PyZ.Za4 (yss:=J) (p:=p) (by omega) hm m5 (by omega) m8 hy (fun h' kept i a hi=>?_) hp (fun D c h' dn dL kept o6 hD=>?_)
  ·obtain⟨ys,e1,ne,cs,ha,cl,hc⟩:=ht i a hi
   obtain⟨us,O,⟨o,g1,g2⟩,_⟩:=I.tuple (.of ha);have eu:=WP O;subst eu;exact⟨_,ys,e1,⟨o,kept a o (n8 ha) g1,g2⟩,Zai I kept cs ys cl hc,ne⟩
  ·rw[es] at hD
   obtain⟨I',hH⟩:=I.newL (ys:=(p.toList.map fun i=>j.getD i 0).map V.ref) hm n6 dn dL kept o6 (by rw[Za,Za];omega) (Jq _) hD;exact⟨.ref D,_,I',rfl,q D _ hH M o0⟩
end
end L2
namespace C51
open PySem L2 PySem.Spec PyProof.Rows
open Tb Pm
noncomputable abbrev Zha:Stmt:=top 19
noncomputable def Xv (t:List (List Nat))(n p:Nat)(e:Nat->Nat->Nat)(z:Nat)(j:Nat->Nat)(s x:Nat):List Int:=Zh6 n (ofF n (Jd t x) p ((t.length:Int)*(bkM p (j s):Int)) z fun k=>(e s (it t x k):Int))
noncomputable def JN (t:List (List Nat))(n p m:Nat)(e:Nat->Nat->Nat)(z:Nat)(j:Nat->Nat)(s:Nat):List (List Int):=(ac m).map fun c=>Xv t n p e z j s (ZO t c)
noncomputable def Zdd (H:Hp)(r:Addr)(yss:List (List (List Int))):Prop:=∃cs:List Addr,H r=some (.tup (cs.map V.ref))/\cs.length=yss.length/\∀(i:Nat) c,cs[i]?=some c->∃j,yss[i]?=some j/\RowT H c j
inductive ZaS (vs:List V) (H:Hp) (Q:VK) (E03:XK):Prop
 |mk (g:Addr) (t:List (List Nat)) (n p m:Nat) (e ω φ:Nat->Nat->Nat) (z:Nat) (dg:Nat->Nat):(vs=[.ref g])->(GT H g t)->(PW t)->(TD t n p m e ω φ z dg)->(∀r yss H',Zv H H'->Zdd H' r yss->yss.Perm ((ac m).map (JN t n p m e z dg))->yss.Pairwise (fun a b=>PyZ.VZ b a=false)->Q (.ref r) H')->ZaS vs H Q E03
theorem _root_.L2.RowT.mono {H j:Hp}{a:Addr}{ys:List (List Int)}(h:RowT H a ys)(s:Zv H j):RowT j a ys:=by
 obtain⟨q,J,M,O⟩:=h;refine⟨q,s _ _ J,M,fun i c Y=>?_⟩;obtain⟨y,g1,g2⟩:=O i c Y;exact⟨y,g1,s _ _ g2⟩
section
variable {t:List (List Nat)}{n p m:Nat}{e ω φ:Nat->Nat->Nat}{z:Nat}{dg:Nat->Nat}
theorem Zhu {a r:Nat}(R:Rd t a r){x:Nat}(h:it t a x=0):x % r=0:=by
 rw[UH R] at h;apply ah;intro z;exact R.nz (x % r) (by omega) (ba _ R.r1) h
theorem ZmT {a r:Nat}(R:Rd t a r){x:Nat}(h:x % r=0):it t a x=0:=by
 rw[UH R,h];rfl
theorem _root_.Tb.TD.round (D:TD t n p m e ω φ z dg){rs:Nat->Nat}(R:∀a,a<t.length->Rd t a (rs a)){f:Nat}(L:Lc rs t.length f):f=n:=by
 have q:n % f=0:=L.mn n fun a j=>Zhu (R a j) (D.all a j);have J:f % n=0:=D.mn f fun a j=>ZmT (R a j) (L.dv a j);have M:=L.f1;have O:=D.n1;have Y:=fO (by omega) (a7 q);have d2:=fO (by omega) (a7 J);omega
theorem _root_.Tb.TD.rd (D:TD t n p m e ω φ z dg){a r:Nat}(j:a<t.length)(R:Rd t a r):r<=n/\r<p:=by
 have h:=Zhu R (D.all a j);have M:=D.n1;have q:=fO (by omega) (a7 h);obtain⟨J,O,_⟩:=D.fit.st;exact⟨q,by omega⟩
end
section
variable {P:Program}{w:World}{K:aa}{mg:Str->Option Value}{base:Heap}
theorem ZhU {f:Addr}{fd:FuncData}(F:WI K "table_of" "table_of" Zha f fd)(T:Bl mg)(T2:Zgw mg)(GR:Fn P w K mg base Ym 2 "full_round" ["group"] ZdB)(GF:Fn P w K mg base Ym 1 "fit_prime" ["n", "count"] Zg0)(u5:Fn P w K mg base Ym 1 "root_powers" ["n", "p"] ZaV)(GW:Fn P w K mg base Ym 6 "power_walks" ["group"] ZaP)(GC:Fn P w K mg base Ym 6 "counts_of" ["group"] Uj)(GA:Fn P w K mg base Ym 4 "taken_apart" ["counts", "p"] Za3)(GB:Fn P w K mg base Ym 1 "back_by" ["p", "x"] JS)(G1:Fn P w K mg base Ym 1 "first_of" ["one", "count", "p"] (Za2 K))(GN:Fn P w K mg base Ym 4 "number_at" ["walk", "one", "share", "roots", "p"] ZaZ):Ya P w K mg base Ym 7 f fd ["group"] ZaS:=by
 refine F.ok (FS (N:=["group", "n", "p", "roots", "walks", "rows", "one", "share"])) (fun vs H Q E h=>?_) (fun cdv A u9 s H vs Q E hr h=>?_)
 ·obtain⟨g,t,n,p,m,e,ω,φ,z,dg,rfl,_⟩:=h;rfl
 ·obtain⟨g,t,n,p,m,e,ω,φ,z,dg,rfl,G,Pt,D,q⟩:=h
  refine⟨_,Zs (ZE 1 rfl (Wr GR hr ZL (pc (vn 0) Zu)))
   (Zs (ZE 2 rfl (Wr GF hr ZL (pc (vn 1) (pc (cb (Yx K) T.len (pc (vn 0) Zu)) Zu))))
   (Zs (ZE 3 rfl (Wr u5 hr ZL (pc (vn 1) (pc (vn 2) Zu))))
   (Zs (ZE 4 rfl (Wr GW hr ZL (pc (vn 0) Zu)))
   (Zs (ZE 5 rfl (ZQ Zu))
   (Zs (ZM am rfl (itL K (Wr GA hr ZL (pc (Wr GC hr ZL (pc (vn 0) Zu)) (pc (vn 2) Zu)))) (gnf 6 rfl)
    (Zs (ZE 7 rfl (Zy ZN (cb (Yx K) T.len (pc (vn 0) Zu)) (Wr GB hr ZL (pc (vn 2) (pc (Wr G1 hr ZL (pc (vn 6) (pc (cb (Yx K) T.len (pc (vn 0) Zu)) (pc (vn 2) Zu)))) Zu)))))
    (Zw (Yu (Wj aK aQ aT Z7 (vn 5)
     (pc (ct ZX T.tuple (pc (cmp ["walk"] [6,7,3,2] ["walk", "one", "share", "roots", "p"] rfl (itL K (vn 4)) (fun _ _ _ _ _=>gn 0) (fun _ _ _ _ _=>Z0)
      (fun _ _ _ _ _=>Wr GN hr ZL (pc (vn 0) (pc (vn 1) (pc (vn 2) (pc (vn 3) (pc (vn 4) Zu))))))) Zu)) Zu))))))
   (Zw (ZJ (ct ZX T.tuple (pc (cb (Zeb hr.units) T2.sorted (pc (vn 5) Zu)) Zu))))))))),?_⟩
  have sz:(16777216:Nat)=sizeLine:=by decide
  have n60:=D.n60;have w8:=Pt.n60;have N1:=Pt.n1;have C:=D.cd;have p2:=C.pr.p2;have pl:=D.fit.lt;have m1:=C.m1;have w9:=ZkO C Pt;have mc:=C.mc;have U:=Y8 Pt;obtain⟨gs,u1,u2,_⟩:=id G;have el:(gs.map V.ref).length=t.length:=by rw[Za,u2]
  have p3:∀a,a<t.length->Rd t a (Jd t a):=fun a ha=>by
   obtain⟨r,R⟩:=Pt.rd a ha;rw[Us R];exact R
  refine⟨_,rfl,g,t,Jd t,rfl,G,Pt,p3,fun fr H1 s1 L=>?_⟩;have x9:=D.round p3 L;subst x9;refine⟨_,rfl,_,rfl,g,_,rfl,.inr (.of (s1 _ _ u1)),fr,t.length,p,by rw[el];rfl,D.n1,n60,by omega,D.fit,fun H2 s2=>?_⟩;refine⟨_,rfl,_,rfl,fr,p,z,rfl,D.n1,n60,p2,pl,D.rt,fun Ro H3 nRo s3 y4=>?_⟩;have p4:=(s1.trans s2).trans s3;refine⟨_,rfl,g,t,rfl,G.mono p4,Pt,fun Wk ws H4 s4 W4=>?_⟩;rw[<-mc] at W4;refine⟨(by show 0<=sizeLine;decide),fun L nL=>?_⟩;have s5:=Zv.upd (H:=H4) (o:=.lst []) nL;have h5:upd H4 L (.lst []) L=some (.lst ([]:List V)):=Zt;generalize upd H4 L (.lst [])=H5 at s5 h5 ⊢;have q0:=(p4.trans s4).trans s5;have y6:H L=none:=(p4.trans s4).free nL;refine⟨_,rfl,g,t,rfl,G.mono q0,Pt,fun Cn H6 s6 C6=>?_⟩;rw[<-mc] at C6;refine⟨_,rfl,Cn,t,p,m,e,ω,φ,rfl,C,Pt,pl,C6,fun Sm cs ss H7 s7 S7=>?_⟩;have p6:=(q0.trans s6).trans s7;have h7:=(s6.trans s7) _ _ h5;obtain⟨S1,S2,S3,S4⟩:=S7;have o0:ss.length=m:=by rw[S3.length_eq,Zg]
  have m6:∀{b:Addr}{xs:List V},xs≠[]->H7 b=some (.lst xs)->b≠L:=fun {b xs} hx hb=>Zbq hb h7 hx;have neT:∀{b:Addr}{xs:List V},H7 b=some (.tup xs)->b≠L:=fun {b xs} hb z=>by rw[z,h7] at hb;cases hb
  have r6:cs.map V.ref≠[]:=fun z=>by
   have:=congrArg e9 z;rw[Za,S2,o0] at this;simp at this;omega
  have r8:∀{k:Nat}{v:Nat->Int},1<=k->ZC k v≠[]:=fun {k v} hk z=>by
   have:=congrArg e9 z;rw[ZR] at this;simp at this;omega
  have y8:=Vv S1 (m6 r6 S1);refine⟨Sm,rfl,⟨_,.of S1⟩,?_⟩;have W7:H7 Wk=some (.lst (ws.map V.ref)):=(s5.trans (s6.trans s7)) _ _ W4.at';have R7:H7 Ro=some (.lst (Je p z fr)):=(s4.trans (s5.trans (s6.trans s7))) _ _ y4;have m8:(ws.map V.ref).length=m:=by rw[Za,W4.len]
  refine WL (H0:=but H7 L) (YV (K:=K) (.of y8)) (fun i o5 H'=>∃(rs:List Addr) (v6 v7:Option V),o5=[some (.ref g),some (.int (fr:Nat)),some (.int (p:Nat)),some (.ref Ro),some (.ref Wk),some (.ref L),v6,v7]/\Zv (but H7 L) H'/\H' L=some (.lst (rs.map V.ref))/\rs.length=i/\∀(j:Nat) c,rs[j]?=some c->RowT H' c (JN t fr p m e z dg (ss.getD j 0)))
   ⟨[],_,_,rfl,fun b o hb=>(Zbo hb).2,h7,rfl,fun j c O=>by simp at O⟩ (fun i o5 H' h=>by
    obtain⟨_,_,_,_,sm,_⟩:=h;exact sm) ?_ ?_
  ·rintro i y o5 H8 hy ⟨rs,v6,v7,rfl,s8,h8,rl,o6⟩
   have hi:i<m:=by
    have:=(ae.mp hy).1;rw[Za,S2,o0] at this;exact this
   rw[Zc,Zf (show i<cs.length by omega)] at hy;cases hy;have ho:=S4 i _ (Zf (show i<cs.length by omega));generalize cs[i]'(by omega)=oa at ho ⊢;have J:ss.getD i 0<m:=by
    have:ss.getD i 0∈ss:=by rw[Zb,Zf (by omega)];exact bK _
    exact ag.mp (S3.mem_iff.mp this)
   generalize y9:ss.getD i 0=M at ho J;have k8:∀{b:Addr}{o:HO},H7 b=some o->b≠L->H8 b=some o:=fun {b o} hb Y=>s8 b o (Vv hb Y);have t5:=k8 ho (m6 (r8 m1) ho);have u8:=k8 (p6 _ _ u1) (neT (p6 _ _ u1));have W8:=k8 W7 (m6 (fun Y=>by rw[Y] at m8;simp at m8;omega) W7);have t6:Je p z fr≠[]:=fun Y=>by
    have:=congrArg e9 Y;rw[VW] at this;have:=D.n1;simp at *;omega
   have R8:=k8 R7 (m6 t6 R7);have Zbg:ZO t 0=0:=by
    have h0:0<(ZD t t.length).length:=by omega
    exact ((U.z _ (U.rl 0 h0)).mp (U.rn 0 h0))
   have e0:EC t e M 0=e M 0:=by unfold EC;rw[Zbg]
   have elt:=C.elt M 0 J (by omega);refine⟨_,rfl,g,_,rfl,.inr (.of u8),_,rfl,_,rfl,_,rfl,g,_,rfl,.inr (.of u8),_,rfl,oa,(ac m).map fun c=>((EC t e M c:Nat):Int),e M 0,t.length,p,dg M,by rw[el];rfl,.of (by rw[t5,Jl]),?_,by omega,w8,p2,pl,D.d1 M J,D.dl M J,D.dq M J,fun d' a b=>D.dm M d' J a b,?_⟩
   ·rw[Zc,ao (by omega)]
    show some ((EC t e M 0:Nat):Int)=_;rw[e0]
   have dgp:=D.dp M J;have dg1:=D.d1 M J;obtain⟨y0,y1,y2,y3⟩:=C.pr.iv (dg M) (by omega) dgp;refine⟨p,_,rfl,p2,pl,⟨y0,y1,y2,by rw[<-aF,<-aZ,y3];rfl⟩,fun y a1 a2 a3=>?_⟩;have hy:y*dg M % p=1:=by
    have:((y*dg M % p:Nat):Int)=1:=by rw[aZ,aF];exact a3
    omega
   have eb:=ZlD a2 hy;refine⟨_,_,rfl,rfl,.inr ⟨by omega,by omega⟩,?_⟩;rw[el];refine⟨_,rfl,.inl ⟨rfl,_,.of h8⟩,_,rfl,Wk,rfl,⟨_,.of W8⟩,?_⟩;refine Pm.Wg (W:=Addr) id (fun c a H=>H a=some (.tup ((Xv t fr p e z dg M (ZO t c)).map V.int))) (fun _ _=>True) (YV (K:=K) (.of W8)) [some (.ref oa),some (.int ((t.length:Int)*(y:Int))),some (.ref Ro),some (.int (p:Nat))] rfl (by rw[m8];omega) (fun k a H H' sm h=>sm _ _ h) (fun a H H' sm h=>trivial) (fun k a H0' H1' D' o ys ys' h1 h2 h3 h4=>by rw[Zz (fun Y=>by rw[Y,h4] at h1;cases h1)];exact h1) (fun c x hx H9 s9 R k9=>?_) (fun D9 as H9 nD9 s9 hD9 t7 has _=>?_)
   ·have O:c<m:=by
     have:=(ae.mp hx).1;rw[m8] at this;exact this
    rw[Zc,Zf (show c<ws.length by have:=W4.len;omega)] at hx;cases hx;have hw:=W4.it c _ (Zf (show c<ws.length by have:=W4.len;omega));generalize ws[c]'(by have:=W4.len;omega)=wa at hw ⊢;have o7:=U.rl c (by omega);have Rr:=p3 _ o7;have rr:=D.rd o7 Rr;have t9:=(s5.trans (s6.trans s7)) _ _ hw;have hw8:=k8 t9 (m6 (r8 Rr.r1) t9);have tl:(t.length:Int)<=60:=by omega
    have shb:(t.length:Int)*(y:Int)<2 ^ 40:=by
     have:(t.length:Int)*(y:Int)<=60*(y:Int):=di tl (by omega);omega
    have sha:0<=(t.length:Int)*(y:Int):=Int.mul_nonneg (by omega) (by omega);refine⟨_,rfl,_,rfl,_,rfl,_,rfl,_,rfl,wa,oa,Ro,Jd t (ZO t c),m,fr,p,z,_,_,_,rfl,s9 _ _ hw8,s9 _ _ t5,s9 _ _ R8,D.n1,n60,w9,Rr.r1,rr.1,rr.2,pl,C.pr,⟨fun c _=>by omega,fun c O=>?_⟩,fun k hk=>?_,by omega,shb,fun q' m5 n6 o8=>?_⟩
    ·have:=C.elt M (ZO t c) J (U.rl c (by omega))
     show ((e M (ZO t c):Nat):Int)<(p:Int);omega
    ·exact⟨Y6 t (it t (ZO t c) k),by have:=U.lt _ (YW Pt o7 k);omega,rfl⟩
    ·refine k9 q' m5 n6 ?_ trivial
     rw[o8];show some (HO.tup ((Zh6 fr (ofF fr (Jd t (ZO t c)) p ((t.length:Int)*(y:Int)) z fun k=>((EC t e M (wkF t (ZO t c) k).toNat:Nat):Int))).map V.int))=_;unfold Xv;rw[eb];congr 3;congr 2;funext k;unfold wkF;rw[Zj,<-C.at Pt J (YW Pt o7 k)]
   ·refine⟨D9,_,rfl,.inl ⟨.of hD9,fun tp p7=>?_⟩⟩
    have n6:=Zv.upd (H:=H9) (o:=.tup (as.map fun w=>V.ref (id w))) p7;have hT:upd H9 tp (.tup (as.map fun w=>V.ref (id w))) tp=some (.tup (as.map V.ref)):=Zt;generalize upd H9 tp (.tup (as.map fun w=>V.ref (id w)))=m5 at n6 hT ⊢;have n8:=s9.trans n6;have o8:=n8 _ _ h8;refine⟨L,_,_,rfl,rfl,o8,by rw[Za,rl];omega,?_⟩;have keep:∀{b:Addr}{xs:List V},m5 b=some (.tup xs)->upd m5 L (.lst (rs.map V.ref++[.ref tp])) b=some (.tup xs):=fun {b xs} hb=>by
     rw[Zz (fun Y=>by rw[Y,o8] at hb;cases hb)];exact hb
    have n9:∀{b:Addr}{ys:List (List Int)},RowT m5 b ys->RowT (upd m5 L (.lst (rs.map V.ref++[.ref tp]))) b ys:=fun {b ys} hb=>by
     obtain⟨bs,b1,b2,b3⟩:=hb;refine⟨bs,keep b1,b2,fun j c O=>?_⟩;obtain⟨yy,c1,c2⟩:=b3 j c O;exact⟨yy,c1,keep c2⟩
    rw[m8] at t7;refine⟨rs++[tp],_,_,rfl,fun b o hb=>?_,by rw[Zt,aR];rfl,by rw[Zd,rl];rfl,fun j c O=>?_⟩
    ·rw[Zz (Zbo hb).1]
     exact (s8.trans n8) b o hb
    ·by_cases hj:j<rs.length
     ·rw[au hj] at O
      exact n9 ((o6 j c O).mono n8)
     ·have hl:=(ae.mp O).1
      rw[Zd,Zk] at hl;have ec:j=rs.length:=by omega
      rw[aw (by omega),ec,cD] at O;cases O;rw[ec,rl,y9];refine n9 ⟨as,hT,by unfold JN;rw[Za,Zg,t7],fun c a ha=>?_⟩;have hcm:c<m:=by
       have:=(ae.mp ha).1;omega
      refine⟨Xv t fr p e z dg M (ZO t c),by unfold JN;rw[Zc,ao hcm];rfl,n6 _ _ (has c a ha).1⟩
  ·rintro o5 H8 ⟨rs,v6,v7,rfl,s8,h8,rl,o6⟩
   rw[Za,S2,o0] at rl;have yl:(ss.map (JN t fr p m e z dg)).length=m:=by rw[Za,o0]
   have o9:∀j,j<m->(ss.map (JN t fr p m e z dg))[j]?=some (JN t fr p m e z dg (ss.getD j 0)):=fun j hj=>by
    rw[Zc,Zf (by omega),Zb,Zf (by omega)];rfl
   refine⟨_,rfl,L,rs,ss.map (JN t fr p m e z dg),rfl,h8,by omega,by omega,fun j a ha=>?_,fun Ls js nLs pm pw=>?_⟩
   ·have hj:j<m:=by
     have:=(ae.mp ha).1;omega
    exact⟨_,o9 j hj,fun Y=>by
     have:=congrArg e9 Y;unfold JN at this;rw[Za,Zg] at this;simp at this;omega,o6 j a ha⟩
   ·refine⟨Ls,_,rfl,.inl ⟨.of Zt,fun tp p7=>?_⟩⟩
    have sA:=Zv.upd (H:=H8) (o:=.lst ((js.map fun i=>rs.getD i 0).map V.ref)) nLs;have sB:=Zv.upd (H:=upd H8 Ls (.lst ((js.map fun i=>rs.getD i 0).map V.ref))) (o:=.tup ((js.map fun i=>rs.getD i 0).map V.ref)) p7;have p8:=sA.trans sB;have hT:upd (upd H8 Ls (.lst ((js.map fun i=>rs.getD i 0).map V.ref))) tp (.tup ((js.map fun i=>rs.getD i 0).map V.ref)) tp=some (.tup ((js.map fun i=>rs.getD i 0).map V.ref)):=Zt;generalize upd (upd H8 Ls (.lst ((js.map fun i=>rs.getD i 0).map V.ref))) tp (.tup ((js.map fun i=>rs.getD i 0).map V.ref))=H9 at p8 hT ⊢;rw[rl] at pm;have jl:js.length=m:=by rw[pm.length_eq,Zg]
    refine q tp (js.map fun i=>(ss.map (JN t fr p m e z dg)).getD i []) H9 (fun b o hb=>p8 _ _ (s8 b o (Vv (p6 _ _ hb) (fun Y=>by rw[Y,y6] at hb;cases hb)))) ⟨js.map fun i=>rs.getD i 0,hT,by rw[Za,Za],fun i c O=>?_⟩ ?_ pw
    ·rw[Zc] at O
     cases hj:js[i]? with
     |none=>rw[hj] at O;cases O
     |some j=>
      rw[hj] at O;have hjm:j<m:=ag.mp (pm.mem_iff.mp (aE hj));have ec:c=rs.getD j 0:=(aA O).symm;have hrj:rs[j]?=some c:=by rw[ec,Zb,Zf (by omega)];rfl
      refine⟨_,by rw[Zc,hj];rfl,?_⟩;have:=(o6 j c hrj).mono p8;show RowT H9 c ((ss.map (JN t fr p m e z dg)).getD j []);rw[Zb,o9 j hjm];exact this
    ·have h1:(js.map fun i=>(ss.map (JN t fr p m e z dg)).getD i []).Perm ((ac m).map fun i=>(ss.map (JN t fr p m e z dg)).getD i []):=pm.map _
     have h2:((ac m).map fun i=>(ss.map (JN t fr p m e z dg)).getD i [])=ss.map (JN t fr p m e z dg):=by
      refine bq fun j=>?_;by_cases hj:j<m
      ·rw[o9 j hj,Zc,ao hj]
       show some ((ss.map (JN t fr p m e z dg)).getD j [])=_;rw[Zb,o9 j hj];rfl
      ·rw[ak (by rw[Za,Zg];omega),ak (by omega)]
     rw[h2] at h1;exact h1.trans (S3.map _)
end
end C51
namespace Num
theorem Ys:∀(n:Nat) (f:Nat->Int),ZG (n+1) f=ZG n f+f n
 |0,f=>by rw[ZG,ZG,ZG];omega
 |n+1,f=>by
  rw[ZG,Ys n fun t=>f (t+1),ZG];omega
theorem XS:∀(n:Nat) (f g:Nat->Int),ZG n (fun t=>f t+g t)=ZG n f+ZG n g
 |0,f,g=>rfl
 |n+1,f,g=>by
  rw[ZG,ZG,ZG,XS n (fun t=>f (t+1)) fun t=>g (t+1)];omega
theorem XR (c:Int):∀(n:Nat) (f:Nat->Int),c*ZG n f=ZG n fun t=>c*f t
 |0,f=>bE c
 |n+1,f=>by rw[ZG,ZG,lW,XR c n fun t=>f (t+1)]
theorem Zaj (b:Nat):∀(a:Nat) (f:Nat->Nat->Int),ZG a (fun i=>ZG b fun m=>f m i)=ZG b fun m=>ZG a fun i=>f m i
 |0,f=>by rw[ZG];exact (YU b _ fun t _=>rfl).symm
 |a+1,f=>by rw[ZG,Zaj b a fun m i=>f m (i+1),<-XS];rfl
noncomputable def rh (n:Nat)(R:List (List Int))(k j:Nat):Int:=co (ro R (k % n)) j
section
variable {n top:Nat}{least:List Int}{R:List (List Int)}
theorem Zhq {k q:Nat}(h:k % n=q % n)(j:Nat):rh n R k j=rh n R q j:=by unfold rh;rw[h]
end
section
variable {n top:Nat}{least:List Int}{R:List (List Int)}{ps:List Int}
end
section
variable {n top:Nat}{least:List Int}{R:List (List Int)}{ps:List Int}
end
section
variable {n top:Nat}{least:List Int}{R:List (List Int)}{ps:List Int}{m top':Nat}{least':List Int}{R':List (List Int)}{ps':List Int}
end
noncomputable def Vn (f:Nat->Int):List Nat->Int
 | []=>0
 |h::j=>f h+Vn f j
theorem UC (c:Int):∀(U:List Nat),Vn (fun _=>c) U=(U.length:Int)*c
 | []=>by rw[Vn,ik];exact (bn c).symm
 |h::j=>by rw[Vn,UC c j,Zi];push_cast;rw[iH,gI,Int.add_comm]
section
variable {n top:Nat}{R:List (List Int)}{U:List Nat}
end
section
variable {n top:Nat}{least:List Int}{R:List (List Int)}{ps:List Int}
end
section
variable {n top:Nat}{least:List Int}{R:List (List Int)}{ps:List Int}{U:List Nat}
end
theorem Zak:∀(n:Nat) (f:Nat->Int),ZG n f=Vn f (ac n)
 |0,f=>rfl
 |n+1,f=>by
  rw[Ys,Zak n f,cm];have app:∀(U V:List Nat),Vn f (U++V)=Vn f U+Vn f V:=by
   intro U V;induction U with
   |nil=>rw[List.nil_append,Vn,cG]
   |cons x U j=>rw[mS,Vn,Vn,j];omega
  rw[app,Vn,Vn,bF]
section
variable {n top:Nat}{least:List Int}{R:List (List Int)}{ps:List Int}
theorem ZgS (G:Good n ps least top R){p:Nat}(q:(p:Int)∈ps)(a j:Nat):ZG p (fun t=>rh n R (a+t*(n / p)) j)=0:=by
 have h:=G.row _ q (a % n) (ba _ G.n1) j;rw[XH,Zj] at h;rw[<-h];refine ZI _ _ _ fun t _=>?_;unfold rh;rw[dJ]
theorem ZfA (n:Nat)(j:0<n)(f:Nat->Int):ZG n (fun k=>f ((k+1) % n))=ZG n f:=by
 obtain⟨m,rfl⟩:∃m,n=m+1:=⟨n-1,by omega⟩;rw[Ys,lh,ZG,Int.add_comm];congr 1;refine ZI _ _ _ fun t q=>?_;rw[aW (by omega)]
theorem Zcb (n:Nat)(j:0<n)(f:Nat->Int):∀c:Nat,ZG n (fun k=>f ((k+c) % n))=ZG n f
 |0=>ZI _ _ _ fun t q=>by rw[fz,aW q]
 |c+1=>by
  rw[<-Zcb n j f c,<-ZfA n j fun k=>f ((k+c) % n)];refine ZI _ _ _ fun t _=>?_;rw[dJ,show t+1+c=t+(c+1) by omega]
noncomputable def phi (n:Nat)(R:List (List Int))(g:Nat->Int)(m j:Nat):Int:=ZG n fun k=>g k*rh n R (k+m) j
theorem Zmh (q:0<n){s:Nat}(J:s<=n)(g:Nat->Int)(m j:Nat):phi n R (lk n s g) m j=phi n R g m j-phi n R g (m+s) j:=by
 unfold phi;rw[<-Zcb n q (fun k=>g k*rh n R (k+(m+s)) j) (n-s),<-Uc];refine ZI _ _ _ fun t _=>?_;unfold lk;rw[iF];congr 2;refine Zhq ?_ j;rw[dJ,show t+(n-s)+(m+s)=t+m+n by omega,gH]
theorem Zcx (G:Good n ps least top R):∀(q:List Int) (g:Nat->Int),(∀p∈q,p∈ps/\2<=p)->(∀k,k<n->XN n (Jn n q) g k=0)->∀m j,phi n R g m j=0
 | [],g,_,h,m,j=>by
  unfold phi;refine YU _ _ fun k M=>?_;have:g k=0:=h k M;rw[this,bn]
 |p::q,g,J,h,m,j=>by
  obtain⟨O,p2⟩:=J p (ax ..);obtain⟨p,rfl⟩:=bY (show 0<=p by omega);have Y:0<n:=G.n1;have hs:n / p<=n:=f6 _ _;have z:=Zcx G q (lk n (n / p) g) (fun x hx=>J x (aq _ hx)) h;have st:∀m,phi n R g m j=phi n R g (m+n / p) j:=fun m=>by
   have:=z m j;rw[Zmh Y hs] at this;omega
  have stN:∀t,phi n R g (m+t*(n / p)) j=phi n R g m j:=fun t=>by
   induction t with
   |zero=>rw[ft,fz]
   |succ t ih=>rw[cC,<-kA,<-st,ih]
  have e:ZG p (fun t=>phi n R g (m+t*(n / p)) j)=0:=by
   unfold phi;rw[Zaj];refine YU _ _ fun k _=>?_;rw[<-XR];have:=ZgS G O (k+m) j;rw[ZI _ _ _ fun t _=>by rw[<-kA],this,bE]
  rw[ZI _ _ _ fun t _=>stN t,Zak,UC,Zg] at e;rcases Int.mul_eq_zero.mp e with z|z
  ·omega
  ·exact z
end
section
variable {n top:Nat}{least:List Int}{R:List (List Int)}{ps:List Int}
theorem Zer (j:Nat):∀(xs:List Int) (k:Nat),sig n R j xs k=ZG xs.length fun t=>co xs t*rh n R (k+t) j
 | [],k=>rfl
 |x::xs,k=>by
  rw[sig,Zer j xs (k+1),Zi,ZG];congr 1;refine ZI _ _ _ fun t _=>?_;rw[Wh,show k+1+t=k+(t+1) by omega]
end
section
variable {n top:Nat}{least:List Int}{R:List (List Int)}{ps:List Int}
noncomputable def Nou (n:Nat)(ps:List Int)(v:Nat->Int):Prop:=∀k,k<n->XN n (Jn n ps) v k=0
noncomputable def me (n:Nat)(R:List (List Int))(v:Nat->Int)(j:Nat):Int:=ZG n fun k=>v k*rh n R k j
theorem ZiN {n:Nat}(v:Nat->Int){t:Nat}(j:t<n):co ((ac n).map v) t=v t:=by
 unfold co;rw[Zb,Zc,ao j];rfl
theorem Zmy (v:Nat->Int)(j:Nat):sig n R j ((ac n).map v) 0=me n R v j:=by
 rw[Zer,Za,Zg];refine ZI _ _ _ fun t q=>?_;rw[ZiN v q,ig]
theorem Zmv (G:Good n ps least top R)(O:∀p∈ps,2<=p)(v:Nat->Int):Nou n ps v↔∀j,j<top->me n R v j=0:=by
 constructor
 ·intro h j _
  exact Zcx G ps v (fun p J=>⟨J,O p J⟩) h 0 j
 ·intro h k M
  have L:=Zie G ((ac n).map v) k M;have z:∀t,co (X2 n top R ((ac n).map v)) t=0:=fun t=>by
   by_cases q:t<top
   ·rw[ZbP q,Zmy,h t q]
   ·exact WG (by rw[Jr];omega)
  have e:=Wa n (by omega) (Jn n ps) (fun t=>co (Wb n (X2 n top R ((ac n).map v))) t-co (Wb n ((ac n).map v)) t) (fun t=>(-1)*v t) (fun t q=>by
   show co (Wb n (X2 n top R ((ac n).map v))) t-co (Wb n ((ac n).map v)) t=(-1)*v t;rw[J5 (by rw[Jr];exact G.tn),z,J5 (by rw[Za,Zg];exact Zq _),ZiN v q];omega) k M
  rw[e,Zbz] at L;omega
theorem Zid (u v:Nat->Int)(c:Int)(j:Nat):me n R (fun i=>u i+c*v i) j=me n R u j+c*me n R v j:=by
 unfold me;rw[XR,<-XS];refine ZI _ _ _ fun t _=>?_;rw[iH,ck]
theorem Zbu (j:Nat):me n R (fun _=>0) j=0:=YU _ _ fun t _=>bn _
theorem ZdX (v:Nat->Int)(x:Int){q:Nat}(J:q<n)(j:Nat):me n R (fun i=>if i=q then x else v i) j=me n R v j+(x-v q)*rh n R q j:=by
 unfold me;have e:=Jm n q (fun t=>if t=q then (x-v q)*rh n R q j else 0) J (fun t _ h=>if_neg h)
 rw[if_pos rfl] at e;rw[<-e,<-XS];refine ZI _ _ _ fun t _=>?_;show (if t=q then x else v t)*rh n R t j=_
 by_cases h:t=q
 ·rw[if_pos h,if_pos h,h,iF];omega
 ·rw[if_neg h,if_neg h,bF]
theorem Zkk (G:Good n ps least top R){xs:List Int}(O:xs.length<=top){j:Nat}(q:j<top):me n R (co xs) j=co xs j:=by
 have Y:=G.tn;unfold me;rw[Jm n j _ (by omega) (fun t M h=>?_)]
 ·unfold rh
  rw[aW (by omega),G.un j q,Jb q,if_pos rfl,fe]
 ·by_cases J:t<top
  ·unfold rh
   rw[aW M,G.un t J,Jb q,if_neg (fun z=>h z.symm),bE]
  ·rw[WG (by omega),bn]
noncomputable def mm (n:Nat)(R:List (List Int))(u v:Nat->Int)(j:Nat):Int:=ZG n fun a=>ZG n fun b=>u a*v b*rh n R (a+b) j
theorem Zki (u:Nat->Int){d:Nat}(q:d<n)(j:Nat):mm n R u (fun i=>if i=d then 1 else 0) j=ZG n fun a=>u a*rh n R (a+d) j:=by
 refine ZI _ _ _ fun a _=>?_;rw[Jm n d _ q (fun t _ h=>by show u a*(if t=d then 1 else 0)*rh n R (a+t) j=0;rw[if_neg h,bE,bn])]
 show u a*(if d=d then 1 else 0)*rh n R (a+d) j=_
 rw[if_pos rfl,fe]
theorem ZgT {f:Nat->Int}{m n:Nat}(h:m<=n)(hz:∀t,m<=t->t<n->f t=0):ZG n f=ZG m f:=by
 induction n with
 |zero=>rw[show m=0 by omega]
 |succ n j=>
  by_cases q:m=n+1
  ·rw[q]
  ·rw[Ys,hz n (by omega) (by omega),bF]
   exact j (by omega) fun t a b=>hz t a (by omega)
theorem ZeC (k j:Nat):rh n R (k % n) j=rh n R k j:=Zhq (Nat.mod_mod _ _) j
end
noncomputable def ZcP:List Int->List (List Int)->List Int->List Int
 | [],_,ZH=>ZH
 |_::_,[],ZH=>ZH
 |x::a,r::R,ZH=>if x=0 then ZcP a R ZH else ZcP a R (Vf ZH (vsc x r))
theorem V3 (j:Nat):∀(a:List Int) (R:List (List Int)) (ZH:List Int),co (ZcP a R ZH) j=co ZH j+co (Wz a R) j
 | [],R,ZH=>by rw[ZcP,Xh,bF]
 |x::a,[],ZH=>by rw[ZcP,Wz,YI,bF]
 |x::a,r::R,ZH=>by
  rw[ZcP,ZW,YH];show co (if x=0 then _ else _) j=co ZH j+(x*co r j+co (Wz a R) j)
  by_cases h:x=0
  ·rw[if_pos h,V3 j a R ZH,h];omega
  ·rw[if_neg h,V3 j a R _,Wu,Vq];omega
noncomputable def ZfE (R:List (List Int))(d:Nat):List (List Int):=R.drop d++R.take d
theorem Zl1 {n:Nat}{R:List (List Int)}(j:R.length=n){d i:Nat}(q:d<n)(J:i<n):ro (ZfE R d) i=ro R ((i+d) % n):=by
 unfold ro ZfE;rw[Zb,Zb];by_cases h:i<n-d
 ·rw[au (by rw[bB,j];exact h),iU,aW (by omega),ii]
 ·rw[aw (by rw[bB,j];omega),bB,j,gq,if_pos (by omega)]
  rw[show (i+d) % n=i-(n-d) by rw[show i+d=(i-(n-d))+n by omega,gH,aW (by omega)]]
theorem ZjA {n:Nat}{R:List (List Int)}(j:R.length=n){d:Nat}(q:d<=n):(ZfE R d).length=n:=by
 unfold ZfE;rw[Zd,bB,bU,j];omega
theorem Zd9 {n:Nat}{R:List (List Int)}(q:R.length=n){d:Nat}(J:d<n)(a:List Int)(j:Nat):co (Wz a (ZfE R d)) j=ZG n fun i=>co a i*rh n R (i+d) j:=by
 rw[Xg,ZjA q (by omega)];refine ZI _ _ _ fun t M=>?_;rw[Zl1 q J M];rfl
end Num
namespace L2
open PySem PySem.Spec PyProof.Rows
section
variable {X:Cx}
inductive ZhA (K:aa) (x:V) (vs:List V) (H:Hp) (Q:VK):Prop
 |mk (p:_) (xs:_) (y:_):(x=.ref p)->(vs=[y])->(H p=some (.lst xs))->(WY y=true)->(xs.all WY=true)->(Q (.int (xs.countP (fun z=>eqV z y):Nat)) H)->ZhA K x vs H Q
theorem ZfY:MtR X "list.count" (ZhA X.K):=by
 intro m5 s σ H x vs v us Q I rx rv h;obtain⟨p,xs,y,rfl,rfl,hp,fy,fs,q⟩:=h;cases rx;obtain⟨u,rfl,ru⟩:=rv.one;obtain⟨z,J,n,r,hl,e⟩:=I.lstM hp;have hl:=r.length;have j:∀(m:Nat) (z:V),xs[m]?=some z->WY z=true:=fun m z M=>aI.mp fs z (aE M);have em:J.map (eqU y)=xs.map (fun z=>eqV z y):=by
  refine bq fun m=>?_;rw[Zc,Zc];by_cases M:m<xs.length
  ·obtain⟨w,O,Y⟩:=r.get (Zf M)
   rw[O,Zf M];show some (eqU y w)=some (eqV xs[m] y);rw[ZbK Y (j m _ (Zf M))]
  ·rw[ak (by omega),ak (by omega)]
   rfl
 have ec:J.countP (eqU y)=xs.countP (fun z=>eqV z y):=by
  have h1:=congrArg (List.countP id) em;rw[List.countP_map,List.countP_map] at h1;exact h1
 refine fo lC ⟨_,e,rfl⟩ F.entry_list_count (F.args_list_count_2 _ _) (SeqAt.list_countAt p J.toArray n none #[] u (eqU y)) ⟨e,fun w O=>J0 ru fy r fs w (by simpa using O),?_⟩;refine⟨.int (xs.countP (fun z=>eqV z y):Nat),H,I.kept (t':=s.toks+1) fun b o e=>e,⟨s.toks,?_⟩,q⟩;rw[<-ec]
theorem Zn9 (K:aa)(j:X.K=K:=by rfl):MtR X "list.count" (ZhA K):=j▸ZfY
end
end L2
namespace C51
open PySem L2 PySem.Spec PyProof.Rows
open Tb Pm
noncomputable abbrev Zk9:Stmt:=top 40
noncomputable abbrev Zld:Stmt:=top 41
noncomputable abbrev Zla:Stmt:=top 42
noncomputable abbrev ZnM:Stmt:=top 44
inductive Zdv (vs:List V) (H:Hp) (Q:VK) (E03:XK):Prop
 |mk (n:Nat) (a:Addr) (xs:List Int):(vs=[.int n,.ref a])->(H a=some (.tup (xs.map V.int)))->(xs.length<=n)->(n<=60)->(∀l H',H l=none->Zv H H'->H' l=some (.lst (ZC n (Num.co xs)))->Q (.ref l) H')->Zdv vs H Q E03
inductive ZaT (vs:List V) (H:Hp) (Q:VK) (E03:XK):Prop
 |mk (n:Nat) (a b:Addr) (k:Int) (u v:Nat->Int):(vs=[.ref a,.ref b,.int k])->(n<=60)->(H a=some (.lst (ZC n u)))->(H b=some (.lst (ZC n v)))->(-(2 ^ 64)<k)->(k<2 ^ 64)->(∀l H',Zv H H'->H' l=some (.lst (ZC n fun i=>u i+k*v i))->Q (.ref l) H')->ZaT vs H Q E03
inductive Zdx (vs:List V) (H:Hp) (Q:VK) (E03:XK):Prop
 |mk (n:Nat) (a b:Addr) (u v:Nat->Int):(vs=[.int n,.ref a,.ref b])->(1<=n)->(n<=60)->(H a=some (.lst (ZC n u)))->(H b=some (.lst (ZC n v)))->((∀i j,i<n->j<n->Zk1 (u i) (v j)))->(∀l w H',Zv H H'->H' l=some (.lst (ZC n w))->(∀j,Num.me n (N51.RN n) w j=Num.mm n (N51.RN n) u v j)->Q (.ref l) H')->Zdx vs H Q E03
inductive Zg2 (vs:List V) (H:Hp) (Q:VK) (E03:XK):Prop
 |mk (a b:Nat):(vs=[.int a,.int b])->(Q (.bl (decide (eX a b=1))) H)->Zg2 vs H Q E03
theorem ZgE {n:Nat}{xs:List Int}(h:xs.length<=n):xs.map V.int++(av (n-xs.length) [V.int 0]).flatten=ZC n (Num.co xs):=by
 have e:(av (n-xs.length) [V.int 0]).flatten=av (n-xs.length) (V.int 0):=by
  generalize n-xs.length=k;induction k with
  |zero=>rfl
  |succ k q=>rw[a6,cg,q,a6];rfl
 rw[e];refine bq fun i=>?_;by_cases j:i<xs.length
 ·rw[au (by rw[Za];exact j),Zc,Num.Wp j,Yc _ (by omega)]
  rfl
 ·rw[aw (by rw[Za];omega),Za,bX]
  by_cases J:i<n
  ·rw[if_pos (by omega),Yc _ J,Num.WG (by omega)]
  ·rw[if_neg (by omega)]
   exact (ak (by rw[ZR];omega)).symm
section
variable {P:Program}{w:World}{K:aa}{mg:Str->Option Value}{base:Heap}
theorem ZjY {f:Addr}{fd:FuncData}(F:WI K "_law_wide" "_law_wide" Zk9 f fd)(T:Bl mg):Ya P w K mg base Ym 1 f fd ["_law_n", "_law_number"] Zdv:=by
 refine F.ok (FS (N:=["_law_n", "_law_number"])) (fun vs H Q E h=>?_) (fun m5 A O s H vs Q E hr h=>?_)
 ·obtain⟨n,a,xs,rfl,_⟩:=h;rfl
 ·obtain⟨n,a,xs,rfl,ha,hx,n60,q⟩:=h
  refine⟨_,Zw (ZJ (Zy Vh (ct JI T.list (pc (vn 1) Zu)) (Zy WD (ZQ (pc Zx Zu)) (Zy YC (vn 0) (cb (Yx K) T.len (pc (vn 1) Zu)))))),?_⟩;have sz:(16777216:Nat)=sizeLine:=by decide
  refine⟨_,rfl,a,_,rfl,.inr (.of ha),fun Y n1=>?_⟩;have J:=Zv.upd (H:=H) (o:=.lst (xs.map V.int)) n1;have h1:=Zt (H:=H) (a:=Y) (o:=.lst (xs.map V.int));generalize upd H Y (.lst (xs.map V.int))=H1 at J h1 ⊢;refine⟨(by show 1<=sizeLine;decide),fun l2 n2=>?_⟩;have j:=Zv.upd (H:=H1) (o:=.lst [.int 0]) n2;have h2:=Zt (H:=H1) (a:=l2) (o:=.lst [.int 0]);generalize upd H1 l2 (.lst [.int 0])=H2 at j h2 ⊢;refine⟨_,rfl,_,rfl,a,_,rfl,.inr (.of (j _ _ (J _ _ ha))),_,_,rfl,rfl,l2,_,_,rfl,rfl,h2,?_,?_,?_,fun l3 n3=>?_⟩
  ·rw[Za];omega
  ·rw[Za];omega
  ·rw[Za];show 1*_<=_;omega
  ·rw[Za,show ((n:Int)-(xs.length:Nat)).toNat=n-xs.length by omega]
   have M:=Zv.upd (H:=H2) (o:=.lst (av (n-xs.length) [V.int 0]).flatten) n3;have h3:=Zt (H:=H2) (a:=l3) (o:=.lst (av (n-xs.length) [V.int 0]).flatten);generalize upd H2 l3 (.lst (av (n-xs.length) [V.int 0]).flatten)=H3 at M h3 ⊢;refine⟨Y,l3,_,_,rfl,rfl,M _ _ (j _ _ h1),h3,?_,fun l4 n4=>?_⟩
   ·rw[Za,ZeZ];show _+_*1<=_;omega
   ·rw[ZgE hx]
    exact q l4 _ (((J.trans j).trans M).free n4) (((J.trans j).trans M).trans (Zv.upd n4)) Zt
theorem ZjZ {f:Addr}{fd:FuncData}(F:WI K "_law_sum" "_law_sum" Zla f fd)(T5:BlT mg):Ya P w K mg base Ym 1 f fd ["_law_one", "_law_other", "_law_often"] ZaT:=by
 refine F.ok (FS (N:=["_law_one", "_law_other", "_law_often"])) (fun vs H Q E h=>?_) (fun m5 A M s H vs Q E hr h=>?_)
 ·obtain⟨n,a,b,k,u,v,rfl,_⟩:=h;rfl
 ·obtain⟨n,a,b,k,u,v,rfl,n60,ha,hb,k1,k2,q⟩:=h
  refine⟨_,Zw (ZJ (cmp ["_law_a", "_law_b"] [2] ["_law_a", "_law_b", "_law_often"] rfl (Zjg K T5.zip (pc (vn 0) (pc (vn 1) Zu))) (fun _ _ _ _ _=>g2 K 0 1 rfl (gn 0) (gn 1)) (fun _ _ _ _ _=>Z0) (fun _ _ _ _ _=>Zy Yr (vn 0) (Zy ZN (vn 2) (vn 1))))),?_⟩;refine⟨_,rfl,_,rfl,a,b,false,false,_,_,H,rfl,.lst (.of ha),.lst (.of hb),Zv.refl _,fun J At S' O=>?_⟩;refine Xk S' O (Zv.refl _) [some (.int k)] rfl (fun x y=>x+k*y) (by omega) (fun j Y hj s4 R' g=>?_) (fun D Y nD s4 hD=>q D Y s4 hD);exact⟨_,rfl,_,rfl,_,rfl,_,_,rfl,rfl,.inl ⟨k1,k2⟩,_,_,rfl,rfl,g⟩
theorem Zj3 {f:Addr}{fd:FuncData}(F:WI K "_law_mul" "_law_mul" Zld f fd)(T:Bl mg):Ya P w K mg base Ym 1 f fd ["_law_n", "_law_one", "_law_other"] Zdx:=by
 refine F.ok (FS (N:=["_law_n", "_law_one", "_law_other", "_law_found", "_law_j", "_law_k", "_law_spot"])) (fun vs H Q E h=>?_) (fun m8 A m6 s H vs Q E hr h=>?_)
 ·obtain⟨n,a,b,u,v,rfl,_⟩:=h;rfl
 ·obtain⟨n,a,b,u,v,rfl,n1,n60,ha,hb,hm,q⟩:=h
  refine⟨_,Zs (ZE 3 rfl (Zy WD (ZQ (pc Zx Zu)) (vn 0)))
   (Zs (ZM am rfl (JA T.range (pc (vn 0) Zu)) (gn 4)
   (Zw (WF (ZS JJ (ZF (Ji K) (vn 1) (vn 4) (fun _ _=>rfl)) Zx (ZY _)) (Zw (ZM am rfl (JA T.range (pc (vn 0) Zu)) (gn 5)
   (Zs (ZE 6 rfl (Zy ZV (Zy Yr (vn 4) (vn 5)) (vn 0)))
   (Zw (Jf (Zy Yr (ZF (Ji K) (vn 3) (vn 6) (fun _ _=>rfl)) (Zy ZN (ZF (Ji K) (vn 1) (vn 4) (fun _ _=>rfl)) (ZF (Ji K) (vn 2) (vn 5) (fun _ _=>rfl)))) (JC (vn 3) (vn 6) YB)))))) Yy)))
   (Zw (ZJ (vn 3)))),?_⟩
  have sz:(16777216:Nat)=sizeLine:=by decide
  refine⟨(by show 1<=sizeLine;decide),fun l2 n2=>?_⟩;have s2:=Zv.upd (H:=H) (o:=.lst [.int 0]) n2;have h2:=Zt (H:=H) (a:=l2) (o:=.lst [.int 0]);generalize upd H l2 (.lst [.int 0])=H2 at s2 h2 ⊢;refine⟨_,rfl,l2,_,_,rfl,rfl,h2,by omega,by omega,(by show 1*_<=_;omega),fun l n3=>?_⟩;rw[Zj,WR];have nl:H l=none:=by
   cases e:H l with
   |none=>rfl
   |some o=>rw[s2 _ _ e] at n3;cases n3
  refine⟨_,rfl,n,rfl,by omega,by omega,?_⟩;rw[Zj];refine Z8 (fun i O H'=>∃(c:Nat->Int) (v4 v5 v6:Option V),O=[some (.int n),some (.ref a),some (.ref b),some (.ref l),v4,v5,v6]/\Zv H H'/\H' l=some (.lst (ZC n c))/\∀j,Num.me n (N51.RN n) c j=Num.ZG i fun a=>Num.ZG n fun b=>u a*v b*Num.rh n (N51.RN n) (a+b) j)
   ⟨_,_,_,_,rfl,s2.trans (Zv.upd n3),Zt,fun j=>Num.Zbu j⟩ ?_ ?_
  ·rintro i O H' hi ⟨c,v4,v5,v6,rfl,sm,hl,hc⟩
   rw[show (0:Int)+(i:Int)=(i:Int) by omega];refine⟨_,rfl,_,rfl,a,_,_,_,rfl,rfl,.of (sm _ _ ha),ZK (Yc u hi),rfl,_,rfl,?_⟩;refine YG (fun h0=>?_) (fun h0=>?_)
   ·refine⟨_,rfl,n,rfl,by omega,by omega,?_⟩
    rw[Zj];refine Z8 (fun k Y H3=>∃(M:Nat->Int) (w5 w6:Option V),Y=[some (.int n),some (.ref a),some (.ref b),some (.ref l),some (.int i),w5,w6]/\Zv H H3/\H3 l=some (.lst (ZC n M))/\∀j,Num.me n (N51.RN n) M j=Num.me n (N51.RN n) c j+Num.ZG k fun b=>u i*v b*Num.rh n (N51.RN n) (i+b) j)
     ⟨c,_,_,rfl,sm,hl,fun j=>(bF _).symm⟩ ?_ ?_
    ·rintro k Y H3 hk ⟨M,w5,w6,rfl,sm3,J,m5⟩
     rw[show (0:Int)+(k:Int)=(k:Int) by omega];have hq:(i+k) % n<n:=ba _ n1;have eM:((i:Int)+(k:Int)) % (n:Int)=(((i+k) % n:Nat):Int):=by push_cast;rfl
     refine⟨_,rfl,_,rfl,_,_,rfl,rfl,_,rfl,_,_,rfl,rfl,(by show (0:Int)<n;omega),?_⟩;refine⟨_,rfl,_,rfl,l,_,_,_,rfl,rfl,.of J,by rw[eM];exact ZK (Yc M hq),_,rfl,_,rfl,a,_,_,_,rfl,rfl,.of (sm3 _ _ ha),ZK (Yc u hi),_,rfl,_,rfl,b,_,_,_,rfl,rfl,.of (sm3 _ _ hb),ZK (Yc v hk),_,_,rfl,rfl,hm i k hi hk,_,_,rfl,rfl,_,rfl,_,rfl,l,_,_,(i+k) % n,rfl,rfl,J,by rw[ZR,eM];exact WA hq,?_⟩;rw[VQ _ _ hq];refine⟨_,_,_,rfl,sm3.updr nl,Zt,fun j=>?_⟩;rw[Num.ZdX _ _ hq,m5,Num.Ys,show M ((i+k) % n)+u i*v k-M ((i+k) % n)=u i*v k by omega,Num.ZeC];omega
    ·rintro Y H3 ⟨M,w5,w6,rfl,sm3,J,m5⟩
     refine⟨M,_,_,_,rfl,sm3,J,fun j=>?_⟩;rw[m5,hc,Num.Ys]
   ·have h0:u i=0:=ah fun z=>h0 (by rw[decide_eq_false (fun e=>z (V.int.inj e))];rfl)
    refine⟨c,_,_,_,rfl,sm,hl,fun j=>?_⟩;rw[hc,Num.Ys,Num.YU n (fun b=>u i*v b*Num.rh n (N51.RN n) (i+b) j) (fun t _=>by rw[h0,bn,bn]),bF]
  ·rintro O H' ⟨c,v4,v5,v6,rfl,sm,hl,hc⟩
   exact⟨_,rfl,q l c H' sm hl hc⟩
theorem Zmu {f:Addr}{fd:FuncData}(F:WI K "_law_alone" "_law_alone" ZnM f fd):Ya P w K mg base Ym 1 f fd ["_law_k", "_law_n"] Zg2:=by
 refine F.ok (FS (N:=["_law_k", "_law_n"])) (fun vs H Q E h=>?_) (fun m6 A m5 s H vs Q E hr h=>?_)
 ·obtain⟨a,b,rfl,_⟩:=h;rfl
 ·obtain⟨a,b,rfl,q⟩:=h
  refine⟨_,Zs (Yf am (ZS ZhP (vn 1) Zx (ZY _)) (Zw (Zmc (i:=0) (j:=1) rfl (Z6 (by kernel_rfl)) rfl rfl (by decide) (Y0 (by kernel_rfl)) (Y0 (by kernel_rfl)) (pc (vn 1) (pc (Zy ZV (vn 0) (vn 1)) Zu)) rfl)))
   (Zw (ZJ (VY VE (vn 0) Zx (ZY _)))),?_⟩
  refine Z9 (fun m M H'=>∃(Y J:Nat),M=[some (.int Y),some (.int J)]/\H'=H/\J<=m/\eX Y J=eX a b) (fun M H'=>∃J:Option V,M=[some (.int (eX a b:Nat)),J]/\H'=H) ?hend ⟨b,a,b,rfl,rfl,Zq _,rfl⟩ ?turn
  case hend=>
   rintro M H' ⟨J,rfl,rfl⟩;refine⟨_,rfl,rfl,?_⟩;rw[show decide (V.int ((eX a b:Nat):Int)=V.int 1)=decide (eX a b=1) from by rw[dG,decide_eq_true_eq,decide_eq_true_eq];exact⟨fun h=>by have:=V.int.inj h;omega,fun h=>by rw[h];rfl⟩];exact q
  case turn=>
   rintro O m M H' ⟨Y,J,rfl,rfl,c1,c2⟩;refine⟨_,rfl,_,_,rfl,rfl,_,rfl,?_⟩;refine YG (fun h1=>?_) (fun h1=>?_)
   ·have h1:(0:Int)<(J:Int):=of_decide_eq_true h1
    refine⟨_,fun _ _ z=>z,_,rfl,_,rfl,_,rfl,_,_,rfl,rfl,h1,_,_,rfl,m-1,by omega,J,Y % J,rfl,rfl,?_,?_⟩
    ·have:=ba Y (show 0<J by omega)
     omega
    ·rw[<-c2,Nat.gcd_comm Y J,Nat.gcd_rec J Y,Nat.gcd_comm]
   ·have h1:¬(0:Int)<(J:Int):=fun z=>h1 (decide_eq_true z)
    have b0:J=0:=by omega
    rw[b0,Nat.gcd_zero_right] at c2;exact O _ _ ⟨_,by rw[c2],rfl⟩
end
noncomputable abbrev Zlc:Stmt:=top 43
noncomputable def prm (p:Nat):Bool:=(ac (p-2)).all fun k=>p % (k+2) != 0
noncomputable def pls (n i:Nat):List Nat:=((ac i).map (· + 2)).filter fun p=>n % p == 0 && prm p
theorem Uu (n i:Nat):pls n (i+1)=pls n i++if (n % (i+2) == 0 && prm (i+2))=true then [i+2] else []:=by
 unfold pls;rw[cm,aR,List.filter_append];congr 1;show List.filter _ [i+2]=_;rw[jt];rfl
noncomputable def Zn2 (n:Nat):Bool:=n == 0 || (pls n (n-1)).map (n / ·) == Num.Jn n (N51.Yp n)
theorem ZjJ:(ac 61).all Zn2=true:=by decide +kernel
theorem ZfI {n:Nat}(q:1<=n)(j:n<=60):(pls n (n-1)).map (n / ·)=Num.Jn n (N51.Yp n):=by
 have:=aI.mp ZjJ n (ag.mpr (by omega));unfold Zn2 at this;rw[bu,beq_iff_eq,beq_iff_eq] at this;exact this.resolve_left (by omega)
inductive Za0 (vs:List V) (H:Hp) (Q:VK) (E03:XK):Prop
 |mk (n:Nat) (a:Addr) (u:Nat->Int):(vs=[.int n,.ref a])->(1<=n)->(n<=60)->(H a=some (.lst (ZC n u)))->(∀b H',Zv H H'->(b=true↔∀j,j<N51.Wv n->Num.me n (N51.RN n) u j=0)->Q (.bl b) H')->Za0 vs H Q E03
theorem Zfw (n:Nat)(c:Nat->Int):((ZC n c).countP (fun z=>eqV z (.int 0))=n)↔∀k,k<n->c k=0:=by
 have j:=List.countP_eq_length (p:=fun z=>eqV z (.int 0)) (l:=ZC n c);rw[ZR] at j;rw[j];unfold ZC;constructor
 ·intro h k q
  have:=h (V.int (c k)) (aN.mpr ⟨k,ag.mpr q,rfl⟩);exact beq_iff_eq.mp this
 ·intro h z J
  obtain⟨k,q,rfl⟩:=aN.mp J;exact beq_iff_eq.mpr (h k (ag.mp q))
theorem Zb7 (n:Nat)(c:Nat->Int):(ZC n c).all WY=true:=aI.mpr fun z j=>by
 obtain⟨k,_,rfl⟩:=aN.mp j;rfl
theorem Zkf {p:Nat}:(!inV (.int 0) (ZC (p-2) fun k=>((p:Int) % (2+(k:Int)))))=prm p:=by
 unfold inV ZC prm;rw[fk,List.not_any_eq_all_not];congr 1;funext k;show (!((p:Int) % (2+(k:Int)) == 0))=(p % (k+2) != 0);rw[show (p:Int) % (2+(k:Int))=((p % (k+2):Nat):Int) by rw[show (2:Int)+(k:Int)=((k+2:Nat):Int) by omega];rfl];rw[dG];simp only[fm,beq_eq_false_iff_ne,bne_iff_ne,ne_eq];omega
section
variable {P:Program}{w:World}{K:aa}{mg:Str->Option Value}{base:Heap}
theorem Zj2 {f:Addr}{fd:FuncData}(F:WI K "_law_is_nought" "_law_is_nought" Zlc f fd)(T:Bl mg):Ya P w K mg base Ym 1 f fd ["_law_n", "_law_row"] Za0:=by
 refine F.ok (FS (N:=["_law_n", "_law_row", "_law_p"])) (fun vs H Q E h=>?_) (fun m8 A m5 s H vs Q E hr h=>?_)
 ·obtain⟨n,a,u,rfl,_⟩:=h;rfl
 ·obtain⟨n,a,u,rfl,n1,n60,ha,q⟩:=h
  refine⟨_,Zs (ZM am rfl (Zhn T.range (pc Zx (pc (Zy Yr (vn 0) Zx) Zu))) (gnf 2 rfl)
   (Zw (WF (ZhD (ZS VE (Zy ZV (vn 0) (vn 2)) Zx (ZY _)) (ZeK (ZS (ZpF K) Zx (cmp ["_law_k"] [2] ["_law_k", "_law_p"] rfl (Zhn T.range (pc Zx (pc (vn 2) Zu))) (fun _ _ _ _ _=>gn 0) (fun _ _ _ _ _=>Z0) (fun _ _ _ _ _=>Zy ZV (vn 1) (vn 0))) (by rfl)))).pt (Zw (ZE 1 rfl (cmp ["_law_k"] [1,0,2] ["_law_k", "_law_row", "_law_n", "_law_p"] rfl (JA T.range (pc (vn 0) Zu)) (fun _ _ _ _ _=>gn 0) (fun _ _ _ _ _=>Z0) (fun _ _ _ _ _=>Zy YC (ZF (Ji K) (vn 1) (vn 0) (fun _ _=>rfl)) (ZF (Ji K) (vn 1) (Zy ZV (Zy YC (vn 0) (Zy Y4 (vn 2) (vn 3))) (vn 2)) (fun _ _=>rfl)))))) Yy)))
   (Zw (ZJ (VY VE (ZhN K aK lC PySem.F.type_list_count (Zn9 K) (vn 1) (pc Zx Zu)) (vn 0) (ZY _)))),?_⟩
  refine⟨_,rfl,_,_,rfl,rfl,_,_,rfl,⟨by omega,by omega,by omega,by omega⟩,?_⟩;rw[show ((n:Int)+1-2).toNat=n-1 by omega];refine Z8 (fun i j M=>∃(r:Addr) (v2:Option V),j=[some (.int n),some (.ref r),v2]/\Zv H M/\M r=some (.lst (ZC n (Num.XN n ((pls n i).map (n / ·)) u))))
   ⟨a,_,rfl,Zv.refl _,ha⟩ ?_ ?_
  ·rintro i j M hi ⟨r,v2,rfl,sm,hb⟩
   have e2:(2:Int)+(i:Int)=((i+2:Nat):Int):=by omega
   rw[e2];refine⟨_,rfl,_,rfl,_,_,rfl,rfl,(by show (0:Int)<((i+2:Nat):Int);omega),rfl,_,rfl,?_⟩;refine YG (fun h0=>?_) (fun h0=>?_)
   ·have h0:n % (i+2)=0:=by
     have:=V.int.inj (of_decide_eq_true h0);have e:(n:Int) % ((i+2:Nat):Int)=((n % (i+2):Nat):Int):=rfl;rw[e] at this;omega
    refine⟨_,rfl,_,_,rfl,⟨by omega,by omega,by omega,by omega⟩,?_⟩;rw[show (((i+2:Nat):Int)-2).toNat=i by omega];refine WZ (W5 2 i) [some (.int ((i+2:Nat):Int))] rfl (fun k=>.int (((i+2:Nat):Int) % (2+(k:Int)))) (by rw[Za,Yl];omega) (fun k y hy H2 s2 R g=>?_) (fun D H2 nD s2 hD=>?_)
    ·obtain⟨hk,rfl⟩:=Um hy
     exact⟨_,rfl,_,rfl,_,_,rfl,rfl,(by show (0:Int)<2+(k:Int);omega),g H2 (Zv.refl _)⟩
    ·rw[Za,Yl] at hD
     have hD:H2 D=some (.lst (ZC i fun k=>((i+2:Nat):Int) % (2+(k:Int)))):=hD;have ep:=Zkf (p:=i+2);rw[show i+2-2=i by omega] at ep;refine⟨D,_,rfl,.inl (.of hD),rfl,Zb7 _ _,prm (i+2),congrArg V.bl ((if_pos rfl).trans ep),?_⟩;have J:=s2 _ _ hb;refine YG (fun h1=>?_) (fun h1=>?_)
     ·have hs:n / (i+2)<=n:=f6 _ _
      refine⟨_,rfl,n,rfl,by omega,by omega,?_⟩;rw[Zj];generalize hg:Num.XN n ((pls n i).map (n / ·)) u=c at hb J;refine WZ (W5 0 n) [some (.ref r),some (.int n),some (.int ((i+2:Nat):Int))] rfl (fun k=>.int (Num.lk n (n / (i+2)) c k)) (by rw[Za,Yl];omega) (fun k y hy H3 s3 R g=>?_) (fun D3 H3 n6 s3 O=>?_)
      ·obtain⟨hk,rfl⟩:=VU hy
       have Y:=s3 _ _ J;have eD:(n:Int) / ((i+2:Nat):Int)=((n / (i+2):Nat):Int):=rfl;have eM:((k:Int)-((n / (i+2):Nat):Int)) % (n:Int)=(((k+(n-n / (i+2))) % n:Nat):Int):=by
        have e:(k:Int)-((n / (i+2):Nat):Int)=((k+(n-n / (i+2)):Nat):Int)+(-1)*(n:Int):=by omega
        rw[e,jS];omega
       refine⟨_,rfl,_,rfl,r,_,_,_,rfl,rfl,.of Y,ZK (Yc c hk),_,rfl,_,rfl,_,rfl,_,rfl,_,_,rfl,rfl,⟨by omega,by omega⟩,_,_,rfl,rfl,_,rfl,_,_,rfl,rfl,(by show (0:Int)<n;omega),r,_,_,.int (c ((k+(n-n / (i+2))) % n)),rfl,rfl,.of Y,?_,_,_,rfl,rfl,g H3 (Zv.refl _)⟩;rw[eD,eM];exact ZK (Yc c (ba _ n1))
      ·rw[Za,Yl] at O
       refine⟨D3,_,rfl,(sm.trans s2).trans s3,?_⟩;rw[O,Uu,if_pos (by rw[h1,h0];rfl),aR,<-hg];unfold Num.XN;rw[jd];rfl
     ·refine⟨r,_,rfl,sm.trans s2,?_⟩
      rw[J,Uu,if_neg (by rw[gC.mpr h1,jU];decide),fY]
   ·refine⟨r,_,rfl,sm,?_⟩
    have h0:¬n % (i+2)=0:=fun z=>h0 (decide_eq_true (congrArg V.int (by
     have e:(n:Int) % ((i+2:Nat):Int)=((n % (i+2):Nat):Int):=rfl;rw[e,z];rfl)))
    rw[hb,Uu,if_neg (by rw[beq_eq_false_iff_ne.mpr h0,jT];decide),fY]
  ·rintro j M ⟨r,v2,rfl,sm,hb⟩
   rw[ZfI n1 n60] at hb;refine⟨_,rfl,.inl ⟨rfl,_,.of hb⟩,r,_,_,rfl,rfl,hb,rfl,Zb7 _ _,_,rfl,rfl,?_⟩;refine q _ M sm ?_;obtain⟨_,m6,_⟩:=N51.Zh3 n1 n60;rw[<-Num.Zmv (N51.ZaA n1 n60).1 (fun p hp=>(m6 p hp).1) u,decide_eq_true_eq];unfold Num.Nou;rw[<-Zfw];exact⟨fun h=>by have:=V.int.inj h;omega,fun h=>by rw[h]⟩
end
section
variable {t:List (List Nat)}{n p m:Nat}{e ω φ:Nat->Nat->Nat}{z:Nat}{dg:Nat->Nat}{o:List Nat}
theorem Zdj (P:PW t){s x y:Nat}(ec:∀x y,x<t.length->y<t.length->e s (tb t x y)=e s x)(j:x<t.length)(q:y<t.length):Xv t n p e z dg s (tb t x y)=Xv t n p e z dg s x:=by
 unfold Xv;rw[Zhv P j q];congr 2;funext k;rw[Ze3 P j q,ec _ _ (YW P j k) q]
theorem Zbi (P:PW t)(O:Ord t.length o){x:Nat}(J:x<t.length):Jd (ren t o) x=Jd t (o.getD x 0):=by
 unfold Jd;rw[WC O];have j:(fun r=>it (ren t o) x (r+1) == 0)=fun r=>it t (o.getD x 0) (r+1) == 0:=funext fun r=>by
  have Y:=Uq P O J (r+1);have M:=YW (JB P O) (a:=x) (by rw[WC O];exact J) (r+1);rw[WC O] at M;rw[<-Y];by_cases q:it (ren t o) x (r+1)=0
  ·rw[q,O.z]
  ·have q2:o.getD (it (ren t o) x (r+1)) 0≠0:=fun w=>q (inj O M P.n1 (w.trans O.z.symm))
   rw[beq_eq_false_iff_ne.mpr q,beq_eq_false_iff_ne.mpr q2]
 rw[j]
theorem V5 (P:PW t)(O:Ord t.length o){s x:Nat}(j:x<t.length):Xv (ren t o) n p (fun s x=>e s (o.getD x 0)) z dg s x=Xv t n p e z dg s (o.getD x 0):=by
 unfold Xv;rw[Zbi P O j,WC O];congr 2;funext k;show ((e s (o.getD (it (ren t o) x k) 0):Nat):Int)=_;rw[Uq P O j]
end
section
variable {t:List (List Nat)}{o:List Nat}{n p m:Nat}{e ω φ:Nat->Nat->Nat}{z:Nat}{dg:Nat->Nat}
theorem ZlI (P:PW t)(D:TD t n p m e ω φ z dg){s y:Nat}(hs:s<m)(J:y<t.length):Y6 t y<m/\Xv t n p e z dg s (ZO t (Y6 t y))=Xv t n p e z dg s y:=by
 have se:=Jv P t.length (Zq _) y J;have j:Y6 t y<(ZD t t.length).length:=dA.mpr (by
  obtain⟨c,q,M⟩:=aY.mp se;exact⟨c,q,M⟩)
 have mc:=D.cd.mc;refine⟨by rw[mc];exact j,?_⟩;obtain⟨q,M⟩:=ZbT P j;obtain⟨b,hb,O⟩:=Zea P j;have Y:y∈Z2 t b:=by
  rw[<-O];have this:=fQ (xs:=ZD t t.length) (p:=fun c:List Nat=>c.contains y) (w:=j);rw[Zb,Zf j];exact aB.mp this
 rw[O] at q M;have e1:ZO t (Y6 t y)=(Z2 t b).getD 0 0:=by unfold ZO;rw[O]
 rw[e1];obtain⟨u,hu,eu⟩:=(Yi P hb).mp q;obtain⟨v,hv,ev⟩:=(Yi P hb).mp Y;have ec:=fun x y hx J=>D.cd.ec s x y hs hx J;rw[<-eu,<-ev,Zdj P ec hb hu,Zdj P ec hb hv]
end
end C51
namespace Pm
open Tb
structure Dx where
 top:Nat
 R:List (List Int)
 X:List (List (List Int))
noncomputable def ZpT (top n m:Nat)(r:List Int):Dx:=⟨top,rwL top n r,(rwL (m*top) m (r.drop (n*top))).map (rwL top m)⟩
noncomputable def ZpS (x:Nat):Dx:=match Zgd 3 x with
 | [top,n,m]=>ZpT top n m (dgZ ((n+m*m)*top) (x / 262144))
 |_=>⟨0,[],[]⟩
noncomputable def dxC:List Dx:=[
 0x207e08208a08608608608607e085f85f8207e17e1820843182,
 0x207a08208208208a08608608608608608607e07e08608608607e08607e08608608607e07e085f8207e1820845102,
 0x2086086086085f8207e18208618207df8208607e08607e085f8207e1820844102,
 0x2082086082086082086082086082085f7df7e182082086082082182082086082182086082182081f7df7e082086086081f7df7e082182182082082086182082082181f7df7e086082082085f7df7e1820820860820821820820845144,
 0x2186185f7e185f85f8617df85f844081,
 0x1f8608217e07e08208208208a17e07df8608208208208208a08208608208608208608208608208608208608207e082085f85f85f8208207e082081f8208207e17e17e1820820860820821820820844284,
 0x207a08208208208a08608608608608608607e07e08608608607e08607e08608608607e07e085f8207e1820845102,
 0x208207e08207e08208208208a08208208208a08208608207e08208208207a08208208208a08207e08208618208208207df8208208208608208608208608208608208608208608208608208608208608207e08208608207e08208608207e082085f8208208207e182082082085f8218207e085f8208207e082081f8208207e181f8208607e1820820860820821820820846304,
 0x1f8217e08207e081f82181f8608208608217e08208208208208208208208208208208208208208208208208208e181f8608208608217df8217e08207e081f8208208208208208208208208208208208208208208208208208208e082082082082082086082082082082082086082082082082082086082082082082082086082082082082082086082082082082082086082082082082082086082081f8208208207e082082182082082082082082082082082086082082082082082086082082082082082086082082182082082082082081f8208208207e082082082082082085f8607e181f8217e085f8217e085f7e181f85f8208208207e08208207e082082081f82082081f8208208207e08208207e082082081f82082081f8208208207e17e085f7e181f8607e181f8607e085f8217e182082082082082082086082082082082082082182082082082082082086082082082082082082182082082082082082086082082082082082082182082082082082082086082082082082082082182082082082082082086082082082082082082182082082082082082084554c,
 0x21841041,
 0x2086086085f7e182086181f7e085f7e18208430c2,
 0x2185f85f842081,
 0x2086086086086086085f8217e085f8217e085f85f8207e17e18208617df8208617df8208618217e07df81f8608607e08607e08607e085f85f8207e17e1820846182,
 0x208208208207e08208208208208208208208208208208208208208208209208208208208608218208208208208208207e081f8208208208208208208608208208208608208208208608208208208608208208208608208208208608208208208608208208207e08208208208608208208207e082082082086082082082086081f8208208208208208207e082182082082082082082085f82181f8218207e08607e085f8208208208207e082082082081f8208208208207e082082082081f8208208208207e082082082081f8208208208207e181f82181f8208607e08607e1820820820820860820820820821820820820820860820820820821820820820820860820820820821820820820820845508,
 0x207a07e08208608208a08a07e08207e08208a08608608608608608607e08607e07e08608608608607e08607e08607e08608607e07e085f85f8207e17e1820846182,
 0x2086086086086086086086086085f7df7df7e182182182086086086182182181f7df7df7e086086085f7e182085f7e182085f7e182086182085f7e085f7e181f7e182086085f7e182182085f7df7e182086181f7e086181f7e086181f7e086086181f7df7e086182181f7e085f7e086182086181f7e181f7e085f7e18208490c2,
 0x2085f82081f8208608217e17e07e08208208208208208a17e17e07e085f82081f82086082082082082082082089f8208608217e17e07e085f8208208208208208208208a08208208608208208608208208608208208608208208608208208608208208608208208608208207e082082085f85f85f85f8208208207e082082081f8208208207e082082081f8208208207e17e17e17e1820820820860820820821820820820860820820821820820820845386,
 0x208208208208a08207a08208208208208208208208a18218208207a082082082081f81f82082082082089f81f8208207a08208208208218218208208208208a08208608208608208608208608208608208608208608207e08208608208608207e08207e08208608208608208608208608208608207e08208608207e08208608207e08208608208608208608207e08207e082085f8208207e082081f8208207e1820820860820821820820847204,
 0x208208a08208208207a08208208208208208208208a082079f82182082082082082181f8208208208208a08207a181f82082082082081f8218208208208208a08208608208608208608208608208608208608208608208608207e08208608207e08207e08208608208608208608208608208608207e08208608207e08208608208608207e08208608208608207e08207e082085f8208207e082081f8208207e1820820860820821820820847204,
 0x208208a08208208207a08208208208208208208208a082079f82182082082082082181f8208208208208a08207a181f82082082082081f8218208208208208a08208608208608208608208608208608208608208608208608207e08208608207e08207e08208608208608208608208608208608207e08208608207e08208608208608207e08208608208608207e08207e082085f8208207e082081f8208207e1820820860820821820820847204,
 0x2082082086082082086082082086082082086082082086082082086082082085f7df7df7e182082082086082082082182082082086082082082182082082086082086082086082081f7df7df7e082082182082182082182082082082082086182082082082182082082082181f7df7df7e086082082082086082082082086082182081f7df7df7e082086082182082082082082182086082082082082086086082082082082182182082082082086081f7df7df7e082182082082082086082082182082086082082182082086082082182082081f7df7df7e082082085f7df7df7e18208208208608208208218208208208608208208218208208208471c6,
 0x2086086086086086086086085f81f8207e07e18218208608618218207e07df81f8208608607e07e08608607e07e08608607e08607e08607e08607e086181f8208607df8218207e085f8218208607e181f8207e08608607e07e08608607e07e085f8207e1820848102,
 0x2082086082086082086082086082086082086082086082085f8208207e082081f8208207e18208208608208218208208607e08208207e08608208208607e08208207e086082082086081f82086081f8208208207e08218207e08218208208208608218208608218208208207e081f8207e081f8208208208608608208207e07e08208208608608208207e07e08208208618208207e08208218208207df82082086082081f8208208608207e08208608207e08208608207e08208608207e082085f8208207e082081f8208207e1820820860820821820820848204,
 0x207a08208207a08208208208208208208a08208208208208208208208208a08a08208207a08208208208208208207a08208208208208208208208208a08208608208608208608208608208608208608208608208608208608208608207e08208607e08207e08208207e08207e08608208608208208608208608207e08208608608208608208207e08207e07e08207e08208208608208608208608208608207e08207e08208608208608207e08207e08208608208608208608208608207e08208608207e08208608207e08208608207e08208608207e08208608608207e08208208608207e07e08208608208207e08208608207e08208607e08208608208208608207e08608207e08208207e08208608208608208608208608207e08207e08208608208608207e08207e082085f8208207e082081f8208207e182082086082082182082084a204,
 0x207e08618208208207e18207df81f86082082082082082082082089f8608208208208207e07e08618218207df8208208208208208208a18207df8208208207df8608208207e08618208208208208208208a08208207e08208208a08208207e08208207e08208208208208208a08208208608208208608208208608208208608208208608208208608208208608208208608208208608208208608208207e082082085f8208608207e082182081f82085f8208208207e082082081f8208208207e082082081f8208208207e18207e082086081f8208218207e1820820820860820820821820820820860820820821820820820846486,
 0x2082082086082082086082082086082082086082082086082082086082082086082082086082082085f8207e08207e081f82081f8207e182082082086082082082182082082086082082082182082082086082082182082086082082182082086082082182082082081f8207e07e081f81f8207e082082082086082086082086082082081f8207df8207e08208208218208218208218208208207e081f82082082086081f8207e082182082082082086081f8207e082182082082082086081f8207e082182082082082086182082082082082182081f8207e08208608207e081f82082182081f8207e082086082082082082086082182082081f8207e082082086082182082081f8207e082082086082182082081f8207e08208208607e081f82182082082082182082082082181f8207e082081f8207e086082082082086082082082086086082081f8207e08208218208207e081f82082086082081f8207e082082182182082082082082085f8207e08207e081f82081f8207e1820820820860820820821820820820860820820821820820820849246,
 0x207a07a08208208208208208a08208a08a07a08208208208208207a08208a08608608608608608608608608608608608607e07e07e07e08608608608607e08618207df8208618207df8208607e085f8208618207e18207df8208607e085f8207e182085f8207e18208607e086182085f8207df8207e18208608608607e08607e08607e08607e08608608608607e08607e07e08607e085f8207e182084a102,
 0x207e08208208e085f8217e08608617df82086086086086085f85f8207e17e1820844182,
 0x208208208208a08207e08208208208a08207e08207e08208208208608208e08208608208608208608208608208608207e08208608208608207e08208608208608207e08208208207e08208df8218207e085f8208207e082081f8208207e181f8208607e1820820860820821820820845304,
 0x208207e08208208208208208e08208208208208208e08208608208608208608208608208608208608208608208208607e07e08208207a08608207e08608208a08208207e08208607e08207a07e08608608208208a08208607e08208607e08208608607e07e08208208608208208208608208608207a08207e08207e08208a08208608607e07e08208208607e08208607e082085f8218207e085f8208207e082081f8208207e181f8208607e1820820860820821820820847304,
 0x2182081f7e085f8208218608208208208207e08208208208208208208208df82082186082182081f7e08608208208207e08208208208208208208208e08208208207e08208208207e08208208208208208208208608208208209208208208208608208208208608208208208608208208208608208208208608208208208208208208208208208208208608208208207e082082082095f7e08618607e181f7e082185f8208208608207e082082182081f82082085f7e08218607e181f7df82185f8208208208207e082082082081f8208208208207e082082082081f8208208208207e082082082081f8208208208207e18607df7e085f82186081f7e18208207e082086082081f8208218208207e186081f7e085f82186181f7e1820820820820860820820820821820820820820860820820820821820820820820860820820820821820820820820845788].map ZpS
noncomputable def dx0:Dx:=⟨0,[],[]⟩
noncomputable def at3 (M:List (List (List Int)))(s c:Nat):List Int:=(M.getD s []).getD c []
end Pm
namespace C51
open PySem L2 PySem.Spec PyProof.Rows
open Tb Pm
noncomputable def xvB (t:List (List Nat))(D:Dt)(Y:Dx):Bool:=
 decide (N51.Wv D.n=Y.top) && (N51.RN D.n == Y.R) && fA D.rp.length fun s=>fA D.rp.length fun c=>
  Num.X2 D.n Y.top Y.R ((ac D.n).map (ofF D.n (Jd t (D.rp.getD c 0)) D.p ((t.length:Int)*(bkM D.p (D.dg.getD s 0):Int)) D.z fun k=>(Vw D.E s (D.cl.getD (it t (D.rp.getD c 0) k) 0):Int))) == at3 Y.X s c
noncomputable def Zjk (n top:Nat)(R:List (List Int))(k:Nat):List (List Int):=(ac top).map fun i=>Num.ro R (i*k % n)
noncomputable def f1B (t:List (List Nat))(D:Dt)(Y:Dx):Bool:=fA (D.n+1) fun k=>k == 0 || eX k D.n != 1 || fA D.rp.length fun s=>fA D.rp.length fun c=>
 Num.ZcP (at3 Y.X s c) (Zjk D.n Y.top Y.R k) (av Y.top 0) == at3 Y.X s (D.cl.getD (it t (D.rp.getD c 0) k) 0)
noncomputable def fR (t:List (List Nat))(D:Dt)(Y:Dx)(s c g k:Nat):Nat->List Int
 |0=>av Y.top 0
 |j+1=>Num.ZcP (at3 Y.X s (D.cl.getD (it t (D.rp.getD c 0) j) 0)) (Num.ZfE Y.R ((D.n-j*k*g % D.n) % D.n)) (fR t D Y s c g k j)
noncomputable def okV (r:Nat)(v:List Int):Bool:=(v.drop 1).all (· == 0) && (Num.co v 0 % (r:Int) == 0) && decide (0<=Num.co v 0) && decide (Num.co v 0<=24*(r:Int))
noncomputable def f2B (t:List (List Nat))(D:Dt)(Y:Dx):Bool:=fA D.rp.length fun s=>fA D.rp.length fun c=>
 (fA (Jd t (D.rp.getD c 0)) fun k=>okV (Jd t (D.rp.getD c 0)) (fR t D Y s c (D.n / Jd t (D.rp.getD c 0)) k (Jd t (D.rp.getD c 0)))) &&
 Wc (Jd t (D.rp.getD c 0)) (fun k=>Num.co (fR t D Y s c (D.n / Jd t (D.rp.getD c 0)) k (Jd t (D.rp.getD c 0))) 0) == (Jd t (D.rp.getD c 0):Int)*Num.co (at3 Y.X s 0) 0
noncomputable def bdB (t:List (List Nat))(D:Dt)(Y:Dx):Bool:=(fA D.rp.length fun c=>decide (Jd t (D.rp.getD c 0)<=30)) && fA D.rp.length fun s=>fA D.rp.length fun c=>(at3 Y.X s c).all fun x=>decide (-(2 ^ 20)<x) && decide (x<2 ^ 20)
noncomputable def xB (i:Nat):Bool:=xvB (tbC.getD i []) (U7.getD i d0).2 (dxC.getD i dx0) && f1B (tbC.getD i []) (U7.getD i d0).2 (dxC.getD i dx0) && f2B (tbC.getD i []) (U7.getD i d0).2 (dxC.getD i dx0) && bdB (tbC.getD i []) (U7.getD i d0).2 (dxC.getD i dx0)
theorem xBa:∀i,i<31->xB i=true
 |0,_=>by decide +kernel
 |1,_=>by decide +kernel
 |2,_=>by decide +kernel
 |3,_=>by decide +kernel
 |4,_=>by decide +kernel
 |5,_=>by decide +kernel
 |6,_=>by decide +kernel
 |7,_=>by decide +kernel
 |8,_=>by decide +kernel
 |9,_=>by decide +kernel
 |10,_=>by decide +kernel
 |11,_=>by decide +kernel
 |12,_=>by decide +kernel
 |13,_=>by decide +kernel
 |14,_=>by decide +kernel
 |15,_=>by decide +kernel
 |16,_=>by decide +kernel
 |17,_=>by decide +kernel
 |18,_=>by decide +kernel
 |19,_=>by decide +kernel
 |20,_=>by decide +kernel
 |21,_=>by decide +kernel
 |22,_=>by decide +kernel
 |23,_=>by decide +kernel
 |24,_=>by decide +kernel
 |25,_=>by decide +kernel
 |26,_=>by decide +kernel
 |27,_=>by decide +kernel
 |28,_=>by decide +kernel
 |29,_=>by decide +kernel
 |30,_=>by decide +kernel
 |n+31,h=>by omega
structure FxC (t:List (List Nat))(n m:Nat)(X:Nat->Nat->List Int):Prop where
 len:∀s x,(X s x).length=N51.Wv n
 r30:∀x,x<t.length->Jd t x<=30
 sm:∀s x v,s<m->x<t.length->v∈X s x->-(2 ^ 20)<v/\v<2 ^ 20
 pw:∀s x k,s<m->x<t.length->1<=k->k<=n->eX k n=1->∀j,j<N51.Wv n->Num.ZG n (fun i=>Num.co (X s x) i*Num.rh n (N51.RN n) (i*k) j)=Num.co (X s (it t x k)) j
 rt:∀s x,s<m->x<t.length->∃M:Nat->Nat,(∀k,k<Jd t x->M k<=24/\∀j,j<N51.Wv n->Num.ZG (Jd t x) (fun q=>Num.ZG n fun i=>Num.co (X s (it t x q)) i*Num.rh n (N51.RN n) (i+(n-q*k*(n / Jd t x) % n) % n) j)=if j=0 then ((Jd t x*M k:Nat):Int) else 0)/\Num.ZG (Jd t x) (fun k=>((M k:Nat):Int))=Num.co (X s 0) 0
theorem V6 {t:List (List Nat)}{n p:Nat}{e:Nat->Nat->Nat}{z:Nat}{dg:Nat->Nat}(s x:Nat):(Xv t n p e z dg s x).length=N51.Wv n:=by unfold Xv Zh6;exact Num.Jr _ _ _ _
theorem ZmM {t:List (List Nat)}{o:List Nat}{n p m:Nat}{e:Nat->Nat->Nat}{z:Nat}{dg:Nat->Nat}(P:PW t)(O:Ord t.length o)(F:FxC t n m (Xv t n p e z dg)):FxC (ren t o) n m (Xv (ren t o) n p (fun s x=>e s (o.getD x 0)) z dg):=by
 have len:(ren t o).length=t.length:=WC O;have P':=JB P O;have Y:∀{x:Nat} (k:Nat),x<t.length->it (ren t o) x k<t.length:=fun {x} k J=>by
  have:=YW P' (a:=x) (by rw[len];exact J) k;rw[len] at this;exact this
 have n1:=P.n1;refine⟨fun s x=>V6 s x,fun x J=>?_,fun s x v hs J hv=>?_,fun s x k hs J k1 k2 kg j hj=>?_,fun s x hs J=>?_⟩
 ·rw[len] at J
  rw[Zbi P O J];exact F.r30 _ (YJ O J)
 ·rw[len] at J
  rw[V5 P O J] at hv;exact F.sm s _ v hs (YJ O J) hv
 ·rw[len] at J
  rw[V5 P O J,V5 P O (Y k J),Uq P O J k];exact F.pw s _ k hs (YJ O J) k1 k2 kg j hj
 ·rw[len] at J
  obtain⟨M,h1,h2⟩:=F.rt s _ hs (YJ O J);rw[Zbi P O J,V5 P O (by omega),O.z];refine⟨M,fun k hk=>⟨(h1 k hk).1,fun j hj=>?_⟩,h2⟩;rw[<-(h1 k hk).2 j hj];refine Num.ZI _ _ _ fun q _=>?_;rw[V5 P O (Y q J),Uq P O J q]
theorem ZmW {t:List (List Nat)}{bs:List Nat}{D:Dt}(P:PW t)(h:tdB t bs D=true):ClW t (fun x=>D.cl.getD x 0) (fun k=>D.rp.getD k 0) D.rp.length:=by
 unfold tdB at h;simp only[af] at h;obtain⟨⟨⟨⟨⟨⟨⟨⟨⟨⟨⟨⟨⟨⟨⟨h1,h2⟩,h3⟩,h4⟩,h5⟩,h6⟩,h7⟩,h8⟩,q⟩,j⟩,J⟩,M⟩,O⟩,Y⟩,m5⟩,m6⟩:=h;exact ZiQ P q j
theorem Zfh (k j:Nat):Num.co (av k 0) j=0:=by
 unfold Num.co;rw[Zb,bX];split <;> rfl
theorem ZlC {t:List (List Nat)}{D:Dt}{Y:Dx}(M:1<=D.n)(hR:Y.R.length=D.n)(s c g k q:Nat):∀J,Num.co (fR t D Y s c g k J) q=Num.ZG J fun j=>Num.ZG D.n fun i=>Num.co (at3 Y.X s (D.cl.getD (it t (D.rp.getD c 0) j) 0)) i*Num.rh D.n Y.R (i+(D.n-j*k*g % D.n) % D.n) q
 |0=>Zfh _ _
 |J+1=>by
  rw[fR,Num.V3,ZlC M hR s c g k q J,Num.Ys,Num.Zd9 hR (ba _ M)]
theorem Zg5 (n:Nat)(f:Nat->Int):Wc n f=Num.ZG n f:=by
 induction n with
 |zero=>rfl
 |succ n j=>rw[YA,Num.Ys,j]
theorem ZkF {t:List (List Nat)}{bs:List Nat}{D:Dt}{Y:Dx}(P:PW t)(h:tdB t bs D=true)(J:xvB t D Y=true)(h1:f1B t D Y=true)(h2:f2B t D Y=true)(h3:bdB t D Y=true):FxC t D.n D.rp.length (Xv t D.n D.p (eD D) D.z fun s=>D.dg.getD s 0):=by
 have C:=ZmW P h;have T:=Zk5 P h;have n1:=T.n1;have n6:=T.n60;have Gd:=(N51.ZaA n1 n6).1;unfold xvB at J;rw[af,af,decide_eq_true_eq] at J;obtain⟨⟨m5,O⟩,n8⟩:=J;have O:=eq_of_beq O;have hR:Y.R.length=D.n:=by rw[<-O];exact Gd.len
 have cls:∀s x y,s<D.rp.length->x<t.length->y<t.length->Xv t D.n D.p (eD D) D.z (fun s=>D.dg.getD s 0) s (tb t x y)=Xv t D.n D.p (eD D) D.z (fun s=>D.dg.getD s 0) s x:=fun s x y M J hy=>Zdj P (fun a b ha hb=>T.cd.ec s a b M ha hb) J hy;have rep:∀s c,s<D.rp.length->c<D.rp.length->Xv t D.n D.p (eD D) D.z (fun s=>D.dg.getD s 0) s (D.rp.getD c 0)=at3 Y.X s c:=fun s c M hc=>by
  have:=eq_of_beq (Yb (Yb n8 M) hc);rw[<-this];unfold Xv Zh6;rw[m5,O];rfl
 have at':∀s x,s<D.rp.length->x<t.length->Xv t D.n D.p (eD D) D.z (fun s=>D.dg.getD s 0) s x=at3 Y.X s (D.cl.getD x 0):=fun s x M J=>by
  have hc:=C.lt x J;obtain⟨y,hy,ey⟩:=C.tr x J;have h1:=cls s _ y M (C.rl _ hc) hy;rw[ey] at h1;rw[h1];exact rep s _ M hc
 have m6:∀s x k,s<D.rp.length->x<t.length->Xv t D.n D.p (eD D) D.z (fun s=>D.dg.getD s 0) s (it t x k)=at3 Y.X s (D.cl.getD (it t (D.rp.getD (D.cl.getD x 0) 0) k) 0):=fun s x k M J=>by
  have hc:=C.lt x J;obtain⟨y,hy,ey⟩:=C.tr x J;have hr:=C.rl _ hc;have e1:=Ze3 P hr hy (k:=k);rw[ey] at e1;rw[e1,cls s _ y M (YW P hr k) hy,at' s _ M (YW P hr k)]
 have m8:∀x,x<t.length->Jd t x=Jd t (D.rp.getD (D.cl.getD x 0) 0):=fun x J=>by
  obtain⟨y,hy,ey⟩:=C.tr x J;have:=Zhv P (C.rl _ (C.lt x J)) hy;rw[ey] at this;exact this
 unfold bdB at h3;rw[af] at h3;refine⟨fun s x=>V6 s x,fun x J=>by rw[m8 x J];exact of_decide_eq_true (Yb h3.1 (C.lt x J)),fun s x v M J hv=>?_,fun s x k M J k1 k2 kg j hj=>?_,fun s x M J=>?_⟩
 ·rw[at' s x M J] at hv
  have:=aI.mp (Yb (Yb h3.2 M) (C.lt x J)) v hv;rw[af,decide_eq_true_eq,decide_eq_true_eq] at this;exact this
 ·have hf:=Yb h1 (i:=k) (by omega)
  have k0:(k == 0)=false:=beq_eq_false_iff_ne.mpr (by omega);have n9:(eX k D.n != 1)=false:=by rw[kg];rfl
  rw[k0,n9,eQ,eQ] at hf;have hc:=C.lt x J;have e:=eq_of_beq (Yb (Yb hf M) hc);rw[m6 s x k M J,<-e,Num.V3,Zfh,cG,at' s x M J,Num.Xg];have lt:(Zjk D.n Y.top Y.R k).length=Y.top:=by unfold Zjk;rw[Za,Zg]
  have lx:(at3 Y.X s (D.cl.getD x 0)).length=Y.top:=by rw[<-at' s x M J,V6,m5]
  have tn:Y.top<=D.n:=by rw[<-m5];exact Gd.tn
  rw[lt,Num.ZgT tn (fun i hi _=>by rw[Num.WG (by omega),bn])];refine Num.ZI _ _ _ fun i hi=>?_;congr 1;unfold Zjk Num.rh;rw[O];show _=Num.co (Num.ro ((ac Y.top).map fun i=>Num.ro Y.R (i*k % D.n)) i) j;unfold Num.ro;rw[Zb (i:=i),Zc,ao hi];rfl
 ·have hc:=C.lt x J
  have hf:=Yb (Yb h2 M) hc;rw[af] at hf;obtain⟨f1,f2⟩:=hf;rw[m8 x J];generalize o0:Jd t (D.rp.getD (D.cl.getD x 0) 0)=r at f1 f2;have r1:1<=r:=by rw[<-o0];unfold Jd;omega
  refine⟨fun k=>(Num.co (fR t D Y s (D.cl.getD x 0) (D.n / r) k r) 0 / (r:Int)).toNat,fun k hk=>?_,?_⟩
  ·have hv:=Yb f1 hk
   unfold okV at hv;rw[af,af,af,decide_eq_true_eq,decide_eq_true_eq,beq_iff_eq] at hv;obtain⟨⟨⟨v1,v2⟩,v3⟩,v4⟩:=hv;have hd:Num.co (fR t D Y s (D.cl.getD x 0) (D.n / r) k r) 0 / (r:Int)*(r:Int)=Num.co (fR t D Y s (D.cl.getD x 0) (D.n / r) k r) 0:=mh (gX v2);have d0:0<=Num.co (fR t D Y s (D.cl.getD x 0) (D.n / r) k r) 0 / (r:Int):=f7 v3 (by omega);have o6:Num.co (fR t D Y s (D.cl.getD x 0) (D.n / r) k r) 0 / (r:Int)<=24:=by
    have:=Int.ediv_le_ediv (show (0:Int)<(r:Int) by omega) v4;rw[Int.mul_ediv_cancel _ (by omega)] at this;exact this
   refine⟨by show (Num.co (fR t D Y s (D.cl.getD x 0) (D.n / r) k r) 0 / (r:Int)).toNat<=24;omega,fun j hj=>?_⟩;have e:Num.ZG r (fun q=>Num.ZG D.n fun i=>Num.co (Xv t D.n D.p (eD D) D.z (fun s=>D.dg.getD s 0) s (it t x q)) i*Num.rh D.n (N51.RN D.n) (i+(D.n-q*k*(D.n / r) % D.n) % D.n) j)=Num.co (fR t D Y s (D.cl.getD x 0) (D.n / r) k r) j:=by
    rw[ZlC n1 hR];refine Num.ZI _ _ _ fun q _=>?_;rw[m6 s x q M J,O]
   rw[e];by_cases j0:j=0
   ·rw[if_pos j0,j0]
    have:((r*(Num.co (fR t D Y s (D.cl.getD x 0) (D.n / r) k r) 0 / (r:Int)).toNat:Nat):Int)=(r:Int)*(Num.co (fR t D Y s (D.cl.getD x 0) (D.n / r) k r) 0 / (r:Int)):=by
     rw[aF,iP d0]
    rw[this,cq,hd]
   ·rw[if_neg j0]
    obtain⟨j',rfl⟩:∃j',j=j'+1:=⟨j-1,by omega⟩;generalize fR t D Y s (D.cl.getD x 0) (D.n / r) k r=v at v1;unfold Num.co;rw[Zb];cases e2:v[j'+1]? with
    |none=>rfl
    |some y=>
     have:y∈v.drop 1:=aE (i:=j') (by rw[iU,ii 1 j'];exact e2);exact eq_of_beq (aI.mp v1 y this)
  ·have f2:=eq_of_beq f2
   rw[Zg5] at f2;have e0:Num.co (Xv t D.n D.p (eD D) D.z (fun s=>D.dg.getD s 0) s 0) 0=Num.co (at3 Y.X s 0) 0:=by
    rw[at' s 0 M P.n1,(C.z 0 P.n1).mpr rfl]
   rw[e0];have o5:(r:Int)*Num.ZG r (fun k=>(((Num.co (fR t D Y s (D.cl.getD x 0) (D.n / r) k r) 0 / (r:Int)).toNat:Nat):Int))=(r:Int)*Num.co (at3 Y.X s 0) 0:=by
    rw[<-f2,Num.XR];refine Num.ZI _ _ _ fun k hk=>?_;have hv:=Yb f1 hk;unfold okV at hv;rw[af,af,af,decide_eq_true_eq,decide_eq_true_eq,beq_iff_eq] at hv;obtain⟨⟨⟨v1,v2⟩,v3⟩,v4⟩:=hv;rw[iP (f7 v3 (by omega)),cq];exact mh (gX v2)
   exact Int.eq_of_mul_eq_mul_left (by omega) o5
theorem Zoo:∀x∈U7,x.2.rp.length<=10:=by
 have:(U7.all fun x=>decide (x.2.rp.length<=10))=true:=by decide +kernel
 exact fun x j=>of_decide_eq_true (aI.mp this x j)
theorem Zmx {t:List (List Nat)}(h:MkC t):∃(n p m:Nat) (e M O:Nat->Nat->Nat) (z:Nat) (J:Nat->Nat),m<=10/\TD t n p m e M O z J/\FxC t n m (Xv t n p e z J):=by
 have P:=Vl h;obtain⟨i,hi⟩:=bN h;have il:=(ae.mp hi).1;have Y:tbC.length=31:=by decide +kernel
 have j:=okC i (by omega);have q:=xBa i (by omega);unfold okB at j;unfold xB at q;have et:tbC.getD i []=t:=by rw[Zb,hi];rfl
 rw[et] at j q;simp only[af] at j q;obtain⟨⟨⟨x1,x2⟩,x3⟩,x4⟩:=q;have m5:U7.length=31:=by decide +kernel
 exact⟨_,_,_,_,_,_,_,_,Zoo (U7.getD i d0) (by rw[Zb,Zf (by omega)];exact bK _),Zk5 P j.2,ZkF P j.2 x1 x2 x3 x4⟩
noncomputable abbrev ZnG:Stmt:=top 45
noncomputable abbrev ZlY:Stmt:=top 46
inductive ZgW (vs:List V) (H:Hp) (Q:VK) (E03:XK):Prop
 |mk (n r M:Nat) (a:Addr) (u:Nat->Int):(vs=[.int n,.ref a,.int r])->(1<=n)->(n<=60)->(1<=r)->(r<=30)->(M<=24)->(H a=some (.lst (ZC n u)))->((∀j,j<N51.Wv n->Num.me n (N51.RN n) u j=if j=0 then ((r*M:Nat):Int) else 0))->(∀H',Zv H H'->Q (.int (M:Nat)) H')->ZgW vs H Q E03
theorem Zc2 {xs:List V}(h:1<=xs.length):X6 xs (some 1) none=xs.drop 1:=by
 unfold X6;have j:HT.U0 xs.length 0 (some 1)=1:=by
  have:=HT.Zbc xs.length 0 1;rw[show ((1:Nat):Int)=1 from rfl] at this;rw[this];omega
 rw[j,HT.Zhh];rw[hG (by rw[bB];omega)]
theorem Zfv {n:Nat}(j:1<=n)(u:Nat->Int)(x:Int):[V.int x]++X6 (ZC n u) (some 1) none=ZC n fun i=>if i=0 then x else u i:=by
 have e:=Zc2 (xs:=ZC n u) (by rw[ZR];exact j);rw[e];refine bq fun i=>?_;cases i with
 |zero=>rw[Yc _ j];rfl
 |succ i=>
  rw[aw (by show 1<=i+1;omega),show i+1 - [V.int x].length=i from rfl,iU,ii 1 i];by_cases h:i+1<n
  ·rw[Yc _ h,Yc _ h,if_neg (by omega)]
  ·rw[ak (by rw[ZR];omega),ak (by rw[ZR];omega)]
section
variable {P:Program}{w:World}{K:aa}{mg:Str->Option Value}{base:Heap}
theorem Zmn {f:Addr}{fd:FuncData}(F:WI K "_law_whole" "_law_whole" ZnG f fd)(T:Bl mg)(GN:Fn P w K mg base Ym 1 "_law_is_nought" ["_law_n", "_law_row"] Za0):Ya P w K mg base Ym 2 f fd ["_law_n", "_law_row", "_law_by"] ZgW:=by
 refine F.ok (FS (N:=["_law_n", "_law_row", "_law_by", "_law_often"])) (fun vs H Q E h=>?_) (fun o5 A n6 s H vs Q E hr h=>?_)
 ·obtain⟨n,r,M,a,u,rfl,_⟩:=h;rfl
 ·obtain⟨n,r,M,a,u,rfl,n1,n60,r1,r30,hM,ha,hu,q⟩:=h
  refine⟨_,Zs (ZM am rfl (ZnR T.range (pc Zx (pc (Zy ZN Zx (vn 2)) (pc (vn 2) Zu)))) (gn 3)
   (Zw (WF (XA (Wr GN hr ZL (pc (vn 0) (pc (Zy Vh (ZQ (pc (Zy YC (ZF (Ji K) (vn 1) Zx (fun _ _=>rfl)) (vn 3)) Zu)) (Ux Zba (vn 1) (Zbk Zx) Zbl)) Zu)))) (Zw (ZJ (Zy Y4 (vn 3) (vn 2)))) Yy)))
   (Zw (ZJ ZhI)),?_⟩
  have sz:(16777216:Nat)=sizeLine:=by decide
  have Gd:=(N51.ZaA n1 n60).1;have sN:Wx (25*r) r=25:=by
   unfold Wx;rw[show 25*r+r-1=r-1+25*r by omega,Nat.add_mul_div_right _ _ (by omega),jC (by omega)]
  refine⟨_,rfl,_,_,rfl,rfl,.inl ⟨by decide,by decide⟩,_,rfl,25*r,r,?_,r1,by omega,by omega,?_⟩
  ·rw[show ((25*r:Nat):Int)=25*(r:Int) by omega]
  rw[sN];refine ZcU (fun i O Y=>∃v3:Option V,O=[some (.int n),some (.ref a),some (.int r),v3]/\Zv H Y/\i<=M) ⟨_,rfl,Zv.refl _,bc _⟩ ?_ ?_
  ·rintro i O Y hi ⟨v3,rfl,sm,o6⟩
   rw[show (0:Int)+(i:Int)*(r:Int)=((r*i:Nat):Int) by rw[aF,cq];omega];have m5:=sm _ _ ha;refine⟨_,rfl,_,rfl,a,_,_,_,rfl,rfl,.of m5,ZK (j:=0) (Yc u n1),_,rfl,_,_,rfl,rfl,(by show 1<=sizeLine;decide),fun l1 n8=>?_⟩;have s1:=Zv.upd (H:=Y) (o:=.lst [.int (u 0-((r*i:Nat):Int))]) n8;have h1:=Zt (H:=Y) (a:=l1) (o:=.lst [.int (u 0-((r*i:Nat):Int))]);generalize upd Y l1 (.lst [.int (u 0-((r*i:Nat):Int))])=H1 at s1 h1 ⊢;refine⟨_,rfl,_,rfl,a,_,rfl,.of (s1 _ _ m5),fun l2 n9=>?_⟩;have s2:=Zv.upd (H:=H1) (o:=.lst (X6 (ZC n u) (some 1) none)) n9;have h2:=Zt (H:=H1) (a:=l2) (o:=.lst (X6 (ZC n u) (some 1) none));generalize upd H1 l2 (.lst (X6 (ZC n u) (some 1) none))=H2 at s2 h2 ⊢;refine⟨l1,l2,_,_,rfl,rfl,s2 _ _ h1,h2,?_,fun l3 o0=>?_⟩
   ·rw[Zc2 (by rw[ZR];exact n1),bB,ZR];show 1+_<=_;omega
   rw[Zfv n1];have s3:=Zv.upd (H:=H2) (o:=.lst (ZC n fun J=>if J=0 then u 0-((r*i:Nat):Int) else u J)) o0
   have h3:=Zt (H:=H2) (a:=l3) (o:=.lst (ZC n fun J=>if J=0 then u 0-((r*i:Nat):Int) else u J))
   generalize upd H2 l3 (.lst (ZC n fun J=>if J=0 then u 0-((r*i:Nat):Int) else u J))=H3 at s3 h3 ⊢
   refine⟨n,l3,_,rfl,n1,n60,h3,fun b H4 s4 hb=>?_⟩;have m6:∀j,j<N51.Wv n->Num.me n (N51.RN n) (fun J=>if J=0 then u 0-((r*i:Nat):Int) else u J) j=if j=0 then ((r*M:Nat):Int)-((r*i:Nat):Int) else 0:=fun j hj=>by
    rw[Num.ZdX u _ (by omega:0<n),hu j hj];have:Num.rh n (N51.RN n) 0 j=if j=0 then 1 else 0:=by
     unfold Num.rh;rw[lc,Gd.un 0 Gd.t1,Num.Jb hj]
    rw[this];by_cases j0:j=0
    ·rw[if_pos j0,if_pos j0,if_pos j0];omega
    ·rw[if_neg j0,if_neg j0,if_neg j0];omega
   have m8:b=true↔i=M:=by
    rw[hb];constructor
    ·intro z
     have:=z 0 Gd.t1;rw[m6 0 Gd.t1,if_pos rfl] at this;have:r*M=r*i:=by omega
     exact (Nat.eq_of_mul_eq_mul_left (by omega) this).symm
    ·rintro rfl j hj
     rw[m6 j hj];split <;> omega
   have sm4:=(((sm.trans s1).trans s2).trans s3).trans s4;refine⟨b,rfl,?_⟩;refine YG (fun h0=>?_) (fun h0=>?_)
   ·have e:=m8.mp h0
    subst e;refine⟨_,rfl,_,rfl,_,_,rfl,rfl,⟨by omega,by omega⟩,?_⟩;show Q (.int (((r*i:Nat):Int) / (r:Int))) H4;rw[show ((r*i:Nat):Int) / (r:Int)=(i:Int) by rw[aF,Int.mul_ediv_cancel_left _ (by omega)]];exact q H4 sm4
   ·exact⟨_,rfl,sm4,by have:i≠M:=fun z=>h0 (m8.mpr z);omega⟩
  ·rintro O Y ⟨v3,rfl,sm,o7⟩
   omega
end
noncomputable def RwC (H:Hp)(L:Addr)(n m:Nat)(j:Nat->List Int):Prop:=∃rs:List Addr,H L=some (.lst (rs.map V.ref))/\rs.length=m/\∀(c:Nat) r,rs[c]?=some r->H r=some (.lst (ZC n (Num.co (j c))))
theorem RwC.mono {H j:Hp}{L:Addr}{n m:Nat}{q:Nat->List Int}(h:RwC H L n m q)(s:Zv H j):RwC j L n m q:=by
 obtain⟨J,M,O,Y⟩:=h;exact⟨J,s _ _ M,O,fun c r hc=>s _ _ (Y c r hc)⟩
theorem RwC.at {H:Hp}{L:Addr}{n m:Nat}{j:Nat->List Int}(h:RwC H L n m j){c:Nat}(M:c<m):∃(xs:List V) (r:Addr),H L=some (.lst xs)/\Vd xs (c:Int)=some (.ref r)/\H r=some (.lst (ZC n (Num.co (j c)))):=by
 obtain⟨rs,q,O,J⟩:=h;have e:rs[c]?=some (rs.getD c 0):=by rw[Zb,Zf (by omega)];rfl
 exact⟨_,rs.getD c 0,q,ZK (by rw[Zc,e];rfl),J c _ e⟩
theorem ZnP {n a:Nat}(q:1<=n):((n:Int)-(a:Int)) % (n:Int)=(((n-a % n) % n:Nat):Int):=by
 have h:=Nat.mod_add_div a n;have J:=ba a (show 0<n by omega);have e:(n:Int)-(a:Int)=((n-a % n:Nat):Int)+(-((a / n:Nat):Int))*(n:Int):=by
  have j:(a:Int)=((a % n:Nat):Int)+(n:Int)*((a / n:Nat):Int):=by rw[<-aF,<-dM,h]
  rw[j,fU,cq (n:Int)];omega
 rw[e,jS];rfl
inductive ZgY (vs:List V) (H:Hp) (Q:VK) (E03:XK):Prop
 |mk (n m x:Nat) (g D L:Addr) (t:List (List Nat)) (kvs:List (YE×V)) (X:Nat->List Int) (M:Nat->Nat):(vs=[.int n,.ref g,.int x,.ref D,.ref L])->(1<=n)->(n<=60)->(GT H g t)->(PW t)->(x<t.length)->(Jd t x<=30)->(H D=some (.dK kvs))->((∀a:Nat,a<t.length->YT kvs (.inl (a:Int))=some (.int (Y6 t a:Nat))))->(RwC H L n m (fun c=>X (ZO t c)))->(1<=m)->(ZO t 0=0)->((∀y,y<t.length->Y6 t y<m/\X (ZO t (Y6 t y))=X y))->((∀k,k<Jd t x->M k<=24/\∀j,j<N51.Wv n->Num.ZG (Jd t x) (fun q=>Num.ZG n fun i=>Num.co (X (it t x q)) i*Num.rh n (N51.RN n) (i+(n-q*k*(n / Jd t x) % n) % n) j)=if j=0 then ((Jd t x*M k:Nat):Int) else 0))->(Num.ZG (Jd t x) (fun k=>((M k:Nat):Int))=Num.co (X 0) 0)->(∀H',Zv H H'->Q (.bl true) H')->ZgY vs H Q E03
section
variable {P:Program}{w:World}{K:aa}{mg:Str->Option Value}{base:Heap}
theorem Zmp {f:Addr}{fd:FuncData}(F:WI K "_law_roots_right" "_law_roots_right" ZlY f fd)(T:Bl mg)(GS:Fn P w K mg base Ym 1 "_law_sum" ["_law_one", "_law_other", "_law_often"] ZaT)(GM:Fn P w K mg base Ym 1 "_law_mul" ["_law_n", "_law_one", "_law_other"] Zdx)(p4:Fn P w K mg base Ym 2 "_law_whole" ["_law_n", "_law_row", "_law_by"] ZgW):Ya P w K mg base Ym 3 f fd ["_law_n", "_law_group_here", "_law_thing", "_law_met", "_law_row"] ZgY:=by
 refine F.ok (FS (N:=["_law_n", "_law_group_here", "_law_thing", "_law_met", "_law_row", "_law_here", "_law_powers", "_law_step", "_law_left", "_law_k", "_law_found", "_law_j", "_law_root", "_law_often"])) (fun vs H Q E h=>?_) (fun p6 A p7 s H vs Q E hr h=>?_)
 ·obtain⟨n,m,x,g,D,L,t,p8,X,M,rfl,_⟩:=h;rfl
 ·obtain⟨n,m,x,g,D,L,t,p8,X,M,rfl,n1,n60,G,Pt,hx,r30,hD,hv,RL,m1,Zbg,hX,hM,hS,q⟩:=h
  have hu:(A.deeper (envOfC "_law_roots_right" (ZZ ZlY) s.heap.objs.size f p6)).units+1<cLine:=by have:=hr.un;omega
  refine⟨_,Zs (ZE 5 rfl (vn 2))
   (Zs (ZE 6 rfl (ZQ (pc Zx Zu)))
   (Zs (Yf am (ZS JJ (vn 5) Zx (ZY _))
   (Zs (Yu (Wj aK aQ aT Z7 (vn 6) (pc (vn 5) Zu)))
   (Zw (ZE 5 rfl (ZF (Xt K) (ZF (Xt K) (vn 1) (vn 5) (fun _ _=>rfl)) (vn 2) (fun _ _=>rfl))))))
   (Zs (ZE 7 rfl (Zy Y4 (vn 0) (cb (Yx K) T.len (pc (vn 6) Zu))))
   (Zs (ZE 8 rfl (ZF (Ji K) (ZF (Ji K) (vn 4) Zx (fun _ _=>rfl)) Zx (fun _ _=>rfl)))
   (Zs (ZM am rfl (JA T.range (pc (cb (Yx K) T.len (pc (vn 6) Zu)) Zu)) (gn 9)
   (Zs (ZE 10 rfl (Zy WD (ZQ (pc Zx Zu)) (vn 0)))
   (Zs (ZM am rfl (JA T.range (pc (cb (Yx K) T.len (pc (vn 6) Zu)) Zu)) (gn 11)
   (Zs (ZE 12 rfl (Zy WD (ZQ (pc Zx Zu)) (vn 0)))
   (Zs (Jf Zx (JC (vn 12) (Zy ZV (Zy YC (vn 0) (Zy ZN (Zy ZN (vn 11) (vn 9)) (vn 7))) (vn 0)) YB))
   (Zw (ZE 10 rfl (Wr GS hr ZL (pc (vn 10) (pc (Wr GM hr ZL (pc (vn 0) (pc (ZF (Ji K) (vn 4) (WK hu (vn 3) (ZF (Ji K) (vn 6) (vn 11) (fun _ _=>rfl)) (fun _ _=>rfl)) (fun _ _=>rfl)) (pc (vn 12) Zu)))) (pc Zx Zu)))))))))
   (Zs (ZE 13 rfl (Wr p4 hr ZL (pc (vn 0) (pc (vn 10) (pc (cb (Yx K) T.len (pc (vn 6) Zu)) Zu)))))
   (Zs (WF (ZS Zmm (vn 13) ZhI (ZY _)) (Zw (ZJ ZcA)) Yy)
   (Zw (ZE 8 rfl (Zy YC (vn 8) (vn 13)))))))))
   (Zw (ZJ (VY VE (vn 8) Zx (ZY _))))))))),?_⟩
  have sz:(16777216:Nat)=sizeLine:=by decide
  have N1:=Pt.n1;have N60:=Pt.n60;obtain⟨r,Rr⟩:=Pt.rd x hx;have er:Jd t x=r:=Us Rr;rw[er] at r30 hM hS;have r1:=Rr.r1;refine⟨_,rfl,(by show 1<=sizeLine;decide),fun l nl=>?_⟩;have s1:=Zv.upd (H:=H) (o:=.lst [.int 0]) nl;have Y:=Zt (H:=H) (a:=l) (o:=.lst [.int 0]);generalize upd H l (.lst [.int 0])=H1 at s1 Y ⊢;have e1:[V.int 0]=ZC 1 (fun i=>((it t x i:Nat):Int)):=rfl;rw[e1] at Y;refine Z9 (fun mm J O=>∃k:Nat,J=[some (.int n),some (.ref g),some (.int x),some (.ref D),some (.ref L),some (.int (it t x k:Nat)),some (.ref l),none,none,none,none,none,none,none]/\Zv H O/\O l=some (.lst (ZC k fun i=>((it t x i:Nat):Int)))/\1<=k/\k<=r/\mm=r-k)
   (fun J O=>∃v5:Option V,J=[some (.int n),some (.ref g),some (.int x),some (.ref D),some (.ref L),v5,some (.ref l),none,none,none,none,none,none,none]/\Zv H O/\O l=some (.lst (ZC r fun i=>((it t x i:Nat):Int)))) ?hend1 ⟨r-1,1,by rw[ZbD Pt hx];rfl,s1,Y,Zq _,r1,rfl⟩ ?turn1
  case turn1=>
   rintro o6 mm J O ⟨k,rfl,sm,hl,k1,kr,rfl⟩;refine⟨_,rfl,rfl,_,rfl,?_⟩;refine YG (fun Y=>?_) (fun Y=>?_)
   ·have Y:it t x k≠0:=fun z=>by
     rw[Yd,z] at Y;simp at Y
    have kr':k<r:=bw kr fun z=>Y (z▸Rr.z);refine⟨_,fun _ _ z=>z,_,rfl,.inl ⟨rfl,_,.of hl⟩,_,rfl,l,_,_,rfl,rfl,hl,by rw[ZR];omega,?_⟩;rw[<-V8 k fun i=>((it t x i:Nat):Int)];have VT:Zv H (upd O l (.lst (ZC (k+1) fun i=>((it t x i:Nat):Int)))):=sm.updr nl;have o7:=Zt (H:=O) (a:=l) (o:=.lst (ZC (k+1) fun i=>((it t x i:Nat):Int)));generalize upd O l (.lst (ZC (k+1) fun i=>((it t x i:Nat):Int)))=H2 at VT o7 ⊢;obtain⟨rs',r2,r6,_,r8,g3,g4⟩:=(G.mono VT).at Pt (YW Pt hx k);exact⟨_,rfl,_,rfl,g,_,_,_,rfl,rfl,.of r6,r8,_,rfl,r2,_,_,_,rfl,rfl,g3.sq,g4 x hx,r-(k+1),by omega,k+1,rfl,VT,o7,by omega,by omega,rfl⟩
   ·have Y:it t x k=0:=by
     apply ah;intro z;apply Y;rw[Yd];simp[z]
    have:k=r:=by
     apply ah;intro z;exact Rr.nz k k1 (by omega) Y
    exact o6 _ _ ⟨_,rfl,sm,by rw[<-this];exact hl⟩
  case hend1=>
   rintro J H2 ⟨v5,rfl,sm,hl⟩;have vl:(ZC r fun i=>((it t x i:Nat):Int)).length=r:=ZR _ _;obtain⟨xs,r0,a1,a2,a3⟩:=(RL.mono sm).at (c:=0) m1;rw[Zbg] at a3;refine⟨_,rfl,_,rfl,l,_,rfl,.inl (.of hl),_,_,rfl,rfl,(by rw[vl];exact⟨by omega,by omega⟩),?_⟩;rw[vl];refine⟨_,rfl,L,_,_,_,rfl,rfl,.of a1,a2,r0,_,_,_,rfl,rfl,.of a3,ZK (j:=0) (Yc _ n1),?_⟩;refine⟨_,rfl,l,_,rfl,.inl (.of hl),_,rfl,by omega,by rw[vl];omega,?_⟩;rw[vl,Zj];refine Z8 (fun k J O=>∃v9 n8 n9 o0 m5:Option V,J=[some (.int n),some (.ref g),some (.int x),some (.ref D),some (.ref L),v5,some (.ref l),some (.int ((n / r:Nat):Int)),some (.int (Num.co (X 0) 0-Num.ZG k fun i=>((M i:Nat):Int))),v9,n8,n9,o0,m5]/\Zv H2 O)
    ⟨_,_,_,_,_,by rw[show Num.ZG 0 (fun i=>((M i:Nat):Int))=0 from rfl,io];rfl,Zv.refl _⟩ ?_ ?_
   ·rintro k J H3 hk ⟨v9,n8,n9,o0,m5,rfl,s3⟩
    rw[show (0:Int)+(k:Int)=(k:Int) by omega];refine⟨(by show 1<=sizeLine;decide),fun l1 t6=>?_⟩;have s4:=Zv.upd (H:=H3) (o:=.lst [.int 0]) t6;have h4:=Zt (H:=H3) (a:=l1) (o:=.lst [.int 0]);generalize upd H3 l1 (.lst [.int 0])=H4 at s4 h4 ⊢;refine⟨_,rfl,l1,_,_,rfl,rfl,h4,by omega,by omega,(by show 1*_<=_;omega),fun l2 t7=>?_⟩;rw[Zj,WR];have s5:=Zv.upd (H:=H4) (o:=.lst (ZC n fun _=>0)) t7;have h5:=Zt (H:=H4) (a:=l2) (o:=.lst (ZC n fun _=>0));generalize upd H4 l2 (.lst (ZC n fun _=>0))=H5 at s5 h5 ⊢;have o8:=(s3.trans s4).trans s5;refine⟨_,rfl,l,_,rfl,.inl (.of (o8 _ _ hl)),_,rfl,by omega,by rw[vl];omega,?_⟩;rw[vl,Zj];refine Z8 (fun j J O=>∃(c:Nat->Int) (la:Addr) (m6 m8:Option V),J=[some (.int n),some (.ref g),some (.int x),some (.ref D),some (.ref L),v5,some (.ref l),some (.int ((n / r:Nat):Int)),some (.int (Num.co (X 0) 0-Num.ZG k fun i=>((M i:Nat):Int))),some (.int (k:Nat)),some (.ref la),m6,m8,m5]/\Zv H2 O/\O la=some (.lst (ZC n c))/\∀z,Num.me n (N51.RN n) c z=Num.ZG j fun q=>Num.ZG n fun i=>Num.co (X (it t x q)) i*Num.rh n (N51.RN n) (i+(n-q*k*(n / r) % n) % n) z)
     ⟨_,l2,_,_,rfl,o8,h5,fun z=>Num.Zbu z⟩ ?_ ?_
    ·rintro j J H6 hj ⟨c,la,m6,m8,rfl,s6,h6,hc⟩
     rw[show (0:Int)+(j:Int)=(j:Int) by omega];refine⟨(by show 1<=sizeLine;decide),fun l3 t9=>?_⟩;have s7:=Zv.upd (H:=H6) (o:=.lst [.int 0]) t9;have h7:=Zt (H:=H6) (a:=l3) (o:=.lst [.int 0]);generalize upd H6 l3 (.lst [.int 0])=H7 at s7 h7 ⊢;refine⟨_,rfl,l3,_,_,rfl,rfl,h7,by omega,by omega,(by show 1*_<=_;omega),fun l4 o5=>?_⟩;rw[Zj,WR];have s8:=Zv.upd (H:=H7) (o:=.lst (ZC n fun _=>0)) o5;have h8:=Zt (H:=H7) (a:=l4) (o:=.lst (ZC n fun _=>0));have o9:H6 l4=none:=by
      cases e:H6 l4 with
      |none=>rfl
      |some o=>rw[s7 _ _ e] at o5;cases o5
     generalize upd H7 l4 (.lst (ZC n fun _=>0))=H8 at s8 h8 ⊢;have hq:(n-j*k*(n / r) % n) % n<n:=ba _ n1;have eM:((n:Int)-(j:Int)*(k:Int)*((n / r:Nat):Int)) % (n:Int)=(((n-j*k*(n / r) % n) % n:Nat):Int):=by
      rw[<-aF,<-aF];exact ZnP n1
     have b1:(j:Int)*(k:Int)<2 ^ 64:=by
      rw[<-aF];have:j*k<=30*30:=iE (by omega) (by omega);omega
     have b0:-(2 ^ 64)<(j:Int)*(k:Int):=by
      rw[<-aF];omega
     refine⟨_,rfl,_,rfl,_,rfl,_,rfl,_,_,rfl,rfl,.inl ⟨by omega,by omega⟩,_,rfl,_,_,rfl,rfl,.inl ⟨b0,b1⟩,_,_,rfl,rfl,_,rfl,_,_,rfl,rfl,(by show (0:Int)<n;omega),l4,_,_,(n-j*k*(n / r) % n) % n,rfl,rfl,h8,by rw[ZR,eM];exact WA hq,?_⟩;rw[VQ _ _ hq];have s9:Zv H6 (upd H8 l4 (.lst (ZC n fun i=>if i=(n-j*k*(n / r) % n) % n then 1 else 0))):=(s7.trans s8).updr o9
     have h9:=Zt (H:=H8) (a:=l4) (o:=.lst (ZC n fun i=>if i=(n-j*k*(n / r) % n) % n then 1 else 0))
     generalize upd H8 l4 (.lst (ZC n fun i=>if i=(n-j*k*(n / r) % n) % n then 1 else 0))=H9 at s9 h9 ⊢
     have n6:=s6.trans s9;have u5:j<r:=hj;have il:=YW Pt hx j;obtain⟨u9,w8⟩:=hX _ il;obtain⟨xs9,r9,c1,c2,c3⟩:=((RL.mono sm).mono n6).at u9;rw[w8] at c3;have hg:=Jk.k (k:=.inl ((it t x j:Nat):Int)) ((sm.trans n6) _ _ hD);rw[hv _ il] at hg;refine⟨_,rfl,_,rfl,_,rfl,_,rfl,_,rfl,_,rfl,l,_,_,_,rfl,rfl,.of (n6 _ _ hl),ZK (Yc _ u5),D,_,rfl,hg,L,_,_,_,rfl,rfl,.of c1,c2,_,rfl,n,r9,l4,_,_,rfl,n1,n60,c3,h9,fun i i' _ _=>.inr (by split <;> exact⟨by decide,by decide⟩),fun l5 w5 H10 p3 w9 x9=>?_⟩
     refine⟨n,la,l5,1,c,w5,rfl,n60,p3 _ _ (s9 _ _ h6),w9,by decide,by decide,fun l6 H11 y4 y6=>?_⟩;refine⟨_,l6,_,_,rfl,(n6.trans p3).trans y4,y6,fun z=>?_⟩;rw[Num.Zid,gI,x9,Num.Zki _ hq,hc,Num.Ys]
    ·rintro J H6 ⟨c,la,m6,m8,rfl,s6,h6,hc⟩
     obtain⟨y8,y9⟩:=hM k hk;refine⟨_,rfl,_,rfl,_,rfl,l,_,rfl,.inl (.of (s6 _ _ hl)),?_⟩;rw[vl];refine⟨n,r,M k,la,c,rfl,n1,n60,r1,r30,y8,h6,fun z hz=>by rw[hc,y9 z hz],fun H7 s7=>?_⟩;refine⟨_,rfl,rfl,_,rfl,?_⟩;refine YG (fun h0=>absurd (of_decide_eq_true h0) (fun z=>by cases z)) (fun _=>?_);refine⟨_,rfl,_,rfl,_,_,rfl,rfl,some (.int (k:Nat)),some (.ref la),m6,m8,some (.int (M k:Nat)),?_,s6.trans s7⟩;rw[Num.Ys,show Num.co (X 0) 0-(Num.ZG k (fun i=>((M i:Nat):Int))+((M k:Nat):Int))=Num.co (X 0) 0-Num.ZG k (fun i=>((M i:Nat):Int))-((M k:Nat):Int) by omega];rfl
   ·rintro J H3 ⟨v9,n8,n9,o0,m5,rfl,s3⟩
    rw[hS,ly];exact⟨_,rfl,rfl,q H3 (sm.trans s3)⟩
end
end C51
namespace Tb
theorem ZjV {n:Nat}{o:List Nat}{k a:Nat}(O:Ord n o)(k1:1<=k)(M:k<n)(a1:1<=a)(Y:a<n):Ord n ((o.set k (o.getD a 0)).set a (o.getD k 0)):=by
 have j:k<o.length:=by rw[O.len];exact M
 have q:a<o.length:=by rw[O.len];exact Y
 have ek:o.getD k 0=o[k]:=by rw[Zb,Zf j];rfl
 have ea:o.getD a 0=o[a]:=by rw[Zb,Zf q];rfl
 have pm:((o.set k (o.getD a 0)).set a (o.getD k 0)).Perm o:=by rw[ek,ea];exact List.set_set_perm j q
 refine⟨by rw[a9,a9,O.len],pm.nodup_iff.mpr O.nd,fun v J=>pm.mem_iff.mpr (O.all v J),fun v J=>O.lt v (pm.mem_iff.mp J),?_⟩;have z:=O.z;rw[Zb] at z ⊢;rw[fP (by omega),fP (by omega)];exact z
theorem ZfM {n:Nat}(q:1<=n):Ord n (ac n):=⟨Zg,eC,fun v j=>ag.mpr j,fun v j=>ag.mp j,by rw[Zb,ao (by omega)];rfl⟩
end Tb
namespace C51
open PySem L2 PySem.Spec PyProof.Rows
open Tb Pm
noncomputable abbrev Zlb:Stmt:=top 37
inductive Zdw (vs:List V) (H:Hp) (Q:VK) (E03:XK):Prop
 |mk (p q g:Addr) (b:Nat) (t:List (List Nat)):(vs=[.ref p,.ref g])->(Wi H p q b)->(b+60<2 ^ 60)->(GT H g t)->(PW t)->(∀g' os H',Tk p H H'->Wi H' p q (b+60)->Ord t.length os->GT H' g' (ren t os)->Q (.ref g') H')->Zdw vs H Q E03
theorem Tk.updN {p l:Addr}{H j:Hp}{o:HO}(a:Tk p H j)(h:H l=none):Tk p H (upd j l o):=fun c u e n=>by
 rw[Zz (fun z=>by rw[z,h] at e;cases e)];exact a c u e n
noncomputable def ZiE (t:List (List Nat))(os:List Nat)(a:Nat):V->V
 | .int z=>.int (pos os (ZT t a z.toNat):Nat)
 |y=>y
theorem ZiD (t:List (List Nat))(os:List Nat)(a:Nat):(os.map nV).map (ZiE t os a)=(os.map fun b=>pos os (ZT t a b)).map nV:=by
 rw[aP,aP];refine aX fun b _=>?_;show V.int (pos os (ZT t a (b:Int).toNat):Nat)=nV (pos os (ZT t a b));rw[Zj];rfl
noncomputable def ZmO (os:List Nat):V->V
 | .int z=>.int (pos os z.toNat:Nat)
 |y=>y
section
variable {P:Program}{w:World}{K:aa}{mg:Str->Option Value}{base:Heap}
theorem Zj0 {f:Addr}{fd:FuncData}(F:WI K "_law_renamed" "_law_renamed" Zlb f fd)(T:BlB mg)(GD:Fn P w K mg base Ym 1 "_law_draw" ["_law_feed_here", "_law_many"] Ui):Ya P w K mg base Ym 2 f fd ["_law_feed_here", "_law_group_here"] Zdw:=by
 refine F.ok (FS (N:=["_law_feed_here", "_law_group_here", "_law_order", "_law_k", "_law_at", "_law_spots"])) (fun vs H Q E h=>?_) (fun t9 A p6 s H vs Q E hr h=>?_)
 ·obtain⟨p,q,g,b,t,rfl,_⟩:=h;rfl
 ·obtain⟨p,q,g,b,t,rfl,T0,hb,G0,Pt,k⟩:=h
  refine⟨_,Zs (ZE 2 rfl (ct (Zaa rfl) T.list (pc (ct VJ T.range (pc (cb (Yx K) T.len (pc (vn 1) Zu)) Zu)) Zu)))
   (Zs (ZM am rfl (Zhn T.range (pc Zx (pc (cb (Yx K) T.len (pc (vn 1) Zu)) Zu))) (gn 3)
    (Zs (ZE 4 rfl (Zy Yr Zx (Wr GD hr ZL (pc (vn 0) (pc (Zy YC (cb (Yx K) T.len (pc (vn 1) Zu)) Zx) Zu)))))
    (Zw (Jf (ZdS (pc (ZF (Ji K) (vn 2) (vn 4) (fun _ _=>rfl)) (pc (ZF (Ji K) (vn 2) (vn 3) (fun _ _=>rfl)) Zu))) (ZdR rfl (Wy (JC (vn 2) (vn 3) YB) (Wy (JC (vn 2) (vn 4) YB) Zbm)))))))
   (Zs (ZE 5 rfl (cmp ["_law_a"] [2] ["_law_a", "_law_order"] rfl (JA T.range (pc (cb (Yx K) T.len (pc (vn 1) Zu)) Zu)) (fun _ _ _ _ _=>gn 0) (fun _ _ _ _ _=>Z0) (fun _ _ _ _ _=>ZhN K aK lB PySem.F.type_list_index (ZpI K hr.units) (vn 1) (pc (vn 0) Zu))))
   (Zw (ZJ (ct ZX T.tuple (pc (cmp ["_law_a"] [2,5,1] ["_law_a", "_law_order", "_law_spots", "_law_group_here"] rfl (itL K (vn 2)) (fun _ _ _ _ _=>gnf 0 rfl) (fun _ _ _ _ _=>Z0) (fun _ _ _ _ _=>ct (ZgL K) (by exact T.tuple) (pc (cmp ["_law_b"] [2,3,0] ["_law_b", "_law_spots", "_law_group_here", "_law_a"] rfl (itL K (vn 1)) (fun _ _ _ _ _=>gn 0) (fun _ _ _ _ _=>Z0) (fun _ _ _ _ _=>ZF (Ji K) (vn 1) (ZF (Xt K) (ZF (Xt K) (vn 2) (vn 3) (fun _ _=>rfl)) (vn 0) (fun _ _=>rfl)) (fun _ _=>rfl))) Zu))) Zu)))))),?_⟩
  have sz:(16777216:Nat)=sizeLine:=by decide
  have n1:=Pt.n1;have u5:=Pt.n60;obtain⟨gs,u1,u2,u3⟩:=id G0;have Y:(gs.map V.ref).length=t.length:=by rw[Za,u2]
  refine⟨_,rfl,g,_,rfl,.inr (.of u1),?_⟩;rw[Y];refine⟨_,rfl,fun r0 p7=>⟨r0,0,_,rfl,Zt,⟨by omega,by omega,by omega,by omega⟩,by omega,fun l n8=>?_⟩⟩;rw[show ((t.length:Int)-0).toNat=t.length by omega];have s1:Zv H (upd H r0 (.rng 0 (t.length:Int))):=Zv.upd p7;have nl:H l=none:=s1.free n8;have s2:=s1.trans (Zv.upd (o:=.lst ((YZ 0 t.length).map V.int)) n8);have h2:upd (upd H r0 (.rng 0 (t.length:Int))) l (.lst ((YZ 0 t.length).map V.int)) l=some (.lst ((ac t.length).map nV)):=by rw[Zt,Zl3]
  have np:=T0.neN nl;generalize upd (upd H r0 (.rng 0 (t.length:Int))) l (.lst ((YZ 0 t.length).map V.int))=H2 at s2 h2 ⊢;refine⟨_,rfl,g,_,rfl,.inr (.of (s2 _ _ u1)),?_⟩;rw[Y];refine⟨_,_,rfl,⟨by omega,by omega,by omega,by omega⟩,?_⟩;rw[show ((t.length:Int)-1).toNat=t.length-1 by omega];refine Z8 (fun i m5 H'=>∃(v w u:Option V) (os:List Nat),m5=[some (.ref p),some (.ref g),some (.ref l),v,w,u]/\Tk p H H'/\Wi H' p q (b+i)/\Ord t.length os/\H' l=some (.lst (os.map nV))) ⟨_,_,_,_,rfl,Tk.of s2,T0.mono s2,ZfM n1,h2⟩ ?_ ?_
  ·rintro i m5 H3 hi ⟨v,w,u,os,rfl,d3,T3,O3,h3⟩
   have G3:=GT.tk T0 d3 G0;obtain⟨p8,w1,w2,_⟩:=id G3;have q0:(p8.map V.ref).length=t.length:=by rw[Za,w2]
   refine⟨_,rfl,_,rfl,g,_,rfl,.inr (.of w1),?_⟩;rw[q0];refine⟨_,_,rfl,rfl,p,q,_,b+i,rfl,T3,by omega,by omega,by omega,fun r H4 r6 u9 d4 T4=>?_⟩;obtain⟨j,rfl⟩:=bY r6;have h4:=d4.lst T3 h3;have hj:1+j<t.length:=by omega
   have n9:1+i<t.length:=by omega
   have ej:(1:Int)+(j:Int)=((1+j:Nat):Int):=by omega
   have ei:(1:Int)+(i:Int)=((1+i:Nat):Int):=by omega
   have gj:(os.map nV)[1+j]?=some (nV (os.getD (1+j) 0)):=by rw[Zc,Y5 (by rw[O3.len];exact hj)];rfl
   have gi:(os.map nV)[1+i]?=some (nV (os.getD (1+i) 0)):=by rw[Zc,Y5 (by rw[O3.len];exact n9)];rfl
   have lm:(os.map nV).length=t.length:=by rw[Za,O3.len]
   refine⟨_,_,rfl,rfl,_,rfl,_,rfl,l,_,_,_,rfl,rfl,.of h4,by rw[ej];exact ZK gj,_,rfl,_,rfl,l,_,_,_,rfl,rfl,.of h4,by rw[ei];exact ZK gi,(by show 2<=sizeLine;decide),fun c nc=>?_⟩;have s5:=Zv.upd (H:=H4) (o:=.tup [nV (os.getD (1+j) 0),nV (os.getD (1+i) 0)]) nc;have h5:=s5 _ _ h4;have o0:upd H4 c (.tup [nV (os.getD (1+j) 0),nV (os.getD (1+i) 0)]) c=some (.tup [nV (os.getD (1+j) 0),nV (os.getD (1+i) 0)]):=Zt;have T5:=T4.mono s5;have d5:=(d3.trans d4).trans (Tk.of s5);generalize upd H4 c (.tup [nV (os.getD (1+j) 0),nV (os.getD (1+i) 0)])=H5 at s5 h5 o0 T5 d5 ⊢;refine⟨c,_,rfl,.of o0,rfl,_,_,rfl,_,rfl,_,rfl,l,_,_,1+i,rfl,rfl,h5,by rw[ei];exact WA (by omega),_,_,rfl,_,rfl,_,rfl,l,_,_,1+j,rfl,rfl,Zt,by rw[ej];exact WA (by rw[a9];omega),rfl,?_⟩;refine⟨_,_,_,_,rfl,(d5.updN nl).updN nl,?_,ZjV O3 (by omega) n9 (by omega) hj,?_⟩
   ·have:=(T5.put (o:=.lst ((os.map nV).set (1+i) (nV (os.getD (1+j) 0)))) np.1 np.2).put (o:=.lst (((os.map nV).set (1+i) (nV (os.getD (1+j) 0))).set (1+j) (nV (os.getD (1+i) 0)))) np.1 np.2
    rw[show b+(i+1)=b+i+1 by omega];exact this
   ·rw[Zt,kD,kD]
  ·rintro m5 H3 ⟨v,w,u,os,rfl,d3,T3,O,hL⟩
   have Gx:=GT.tk T0 d3 G0;clear u1 u2 u3 Y;obtain⟨gs,u1,u2,_⟩:=id Gx;have Y:(gs.map V.ref).length=t.length:=by rw[Za,u2]
   refine⟨_,rfl,g,_,rfl,.inr (.of u1),_,rfl,by rw[Y];omega,by rw[Y];omega,?_⟩;rw[Y,Zj];refine Ju (W5 0 t.length) [some (.ref l)] rfl (ZmO os) (by rw[Za,Yl];omega) (fun j x J hx s' R' gg=>?_) (fun D w8 nD s3 hD=>?_)
   ·obtain⟨a,ha,rfl⟩:∃a,a<t.length/\x=.int (a:Nat):=⟨j,VU hx⟩
    obtain⟨pl,pv⟩:=Wd O ha;have o5:=s' _ _ hL;have eo:os.map nV=(os.map fun k:Nat=>((k:Nat):Int)).map V.int:=by rw[aP];rfl
    refine⟨_,rfl,.inl ⟨rfl,_,.of o5⟩,_,rfl,?_⟩;refine⟨l,(os.map fun k:Nat=>((k:Nat):Int)).map V.int,(os.map fun k:Nat=>((k:Nat):Int)).map be,.int (a:Nat),.int (a:Nat),pos os a,rfl,rfl,by rw[<-eo];exact o5,W3.ints _,.int _,J8 _,rfl,by simp[fX],by rw[Za,Za,O.len];exact pl,fun d M=>?_,fun m d hm M=>?_,?_⟩
    ·have ho:=Y5 (o:=os) (i:=pos os a) (by rw[O.len];exact pl)
     rw[Zc,Zc,ho,pv] at M;cases M;rw[Zfb];exact decide_eq_true rfl
    ·have o6:m<os.length:=by rw[O.len];omega
     have ho:=Y5 (o:=os) o6;rw[Zc,Zc,ho] at M;cases M;rw[Zfb];refine decide_eq_false fun z=>?_;have o7:=List.not_of_lt_findIdx (p:=(· == a)) (xs:=os) hm;have m6:os[m]=os.getD m 0:=by
      rw[Zf o6] at ho;exact aA ho
     rw[m6,beq_eq_false_iff_ne] at o7;have z:((os.getD m 0:Nat):Int)=((a:Nat):Int):=z;exact o7 (by omega)
    ·have:=gg J (Zv.refl _)
     show R' (.int (pos os a:Nat)) J;have e:ZmO os (.int (a:Nat))=V.int (pos os a:Nat):=by
      show V.int (pos os (a:Int).toNat:Nat)=_;rw[Zj]
     rw[e] at this;exact this
   ·have eD:((YZ 0 t.length).map V.int).map (ZmO os)=(ac t.length).map fun a=>nV (pos os a):=by
     rw[Zl3,aP];refine aX fun a _=>?_;show V.int (pos os (a:Int).toNat:Nat)=_;rw[Zj];rfl
    rw[eD] at hD;have m8:=s3 _ _ hL;have G3:=Gx.mono s3;refine⟨_,rfl,l,rfl,⟨_,.of m8⟩,?_⟩;refine Wg (W:=Addr) id (fun i w H3=>Tz H3 w ((os.map fun b=>pos os (ZT t (os.getD i 0) b)).map nV)) (fun _ _=>True) (YV (K:=K) (.of m8)) [some (.ref l),some (.ref D),some (.ref g)] rfl (by rw[Za,O.len];omega) (fun i w H3 J s h=>h.mono s) (fun w H3 J s h=>trivial) (fun i w H0 H1 D o ys w9 h h0 h1 h2=>Tz.updL h h2) (fun i y hy H4 s4 R kR=>?_) (fun D2 ws H4 x9 s4 r8 wl hw _=>?_)
    ·obtain⟨a,ha,rfl⟩:=XC hy
     have o8:a<t.length:=O.lt a (aE ha);have hd:os.getD i 0=a:=by rw[Zb,ha];rfl
     have o9:=s4 _ _ m8;refine⟨_,rfl,l,rfl,⟨_,.of o9⟩,?_⟩;refine Ju (YV (K:=K) (.of o9)) [some (.ref D),some (.ref g),some (.int (a:Nat))] rfl (ZiE t os a) (by rw[Za,O.len];omega) (fun j x J hx s' R' gg=>?_) (fun D5 H5 y4 s5 p3=>?_)
     ·obtain⟨b,hb,rfl⟩:=XC hx
      have p4:b<t.length:=O.lt b (aE hb);obtain⟨q1,q2,q3,_,q4,q5,q6⟩:=(G3.mono (s4.trans s')).at Pt o8;have t5:=Pt.lt a b o8 p4;have t6:=(s4.trans s') _ _ hD;have t7:((ac t.length).map fun a=>nV (pos os a))[ZT t a b]?=some (nV (pos os (ZT t a b))):=by rw[Zc,ao t5];rfl
      refine⟨_,rfl,_,rfl,_,rfl,g,_,_,_,rfl,rfl,.of q3,q4,_,rfl,q2,_,_,_,rfl,rfl,q5.sq,q6 b p4,D,_,_,_,rfl,rfl,.of t6,ZK t7,?_⟩;have:=gg J (Zv.refl _);have e:ZiE t os a (.int (b:Nat))=V.int (pos os (ZT t a b):Nat):=by
       show V.int (pos os (ZT t a (b:Int).toNat):Nat)=_;rw[Zj]
      rw[e] at this;exact this
     ·rw[ZiD] at p3
      refine⟨D5,_,rfl,.of p3,fun tr H6 nt s6 hz=>?_⟩;exact kR tr H6 (s5.trans s6) (by rw[hd];exact hz) trivial
    ·rw[Za] at wl
     have R:Zi1 H4 D2 ws (fun i=>os.map fun b=>pos os (ZT t (os.getD i 0) b)):=⟨r8,fun i r hr=>(hw i r hr).1⟩;refine⟨D2,_,rfl,.inl ⟨.of R.1,fun gg n6=>?_⟩⟩;have GG:=ZoP R wl (Zv.upd n6) Zt;have er:((ac os.length).map fun i=>os.map fun b=>pos os (ZT t (os.getD i 0) b))=ren t os:=by
      unfold ren;refine bq fun i=>?_;rw[Zc,Zc];by_cases hi:i<os.length
      ·rw[ao hi,Y5 hi]
       rfl
      ·rw[ak (by rw[Zg];omega),ak (by omega)]
       rfl
     rw[er] at GG;exact k gg os _ (d3.trans (Tk.of ((s3.trans s4).trans (Zv.upd n6)))) ((T3.mono ((s3.trans s4).trans (Zv.upd n6))).le (by omega)) O GG
end
theorem LsC.tk {H J:Hp}{p q L:Addr}{b:Nat}{bs:List Addr}{j:List (List Nat)}(T:Wi H p q b)(d:Tk p H J)(h:LsC H L bs j):LsC J L bs j:=⟨d.lst T h.1,h.2.1,fun i b hb=>⟨(h.2.2 i b hb).1,d.lst T (h.2.2 i b hb).2⟩⟩
theorem Zdd.tk {H M:Hp}{p q r:Addr}{b:Nat}{yss:List (List (List Int))}(T:Wi H p q b)(d:Tk p H M)(h:Zdd H r yss):Zdd M r yss:=by
 obtain⟨O,Y,h2,h3⟩:=h;refine⟨O,d.tup T Y,h2,fun i c hc=>?_⟩;obtain⟨ys,a,⟨ds,e1,e2,e3⟩⟩:=h3 i c hc;refine⟨ys,a,ds,d.tup T e1,e2,fun j c' J=>?_⟩;obtain⟨y,f1,f2⟩:=e3 j c' J;exact⟨y,f1,d.tup T f2⟩
theorem Tk.dct {H J:Hp}{p q D:Addr}{b N:Nat}{j:List (YE×V)}{f:Nat->Nat}(T:Wi H p q b)(d:Tk p H J)(h:H D=some (.dK j))(M:0<N)(O:∀a:Nat,a<N->YT j (.inl (a:Int))=some (.int (f a:Nat))):J D=some (.dK j):=d D _ h fun z=>by
 obtain⟨ns,a,l,e,_⟩:=T;rw[z,e] at h;have Y:=HO.dK.inj (aA h);have:=O 0 M;rw[<-Y] at this;cases this
theorem Zdd.mono' {H j:Hp}{r:Addr}{yss:List (List (List Int))}(h:Zdd H r yss)(s:Zv H j):Zdd j r yss:=by
 obtain⟨q,J,M,O⟩:=h;exact⟨q,s _ _ J,M,fun i c Y=>let ⟨ys,a,b⟩:=O i c Y;⟨ys,a,b.mono s⟩⟩
theorem Zkj {t:List (List Nat)}{os:List Nat}(h:MkC t)(O:Ord t.length os):∃(n p m:Nat) (e q J:Nat->Nat->Nat) (z:Nat) (dg:Nat->Nat),m<=10/\TD (ren t os) n p m e q J z dg/\FxC (ren t os) n m (Xv (ren t os) n p e z dg):=by
 obtain⟨n,p,m,e,q,J,z,dg,j,D,F⟩:=Zmx h;exact⟨_,_,_,_,_,_,_,_,j,D.ren (Vl h) O,ZmM (Vl h) O F⟩
noncomputable def V7 (n:Nat):List Nat:=((ac n).map (· + 1)).filter fun k=>decide (eX k n=1)
theorem Zjh {n k:Nat}(h:k∈V7 n):1<=k/\k<=n/\eX k n=1:=by
 obtain⟨j,q⟩:=eR.mp h;obtain⟨i,hi,rfl⟩:=aN.mp j;have:=ag.mp hi;exact⟨by omega,by omega,of_decide_eq_true q⟩
theorem Zji {n:Nat}(j:1<=n):1<=(V7 n).length/\(V7 n).length<=n:=by
 constructor
 ·refine fh (a:=1) (eR.mpr ⟨aN.mpr ⟨0,ag.mpr j,rfl⟩,decide_eq_true (Nat.gcd_one_left n)⟩)
 ·have:=lq (fun k=>decide (eX k n=1)) ((ac n).map (· + 1))
  rw[Za,Zg] at this;exact this
noncomputable def wyP (n:Nat):V->Bool
 | .int z=>decide (eX z.toNat n=1)
 |_=>false
theorem Znt (n:Nat):(((YZ 1 n).map V.int).filter (wyP n)).map id=(V7 n).map nV:=by
 unfold V7 YZ;rw[List.map_id,aP,List.filter_map,List.filter_map,aP];have e:((V.int ∘ fun i:Nat=>(1:Int)+(i:Int)))=nV ∘ fun x=>x+1:=funext fun i=>by
  show V.int (1+(i:Int))=V.int ((i+1:Nat):Int);congr 1;omega
 rw[e];congr 1
theorem ZgH {n k a b:Nat}(q:eX k n=1)(J:a<b)(hb:b<n):a*k % n≠b*k % n:=fun h=>by
 have j:(b*k-a*k) % n=0:=Nat.sub_mod_eq_zero_of_mod_eq h.symm;rw[<-Nat.sub_mul] at j;have M:n ∣ (b-a)*k:=a7 j;have O:n ∣ b-a:=Nat.Coprime.dvd_of_dvd_mul_right (show Nat.Coprime n k by rw[Nat.coprime_comm];exact q) M;have:=fO (by omega) O;omega
inductive Zcf (K:aa) (vs:List V) (H:Hp) (Q:VK) (E03:XK):Prop
 |mk (a:Addr) (ns:List Int):(vs=[.ref a])->(W2 K H a (ns.map V.int))->(ns.length<=63)->(∀H',Q (.bl true) H')->Zcf K vs H Q E03
section
variable {P:Program}{w:World}{K:aa}{mg:Str->Option Value}{base:Heap}
theorem Zmr {f:Addr}{fd:FuncData}(F:WI K "law" "law" ZlZ f fd)(T:Bl mg)(GFe:Fn P w K mg base Ym 1 "_law_feed" ["_law_script"] (ZdC K))(GD:Fn P w K mg base Ym 1 "_law_draw" ["_law_feed_here", "_law_many"] Ui)(GG:Fn P w K mg base Ym 2 "_law_group" ["_law_feed_here", "_law_most"] Uh)(GR:Fn P w K mg base Ym 2 "_law_renamed" ["_law_feed_here", "_law_group_here"] Zdw)
  (GC:Fn P w K mg base Ym 1 "_law_classes" ["_law_group_here"] ZdD) (GRo:Fn P w K mg base Ym 1 "_law_round" ["_law_group_here"] Uf) (GTa:Fn P w K mg base Ym 7 "table_of" ["group"] ZaS) (GA:Fn P w K mg base Ym 1 "_law_alone" ["_law_k", "_law_n"] Zg2) (GW:Fn P w K mg base Ym 1 "_law_wide" ["_law_n", "_law_number"] Zdv) (GN:Fn P w K mg base Ym 1 "_law_is_nought" ["_law_n", "_law_row"] Za0) (GS:Fn P w K mg base Ym 1 "_law_sum" ["_law_one", "_law_other", "_law_often"] ZaT)
  (GRr:Fn P w K mg base Ym 3 "_law_roots_right" ["_law_n", "_law_group_here", "_law_thing", "_law_met", "_law_row"] ZgY):Ya P w K mg base Ym 8 f fd ["_law_script"] (Zcf K):=by
 refine F.ok (FS (N:=["_law_script", "_law_feed_here", "_law_group_here", "_law_classes_here", "_law_met", "_law_n", "_law_table", "_law_ways", "_law_k", "_law_spot", "_law_line", "_law_row", "_law_one", "_law_here", "_law_turn", "_law_due", "_law_j"])) (fun vs H Q E h=>?_) (fun cdv A outer s H vs Q E hr h=>?_)
 ·obtain⟨a,ns,rfl,_⟩:=h;rfl
 ·obtain⟨a,ns,rfl,hS,hl,q⟩:=h
  have hu:(A.deeper (envOfC "law" (ZZ ZlZ) s.heap.objs.size f cdv)).units+1<cLine:=by have:=hr.un;omega
  refine⟨_,Zs (ZE 1 rfl (Wr GFe hr ZL (pc (vn 0) Zu)))
   (Zs (ZE 2 rfl (Wr GR hr ZL (pc (vn 1) (pc (Wr GG hr ZL (pc (vn 1) (pc (ZF (Ji K) (ZQ (pc Zx (pc Zx (pc Zx Zu)))) (Wr GD hr ZL (pc (vn 1) (pc Zx Zu))) (fun _ _=>rfl)) Zu))) Zu))))
   (Zs (Jf (Wr GC hr ZL (pc (vn 2) Zu)) (g2 K 3 4 rfl (gn 3) (gn 4)))
   (Zs (ZE 5 rfl (Wr GRo hr ZL (pc (vn 2) Zu)))
   (Zs (ZE 6 rfl (Wr GTa hr ZL (pc (vn 2) Zu)))
   (Zs (ZfC 7 ["_law_k"] [5] ["_law_k", "_law_n"] rfl rfl (Zhn T.range (pc Zx (pc (Zy Yr (vn 5) Zx) Zu))) (fun _ _ _ _ _=>gn 0) (fun _ _ _ _ _=>ZjK (XA (Wr GA hr ZL (pc (vn 0) (pc (vn 1) Zu))))) (fun _ _ _ _ _=>vn 0))
   (Zs (ZE 8 rfl (ZF (Ji K) (vn 7) (Wr GD hr ZL (pc (vn 1) (pc (cb (Yx K) T.len (pc (vn 7) Zu)) Zu))) (fun _ _=>rfl)))
   (Zs (ZE 9 rfl (Wr GD hr ZL (pc (vn 1) (pc (cb (Yx K) T.len (pc (vn 3) Zu)) Zu))))
   (Zs (ZM am rfl (itT K (vn 6)) (gn 10)
   (Zs (ZfC 11 ["_law_number"] [5] ["_law_number", "_law_n"] rfl rfl (itT K (vn 10)) (fun _ _ _ _ _=>gn 0) (fun _ _ _ _ _=>Z0) (fun _ _ _ _ _=>Wr GW hr ZL (pc (vn 1) (pc (vn 0) Zu))))
   (Zs (ZM am rfl (itL K (vn 3)) (gn 12)
   (Zs (ZE 13 rfl Zx)
   (Zs (ZM am rfl (JA T.range (pc (vn 8) Zu)) (gn 14)
   (Zw (ZE 13 rfl (ZF (Xt K) (ZF (Xt K) (vn 2) (vn 13) (fun _ _=>rfl)) (ZF (Ji K) (vn 12) Zx (fun _ _=>rfl)) (fun _ _=>rfl)))))
   (Zs (ZE 15 rfl (Zy WD (ZQ (pc Zx Zu)) (vn 5)))
   (Zs (ZM am rfl (JA T.range (pc (vn 5) Zu)) (gn 16)
   (Zw (Jf (ZF (Ji K) (ZF (Ji K) (vn 11) (WK hu (vn 4) (ZF (Ji K) (vn 12) Zx (fun _ _=>rfl)) (fun _ _=>rfl)) (fun _ _=>rfl)) (vn 16) (fun _ _=>rfl)) (JC (vn 15) (Zy ZV (Zy ZN (vn 16) (vn 8)) (vn 5)) YB))))
   (Zw (WF (ZhF (XA (Wr GN hr ZL (pc (vn 5) (pc (Wr GS hr ZL (pc (ZF (Ji K) (vn 11) (WK hu (vn 4) (vn 13) (fun _ _=>rfl)) (fun _ _=>rfl)) (pc (vn 15) (pc (X1 Jy Zx) Zu)))) Zu))))) (Zw (ZJ ZcA)) Yy)))))))
   (Zw (WF (ZhF (XA (Wr GRr hr ZL (pc (vn 5) (pc (vn 2) (pc (ZF (Ji K) (ZF (Ji K) (vn 3) (vn 9) (fun _ _=>rfl)) Zx (fun _ _=>rfl)) (pc (vn 4) (pc (vn 11) Zu)))))))) (Zw (ZJ ZcA)) Yy)))))
   (Zw (ZJ ZcA)))))))))),?_⟩
  have sz:(16777216:Nat)=sizeLine:=by decide
  refine⟨_,rfl,a,ns,rfl,hS,fun p q' H1 s1 np T1=>?_⟩;refine⟨_,rfl,_,rfl,(by show 3<=sizeLine;decide),fun l nl=>?_⟩;have s3:=Zv.upd (H:=H1) (o:=.lst [.int 14,.int 21,.int 31]) nl;have hl3:=Zt (H:=H1) (a:=l) (o:=.lst [.int 14,.int 21,.int 31]);have T3:=T1.mono s3;generalize upd H1 l (.lst [.int 14,.int 21,.int 31])=H3 at s3 hl3 T3 ⊢;refine⟨_,rfl,p,q',_,_,rfl,T3,by omega,by decide,by decide,fun r H4 r0 r1 k4 T4=>?_⟩;have hl4:=k4.lst T3 hl3;obtain⟨ms,hm,m1,m31⟩:∃ms:Nat,Vd [V.int 14,.int 21,.int 31] r=some (.int (ms:Nat))/\1<=ms/\ms<=31:=by
   have:r=0\/r=1\/r=2:=by omega
   rcases this with rfl|rfl|rfl
   ·exact⟨14,rfl,by decide,by decide⟩
   ·exact⟨21,rfl,by decide,by decide⟩
   ·exact⟨31,rfl,by decide,by decide⟩
  refine⟨l,_,_,_,rfl,rfl,.of hl4,hm,p,q',_,ms,rfl,T4,by omega,m1,m31,fun g0 t0 H5 k5 T5 G5 mk=>?_⟩;refine⟨p,q',g0,_,t0,rfl,T5,by omega,G5,Vl mk,fun g os H6 k6 T6 O6 G6=>?_⟩;have Pt:=JB (Vl mk) O6;obtain⟨n,pp,m,e,ω,φ,z,dg,m10,D,Fx⟩:=Zkj mk O6;generalize ren t0 os=t at G6 Pt D Fx;have N1:=Pt.n1;have N60:=Pt.n60;have n1:=D.n1;have n60:=D.n60;have mc:=D.cd.mc;have u5:=D.cd.m1;have Gd:=(N51.ZaA n1 n60).1;have U:=Y8 Pt;rw[<-mc] at U;have Zbg:ZO t 0=0:=(U.z _ (U.rl 0 u5)).mp (U.rn 0 u5);refine⟨_,rfl,g,t,rfl,G6,Pt,fun c1 L1 D1 o7 kv1 H8 s8 h8 R8 hD8 q0=>?_⟩;refine⟨c1,_,rfl,.of h8,rfl,_,_,rfl,_,_,rfl,rfl,?_⟩;have rds:∀a,a<t.length->Rd t a (Jd t a):=fun a ha=>by
   obtain⟨r,R⟩:=Pt.rd a ha;rw[Us R];exact R
  refine⟨_,rfl,g,t,Jd t,rfl,G6.mono s8,Pt,rds,fun J H9 s9 L9=>?_⟩;have en:J=n:=D.round rds L9;subst en;have u9:=s8.trans s9;refine⟨_,rfl,g,t,J,pp,m,e,ω,φ,z,dg,rfl,G6.mono u9,Pt,D,fun r1 xss H10 r6 A10 t6 hs10=>?_⟩;have T10:=T6.mono (u9.trans r6);refine⟨_,rfl,_,_,rfl,rfl,_,_,rfl,⟨by omega,by omega,by omega,by omega⟩,?_⟩;rw[show ((J:Int)+1-1).toNat=J by omega];refine Zgj (W5 1 J) [some (.int J)] rfl (wyP J) id (by rw[Za,Yl];omega) (fun i x H' hx s' R R' g1 g0=>?_) (fun L7 H11 nL7 p3 r8=>?_)
  ·obtain⟨hi,rfl⟩:=Um hx
   have e1:(1:Int)+(i:Int)=((i+1:Nat):Int):=by omega
   rw[e1] at g1 g0 ⊢;refine⟨_,rfl,_,rfl,i+1,J,rfl,_,rfl,?_⟩;refine YG (fun h0=>?_) (fun h0=>?_)
   ·exact⟨_,rfl,g1 h0 H' (Zv.refl _)⟩
   ·exact g0 (gC.mpr h0) H' (Zv.refl _)
  rw[Znt] at r8;have o8:=T10.mono p3;have wl:=Zji n1;have wll:((V7 J).map nV).length=(V7 J).length:=eV ..;refine⟨_,rfl,_,rfl,_,rfl,L7,_,rfl,.inl (.of r8),?_⟩;rw[wll];refine⟨p,q',_,_,rfl,o8,by omega,by omega,by omega,fun r2 H12 r20 r21 w8 T12=>?_⟩;obtain⟨w0,rfl⟩:=bY r20;have hw0:w0<(V7 J).length:=by omega
  have ew:(V7 J)[w0]?=some ((V7 J).getD w0 0):=by rw[Zb,Zf hw0];rfl
  obtain⟨k1,kn,kg⟩:=Zjh (aE ew);generalize (V7 J).getD w0 0=k at ew k1 kn kg;refine⟨L7,_,_,_,rfl,rfl,.of (w8.lst o8 r8),ZK (by rw[Zc,ew];rfl),?_⟩;have R11:=R8.mono ((s9.trans r6).trans p3);have w9:=LsC.tk o8 w8 R11;have b1l:(o7.map V.ref).length=m:=by rw[Za,R8.2.1,<-mc]
  refine⟨_,rfl,_,rfl,L1,_,rfl,.inl (.of w9.1),?_⟩;rw[b1l];refine⟨p,q',_,_,rfl,T12,by omega,by omega,by omega,fun r3 H13 r30 r31 k13 T13=>?_⟩;obtain⟨sp,rfl⟩:=bY r30;have hsp:sp<m:=by omega
  have x9:=w8.trans k13;have s611:=(u9.trans r6).trans p3;have G13:=GT.tk o8 x9 (G6.mono s611);have R13:=LsC.tk T12 k13 w9;have A13:=Zdd.tk o8 x9 (A10.mono' p3);have hD13:=Tk.dct (N:=t.length) (f:=Y6 t) o8 x9 (((s9.trans r6).trans p3) _ _ hD8) N1 q0;clear A10 R8 R11 w9 hl4 r8;obtain⟨cs,c1',c2',c3'⟩:=A13;refine⟨_,rfl,r1,rfl,⟨_,.of c1'⟩,?_⟩;have xl:xss.length=m:=by rw[t6.length_eq,Za,Zg]
  refine WL (Wq (K:=K) (.of c1')) (fun i O H'=>∃y4 y6 o0 o5 Y n9 m5:Option V,O=[some (.ref a),some (.ref p),some (.ref g),some (.ref L1),some (.ref D1),some (.int J),some (.ref r1),some (.ref L7),some (.int k),some (.int sp),y4,y6,o0,o5,Y,n9,m5]/\Zv H13 H')
   ⟨_,_,_,_,_,_,_,rfl,Zv.refl _⟩ (fun i O H' h=>by obtain⟨_,_,_,_,_,_,_,_,sm⟩:=h;exact sm) ?_ ?_
  ·rintro i y O H14 hy ⟨y4,y6,o0,o5,Y,n9,m5,rfl,y8⟩
   obtain⟨c,hc,rfl⟩:∃c,cs[i]?=some c/\y=.ref c:=by
    rw[Zc] at hy;cases e:cs[i]? with
    |none=>rw[e] at hy;cases hy
    |some r=>rw[e] at hy;exact⟨r,rfl,(aA hy).symm⟩
   obtain⟨ys,hys,RT⟩:=c3' i c hc;obtain⟨sn,p4,rfl⟩:=aN.mp (t6.mem_iff.mp (aE hys));have p4:=ag.mp p4;obtain⟨ds,d1,d2,d3⟩:=RT.mono y8;have hX:∀y,y<t.length->Y6 t y<m/\Xv t J pp e z dg sn (ZO t (Y6 t y))=Xv t J pp e z dg sn y:=fun y hy=>ZlI Pt D p4 hy;have y9:ds.length=m:=by rw[d2];unfold JN;rw[Za,Zg]
   refine⟨_,rfl,c,rfl,⟨_,.of d1⟩,?_⟩;refine Wg (W:=Addr) id (fun j w H=>H w=some (.lst (ZC J (Num.co (Xv t J pp e z dg sn (ZO t j)))))) (fun w H=>H w=none) (Wq (K:=K) (.of d1)) [some (.int J)] rfl (by rw[Za,y9];omega) (fun i w H H' s h=>s _ _ h) (fun w H H' s h=>s.free h) (fun i w H0 H1 D o ys ys' h h0 h1 h2=>by rw[Zz (fun z=>by rw[z,h1] at h0;cases h0)];exact h) (fun j y hy H' s' R' kk=>?_) (fun o6 ws H15 nL11 s15 h15 wl15 hw15 _=>?_)
   ·obtain⟨c',hc',rfl⟩:∃c',ds[j]?=some c'/\y=.ref c':=by
     rw[Zc] at hy;cases e:ds[j]? with
     |none=>rw[e] at hy;cases hy
     |some r=>rw[e] at hy;exact⟨r,rfl,(aA hy).symm⟩
    have hj:j<m:=by rw[<-y9];exact (ae.mp hc').1
    obtain⟨y',e1,e2⟩:=d3 j c' hc';unfold JN at e1;rw[Zc,ao hj] at e1;cases e1;exact⟨_,rfl,_,rfl,J,c',_,rfl,s' _ _ e2,by rw[V6];exact Gd.tn,n60,fun l H5 nl s5 h5=>kk l H5 s5 h5 nl⟩
   have RW:RwC H15 o6 J m (fun c=>Xv t J pp e z dg sn (ZO t c)):=⟨ws,h15,by rw[wl15,Za,y9],fun c r hc=>(hw15 c r hc).1⟩;have n8:=y8.trans s15;have p6:=R13.mono n8;have G15:=G13.mono n8;have p7:=n8 _ _ hD13;refine⟨_,rfl,L1,rfl,⟨_,.of p6.1⟩,?_⟩;refine WL (YV (K:=K) (.of p6.1)) (fun i O H'=>∃o0 o5 Y n9 m5:Option V,O=[some (.ref a),some (.ref p),some (.ref g),some (.ref L1),some (.ref D1),some (.int J),some (.ref r1),some (.ref L7),some (.int k),some (.int sp),some (.ref c),some (.ref o6),o0,o5,Y,n9,m5]/\Zv H15 H')
    ⟨_,_,_,_,_,rfl,Zv.refl _⟩ (fun i O H' h=>by obtain⟨_,_,_,_,_,_,sm⟩:=h;exact sm) ?_ ?_
   ·rintro ci y O H16 hy ⟨o0,o5,Y,n9,m5,rfl,m6⟩
    obtain⟨b,hb,rfl⟩:∃b,o7[ci]?=some b/\y=.ref b:=by
     rw[Zc] at hy;cases e:o7[ci]? with
     |none=>rw[e] at hy;cases hy
     |some r=>rw[e] at hy;exact⟨r,rfl,(aA hy).symm⟩
    have hci:ci<m:=by rw[<-b1l,Za];exact (ae.mp hb).1
    have hci':ci<(ZD t t.length).length:=by rw[<-mc];exact hci
    obtain⟨e1,e2⟩:=ZbT Pt hci';have m8:ZO t ci<t.length:=U.rl ci hci;have b0:(((ZD t t.length).getD ci []).map nV)[0]?=some (nV (ZO t ci)):=by
     rw[Zc,Y5 (fh e1)];rfl
    have t7:H16 b=some (.lst (((ZD t t.length).getD ci []).map nV)):=m6 _ _ (p6.2.2 ci b hb).2;have cno0:Y6 t (ZO t ci)=ci:=U.rn ci hci;generalize ZO t ci=x0 at m8 b0 cno0;refine⟨_,rfl,k,rfl,by omega,by omega,?_⟩;rw[Zj];refine Z8 (fun j O H'=>∃Y:Option V,O=[some (.ref a),some (.ref p),some (.ref g),some (.ref L1),some (.ref D1),some (.int J),some (.ref r1),some (.ref L7),some (.int k),some (.int sp),some (.ref c),some (.ref o6),some (.ref b),some (.int (it t x0 j:Nat)),Y,n9,m5]/\H'=H16)
     ⟨_,rfl,rfl⟩ ?_ ?_
    ·rintro j O H' hj ⟨Y,rfl,rfl⟩
     obtain⟨rs',r2',g1',_,g2',g3,g4⟩:=(G15.mono m6).at Pt (YW Pt m8 j);exact⟨_,rfl,_,rfl,g,_,_,_,rfl,rfl,.of g1',g2',_,rfl,b,_,_,_,rfl,rfl,.of t7,ZK (j:=0) b0,r2',_,_,_,rfl,rfl,g3.sq,g4 x0 m8,_,rfl,rfl⟩
    rintro O H' ⟨Y,rfl,rfl⟩;refine⟨(by show 1<=sizeLine;decide),fun l1 nl1=>?_⟩;have p8:=Zv.upd (H:=H') (o:=.lst [.int 0]) nl1;have h17:=Zt (H:=H') (a:=l1) (o:=.lst [.int 0]);generalize upd H' l1 (.lst [.int 0])=t5 at p8 h17 ⊢;refine⟨_,rfl,l1,_,_,rfl,rfl,h17,by omega,by omega,(by show 1*_<=_;omega),fun l2 nl2=>?_⟩;rw[Zj,WR];have s18:=Zv.upd (H:=t5) (o:=.lst (ZC J fun _=>0)) nl2;have h18:=Zt (H:=t5) (a:=l2) (o:=.lst (ZC J fun _=>0));have nl2':H' l2=none:=p8.free nl2;generalize upd t5 l2 (.lst (ZC J fun _=>0))=H18 at s18 h18 ⊢;refine⟨_,rfl,J,rfl,by omega,by omega,?_⟩;rw[Zj];refine Z8 (fun j O H3=>∃(cu:Nat->Int) (m5:Option V),O=[some (.ref a),some (.ref p),some (.ref g),some (.ref L1),some (.ref D1),some (.int J),some (.ref r1),some (.ref L7),some (.int k),some (.int sp),some (.ref c),some (.ref o6),some (.ref b),some (.int (it t x0 k:Nat)),Y,some (.ref l2),m5]/\Zv H' H3/\H3 l2=some (.lst (ZC J cu))/\(∀z',Num.me J (N51.RN J) cu z'=Num.ZG j fun i=>Num.co (Xv t J pp e z dg sn x0) i*Num.rh J (N51.RN J) (i*k) z')/\∀q,q<J->(∀i,i<j->i*k % J≠q)->cu q=0)
     ⟨_,_,rfl,p8.trans s18,h18,fun z'=>Num.Zbu z',fun _ _ _=>rfl⟩ ?_ ?_
    ·rintro j O H19 hj ⟨cu,m5,rfl,o9,h19,hcu,hz⟩
     rw[show (0:Int)+(j:Int)=(j:Int) by omega];have n6:=m6.trans o9;obtain⟨hcn,hXe⟩:=hX x0 m8;obtain⟨xs9,r9,q1,q2,q3⟩:=(RW.mono n6).at hcn;rw[hXe] at q3;have hg:=Jk.k (k:=.inl ((x0:Nat):Int)) (n6 _ _ p7);rw[q0 _ m8] at hg;have hq:j*k % J<J:=ba _ n1;have eM:(j:Int)*(k:Int) % (J:Int)=((j*k % J:Nat):Int):=by rw[<-aF];rfl
     refine⟨_,rfl,_,rfl,_,rfl,b,_,_,_,rfl,rfl,.of (o9 _ _ t7),ZK (j:=0) b0,D1,_,rfl,hg,o6,_,_,_,rfl,rfl,.of q1,q2,_,rfl,r9,_,_,_,rfl,rfl,.of q3,ZK (Yc _ hj),_,rfl,_,rfl,_,rfl,_,_,rfl,rfl,.inl ⟨by omega,by omega⟩,_,rfl,_,_,rfl,rfl,(by show (0:Int)<J;omega),l2,_,_,j*k % J,rfl,rfl,h19,by rw[ZR,eM];exact WA hq,?_⟩;rw[VQ _ _ hq];refine⟨_,_,rfl,o9.updr nl2',Zt,fun z'=>?_,fun q hqn hne=>?_⟩
     ·rw[Num.ZdX _ _ hq,hcu,hz (j*k % J) hq (fun i hi=>ZgH kg hi hj),Num.Ys,io,Num.ZeC]
     ·rw[if_neg (fun z'=>hne j (by omega) z'.symm)]
      exact hz q hqn fun i hi=>hne i (by omega)
    ·rintro O H19 ⟨cu,m5,rfl,o9,h19,hcu,hz⟩
     have n6:=m6.trans o9;have il:=YW Pt m8 k;obtain⟨hcn,hXe⟩:=hX _ il;obtain⟨xs9,r9,q1,q2,q3⟩:=(RW.mono n6).at hcn;rw[hXe] at q3;have hg:=Jk.k (k:=.inl ((it t x0 k:Nat):Int)) (n6 _ _ p7);rw[q0 _ il] at hg;refine⟨_,rfl,_,rfl,_,rfl,_,rfl,D1,_,rfl,hg,o6,_,_,_,rfl,rfl,.of q1,q2,_,rfl,_,rfl,J,r9,l2,-1,_,_,rfl,n60,q3,h19,by decide,by decide,fun l3 H20 s20 h20=>?_⟩;refine⟨J,l3,_,rfl,n1,n60,h20,fun bb H21 s21 hbb=>?_⟩;have bt:bb=true:=hbb.mpr fun j hj=>by
      rw[Num.Zid,Num.Zkk Gd (by rw[V6];exact Zq _) hj,hcu,Fx.pw sn x0 k p4 m8 k1 kn kg j hj];omega
     subst bt;refine⟨_,rfl,?_⟩;refine YG (fun h0=>absurd h0 (by decide)) (fun _=>?_);exact⟨_,_,_,_,_,rfl,((m6.trans o9).trans s20).trans s21⟩
   ·rintro O H16 ⟨o0,o5,Y,n9,m5,rfl,m6⟩
    have t9:sp<(ZD t t.length).length:=by rw[<-mc];exact hsp
    obtain⟨e1,e2⟩:=ZbT Pt t9;have m8:ZO t sp<t.length:=U.rl sp hsp;have b0:(((ZD t t.length).getD sp []).map nV)[0]?=some (nV (ZO t sp)):=by
     rw[Zc,Y5 (fh e1)];rfl
    have gb:o7[sp]?=some (o7.getD sp 0):=by rw[Zb,Zf (by rw[R13.2.1];exact t9)];rfl
    obtain⟨M,M1,M2⟩:=Fx.rt sn _ p4 m8;refine⟨_,rfl,_,rfl,_,rfl,_,rfl,L1,_,_,_,rfl,rfl,.of (m6 _ _ p6.1),ZK (by rw[Zc,gb];rfl),o7.getD sp 0,_,_,_,rfl,rfl,.of (m6 _ _ (p6.2.2 sp _ gb).2),ZK (j:=0) b0,_,rfl,_,rfl,J,m,ZO t sp,g,D1,o6,t,kv1,Xv t J pp e z dg sn,M,rfl,n1,n60,G15.mono m6,Pt,m8,Fx.r30 _ m8,m6 _ _ p7,q0,RW.mono m6,u5,Zbg,hX,M1,M2,fun t5 p8=>?_⟩;refine⟨_,rfl,?_⟩;refine YG (fun h0=>absurd h0 (by decide)) (fun _=>?_);exact⟨_,_,_,_,_,_,_,rfl,(n8.trans m6).trans p8⟩
  ·rintro O H14 ⟨y4,y6,o0,o5,Y,n9,m5,rfl,y8⟩
   exact q H14
end
theorem all_mk {l:gD}{w:World}{K:aa}{h:Heap}{mg:Str->Option Value}{fa:Addr}(X:K.In h)(G:h.Ns mainGlobals mg)(hfa:mg "law"=some (.ref fa))
  (d1:ZB K "_law_feed" Zli) (d2:ZB K "_law_draw" Zhk) (d3:ZB K "_law_twisted" Zg9) (d4:ZB K "_law_by_perms" ZnL) (d5:ZB K "_law_times_of" ZdL) (d6:ZB K "_law_group" Zhi) (d7:ZB K "_law_renamed" Zlb) (d8:ZB K "_law_classes" Zcm) (d9:ZB K "_law_round" Zet) (d10:ZB K "round_of" Zhb) (d11:ZB K "full_round" Zlh) (d12:ZB K "fit_prime" ZnJ) (d13:ZB K "root_powers" Zhc) (d14:ZB K "back" Zlj) (d15:ZB K "turned_by" Zes) (d16:ZB K "turnings" Zam) (d17:ZB K "classes_of" Uk) (d18:ZB K "holders" Zlg) (d19:ZB K "class_numbers" Zcl) (d20:ZB K "power_walks" Zg8) (d21:ZB K "counts_of" Zew) (d22:ZB K "less_often" Zle) (d23:ZB K "back_by" Zex) (d24:ZB K "last_part" Zlf) (d25:ZB K "parts_by" Zhd) (d26:ZB K "taken_apart" Zhl) (d27:ZB K "first_of" Zhj) (d28:ZB K "primes_of" N51.Zeu) (d29:ZB K "stretched" N51.ZnH) (d30:ZB K "quotient" N51.ZnI) (d31:ZB K "least_sum" N51.Zhg) (d32:ZB K "number_of" N51.Zhe) (d33:ZB K "number_at" Zhf) (d34:ZB K "table_of" Zha) (d35:ZB K "_law_alone" ZnM) (d36:ZB K "_law_wide" Zk9) (d37:ZB K "_law_is_nought" Zlc) (d38:ZB K "_law_sum" Zla) (d39:ZB K "_law_mul" Zld) (d40:ZB K "_law_whole" ZnG) (d41:ZB K "_law_roots_right" ZlY) (d42:ZB K "law" ZlZ)
  (z1:bv K mainGlobals "list"=some none) (z2:bv K mainGlobals "len"=some none) (z3:bv K mainGlobals "range"=some none) (z4:bv K mainGlobals "tuple"=some none) (z5:bv K mainGlobals "sorted"=some none) (z6:bv K mainGlobals "set"=some none) (z7:bv K mainGlobals "abs"=some none) (z8:bv K mainGlobals "isinstance"=some none) (z9:bv K mainGlobals "all"=some none) (z10:bv K mainGlobals "repr"=some none) (z11:bv K mainGlobals "any"=some none) (z12:bv K mainGlobals "int"=some none) (z13:bv K mainGlobals "bool"=some none) (z14:bv K mainGlobals "enumerate"=some none) (z15:bv K mainGlobals "zip"=some none) (z16:bv K mainGlobals "sum"=some none) (z17:bv K mainGlobals "max"=some none) :
  ∃fd:FuncData,(∀(s:Shared) (v:Value),ja s fd ⟨[v],[]⟩ [("_law_script",v)])/\∀base:Heap,K.In base->base.Ns mainGlobals mg->Ya l.prog w K mg base Ym 8 fa fd ["_law_script"] (Zcf K):=by
 have q:BlB mg:=⟨ay X G z1,ay X G z2,ay X G z3,ay X G z4,ay X G z5⟩;have j:Bl mg:=⟨ay X G z1,ay X G z2,ay X G z7,ay X G z3,ay X G z4,ay X G z8,ay X G z9,ay X G z6,ay X G z10,ay X G z11,ay X G z12,ay X G z13⟩;have J:Zgw mg:=⟨ay X G z5,ay X G z14⟩;have m5:BlT mg:=⟨ay X G z15,ay X G z16⟩;have m8:N51.Bl mg:=⟨ay X G z1,ay X G z2,ay X G z7,ay X G z3,ay X G z4,ay X G z8,ay X G z9,ay X G z6,ay X G z10,ay X G z11,ay X G z12,ay X G z13⟩;have n8:N51.Bl2 mg:=⟨ay X G z14,ay X G z17⟩;refine d42.law X G hfa (fun base f fd nb kb F=>?_) (fun _ _ _ _ _ _ _ _=>.of_eq rfl);have fn:=@ZB.fn l.prog w K mg base h;have t6:=fn d1 X G (fun f fd F=>Zj8 F q) (fun _ _ _ _ _ _=>bd1 fun _=>rfl);have m6:=fn d2 X G (fun f fd F=>Zj9 F q) (fun _ _ _ _ _ _=>bd2 fun _ _=>rfl);have o7:=fn d3 X G (fun f fd F=>ZhT F q) (fun _ _ _ _ _ _=>bd4 fun _ _ _ _=>rfl);have o0:=fn d4 X G (fun f fd F=>Zmt F q) (fun _ _ _ _ _ _=>bd1 fun _=>rfl);have o5:=fn d5 X G (fun f fd F=>ZfP F q) (fun _ _ _ _ _ _=>bd1 fun _=>rfl);have p7:=fn d6 X G (fun f fd F=>ZfS F q m6 o7 o0 o5) (fun _ _ _ _ _ _=>bd2 fun _ _=>rfl);have o8:=fn d7 X G (fun f fd F=>Zj0 F q m6) (fun _ _ _ _ _ _=>bd2 fun _ _=>rfl);have o9:=fn d8 X G (fun f fd F=>Zka F q (ay X G z6)) (fun _ _ _ _ _ _=>bd1 fun _=>rfl);have p8:=fn d9 X G (fun f fd F=>ZfQ F q) (fun _ _ _ _ _ _=>bd1 fun _=>rfl);have y9:=fn d10 X G (fun f fd F=>ZhV F) (fun _ _ _ _ _ _=>bd2 fun _ _=>rfl);have q0:=fn d11 X G (fun f fd F=>Zj7 F j y9) (fun _ _ _ _ _ _=>bd1 fun _=>rfl);have t7:=fn d12 X G (fun f fd F=>Zms F j) (fun _ _ _ _ _ _=>bd2 fun _ _=>rfl);have p3:=fn d13 X G (fun f fd F=>ZhW F j) (fun _ _ _ _ _ _=>bd2 fun _ _=>rfl);have g_back:=fn d14 X G (fun f fd F=>Zkb F) (fun _ _ _ _ _ _=>bd2 fun _ _=>rfl);have t9:=fn d15 X G (fun f fd F=>ZfO F g_back) (fun _ _ _ _ _ _=>bd3 fun _ _ _=>rfl);have g_turnings:=fn d16 X G (fun f fd F=>ZcC F j J t9) (fun _ _ _ _ _ _=>bd2 fun _ _=>rfl);have O:=fn d17 X G (fun f fd F=>ZdU F j g_turnings) (fun _ _ _ _ _ _=>bd1 fun _=>rfl);have g_holders:=fn d18 X G (fun f fd F=>Zj6 F j J) (fun _ _ _ _ _ _=>bd2 fun _ _=>rfl);have Y:=fn d19 X G (fun f fd F=>Zj1 F j O g_holders) (fun _ _ _ _ _ _=>bd1 fun _=>rfl);have p4:=fn d20 X G (fun f fd F=>ZhS F Y O) (fun _ _ _ _ _ _=>bd1 fun _=>rfl);have u5:=fn d21 X G (fun f fd F=>ZfT F j J O Y) (fun _ _ _ _ _ _=>bd1 fun _=>rfl);have r6:=fn d22 X G (fun f fd F=>Zj4 F m5) (fun _ _ _ _ _ _=>bd4 fun _ _ _ _=>rfl);have n9:=fn d23 X G (fun f fd F=>ZfU F) (fun _ _ _ _ _ _=>bd2 fun _ _=>rfl);have u9:=fn d24 X G (fun f fd F=>Zj5 F j r6 n9) (fun _ _ _ _ _ _=>bd3 fun _ _ _=>rfl);have g_parts_by:=fn d25 X G (fun f fd F=>ZhX F j m5 u9) (fun _ _ _ _ _ _=>bd3 fun _ _ _=>rfl);have p6:=fn d26 X G (fun f fd F=>Zh2 F j g_parts_by) (fun _ _ _ _ _ _=>bd2 fun _ _=>rfl);have g_first_of:=fn d27 X G (fun f fd F=>Zh1 F) (fun _ _ _ _ _ _=>bd3 fun _ _ _=>rfl);have w8:=fn d28 X G (fun f fd F=>N51.ZfR F m8) (fun _ _ _ _ _ _=>bd1 fun _=>rfl);have w9:=fn d29 X G (fun f fd F=>N51.Zmo F m8 n8) (fun _ _ _ _ _ _=>bd2 fun _ _=>rfl);have g_quotient:=fn d30 X G (fun f fd F=>N51.Zmq F m8 n8) (fun _ _ _ _ _ _=>bd2 fun _ _=>rfl);have x9:=fn d31 X G (fun f fd F=>N51.Zh0 F w8 w9 g_quotient) (fun _ _ _ _ _ _=>bd1 fun _=>rfl);have y4:=fn d32 X G (fun f fd F=>N51.ZhY F m8 n8 x9) (fun _ _ _ _ _ _=>bd2 fun _ _=>rfl);have y6:=fn d33 X G (fun f fd F=>ZhZ F j J m5 n9 y4) (fun _ _ _ _ _ _=>bd5 fun _ _ _ _ _=>rfl);have g_table_of:=fn d34 X G (fun f fd F=>ZhU F j J q0 t7 p3 p4 u5 p6 n9 g_first_of y6) (fun _ _ _ _ _ _=>bd1 fun _=>rfl);have r8:=fn d35 X G (fun f fd F=>Zmu F) (fun _ _ _ _ _ _=>bd2 fun _ _=>rfl);have y8:=fn d36 X G (fun f fd F=>ZjY F j) (fun _ _ _ _ _ _=>bd2 fun _ _=>rfl);have M:=fn d37 X G (fun f fd F=>Zj2 F j) (fun _ _ _ _ _ _=>bd2 fun _ _=>rfl);have o6:=fn d38 X G (fun f fd F=>ZjZ F m5) (fun _ _ _ _ _ _=>bd3 fun _ _ _=>rfl);have g__law_mul:=fn d39 X G (fun f fd F=>Zj3 F j) (fun _ _ _ _ _ _=>bd3 fun _ _ _=>rfl);have t5:=fn d40 X G (fun f fd F=>Zmn F j M) (fun _ _ _ _ _ _=>bd3 fun _ _ _=>rfl);have n6:=fn d41 X G (fun f fd F=>Zmp F j o6 g__law_mul t5) (fun _ _ _ _ _ _=>bd5 fun _ _ _ _ _=>rfl);exact Zmr F j t6 m6 p7 o8 o9 p8 g_table_of r8 y8 M o6 n6
theorem walk {l:gD}{q:Program}{loose:List Str}{Y:(Str->Option Value)->Heap->Prop}{M:World->Heap->Prop}{d:DefRec}{K:Params->aa}(hn:l.most=some 63)(J:d.params.defaults=[])
  (hY:∀(w:World) (h:Heap),M w h->(K w.params).In h)
  (F:∀(w:World) (j:Str->Option Value) (O:Addr) (h:Heap),(K w.params).In h->h.Ns mainGlobals j->j d.name=some (.ref O)->
   ∃fd:FuncData,(∀(s:Shared) (u:Value),ja s fd ⟨[u],[]⟩ [("_law_script",u)])/\∀base:Heap,(K w.params).In base->base.Ns mainGlobals j->Ya l.prog w (K w.params) j base Ym 8 O fd ["_law_script"] (Zcf (K w.params))) :
  lP q loose Y M l.row.toRowW d [] (fun f vs=>lL f vs):=
 L2.ZaM (n:=63) (k:=8) (x:="_law_script") (CX:=fun _=>Ym) (sp:=fun w=>Zcf (K w.params)) hn (by decide) J ⟨rfl,by decide,by decide,rfl⟩ hY F (fun _ _ a ns hl _ hS=>⟨a,ns,rfl,hS,hl,fun _=>rfl⟩) fun _ _ _ _ _ z=>z
end C51
namespace PySem.W.Fast
theorem tw6302579931178988689:0=0:=rfl
theorem tw3132528982086696633:0=0:=rfl
theorem tw4345274745178718745:0=0:=rfl
theorem tw541373003600644109:0=0:=rfl
theorem tw3318964858879060370:0=0:=rfl
theorem tw867021766141968397:0=0:=rfl
theorem tw5548950344835285269:0=0:=rfl
theorem tw11745857294353937905:0=0:=rfl
theorem tw16625143848243902151:0=0:=rfl
theorem tw13572761564964957055:0=0:=rfl
theorem tw6669325103761699564:0=0:=rfl
theorem tw666347635690218224:0=0:=rfl
theorem tw17325559623456888892:0=0:=rfl
theorem tw13587198402616679693:0=0:=rfl
theorem tw15575868108163931218:0=0:=rfl
theorem tw14868135621706297629:0=0:=rfl
theorem tw8170637249306147040:0=0:=rfl
theorem tw4276669187164348152:0=0:=rfl
theorem tw8680817752605004828:0=0:=rfl
theorem tw4791844883322163328:0=0:=rfl
theorem tw14258893497336254705:0=0:=rfl
theorem tw1176908701846829518:0=0:=rfl
theorem tw9228190460990945763:0=0:=rfl
theorem tw14699355274763353829:0=0:=rfl
theorem tw5572351336966145520:0=0:=rfl
theorem tw7033245647733491047:0=0:=rfl
theorem tw17588826841654601460:0=0:=rfl
theorem tw6873593735467091798:0=0:=rfl
theorem tw11110344005014528458:0=0:=rfl
theorem tw14363693314516228086:0=0:=rfl
theorem tw15130374678133136350:0=0:=rfl
theorem tw11426364400854350353:0=0:=rfl
theorem tw14592334245943952690:0=0:=rfl
theorem tw456620238861388837:0=0:=rfl
theorem tw12342334291850151618:0=0:=rfl
theorem tw17020150304932586158:0=0:=rfl
theorem tw12057241912647288213:0=0:=rfl
theorem tw10342011322677628067:0=0:=rfl
theorem tw14213989962025969907:0=0:=rfl
theorem tw10389750510835577504:0=0:=rfl
theorem tw3758274893865039162:0=0:=rfl
theorem tw12553137034743893452:0=0:=rfl
theorem tw3740110645646283323:0=0:=rfl
theorem tw15417425817663359996:0=0:=rfl
theorem tw313358725044247183:0=0:=rfl
theorem tw15137860262118737250:0=0:=rfl
theorem tw219172804562631453:0=0:=rfl
theorem tw16273977618395781559:0=0:=rfl
theorem tw16253482522491539814:0=0:=rfl
theorem tw2225430592739664536:0=0:=rfl
theorem tw17642236316343353295:0=0:=rfl
theorem tw16639380126477110135:0=0:=rfl
theorem tw12727399761392235291:0=0:=rfl
theorem tw3683516522780490781:0=0:=rfl
theorem tw12243296785142662547:0=0:=rfl
theorem tw9389624891730046787:0=0:=rfl
theorem tw6554891019684315313:0=0:=rfl
theorem tw17535803645645865367:0=0:=rfl
theorem tw8442330319434646405:0=0:=rfl
theorem tw13372702675341181181:0=0:=rfl
theorem tw9712821409754515568:0=0:=rfl
theorem tw14886128262008548625:0=0:=rfl
theorem tw18105246831353663049:0=0:=rfl
theorem tw5136165194016103011:0=0:=rfl
theorem tw12696536215110842162:0=0:=rfl
theorem tw6738532361818656364:0=0:=rfl
theorem tw17706457904395080688:0=0:=rfl
theorem tw17570355399164596918:0=0:=rfl
theorem tw1501182739940285265:0=0:=rfl
theorem tw7177276653186436349:0=0:=rfl
theorem tw16699173830949231066:0=0:=rfl
theorem tw8161416495670456741:0=0:=rfl
theorem tw1822324467561314761:0=0:=rfl
theorem tw3989632445072993590:0=0:=rfl
theorem tw4385087576012378880:0=0:=rfl
theorem tw4125226316444389522:0=0:=rfl
theorem tw1395637194709159055:0=0:=rfl
theorem tw15883356182510106536:0=0:=rfl
theorem tw12512739512758723073:0=0:=rfl
theorem tw1519929746087951671:0=0:=rfl
theorem tw11698357928615437825:0=0:=rfl
theorem tw9441319286643530718:0=0:=rfl
theorem tw16747821101087882671:0=0:=rfl
theorem tw15417721704455844168:0=0:=rfl
theorem tw14979617858412037067:0=0:=rfl
theorem tw7082090870403854507:0=0:=rfl
theorem tw3213321239030636025:0=0:=rfl
theorem tw2165329990087339879:0=0:=rfl
theorem tw16214255601544031473:0=0:=rfl
theorem tw16010004099175834846:0=0:=rfl
theorem tw10940732235049975884:0=0:=rfl
theorem tw13779374776137000541:0=0:=rfl
theorem tw11598774990567163171:0=0:=rfl
theorem tw1468382670347665337:0=0:=rfl
theorem tw8104315970902623759:0=0:=rfl
theorem tw1944145746002321400:0=0:=rfl
theorem tw3839968748935141395:0=0:=rfl
theorem tw14327691779163028242:0=0:=rfl
theorem tw17298817153423252535:0=0:=rfl
theorem tw742140162034326370:0=0:=rfl
theorem tw12518083294477161828:0=0:=rfl
theorem tw4560690507541196708:0=0:=rfl
theorem tw5695176931332587380:0=0:=rfl
theorem tw5988599928814387395:0=0:=rfl
theorem tw1607010044454907132:0=0:=rfl
theorem tw9191317165270796772:0=0:=rfl
theorem tw4919368568367669481:0=0:=rfl
theorem tw14910674669287113452:0=0:=rfl
theorem tw7215840894134294848:0=0:=rfl
theorem tw4990034182121172739:0=0:=rfl
theorem tw13188867055731216401:0=0:=rfl
theorem tw8558711690272321958:0=0:=rfl
theorem tw4394385615731783488:0=0:=rfl
theorem tw6933988437007042184:0=0:=rfl
theorem tw14155392300061662343:0=0:=rfl
theorem tw3957704277547999018:0=0:=rfl
theorem tw2811378747246655845:0=0:=rfl
theorem tw15719855427739028226:0=0:=rfl
theorem tw15219806531517776136:0=0:=rfl
theorem tw2367934434681383147:0=0:=rfl
theorem tw7292579395547251225:0=0:=rfl
theorem tw12352320674473213635:0=0:=rfl
theorem tw10876732068708905748:0=0:=rfl
theorem tw17873878402958679412:0=0:=rfl
theorem tw24551485399997614:0=0:=rfl
theorem tw16794535924212030764:0=0:=rfl
theorem tw2859984686915901720:0=0:=rfl
theorem tw2227500236004757607:0=0:=rfl
theorem tw4489434981468002280:0=0:=rfl
theorem tw11745395764455284838:0=0:=rfl
theorem tw2840592487201049668:0=0:=rfl
theorem tw10882167549231520503:0=0:=rfl
theorem tw10813404743209880615:0=0:=rfl
theorem tw12017882955611261968:0=0:=rfl
theorem tw7251678943557868935:0=0:=rfl
theorem tw8019207068765159519:0=0:=rfl
theorem tw9287738753573553785:0=0:=rfl
theorem tw2765124818635884689:0=0:=rfl
theorem tw1532366755264173632:0=0:=rfl
theorem tw13656197115991539691:0=0:=rfl
theorem tw8308370462539450010:0=0:=rfl
theorem tw3617465125490011384:0=0:=rfl
theorem tw11250882662487721124:0=0:=rfl
theorem tw7216583376405644064:0=0:=rfl
theorem tw7842540191599720903:0=0:=rfl
theorem tw5712623754997539334:0=0:=rfl
theorem tw16530948564310927513:0=0:=rfl
theorem tw3732607823505597021:0=0:=rfl
theorem tw16242899464961573006:0=0:=rfl
theorem tw582824224287438820:0=0:=rfl
theorem tw1360127970770882591:0=0:=rfl
theorem tw11166874948021750079:0=0:=rfl
theorem tw11349932617591839982:0=0:=rfl
theorem tw297983716066657201:0=0:=rfl
theorem tw3762775431687161341:0=0:=rfl
theorem tw4408057260989796588:0=0:=rfl
theorem tw230463301110794685:0=0:=rfl
theorem tw14732406404027459594:0=0:=rfl
theorem tw18093338635993990012:0=0:=rfl
theorem tw6377134640504901745:0=0:=rfl
theorem tw17014121205039222762:0=0:=rfl
theorem tw7654136456217919511:0=0:=rfl
theorem tw11246898535995272793:0=0:=rfl
theorem tw11084413137992523950:0=0:=rfl
theorem tw5484193749837732974:0=0:=rfl
theorem tw4141266022984362031:0=0:=rfl
theorem tw15363007935777189303:0=0:=rfl
theorem tw12000936640247531191:0=0:=rfl
theorem tw3407322115388713566:0=0:=rfl
theorem tw9260725865085072121:0=0:=rfl
theorem tw14769381778693564105:0=0:=rfl
theorem tw17918172030341943034:0=0:=rfl
theorem tw3613376531157417234:0=0:=rfl
theorem tw9555937217221232411:0=0:=rfl
theorem tw10493634608009981340:0=0:=rfl
theorem tw16531701220711691026:0=0:=rfl
theorem tw7307182585765378962:0=0:=rfl
theorem tw17683356005248470226:0=0:=rfl
theorem tw17318615658331629716:0=0:=rfl
theorem tw18290488253828587522:0=0:=rfl
theorem tw12729482897533884140:0=0:=rfl
theorem tw3666950099940031272:0=0:=rfl
theorem tw1994624349579383304:0=0:=rfl
theorem tw11544863750312261905:0=0:=rfl
theorem tw15476432368104144874:0=0:=rfl
theorem tw5154755815995362800:0=0:=rfl
theorem tw8022509957604305288:0=0:=rfl
theorem tw6925947952111148544:0=0:=rfl
theorem tw16851960056776583423:0=0:=rfl
theorem tw13249232562204096480:0=0:=rfl
theorem tw16851838744724031503:0=0:=rfl
theorem tw10445438864534447223:0=0:=rfl
theorem tw10412800304404704883:0=0:=rfl
theorem tw7842832814598647764:0=0:=rfl
theorem tw7100717425428155007:0=0:=rfl
theorem tw13528626107922633616:0=0:=rfl
theorem tw13353968773419205132:0=0:=rfl
theorem tw13905734506991435543:0=0:=rfl
theorem tw10959602194458370993:0=0:=rfl
theorem tw5728058520582071022:0=0:=rfl
theorem tw16511263225542821283:0=0:=rfl
theorem tw17640784086082123206:0=0:=rfl
theorem tw15736252749895529509:0=0:=rfl
theorem tw6506570235697331721:0=0:=rfl
theorem tw10817165594720927760:0=0:=rfl
theorem tw2377915837390282710:0=0:=rfl
theorem tw11338091097010670566:0=0:=rfl
theorem tw16543849819435737174:0=0:=rfl
theorem tw13569438770723216571:0=0:=rfl
theorem tw858956463992662033:0=0:=rfl
theorem tw14421858739409191303:0=0:=rfl
theorem tw17197455082567349446:0=0:=rfl
theorem tw986582366416834379:0=0:=rfl
theorem tw3423918608505023550:0=0:=rfl
theorem tw1439807265883716842:0=0:=rfl
theorem tw16220685862423288113:0=0:=rfl
theorem tw5861798920255983297:0=0:=rfl
theorem tw9041497119781608563:0=0:=rfl
theorem tw7215580944138493071:0=0:=rfl
theorem tw6295080562893929844:0=0:=rfl
theorem tw510130102016349431:0=0:=rfl
theorem tw3021378009951102834:0=0:=rfl
theorem tw18246990834224620993:0=0:=rfl
theorem tw11003394315249000055:0=0:=rfl
theorem tw15293734822441647400:0=0:=rfl
theorem tw12683541293165858479:0=0:=rfl
theorem tw976620686475079385:0=0:=rfl
theorem tw14191759044499242364:0=0:=rfl
theorem tw1003936295858700107:0=0:=rfl
theorem tw2803529681229098826:0=0:=rfl
theorem tw16542398427430970086:0=0:=rfl
theorem tw4620789757979928746:0=0:=rfl
theorem tw16973651756184244669:0=0:=rfl
theorem tw12502212760044770798:0=0:=rfl
theorem tw11871227593020108435:0=0:=rfl
theorem tw10571415942788601045:0=0:=rfl
theorem tw18035514365431907917:0=0:=rfl
theorem tw4361613459791088626:0=0:=rfl
theorem tw5676126695776293180:0=0:=rfl
theorem tw3844295472233735446:0=0:=rfl
theorem tw17015099348439798445:0=0:=rfl
theorem tw13213210889238040144:0=0:=rfl
theorem tw15857899346624129795:0=0:=rfl
end PySem.W.Fast
open PySem PySem.W PyProof.Rows
set_option maxRecDepth 100000 in
set_option maxHeartbeats 0 in
theorem PySem.Challenge.cw_classtab_k51_whole_turned_by_powers_holds : PySem.Challenge.rw_classtab_k51_whole_turned_by_powers.Holds := by
 w_on;o_law;k_head;(case hw=>w_witness2)
 k_fill
 refine C51.walk (l:=PySem.Challenge.rw_classtab_k51_whole_turned_by_powers) rfl rfl (fun w h Y=>PySem.W.kIn_of Y) ?F
 case F=>
  intro w mg fa h KX G hmg
  refine' C51.all_mk KX G hmg (L2.ZB.mk ?_ ?_ ?_ ?_) (L2.ZB.mk ?_ ?_ ?_ ?_) (L2.ZB.mk ?_ ?_ ?_ ?_) (L2.ZB.mk ?_ ?_ ?_ ?_) (L2.ZB.mk ?_ ?_ ?_ ?_) (L2.ZB.mk ?_ ?_ ?_ ?_) (L2.ZB.mk ?_ ?_ ?_ ?_) (L2.ZB.mk ?_ ?_ ?_ ?_) (L2.ZB.mk ?_ ?_ ?_ ?_) (L2.ZB.mk ?_ ?_ ?_ ?_) (L2.ZB.mk ?_ ?_ ?_ ?_) (L2.ZB.mk ?_ ?_ ?_ ?_) (L2.ZB.mk ?_ ?_ ?_ ?_) (L2.ZB.mk ?_ ?_ ?_ ?_) (L2.ZB.mk ?_ ?_ ?_ ?_) (L2.ZB.mk ?_ ?_ ?_ ?_) (L2.ZB.mk ?_ ?_ ?_ ?_) (L2.ZB.mk ?_ ?_ ?_ ?_) (L2.ZB.mk ?_ ?_ ?_ ?_) (L2.ZB.mk ?_ ?_ ?_ ?_) (L2.ZB.mk ?_ ?_ ?_ ?_) (L2.ZB.mk ?_ ?_ ?_ ?_) (L2.ZB.mk ?_ ?_ ?_ ?_) (L2.ZB.mk ?_ ?_ ?_ ?_) (L2.ZB.mk ?_ ?_ ?_ ?_) (L2.ZB.mk ?_ ?_ ?_ ?_) (L2.ZB.mk ?_ ?_ ?_ ?_) (L2.ZB.mk ?_ ?_ ?_ ?_) (L2.ZB.mk ?_ ?_ ?_ ?_) (L2.ZB.mk ?_ ?_ ?_ ?_) (L2.ZB.mk ?_ ?_ ?_ ?_) (L2.ZB.mk ?_ ?_ ?_ ?_) (L2.ZB.mk ?_ ?_ ?_ ?_) (L2.ZB.mk ?_ ?_ ?_ ?_) (L2.ZB.mk ?_ ?_ ?_ ?_) (L2.ZB.mk ?_ ?_ ?_ ?_) (L2.ZB.mk ?_ ?_ ?_ ?_) (L2.ZB.mk ?_ ?_ ?_ ?_) (L2.ZB.mk ?_ ?_ ?_ ?_) (L2.ZB.mk ?_ ?_ ?_ ?_) (L2.ZB.mk ?_ ?_ ?_ ?_) (L2.ZB.mk ?_ ?_ ?_ ?_) ?_ ?_ ?_ ?_ ?_ ?_ ?_ ?_ ?_ ?_ ?_ ?_ ?_ ?_ ?_ ?_ ?_
  any_goals k_is
  all_goals kernel_rfl
