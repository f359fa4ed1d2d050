import PyProof.Rows.All
import Wide.All
import OpenK.AllK
import Wide.FinOn
import Lean
import PyProof.EqAt
import PyProof.EqKinds
import PyProof.TupleCall
import PyProof.Rows.StrNews2
import KE.KIntText
import PyProof.StrWalks
import PyProof.StrCalls6
import PyProof.StrLawsReplace
import PyProof.ToksMono
import KE.IntTextText
import PyProof.Rows.StrIntSpec
import KE.KSortTup
import PyProof.DictWalks
import KE.KDictSum
import PyProof.EnumMake
import PyProof.EnumFor
import PyProof.TupleIter
import PyProof.Rows.Range3
import PyProof.ExcInit
import PyProof.ExcClass2
import PyProof.ExcClsAt2
import PyProof.ExcBaseAll.ValueError
import PyProof.InstStoreFacts
import PyProof.InstLoad
import PyProof.ExcAttrAll.ValueError
import PyProof.StationsW
import PyProof.RulesAs
import PyProof.NsDelKeeps
import PyProof.IsiBase
import KE.KIsAll
import PyProof.StrOps2
import PyProof.StrCalls2
import PyProof.StrLawsJoin
import PyProof.Rows.MinMaxN
import PyProof.P3Eq
import PySem.Challenge.RW_classtab_k63_lines_of_no_table
open PySem.W renaming Frag->ac,mg_none_of->az,nsIn->aF,keepIn->aX,fnOf->bj,codeIn->bS,clsIn->b9,kitOne->cY,cellsFrom_some->cZ,mg_of->dq,OpenLaw->eV,callWith_K->fJ,methodObj->fQ,kitAny->gP,subIn->hJ,WalkO->i7,kitMeta->je,typeIn->jt,mroIn->jG
open List renaming mem_cons_of_mem->ae,replicate->ag,mem_cons_self->ah,mem_cons->aj,mem_append_right->am,length_drop->ao,mem_singleton->aq,append_assoc->aw,length_nil->ax,length_take->aB,mem_append->aD,getElem?_eq_some_iff->aH,append_nil->aI,all_eq_true->aJ,replicate_succ->aM,mem_of_getElem?->aN,getElem?_append_right->aP,map_append->aU,mem_map->aV,contains_cons->aW,map_cons->aZ,getElem?_append_left->a6,map_map->a7,nil_append->br,mem_append_left->bE,flatten_cons->bG,drop_eq_nil_of_le->bH,drop_eq_getElem_cons->bJ,filterMap_cons->bQ,take_of_length_le->bR,map_take->bT,exists_cons_of_ne_nil->bU,getElem?_eq_none->bV,map_drop->cg,lookup_cons->cn,getElem?_replicate->cp,lookup_append->cz,length_replicate->cF,take_length->cK,length_pos_iff->cP,nodup_cons->cT,length_set->cU,find?_cons->cV,drop_zero->dg,getElem_mem->dz,drop_length->dA,any_eq_true->dB,any_cons->dF,take_append_of_le_length->dJ,mem_of_mem_drop->dL,map_congr_left->dP,range->eE,length->eS,getElem?_set_self->fw,append_eq_nil_iff->fx,getElem?_set_ne->fF,getElem?_of_mem->fG,takeWhile_cons->fP,all_cons->f8,mem_replicate->gh,map_nil->gu,map_id'->gv,map->gw,all_nil->gx,all_map->gy,drop_append->gJ,cons_append->gK,eq_nil_of_length_eq_zero->gW,of_mem_zip->gY,mem_filter->gZ,filter_map->g8,length_eq_zero_iff->iD,getElem?_cons_succ->iE,filter_eq_nil_iff->iJ,filterMap_append->iQ,contains_iff_mem->iR,mem_of_mem_take->i0,lookup->i4,mem_filterMap->jj,getElem?_drop->jk,foldl->jl,take_add_one->jy,ext_getElem?->jz
open Nat renaming lt_of_lt_of_le->ak,ne_of_lt->aA,zero_le->aE,le_trans->aK,mul_le_mul_right->a8,lt_irrefl->a9,le_of_succ_le->bi,ne_of_gt->bz,lt_trans->cN,le_succ->de,succ_mul->dW,sub_self->dX,pow_le_pow_right->fM,mul_comm->gD,lt_succ_of_lt->gE,le_of_lt->gF,add_comm->gG,le_add_right->gU,min_eq_left->ie,lt_of_le_of_lt->jx,lt_trichotomy->jJ
open PySem.Str renaming ofString->ar,join->eG,empty->fi
open PySem.Value renaming ref->au,none->bn,builtin->cf,bool->fR,type->hU,str->ip,int->iq
open PySem renaming Spec->av,wpAny_loadPart_at->aG,Builtin->aO,mem_of_lookup->aR,wpAny_mono->aY,wpAny_field->bh,wpAny_passesOwn->bt,wpAny_newObj_type->bw,wpAny_truthy_bool->bI,wpAny_isSubtype_exc->bK,typeIs_str->b8,PyData->ck,wpAny_standAt->cq,wpAny_callSpecial?_slot->cB,call_meets->cG,codeAny_call_builtin->cQ,NameKind->cR,wpAny_execs_nil->df,wpAny_setField_rec->dh,wpAny_Call_Name_kw->di,wpAny_getItem_str_slice->dn,wpAny_setField->dC,ExcBaseFacts->dD,wpAny_call_entry->dN,wpAny_holding->dQ,intText_digits->eY,IsEnum->fc,wpAny_pyIter_enum->fq,sizeLine_eq->fu,wpAny_comprehension_free->fy,wpAny_execs_cons->fB,wpAny_Call_method_late->fH,pushCells_keeps->fN,post_val_or_str->fO,BindsTo->gt,wpAny_pyIter_tuple->gM,wpAny_call->gN,typeIs_int->gO,wpAny_pyIter_list->g9,codeAny_mono->hG,Operator->hZ,noFill_tuple_add->ij,IsPart->ik,Within->iz,wpAny_letOwnedTupleGo_enum->iL,Paired->iO,wpAny_check_type_call_sub->iS,wpAny_binaryOp_repeat_ref->iT,codeAny_call_builtin_code->iU,seq_tuple_add->i5,call->i6,codeAny_call_builtin_at->jd,seqSlot_of->jo,name_of_addr->jp,concat_meets->jq,codeAny_compStart_list->jr,OwnTail->jv,wpAny_typeLookup_tail->jD,codeAny_handlers_test->jE,builtinLookup_eq_fast->jF
open Option.some renaming inj->ay
open PySem.Heap renaming get?_update_other->aL,SameBut->bd,size_push->bu,get?_update_self->bL,get?_none_of_le->cI,MadeExcOf->eg,get?_push_at->gr,size_after_update->iG,get?_update_ne->ja
open PySem.F renaming plainAttrs_str->aQ,slot_str_split->bp,slot_list_append->bx,type_list_append->bM,plainAttrs_list->bO,type_str_split->bP,attr_ValueError->cJ,slot_tuple_iterator_next->cM,slot_tuple_mul->cS,slot_enumerate_next->dI,slot_str_startswith->eJ,args_tuple_add_2->eK,slot_str_getitem->eO,entry_tuple_add->eQ,slot_tuple_add->fe,type_str_join->fj,slot_str_join->fk,slot_int_rmul->fE,typeOf_object_class->fL,excBase_ValueError->fV,args_tuple_mul_2->gB,args_str_split_2->gC,type_str_startswith->gI,entry_tuple_mul->gQ,entry_str_split->gR,slot_tuple_rmul->ii,args_tuple_iterator_next_1->il,entry_tuple_iterator_next->iw,slot_str_partition->iB,slot_gs_get->iP,args_enumerate_next_1->iY,slot_str_index->jb,entry_enumerate_next->jc,attrBase_ValueError->jg
open Bool renaming false_ne_true->aS,and_eq_true->aT,eq_iff_iff->be,or_true->cL,and_true->dG,eq_false_iff->eU,true_and->eX,not_eq_true->fh,false_eq_true->gl,false_or->ix,and_self->iy,not_eq_true'->jC
open PySem.PassesOwn renaming never->ba,leaving->iF
open PySem.PyData renaming int->bc,canLayAll0->bf,depthAll->bo,canLay0->cm,depth->dc,str->du,shown->f9,showable->gH,tuple->iu,leavesShortAll->iA,showableAll->iV,leavesShort->iW,eqv->iX,hasDictAll->i9,bulkAll->jH
open Array renaming getElem?_eq_some_iff->bq,toList_append->cO,getElem?_toList->iK
open PySem.Txt renaming partition->bv,split->cr,slice->db,startswith->dk,slice_le->gA
open False renaming elim->bA
open Ne renaming symm->bC
open ForInStep renaming yield->bF
open Int renaming emod_lt_of_pos->bN,natAbs_natCast->bW,emod_nonneg->ce,toNat_of_nonneg->jm,natCast_nonneg->jA
open PySem.StrLaws renaming subAt_one->bX,sliceText->fS,found_one->fU,occ_head->gm,strSub_toList->ir,split_free->iM,join_split->iN
open PySem.NumText renaming AllDigits->bY
open PySem.NameKind renaming cell->bZ,free->dm
open PySem.Builtin.SmallTypes renaming nextOf->cu,ownedTupleHandOut->ei,ownedTupleIsFree->eL
open PyProof.Rows renaming callWith_type1->cw,slot_tuple_getitem->cx,AllBare->fv,assignInOrder_cons->gS,IntsAre->iI,subscriptTail_builtinR->jw
open PySem.SeqAt renaming shaped->cy,any_by_data->jf,items_eqAt->ju
open PySem.Obj renaming data_mapFields->cC,mapFields->dH,isFreed_of_fields->fC,mapSeq->gp
open PySem.Builtin.Slice renaming slicePlaces->cD,sliceAdjust->dE,sliceApplied->fZ
open PySem.Builtin.Tuple renaming tupleExact->cH,tupleTooMany->fY
open PySem.Code renaming quiet_builtin->cW,isFrame->iH
open PySem.Challenge renaming rw_classtab_k63_lines_of_no_table->dv,pw_classtab_k63_lines_of_no_table->dw
open PySem.Builtin.List renaming listTooLong->dM
open Sum renaming inr->dS,inl->gz
open PySem.Builtin.Str renaming occurrences->dU
open List.cons renaming inj->dY
open True renaming intro->dZ
open PySem.AutoSeq1 renaming sub_tuple_tuple->ek,idx_int->gb
open Option renaming isSome_iff_exists->eM,getD_none->ji
open Nat.succ renaming inj->eW
open PyProof.Rows.IsTup renaming new->ff
open PySem.Calls renaming callWith_builtin->fm,evalArgs_plain->fD,spliced_cons->fW,Constant_str->fX,Name_function_global->ib,spliced_nil->jh
open List.Pairwise renaming nil->fz
open PySem.Value.ref renaming inj->fA
open PySem.Sem renaming wp_mono->fK,wp_toks->i8
open PySem.Around renaming under->gf
open Char renaming toNat->gj,ofNat->jn
open PySem.Within renaming nil->gq,cons->gX
open Classical renaming byContradiction->gL
open PySem.Heap.SameBut renaming update->ia
open PySem.Paired renaming length->ig
open PySem.EntryCells renaming newEntry->im
open Prod.mk renaming inj->iC
open PySem.Data renaming fields->iZ,cell->jI
open Decidable renaming em->jB
set_option Elab.async false
set_option linter.all false
set_option maxRecDepth 100000
theorem Za {α j:Type _}{l:List α}{f:α->j}:(l.map f).length=l.length:=List.length_map ..
theorem Zb {α:Type _}{l:List α}{i:Nat}{a:α}:l.getD i a=l[i]?.getD a:=List.getD_eq_getElem?_getD ..
theorem Zc {α j:Type _}{f:α->j}{l:List α}{i:Nat}:(l.map f)[i]?=l[i]?.map f:=List.getElem?_map ..
theorem Zd {α:Type _}{a b:List α}:(a++b).length=a.length+b.length:=List.length_append ..
theorem Ze {α:Type _}{n:Nat}{a:α}:(ag n a).length=n:=cF ..
theorem Zf {α:Type _}{l:List α}{i:Nat}(h:i<l.length):l[i]?=some l[i]:=List.getElem?_eq_getElem h
theorem Zg {n:Nat}:(eE n).length=n:=List.length_range ..
theorem Zh {α:Type _}{l:List α}:l.toArray.size=l.length:=List.size_toArray ..
theorem Zi {α:Type _}{a:α}{l:List α}:(a::l).length=l.length+1:=List.length_cons ..
theorem Zj (n:Nat):(n:Int).toNat=n:=Int.toNat_natCast n
theorem Zk {α:Type _}{a:α}:[a].length=1:=List.length_singleton ..
noncomputable abbrev Zl:=@PySem.wpAny_bind
noncomputable abbrev Zm:=@PySem.wpAny_pure
noncomputable abbrev Zn:=@PySem.Heap.get?_push_of_some
noncomputable abbrev Zo:=@PySem.Heap.get?_push_size
noncomputable abbrev Zp:=@PySem.Heap.lt_size
noncomputable abbrev Zq:=@Nat.le_refl
noncomputable abbrev Zr.{u}:=@Array.length_toList.{u}
namespace L2
open PySem PySem.Spec PyProof.Rows
noncomputable abbrev YG:=Sum Int Str
noncomputable def VF:YG->Value->Bool
 | .inl k,v=>Value.isInt k v
 | .inr x,v=>Value.isStrOf x v
noncomputable def Zjd (w:World):YG->Int
 | .inl k=>hashInt k
 | .inr x=>hashStr w x
theorem Yb:∀{k:YG}{v:Value},VF k v=true->(∃i t,k=gz i/\v=iq i t)\/(∃x t,k=dS x/\v=ip x t)
 | .inl i,v,h=>by
  obtain⟨t,e⟩:=Value.isInt_shape (k:=i) (v:=v) h;exact .inl ⟨i,t,rfl,e⟩
 | .inr x,v,h=>by
  obtain⟨t,e⟩:=Value.isStrOf_shape (x:=x) (v:=v) h;exact .inr ⟨x,t,rfl,e⟩
theorem Zcr (i:Int)(t:Tok):VF (.inl i) (.int i t)=true:=by simp[VF,Value.isInt]
theorem Zcq (x:Str)(t:Tok):VF (.inr x) (.str x t)=true:=by simp[VF,Value.isStrOf]
theorem ZgK (a b:Int):decide ((gz a:YG)=gz b)=(a == b):=by
 by_cases e:a=b
 ·subst e;simp
 ·have h:¬(gz a:YG)=gz b:=fun q=>e (Sum.inl.inj q)
  rw[decide_eq_false h];exact (beq_eq_false_iff_ne.mpr e).symm
theorem ZgH (a b:Str):decide ((dS a:YG)=dS b)=decide (a=b):=by
 by_cases e:a=b
 ·subst e;simp
 ·have h:¬(dS a:YG)=dS b:=fun q=>e (Sum.inr.inj q)
  rw[decide_eq_false h,decide_eq_false e]
theorem ZgJ (a:Int)(b:Str):decide ((gz a:YG)=dS b)=false:=decide_eq_false (fun q=>nomatch q)
theorem ZgI (a:Str)(b:Int):decide ((dS a:YG)=gz b)=false:=decide_eq_false (fun q=>nomatch q)
noncomputable def Yl (prog:Program)(w:World):PySem.KeyKind prog w YG where
 is:=VF
 hash:=Zjd w
 inj:=fun v a b O hb=>by
  rcases Yb O with ⟨i,t,rfl,rfl⟩|⟨x,t,rfl,rfl⟩
  ·rcases Yb hb with ⟨j,u,rfl,e⟩|⟨y,u,rfl,e⟩
   ·injection e with z _;rw[z]
   ·exact nomatch e
  ·rcases Yb hb with ⟨j,u,rfl,e⟩|⟨y,u,rfl,e⟩
   ·exact nomatch e
   ·injection e with z _;rw[z]
 byValue:=fun k v h=>by
  rcases Yb h with ⟨i,t,rfl,rfl⟩|⟨x,t,rfl,rfl⟩ <;> rfl
 pyHash:=fun J h=>by
  rcases Yb J with ⟨i,t,rfl,rfl⟩|⟨x,t,rfl,rfl⟩
  ·exact wpAny_pyHash_int h
  ·exact wpAny_pyHash_str h
 eqBool:=fun Y J h=>by
  rcases Yb Y with ⟨i,t,rfl,rfl⟩|⟨x,t,rfl,rfl⟩
  ·rcases Yb J with ⟨j,u,rfl,rfl⟩|⟨y,u,rfl,rfl⟩
   ·rw[ZgK] at h;exact wpAny_eqBool_int h
   ·rw[ZgJ] at h;exact SeqAt.EqAt.int_str i t y u _ _ _ _ h
  ·rcases Yb J with ⟨j,u,rfl,rfl⟩|⟨y,u,rfl,rfl⟩
   ·rw[ZgI] at h;exact SeqAt.EqAt.str_int x t j u _ _ _ _ h
   ·rw[ZgH] at h;exact wpAny_eqBool_str h
 «strs»:=fun k x t v h=>by
  rcases Yb h with ⟨i,u,rfl,e⟩|⟨y,u,rfl,e⟩
  ·exact nomatch e
  ·injection e with z _
   subst z;cases v <;> rfl
theorem UO (prog:Program)(w:World)(i:Int)(t:Tok):(Yl prog w).is (.inl i) (.int i t)=true:=Zcr i t
theorem UN (prog:Program)(w:World)(x:Str)(t:Tok):(Yl prog w).is (.inr x) (.str x t)=true:=Zcq x t
inductive V where
 |non|bl (b:Bool)|int (i:Int)|str (x:Str)|byt (b:Array UInt8)|flt (b:UInt64)|ref (a:Addr)|ty (n:String)
 deriving DecidableEq
noncomputable def RelV:V->Value->Prop
 | .non,u=>u=bn
 | .bl b,u=>u=fR b
 | .int i,u=>∃t,u=iq i t
 | .str x,u=>∃t,u=ip x t
 | .byt b,u=>∃t,u=Value.bytes b t
 | .flt b,u=>∃t,u=Value.float b t
 | .ref a,u=>u=au a
 | .ty n,u=>u=hU n
noncomputable abbrev ZN:List V->List Value->Prop:=iO RelV
theorem ZN.length {xs:List V}{us:List Value}(r:ZN xs us):xs.length=us.length:=ig r
theorem ZN.get:∀{xs:List V}{us:List Value}{i:Nat}{x:V},ZN xs us->xs[i]?=some x->∃u,us[i]?=some u/\RelV x u
 |_,_,_,_,.nil,e=>by simp at e
 |_,_,0,_,.cons r _,e=>by simp at e;subst e;exact⟨_,rfl,r⟩
 |_,_,i+1,x,.cons _ t,e=>by
  obtain⟨u,j,z⟩:=ZN.get (i:=i) (x:=x) t (by simpa using e);exact⟨u,by simpa using j,z⟩
theorem ZN.set {x:V}{u:Value}(r:RelV x u):∀{xs:List V}{us:List Value} (i:Nat),ZN xs us->ZN (xs.set i x) (us.set i u)
 |_,_,_,.nil=>.nil
 |_,_,0,.cons _ t=>.cons r t
 |_,_,i+1,.cons q t=>.cons q (ZN.set r i t)
theorem ZN.append:∀{xs j:List V}{us z:List Value},ZN xs us->ZN j z->ZN (xs++j) (us++z)
 |_,_,_,_,.nil,s=>s
 |_,_,_,_,.cons r t,s=>.cons r (ZN.append t s)
theorem ZN.take:∀{xs:List V}{us:List Value} (n:Nat),ZN xs us->ZN (xs.take n) (us.take n)
 |_,_,0,_=>.nil
 |_,_,_+1,.nil=>.nil
 |_,_,n+1,.cons r t=>.cons r (ZN.take n t)
theorem ZN.drop:∀{xs:List V}{us:List Value} (n:Nat),ZN xs us->ZN (xs.drop n) (us.drop n)
 |_,_,0,r=>r
 |_,_,_+1,.nil=>.nil
 |_,_,n+1,.cons _ t=>ZN.drop n t
noncomputable def JT:Option V->Option Value->Prop
 |some v,some u=>RelV v u
 |none,none=>True
 |_,_=>False
noncomputable def KV {j:Type}:List (j×V)->List (j×Value)->Prop:=iO fun (p:j×V) (q:j×Value)=>p.1=q.1/\RelV p.2 q.2
noncomputable def kV:YG->V
 | .inl i=>.int i
 | .inr x=>.str x
inductive HO where
 |lst (xs:List V)
 |tup (xs:List V)
 |dK (kvs:List (YG×V))|dT (kvs:List (List YG×V))
 |set (S:Int->Bool) (n:Nat)
 |ins (C dx:Addr) (fs:List (Str×V))
 |own (x:Addr)
 |xd (fs:List (Str×V))
 |met (f x:Addr)
 |rng (lo hi:Int)
 |frz (o:Obj) (u:HO)
 |tbl (ps:Array Value)
 |ext (φ:Heap->Prop)
noncomputable abbrev Hp:=Addr->Option HO
noncomputable def upd (H:Hp)(a:Addr)(o:HO):Hp:=fun b=>if b=a then some o else H b
theorem Zv {H:Hp}{a:Addr}{o:HO}:upd H a o a=some o:=by unfold upd;rw[if_pos rfl]
theorem ZB {H:Hp}{a b:Addr}{o:HO}(h:b≠a):upd H a o b=H b:=by unfold upd;rw[if_neg h]
theorem Zed {H:Hp}{a:Addr}{o u:HO}:upd (upd H a o) a u=upd H a u:=by
 funext b;unfold upd;split <;> rfl
theorem Zie {H:Hp}{a b:Addr}{o u:HO}(h:H a=some o)(h':H b=some u)(d:o≠u):a≠b:=by
 intro e;subst e;rw[h] at h';exact d (ay h')
theorem ZH {H:Hp}{a b:Addr}{o:HO}(h:H a=some o)(h':H b=none):a≠b:=by
 intro e;subst e;rw[h] at h';cases h'
section
variable (P:Program)(w:World)
noncomputable def Yf (H:Hp)(h:Heap)(a:Addr):HO->Prop
 | .lst J=>J.length<=sizeLine/\∃(j:List Value) (n:Nat),ZN J j/\h.get? a=some {cls:=.type "list",data:=.seq j.toArray n}
 | .tup J=>J.length<=sizeLine/\∃j:List Value,ZN J j/\IsTup h a j.toArray
 | .dK z=>z.length<=sizeLine/\(a == sysModules)=false/\∃vs,KV z vs/\h.DictOf (Yl P w) a vs
 | .dT z=>z.length<=sizeLine/\(a == sysModules)=false/\∃J:List (List YG×Addr×Value),
   iO (fun (p:List YG×V) (q:List YG×Addr×Value)=>p.1=q.1/\H q.2.1=some (.tup (p.1.map kV))/\RelV p.2 q.2.2) z J/\
   ∃o es ep,h.get? a=some o/\o.ExactDict/\o.data=.dict es ep/\es.toList=J.map (entryOfKey (tupleKind (Yl P w)))/\(J.map (·.1)).Nodup
 | .set S n=>h.SetOf (intKind P w) a S n
 | .ins C Y fs=>H Y=some (.own a)/\fs.length<=1000/\Y≠a/\h.get? a=some (PySem.W.instObj C Y)/\
   ∃O,h.Ns1 Y O/\(∀f,JT (fs.lookup f) (O f))/\iz O (fs.map (·.1))
 | .own _=>∃o,h.get? a=some o
 | .xd fs=>∃O,h.Ns1 a O/\∀f,JT (fs.lookup f) (O f)
 | .rng lo hi=>∃t u v,h.get? a=some {cls:=.type "range",data:=.fields #[.int lo t,.int hi u,.int 1 v]}
 | .frz o u=>h.get? a=some o/\Yf H h a u
 | .tbl ps=>h.get? a=some {cls:=.none,data:=.fields ps}
 | .met f x=>h.get? a=some (fQ (.ref f) (.ref x))
 | .ext φ=>φ h/\(∃o,h.get? a=some o)/\∀h1 h2:Heap,φ h1->(∀o,h1.get? a=some o->h2.get? a=some o)->φ h2
noncomputable def JB (H:Hp)(h:Heap):Prop:=∀a o,H a=some o->Yf P w H h a o
end
section
variable {P:Program}{w:World}{H H':Hp}{h h':Heap}{a:Addr}{o:HO}
theorem Yf.lt (x:Yf P w H h a o):a<h.objs.size:=by
 cases o with
 |lst z=>obtain⟨_,_,_,_,e⟩:=x;exact Zp e
 |tup z=>obtain⟨_,_,_,p⟩:=x;exact p.lt
 |dK j=>obtain⟨_,_,_,_,o,_,_,e,_⟩:=x;exact Zp e
 |dT j=>obtain⟨_,_,_,_,o,_,_,e,_⟩:=x;exact Zp e
 |set S n=>obtain⟨o,_,_,_,e,_⟩:=x;exact Zp e
 |ins C J fs=>obtain⟨_,_,_,e,_⟩:=x;exact Zp e
 |own y=>obtain⟨_,e⟩:=x;exact Zp e
 |xd fs=>obtain⟨_,⟨_,_,_,e,_⟩,_⟩:=x;exact Zp e
 |rng lo O=>obtain⟨_,_,_,e⟩:=x;exact Zp e
 |frz Y u=>obtain⟨e,_⟩:=x;exact Zp e
 |tbl ps=>exact Zp (show h.get? a=some _ from x)
 |met f y=>exact Zp (show h.get? a=some _ from x)
 |ext φ=>obtain⟨_,⟨_,e⟩,_⟩:=x;exact Zp e
theorem iO.mapP {α J:Type}{F G:α->J->Prop}:∀{j:List α}{z:List J},iO F j z->(∀a b,F a b->G a b)->iO G j z
 |_,_,.nil,_=>.nil
 |_,_,.cons r t,f=>.cons (f _ _ r) (iO.mapP t f)
theorem Yf.stay (x:Yf P w H h a o)(k:∀b u,(b=a\/H b=some (.own a))->h.get? b=some u->h'.get? b=some u)
  (ho:∀b,H b=some (.own a)->H' b=some (.own a)) (ht:∀b xs,H b=some (.tup xs)->H' b=some (.tup xs)):Yf P w H' h' a o:=by
 induction o with
 |lst xs=>obtain⟨z,J,n,r,e⟩:=x;exact⟨z,J,n,r,k _ _ (.inl rfl) e⟩
 |tup xs=>obtain⟨z,J,r,ob,e,c⟩:=x;exact⟨z,J,r,ob,k _ _ (.inl rfl) e,c⟩
 |dK O=>obtain⟨z,y,vs,r,ob,es,j,e,c⟩:=x;exact⟨z,y,vs,r,ob,es,j,k _ _ (.inl rfl) e,c⟩
 |dT O=>
  obtain⟨z,y,xs,r,ob,es,j,e,c⟩:=x;exact⟨z,y,xs,iO.mapP r fun p q z=>⟨z.1,ht _ _ z.2.1,z.2.2⟩,ob,es,j,k _ _ (.inl rfl) e,c⟩
 |set S n=>obtain⟨ob,es,j,t,e,c⟩:=x;exact⟨ob,es,j,t,k _ _ (.inl rfl) e,c⟩
 |ins C dx fs=>
  obtain⟨d,z,ne,e,Y,⟨od,es,j,e2,c⟩,r⟩:=x;exact⟨ho _ d,z,ne,k _ _ (.inl rfl) e,Y,⟨od,es,j,k _ _ (.inr d) e2,c⟩,r⟩
 |own y=>obtain⟨ob,e⟩:=x;exact⟨ob,k _ _ (.inl rfl) e⟩
 |xd fs=>obtain⟨Y,⟨od,es,j,e,c⟩,r⟩:=x;exact⟨Y,⟨od,es,j,k _ _ (.inl rfl) e,c⟩,r⟩
 |rng lo hi=>obtain⟨t,u,v,e⟩:=x;exact⟨t,u,v,k _ _ (.inl rfl) e⟩
 |frz ob u ih=>obtain⟨e,q⟩:=x;exact⟨k _ _ (.inl rfl) e,ih q⟩
 |tbl ps=>
  have e:h.get? a=some {cls:=.none,data:=.fields ps}:=x;show h'.get? a=some {cls:=.none,data:=.fields ps};exact k a _ (.inl rfl) e
 |met f y=>
  have e:h.get? a=some (fQ (.ref f) (.ref y)):=x;show h'.get? a=some (fQ (.ref f) (.ref y));exact k a _ (.inl rfl) e
 |ext φ=>obtain⟨p,⟨o,e⟩,st⟩:=x;exact⟨st _ _ p fun o q=>k _ _ (.inl rfl) q,⟨o,k _ _ (.inl rfl) e⟩,st⟩
theorem JB.lt (x:JB P w H h)(e:H a=some o):a<h.objs.size:=(x a o e).lt
theorem JB.fresh (x:JB P w H h)(e:h.objs.size<=a):H a=none:=by
 cases q:H a with
 |none=>rfl
 |some u=>exact absurd (ak (x.lt q) e) (a9 _)
theorem JB.kept (x:JB P w H h)(k:∀b u,h.get? b=some u->h'.get? b=some u):JB P w H h':=fun a o e=>
 (x a o e).stay (fun b u _ q=>k b u q) (fun _ q=>q) fun _ _ q=>q
theorem JB.laid (x:JB P w H h)(k:∀b u,h.get? b=some u->h'.get? b=some u)(J:h.objs.size<=a)(j:Yf P w (upd H a o) h' a o):JB P w (upd H a o) h':=fun b u e=>by
 have z:=x.fresh J;by_cases hb:b=a
 ·subst hb;rw[Zv] at e;cases e;exact j
 ·rw[ZB hb] at e
  exact (x b u e).stay (fun c v _ q=>k c v q) (fun c q=>by rw[ZB (ZH q z)];exact q) fun c O q=>by rw[ZB (ZH q z)];exact q
end
noncomputable def Rd (H:Hp)(a:Addr)(u:HO):Prop:=H a=some u\/∃o,H a=some (.frz o u)
theorem Rd.ok {P:Program}{w:World}{H:Hp}{h:Heap}{a:Addr}{u:HO}(r:Rd H a u)(x:JB P w H h):Yf P w H h a u:=by
 rcases r with r|⟨o,r⟩
 ·exact x a u r
 ·obtain⟨_,q⟩:=x a _ r
  exact q
noncomputable def Mut:Option HO->Prop
 |some (.lst _)=>True
 |some (.dK _)=>True
 |some (.dT _)=>True
 |some (.set _ _)=>True
 |some (.ins _ _ _)=>True
 |some (.ext _)=>True
 |_=>False
section
variable {P:Program}{w:World}{H:Hp}{h h':Heap}{x e:Addr}{o':HO}
theorem JB.write (ok:JB P w H h)(Y:Mut (H x))(he:e=x\/H e=some (.own x))(k:∀b u,b≠e->h.get? b=some u->h'.get? b=some u)(j4:∃u,h'.get? e=some u)
  (j6:Yf P w (upd H x o') h' x o'):JB P w (upd H x o') h':=fun b u q=>by
 have J:∀c y,H c=some (.own y)->c≠x:=fun c y r z=>by subst z;rw[r] at Y;exact Y
 have O:∀c xs,H c=some (.tup xs)->c≠x:=fun c xs r z=>by subst z;rw[r] at Y;exact Y
 by_cases hb:b=x
 ·subst hb;rw[Zv] at q;cases q;exact j6
 ·rw[ZB hb] at q
  by_cases j:b=e
  ·have q':H b=some (.own x):=by
    rcases he with z|z
    ·exact absurd (j.trans z) hb
    ·rw[j];exact z
   rw[q] at q';cases q';obtain⟨v,hv⟩:=j4;exact⟨v,by rw[j];exact hv⟩
  ·refine (ok b u q).stay (fun c v hc r=>k c v ?_ r) (fun c r=>by rw[ZB (J c b r)];exact r) fun c xs r=>by rw[ZB (O c xs r)];exact r
   rcases hc with rfl|hc
   ·exact j
   ·rintro rfl
    rcases he with z|z
    ·exact J c b hc z
    ·rw[hc] at z;cases z;exact hb rfl
end
structure Un (fs ex:List Addr)(H H':Hp)(h h':Heap):Prop where
 keep:∀b o,h.get? b=some o->H b=none->b∉fs->b∉ex->h'.get? b=some o
 slot:∀b o,h.get? b=some o->H b=none->b∈fs->b∉ex->∃sl,h'.get? b=some {o with slots:=sl}
 free:∀b o,h.get? b=some o->H b=none->b∉ex->H' b=none
 there:∀b o,h.get? b=some o->b∉ex->∃o',h'.get? b=some o'
 tups:∀b xs,H b=some (.tup xs)->H' b=some (.tup xs)
 frzs:∀b o u,H b=some (.frz o u)->H' b=some (.frz o u)
 tbls:∀b ps,H b=some (.tbl ps)->∃more,H' b=some (.tbl (ps++more))
section
variable {fs fs' ex ex':List Addr}{H H1 H2:Hp}{h h1 h2 h':Heap}{a x e:Addr}{o:HO}
theorem Un.any (u:Un fs ex H H1 h h1){b:Addr}{ob:Obj}(q:h.get? b=some ob)(n:H b=none)(j:b∉ex):∃z,h1.get? b=some {ob with slots:=z}:=by
 by_cases hb:b∈fs
 ·exact u.slot b ob q n hb j
 ·exact⟨ob.slots,u.keep b ob q n hb j⟩
theorem Un.kept (k:∀b u,h.get? b=some u->h'.get? b=some u):Un fs ex H H h h':=
 ⟨fun b j q _ _ _=>k b j q,fun b j q _ _ _=>⟨j.slots,k b j q⟩,fun _ _ _ n _=>n,fun b j q _=>⟨j,k b j q⟩,fun _ _ q=>q,fun _ _ _ q=>q,fun _ z q=>⟨#[],by rw[q];simp⟩⟩
theorem Un.refl:Un fs ex H H h h:=Un.kept fun _ _ q=>q
theorem Un.laid (k:∀b u,h.get? b=some u->h'.get? b=some u)(z:h.objs.size<=a)(j:H a=none):Un fs ex H (upd H a o) h h' where
 keep:=fun b u q _ _ _=>k b u q
 slot:=fun b u q _ _ _=>⟨u.slots,k b u q⟩
 free:=fun b u q n _=>by rw[ZB (aA (ak (Zp q) z))];exact n
 there:=fun b u q _=>⟨u,k b u q⟩
 tups:=fun b J q=>by rw[ZB (ZH q j)];exact q
 frzs:=fun b u J q=>by rw[ZB (ZH q j)];exact q
 tbls:=fun b O q=>⟨#[],by rw[ZB (ZH q j),q];simp⟩
theorem Un.write (J:Mut (H x))(he:e=x\/H e=some (.own x))(k:∀b u,b≠e->h.get? b=some u->h'.get? b=some u)(O:∃u,h'.get? e=some u):Un fs ex H (upd H x o) h h':=by
 have hx:∀b,H b=none->b≠x:=fun b n z=>by subst z;rw[n] at J;exact J
 have hb:∀b,H b=none->b≠e:=fun b n z=>by
  subst z;rcases he with r|r
  ·exact hx b n r
  ·rw[n] at r;cases r
 have Y:∀b u,H b=some u->¬Mut (some u)->b≠x:=fun b u q nm z=>by subst z;rw[q] at J;exact nm J
 refine⟨fun b u q n _ _=>k b u (hb b n) q,fun b u q n _ _=>⟨u.slots,k b u (hb b n) q⟩,fun b u q n _=>by rw[ZB (hx b n)];exact n,fun b u q _=>?_,
  fun b xs q=>by rw[ZB (Y b _ q fun z=>z)];exact q,fun b u xs q=>by rw[ZB (Y b _ q fun z=>z)];exact q,fun b ps q=>⟨#[],by rw[ZB (Y b _ q fun z=>z),q];simp⟩⟩
 by_cases j:b=e
 ·subst j;exact O
 ·exact⟨u,k b u j q⟩
end
noncomputable def trk (h:Heap)(H:Hp):List Addr:=(eE h.objs.size).filter fun a=>(H a).isSome
noncomputable def Ug (h:Heap)(H:Hp):Heap:=PySem.W.hideAll h (trk h H)
theorem Zct (h:Heap)(H:Hp):(Ug h H).objs.size=h.objs.size:=PySem.W.hideAll_size _ _
theorem ZdF {h:Heap}{H:Hp}{b:Addr}{o:Obj}(e:h.get? b=some o)(n:H b=none):(Ug h H).get? b=some o:=
 PySem.W.hideAll_get _ e fun j=>by
  have q:(H b).isSome=true:=(gZ.mp j).2;rw[n] at q;simp at q
theorem ZeJ {h:Heap}{H:Hp}{b:Addr}{o:Obj}(e:(Ug h H).get? b=some o):h.get? b=some o/\H b=none:=by
 have j:h.get? b=some o:=PySem.W.of_hideAll (trk h H) e;refine⟨j,?_⟩;cases q:H b with
 |none=>rfl
 |some x=>
  have J:b∈trk h H:=gZ.mpr ⟨List.mem_range.mpr (Zp j),by simp[q]⟩;have z:(Ug h H).get? b=none:=PySem.W.hideAll_none (trk h H) J;rw[z] at e;cases e
structure Mod (K:ac)(mg:Str->Option Value)(base:Heap):Prop where
 kin:K.In base
 glob:base.Ns mainGlobals mg
 blt:∃mb,base.Ns builtinsNs mb/\∀x:Str,x ≠ "__name__"->mb x=bootBuiltins x
 nolimit:base.NoLimit
structure Cx where
 prog:Program
 w:World
 K:ac
 mg:Str->Option Value
 base:Heap
 A:Around
 N:List Str
 s₀:Shared
 H₀:Hp
 env:Env
 outer:List Env
 stack:List Env
 ex:List Addr
 fn:Str->Bool
 calm:Bool
 pn:List (Addr×Obj)
 xe:Value->Shared->Prop
noncomputable def frs (l:List Env):List Addr:=l.filterMap (·.frame)
noncomputable abbrev Cx.fs (X:Cx):List Addr:=frs X.outer
noncomputable def Vis (j:Scope)(x:Str):Prop:=j.names.lookup x=some .local\/j.names.lookup x=some .cell\/j.names.lookup x=some .free
noncomputable def Loc (j:Scope)(x:Str):Prop:=j.names.lookup x=some .local\/j.names.lookup x=some .cell
noncomputable def Look (env:Env)(h:Heap)(m:Str->Option Value)(x:Str)(u:Value):Prop:=
 (env.kindOf x=some .local/\m x=some u)\/((env.kindOf x=some .cell\/env.kindOf x=some .free)/\∃c,env.cells.lookup x=some c/\h.IsCell c (some u))
structure Cx.Ok (X:Cx):Prop where
 mod:Mod X.K X.mg X.base
 kind:X.env.scope.kind=.function
 glob:X.env.globals=mainGlobals
 blt:X.env.builtins=builtinsNs
 above:X.s₀.heap.objs.size<=X.env.locals
 inj:∀x y c,X.env.cells.lookup x=some c->X.env.cells.lookup y=some c->x=y
 has:∀x,(X.env.kindOf x=some .cell\/X.env.kindOf x=some .free)->∃c,X.env.cells.lookup x=some c
 cab:∀x c,X.fn x=true->X.env.cells.lookup x=some c->X.s₀.heap.objs.size<=c
 hd:X.calm=true->X.A.handled=none
 frames:X.A.frames=some X.stack
 stk:X.stack=X.outer\/(X.stack=X.env::X.outer/\X.env.frame=some X.env.locals)
 exf:∀b∈X.ex,b≠X.env.locals/\∀x c,X.env.cells.lookup x=some c->c≠b
 bs:∀b o,X.base.get? b=some o->X.s₀.heap.get? b=some o/\X.H₀ b=none
 bsz:X.base.objs.size<=X.s₀.heap.objs.size
 noex:∀b o,X.base.get? b=some o->b∉X.ex
 exfs:∀b∈X.ex,b∉X.fs
 funs:X.s₀.heap.FunFrames X.base X.outer
 frf:∀b∈X.fs,X.H₀ b=none
structure Inv (X:Cx)(pins:List (Addr×Obj))(σ:List (Option V))(H:Hp)(s:Shared):Prop where
 ok:X.Ok
 os:s.os=X.s₀.os
 bare:fv s.gens
 base:Un X.fs X.ex X.H₀ H X.s₀.heap s.heap
 loc:∃m,s.heap.Ns X.env.locals m/\∀(i:Nat) (x:Str) (v:V),X.N[i]?=some x->σ[i]?=some (some v)->Vis X.env.scope x->∃u,RelV v u/\Look X.env s.heap m x u
 cell:∀x c,X.env.cells.lookup x=some c->∃v,s.heap.IsCell c v
 free:H X.env.locals=none
 freeC:∀x c,X.env.cells.lookup x=some c->H c=none
 pin:∀p∈X.pn++pins,s.heap.get? p.1=some p.2/\H p.1=none/\p.1≠X.env.locals/\p.1∉X.fs/\∀v,p.2.data≠.cell v
 hok:JB X.prog X.w H s.heap
 len:σ.length=X.N.length
section
variable {X:Cx}{pins:List (Addr×Obj)}{σ:List (Option V)}{H H':Hp}{s:Shared}{h':Heap}
theorem Cx.Ok.nofr (ok:X.Ok){b:Addr}{o:Obj}(e:X.base.get? b=some o):b∉X.fs:=fun hb=>by
 have:=(ok.funs.mem hb).1;rw[e] at this;cases this
theorem Inv.bs (I:Inv X pins σ H s):∀b o,X.base.get? b=some o->s.heap.get? b=some o/\H b=none:=fun b o e=>
 ⟨I.base.keep b o (I.ok.bs b o e).1 (I.ok.bs b o e).2 (I.ok.nofr e) (I.ok.noex b o e),I.base.free b o (I.ok.bs b o e).1 (I.ok.bs b o e).2 (I.ok.noex b o e)⟩
theorem Inv.bk (I:Inv X pins σ H s):∀b o,X.base.get? b=some o->s.heap.get? b=some o:=fun b o e=>(I.bs b o e).1
theorem Inv.mod (I:Inv X pins σ H s):Mod X.K X.mg X.base:=I.ok.mod
theorem Inv.kIn (I:Inv X pins σ H s):X.K.In s.heap:=I.ok.mod.kin.keeps I.bk
theorem Inv.lt (I:Inv X pins σ H s):X.env.locals<s.heap.objs.size:=let ⟨_,j,_⟩:=I.loc;j.lt
theorem Inv.sz (I:Inv X pins σ H s):X.s₀.heap.objs.size<=s.heap.objs.size:=aK I.ok.above (gF I.lt)
theorem Inv.nofs (I:Inv X pins σ H s){a:Addr}(h:s.heap.objs.size<=a):a∉X.fs:=fun hb=>by
 obtain⟨_,o,j,_⟩:=I.ok.funs.mem hb;exact absurd (ak (Zp j) (aK I.sz h)) (a9 _)
theorem Inv.cne (I:Inv X pins σ H s):∀x c,X.env.cells.lookup x=some c->c≠X.env.locals:=fun x c e z=>by
 obtain⟨v,o,O,hd⟩:=I.cell x c e;obtain⟨m,⟨Y,es,ep,j,J,_⟩,_⟩:=I.loc;rw[z,j] at O;cases O;rw[J] at hd;cases hd
theorem Inv.funs (I:Inv X pins σ H s):s.heap.FunFrames X.base X.outer:=by
 have all:∀(l:List Env),(∀b∈frs l,b∈X.fs)->X.s₀.heap.FunFrames X.base l->s.heap.FunFrames X.base l:=by
  intro l;induction l with
  |nil=>intro _ _;trivial
  |cons env r O=>
   intro J Y;obtain⟨hk,⟨L,o,hf,hn,ho,hd⟩,hr⟩:=Y;have j:L∈X.fs:=J L (by unfold frs;rw[bQ,hf];exact ah);obtain⟨sl,e⟩:=I.base.slot L o ho (I.ok.frf L j) j fun z=>I.ok.exfs L z j;exact⟨hk,⟨L,_,hf,hn,e,hd⟩,O (fun b hb=>J b (by unfold frs;rw[bQ,hf];exact ae _ hb)) hr⟩
 exact all X.outer (fun _ hb=>hb) I.ok.funs
theorem Inv.stack (I:Inv X pins σ H s):s.heap.FunFrames X.base X.stack:=by
 rcases I.ok.stk with e|⟨e,hf⟩
 ·rw[e];exact I.funs
 ·rw[e]
  obtain⟨m,j,_⟩:=I.loc;refine .cons (by rw[I.ok.kind];decide) hf j ?_ I.funs;exact cI (aK I.ok.bsz I.ok.above)
theorem Inv.stkSub (I:Inv X pins σ H s):∀b∈frs X.stack,b∈X.env.locals::X.fs:=fun b hb=>by
 rcases I.ok.stk with e|⟨e,hf⟩
 ·rw[e] at hb;exact ae _ hb
 ·rw[e] at hb
  unfold frs at hb;rw[bQ,hf] at hb;exact hb
theorem Inv.stkFree (I:Inv X pins σ H s):∀b∈frs X.stack,H b=none:=fun b hb=>by
 rcases aj.mp (I.stkSub b hb) with e|hb
 ·rw[e];exact I.free
 ·obtain⟨_,o,j,_⟩:=I.ok.funs.mem hb
  exact I.base.free b o j (I.ok.frf b hb) fun z=>I.ok.exfs b z hb
theorem Inv.step {g':Array GenState}{t':Nat}{d':Drawn}{ch:List Addr}(I:Inv X pins σ H s)
  (J:∀b∈ch,(b∈X.ex\/X.s₀.heap.objs.size<=b)/\b≠X.env.locals/\(∀x c,X.env.cells.lookup x=some c->c≠b)/\∀p∈X.pn++pins,p.1≠b)
  (keep:∀b o,b≠X.env.locals->b∉X.fs->b∉ch->s.heap.get? b=some o->H b=none->h'.get? b=some o)
  (slot:∀b o,b≠X.env.locals->b∈X.fs->b∉ch->s.heap.get? b=some o->H b=none->∃sl,h'.get? b=some {o with slots:=sl}) (free:∀b o,b∉ch->s.heap.get? b=some o->H b=none->H' b=none)
  (j4:∀b o,b∉ch->s.heap.get? b=some o->∃o',h'.get? b=some o')
  (j6:∀b xs,H b=some (.tup xs)->H' b=some (.tup xs)) (j7:∀b o u,H b=some (.frz o u)->H' b=some (.frz o u)) (j8:∀b ps,H b=some (.tbl ps)->∃j9,H' b=some (.tbl (ps++j9)))
  (ns:∀m,s.heap.Ns X.env.locals m->h'.Ns X.env.locals m) (hok:JB X.prog X.w H' h') (hg:fv g') :
  Inv X pins σ H' {s with heap:=h',gens:=g',drawn:=d',toks:=t'}:=by
 have l7:∀b o,X.s₀.heap.get? b=some o->b≠X.env.locals:=fun b o e=>aA (ak (Zp e) I.ok.above);have neC:∀b o,X.s₀.heap.get? b=some o->b∉X.ex->b∉ch:=fun b o e j hb=>by
  rcases (J b hb).1 with z|z
  ·exact j z
  ·exact absurd (ak (Zp e) z) (a9 _)
 have O:∀x c,X.env.cells.lookup x=some c->∀v,s.heap.IsCell c v->h'.IsCell c v:=fun x c e v ⟨o,ho,hd⟩=>by
  have Y:c∉ch:=fun z=>(J c z).2.2.1 x c e rfl;by_cases hc:c∈X.fs
  ·obtain⟨sl,q⟩:=slot c o (I.cne x c e) hc Y ho (I.freeC x c e)
   exact⟨_,q,hd⟩
  ·exact⟨o,keep c o (I.cne x c e) hc Y ho (I.freeC x c e),hd⟩
 refine⟨I.ok,I.os,hg,⟨fun b o e n hb j=>?_,fun b o e n hb j=>?_,fun b o e n j=>?_,fun b o e j=>?_,fun b xs e=>j6 b xs (I.base.tups b xs e),fun b o xs e=>j7 b o xs (I.base.frzs b o xs e),fun b ps e=>?_⟩,?_,fun x c e=>?_,?_,fun x c e=>?_,fun p hp=>?_,hok,I.len⟩
 ·exact keep b o (l7 b o e) hb (neC b o e j) (I.base.keep b o e n hb j) (I.base.free b o e n j)
 ·obtain⟨sl,e1⟩:=I.base.slot b o e n hb j
  obtain⟨l8,e2⟩:=slot b _ (l7 b o e) hb (neC b o e j) e1 (I.base.free b o e n j);exact⟨l8,e2⟩
 ·obtain⟨o',e1⟩:=I.base.there b o e j
  exact free b o' (neC b o e j) e1 (I.base.free b o e n j)
 ·obtain⟨o',e1⟩:=I.base.there b o e j
  exact j4 b o' (neC b o e j) e1
 ·obtain⟨m1,e1⟩:=I.base.tbls b ps e
  obtain⟨m2,e2⟩:=j8 b _ e1;exact⟨m1++m2,by rw[e2,Array.append_assoc]⟩
 ·obtain⟨m,hn,hl⟩:=I.loc
  refine⟨m,ns m hn,fun i x v e1 e2 e3=>?_⟩;obtain⟨u,r,l⟩:=hl i x v e1 e2 e3;refine⟨u,r,?_⟩;rcases l with l|⟨k,c,e,z⟩
  ·exact .inl l
  ·exact .inr ⟨k,c,e,O x c e _ z⟩
 ·obtain⟨v,z⟩:=I.cell x c e
  exact⟨v,O x c e v z⟩
 ·obtain⟨m,⟨o,_,_,ho,_⟩,_⟩:=I.loc
  exact free _ o (fun z=>(J _ z).2.1 rfl) ho I.free
 ·obtain⟨v,o,ho,hd⟩:=I.cell x c e
  exact free c o (fun z=>(J c z).2.2.1 x c e rfl) ho (I.freeC x c e)
 ·obtain⟨e,n,ne,nf,d⟩:=I.pin p hp
  have Y:p.1∉ch:=fun z=>(J p.1 z).2.2.2 p hp rfl;exact⟨keep p.1 p.2 ne nf Y e n,free p.1 p.2 Y e n,ne,nf,d⟩
theorem Inv.un {t':Nat}(I:Inv X pins σ H s)(u:Un X.fs [] H H' s.heap h')(J:JB X.prog X.w H' h'):Inv X pins σ H' {s with heap:=h',toks:=t'}:=by
 obtain⟨m,⟨o,es,ep,ho,r⟩,_⟩:=id I.loc;obtain⟨sl,hL⟩:=u.any ho I.free (by simp);exact I.step (g':=s.gens) (d':=s.drawn) (ch:=[]) (fun _ z=>nomatch z) (fun b o _ hb _ e n=>u.keep b o e n hb (by simp)) (fun b o _ hb _ e n=>u.slot b o e n hb (by simp)) (fun b o _ e n=>u.free b o e n (by simp)) (fun b o _ e=>u.there b o e (by simp)) u.tups u.frzs u.tbls (fun m' hm=>by
  obtain⟨o',O,Y,j,r'⟩:=hm;rw[ho] at j;cases j;exact⟨_,O,Y,hL,r'⟩) J I.bare
theorem Inv.call {g':Array GenState}{t':Nat}{d':Drawn}{ch:List Addr}(I:Inv X pins σ H s)(u:Un (frs X.stack) ch H H' s.heap h')(Y:JB X.prog X.w H' h')(hg:fv g')
  (J:∀b∈ch,(b∈X.ex\/X.s₀.heap.objs.size<=b)/\b≠X.env.locals/\(∀x c,X.env.cells.lookup x=some c->c≠b)/\∀p∈X.pn++pins,p.1≠b) :
  Inv X pins σ H' {s with heap:=h',gens:=g',drawn:=d',toks:=t'}:=by
 obtain⟨m,⟨o,es,ep,ho,r⟩,_⟩:=id I.loc;obtain⟨sl,hL⟩:=u.any ho I.free fun z=>(J _ z).2.1 rfl;exact I.step (ch:=ch) J (fun b o hL hb j e n=>u.keep b o e n (fun z=>(aj.mp (I.stkSub b z)).elim hL hb) j) (fun b o _ _ j e n=>u.any e n j) (fun b o j e n=>u.free b o e n j) (fun b o j e=>u.there b o e j) u.tups u.frzs u.tbls (fun m' hm=>by
  obtain⟨o',j4,j6,O,r'⟩:=hm;rw[ho] at O;cases O;exact⟨_,j4,j6,hL,r'⟩) Y hg
theorem Inv.turned {t':Nat}{it:Addr}(I:Inv X pins σ H s)(k:∀b o,b≠it->s.heap.get? b=some o->h'.get? b=some o)(Y:H it=none)(O:it≠X.env.locals)
  (h1:it∈X.ex\/X.s₀.heap.objs.size<=it) (h2:∀x c,X.env.cells.lookup x=some c->c≠it) (h3:∀p∈X.pn++pins,p.1≠it):Inv X pins σ H {s with heap:=h',toks:=t'}:=by
 have J:∀b u,H b=some u->b≠it:=fun b u e z=>by rw[z,Y] at e;cases e
 refine I.step (g':=s.gens) (d':=s.drawn) (ch:=[it]) (fun b hb=>?_) (fun b o _ _ j e _=>k b o (fun z=>j (by simp[z])) e) (fun b o _ _ j e _=>⟨o.slots,k b o (fun z=>j (by simp[z])) e⟩) (fun _ _ _ _ n=>n)
  (fun b o j e=>⟨o,k b o (fun z=>j (by simp[z])) e⟩) (fun _ _ e=>e) (fun _ _ _ e=>e) (fun b ps e=>⟨#[],by rw[e];simp⟩) (fun m hm=>?_) (fun b u e=>?_) I.bare
 ·have e:b=it:=by simpa using hb
  subst e;exact⟨h1,O,h2,h3⟩
 ·obtain⟨o,es,ep,ho,r⟩:=hm
  exact⟨o,es,ep,k _ o (bC O) ho,r⟩
 ·refine (I.hok b u e).stay (fun c v j q=>k c v ?_ q) (fun _ q=>q) fun _ _ q=>q
  rcases j with z|z
  ·rw[z];exact J b u e
  ·exact J c _ z
theorem Inv.tok (I:Inv X pins σ H s)(t:Nat):Inv X pins σ H {s with toks:=t}:=I.un (h':=s.heap) (t':=t) Un.refl I.hok
theorem Inv.kept {t':Nat}(I:Inv X pins σ H s)(k:∀b u,s.heap.get? b=some u->h'.get? b=some u):Inv X pins σ H {s with heap:=h',toks:=t'}:=I.un (Un.kept k) (I.hok.kept k)
theorem Inv.laid {a:Addr}{o:HO}{t':Nat}(I:Inv X pins σ H s)(k:∀b u,s.heap.get? b=some u->h'.get? b=some u)(j:s.heap.objs.size<=a)(z:Yf X.prog X.w (upd H a o) h' a o) :
  Inv X pins σ (upd H a o) {s with heap:=h',toks:=t'}:=I.un (Un.laid k j (I.hok.fresh j)) (I.hok.laid k j z)
theorem Inv.write {x e:Addr}{o:HO}{t':Nat}(I:Inv X pins σ H s)(J:Mut (H x))(O:e=x\/H e=some (.own x))(k:∀b u,b≠e->s.heap.get? b=some u->h'.get? b=some u)(j:∃u,h'.get? e=some u)
  (z:Yf X.prog X.w (upd H x o) h' x o):Inv X pins σ (upd H x o) {s with heap:=h',toks:=t'}:=I.un (Un.write J O k j) (I.hok.write J O k j z)
theorem Inv.weak {j:List (Option V)}(I:Inv X pins σ H s)(J:j.length=σ.length)(w:∀(i:Nat) v,j[i]?=some (some v)->σ[i]?=some (some v)):Inv X pins j H s:=
 ⟨I.ok,I.os,I.bare,I.base,let ⟨m,O,z⟩:=I.loc;⟨m,O,fun i x v Y e2 e3=>z i x v Y (w i v e2) e3⟩,I.cell,I.free,I.freeC,I.pin,I.hok,J.trans I.len⟩
theorem Inv.pins_of {j:List (Addr×Obj)}(I:Inv X pins σ H s)(h:∀p∈j,s.heap.get? p.1=some p.2/\H p.1=none/\p.1≠X.env.locals/\p.1∉X.fs/\∀v,p.2.data≠.cell v):Inv X j σ H s:=
 ⟨I.ok,I.os,I.bare,I.base,I.loc,I.cell,I.free,I.freeC,fun p J=>(aD.mp J).elim (fun z=>I.pin p (bE _ z)) (h p),I.hok,I.len⟩
theorem XZ {N:List Str}(z:N.Nodup){i j:Nat}{x:Str}(a:N[i]?=some x)(b:N[j]?=some x):i=j:=by
 obtain⟨Y,J⟩:=aH.mp a;obtain⟨h2,O⟩:=aH.mp b;exact (List.getElem_inj z).mp (J.trans O.symm)
theorem Vy {M:Model}{A:Around}{E:Value->Shared->Prop}{i:Nat}{x:Str}{v:V}{u:Value}{Q:Unit->Shared->Prop}(I:Inv X pins σ H s)(hN:X.N.Nodup)(hi:X.N[i]?=some x)(hx:Loc X.env.scope x)(r:RelV v u)
  (h:∀s',Inv X pins (σ.set i (some v)) H s'->(∃a,bd a s.heap s'.heap/\(a=X.env.locals\/X.env.cells.lookup x=some a))->Q () s') (hf:X.fn x=true\/X.env.scope.names.lookup x=some .local:=by first|exact .inl rfl|exact .inr rfl|assumption):wpAny M A (storeName X.env x u) Q E s:=by
 obtain⟨m,hn,hl⟩:=id I.loc;have j8:(X.env.scope.kind == .class || (X.env.scope.kind == .module && X.env.locals != X.env.globals))=false:=by rw[I.ok.kind];rfl
 have j6:i < σ.length:=by rw[I.len];exact (aH.mp hi).1
 have cne:=I.cne;have O:∀{a:Addr}{h':Heap},(∃o,s.heap.get? a=some o/\H a=none)->bd a s.heap h'->JB X.prog X.w H h':=fun {a h'} ha J b ob e=>by
  obtain⟨_,_,j4⟩:=ha;refine (I.hok b ob e).stay (fun c w' hc q=>(J.2 c ?_).trans q) (fun _ q=>q) fun _ _ q=>q;rintro rfl;rcases hc with rfl|hc
  ·rw[j4] at e;cases e
  ·rw[j4] at hc;cases hc
 rcases hx with hk|hk
 ·refine wpAny_storeName_local hk hn (fun h' m3 J=>?_) j8
  obtain⟨oL,_,_,m4,_⟩:=id hn;refine h _ ⟨I.ok,I.os,I.bare,⟨fun b o e n hb hx=>?_,fun b o e n hb hx=>?_,I.base.free,fun b o e hx=>?_,I.base.tups,I.base.frzs,I.base.tbls⟩,⟨_,m3,fun j y v' Y e2 e3=>?_⟩,fun y c e=>?_,I.free,I.freeC,fun p hp=>?_,O ⟨oL,m4,I.free⟩ J,by simpa using I.len⟩ ⟨_,J,.inl rfl⟩
  ·exact (J.2 b (aA (ak (Zp e) I.ok.above))).trans (I.base.keep b o e n hb hx)
  ·obtain⟨sl,Y⟩:=I.base.slot b o e n hb hx
   exact⟨sl,(J.2 b (aA (ak (Zp e) I.ok.above))).trans Y⟩
  ·obtain⟨o',Y⟩:=I.base.there b o e hx
   exact⟨o',(J.2 b (aA (ak (Zp e) I.ok.above))).trans Y⟩
  ·by_cases hj:j=i
   ·subst hj
    rw[hi] at Y;cases Y;rw[fw j6] at e2;cases e2;exact⟨u,r,.inl ⟨hk,by simp⟩⟩
   ·rw[fF (bC hj)] at e2
    obtain⟨u',r',q⟩:=hl j y v' Y e2 e3;refine⟨u',r',?_⟩;rcases q with ⟨k,e⟩|⟨k,c,e,z⟩
    ·refine .inl ⟨k,?_⟩
     have:y≠x:=fun e=>hj (XZ hN Y (e▸hi));simp[this,e]
    ·exact .inr ⟨k,c,e,z.sameBut J (cne y c e)⟩
  ·obtain⟨w',z⟩:=I.cell y c e
   exact⟨w',z.sameBut J (cne y c e)⟩
  ·obtain⟨e,n,ne,nf,d⟩:=I.pin p hp
   exact⟨(J.2 p.1 ne).trans e,n,ne,nf,d⟩
 ·have j7:X.fn x=true:=by
   rcases hf with z|z
   ·exact z
   ·rw[z] at hk;cases hk
  obtain⟨c,hc⟩:=I.ok.has x (.inl hk);obtain⟨w',z⟩:=I.cell x c hc;refine wpAny_storeName_cell I.ok.kind hk hc z (fun h' j9 J=>?_);obtain⟨oc,l7,l8⟩:=id z;refine h {s with heap:=h'} ⟨I.ok,I.os,I.bare,⟨fun b o e n hb hx=>?_,fun b o e n hb hx=>?_,I.base.free,fun b o e hx=>?_,I.base.tups,I.base.frzs,I.base.tbls⟩,⟨m,hn.sameBut J (bC (cne x c hc)),fun j y v' Y e2 e3=>?_⟩,fun y c' e=>?_,I.free,I.freeC,fun p hp=>?_,O ⟨oc,l7,I.freeC x c hc⟩ J,by simpa using I.len⟩ ⟨c,J,.inr hc⟩
  ·exact (J.2 b (aA (ak (Zp e) (I.ok.cab x c j7 hc)))).trans (I.base.keep b o e n hb hx)
  ·obtain⟨sl,Y⟩:=I.base.slot b o e n hb hx
   exact⟨sl,(J.2 b (aA (ak (Zp e) (I.ok.cab x c j7 hc)))).trans Y⟩
  ·obtain⟨o',Y⟩:=I.base.there b o e hx
   exact⟨o',(J.2 b (aA (ak (Zp e) (I.ok.cab x c j7 hc)))).trans Y⟩
  ·by_cases hj:j=i
   ·subst hj
    rw[hi] at Y;cases Y;rw[fw j6] at e2;cases e2;exact⟨u,r,.inr ⟨.inl hk,c,hc,j9⟩⟩
   ·rw[fF (bC hj)] at e2
    obtain⟨u',r',q⟩:=hl j y v' Y e2 e3;refine⟨u',r',?_⟩;rcases q with q|⟨k,c',e,z'⟩
    ·exact .inl q
    ·refine .inr ⟨k,c',e,z'.sameBut J ?_⟩
     rintro rfl;exact hj (XZ hN Y (I.ok.inj _ _ _ e hc▸hi))
  ·by_cases l9:c'=c
   ·subst l9;exact⟨_,j9⟩
   ·obtain⟨w2,z2⟩:=I.cell y c' e
    exact⟨w2,z2.sameBut J l9⟩
  ·obtain⟨e,n,ne,nf,d⟩:=I.pin p hp
   refine⟨(J.2 p.1 ?_).trans e,n,ne,nf,d⟩;intro q;rw[q,l7] at e;have q':oc=p.2:=ay e;exact d w' (by rw[<-q'];exact l8)
theorem Wm {M:Model}{A:Around}{E:Value->Shared->Prop}{i:Nat}{x:Str}{v:V}{u:Value}{Q:Unit->Shared->Prop}(I:Inv X pins σ H s)(j:X.N.Nodup)(z:X.N[i]?=some x)(J:Loc X.env.scope x)(r:RelV v u)
  (h:∀s',Inv X pins (σ.set i (some v)) H s'->Q () s') (O:X.fn x=true\/X.env.scope.names.lookup x=some .local:=by first|exact .inl rfl|exact .inr rfl|assumption):wpAny M A (storeName X.env x u) Q E s:=
 Vy I j z J r (fun s' Y _=>h s' Y) O
theorem Inv.call' {s':Shared}{ch:List Addr}(I:Inv X pins σ H s)(ho:s'.os=s.os)(u:Un (frs X.stack) ch H H' s.heap s'.heap)(j:JB X.prog X.w H' s'.heap)(hg:fv s'.gens)
  (z:∀b∈ch,(b∈X.ex\/X.s₀.heap.objs.size<=b)/\b≠X.env.locals/\(∀x c,X.env.cells.lookup x=some c->c≠b)/\∀p∈X.pn++pins,p.1≠b):Inv X pins σ H' s':=by
 obtain⟨h',J,O,Y,o'⟩:=s';have e:o'=s.os:=ho;subst e;exact I.call (g':=J) (t':=Y) (d':=O) u j hg z
end
noncomputable abbrev XK:=Value->Option Addr->Hp->Prop
noncomputable abbrev St:=List (Option V)
noncomputable abbrev VK:=V->Hp->Prop
noncomputable abbrev TE:=St->Hp->VK->Prop
noncomputable abbrev TT:=St->Hp->(Bool->Hp->Prop)->Prop
noncomputable abbrev TA:=St->Hp->(List V->Hp->Prop)->Prop
structure YH where
 nx:St->Hp->Prop
 rt:VK
 bk:St->Hp->Prop:=fun _ _=>False
 ct:St->Hp->Prop:=fun _ _=>False
noncomputable abbrev TS:=YH->St->Hp->Prop
noncomputable def EP (X:Cx)(j:List (Addr×Obj))(J:St)(Q:VK)(u:Value)(s':Shared):Prop:=∃v z,Inv X j J z s'/\RelV v u/\Q v z
noncomputable def TP (X:Cx)(j:List (Addr×Obj))(J:St)(Q:Bool->Hp->Prop)(b:Bool)(s':Shared):Prop:=∃z,Inv X j J z s'/\Q b z
noncomputable def AP (X:Cx)(j:List (Addr×Obj))(O:St)(Q:List V->Hp->Prop)(Y:List Value)(s':Shared):Prop:=∃z J,Inv X j O J s'/\ZN z Y/\Q z J
noncomputable def SP (X:Cx)(z:List (Addr×Obj))(D:YH)(f:Flow)(s':Shared):Prop:=
 match f with
 | .next=>∃ j J,Inv X z j J s'/\D.nx j J
 | .brk=>∃ j J,Inv X z j J s'/\D.bk j J
 | .cont=>∃ j J,Inv X z j J s'/\D.ct j J
 | .ret u=>∃v j J,Inv X z j J s'/\RelV v u/\D.rt v J
noncomputable def PE (X:Cx)(e:Expr)(t:TE):Prop:=
 ∀(j:List (Addr×Obj)) (s:Shared) (z:St) (H:Hp) (Q:VK),Inv X j z H s->t z H Q->wpAny (model X.prog X.w) X.A (eval e X.env) (EP X j z Q) X.xe s
noncomputable def PT (X:Cx)(e:Expr)(t:TT):Prop:=
 ∀(j:List (Addr×Obj)) (s:Shared) (z:St) (H:Hp) (Q:Bool->Hp->Prop),Inv X j z H s->t z H Q->wpAny (model X.prog X.w) X.A (isTrue e X.env (eval e X.env)) (TP X j z Q) X.xe s
noncomputable def PW (X:Cx)(e:Expr)(t:TT):Prop:=
 ∀(z:Sem Value) (j:List (Addr×Obj)) (s:Shared) (J:St) (H:Hp) (Q:Bool->Hp->Prop),Inv X j J H s->t J H Q->wpAny (model X.prog X.w) X.A (isTrue e X.env z) (TP X j J Q) X.xe s
theorem PW.pt {X:Cx}{e:Expr}{t:TT}(h:PW X e t):PT X e t:=h _
noncomputable def PA (X:Cx)(J:List Expr)(t:TA):Prop:=
 ∀(pos:Pos) (j:List (Addr×Obj)) (s:Shared) (z:St) (H:Hp) (Q:List V->Hp->Prop),Inv X j z H s->t z H Q->wpAny (model X.prog X.w) X.A (spliced (backTo pos (starEach J X.env))) (AP X j z Q) X.xe s
noncomputable def PS (X:Cx)(st:Stmt)(t:TS):Prop:=
 ∀(j:List (Addr×Obj)) (s:Shared) (z:St) (H:Hp) (D:YH),Inv X j z H s->t D z H->wpAny (model X.prog X.w) X.A (exec st X.env) (SP X j D) X.xe s
noncomputable def Vi (X:Cx)(st:List Stmt)(t:TS):Prop:=
 ∀(j:List (Addr×Obj)) (s:Shared) (z:St) (H:Hp) (D:YH),Inv X j z H s->t D z H->wpAny (model X.prog X.w) X.A (execs st X.env) (SP X j D) X.xe s
theorem ZW {α:Type}{t:Sem α}{Q j:α->Shared->Prop}{M:Model}{A:Around}{E:Value->Shared->Prop}{s:Shared}(h:wpAny M A t Q E s)(z:∀a s,Q a s->j a s):wpAny M A t j E s:=aY h z fun _ _ x=>x
section
variable {X:Cx}
noncomputable def Yq (i:Nat):TE:=fun σ H Q=>∃v,σ[i]?=some (some v)/\Q v H
noncomputable def tC (v:V):TE:=fun _ H Q=>Q v H
theorem Zgf {i:Nat}{x:Str}{pos:Pos}(hN:X.N[i]?=some x)(hv:Vis X.env.scope x)(Y:(x == ("__debug__":Str))=false:=by decide)(j4:(x == ("__classdict__":Str))=false:=by decide):PE X (.Name x pos) (Yq i):=by
 intro O s σ H Q I h;obtain⟨v,e,h⟩:=h;obtain⟨m,hn,hl⟩:=I.loc;obtain⟨u,r,l⟩:=hl i x v hN e hv;have z:EP X O σ Q u s:=⟨v,H,I,r,h⟩;rcases l with ⟨J,hm⟩|⟨J,c,hc,j⟩
 ·exact wpAny_Name (wpAny_loadName_local I.ok.kind J hn hm z) Y
 ·rcases J with J|J
  ·exact wpAny_Name (wpAny_loadName_cell I.ok.kind J hc j z) Y
  ·exact wpAny_Name (wpAny_loadName_free I.ok.kind J hc j z j4) Y
theorem Zu {i j pos}:PE X (.Constant (.int i) j pos) (tC (.int i)):=fun _ _ _ H _ I h=>wpAny_Constant_int ⟨.int i,H,I.tok _,⟨_,rfl⟩,h⟩
theorem Zdk {b j pos}:PE X (.Constant (.bool b) j pos) (tC (.bl b)):=fun _ _ _ H _ I h=>Constant_bool ⟨.bl b,H,I,rfl,h⟩
theorem Yd {j pos}:PE X (.Constant .none j pos) (tC .non):=fun _ _ _ H _ I h=>Constant_none ⟨.non,H,I,rfl,h⟩
theorem ZA {x j pos}:PE X (.Constant (.str x) j pos) (tC (.str x)):=fun _ _ _ H _ I h=>fX ⟨.str x,H,I.tok _,⟨_,rfl⟩,h⟩
noncomputable def Gl (X:Cx)(x:Str):Prop:=X.env.kindOf x=some .globalImplicit
theorem Je {E:Value->Shared->Prop}{j:List (Addr×Obj)}{s:Shared}{σ:St}{H:Hp}{x:Str}{u:Value}{pos:Pos}{Q:Value->Shared->Prop}(I:Inv X j σ H s)(z:Gl X x)(J:X.mg x=some u)(h:Q u s)
  (O:(x == ("__debug__":Str))=false:=by decide):wpAny (model X.prog X.w) X.A (eval (.Name x pos) X.env) Q E s:=
 ib I.ok.kind z (Calls.loadGlobal_global (by rw[I.ok.glob];exact I.mod.glob.keeps I.bk) J h) O
theorem J7 {E:Value->Shared->Prop}{j:List (Addr×Obj)}{s:Shared}{σ:St}{H:Hp}{x:Str}{u:Value}{pos:Pos}{Q:Value->Shared->Prop}(I:Inv X j σ H s)(z:Gl X x)(J:X.mg x=none)(O:bootBuiltins x=some u)(h:Q u s)
  (Y:x ≠ "__name__":=by decide) (hd:(x == ("__debug__":Str))=false:=by decide):wpAny (model X.prog X.w) X.A (eval (.Name x pos) X.env) Q E s:=by
 obtain⟨mb,h1,h2⟩:=I.mod.blt;exact ib I.ok.kind z (Calls.loadGlobal_builtin (by rw[I.ok.glob];exact I.mod.glob.keeps I.bk) J (by rw[I.ok.blt];exact h1.keeps I.bk) ((h2 x Y).trans O) h) hd
theorem Zbt {x:Str}{v:V}{u:Value}{pos:Pos}(j:Gl X x)(z:X.mg x=some u)(r:RelV v u)(J:(x == ("__debug__":Str))=false:=by decide):PE X (.Name x pos) (tC v):=
 fun _ _ _ H _ I h=>Je I j z ⟨v,H,I,r,h⟩ J
theorem Zez {x:Str}{v:V}{u:Value}{pos:Pos}(j:Gl X x)(z:X.mg x=none)(J:bootBuiltins x=some u)(r:RelV v u)(O:x ≠ "__name__":=by decide)(Y:(x == ("__debug__":Str))=false:=by decide):PE X (.Name x pos) (tC v):=
 fun _ _ _ H _ I h=>J7 I j z J ⟨v,H,I,r,h⟩ O Y
variable {a b:Expr}{ta tb:TE}{pos:Pos}
noncomputable def tB (t:TE):TT:=fun j H Q=>t j H fun x z=>∃c,x=.bl c/\Q c z
theorem Wg {e:Expr}{t:TE}(h:PE X e t)(J:∀j,isTrue e X.env j=(do let v <-j;standAt e.pos;holding [v] (truthy v)):=by intro _;rfl):PT X e (tB t):=by
 intro z s O H Q I Y;refine isTrue_plain (ZW (h z s O H _ I Y) fun v s1 ⟨x,H1,I1,r1,q1⟩=>?_) (J _);obtain⟨d,rfl,q⟩:=q1;cases r1;exact bI ⟨H1,I1,q⟩
variable {tA tB':TT}{rest:List Expr}
noncomputable def ZfQ (t u:TT):TT:=fun j H Q=>t j H fun c z=>if c=true then u j z Q else Q false z
noncomputable def tOr (t u:TT):TT:=fun j H Q=>t j H fun c z=>if c=true then Q true z else u j z Q
noncomputable def ZcX (t:TT):TT:=fun j H Q=>t j H fun c z=>Q (!c) z
theorem Y0 (z:PT X a tA):PW X (.BoolOp .And [a] pos) tA:=by
 intro O j s J H Q I h;refine isTrue_and (ZW (z j s J H Q I h) fun c Y e=>?_);cases c with
 |true=>exact isTrue_and_nil e
 |false=>exact e
theorem Wf (z:PT X a tA):PW X (.BoolOp .Or [a] pos) tA:=by
 intro O j s J H Q I h;refine isTrue_or (ZW (z j s J H Q I h) fun c Y e=>?_);cases c with
 |false=>exact isTrue_or_nil e
 |true=>exact e
theorem WF (ha:PT X a tA)(hb:PW X (.BoolOp .And (b::rest) pos) tB'):PW X (.BoolOp .And (a::b::rest) pos) (ZfQ tA tB'):=by
 intro wh j s z H Q I h;refine isTrue_and (ZW (ha j s z H _ I h) fun c s1 ⟨J,O,Y⟩=>?_);cases c with
 |true=>exact hb wh j s1 z J Q O Y
 |false=>exact⟨J,O,Y⟩
theorem YJ (ha:PT X a tA)(hb:PW X (.BoolOp .Or (b::rest) pos) tB'):PW X (.BoolOp .Or (a::b::rest) pos) (tOr tA tB'):=by
 intro wh j s z H Q I h;refine isTrue_or (ZW (ha j s z H _ I h) fun c s1 ⟨J,O,Y⟩=>?_);cases c with
 |true=>exact⟨J,O,Y⟩
 |false=>exact hb wh j s1 z J Q O Y
theorem V5 (z:PT X a tA):PT X (.UnaryOp .Not a pos) (ZcX tA):=by
 intro j s J H Q I h;exact isTrue_not (z j s J H (fun c O=>Q (!c) O) I h)
noncomputable def Zht (ta tb:TE):TE:=fun j H Q=>ta j H fun x z=>∃c,x=.bl c/\if c=true then tb j z Q else Q (.bl false) z
noncomputable def ZiX (ta tb:TE):TE:=fun j H Q=>ta j H fun x z=>∃c,x=.bl c/\if c=true then Q (.bl true) z else tb j z Q
noncomputable def Zhm (ta:TE):TE:=fun j H Q=>ta j H fun x z=>∃c,x=.bl c/\Q (.bl (!c)) z
theorem V8 {op}{t:TE}(h:PE X a t):PE X (.BoolOp op [a] pos) t:=fun j s z H Q I J=>BoolOp_one (h j s z H Q I J)
theorem ZaG (ha:PE X a ta)(hb:PE X (.BoolOp .And (b::rest) pos) tb):PE X (.BoolOp .And (a::b::rest) pos) (Zht ta tb):=by
 intro j s J H Q I h;refine BoolOp_and (ZW (ha j s J H _ I h) fun v s1 ⟨x,O,Y,r1,z⟩=>?_);obtain⟨c,rfl,z⟩:=z;cases r1;refine bI ?_;cases c with
 |true=>exact hb j s1 J O Q Y z
 |false=>exact⟨.bl false,O,Y,rfl,z⟩
theorem Zh3 (ha:PE X a ta)(hb:PE X (.BoolOp .Or (b::rest) pos) tb):PE X (.BoolOp .Or (a::b::rest) pos) (ZiX ta tb):=by
 intro j s J H Q I h;refine BoolOp_or (ZW (ha j s J H _ I h) fun v s1 ⟨x,O,Y,r1,z⟩=>?_);obtain⟨c,rfl,z⟩:=z;cases r1;refine bI ?_;cases c with
 |false=>exact hb j s1 J O Q Y z
 |true=>exact⟨.bl true,O,Y,rfl,z⟩
theorem Zgg (J:PE X a ta):PE X (.UnaryOp .Not a pos) (Zhm ta):=by
 intro j s O H Q I h;refine UnaryOp_ (ZW (J j s O H _ I h) fun v s1 ⟨x,Y,I1,r1,z⟩=>?_);obtain⟨c,rfl,z⟩:=z;cases r1;exact not_of (bI ⟨.bl (!c),Y,I1,rfl,z⟩)
noncomputable def tIf (t:TT)(ta tb:TE):TE:=fun j H Q=>t j H fun c z=>if c=true then ta j z Q else tb j z Q
theorem Z5 {c:Expr}(hc:PT X c tA)(ha:PE X a ta)(hb:PE X b tb):PE X (.IfExp c a b pos) (tIf tA ta tb):=by
 intro j s z H Q I h;refine wpAny_IfExp (ZW (hc j s z H _ I h) fun d J ⟨O,Y,q1⟩=>?_);cases d with
 |true=>exact ha j J z O Q Y q1
 |false=>exact hb j J z O Q Y q1
end
noncomputable def WQ (K:ac)(H:Hp)(a:Addr)(xs:List V):Prop:=
 Rd H a (.lst xs)\/
  ∃(o:Obj) (j:Array Value) (n:Nat),K.lookup a=some o/\o.cls=.type "list"/\o.dict=none/\o.data=.seq j n/\j.size<=sizeLine/\ZN xs j.toList
noncomputable def WS (K:ac)(H:Hp)(a:Addr)(xs:List V):Prop:=
 Rd H a (.tup xs)\/
  ∃(o:Obj) (j:Array Value) (n:Nat),K.lookup a=some o/\o.cls=.type "tuple"/\o.data=.seq j n/\j.size<=sizeLine/\ZN xs j.toList
noncomputable def Zjk:Value->Option V
 | .none=>some .non
 | .bool b=>some (.bl b)
 | .int i _=>some (.int i)
 | .str x _=>some (.str x)
 | .bytes b _=>some (.byt b)
 | .float b _=>some (.flt b)
 | .ref a=>some (.ref a)
 | .type n=>some (.ty n)
 |_=>none
theorem RelV.abs {x:V}{u:Value}(r:RelV x u):Zjk u=some x:=by
 cases x with
 |non=>cases r;rfl
 |bl _=>cases r;rfl
 |int _=>obtain⟨t,rfl⟩:=r;rfl
 |str _=>obtain⟨t,rfl⟩:=r;rfl
 |byt _=>obtain⟨t,rfl⟩:=r;rfl
 |flt _=>obtain⟨t,rfl⟩:=r;rfl
 |ref _=>cases r;rfl
 |ty _=>cases r;rfl
theorem RelV.inj {x y:V}{u:Value}(r:RelV x u)(q:RelV y u):x=y:=ay (r.abs.symm.trans q.abs)
theorem ZN.inj:∀{xs j:List V}{us:List Value},ZN xs us->ZN j us->xs=j
 |_,_,_,.nil,.nil=>rfl
 |_,_,_,.cons r t,.cons z J=>by rw[r.inj z,ZN.inj t J]
section
variable {X:Cx}{pins:List (Addr×Obj)}{σ:St}{H:Hp}{s:Shared}{a:Addr}{xs ys:List V}
theorem WQ.of {K:ac}(h:H a=some (.lst xs)):WQ K H a xs:=.inl (.inl h)
theorem WS.of {K:ac}(h:H a=some (.tup xs)):WS K H a xs:=.inl (.inl h)
theorem Inv.list (I:Inv X pins σ H s)(h:WQ X.K H a xs):∃j:List Value,ZN xs j/\PlainL s.heap a j.toArray/\xs.length<=sizeLine:=by
 rcases h with h|⟨o,j,n,J,O,hd,Y,hz,r⟩
 ·obtain⟨z,j,n,r,e⟩:=h.ok I.hok
  exact⟨j,r,⟨_,n,e,rfl,rfl,rfl⟩,z⟩
 ·refine⟨j.toList,r,⟨o,n,I.kIn a o J,O,hd,by simpa using Y⟩,?_⟩
  have e:=r.length;simp only[Zr] at e;omega
theorem Inv.tuple (I:Inv X pins σ H s)(h:WS X.K H a xs):∃j:List Value,ZN xs j/\IsTup s.heap a j.toArray/\xs.length<=sizeLine:=by
 rcases h with h|⟨o,j,n,J,O,Y,hz,r⟩
 ·obtain⟨z,j,r,p⟩:=h.ok I.hok
  exact⟨j,r,p,z⟩
 ·refine⟨j.toList,r,⟨o,I.kIn a o J,O,n,by simpa using Y⟩,?_⟩
  have e:=r.length;simp only[Zr] at e;omega
theorem Inv.list_inj (I:Inv X pins σ H s)(h:WQ X.K H a xs)(h':WQ X.K H a ys):xs=ys:=by
 obtain⟨z,r,⟨o,n,e,_,_,d⟩,_⟩:=I.list h;obtain⟨j,Y,⟨o',n',J,_,_,O⟩,_⟩:=I.list h';rw[e] at J;cases J;rw[d] at O;injection O with d1 _;have:z=j:=by simpa using congrArg Array.toList d1
 subst this;exact r.inj Y
theorem Inv.tuple_inj (I:Inv X pins σ H s)(h:WS X.K H a xs)(h':WS X.K H a ys):xs=ys:=by
 obtain⟨z,r,⟨o,e,_,n,d⟩,_⟩:=I.tuple h;obtain⟨j,Y,⟨o',J,_,n',O⟩,_⟩:=I.tuple h';rw[e] at J;cases J;rw[d] at O;injection O with d1 _;have:z=j:=by simpa using congrArg Array.toList d1
 subst this;exact r.inj Y
end
noncomputable abbrev Cx.wish (X:Cx)(E:Value->Shared->Prop):Cx:={X with xe:=E}
noncomputable abbrev Cx.nox (X:Cx):Cx:=X.wish fun _ _=>False
theorem Cx.Ok.wish {X:Cx}(ok:X.Ok)(E:Value->Shared->Prop):(X.wish E).Ok:=
 ⟨ok.mod,ok.kind,ok.glob,ok.blt,ok.above,ok.inj,ok.has,ok.cab,ok.hd,ok.frames,ok.stk,ok.exf,ok.bs,ok.bsz,ok.noex,ok.exfs,ok.funs,ok.frf⟩
theorem Cx.Ok.unwish {X:Cx}{E:Value->Shared->Prop}(ok:(X.wish E).Ok):X.Ok:=
 ⟨ok.mod,ok.kind,ok.glob,ok.blt,ok.above,ok.inj,ok.has,ok.cab,ok.hd,ok.frames,ok.stk,ok.exf,ok.bs,ok.bsz,ok.noex,ok.exfs,ok.funs,ok.frf⟩
section
variable {X:Cx}{pins:List (Addr×Obj)}{σ:St}{H:Hp}{s:Shared}{E:Value->Shared->Prop}
theorem Inv.wish (I:Inv X pins σ H s)(E:Value->Shared->Prop):Inv (X.wish E) pins σ H s:=⟨I.ok.wish E,I.os,I.bare,I.base,I.loc,I.cell,I.free,I.freeC,I.pin,I.hok,I.len⟩
theorem Inv.unwish (I:Inv (X.wish E) pins σ H s):Inv X pins σ H s:=⟨I.ok.unwish,I.os,I.bare,I.base,I.loc,I.cell,I.free,I.freeC,I.pin,I.hok,I.len⟩
theorem SP.unwish {D:YH}{f:Flow}{s':Shared}(h:SP (X.wish E) pins D f s'):SP X pins D f s':=by
 cases f with
 |next=>obtain⟨j,z,I,q⟩:=h;exact⟨j,z,I.unwish,q⟩
 |brk=>obtain⟨j,z,I,q⟩:=h;exact⟨j,z,I.unwish,q⟩
 |cont=>obtain⟨j,z,I,q⟩:=h;exact⟨j,z,I.unwish,q⟩
 |ret u=>obtain⟨v,j,z,I,r,q⟩:=h;exact⟨v,j,z,I.unwish,r,q⟩
theorem Vi.nox {st:List Stmt}{t:TS}(h:Vi X.nox st t):Vi X st t:=fun pins s σ H D I j=>
 aY (h pins s σ H D (I.wish _) j) (fun _ _ q=>q.unwish) fun _ _ z=>bA z
end
section
variable {X:Cx}{st:Stmt}{rest:List Stmt}{t u:TS}{e:Expr}{te:TE}{pos:Pos}
noncomputable def XI:TS:=fun D j H=>D.nx j H
noncomputable def Vm (t u:TS):TS:=fun D j H=>t {D with nx:=u D} j H
theorem ZE:Vi X [] XI:=fun _ _ j H _ I h=>df ⟨j,H,I,h⟩
theorem Zt (J:PS X st t)(O:Vi X rest u):Vi X (st::rest) (Vm t u):=by
 intro j s Y H D I h;refine fB (ZW (J j s Y H {D with nx:=u D} I h) fun f s1 q=>?_);cases f with
 |next=>
  obtain⟨z,H',I',q⟩:=q;exact O j s1 z H' D I' q
 |ret v=>exact q
 |brk=>exact q
 |cont=>exact q
theorem Zw (z:PS X st t):Vi X [st] t:=by
 intro j s J H D I h;refine fB (ZW (z j s J H D I h) fun f O q=>?_);cases f with
 |next=>exact df q
 |ret v=>exact q
 |brk=>exact q
 |cont=>exact q
theorem Inv.quiet {j:List (Addr×Obj)}{σ:St}{H:Hp}{s:Shared}(I:Inv X j σ H s):interactive X.env=false:=by simp[interactive,I.ok.kind]
noncomputable def Zhp (te:TE):TS:=fun D j H=>te j H fun _ z=>D.nx j z
theorem Jb (J:PE X e te)(O:swapsWith e none pos.line X.env=pure false:=by rfl):PS X (.Expr e pos) (Zhp te):=by
 intro j s z H D I h;exact wpAny_Expr_any (ZW (J j s z H _ I h) fun v s1 ⟨x,Y,I1,r1,q1⟩=>⟨z,Y,I1,q1⟩) I.quiet O
noncomputable def Vn (te:TE):TS:=fun D j H=>te j H D.rt
theorem ZF (z:PE X e te):PS X (.Return (some e) pos) (Vn te):=by
 intro j s σ H D I h;exact wpAny_Return_some (ZW (z j s σ H _ I h) fun v s1 ⟨x,J,O,Y,q1⟩=>⟨x,σ,J,O,Y,q1⟩)
noncomputable def Zau (c:TT)(t u:TS):TS:=fun D j H=>c j H fun b z=>if b=true then t D j z else u D j z
theorem ZQ {c:Expr}{a b:List Stmt}{J:TT}(hc:PT X c J)(ha:Vi X a t)(hb:Vi X b u):PS X (.If c a b pos) (Zau J t u):=by
 intro j s z H D I h;refine wpAny_If (ZW (hc j s z H _ I h) fun d O ⟨Y,I1,q1⟩=>?_);cases d with
 |true=>exact ha j O z Y D I1 q1
 |false=>exact hb j O z Y D I1 q1
end
noncomputable abbrev TG:=V->St->Hp->(St->Hp->Prop)->Prop
noncomputable abbrev TGs:=List V->St->Hp->(St->Hp->Prop)->Prop
noncomputable def PG (X:Cx)(j:Expr)(t:TG):Prop:=
 ∀(z:List (Addr×Obj)) (s:Shared) (O:St) (H:Hp) (v:V) (u:Value) (Q:St->Hp->Prop),Inv X z O H s->RelV v u->t v O H Q->
  wpAny (model X.prog X.w) X.A (assign j X.env u) (fun _ s'=>∃ J Y,Inv X z J Y s'/\Q J Y) X.xe s
noncomputable def PGs (X:Cx)(ts:List Expr)(t:TGs):Prop:=
 ∀(j:List (Addr×Obj)) (s:Shared) (J:St) (H:Hp) (O:List V) (Y:List Value) (Q:St->Hp->Prop),Inv X j J H s->ZN O Y->t O J H Q->
  wpAny (model X.prog X.w) X.A (assignInOrder ((assignEach ts X.env).map (·.2)) Y) (fun _ s'=>∃ z H',Inv X j z H' s'/\Q z H') X.xe s
noncomputable abbrev Zd4:=V->V->V->Hp->(Hp->Prop)->Prop
noncomputable def Zg3 (X:Cx)(t:Zd4):Prop:=
 ∀(j:List (Addr×Obj)) (s:Shared) (z:St) (H:Hp) (o i v:V) (J O u:Value) (Q:Hp->Prop),Inv X j z H s->RelV o J->RelV i O->RelV v u->t o i v H Q->
  wpAny (model X.prog X.w) X.A (setItem J O u) (fun _ s'=>∃Y,Inv X j z Y s'/\Q Y) X.xe s
noncomputable abbrev TIp:=V->V->Hp->VK->Prop
noncomputable def PIp (X:Cx)(J:hZ)(t:TIp):Prop:=
 ∀(j:List (Addr×Obj)) (s:Shared) (z:St) (H:Hp) (x y:V) (v u:Value) (Q:VK),Inv X j z H s->RelV x v->RelV y u->t x y H Q->
  wpAny (model X.prog X.w) X.A (inplaceOp J v u) (EP X j z Q) X.xe s
section
variable {X:Cx}{pos:Pos}
noncomputable def Ye (i:Nat):TG:=fun v j H Q=>Q (j.set i (some v)) H
theorem Zeu {i:Nat}{x:Str}(z:X.N.Nodup)(J:X.N[i]?=some x)(O:Loc X.env.scope x)(Y:X.fn x=true\/X.env.scope.names.lookup x=some .local:=by first|exact .inl rfl|exact .inr rfl|assumption):PG X (.Name x pos) (Ye i):=by
 intro j s σ H v u Q I r h;exact wpAny_assign_Name (Wm I z J O r (fun s' I'=>⟨_,H,I',h⟩) Y)
noncomputable def Zio:TGs:=fun j z H Q=>j=[]/\Q z H
noncomputable def ZdJ (t:TG)(u:TGs):TGs:=fun z J H Q=>∃v r,z=v::r/\t v J H fun j O=>u r j O Q
theorem Zet:PGs X [] Zio:=by
 intro j s z H J O Q I r h;obtain⟨e,h⟩:=h;subst e;cases r;exact assignInOrder_nil ⟨z,H,I,h⟩
theorem UJ {e:Expr}{es:List Expr}{t:TG}{u:TGs}(J:PG X e t)(O:PGs X es u)
  (Y:(assignEach (e::es) X.env).map (·.2)=assign e X.env::(assignEach es X.env).map (·.2):=by rfl):PGs X (e::es) (ZdJ t u):=by
 intro j s σ H vs us Q I r h;obtain⟨v,vr,e1,h⟩:=h;subst e1;cases r with
 |cons r rr=>
  rw[Y];refine gS (ZW (J j s σ H _ _ _ I r h) fun _ s1 ⟨z,H1,I1,q1⟩=>?_);exact O j s1 z H1 _ _ Q I1 rr q1
noncomputable def Zin (K:ac)(n:Nat)(t:TGs):TG:=fun v z H Q=>∃a j,v=.ref a/\WS K H a j/\j.length=n/\t j z H Q
theorem Zgc {es:List Expr}{k:Nat}{t:TGs}{n:Nat}(hc:X.calm=true)(h:PGs X es t)
  (hn:(assignEach es X.env).length=n:=by rfl) (z:(assignEach es X.env).findIdx? (·.1)=none:=by rfl):PG X (.Tuple es k pos) (Zin X.K n t):=by
 intro j s O H v u Q I r J;obtain⟨a,xs,e1,hq,hl,J⟩:=J;subst e1;cases r;obtain⟨j4,Y,ht,hz⟩:=I.tuple hq;refine assign_Tuple_tuple (I.ok.hd hc) ht (by simp[hn,<-hl,Y.length]) z fun h' hx=>?_;have I1:Inv X j O H {s with heap:=h'}:=I.kept (t':=s.toks) fun b o e=>hx b o (aA (Zp e)) e;exact h j _ O H xs _ Q I1 (by simpa using Y) J
noncomputable def Zjh (to z:TE)(t:Zd4):TG:=fun v j H Q=>to j H fun o J=>z j J fun i O=>t o i v O fun Y=>Q j Y
theorem Zgd {o i:Expr}{to Y:TE}{t:Zd4}(ho:PE X o to)(hi:PE X i Y)(hs:Zg3 X t)
  (ha:∀v,assign (.Subscript o i pos) X.env v=(do
   let z <-holding [v] (eval o X.env)
   let J <-holding [v,z] (eval i X.env)
   standAt pos
   holding [v,z,J] (setItem z J v)
   release [v,z,J] []):=by intro _;rfl):PG X (.Subscript o i pos) (Zjh to Y t):=by
 intro j s O H v u Q I r h;rw[ha];refine Zl (dQ (ZW (ho j s O H _ I h) fun z s1 ⟨x,H1,I1,r1,q1⟩=>?_));refine Zl (dQ (ZW (hi j s1 O H1 _ I1 q1) fun J s2 ⟨y,H2,I2,r2,q2⟩=>?_));refine Zl (cq (Zl (dQ (ZW (hs j s2 O H2 x y v z J u _ I2 r1 r2 r q2) fun _ s3 ⟨H3,I3,q3⟩=>?_))));exact wpAny_release ⟨O,H3,I3,q3⟩
noncomputable def Vo (z:TE)(g:TG):TS:=fun D j H=>z j H fun x J=>g x j J D.nx
theorem Zga {z e:Expr}{J:TE}{g:TG}(Y:PE X e J)(hg:PG X z g)(hs:swapsWithSole [z] e pos.line X.env=pure false:=by rfl)(hw:swappedStores [z] e X.env=pure none:=by rfl)
  (h1:(assignEach [z] X.env).map (·.2)=[assign z X.env]:=by rfl):PS X (.Assign [z] e pos) (Vo J g):=by
 intro j s O H D I h;refine wpAny_Assign_stores (ZW (Y j s O H _ I h) fun v s1 ⟨x,H1,I1,r1,q1⟩=>?_) hs hw;rw[h1];exact ZW (hg j s1 O H1 x v _ I1 r1 q1) fun _ s2 q=>q
theorem Zf7 {i:Nat}{x:Str}{e:Expr}{J:TE}{j:Pos}(O:X.N.Nodup)(Y:X.N[i]?=some x)(hx:Loc X.env.scope x)(he:PE X e J)(hs:swapsWith e (some (.Name x j)) pos.line X.env=pure false:=by rfl)(hf:X.fn x=true\/X.env.scope.names.lookup x=some .local:=by first|exact .inl rfl|exact .inr rfl|assumption) :
  PS X (.Assign [.Name x j] e pos) (Vo J (Ye i)):=by
 intro z s σ H D I h;refine wpAny_Assign_Name (ZW (he z s σ H _ I h) fun v s1 ⟨y,H1,I1,r1,q1⟩=>?_) hs;exact Wm I1 O Y hx r1 (fun s2 I2=>⟨_,H1,I2,q1⟩) hf
noncomputable def ZiW (i j:Nat)(J:TA):TS:=fun D z H=>J z H fun O Y=>∃v w,O=[v,w]/\D.nx ((z.set i (some v)).set j (some w)) Y
theorem Zf8 {i j:Nat}{x y:Str}{a b:Expr}{ta:TA}{px py pt:Pos}{kt k2 J}(hc:X.calm=true)(hN:X.N.Nodup)(hi:X.N[i]?=some x)(hj:X.N[j]?=some y)(j4:i≠j)
  (hx:X.env.scope.names.lookup x=some .local) (hy:X.env.scope.names.lookup y=some .local) (ha:PA X [a,b] ta)
  (hw:swappedStores [.Tuple [.Name x px,.Name y py] kt pt] (.Tuple [a,b] k2 J) X.env=pure (some [x,y]))
  (hs:swapsWithSole [.Tuple [.Name x px,.Name y py] kt pt] (.Tuple [a,b] k2 J) pos.line X.env=pure false:=by rfl) :
  PS X (.Assign [.Tuple [.Name x px,.Name y py] kt pt] (.Tuple [a,b] k2 J) pos) (ZiW i j ta):=by
 intro z s σ H D I h;rw[exec_Assign_arm];refine Zl (cq ?_);rw[hs];refine Zl (Zm ?_);rw[if_neg (by decide)];refine Zl (Tuple_ (ZW (ha _ z s σ H _ I h) fun us s1 ⟨vs,H1,I1,r1,q1⟩=>?_));obtain⟨v,w,e1,q1⟩:=q1;subst e1;obtain⟨O,Y,rfl,rv,j6⟩:∃O Y,us=[O,Y]/\RelV v O/\RelV w Y:=by
  cases r1 with
  |cons p q=>
   cases q with
   |cons p' q'=>
    cases q';exact⟨_,_,rfl,p,p'⟩
 refine bw ?_ (by show 2<=sizeLine;decide);have I2:Inv X z σ H1 {s1 with heap:=s1.heap.push {cls:=.type "tuple",data:=.seq [O,Y].toArray}}:=I1.kept (t':=s1.toks) fun b o e=>Zn _ e;rw[hw];refine Zl (Zm ?_);show wpAny (model X.prog X.w) X.A (do rule "assign.swapped-stores";let items <-unpackItems (.ref s1.heap.objs.size) 2 none;assignInOrder [fun v=>bindName X.env y v,fun v=>bindName X.env x v] items.reverse;pure Flow.next) _ _ _
 refine Zl (wpAny_rule (Zl (unpackItems_tuple (items:=#[O,Y]) (I.ok.hd hc) (ff s1.heap _) fun h' j7=>?_)));have I3:=I2.kept (h':=h') (t':=s1.toks) fun b o e=>j7 b o (aA (Zp e)) e;show wpAny _ _ (assignInOrder [fun v=>bindName X.env y v,fun v=>bindName X.env x v] [Y,O] >>= fun _=>pure Flow.next) _ _ _;refine Zl (gS (wpAny_bindName (Wm I3 hN hj (.inl hy) j6 (fun s2 I4=>?_) (.inr hy))));refine gS (wpAny_bindName (Wm I4 hN hi (.inl hx) rv (fun s3 I5=>assignInOrder_nil (Zm ?_)) (.inr hx)));rw[List.set_comm _ _ (bC j4)] at I5;exact⟨_,H1,I5,q1⟩
noncomputable def ZiZ (i:Nat)(j:TE)(J:TIp):TS:=fun D σ H=>∃x,σ[i]?=some (some x)/\j σ H fun y O=>J x y O fun z Y=>D.nx (σ.set i (some z)) Y
theorem Zf9 {i:Nat}{x:Str}{e:Expr}{te:TE}{op:hZ}{ti:TIp}{Y:Pos}(hN:X.N.Nodup)(hi:X.N[i]?=some x)(hx:Loc X.env.scope x)(he:PE X e te)(ho:PIp X op ti)(hf:X.fn x=true\/X.env.scope.names.lookup x=some .local:=by first|exact .inl rfl|exact .inr rfl|assumption) :
  PS X (.AugAssign (.Name x Y) op e pos) (ZiZ i te ti):=by
 intro j s σ H D I h;obtain⟨v,e1,h⟩:=h;obtain⟨m,hn,hl⟩:=I.loc;have j7:Vis X.env.scope x:=by rcases hx with k|k;exact .inl k;exact .inr (.inl k)
 obtain⟨u,r,l⟩:=hl i x v hi e1 j7;refine wpAny_AugAssign_Name ?_;have go:wpAny (model X.prog X.w) X.A (eval e X.env) (fun w j4=>wpAny (model X.prog X.w) X.A (inplaceOp op u w) (fun r j6=>wpAny (model X.prog X.w) X.A (storeName X.env x r) (fun _=>SP X j D .next) X.xe j6) X.xe j4) X.xe s:=by
  refine ZW (he j s σ H _ I h) fun w s1 ⟨y,H1,I1,r1,q1⟩=>?_;refine ZW (ho j s1 σ H1 v y u w _ I1 r r1 q1) fun z s2 ⟨zv,H2,I2,r2,q2⟩=>?_;exact Wm I2 hN hi hx r2 (fun s3 I3=>⟨_,H2,I3,q2⟩) hf
 rcases l with ⟨J,hm⟩|⟨J,c,hc,O⟩
 ·exact wpAny_loadName_local I.ok.kind J hn hm go
 ·rcases J with J|J
  ·exact wpAny_loadName_cell I.ok.kind J hc O go
  ·rcases hx with k|k
   ·have:X.env.scope.names.lookup x=some .free:=J
    rw[k] at this;cases this
   ·have:X.env.scope.names.lookup x=some .free:=J
    rw[k] at this;cases this
noncomputable def Zhs (to ti te:TE)(j:V->V->Hp->VK->Prop)(Y:TIp)(J:Zd4):TS:=fun D O H=>to O H fun o H1=>ti O H1 fun i H2=>j o i H2 fun x H3=>te O H3 fun y H4=>Y x y H4 fun z H5=>J o i z H5 fun H6=>D.nx O H6
noncomputable def ZiA (X:Cx)(t:V->V->Hp->VK->Prop):Prop:=
 ∀(j:List (Addr×Obj)) (s:Shared) (z:St) (H:Hp) (o i:V) (J O:Value) (Q:VK),Inv X j z H s->RelV o J->RelV i O->t o i H Q->
  wpAny (model X.prog X.w) X.A (getItem J O) (EP X j z Q) X.xe s
theorem Zeq {o i e:Expr}{to ti te:TE}{J:V->V->Hp->VK->Prop}{j4:TIp}{O:Zd4}{op:hZ}{j6:Pos}(ho:PE X o to)(hi:PE X i ti)(hg:ZiA X J)(he:PE X e te)(hp:PIp X op j4)(hs:Zg3 X O)
  (ha:∀Y iv z,augStore i Y iv z=(do holding [z,Y,iv] (setItem Y iv z);release [z,Y,iv] [];pure .next):=by intros;rfl):PS X (.AugAssign (.Subscript o i j6) op e pos) (Zhs to ti te J j4 O):=by
 intro j s σ H D I h;refine wpAny_AugAssign_SubscriptAny (ZW (ho j s σ H _ I h) fun Y s1 ⟨x1,H1,I1,r1,q1⟩=>?_) ha;refine ZW (hi j s1 σ H1 _ I1 q1) fun iv s2 ⟨x2,H2,I2,r2,q2⟩=>?_;refine ZW (hg j s2 σ H2 x1 x2 Y iv _ I2 r1 r2 q2) fun j7 s3 ⟨x3,H3,I3,r3,q3⟩=>?_;refine ZW (he j s3 σ H3 _ I3 q3) fun v s4 ⟨x4,H4,I4,r4,q4⟩=>?_;refine ZW (hp j s4 σ H4 x3 x4 j7 v _ I4 r3 r4 q4) fun z s5 ⟨x5,H5,I5,r5,q5⟩=>?_;exact ZW (hs j s5 σ H5 x1 x2 x5 Y iv z _ I5 r1 r2 r5 q5) fun _ s6 ⟨H6,I6,q6⟩=>⟨σ,H6,I6,q6⟩
noncomputable def ipI (f:Int->Int->Int):TIp:=fun x y H Q=>∃i j,x=.int i/\y=.int j/\Q (.int (f i j)) H
theorem ZdB:PIp X .Add (ipI fun i j=>i+j):=by
 intro z s σ H x y v u Q I J O h;obtain⟨i,j,Y,e2,q⟩:=h;subst Y;subst e2;obtain⟨t,rfl⟩:=J;obtain⟨t',rfl⟩:=O;exact iadd_int ⟨.int _,H,I.tok _,⟨_,rfl⟩,q⟩
end
section
variable {X:Cx}{pos:Pos}
noncomputable def ZcW (c:TT)(tb:TS):TS:=fun D j H=>∃W:Nat->St->Hp->Prop,(∃m,W m j H)/\∀m j H,W m j H->
 c j H fun b J=>if b=true then ∃N:St->Hp->Prop,(∀ z O,N z O->∃Y,Y<m/\W Y z O)/\tb {D with nx:=N,ct:=N,bk:=D.nx} j J else D.nx j J
theorem WX {c:Expr}{body:List Stmt}{tc:TT}{tb:TS}(hp:PassesOwn (model X.prog X.w) X.A X.env X.xe)(hc:PT X c tc)(hb:Vi X body tb):PS X (.While c body [] pos) (ZcW tc tb):=by
 intro j s σ H D I h;obtain⟨W,⟨m0,w0⟩,O⟩:=h;refine wpAny_While (codeAny_whileLoop (fun n s'=>∃ Y H',Inv X j Y H' s'/\W n Y H') ?_ m0 ⟨σ,H,I,w0⟩);rintro n s1 ⟨J,H1,I1,w1⟩;refine bt hp (ZW (hc j s1 J H1 _ I1 (O n J H1 w1)) fun b s2 ⟨H2,I2,q2⟩=>?_);cases b with
 |true=>
  obtain⟨N,hN,q2⟩:=q2;rw[if_pos rfl];refine bt hp (ZW (hb j s2 J H2 _ I2 q2) fun f s3 q3=>?_);cases f with
  |next=>
   obtain⟨z,H3,I3,n3⟩:=q3;obtain⟨m',hm,w3⟩:=hN z H3 n3;exact⟨m',hm,z,H3,I3,w3⟩
  |cont=>
   obtain⟨z,H3,I3,n3⟩:=q3;obtain⟨m',hm,w3⟩:=hN z H3 n3;exact⟨m',hm,z,H3,I3,w3⟩
  |brk=>exact q3
  |ret v=>exact q3
 |false=>
  rw[if_neg aS];exact df ⟨J,H2,I2,q2⟩
end
structure It where
 go:Nat->Hp->Prop
 yld:Nat->Hp->V->Hp->Prop
 stop:Nat->Hp->Prop
noncomputable def Xh (X:Cx)(j:List (Addr×Obj))(H:Hp)(b:Addr):Prop:=
 H b=none/\b≠X.env.locals/\b∉X.fs/\(b∈X.ex\/X.s₀.heap.objs.size<=b)/\(∀x c,X.env.cells.lookup x=some c->c≠b)/\∀p∈X.pn++j,p.1≠b
theorem Inv.fpOk {X:Cx}{j:List (Addr×Obj)}{σ:St}{H J:Hp}{s:Shared}{b:Addr}(I:Inv X j σ H s)(hb:s.heap.objs.size<=b)(O:J b=none):Xh X j J b:=by
 refine⟨O,bz (ak I.lt hb),I.nofs hb,.inr (aK I.sz hb),fun x c e z=>?_,fun p Y z=>?_⟩
 ·obtain⟨v,q⟩:=I.cell x c e
  exact absurd (ak q.lt (by rw[z];exact hb)) (a9 _)
 ·exact absurd (ak (Zp (I.pin p Y).1) (by rw[z];exact hb)) (a9 _)
structure Ur (P:Program)(w:World)(K:ac)(tg:Expr)(J:It)(fp:List Addr)(it:Addr)(tn:Nat->Heap->Prop):Prop where
 mem:it∈fp
 obj:∀i h,tn i h->∀b∈fp,∃o,h.get? b=some o/\∀v,o.data≠.cell v
 keep:∀i h h',tn i h->(∀b∈fp,∀o,h.get? b=some o->h'.get? b=some o)->tn i h'
 item:∀(X:Cx),X.prog=P->X.w=w->X.K=K->X.calm=true->∀(i:Nat) (pins:List (Addr×Obj)) (s:Shared) (σ:St) (H:Hp) (E:Value->Shared->Prop),Inv X pins σ H s->(∀b∈fp,Xh X pins H b)->tn i s.heap->J.go i H->
  wpAny (model P w) X.A (pyNext (.ref it)) (fun r s1=>∃u,r=some u/\
   wpAny (model P w) X.A (letOwnedTupleGo tg (.ref it) u) (fun _ s2=>∃x H',Inv X pins σ H' s2/\RelV x u/\J.yld i H x H'/\tn (i+1) s2.heap/\∀b∈fp,H' b=none) E s1) E s
 done:∀(X:Cx),X.prog=P->X.w=w->X.K=K->X.calm=true->∀(i:Nat) (pins:List (Addr×Obj)) (s:Shared) (σ:St) (H:Hp) (E:Value->Shared->Prop),Inv X pins σ H s->(∀b∈fp,Xh X pins H b)->tn i s.heap->J.stop i H->
  wpAny (model P w) X.A (pyNext (.ref it)) (fun r s1=>r=none/\Inv X pins σ H s1) E s
 self:∀(A:Around) (i:Nat) (s:Shared) (Q:Value->Shared->Prop) (E:Value->Shared->Prop),tn i s.heap->Q (.ref it) s->wpAny (model P w) A (pyIter (.ref it)) Q E s
noncomputable abbrev TI:=St->Hp->(It->Hp->Prop)->Prop
noncomputable def PIE (X:Cx)(j:List (Addr×Obj))(σ:St)(tg:Expr)(R:It->Hp->Prop)(z:Value)(Y:Shared):Prop:=
 ∃(it:Addr) (fp:List Addr) (tn:Nat->Heap->Prop) (J:It) (O:Hp),z=.ref it/\Inv X j σ O Y/\Ur X.prog X.w X.K tg J fp it tn/\tn 0 Y.heap/\(∀b∈fp,Xh X j O b)/\R J O
noncomputable def PI (X:Cx)(J iter:Expr)(O:TI):Prop:=
 ∀(j:List (Addr×Obj)) (s:Shared) (z:St) (H:Hp) (R:It->Hp->Prop),Inv X j z H s->O z H R->
  wpAny (model X.prog X.w) X.A (eval iter X.env) (fun v Y=>wpAny (model X.prog X.w) X.A (pyIter v) (PIE X j z J R) X.xe Y) X.xe s
theorem ZbI {M:Model}{A:Around}{E:Value->Shared->Prop}{s:Shared}{z:Expr}{it:Addr}{u:Value}{o:Obj}{n:String}{vs:Array Value}{Q:Unit->Shared->Prop}(J:s.heap.get? it=some o)(O:o.cls=.type n)(hd:o.data=.fields vs)
    (Y:["enumerate", "zip", "dict_itemiterator", "dict_reverseitemiterator", "odict_iterator", "itertools.zip_longest", "itertools.pairwise"].contains n=false) (j:Q () s):wpAny M A (letOwnedTupleGo z (.ref it) u) Q E s:=by
  unfold letOwnedTupleGo;cases z <;> first
    |exact Zm j
    |(cases u <;> first
        |exact Zm j
        | (refine Zl (wpAny_load J ?_)
           rw[O,hd];show wpAny M A (if (["enumerate", "zip", "dict_itemiterator", "dict_reverseitemiterator", "odict_iterator", "itertools.zip_longest", "itertools.pairwise"].contains n && vs[0]? == some (rawInt _))=true then _ else _) Q E s
           rw[if_neg (by intro h;rw[Y,Bool.false_and] at h;cases h)];exact Zm j))
noncomputable def Itl (K:ac)(a:Addr):It:=
 ⟨fun i H=>∃j x,WQ K H a j/\j[i]?=some x,fun i H x z=>z=H/\∀j,WQ K H a j->j[i]?=some x,fun i H=>∃j,WQ K H a j/\j.length<=i⟩
noncomputable def Itt (K:ac)(a:Addr):It:=
 ⟨fun i H=>∃j x,WS K H a j/\j[i]?=some x,fun i H x z=>z=H/\∀j,WS K H a j->j[i]?=some x,fun i H=>∃j,WS K H a j/\j.length<=i⟩
noncomputable def Itr (lo:Int)(n:Nat):It:=⟨fun i _=>i<n,fun i H x j=>j=H/\x=.int (lo+i),fun i _=>n<=i⟩
theorem Vw {P:Program}{w:World}{K:ac}{tg:Expr}(a J:Addr):Ur P w K tg (Itl K a) [J] J (fun i h=>h.IsListIter J a i) where
 mem:=by simp
 obj:=fun i h st b hb=>by
  have e:b=J:=by simpa using hb
  subst e;obtain⟨o,e,c,d⟩:=st;exact⟨o,e,fun v z=>by rw[d] at z;cases z⟩
 keep:=fun i h Y st k=>st.at fun o e=>k J (by simp) o e
 item:=by
  intro X hP hw hK hc i j s σ H E I hf st hg;subst hP hw hK;obtain⟨xs,x,hq,hx⟩:=hg;obtain⟨j4,rv,p,hz⟩:=I.list hq;obtain⟨u,hu,ru⟩:=rv.get hx;obtain⟨f0,f1,f2,f3,f4,f5⟩:=hf J (by simp);refine wpAny_pyNext_list_item st p.isList (x:=u) (by simpa using hu) fun Y O sb=>?_;have I1:Inv X j σ H {s with heap:=Y}:=I.turned (t':=s.toks) (fun b o hb e=>(sb.2 b hb).trans e) f0 f1 f3 f4 f5;obtain⟨o,e,c,d⟩:=id O;exact⟨u,rfl,ZbI (s:={s with heap:=Y}) e c d (by decide) ⟨x,H,I1,ru,⟨rfl,fun ys hy=>by rw[I.list_inj hy hq];exact hx⟩,O,fun b hb=>(hf b hb).1⟩⟩
 done:=by
  intro X hP hw hK hc i j s σ H E I hf st hg;subst hP hw hK;obtain⟨xs,hq,hx⟩:=hg;obtain⟨j4,rv,p,hz⟩:=I.list hq;obtain⟨f0,f1,f2,f3,f4,f5⟩:=hf J (by simp);have hl:=rv.length;exact wpAny_pyNext_list_end (I.ok.hd hc) st p.isList (by simp;omega) fun Y eb=>⟨rfl,I.turned (t':=s.toks) (fun b o hb e=>eb b o hb e) f0 f1 f3 f4 f5⟩
 self:=fun _ _ _ _ _ st h=>wpAny_pyIter_listiter st h
theorem Zap {P:Program}{w:World}{K:ac}{tg:Expr}(a J:Addr):Ur P w K tg (Itt K a) [J] J (fun i h=>h.IsTupleIter J a i) where
 mem:=by simp
 obj:=fun i h st b hb=>by
  have e:b=J:=by simpa using hb
  subst e;obtain⟨o,e,c,d⟩:=st;exact⟨o,e,fun v z=>by rw[d] at z;cases z⟩
 keep:=fun i h h' st k=>st.at fun o e=>k J (by simp) o e
 item:=by
  intro X hP hw hK hc i j s σ H E I hf st hg;subst hP hw hK;obtain⟨xs,x,hq,hx⟩:=hg;obtain⟨O,rv,p,hz⟩:=I.tuple hq;obtain⟨u,hu,ru⟩:=rv.get hx;obtain⟨f0,f1,f2,f3,f4,f5⟩:=hf J (by simp);refine wpAny_pyNext_tuple_item st (show s.heap.IsTuple a O.toArray from p) (x:=u) (by simpa using hu) fun h' Y sb=>?_;have I1:Inv X j σ H {s with heap:=h'}:=I.turned (t':=s.toks) (fun b o hb e=>(sb.2 b hb).trans e) f0 f1 f3 f4 f5;obtain⟨o,e,c,d⟩:=id Y;exact⟨u,rfl,ZbI (s:={s with heap:=h'}) e c d (by decide) ⟨x,H,I1,ru,⟨rfl,fun ys hy=>by rw[I.tuple_inj hy hq];exact hx⟩,Y,fun b hb=>(hf b hb).1⟩⟩
 done:=by
  intro X hP hw hK hc i j s σ H E I hf st hg;subst hP hw hK;obtain⟨xs,hq,hx⟩:=hg;obtain⟨O,rv,p,hz⟩:=I.tuple hq;obtain⟨f0,f1,f2,f3,f4,f5⟩:=hf J (by simp);have hl:=rv.length;exact wpAny_pyNext_tuple_end (I.ok.hd hc) st (show s.heap.IsTuple a O.toArray from p) (by simp;omega) fun h' eb=>⟨rfl,I.turned (t':=s.toks) (fun b o hb e=>eb b o hb e) f0 f1 f3 f4 f5⟩
 self:=fun _ _ _ _ _ st h=>wpAny_pyIter_tupleiter st h
theorem Zaq {P:Program}{w:World}{K:ac}{tg:Expr}(j:Addr)(lo:Int)(n:Nat):Ur P w K tg (Itr lo n) [j] j (fun i h=>IsRangeIter h j (lo+(i:Nat)*1) ((n:Int)-(i:Nat)) 1) where
 mem:=by simp
 obj:=fun i h st b hb=>by
  have e:b=j:=by simpa using hb
  subst e;exact⟨_,st,fun v z=>by
   have z':iZ _=jI v:=z;cases z'⟩
 keep:=fun i h Y st k=>k j (by simp) _ st
 item:=by
  intro X hP hw hK hc i J s σ H E I hf st hg;subst hP hw hK;obtain⟨f0,f1,f2,f3,f4,f5⟩:=hf j (by simp);have W:=Walks.range (prog:=X.prog) (w:=X.w) (I.ok.hd hc) j lo 1 n;refine W.item i s _ _ hg st fun v Y tk hv O kk=>?_;obtain⟨t,rfl⟩:=hv;have I1:Inv X J σ H {s with heap:=Y,toks:=tk}:=I.turned (fun b o hb e=>kk b o (by simpa using hb) e) f0 f1 f3 f4 f5;refine⟨_,rfl,ZbI (s:={s with heap:=Y,toks:=tk}) (n:="range_iterator") O rfl rfl (by decide) ⟨.int (lo+i),H,I1,⟨t,?_⟩,⟨rfl,rfl⟩,O,fun b hb=>(hf b hb).1⟩⟩;rw[Int.mul_one]
 done:=by
  intro X hP hw hK hc i J s σ H E I hf st hg;subst hP hw hK;obtain⟨f0,f1,f2,f3,f4,f5⟩:=hf j (by simp);exact wpAny_pyNext_range_end (I.ok.hd hc) st (by have:n<=i:=hg;omega) fun Y eb=>⟨rfl,I.turned (t':=s.toks) (fun b o hb e=>eb b o hb e) f0 f1 f3 f4 f5⟩
 self:=fun _ _ _ _ _ st h=>wpAny_pyIter_rangeiter st h
section
variable {X:Cx}{tg:Expr}
noncomputable def ZdD (K:ac)(z:TE):TI:=fun J H R=>z J H fun x j=>∃a,x=.ref a/\(∃O,WQ K j a O)/\R (Itl K a) j
noncomputable def Zil (K:ac)(z:TE):TI:=fun J H R=>z J H fun x j=>∃a,x=.ref a/\(∃O,WS K j a O)/\R (Itt K a) j
theorem Zes {l:Expr}{O:TE}(Y:PE X l O):PI X tg l (ZdD X.K O):=by
 intro j s σ H R I h;refine ZW (Y j s σ H _ I h) fun v z ⟨x,H1,J,r1,q1⟩=>?_;obtain⟨a,e,⟨xs,hq⟩,q⟩:=q1;subst e;cases r1;obtain⟨j4,rv,p,hz⟩:=J.list hq;refine g9 p.isList ?_;refine⟨z.heap.objs.size,[z.heap.objs.size],_,_,H1,rfl,J.kept (t':=z.toks) fun b o e=>Zn _ e,Vw a _,⟨_,Zo _ rfl,rfl,rfl⟩,fun b hb=>?_,q⟩;have e:b=z.heap.objs.size:=by simpa using hb
 subst e;exact J.fpOk (Zq _) (J.hok.fresh (Zq _))
theorem Zgb {l:Expr}{Y:TE}(hl:PE X l Y):PI X tg l (Zil X.K Y):=by
 intro j s σ H R I h;refine ZW (hl j s σ H _ I h) fun v z ⟨x,H1,J,r1,q1⟩=>?_;obtain⟨a,e,⟨xs,hq⟩,q⟩:=q1;subst e;cases r1;obtain⟨O,rv,p,hz⟩:=J.tuple hq;refine gM (show z.heap.IsTuple a O.toArray from p) ?_;refine⟨z.heap.objs.size,[z.heap.objs.size],_,_,H1,rfl,J.kept (t':=z.toks) fun b o e=>Zn _ e,Zap a _,⟨_,Zo _ rfl,rfl,rfl⟩,fun b hb=>?_,q⟩;have e:b=z.heap.objs.size:=by simpa using hb
 subst e;exact J.fpOk (Zq _) (J.hok.fresh (Zq _))
theorem UH {z:List (Addr×Obj)}{σ:St}{H:Hp}{s:Shared}{R:It->Hp->Prop}{E:Value->Shared->Prop}{lo j:Int}{t u v:Tok}{tk:Nat}(I:Inv X z σ H s)(O:-(2 ^ 62)<=lo)(Y:lo<2 ^ 62)(h3:-(2 ^ 62)<=j)(h4:j<2 ^ 62)
  (q:R (Itr lo (j-lo).toNat) H):wpAny (model X.prog X.w) X.A (pyIter (.ref s.heap.objs.size)) (PIE X z σ tg R) E {s with heap:=s.heap.push {cls:=.type "range",data:=.fields #[.int lo t,.int j u,.int 1 v]},toks:=tk}:=by
 refine wpAny_pyIter_range (IsRange.new ..) (small_one O Y h3 h4) ?_;have J:Inv X z σ H {s with heap:=s.heap.push {cls:=.type "range",data:=.fields #[.int lo t,.int j u,.int 1 v]},toks:=tk}:=I.kept fun b o e=>Zn _ e;refine⟨(s.heap.push {cls:=.type "range",data:=.fields #[.int lo t,.int j u,.int 1 v]}).objs.size,[(s.heap.push {cls:=.type "range",data:=.fields #[.int lo t,.int j u,.int 1 v]}).objs.size],_,_,H,rfl,
  J.kept (t':=tk) fun b o e=>Zn _ e,Zaq _ lo (j-lo).toNat,?_,fun b hb=>?_,q⟩
 ·have e1:lo+((0:Nat):Int)*1=lo:=by simp
  have e2:(((j-lo).toNat:Nat):Int)-((0:Nat):Int)=Builtin.Range.rangeSize lo j 1:=by rw[rangeSize_one];split <;> omega
  show IsRangeIter _ _ (lo+((0:Nat):Int)*1) ((((j-lo).toNat:Nat):Int)-((0:Nat):Int)) 1;rw[e1,e2];exact Zo _ rfl
 ·have e:b=(s.heap.push {cls:=.type "range",data:=.fields #[.int lo t,.int j u,.int 1 v]}).objs.size:=by simpa using hb
  subst e;exact J.fpOk (Zq _) (J.hok.fresh (Zq _))
noncomputable def ZfF (z:TA):TI:=fun J H R=>z J H fun O Y=>∃j:Int,O=[.int j]/\-(2 ^ 62)<=j/\j<2 ^ 62/\R (Itr 0 j.toNat) Y
noncomputable def ZfE (z:TA):TI:=fun J H R=>z J H fun O Y=>∃i j:Int,O=[.int i,.int j]/\(-(2 ^ 62)<=i/\i<2 ^ 62/\-(2 ^ 62)<=j/\j<2 ^ 62)/\R (Itr i (j-i).toNat) Y
theorem Zca {a:Expr}{O:TA}{p pos:Pos}(Y:Gl X "range")(hm:X.mg "range"=none)(ha:PA X [a] O)(hs:starEach [a] X.env=[(false,eval a X.env)]:=by rfl):PI X tg (.Call (.Name "range" p) [a] [] pos) (ZfF O):=by
 intro z s σ H R I h;refine Call_ (J7 I Y hm boot_range (cw (ZW (ha pos z s σ H _ I h) fun us s1 ⟨vs,H1,I1,r1,J⟩=>?_) hs rfl));obtain⟨j,e,J,q2,q⟩:=J;subst e;cases r1 with
 |cons r rr=>
  cases rr;obtain⟨t,rfl⟩:=r;exact call_range_1 (UH I1 (by omega) (by omega) J q2 (by simpa using q))
theorem Zb9 {a b:Expr}{ta:TA}{p pos:Pos}(hg:Gl X "range")(hm:X.mg "range"=none)(ha:PA X [a,b] ta)(hs:starEach [a,b] X.env=[(false,eval a X.env),(false,eval b X.env)]:=by rfl)(z:starEach [b] X.env=[(false,eval b X.env)]:=by rfl) :
  PI X tg (.Call (.Name "range" p) [a,b] [] pos) (ZfE ta):=by
 intro J s σ H R I h;refine Call_ (J7 I hg hm boot_range (cw (ZW (ha pos J s σ H _ I h) fun us s1 ⟨vs,H1,I1,r1,O⟩=>?_) (by rw[hs,z]) (by rw[z];rfl)));obtain⟨i,j,e,⟨O,q2,q3,q4⟩,q⟩:=O;subst e;cases r1 with
 |cons r Y=>
  cases Y with
  |cons r' Y=>
   cases Y;obtain⟨t,rfl⟩:=r;obtain⟨t',rfl⟩:=r';exact call_range_2 (UH I1 O q2 q3 q4 q)
noncomputable def Zho (wi:TI)(g:TG)(tb:TS):TS:=fun D j H=>wi j H fun J H1=>∃W:Nat->Nat->St->Hp->Prop,(∃m,W 0 m j H1)/\∀i m j H,W i m j H->
 (J.stop i H/\D.nx j H)\/(J.go i H/\∃N:St->Hp->Prop,(∀ z O,N z O->∃m',m'<m/\W (i+1) m' z O)/\∀x O,J.yld i H x O->g x j O fun Y H2=>tb {D with nx:=N,ct:=N,bk:=D.nx} Y H2)
noncomputable def Jr (j:List Addr)(h:Heap):List (Addr×Obj):=j.filterMap fun b=>(h.get? b).map fun o=>(b,o)
theorem Yr {j:List Addr}{h:Heap}{b:Addr}{o:Obj}(hb:b∈j)(e:h.get? b=some o):(b,o)∈Jr j h:=jj.mpr ⟨b,hb,by rw[e];rfl⟩
theorem Zch {j:List Addr}{h:Heap}{p:Addr×Obj}(z:p∈Jr j h):p.1∈j/\h.get? p.1=some p.2:=by
 obtain⟨b,hb,e⟩:=jj.mp z;cases q:h.get? b with
 |none=>rw[q] at e;cases e
 |some o=>
  rw[q] at e;have J:(b,o)=p:=ay e;subst J;exact⟨hb,q⟩
theorem Inv.pinned {j:List (Addr×Obj)}{σ:St}{H:Hp}{s:Shared}{J:List Addr}(I:Inv X j σ H s)(Y:∀b∈J,Xh X j H b)(ho:∀b∈J,∃o,s.heap.get? b=some o/\∀v,o.data≠.cell v):Inv X (j++Jr J s.heap) σ H s:=
 I.pins_of fun p hp=>(aD.mp hp).elim (fun z=>I.pin p (am _ z)) fun z=>by
  obtain⟨hb,e⟩:=Zch z;obtain⟨f0,f1,f2,_⟩:=Y p.1 hb;obtain⟨o,O,d⟩:=ho p.1 hb;rw[e] at O;cases O;exact⟨e,f0,f1,f2,d⟩
theorem Inv.unpinned {j z:List (Addr×Obj)}{σ:St}{H:Hp}{s:Shared}(I:Inv X (j++z) σ H s):Inv X j σ H s:=I.pins_of fun p J=>I.pin p (am _ (bE _ J))
theorem Wh {iter:Expr}{body:List Stmt}{wi:TI}{g:TG}{tb:TS}{pos:Pos}(hp:PassesOwn (model X.prog X.w) X.A X.env X.xe)(hc:X.calm=true)(hi:PI X tg iter wi)(hg:PG X tg g)(hb:Vi X body tb)
  (hs:∀x,foldedSetIterable iter X.env x=pure x:=by intro _;rfl):PS X (.For tg iter body [] pos) (Zho wi g tb):=by
 intro j s σ H D I h;refine wpAny_For (ZW (hi j s σ H _ I h) fun v s1 h1=>ZW h1 fun m4 s2 h2=>?_) hs;obtain⟨it,fp,tn,J,H2,e,I2,T,l7,f2,W,⟨m0,w0⟩,j7⟩:=h2;subst e;have O:∀{H':Hp},(∀b∈fp,H' b=none)->∀b∈fp,Xh X j H' b:=fun hn b hb=>⟨hn b hb,(f2 b hb).2⟩;refine codeAny_forLoop_any (fun n s'=>∃i Y H',Inv X j Y H' s'/\tn i s'.heap/\(∀b∈fp,H' b=none)/\W i n Y H') ?_ m0 ⟨0,σ,H2,I2,l7,fun b hb=>(f2 b hb).1,w0⟩;rintro n s3 ⟨i,j4,H3,I3,j8,j9,w3⟩;rcases j7 i n j4 H3 w3 with ⟨stop,qn⟩|⟨go,N,hN,step⟩
 ·refine bt hp (ZW (T.done X rfl rfl rfl hc i j s3 j4 H3 X.xe I3 (O j9) j8 stop) fun r s4 ⟨hr,I4⟩=>?_)
  subst hr;exact df ⟨j4,H3,I4,qn⟩
 ·refine bt hp (ZW (T.item X rfl rfl rfl hc i j s3 j4 H3 X.xe I3 (O j9) j8 go) fun r s4 ⟨u,hr,h4⟩=>?_)
  subst hr;refine bt hp (ZW h4 fun _ s5 ⟨x,H5,I5,r5,y5,j6,l8⟩=>?_);have l9:=I5.pinned (O l8) (T.obj _ _ j6);refine bt hp (ZW (hg _ s5 j4 H5 x u _ l9 r5 (step x H5 y5)) fun _ s6 ⟨m3,H6,I6,q6⟩=>?_);refine bt hp (ZW (hb _ s6 m3 H6 _ I6 q6) fun f s7 q7=>?_);have again:∀{z:St}{H7:Hp},Inv X (j++Jr fp s5.heap) z H7 s7->N z H7->∃m,m<n/\∃i Y H',Inv X j Y H' s7/\tn i s7.heap/\(∀b∈fp,H' b=none)/\W i m Y H':=fun {z H7} I7 n7=>by
   obtain⟨m',hm,w7⟩:=hN z H7 n7;refine⟨m',hm,i+1,z,H7,I7.unpinned,T.keep _ _ _ j6 fun b hb o e=>(I7.pin (b,o) (am _ (am _ (Yr hb e)))).1,fun b hb=>?_,w7⟩;obtain⟨o,e,d⟩:=T.obj _ _ j6 b hb;exact (I7.pin (b,o) (am _ (am _ (Yr hb e)))).2.1
  cases f with
  |next=>obtain⟨z,H7,I7,n7⟩:=q7;exact again I7 n7
  |cont=>obtain⟨z,H7,I7,n7⟩:=q7;exact again I7 n7
  |brk=>obtain⟨z,H7,I7,q7⟩:=q7;exact⟨z,H7,I7.unpinned,q7⟩
  |ret v=>obtain⟨x7,z,H7,I7,r7,q7⟩:=q7;exact⟨x7,z,H7,I7.unpinned,r7,q7⟩
end
theorem ZdK {K:ac}{a:Addr}{xs:List V}{g:TG}{tb:TS}{D:YH}{σ:St}{H:Hp}(Pv:Nat->St->Hp->Prop)(h0:Pv 0 σ H)(hl:∀i σ H,i<=xs.length->Pv i σ H->WQ K H a xs)
  (hs:∀i x σ H,xs[i]?=some x->Pv i σ H->g x σ H fun j Y=>tb {D with nx:=Pv (i+1),ct:=Pv (i+1),bk:=D.nx} j Y) (hd:∀ σ H,Pv xs.length σ H->D.nx σ H) :
  ∃W:Nat->Nat->St->Hp->Prop,(∃m,W 0 m σ H)/\∀i m σ H,W i m σ H->
   ((Itl K a).stop i H/\D.nx σ H)\/((Itl K a).go i H/\∃N:St->Hp->Prop,(∀ z J,N z J->∃m',m'<m/\W (i+1) m' z J)/\∀x J,(Itl K a).yld i H x J->g x σ J fun j Y=>tb {D with nx:=N,ct:=N,bk:=D.nx} j Y):=by
 refine⟨fun i m σ H=>m=xs.length-i/\i<=xs.length/\Pv i σ H,⟨xs.length,by simp,aE _,h0⟩,?_⟩;rintro i m σ H ⟨rfl,hi,p⟩;have q:=hl i σ H hi p;by_cases O:i<xs.length
 ·refine .inr ⟨⟨xs,xs[i],q,by simp[O]⟩,Pv (i+1),fun z J p'=>⟨xs.length-(i+1),by omega,rfl,O,p'⟩,fun x J y=>?_⟩
  obtain⟨e,y⟩:=y;subst e;exact hs i x σ _ (y xs q) p
 ·have e:i=xs.length:=by omega
  subst e;exact .inl ⟨⟨xs,q,Zq _⟩,hd σ H p⟩
theorem Ze2 {K:ac}{a:Addr}{xs:List V}{g:TG}{tb:TS}{D:YH}{σ:St}{H:Hp}(Pv:Nat->St->Hp->Prop)(h0:Pv 0 σ H)(hl:∀i σ H,i<=xs.length->Pv i σ H->WS K H a xs)
  (hs:∀i x σ H,xs[i]?=some x->Pv i σ H->g x σ H fun j Y=>tb {D with nx:=Pv (i+1),ct:=Pv (i+1),bk:=D.nx} j Y) (hd:∀ σ H,Pv xs.length σ H->D.nx σ H) :
  ∃W:Nat->Nat->St->Hp->Prop,(∃m,W 0 m σ H)/\∀i m σ H,W i m σ H->
   ((Itt K a).stop i H/\D.nx σ H)\/((Itt K a).go i H/\∃N:St->Hp->Prop,(∀ z J,N z J->∃m',m'<m/\W (i+1) m' z J)/\∀x J,(Itt K a).yld i H x J->g x σ J fun j Y=>tb {D with nx:=N,ct:=N,bk:=D.nx} j Y):=by
 refine⟨fun i m σ H=>m=xs.length-i/\i<=xs.length/\Pv i σ H,⟨xs.length,by simp,aE _,h0⟩,?_⟩;rintro i m σ H ⟨rfl,hi,p⟩;have q:=hl i σ H hi p;by_cases O:i<xs.length
 ·refine .inr ⟨⟨xs,xs[i],q,by simp[O]⟩,Pv (i+1),fun z J p'=>⟨xs.length-(i+1),by omega,rfl,O,p'⟩,fun x J y=>?_⟩
  obtain⟨e,y⟩:=y;subst e;exact hs i x σ _ (y xs q) p
 ·have e:i=xs.length:=by omega
  subst e;exact .inl ⟨⟨xs,q,Zq _⟩,hd σ H p⟩
theorem YO {lo:Int}{n:Nat}{g:TG}{tb:TS}{D:YH}{σ:St}{H:Hp}(Pv:Nat->St->Hp->Prop)(h0:Pv 0 σ H)
  (hs:∀i σ H,i<n->Pv i σ H->g (.int (lo+i)) σ H fun j Y=>tb {D with nx:=Pv (i+1),ct:=Pv (i+1),bk:=D.nx} j Y) (hd:∀ σ H,Pv n σ H->D.nx σ H) :
  ∃W:Nat->Nat->St->Hp->Prop,(∃m,W 0 m σ H)/\∀i m σ H,W i m σ H->
   ((Itr lo n).stop i H/\D.nx σ H)\/((Itr lo n).go i H/\∃N:St->Hp->Prop,(∀ z J,N z J->∃m',m'<m/\W (i+1) m' z J)/\∀x J,(Itr lo n).yld i H x J->g x σ J fun j Y=>tb {D with nx:=N,ct:=N,bk:=D.nx} j Y):=by
 refine⟨fun i m σ H=>m=n-i/\i<=n/\Pv i σ H,⟨n,by simp,aE _,h0⟩,?_⟩;rintro i m σ H ⟨rfl,hi,p⟩;by_cases O:i<n
 ·refine .inr ⟨O,Pv (i+1),fun z J p'=>⟨n-(i+1),by omega,rfl,O,p'⟩,fun x J y=>?_⟩
  obtain⟨e,y⟩:=y;subst e y;exact hs i σ _ O p
 ·have e:i=n:=by omega
  subst e;exact .inl ⟨Zq _,hd σ H p⟩
noncomputable abbrev R2:=V->V->Hp->VK->Prop
noncomputable def W9 (X:Cx)(f:Value->Value->Sem Value)(r:R2):Prop:=
 ∀(j:List (Addr×Obj)) (s:Shared) (z:St) (H:Hp) (x y:V) (v u:Value) (Q:VK),Inv X j z H s->RelV x v->RelV y u->r x y H Q->
  wpAny (model X.prog X.w) X.A (f v u) (EP X j z Q) X.xe s
noncomputable def UnR (X:Cx)(f:Value->Sem Value)(r:V->Hp->VK->Prop):Prop:=
 ∀(j:List (Addr×Obj)) (s:Shared) (z:St) (H:Hp) (x:V) (v:Value) (Q:VK),Inv X j z H s->RelV x v->r x H Q->
  wpAny (model X.prog X.w) X.A (f v) (EP X j z Q) X.xe s
noncomputable def Yk (X:Cx)(f:Value)(r:List V->Hp->VK->Prop):Prop:=
 ∀(j:List (Addr×Obj)) (s:Shared) (z:St) (H:Hp) (J:List V) (O:List Value) (Q:VK),Inv X j z H s->ZN J O->r J H Q->
  wpAny (model X.prog X.w) X.A (call f O) (EP X j z Q) X.xe s
noncomputable def Xi (r:R2)(z J:TE):TE:=fun j H Q=>z j H fun x O=>J j O fun y Y=>r x y Y Q
noncomputable def tUn (r:V->Hp->VK->Prop)(j:TE):TE:=fun z H Q=>j z H fun x J=>r x J Q
noncomputable def rI (C:Int->Int->Prop)(g:Int->Int->V):R2:=fun x y H Q=>∃i j,x=.int i/\y=.int j/\C i j/\Q (g i j) H
noncomputable def rI0 (g:Int->Int->V):R2:=fun x y H Q=>∃i j,x=.int i/\y=.int j/\Q (g i j) H
noncomputable def rU (g:Int->V):V->Hp->VK->Prop:=fun x H Q=>∃i,x=.int i/\Q (g i) H
section
variable {X:Cx}{a b c:Expr}{ta tb tc:TE}{pos:Pos}
theorem Zg0 (ha:PE X a ta)(hb:PE X b tb){j:List (Addr×Obj)}{s:Shared}{σ:St}{H:Hp}{R:V->V->Hp->Prop}(I:Inv X j σ H s)
  (h:ta σ H fun x H1=>tb σ H1 fun y z=>R x y z) {Q:Value->Shared->Prop}{f:Value->Value->Sem Value}
  (hf:∀v u Y x y z,Inv X j σ z Y->RelV x v->RelV y u->R x y z->wpAny (model X.prog X.w) X.A (f v u) Q X.xe Y) :
  wpAny (model X.prog X.w) X.A (eval a X.env) (fun v J=>wpAny (model X.prog X.w) X.A (eval b X.env) (fun u O=>wpAny (model X.prog X.w) X.A (f v u) Q X.xe O) X.xe J) X.xe s:=by
 refine ZW (ha j s σ H _ I h) fun v s1 ⟨x,H1,I1,r1,q1⟩=>?_;refine ZW (hb j s1 σ H1 _ I1 q1) fun u Y ⟨y,z,I2,r2,q2⟩=>?_;exact hf v u Y x y z I2 r1 r2 q2
theorem ZD {op:hZ}{r:R2}(z:W9 X (binaryOp op) r)(J:PE X a ta)(hb:PE X b tb):PE X (.BinOp a op b pos) (Xi r ta tb):=by
 intro j s O H Q I h;exact wpAny_BinOp (Zg0 J hb I h fun v u Y x y H2 I2 rx ry q=>z j Y O H2 x y v u Q I2 rx ry q)
theorem UK {op:UnaryOp}{r:V->Hp->VK->Prop}(J:UnR X (unaryOp op) r)(O:PE X a ta):PE X (.UnaryOp op a pos) (tUn r ta):=by
 intro j s z H Q I h;exact UnaryOp_ (ZW (O j s z H _ I h) fun v Y ⟨x,H1,I1,r1,q1⟩=>J j Y z H1 x v Q I1 r1 q1)
theorem opI {f:Value->Value->Sem Value}{C:Int->Int->Prop}{g:Int->Int->Int}
  (rule:∀(i j:Int) (t u:Tok) (s:Shared) (Q:Value->Shared->Prop) (E:Value->Shared->Prop),C i j->Q (.int (g i j) s.toks) {s with toks:=s.toks+1}->wpAny (model X.prog X.w) X.A (f (.int i t) (.int j u)) Q E s) :
  W9 X f (rI C fun i j=>.int (g i j)):=by
 intro z s σ H x y v u Q I J O h;obtain⟨i,j,rfl,rfl,Y,q⟩:=h;obtain⟨t,rfl⟩:=J;obtain⟨t',rfl⟩:=O;exact rule i j t t' s _ _ Y ⟨.int (g i j),H,I.tok _,⟨_,rfl⟩,q⟩
theorem Zh4 {f:Value->Value->Sem Value}{g:Int->Int->Int}
  (rule:∀(i j:Int) (t u:Tok) (s:Shared) (Q:Value->Shared->Prop) (E:Value->Shared->Prop),Q (.int (g i j) s.toks) {s with toks:=s.toks+1}->wpAny (model X.prog X.w) X.A (f (.int i t) (.int j u)) Q E s) :
  W9 X f (rI0 fun i j=>.int (g i j)):=by
 intro z s σ H x y v u Q I J O h;obtain⟨i,j,rfl,rfl,q⟩:=h;obtain⟨t,rfl⟩:=J;obtain⟨Y,rfl⟩:=O;exact rule i j t Y s _ _ ⟨.int (g i j),H,I.tok _,⟨_,rfl⟩,q⟩
theorem ZeE {f:Value->Value->Sem Value}{g:Int->Int->Bool}
  (rule:∀(i j:Int) (t u:Tok) (s:Shared) (Q:Value->Shared->Prop) (E:Value->Shared->Prop),Q (.bool (g i j)) s->wpAny (model X.prog X.w) X.A (f (.int i t) (.int j u)) Q E s) :
  W9 X f (rI0 fun i j=>.bl (g i j)):=by
 intro z s σ H x y v u Q I J O h;obtain⟨i,j,rfl,rfl,q⟩:=h;obtain⟨t,rfl⟩:=J;obtain⟨Y,rfl⟩:=O;exact rule i j t Y s _ _ ⟨.bl (g i j),H,I,rfl,q⟩
noncomputable def Zjt (i j:Int):Prop:=0<j/\j<1073741824
noncomputable def Zjs (i j:Int):Prop:=0<=j/\j<=1000000/\i.natAbs<2 ^ 64
noncomputable def Zd6 (i j:Int):Prop:=(-(2 ^ 64)<i/\i<2 ^ 64)\/(-(2 ^ 64)<j/\j<2 ^ 64)
theorem Zd6.ok {i j:Int}(h:Zd6 i j):IntMulOk i j:=by
 rcases h with ⟨z,J⟩|⟨z,J⟩
 ·exact .of_left (intBits_le_64 z J)
 ·exact .of_right (intBits_le_64 z J)
theorem Z9:W9 X (binaryOp .Add) (rI0 fun i j=>.int (i+j)):=Zh4 fun _ _ _ _ _ _ _ q=>add_int q
theorem WY:W9 X (binaryOp .Sub) (rI0 fun i j=>.int (i-j)):=Zh4 fun _ _ _ _ _ _ _ q=>sub_int q
theorem WI:W9 X (binaryOp .Mult) (rI Zd6 fun i j=>.int (i*j)):=opI fun _ _ _ _ _ _ _ z q=>mul_int q z.ok
theorem JM:W9 X (binaryOp .FloorDiv) (rI Zjt fun i j=>.int (i / j)):=opI fun i j _ _ _ _ _ z q=>by
 have J:(0:Int)<j:=z.1;have O:j<1073741824:=z.2;exact floordiv_int (by omega) (by rw[Int.fdiv_eq_ediv_of_nonneg i (by omega)];exact q) (.inl (PyProof.noPylong_small (by omega)))
theorem Wi:W9 X (binaryOp .Mod) (rI (fun _ j=>0<j) fun i j=>.int (i % j)):=opI fun i j _ _ _ _ _ z q=>by
 have J:(0:Int)<j:=z;exact mod_int' (by omega) (by rw[Int.fmod_eq_emod_of_nonneg i (by omega)];exact q)
theorem ZaI:W9 X (binaryOp .Pow) (rI Zjs fun i j=>.int (i ^ j.toNat)):=opI fun _ _ _ _ _ _ _ z q=>pow_int_small z.1 z.2.1 z.2.2 q
theorem unI {f:Value->Sem Value}{g:Int->Int}
  (rule:∀(i:Int) (t:Tok) (s:Shared) (Q:Value->Shared->Prop) (E:Value->Shared->Prop),Q (.int (g i) s.toks) {s with toks:=s.toks+1}->wpAny (model X.prog X.w) X.A (f (.int i t)) Q E s) :
  UnR X f (rU fun i=>.int (g i)):=by
 intro j s J H x v Q I z h;obtain⟨i,rfl,q⟩:=h;obtain⟨t,rfl⟩:=z;exact rule i t s _ _ ⟨.int (g i),H,I.tok _,⟨_,rfl⟩,q⟩
theorem XD:UnR X (unaryOp .USub) (rU fun i=>.int (-i)):=unI fun _ _ _ _ _ q=>neg_int q
end
noncomputable def ZhE:V->V->Bool
 | .non,.non=>true | .non,.int _=>true | .int _,.non=>true | .non,.bl _=>true | .bl _,.non=>true | .non,.str _=>true | .str _,.non=>true
 | .int _,.int _=>true | .bl _,.bl _=>true | .str _,.str _=>true | .byt _,.byt _=>true
 | .int _,.str _=>true | .str _,.int _=>true | .bl _,.str _=>true | .str _,.bl _=>true
 |_,_=>false
noncomputable def rEq:R2:=fun x y H Q=>ZhE x y=true/\Q (.bl (decide (x=y))) H
noncomputable def rNe:R2:=fun x y H Q=>ZhE x y=true/\Q (.bl (!decide (x=y))) H
theorem ZbP {i j:Int}:decide (V.int i=V.int j)=(i == j):=by
 rw[be];simp
theorem ZdT {i j:Bool}:decide (V.bl i=V.bl j)=(i == j):=by
 rw[be];simp
theorem ZbO {i j:Str}:decide (V.str i=V.str j)=(i == j):=by
 rw[be];simp
theorem ZbQ {i j:Array UInt8}:decide (V.byt i=V.byt j)=(i.toList == j.toList):=by
 rw[be];cases i;cases j;simp
section
variable {X:Cx}{a b c:Expr}{ta tb tc:TE}{pos:Pos}
theorem ZR {j:List (Addr×Obj)}{σ:St}{H:Hp}{s:Shared}{Q:VK}{k z:Bool}(I:Inv X j σ H s)(q:Q (.bl k) H)(e:k=z):EP X j σ Q (.bool z) s:=by
 subst e;exact⟨.bl k,H,I,rfl,q⟩
theorem Z1:W9 X (compareOp .Eq) rEq:=by
 intro j4 s σ H x y v u Q I Y z h;obtain⟨O,q⟩:=h;cases x with
 |non=>
  cases Y;cases y with
  |non=>cases z;exact PySem.EqNone.eq_none_none (ZR I q (by simp))
  |bl j=>cases z;exact PySem.EqNone.eq_none_bool (ZR I q (by simp))
  |int j=>obtain⟨J,rfl⟩:=z;exact PySem.EqNone.eq_none_int (ZR I q (by simp))
  |str j=>obtain⟨J,rfl⟩:=z;exact PySem.EqNone.eq_none_str (ZR I q (by simp))
  |_=>exact absurd (show false=true from O) aS
 |bl i=>
  cases Y;cases y with
  |non=>cases z;exact PySem.EqNone.eq_bool_none (ZR I q (by simp))
  |bl j=>cases z;exact eq_bool (ZR I q ZdT)
  |str j=>obtain⟨J,rfl⟩:=z;exact PySem.EqMixed.eq_bool_str (ZR I q (by simp))
  |_=>exact absurd (show false=true from O) aS
 |int i=>
  obtain⟨t,rfl⟩:=Y;cases y with
  |non=>cases z;exact PySem.EqNone.eq_int_none (ZR I q (by simp))
  |int j=>obtain⟨J,rfl⟩:=z;exact eq_int (ZR I q ZbP)
  |str j=>obtain⟨J,rfl⟩:=z;exact PySem.EqMixed.eq_int_str (ZR I q (by simp))
  |_=>exact absurd (show false=true from O) aS
 |str i=>
  obtain⟨t,rfl⟩:=Y;cases y with
  |non=>cases z;exact PySem.EqNone.eq_str_none (ZR I q (by simp))
  |bl j=>cases z;exact PySem.EqMixed.eq_str_bool (ZR I q (by simp))
  |int j=>obtain⟨J,rfl⟩:=z;exact PySem.EqMixed.eq_str_int (ZR I q (by simp))
  |str j=>obtain⟨J,rfl⟩:=z;exact eq_str (ZR I q ZbO)
  |_=>exact absurd (show false=true from O) aS
 |byt i=>
  obtain⟨t,rfl⟩:=Y;cases y with
  |byt j=>obtain⟨J,rfl⟩:=z;exact PySem.W.eq_bytes (ZR I q ZbQ)
  |_=>exact absurd (show false=true from O) aS
 |_=>cases y <;> exact absurd (show false=true from O) aS
theorem Y7:W9 X (compareOp .NotEq) rNe:=by
 intro j4 s σ H x y v u Q I Y z h;obtain⟨O,q⟩:=h;cases x with
 |non=>
  cases Y;cases y with
  |non=>cases z;exact PySem.EqNone.ne_none_none (ZR I q (by simp))
  |bl j=>cases z;exact PySem.EqNone.ne_none_bool (ZR I q (by simp))
  |int j=>obtain⟨J,rfl⟩:=z;exact PySem.EqNone.ne_none_int (ZR I q (by simp))
  |str j=>obtain⟨J,rfl⟩:=z;exact PySem.EqNone.ne_none_str (ZR I q (by simp))
  |_=>exact absurd (show false=true from O) aS
 |bl i=>
  cases Y;cases y with
  |non=>cases z;exact PySem.EqNone.ne_bool_none (ZR I q (by simp))
  |bl j=>cases z;exact ne_bool (ZR I q (congrArg not ZdT))
  |str j=>obtain⟨J,rfl⟩:=z;exact PySem.EqMixed.ne_bool_str (ZR I q (by simp))
  |_=>exact absurd (show false=true from O) aS
 |int i=>
  obtain⟨t,rfl⟩:=Y;cases y with
  |non=>cases z;exact PySem.EqNone.ne_int_none (ZR I q (by simp))
  |int j=>obtain⟨J,rfl⟩:=z;exact ne_int (ZR I q (congrArg not ZbP))
  |str j=>obtain⟨J,rfl⟩:=z;exact PySem.EqMixed.ne_int_str (ZR I q (by simp))
  |_=>exact absurd (show false=true from O) aS
 |str i=>
  obtain⟨t,rfl⟩:=Y;cases y with
  |non=>cases z;exact PySem.EqNone.ne_str_none (ZR I q (by simp))
  |bl j=>cases z;exact PySem.EqMixed.ne_str_bool (ZR I q (by simp))
  |int j=>obtain⟨J,rfl⟩:=z;exact PySem.EqMixed.ne_str_int (ZR I q (by simp))
  |str j=>obtain⟨J,rfl⟩:=z;exact ne_str (ZR I q (congrArg not ZbO))
  |_=>exact absurd (show false=true from O) aS
 |byt i=>
  obtain⟨t,rfl⟩:=Y;cases y with
  |byt j=>obtain⟨J,rfl⟩:=z;exact PySem.W.ne_bytes (ZR I q (congrArg not ZbQ))
  |_=>exact absurd (show false=true from O) aS
 |_=>cases y <;> exact absurd (show false=true from O) aS
theorem XY:W9 X (compareOp .Lt) (rI0 fun i j=>.bl (decide (i<j))):=ZeE fun _ _ _ _ _ _ _ q=>lt_int q
theorem UL:W9 X (compareOp .LtE) (rI0 fun i j=>.bl (decide (i<=j))):=ZeE fun _ _ _ _ _ _ _ q=>le_int q
theorem Wo:W9 X (compareOp .Gt) (rI0 fun i j=>.bl (decide (j<i))):=ZeE fun _ _ _ _ _ _ _ q=>gt_int q
theorem Zbw:W9 X (compareOp .GtE) (rI0 fun i j=>.bl (decide (j<=i))):=ZeE fun _ _ _ _ _ _ _ q=>ge_int q
theorem Zce:W9 X (compareOp .In) (fun x y H Q=>∃i j,x=.str i/\y=.str j/\Q (.bl (!(dU j i 0 j.length 1).isEmpty)) H):=by
 intro z s Y H x y v u Q I J O h;obtain⟨i,j,rfl,rfl,q⟩:=h;obtain⟨t,rfl⟩:=J;obtain⟨t',rfl⟩:=O;exact in_str (ZR I q rfl)
theorem Js:W9 X (compareOp .Is) (fun x y H Q=>y=.non/\Q (.bl (decide (x=.non))) H):=by
 intro j s O H x y v u Q I z J h;obtain⟨rfl,q⟩:=h;cases J;refine is_none_gen (ZR I q ?_);cases x <;> first
  |(cases z;rfl)
  |(obtain⟨t,rfl⟩:=z;rfl)
theorem WH:W9 X (compareOp .NotIn) (fun x y H Q=>∃i j,x=.str i/\y=.str j/\Q (.bl (!(!(dU j i 0 j.length 1).isEmpty))) H):=by
 intro z s Y H x y v u Q I J O h;obtain⟨i,j,rfl,rfl,q⟩:=h;obtain⟨t,rfl⟩:=J;obtain⟨t',rfl⟩:=O;exact notIn_str (ZR I q rfl)
theorem Zz (b:Expr){op:CmpOp}(h:op≠.In:=by decide)(j:op≠.NotIn:=by decide):behindInMarks op b=false:=by
 have z:(op == CmpOp.In)=false:=by cases op <;> first|rfl|exact absurd rfl h
 have J:(op == CmpOp.NotIn)=false:=by cases op <;> first|rfl|exact absurd rfl j
 cases b <;> simp[behindInMarks,z,J]
theorem WG {op:CmpOp}{r:R2}(z:W9 X (compareOp op) r)(J:PE X a ta)(hb:PE X b tb)(O:behindInMarks op b=false):PE X (.Compare a [op] [b] pos) (Xi r ta tb):=by
 intro j s Y H Q I h;exact wpAny_Compare1 (Zg0 J hb I h fun v u s2 x y H2 I2 rx ry q=>z j s2 Y H2 x y v u Q I2 rx ry q) O
noncomputable def Wl (t:TE):TT:=fun j H Q=>t j H fun x z=>∃k,x=.bl k/\Q k z
theorem Zy {op:CmpOp}{r:R2}(O:W9 X (compareOp op) r)(Y:PE X a ta)(hb:PE X b tb)(hm:behindInMarks op b=false):PT X (.Compare a [op] [b] pos) (Wl (Xi r ta tb)):=by
 intro j s J H Q I h;refine wpAny_isTrue_Compare1 (ZW (Y j s J H _ I h) fun v s1 ⟨x,H1,I1,r1,q1⟩=>ZW (hb j s1 J H1 _ I1 q1) fun u s2 ⟨y,H2,I2,r2,q2⟩=>
  ZW (O j s2 J H2 x y v u _ I2 r1 r2 q2) fun c s3 ⟨z,H3,I3,r3,k,e,q3⟩=>?_) hm
 subst e;cases r3;exact bI ⟨H3,I3,q3⟩
noncomputable def ZcY (r O:R2)(ta tb tc:TE):TE:=fun j H Q=>ta j H fun x Y=>tb j Y fun y H2=>r x y H2 fun z J=>∃k,z=.bl k/\
 (if k=true then tc j J fun w' H4=>O y w' H4 Q else Q (.bl false) J)
theorem Zdi {op J:CmpOp}{r r':R2}(ho:W9 X (compareOp op) r)(Y:W9 X (compareOp J) r')(ha:PE X a ta)(hb:PE X b tb)(hc:PE X c tc)
  (hm:lastMarks [op,J] [b,c]=false:=by with_unfolding_all rfl):PE X (.Compare a [op,J] [b,c] pos) (ZcY r r' ta tb tc):=by
 intro j s O H Q I h;refine Compare_chain (ZW (ha j s O H _ I h) fun v s1 ⟨x,H1,I1,r1,q1⟩=>chain_link (ZW (hb j s1 O H1 _ I1 q1) fun u s2 ⟨y,H2,I2,r2,q2⟩=>
  ZW (ho j s2 O H2 x y v u _ I2 r1 r2 q2) fun d s3 ⟨z,H3,I3,r3,k,e,q3⟩=>?_)) hm
 subst e;cases r3;refine bI ?_;cases k with
 |false=>exact ite_ff ⟨.bl false,H3,I3,rfl,q3⟩
 |true=>exact ite_tt (chain_last (ZW (hc j s3 O H3 _ I3 q3) fun w' s4 ⟨z',H4,I4,r4,q4⟩=>Y j s4 O H4 y z' u w' Q I4 r2 r4 q4))
theorem Zdd {op J:CmpOp}{r r':R2}(ho:W9 X (compareOp op) r)(Y:W9 X (compareOp J) r')(ha:PE X a ta)(hb:PE X b tb)(hc:PE X c tc)
  (hm:lastMarks [op,J] [b,c]=false:=by with_unfolding_all rfl):PT X (.Compare a [op,J] [b,c] pos) (Wl (ZcY r r' ta tb tc)):=by
 intro j s O H Q I h;refine isTrue_chain (ZW (ha j s O H _ I h) fun v s1 ⟨x,H1,I1,r1,q1⟩=>test_link (ZW (hb j s1 O H1 _ I1 q1) fun u s2 ⟨y,H2,I2,r2,q2⟩=>
  ZW (ho j s2 O H2 x y v u _ I2 r1 r2 q2) fun d s3 ⟨z,H3,I3,r3,k,e,q3⟩=>?_)) hm
 subst e;cases r3;refine bI ?_;cases k with
 |false=>
  obtain⟨k',e',q'⟩:=q3;cases e';exact ite_ff ⟨H3,I3,q'⟩
 |true=>
  refine ite_tt (test_last (ZW (hc j s3 O H3 _ I3 q3) fun w' s4 ⟨z',H4,I4,r4,q4⟩=>ZW (Y j s4 O H4 y z' u w' _ I4 r2 r4 q4) fun d' s5 ⟨z2,H5,I5,r5,k2,e2,q5⟩=>?_));subst e2;cases r5;exact bI ⟨H5,I5,q5⟩
theorem Ju:(sizeLine:Nat)<2 ^ 63:=by rw[fu];decide
theorem Z4:W9 X (binaryOp .Add) (fun x y H Q=>∃i j,x=.str i/\y=.str j/\i.length+j.length<=sizeLine/\Q (.str (i++j)) H):=by
 intro z s σ H x y v u Q I J O h;obtain⟨i,j,rfl,rfl,Y,q⟩:=h;obtain⟨t,rfl⟩:=J;obtain⟨t',rfl⟩:=O;exact add_str (fun t' tk=>⟨.str (i++j),H,I.tok _,⟨_,rfl⟩,q⟩) Y
theorem vals1 {x:V}{us:List Value}(r:ZN [x] us):∃u,us=[u]/\RelV x u:=by
 cases r with
 |cons j z=>cases z;exact⟨_,rfl,j⟩
theorem vals2 {x y:V}{us:List Value}(r:ZN [x,y] us):∃u j,us=[u,j]/\RelV x u/\RelV y j:=by
 cases r with
 |cons z J=>
  cases J with
  |cons O Y=>cases Y;exact⟨_,_,rfl,z,O⟩
theorem U8:Yk X (.builtin "abs") (fun xs H Q=>∃i,xs=[.int i]/\Q (.int (if i<0 then -i else i)) H):=by
 intro j s z H xs J Q I r h;obtain⟨i,rfl,q⟩:=h;obtain⟨u,rfl,t,rfl⟩:=vals1 r;exact call_abs_int fun u tk=>⟨.int (if i<0 then -i else i),H,I.tok _,⟨_,rfl⟩,q⟩
theorem ZcF (O:X.calm=true):Yk X (.builtin "max") (fun xs H Q=>∃i j,xs=[.int i,.int j]/\Q (.int (if j > i then j else i)) H):=by
 intro J s Y H xs us Q I r h;obtain⟨i,j,rfl,q⟩:=h;obtain⟨u,w',rfl,⟨t,rfl⟩,⟨t',rfl⟩⟩:=vals2 r;refine max_two_ints (I.ok.hd O) fun h' tk k=>⟨_,H,I.kept k,?_,q⟩;by_cases z:j > i
 ·rw[if_pos z,if_pos z];exact⟨_,rfl⟩
 ·rw[if_neg z,if_neg z];exact⟨_,rfl⟩
theorem Xe (O:X.calm=true):Yk X (.builtin "min") (fun xs H Q=>∃i j,xs=[.int i,.int j]/\Q (.int (if j<i then j else i)) H):=by
 intro J s Y H xs us Q I r h;obtain⟨i,j,rfl,q⟩:=h;obtain⟨u,w',rfl,⟨t,rfl⟩,⟨t',rfl⟩⟩:=vals2 r;refine min_two_ints (I.ok.hd O) fun h' tk k=>⟨_,H,I.kept k,?_,q⟩;by_cases z:j<i
 ·rw[if_pos z,if_pos z];exact⟨_,rfl⟩
 ·rw[if_neg z,if_neg z];exact⟨_,rfl⟩
theorem Xf:Yk X (.type "int") (fun xs H Q=>(∃i,xs=[.int i]/\Q (.int i) H)\/∃k,xs=[.bl k]/\Q (.int (if k then 1 else 0)) H):=by
 intro j s J H xs O Q I r h;rcases h with ⟨i,rfl,q⟩|⟨k,rfl,q⟩
 ·obtain⟨u,rfl,t,rfl⟩:=vals1 r
  exact call_int_int ⟨.int i,H,I,⟨_,rfl⟩,q⟩
 ·obtain⟨u,rfl,z⟩:=vals1 r
  cases z;exact call_int_bool ⟨.int (if k then 1 else 0),H,I.tok _,⟨_,rfl⟩,q⟩
theorem Ym:Yk X (.type "str") (fun xs H Q=>∃i,xs=[.int i]/\i.natAbs.log2<1920/\Q (.str (toString i)) H):=by
 intro j s J H xs O Q I r h;obtain⟨i,rfl,z,q⟩:=h;obtain⟨u,rfl,t,rfl⟩:=vals1 r;exact PySem.P.str_of_int z ⟨.str _,H,I.tok _,⟨_,rfl⟩,q⟩
end
section
variable {prog:Program}{w:World}{A:Around}{E:Value->Shared->Prop}{s:Shared}{K:ac}{x dx C f:Addr}{mA:Str->Option Value}{name:Str}{v:Value}
end
theorem JT.some_of {v:V}{o:Option Value}(r:JT (some v) o):∃u,o=some u/\RelV v u:=by
 cases o with
 |none=>exact (show False from r).elim
 |some u=>exact⟨u,rfl,r⟩
theorem Zcu {v:V}{u:Value}(r:RelV v u):PySem.W.handedIn u=true:=by
 cases v with
 |non=>cases (show u=bn from r);rfl
 |bl b=>cases (show u=fR b from r);rfl
 |int i=>obtain⟨t,e⟩:=(show ∃t,u=iq i t from r);cases e;rfl
 |str x=>obtain⟨t,e⟩:=(show ∃t,u=ip x t from r);cases e;rfl
 |byt b=>obtain⟨t,e⟩:=(show ∃t,u=Value.bytes b t from r);cases e;rfl
 |flt b=>obtain⟨t,e⟩:=(show ∃t,u=Value.float b t from r);cases e;rfl
 |ref a=>cases (show u=au a from r);rfl
 |ty n=>cases (show u=hU n from r);rfl
section
variable {P:Program}{w:World}{H H':Hp}{h h':Heap}{a C dx:Addr}{fs fs':List (Str×V)}
end
section
variable {X:Cx}{pins:List (Addr×Obj)}{σ:St}{H:Hp}{s:Shared}{a C dx:Addr}{fs:List (Str×V)}{f:Str}{v:V}{A:Around}{E:Value->Shared->Prop}
theorem Zfd {prog:Program}{w:World}{env:Env}{e:Expr}{f:Str}{pos:Pos}{s:Shared}{Q:Value->Shared->Prop}(hb:attributeBase e f env (eval e env)=eval e env)
  (h:wpAny (model prog w) A (eval e env) (fun o j=>wpAny (model prog w) A (getAttr o f true) Q E j) E s):wpAny (model prog w) A (eval (.Attribute e f pos) env) Q E s:=
 Attribute_any_ h (by rw[arm_eval_Attribute,hb])
end
section
variable {X:Cx}{o e value:Expr}{f:Str}{pos pos' tpos:Pos}{ta tv:TE}
end
section
variable {X:Cx}{pins:List (Addr×Obj)}{σ:St}{H:Hp}{s:Shared}{A:Around}{E:Value->Shared->Prop}{Q:Value->Shared->Prop}{c:Value}{b:Bool}
end
structure Y2 (k:Nat)(A:Around):Prop where
 hd:A.handled=none
 dp:A.depth+3*k+5<recursionLimit
 un:A.units+16*k+200<cLine
 gd:A.guards=some []
theorem Y2.mono {j k:Nat}{A:Around}(r:Y2 k A)(h:j<=k):Y2 j A:=⟨r.hd,by have:=r.dp;omega,by have:=r.un;omega,r.gd⟩
theorem Y2.deeper {k:Nat}{A:Around}(r:Y2 (k+1) A)(env:Env):Y2 k (A.deeper env):=
 ⟨r.hd,by have:=r.dp;show A.depth+1+3*k+5<_;omega,by have:=r.un;show A.units+3+16*k+200<_;omega,r.gd⟩
theorem ZaR {A:Around}{C:Addr}{us:List Value}{kw:List (Str×Value)}:(A.under (.builtin "type.__call__" ⟨.ref C::us,kw⟩)).depth=A.depth+1:=by
 first|rfl|simp[gf,Code.weight,Code.isCreation,Code.isGuard,Code.isCaller,Code.frames,iH,guardIds]
theorem ZaQ {A:Around}{C:Addr}{us:List Value}{kw:List (Str×Value)}:(A.under (.builtin "type.__call__" ⟨.ref C::us,kw⟩)).units=A.units+1:=by
 first|rfl|simp[gf,Code.cUnits,Code.frames,iH]
theorem Y2.make {k:Nat}{A:Around}(r:Y2 (k+1) A)(C:Addr)(j:List Value)(kw:List (Str×Value)):Y2 k (A.under (.builtin "type.__call__" ⟨.ref C::j,kw⟩)):=
 ⟨r.hd,by have:=r.dp;rw[ZaR];omega,by have:=r.un;rw[ZaQ];omega,by first|exact r.gd|(simpa [gf,Code.guards,Code.isGuard,guardIds] using r.gd)⟩
theorem Y2.depth {k:Nat}{A:Around}(r:Y2 k A):A.depth<recursionLimit:=by have:=r.dp;omega
theorem Y2.units {k:Nat}{A:Around}(r:Y2 k A):A.units+64<cLine:=by have:=r.un;omega
noncomputable def Jl:TA:=fun _ H Q=>Q [] H
noncomputable def Yw (z:TE)(J:TA):TA:=fun j H Q=>z j H fun x O=>J j O fun Y H2=>Q (x::Y) H2
section
variable {X:Cx}{e:Expr}{es:List Expr}{te:TE}{t:TA}{pos:Pos}
theorem Zs:PA X [] Jl:=fun _ _ _ _ H Q I h=>jh ⟨[],H,I,.nil,h⟩
theorem ZeC (J:PE X e te)(O:PA X es t)(Y:starEach (e::es) X.env=(false,eval e X.env)::starEach es X.env:=by rfl):PA X (e::es) (Yw te t):=by
 intro pos j s z H Q I h;rw[Y];show wpAny _ _ (spliced ((false,eval e X.env)::backTo pos (starEach es X.env))) _ _ s;refine fW (ZW (J j s z H _ I h) fun u s1 ⟨x,H1,I1,r1,q1⟩=>?_);exact ZW (O pos j s1 z H1 _ I1 q1) fun us s2 ⟨xs,H2,I2,r2,q2⟩=>⟨x::xs,H2,I2,.cons r1 r2,q2⟩
noncomputable def ZbZ (t:TA):TE:=fun J H Q=>t J H fun j z=>j.length<=sizeLine/\∀p,z p=none->Q (.ref p) (upd z p (.tup j))
noncomputable def Zhn (t:TA):TE:=fun J H Q=>t J H fun j z=>j.length<=sizeLine/\∀p,z p=none->Q (.ref p) (upd z p (.lst j))
theorem Y5 {x1}(h:PA X es t):PE X (.Tuple es x1 pos) (ZbZ t):=by
 intro j s σ H Q I hq;refine wpAny_Tuple_spliced (ZW (h pos j s σ H _ I hq) fun us J ⟨xs,O,Y,r,z,q⟩=>⟨by rw[<-r.length];exact z,?_⟩);have hf:O J.heap.objs.size=none:=Y.hok.fresh (Zq _);refine⟨.ref J.heap.objs.size,upd O J.heap.objs.size (.tup xs),Y.laid (t':=J.toks) (fun b u e=>Zn _ e) (Zq _) ?_,rfl,q _ hf⟩;exact⟨z,us,r,⟨_,Zo _ rfl,rfl,_,rfl⟩⟩
theorem Z3 (h:PA X es t):PE X (.List es pos) (Zhn t):=by
 intro j s σ H Q I hq;refine wpAny_List_spliced (ZW (h pos j s σ H _ I hq) fun us J ⟨xs,O,Y,r,z,q⟩=>⟨by rw[<-r.length];exact z,?_⟩);have hf:O J.heap.objs.size=none:=Y.hok.fresh (Zq _);refine⟨.ref J.heap.objs.size,upd O J.heap.objs.size (.lst xs),Y.laid (t':=J.toks) (fun b u e=>Zn _ e) (Zq _) ?_,rfl,q _ hf⟩;exact⟨z,us,0,r,Zo _ rfl⟩
end
noncomputable abbrev Sp:=List V->Hp->VK->XK->Prop
noncomputable abbrev VQ:=List Env->Hp->Shared->XK->Value->Shared->Prop
structure Za8 (P:Program)(w:World)(K:ac)(mg:Str->Option Value)(base:Heap)(A:Around)(outer:List Env)(s:Shared)(H:Hp):Prop where
 frames:A.frames=some outer
 mod:Mod K mg base
 bs:∀b o,base.get? b=some o->s.heap.get? b=some o/\H b=none
 bsz:base.objs.size<=s.heap.objs.size
 funs:s.heap.FunFrames base outer
 frf:∀b∈frs outer,H b=none
 hok:JB P w H s.heap
 bare:fv s.gens
noncomputable def CE (outer:List Env)(P:Program)(w:World)(H:Hp)(s:Shared)(Q:VK)(u:Value)(s':Shared):Prop:=
 ∃v j,s'.os=s.os/\fv s'.gens/\Un (frs outer) [] H j s.heap s'.heap/\JB P w j s'.heap/\RelV v u/\Q v j
noncomputable def CR (CX:VQ)(outer:List Env)(P:Program)(w:World)(H:Hp)(s:Shared)(Q:VK)(E:XK)(r:Result)(s':Shared):Prop:=
 match r with
 | .ok (.ret u)=>CE outer P w H s Q u s'
 | .ok _=>False
 | .error e=>CX outer H s E e s'
structure Z8 (P:Program)(w:World)(K:ac)(mg:Str->Option Value)(base:Heap)(CX:VQ)(k:Nat)(f:Addr)(fd:FuncData)(ps:List Str)(sp:Sp):Prop where
 len:∀vs H Q E,sp vs H Q E->vs.length=ps.length
 run:∀(A:Around) (outer:List Env) (s:Shared) (H:Hp) (args:Args) (us:List Value) (vs:List V) (Q:VK) (E:XK),Y2 k A->Za8 P w K mg base A outer s H->gt s fd args (ps.zip us)->ZN vs us->sp vs H Q E->
  codeAny (model P w) A (.call (.ref f) args) (CR CX outer P w H s Q E) s
theorem Z8.mono {P:Program}{w:World}{K:ac}{mg:Str->Option Value}{base:Heap}{CX:VQ}{j k:Nat}{f:Addr}{fd:FuncData}{J:List Str}{sp:Sp}(F:Z8 P w K mg base CX j f fd J sp)(h:j<=k) :
  Z8 P w K mg base CX k f fd J sp:=⟨F.len,fun A z s H args O Y Q E hr=>F.run A z s H args O Y Q E (hr.mono h)⟩
theorem Z8.imp {P:Program}{w:World}{K:ac}{mg:Str->Option Value}{base:Heap}{CX:VQ}{k:Nat}{f:Addr}{fd:FuncData}{J:List Str}{sp z:Sp}(F:Z8 P w K mg base CX k f fd J sp)
  (h:∀vs H Q E,z vs H Q E->sp vs H Q E):Z8 P w K mg base CX k f fd J z:=
 ⟨fun vs H Q E q=>F.len vs H Q E (h _ _ _ _ q),fun A j s H args O vs Q E Y he hb hv hs=>F.run A j s H args O vs Q E Y he hb hv (h _ _ _ _ hs)⟩
theorem Za8.make {P:Program}{w:World}{K:ac}{mg:Str->Option Value}{base:Heap}{A:Around}{outer:List Env}{s:Shared}{H:Hp}(e:Za8 P w K mg base A outer s H)(C:Addr)(j:List Value)(kw:List (Str×Value)) :
  Za8 P w K mg base (A.under (.builtin "type.__call__" ⟨.ref C::j,kw⟩)) outer s H:=⟨by first|exact e.frames|(simpa [gf,Code.envs,iH,pushEnvs] using e.frames),e.mod,e.bs,e.bsz,e.funs,e.frf,e.hok,e.bare⟩
section
variable {X:Cx}{pins:List (Addr×Obj)}{σ:St}{H:Hp}{s s':Shared}
theorem Inv.env0 (I:Inv X pins σ H s):Za8 X.prog X.w X.K X.mg X.base X.A X.stack s H:=
 ⟨I.ok.frames,I.ok.mod,I.bs,aK I.ok.bsz I.sz,I.stack,I.stkFree,I.hok,I.bare⟩
theorem Inv.after {Q:VK}{u:Value}(I:Inv X pins σ H s)(h:CE X.stack X.prog X.w H s Q u s'):EP X pins σ Q u s':=by
 obtain⟨v,J,os,bare,un,hok,r,q⟩:=h;obtain⟨O,g,d,t,j⟩:=s';obtain rfl:j=s.os:=os;exact⟨v,J,I.call (h':=O) (g':=g) (d':=d) (t':=t) (ch:=[]) un hok bare (fun b z=>absurd z (by simp)),r,q⟩
end
noncomputable def XJ (sp:Sp)(j:List V)(E:XK)(t:TA):TE:=fun z H Q=>t z H fun J O=>sp (J++j) O Q E
noncomputable def Binds (K:ac)(J:FuncData)(z:List Str)(ds:List Value):Prop:=
 ∀(s:Shared) (j:List Value),K.In s.heap->(j++ds).length=z.length->gt s J ⟨j,[]⟩ (z.zip (j++ds))
theorem Binds.all {K:ac}{fd:FuncData}{j:List Str}(h:∀us:List Value,us.length=j.length->bindArgs fd ⟨us,[]⟩=pure (j.zip us)):Binds K fd j []:=fun s us _ z=>by
 rw[aI] at z ⊢;exact .of_eq (h us z)
noncomputable def WN (CX:VQ)(X:Cx)(E:XK):Prop:=∀(j:List (Addr×Obj)) (J:St) (H:Hp) (s:Shared) (e:Value) (z:Shared),Inv X j J H s->CX X.stack H s E e z->X.xe e z
section
variable {X:Cx}{CX:VQ}{k:Nat}{f C:Addr}{fd:FuncData}{ps:List Str}{sp:Sp}{dvs:List V}{ds:List Value}{E:XK}{x m:Str}{p pos apos:Pos}{e o:Expr}{es:List Expr}{ta:TE}{t:TA}
theorem ZfZ {j:List (Addr×Obj)}{σ:St}{H:Hp}{s:Shared}{Q:VK}{us:List Value}{vs:List V}(F:Z8 X.prog X.w X.K X.mg X.base CX k f fd ps sp)(O:Y2 k X.A)(hb:Binds X.K fd ps ds)(Y:ZN dvs ds)(hx:WN CX X E)
  (I:Inv X j σ H s) (r:ZN vs us) (h:sp (vs++dvs) H Q E):wpAny (model X.prog X.w) X.A (call (.ref f) us) (EP X j σ Q) X.xe s:=by
 have J:ZN (vs++dvs) (us++ds):=r.append Y;have hl:(us++ds).length=ps.length:=by rw[<-J.length];exact F.len _ _ _ _ h
 refine gN (hG (F.run X.A X.stack s H ⟨us,[]⟩ (us++ds) (vs++dvs) Q E O I.env0 (hb s us I.kIn hl) J h) fun r s' z=>?_);cases r with
 |error e=>exact hx j σ H s e s' I z
 |ok fl=>
  cases fl with
  |ret u=>exact I.after z
  |next=>exact bA z
  |brk=>exact bA z
  |cont=>exact bA z
theorem Zey (F:Z8 X.prog X.w X.K X.mg X.base CX k f fd ps sp)(hr:Y2 k X.A)(hg:Gl X x)(hm:X.mg x=some (.ref f))(hk:aX X.K (.ref f)=true)(hb:Binds X.K fd ps ds)(hd:ZN dvs ds)(hx:WN CX X E)
  (ha:PA X (e::es) t) (z:(x == ("__debug__":Str))=false:=by decide) (he:starEach (e::es) X.env=(false,eval e X.env)::starEach es X.env:=by rfl) (J:(backTo pos (starEach es X.env)).any (·.1)=false:=by rfl) :
  PE X (.Call (.Name x p) (e::es) [] pos) (XJ sp dvs E t):=by
 intro j s σ H Q I h;refine di (Je I hg hm ?_ z);refine fJ (h₀:=X.base) I.ok.mod.kin hk (ZW (ha pos j s σ H _ I h) fun us s1 ⟨vs,H1,Y,r,q⟩=>⟨Y.kIn,?_⟩) he J;exact ZfZ F hr hb hd hx Y r q
end
section
variable {X:Cx}{CX:VQ}{k:Nat}{f C:Addr}{fd:FuncData}{ps ks:List Str}{sp:Sp}{E:XK}{x m:Str}{p pos apos kpos:Pos}{e o:Expr}{es:List Expr}{kws:List Keyword}{te ta:TE}{t tk:TA}{nm:Option Str}
variable {g:List Value->List Value->List Value}{gV:List V->List V->List V}
end
structure JU (N P:List Str)(sc:Scope):Prop where
 kind:sc.kind=.function
 co:sc.isCoroutine=false
 gen:sc.isGenerator=false
 nd:N.Nodup
 pre:N.take P.length=P
 par:∀x∈P,sc.names.lookup x=some .local\/sc.names.lookup x=some .cell
 nofree:∀y∈sc.names,y.2≠.free
theorem FS {N P:List Str}{j:Scope}(a:j.kind=.function:=by rfl)(b:j.isCoroutine=false:=by rfl)(c:j.isGenerator=false:=by rfl)(d:N.Nodup:=by decide +kernel)(e:N.take P.length=P:=by rfl)(f:∀x∈P,j.names.lookup x=some .local\/j.names.lookup x=some .cell:=by decide +kernel)(g:∀y∈j.names,y.2≠.free:=by decide +kernel):JU N P j:=⟨a,b,c,d,e,f,g⟩
theorem Uu {α:Type}{f g:List Value->α}(h:∀a,f [a]=g [a])(j:List Value)(l:j.length=1):f j=g j:=by
  cases j with
  |nil=>cases l
  |cons a r=>cases r with
    |nil=>exact h a
    |cons b r=>simp at l
theorem bd2 {α:Type}{f g:List Value->α}(h:∀a b,f [a,b]=g [a,b])(j:List Value)(l:j.length=2):f j=g j:=by
  cases j with
  |nil=>cases l
  |cons a r=>exact Uu (f:=fun r=>f (a::r)) (g:=fun r=>g (a::r)) (h a) r (eW l)
theorem bd3 {α:Type}{f g:List Value->α}(h:∀a b c,f [a,b,c]=g [a,b,c])(j:List Value)(l:j.length=3):f j=g j:=by
  cases j with
  |nil=>cases l
  |cons a r=>exact bd2 (f:=fun r=>f (a::r)) (g:=fun r=>g (a::r)) (h a) r (eW l)
theorem bd4 {α:Type}{f g:List Value->α}(h:∀a b c d,f [a,b,c,d]=g [a,b,c,d])(j:List Value)(l:j.length=4):f j=g j:=by
  cases j with
  |nil=>cases l
  |cons a r=>exact bd3 (f:=fun r=>f (a::r)) (g:=fun r=>g (a::r)) (h a) r (eW l)
theorem bd5 {α:Type}{f g:List Value->α}(h:∀a b c d e,f [a,b,c,d,e]=g [a,b,c,d,e])(j:List Value)(l:j.length=5):f j=g j:=by
  cases j with
  |nil=>cases l
  |cons a r=>exact bd4 (f:=fun r=>f (a::r)) (g:=fun r=>g (a::r)) (h a) r (eW l)
theorem VL {kindOf:Str->Option cR}{x:Str}:∀{binds:List (Str×Value)}{m:Str->Option Value},(∀v,(x,v)∉binds)->bindL kindOf binds m x=m x
 | [],_,_=>rfl
 |(n,v)::r,m,h=>by
  unfold bindL;rw[VL fun w j=>h w (ae _ j)];split
  ·have:x≠n:=by rintro rfl;exact h v ah
   simp[this]
  ·rfl
theorem VN {kindOf:Str->Option cR}{x:Str}:∀{binds:List (Str×Value)}{m:Str->Option Value},(∀v,(x,v)∉binds)->bindC kindOf binds m x=m x
 | [],_,_=>rfl
 |(n,v)::r,m,h=>by
  unfold bindC;rw[VN fun w j=>h w (ae _ j)];split
  ·rfl
  ·have:x≠n:=by rintro rfl;exact h v ah
   simp[this]
theorem VM {kindOf:Str->Option cR}{x:Str}{v:Value}:∀{P:List Str}{vs:List Value}{i:Nat}{m:Str->Option Value},P.Nodup->P[i]?=some x->vs[i]?=some v->kindOf x=some .local->
  bindL kindOf (P.zip vs) m x=some v
 | [],_,_,_,_,h,_,_=>by simp at h
 |_::_,[],_,_,_,_,h,_=>by simp at h
 |p::P,w::vs,0,m,nd,j,z,J=>by
  simp at j z;subst j;subst z;show bindL kindOf ((p,w)::P.zip vs) m p=_;unfold bindL;rw[VL fun v O=>(cT.mp nd).1 (gY O).1,if_pos J];simp
 |p::P,w::vs,i+1,m,nd,j,z,J=>by
  show bindL kindOf ((p,w)::P.zip vs) m x=_;unfold bindL;exact VM (i:=i) (cT.mp nd).2 (by simpa using j) (by simpa using z) J
theorem VO {kindOf:Str->Option cR}{x:Str}{v:Value}:∀{P:List Str}{vs:List Value}{i:Nat}{m:Str->Option Value},P.Nodup->P[i]?=some x->vs[i]?=some v->kindOf x≠some .local->
  bindC kindOf (P.zip vs) m x=some v
 | [],_,_,_,_,h,_,_=>by simp at h
 |_::_,[],_,_,_,_,h,_=>by simp at h
 |p::P,w::vs,0,m,nd,j,z,J=>by
  simp at j z;subst j;subst z;show bindC kindOf ((p,w)::P.zip vs) m p=_;unfold bindC;rw[VN fun v O=>(cT.mp nd).1 (gY O).1,if_neg J];simp
 |p::P,w::vs,i+1,m,nd,j,z,J=>by
  show bindC kindOf ((p,w)::P.zip vs) m x=_;unfold bindC;exact VO (i:=i) (cT.mp nd).2 (by simpa using j) (by simpa using z) J
noncomputable def start (N:List Str)(vs:List V):St:=vs.map some++ag (N.length-vs.length) none
noncomputable def UZ (CX:VQ)(P:Program)(w:World)(K:ac)(mg:Str->Option Value)(base:Heap)(N:List Str)(j:Str)(scope:Scope)(f:Addr)(J:Value)(A:Around)(outer:List Env)(s:Shared)(H:Hp)(E:XK):Cx where
 prog:=P
 w:=w
 K:=K
 mg:=mg
 base:=base
 A:=A.deeper (envOfC j scope s.heap.objs.size f J)
 N:=N
 s₀:=s
 H₀:=H
 env:=envOfC j scope s.heap.objs.size f J
 outer:=outer
 stack:=envOfC j scope s.heap.objs.size f J::outer
 ex:=[]
 calm:=true
 fn:=fun _=>true
 pn:=[]
 xe:=fun e O=>wpAny (model P w) (A.deeper (envOfC j scope s.heap.objs.size f J)) (leaving (envOfC j scope s.heap.objs.size f J) e) (fun _ z=>CX outer H s E e z) (fun Y z=>CX outer H s E Y z) O
theorem U4 {j:Scope}{n:Nat}{x:Str}(h:j.names.lookup x=some .cell):∃c,(cellsFrom n j.names []).lookup x=some c:=by
 have q:=cZ j.names n [] (.inl h);exact eM.mp q
theorem Zcs {CX:VQ}{P:Program}{w:World}{K:ac}{mg:Str->Option Value}{base:Heap}{N O:List Str}{qual:Str}{scope:Scope}{f:Addr}{cd:Value}{A:Around}{outer:List Env}{s s1:Shared}{H:Hp}{E:XK}{us:List Value}{vs:List V}
  (S:JU N O scope) (hd:A.handled=none) (J:Za8 P w K mg base A outer s H) (hl:vs.length=O.length) (r:ZN vs us)
  (x:InCallC s s.heap.objs.size (bindL (envOfC qual scope s.heap.objs.size f cd).kindOf (O.zip us) fun _=>none) (cellsFrom (s.heap.objs.size+1) scope.names []) (bindC (envOfC qual scope s.heap.objs.size f cd).kindOf (O.zip us) fun _=>none) s1) :
  Inv (UZ CX P w K mg base N qual scope f cd A outer s H E) [] (start N vs) H s1:=by
 have j6:O.length<=N.length:=by have:=congrArg eS S.pre;rw[aB] at this;omega
 obtain⟨h1,tk,rfl,hk⟩:=x.done;have Y:∀b:Addr,b∉(UZ CX P w K mg base N qual scope f cd A outer s H E).ex:=fun b z=>absurd (show b∈([]:List Addr) from z) (by simp);refine⟨⟨J.mod,S.kind,rfl,rfl,Zq _,fun y z c h1 j=>?_,fun y hy=>?_,fun y c _ h=>?_,fun _=>hd,Around.frames_deeper J.frames,.inr ⟨rfl,rfl⟩,fun b z=>absurd z (Y b),J.bs,J.bsz,fun b _ _=>Y b,fun b z=>absurd z (Y b),J.funs,J.frf⟩,
  rfl,J.bare,Un.kept hk,⟨_,x.toInCall.ns,fun i y v h1 j h3=>?_⟩,fun y c h=>⟨_,x.cell y c h⟩,J.hok.fresh (Zq _),fun y c h=>?_,fun p hp=>absurd (show p∈([]:List (Addr×Obj)) from hp) (by simp),J.hok.kept hk,?_⟩
 ·exact jp x.apart (aR h1) (aR j)
 ·have hy:scope.names.lookup y=some .cell\/scope.names.lookup y=some .free:=hy
  rcases hy with hy|hy
  ·exact U4 hy
  ·exact absurd rfl (S.nofree _ (aR hy))
 ·exact gF (x.above y c (aR h))
 ·have hi:i<vs.length:=by
   unfold start at j;by_cases hi:i<vs.length
   ·exact hi
   ·rw[aP (by simpa using hi)] at j
    rw[cp] at j;split at j <;> cases j
  have ha:vs[i]?=some v:=by
   unfold start at j;rw[a6 (by simpa using hi),Zc] at j;cases e:vs[i]? with
   |none=>rw[e] at j;cases j
   |some a=>rw[e] at j;cases j;rfl
  obtain⟨u,hu,rv⟩:=r.get ha;have hp:O[i]?=some y:=by
   rw[<-S.pre,List.getElem?_take_of_lt (by omega)];exact h1
  have j4:O.Nodup:=by rw[<-S.pre];exact S.nd.sublist (List.take_sublist _ _)
  refine⟨u,rv,?_⟩;rcases S.par y (aN hp) with k|k
  ·exact .inl ⟨k,VM j4 hp hu k⟩
  ·obtain⟨c,e⟩:=U4 (n:=s.heap.objs.size+1) k
   refine .inr ⟨.inl k,c,e,?_⟩;have q:=x.cell y c e;rw[VO j4 hp hu (by show scope.names.lookup y≠_;rw[k];decide)] at q;exact q
 ·exact J.hok.fresh (gF (x.above y c (aR h)))
 ·unfold start
  show _=N.length;rw[Zd,Za,Ze];omega
theorem ZdM {CX:VQ}{P:Program}{w:World}{K:ac}{mg:Str->Option Value}{base:Heap}{k:Nat}{f:Addr}{name j:Str}{params:Arguments}{body:List Stmt}{scope:Scope}{dV kV j7 pm z ct oc:Value}{an od:Option Addr}
  {l7:Array (Option Value)}{N ps:List Str}{sp:Sp} (lk:K.lookup f=some ⟨oc,od,.func (bj name j params body scope dV kV j7 pm an z ct),l7⟩) (l8:bS K z j=true) (S:JU N ps scope)
  (len:∀vs H Q E,sp vs H Q E->vs.length=ps.length)
  (j4:∀(A:Around) (outer:List Env) (s:Shared) (H:Hp) (vs:List V) (Q:VK) (E:XK),Y2 k (A.deeper (envOfC j scope s.heap.objs.size f z))->sp vs H Q E->
   ∃t,Vi (UZ CX P w K mg base N j scope f z A outer s H E) body t/\t {nx:=fun _ Y=>Q .non Y,rt:=Q} (start N vs) H) :
  Z8 P w K mg base CX (k+1) f (bj name j params body scope dV kV j7 pm an z ct) ps sp:=by
 refine⟨len,fun A outer s H args us vs Q E hr e0 hb r j8=>?_⟩;have hl:=len _ _ _ _ j8;have KX:K.In s.heap:=e0.mod.kin.keeps fun b o e=>(e0.bs b o e).1;have l9:s.heap.NoLimit:=e0.mod.nolimit.keeps fun b o e=>(e0.bs b o e).1;have j6:∀y∈ps.zip us,scope.names.lookup y.1=some .local\/(scope.names.lookup y.1=some .cell/\((cellsFrom (s.heap.objs.size+1) scope.names []).lookup y.1).isSome=true):=fun ⟨n,v⟩ hy=>by
  rcases S.par n (gY hy).1 with q|q
  ·exact .inl q
  ·exact .inr ⟨q,cZ _ _ _ (.inl q)⟩
 refine codeAny_call_function hr.depth (KX _ _ lk) rfl S.co S.gen rfl (PySem.W.codeRec_of KX l8) (hb _ _ _ _ ?_);refine wpAny_newFunctionEnv_cells S.kind j6 fun env he s1 x=>?_;subst he;refine⟨l9.keeps x.toInCall.keep,codeAny_func ?_⟩;obtain⟨t,ht,hq⟩:=j4 A outer s H vs Q E (hr.deeper _) j8;have I:Inv (UZ CX P w K mg base N j scope f z A outer s H E) [] (start N vs) H s1:=Zcs S hr.hd e0 hl r x;refine aY (ht [] s1 (start N vs) H _ I hq) (fun fl s' hs=>?_) fun e s' hs=>hs;have j9:∀{O:St}{Y:Hp}{v:V}{u:Value},Inv (UZ CX P w K mg base N j scope f z A outer s H E) [] O Y s'->RelV v u->Q v Y->CE outer P w H s Q u s':=
  fun {O Y v u} J rv q=>⟨v,Y,J.os,J.bare,J.base,J.hok,rv,q⟩
 cases fl with
 |ret u=>
  obtain⟨v,O,Y,J,rv,q⟩:=hs;exact j9 J rv q
 |next=>
  obtain⟨O,Y,J,q⟩:=hs;exact j9 (v:=V.non) (u:=bn) J rfl q
 |brk=>
  obtain⟨_,_,_,q⟩:=hs;exact bA q
 |cont=>
  obtain⟨_,_,_,q⟩:=hs;exact bA q
section
variable {X:Cx}{x:Str}{p pos:Pos}{e:Expr}{es:List Expr}{t:TA}{id T:String}{r:List V->Hp->VK->Prop}
noncomputable def tCB (r:List V->Hp->VK->Prop)(t:TA):TE:=fun j H Q=>t j H fun z J=>r z J Q
theorem Zdj (Y:Yk X (.builtin id) r)(hg:Gl X x)(hm:X.mg x=none)(hv:bootBuiltins x=some (.builtin id))(ha:PA X (e::es) t)(hn:x ≠ "__name__":=by decide)(z:(x == ("__debug__":Str))=false:=by decide)
  (he:starEach (e::es) X.env=(false,eval e X.env)::starEach es X.env:=by rfl) (J:(backTo pos (starEach es X.env)).any (·.1)=false:=by rfl):PE X (.Call (.Name x p) (e::es) [] pos) (tCB r t):=by
 intro j s O H Q I h;refine di (J7 I hg hm hv ?_ hn z);exact PyProof.Rows.callWith_builtin1 (ZW (ha pos j s O H _ I h) fun us s1 ⟨vs,H1,I1,r1,q1⟩=>Y j s1 O H1 vs us Q I1 r1 q1) he J
theorem Zcb (Y:Yk X (.type T) r)(hg:Gl X x)(hm:X.mg x=none)(hv:bootBuiltins x=some (.type T))(ha:PA X (e::es) t)(hn:x ≠ "__name__":=by decide)(z:(x == ("__debug__":Str))=false:=by decide)
  (he:starEach (e::es) X.env=(false,eval e X.env)::starEach es X.env:=by rfl) (J:(backTo pos (starEach es X.env)).any (·.1)=false:=by rfl):PE X (.Call (.Name x p) (e::es) [] pos) (tCB r t):=by
 intro j s O H Q I h;refine di (J7 I hg hm hv ?_ hn z);exact cw (ZW (ha pos j s O H _ I h) fun us s1 ⟨vs,H1,I1,r1,q1⟩=>Y j s1 O H1 vs us Q I1 r1 q1) he J
end
end L2
namespace HT
open PySem PyProof.Rows
section
open PySem.SeqAt
open PySem.AutoSeq1 (wpAny_loadPart')
open PySem.MeetsSeq PySem.MeetsSeq2 PySem.MeetsSeq3
end
section
variable {prog:Program}{w:World}{A:Around}{E:Value->Shared->Prop}{s:Shared}
theorem Zfa {t b:Addr}{vs j:List Value}{Q:Value->Shared->Prop}(ht:IsTup s.heap t vs.toArray)(hb:IsTup s.heap b j.toArray)(hv:vs≠[])
  (h1:j=[]->Q (.ref t) s) (h2:j≠[]->Q (.ref s.heap.objs.size) {s with heap:=s.heap.push {cls:=.type "tuple",data:=.seq (vs++j).toArray}})
  (hsz:vs.length+j.length<=sizeLine):wpAny (model prog w) A (binaryOp .Add (.ref t) (.ref b)) Q E s:=by
 obtain⟨⟨cls,dd,data,sl⟩,ho,hc,n,hd⟩:=id ht;obtain⟨⟨j6,J,data2,O⟩,z,Y,n2,j4⟩:=id hb;simp only at hc hd Y j4;subst hc hd Y j4;have e:vs.toArray++j.toArray=(vs++j).toArray:=by simp
 by_cases hw:j=[]
 ·exact jq ⟨_,ho,rfl⟩ ⟨_,z,rfl⟩ ij i5 fe eQ (eK _ _)
   (tuple_addW1 t b vs.toArray j.toArray n n2 dd J sl O (by simpa using hv) (by simp[hw])) ⟨ho,z,h1 hw⟩
 ·refine jq ⟨_,ho,rfl⟩ ⟨_,z,rfl⟩ ij i5 fe eQ (eK _ _)
   (tuple_addW2 t b vs.toArray j.toArray n n2 dd J sl O (by simpa using hv) (by simpa using hw) (by rw[Zh,Zh];exact hsz)) ⟨ho,z,?_⟩
  rw[e];exact h2 hw
noncomputable def YI (n d:Nat):Option Int->Nat
 |none=>d
 |some v=>if v<0 then (v+(n:Int)).toNat else min v.toNat n
theorem XR (n d:Nat):YI n d none=d:=rfl
theorem JH (n d k:Nat):YI n d (some (k:Int))=min k n:=by
 show (if (k:Int)<0 then ((k:Int)+(n:Int)).toNat else min (k:Int).toNat n)=min k n
 rw[if_neg (by omega),Zj]
theorem ZfY (n d:Nat)(z:d<=n)(o:Option Int):YI n d o<=n:=by
 cases o with
 |none=>exact z
 |some v=>
  show (if v<0 then (v+(n:Int)).toNat else min v.toNat n)<=n
  by_cases j:v<0
  ·rw[if_pos j];omega
  ·rw[if_neg j];exact Nat.min_le_right _ _
theorem ZbU (v:Int)(n d:Nat):(if v<0 then max (v+(n:Int)) 0 else min v (n:Int))=((YI n d (some v):Nat):Int):=by
 show (if v<0 then max (v+(n:Int)) 0 else min v (n:Int))=(((if v<0 then (v+(n:Int)).toNat else min v.toNat n):Nat):Int)
 by_cases j:v<0
 ·simp only[if_pos j];omega
 ·simp only[if_neg j];omega
theorem Za6 (lo j:Option Int)(n:Nat):dE lo j 1 (n:Int)=(((YI n 0 lo:Nat):Int),((YI n n j:Nat):Int)):=by
 have z:¬((1:Int)<0):=by omega
 unfold dE;simp only[z,if_false];refine Prod.ext ?_ ?_
 ·cases lo with
  |none=>rfl
  |some v=>exact ZbU v n 0
 ·cases j with
  |none=>rfl
  |some v=>exact ZbU v n n
theorem ZaF (i j:Nat):cD (i:Int) (j:Int) 1=j-i:=by
 unfold cD;have z:(1:Int) > 0:=by omega
 simp only[z,if_true,Int.ediv_one];split <;> omega
theorem XO {v:Value}{o:Option Int}{Q:Option Int->Shared->Prop}(p:ik v o)(h:Q o s):wpAny (model prog w) A (Builtin.Slice.slicePartIndex v) Q E s:=by
 cases p with
 |none=>exact slicePart_none h
 |int i t=>exact slicePart_int h
theorem JY {sl:Addr}{O Y:Value}{lo j:Option Int}{n:Nat}{Q:Int×Int×Nat->Shared->Prop}(hs:s.heap.IsSliceOf sl O Y .none)(pl:ik O lo)(pu:ik Y j)
  (h:Q (((YI n 0 lo:Nat):Int),1,YI n n j-YI n 0 lo) s):wpAny (model prog w) A (fZ (.ref sl) (pure (n:Int))) Q E s:=by
 obtain⟨os,z,j4,J⟩:=id hs;unfold fZ Builtin.Slice.sliceFields;refine Zl (Zl (bh z J (x:=O) rfl (Zl (bh z J (x:=Y) rfl (Zl (bh z J (x:=.none) rfl (Zm ?_)))))));refine Zl (slicePart_none ?_);show wpAny _ _ (if ((1:Int) == 0)=true then _ else _) _ _ s
 rw[if_neg (by decide)];refine Zl (XO pl (Zl (XO pu (Zl (Zm ?_)))));show wpAny _ _ (match dE lo j 1 (n:Int) with|(lo,j)=>pure (lo,(1:Int),cD lo j 1)) _ _ s
 rw[Za6 lo j n];show wpAny _ _ (pure (((YI n 0 lo:Nat):Int),(1:Int),cD ((YI n 0 lo:Nat):Int) ((YI n n j:Nat):Int) 1)) _ _ s;rw[ZaF];exact Zm h
theorem Zdf (xs:Array Value)(i k:Nat):((eE k).filterMap fun (m:Nat)=>xs[((i:Int)+(m:Int)*1).toNat]?).toArray=((xs.toList.drop i).take k).toArray:=by
 have e:(fun (m:Nat)=>xs[((i:Int)+(m:Int)*1).toNat]?)=fun m=>xs[i+m]?:=by
  funext m;have:((i:Int)+(m:Int)*1).toNat=i+m:=by omega
  rw[this]
 rw[e];have:=pick_run xs i k;rw[List.filterMap_map] at this;have j:((fun x=>xs[x]?) ∘ fun x=>i+x)=fun m=>xs[i+m]?:=rfl;rw[j] at this;rw[this]
theorem JP {t O:Addr}{items:Array Value}{vl vu:Value}{lo z:Option Int}{Q:Value->Shared->Prop}(J:IsTup s.heap t items)(hs:s.heap.IsSliceOf O vl vu .none)(pl:ik vl lo)(pu:ik vu z)
  (hw:¬(YI items.size 0 lo=0/\YI items.size items.size z=items.size))
  (h:Q (.ref s.heap.objs.size) {s with heap:=s.heap.push {cls:=.type "tuple",data:=.seq ((items.toList.drop (YI items.size 0 lo)).take (YI items.size items.size z-YI items.size 0 lo)).toArray}})
  (hsz:items.size<=sizeLine):wpAny (model prog w) A (getItem (.ref t) (.ref O)) Q E s:=by
 have j:sizeOk (.seq ((items.toList.drop (YI items.size 0 lo)).take (YI items.size items.size z-YI items.size 0 lo)).toArray):=by
  show ((items.toList.drop (YI items.size 0 lo)).take (YI items.size items.size z-YI items.size 0 lo)).toArray.size<=sizeLine;rw[Zh,aB,ao,Zr];omega
 have hj:YI items.size items.size z<=items.size:=ZfY _ _ (Zq _) z;obtain⟨os,Y,j4,j9⟩:=id hs;have j6:s.TypeIs (.ref O) "slice":=⟨os,Y,j4⟩;unfold getItem
 try with_reducible refine dQ ?_
 first|refine Zl (Zm ?_)|skip
 refine Zl (wpAny_sequenceKey J.typeIs (by decide) ?_);refine Zl (cB (name:=ar "__getitem__") J.typeIs cx
  (dN cx J.typeIs entry_tuple_getitem ?_ (args_tuple_getitem _ _)))
 show wpAny _ _ (Builtin.Tuple.tupleItemsOf (.ref t) >>= _) _ _ s;refine Zl (tupleItemsOf_ J ?_);refine Zl (wpAny_typeOf j6 ?_);rw[if_pos (by decide)];refine Zl (JY hs pl pu ?_);have j7:¬((((YI items.size 0 lo:Nat):Int) == 0 && (1:Int) == 1 && (YI items.size items.size z-YI items.size 0 lo) == items.size)=true):=by
  intro q;rw[aT,aT] at q;have q1:((YI items.size 0 lo:Nat):Int)=0:=eq_of_beq q.1.1;have q2:YI items.size items.size z-YI items.size 0 lo=items.size:=eq_of_beq q.2;exact hw ⟨by omega,by omega⟩
 show wpAny _ _ (if (((YI items.size 0 lo:Nat):Int) == 0 && (1:Int) == 1 && (YI items.size items.size z-YI items.size 0 lo) == items.size)=true then _ else _) _ _ s
 rw[if_neg j7,Zdf]
 first
  |exact Zl (m:=cH _) (bw (Zm ⟨_,rfl,Zm h⟩) j)
  |exact Zl (m:=cH _) (bw (Zl (Zm (Zm ⟨_,rfl,Zm h⟩))) j)
  |exact Zl (Zl (m:=cH _) (bw (Zm (Zm ⟨_,rfl,Zm h⟩)) j))
  |exact Zl (Zl (m:=cH _) (bw (Zm ⟨_,rfl,Zm h⟩) j))
end
end HT
namespace L2
open PySem PySem.Spec PyProof.Rows
noncomputable abbrev TO:=St->Hp->(Option Int->Hp->Prop)->Prop
noncomputable def PO (X:Cx)(e:Option Expr)(t:TO):Prop:=
 ∀(j:List (Addr×Obj)) (s:Shared) (z:St) (H:Hp) (Q:Option Int->Hp->Prop),Inv X j z H s->t z H Q->
  wpAny (model X.prog X.w) X.A (evalPart e X.env) (fun u O=>∃o J,Inv X j z J O/\ik u o/\Q o J) X.xe s
noncomputable def WB:TO:=fun _ H Q=>Q none H
noncomputable def XH (t:TE):TO:=fun j H Q=>t j H fun x z=>∃i,x=.int i/\Q (some i) z
theorem intsAre_of {ns:List Int}:∀{us:List Value},ZN (ns.map V.int) us->iI us ns:=by
 induction ns with
 |nil=>intro us r;rw[gu] at r;cases r;exact .nil
 |cons n ns j=>
  intro us r;rw[aZ] at r;cases r with
  |cons z J=>
   obtain⟨t,e⟩:=z;subst e;exact .cons n t (j J)
section
variable {X:Cx}{e:Expr}{te:TE}{lo hi:Option Expr}{tl th:TO}{pos p2:Pos}
theorem ZM:PO X none WB:=by
 intro j s z H Q I h;rw[evalPart_none];exact Zm ⟨none,H,I,.none,h⟩
theorem ZK (h:PE X e te):PO X (some e) (XH te):=by
 intro j s z H Q I J;rw[evalPart_some];refine ZW (h j s z H _ I J) fun u s1 ⟨x,O,Y,r1,q1⟩=>?_;obtain⟨i,rfl,q⟩:=q1;obtain⟨t,rfl⟩:=r1;exact⟨some i,O,Y,.int i t,q⟩
noncomputable def SlR (X:Cx)(r:V->Option Int->Option Int->Hp->VK->Prop):Prop:=
 ∀(j:List (Addr×Obj)) (s:Shared) (z:St) (H:Hp) (x:V) (v J O:Value) (lo hi:Option Int) (Y:Addr) (Q:VK),Inv X j z H s->RelV x v->s.heap.IsSliceOf Y J O .none->ik J lo->ik O hi->r x lo hi H Q->
  ∃T id,typeLookup (.type T) "__getitem__"=pure (some (.builtin id))/\s.TypeIs v T/\wpAny (model X.prog X.w) X.A (getItem v (.ref Y)) (EP X j z Q) X.xe s
noncomputable def tSl (r:V->Option Int->Option Int->Hp->VK->Prop)(te:TE)(tl th:TO):TE:=fun j H Q=>te j H fun x z=>tl j z fun l J=>th j J fun u O=>r x l u O Q
theorem ZG {r:V->Option Int->Option Int->Hp->VK->Prop}(hr:SlR X r)(he:PE X e te)(hl:PO X lo tl)(hu:PO X hi th):PE X (.Subscript e (.Slice lo hi none p2) pos) (tSl r te tl th):=by
 intro j s J H Q I h;refine Subscript_ (ZW (he j s J H _ I h) fun v s1 ⟨x,H1,I1,r1,q1⟩=>?_);refine wpAny_Slice (ZW (hl j s1 J H1 _ I1 q1) fun O s2 ⟨l,H2,I2,pl,q2⟩=>ZW (hu j s2 J H2 _ I2 q2) fun Y z ⟨u,H3,I3,pu,q3⟩=>?_);rw[evalPart_none];refine Zm ?_;have I4:Inv X j J H3 {z with heap:=z.heap.push {cls:=.type "slice",data:=.fields #[O,Y,.none]}}:=I3.kept (t':=z.toks) fun b ob q=>Zn _ q;obtain⟨T,id,hT,ht,hg⟩:=hr j {z with heap:=z.heap.push {cls:=.type "slice",data:=.fields #[O,Y,.none]}} J H3 x v O Y l u z.heap.objs.size Q I4 r1 (Heap.IsSliceOf.new ..) pl pu q3;show wpAny (model X.prog X.w) X.A (subscriptTail e (.Slice lo hi none p2) v (.ref z.heap.objs.size)) (EP X j J Q) X.xe {z with heap:=z.heap.push {cls:=.type "slice",data:=.fields #[O,Y,.none]}};exact tail_any (ops:=[.ref z.heap.objs.size,v]) ht hT hg (by with_unfolding_all rfl)
noncomputable def Jw (xs:List V)(lo hi:Option Int):List V:=(xs.drop (HT.YI xs.length 0 lo)).take (HT.YI xs.length xs.length hi-HT.YI xs.length 0 lo)
theorem Xm (xs:List V)(lo hi:Option Int):(Jw xs lo hi).length<=xs.length:=by
 unfold Jw;rw[aB,ao];omega
noncomputable def Zi5 (K:ac):V->Option Int->Option Int->Hp->VK->Prop:=fun x lo hi H Q=>∃a j,x=.ref a/\WS K H a j/\
 ¬(HT.YI j.length 0 lo=0/\HT.YI j.length j.length hi=j.length)/\∀p,H p=none->Q (.ref p) (upd H p (.tup (Jw j lo hi)))
theorem ZfT:SlR X (Zi5 X.K):=by
 intro J s σ H x v vl vu lo hi sl Q I rx hs pl pu h;obtain⟨a,xs,rfl,hx,hw,q⟩:=h;cases rx;obtain⟨z,r,O,Y⟩:=I.tuple hx;have j:z.toArray.size=xs.length:=by rw[Zh];exact r.length.symm
 refine⟨"tuple",_,cx.lookup,O.typeIs,?_⟩;refine HT.JP O hs pl pu (by rw[j];exact hw) ?_ (by rw[j];exact Y);rw[j];refine⟨.ref s.heap.objs.size,_,I.laid (t':=s.toks) (o:=.tup (Jw xs lo hi)) (fun b ob q=>Zn _ q) (Zq _) ?_,rfl,q _ (I.hok.fresh (Zq _))⟩;exact⟨aK (Xm xs lo hi) Y,_,(r.drop (HT.YI xs.length 0 lo)).take (HT.YI xs.length xs.length hi-HT.YI xs.length 0 lo),ff _ _⟩
noncomputable def ZhZ (K:ac):R2:=fun x y H Q=>∃a b z j,x=.ref a/\y=.ref b/\WS K H a z/\WS K H b j/\z≠[]/\z.length+j.length<=sizeLine/\
 (j=[]->Q (.ref a) H)/\(j≠[]->∀p,H p=none->Q (.ref p) (upd H p (.tup (z++j))))
theorem ZN.nil_iff {xs:List V}{us:List Value}(r:ZN xs us):us=[]↔xs=[]:=by
 cases r with
 |nil=>simp
 |cons _ _=>simp
theorem ZeD:W9 X (binaryOp .Add) (ZhZ X.K):=by
 intro O s σ H x y v u Q I rx ry h;obtain⟨a,b,xs,ys,rfl,rfl,ha,hb,hx,Y,q1,q2⟩:=h;cases rx;cases ry;obtain⟨j6,J,p1,_⟩:=I.tuple ha;obtain⟨j4,j,p2,_⟩:=I.tuple hb;refine HT.Zfa p1 p2 (fun z=>hx (J.nil_iff.mp z)) (fun z=>⟨.ref a,H,I,rfl,q1 (j.nil_iff.mp z)⟩) (fun z=>?_) (by rw[<-J.length,<-j.length];exact Y);refine⟨.ref s.heap.objs.size,_,I.laid (t':=s.toks) (o:=.tup (xs++ys)) (fun b ob q=>Zn _ q) (Zq _) ?_,rfl,q2 (fun w=>z (j.nil_iff.mpr w)) _ (I.hok.fresh (Zq _))⟩;exact⟨by rw[Zd];exact Y,_,J.append j,ff _ _⟩
end
noncomputable def ixN (n:Nat)(i:Int):Option Nat:=if 0<=i then (if i<n then some i.toNat else none) else if -(n:Int)<=i then some (i+n).toNat else none
noncomputable def atI {α:Type}(xs:List α)(i:Int):Option α:=(ixN xs.length i).bind fun j=>xs[j]?
theorem ZbG {n:Nat}{i:Int}{j:Nat}(h:ixN n i=some j):seqIndex? i n=some j/\j<n/\-(n:Int)<=i/\i<n:=by
 unfold ixN at h;by_cases J:0<=i
 ·rw[if_pos J] at h
  by_cases z:i<n
  ·rw[if_pos z] at h
   have e:i.toNat=j:=ay h;exact⟨by rw[seqIndex_of J z,e],by omega,by omega,z⟩
  ·rw[if_neg z] at h;cases h
 ·rw[if_neg J] at h
  by_cases z:-(n:Int)<=i
  ·rw[if_pos z] at h
   have e:(i+n).toNat=j:=ay h;exact⟨by rw[seqIndex_neg (by omega) z,e],by omega,z,by omega⟩
  ·rw[if_neg z] at h;cases h
theorem Uo {α:Type}{xs:List α}{i:Int}{v:α}(h:atI xs i=some v):∃j,seqIndex? i xs.length=some j/\xs[j]?=some v/\j<xs.length/\-(xs.length:Int)<=i/\i<xs.length:=by
 unfold atI at h;cases e:ixN xs.length i with
 |none=>rw[e] at h;cases h
 |some j=>
  rw[e] at h;obtain⟨z,J,O,Y⟩:=ZbG e;exact⟨j,z,h,J,O,Y⟩
theorem ZT {α:Type}{xs:List α}{j:Nat}{v:α}(h:xs[j]?=some v):atI xs (j:Int)=some v:=by
 have z:j<xs.length:=(aH.mp h).1;have e:ixN xs.length (j:Int)=some j:=by
  unfold ixN;rw[if_pos (by omega),if_pos (by omega)];simp
 unfold atI;rw[e];exact h
noncomputable def Zfi (b:Expr):Prop:=∀o i,subscripted b false o i=operate [o,i] (getItem o i)
noncomputable def IxR (X:Cx)(r:R2):Prop:=
 ∀(z slice:Expr) (j:List (Addr×Obj)) (s:Shared) (J:St) (H:Hp) (x y:V) (v u:Value) (Q:VK),Inv X j J H s->RelV x v->RelV y u->r x y H Q->
  subscripted slice false v u=operate [v,u] (getItem v u)->wpAny (model X.prog X.w) X.A (subscriptTail z slice v u) (EP X j J Q) X.xe s
noncomputable def MtR (X:Cx)(id:String)(r:V->List V->Hp->VK->Prop):Prop:=
 ∀(j:List (Addr×Obj)) (s:Shared) (z:St) (H:Hp) (x:V) (J:List V) (v:Value) (O:List Value) (Q:VK),Inv X j z H s->RelV x v->ZN J O->r x J H Q->
  wpAny (model X.prog X.w) X.A (call (.builtin id) (v::O)) (EP X j z Q) X.xe s
section
variable {X:Cx}{a b:Expr}{ta tb:TE}{pos:Pos}
theorem ZP {r:R2}(z:IxR X r)(J:PE X a ta)(hb:PE X b tb)(O:Zfi b):PE X (.Subscript a b pos) (Xi r ta tb):=by
 intro j s Y H Q I h;exact Subscript_ (Zg0 J hb I h fun v u s2 x y H2 I2 rx ry q=>z a b j s2 Y H2 x y v u Q I2 rx ry q (O _ _))
noncomputable def ZhW (K:ac):R2:=fun x y H Q=>∃p j i v,x=.ref p/\y=.int i/\WQ K H p j/\atI j i=some v/\Q v H
noncomputable def Zel (K:ac):R2:=fun x y H Q=>∃p j i v,x=.ref p/\y=.int i/\WS K H p j/\atI j i=some v/\Q v H
noncomputable def Zi8:R2:=fun x y H Q=>∃z i c,x=.str z/\y=.int i/\z.length<=sizeLine/\atI z.cps.toList i=some c/\Q (.str ⟨#[c]⟩) H
theorem ZeR:IxR X (ZhW X.K):=by
 intro Y slice J s σ H x y v u Q I rx ry h hs;obtain⟨p,xs,i,z,rfl,rfl,hq,he,q⟩:=h;cases rx;obtain⟨t,rfl⟩:=ry;obtain⟨j4,r,pl,hz⟩:=I.list hq;obtain⟨j,O,h2,h3,h4,h5⟩:=Uo he;obtain⟨w,ew,j6⟩:=r.get h2;have hl:=r.length;have hn:=Ju;have fin:EP X J σ Q w s:=⟨z,H,I,j6,q⟩;by_cases h0:0<=i
 ·have hj:i.toNat=j:=by
   rw[seqIndex_of h0 h5] at O;exact ay O
  exact item_listR pl.isList h0 (by omega) (by rw[hj];simpa using ew) fin hs
 ·have hj:(i+(j4.toArray.size:Int)).toNat=j:=by
   rw[seqIndex_neg (by omega) h4] at O;rw[Zh,<-hl];exact ay O
  exact jw (x:=w) pl.isList.typeIs slot_list_getitem.lookup
   (wpAny_getItem_list_neg (Q:=fun r s'=>r=w/\EP X J σ Q r s') pl.isList (by omega) (by rw[Zh] <;> omega) (by omega) (by rw[hj];simpa using ew) ⟨rfl,fin⟩) hs
theorem ZgL:IxR X (Zel X.K):=by
 intro O slice J s σ H x y v u Q I rx ry h hs;obtain⟨p,xs,i,z,rfl,rfl,hq,he,q⟩:=h;cases rx;obtain⟨t,rfl⟩:=ry;obtain⟨j4,r,pl,hz⟩:=I.tuple hq;obtain⟨j,h1,h2,h3,h4,h5⟩:=Uo he;obtain⟨w,ew,Y⟩:=r.get h2;have hl:=r.length;have hn:=Ju;have fin:EP X J σ Q w s:=⟨z,H,I,Y,q⟩;exact jw (x:=w) pl.typeIs cx.lookup
  (getItem_tuple (j:=j) (Q:=fun r s'=>r=w/\EP X J σ Q r s') pl (by omega) (by omega) (by rw[Zh,<-hl];exact h1) (by simpa using ew) ⟨rfl,fin⟩) hs
theorem Uf:IxR X Zi8:=by
 intro J slice O s σ H x y v u Q I rx ry h hs;obtain⟨z,i,c,rfl,rfl,hz,he,q⟩:=h;obtain⟨t,rfl⟩:=rx;obtain⟨t',rfl⟩:=ry;obtain⟨j,Y,h2,h3,h4,h5⟩:=Uo he;have hl:z.cps.toList.length=z.length:=by simp[Str.length]
 rw[hl] at Y h4 h5;have hn:=Ju;exact tail_any (b8 s z t) slot_str_getitem.lookup (getItem_str (c:=c) (by
  have e1:decide (i < -(2 ^ 63:Int))=false:=decide_eq_false (by omega);have e2:decide (i ≥ 2 ^ 63)=false:=decide_eq_false (by omega);rw[e1,e2,Bool.or_false]) (by rw[Y];simpa using h2) ⟨.str ⟨#[c]⟩,H,I.tok _,⟨_,rfl⟩,q⟩) hs
theorem ZaP (z:List Value)(n j:Nat)(u:Value):gp (·.setIfInBounds j u) {cls:=.type "list",data:=.seq z.toArray n}={cls:=.type "list",data:=.seq (z.set j u).toArray n}:=by
 simp[gp]
theorem Inv.lst {J:List (Addr×Obj)}{σ:St}{H:Hp}{s:Shared}{p:Addr}{xs:List V}(I:Inv X J σ H s)(h:H p=some (.lst xs)) :
  ∃(j:List Value) (n:Nat),ZN xs j/\s.heap.get? p=some {cls:=.type "list",data:=.seq j.toArray n}/\xs.length<=sizeLine:=by
 obtain⟨z,j,n,r,e⟩:=I.hok p _ h;exact⟨j,n,r,e,z⟩
theorem Inv.lstUpd {j:List (Addr×Obj)}{σ:St}{H:Hp}{s:Shared}{p:Addr}{xs J:List V}{z its':List Value}{n O:Nat}{f:Obj->Obj}(I:Inv X j σ H s)(h:H p=some (.lst xs))
  (Y:s.heap.get? p=some {cls:=.type "list",data:=.seq z.toArray n}) (hf:f {cls:=.type "list",data:=.seq z.toArray n}={cls:=.type "list",data:=.seq its'.toArray O}) (r:ZN J its') (hz:J.length<=sizeLine) (t:Nat) :
  Inv X j σ (upd H p (.lst J)) {s with heap:=s.heap.update p f,toks:=t}:=by
 have e:(s.heap.update p f).get? p=some {cls:=.type "list",data:=.seq its'.toArray O}:=by
  rw[bL f Y (by rw[hf] <;> rfl),hf]
 refine I.write (x:=p) (e:=p) (by rw[h];trivial) (.inl rfl) (fun b u hb q=>(aL _ _ (bC hb)).trans q) ⟨_,e⟩ ?_;exact⟨hz,its',O,r,e⟩
noncomputable def ZhU:V->V->V->Hp->(Hp->Prop)->Prop:=fun o i v H Q=>∃p z k j,o=.ref p/\i=.int k/\H p=some (.lst z)/\ixN z.length k=some j/\Q (upd H p (.lst (z.set j v)))
theorem UG:Zg3 X ZhU:=by
 intro z s σ H o i v ov iv u Q I ro ri rv h;obtain⟨p,xs,k,j,rfl,rfl,hp,hj,q⟩:=h;cases ro;obtain⟨t,rfl⟩:=ri;obtain⟨J,n,r,Y,hz⟩:=I.lst hp;obtain⟨O,h2,h3,h4⟩:=ZbG hj;have hl:=r.length;have hn:=Ju;have I':Inv X z σ (upd H p (.lst (xs.set j v))) {s with heap:=s.heap.update p (gp (·.setIfInBounds j u))}:=
  I.lstUpd hp Y (ZaP J n j u) (r.set rv j) (by rw[cU];exact hz) s.toks
 by_cases h0:0<=k
 ·have hk:k.toNat=j:=by
   rw[seqIndex_of h0 h4] at O;exact ay O
  exact PySem.W.ki_setAt Y h0 (by omega) (by rw[Zh,<-hl];exact h4) (by rw[hk];exact⟨_,I',q⟩)
 ·have hk:(k+(J.toArray.size:Int)).toNat=j:=by
   rw[seqIndex_neg (by omega) h3] at O;rw[Zh,<-hl];exact ay O
  exact PySem.W.ki_setBack Y (by omega) (by rw[Zh,<-hl];exact h3) (by omega) (by rw[hk];exact⟨_,I',q⟩)
theorem VX (lo j:Option Int)(n:Nat):(sliceBounds lo j none n).1=((HT.YI n 0 lo:Nat):Int)/\(sliceBounds lo j none n).2.1=((HT.YI n n j:Nat):Int)/\(sliceBounds lo j none n).2.2=1:=by
 refine⟨?_,?_,rfl⟩
 ·cases lo with
  |none=>simp[sliceBounds,HT.YI]
  |some i=>
   simp only[sliceBounds,HT.YI,ji,show (1:Int) > 0 by decide,if_true];by_cases h:i<0
   ·simp only[h,if_true] <;> omega
   ·simp only[h,if_false] <;> omega
 ·cases j with
  |none=>simp[sliceBounds,HT.YI]
  |some i=>
   simp only[sliceBounds,HT.YI,ji,show (1:Int) > 0 by decide,if_true];by_cases h:i<0
   ·simp only[h,if_true] <;> omega
   ·simp only[h,if_false] <;> omega
theorem Vp (j:List Value)(lo z:Option Int):slicePick j.toArray lo z none=((j.drop (HT.YI j.length 0 lo)).take (HT.YI j.length j.length z-HT.YI j.length 0 lo)).toArray:=by
 obtain⟨J,O,Y⟩:=VX lo z j.toArray.size;unfold slicePick;rw[J,O,Y];simp only[sliceRange_one,pick_run,Zh] <;> rfl
noncomputable def Zek (K:ac):V->Option Int->Option Int->Hp->VK->Prop:=fun x lo z H Q=>∃a j,x=.ref a/\WQ K H a j/\∀p,H p=none->Q (.ref p) (upd H p (.lst (Jw j lo z)))
theorem ZV:SlR X (Zek X.K):=by
 intro J s σ H x v vl vu lo z sl Q I Y hs pl pu h;obtain⟨a,xs,rfl,hx,q⟩:=h;cases Y;obtain⟨j4,r,O,hz⟩:=I.list hx;have j:=r.length;refine⟨"list",_,slot_list_getitem.lookup,O.isList.typeIs,?_⟩;refine wpAny_getItem_list_slice O.isList hs pl pu .none (by simp) ?_ (by rw[Zh] <;> omega)
 rw[Vp,<-j];refine⟨.ref s.heap.objs.size,_,I.laid (t':=s.toks) (o:=.lst (Jw xs lo z)) (fun b ob q=>Zn _ q) (Zq _) ?_,rfl,q _ (I.hok.fresh (Zq _))⟩;exact⟨aK (Xm xs lo z) hz,_,0,(r.drop (HT.YI xs.length 0 lo)).take (HT.YI xs.length xs.length z-HT.YI xs.length 0 lo),Zo _ rfl⟩
theorem Ul:Yk X (.builtin "len") (fun xs H Q=>∃p j,xs=[.ref p]/\(WQ X.K H p j\/WS X.K H p j)/\Q (.int j.length) H):=by
 intro Y s σ H xs us Q I r h;obtain⟨p,j,rfl,z,q⟩:=h;obtain⟨u,rfl,rx⟩:=vals1 r;cases rx;have hn:=Ju;rcases z with z|z
 ·obtain⟨J,O,pl,hz⟩:=I.list z
  have hlen:=O.length;exact Calls.call_len_list pl.isList (by simp only[Zh] <;> omega) ⟨.int j.length,H,I.tok _,⟨s.toks+1,by rw[Zh,hlen]⟩,q⟩
 ·obtain⟨J,O,pl,hz⟩:=I.tuple z
  have hlen:=O.length;exact len_tuple pl (by simp only[Zh] <;> omega) ⟨.int j.length,H,I.tok _,⟨s.toks+1,by rw[Zh,hlen]⟩,q⟩
theorem JR:Yk X (.builtin "len") (fun xs H Q=>∃z,xs=[.str z]/\z.length<=sizeLine/\Q (.int z.length) H):=by
 intro j s J H xs O Q I r h;obtain⟨z,rfl,Y,q⟩:=h;obtain⟨u,rfl,t,rfl⟩:=vals1 r;have hn:=Ju;exact len_str (by omega) ⟨.int z.length,H,I.tok _,⟨_,rfl⟩,q⟩
theorem JQ:Yk X (.type "list") (fun xs H Q=>∃p J,xs=[.ref p]/\(WQ X.K H p J\/WS X.K H p J)/\∀l,H l=none->Q (.ref l) (upd H l (.lst J))):=by
 intro j4 s σ H xs us Q I r h;obtain⟨p,J,rfl,hq,q⟩:=h;obtain⟨u,rfl,rx⟩:=vals1 r;cases rx;have j6:∀(j:List Value),ZN J j->J.length<=sizeLine->∀(z:Heap) (O:Nat),(∀b o',s.heap.get? b=some o'->z.get? b=some o')->
   z.get? s.heap.objs.size=some {cls:=.type "list",dict:=none,data:=.seq j.toArray O,slots:=#[]}->EP X j4 σ Q (.ref s.heap.objs.size) {s with heap:=z}:=fun j Y hz z O kp e=>
  ⟨.ref s.heap.objs.size,_,I.laid (t':=s.toks) kp (Zq _) (show Yf X.prog X.w _ z _ (.lst J) from ⟨hz,j,O,Y,e⟩),rfl,q _ (I.hok.fresh (Zq _))⟩
 rcases hq with hq|hq
 ·obtain⟨j,Y,pl,hz⟩:=I.list hq
  have j7:=Y.length;obtain⟨o,ho,hc,n,hd⟩:=pl.isList;exact call_list_seq p (.inl rfl) ho hc hd (fun z O kp e=>j6 j Y hz z O kp e) (by simp only[Zh] <;> omega)
 ·obtain⟨j,Y,pl,hz⟩:=I.tuple hq
  have j7:=Y.length;obtain⟨o,ho,hc,n,hd⟩:=pl;exact call_list_seq p (.inr rfl) ho hc hd (fun z O kp e=>j6 j Y hz z O kp e) (by simp only[Zh] <;> omega)
theorem Vt:Yk X (.type "tuple") (fun xs H Q=>∃p J,xs=[.ref p]/\((WQ X.K H p J/\∀l,H l=none->Q (.ref l) (upd H l (.tup J)))\/(WS X.K H p J/\Q (.ref p) H))):=by
 intro j s σ H xs us Q I r h;obtain⟨p,J,rfl,h⟩:=h;obtain⟨u,rfl,rx⟩:=vals1 r;cases rx;rcases h with ⟨Y,q⟩|⟨Y,q⟩
 ·obtain⟨z,r',pl,hz⟩:=I.list Y
  have j4:=r'.length;refine call_tuple_list pl.isList (fun O kp=>?_) (by simp only[Zh] <;> omega)
  have I1:Inv X j σ H {s with heap:=O}:=I.kept (t':=s.toks) kp;have I2:Inv X j σ (upd H O.objs.size (.tup J)) {s with heap:=O.push {cls:=.type "tuple",data:=.seq z.toArray}}:=
   I1.laid (t':=s.toks) (fun b o e=>Zn _ e) (Zq _) (show Yf X.prog X.w _ _ _ (.tup J) from ⟨hz,z,r',ff _ _⟩)
  exact⟨.ref O.objs.size,_,I2,rfl,q _ (I1.hok.fresh (Zq _))⟩
 ·obtain⟨z,r',pl,hz⟩:=I.tuple Y
  exact call_tuple_same pl ⟨.ref p,H,I,rfl,q⟩
noncomputable def tyV (K:ac)(T:String)(x:V)(H:Hp):Prop:=match x with
 | .str _=>T = "str"
 | .int _=>T = "int"
 | .ref p=>(T = "list"/\∃z,WQ K H p z)\/(T = "tuple"/\∃o,K.lookup p=some o/\o.cls=.type "tuple"/\o.dict=none)\/
   (T = "dict"/\((∃j,H p=some (.dK j))\/∃j,H p=some (.dT j)))\/(T = "set"/\∃S n,H p=some (.set S n))
 |_=>False
theorem ZcP {J:List (Addr×Obj)}{σ:St}{H:Hp}{s:Shared}{T:String}{x:V}{v:Value}(I:Inv X J σ H s)(r:RelV x v)(ty:tyV X.K T x H) :
  s.TypeIs v T/\∀a,v=.ref a->∃ob,s.heap.get? a=some ob/\ob.dict=none:=by
 cases x with
 |str z=>
  obtain⟨t,rfl⟩:=r;cases (show T = "str" from ty);exact⟨b8 s z t,fun _ e=>nomatch e⟩
 |int i=>
  obtain⟨t,rfl⟩:=r;cases (show T = "int" from ty);exact⟨gO s i t,fun _ e=>nomatch e⟩
 |ref p=>
  cases r;rcases ty with ⟨rfl,xs,hq⟩|⟨rfl,o,j,hc,hd⟩|⟨rfl,j⟩|⟨rfl,S,n,j⟩
  ·obtain⟨j4,_,pl,_⟩:=I.list hq
   refine⟨pl.isList.typeIs,fun a e=>?_⟩;cases e;obtain⟨o,n,e,c,hd,_⟩:=pl;exact⟨o,e,hd⟩
  ·refine⟨⟨o,I.kIn p o j,hc⟩,fun a e=>?_⟩
   cases e;exact⟨o,I.kIn _ o j,hd⟩
  ·have z:∃o,s.heap.get? p=some o/\o.ExactDict:=by
    rcases j with ⟨O,j⟩|⟨O,j⟩
    ·obtain⟨_,_,_,_,o,_,_,e,ex,_⟩:=I.hok p _ j
     exact⟨o,e,ex⟩
    ·obtain⟨_,_,_,_,o,_,_,e,ex,_⟩:=I.hok p _ j
     exact⟨o,e,ex⟩
   obtain⟨o,e,ex⟩:=z;refine⟨⟨o,e,ex.1⟩,fun a Y=>?_⟩;cases Y;exact⟨o,e,ex.2.1⟩
  ·obtain⟨o,_,_,_,e,ex,_⟩:=I.hok p _ j
   refine⟨⟨o,e,ex.1⟩,fun a Y=>?_⟩;cases Y;exact⟨o,e,ex.2.1⟩
 |_=>exact bA ty
noncomputable def tBM (K:ac)(T:String)(r:V->List V->Hp->VK->Prop)(to:TE)(t:TA):TE:=fun j H Q=>to j H fun x z=>tyV K T x z/\t j z fun J O=>r x J O Q
variable {o e:Expr}{es:List Expr}{to:TE}{t:TA}{name:Str}{apos cpos:Pos}{T id:String}{r:V->List V->Hp->VK->Prop}
theorem Y6 (pa:PlainAttrs T)(slot:Slot T name id)(j4:typeOf (.builtin id)=pure (.type "method_descriptor"))(hm:MtR X id r)(ho:PE X o to)(ha:PA X (e::es) t)
  (J:attributeBase o name X.env (eval o X.env)=eval o X.env:=by rfl)
  (Y:((backTo cpos (starEach (e::es) X.env)).all (fun x=>!x.1) && (backToKw cpos (keywordEach [] X.env)).all (fun x=>x.1.isSome)
   && decide ((e::es).length+([]:List Keyword).length+(if ([]:List Keyword).isEmpty then 0 else 1)<30))=true:=by rfl)
  (O:(apos.endLine == cpos.line)=true:=by rfl) (hs:starEach (e::es) X.env=(false,eval e X.env)::starEach es X.env:=by rfl) (z:(backTo cpos (starEach es X.env)).any (·.1)=false:=by rfl) :
  PE X (.Call (.Attribute o name apos) (e::es) [] cpos) (tBM X.K T r to t):=by
 intro j s σ H Q I h;refine fH J Y O rfl (ZW (ho j s σ H _ I h) fun v s1 ⟨x,H1,I1,r1,ty,q1⟩=>?_);obtain⟨h1,h2⟩:=ZcP I1 r1 ty;refine⟨T,id,pa,slot,j4,h1,h2,?_⟩;have hA:=ha cpos j s1 σ H1 _ I1 q1;rw[hs] at hA ⊢;refine fm (by show (false || (backTo cpos (starEach es X.env)).any (·.1))=false;rw[z] <;> rfl) (fD ?_)
 exact ZW hA fun us s2 ⟨vs,H2,I2,r2,q2⟩=>hm j s2 σ H2 x vs v us Q I2 r1 r2 q2
end
noncomputable def MtM (X:Cx)(id:String)(r:V->List V->Hp->VK->Prop):Prop:=
 ∀(j:List (Addr×Obj)) (s:Shared) (z:St) (H:Hp) (x:V) (J:List V) (v:Value) (O:List Value) (Q:VK),Inv X j z H s->RelV x v->ZN J O->r x J H Q->
  wpAny (model X.prog X.w) X.A (call (.builtin id) (v::O)) (EP X j z Q) X.xe s
theorem ZN.one {x:V}{us:List Value}(h:ZN [x] us):∃u,us=[u]/\RelV x u:=by
 cases h with
 |cons r t=>cases t;exact⟨_,rfl,r⟩
theorem ZN.rep {xs:List V}{us:List Value}(h:ZN xs us):∀k:Nat,ZN (ag k xs).flatten (ag k us).flatten
 |0=>.nil
 |k+1=>by
  rw[aM,aM,bG,bG];exact ZN.append h (ZN.rep h k)
theorem foldl_rep (j:List Value):∀(k:Nat) (acc:List Value),
  jl (fun z J=>z++J) acc.toArray (ag k j.toArray)=(acc++(ag k j).flatten).toArray
 |0,acc=>by simp
 |k+1,acc=>by
  have e:acc.toArray++j.toArray=(acc++j).toArray:=by simp
  have O:(acc++j)++(ag k j).flatten=acc++(ag (k+1) j).flatten:=by
   rw[aM,bG,aw]
  rw[<-O,<-foldl_rep j k (acc++j),<-e,aM,List.foldl_cons]
section
variable {X:Cx}{pins:List (Addr×Obj)}{σ:St}{H:Hp}{s:Shared}{l b:Addr}{xs ys zs:List V}
theorem Inv.lset {j its':List Value}{n:Nat}{f:Array Value->Array Value}{t':Nat}(I:Inv X pins σ H s)(z:H l=some (.lst xs))
  (e:s.heap.get? l=some {cls:=.type "list",data:=.seq j.toArray n}) (J:f j.toArray=its'.toArray) (O:ZN ys its') (Y:ys.length<=sizeLine) :
  Inv X pins σ (upd H l (.lst ys)) {s with heap:=s.heap.update l (gp f),toks:=t'}:=by
 have q:=PySem.IsL.update e f;rw[J] at q;refine I.write (x:=l) (e:=l) (by rw[z];exact trivial) (.inl rfl) (fun b' u hb hu=>(aL s.heap (gp f) (bC hb)).trans hu) ⟨_,q⟩ ?_;exact⟨Y,its',_,O,q⟩
theorem Inv.lnew {j:List Value}{t':Nat}(I:Inv X pins σ H s)(z:ZN ys j)(J:ys.length<=sizeLine) :
  Inv X pins σ (upd H s.heap.objs.size (.lst ys)) {s with heap:=s.heap.push {cls:=.type "list",data:=.seq j.toArray},toks:=t'}:=
 I.laid (fun _ _ q=>Zn _ q) (Zq _) ⟨J,j,0,z,Zo _ rfl⟩
theorem Inv.fresh (I:Inv X pins σ H s):H s.heap.objs.size=none:=I.hok.fresh (Zq _)
theorem Inv.lstM (I:Inv X pins σ H s)(J:H l=some (.lst xs)):xs.length<=sizeLine/\∃(j:List Value) (n:Nat),ZN xs j/\xs.length=j.length/\s.heap.get? l=some {cls:=.type "list",data:=.seq j.toArray n}:=by
 obtain⟨z,j,n,r,e⟩:=I.hok l _ J;exact⟨z,j,n,r,r.length,e⟩
theorem Zdo {n:Nat}(h:n<=sizeLine):dM n=false:=by
 unfold dM;exact decide_eq_false (by omega)
end
section
variable {X:Cx}
noncomputable def Zen:V->List V->Hp->VK->Prop:=fun x z H Q=>∃l j y,x=.ref l/\z=[y]/\H l=some (.lst j)/\j.length<sizeLine/\Q .non (upd H l (.lst (j++[y])))
theorem YC:MtM X "list.append" Zen:=by
 intro J s σ H x vs v us Q I rx rv h;obtain⟨l,xs,y,rfl,rfl,O,hz,q⟩:=h;cases rx;obtain⟨u,rfl,ru⟩:=rv.one;obtain⟨z,j,n,r,hl,e⟩:=I.lstM O;refine cG bx ⟨_,e,rfl⟩ F.entry_list_append (F.args_list_append_2 _ _) (PySem.list_append l j.toArray n u (by rw[Zh];omega)) ⟨e,?_⟩;refine⟨.non,_,I.lset (its':=j++[u]) O e (by simp) (r.append (.cons ru .nil)) ?_,rfl,q⟩;rw[Zd,Zk];omega
noncomputable def Zh0:R2:=fun x y H Q=>∃l b j z,x=.ref l/\y=.ref b/\H l=some (.lst j)/\H b=some (.lst z)/\j.length+z.length<=sizeLine/\∀p,H p=none->Q (.ref p) (upd H p (.lst (j++z)))
theorem YY:W9 X (binaryOp .Add) Zh0:=by
 intro O s σ H x y v u Q I Y ry h;obtain⟨l,b,xs,zs,rfl,rfl,hH,hB,hz,q⟩:=h;cases Y;cases ry;obtain⟨z,J,n,r,hl,e⟩:=I.lstM hH;obtain⟨z2,j,n2,r2,j4,e2⟩:=I.lstM hB;refine PySem.P.add_list e e2 ?_ (by rw[Zh,Zh];omega);have ea:J.toArray++j.toArray=(J++j).toArray:=by simp
 rw[ea];exact⟨.ref _,_,I.lnew (t':=s.toks) (r.append r2) (by rw[Zd];omega),rfl,q _ I.fresh⟩
noncomputable def Zi6:R2:=fun x y H Q=>∃l k j,x=.ref l/\y=.int k/\H l=some (.lst j)/\-(2 ^ 63)<=k/\k<2 ^ 63/\j.length*k.toNat<=sizeLine/\
 ∀p,H p=none->Q (.ref p) (upd H p (.lst (ag k.toNat j).flatten))
theorem Ud {α:Type}(xs:List α)(k:Nat):(ag k xs).flatten.length=k*xs.length:=by
 induction k with
 |zero=>simp
 |succ k j=>rw[aM,bG,Zd,j,dW,gG]
theorem Zdm:W9 X (binaryOp .Mult) Zi6:=by
 intro j7 s σ H x y v u Q I rx ry h;obtain⟨l,k,xs,rfl,rfl,hH,h1,h2,hz,q⟩:=h;cases rx;obtain⟨t,rfl⟩:=ry;obtain⟨z,j,n,r,hl,e⟩:=I.lstM hH;have O:j.toArray.size*k.toNat<=sizeLine:=by rw[Zh,<-hl];exact hz
 have Y:¬j.toArray.size*k.toNat > (2 ^ 63-1) / 8:=by
  have:(sizeLine:Nat)<=(2 ^ 63-1) / 8:=by decide
  omega
 have j4:¬(!Builtin.List.listFitsIndex k)=true:=by
  rw[fitsIndex_both h1 h2];exact aS
 have J:¬dM (j.toArray.size*k.toNat)=true:=by
  rw[Zdo O];exact aS
 have j6:jl (fun x1 x2=>x1++x2) #[] (ag (if j.toArray.isEmpty=true then 0 else k.toNat) j.toArray)=(ag k.toNat j).flatten.toArray:=by
  have f0:∀m:Nat,jl (fun x1 x2=>x1++x2) #[] (ag m j.toArray)=(ag m j).flatten.toArray:=fun m=>by
   have:=foldl_rep j m [];rw[br] at this;exact this
  rw[f0];cases j with
  |nil=>simp
  |cons a r'=>rw[if_neg (by simp)]
 refine iT (T:="list") (U:="int") (by decide) ⟨_,e,rfl⟩ (fun s'=>gO s' k t) noFill_list_mul F.fills_int_mul fE repeat_list F.slot_int_index.lookup
  (cG fE (gO s k t) F.entry_int_rmul (F.args_int_rmul_2 _ _) (int___rmul___int_list k t l j.toArray n)
   ⟨e,rfl,⟨_,e,rfl⟩,cG F.slot_list_mul ⟨_,e,rfl⟩ F.entry_list_mul (F.args_list_mul_2 _ _) (AutoListH.list___mul___list_int_3 l j.toArray n k t j4 Y J) ⟨e,?_⟩⟩)
 rw[j6];exact⟨.ref _,_,I.lnew (t':=s.toks) (r.rep k.toNat) (by rw[Ud,gD];exact hz),rfl,q _ I.fresh⟩
end
section
variable {prog:Program}{w:World}{A:Around}{E:Value->Shared->Prop}{s:Shared}
end
section
variable {X:Cx}
end
end L2
namespace Att
open PySem PySem.W PySem.Calls PyProof.Rows
theorem Xs {P:Params}{h:Heap}:∀(ns:List Int) (vs:List Value),WellAll P h vs (ns.map WData.int)->iI vs ns:=by
 intro ns;induction ns with
 |nil=>
  intro vs w;rw[gu] at w;cases w;exact .nil
 |cons n ns j=>
  intro vs w;rw[aZ] at w;cases w with
  |cons a b=>
   cases a;exact .cons _ _ (j _ b)
theorem Zb2 {l:eV}{n:Nat}(hn:l.most=some n){P:Params}{h:Heap}{args:List WData}{vals:List Value}
  (j:l.row.toRowW.claim.pre args=true) (Y:WellAll P h vals args) :
  ∃a vs ns,vals=[au a]/\args=[WData.list (ns.map WData.int)]/\h.get? a=some {cls:=.type "list",data:=.seq vs.toArray}/\iI vs ns/\ns.length<=n:=by
 have j4:WShape.hasAll [] args [.list .int]=true:=(pre_splitW j).1;have hc:l.pre.holds [] {args:=args}=true:=(pre_splitW j).2;obtain⟨d,r,rfl,h1,h2⟩:=hasAllW_cons j4;obtain rfl:=hasAllW_nil h2;obtain⟨xs,rfl,h3⟩:=hasW_list h1;obtain⟨ns,rfl⟩:=items_int h3;have hlen:ns.length<=n:=by
  unfold OpenLaw.pre at hc;have J:(WTm.not (.lt (.lit (.int (n:Int))) (.len (.arg 0)))).holds [] {args:=[.list (ns.map .int)]}=true:=by
   have J:=(holds_andW hc).1;rw[hn] at J;exact J
  have O:=condW_of J (w_not (w_lt w_lit (w_len_list (w_arg rfl))));rw[Za] at O;refine Nat.le_of_not_lt fun q=>?_;have q':(n:Int)<((ns.length:Nat):Int):=by omega
  first
   |(rw[decide_eq_true q'] at O;exact absurd O (by decide))
   |(simp at O;omega)
 cases Y with
 |cons w1 w2=>
  cases w2;cases w1 with
  |list ho z=>exact⟨_,_,ns,rfl,rfl,ho,Xs ns _ z,hlen⟩
theorem Zb8 (l:eV)(args:List WData):l.row.toRowW.claim.post args (.bool true) args=true:=
 postW_of (r:=l.row.toRowW) (X:=(true == true))
  (show WShape.has [] (.bool true) .bool=true by first|rfl|decide|simp[WShape.has,WShape.arms,WShape.armsAll])
  (show (WTm.eq .res (.lit (.bool true))).value [] {args:=args,res:=some (.bool true),after:=args}=some (.bool (true == true)) from w_eq_bool (w_res rfl) w_lit) rfl
theorem Zab {l:eV}{n:Nat}{q:Program}{loose:List Str}{XP:(Str->Option Value)->Heap->Prop}{YP:World->Heap->Prop}{d:DefRec}
  (hn:l.most=some n) (j6:d.params.defaults=[])
  (call:∀(w:World) (s₀ j:Shared) (mg mb:Str->Option Value) (J:Addr) (o:Obj) (pm cd z:Value) (a:Addr) (vs:List Value) (ns:List Int),
   Ground q loose [] XP w s₀ mg mb j.heap->YP w j.heap->
   j.heap.get? J=some o->o.data=.func (docDef d.name d.params d.body d.scope pm cd z)->j.heap.CodeRec cd d.name->mg d.name=some (.ref J)->
   j.heap.get? a=some {cls:=.type "list",data:=.seq vs.toArray}->iI vs ns->ns.length<=n->j.gens=#[]->
   codeAny (model l.prog w) callerA (.call (.ref J) ⟨[.ref a],[]⟩) (fun r s'=>r=.ok (.ret (.bool true))/\OldK j.heap s'.heap/\s'.os=j.os/\fv s'.gens) j) :
  i7 q loose XP YP l.row.toRowW d [] (fun f vs=>i6 f vs):=by
 intro w s₀ j mg mb G Y J o pm cd z dV kV ho hd j7 hD j8 hg args l7 as O l8 l9 j9 m3;obtain rfl:dV=.none:=Dflts.none hD j6;obtain rfl:kV=.none:=Dflts.noKw hD;obtain⟨a,vs,ns,rfl,rfl,j4,hints,hlen⟩:=Zb2 hn O j9;refine enter_call (hG (call w s₀ j mg mb J o pm cd z a vs ns G Y ho (fd_plain hd) j7 j8 j4 hints hlen hg) fun r s' hq=>?_);obtain⟨rfl,h2,h3,h4⟩:=hq;exact⟨.inl ⟨.bool true,.bool true,[],rfl,fun _=>rfl,.bool true,Zb8 l _,fun _=>⟨fz,fun _ hm=>(nomatch hm)⟩⟩,h2,h3,h4⟩
section
variable {prog:Program}{w:World}{A:Around}{E:Value->Shared->Prop}{s:Shared}{K:Frag}
end
end Att
namespace L2
open PySem PySem.Spec PyProof.Rows
theorem Vv:∀{vs:List Value}{ns:List Int},iI vs ns->ZN (ns.map V.int) vs
 |_,_,.nil=>.nil
 |_,_,.cons n t h=>.cons ⟨t,rfl⟩ (Vv h)
noncomputable def Zg4 (H:Hp):Prop:=∀b,H b=none\/∃o j,H b=some (.frz o (.lst j))
theorem Zdz {P:Program}{w:World}{K:ac}{mg mb:Str->Option Value}{CX:VQ}{k:Nat}{fa a:Addr}{fd:FuncData}{x:Str}{sp:Sp}{j:Shared}{vs:List Value}{ns:List Int}
  (KX:K.In j.heap) (j4:j.heap.Ns mainGlobals mg) (hb:j.heap.Ns builtinsNs mb) (l7:∀x:Str,x ≠ "__name__"->mb x=bootBuiltins x) (j6:j.heap.NoLimit) (hg:j.gens=#[])
  (ha:j.heap.get? a=some {cls:=.type "list",data:=.seq vs.toArray}) (hi:iI vs ns) (hl:ns.length<=sizeLine) (hr:Y2 k callerA)
  (F:∀base:Heap,K.In base->base.Ns mainGlobals mg->Z8 P w K mg base CX k fa fd [x] sp) (Y:∀(s:Shared) (u:Value),gt s fd ⟨[u],[]⟩ [(x,u)])
  (l8:∀H:Hp,Zg4 H->WQ K H a (ns.map V.int)->sp [.ref a] H (fun v _=>v=.bl true) fun _ _ _=>False)
  (l9:∀H e s',CX [] H j (fun _ _ _=>False) e s'->False) :
  codeAny (model P w) callerA (.call (.ref fa) ⟨[.ref a],[]⟩) (fun r s'=>r=.ok (.ret (.bool true))/\OldK j.heap s'.heap/\s'.os=j.os/\fv s'.gens) j:=by
 have rv:=Vv hi;have j7:=hi.length;have core:∀H:Hp,Zg4 H->WQ K H a (ns.map V.int)->JB P w H j.heap->(∀b,H b≠none->b=a)->(H a≠none->K.lookup a=none)->
   codeAny (model P w) callerA (.call (.ref fa) ⟨[.ref a],[]⟩) (fun r s'=>r=.ok (.ret (.bool true))/\OldK j.heap s'.heap/\s'.os=j.os/\fv s'.gens) j:=by
  intro H hO hS hok hA hK;have J:∀{b:Addr}{o:Obj},j.heap.get? b=some o->H b=none->(Ug j.heap H).get? b=some o:=fun e n=>ZdF e n;have m3:∀{b:Addr}{o:Obj}{es:Array DictEntry}{ep:Nat},j.heap.get? b=some o->o.data=.dict es ep->H b=none:=fun {b o es ep} e d=>by
   cases q:H b with
   |none=>rfl
   |some u=>
    have e':b=a:=hA b (by rw[q];simp);subst e';rw[ha] at e;cases e;have d':Data.seq vs.toArray _=Data.dict es ep:=d;cases d'
  have O:∀{b:Addr}{m:Str->Option Value},j.heap.Ns b m->(Ug j.heap H).Ns b m:=fun {b m} ⟨o,es,ep,e,d,r⟩=>⟨o,es,ep,J e (m3 e d),d,r⟩;have j8:K.In (Ug j.heap H):=fun b o e=>J (KX b o e) (by
   cases q:H b with
   |none=>rfl
   |some u=>
    have e':b=a:=hA b (by rw[q];simp);subst e';rw[hK (by rw[q];simp)] at e;cases e)
  have hM:Mod K mg (Ug j.heap H):=⟨j8,O j4,⟨mb,O hb,l7⟩,let ⟨mc,h1,h2⟩:=j6;⟨mc,O h1,h2⟩⟩;have e0:Za8 P w K mg (Ug j.heap H) callerA [] j H:=⟨rfl,hM,fun b o e=>ZeJ e,Nat.le_of_eq (Zct _ _),trivial,fun b hb=>absurd (show b∈([]:List Addr) from hb) (by simp),hok,.of_eq hg⟩;refine hG ((F _ j8 (O j4)).run callerA [] j H ⟨[.ref a],[]⟩ [.ref a] [.ref a] _ _ hr e0 (Y j (.ref a)) (.cons rfl .nil) (l8 H hO hS)) fun r s' h=>?_;cases r with
  |error e=>exact (l9 H e s' h).elim
  |ok fl=>
   cases fl with
   |next=>exact bA h
   |brk=>exact bA h
   |cont=>exact bA h
   |ret u=>
    obtain⟨v,H',os,bare,un,j9,r',q⟩:=h;have q':v=.bl true:=q;subst q';obtain rfl:u=fR true:=r';refine⟨rfl,OldK.of_keep fun b o e=>?_,os,bare⟩;cases q:H b with
    |none=>exact un.keep b o e q (by intro z;exact absurd (show b∈([]:List Addr) from z) (by simp)) (by simp)
    |some u=>
     rcases hO b with z|⟨ob,xs,z⟩
     ·rw[q] at z;cases z
     ·have z2:=un.frzs b ob _ z
      obtain⟨e1,_⟩:=hok b _ z;obtain⟨e2,_⟩:=j9 b _ z2;rw[e] at e1;cases e1;exact e2
 cases hk:K.lookup a with
 |some o=>
  have e:=KX a o hk;rw[ha] at e;cases e;refine core (fun _=>none) (fun _=>.inl rfl) (.inr ⟨_,vs.toArray,_,hk,rfl,rfl,rfl,by rw[Zh,j7];exact hl,by simpa using rv⟩) (fun b u z=>by have z':(none:Option HO)=some u:=z;cases z') (fun b z=>absurd rfl z) fun z=>absurd rfl z
 |none=>
  refine core (fun b=>if b=a then some (.frz {cls:=.type "list",data:=.seq vs.toArray} (.lst (ns.map V.int))) else none) (fun b=>?_) (.inl (.inr ⟨{cls:=.type "list",data:=.seq vs.toArray},if_pos rfl⟩)) (fun b u z=>?_) (fun b z=>?_) fun _=>hk
  ·by_cases hb:b=a
   ·exact .inr ⟨_,_,if_pos hb⟩
   ·exact .inl (if_neg hb)
  ·by_cases hb:b=a
   ·have z':=(if_pos hb).symm.trans z
    cases z';subst hb;exact⟨ha,by rw[Za];exact hl,vs,_,rv,ha⟩
   ·have z':=(if_neg hb).symm.trans z
    cases z'
  ·by_cases hb:b=a
   ·exact hb
   ·exact absurd (if_neg hb) z
theorem VR {l:eV}{n k:Nat}{q:Program}{loose:List Str}{XP:(Str->Option Value)->Heap->Prop}{YP:World->Heap->Prop}{d:DefRec}{K:Params->ac}{CX:World->VQ}{sp:World->Sp}{x:Str}
  (hn:l.most=some n) (j6:n<=sizeLine) (j7:d.params.defaults=[]) (hr:Y2 k callerA)
  (hY:∀(w:World) (h:Heap),YP w h->(K w.params).In h)
  (F:∀(w:World) (J:Str->Option Value) (fa:Addr) (h:Heap),(K w.params).In h->h.Ns mainGlobals J->J d.name=some (.ref fa)->
   ∃fd:FuncData,(∀(s:Shared) (u:Value),gt s fd ⟨[u],[]⟩ [(x,u)])/\
    ∀base:Heap,(K w.params).In base->base.Ns mainGlobals J->Z8 l.prog w (K w.params) J base (CX w) k fa fd [x] (sp w))
  (j8:∀(w:World) (H:Hp) (a:Addr) (ns:List Int),ns.length<=n->Zg4 H->WQ (K w.params) H a (ns.map V.int)->sp w [.ref a] H (fun v _=>v=.bl true) fun _ _ _=>False)
  (j9:∀(w:World) (H:Hp) (s:Shared) (e:Value) (s':Shared),CX w [] H s (fun _ _ _=>False) e s'->False) :
  i7 q loose XP YP l.row.toRowW d [] (fun f vs=>i6 f vs):=by
 refine Att.Zab hn j7 fun w l8 O J mb fa o pm cd l9 a vs ns G Y ho hd m3 l7 j4 z j hg=>?_;have KX:=hY w _ Y;obtain⟨fd,hb,hF⟩:=F w J fa _ KX G.T.g l7;exact Zdz KX G.T.g G.T.b G.T.builtins G.T.nolimit hg j4 z (aK j j6) hr hF hb (fun H hO hS=>j8 w H a ns j hO hS) fun H e s'=>j9 w H O e s'
noncomputable def ZeT (s:Stmt)(j:Nat):Stmt:=match s with
 | .ClassDef _ _ _ z _ _ _ _ _ _ _=>z.getD j (.Pass ⟨0,0,0,0⟩)
 |_=>.Pass ⟨0,0,0,0⟩
noncomputable def Yp (s:Stmt):Arguments:=match s with
 | .FunctionDef _ a _ _ _ _ _ _ _ _=>a
 |_=>{posonlyargs:=[],args:=[],vararg:=none,kwonlyargs:=[],kw_defaults:=[],kwarg:=none,defaults:=[]}
noncomputable def Yh (s:Stmt):List Stmt:=match s with
 | .FunctionDef _ _ b _ _ _ _ _ _ _=>b
 |_=>[]
noncomputable def ZS (s:Stmt):Scope:=match s with
 | .FunctionDef _ _ _ _ _ _ j _ _ _=>j
 |_=>{kind:=.function,names:=[],isGenerator:=false,isCoroutine:=false}
noncomputable abbrev YD:VQ:=fun _ _ _ _ _ _=>False
noncomputable abbrev E0:XK:=fun _ _ _=>False
theorem ZU {X:Cx}:WN YD X E0:=fun _ _ _ _ _ _ _ h=>h.elim
structure WT (K:ac)(x qual:Str)(st:Stmt)(f:Addr)(fd:FuncData):Prop where
 ex:∃(oc:Value) (od:Option Addr) (kV doc pm:Value) (an:Option Addr) (cdv ct:Value) (osl:Array (Option Value)),
  fd=bj x qual (Yp st) (Yh st) (ZS st) .none kV doc pm an cdv ct/\K.lookup f=some ⟨oc,od,.func fd,osl⟩/\bS K cdv qual=true
 kp:aX K (.ref f)=true
section
variable {P:Program}{w:World}{K:ac}{mg:Str->Option Value}{base:Heap}
theorem WT.ok {x j:Str}{st:Stmt}{f:Addr}{fd:FuncData}{N O:List Str}{k:Nat}{sp:Sp}(F:WT K x j st f fd)(S:JU N O (ZS st))(len:∀vs H Q E,sp vs H Q E->vs.length=O.length)
  (J:∀(z:Value) (A:Around) (outer:List Env) (s:Shared) (H:Hp) (vs:List V) (Q:VK) (E:XK),Y2 k (A.deeper (envOfC j (ZS st) s.heap.objs.size f z))->sp vs H Q E->
   ∃t,Vi (UZ YD P w K mg base N j (ZS st) f z A outer s H E).nox (Yh st) t/\t {nx:=fun _ H'=>Q .non H',rt:=Q} (start N vs) H):Z8 P w K mg base YD (k+1) f fd O sp:=by
 obtain⟨oc,od,kV,doc,pm,an,z,ct,j6,rfl,lk,Y⟩:=F.ex;refine ZdM lk Y S len fun A outer s H vs Q E hr j4=>?_;obtain⟨t,h,q⟩:=J z A outer s H vs Q E hr j4;exact⟨t,h.nox,q⟩
theorem WT.binds {x j:Str}{st:Stmt}{f:Addr}{fd:FuncData}{J:List Str}(F:WT K x j st f fd)
  (h:∀(kV doc pm:Value) (an:Option Addr) (z ct:Value) (us:List Value),us.length=J.length->bindArgs (bj x j (Yp st) (Yh st) (ZS st) .none kV doc pm an z ct) ⟨us,[]⟩=pure (J.zip us)):Binds K fd J []:=by
 obtain⟨oc,od,kV,doc,pm,an,z,ct,O,rfl,lk,Y⟩:=F.ex;exact .all (h kV doc pm an z ct)
theorem X7 {x j:Str}{st:Stmt}{f:Addr}{O:Value}{Y an:Option Addr}{J:Array (Option Value)}{kV doc pm z ct:Value}(l:K.lookup f=some ⟨O,Y,.func (bj x j (Yp st) (Yh st) (ZS st) .none kV doc pm an z ct),J⟩)
  (c:bS K z j=true) (k:aX K (.ref f)=true):WT K x j st f (bj x j (Yp st) (Yh st) (ZS st) .none kV doc pm an z ct):=⟨⟨O,Y,kV,doc,pm,an,z,ct,J,rfl,l,c⟩,k⟩
end
section
variable {X:Cx}
end
theorem YF {A B:Prop}(h:A):if true=true then A else B:=by
 rw[if_pos rfl];exact h
theorem ZO {c A B:Prop} [Decidable c](j:c->A)(z:¬c->B):if c then A else B:=by
 by_cases h:c
 ·rw[if_pos h]
  exact j h
 ·rw[if_neg h]
  exact z h
noncomputable def Zx (H j:Hp):Prop:=∀b o,H b=some o->j b=some o
theorem Zx.refl (H:Hp):Zx H H:=fun _ _ h=>h
theorem Zx.trans {H H1 j:Hp}(a:Zx H H1)(b:Zx H1 j):Zx H j:=fun c o h=>b c o (a c o h)
theorem Zx.free {H j:Hp}(e:Zx H j){l:Addr}(h:j l=Option.none):H l=Option.none:=by
 cases q:H l with
 |none=>rfl
 |some o=>
  rw[e l o q] at h;cases h
theorem Zx.seq {K:ac}{H j:Hp}{a:Addr}{xs:List V}(e:Zx H j)(h:WQ K H a xs):WQ K j a xs:=by
 rcases h with (h|⟨o,h⟩)|h
 ·exact .inl (.inl (e _ _ h))
 ·exact .inl (.inr ⟨o,e _ _ h⟩)
 ·exact .inr h
end L2
set_option maxHeartbeats 4000000
namespace L2
open PySem PySem.Spec PyProof.Rows
structure YQ (N:List Str)(esc:Scope)(own:List Str)(caps:List Nat)(N':List Str)(sc:Scope):Prop where
 kind:sc.kind=.function
 ndn:(sc.names.map (·.1)).Nodup
 uniq:∀y∈sc.names,y.2=.local->sc.names.lookup y.1=some .local
 nd:N'.Nodup
 eqN:N'=own++caps.map fun j=>N.getD j ""
 cap:∀j∈caps,j<N.length/\sc.names.lookup (N.getD j "")=some .free
 fr:∀y∈sc.names,y.2=.free->esc.names.lookup y.1=some .cell\/esc.names.lookup y.1=some .free
noncomputable def Jz (J:List Str)(z:List Nat)(O:St):St:=ag J.length none++z.map fun j=>(O[j]?).join
theorem Jy {env:Env}:∀(names:List (Str×cR)) (acc:List (Str×Addr)),(∀y∈names,y.2=.free->∃c,env.cells.lookup y.1=some c)->(∀y c,acc.lookup y=some c->env.cells.lookup y=some c)->
  ∃z,(forIn names acc (fun x r=>if (x.2 == dm)=true then (do let c <-cellOf env x.1;pure (bF ((x.1,c)::r))) else pure (bF r)):Sem (List (Str×Addr)))=pure z/\
   (∀y c,z.lookup y=some c->env.cells.lookup y=some c)/\(∀y,(∃c,acc.lookup y=some c)->∃c,z.lookup y=some c)/\∀y∈names,y.2=.free->∃c,z.lookup y.1=some c
 | [],acc,_,O=>⟨acc,rfl,O,fun _ h=>h,fun _ h=>absurd h (by simp)⟩
 | (n,k)::r,acc,hn,O=>by
  rw[List.forIn_cons];by_cases hk:k=.free
  ·subst hk
   obtain⟨c,hc⟩:=hn (n,.free) ah rfl;have j4:∀y d,((n,c)::acc).lookup y=some d->env.cells.lookup y=some d:=fun y d e=>by
    rw[cn] at e;cases q:y == n with
    |true=>rw[q] at e;cases e;rw[beq_iff_eq.mp q];exact hc
    |false=>rw[q] at e;exact O y d e
   obtain⟨z,e,h1,Y,h3⟩:=Jy r ((n,c)::acc) (fun y j=>hn y (ae _ j)) j4;have hh:∀y,(∃d,acc.lookup y=some d)->∃d,((n,c)::acc).lookup y=some d:=fun y ⟨d,hd⟩=>by
    rw[cn];cases q:y == n with
    |true=>exact⟨c,rfl⟩
    |false=>exact⟨d,hd⟩
   have hs:∃d,((n,c)::acc).lookup n=some d:=⟨c,by rw[cn,beq_self_eq_true]⟩;refine⟨z,?_,h1,fun y j=>Y y (hh y j),fun y j hf=>?_⟩
   ·have J:cellOf env n=pure c:=by simp only[cellOf,hc]
    simp only[beq_self_eq_true,if_true,J];simp only[pure_bind];exact e
   ·rcases aj.mp j with rfl|j
    ·exact Y _ hs
    ·exact h3 y j hf
  ·obtain⟨z,e,h1,Y,h3⟩:=Jy r acc (fun y j=>hn y (ae _ j)) O
   refine⟨z,?_,h1,Y,fun y j hf=>?_⟩
   ·have hb:(k == dm)=false:=by simpa using hk
    simp only[hb,gl,if_false,pure_bind];exact e
   ·rcases aj.mp j with rfl|j
    ·exact absurd hf hk
    ·exact h3 y j hf
theorem Jx {scope:Scope}{env:Env}(h:∀y∈scope.names,y.2=.free->∃c,env.cells.lookup y.1=some c) :
  ∃j,closureFor scope env=pure j/\(∀y c,j.lookup y=some c->env.cells.lookup y=some c)/\∀y∈scope.names,y.2=.free->∃c,j.lookup y.1=some c:=by
 obtain⟨j,e,z,_,J⟩:=Jy (env:=env) scope.names [] h (fun y c e=>by simp at e);refine⟨j,?_,z,J⟩;have q:closureFor scope env=((forIn scope.names ([]:List (Str×Addr)) (fun x r=>if (x.2 == dm)=true then (do let c <-cellOf env x.1;pure (bF ((x.1,c)::r))) else pure (bF r)):Sem (List (Str×Addr))) >>= fun O=>pure O):=rfl
 rw[q,e];rfl
theorem Yj {names:List (Str×cR)}{x:Str}{k:cR}(h:names.lookup x=some k):(x,k)∈names:=aR h
theorem Ya {env:Env}{x:Str}:∀{names:List (Str×cR)}{k:cR},
  (names.map fun (n,k)=>if (k == dm && env.scope.kind == .function && env.kindOf n == some .cell) then (n,bZ) else (n,k)).lookup x=some k->
  names.lookup x=some k\/(k=.cell/\names.lookup x=some .free)
 | [],_,h=>by simp at h
 | (n,j)::r,k,h=>by
  have O:=@Ya env x r k;have h:i4 x ((if (j == dm && env.scope.kind == .function && env.kindOf n == some .cell)=true then (n,bZ) else (n,j))::_)=some k:=h
  rw[cn];by_cases z:(j == dm && env.scope.kind == .function && env.kindOf n == some .cell)=true
  ·rw[if_pos z,cn] at h
   have J:j=.free:=by
    simp only[aT,beq_iff_eq] at z;exact z.1.1
   cases q:x == n with
   |true=>rw[q] at h;cases h;right;exact⟨rfl,by rw[J]⟩
   |false=>rw[q] at h;exact O h
  ·rw[if_neg z,cn] at h
   cases q:x == n with
   |true=>rw[q] at h;cases h;left;rfl
   |false=>rw[q] at h;exact O h
section
variable {X:Cx}
noncomputable def ZdY (scope:Scope)(x:Str):Bool:=scope.names.any fun y=>y.1 == x && (match y.2 with | .cell=>true|_=>false)
theorem VJ {scope:Scope}{x:Str}(h:ZdY scope x=true):(x,bZ)∈scope.names:=by
 unfold ZdY at h;obtain⟨⟨n,k⟩,hm,j⟩:=dB.mp h;rw[aT] at j;obtain⟨z,J⟩:=j;have e:n=x:=by simpa using z
 subst e;cases k <;> first|exact hm|cases J
theorem Wp {x:Str}{k:cR}:∀{names:List (Str×cR)},(names.map (·.1)).Nodup->(x,k)∈names->names.lookup x=some k
 | [],_,h=>by cases h
 | (n,j)::r,nd,h=>by
  rw[aZ,cT] at nd;rw[cn];rcases aj.mp h with e|h
  ·cases e
   simp
  ·have:(x == n)=false:=by
    refine eU.mpr fun z=>nd.1 ?_;rw[<-beq_iff_eq.mp z];exact aV.mpr ⟨_,h,rfl⟩
   rw[this];exact Wp nd.2 h
theorem Wy:∀(names:List (Str×cR)) (n:Nat) (acc:List (Str×Addr)),cellsFrom n names acc=cellsFrom n names []++acc
 | [],n,acc=>rfl
 |(x,k)::r,n,acc=>by
  unfold cellsFrom;by_cases j:(k == bZ)=true
  ·rw[if_pos j,if_pos j,Wy r (n+1) ((x,n)::acc),Wy r (n+1) [(x,n)],aw]
   rfl
  ·rw[if_neg j,if_neg j,Wy r n acc]
theorem Jk {x:Str}{c:Addr}:∀(names:List (Str×cR)) (n:Nat) (acc:List (Str×Addr)),(x,c)∈cellsFrom n names acc->(x,bZ)∈names\/(x,c)∈acc
 | [],n,acc,h=>.inr h
 | (y,k)::r,n,acc,h=>by
  unfold cellsFrom at h;by_cases j:(k == bZ)=true
  ·rw[if_pos j] at h
   rcases Jk r (n+1) _ h with z|z
   ·exact .inl (ae _ z)
   ·rcases aj.mp z with e|z
    ·cases e
     have:k=.cell:=by cases k <;> first|rfl|cases j
     rw[this];exact .inl ah
    ·exact .inr z
  ·rw[if_neg j] at h
   rcases Jk r n _ h with z|z
   ·exact .inl (ae _ z)
   ·exact .inr z
theorem ZbA {M:Model}{A:Around}{E:Value->Shared->Prop}{s:Shared}{scope:Scope}{globals:Addr}{O:List (Str×Addr)}{qual:Str}{j:Env}{Q:Env->Shared->Prop}
  (hQ:Q (newEnv scope s.heap.objs.size globals (cellsFrom (s.heap.objs.size+1) scope.names O) qual none .none (some j) builtinsNs) {s with heap:=pushCells (s.heap.push {cls:=.type "dict",data:=.dict #[]}) scope.names}) :
  wpAny M A (newFunctionEnv scope globals O [] qual none .none (some j)) Q E s:=by
 unfold newFunctionEnv;refine Zl (wpAny_alloc ?_);refine Zl (wpAny_layCells _ (fun Y kind z=>by cases J:kind == bZ <;> simp[J]) _ _ _ _ ?_)
 rw[show ({s with heap:=s.heap.push {cls:=.type (if (some j).isSome=true then "dict" else "frame"),data:=.dict #[]}}:Shared).heap.objs.size=s.heap.objs.size+1 from bu ..]
 exact Zl (by rw[List.forIn_nil];exact Zm (Zm hQ))
noncomputable def Yt (X:Cx)(scope:Scope)(j:List (Str×Addr))(z:List Str)(C:Addr)(s:Shared)(H:Hp)(ex:List Addr):Cx:=
 {X with N:=z,s₀:=s,H₀:=H,env:=compEnvC scope j C X.env,outer:=X.stack,ex:=ex,fn:=ZdY scope,pn:=[],xe:=fun _ _=>False}
noncomputable def JV (j6:List Str)(z:List Nat)(g:TG)(tc:TT)(te:TE)(σ:St)(Q:VK)(J:It)(H1:Hp):Prop:=∀D,H1 D=none->
 ∃W:Nat->Nat->St->Hp->Prop,(∃m,W 0 m (Jz j6 z σ) (upd H1 D (.lst [])))/\∀i m O Y,W i m O Y->
  (J.stop i Y/\Q (.ref D) Y)\/(J.go i Y/\∃N:St->Hp->Prop,(∀ j4 H2,N j4 H2->∃m',m'<m/\W (i+1) m' j4 H2)/\∀x H2,J.yld i Y x H2->g x O H2 fun j H3=>tc j H3 fun b H4=>
   if b=true then te j H4 fun v H5=>∃xs,H5 D=some (.lst xs)/\xs.length<sizeLine/\N j (upd H5 D (.lst (xs++[v]))) else N j H4)
noncomputable def Vx (z:List Str)(j:List Nat)(Y:TI)(g:TG)(tc:TT)(te:TE):TE:=fun O H Q=>Y O H fun J H1=>JV z j g tc te O Q J H1
noncomputable def JC:TT:=fun _ H Q=>Q true H
noncomputable def PIf (X:Cx)(z:List Expr)(t:TT):Prop:=
 ∀(j:List (Addr×Obj)) (s:Shared) (J:St) (H:Hp) (Q:Bool->Hp->Prop),Inv X j J H s->t J H Q->
  wpAny (model X.prog X.w) X.A (forIn z true fun c r=>if r=true then do let ok <-isTrue c X.env (eval c X.env);pure (bF ok) else pure (bF r)) (TP X j J Q) X.xe s
theorem YR:PIf X [] JC:=fun _ _ _ H _ I h=>wpAny_tests_nil ⟨H,I,h⟩
theorem V7 {c:Expr}{t:TT}(h:PT X c t):PIf X [c] t:=fun j s z H Q I q=>wpAny_tests_one (h j s z H Q I q)
theorem W8 {prog:Program}{w:World}{A:Around}{R:Result->Shared->Prop}{s:Shared}{elt j iter:Expr}{ifs:List Expr}{scope:Scope}{pos:Pos}{it l7:Value}{env:Env}(I:Nat->Shared->Prop)
  (turn:∀n s,I n s->wpAny (model prog w) A (pyNext it) (fun r z=>match r with
   |none=>R (.ok .next) z
   |some v=>wpAny (model prog w) A (letOwnedTupleGo j it v) (fun _ J=>wpAny (model prog w) A (assign j env v) (fun _ j4=>
     wpAny (model prog w) A (forIn ifs true fun c r=>if r=true then do let ok <-isTrue c env (eval c env);pure (bF ok) else pure (bF r)) (fun ok O=>
      if ok=true then wpAny (model prog w) A (eval elt env) (fun x j6=>
       wpAny (model prog w) A (call (.builtin "list.append") [l7,x]) (fun _ j7=>∃m,m<n/\I m j7) (fun _ _=>False) j6) (fun _ _=>False) O
      else ∃m,m<n/\I m O) (fun _ _=>False) j4) (fun _ _=>False) J) (fun _ _=>False) z) (fun _ _=>False) s)
  (n:Nat) (h:I n s) :
  codeAny (model prog w) A (.compLoop (.ListComp elt [⟨j,iter,ifs,0⟩] scope pos) 0 it l7 env) R s:=by
 refine codeAny_loop rfl I (fun n s hI=>?_) n h;show wpAny _ A ((compTurn (.ListComp elt [⟨j,iter,ifs,0⟩] scope pos) 0 it l7 env).onRaise (fun x=>do noteFrame x env;theTreesLotGoes x)) _ _ s
 refine wpAny_noted ?_;rw[compTurn_list];refine Zl (cq (Zl (aY (turn n s hI) (fun r z j8=>?_) fun _ _ Y=>Y.elim)));cases r with
 |none=>exact Zm j8
 |some v=>
  refine Zl (aY j8 (fun _ J l8=>?_) fun _ _ Y=>Y.elim);refine Zl (aY l8 (fun _ j4 l9=>Zl (aY l9 (fun ok O j9=>?_) fun _ _ Y=>Y.elim)) fun _ _ Y=>Y.elim);cases ok with
  |false=>exact Zm ⟨rfl,j9⟩
  |true=>
   exact Zl (Zl (aY j9 (fun x j6 m3=>Zl (aY m3 (fun _ j7 m4=>Zm (Zm ⟨rfl,m4⟩)) fun _ _ Y=>Y.elim)) fun _ _ Y=>Y.elim))
theorem Vd {own:List Str}{m5:List Nat}{N':List Str}{t9 scope:Scope}{elt iter tg:Expr}{ifs:List Expr}{pos:Pos}{g:TG}{tc:TT}{te:TE}{cl:List (Str×Addr)}
  (u0:X.env.scope=t9) (S:YQ X.N t9 own m5 N' scope) (hc:X.calm=true)
  (j7:∀y c,cl.lookup y=some c->X.env.cells.lookup y=some c) (o8:∀y∈scope.names,y.2=.free->∃c,cl.lookup y.1=some c)
  (hg:∀cl C s H ex,PG (Yt X scope cl N' C s H ex) tg g) (ht:∀cl C s H ex,PIf (Yt X scope cl N' C s H ex) ifs tc) (he:∀cl C s H ex,PE (Yt X scope cl N' C s H ex) elt te)
  {j9:List (Addr×Obj)}{σ:St}{H2:Hp}{s2:Shared}{it:Addr}{fp:List Addr}{tn:Nat->Heap->Prop}{J:It}{Q:VK}{RR:Value->Addr->Result->Shared->Prop}{E:Value->Shared->Prop}
  (I2:Inv X j9 σ H2 s2) (T:Ur X.prog X.w X.K tg J fp it tn) (p7:tn 0 s2.heap) (f2:∀b∈fp,Xh X j9 H2 b)
  (h:JV own m5 g tc te σ Q J H2)
  (y2:∀D C s' m H',s'.heap.Ns C m->C≠X.env.locals->(∀x c,X.env.cells.lookup x=some c->c≠C)->X.s₀.heap.objs.size<=C->(∀p∈X.pn++j9,p.1≠C)->H' C=none->Q (.ref D) H'->(∀h',bd C s'.heap h'->Inv X j9 σ H' {s' with heap:=h'})->RR (.ref D) C (.ok .next) s') :
  wpAny (model X.prog X.w) X.A (newList []) (fun u3 u4=>wpAny (model X.prog X.w) X.A (newFunctionEnv scope X.env.globals cl [] X.env.qual none .none (some X.env)) (fun o9 u5=>
   codeAny (model X.prog X.w) X.A (.compStart (.ListComp elt [⟨tg,iter,ifs,0⟩] scope pos) 0 (.ref it) u3 {o9 with scope:=relabel scope X.env}) (RR u3 o9.locals) u5) E u4) E s2:=by
 refine bw (ZbA ?_);dsimp only;have hD:H2 s2.heap.objs.size=none:=I2.hok.fresh (Zq _);obtain⟨W,⟨m0,w0⟩,u6⟩:=h _ hD;generalize p8:s2.heap.push {cls:=.type "list",dict:=none,data:=.seq ([]:List Value).toArray}=Y;have hC:Y.objs.size=s2.heap.objs.size+1:=by rw[<-p8,bu]
 have p0:∀b o,s2.heap.get? b=some o->Y.get? b=some o:=fun b o e=>p8▸Zn _ e;have I3:Inv X j9 σ (upd H2 s2.heap.objs.size (.lst [])) {s2 with heap:=Y,toks:=s2.toks}:=
  I2.laid (t':=s2.toks) p0 (Zq _) ⟨aE _,[],0,.nil,p8▸Zo _ rfl⟩
 generalize p9:pushCells (Y.push {cls:=.type "dict",data:=.dict #[]}) scope.names=l7;have k1:∀b o,Y.get? b=some o->l7.get? b=some o:=fun b o e=>p9▸fN _ _ b o (Zn _ e);have n4:l7.Ns Y.objs.size (fun _=>none):=p9▸(Heap.Ns.new Y (.type "dict")).keeps (fN _ _);have n5:CellsOk l7 (Y.objs.size+1) (cellsFrom (Y.objs.size+1) scope.names []):=by
  have q:=cellsFrom_ok scope.names (Y.push {cls:=.type "dict",data:=.dict #[]}) (Y.objs.size+1) [] ⟨fun _ _ hm=>(nomatch hm),fz⟩ (by rw[bu];exact Zq _);rw[bu,p9] at q;exact q
 have m6:cellsFrom (Y.objs.size+1) scope.names cl=cellsFrom (Y.objs.size+1) scope.names []++cl:=Wy _ _ _;have l9:∀y,scope.names.lookup y=some .cell->∃c,(cellsFrom (Y.objs.size+1) scope.names []).lookup y=some c:=fun y hy=>eM.mp (cZ scope.names (Y.objs.size+1) [] (.inl hy));generalize y3:cellsFrom (Y.objs.size+1) scope.names []=cA at n5 m6 l9;have u7:∀y c,cA.lookup y=some c->(y,bZ)∈scope.names:=fun y c e=>by
  have:=aR e;rw[<-y3] at this;rcases Jk _ _ _ this with z|z
  ·exact z
  ·cases z
 generalize hcE:cellsFrom (Y.objs.size+1) scope.names cl=cE at m6;have m7:∀y c,cE.lookup y=some c->cA.lookup y=some c\/(cA.lookup y=none/\cl.lookup y=some c):=fun y c e=>by
  rw[m6,cz] at e;cases q:cA.lookup y with
  |none=>rw[q] at e;exact .inr ⟨rfl,by simpa using e⟩
  |some c'=>rw[q] at e;exact .inl (by simpa using e)
 have u8:∀y c,scope.names.lookup y=some .free->cl.lookup y=some c->cE.lookup y=some c:=fun y c hy e=>by
  rw[m6,cz];cases q:cA.lookup y with
  |none=>simpa using e
  |some c'=>
   have:=Wp S.ndn (u7 y c' q);rw[hy] at this;cases this
 have y4:∀b∈fp,upd H2 s2.heap.objs.size (.lst []) b=none:=fun b hb=>by
  obtain⟨o,ho,_⟩:=T.obj _ _ p7 b hb;rw[ZB (aA (Zp ho))];exact (f2 b hb).1
 have m8:∀b∈fp,b<Y.objs.size:=fun b hb=>by
  obtain⟨o,ho,_⟩:=T.obj _ _ p7 b hb;rw[hC];exact gE (Zp ho)
 generalize O:Yt X scope cE N' Y.objs.size {s2 with heap:=Y,toks:=s2.toks} (upd H2 s2.heap.objs.size (.lst [])) fp=X';have u9:X'.fs=frs X.stack:=by rw[<-O];rfl
 have r8:∀y,X'.env.kindOf y=some .cell\/X'.env.kindOf y=some .free->∃c,cE.lookup y=some c:=fun y hy=>by
  have y6:(relabel scope X.env).names.lookup y=some .cell\/(relabel scope X.env).names.lookup y=some .free:=by rw[<-O] at hy;exact hy
  have hf:scope.names.lookup y=some .free->∃c,cE.lookup y=some c:=fun hf=>by
   obtain⟨c,m3⟩:=o8 _ (Yj hf) rfl;exact⟨c,u8 y c hf m3⟩
  have n8:scope.names.lookup y=some .cell->∃c,cE.lookup y=some c:=fun hf=>by
   obtain⟨c,m3⟩:=l9 y hf;exact⟨c,by rw[m6,cz,m3];rfl⟩
  rcases y6 with q|q
  ·rcases Ya q with z|z
   ·exact n8 z
   ·exact hf z.2
  ·rcases Ya q with z|z
   ·exact hf z
   ·exact absurd z.1 (by decide)
 have j8:X'.env.cells=cE:=by rw[<-O];rfl
 have l8:X'.env.locals=Y.objs.size:=by rw[<-O];rfl
 have cne:∀x c,cl.lookup x=some c->c≠Y.objs.size/\c<Y.objs.size:=fun x c e=>by
  obtain⟨v,q⟩:=I3.cell x c (j7 x c e);exact⟨aA q.lt,q.lt⟩
 have j4:∀x c,cA.lookup x=some c->Y.objs.size+1<=c:=fun x c e=>(n5.empty x c (aR e)).2;have v8:∀x y c,cE.lookup x=some c->cE.lookup y=some c->x=y:=fun x y c a b=>by
  rcases m7 x c a with a|⟨_,a⟩ <;> rcases m7 y c b with b|⟨_,b⟩
  ·exact jp n5.apart (aR a) (aR b)
  ·have h1:Y.objs.size+1<=c:=j4 x c a
   exact absurd (ak (cne y c b).2 (bi h1)) (a9 _)
  ·have h1:Y.objs.size+1<=c:=j4 y c b
   exact absurd (ak (cne x c a).2 (bi h1)) (a9 _)
  ·exact I3.ok.inj x y c (j7 x c a) (j7 y c b)
 have y8:X'.Ok:=by
  refine O▸⟨I3.ok.mod,S.kind,I3.ok.glob,I3.ok.blt,Zq _,v8,?_,?cab,I3.ok.hd,I3.ok.frames,.inl rfl,?_,?_,?_,?_,?_,I3.stack,I3.stkFree⟩
  ·intro y hy
   exact r8 y (by rw[<-O];exact hy)
  ·intro x c z e
   have hm:=Wp S.ndn (VJ z);rcases m7 x c e with e|⟨n,_⟩
   ·exact bi (j4 x c e)
   ·obtain⟨c',m3⟩:=l9 x hm
    rw[n] at m3;cases m3
  ·intro b hb
   refine⟨aA (m8 b hb),fun x c e=>?_⟩;rcases m7 x c e with e|⟨_,e⟩
   ·have h1:Y.objs.size+1<=c:=j4 x c e
    exact fun z=>absurd (ak (m8 b hb) (bi h1)) (by rw[z];exact a9 _)
   ·exact (f2 b hb).2.2.2.2.1 x c (j7 x c e)
  ·exact I3.bs
  ·exact aK I3.ok.bsz I3.sz
  ·intro b o e hb
   rcases (f2 b hb).2.2.2.1 with z|z
   ·exact I3.ok.noex b o e z
   ·exact absurd (ak (Zp e) (aK I3.ok.bsz z)) (a9 _)
  ·intro b hb z
   rcases aj.mp (I3.stkSub b z) with e|e
   ·exact (f2 b hb).2.1 e
   ·exact (f2 b hb).2.2.1 e
 have I4:Inv X' [] (Jz own m5 σ) (upd H2 s2.heap.objs.size (.lst [])) {s2 with heap:=l7,toks:=s2.toks}:=by
  refine⟨y8,O▸rfl,I3.bare,?_,⟨_,by rw[l8];exact n4,?_⟩,?_,?_,?_,?_,?_,?_⟩
  ·rw[<-O];exact Un.kept k1
  ·intro i x v hN m4 hV
   have t0:N'[i]?=some x:=by rw[<-O] at hN;exact hN
   unfold Jz at m4;by_cases hi:i<own.length
   ·rw[a6 (by simpa using hi),cp] at m4
    rw[if_pos hi] at m4;cases m4
   ·rw[aP (by simpa using hi),Ze,Zc] at m4
    rw[S.eqN,aP (by omega),Zc] at t0;cases hj:m5[i-own.length]? with
    |none=>rw[hj] at m4;cases m4
    |some j=>
     rw[hj] at m4 t0;have hx:X.N.getD j ""=x:=ay t0;obtain⟨v9,m9⟩:=S.cap j (aN hj);rw[hx] at m9;have hjN:X.N[j]?=some x:=by
      rw[Zf v9,<-hx,Zb,Zf v9];rfl
     have hv:σ[j]?=some (some v):=by
      have q:(σ[j]?).join=some v:=ay m4;cases q':σ[j]? with
      |none=>rw[q'] at q;cases q
      |some o=>rw[q'] at q;rw[show o=some v from q]
     have t5:=S.fr (x,.free) (Yj m9) rfl;rw[<-u0] at t5;obtain⟨m,hn,hl⟩:=I3.loc;have w6:Vis X.env.scope x:=t5.elim (fun z=>.inr (.inl z)) fun z=>.inr (.inr z);obtain⟨u,ru,look⟩:=hl j x v hjN hv w6;refine⟨u,ru,?_⟩;obtain⟨c,n8⟩:=o8 (x,.free) (Yj m9) rfl;rcases look with ⟨a,_⟩|⟨_,c',m3,t6⟩
     ·rcases t5 with z|z
      ·rw[show X.env.kindOf x=X.env.scope.names.lookup x from rfl,z] at a;cases a
      ·rw[show X.env.kindOf x=X.env.scope.names.lookup x from rfl,z] at a;cases a
     ·have:c'=c:=by rw[j7 _ _ n8] at m3;cases m3;rfl
      subst this;refine .inr ⟨?_,c',by rw[j8];exact u8 _ _ m9 n8,t6.keeps k1⟩;rcases hV with q|q|q
      ·have q':(relabel scope X.env).names.lookup x=some .local:=by rw[<-O] at q;exact q
       rcases Ya q' with z|z
       ·rw[m9] at z;cases z
       ·exact absurd z.1 (by decide)
      ·exact .inl q
      ·exact .inr q
  ·intro x c e
   rw[j8] at e;rcases m7 x c e with e|⟨_,e⟩
   ·exact⟨_,(n5.empty x c (aR e)).1⟩
   ·obtain⟨v,q⟩:=I3.cell x c (j7 x c e)
    exact⟨v,q.keeps k1⟩
  ·rw[l8];exact I3.hok.fresh (Zq _)
  ·intro x c e
   rw[j8] at e;rcases m7 x c e with e|⟨_,e⟩
   ·exact I3.hok.fresh (bi (j4 x c e))
   ·exact I3.freeC x c (j7 x c e)
  ·intro p hp
   have:p∈([]:List (Addr×Obj)):=by rw[<-O] at hp;exact hp
   cases this
  ·rw[<-O];exact I3.hok.kept k1
  ·rw[<-O]
   show (Jz own m5 σ).length=N'.length;unfold Jz;rw[S.eqN,Zd,Zd,Ze,Za,Za]
 have pX:X'.prog=X.prog:=by rw[<-O];rfl
 have wX:X'.w=X.w:=by rw[<-O];rfl
 have KX:X'.K=X.K:=by rw[<-O];rfl
 have AX:X'.A=X.A:=by rw[<-O];rfl
 have cX:X'.calm=true:=by rw[<-O];exact hc
 have xX:X'.xe=fun _ _=>False:=by rw[<-O];rfl
 have envX:X'.env=compEnvC scope cE Y.objs.size X.env:=by rw[<-O];rfl
 have w8:X'.ex=fp:=by rw[<-O];rfl
 have hg':PG X' tg g:=O▸hg _ _ _ _ _;have ht':PIf X' ifs tc:=O▸ht _ _ _ _ _;have he':PE X' elt te:=O▸he _ _ _ _ _;have t7:∀{H':Hp},(∀b∈fp,H' b=none)->∀b∈fp,Xh X' [] H' b:=fun {H'} hn b hb=>by
  refine⟨hn b hb,?_,?_,?_,?_,?_⟩
  ·rw[l8];exact aA (m8 b hb)
  ·rw[u9];intro z
   rcases aj.mp (I3.stkSub b z) with e|e
   ·exact (f2 b hb).2.1 e
   ·exact (f2 b hb).2.2.1 e
  ·rw[w8];exact .inl hb
  ·intro x c e
   rw[j8] at e;rcases m7 x c e with e|⟨_,e⟩
   ·have h1:Y.objs.size+1<=c:=j4 x c e
    exact fun z=>absurd (ak (m8 b hb) (bi h1)) (by rw[z];exact a9 _)
   ·exact (f2 b hb).2.2.2.2.1 x c (j7 x c e)
  ·intro p hp
   have:p∈([]:List (Addr×Obj)):=by rw[<-O] at hp;exact hp
   cases this
 have w9:tn 0 l7:=T.keep _ _ _ p7 fun b hb o e=>k1 b o (p0 b o e);have back:∀{j6:St}{H':Hp}{s':Shared}{pp:List (Addr×Obj)}{h':Heap},Inv X' pp j6 H' s'->bd Y.objs.size s'.heap h'->Inv X j9 σ H' {s' with heap:=h'}:=fun {j6 H' s' pp h'} I' sb=>by
  have u:=I'.base;rw[u9,w8] at u;have hs0:X'.s₀.heap=Y:=by rw[<-O];rfl
  have hH0:X'.H₀=upd H2 s2.heap.objs.size (.lst []):=by rw[<-O];rfl
  rw[hs0,hH0] at u;have ne:∀b o,Y.get? b=some o->b≠Y.objs.size:=fun b o e=>aA (Zp e);have x6:H' Y.objs.size=none:=by have:=I'.free;rw[l8] at this;exact this
  refine I3.call' (s':={s' with heap:=h'}) (ch:=fp) ?_ ⟨?_,?_,?_,?_,?_,?_,?_⟩ ?_ I'.bare ?_
  ·have:=I'.os;rw[<-O] at this;exact this
  ·intro b o e n hb hx;exact sb.extBut b o (ne b o e) (u.keep b o e n hb hx)
  ·intro b o e n hb hx
   obtain⟨sl,q⟩:=u.slot b o e n hb hx;exact⟨sl,sb.extBut b _ (ne b o e) q⟩
  ·exact u.free
  ·intro b o e hx
   obtain⟨o',q⟩:=u.there b o e hx;exact⟨o',sb.extBut b _ (ne b o e) q⟩
  ·exact u.tups
  ·exact u.frzs
  ·exact u.tbls
  ·have x8:=I'.hok
   rw[pX,wX] at x8;intro a o e;refine (x8 a o e).stay (fun b v hb r=>sb.extBut b v ?_ r) (fun b r=>r) fun b xs r=>r;rcases hb with rfl|hb
   ·intro z;rw[z,x6] at e;cases e
   ·intro z;rw[z,x6] at hb;cases hb
  ·intro b hb
   refine⟨(f2 b hb).2.2.2.1,(f2 b hb).2.1,(f2 b hb).2.2.2.2.1,(f2 b hb).2.2.2.2.2⟩
 have p6:∀s3:Shared,s3={s2 with heap:=l7,toks:=s2.toks}->
   codeAny (model X.prog X.w) X.A (.compLoop (.ListComp elt [⟨tg,iter,ifs,0⟩] scope pos) 0 (.ref it) (.ref s2.heap.objs.size) (compEnvC scope cE Y.objs.size X.env)) (RR (.ref s2.heap.objs.size) Y.objs.size) s3:=by
  rintro s3 rfl;refine W8 (fun n s'=>∃i j6 H',Inv X' [] j6 H' s'/\tn i s'.heap/\(∀b∈fp,H' b=none)/\W i n j6 H') ?_ m0 ⟨0,_,_,I4,w9,y4,w0⟩;rintro n s5 ⟨i,n9,H5,I5,x9,y1,w5⟩;rcases u6 i n n9 H5 w5 with ⟨stop,qn⟩|⟨go,N,hN,step⟩
  ·have q:=T.done X' pX wX KX cX i [] s5 n9 H5 (fun _ _=>False) I5 (t7 y1) x9 stop
   rw[AX] at q;refine ZW q fun r s6 ⟨hr,I6⟩=>?_;subst hr;obtain⟨m,hn,_⟩:=I6.loc;rw[l8] at hn;refine y2 _ _ s6 m H5 hn ?_ ?_ I3.sz ?_ ?_ qn fun h' sb=>back I6 sb
   ·exact bz I3.lt
   ·intro x c e
    obtain⟨v,q⟩:=I3.cell x c e;exact aA q.lt
   ·intro pp hpp
    exact aA (Zp (I3.pin pp hpp).1)
   ·have:=I6.free;rw[l8] at this;exact this
  ·have q:=T.item X' pX wX KX cX i [] s5 n9 H5 (fun _ _=>False) I5 (t7 y1) x9 go
   rw[AX] at q;refine ZW q fun r s6 ⟨u,hr,h6⟩=>?_;subst hr;refine ZW h6 fun _ s7 ⟨x,H7,I7,r7,y7,t8,fr7⟩=>?_;have I7':=I7.pinned (t7 fr7) (T.obj _ _ t8);have q8:=hg' _ s7 n9 H7 x u _ I7' r7 (step x H7 y7);rw[pX,wX,AX,envX,xX] at q8;refine ZW q8 fun _ s8 ⟨o4,H8,I8,q8⟩=>?_;have q9:=ht' _ s8 o4 H8 _ I8 q8;rw[pX,wX,AX,envX,xX] at q9;have again:∀{j6:St}{H':Hp}{s':Shared},Inv X' ([]++Jr fp s7.heap) j6 H' s'->N j6 H'->∃m,m<n/\∃i j6 H',Inv X' [] j6 H' s'/\tn i s'.heap/\(∀b∈fp,H' b=none)/\W i m j6 H':=fun {j6 H' s'} I' n'=>by
    obtain⟨m',hm,w'⟩:=hN j6 H' n';refine⟨m',hm,i+1,j6,H',I'.unpinned,T.keep _ _ _ t8 fun b hb o e=>(I'.pin (b,o) (am _ (am _ (Yr hb e)))).1,fun b hb=>?_,w'⟩;obtain⟨o,e,d⟩:=T.obj _ _ t8 b hb;exact (I'.pin (b,o) (am _ (am _ (Yr hb e)))).2.1
   refine ZW q9 fun ok s9 ⟨H9,I9,q9⟩=>?_;cases ok with
   |false=>
    simp only[gl,if_false] at q9 ⊢;exact again I9 q9
   |true=>
    simp only[if_true] at q9 ⊢;have o5:=he' _ s9 o4 H9 _ I9 q9;rw[pX,wX,AX,envX,xX] at o5;refine ZW o5 fun y s10 ⟨v,H10,I10,rv,xs,hxs,hz,o5⟩=>?_;have o6:=YC (X:=X') _ s10 o4 H10 (.ref s2.heap.objs.size) [v] (.ref s2.heap.objs.size) [y] (fun _ H'=>N o4 H') I10 rfl (.cons rv .nil) ⟨_,xs,v,rfl,rfl,hxs,hz,o5⟩;rw[pX,wX,AX,xX] at o6;exact ZW o6 fun _ s11 ⟨_,H11,I11,_,o6⟩=>again I11 o6
 exact jr (p6 _ rfl) (T.self _ 0 _ _ _ w9 (p6 _ rfl))
theorem Zex {own:List Str}{j:List Nat}{N':List Str}{j4 scope:Scope}{elt iter tg:Expr}{ifs:List Expr}{pos:Pos}{wi:TI}{g:TG}{tc:TT}{te:TE}
  (z:X.env.scope=j4) (S:YQ X.N j4 own j N' scope) (hc:X.calm=true) (hi:PI X tg iter wi)
  (hg:∀Y C s H ex,PG (Yt X scope Y N' C s H ex) tg g) (ht:∀Y C s H ex,PIf (Yt X scope Y N' C s H ex) ifs tc) (he:∀Y C s H ex,PE (Yt X scope Y N' C s H ex) elt te)
  (hs:∀x,foldedSetIterable iter X.env x=pure x:=by intro _;rfl) :
  PE X (.ListComp elt [⟨tg,iter,ifs,0⟩] scope pos) (Vx own j wi g tc te):=by
 intro O s σ H Q I h;obtain⟨Y,j8,j6,j7⟩:=Jx (scope:=scope) (env:=X.env) fun y hy hf=>by
  have:=S.fr y hy hf;rw[<-z] at this;exact I.ok.has y.1 this
 rw[eval_ListComp];refine fy (use:=none) rfl hs j8 S.kind S.uniq (ZW (hi O s σ H _ I h) fun v s1 h1=>ZW h1 fun l8 s2 h2=>?_);obtain⟨it,fp,tn,J,H2,e,I2,T,j9,f2,q⟩:=h2;subst e;refine Vd (RR:=fun l7 C=>compPost (model X.prog X.w) X.A X.xe none (EP X O σ Q) l7 C) z S hc j6 j7 hg ht he I2 T j9 f2 q ?_;intro D C s' m H' hn _ _ _ _ _ q' hb;exact⟨m,hn,fun h' sb=>⟨.ref D,H',hb h' sb,rfl,q'⟩⟩
theorem ZaD {own:List Str}{O:List Nat}{N':List Str}{j6 scope:Scope}{elt iter tg:Expr}{ifs:List Expr}{pos Y py:Pos}{y:Str}{i:Nat}{wi:TI}{g:TG}{tc:TT}{te:TE}
  (j4:X.env.scope=j6) (S:YQ X.N j6 own O N' scope) (hc:X.calm=true) (hi:PI X tg iter wi)
  (hg:∀cl C s H ex,PG (Yt X scope cl N' C s H ex) tg g) (ht:∀cl C s H ex,PIf (Yt X scope cl N' C s H ex) ifs tc) (he:∀cl C s H ex,PE (Yt X scope cl N' C s H ex) elt te)
  (hN:X.N.Nodup) (hy:X.N[i]?=some y) (hx:Loc X.env.scope y) (hf:X.fn y=true\/X.env.scope.names.lookup y=some .local)
  (l8:swapsWith (.ListComp elt [⟨tg,iter,ifs,0⟩] scope pos) (some (.Name y py)) Y.line X.env=pure true)
  (hs:∀x,foldedSetIterable iter X.env x=pure x:=by intro _;rfl) :
  PS X (.Assign [.Name y py] (.ListComp elt [⟨tg,iter,ifs,0⟩] scope pos) Y) (Vo (Vx own O wi g tc te) (Ye i)):=by
 intro j s σ H D0 I h;obtain⟨cl,l9,j7,j8⟩:=Jx (scope:=scope) (env:=X.env) fun y hy hf=>by
  have:=S.fr y hy hf;rw[<-j4] at this;exact I.ok.has y.1 this
 rw[exec_Assign_Name_used _ _ _ _ l8];refine Zl (cq (Zl ?_));show wpAny _ X.A (do let _ <-comprehension (.ListComp elt [⟨tg,iter,ifs,0⟩] scope pos) scope X.env _ (newList []) false (eval iter X.env) (some (assign (.Name y py) X.env))) _ _ s
 refine Zl (aY (fy (use:=some (assign (.Name y py) X.env)) (Q:=fun _ s'=>SP X j D0 .next s') rfl hs l9 S.kind S.uniq
  (ZW (hi j s σ H _ I h) fun v s1 h1=>ZW h1 fun n8 s2 h2=>?_)) (fun _ s' hq=>Zm (Zm hq)) fun _ _ e=>e)
 obtain⟨it,fp,tn,J,H2,e,I2,T,m3,f2,q⟩:=h2;subst e;refine Vd (RR:=fun m4 C=>compPost (model X.prog X.w) X.A X.xe (some (assign (.Name y py) X.env)) (fun _ s'=>SP X j D0 .next s') m4 C) j4 S hc j7 j8 hg ht he I2 T m3 f2 q ?_;intro D C s' m H' hn j9 l7 m5 m6 m7 q' hb;have I':Inv X j σ H' s':=hb s'.heap (.refl ..);show wpAny _ X.A (assign (.Name y py) X.env (.ref D)) _ _ s';refine wpAny_assign_Name (Vy I' hN hy hx (v:=.ref D) rfl (fun m8 m9 ⟨a,sb,ha⟩=>?_) hf);have n4:C≠a:=by
  rcases ha with rfl|ha
  ·exact j9
  ·exact fun z=>l7 y a ha z.symm
 refine⟨m,hn.sameBut sb n4,fun h' n5=>⟨_,H',?_,q'⟩⟩;exact m9.turned (t':=m8.toks) (fun b o hb e=>n5.extBut b o hb e) m7 j9 (.inr m5) l7 m6
end
section
variable {κ:Type} [DecidableEq κ]
noncomputable def XC (j:List (κ×V))(k:κ):Option V:=(j.find? fun z=>decide (z.1=k)).map (·.2)
noncomputable def Jq (j:List (κ×V))(k:κ)(v:V):List (κ×V):=
 if (j.any fun z=>decide (z.1=k))=true then j.map (fun z=>if z.1=k then (z.1,v) else z) else j++[(k,v)]
theorem XA {p:κ×V}{r:List (κ×V)}{k:κ}(e:p.1=k):XC (p::r) k=some p.2:=by simp[XC,cV,e]
theorem XB {p:κ×V}{r:List (κ×V)}{k:κ}(e:¬p.1=k):XC (p::r) k=XC r k:=by simp[XC,cV,e]
theorem Uz (k:κ):∀j:List (κ×V),(j.any fun z=>decide (z.1=k))=(XC j k).isSome
 | []=>rfl
 |p::r=>by
  rw[dF];by_cases e:p.1=k
  ·simp only[XA e,decide_eq_true e,Bool.true_or,Option.isSome_some]
  ·rw[XB e,decide_eq_false e,ix];exact Uz k r
theorem WZ (j:List (κ×V))(k:κ)(v:V):(Jq j k v).length<=j.length+1:=by
 unfold Jq;split
 ·rw[Za];omega
 ·rw[Zd,Zi,ax];omega
theorem JT.isSome_eq {o:Option V}{u:Option Value}(r:JT o u):o.isSome=u.isSome:=by
 cases o with
 |none=>cases u with
  |none=>rfl
  |some _=>exact (show False from r).elim
 |some _=>cases u with
  |none=>exact (show False from r).elim
  |some _=>rfl
theorem KV.val {j:List (κ×V)}{vs:List (κ×Value)}(r:KV j vs)(k:κ):JT (XC j k) (valueAt vs k):=by
 unfold KV at r;induction r with
 |nil=>exact dZ
 | @cons p q ps J h t ih=>
  obtain⟨Y,h2⟩:=h;by_cases e:p.1=k
  ·have O:q.1=k:=Y.symm.trans e
   have b:valueAt (q::J) k=some q.2:=by simp[valueAt,cV,O]
   rw[XA e,b];exact h2
  ·have O:¬q.1=k:=fun z=>e (Y.trans z)
   have b:valueAt (q::J) k=valueAt J k:=by simp[valueAt,cV,O]
   rw[XB e,b];exact ih
theorem KV.any {j:List (κ×V)}{vs:List (κ×Value)}(r:KV j vs)(k:κ):(j.any fun z=>decide (z.1=k))=vs.any fun z=>decide (z.1=k):=by
 unfold KV at r;induction r with
 |nil=>rfl
 |cons h t J=>rw[dF,dF,J,h.1]
theorem KV.repl {J:List (κ×V)}{vs:List (κ×Value)}(r:KV J vs)(k:κ){y:V}{u:Value}(Y:RelV y u) :
  KV (J.map fun j=>if j.1=k then (j.1,y) else j) (vs.map fun j=>if j.1=k then (j.1,u) else j):=by
 unfold KV at r ⊢;induction r with
 |nil=>exact .nil
 | @cons p q ps qs h t ih=>
  rw[aZ,aZ];refine .cons ?_ ih;obtain⟨O,h2⟩:=h;by_cases e:p.1=k
  ·rw[if_pos e,if_pos (O.symm.trans e)];exact⟨O,Y⟩
  ·rw[if_neg e,if_neg (fun z=>e (O.trans z))];exact⟨O,h2⟩
theorem KV.put {j:List (κ×V)}{vs:List (κ×Value)}(r:KV j vs)(k:κ){y:V}{u:Value}(z:RelV y u):KV (Jq j k y) (stored vs k u):=by
 unfold Jq stored;rw[r.any k];by_cases e:(vs.any fun J=>decide (J.1=k))=true
 ·rw[if_pos e,if_pos e];exact r.repl k z
 ·rw[if_neg e,if_neg e];exact Paired.snoc r ⟨rfl,z⟩
theorem KV.length {j:List (κ×V)}{vs:List (κ×Value)}(r:KV j vs):j.length=vs.length:=ig r
end
theorem ZbF {P:Program}{w:World}{k:YG}{u:Value}(r:RelV (kV k) u):(Yl P w).is k u=true:=by
 cases k with
 |inl i=>obtain⟨t,e⟩:=(show ∃t,u=iq i t from r);subst e;exact UO P w i t
 |inr x=>obtain⟨t,e⟩:=(show ∃t,u=ip x t from r);subst e;exact UN P w x t
theorem VG {P:Program}{w:World}:∀{j:List YG}{us:List Value},ZN (j.map kV) us->ItemsAre (Yl P w) j us
 | [],_,r=>by rw[gu] at r;cases r;exact .nil
 |k::j,_,r=>by
  rw[aZ] at r;cases r with
  |cons h t=>exact .cons (ZbF h) (VG t)
noncomputable abbrev KT (H:Hp):List (List YG×V)->List (List YG×Addr×Value)->Prop:=iO fun p q=>p.1=q.1/\H q.2.1=some (.tup (p.1.map kV))/\RelV p.2 q.2.2
theorem KT.val {H:Hp}{j:List (List YG×V)}{xs:List (List YG×Addr×Value)}(r:KT H j xs)(k:List YG):JT (XC j k) ((atKey xs k).map (·.2)):=by
 induction r with
 |nil=>exact dZ
 | @cons p q ps J h t ih=>
  obtain⟨Y,_,h2⟩:=h;by_cases e:p.1=k
  ·have O:q.1=k:=Y.symm.trans e
   have b:atKey (q::J) k=some q.2:=by simp[atKey,cV,O]
   rw[XA e,b];exact h2
  ·have O:¬q.1=k:=fun z=>e (Y.trans z)
   have b:atKey (q::J) k=atKey J k:=by simp[atKey,cV,O]
   rw[XB e,b];exact ih
theorem KT.repl {H:Hp}{j:List (List YG×V)}{xs:List (List YG×Addr×Value)}(r:KT H j xs)(k:List YG){y:V}{u:Value}(ry:RelV y u) :
  KT H (j.map fun O=>if O.1=k then (O.1,y) else O) (xs.map (putAt k u)):=by
 induction r with
 |nil=>exact .nil
 | @cons p q ps qs h t ih=>
  rw[aZ,aZ];refine .cons ?_ ih;obtain⟨J,Y,h3⟩:=h;unfold putAt;by_cases e:p.1=k
  ·rw[if_pos e,if_pos (J.symm.trans e)];exact⟨J,Y,ry⟩
  ·rw[if_neg e,if_neg (fun z=>e (J.trans z))];exact⟨J,Y,h3⟩
theorem KT.put {H:Hp}{j:List (List YG×V)}{xs:List (List YG×Addr×Value)}(r:KT H j xs)(k:List YG){b:Addr}{y:V}{u:Value}(hb:H b=some (.tup (k.map kV)))(z:RelV y u) :
  KT H (Jq j k y) (storedH xs k b u):=by
 have e:(j.any fun J=>decide (J.1=k))=(atKey xs k).isSome:=by
  rw[Uz,(r.val k).isSome_eq,Option.isSome_map]
 unfold Jq storedH;rw[e];by_cases q:(atKey xs k).isSome=true
 ·rw[if_pos q,if_pos q];exact r.repl k z
 ·rw[if_neg q,if_neg q];exact Paired.snoc r ⟨rfl,hb,z⟩
theorem KT.keeps {H J:Hp}{j:List (List YG×V)}{xs:List (List YG×Addr×Value)}(r:KT H j xs)(Y:∀b O,H b=some (.tup O)->J b=some (.tup O)):KT J j xs:=
 iO.mapP r fun _ _ z=>⟨z.1,Y _ _ z.2.1,z.2.2⟩
section
variable {P:Program}{w:World}{H:Hp}{h:Heap}{a:Addr}
theorem Zfz {u:HO}(ok:JB P w H h)(e:Rd H a u):Yf P w H h a u:=e.ok ok
theorem ZdQ {j:List (YG×V)}(ok:JB P w H h)(e:Rd H a (.dK j)):j.length<=sizeLine/\(a == sysModules)=false/\∃vs,KV j vs/\h.DictOf (Yl P w) a vs:=
 show Yf P w H h a (.dK j) from Zfz ok e
theorem ZfI {j:List (YG×V)}(ok:JB P w H h)(e:H a=some (.dK j)):j.length<=sizeLine/\(a == sysModules)=false/\∃vs,KV j vs/\h.DictOf (Yl P w) a vs:=ZdQ ok (.inl e)
theorem ZaV {j:List YG}(ok:JB P w H h)(e:H a=some (.tup (j.map kV))):(tupleKind (Yl P w)).is h j a:=by
 obtain⟨_,z,r,o,J,O,n,Y⟩:=(show Yf P w H h a (.tup (j.map kV)) from ok a _ e);exact⟨o,z.toArray,n,J,O,Y,by simpa using VG r⟩
theorem ZdP {j:List (List YG×V)}(ok:JB P w H h)(e:Rd H a (.dT j)):j.length<=sizeLine/\(a == sysModules)=false/\
  ∃xs,KT H j xs/\h.DictOfH (tupleKind (Yl P w)) a xs:=by
 obtain⟨z,y,xs,r,o,es,Y,h1,h2,h3,h4,h5⟩:=(show Yf P w H h a (.dT j) from Zfz ok e);refine⟨z,y,xs,r,o,es,Y,h1,h2,h3,h4,fun x J=>?_,h5⟩;have all:∀{l:List (List YG×V)}{m:List (List YG×Addr×Value)},KT H l m->∀x∈m,(tupleKind (Yl P w)).is h x.1 x.2.1:=by
  intro l m q;induction q with
  |nil=>intro x J;exact nomatch J
  | @cons p q ps qs O t ih=>
   intro x J;rcases aj.mp J with e|J
   ·subst e
    exact ZaV ok (by rw[<-O.1];exact O.2.1)
   ·exact ih x J
 exact all r x J
theorem Zis {j:List (List YG×V)}(ok:JB P w H h)(e:H a=some (.dT j)):j.length<=sizeLine/\(a == sysModules)=false/\
  ∃xs,KT H j xs/\h.DictOfH (tupleKind (Yl P w)) a xs:=ZdP ok (.inl e)
end
noncomputable def Vj (H:Hp)(a:Addr)(y:V)(r:Option V):Prop:=
 (∃j k,Rd H a (.dK j)/\y=kV k/\r=XC j k)\/∃j k b,Rd H a (.dT j)/\y=.ref b/\H b=some (.tup (k.map kV))/\r=XC j k
noncomputable def Zai (H:Hp)(a:Addr)(y v:V)(z:Hp):Prop:=
 (∃j k,H a=some (.dK j)/\y=kV k/\j.length<sizeLine/\z=upd H a (.dK (Jq j k v)))\/
 ∃j k b,H a=some (.dT j)/\y=.ref b/\H b=some (.tup (k.map kV))/\j.length<sizeLine/\z=upd H a (.dT (Jq j k v))
theorem Vj.k {H:Hp}{a:Addr}{j:List (YG×V)}{k:YG}(e:H a=some (.dK j)):Vj H a (kV k) (XC j k):=.inl ⟨j,k,.inl e,rfl,rfl⟩
theorem Zai.k {H:Hp}{a:Addr}{j:List (YG×V)}{k:YG}{v:V}(e:H a=some (.dK j))(z:j.length<sizeLine):Zai H a (kV k) v (upd H a (.dK (Jq j k v))):=.inl ⟨j,k,e,rfl,z,rfl⟩
section
variable {X:Cx}{pins:List (Addr×Obj)}{σ:St}{H:Hp}{s:Shared}{a:Addr}{y v:V}{u r:Value}{o:Option V}{A:Around}{E:Value->Shared->Prop}
theorem Inv.big (I:Inv X pins σ H s):sysModules<s.heap.objs.size:=by
 have h:mainGlobals<s.heap.objs.size:=(I.mod.glob.keeps I.bk).lt;exact cN (by decide) h
theorem ZcB {Q:Value->Shared->Prop}(hu:A.units+1<cLine)(I:Inv X pins σ H s)(g:Vj H a y (some v))(ry:RelV y u)(h:∀J s',Inv X pins σ H s'->RelV v J->Q J s') :
  wpAny (model X.prog X.w) A (getItem (.ref a) u) Q E s:=by
 rcases g with ⟨O,k,e,Y,l⟩|⟨O,k,b,e,Y,eb,l⟩
 ·subst Y
  obtain⟨z,hd,vs,rel,dd⟩:=ZdQ I.hok e;obtain⟨J,hw,j⟩:=JT.some_of (v:=v) (o:=valueAt vs k) (by rw[l];exact rel.val k);exact wpAny_getItem_of (ZbF ry) dd.mapOf hw (h J _ (I.tok _) j)
 ·subst Y
  cases (show u=au b from ry);obtain⟨z,hd,xs,rel,dd⟩:=ZdP I.hok e;obtain⟨J,hw,j⟩:=JT.some_of (v:=v) (o:=(atKey xs k).map (·.2)) (by rw[l];exact rel.val k);obtain⟨p,hp,j4⟩:=Option.map_eq_some_iff.mp hw;refine wpAny_getItem_heap (tupleKind_room_in1 hu) (ZaV I.hok eb) dd hp ?_;rw[j4];exact h J _ (I.tok _) j
theorem Ui {h':Heap}{t':Nat}{ob:HO}(I:Inv X pins σ H s)(J:Mut (H a))(O:bd a s.heap h')(Y:∃q,h'.get? a=some q)(j:Yf X.prog X.w (upd H a ob) h' a ob) :
  Inv X pins σ (upd H a ob) {s with heap:=h',toks:=t'}:=
 I.write (x:=a) (e:=a) J (.inl rfl) (fun b q hb z=>(O.2 b hb).trans z) Y j
theorem ZdR {P:Program}{w:World}{J:Hp}{h':Heap}{j:List (YG×V)}{vs:List (YG×Value)}(z:j.length<=sizeLine)(hd:(a == sysModules)=false)(rel:KV j vs)(O:h'.DictOf (Yl P w) a vs) :
  Yf P w J h' a (.dK j):=⟨z,hd,vs,rel,O⟩
theorem ZcA {H':Hp}{Q:Unit->Shared->Prop}(hu:A.units+1<cLine)(I:Inv X pins σ H s)(g:Zai H a y v H')(ry:RelV y u)(rv:RelV v r)(h:∀s',Inv X pins σ H' s'->Q () s') :
  wpAny (model X.prog X.w) A (setItem (.ref a) u r) Q E s:=by
 rcases g with ⟨j,k,e,Y,l,eH⟩|⟨j,k,b,e,Y,eb,l,eH⟩
 ·subst Y eH
  obtain⟨z,hd,vs,rel,dd⟩:=ZfI I.hok e;have hz:vs.length<=sizeLine:=by rw[<-rel.length];exact z
  have hl:(Jq j k v).length<=sizeLine:=by have:=WZ j k v;omega
  refine wpAny_setItem_pairs (hsz:=hz) (ZbF ry) dd fun h' J hs=>h _ ?_;have he:∃q,h'.get? a=some q:=by obtain⟨q,_,_,O,_⟩:=J;exact⟨q,O⟩
  exact Ui I (by rw[e];exact dZ) hs he (ZdR hl hd (rel.put k rv) J)
 ·subst Y eH
  cases (show u=au b from ry);obtain⟨z,hd,xs,rel,dd⟩:=Zis I.hok e;have hz:xs.length<=sizeLine:=by rw[<-ig rel];exact z
  have hl:(Jq j k v).length<=sizeLine:=by have:=WZ j k v;omega
  refine wpAny_setItem_heap (hsz:=hz) (tupleKind_room_in1 hu) (ZaV I.hok eb) dd fun h' J hs=>h _ ?_;obtain⟨q,es,ep,O,h2,h3,h4,_,h5⟩:=J;refine Ui I (by rw[e];exact dZ) hs ⟨q,O⟩ ⟨hl,hd,_,(rel.put k eb rv).keeps fun c ys ec=>?_,q,es,ep,O,h2,h3,h4,h5⟩;rw[ZB (Zie ec e (fun z=>nomatch z))];exact ec
end
section
variable {X:Cx}{pins:List (Addr×Obj)}{σ:St}{H:Hp}{s:Shared}{a:Addr}{kvs:List (YG×V)}{k:YG}{u:Value}{A:Around}{E:Value->Shared->Prop}
end
noncomputable def ZiD (i:Expr):Prop:=∀j z,subscripted i false j z=operate [j,z] (getItem j z)
theorem Zeg {prog:Program}{w:World}{A:Around}{E:Value->Shared->Prop}{s:Shared}{env:Env}{value slice:Expr}{pos:Pos}{T id:String}{Q:Value->Shared->Prop}
  (hl:typeLookup (.type T) "__getitem__"=pure (some (.builtin id))) (hs:ZiD slice)
  (h:wpAny (model prog w) A (eval value env) (fun o J=>wpAny (model prog w) A (eval slice env) (fun i j=>j.TypeIs o T/\wpAny (model prog w) A (getItem o i) Q E j) E J) E s) :
  wpAny (model prog w) A (eval (.Subscript value slice pos) env) Q E s:=by
 refine Subscript_ (aY h (fun o J j4=>aY j4 (fun i j z=>?_) fun _ _ x=>x) fun _ _ x=>x);obtain⟨hT,z⟩:=z;unfold subscriptTail;refine Zl ?_;rw[getitemInPython_of_ne hT.not_modules];refine Zl (wpAny_specialOf hT hl ?_);have Y:wpAny (model prog w) A (subscripted slice false o i) (fun r O=>wpAny (model prog w) A (letTemporaryGo value o r >>= fun _=>pure r) Q E O) E j:=by
  rw[hs o i];exact wpAny_operating (aY z (fun r O j6=>Zl (wpAny_letTemporaryGo (Zm j6))) fun _ _ x=>x)
 first
  |exact Zm (Zl Y)
  |exact Zl (Zm (Zl Y))
  |exact Zl Y
theorem UW {X:Cx}{j:List (Addr×Obj)}{σ:St}{H:Hp}{s:Shared}{a:Addr}{y:V}{o:Option V}(I:Inv X j σ H s)(g:Vj H a y o):s.TypeIs (.ref a) "dict":=by
 rcases g with ⟨z,k,e,_,_⟩|⟨z,k,b,e,_,_,_⟩
 ·obtain⟨_,_,O,_,J⟩:=ZdQ I.hok e
  exact J.typeIs
 ·obtain⟨_,_,xs,_,J⟩:=ZdP I.hok e
  exact J.typeIs
noncomputable def Zhr (J ty:TE):TE:=fun j H Q=>J j H fun x O=>ty j O fun y z=>∃a v,x=.ref a/\Vj z a y (some v)/\Q v z
noncomputable def ZhR (J ty O:TE):TS:=fun D j H=>O j H fun v Y=>J j Y fun x H2=>ty j H2 fun y H3=>∃a z,x=.ref a/\Zai H3 a y v z/\D.nx j z
section
variable {X:Cx}{o i e value:Expr}{pos pos' tpos:Pos}{td ty tv:TE}
theorem JL (Y:X.A.units+1<cLine)(ho:PE X o td)(hi:PE X i ty)(hs:ZiD i):PE X (.Subscript o i pos) (Zhr td ty):=by
 intro j s J H Q I h;refine Zeg PySem.F.slot_dict_getitem.lookup hs (ZW (ho j s J H _ I h) fun u s1 ⟨x,H1,I1,rx,q1⟩=>ZW (hi j s1 J H1 _ I1 q1) fun iv s2 ⟨y,H2,O,ry,a,v,ex,g,q2⟩=>?_);subst ex;obtain rfl:u=au a:=rx;exact⟨UW O g,ZcB Y O g ry fun w' s3 I3 z=>⟨v,H2,I3,z,q2⟩⟩
theorem V6 (J:X.A.units+1<cLine)(O:PE X o td)(Y:PE X i ty)(hv:PE X value tv)(hs:swapsWith value (some (.Subscript o i pos')) pos.line X.env=pure false) :
  PS X (.Assign [.Subscript o i pos'] value pos) (ZhR td ty tv):=by
 intro j s z H D I h;refine wpAny_Assign_Subscript (ZW (hv j s z H _ I h) fun r s1 ⟨v,H1,I1,rv,q1⟩=>ZW (O j s1 z H1 _ I1 q1) fun u s2 ⟨x,H2,I2,rx,q2⟩=>ZW (Y j s2 z H2 _ I2 q2) fun iv s3 ⟨y,H3,I3,ry,a,H4,ex,g,q3⟩=>?_) hs;subst ex;obtain rfl:u=au a:=rx;exact ZcA J I3 g ry rv fun s4 I4=>⟨z,H4,I4,q3⟩
end
theorem ZdS {P:Program}{w:World}{H:Hp}(h:Heap)(hb:sysModules<h.objs.size):Yf P w H (h.push {cls:=.type "dict",data:=.dict #[]}) h.objs.size (.dK []):=
 ⟨aE _,beq_eq_false_iff_ne.mpr (bC (aA hb)),[],.nil,Heap.DictOf.new h⟩
section
variable {X:Cx}{pos:Pos}
end
noncomputable def Zat:List (TE×TE)->St->Hp->(List (V×V)->Hp->Prop)->Prop
 | [],_,H,Q=>Q [] H
 |(tk,j)::r,σ,H,Q=>tk σ H fun x z=>j σ z fun y J=>Zat r σ J fun O Y=>Q ((x,y)::O) Y
noncomputable abbrev VV:List (V×V)->List (Value×Value)->Prop:=iO fun p q=>RelV p.1 q.1/\RelV p.2 q.2
noncomputable def PPs (X:Cx)(pos:Pos)(J:List (Option Expr))(j:List Expr)(O:List (TE×TE)):Prop:=
 ∀(z:List (Addr×Obj)) (s:Shared) (Y:St) (H:Hp) (Q:List (V×V)->Hp->Prop),Inv X z Y H s->Zat O Y H Q->
  wpAny (model X.prog X.w) X.A (evalPairs (pairTrees J j X.env pos)) (fun vs s'=>∃ps H',Inv X z Y H' s'/\VV ps vs/\Q ps H') X.xe s
theorem Zer {X:Cx}{pos:Pos}:PPs X pos [] [] []:=fun j s z H Q I h=>pairTrees_nil_walk ⟨[],H,I,.nil,h⟩
theorem XX {X:Cx}{pos:Pos}{k v:Expr}{O:List (Option Expr)}{vs:List Expr}{tk Y:TE}{z:List (TE×TE)}(hk:PE X k tk)(hv:PE X v Y)(hr:PPs X pos O vs z) :
  PPs X pos (some k::O) (v::vs) ((tk,Y)::z):=fun j s J H Q I h=>
 pairTrees_cons_walk (ZW (hk j s J H _ I h) fun u s1 ⟨x,H1,I1,rx,q1⟩=>ZW (hv j s1 J H1 _ I1 q1) fun w2 s2 ⟨y,H2,I2,ry,q2⟩=>
  ZW (hr j s2 J H2 _ I2 q2) fun ws s3 ⟨ps,H3,I3,rel,q3⟩=>⟨(x,y)::ps,H3,I3,.cons ⟨rx,ry⟩ rel,q3⟩)
noncomputable def X0 (z j:List (YG×V)):List (YG×V):=j.foldl (fun J O=>Jq J O.1 O.2) z
theorem KV.merge:∀{more:List (YG×V)}{rs:List (YG×Value)}{j:List (YG×V)}{vs:List (YG×Value)},KV more rs->KV j vs->KV (X0 j more) (merged vs rs):=by
 intro more rs j vs r;unfold KV at r;induction r generalizing j vs with
 |nil=>intro q;exact q
 | @cons p q O Y h t z=>
  intro J;have e:KV (Jq j p.1 p.2) (stored vs q.1 q.2):=by
   have:=J.put p.1 h.2;rw[<-h.1];exact this
  exact z e
theorem Jo:∀(z j:List (YG×V)),(X0 j z).length<=j.length+z.length
 | [],j=>by show j.length<=j.length+0;omega
 |p::r,j=>by
  have J:=Jo r (Jq j p.1 p.2);have O:=WZ j p.1 p.2;show (X0 (Jq j p.1 p.2) r).length<=_;rw[Zi];omega
theorem Vf {P:Program}{w:World}:∀{j:List (YG×V)}{J:List (Value×Value)},VV (j.map fun O=>(kV O.1,O.2)) J->∃z,Carries (Yl P w) J z/\KV j z
 | [],_,r=>by rw[gu] at r;cases r;exact⟨[],dZ,.nil⟩
 |p::j,_,r=>by
  rw[aZ] at r;cases r with
  | @cons a b as bs h t=>
   obtain⟨z,c,q⟩:=Vf (P:=P) (w:=w) t;obtain⟨b1,Y⟩:=b;exact⟨(p.1,Y)::z,⟨ZbF h.1,rfl,c⟩,.cons ⟨rfl,h.2⟩ q⟩
noncomputable def Zhq (z:List (TE×TE)):TE:=fun Y H Q=>∀p,H p=none->Zat z Y (upd H p (.dK [])) fun ps J=>J p=some (.dK [])/\∃j:List (YG×V),ps=j.map (fun O=>(kV O.1,O.2))/\j.length<=15/\Q (.ref p) (upd J p (.dK (X0 [] j)))
theorem Zew {X:Cx}{pos:Pos}{keys:List (Option Expr)}{values:List Expr}{j:List (TE×TE)}(h:PPs X pos keys values j)(J:keys.all (·.isSome)=true)(hl:keys.length=values.length)(h0:keys≠[])
  (j6:keys.length<=15):PE X (.Dict keys values pos) (Zhq j):=by
 intro O s σ H Q I q;have hn:=I.hok.fresh (Zq s.heap.objs.size);have I1:=I.laid (a:=s.heap.objs.size) (o:=.dK []) (h':=s.heap.push {cls:=.type "dict",data:=.dict #[]}) (t':=s.toks) (fun _ _ q=>Zn _ q) (Zq _) (ZdS s.heap I.big);refine wpAny_Dict_walk (knd:=Yl X.prog X.w) J hl h0 j6 (ZW (h O _ σ _ _ I1 (q _ hn)) fun ws s2 ⟨ps,H2,I2,rel,e,Y,ep,lk,q2⟩=>?_);subst ep;obtain⟨rs,c,rk⟩:=Vf (P:=X.prog) (w:=X.w) rel;obtain⟨z,hd,j8,r0,dd⟩:=ZfI I2.hok e;cases r0;refine⟨rs,c,dd,fun h' j4 hs=>⟨.ref s.heap.objs.size,_,?_,rfl,q2⟩⟩;have hz:(X0 [] Y).length<=sizeLine:=by
  have h1:=Jo Y [];rw[ax] at h1;rw[fu];omega
 have he:∃q,h'.get? s.heap.objs.size=some q:=by obtain⟨q,_,_,hq,_⟩:=j4;exact⟨q,hq⟩
 exact Ui I2 (by rw[e];exact dZ) hs he (ZdR hz hd (rk.merge .nil) j4)
section
variable {X:Cx}{pins:List (Addr×Obj)}{σ:St}{H:Hp}{s:Shared}{a:Addr}{y d:V}{u r:Value}{o:Option V}{A:Around}{E:Value->Shared->Prop}
end
section
variable {X:Cx}{o e f:Expr}{apos cpos:Pos}{td ty tx:TE}
end
section
variable {X:Cx}{pins:List (Addr×Obj)}{σ:St}{H:Hp}{s:Shared}{a:Addr}{kvs:List (YG×V)}{A:Around}{E:Value->Shared->Prop}
end
section
variable {X:Cx}{pins:List (Addr×Obj)}{σ:St}{H:Hp}{s:Shared}{a:Addr}{y:V}{u:Value}{A:Around}{E:Value->Shared->Prop}
end
mutual
inductive Vh (K:ac) (H:Hp):V->ck->Prop where
 |non:Vh K H .non .none
 |bl (b:Bool):Vh K H (.bl b) (.bool b)
 |int (i:Int):Vh K H (.int i) (.int i)
 |str (x:Str):Vh K H (.str x) (.str x)
 |lst {a:Addr}{xs:List V}{ds:List ck} (h:WQ K H a xs) (r:Y3 K H xs ds):Vh K H (.ref a) (.list ds)
 |tup {a:Addr}{xs:List V}{ds:List ck} (h:WS K H a xs) (r:Y3 K H xs ds):Vh K H (.ref a) (.tuple ds)
inductive Y3 (K:ac) (H:Hp):List V->List ck->Prop where
 |nil:Y3 K H [] []
 |cons {x:V}{xs:List V}{d:ck}{ds:List ck} (h:Vh K H x d) (r:Y3 K H xs ds):Y3 K H (x::xs) (d::ds)
end
section
variable {K:ac}{H H':Hp}
theorem Zx.tup {a:Addr}{xs:List V}(e:Zx H H')(h:WS K H a xs):WS K H' a xs:=by
 rcases h with (h|⟨o,h⟩)|h
 ·exact .inl (.inl (e _ _ h))
 ·exact .inl (.inr ⟨o,e _ _ h⟩)
 ·exact .inr h
theorem Zx.upd {p:Addr}{o:HO}(h:H p=none):Zx H (upd H p o):=fun b u e=>by rw[ZB (ZH e h)];exact e
theorem Zx.updr {p:Addr}{o:HO}(s:Zx H H')(h:H p=none):Zx H (L2.upd H' p o):=fun b u e=>by rw[ZB (ZH e h)];exact s b u e
mutual
theorem Vh.mono (s:Zx H H'):∀{v:V}{d:ck},Vh K H v d->Vh K H' v d
 |_,_,.non=>.non
 |_,_,.bl b=>.bl b
 |_,_,.int i=>.int i
 |_,_,.str x=>.str x
 |_,_,.lst h r=>.lst (s.seq h) (Y3.mono s r)
 |_,_,.tup h r=>.tup (s.tup h) (Y3.mono s r)
theorem Y3.mono (s:Zx H H'):∀{v:List V}{d:List ck},Y3 K H v d->Y3 K H' v d
 |_,_,.nil=>.nil
 |_,_,.cons h r=>.cons (Vh.mono s h) (Y3.mono s r)
end
theorem Y3.ints:∀ns:List Int,Y3 K H (ns.map V.int) (ns.map bc)
 | []=>.nil
 |n::r=>.cons (.int n) (Y3.ints r)
end
section
variable {X:Cx}{pins:List (Addr×Obj)}{σ:St}{H:Hp}{s:Shared}
mutual
theorem Inv.reads (I:Inv X pins σ H s):∀{v:V}{d:ck}{u:Value},Vh X.K H v d->RelV v u->∃j,Reads s.heap u d j
 |_,_,_,.non,r=>by cases (show _=bn from r);exact⟨_,.none⟩
 |_,_,_,.bl b,r=>by cases (show _=fR b from r);exact⟨_,.bool b⟩
 |_,_,_,.int i,r=>by obtain⟨t,rfl⟩:=r;exact⟨_,.int i t⟩
 |_,_,_,.str x,r=>by obtain⟨t,rfl⟩:=r;exact⟨_,.str x t⟩
 |_,_,_,.lst (a:=a) h q,r=>by
  cases (show _=au a from r);obtain⟨z,J,⟨o,n,e,c,_,d⟩,_⟩:=I.list h;obtain⟨j,O⟩:=Inv.readsAll I q J;exact⟨_,.list e c d (by simpa using O)⟩
 |_,_,_,.tup (a:=a) h q,r=>by
  cases (show _=au a from r);obtain⟨z,J,⟨o,e,c,n,d⟩,_⟩:=I.tuple h;obtain⟨j,O⟩:=Inv.readsAll I q J;exact⟨_,.tuple e c d (by simpa using O)⟩
theorem Inv.readsAll (I:Inv X pins σ H s):∀{v:List V}{d:List ck}{u:List Value},Y3 X.K H v d->ZN v u->∃j,ReadsAll s.heap u d j
 |_,_,_,.nil,r=>by cases r;exact⟨_,.nil⟩
 |_,_,_,.cons h q,r=>by
  cases r with
  |cons r z=>
   obtain⟨Y,J⟩:=Inv.reads I h r;obtain⟨a2,O⟩:=Inv.readsAll I q z;exact⟨_,.cons J O⟩
end
end
structure Zfk (d:ck):Prop where
 sh:d.showable=true
 nd:d.hasDict=false
 dp:d.depth<=60
 sz:d.shown.length<=sizeLine
section
variable {X:Cx}
theorem Zgj (O:X.A.units+64<cLine):W9 X (compareOp .NotEq) (fun x y H Q=>∃j z,Vh X.K H x j/\Vh X.K H y z/\cy j=true/\cy z=true/\Q (.bl (!iX j z)) H):=by
 intro J s σ H x y v u Q I Y ry ⟨j,z,h1,h2,s1,s2,q⟩;obtain⟨as,r1⟩:=I.reads h1 Y;obtain⟨bs,r2⟩:=I.reads h2 ry;exact SeqAt.compareNe_shaped r1 r2 s1 s2 O ⟨.bl _,H,I,rfl,q⟩
theorem ZcD {k:Nat}(hr:Y2 k X.A):Yk X (.builtin "repr") (fun xs H Q=>∃x d,xs=[x]/\Vh X.K H x d/\Zfk d/\Q (.str d.shown) H):=by
 intro O s σ H xs us Q I r h;obtain⟨x,d,rfl,hd,F,q⟩:=h;obtain⟨u,rfl,ru⟩:=vals1 r;obtain⟨as,rd⟩:=I.reads hd ru;have j4:X.A.units+61<cLine:=by have:=hr.units;omega
 have j:∀(J:Heap) (u:Tok) (tk:Nat),(∀b o,s.heap.get? b=some o->J.get? b=some o)->EP X O σ Q (.str d.shown u) {s with heap:=J,toks:=tk}:=fun J u tk k=>⟨.str d.shown,H,I.kept k,⟨u,rfl⟩,q⟩;cases rd with
 |none=>exact P.repr_of_none (j s.heap _ _ fun _ _ e=>e)
 |bool b=>exact P.repr_of_bool (by have:=j s.heap s.toks (s.toks+1) fun _ _ e=>e;simpa only[f9] using this)
 |int i t=>exact P.repr_of_int (by simpa only[gH,decide_eq_true_eq] using F.sh) (by have:=j s.heap s.toks (s.toks+1) fun _ _ e=>e;simpa only[f9] using this)
 |str y t=>exact P.repr_of_str (by have:=j s.heap s.toks (s.toks+1) fun _ _ e=>e;simpa only[f9] using this) (by simpa only[f9] using F.sz)
 |list Y h2 h3 h4=>exact repr_of_reads' (.list Y h2 h3 h4) F.sh (fun z=>by rw[F.nd] at z;cases z) hr.gd (by have:=F.dp;omega) (fun _ _ e=>e) (fun J u tk k=>j J u tk k) F.sz
 |tuple Y h2 h3 h4=>exact repr_of_reads' (.tuple Y h2 h3 h4) F.sh (fun z=>by rw[F.nd] at z;cases z) hr.gd (by have:=F.dp;omega) (fun _ _ e=>e) (fun J u tk k=>j J u tk k) F.sz
 |dict Y h2 h3 h4 h5=>cases hd
theorem ZfM {prog:Program}{w:World}{A:Around}{j:List Value}{bs:List Bool}(r:ZN (bs.map V.bl) j):TruthOf prog w A (fun i v=>j.toArray[i]?=some v) (fun i=>bs.getD i false):=by
 intro i v s Q E z O;rw[List.getElem?_toArray] at z;have hi:i<j.length:=(aH.mp z).1;have Y:=r.length;rw[Za] at Y;have hb:(bs.map V.bl)[i]?=some (.bl (bs.getD i false)):=by
  rw[Zc,Zb,Zf (by omega)];rfl
 obtain⟨u,J,ru⟩:=r.get hb;rw[z] at J;cases J;cases (show v=fR _ from ru);exact bI O
theorem Zb5 {bs:List Bool}:((eE bs.length).all fun i=>bs.getD i false)=bs.all id:=by
 have:(eE bs.length).map (fun i=>bs.getD i false)=bs:=by
  apply List.ext_getElem
  ·simp
  ·intro i j z;simp at j;simp[j]
 conv=>rhs;rw[<-this,gy]
 rfl
theorem U7 (hc:X.calm=true):Yk X (.builtin "all") (fun xs H Q=>∃(a:Addr) (bs:List Bool),xs=[.ref a]/\WQ X.K H a (bs.map V.bl)/\Q (.bl (bs.all id)) H):=by
 intro J s σ H xs us Q I r h;obtain⟨a,bs,rfl,hq,q⟩:=h;obtain⟨u,rfl,ru⟩:=vals1 r;cases ru;obtain⟨j,O,p,hz⟩:=I.list hq;have Y:=O.length;rw[Za] at Y;refine call_all_walk (g9 p.isList ?_);have z:a≠s.heap.objs.size:=by obtain⟨o,n,e,_⟩:=p;exact aA (Zp e)
 refine⟨s.heap.objs.size,_,_,_,_,_,(fun i=>bs.getD i false),rfl,Walks.list (A:=X.A.in1) (I.ok.hd hc) _ a z j.toArray,⟨⟨_,Zo _ rfl,rfl,rfl⟩,p.isList.push _⟩,ZfM O,fun h' tk k=>?_⟩;rw[Zh,<-Y,Zb5];refine⟨.bl _,H,I.kept (t':=tk) fun b o e=>k b o ?_ (Zn _ e),rfl,q⟩;simpa using aA (Zp e)
end
section
variable {prog:Program}{w:World}{A:Around}{E:Value->Shared->Prop}{s:Shared}
end
section
variable {X:Cx}
noncomputable def Xr (lo:Int)(n:Nat):List Int:=(eE n).map fun i:Nat=>lo+(i:Int)
theorem Zc8 {lo:Int}{n i:Nat}(h:i<n):(Xr lo n)[i]?=some (lo+i):=by unfold Xr;rw[Zc,List.getElem?_range h];rfl
theorem JK {lo:Int}{n:Nat}:(Xr lo n).length=n:=by unfold Xr;rw[Za,Zg]
end
noncomputable def WJ:List Str->Bool
 | []=>true
 |x::r=>!(r.contains x) && WJ r
theorem Yu:∀{l:List Str},WJ l=true->l.Nodup
 | [],_=>List.nodup_nil
 |x::r,h=>by
  unfold WJ at h;simp only[aT,jC] at h;refine cT.mpr ⟨fun z=>?_,Yu h.2⟩;have:=iR.mpr z;rw[h.1] at this;cases this
noncomputable def UV (j:Scope)(x:Str):Bool:=match j.names.lookup x with
 |some .local=>true
 |some .cell=>true
 |_=>false
theorem X4 {j:Scope}{x:Str}(h:UV j x=true):Loc j x:=by
 unfold UV at h;split at h
 ·rename_i e;exact .inl e
 ·rename_i e;exact .inr e
 ·cases h
noncomputable def WK (j:Scope)(x:Str):Bool:=match j.names.lookup x with
 |some .local=>true
 |_=>false
theorem Yn {j:Scope}{x:Str}(h:WK j x=true):j.names.lookup x=some .local:=by
 unfold WK at h;split at h
 ·rename_i e;exact e
 ·cases h
noncomputable def UU (j:Scope)(x:Str):Bool:=match j.names.lookup x with
 |some .local=>true
 |some .cell=>true
 |some .free=>true
 |_=>false
theorem ZdA {j:Scope}{x:Str}(h:UU j x=true):Vis j x:=by
 unfold UU at h;split at h
 ·rename_i e;exact .inl e
 ·rename_i e;exact .inr (.inl e)
 ·rename_i e;exact .inr (.inr e)
 ·cases h
noncomputable def YZ (j:Scope)(x:Str):Bool:=match j.names.lookup x with
 |some .globalImplicit=>true
 |_=>false
noncomputable def Jt:Expr->Bool
 | .Starred _ _=>false
 |_=>true
theorem YL {e:Expr}{es:List Expr}{env:Env}(h:Jt e=true):starEach (e::es) env=(false,eval e env)::starEach es env:=by cases e <;> first|rfl|cases h
noncomputable def Jc:List Expr->Bool
 | []=>true
 |e::r=>Jt e && Jc r
theorem Wa {env:Env}{pos:Pos}:∀{es:List Expr},Jc es=true->(backTo pos (starEach es env)).any (·.1)=false
 | [],_=>rfl
 |e::r,h=>by
  unfold Jc at h;rw[aT] at h;rw[YL h.1];exact Wa h.2
section
variable {X:Cx}
theorem pc {e:Expr}{es:List Expr}{j:TE}{t:TA}(z:PE X e j)(J:PA X es t)(O:Jt e=true:=by rfl):PA X (e::es) (Yw j t):=ZeC z J (YL O)
theorem YU {x:Str}(h:YZ X.env.scope x=true):Gl X x:=by
 unfold YZ at h;split at h
 ·rename_i e;exact e
 ·cases h
theorem vn (i:Nat){x:Str}{pos:Pos}(z:X.N[i]?=some x:=by rfl)(J:UU X.env.scope x=true:=by kernel_rfl)(O:(x == ("__debug__":Str))=false:=by kernel_rfl)(j:(x == ("__classdict__":Str))=false:=by kernel_rfl) :
  PE X (.Name x pos) (Yq i):=Zgf z (ZdA J) O j
theorem gn (i:Nat){x:Str}{pos:Pos}(z:X.N[i]?=some x:=by rfl)(J:WJ X.N=true:=by kernel_rfl)(j:WK X.env.scope x=true:=by kernel_rfl):PG X (.Name x pos) (Ye i):=
 Zeu (Yu J) z (.inl (Yn j)) (.inr (Yn j))
theorem ZJ (i:Nat){x:Str}{e:Expr}{z:TE}{pos j:Pos}(J:X.fn x=true)(O:PE X e z)(Y:X.N[i]?=some x:=by rfl)(hN:WJ X.N=true:=by kernel_rfl)(hx:UV X.env.scope x=true:=by kernel_rfl)
  (hs:swapsWith e (some (.Name x j)) pos.line X.env=pure false:=by rfl):PS X (.Assign [.Name x j] e pos) (Vo z (Ye i)):=
 Zf7 (Yu hN) Y (X4 hx) O hs (.inl J)
theorem cb {x:Str}{id:String}{r:List V->Hp->VK->Prop}{e:Expr}{es:List Expr}{t:TA}{p pos:Pos}(z:Yk X (.builtin id) r)(J:X.mg x=none)(O:PA X (e::es) t)(Y:YZ X.env.scope x=true:=by kernel_rfl)(hv:bootBuiltins x=some (.builtin id):=by kernel_rfl)
  (hn:x ≠ "__name__":=by decide) (hd:(x == ("__debug__":Str))=false:=by kernel_rfl) (he:Jt e=true:=by rfl) (j:Jc es=true:=by rfl) :
  PE X (.Call (.Name x p) (e::es) [] pos) (tCB r t):=Zdj z (YU Y) J hv O hn hd (YL he) (Wa j)
theorem ct {x:Str}{T:String}{r:List V->Hp->VK->Prop}{e:Expr}{es:List Expr}{t:TA}{p pos:Pos}(z:Yk X (.type T) r)(J:X.mg x=none)(O:PA X (e::es) t)(Y:YZ X.env.scope x=true:=by kernel_rfl)(hv:bootBuiltins x=some (.type T):=by kernel_rfl)
  (hn:x ≠ "__name__":=by decide) (hd:(x == ("__debug__":Str))=false:=by kernel_rfl) (he:Jt e=true:=by rfl) (j:Jc es=true:=by rfl) :
  PE X (.Call (.Name x p) (e::es) [] pos) (tCB r t):=Zcb z (YU Y) J hv O hn hd (YL he) (Wa j)
theorem tyv (T:String){x:Str}{pos:Pos}(j:X.mg x=none)(z:YZ X.env.scope x=true:=by kernel_rfl)(J:bootBuiltins x=some (.type T):=by kernel_rfl)(O:x ≠ "__name__":=by decide)(Y:(x == ("__debug__":Str))=false:=by kernel_rfl) :
  PE X (.Name x pos) (tC (.ty T)):=Zez (YU z) j J rfl O Y
theorem Zim {x:Str}{i:Int}{t:Tok}{pos:Pos}(j:X.mg x=some (.int i t))(z:YZ X.env.scope x=true:=by kernel_rfl)(J:(x == ("__debug__":Str))=false:=by kernel_rfl):PE X (.Name x pos) (tC (.int i)):=Zbt (YU z) j ⟨t,rfl⟩ J
theorem Zb3 {z a:Expr}{j:TA}{p pos:Pos}(J:X.mg "range"=none)(O:PA X [a] j)(Y:YZ X.env.scope "range"=true:=by kernel_rfl)(hs:starEach [a] X.env=[(false,eval a X.env)]:=by rfl):PI X z (.Call (.Name "range" p) [a] [] pos) (ZfF j):=Zca (YU Y) J O hs
theorem Zeh {J a b:Expr}{z:TA}{p pos:Pos}(O:X.mg "range"=none)(Y:PA X [a,b] z)(hg:YZ X.env.scope "range"=true:=by kernel_rfl)(hs:starEach [a,b] X.env=[(false,eval a X.env),(false,eval b X.env)]:=by rfl)(j:starEach [b] X.env=[(false,eval b X.env)]:=by rfl) :
  PI X J (.Call (.Name "range" p) [a,b] [] pos) (ZfE z):=Zb9 (YU hg) O Y hs j
end
noncomputable def Fn (P:Program)(w:World)(K:ac)(j:Str->Option Value)(base:Heap)(CX:VQ)(k:Nat)(x:Str)(z:List Str)(sp:Sp):Prop:=
 ∃f J,Z8 P w K j base CX k f J z sp/\j x=some (.ref f)/\aX K (.ref f)=true/\Binds K J z []
section
variable {X:Cx}
theorem Wc {CX:VQ}{k j:Nat}{x:Str}{J:List Str}{sp:Sp}{E:XK}{e:Expr}{es:List Expr}{t:TA}{p pos:Pos}(G:Fn X.prog X.w X.K X.mg X.base CX k x J sp)(O:Y2 j X.A)(Y:WN CX X E)(ha:PA X (e::es) t)(hk:k<=j:=by decide)
  (hg:YZ X.env.scope x=true:=by kernel_rfl) (hd:(x == ("__debug__":Str))=false:=by kernel_rfl) (he:Jt e=true:=by rfl) (z:Jc es=true:=by rfl) :
  PE X (.Call (.Name x p) (e::es) [] pos) (XJ sp [] E t):=by
 obtain⟨f,fd,F,hm,kp,b⟩:=G;exact Zey F (O.mono hk) (YU hg) hm kp b .nil Y ha hd (YL he) (Wa z)
end
theorem Fn.mk {P:Program}{w:World}{K:ac}{mg:Str->Option Value}{base h:Heap}{CX:VQ}{k:Nat}{x:Str}{J:List Str}{sp:Sp}{st:Stmt}{f:Addr}{oc:Value}{od O:Option Addr}{Y:Array (Option Value)}{kV z pm j ct:Value}(X:K.In h)(G:h.Ns mainGlobals mg)
  (a:aF K mainGlobals x=some (some (.ref f))) (l:K.lookup f=some ⟨oc,od,.func (bj x x (Yp st) (Yh st) (ZS st) .none kV z pm O j ct),Y⟩) (c:bS K j x=true) (kp:aX K (.ref f)=true)
  (hok:∀fd,WT K x x st f fd->Z8 P w K mg base CX k f fd J sp)
  (hb:∀(kV z pm:Value) (O:Option Addr) (j ct:Value) (us:List Value),us.length=J.length->bindArgs (bj x x (Yp st) (Yh st) (ZS st) .none kV z pm O j ct) ⟨us,[]⟩=pure (J.zip us)) :
  Fn P w K mg base CX k x J sp:=
 ⟨f,_,hok _ (X7 l c kp),dq X G a,kp,(X7 l c kp).binds hb⟩
section
variable {X:Cx}
theorem Vl (K:ac)(j:X.K=K:=by rfl):IxR X (Zel K):=j▸ZgL
theorem Vq (K:ac)(j:X.K=K:=by rfl):IxR X (ZhW K):=j▸ZeR
noncomputable def Zi7 (K:ac):List V->Hp->VK->Prop:=fun xs H Q=>∃p j,xs=[.ref p]/\(WQ K H p j\/WS K H p j)/\Q (.int j.length) H
theorem Ws (K:ac)(j:X.K=K:=by rfl):Yk X (.builtin "len") (Zi7 K):=j▸Ul
theorem itT (K:ac){z l:Expr}{j:TE}(J:PE X l j)(O:X.K=K:=by rfl):PI X z l (Zil K j):=O▸Zgb J
theorem itL (K:ac){z l:Expr}{j:TE}(J:PE X l j)(O:X.K=K:=by rfl):PI X z l (ZdD K j):=O▸Zes J
end
noncomputable def Ve (N:List Str)(O:Scope)(Y:List Str)(z:List Nat)(N':List Str)(J:Scope):Bool:=
 (J.kind == .function) && WJ (J.names.map (·.1)) && J.names.all (fun y=>y.2 != .local || WK J y.1) && WJ N' && decide (N'=Y++z.map fun j=>N.getD j "") &&
  z.all (fun j=>decide (j<N.length) && (match J.names.lookup (N.getD j "") with|some .free=>true|_=>false)) &&
  J.names.all (fun y=>y.2 != .free || (match O.names.lookup y.1 with|some .cell=>true|some .free=>true|_=>false))
theorem YQ.of {N:List Str}{O:Scope}{own:List Str}{J:List Nat}{N':List Str}{sc:Scope}(h:Ve N O own J N' sc=true):YQ N O own J N' sc:=by
 unfold Ve at h;simp only[aT,aJ,decide_eq_true_eq,beq_iff_eq,bne_iff_ne,ne_eq,Bool.or_eq_true] at h;obtain⟨⟨⟨⟨⟨⟨h1,h2⟩,h3⟩,h4⟩,h5⟩,h6⟩,h7⟩:=h;refine⟨h1,Yu h2,fun y Y e=>?_,Yu h4,h5,fun j hj=>⟨(h6 j hj).1,?_⟩,fun y Y e=>?_⟩
 ·rcases h3 y Y with z|z
  ·exact absurd e z
  ·exact Yn z
 ·have:=(h6 j hj).2
  split at this
  ·rename_i z;exact z
  ·cases this
 ·rcases h7 y Y with z|z
  ·exact absurd e z
  ·split at z
   ·rename_i q;exact .inl q
   ·rename_i q;exact .inr q
   ·cases z
theorem cmp {X:Cx}(z:List Str)(j:List Nat)(O:List Str){scope:Scope}{elt iter Y:Expr}{ifs:List Expr}{pos:Pos}{wi:TI}{g:TG}{tc:TT}{te:TE}(hc:X.calm=true)(hi:PI X Y iter wi)
  (hg:∀J C s H ex,PG (Yt X scope J O C s H ex) Y g) (ht:∀J C s H ex,PIf (Yt X scope J O C s H ex) ifs tc) (he:∀J C s H ex,PE (Yt X scope J O C s H ex) elt te)
  (hS:Ve X.N X.env.scope z j O scope=true:=by kernel_rfl) (hs:∀x,foldedSetIterable iter X.env x=pure x:=by intro _;rfl) :
  PE X (.ListComp elt [⟨Y,iter,ifs,0⟩] scope pos) (Vx z j wi g tc te):=Zex rfl (.of hS) hc hi hg ht he hs
section
variable {X:Cx}
noncomputable def ZhY:R2:=fun x y H Q=>∃(a b:Addr) (j z:List V),x=.ref a/\y=.ref b/\H a=some (.tup j)/\H b=some (.tup z)/\j.length+z.length<=sizeLine/\∀p J,Zx H J->J p=some (.tup (j++z))->Q (.ref p) J
theorem Zbx:W9 X (binaryOp .Add) ZhY:=by
 intro j s σ H x y v u Q I rx ry h;obtain⟨a,b,xs,ys,rfl,rfl,Y,hb,hz,q⟩:=h;by_cases hx:xs=[]
 ·subst hx
  cases rx;cases ry;obtain⟨j9,r1,p1,_⟩:=I.tuple (WS.of Y);obtain⟨j7,r2,p2,_⟩:=I.tuple (WS.of hb);cases r1;obtain⟨⟨cls,dd,data,sl⟩,ho,hc,n,hd⟩:=id p1;obtain⟨⟨j8,j4,data2,j6⟩,z,J,n2,O⟩:=id p2;simp only at hc hd J O;subst hc hd J O;exact jq ⟨_,ho,rfl⟩ ⟨_,z,rfl⟩ ij i5 fe eQ (eK _ _) (tuple_addW0 a b _ _ n n2 dd j4 sl j6 rfl) ⟨ho,z,⟨.ref b,H,I,rfl,q b H (Zx.refl H) hb⟩⟩
 ·refine ZeD j s σ H _ _ v u Q I rx ry ⟨a,b,xs,ys,rfl,rfl,.of Y,.of hb,hx,hz,fun e=>?_,fun e p hp=>q p _ (Zx.upd hp) Zv⟩
  subst e;exact q a H (Zx.refl H) (by rw[aI];exact Y)
end
theorem Wk {c:TT}{tb:TS}{D:YH}{σ:St}{H:Hp}(Pv:Nat->St->Hp->Prop)(Ex:St->Hp->Prop)(hend:∀ σ H,Ex σ H->D.nx σ H)(h0:∃m,Pv m σ H)
  (turn:(∀ σ H,Ex σ H->D.nx σ H)->∀m σ H,Pv m σ H->c σ H fun b H1=>if b=true then ∃N:St->Hp->Prop,(∀ j z,N j z->∃J,J<m/\Pv J j z)/\tb {D with nx:=N,ct:=N,bk:=D.nx} σ H1 else D.nx σ H1) :
  ZcW c tb D σ H:=⟨Pv,h0,turn hend⟩
structure WA (J:It)(H:Hp)(xs:List V):Prop where
 go:∀(i:Nat) H',Zx H H'->i<xs.length->J.go i H'
 yld:∀(i:Nat) H' x H2,Zx H H'->i<xs.length->J.yld i H' x H2->H2=H'/\xs[i]?=some x
 stop:∀H',Zx H H'->J.stop xs.length H'
theorem WA.mono {J:It}{H z:Hp}{xs:List V}(s:Zx H z)(S:WA J H xs):WA J z xs:=
 ⟨fun i j e=>S.go i j (s.trans e),fun i j x O e=>S.yld i j x O (s.trans e),fun j e=>S.stop j (s.trans e)⟩
theorem V1 {K:ac}{H:Hp}{a:Addr}{xs:List V}(h:WS K H a xs):WA (Itt K a) H xs:=
 ⟨fun i j s z=>⟨xs,_,s.tup h,Zf z⟩,fun i j x J s _ y=>⟨y.1,y.2 xs (s.tup h)⟩,fun j s=>⟨xs,s.tup h,Zq _⟩⟩
theorem WD {K:ac}{H:Hp}{a:Addr}{xs:List V}(h:WQ K H a xs):WA (Itl K a) H xs:=
 ⟨fun i j s z=>⟨xs,_,s.seq h,Zf z⟩,fun i j x J s _ y=>⟨y.1,y.2 xs (s.seq h)⟩,fun j s=>⟨xs,s.seq h,Zq _⟩⟩
theorem V2 {H:Hp}(lo:Int)(n:Nat):WA (Itr lo n) H ((Xr lo n).map V.int):=by
 have z:((Xr lo n).map V.int).length=n:=by rw[Za,JK]
 refine⟨fun i J s j=>by rw[z] at j;exact j,fun i J x O s j y=>?_,fun J s=>by show n<=_;rw[z];exact Zq _⟩;rw[z] at j;exact⟨y.1,by rw[y.2,Zc,Zc8 j];rfl⟩
theorem U1 {J:It}{own:List Str}{j4:List Nat}{g:TG}{tc:TT}{te:TE}{σ:St}{H:Hp}{Q:VK}{xs:List V}(S:WA J H xs)(cs:St)(j7:Jz own j4 σ=none::cs)(f:V->Option V)(hz:xs.length<=1000000)
  (hs:∀(i:Nat) x v0 j,xs[i]?=some x->Zx H j->∀(R:St->V->Hp->Prop) (R':St->Hp->Prop),(∀v H5,f x=some v->Zx j H5->R (some x::cs) v H5)->(∀H4,f x=none->Zx j H4->R' (some x::cs) H4)->
   g x (v0::cs) j fun O H3=>tc O H3 fun b H4=>if b=true then te O H4 (R O) else R' O H4)
  (hd:∀D j,H D=none->Zx H j->j D=some (.lst (xs.filterMap f))->Q (.ref D) j) :
  JV own j4 g tc te σ Q J H:=by
 intro D hD;refine⟨fun i m j6 j=>m=xs.length-i/\i<=xs.length/\(∃v0,j6=v0::cs)/\Zx H j/\j D=some (.lst ((xs.take i).filterMap f)),⟨_,rfl,aE _,⟨none,j7⟩,Zx.upd hD,by rw[Zv,List.take_zero];rfl⟩,?_⟩;rintro i m j6 j ⟨rfl,hi,⟨v0,rfl⟩,s,hl⟩;by_cases Y:i<xs.length
 ·refine .inr ⟨S.go i j s Y,_,fun j9 H2 z=>z,fun x H2 y=>?_⟩
  obtain⟨rfl,hx⟩:=S.yld i j x H2 s Y y;have ht:xs.take (i+1)=xs.take i++[x]:=by rw[jy,hx];rfl
  have j8:((xs.take i).filterMap f).length<=i:=aK (List.length_filterMap_le _ _) (by rw[aB];omega);refine hs i x v0 H2 hx s _ _ (fun v H5 e s5=>?_) (fun H4 e s4=>?_)
  ·refine⟨_,s5 _ _ hl,?_,xs.length-(i+1),by omega,rfl,Y,⟨_,rfl⟩,(s.trans s5).updr hD,?_⟩
   ·have:(16777216:Nat)=sizeLine:=by decide
    omega
   ·rw[Zv,ht,iQ,bQ,e];rfl
  ·refine⟨xs.length-(i+1),by omega,rfl,Y,⟨_,rfl⟩,s.trans s4,?_⟩
   rw[s4 _ _ hl,ht,iQ,bQ,e];simp
 ·have e:i=xs.length:=by omega
  subst e;refine .inl ⟨S.stop j s,hd D j hD s ?_⟩;rw[hl,cK]
theorem Ze3 {J:It}{g:TG}{tb:TS}{D:YH}{σ:St}{H0 H:Hp}{xs:List V}(S:WA J H0 xs)(Pv:Nat->St->Hp->Prop)(h0:Pv 0 σ H)(hS:∀i σ H,Pv i σ H->Zx H0 H)
  (hs:∀(i:Nat) x σ H,xs[i]?=some x->Pv i σ H->g x σ H fun z H2=>tb {D with nx:=Pv (i+1),ct:=Pv (i+1),bk:=D.nx} z H2) (hd:∀ σ H,Pv xs.length σ H->D.nx σ H) :
  ∃W:Nat->Nat->St->Hp->Prop,(∃m,W 0 m σ H)/\∀i m σ H,W i m σ H->
   (J.stop i H/\D.nx σ H)\/(J.go i H/\∃N:St->Hp->Prop,(∀ O j,N O j->∃m',m'<m/\W (i+1) m' O j)/\∀x j,J.yld i H x j->g x σ j fun z H2=>tb {D with nx:=N,ct:=N,bk:=D.nx} z H2):=by
 refine⟨fun i m σ H=>m=xs.length-i/\i<=xs.length/\Pv i σ H,⟨_,rfl,aE _,h0⟩,?_⟩;rintro i m σ H ⟨rfl,hi,p⟩;have s:=hS i σ H p;by_cases Y:i<xs.length
 ·refine .inr ⟨S.go i H s Y,Pv (i+1),fun O j p'=>⟨xs.length-(i+1),by omega,rfl,Y,p'⟩,fun x j y=>?_⟩
  obtain⟨rfl,hx⟩:=S.yld i H x j s Y y;exact hs i x σ _ hx p
 ·have e:i=xs.length:=by omega
  subst e;exact .inl ⟨S.stop H s,hd σ H p⟩
theorem tT {A B:Hp->Prop}{σ:St}{H:Hp}(h:A H):JC σ H fun b j=>if b=true then A j else B j:=by
 show if true=true then A H else B H
 rw[if_pos rfl];exact h
theorem ZbK {α j:Type}(g:α->j):∀xs:List α,xs.filterMap (fun y=>some (g y))=xs.map g
 | []=>rfl
 |x::r=>by rw[bQ,aZ,ZbK g r]
theorem ZfG {α j:Type}(p:α->Bool)(g:α->j):∀xs:List α,xs.filterMap (fun y=>if p y=true then some (g y) else none)=(xs.filter p).map g
 | []=>rfl
 |x::r=>by
  rw[bQ,List.filter_cons,ZfG p g r];by_cases h:p x=true
  ·rw[if_pos h,if_pos h];rfl
  ·rw[if_neg h,if_neg h]
theorem JO {c A B:Prop} [Decidable c](j:c)(h:A):if c then A else B:=by rw[if_pos j];exact h
theorem Yg {c A B:Prop} [Decidable c](j:¬c)(h:B):if c then A else B:=by rw[if_neg j];exact h
theorem Ww {J:It}{own:List Str}{O:List Nat}{Y:TE}{σ:St}{H:Hp}{Q:VK}{xs:List V}(S:WA J H xs)(z:St)(j4:Jz own O σ=none::z)(f:V->V)(hz:xs.length<=1000000)
  (hs:∀(i:Nat) x j,xs[i]?=some x->Zx H j->∀R:VK,(∀H5,Zx j H5->R (f x) H5)->Y (some x::z) j R)
  (hd:∀D j,H D=none->Zx H j->j D=some (.lst (xs.map f))->Q (.ref D) j):JV own O (Ye 0) JC Y σ Q J H:=by
 refine U1 S z j4 (fun x=>some (f x)) hz (fun i x v0 j hx s R R' h1 h2=>?_) fun D j hD s hl=>hd D j hD s (by rw[hl,ZbK]);show JC (some x::z) j fun b H4=>if b=true then Y (some x::z) H4 (R (some x::z)) else R' (some x::z) H4
 exact tT (A:=fun H4=>Y (some x::z) H4 (R (some x::z))) (hs i x j hx s _ fun H5 s5=>h1 _ H5 rfl s5)
theorem Xc {J:It}{own:List Str}{z:List Nat}{tc:TT}{te:TE}{σ:St}{H:Hp}{Q:VK}{xs:List V}(S:WA J H xs)(Y:St)(j4:Jz own z σ=none::Y)(p:V->Bool)(f:V->V)(hz:xs.length<=1000000)
  (hs:∀(i:Nat) x j,xs[i]?=some x->Zx H j->∀(R:VK) (R':Hp->Prop),(p x=true->∀H5,Zx j H5->R (f x) H5)->(p x=false->∀O,Zx j O->R' O)->tc (some x::Y) j fun b O=>if b=true then te (some x::Y) O R else R' O)
  (hd:∀D j,H D=none->Zx H j->j D=some (.lst ((xs.filter p).map f))->Q (.ref D) j):JV own z (Ye 0) tc te σ Q J H:=by
 refine U1 S Y j4 (fun x=>if p x=true then some (f x) else none) hz (fun i x v0 j hx s R R' h1 h2=>?_) fun D j hD s hl=>hd D j hD s (by rw[hl,ZfG])
 exact hs i x j hx s (R (some x::Y)) (R' (some x::Y)) (fun e H5 s5=>h1 _ H5 (by rw[if_pos e]) s5) fun e O s4=>h2 O (by rw[if_neg (by rw[e];decide)]) s4
noncomputable def ZI (K:ac)(x:Str)(st:Stmt):Prop:=
 ∃(f:Addr) (O:Value) (Y an:Option Addr) (z:Array (Option Value)) (kV J pm j ct:Value),aF K mainGlobals x=some (some (.ref f))/\
  K.lookup f=some ⟨O,Y,.func (bj x x (Yp st) (Yh st) (ZS st) .none kV J pm an j ct),z⟩/\bS K j x=true/\aX K (.ref f)=true
theorem ZI.mk {K:ac}{x:Str}{st:Stmt}{f:Addr}{J:Value}{O an:Option Addr}{z:Array (Option Value)}{kV doc pm j ct:Value}(a:aF K mainGlobals x=some (some (.ref f)))
  (l:K.lookup f=some ⟨J,O,.func (bj x x (Yp st) (Yh st) (ZS st) .none kV doc pm an j ct),z⟩) (c:bS K j x=true) (k:aX K (.ref f)=true):ZI K x st:=
 ⟨f,J,O,an,z,kV,doc,pm,j,ct,a,l,c,k⟩
theorem ZI.fn {P:Program}{w:World}{K:ac}{mg:Str->Option Value}{base h:Heap}{CX:VQ}{k:Nat}{x:Str}{z:List Str}{sp:Sp}{st:Stmt}(D:ZI K x st)(X:K.In h)(G:h.Ns mainGlobals mg)
  (O:∀f J,WT K x x st f J->Z8 P w K mg base CX k f J z sp)
  (hb:∀(kV doc pm:Value) (an:Option Addr) (j ct:Value) (us:List Value),us.length=z.length->bindArgs (bj x x (Yp st) (Yh st) (ZS st) .none kV doc pm an j ct) ⟨us,[]⟩=pure (z.zip us)) :
  Fn P w K mg base CX k x z sp:=by
 obtain⟨f,oc,od,an,Y,kV,doc,pm,j,ct,a,l,c,kp⟩:=D;exact Fn.mk X G a l c kp (fun J F=>O f J F) hb
theorem ZI.law {P:Program}{w:World}{K:ac}{mg:Str->Option Value}{h:Heap}{CX:VQ}{k:Nat}{x:Str}{p:Str}{sp:Sp}{st:Stmt}{Y:Addr}(D:ZI K x st)(X:K.In h)(G:h.Ns mainGlobals mg)(J:mg x=some (.ref Y))
  (O:∀(base:Heap) f z,base.Ns mainGlobals mg->K.In base->WT K x x st f z->Z8 P w K mg base CX k f z [p] sp)
  (hb:∀(kV doc pm:Value) (an:Option Addr) (j ct:Value) (s:Shared) (u:Value),gt s (bj x x (Yp st) (Yh st) (ZS st) .none kV doc pm an j ct) ⟨[u],[]⟩ [(p,u)]) :
  ∃z:FuncData,(∀(s:Shared) (u:Value),gt s z ⟨[u],[]⟩ [(p,u)])/\∀base:Heap,K.In base->base.Ns mainGlobals mg->Z8 P w K mg base CX k Y z [p] sp:=by
 obtain⟨f,oc,od,an,j4,kV,doc,pm,j,ct,a,l,c,kp⟩:=D;have e:=J.symm.trans (dq X G a);cases e;exact⟨_,fun s u=>hb kV doc pm an j ct s u,fun base kb nb=>O base _ _ nb kb (X7 l c kp)⟩
theorem Zdp:fillsNumberSlot (.type "tuple") "mul"=pure false:=
 PySem.fillsNumberSlot_seq (id:="tuple.__mul__") (r:=some (.builtin "tuple.__rmul__")) cS.lookup (by decide +kernel) ii.lookup (by decide +kernel)
theorem Zi3:seqRepeat? (.type "tuple")=pure (some (.builtin "tuple.__mul__")):=by
 unfold seqRepeat?;rw[jo (T:="tuple") (name:="__mul__") (id:="tuple.__mul__") cS.lookup (by decide +kernel),jo (T:="tuple") (name:="__rmul__") (id:="tuple.__rmul__") ii.lookup (by decide +kernel)];rfl
noncomputable abbrev tob (j:Option Addr)(items:Array Value)(n:Nat)(z:Array (Option Value)):Obj:={cls:=.type "tuple",dict:=j,data:=.seq items n,slots:=z}
theorem ZhT (a:Int)(t:Tok)(l:Addr)(items:Array Value)(n:Nat)(z:Option Addr)(J:Array (Option Value)) :
  Meets (aO.«int.__rmul__» ⟨[.int a t,.ref l],[]⟩) (fun _ R s=>s.heap.get? l=some (tob z items n J)/\R (.ok (.ret Value.notImplemented)) s):=.of_wp fun j w A R s h=>by
 obtain⟨O,g,d,tk,os⟩:=s;obtain⟨Y,h⟩:=h
 wp_walk;exact⟨_,rfl,h⟩
theorem Zih (l:Addr)(items:Array Value)(n:Nat)(z:Option Addr)(J:Array (Option Value))(t:Tok) :
  Meets (aO.«tuple.__mul__» ⟨[.ref l,.int 1 t],[]⟩) (fun _ R s=>s.heap.get? l=some (tob z items n J)/\R (.ok (.ret (.ref l))) s):=.of_wp fun j w A R s h=>by
 obtain⟨Y,g,d,tk,os⟩:=s;obtain⟨O,h⟩:=h;have f1:=gb;have f2:=ek
 wp_walk using wpAny_loadPart' O
 exact⟨_,rfl,h⟩
theorem Zii (l:Addr)(items:Array Value)(n:Nat)(z:Option Addr)(J:Array (Option Value))(t:Tok)(Y:items.isEmpty=false) :
  Meets (aO.«tuple.__mul__» ⟨[.ref l,.int 0 t],[]⟩) (fun _ R s=>s.heap.get? l=some (tob z items n J)/\R (.ok (.ret (.ref s.heap.objs.size))) {s with heap:=s.heap.push {cls:=.type "tuple",data:=.seq #[]}}):=.of_wp fun j w A R s h=>by
 obtain⟨hp,g,d,tk,os⟩:=s;obtain⟨O,h⟩:=h;have f1:=gb;have f2:=ek
 wp_walk using wpAny_loadPart' O
 exact⟨_,rfl,h⟩
theorem Zig (l:Addr)(items:Array Value)(n:Nat)(J:Option Addr)(O:Array (Option Value))(k:Int)(t:Tok)(Y:¬(decide (k < -(2 ^ 63)) || decide (k ≥ 2 ^ 63))=true)(h2:¬(items.isEmpty || k == 1)=true)(h3:¬(decide (k<=0) || items.isEmpty)=true)
  (h4:¬((items.size:Int)*k > (2 ^ 63-1) / 8)) (h5:¬fY ((items.size:Int)*k)=true) (h6:((ag k.toNat items).foldl (· ++ ·) #[]).size<=sizeLine) :
  Meets (aO.«tuple.__mul__» ⟨[.ref l,.int k t],[]⟩) (fun _ R s=>s.heap.get? l=some (tob J items n O)/\R (.ok (.ret (.ref s.heap.objs.size))) {s with heap:=s.heap.push {cls:=.type "tuple",data:=.seq ((ag k.toNat items).foldl (· ++ ·) #[])}}):=.of_wp fun z w A R s h=>by
 obtain⟨hp,g,d,tk,os⟩:=s;obtain⟨j,h⟩:=h;have f1:=gb;have f2:=ek
 wp_walk using wpAny_loadPart' j
 rw[if_neg Y]
 wp_walk using wpAny_loadPart' j
 all_goals (try rw[if_neg h2])
 all_goals (try wp_walk using wpAny_loadPart' j)
 all_goals (try rw[if_neg h3])
 all_goals (try wp_walk using wpAny_loadPart' j)
 all_goals (try rw[if_neg h4])
 all_goals (try wp_walk using wpAny_loadPart' j)
 all_goals (try rw[if_neg h5])
 all_goals (try wp_walk using wpAny_loadPart' j)
 all_goals first|exact⟨_,rfl,h⟩|exact h6
theorem VH (j:List Value):∀(m:Nat) (acc:List Value),(ag m j.toArray).foldl (· ++ ·) acc.toArray=(acc++(ag m j).flatten).toArray
 |0,acc=>by simp
 |m+1,acc=>by
  rw[aM,List.foldl_cons,aM,bG,<-aw];have:acc.toArray++j.toArray=(acc++j).toArray:=by simp
  rw[this];exact VH j m (acc++j)
section
variable {X:Cx}
theorem ZN.repl {xs:List V}{us:List Value}(r:ZN xs us):∀m:Nat,ZN (ag m xs).flatten (ag m us).flatten
 |0=>.nil
 |m+1=>by rw[aM,aM,bG,bG];exact r.append (ZN.repl r m)
noncomputable def ZhV:R2:=fun x y H Q=>∃(a:Addr) (j:List V) (k:Nat),x=.ref a/\y=.int k/\H a=some (.tup j)/\j≠[]/\j.length*k<=1000000/\k<=1000000/\∀p z,Zx H z->z p=some (.tup (ag k j).flatten)->Q (.ref p) z
theorem Zbv:W9 X (binaryOp .Mult) ZhV:=by
 intro j6 s σ H x y v u Q I rx ry h;obtain⟨a,xs,k,rfl,rfl,ha,hx,hz,hk,q⟩:=h;cases rx;obtain⟨t,rfl⟩:=ry;obtain⟨j,Y,p1,_⟩:=I.tuple (WS.of ha);have hl:=Y.length;have j4:j≠[]:=fun e=>by rw[e] at Y;cases Y;exact hx rfl
 have J:j.toArray.isEmpty=false:=by cases j with|nil=>exact absurd rfl j4|cons _ _=>rfl
 obtain⟨⟨cls,dd,data,sl⟩,z,hc,n,hd⟩:=id p1;simp only at hc hd;subst hc hd;have sz:(16777216:Nat)=sizeLine:=by decide
 have fl:(ag ((k:Nat):Int).toNat j.toArray).foldl (· ++ ·) #[]=((ag k j).flatten).toArray:=by
  have:=VH j k [];rw[Zj];simpa using this
 have O:((ag k j).flatten).length=k*j.length:=Ud j k;refine iT (T:="tuple") (U:="int") (by decide) ⟨_,z,rfl⟩ (fun s'=>gO s' k t) Zdp F.fills_int_mul fE Zi3 F.slot_int_index.lookup
  (cG fE (gO s k t) F.entry_int_rmul (F.args_int_rmul_2 _ _) (ZhT k t a j.toArray n dd sl) ⟨z,rfl,⟨_,z,rfl⟩,?_⟩)
 by_cases k0:k=0
 ·subst k0
  refine cG cS ⟨_,z,rfl⟩ gQ (gB _ _) (Zii a j.toArray n dd sl t J) ⟨z,?_⟩;exact⟨.ref s.heap.objs.size,_,I.laid (t':=s.toks) (o:=.tup []) (fun b ob q=>Zn _ q) (Zq _) ⟨aE _,[],.nil,ff _ _⟩,rfl,q _ _ (Zx.upd (I.hok.fresh (Zq _))) (by rw[Zv];rfl)⟩
 by_cases k1:k=1
 ·subst k1
  refine cG cS ⟨_,z,rfl⟩ gQ (gB _ _) (Zih a j.toArray n dd sl t) ⟨z,?_⟩;exact⟨.ref a,H,I,rfl,q _ _ (Zx.refl H) (by rw[ha];simp)⟩
 ·refine cG cS ⟨_,z,rfl⟩ gQ (gB _ _) (Zig a j.toArray n dd sl k t ?_ ?_ ?_ ?_ ?_ ?_) ⟨z,?_⟩
  ·simp only[Bool.or_eq_true,decide_eq_true_eq,not_or];omega
  ·rw[J];simp;omega
  ·rw[J];simp;omega
  ·rw[Zh,<-hl]
   have:((xs.length*k:Nat):Int)<=1000000:=by omega
   rw[Int.natCast_mul] at this;omega
  ·unfold fY
   rw[Zh,<-hl];have:((xs.length*k:Nat):Int)<=1000000:=by omega
   rw[Int.natCast_mul] at this;simp only[decide_eq_true_eq];omega
  ·rw[fl,Zh,O,<-hl,gD];omega
  ·rw[fl]
   exact⟨.ref s.heap.objs.size,_,I.laid (t':=s.toks) (o:=.tup (ag k xs).flatten) (fun b ob q=>Zn _ q) (Zq _) ⟨by rw[Ud,gD];omega,_,ZN.repl Y k,ff _ _⟩,rfl,q _ _ (Zx.upd (I.hok.fresh (Zq _))) Zv⟩
end
theorem gT {z:TE}{N:St->Hp->Prop}{J:St->V->Hp->Prop}{x:V}{Y:Option V}{cs:St}{H:Hp}(h:z (some x::cs) H (J (some x::cs))):Ye 0 x (Y::cs) H fun j H3=>JC j H3 fun b O=>if b=true then z j O (J j) else N j O:=by
 show if true=true then z (some x::cs) H (J (some x::cs)) else N (some x::cs) H
 rw[if_pos rfl];exact h
theorem U2 {J:It}{own:List Str}{Y:List Nat}{te:TE}{σ:St}{H:Hp}{Q:VK}{xs:List V}(G:Addr->Nat->List V->Hp->Prop)(cs:St)(j7:Jz own Y σ=none::cs)(hz:xs.length<=1000000)
  (S:∀D i j O,H D=none->O D=some (.lst j)->G D i j O->(i<xs.length->J.go i O/\∀x H2,J.yld i O x H2->H2=O/\xs[i]?=some x)/\(i=xs.length->J.stop i O))
  (h0:∀D,H D=none->G D 0 [] (upd H D (.lst [])))
  (hs:∀D (i:Nat) x j O,H D=none->O D=some (.lst j)->xs[i]?=some x->G D i j O->∀R:VK,(∀v H5,H5 D=some (.lst j)->G D (i+1) (j++[v]) (upd H5 D (.lst (j++[v])))->R v H5)->te (some x::cs) O R)
  (hd:∀D j O,H D=none->O D=some (.lst j)->j.length=xs.length->G D xs.length j O->Q (.ref D) O):JV own Y (Ye 0) JC te σ Q J H:=by
 intro D hD;refine⟨fun i m j6 O=>m=xs.length-i/\i<=xs.length/\(∃v0,j6=v0::cs)/\∃j,O D=some (.lst j)/\j.length=i/\G D i j O,⟨_,rfl,aE _,⟨none,j7⟩,[],Zv,rfl,h0 D hD⟩,?_⟩;rintro i m j6 O ⟨rfl,hi,⟨v0,rfl⟩,j,hl,hy,g⟩;obtain⟨S1,S2⟩:=S D i j O hD hl g;by_cases j4:i<xs.length
 ·refine .inr ⟨(S1 j4).1,_,fun j8 H2 z=>z,fun x H2 y=>?_⟩
  obtain⟨rfl,hx⟩:=(S1 j4).2 x H2 y;refine gT ?_;refine hs D i x j H2 hD hl hx g _ fun v H5 h5 g5=>⟨j,h5,?_,xs.length-(i+1),by omega,rfl,j4,⟨_,rfl⟩,j++[v],Zv,by rw[Zd];simp[hy],g5⟩;have:(16777216:Nat)=sizeLine:=by decide
  omega
 ·have e:i=xs.length:=by omega
  exact .inl ⟨S2 e,hd D j O hD hl (by omega) (e▸g)⟩
theorem Zi2 {X:Cx}(i:Nat)(J:List Str)(j:List Nat)(Y:List Str){scope:Scope}{elt iter tg:Expr}{ifs:List Expr}{pos z py:Pos}{y:Str}{wi:TI}{g:TG}{tc:TT}{te:TE}(hc:X.calm=true)(hf:X.fn y=true)(hi:PI X tg iter wi)
  (hg:∀O C s H ex,PG (Yt X scope O Y C s H ex) tg g) (ht:∀O C s H ex,PIf (Yt X scope O Y C s H ex) ifs tc) (he:∀O C s H ex,PE (Yt X scope O Y C s H ex) elt te)
  (hS:Ve X.N X.env.scope J j Y scope=true:=by kernel_rfl) (hy:X.N[i]?=some y:=by rfl) (hN:WJ X.N=true:=by kernel_rfl) (hx:UV X.env.scope y=true:=by kernel_rfl)
  (j4:swapsWith (.ListComp elt [⟨tg,iter,ifs,0⟩] scope pos) (some (.Name y py)) z.line X.env=pure true:=by rfl) (hs:∀x,foldedSetIterable iter X.env x=pure x:=by intro _;rfl) :
  PS X (.Assign [.Name y py] (.ListComp elt [⟨tg,iter,ifs,0⟩] scope pos) z) (Vo (Vx J j wi g tc te) (Ye i)):=ZaD rfl (.of hS) hc hi hg ht he (Yu hN) hy (X4 hx) (.inl hf) j4 hs
end L2
namespace L2
open PySem PySem.Spec PyProof.Rows
open PySem.Builtin PySem.Builtin.Str
section
variable {X:Cx}
theorem Vu:∀(l:List (Str×Tok)),ZN ((l.map (·.1)).map V.str) (strValues l)
 | []=>.nil
 |(x,t)::r=>.cons ⟨t,rfl⟩ (Vu r)
theorem VD:MtR X "str.startswith" (fun x xs H Q=>∃a b,x=.str a/\xs=[.str b]/\Q (.bl (dk a b)) H):=by
 intro j s Y H x xs v us Q I z J h;obtain⟨a,b,rfl,rfl,q⟩:=h;obtain⟨t,rfl⟩:=z;obtain⟨u,rfl,O,rfl⟩:=vals1 J;exact call_gives eJ (b8 _ _ _) F.entry_str_startswith (F.args_str_startswith_2 _ _) (gives_str_startswith a b t O) ⟨.bl (dk a b),H,I,rfl,q⟩
theorem Wq:MtR X "str.split" (fun x xs H Q=>∃a b,x=.str a/\xs=[.str b]/\(b.length == 0)=false/\a.length+2<=sizeLine/\∀p,H p=none->Q (.ref p) (upd H p (.lst ((cr a b).map V.str)))):=by
 intro J s σ H x xs v us Q I rx rv h;obtain⟨a,b,rfl,rfl,hb,hz,q⟩:=h;obtain⟨t,rfl⟩:=rx;obtain⟨u,rfl,Y,rfl⟩:=vals1 rv;have hn:(partsBetween a (occurrences a b 0 a.length (a.length+1)) b.length).length<=sizeLine:=by
  have e1:=StrLaws.occ_length_le a b 0 a.length (a.length+1);rw[length_partsBetween];omega
 have j:∀(l:List (Str×Tok)) (k:Nat),l.map (·.1)=cr a b->EP X J σ Q (.ref s.heap.objs.size) {s with heap:=s.heap.push {cls:=.type "list",data:=.seq (strValues l).toArray},toks:=k}:=fun l k e=>by
  have r:=Vu l;rw[e] at r;have ll:((cr a b).map V.str).length<=sizeLine:=by
   rw[Za];unfold cr;split
   ·show 1<=sizeLine;decide
   ·split
    ·show 1<=sizeLine;decide
    ·exact hn
  exact⟨.ref s.heap.objs.size,_,I.laid (t':=k) (fun b' o' e'=>Zn _ e') (Zq _) (show Yf X.prog X.w _ _ _ (.lst ((cr a b).map V.str)) from ⟨ll,strValues l,_,r,Zo _ rfl⟩),rfl,q _ (I.hok.fresh (Zq _))⟩
 cases z:(decide (a.length<b.length) || decide (strKind a<strKind b))
 ·cases O:(occurrences a b 0 a.length (a.length+1)).isEmpty
  ·refine cG bp (b8 _ _ _) gR (gC _ _) (meets_str_split_sep a b t Y z hb O (by omega) hn) ?_
   show wants _ _ _ {s with toks:=_,heap:=s.heap.push {cls:=.type "list",data:=.seq (strsFrom s.toks (partsBetween a (occurrences a b 0 a.length (a.length+1)) b.length)).toArray}};rw[strsFrom_eq];exact j (numbered s.toks _) _ ((numbered_texts _ _).trans ((if_neg (ne_true_of_eq_false z)).trans (if_neg (ne_true_of_eq_false O))).symm)
  ·exact cG bp (b8 _ _ _) gR (gC _ _) (meets_str_split_not_found a b t Y z hb O) (j [(a,t)] s.toks ((if_neg (ne_true_of_eq_false z)).trans (if_pos O)).symm)
 ·exact cG bp (b8 _ _ _) gR (gC _ _) (meets_str_split_cannot_occur a b t Y z) (j [(a,t)] s.toks (if_pos z).symm)
theorem ZeO:MtR X "str.partition" (fun x xs H Q=>∃a b,x=.str a/\xs=[.str b]/\(b.length == 0)=false/\a.length<=sizeLine/\∀p,H p=none->Q (.ref p) (upd H p (.tup [.str (bv a b).1,.str (bv a b).2.1,.str (bv a b).2.2]))):=by
 intro j s σ H x xs v us Q I rx rv h;obtain⟨a,b,rfl,rfl,hb,hz,q⟩:=h;obtain⟨t,rfl⟩:=rx;obtain⟨u,rfl,t2,rfl⟩:=vals1 rv;refine cG iB (b8 _ _ _) F.entry_str_partition (F.args_str_partition_2 _ _) (meets_str_partition a b t t2 hb hz) ?_;have z:∀(J O Y:Str) (ta tb tc:Tok) (k:Nat),bv a b=(J,O,Y)->EP X j σ Q (.ref s.heap.objs.size) {s with heap:=s.heap.push {cls:=.type "tuple",data:=.seq [.str J ta,.str O tb,.str Y tc].toArray},toks:=k}:=fun J O Y ta tb tc k e=>by
  rw[e] at q;exact⟨.ref s.heap.objs.size,_,I.laid (t':=k) (fun b' o' e'=>Zn _ e') (Zq _) (show Yf X.prog X.w _ _ _ (.tup [.str J,.str O,.str Y]) from ⟨by show 3<=sizeLine;decide,[.str J ta,.str O tb,.str Y tc],.cons ⟨ta,rfl⟩ (.cons ⟨tb,rfl⟩ (.cons ⟨tc,rfl⟩ .nil)),ff _ _⟩),rfl,q _ (I.hok.fresh (Zq _))⟩
 cases ho:occurrences a b 0 a.length 1 with
 |nil=>exact z _ _ _ _ _ _ _ (by unfold bv;rw[ho])
 |cons i r=>exact z _ _ _ _ _ _ _ (by unfold bv;rw[ho])
theorem Wz:Yk X (.type "int") (fun xs H Q=>∃x n,xs=[.str x]/\x.length<=640/\PySem.intText? x=some n/\Q (.int n) H):=by
 intro j s O H xs Y Q I r h;obtain⟨x,n,rfl,z,J,q⟩:=h;obtain⟨u,rfl,t,rfl⟩:=vals1 r;exact PySem.W.KIN.call_text J z ⟨.int n,H,I.tok _,⟨_,rfl⟩,q⟩
noncomputable def Zdc:V->Option Int->Option Int->Hp->VK->Prop:=fun x lo j H Q=>∃a,x=.str a/\a.length<=sizeLine/\Q (.str (db a lo j)) H
theorem JZ:SlR X Zdc:=by
 intro J s σ H x v vl vu lo hi sl Q I rx O pl pu h;obtain⟨a,rfl,Y,q⟩:=h;obtain⟨t,rfl⟩:=rx;have z:∀(j k:Nat),EP X J σ Q (.str (db a lo hi) j) {s with toks:=k}:=fun j k=>⟨.str _,H,I.tok _,⟨_,rfl⟩,q⟩;cases pl with
 |none=>cases pu with
  |none=>exact⟨"str",_,eO.lookup,b8 _ _ _,dn (l:=none) (u:=none) (st:=none) O rfl (fO ⟨aK (gA a _ _) Y,fun j k=>z j k⟩)⟩
  |int=>exact⟨"str",_,eO.lookup,b8 _ _ _,dn (l:=none) (u:=some (_,_)) (st:=none) O rfl (fO ⟨aK (gA a _ _) Y,fun j k=>z j k⟩)⟩
 |int=>cases pu with
  |none=>exact⟨"str",_,eO.lookup,b8 _ _ _,dn (l:=some (_,_)) (u:=none) (st:=none) O rfl (fO ⟨aK (gA a _ _) Y,fun j k=>z j k⟩)⟩
  |int=>exact⟨"str",_,eO.lookup,b8 _ _ _,dn (l:=some (_,_)) (u:=some (_,_)) (st:=none) O rfl (fO ⟨aK (gA a _ _) Y,fun j k=>z j k⟩)⟩
end
noncomputable def Its (x:Str):It:=⟨fun i _=>i<x.cps.toList.length,fun i H v j=>j=H/\∃c,x.cps.toList[i]?=some c/\v=.str ⟨#[c]⟩,fun i _=>x.cps.toList.length<=i⟩
theorem ZcS {P:Program}{w:World}{K:ac}{tg:Expr}(x:Str)(t:Tok)(O:Addr):Ur P w K tg (Its x) [O] O (fun i h=>h.IsStrIter O "str_ascii_iterator" x t i) where
 mem:=by simp
 obj:=fun i h st b hb=>by
  have e:b=O:=by simpa using hb
  subst e;obtain⟨o,e,c,d⟩:=st;exact⟨o,e,fun v z=>by rw[d] at z;cases z⟩
 keep:=fun i h h' st k=>by
  obtain⟨o,e,c,d⟩:=st;exact⟨o,k O (by simp) o e,c,d⟩
 item:=by
  intro X hP hw hK hc i j s σ H E I hf st J;subst hP hw hK;have J:i<x.cps.toList.length:=J;obtain⟨f0,f1,f2,f3,f4,f5⟩:=hf O (by simp);refine wpAny_pyNext_ascii_item st (c:=x.cps.toList[i]) (by rw[<-iK];exact Zf J) fun h' Y sb=>?_;have I1:Inv X j σ H {s with heap:=h',toks:=s.toks+1}:=I.turned (fun b o hb e=>(sb.2 b hb).trans e) f0 f1 f3 f4 f5;obtain⟨o,e,c,d⟩:=id Y;exact⟨_,rfl,ZbI (s:={s with heap:=h',toks:=s.toks+1}) e c d (by decide) ⟨.str ⟨#[x.cps.toList[i]]⟩,H,I1,⟨_,rfl⟩,⟨rfl,_,Zf J,rfl⟩,Y,fun b hb=>(hf b hb).1⟩⟩
 done:=by
  intro X hP hw hK hc i j s σ H E I hf st J;subst hP hw hK;have J:x.cps.toList.length<=i:=J;obtain⟨f0,f1,f2,f3,f4,f5⟩:=hf O (by simp);exact wpAny_pyNext_ascii_end (I.ok.hd hc) st (by rw[<-iK];exact bV J) fun h' eb=>⟨rfl,I.turned (t':=s.toks) (fun b o hb e=>eb b o hb e) f0 f1 f3 f4 f5⟩
 self:=fun _ _ _ _ _ st h=>wpAny_pyIter_striter_ascii st h
section
variable {X:Cx}{tg:Expr}
noncomputable def Zjf (j:TE):TI:=fun J H R=>j J H fun x O=>∃z,x=.str z/\z.cps.all (· < 128)=true/\R (Its z) O
theorem Zdg {l:Expr}{Y:TE}(hl:PE X l Y):PI X tg l (Zjf Y):=by
 intro j s σ H R I h;refine ZW (hl j s σ H _ I h) fun v J ⟨x,H1,O,r1,q1⟩=>?_;obtain⟨z,rfl,ha,q⟩:=q1;obtain⟨t,rfl⟩:=r1;refine wpAny_pyIter_ascii ha ?_;refine⟨J.heap.objs.size,[J.heap.objs.size],_,_,H1,rfl,O.kept (t':=J.toks) fun b o e=>Zn _ e,ZcS z t _,⟨_,Zo _ rfl,rfl,rfl⟩,fun b hb=>?_,q⟩;have e:b=J.heap.objs.size:=by simpa using hb
 subst e;exact O.fpOk (Zq _) (O.hok.fresh (Zq _))
end
theorem Zbl {H:Hp}(z:Str):WA (Its z) H (z.cps.toList.map fun c=>V.str ⟨#[c]⟩):=by
 refine⟨fun i J s j=>by rw[Za] at j;exact j,fun i J x Y s j y=>?_,fun J s=>by show _<=_;rw[Za];exact Zq _⟩;obtain⟨e,c,O,rfl⟩:=y;exact⟨e,by rw[Zc,O];rfl⟩
inductive YB {α:Type}:Sem α->Prop
 |fresh (k):YB (.fresh k)
 |rule (tag k):YB (k ())->YB (.rule tag k)
 |at (p k):YB (k ())->YB (.at p k)
 |point (l k):YB (k ())->YB (.point l k)
theorem YB.wp {α:Type}{t:Sem α}(h:YB t){M:Model}{z:PySem.Ctx}{Q:α->Pos->Shared->Prop}{E:Value->Pos->Shared->Prop}:∀{p:Pos}{s:Shared},Sem.wp M z t Q E p s->Sem.wp M z t (fun a J s'=>s.toks+1<=s'.toks/\Q a J s') E p s:=by
 induction h with
 |fresh k=>exact fun {p s} h=>fK M z (k s.toks) (fun _ _ _ x=>x) (fun _ _ _ x=>x.2) p _ (i8 M z (s.toks+1) (k s.toks) _ _ p {s with toks:=s.toks+1} (Zq _) h)
 |rule O k _ j=>exact fun h=>j h
 | «at» p k _ j=>exact fun h=>j h
 |point l k _ j=>exact fun h=>j h
noncomputable def PEp (X:Cx)(e:Expr)(t:TE):Prop:=
 ∀(j:List (Addr×Obj)) (s:Shared) (z:St) (H:Hp) (Q:VK),1<=s.toks->Inv X j z H s->t z H Q->wpAny (model X.prog X.w) X.A (eval e X.env) (EP X j z Q) X.xe s
noncomputable def PIt (X:Cx)(J iter:Expr)(O:TI):Prop:=
 ∀(j:List (Addr×Obj)) (s:Shared) (z:St) (H:Hp) (R:It->Hp->Prop),1<=s.toks->Inv X j z H s->O z H R->
  wpAny (model X.prog X.w) X.A (eval iter X.env) (fun v Y=>wpAny (model X.prog X.w) X.A (pyIter v) (PIE X j z J R) X.xe Y) X.xe s
noncomputable def PSp (X:Cx)(st:Stmt)(t:TS):Prop:=
 ∀(j:List (Addr×Obj)) (s:Shared) (z:St) (H:Hp) (D:YH),1<=s.toks->Inv X j z H s->t D z H->wpAny (model X.prog X.w) X.A (exec st X.env) (SP X j D) X.xe s
noncomputable def Ziz (X:Cx)(st:List Stmt)(t:TS):Prop:=
 ∀(j:List (Addr×Obj)) (s:Shared) (z:St) (H:Hp) (D:YH),1<=s.toks->Inv X j z H s->t D z H->wpAny (model X.prog X.w) X.A (execs st X.env) (SP X j D) X.xe s
section
variable {X:Cx}{tg:Expr}
noncomputable def Zhl (to:TE)(y z:Str):TE:=fun j H Q=>to j H fun x J=>∃a,x=.str a/\(y == z)=false/\a.length+(a.length+1)*z.length<=16777216/\Q (.str (Txt.replace a y z)) J
theorem Zev {o:Expr}{to:TE}{y z:Str}{j1 j2:Nat}{p1 p2 J j:Pos}(ho:PE X o to)
  (O:attributeBase o "replace" X.env (eval o X.env)=eval o X.env:=by rfl)
  (j4:((backTo j (starEach [.Constant (.str y) j1 p1,.Constant (.str z) j2 p2] X.env)).all (fun x=>!x.1) && (backToKw j (keywordEach [] X.env)).all (fun x=>x.1.isSome)
   && decide (([.Constant (.str y) j1 p1,.Constant (.str z) j2 p2]:List Expr).length+([]:List Keyword).length+(if ([]:List Keyword).isEmpty then 0 else 1)<30))=true:=by rfl)
  (Y:(J.endLine == j.line)=true:=by rfl) :
  PEp X (.Call (.Attribute o "replace" J) [.Constant (.str y) j1 p1,.Constant (.str z) j2 p2] [] j) (Zhl to y z):=by
 intro j6 s σ H Q h1 I h;refine fH O j4 Y rfl (aY (wpAny_toks_of h1 (ho j6 s σ H _ I h)) (fun v s1 ⟨ht,x,H1,I1,r1,q1⟩=>?_) fun _ _ e=>e.2);obtain⟨a,rfl,j7,hb,q⟩:=q1;obtain⟨t,rfl⟩:=r1;refine⟨"str", "str.replace",aQ,PySem.F.slot_str_replace,PySem.F.type_str_replace,b8 s1 a t,(fun _ e=>nomatch e),?_⟩;refine fm rfl (fD ?_);show wpAny _ _ (spliced [(false,eval (.Constant (.str y) j1 p1) X.env),(false,eval (.Constant (.str z) j2 p2) X.env)]) _ _ s1;refine fW (fX (fW (fX (jh ?_))));refine SC.replace (by show s1.toks≠0;omega) (by show s1.toks+1≠0;omega) (by show s1.toks≠s1.toks+1;omega) j7 hb fun t' k=>?_;exact⟨.str _,H1,(I1.tok k),⟨t',rfl⟩,q⟩
theorem Zgh {o e:Expr}{es:List Expr}{to:TE}{t:TA}{name:Str}{O j:Pos}{T id:String}{r:V->List V->Hp->VK->Prop}
  (pa:PlainAttrs T) (slot:Slot T name id) (j7:typeOf (.builtin id)=pure (.type "method_descriptor")) (hm:MtR X id r) (ho:PEp X o to) (ha:PA X (e::es) t)
  (Y:attributeBase o name X.env (eval o X.env)=eval o X.env:=by rfl)
  (j6:((backTo j (starEach (e::es) X.env)).all (fun x=>!x.1) && (backToKw j (keywordEach [] X.env)).all (fun x=>x.1.isSome)
   && decide ((e::es).length+([]:List Keyword).length+(if ([]:List Keyword).isEmpty then 0 else 1)<30))=true:=by rfl)
  (j4:(O.endLine == j.line)=true:=by rfl) (hs:starEach (e::es) X.env=(false,eval e X.env)::starEach es X.env:=by rfl) (J:(backTo j (starEach es X.env)).any (·.1)=false:=by rfl) :
  PEp X (.Call (.Attribute o name O) (e::es) [] j) (tBM X.K T r to t):=by
 intro z s σ H Q h0 I h;refine fH Y j6 j4 rfl (ZW (ho z s σ H _ h0 I h) fun v s1 ⟨x,H1,I1,r1,ty,q1⟩=>?_);obtain⟨h1,h2⟩:=ZcP I1 r1 ty;refine⟨T,id,pa,slot,j7,h1,h2,?_⟩;have hA:=ha j z s1 σ H1 _ I1 q1;rw[hs] at hA ⊢;refine fm (by show (false || (backTo j (starEach es X.env)).any (·.1))=false;rw[J] <;> rfl) (fD ?_)
 exact ZW hA fun us s2 ⟨vs,H2,I2,r2,q2⟩=>hm z s2 σ H2 x vs v us Q I2 r1 r2 q2
theorem Zje (K:ac){l:Expr}{O:TE}(Y:PEp X l O)(hK:X.K=K:=by rfl):PIt X tg l (ZdD K O):=by
 subst hK;intro j s σ H R h0 I h;refine ZW (Y j s σ H _ h0 I h) fun v z ⟨x,H1,J,r1,q1⟩=>?_;obtain⟨a,e,⟨xs,hq⟩,q⟩:=q1;subst e;cases r1;obtain⟨j4,rv,p,hz⟩:=J.list hq;refine g9 p.isList ?_;refine⟨z.heap.objs.size,[z.heap.objs.size],_,_,H1,rfl,J.kept (t':=z.toks) fun b o e=>Zn _ e,Vw a _,⟨_,Zo _ rfl,rfl,rfl⟩,fun b hb=>?_,q⟩;have e:b=z.heap.objs.size:=by simpa using hb
 subst e;exact J.fpOk (Zq _) (J.hok.fresh (Zq _))
theorem Zep {iter:Expr}{body:List Stmt}{wi:TI}{g:TG}{tb:TS}{pos:Pos}(hp:PassesOwn (model X.prog X.w) X.A X.env X.xe)(hc:X.calm=true)(hi:PIt X tg iter wi)(hg:PG X tg g)(hb:Vi X body tb)
  (hs:∀x,foldedSetIterable iter X.env x=pure x:=by intro _;rfl):PSp X (.For tg iter body [] pos) (Zho wi g tb):=by
 intro j s σ H D h0 I h;refine wpAny_For (ZW (hi j s σ H _ h0 I h) fun v s1 h1=>ZW h1 fun m4 s2 h2=>?_) hs;obtain⟨it,fp,tn,J,H2,e,I2,T,l7,f2,W,⟨m0,w0⟩,j7⟩:=h2;subst e;have O:∀{H':Hp},(∀b∈fp,H' b=none)->∀b∈fp,Xh X j H' b:=fun hn b hb=>⟨hn b hb,(f2 b hb).2⟩;refine codeAny_forLoop_any (fun n s'=>∃i Y H',Inv X j Y H' s'/\tn i s'.heap/\(∀b∈fp,H' b=none)/\W i n Y H') ?_ m0 ⟨0,σ,H2,I2,l7,fun b hb=>(f2 b hb).1,w0⟩;rintro n s3 ⟨i,j4,H3,I3,j8,j9,w3⟩;rcases j7 i n j4 H3 w3 with ⟨stop,qn⟩|⟨go,N,hN,step⟩
 ·refine bt hp (ZW (T.done X rfl rfl rfl hc i j s3 j4 H3 X.xe I3 (O j9) j8 stop) fun r s4 ⟨hr,I4⟩=>?_)
  subst hr;exact df ⟨j4,H3,I4,qn⟩
 ·refine bt hp (ZW (T.item X rfl rfl rfl hc i j s3 j4 H3 X.xe I3 (O j9) j8 go) fun r s4 ⟨u,hr,h4⟩=>?_)
  subst hr;refine bt hp (ZW h4 fun _ s5 ⟨x,H5,I5,r5,y5,j6,l8⟩=>?_);have l9:=I5.pinned (O l8) (T.obj _ _ j6);refine bt hp (ZW (hg _ s5 j4 H5 x u _ l9 r5 (step x H5 y5)) fun _ s6 ⟨m3,H6,I6,q6⟩=>?_);refine bt hp (ZW (hb _ s6 m3 H6 _ I6 q6) fun f s7 q7=>?_);have again:∀{z:St}{H7:Hp},Inv X (j++Jr fp s5.heap) z H7 s7->N z H7->∃m,m<n/\∃i Y H',Inv X j Y H' s7/\tn i s7.heap/\(∀b∈fp,H' b=none)/\W i m Y H':=fun {z H7} I7 n7=>by
   obtain⟨m',hm,w7⟩:=hN z H7 n7;refine⟨m',hm,i+1,z,H7,I7.unpinned,T.keep _ _ _ j6 fun b hb o e=>(I7.pin (b,o) (am _ (am _ (Yr hb e)))).1,fun b hb=>?_,w7⟩;obtain⟨o,e,d⟩:=T.obj _ _ j6 b hb;exact (I7.pin (b,o) (am _ (am _ (Yr hb e)))).2.1
  cases f with
  |next=>obtain⟨z,H7,I7,n7⟩:=q7;exact again I7 n7
  |cont=>obtain⟨z,H7,I7,n7⟩:=q7;exact again I7 n7
  |brk=>obtain⟨z,H7,I7,q7⟩:=q7;exact⟨z,H7,I7.unpinned,q7⟩
  |ret v=>obtain⟨x7,z,H7,I7,r7,q7⟩:=q7;exact⟨x7,z,H7,I7.unpinned,r7,q7⟩
theorem Zb6 {st:Stmt}{rest:List Stmt}{t u:TS}(J:PSp X st t)(O:Vi X rest u):Ziz X (st::rest) (Vm t u):=by
 intro j s Y H D h0 I h;refine fB (ZW (J j s Y H {D with nx:=u D} h0 I h) fun f s1 q=>?_);cases f with
 |next=>
  obtain⟨z,H',I',q⟩:=q;exact O j s1 z H' D I' q
 |ret v=>exact q
 |brk=>exact q
 |cont=>exact q
end
end L2
namespace L2
open PySem PySem.Spec PyProof.Rows
noncomputable def Xo {α:Type}(t:Sem α):Prop:=∀(M:Model) (j:PySem.Ctx) (Q:α->Pos->Shared->Prop) (E:Value->Pos->Shared->Prop) (p:Pos) (s:Shared),Sem.wp M j t Q E p s->Sem.wp M j t (fun a J z=>s.toks+1<=z.toks/\Q a J z) E p s
theorem YB.frS {α:Type}{t:Sem α}(h:YB t):Xo t:=fun _ _ _ _ _ _ w=>h.wp w
theorem Xo.bind {α O:Type}{t:Sem α}{f:α->Sem O}(h:Xo t):Xo (t >>= f):=by
 intro M j Q E p s w;rw[Sem.wp_bind'] at w ⊢;refine fK M j t (fun a z J x=>?_) (fun _ _ _ x=>x) p s (h M j _ E p s w);exact fK M j (f a) (fun _ _ _ y=>y) (fun _ _ _ y=>y.2) z J (i8 M j (s.toks+1) (f a) _ _ z J x.1 x.2)
theorem Xo.after {α O:Type}{t:Sem α}{f:α->Sem O}(h:∀a,Xo (f a)):Xo (t >>= f):=by
 intro M j Q E p s w;rw[Sem.wp_bind'] at w ⊢;refine fK M j t (fun a z J x=>?_) (fun _ _ _ x=>x.2) p s (i8 M j s.toks t _ _ p s (Zq _) w);exact fK M j (f a) (fun _ _ _ y=>⟨by omega,y.2⟩) (fun _ _ _ y=>y) z J (h a M j _ _ z J x.2)
theorem Xo.any {α:Type}{t:Sem α}(h:Xo t){M:Model}{A:Around}{Q:α->Shared->Prop}{E:Value->Shared->Prop}{s:Shared}(w:wpAny M A t Q E s):wpAny M A t (fun a s'=>s.toks+1<=s'.toks/\Q a s') E s:=
 fun z p j=>h M z _ _ p s (w z p j)
theorem ZeZ {env:Env}{i:Int}{k:Nat}{pos:Pos}:Xo (eval (.Constant (.int i) k pos) env):=YB.frS (.fresh _)
theorem ZeW {x:Sem Value}{r:List (Bool×Sem Value)}(h:Xo x):Xo (spliced ((false,x)::r)):=by
 rw[spliced];exact h.bind
theorem ZeY {env:Env}{c:Expr}{pos:Pos}(h:Xo (eval c env))(j:starEach [c] env=[(false,eval c env)]):Xo (eval (.List [c] pos) env):=by
 show Xo (standAt pos >>= fun _=>spliced (backTo pos (starEach [c] env)) >>= fun z=>newList z);rw[j];exact Xo.after fun _=>Xo.bind (ZeW h)
theorem Ze0 {env:Env}{l r:Expr}{op:hZ}{pos:Pos}(h:Xo (eval l env)):Xo (eval (.BinOp l op r pos) env):=by
 show Xo (eval l env >>= _);exact h.bind
theorem Ze1 {env:Env}{ts:List Expr}{v:Expr}{pos:Pos}(h:Xo (eval v env))(j:swapsWithSole ts v pos.line env=pure false):Xo (exec (.Assign ts v pos) env):=by
 rw[exec_Assign_arm,j];refine Xo.after fun _=>?_;show Xo (eval v env >>= _);exact h.bind
theorem ZeX {env:Env}{ts:List Expr}{i:Int}{k:Nat}{j z J pos:Pos}{op:hZ}{r:Expr}(O:swapsWithSole ts (.BinOp (.List [.Constant (.int i) k j] z) op r J) pos.line env=pure false:=by rfl) :
  Xo (exec (.Assign ts (.BinOp (.List [.Constant (.int i) k j] z) op r J) pos) env):=Ze1 (Ze0 (ZeY ZeZ rfl)) O
theorem Zb7 {X:Cx}{st:Stmt}{rest:List Stmt}{t u:TS}(hb:Xo (exec st X.env))(J:PS X st t)(O:Ziz X rest u):Vi X (st::rest) (Vm t u):=by
 intro j s Y H D I h;refine fB (ZW (hb.any (J j s Y H {D with nx:=u D} I h)) fun f s1 ⟨ht,q⟩=>?_);cases f with
 |next=>
  obtain⟨z,H',I',q⟩:=q;exact O j s1 z H' D (by omega) I' q
 |ret v=>exact q
 |brk=>exact q
 |cont=>exact q
theorem ZdI {X:Cx}:ZiA X (fun x y H Q=>∃(p:Addr) (xs:List V) (i:Nat) (v:V),x=.ref p/\y=.int i/\H p=some (.lst xs)/\xs[i]?=some v/\Q v H):=by
 intro z s σ H x y O iv Q I Y ry h;obtain⟨p,xs,i,v,rfl,rfl,hp,J,q⟩:=h;cases (show O=au p from Y);obtain⟨t,rfl⟩:=ry;obtain⟨j4,r,pl,hz⟩:=I.list (.of hp);obtain⟨w,ew,j⟩:=r.get J;have hl:=r.length;have hn:=Ju;have hi:i<xs.length:=(aH.mp J).1;exact wpAny_getItem_list pl.isList (jA _) (by omega) (by simpa using ew) ⟨v,H,I,j,q⟩
end L2
namespace Tx
open PySem PySem.Builtin PySem.Builtin.Str
noncomputable def tx (l:List Nat):Str:=⟨l.toArray⟩
theorem ZY (l:List Nat):(tx l).cps.toList=l:=rfl
theorem Zfn (x:Str):tx x.cps.toList=x:=rfl
theorem ZcQ {a b:List Nat}(h:tx a=tx b):a=b:=by
 have:=congrArg (fun x:Str=>x.cps.toList) h;exact this
theorem JF {x y:Str}(h:x.cps.toList=y.cps.toList):x=y:=by rw[<-Zfn x,<-Zfn y,h]
theorem Yi (a b:List Nat):tx a++tx b=tx (a++b):=JF (by
 show (a.toArray++b.toArray).toList=_;rw[cO];rfl)
theorem ZC (l:List Nat):(tx l).length=l.length:=rfl
theorem ZcR (l:List Nat)(p:Nat->Bool):(tx l).cps.all p=l.all p:=by
 show l.toArray.all p=_;simp
noncomputable def Yc (c:Nat):List (List Nat)->List Nat
 | []=>[]
 | [p]=>p
 |p::q::r=>p++c::Yc c (q::r)
theorem Wb (c:Nat):∀j:List (List Nat),eG ⟨#[c]⟩ (j.map tx)=tx (Yc c j)
 | []=>rfl
 | [p]=>rfl
 |p::q::r=>by
  show tx p ++ ⟨#[c]⟩ ++ eG ⟨#[c]⟩ ((q::r).map tx)=_;rw[Wb c (q::r)];show tx p++tx [c]++_=_;rw[Yi,Yi];show tx (p++[c]++Yc c (q::r))=tx (p++c::Yc c (q::r));rw[aw];rfl
theorem ZbR {c:Nat}:∀{p j a b:List Nat},c∉p->c∉j->p++c::a=j++c::b->p=j/\a=b
 | [],[],a,b,_,_,h=>⟨rfl,(dY h).2⟩
 | [],y::q,a,b,_,J,h=>absurd (by rw[(dY h).1];exact ah) J
 |x::p,[],a,b,O,_,h=>absurd (by rw[<-(dY h).1];exact ah) O
 |x::p,y::q,a,b,O,J,h=>by
  obtain⟨Y,e2⟩:=dY h;obtain⟨e3,e4⟩:=ZbR (fun z=>O (ae _ z)) (fun z=>J (ae _ z)) e2;exact⟨by rw[Y,e3],e4⟩
theorem J8 {c:Nat}:∀{J O:List (List Nat)},J≠[]->O≠[]->(∀p∈J,c∉p)->(∀p∈O,c∉p)->Yc c J=Yc c O->J=O
 | [],_,h,_,_,_,_=>absurd rfl h
 |_::_,[],_,h,_,_,_=>absurd rfl h
 | [p],[q],_,_,_,_,h=>by rw[show p=q from h]
 | [p],q::q'::r,_,_,j,z,h=>absurd (by
   have h:p=q++c::Yc c (q'::r):=h;rw[h];simp) (j p ah)
 |p::p'::r,[q],_,_,j,z,h=>absurd (by
   have h:p++c::Yc c (p'::r)=q:=h;rw[<-h];simp) (z q ah)
 |p::p'::r,q::q'::r',_,_,j,z,h=>by
  obtain⟨e1,e2⟩:=ZbR (j p ah) (z q ah) h;rw[e1,J8 (by simp) (by simp) (fun x Y=>j x (ae _ Y)) (fun x Y=>z x (ae _ Y)) e2]
theorem Zc1 (x y:Str):cr x y≠[]:=by
 unfold cr;split
 ·simp
 split
 ·simp
 ·rw[StrLaws.partsBetween_eq]
  obtain⟨p,r,e⟩:=StrLaws.partsFrom_ne x y.length 0 (occurrences x y 0 x.length (x.length+1));rw[e];simp
theorem UA {c:Nat}{j:List (List Nat)}(h:j≠[])(hf:∀p∈j,c∉p):cr (tx (Yc c j)) ⟨#[c]⟩=j.map tx:=by
 have z:=iN (tx (Yc c j)) ⟨#[c]⟩;have J:=iM (tx (Yc c j)) c;have O:=Zc1 (tx (Yc c j)) ⟨#[c]⟩;generalize cr (tx (Yc c j)) ⟨#[c]⟩=Y at z J O;have eq:Y=(Y.map fun x=>x.cps.toList).map tx:=by
  rw[a7];exact (gv _).symm
 rw[eq,Wb] at z;rw[eq,J8 (c:=c) (by simpa using O) h (fun p hp=>by
  obtain⟨x,hx,rfl⟩:=aV.mp hp;exact J x hx) hf (ZcQ z)]
noncomputable def rep (l:List Nat):List Nat:=l.flatMap fun c=>if c=45 then [43,45] else [c]
theorem WE (a b:List Nat):rep (a++b)=rep a++rep b:=by unfold rep;rw[List.flatMap_append]
theorem WV:∀{l:List Nat},45∉l->rep l=l
 | [],_=>rfl
 |c::l,h=>by
  have j:c≠45:=fun z=>h (by rw[z];exact ah);show (if c=45 then [43,45] else [c])++rep l=_
  rw[if_neg j,WV fun z=>h (ae _ z)];rfl
theorem Vz:∀(j:List Str),(∀p∈j,45∉p.cps.toList)->(eG ⟨#[43,45]⟩ j).cps.toList=rep (eG ⟨#[45]⟩ j).cps.toList
 | [],_=>rfl
 | [p],h=>(WV (h p ah)).symm
 |p::q::r,h=>by
  have z:=Vz (q::r) fun x J=>h x (ae _ J);show (p.cps ++ #[43,45]++(eG ⟨#[43,45]⟩ (q::r)).cps).toList=rep (p.cps ++ #[45]++(eG ⟨#[45]⟩ (q::r)).cps).toList;rw[cO,cO,cO,cO,z,WE,WE,WV (h p ah)];rfl
theorem Zbp (l:List Nat):Txt.replace (tx l) ⟨#[45]⟩ ⟨#[43,45]⟩=tx (rep l):=by
 rw[StrLaws.replace_one];refine JF ?_;rw[Vz _ (iM (tx l) 45),iN];rfl
theorem ZeB {c:Nat}{a b:List Nat}(h:c∉a):bv (tx (a++c::b)) ⟨#[c]⟩=(tx a,⟨#[c]⟩,tx b):=by
 unfold bv;have j:StrLaws.At (tx (a++c::b)) ⟨#[c]⟩ (tx (a++c::b)).length a.length:=(bX _ _ _).mpr (by
  rw[ZY,aP (Zq _),dX];rfl)
 rcases gm (tx (a++c::b)) ⟨#[c]⟩ 1 (Zq _) with ⟨_,J⟩|⟨i,r,e,O,hm⟩
 ·exact absurd j (J _)
 ·have Y:i=a.length:=by
   rcases jJ i a.length with z|z|z
   ·have:=(bX _ _ _).mp O
    rw[ZY,a6 z] at this;exact absurd (aN this) h
   ·exact z
   ·exact absurd j (hm _ z)
  rw[e,Y];show (strSub _ 0 a.length,_,strSub _ (a.length+1) (tx (a++c::b)).length)=_;have e1:strSub (tx (a++c::b)) 0 a.length=tx a:=JF (by
   rw[ir,ZY,ZY];show (a++c::b).take a.length=a;rw[dJ (Zq _),cK])
  have e2:strSub (tx (a++c::b)) (a.length+1) (tx (a++c::b)).length=tx b:=JF (by
   rw[ir,ZY,ZY,gJ,ZC,bH (de _)];rw[show a.length+1-a.length=1 by omega,Zd,Zi];show List.take _ b=b;rw[bR (by omega)])
  rw[e1,e2]
theorem Zcc {c:Nat}{a:List Nat}(h:c∉a):bv (tx a) ⟨#[c]⟩=(tx a,fi,fi):=by
 unfold bv;rcases gm (tx a) ⟨#[c]⟩ 1 (Zq _) with ⟨e,z⟩|⟨i,r,e,j,hm⟩
 ·rw[e]
 ·exact absurd (aN ((bX _ _ _).mp j)) h
end Tx
namespace Tx
open PySem PySem.Builtin PySem.Builtin.Str PySem.NumText PyProof.Rows PySem.W PySem.W.KIN
noncomputable def ZL (n:Nat):List Nat:=(Nat.toDigits 10 n).map gj
theorem Z6 (n:Nat):bY (ZL n):=by
 intro c z;obtain⟨J,j,e⟩:=aV.mp z;have r:=digit_range (Nat.isDigit_of_mem_toDigits (by decide) (by decide) j);rw[<-e];exact r
theorem WM (n:Nat):ZL n≠[]:=by
 intro e;have h:=toDigits_len_ge 10 n;rw[List.map_eq_nil_iff.mp e] at h;exact absurd h (by decide)
theorem Wu (n:Nat):digitsVal (ZL n)=n:=val_back n
theorem W6 {n k:Nat}(j:1<=k)(h:n<10 ^ k):(ZL n).length<=k:=by
 unfold ZL;rw[Za];exact digits10_le j h
noncomputable def Y1 (k:Int):List Nat:=if k<0 then 45::ZL k.natAbs else ZL k.natAbs
theorem str_int (k:Int):(ar (toString k))=tx (Y1 k):=by
 refine JF ?_;rw[ZY];unfold Y1;cases k with
 |ofNat m=>
  rw[if_neg (show ¬(Int.ofNat m<0) from fun h=>absurd h (by simp))];exact signs_num m
 |negSucc m=>
  rw[if_pos (Int.negSucc_lt_zero m),signs_ofString];show (("-" ++ Nat.repr (m+1)).toList).map gj=_;rw[String.toList_append,Nat.toList_repr,aU];rfl
noncomputable def wd (k:Int)(p:Nat):List Nat:=if p=0 then Y1 k else (if k.natAbs=1 then (if k > 0 then [] else [45]) else Y1 k)++122::(if p=1 then [] else ZL p)
noncomputable def WC (j:List Nat):List Int->Nat->List Nat
 | [],_=>j
 |k::r,p=>if k=0 then WC j r (p+1) else WC (j++(if j≠[]/\k > 0 then [43] else [])++wd k p) r (p+1)
noncomputable def Wn (xs:List Int):List Nat:=if WC [] xs 0=[] then [48] else WC [] xs 0
noncomputable def Z2 (c:Nat):List Nat->List (List Nat)
 | []=>[[]]
 |x::r=>if x=c then []::Z2 c r else match Z2 c r with
  | []=>[[x]]
  |p::j=>(x::p)::j
theorem YM (c:Nat)(l:List Nat):Z2 c l≠[]:=by
 cases l with
 |nil=>simp[Z2]
 |cons x r=>
  unfold Z2;split
  ·simp
  ·split <;> simp
theorem WU (c:Nat):∀l:List Nat,∀p∈Z2 c l,c∉p
 | [],p,j=>by rw[aq.mp j];simp
 |x::r,p,j=>by
  have z:=WU c r;unfold Z2 at j;by_cases J:x=c
  ·rw[if_pos J] at j
   rcases aj.mp j with rfl|j
   ·simp
   ·exact z p j
  ·rw[if_neg J] at j
   cases e:Z2 c r with
   |nil=>exact absurd e (YM c r)
   |cons q O=>
    rw[e] at j z;rcases aj.mp j with rfl|j
    ·intro h
     rcases aj.mp h with h|h
     ·exact J h.symm
     ·exact z q ah h
    ·exact z p (ae _ j)
theorem W1 (c:Nat):∀l:List Nat,Yc c (Z2 c l)=l
 | []=>rfl
 |x::r=>by
  have j:=W1 c r;unfold Z2;by_cases J:x=c
  ·rw[if_pos J]
   cases e:Z2 c r with
   |nil=>exact absurd e (YM c r)
   |cons q z=>
    rw[e] at j;show []++c::Yc c (q::z)=_;rw[j,J];rfl
  ·rw[if_neg J]
   cases e:Z2 c r with
   |nil=>exact absurd e (YM c r)
   |cons q z=>
    rw[e] at j;cases z with
    |nil=>
     have j:q=r:=j;rw[<-j];rfl
    |cons O z=>
     have j:q++c::Yc c (O::z)=r:=j;rw[<-j];rfl
theorem Zb1 (c:Nat)(l:List Nat):cr (tx l) ⟨#[c]⟩=(Z2 c l).map tx:=by
 have:=UA (YM c l) (WU c l);rw[W1] at this;exact this
theorem UB {c:Nat}{j:List (List Nat)}(h:j≠[])(z:∀p∈j,c∉p):Z2 c (Yc c j)=j:=
 J8 (YM _ _) h (WU _ _) z (W1 _ _)
noncomputable def Wj (l:List Nat):Bool:=!l.isEmpty && l.all fun c=>decide (48<=c) && decide (c<=57)
theorem YA {l:List Nat}:Wj l=true↔l≠[]/\bY l:=by
 unfold Wj bY;cases l with
 |nil=>simp
 |cons c r=>simp
theorem Xb (n:Nat):Wj (ZL n)=true:=YA.mpr ⟨WM n,Z6 n⟩
noncomputable def ZX:List Nat->List Nat×Bool×List Nat
 | []=>([],false,[])
 |x::r=>if x=122 then ([],true,r) else (x::(ZX r).1,(ZX r).2)
theorem Ji:∀{l:List Nat},122∉l->ZX l=(l,false,[])
 | [],_=>rfl
 |x::r,h=>by
  unfold ZX;rw[if_neg (fun z=>h (by rw[z];exact ah)),Ji fun z=>h (ae _ z)]
theorem Jh:∀{a b:List Nat},122∉a->ZX (a++122::b)=(a,true,b)
 | [],b,_=>by
  show ZX (122::b)=_;unfold ZX;rw[if_pos rfl]
 |x::a,b,h=>by
  show ZX (x::(a++122::b))=_;unfold ZX;rw[if_neg (fun z=>h (by rw[z];exact ah)),Jh fun z=>h (ae _ z)]
theorem Wv:∀l:List Nat,122∉(ZX l).1/\l=if (ZX l).2.1=true then (ZX l).1++122::(ZX l).2.2 else (ZX l).1
 | []=>⟨by simp[ZX],rfl⟩
 |x::r=>by
  obtain⟨O,j⟩:=Wv r;unfold ZX;by_cases J:x=122
  ·rw[if_pos J]
   exact⟨by simp,by rw[J];rfl⟩
  ·rw[if_neg J]
   refine⟨fun z=>?_,?_⟩
   ·rcases aj.mp z with z|z
    ·exact J z.symm
    ·exact O z
   ·show x::r=if (ZX r).2.1=true then x::(ZX r).1++122::(ZX r).2.2 else x::(ZX r).1
    by_cases hb:(ZX r).2.1=true
    ·rw[if_pos hb] at j ⊢
     rw[gK,<-j]
    ·rw[if_neg hb] at j ⊢
     rw[<-j]
theorem Zcd (l:List Nat):bv (tx l) ⟨#[122]⟩=(tx (ZX l).1,(if (ZX l).2.1=true then ⟨#[122]⟩ else fi),tx (if (ZX l).2.1=true then (ZX l).2.2 else [])):=by
 obtain⟨z,j⟩:=Wv l;by_cases hb:(ZX l).2.1=true
 ·rw[if_pos hb] at j
  rw[if_pos hb,if_pos hb];have:=ZeB (b:=(ZX l).2.2) z;rw[<-j] at this;exact this
 ·rw[if_neg hb] at j
  rw[if_neg hb,if_neg hb];have:=Zcc z;rw[<-j] at this;rw[<-j];exact this
noncomputable def neg (l:List Nat):Bool:=l.head? == some 45
noncomputable def Wt (l:List Nat):List Nat:=if neg l=true then (ZX l).1.drop 1 else (ZX l).1
noncomputable def ZaE (l:List Nat):List Nat:=if (ZX l).2.1=true then (if (ZX l).2.2=[] then [49] else (ZX l).2.2) else [48]
noncomputable def Vs (l:List Nat):List Nat:=if (ZX l).2.1=true/\Wt l=[] then [49] else Wt l
noncomputable def rdP (l:List Nat):Option (Int×Nat):=if Wj (Vs l)=true/\Wj (ZaE l)=true then some ((if neg l=true then -1 else 1)*(digitsVal (Vs l):Nat),digitsVal (ZaE l)) else none
theorem Zbz {l:List Nat}(h:bY l):122∉l/\45∉l/\43∉l:=⟨fun z=>by have:=h _ z;omega,fun z=>by have:=h _ z;omega,fun z=>by have:=h _ z;omega⟩
theorem ZeL {l:List Nat}(h:bY l)(r:List Nat)(j:l≠[]):neg (l++r)=false:=by
 cases l with
 |nil=>exact absurd rfl j
 |cons c l=>
  have:=h c ah;unfold neg;show (some c == some 45)=false;simp;omega
noncomputable def ahd (k:Int)(p:Nat):List Nat:=if p=0 then ZL k.natAbs else if k.natAbs=1 then [] else ZL k.natAbs
noncomputable def Vg (p:Nat):List Nat:=if p=0 then [] else 122::(if p=1 then [] else ZL p)
theorem Uw (k:Int)(p:Nat)(O:k≠0):wd k p=(if k<0 then [45] else [])++ahd k p++Vg p:=by
 unfold wd ahd Vg Y1;by_cases j:p=0
 ·rw[if_pos j,if_pos j,if_pos j,aI]
  split <;> rfl
 ·rw[if_neg j,if_neg j,if_neg j]
  by_cases z:k.natAbs=1
  ·rw[if_pos z,if_pos z]
   by_cases J:k<0
   ·rw[if_neg (by omega),if_pos J];rfl
   ·rw[if_pos (by omega),if_neg J];rfl
  ·rw[if_neg z,if_neg z]
   split <;> rfl
theorem Uq (k:Int)(p:Nat):bY (ahd k p):=by
 unfold ahd;split
 ·exact Z6 _
 ·split
  ·intro c j;cases j
  ·exact Z6 _
theorem Zbk (k:Int){c:Nat}(j:c≠45):c∉(if k<0 then [45] else []:List Nat):=by
 split
 ·intro z;exact j (aq.mp z)
 ·simp
theorem Zf1 {k:Int}(hk:k≠0)(p:Nat):rdP (wd k p)=some (k,p):=by
 rw[Uw k p hk];have hd:=Uq k p;obtain⟨z1,z2,z3⟩:=Zbz hd;have hz:122∉(if k<0 then [45] else [])++ahd k p:=fun z=>(aD.mp z).elim (Zbk k (by decide)) z1
 have Y:neg ((if k<0 then [45] else [])++ahd k p++Vg p)=decide (k<0):=by
  by_cases J:k<0
  ·rw[if_pos J,decide_eq_true J];rfl
  ·rw[if_neg J,decide_eq_false J,br]
   by_cases h0:ahd k p=[]
   ·rw[h0]
    unfold Vg;split
    ·rfl
    ·rfl
   ·exact ZeL hd _ h0
 have O:ZX ((if k<0 then [45] else [])++ahd k p++Vg p)=((if k<0 then [45] else [])++ahd k p,decide (p≠0),if p=0 then [] else if p=1 then [] else ZL p):=by
  by_cases j:p=0
  ·have:Vg p=[]:=by unfold Vg;rw[if_pos j]
   rw[this,aI,Ji hz,if_pos j];simp[j]
  ·have:Vg p=122::(if p=1 then [] else ZL p):=by unfold Vg;rw[if_neg j]
   rw[this,Jh hz,if_neg j];simp[j]
 have j4:Wt ((if k<0 then [45] else [])++ahd k p++Vg p)=ahd k p:=by
  unfold Wt;rw[Y,O];by_cases J:k<0
  ·rw[if_pos (decide_eq_true J),if_pos J];rfl
  ·rw[if_neg (by simp[J]),if_neg J];rfl
 have hP:ZaE ((if k<0 then [45] else [])++ahd k p++Vg p)=ZL p:=by
  unfold ZaE;rw[O];by_cases j:p=0
  ·rw[if_neg (by simp[j]),j];rfl
  ·rw[if_pos (by simp[j])]
   show (if (if p=0 then [] else if p=1 then [] else ZL p)=[] then [49] else (if p=0 then [] else if p=1 then [] else ZL p))=ZL p
   rw[if_neg j];by_cases h1:p=1
   ·rw[if_pos h1,if_pos rfl,h1];rfl
   ·rw[if_neg h1,if_neg (WM p)]
 have hF:Vs ((if k<0 then [45] else [])++ahd k p++Vg p)=ZL k.natAbs:=by
  unfold Vs;rw[j4,O];by_cases j:p=0
  ·rw[if_neg (by simp[j])]
   unfold ahd;rw[if_pos j]
  ·unfold ahd
   rw[if_neg j];by_cases h1:k.natAbs=1
   ·rw[if_pos h1,if_pos ⟨by simp[j],rfl⟩,h1];rfl
   ·rw[if_neg h1,if_neg (fun z=>WM _ z.2)]
 unfold rdP;rw[hF,hP,if_pos ⟨Xb _,Xb _⟩,Wu,Wu,Y];by_cases J:k<0
 ·rw[if_pos (decide_eq_true J)]
  congr 2;omega
 ·rw[if_neg (by simp[J])]
  congr 2;omega
theorem Zda:rdP [48]=some (0,0):=by decide
theorem Jv {c:Nat}(w:List Nat):∀{j:List (List Nat)},j≠[]->Yc c (j++[w])=Yc c j++c::w
 | [],h=>absurd rfl h
 | [p],_=>rfl
 |p::q::r,_=>by
  show p++c::Yc c (q::r++[w])=p++c::Yc c (q::r)++c::w;rw[Jv w (by simp),aw,gK]
theorem Uv (k:Int)(p:Nat):wd k p≠[]:=by
 unfold wd;split
 ·unfold Y1
  split
  ·simp
  ·exact WM _
 ·simp
theorem JS (p:Nat){c:Nat}(j:c≠122)(J:¬(48<=c/\c<=57)):c∉Vg p:=by
 unfold Vg;split
 ·simp
 ·intro z
  rcases aj.mp z with z|z
  ·exact j z
  ·split at z
   ·cases z
   ·exact J (Z6 _ _ z)
theorem Zeb {k:Int}(j:k≠0)(p:Nat):43∉wd k p:=by
 rw[Uw k p j];intro z;rcases aD.mp z with z|z
 ·rcases aD.mp z with z|z
  ·exact Zbk k (by decide) z
  ·exact (Zbz (Uq k p)).2.2 z
 ·exact JS p (by decide) (by decide) z
theorem ZaA {k:Int}(j:k≠0)(p:Nat):rep (wd k p)=(if k<0 then [43] else [])++wd k p:=by
 rw[Uw k p j,WE,WE,WV (Zbz (Uq k p)).2.1,WV (JS p (by decide) (by decide))];split <;> rfl
noncomputable def nzw:List Int->Nat->List (List Nat)
 | [],_=>[]
 |k::r,p=>if k=0 then nzw r (p+1) else wd k p::nzw r (p+1)
noncomputable def Xa (j:List (List Nat)):List (List Nat):=j.filter fun w=>!w.isEmpty
theorem J9 (j:List (List Nat)){w:List Nat}(h:w≠[]):Xa (j++[w])=Xa j++[w]:=by
 unfold Xa;rw[List.filter_append];congr 1;cases w with
 |nil=>exact absurd rfl h
 |cons c r=>rfl
theorem XQ:∀(xs:List Int) (p:Nat) (acc:List Nat) (j:List (List Nat)),j≠[]->(∀w∈j,43∉w)->rep acc=Yc 43 j->(acc=[]->j=[[]])->
  ∃O,O≠[]/\(∀w∈O,43∉w)/\rep (WC acc xs p)=Yc 43 O/\Xa O=Xa j++nzw xs p
 | [],p,acc,j,h1,h2,h3,_=>⟨j,h1,h2,h3,by show _=_++[];rw[aI]⟩
 |k::r,p,acc,j,h1,h2,h3,h4=>by
  unfold WC nzw;by_cases hk:k=0
  ·rw[if_pos hk,if_pos hk]
   exact XQ r (p+1) acc j h1 h2 h3 h4
  ·rw[if_neg hk,if_neg hk]
   have hw:=Uv k p;have hf:=Zeb hk p;have fr:∀w∈j++[wd k p],43∉w:=fun w j4=>by
    rcases aD.mp j4 with z|z
    ·exact h2 w z
    ·rw[aq.mp z];exact hf
   have Y:∀J,J≠[]->(∀w∈J,43∉w)->Xa J=Xa j++[wd k p]->rep (acc++(if acc≠[]/\k > 0 then [43] else [])++wd k p)=Yc 43 J->
     ∃O,O≠[]/\(∀w∈O,43∉w)/\rep (WC (acc++(if acc≠[]/\k > 0 then [43] else [])++wd k p) r (p+1))=Yc 43 O/\Xa O=Xa j++wd k p::nzw r (p+1):=fun J a1 a2 a3 a4=>by
    obtain⟨O,b1,b2,b3,b4⟩:=XQ r (p+1) (acc++(if acc≠[]/\k > 0 then [43] else [])++wd k p) J a1 a2 a4 (fun z=>absurd (fx.mp z).2 hw)
    exact⟨O,b1,b2,b3,by rw[b4,a3,aw];rfl⟩
   by_cases hn:k<0
   ·refine Y (j++[wd k p]) (by simp) fr (J9 j hw) ?_
    rw[if_neg (fun z=>by omega),aI,WE,ZaA hk,if_pos hn,Jv _ h1,h3];rfl
   ·by_cases ha:acc=[]
    ·refine Y [wd k p] (by simp) (fun w j4=>by rw[aq.mp j4];exact hf) ?_ ?_
     ·rw[h4 ha]
      have:=J9 [] hw;exact this
     ·rw[if_neg (fun z=>z.1 ha),aI,ha,br,ZaA hk,if_neg hn]
      rfl
    ·refine Y (j++[wd k p]) (by simp) fr (J9 j hw) ?_
     rw[if_pos ⟨ha,by omega⟩,WE,WE,ZaA hk,if_neg hn,Jv _ h1,h3,aw];rfl
theorem Zay:∀(xs:List Int) (p:Nat) {acc:List Nat},acc≠[]->WC acc xs p≠[]
 | [],_,_,h=>h
 |k::r,p,acc,h=>by
  unfold WC;split
  ·exact Zay r (p+1) h
  ·exact Zay r (p+1) (by simp[h])
theorem VY:∀(xs:List Int) (p:Nat),WC [] xs p=[]->xs=ag xs.length 0
 | [],_,_=>rfl
 |k::r,p,h=>by
  unfold WC at h;by_cases j:k=0
  ·rw[if_pos j] at h
   rw[Zi,aM,<-VY r (p+1) h,j]
  ·rw[if_neg j] at h
   exact absurd h (Zay r (p+1) (by simp[Uv]))
noncomputable def Yv (f:List Int)(p:Nat):Int:=f.getD p 0
noncomputable def Y4 (f:List Int)(w:List Nat):Option (List Int):=
 if w=[] then some f else match rdP w with
  |none=>none
  |some (k,p)=>if p<f.length then some (f.set p (Yv f p+k)) else none
noncomputable def putAll:List Int->List (List Nat)->Option (List Int)
 |f,[]=>some f
 |f,w::j=>match Y4 f w with
  |none=>none
  |some g=>putAll g j
theorem WW:∀(j:List (List Nat)) (f:List Int),putAll f j=putAll f (Xa j)
 | [],f=>rfl
 |w::j,f=>by
  cases w with
  |nil=>
   show putAll f j=putAll f (Xa j);exact WW j f
  |cons c r=>
   show (match Y4 f (c::r) with|none=>none|some g=>putAll g j)=(match Y4 f (c::r) with|none=>none|some g=>putAll g (Xa j))
   cases Y4 f (c::r) with
   |none=>rfl
   |some g=>exact WW j g
theorem J4:∀(xs a:List Int),putAll (a++ag xs.length 0) (nzw xs a.length)=some (a++xs)
 | [],a=>rfl
 |k::r,a=>by
  have z:(a++ag (k::r).length 0)=(a++[0])++ag r.length (0:Int):=by
   rw[Zi,aM,aw];rfl
  unfold nzw;by_cases j:k=0
  ·rw[if_pos j,z,j]
   have:=J4 r (a++[0]);rw[Zd,Zk] at this;rw[this,aw];rfl
  ·rw[if_neg j]
   have J:Y4 (a++ag (k::r).length 0) (wd k a.length)=some ((a++[k])++ag r.length 0):=by
    unfold Y4;rw[if_neg (Uv _ _),Zf1 j];show (if a.length<_ then _ else none)=_
    rw[if_pos (by rw[Zd,Ze,Zi];omega)];have O:Yv (a++ag (k::r).length 0) a.length=0:=by
     unfold Yv;rw[Zb,aP (Zq _),dX];rfl
    rw[O,List.set_append_right _ _ (Zq _),dX,Zi,aM,List.set_cons_zero,aw,Int.zero_add];rfl
   unfold putAll;rw[J];have:=J4 r (a++[k]);rw[Zd,Zk] at this;show putAll (a++[k]++ag r.length 0) (nzw r (a.length+1))=_;rw[this,aw];rfl
noncomputable def Xp (l:List Nat):List (List Nat):=Z2 43 (rep l)
theorem ZfK (xs:List Int):Xa (Xp (Wn xs))=if WC [] xs 0=[] then [[48]] else nzw xs 0:=by
 unfold Xp Wn;split
 ·rfl
 ·obtain⟨Y,j,z,J,O⟩:=XQ xs 0 [] [[]] (by simp) (by simp) rfl (fun _=>rfl)
  rw[J,UB j z,O];rfl
noncomputable def We (wide:Nat)(l:List Nat):Option (List Int):=match putAll (ag wide 0) (Xp l) with
 |none=>none
 |some f=>if Wn f=l then some f else none
theorem Zf6 {xs:List Int}(h:1<=xs.length):putAll (ag xs.length 0) (Xp (Wn xs))=some xs:=by
 rw[WW,ZfK];split
 ·rename_i e
  have j:=VY xs 0 e;show (match Y4 (ag xs.length 0) [48] with|none=>none|some g=>some g)=_
  have:Y4 (ag xs.length (0:Int)) [48]=some (ag xs.length 0):=by
   unfold Y4;rw[if_neg (by simp),Zda];show (if 0<_ then _ else none)=_
   rw[if_pos (by rw[Ze];omega)];congr 1;cases z:xs.length with
   |zero=>omega
   |succ m=>rfl
  rw[this];exact congrArg some j.symm
 ·exact J4 xs []
theorem Zf3 {xs:List Int}(h:1<=xs.length):We xs.length (Wn xs)=some xs:=by
 unfold We;rw[Zf6 h];show (if Wn xs=Wn xs then some xs else none)=some xs
 rw[if_pos rfl]
theorem W7 {k:Int}{e:Nat}(j:1<=e)(h:k.natAbs<10 ^ e):(Y1 k).length<=e+1:=by
 have:=W6 j h;unfold Y1;split
 ·rw[Zi];omega
 ·omega
theorem Zan {k:Int}{p e:Nat}(j:1<=e)(h:k.natAbs<10 ^ e)(z:p<100):(wd k p).length<=e+4:=by
 have J:=W7 j h;have O:(ZL p).length<=2:=W6 (by decide) z;unfold wd;split
 ·omega
 ·rw[Zd,Zi]
  split
  ·split
   ·split
    ·simp only[ax];omega
    ·simp only[ax];omega
   ·split
    ·simp only[Zi,ax];omega
    ·simp only[Zi,ax];omega
  ·split
   ·simp only[ax];omega
   ·omega
theorem VZ {e:Nat}(j:1<=e):∀(xs:List Int) (p:Nat) (acc:List Nat),(∀x∈xs,x.natAbs<10 ^ e)->p+xs.length<=100->(WC acc xs p).length<=acc.length+xs.length*(e+5)
 | [],p,acc,_,_=>by unfold WC;omega
 |k::r,p,acc,h,J=>by
  rw[Zi] at J;have O:=Zan (p:=p) j (h k ah) (by omega);have Y:(if acc≠[]/\k > 0 then [43] else []:List Nat).length<=1:=by split <;> simp
  unfold WC;rw[Zi,dW];split
  ·have:=VZ j r (p+1) acc (fun x z=>h x (ae _ z)) (by omega)
   omega
  ·have:=VZ j r (p+1) (acc++(if acc≠[]/\k > 0 then [43] else [])++wd k p) (fun x z=>h x (ae _ z)) (by omega)
   rw[Zd,Zd] at this;omega
noncomputable def YX (l:List Nat):Prop:=∀c∈l,c<128
theorem YX.app {a b:List Nat}(j:YX a)(hb:YX b):YX (a++b):=fun c z=>(aD.mp z).elim (j c) (hb c)
theorem Xz {l:List Nat}(h:bY l):YX l:=fun c j=>by have:=h c j;omega
theorem Zg1 (k:Int)(p:Nat):YX (wd k p):=by
 have d:YX (Y1 k):=by
  unfold Y1;split
  ·intro c j
   rcases aj.mp j with rfl|j
   ·decide
   ·exact Xz (Z6 _) c j
  ·exact Xz (Z6 _)
 unfold wd;split
 ·exact d
 ·refine YX.app ?_ fun c j=>?_
  ·split
   ·split
    ·intro c j;cases j
    ·intro c j;rw[aq.mp j];decide
   ·exact d
  ·rcases aj.mp j with rfl|j
   ·decide
   ·split at j
    ·cases j
    ·exact Xz (Z6 _) c j
theorem Up:∀(xs:List Int) (p:Nat) {acc:List Nat},YX acc->YX (WC acc xs p)
 | [],_,_,h=>h
 |k::r,p,acc,h=>by
  unfold WC;split
  ·exact Up r (p+1) h
  ·refine Up r (p+1) (YX.app (YX.app h ?_) (Zg1 k p))
   split
   ·intro c j;rw[aq.mp j];decide
   ·intro c j;cases j
theorem Zff (xs:List Int):YX (Wn xs):=by
 unfold Wn;split
 ·intro c j;rw[aq.mp j];decide
 ·exact Up xs 0 fun c j=>by cases j
theorem Zfg {l:List Nat}(h:YX l):YX (rep l):=fun c j=>by
 unfold rep at j;obtain⟨d,hd,j⟩:=List.mem_flatMap.mp j;split at j
 ·rcases aj.mp j with rfl|j
  ·decide
  ·rw[aq.mp j];decide
 ·rw[aq.mp j];exact h d hd
theorem VP {c:Nat}:∀{l:List Nat},YX l->∀w∈Z2 c l,YX w
 | [],_,w,j=>by rw[aq.mp j];intro c J;cases J
 |x::r,h,w,j=>by
  have z:=VP (c:=c) (l:=r) fun d hd=>h d (ae _ hd);unfold Z2 at j;split at j
  ·rcases aj.mp j with rfl|j
   ·intro c J;cases J
   ·exact z w j
  ·cases e:Z2 c r with
   |nil=>exact absurd e (YM c r)
   |cons q O=>
    rw[e] at j z;rcases aj.mp j with rfl|j
    ·intro d hd
     rcases aj.mp hd with rfl|hd
     ·exact h _ ah
     ·exact z q ah d hd
    ·exact z w (ae _ j)
theorem Zfe {l:List Nat}(h:YX l):∀w∈Xp l,YX w:=VP (Zfg h)
theorem ZbX {l:List Nat}(h:YX l):(tx l).cps.all (· < 128)=true:=by
 rw[ZcR];exact aJ.mpr fun c j=>decide_eq_true (h c j)
end Tx
namespace Tb
section
variable {t:List (List Nat)}{a r:Nat}
end
section
variable {t:List (List Nat)}{o:List Nat}
end
end Tb
namespace HT
open PySem PyProof.Rows
section
variable {prog:Program}{w:World}{A:Around}{E:Value->Shared->Prop}{s:Shared}
end
end HT
namespace L2
open PySem PySem.Spec PyProof.Rows
section
variable {X:Cx}{e:Expr}{te ts:TE}{st:Expr}{pos p2:Pos}
end
end L2
namespace HT
open PySem PyProof.Rows
section
variable {prog:Program}{w:World}{A:Around}{E:Value->Shared->Prop}{s:Shared}
end
end HT
namespace L2
open PySem PySem.Spec PyProof.Rows
section
variable {X:Cx}
end
section
variable {X:Cx}
noncomputable def ZhX (K:ac)(neg:Bool):R2:=fun x y H Q=>∃p J z j,y=.ref p/\(WQ K H p J\/WS K H p J)/\Y3 K H J z/\Vh K H x j/\bf z=true/\j.canLay0=true/\j.depth<=60/\Q (.bl (if neg then !(z.any fun y=>y.eqv j) else z.any fun y=>y.eqv j)) H
theorem Zgk (hu:X.A.units+64<cLine):W9 X (compareOp .In) (ZhX X.K false):=by
 intro Y s σ H x y v u Q I rx ry h;obtain⟨p,xs,ds,dx,rfl,j,hs,hd,J,c2,dp,q⟩:=h;cases ry;obtain⟨bs,r1⟩:=I.reads hd rx;rcases j with j|j
 ·obtain⟨O,r,pl,hz⟩:=I.list j
  obtain⟨as,z⟩:=I.readsAll hs r;refine SeqAt.in_listAt _ pl.isList (ju (by simpa using z) r1 J c2 (by omega)) ⟨.bl _,H,I,rfl,?_⟩;rw[jf (by simpa using z) J];exact q
 ·obtain⟨O,r,pl,hz⟩:=I.tuple j
  obtain⟨as,z⟩:=I.readsAll hs r;refine SeqAt.in_tupleAt _ pl (ju (by simpa using z) r1 J c2 (by omega)) ⟨.bl _,H,I,rfl,?_⟩;rw[jf (by simpa using z) J];exact q
theorem Zij (K:ac)(j:X.A.units+64<cLine)(z:X.K=K:=by rfl):W9 X (compareOp .In) (ZhX K false):=z▸Zgk j
end
theorem Wd:∀ns:List Int,bf (ns.map bc)=true
 | []=>rfl
 |n::ns=>by
  show (cm (.int n) && bf (ns.map bc))=true;rw[Wd ns];rfl
theorem Za3 (ns:List Int):cm (.tuple (ns.map bc))=true:=Wd ns
theorem Vb:∀ns:List Int,bo (ns.map bc)<=1
 | []=>by decide
 |n::ns=>by
  have:=Vb ns;show max (dc (.int n)) (bo (ns.map bc))<=1;have e:dc (.int n)<=1:=by simp[dc]
  omega
end L2
namespace L2
open PySem
theorem Zcy (ns:List Int):dc (.tuple (ns.map bc))<=60:=by
 have:=Vb ns;show bo (ns.map bc)+1<=60;omega
end L2
namespace PyZ
open PySem
end PyZ
namespace L2
open PySem PySem.Spec PyProof.Rows
section
variable {X:Cx}
end
end L2
namespace PyZ
open PySem PyProof PyProof.Rows
section
variable {prog:Program}{w:World}{A:Around}{E:Value->Shared->Prop}{s:Shared}
end
end PyZ
namespace L2
open PySem PySem.Spec PyProof.Rows
section
variable {X:Cx}{pins:List (Addr×Obj)}{σ:St}{H:Hp}{s:Shared}
end
section
variable {X:Cx}
variable {o e:Expr}{es:List Expr}{to:TE}{t:TA}{name:Str}{apos cpos:Pos}{id:String}{r:V->List V->Hp->VK->Prop}
end
end L2
namespace PyZ
open PySem PySem.Spec PyProof.Rows
section
variable {prog:Program}{w:World}{A:Around}{E:Value->Shared->Prop}{s:Shared}
end
end PyZ
namespace L2
open PySem PySem.Spec PyProof.Rows
section
variable {X:Cx}
end
end L2
namespace PyS
open PySem PySem.SetTable
end PyS
namespace PyS
open PySem
section
variable {prog:Program}{w:World}{A:Around}{E:Value->Shared->Prop}{s:Shared}{I a:Addr}{es:Array (Int×Value)}{ep:Nat}{t:SetTable}{first:Value}{i n:Nat}
end
section
variable {prog:Program}{w:World}{A:Around}{E:Value->Shared->Prop}{s:Shared}{I a:Addr}{es:Array (Int×Value)}{ep:Nat}{t:SetTable}{first:Value}{i n:Nat}
end
end PyS
namespace PyS
open PySem PySem.W PyProof.Rows PySem.Calls PyProof.V PySem.Spec
section
variable {prog:Program}{w:World}{A:Around}{E:Value->Shared->Prop}{s:Shared}{a:Addr}{es:Array (Int×Value)}{ep:Nat}{t:SetTable}
section
variable {T:String}{d:Addr}{n:Nat}{Good:(Nat->Value->Prop)->Prop}{OK:Heap->Prop}
end
section
variable {K:Type} [DecidableEq K]{knd:PySem.KeyKind prog w K}{kvs:List (K×Value)}
end
end
section
variable {prog:Program}{w:World}{A:Around}{E:Value->Shared->Prop}{s:Shared}{a:Addr}
end
section
variable {prog:Program}{w:World}{A:Around}{R:Result->Shared->Prop}{I:Addr}{fp wr:List Addr}{G:Array GenState->Array GenState->Prop}{n:Nat}{P:Nat->Value->Prop}{St:Nat->Shared->Prop}
end
section
variable {prog:Program}{w:World}{A:Around}{E:Value->Shared->Prop}{s:Shared}
end
end PyS
namespace L2
open PySem PySem.Spec PyProof.Rows
section
variable {X:Cx}{pins:List (Addr×Obj)}{σ:L2.St}{H:Hp}{s:Shared}
end
section
variable {X:Cx}{pins:List (Addr×Obj)}{σ:L2.St}{H:Hp}{s:Shared}
end
end L2
namespace PyY
open PySem
open AutoSeq1 (wpAny_loadPart')
section
variable {prog:Program}{w:World}{A:Around}{E:Value->Shared->Prop}{s:Shared}
theorem ZaM {j a:Addr}{k:Nat}{us:Array Value}{y:Value}{Q:Value->Shared->Prop}(c:s.heap.IsTupleIter j a k)(d:s.heap.IsTuple a us)(e:us[k]?=some y)
  (q:∀g,g.IsTupleIter j a (k+1)->bd j s.heap g->Q y {s with heap:=g}):wpAny (model prog w) A (cu (.ref j)) Q E s:=by
 obtain⟨oj,J,Y,z⟩:=id c;obtain⟨oa,ha,_,na,da⟩:=d;unfold cu;refine Zl (cB (name:=ar "__next__") c.typeIs cM (dN cM c.typeIs iw ?_ (il _)));show wpAny _ _ (field (.ref j) 0 >>= _) _ _ s;refine Zl (bh J z (x:=.ref a) rfl ?_);show wpAny _ _ (if (au a == bn)=true then _ else _) _ _ s
 rw[if_neg (show ¬((au a == bn)=true) from aS)];show wpAny _ _ (field (.ref j) 1 >>= _) _ _ s;refine Zl (bh J z (x:=.int k 0) rfl ?_);show wpAny _ _ (seqItems? (.ref a) >>= _) _ _ s;refine Zl (wpAny_seqItems ha da ?_);simp only[Zj,e];refine Zl (dC J z (by simp) (Zm ⟨y,rfl,Zm (q _ ?_ (ia ..))⟩));refine⟨_,bL _ J (fC (cC z _)),(Obj.cls_mapFields ..).trans Y,?_⟩;rw[cC z];simp[rawInt]
theorem Zcj {j a:Addr}{k:Nat}{us:Array Value}{Q:Value->Shared->Prop}(hn:A.handled=none)(c:s.heap.IsTupleIter j a k)(d:s.heap.IsTuple a us)(e:us[k]?=none)
  (q:∀g x,Heap.ExtBut j s.heap g->(∃o,g.get? x=some o/\o.cls=.type "StopIteration")->E (.ref x) {s with heap:=g}):wpAny (model prog w) A (cu (.ref j)) Q E s:=by
 obtain⟨oj,z,cj,J⟩:=id c;obtain⟨oa,ha,_,na,da⟩:=d;unfold cu;refine Zl (cB (name:=ar "__next__") c.typeIs cM (dN cM c.typeIs iw ?_ (il _)));show wpAny _ _ (field (.ref j) 0 >>= _) _ _ s;refine Zl (bh z J (x:=.ref a) rfl ?_);show wpAny _ _ (if (au a == bn)=true then _ else _) _ _ s
 rw[if_neg (show ¬((au a == bn)=true) from aS)];show wpAny _ _ (field (.ref j) 1 >>= _) _ _ s;refine Zl (bh z J (x:=.int k 0) rfl ?_);show wpAny _ _ (seqItems? (.ref a) >>= _) _ _ s;refine Zl (wpAny_seqItems ha da ?_);simp only[Zj,e];refine Zl (wpAny_rule (Zl (dC z J (by simp) ?_)));show wpAny _ _ (newExc (.type "StopIteration") [] >>= _) _ _ {s with heap:=_};refine Zl ?_;unfold newExc newTuple;refine Zl (bw (Q:=_) ?_ (by size_fits));refine Zl (m:=firstArgMember _ _) (wpAny_of_eq (a:=bn) (by first|rfl|(unfold firstArgMember;rfl)) ?_)
 refine bw (Q:=_) ?_ (by size_fits);unfold raiseNew;refine Zl (wpAny_handled ?_);have O:A.in1.handled=none:=hn;rw[O];refine Zl (Zm (wpAny_throw (E:=E) ?_));exact q _ _ (((ia ..).extBut.push _).push _) ⟨_,Zo _ rfl,rfl⟩
theorem Za0 {n j a:Addr}{k:Nat}{us:Array Value}{y z:Value}{Q:Option Value->Shared->Prop}(b:fc s.heap n j k z)(c:s.heap.IsTupleIter j a k)(d:s.heap.IsTuple a us)(e:us[k]?=some y)(nj:n≠j)
  (q:∀g,IsEnumOut g n j ((k:Int)+1) y s.heap.objs.size->g.IsTupleIter j a (k+1)->g.get? s.heap.objs.size=some {cls:=.type "tuple",data:=.seq #[.int k s.toks,y]}->g.objs.size=s.heap.objs.size+1->
   (∀x o,x≠n->x≠j->s.heap.get? x=some o->g.get? x=some o)->Q (some (.ref s.heap.objs.size)) {s with heap:=g,toks:=s.toks+1}):wpAny (model prog w) A (pyNext (.ref n)) Q E s:=by
 have tn:s.TypeIs (.ref n) "enumerate":=⟨_,b,rfl⟩;unfold pyNext;refine Zl (wpAny_attempt (cB (name:=ar "__next__") tn dI (dN dI tn jc ?_ (iY _))));obtain⟨J,O,Y,tk,os⟩:=s;show wpAny _ _ (field (.ref n) 2 >>= _) _ _ _;refine Zl (bh b rfl (x:=.ref j) rfl ?_);refine Zl (ZaM c d e fun g1 c1 s1=>?_);replace s1:bd j J g1:=s1;have b1:fc g1 n j k z:=(s1.2 n nj).trans b;show wpAny _ _ (field (.ref n) 3 >>= _) _ _ ⟨g1,O,Y,tk,os⟩;refine Zl (bh b1 rfl (x:=rawInt k) rfl ?_);show wpAny _ _ (field (.ref n) 4 >>= _) _ _ ⟨g1,O,Y,tk,os⟩;refine Zl (bh b1 rfl (x:=.none) rfl ?_);show wpAny _ _ (mkInt k >>= _) _ _ ⟨g1,O,Y,tk,os⟩;refine Zl (wpAny_mkInt ?_);show wpAny _ _ (setField (.ref n) 3 (rawInt ((k:Int)+1)) >>= _) _ _ ⟨g1,O,Y,tk+1,os⟩;refine Zl (dh b1 (by simp) fun g2 b2 s2=>?_);replace s2:bd n g1 g2:=s2;replace b2:fc g2 n j ((k:Int)+1) z:=b2;show wpAny _ _ (setField (.ref n) 4 .none >>= _) _ _ ⟨g2,O,Y,tk+1,os⟩;refine Zl (dh b2 (by simp) fun g3 b3 s3=>?_);replace s3:bd n g2 g3:=s3;replace b3:fc g3 n j ((k:Int)+1) z:=b3;show wpAny _ _ (newTuple [.int k tk,y] >>= _) _ _ ⟨g3,O,Y,tk+1,os⟩;refine Zl (wpAny_newTuple ?_);have b4:fc (g3.push {cls:=.type "tuple",data:=.seq #[.int k tk,y]}) n j ((k:Int)+1) z:=Zn _ b3;generalize z4:g3.push {cls:=.type "tuple",data:=.seq #[.int k tk,y]}=g4 at b4;have sz:g3.objs.size=J.objs.size:=by rw[s3.1,s2.1,s1.1]
 have nl:n<J.objs.size:=Zp b;have t4:g4.get? J.objs.size=some {cls:=.type "tuple",data:=.seq #[.int k tk,y]}:=by
  rw[<-z4,<-sz];exact Zo _ rfl
 have w4:g4.objs.size=J.objs.size+1:=by
  rw[<-z4,bu,sz]
 have k4:∀x o,x≠n->x≠j->J.get? x=some o->g4.get? x=some o:=fun x o xn xj hx=>by
  rw[<-z4];exact Zn _ (s3.extBut x o xn (s2.extBut x o xn (s1.extBut x o xj hx)))
 have c4:g4.IsTupleIter j a (k+1):=by
  obtain⟨o,ho,r⟩:=(c1.extBut s2.extBut (bC nj)).extBut s3.extBut (bC nj);rw[<-z4];exact⟨o,Zn _ ho,r⟩
 show wpAny _ _ (eL (.ref n) >>= _) _ _ ⟨g4,O,Y,tk+1,os⟩;rw[sz];clear z4 b3 s3 b2 s2 b1 s1 c1 sz g3 g2 g1;refine Zl ?_;unfold eL;refine Zl (bh b4 rfl (x:=.none) rfl (Zm ?_));rw[if_pos rfl];refine Zl (wpAny_rule (Zl (bh b4 rfl (x:=z) rfl ?_)));refine Zl (dh b4 (by simp) fun g5 b5 s5=>?_);replace s5:bd n g4 g5:=s5;replace b5:fc g5 n j ((k:Int)+1) y:=b5;show wpAny _ _ (ei (.ref n) (.ref J.objs.size) >>= _) _ _ ⟨g5,O,Y,tk+1,os⟩;refine Zl ?_;unfold ei;refine Zl (dh b5 (by simp) fun g6 b6 s6=>?_);replace s6:bd n g5 g6:=s6;replace b6:IsEnumOut g6 n j ((k:Int)+1) y J.objs.size:=b6;refine dh b6 (by simp) fun g7 b7 s7=>?_;replace s7:bd n g6 g7:=s7;replace b7:IsEnumOut g7 n j ((k:Int)+1) y J.objs.size:=b7;refine Zl (wpAny_letGo (Zm ⟨_,rfl,Zm (q g7 b7 ?_ ?_ ?_ ?_)⟩))
 ·exact ((c4.extBut s5.extBut (bC nj)).extBut s6.extBut (bC nj)).extBut s7.extBut (bC nj)
 ·exact s7.extBut _ _ (bz nl) (s6.extBut _ _ (bz nl) (s5.extBut _ _ (bz nl) t4))
 ·rw[s7.1,s6.1,s5.1,w4]
 ·exact fun x o xn xj hx=>s7.extBut x o xn (s6.extBut x o xn (s5.extBut x o xn (k4 x o xn xj hx)))
theorem Zcw {n j a:Addr}{k:Nat}{us:Array Value}{old:Value}{Q:Option Value->Shared->Prop}(O:A.handled=none)(b:fc s.heap n j k old)(c:s.heap.IsTupleIter j a k)(d:s.heap.IsTuple a us)(e:us[k]?=none)
  (q:∀g,Heap.ExtBut j s.heap g->Q none {s with heap:=g}):wpAny (model prog w) A (pyNext (.ref n)) Q E s:=by
 have z:s.TypeIs (.ref n) "enumerate":=⟨_,b,rfl⟩;unfold pyNext;refine Zl (wpAny_attempt (cB (name:=ar "__next__") z dI (dN dI z jc ?_ (iY _))));show wpAny _ _ (field (.ref n) 2 >>= _) _ _ _;refine Zl (bh b rfl (x:=.ref j) rfl ?_);refine Zl (Zcj O c d e fun g x Y xs=>?_);obtain⟨o,ho,hc⟩:=xs;refine Zl (wpAny_isInstance (T:="StopIteration") (b:=true) ⟨o,ho,hc⟩ isSubtype_stop ?_);exact Zm (q _ Y)
theorem Zcv (a:Addr)(z:Array Value)(n:Nat)(O:Option Addr)(Y:Array (Option Value)) :
  Meets (aO.«enumerate.__new__» ⟨[.type "enumerate",.ref a],[]⟩) (fun _ R s=>s.heap.get? a=some {cls:=.type "tuple",dict:=O,data:=.seq z n,slots:=Y}/\
   R (.ok (.ret (.ref (s.heap.push {cls:=.type "tuple_iterator",data:=.fields #[.ref a,.int 0 0]}).objs.size)))
    {s with heap:=(s.heap.push {cls:=.type "tuple_iterator",data:=.fields #[.ref a,.int 0 0]}).push {cls:=.type "enumerate",data:=.fields #[.none,.bool false,.ref s.heap.objs.size,rawInt 0,.none,.none]}}):=
 .of_wp fun prog w A R s h=>by
  obtain⟨hh,gg,dr,tk,os⟩:=s;obtain⟨j,h⟩:=h;have sub:=sub_enumerate;have J:Heap.IsTuple (Shared.heap ⟨hh,gg,dr,tk,os⟩) a z:=⟨_,j,rfl,n,rfl⟩
  wp_walk using wpAny_loadPart' j
  refine wpAny_stack_any fun st=>Zm ?_;split
  ·rename_i c1 _ _ _ _ _
   cases (c1 == hU "enumerate") <;> (wp_walk using wpAny_loadPart' j,gM J) <;> exact⟨_,rfl,h⟩
  ·wp_walk using wpAny_loadPart' j,gM J
   exact⟨_,rfl,h⟩
theorem Za5 {a:Addr}{us:Array Value}{Q:Value->Shared->Prop}(hT:s.heap.IsTuple a us)
  (h:∀g,fc g (s.heap.objs.size+1) s.heap.objs.size 0 .none->g.IsTupleIter s.heap.objs.size a 0->g.objs.size=s.heap.objs.size+2->(∀b o,s.heap.get? b=some o->g.get? b=some o)->Q (.ref (s.heap.objs.size+1)) {s with heap:=g}) :
  wpAny (model prog w) A (call (.type "enumerate") [.ref a]) Q E s:=by
 obtain⟨⟨cc,dd,dt,sl⟩,ha,hc,n,hd⟩:=hT;have j:cc=.type "tuple":=hc;have J:dt=.seq us n:=hd;subst j J;refine callType_new F.called_enumerate (by decide) (F.typeCall_enumerate_1 _) (F.newCall_enumerate_1 _) (fun O=>F.args_object_init_2 O _) F.entry_enumerate_new (Zcv a us n dd sl) ⟨ha,?_⟩;have Y:(s.heap.push {cls:=.type "tuple_iterator",data:=.fields #[.ref a,.int 0 0]}).objs.size=s.heap.objs.size+1:=bu ..;show _/\_;rw[Y];have he:fc ((s.heap.push {cls:=.type "tuple_iterator",data:=.fields #[.ref a,.int 0 0]}).push {cls:=.type "enumerate",data:=.fields #[.none,.bool false,.ref s.heap.objs.size,rawInt 0,.none,.none]}) (s.heap.objs.size+1) s.heap.objs.size 0 .none:=by
  have z:=Zo (s.heap.push {cls:=.type "tuple_iterator",data:=.fields #[.ref a,.int 0 0]}) (o:={cls:=.type "enumerate",data:=.fields #[.none,.bool false,.ref s.heap.objs.size,rawInt 0,.none,.none]}) rfl;rw[Y] at z;exact z
 exact⟨⟨_,he,rfl⟩,h _ he ⟨_,Zn _ (Zo _ rfl),rfl,rfl⟩ (by rw[bu,Y]) fun b o y=>Zn _ (Zn _ y)⟩
end
end PyY
namespace L2
open PySem PySem.Spec PyProof.Rows
section
variable {X:Cx}{pins:List (Addr×Obj)}{σ:St}{H:Hp}{s:Shared}{h':Heap}
theorem Inv.turnLay {t':Nat}{ts:List Addr}{T:Addr}{o:HO}(I:Inv X pins σ H s)(k:∀b u,b∉ts->s.heap.get? b=some u->h'.get? b=some u)(ht:∀b∈ts,∃u,h'.get? b=some u)(hf:∀b∈ts,Xh X pins H b)(hT:s.heap.objs.size<=T)
  (Y:Yf X.prog X.w (upd H T o) h' T o):Inv X pins σ (upd H T o) {s with heap:=h',toks:=t'}:=by
 have j:H T=none:=I.hok.fresh hT;have J:∀b u,H b=some u->b∉ts:=fun b u e z=>by
  have:=(hf b z).1;rw[e] at this;cases this
 refine I.call (ch:=ts) (g':=s.gens) (d':=s.drawn) ⟨fun b u e _ _ O=>k b u O e,fun b u e _ _ O=>⟨u.slots,k b u O e⟩,fun b u e n _=>?_,fun b u e O=>⟨u,k b u O e⟩,fun b ys q=>?_,fun b u v q=>?_,fun b ps q=>⟨#[],?_⟩⟩
  (fun b u e=>?_) I.bare fun b hb=>?_
 ·rw[ZB (aA (ak (Zp e) hT))]
  exact n
 ·rw[ZB (ZH q j)]
  exact q
 ·rw[ZB (ZH q j)]
  exact q
 ·rw[ZB (ZH q j),q]
  simp
 ·by_cases hb:b=T
  ·subst hb
   rw[Zv] at e;cases e;exact Y
  ·rw[ZB hb] at e
   refine (I.hok b u e).stay (fun c v hc q=>k c v ?_ q) (fun c r=>by rw[ZB (ZH r j)];exact r) fun c ys r=>by rw[ZB (ZH r j)];exact r
   rcases hc with z|z
   ·rw[z]
    exact J b u e
   ·exact J c _ z
 ·obtain⟨f0,f1,f2,f3,f4,f5⟩:=hf b hb
  exact⟨f3,f1,f4,f5⟩
theorem Inv.turnedL {t':Nat}{ts:List Addr}(I:Inv X pins σ H s)(k:∀b u,b∉ts->s.heap.get? b=some u->h'.get? b=some u)(O:∀b∈ts,Xh X pins H b):Inv X pins σ H {s with heap:=h',toks:=t'}:=by
 have j:∀b u,H b=some u->b∉ts:=fun b u e z=>by
  have:=(O b z).1;rw[e] at this;cases this
 refine I.call (ch:=ts) (g':=s.gens) (d':=s.drawn) ⟨fun b u e _ _ J=>k b u J e,fun b u e _ _ J=>⟨u.slots,k b u J e⟩,fun b u e n _=>n,fun b u e J=>⟨u,k b u J e⟩,fun b Y q=>q,fun b u v q=>q,fun b ps q=>⟨#[],by rw[q];simp⟩⟩
  (fun b u e=>?_) I.bare fun b hb=>?_
 ·refine (I.hok b u e).stay (fun c v hc q=>k c v ?_ q) (fun c r=>r) fun c Y r=>r
  rcases hc with z|z
  ·rw[z]
   exact j b u e
  ·exact j c _ z
 ·obtain⟨f0,f1,f2,f3,f4,f5⟩:=O b hb
  exact⟨f3,f1,f4,f5⟩
end
noncomputable def ZiG (K:ac)(a:Addr):It:=
 ⟨fun i H=>∃j x,WQ K H a j/\j[i]?=some x,fun i H x z=>∃T y,x=.ref T/\H T=none/\z=upd H T (.tup [.int i,y])/\∀j,WQ K H a j->j[i]?=some y,fun i H=>∃j,WQ K H a j/\j.length<=i⟩
noncomputable def ZiF (K:ac)(a:Addr):It:=
 ⟨fun i H=>∃j x,WS K H a j/\j[i]?=some x,fun i H x z=>∃T y,x=.ref T/\H T=none/\z=upd H T (.tup [.int i,y])/\∀j,WS K H a j->j[i]?=some y,fun i H=>∃j,WS K H a j/\j.length<=i⟩
theorem Zas {P:Program}{w:World}{K:ac}{elts:List Expr}{x1}{pos:Pos}(a e it:Addr)(ne:e≠it) :
  Ur P w K (.Tuple elts x1 pos) (ZiG K a) [e,it] e (fun i h=>(∃j,fc h e it i j)/\h.IsListIter it a i) where
 mem:=by simp
 obj:=fun i h st b hb=>by
  obtain⟨⟨j,J⟩,⟨o,e1,c,d⟩⟩:=st;rcases aj.mp hb with rfl|hb
  ·exact⟨_,J,fun v z=>by
    have z':iZ _=jI v:=z;cases z'⟩
  ·have q:b=it:=by simpa using hb
   subst q;exact⟨o,e1,fun v z=>by rw[d] at z;cases z⟩
 keep:=fun i h h' st k=>by
  obtain⟨⟨j,J⟩,O⟩:=st;exact⟨⟨j,k e (by simp) _ J⟩,O.at fun o q=>k it (by simp) o q⟩
 item:=by
  intro X hP hw hK hc i j4 s σ H E I hf st hg;subst hP hw hK;obtain⟨⟨j,J⟩,O⟩:=st;obtain⟨xs,x,hq,hx⟩:=hg;obtain⟨j8,rv,p,hz⟩:=I.list hq;obtain⟨u,hu,ru⟩:=rv.get hx;refine wpAny_pyNext_enum_item J O p.isList (x:=u) (by simpa using hu) ne fun h1 ho j9 hT m3 hk=>?_;refine⟨_,rfl,iL ho fun h2 l7 l8=>?_⟩;have le:e<s.heap.objs.size:=Zp J;have Y:bd e h1 h2:=l8;have l9:h2.get? s.heap.objs.size=some {cls:=.type "tuple",data:=.seq #[.int i s.toks,u]}:=(Y.2 _ (bz le)).trans hT;have j6:h2.IsListIter it a (i+1):=j9.at fun o q=>(Y.2 it (bC ne)).trans q;have j7:fc h2 e it ((i+1:Nat):Int) u:=by
   have:=l7;simpa using this
  have nT:H s.heap.objs.size=none:=I.hok.fresh (Zq _);have I2:=I.turnLay (t':=s.toks+1) (h':=h2) (ts:=[e,it]) (T:=s.heap.objs.size) (o:=.tup [.int i,x]) (fun b v hb q=>?_) (fun b hb=>?_) hf (Zq _) ⟨by show 2<=sizeLine;decide,[.int i s.toks,u],.cons ⟨_,rfl⟩ (.cons ru .nil),_,l9,rfl,0,rfl⟩
  ·refine⟨.ref s.heap.objs.size,_,I2,rfl,⟨_,x,rfl,nT,rfl,fun ys hy=>by rw[I.list_inj hy hq];exact hx⟩,⟨⟨u,j7⟩,j6⟩,fun b hb=>?_⟩
   have fb:=(hf b hb).1;have lb:b<s.heap.objs.size:=by
    rcases aj.mp hb with rfl|hb
    ·exact le
    ·have q:b=it:=by simpa using hb
     subst q;obtain⟨o,e1,_⟩:=O;exact Zp e1
   rw[ZB (aA lb)];exact fb
  ·have q1:b≠e:=fun z=>hb (by simp[z])
   have q2:b≠it:=fun z=>hb (by simp[z]);exact (Y.2 b q1).trans (hk b v q1 q2 q)
  ·rcases aj.mp hb with rfl|hb
   ·exact⟨_,j7⟩
   ·have q:b=it:=by simpa using hb
    subst q;obtain⟨o,e1,_⟩:=j6;exact⟨o,e1⟩
 done:=by
  intro X hP hw hK hc i j4 s σ H E I hf st hg;subst hP hw hK;obtain⟨⟨j,J⟩,O⟩:=st;obtain⟨xs,hq,hx⟩:=hg;obtain⟨j8,rv,p,hz⟩:=I.list hq;have hl:=rv.length;exact wpAny_pyNext_enum_end (I.ok.hd hc) J O p.isList (by simp;omega) fun h1 eb=>⟨rfl,I.turnedL (t':=s.toks) (ts:=[e,it]) (fun b o hb q=>eb b o (fun z=>hb (by simp[z])) q) hf⟩
 self:=fun _ _ _ _ _ st h=>by
  obtain⟨⟨j,J⟩,O⟩:=st;exact fq J h
theorem Zar {P:Program}{w:World}{K:ac}{elts:List Expr}{x1}{pos:Pos}(a e it:Addr)(ne:e≠it) :
  Ur P w K (.Tuple elts x1 pos) (ZiF K a) [e,it] e (fun i h=>(∃j,fc h e it i j)/\h.IsTupleIter it a i) where
 mem:=by simp
 obj:=fun i h st b hb=>by
  obtain⟨⟨j,J⟩,⟨o,e1,c,d⟩⟩:=st;rcases aj.mp hb with rfl|hb
  ·exact⟨_,J,fun v z=>by
    have z':iZ _=jI v:=z;cases z'⟩
  ·have q:b=it:=by simpa using hb
   subst q;exact⟨o,e1,fun v z=>by rw[d] at z;cases z⟩
 keep:=fun i h h' st k=>by
  obtain⟨⟨j,J⟩,O⟩:=st;exact⟨⟨j,k e (by simp) _ J⟩,O.at fun o q=>k it (by simp) o q⟩
 item:=by
  intro X hP hw hK hc i j6 s σ H E I hf st hg;subst hP hw hK;obtain⟨⟨j,J⟩,O⟩:=st;obtain⟨xs,x,hq,hx⟩:=hg;obtain⟨Y,rv,p,hz⟩:=I.tuple hq;obtain⟨u,hu,ru⟩:=rv.get hx;refine PyY.Za0 J O (show s.heap.IsTuple a Y.toArray from p) (y:=u) (by simpa using hu) ne fun h1 ho j9 hT m3 hk=>?_;refine⟨_,rfl,iL ho fun h2 l7 l8=>?_⟩;have le:e<s.heap.objs.size:=Zp J;have j4:bd e h1 h2:=l8;have l9:h2.get? s.heap.objs.size=some {cls:=.type "tuple",data:=.seq #[.int i s.toks,u]}:=(j4.2 _ (bz le)).trans hT;have j7:h2.IsTupleIter it a (i+1):=j9.at fun o q=>(j4.2 it (bC ne)).trans q;have j8:fc h2 e it ((i+1:Nat):Int) u:=by
   have:=l7;simpa using this
  have nT:H s.heap.objs.size=none:=I.hok.fresh (Zq _);have I2:=I.turnLay (t':=s.toks+1) (h':=h2) (ts:=[e,it]) (T:=s.heap.objs.size) (o:=.tup [.int i,x]) (fun b v hb q=>?_) (fun b hb=>?_) hf (Zq _) ⟨by show 2<=sizeLine;decide,[.int i s.toks,u],.cons ⟨_,rfl⟩ (.cons ru .nil),_,l9,rfl,0,rfl⟩
  ·refine⟨.ref s.heap.objs.size,_,I2,rfl,⟨_,x,rfl,nT,rfl,fun ys hy=>by rw[I.tuple_inj hy hq];exact hx⟩,⟨⟨u,j8⟩,j7⟩,fun b hb=>?_⟩
   have fb:=(hf b hb).1;have lb:b<s.heap.objs.size:=by
    rcases aj.mp hb with rfl|hb
    ·exact le
    ·have q:b=it:=by simpa using hb
     subst q;obtain⟨o,e1,_⟩:=O;exact Zp e1
   rw[ZB (aA lb)];exact fb
  ·have q1:b≠e:=fun z=>hb (by simp[z])
   have q2:b≠it:=fun z=>hb (by simp[z]);exact (j4.2 b q1).trans (hk b v q1 q2 q)
  ·rcases aj.mp hb with rfl|hb
   ·exact⟨_,j8⟩
   ·have q:b=it:=by simpa using hb
    subst q;obtain⟨o,e1,_⟩:=j7;exact⟨o,e1⟩
 done:=by
  intro X hP hw hK hc i j6 s σ H E I hf st hg;subst hP hw hK;obtain⟨⟨j,J⟩,O⟩:=st;obtain⟨xs,hq,hx⟩:=hg;obtain⟨Y,rv,p,hz⟩:=I.tuple hq;have hl:=rv.length;exact PyY.Zcw (I.ok.hd hc) J O (show s.heap.IsTuple a Y.toArray from p) (by simp;omega) fun h1 eb=>⟨rfl,I.turnedL (t':=s.toks) (ts:=[e,it]) (fun b o hb q=>eb b o (fun z=>hb (by simp[z])) q) hf⟩
 self:=fun _ _ _ _ _ st h=>by
  obtain⟨⟨j,J⟩,O⟩:=st;exact fq J h
section
variable {X:Cx}
end
structure Zfl (J:It)(At:Hp->Prop)(xs:List V):Prop where
 go:∀i H,At H->i<xs.length->J.go i H
 yld:∀i H x H2,At H->J.yld i H x H2->∃T y,x=.ref T/\H T=none/\H2=upd H T (.tup [.int i,y])/\xs[i]?=some y
 stop:∀i H,At H->xs.length<=i->J.stop i H
theorem ZgX {K:ac}{a:Addr}{xs:List V}:Zfl (ZiG K a) (fun H=>WQ K H a xs) xs:=
 ⟨fun i H h j=>⟨xs,xs[i],h,by simp[j]⟩,fun i H x Y h z=>by
  obtain⟨T,y,e,J,O,q⟩:=z;exact⟨T,y,e,J,O,q xs h⟩,fun i H h j=>⟨xs,h,j⟩⟩
theorem ZgW {K:ac}{a:Addr}{xs:List V}:Zfl (ZiF K a) (fun H=>WS K H a xs) xs:=
 ⟨fun i H h j=>⟨xs,xs[i],h,by simp[j]⟩,fun i H x Y h z=>by
  obtain⟨T,y,e,J,O,q⟩:=z;exact⟨T,y,e,J,O,q xs h⟩,fun i H h j=>⟨xs,h,j⟩⟩
theorem ZdL {J:It}{g:TG}{tb:TS}{D:YH}{σ:St}{H:Hp}{At:Hp->Prop}{xs:List V}(S:Zfl J At xs)(Pv:Nat->St->Hp->Prop)(h0:Pv 0 σ H)(hS:∀i σ H,Pv i σ H->At H)
  (hs:∀(i:Nat) y σ H T,xs[i]?=some y->Pv i σ H->H T=none->g (.ref T) σ (upd H T (.tup [.int i,y])) fun z H2=>tb {D with nx:=Pv (i+1),ct:=Pv (i+1),bk:=D.nx} z H2) (hd:∀ σ H,Pv xs.length σ H->D.nx σ H) :
  ∃W:Nat->Nat->St->Hp->Prop,(∃m,W 0 m σ H)/\∀i m σ H,W i m σ H->
   (J.stop i H/\D.nx σ H)\/(J.go i H/\∃N:St->Hp->Prop,(∀ O j,N O j->∃m',m'<m/\W (i+1) m' O j)/\∀x j,J.yld i H x j->g x σ j fun z H2=>tb {D with nx:=N,ct:=N,bk:=D.nx} z H2):=by
 refine⟨fun i m σ H=>m=xs.length-i/\i<=xs.length/\Pv i σ H,⟨_,rfl,aE _,h0⟩,?_⟩;rintro i m σ H ⟨rfl,hi,p⟩;have s:=hS i σ H p;by_cases Y:i<xs.length
 ·refine .inr ⟨S.go i H s Y,Pv (i+1),fun O j p'=>⟨xs.length-(i+1),by omega,rfl,Y,p'⟩,fun x j hy=>?_⟩
  obtain⟨T,y,rfl,hT,rfl,hx⟩:=S.yld i H x j s hy;exact hs i y σ H T hx p hT
 ·have e:i=xs.length:=by omega
  subst e;exact .inl ⟨S.stop _ H s (Zq _),hd σ H p⟩
theorem g2 (K:ac)(i j:Nat){X:Cx}{x y:Str}{k}{z J pos:Pos}(Y:X.calm=true)(hx:PG X (.Name x z) (Ye i))(hy:PG X (.Name y J) (Ye j))(hK:X.K=K:=by rfl)
  (hn:(assignEach [.Name x z,.Name y J] X.env).length=2:=by rfl) (O:(assignEach [.Name x z,.Name y J] X.env).findIdx? (·.1)=none:=by rfl) :
  PG X (.Tuple [.Name x z,.Name y J] k pos) (Zin K 2 (ZdJ (Ye i) (ZdJ (Ye j) Zio))):=hK▸Zgc Y (UJ hx (UJ hy Zet)) hn O
structure Sml (k b:Nat)(d:ck):Prop where
 sh:d.showable=true
 nd:d.hasDict=false
 dp:d.depth<=k
 lv:d.leavesShort 300=true
 bl:d.bulk<=b
theorem Sml.all {k b:Nat}:∀{ds:List ck},(∀d∈ds,Sml k b d)->iV ds=true/\i9 ds=false/\bo ds<=k/\iA 300 ds=true/\jH ds<=ds.length*(b+1)
 | [],_=>⟨rfl,rfl,aE _,rfl,aE _⟩
 |d::ds,h=>by
  obtain⟨j,z,J,O,h5⟩:=Sml.all (ds:=ds) fun e Y=>h e (ae _ Y);have hd:=h d ah;refine⟨?_,?_,?_,?_,?_⟩
  ·simp only[iV,hd.sh,j,iy]
  ·simp only[i9,hd.nd,z,Bool.or_self]
  ·simp only[bo]
   exact Nat.max_le.mpr ⟨hd.dp,J⟩
  ·simp only[iA,hd.lv,O,iy]
  ·simp only[jH,Zi]
   have:=hd.bl;rw[dW];omega
theorem Sml.fit {k b:Nat}{d:ck}(h:Sml k b d)(j:k<=60)(hb:b<=50000):Zfk d:=by
 refine⟨h.sh,h.nd,aK h.dp j,?_⟩;have:=PyData.shown_le_bulk 300 (by decide) d h.lv;have z:=h.bl;have e:(16777216:Nat)=sizeLine:=by decide
 omega
theorem Sml.tup {k b n:Nat}{ds:List ck}(j:ds.length<=n)(h:∀d∈ds,Sml k b d):Sml (k+1) (n*(b+1)) (.tuple ds):=by
 obtain⟨z,J,h3,O,Y⟩:=Sml.all h;refine⟨by simp only[gH];exact z,by simp only[PyData.hasDict];exact J,by simp only[dc];omega,by simp only[iW];exact O,?_⟩;simp only[PyData.bulk];exact aK Y (a8 _ j)
end L2
namespace Pm
open PySem L2 PySem.Spec PyProof.Rows
open Tb
noncomputable def nV (k:Nat):V:=.int (k:Int)
theorem UT {n i:Nat}(h:i<n):ixN n (i:Int)=some i:=by
 unfold ixN;rw[if_pos (jA _),if_pos (by omega),Zj]
section
variable {X:Cx}
structure QE (X:Cx)(e:Expr)(t:TE):Prop where
 h:PE X e t
structure QS (X:Cx)(st:Stmt)(t:TS):Prop where
 h:PS X st t
structure QSs (X:Cx)(sts:List Stmt)(t:TS):Prop where
 h:Vi X sts t
theorem ZfB (i:Nat){x:Str}{e:Expr}{z:TE}{pos j:Pos}(J:X.fn x=true)(O:QE X e z)(Y:X.N[i]?=some x:=by rfl)(hN:WJ X.N=true:=by kernel_rfl)(hx:UV X.env.scope x=true:=by kernel_rfl)
  (hs:swapsWith e (some (.Name x j)) pos.line X.env=pure false:=by rfl):QS X (.Assign [.Name x j] e pos) (Vo z (Ye i)):=⟨ZJ i J O.h Y hN hx hs⟩
theorem XU {st:Stmt}{rest:List Stmt}{t u:TS}(j:QS X st t)(z:QSs X rest u):QSs X (st::rest) (Vm t u):=⟨Zt j.h z.h⟩
end
theorem tupK {X:Cx}(K:ac)(z:X.K=K:=by rfl):Yk X (.type "tuple") (fun xs H Q=>∃p j,xs=[.ref p]/\((WQ K H p j/\∀l,H l=none->Q (.ref l) (upd H l (.tup j)))\/(WS K H p j/\Q (.ref p) H))):=z▸Vt
end Pm
namespace L2
open PySem PySem.Spec PyProof.Rows
section
variable {X:Cx}
noncomputable def ZdE (K:ac)(ta:TA):TI:=fun σ H R=>ta σ H fun vs O=>∃a z j,vs=[.ref a]/\(WQ K j a z\/WS K j a z)/\Zx j O/\∀J Y,Zfl J Y z->(∀H',Zx j H'->Y H')->R J O
theorem ZgS {elts:List Expr}{x1}{pt:Pos}{l:Expr}{ta:TA}{p pos:Pos}(hm:X.mg "enumerate"=none)(ha:PA X [l] ta)(hg:YZ X.env.scope "enumerate"=true:=by kernel_rfl)(hs:starEach [l] X.env=[(false,eval l X.env)]:=by rfl) :
  PI X (.Tuple elts x1 pt) (.Call (.Name "enumerate" p) [l] [] pos) (ZdE X.K ta):=by
 intro J s σ H R I h;refine Call_ (J7 I (YU hg) hm (show bootBuiltins "enumerate"=some (.type "enumerate") by kernel_rfl) (cw (ZW (ha pos J s σ H _ I h) fun us s1 ⟨vs,H1,j,r1,q1⟩=>?_) hs rfl));obtain⟨a,xs,Hx,e,z,sm,q⟩:=q1;subst e;cases r1 with
 |cons r rr=>
  cases rr;cases (show _=au a from r);have sz:∀b,b∈[s1.heap.objs.size+1,s1.heap.objs.size]->s1.heap.objs.size<=b:=fun b hb=>by
   rcases aj.mp hb with rfl|hb
   ·exact de _
   ·have:b=s1.heap.objs.size:=by simpa using hb
    rw[this];exact Zq _
  rcases z with z|z
  ·obtain⟨O,rv,p,hz⟩:=j.list (sm.seq z)
   refine call_enumerate_list p.isList fun g Y gi gs gk=>fq Y ?_;exact⟨_,[s1.heap.objs.size+1,s1.heap.objs.size],_,_,H1,rfl,j.kept (t':=s1.toks) gk,Zas a _ _ (bz (Nat.lt_succ_self _)),⟨⟨_,Y⟩,gi⟩,fun b hb=>j.fpOk (sz b hb) (j.hok.fresh (sz b hb)),q _ _ ZgX fun H' s'=>s'.seq z⟩
  ·obtain⟨O,rv,p,hz⟩:=j.tuple (sm.tup z)
   refine PyY.Za5 (show s1.heap.IsTuple a O.toArray from p) fun g Y gi gs gk=>fq Y ?_;exact⟨_,[s1.heap.objs.size+1,s1.heap.objs.size],_,_,H1,rfl,j.kept (t':=s1.toks) gk,Zar a _ _ (bz (Nat.lt_succ_self _)),⟨⟨_,Y⟩,gi⟩,fun b hb=>j.fpOk (sz b hb) (j.hok.fresh (sz b hb)),q _ _ ZgW fun H' s'=>s'.tup z⟩
theorem ZgT (K:ac){elts:List Expr}{z}{pt:Pos}{l:Expr}{j:TA}{p pos:Pos}(J:X.mg "enumerate"=none)(O:PA X [l] j)(Y:X.K=K:=by rfl)(hg:YZ X.env.scope "enumerate"=true:=by kernel_rfl)(hs:starEach [l] X.env=[(false,eval l X.env)]:=by rfl) :
  PI X (.Tuple elts z pt) (.Call (.Name "enumerate" p) [l] [] pos) (ZdE K j):=Y▸ZgS J O hg hs
end
end L2
namespace Tx
open PySem L2 PySem.Spec PyProof.Rows PySem.NumText
theorem t_e:ar ""=tx []:=by decide +kernel
theorem t_p:ar "+"=tx [43]:=by decide +kernel
theorem t_m:ar "-"=tx [45]:=by decide +kernel
theorem Zef:ar "+-"=tx [43,45]:=by decide +kernel
theorem t_z:ar "z"=tx [122]:=by decide +kernel
theorem t_0:ar "0"=tx [48]:=by decide +kernel
theorem t_1:ar "1"=tx [49]:=by decide +kernel
theorem t_d:ar "0123456789"=tx [48,49,50,51,52,53,54,55,56,57]:=by decide +kernel
theorem Y8 {a b:List Nat}:decide (V.str (tx a)=V.str (tx b))=decide (a=b):=by
 rw[be,decide_eq_true_eq,decide_eq_true_eq];exact⟨fun h=>ZcQ (V.str.inj h),fun h=>by rw[h]⟩
theorem ZdC (c:Nat):(!(dU (tx [48,49,50,51,52,53,54,55,56,57]) ⟨#[c]⟩ 0 (tx [48,49,50,51,52,53,54,55,56,57]).length 1).isEmpty)=(decide (48<=c) && decide (c<=57)):=by
 rw[fU,ZY,be];simp only[aj,List.not_mem_nil,or_false,decide_eq_true_eq,aT];omega
noncomputable def dgV:V->V
 | .str s=>.bl (s.cps.toList.all fun c=>decide (48<=c) && decide (c<=57))
 |v=>v
theorem Ze5 (l:List Nat):(l.map fun c=>V.str ⟨#[c]⟩).map dgV=(l.map fun c=>decide (48<=c) && decide (c<=57)).map V.bl:=by
 rw[a7,a7];refine dP fun c _=>?_;show V.bl ([c].all _)=V.bl _;rw[f8,gx,dG]
theorem Zds {a:List Int}{i:Nat}{y:V}(h:(a.map V.int)[i]?=some y):i<a.length/\y=.int (Yv a i):=by
 rw[Zc] at h;cases e:a[i]? with
 |none=>rw[e] at h;cases h
 |some z=>
  rw[e] at h;unfold Yv;rw[Zb,e];exact⟨(aH.mp e).1,(ay h).symm⟩
theorem W4 {a:List Int}{i:Nat}(h:i<a.length):a.drop i=Yv a i::a.drop (i+1):=by
 unfold Yv;rw[bJ h,Zb,Zf h];rfl
theorem Uk {a:List Int}{i:Nat}(h:i<a.length):Yv a i∈a:=by
 unfold Yv;rw[Zb,Zf h];exact dz h
theorem ZbJ {a:List Int}{i:Nat}(h:i<a.length):(a.map V.int)[i]?=some (.int (Yv a i)):=by
 unfold Yv;rw[Zc,Zb,Zf h];rfl
theorem Yz (j:List Nat)(k:Int)(r:List Int)(p:Nat):WC j (k::r) p=if k=0 then WC j r (p+1) else WC (j++(if j≠[]/\k > 0 then [43] else [])++wd k p) r (p+1):=rfl
theorem ZcZ (l:List Nat):dk (tx l) (tx [45])=neg l:=by
 unfold dk neg;rw[be,aT,decide_eq_true_eq];have:=bX (tx l) 45 0;rw[ZY] at this;refine this.trans ?_;cases l with
 |nil=>simp
 |cons c r=>simp
theorem Zbh (l:List Nat){i:Nat}(h:i<=l.length):db (tx l) (some (i:Int)) none=tx (l.drop i):=by
 have:=StrLaws.sliceText_from (x:=tx l) (i:=(i:Int)) ⟨by omega,by rw[ZY];omega⟩;refine (show db (tx l) (some (i:Int)) none=fS (tx l) (some (i:Int)) none from rfl).trans (this.trans ?_);rw[ZY,Zj,bR (by rw[ao];omega)];rfl
theorem ZeM {l a b:List Nat}{z:Bool}(h:neg l=true)(j:ZX l=(a,z,b)):1<=a.length:=by
 unfold neg at h;cases l with
 |nil=>cases h
 |cons c r=>
  have J:c=45:=by simpa using h
  unfold ZX at j;rw[J,if_neg (by decide)] at j;have:=congrArg (fun x=>x.1.length) j;simp only[Zi] at this;omega
theorem Uj {l a b:List Nat}{z:Bool}(J:ZX l=(a,z,b)):a.length<=l.length/\b.length<=l.length/\(∀c∈a,c∈l)/\(∀c∈b,c∈l)/\(z=false->b=[]):=by
 obtain⟨O,j⟩:=Wv l;rw[J] at j;cases z with
 |false=>
  have j:l=a:=j;have:b=[]:=by
   have e:=Ji (l:=l) (by rw[J] at O;rw[j];exact O);rw[J] at e;exact (iC (iC e).2).2
  rw[j,this];exact⟨Zq _,aE _,(fun c h=>h),(fun c h=>by cases h),fun _=>rfl⟩
 |true=>
  have j:l=a++122::b:=j;rw[j];refine⟨?_,?_,fun c h=>bE _ h,fun c h=>am _ (ae _ h),fun h=>by cases h⟩
  ·rw[Zd];omega
  ·rw[Zd,Zi];omega
theorem Zf0 (m:Nat):(ag m [V.int 0]).flatten=(ag m (0:Int)).map V.int:=by
 induction m with
 |zero=>rfl
 |succ m j=>rw[aM,bG,j,aM];rfl
theorem V3:∀l:List Nat,(rep l).length<=2*l.length
 | []=>aE _
 |c::r=>by
  have j:=V3 r;show ((if c=45 then [43,45] else [c])++rep r).length<=_
  rw[Zd,Zi];split <;> simp only[Zi,ax] <;> omega
theorem XT {wide:Nat}{l:List Nat}{xs:List Int}(h:We wide l=some xs):putAll (ag wide 0) (Xp l)=some xs/\Wn xs=l:=by
 unfold We at h;cases e:putAll (ag wide 0) (Xp l) with
 |none=>rw[e] at h;cases h
 |some f=>
  rw[e] at h;have h:(if Wn f=l then some f else none)=some xs:=h
  split at h
  ·cases h
   exact⟨rfl,by assumption⟩
  ·cases h
theorem UI {f g:List Int}{w:List Nat}(h:Y4 f w=some g):g.length=f.length:=by
 unfold Y4 at h;split at h
 ·cases h;rfl
 ·split at h
  ·cases h
  ·split at h
   ·cases h;rw[cU]
   ·cases h
theorem XV {f g:List Int}{w:List Nat}{z:List (List Nat)}(h:putAll f (w::z)=some g):∃j,Y4 f w=some j/\putAll j z=some g:=by
 unfold putAll at h;cases e:Y4 f w with
 |none=>rw[e] at h;cases h
 |some j=>rw[e] at h;exact⟨j,rfl,h⟩
theorem Zeo {f g:List Int}{w:List Nat}(h:Y4 f w=some g)(hw:w≠[]):∃k p,rdP w=some (k,p)/\p<f.length/\g=f.set p (Yv f p+k):=by
 unfold Y4 at h;rw[if_neg hw] at h;split at h
 ·cases h
 ·rename_i k p e
  split at h
  ·cases h
   exact⟨k,p,e,by assumption,rfl⟩
  ·cases h
theorem ZcN {k:Int}(J:k≠0)(p:Nat):wd k p=(if p≠0/\k.natAbs=1 then (if k<0 then [45] else []) else Y1 k)++Vg p:=by
 rw[Uw k p J];congr 1;unfold ahd Y1;by_cases j:p=0
 ·rw[if_pos j,if_neg (show ¬(p≠0/\k.natAbs=1) from fun h=>h.1 j)]
  split <;> rfl
 ·rw[if_neg j]
  by_cases z:k.natAbs=1
  ·rw[if_pos z,if_pos (show p≠0/\k.natAbs=1 from ⟨j,z⟩),aI]
  ·rw[if_neg z,if_neg (show ¬(p≠0/\k.natAbs=1) from fun h=>z h.2)]
   split <;> rfl
theorem Zd0 (p:Nat):atI [V.str (tx []),V.str (tx [122]),V.str (tx (122::ZL p))] (if (2:Int)<(p:Nat) then 2 else (p:Nat))=some (V.str (tx (Vg p))):=by
 unfold Vg
 match p with
 |0=>rfl
 |1=>rfl
 |p+2=>
  by_cases h:(2:Int)<((p+2:Nat):Int)
  ·rw[if_pos h];rfl
  ·have:p=0:=by omega
   subst this;rfl
theorem Zix (k:Int):atI [V.str (tx []),V.str (tx [45])] (if decide (k<0)=true then 1 else 0)=some (V.str (tx (if k<0 then [45] else []))):=by
 by_cases j:k<0
 ·rw[if_pos j,if_pos (decide_eq_true j)];rfl
 ·rw[if_neg j,if_neg (fun h=>j (of_decide_eq_true h))];rfl
theorem Zfb {p:Nat}(j:p<100):(Vg p).length<=3:=by
 have z:(ZL p).length<=2:=W6 (by decide) j;unfold Vg;split
 ·simp
 ·rw[Zi]
  split
  ·simp
  ·omega
theorem Zi4 (m:Nat):(ag m [V.int 0]).flatten=(ag m (0:Int)).map V.int:=Zf0 m
end Tx
namespace N63
open PySem L2 PySem.Spec PyProof.Rows
noncomputable def top (i:Nat):Stmt:=dw.main.body.getD i (.Pass ⟨0,0,0,0⟩)
structure Bl (mg:Str->Option Value):Prop where
 list:mg "list"=none
 len:mg "len"=none
 abs:mg "abs"=none
 range:mg "range"=none
 tuple:mg "tuple"=none
 isi:mg "isinstance"=none
 all:mg "all"=none
 set:mg "set"=none
 repr:mg "repr"=none
 any:mg "any"=none
 int:mg "int"=none
 bool:mg "bool"=none
section
variable {P:Program}{w:World}{K:ac}{mg:Str->Option Value}{base:Heap}
end
section
variable {P:Program}{w:World}{K:ac}{mg:Str->Option Value}{base:Heap}
theorem ZaZ (ds:List ck):iX (.list ds) (.list [])=ds.isEmpty:=by
 cases ds with
 |nil=>rfl
 |cons d r=>rfl
theorem Xu {ds:List ck}(h:∀d∈ds,d.canLay0=true/\d.depth<=10):cy (.list ds)=true:=by
 have j:bf ds=true/\bo ds<=10:=by
  induction ds with
  |nil=>exact⟨rfl,aE _⟩
  |cons d r z=>
   obtain⟨a,b⟩:=z fun e J=>h e (ae _ J);obtain⟨c,e⟩:=h d ah;exact⟨by simp only[bf,c,a,iy],by simp only[bo];omega⟩
 unfold cy;rw[aT];have O:(PyData.list ds).depth<=64:=by simp only[dc];omega
 exact⟨by simp only[cm];exact j.1,decide_eq_true O⟩
end
noncomputable abbrev Zbm:Stmt:=top 19
noncomputable abbrev Zbn:Stmt:=top 20
noncomputable def strip:Nat->Int->Int->Int
 |0,r,_=>r
 |g+1,r,p=>if r % p=0 then strip g (r / p) p else r
noncomputable def pr:Nat->Int->Int->List Int->List Int
 |0,_,_,acc=>acc
 |f+1,r,p,acc=>if 1<r then pr f (strip 6 r p) (p+1) (if r % p=0 then acc++[p] else acc) else acc
noncomputable def Zcx:Nat->Int->Int->Bool
 |0,r,_=>decide (r<=1)
 |f+1,r,p=>if 1<r then Zcx f (strip 6 r p) (p+1) else true
noncomputable def YE (n:Int):List Int:=pr 100 n 2 []
noncomputable def YN (n:Int):Int:=(YE n).foldl (fun f p=>f / p*(p-1)) n
noncomputable def ZeU:Nat->Int->Int->Int
 |0,a,_=>a
 |f+1,a,b=>if 0<b then ZeU f b (a % b) else a
noncomputable def Vr (a b:Int):Int:=ZeU 100 a b
noncomputable def ZbD (n:Int):Int:=(((Xr 1 n.toNat).filter fun k=>decide (Vr k n=1)).length:Nat)
noncomputable def okN (n:Nat):Bool:=Zcx 100 n 2 && (YE n).all (fun p=>decide (2<=p) && decide (p<=60)) && decide (YN n=ZbD n) && decide (1<=YN n) && decide (YN n<=60)
theorem ZeI:((eE 61).all fun n=>n == 0 || okN n)=true:=by decide +kernel
theorem J5 {n:Nat}(z:1<=n)(J:n<=60):Zcx 100 n 2=true/\(∀p∈YE n,2<=p/\p<=60)/\YN n=ZbD n/\1<=YN n/\YN n<=60:=by
 have h:=aJ.mp ZeI n (List.mem_range.mpr (by omega));have j:(n == 0)=false:=by simp;omega
 rw[j,ix] at h;unfold okN at h;simp only[aT,decide_eq_true_eq,aJ] at h;exact⟨h.1.1.1.1,h.1.1.1.2,h.1.1.2,h.1.2,h.2⟩
theorem Va {r p:Int}(z:1<=r)(j:2<=p)(h:r % p=0):1<=r / p/\2*(r / p)<=r:=by
 have e:p*(r / p)=r:=Int.mul_ediv_cancel' (Int.dvd_of_emod_eq_zero h);generalize r / p=q at e;have J:1<=q:=by
  apply gL;intro O;have:p*q<=p*0:=Int.mul_le_mul_of_nonneg_left (by omega) (by omega);omega
 have:2*q<=p*q:=Int.mul_le_mul_of_nonneg_right j (by omega);omega
theorem JE:∀(g:Nat) {r p:Int},1<=r->2<=p->1<=strip g r p/\strip g r p<=r
 |0,r,p,j,_=>⟨j,Int.le_refl _⟩
 |g+1,r,p,j,z=>by
  unfold strip;by_cases h:r % p=0
  ·rw[if_pos h]
   obtain⟨a,b⟩:=Va j z h;have:=JE g (r:=r / p) (p:=p) a z;omega
  ·rw[if_neg h];omega
theorem XL {g:Nat}{r p:Int}(h:¬r % p=0):strip g r p=r:=by
 cases g with
 |zero=>rfl
 |succ g=>unfold strip;rw[if_neg h]
noncomputable def UD:Sp:=fun z H Q _=>∃n:Nat,z=[.int n]/\1<=n/\n<=60/\∀l j,Zx H j->j l=some (.lst ((YE n).map V.int))->Q (.ref l) j
noncomputable def UE:Sp:=fun z H Q _=>∃n:Nat,z=[.int n]/\1<=n/\n<=60/\∀j,Zx H j->Q (.int (YN n)) j
section
variable {P:Program}{w:World}{K:ac}{mg:Str->Option Value}{base:Heap}
theorem Zcf {f:Addr}{fd:FuncData}(F:WT K "primes_of" "primes_of" Zbm f fd)(T:Bl mg):Z8 P w K mg base YD 1 f fd ["n"] UD:=by
 refine F.ok (FS (N:=["n", "primes", "rest", "p"])) (fun vs H Q E h=>?_) (fun m8 A l8 s H vs Q E hr h=>?_)
 ·obtain⟨n,rfl,_⟩:=h;rfl
 ·obtain⟨n,rfl,n1,l9,q⟩:=h
  obtain⟨j9,m9,_⟩:=J5 n1 l9;refine⟨_,Zt (ZJ 1 rfl (Z3 Zs)) (Zt (ZJ 2 rfl (vn 0)) (Zt (ZJ 3 rfl Zu)
   (Zt (WX ba (Zy Wo (vn 2) Zu (Zz _))
    (Zt (ZQ (Zy Z1 (ZD Wi (vn 2) (vn 3)) Zu (Zz _)) (Zw (Jb (Y6 bO bx bM YC (vn 1) (pc (vn 3) Zs)))) ZE)
    (Zt (WX ba (Zy Z1 (ZD Wi (vn 2) (vn 3)) Zu (Zz _)) (Zw (ZJ 2 rfl (ZD JM (vn 2) (vn 3)))))
    (Zw (Zf9 (i:=3) (Yu (by kernel_rfl)) rfl (X4 (by kernel_rfl)) Zu ZdB (.inl rfl))))))
   (Zw (ZF (vn 1)))))),?_⟩
  refine⟨by decide,fun l hl=>⟨_,rfl,?_⟩⟩;have s1:Zx H (upd H l (.lst [])):=Zx.upd hl;refine Wk (fun f Y H'=>∃(r p:Int) (acc:List Int),Y=[some (.int n),some (.ref l),some (.int r),some (.int p)]/\H'=upd H l (.lst (acc.map V.int))/\1<=r/\r<=60/\2<=p/\p+f=102/\acc.length+f<=100/\Zcx f r p=true/\pr f r p acc=YE n)
   (fun Y H'=>∃r p:Option V,Y=[some (.int n),some (.ref l),r,p]/\H'=upd H l (.lst ((YE n).map V.int))) ?hend ⟨100,n,2,[],rfl,rfl,by omega,by omega,by omega,by omega,by decide,j9,rfl⟩ ?turn
  case hend=>
   rintro Y H' ⟨r,p,rfl,rfl⟩;exact⟨_,rfl,q l _ (Zx.upd hl) Zv⟩
  case turn=>
   rintro j7 f Y H' ⟨r,p,acc,rfl,rfl,r1,m3,p2,pf,al,he,hp⟩;refine⟨_,rfl,_,_,rfl,rfl,_,rfl,?_⟩;refine ZO (fun h1=>?_) (fun h1=>?_)
   rotate_left
   ·have h1:¬ 1<r:=fun z=>h1 (decide_eq_true z)
    refine j7 _ _ ⟨_,_,rfl,?_⟩;have:pr f r p acc=acc:=by cases f with|zero=>rfl|succ f=>unfold pr;rw[if_neg h1]
    rw[<-hp,this]
   have h1:1<r:=of_decide_eq_true h1;obtain⟨g,rfl⟩:∃g,f=g+1:=by
    cases f with
    |zero=>unfold Zcx at he;have:=of_decide_eq_true he;omega
    |succ g=>exact⟨g,rfl⟩
   refine⟨_,fun _ _ z=>z,?_⟩;unfold Zcx at he;unfold pr at hp;rw[if_pos h1] at he hp;have sz:(16777216:Nat)=sizeLine:=by decide
   refine⟨_,rfl,_,rfl,_,_,rfl,rfl,(by show (0:Int)<p;omega),rfl,_,rfl,?_⟩;obtain⟨j,j8,l7,hA⟩:∃j:List Int,j=(if r % p=0 then acc++[p] else acc)/\pr g (strip 6 r p) (p+1) j=YE n/\j.length<=acc.length+1:=⟨_,rfl,hp,by split <;> simp⟩
   obtain⟨m4,n4⟩:=JE 6 (r:=r) (p:=p) r1 p2;refine ZO (fun h2=>?_) (fun h2=>?_)
   ·have h2:r % p=0:=V.int.inj (of_decide_eq_true h2)
    refine⟨_,rfl,.inl ⟨rfl,_,.of Zv⟩,_,rfl,l,_,_,rfl,rfl,Zv,by rw[Za];omega,?_⟩;have e1:upd (upd H l (.lst (acc.map V.int))) l (.lst (acc.map V.int++[.int p]))=upd H l (.lst (j.map V.int)):=by
     rw[Zed,j8,if_pos h2,aU];rfl
    rw[e1];refine Wk (fun m J O=>∃(r':Int) (g':Nat),J=[some (.int n),some (.ref l),some (.int r'),some (.int p)]/\O=upd H l (.lst (j.map V.int))/\1<=r'/\r'<=60/\r'<2 ^ g'/\strip g' r' p=strip 6 r p/\m=r'.toNat)
     (fun J O=>J=[some (.int n),some (.ref l),some (.int (strip 6 r p)),some (.int p)]/\O=upd H l (.lst (j.map V.int))) ?hend2 ⟨_,r,6,rfl,rfl,r1,m3,by omega,rfl,rfl⟩ ?turn2
    case hend2=>
     rintro J O ⟨rfl,rfl⟩;exact⟨_,rfl,_,_,rfl,rfl,g,by omega,strip 6 r p,p+1,j,rfl,rfl,m4,by omega,by omega,by omega,by omega,he,l7⟩
    case turn2=>
     rintro j4 m J O ⟨r',g',rfl,rfl,a1,a2,a3,a4,rfl⟩;refine⟨_,rfl,_,rfl,_,_,rfl,rfl,(by show (0:Int)<p;omega),rfl,_,rfl,?_⟩;refine ZO (fun h3=>?_) (fun h3=>?_)
     ·have h3:r' % p=0:=V.int.inj (of_decide_eq_true h3)
      obtain⟨b1,b2⟩:=Va a1 p2 h3;obtain⟨g2,rfl⟩:∃g2,g'=g2+1:=by
       cases g' with
       |zero=>simp at a3;omega
       |succ g2=>exact⟨g2,rfl⟩
      unfold strip at a4;rw[if_pos h3] at a4;refine⟨_,fun _ _ z=>z,_,rfl,_,rfl,_,_,rfl,rfl,⟨by omega,by omega⟩,(r' / p).toNat,by omega,r' / p,g2,rfl,rfl,b1,by omega,?_,a4,rfl⟩;rw[Int.pow_succ] at a3;omega
     ·have h3:¬r' % p=0:=fun z=>h3 (decide_eq_true (congrArg V.int z))
      rw[XL h3] at a4;exact j4 _ _ ⟨by rw[a4],rfl⟩
   ·have h2:¬r % p=0:=fun z=>h2 (decide_eq_true (congrArg V.int z))
    have e1:upd H l (.lst (acc.map V.int))=upd H l (.lst (j.map V.int)):=by rw[j8,if_neg h2]
    rw[e1];have e2:strip 6 r p=r:=XL h2;refine Wk (fun m J O=>J=[some (.int n),some (.ref l),some (.int r),some (.int p)]/\O=upd H l (.lst (j.map V.int)))
     (fun J O=>J=[some (.int n),some (.ref l),some (.int r),some (.int p)]/\O=upd H l (.lst (j.map V.int))) ?hend3 ⟨0,rfl,rfl⟩ ?turn3
    case hend3=>
     rintro J O ⟨rfl,rfl⟩;exact⟨_,rfl,_,_,rfl,rfl,g,by omega,r,p+1,j,rfl,rfl,r1,by omega,by omega,by omega,by omega,e2▸he,e2▸l7⟩
    case turn3=>
     rintro j6 m J O ⟨rfl,rfl⟩;refine⟨_,rfl,_,rfl,_,_,rfl,rfl,(by show (0:Int)<p;omega),rfl,_,rfl,?_⟩;exact Yg (fun z=>h2 (V.int.inj (of_decide_eq_true z))) (j6 _ _ ⟨rfl,rfl⟩)
theorem Zcg {f:Addr}{fd:FuncData}(F:WT K "places" "places" Zbn f fd)(T:Bl mg)(GP:Fn P w K mg base YD 1 "primes_of" ["n"] UD):Z8 P w K mg base YD 2 f fd ["n"] UE:=by
 refine F.ok (FS (N:=["n", "found", "p"])) (fun vs H Q E h=>?_) (fun j6 A Y s H vs Q E hr h=>?_)
 ·obtain⟨n,rfl,_⟩:=h;rfl
 ·obtain⟨n,rfl,n1,z,q⟩:=h
  obtain⟨_,j4,_⟩:=J5 n1 z;refine⟨_,Zt (ZJ 1 rfl (vn 0)) (Zt (Wh ba rfl (itL K (Wc GP hr ZU (pc (vn 0) Zs))) (gn 2)
   (Zw (ZJ 1 rfl (ZD WI (ZD JM (vn 1) (vn 2)) (ZD WY (vn 2) Zu)))))
   (Zw (ZF (vn 1)))),?_⟩
  refine⟨_,rfl,_,rfl,n,rfl,n1,z,fun l H1 s1 hl=>⟨l,rfl,⟨_,.of hl⟩,?_⟩⟩;refine Ze3 (WD (WQ.of hl)) (fun i j O=>∃v2:Option V,j=[some (.int n),some (.int (((YE n).take i).foldl (fun f p=>f / p*(p-1)) n)),v2]/\O=H1) ⟨none,rfl,rfl⟩ (fun _ _ _ ⟨_,_,e⟩=>e▸Zx.refl _) ?_ ?_
  ·rintro i x j O J ⟨v2,rfl,rfl⟩
   rw[Zc] at J;cases e:(YE n)[i]? with
   |none=>rw[e] at J;cases J
   |some p=>
    rw[e] at J;cases J;obtain⟨a1,a2⟩:=j4 p (aN e);refine⟨_,rfl,_,rfl,_,_,rfl,rfl,⟨by omega,by omega⟩,_,rfl,_,_,rfl,rfl,_,_,rfl,rfl,.inr ⟨by omega,by omega⟩,?_⟩;refine⟨some (.int p),?_,rfl⟩;have ht:(YE n).take (i+1)=(YE n).take i++[p]:=by rw[jy,e];rfl
    rw[ht,List.foldl_append];rfl
  ·rintro j O ⟨v2,rfl,rfl⟩
   refine⟨_,rfl,?_⟩;rw[Za,cK];exact q O s1
end
end N63
namespace C63
open PySem L2 PySem.Spec PyProof.Rows
open Tb Pm
noncomputable def top (i:Nat):Stmt:=dw.main.body.getD i (.Pass ⟨0,0,0,0⟩)
noncomputable abbrev Zfw:Stmt:=top 33
noncomputable abbrev Zc6:Stmt:=top 34
structure BlB (mg:Str->Option Value):Prop where
 list:mg "list"=none
 len:mg "len"=none
 range:mg "range"=none
 tuple:mg "tuple"=none
 sorted:mg "sorted"=none
theorem neC {X:Cx}(K:ac)(J:X.A.units+64<cLine)(O:X.K=K:=by rfl):W9 X (compareOp .NotEq) (fun x y H Q=>∃j z,Vh K H x j/\Vh K H y z/\cy j=true/\cy z=true/\Q (.bl (!iX j z)) H):=O▸Zgj J
noncomputable def fdK (q:Addr)(a l:Int):List (YG×V):=[(.inr "cells",.ref q),(.inr "at",.int a),(.inr "left",.int l)]
noncomputable def Yo (H:Hp)(p q:Addr)(b:Nat):Prop:=∃(j:List Int) (a l:Int),H p=some (.dK (fdK q a l))/\H q=some (.lst (j.map V.int))/\j.length<=63/\0<=l/\0<=a/\a<=b
theorem Yo.mono {H j:Hp}{p q:Addr}{b:Nat}(s:Zx H j)(h:Yo H p q b):Yo j p q b:=by
 obtain⟨z,a,l,J,O,Y⟩:=h;exact⟨z,a,l,s _ _ J,s _ _ O,Y⟩
theorem Yo.le {H:Hp}{p q:Addr}{b j:Nat}(h:Yo H p q b)(hb:b<=j):Yo H p q j:=by
 obtain⟨z,a,l,J,O,Y,h4,h5,h6⟩:=h;exact⟨z,a,l,J,O,Y,h4,h5,by omega⟩
theorem ZeV {H:Hp}{p q:Addr}{a l:Int}(h:H p=some (.dK (fdK q a l))):Vj H p (.str "cells") (some (.ref q)):=Vj.k (k:=.inr "cells") h
theorem Zjg {H:Hp}{p q:Addr}{a l:Int}(h:H p=some (.dK (fdK q a l))):Vj H p (.str "at") (some (.int a)):=Vj.k (k:=.inr "at") h
theorem ZaW {H:Hp}{p q:Addr}{a l:Int}(h:H p=some (.dK (fdK q a l))):Vj H p (.str "left") (some (.int l)):=Vj.k (k:=.inr "left") h
theorem Zjc {H:Hp}{p q:Addr}{a l j:Int}(h:H p=some (.dK (fdK q a l))):Zai H p (.str "at") (.int j) (upd H p (.dK (fdK q j l))):=Zai.k (k:=.inr "at") h (by rw[fu];show 3<_;omega)
theorem Zdl {H:Hp}{p q:Addr}{a l j:Int}(h:H p=some (.dK (fdK q a l))):Zai H p (.str "left") (.int j) (upd H p (.dK (fdK q a j))):=Zai.k (k:=.inr "left") h (by rw[fu];show 3<_;omega)
noncomputable def Tk (p:Addr)(H j:Hp):Prop:=∀b o,H b=some o->b≠p->j b=some o
theorem Tk.of {p:Addr}{H j:Hp}(s:Zx H j):Tk p H j:=fun b o e _=>s b o e
theorem Tk.trans {p:Addr}{H H1 j:Hp}(a:Tk p H H1)(b:Tk p H1 j):Tk p H j:=fun c o e n=>b c o (a c o e n) n
theorem Tk.refl {p:Addr}{H:Hp}:Tk p H H:=fun _ _ e _=>e
theorem Yo.ne {H:Hp}{p q a:Addr}{b:Nat}{o:HO}(h:Yo H p q b)(e:H a=some o)(J:∀j,o≠.dK j):a≠p:=fun z=>by
 obtain⟨Y,c,l,O,_⟩:=h;rw[z,O] at e;exact J _ (ay e).symm
theorem Yo.neN {H:Hp}{p q a:Addr}{b:Nat}(h:Yo H p q b)(e:H a=none):a≠p/\a≠q:=by
 obtain⟨O,c,l,j,J,_⟩:=h;exact⟨fun z=>(by rw[z,j] at e;cases e),fun z=>(by rw[z,J] at e;cases e)⟩
theorem Yo.put {H:Hp}{p q L:Addr}{b:Nat}{o:HO}(h:Yo H p q b)(j:L≠p)(z:L≠q):Yo (upd H L o) p q b:=by
 obtain⟨J,c,l,O,Y,h3⟩:=h;exact⟨J,c,l,by rw[ZB (bC j)];exact O,by rw[ZB (bC z)];exact Y,h3⟩
theorem Tk.tup {p q a:Addr}{H j:Hp}{b:Nat}{xs:List V}(d:Tk p H j)(T:Yo H p q b)(h:H a=some (.tup xs)):j a=some (.tup xs):=d a _ h (T.ne h fun _ z=>by cases z)
theorem Tk.lst {p q a:Addr}{H j:Hp}{b:Nat}{xs:List V}(d:Tk p H j)(T:Yo H p q b)(h:H a=some (.lst xs)):j a=some (.lst xs):=d a _ h (T.ne h fun _ z=>by cases z)
theorem Zc5 (ns:List Int):cy (.list (ns.map bc))=true:=by
 unfold cy;have j:cm (.list (ns.map bc))=true:=Za3 ns;have z:dc (.list (ns.map bc))<=60:=Zcy ns;simp only[j,eX,dG,decide_eq_true_eq];omega
noncomputable def Zc3 (K:ac):Sp:=fun z H Q _=>∃(a:Addr) (J:List Int),z=[.ref a]/\WQ K H a (J.map V.int)/\∀p q j,Zx H j->H p=none->Yo j p q 0->Q (.ref p) j
noncomputable def VW:Sp:=fun z H Q _=>∃(p q:Addr) (m:Int) (b:Nat),z=[.ref p,.int m]/\Yo H p q b/\b<2 ^ 60/\0<m/\m<1073741824/\∀r j,0<=r->r<m->Tk p H j->Yo j p q (b+1)->Q (.int r) j
theorem ZdU (ns:List Int)(lo j:Option Int):∃z:List Int,Jw (ns.map V.int) lo j=z.map V.int/\(∀k:Nat,j=some (k:Int)->z.length<=k):=by
 refine⟨(ns.drop (HT.YI ns.length 0 lo)).take (HT.YI ns.length ns.length j-HT.YI ns.length 0 lo),?_,fun k e=>?_⟩
 ·unfold Jw;rw[Za,bT,cg]
 ·subst e
  rw[aB,HT.JH];omega
section
variable {P:Program}{w:World}{K:ac}{mg:Str->Option Value}{base:Heap}
theorem ZeG {f:Addr}{fd:FuncData}(F:WT K "_law_feed" "_law_feed" Zfw f fd)(T:BlB mg):Z8 P w K mg base YD 1 f fd ["_law_script"] (Zc3 K):=by
 refine F.ok (FS (N:=["_law_script"])) (fun vs H Q E h=>?_) (fun j8 A j4 s H vs Q E hr h=>?_)
 ·obtain⟨a,ns,rfl,_⟩:=h;rfl
 ·obtain⟨a,ns,rfl,hS,k⟩:=h
  refine⟨_,Zw (ZF (Zew (XX ZA (ct JQ T.list (pc (ZG ZV (vn 0) ZM (ZK Zu)) Zs)) (XX ZA Zu (XX ZA Zu Zer))) rfl rfl (by simp) (by decide))),?_⟩;intro p np;obtain⟨J,e,hl⟩:=ZdU ns none (some 63);have s0:=Zx.upd (H:=H) (o:=.dK []) np;refine⟨_,rfl,_,rfl,a,_,rfl,s0.seq hS,fun p1 h1=>⟨p1,_,rfl,.inl (.of Zv),fun q hq=>?_⟩⟩;rw[e] at hq ⊢;have Y:upd H p (.dK []) p=some (.dK []):=Zv;generalize upd H p (.dK [])=H1 at s0 h1 hq Y ⊢;have s1:=Zx.upd (H:=H1) (o:=.lst (J.map V.int)) h1;generalize upd H1 p1 (.lst (J.map V.int))=H2 at s1 hq ⊢;have s2:=Zx.upd (H:=H2) (o:=.lst (J.map V.int)) hq;have j:upd H2 q (.lst (J.map V.int)) q=some (.lst (J.map V.int)):=Zv;have O:=s2 _ _ (s1 _ _ Y);generalize upd H2 q (.lst (J.map V.int))=H3 at s2 j O ⊢;have j6:q≠p:=fun z=>by rw[z,O] at j;cases j
  refine⟨O,fdK q 0 0,rfl,(by show 3<=15;decide),?_⟩;refine k p q _ (fun b o hb=>?_) np ⟨J,0,0,Zv,by rw[ZB j6];exact j,hl 63 rfl,by decide,by decide,by decide⟩;have j7:b≠p:=fun z=>by rw[z,np] at hb;cases hb
  rw[ZB j7];exact s2 _ _ (s1 _ _ (s0 _ _ hb))
theorem ZeH {f:Addr}{fd:FuncData}(F:WT K "_law_draw" "_law_draw" Zc6 f fd)(T:BlB mg):Z8 P w K mg base YD 1 f fd ["_law_feed_here", "_law_many"] VW:=by
 refine F.ok (FS (N:=["_law_feed_here", "_law_many", "_law_found", "_law_at", "_law_cells", "_law_cell", "_law_number_here"])) (fun vs H Q E h=>?_) (fun j9 A l7 s H vs Q E hr h=>?_)
 ·obtain⟨p,q,m,b,rfl,_⟩:=h;rfl
 ·obtain⟨p,q,m,b,rfl,⟨O,a,l,h1,h2,Y,l0,a0,ab⟩,hb,m0,m1,k⟩:=h
  have hu:(A.deeper (envOfC "_law_draw" (ZS Zc6) s.heap.objs.size f j9)).units+1<cLine:=by have:=hr.un;omega
  refine⟨_,Zt (ZQ (Zy Wo (JL hu (vn 0) ZA (fun _ _=>rfl)) Zu (Zz _)) (Zt (ZJ 2 rfl (ZD Wi (JL hu (vn 0) ZA (fun _ _=>rfl)) (vn 1)))
   (Zt (V6 hu (vn 0) ZA (ZD JM (JL hu (vn 0) ZA (fun _ _=>rfl)) (vn 1)) (by rfl))
   (Zw (ZF (vn 2))))) ZE)
   (Zt (ZJ 3 rfl (JL hu (vn 0) ZA (fun _ _=>rfl)))
   (Zt (V6 hu (vn 0) ZA (ZD Z9 (vn 3) Zu) (by rfl))
   (Zt (ZJ 4 rfl (JL hu (vn 0) ZA (fun _ _=>rfl)))
   (Zt (ZJ 5 rfl (Z5 (Zy (neC K hr.units) (vn 4) (Z3 Zs) (Zz _)) (ZP (Vq K) (vn 4) (ZD Wi (vn 3) (cb (Ws K) T.len (pc (vn 4) Zs))) (fun _ _=>rfl)) (ZD WI (vn 3) (vn 3))))
   (Zt (ZQ (WF (Zy Zbw (vn 5) (ZD ZaI Zu Zu) (Zz _)) (Y0 (Zy XY (vn 3) (cb (Ws K) T.len (pc (vn 4) Zs)) (Zz _)))).pt (Zt (V6 hu (vn 0) ZA (ZD JM (vn 5) (vn 1)) (by rfl))
   (Zw (ZF (ZD Wi (vn 5) (vn 1))))) ZE)
   (Zt (ZJ 6 rfl (ZD Wi (ZD WI (ZD Z9 (ZD Wi (vn 5) Zu) Zu) (ZD Z9 Zu (ZD WI Zu (vn 3)))) Zu))
   (Zw (ZF (ZD Wi (ZD JM (ZD Wi (ZD Z9 (ZD WI (vn 6) Zu) (ZD WI (ZD WI (vn 3) (vn 3)) Zu)) Zu) Zu) (vn 1)))))))))),?_⟩
  have j4:q≠p:=fun z=>by rw[z,h1] at h2;cases h2
  refine⟨_,rfl,p,_,rfl,ZaW h1,_,_,rfl,rfl,_,rfl,?_⟩;refine ZO (fun h=>?_) (fun h=>?_)
  ·refine⟨_,rfl,p,_,rfl,ZaW h1,_,rfl,_,_,rfl,rfl,m0,?_⟩
   refine⟨_,rfl,p,_,rfl,ZaW h1,_,rfl,_,_,rfl,rfl,⟨m0,m1⟩,_,rfl,p,_,rfl,Zdl h1,?_⟩;exact⟨_,rfl,k _ _ (ce _ (by omega)) (bN _ m0) (fun b o e hb=>by rw[ZB hb];exact e) ⟨O,a,l / m,Zv,by rw[ZB j4];exact h2,Y,Int.ediv_nonneg l0 (by omega),a0,by omega⟩⟩
  ·refine⟨_,rfl,p,_,rfl,Zjg h1,?_⟩
   refine⟨_,rfl,_,_,rfl,rfl,_,rfl,p,_,rfl,Zjc h1,?_⟩;have h3:upd H p (.dK (fdK q (a+1) l)) p=some (.dK (fdK q (a+1) l)):=Zv;have j6:upd H p (.dK (fdK q (a+1) l)) q=some (.lst (O.map V.int)):=by rw[ZB j4];exact h2
   have k3:Tk p H (upd H p (.dK (fdK q (a+1) l))):=fun b o e hb=>by rw[ZB hb];exact e
   generalize upd H p (.dK (fdK q (a+1) l))=H3 at h3 j6 k3 ⊢;refine⟨_,rfl,p,_,rfl,ZeV h3,?_⟩;refine⟨_,rfl,(by show 0<=sizeLine;decide),fun e0 l8=>?_⟩;have s4:=Zx.upd (H:=H3) (o:=.lst []) l8;have k4:=k3.trans (Tk.of s4);have h4:=s4 _ _ h3;have J:=s4 _ _ j6;have j7:upd H3 e0 (.lst []) e0=some (.lst []):=Zv;generalize upd H3 e0 (.lst [])=H4 at s4 k4 h4 J j7 ⊢;refine⟨_,_,.lst (.of J) (Y3.ints O),.lst (.of j7) .nil,Zc5 O,rfl,_,rfl,?_⟩;have len:(O.map V.int).length=O.length:=List.length_map ..;have T4:∀l',0<=l'->Yo (upd H4 p (.dK (fdK q (a+1) l'))) p q (b+1):=fun l' l9=>⟨O,a+1,l',Zv,by rw[ZB j4];exact J,Y,l9,by omega,by omega⟩;refine ZO (fun j8=>?ca) (fun j8=>?cb)
   case' ca=>
    have hn:(0:Int)<O.length:=by
     cases O with
     |nil=>exact absurd j8 (by decide)
     |cons x r=>simp only[Zi];omega
    have r0:=ce a (show (O.length:Int)≠0 by omega);have r1:=bN a hn;obtain⟨j,ej⟩:=Int.eq_ofNat_of_zero_le r0;have hj:j<O.length:=by omega
    refine⟨_,rfl,_,rfl,_,rfl,q,_,rfl,.inl (.of J),?_⟩;rw[len];refine⟨_,_,rfl,rfl,hn,?_⟩;dsimp only;rw[ej];refine⟨q,_,_,_,rfl,rfl,.of J,ZT (j:=j) (by rw[Zc,Zf hj];rfl),?_⟩;generalize O[j]=c
   case' cb=>
    refine⟨_,rfl,_,rfl,_,_,rfl,rfl,.inr ⟨by omega,by omega⟩,?_⟩;dsimp only;generalize a*a=c
   all_goals
    refine⟨_,rfl,_,_,rfl,rfl,⟨by decide,by decide,by decide⟩,_,_,rfl,rfl,_,rfl,?_⟩;refine ZO (fun hA=>?_) (fun hA=>?_)
    ·refine⟨_,rfl,_,rfl,q,_,rfl,.inl (.of J),?_⟩
     rw[len];refine⟨_,_,rfl,rfl,_,rfl,?_⟩;refine ZO (fun hB=>?_) (fun hB=>?_)
     ·have hc:0<=c:=by
       have:=of_decide_eq_true hA;have m3:(10:Int) ^ (18:Int).toNat=1000000000000000000:=by decide
       omega
      refine⟨_,rfl,_,rfl,_,_,rfl,rfl,⟨m0,m1⟩,_,rfl,p,_,rfl,Zdl h4,?_⟩;refine⟨_,rfl,_,rfl,_,_,rfl,rfl,m0,?_⟩;exact k _ _ (ce _ (by omega)) (bN _ m0) (k4.trans fun b o e hb=>by rw[ZB hb];exact e) (T4 _ (Int.ediv_nonneg hc (by omega)))
     ·refine⟨_,rfl,_,_,rfl,rfl,(by show (0:Int)<_;decide),_,_,rfl,rfl,_,rfl,_,_,rfl,rfl,.inl ⟨by decide,by decide⟩,_,_,rfl,rfl,_,_,rfl,rfl,.inl ⟨by have:=ce c (show (2147483629:Int)≠0 by decide);omega,by have:=bN c (show (0:Int)<2147483629 by decide);omega⟩,_,_,rfl,rfl,(by show (0:Int)<_;decide),?_⟩
      refine⟨_,rfl,_,_,rfl,rfl,.inr ⟨by decide,by decide⟩,_,rfl,_,rfl,_,_,rfl,rfl,.inr ⟨by omega,by omega⟩,_,_,rfl,rfl,.inr ⟨by decide,by decide⟩,_,_,rfl,rfl,_,_,rfl,rfl,(by show (0:Int)<_;decide),_,_,rfl,rfl,⟨by decide,by decide⟩,_,rfl,_,_,rfl,rfl,m0,?_⟩;exact k _ _ (ce _ (by omega)) (bN _ m0) k4 ⟨O,a+1,l,h4,J,Y,l0,by omega,by omega⟩
    ·refine⟨_,rfl,_,_,rfl,rfl,(by show (0:Int)<_;decide),_,_,rfl,rfl,_,rfl,_,_,rfl,rfl,.inl ⟨by decide,by decide⟩,_,_,rfl,rfl,_,_,rfl,rfl,.inl ⟨by have:=ce c (show (2147483629:Int)≠0 by decide);omega,by have:=bN c (show (0:Int)<2147483629 by decide);omega⟩,_,_,rfl,rfl,(by show (0:Int)<_;decide),?_⟩
     refine⟨_,rfl,_,_,rfl,rfl,.inr ⟨by decide,by decide⟩,_,rfl,_,rfl,_,_,rfl,rfl,.inr ⟨by omega,by omega⟩,_,_,rfl,rfl,.inr ⟨by decide,by decide⟩,_,_,rfl,rfl,_,_,rfl,rfl,(by show (0:Int)<_;decide),_,_,rfl,rfl,⟨by decide,by decide⟩,_,rfl,_,_,rfl,rfl,m0,?_⟩;exact k _ _ (ce _ (by omega)) (bN _ m0) k4 ⟨O,a+1,l,h4,J,Y,l0,by omega,by omega⟩
end
end C63
namespace C63
open PySem L2 PySem.Spec PyProof.Rows
open Tx Pm
noncomputable abbrev ZhP:Stmt:=top 16
noncomputable abbrev ZhG:Stmt:=top 23
noncomputable abbrev ZhH:Stmt:=top 22
noncomputable abbrev ZhI:Stmt:=top 25
noncomputable abbrev ZhJ:Stmt:=top 24
structure BlX (mg:Str->Option Value):Prop where
 str:mg "str"=none
 enumerate:mg "enumerate"=none
noncomputable def XN:Sp:=fun z H Q _=>∃l,z=[.str (tx l)]/\YX l/\l.length<=2000/\∀j,Zx H j->Q (.bl (Wj l)) j
noncomputable def Zfp:Sp:=fun j H Q _=>∃(k:Int) (p:Nat),j=[.int k,.int p]/\k.natAbs<10 ^ 500/\p<100/\Q (.str (tx (wd k p))) H
noncomputable def Zfq (K:ac):Sp:=fun J H Q _=>∃(a:Addr) (j:List Int),J=[.ref a]/\(WQ K H a (j.map V.int)\/WS K H a (j.map V.int))/\(∀x∈j,x.natAbs<10 ^ 500)/\j.length<=60/\∀z,Zx H z->Q (.str (tx (Wn j))) z
theorem X1 {k:Int}(h:k.natAbs<10 ^ 500):k.natAbs.log2<1920:=by
 by_cases j:k.natAbs=0
 ·rw[j];decide
 ·refine (Nat.log2_lt j).mpr (cN h ?_)
  decide +kernel
section
variable {P:Program}{w:World}{K:ac}{mg:Str->Option Value}{base:Heap}
theorem Zgv {f:Addr}{fd:FuncData}(F:WT K "are_figures" "are_figures" ZhP f fd)(T:N63.Bl mg):Z8 P w K mg base YD 1 f fd ["text"] XN:=by
 refine F.ok (FS (N:=["text"])) (fun vs H Q E h=>?_) (fun j4 A J s H vs Q E hr h=>?_)
 ·obtain⟨l,rfl,_⟩:=h;rfl
 ·obtain⟨l,rfl,ha,hl,q⟩:=h
  refine⟨_,Zw (ZF (ZaG (WG Y7 (vn 0) ZA (Zz _)) (V8 (cb (U7 rfl) T.all (pc (cmp ["sign"] [] ["sign"] rfl (Zdg (vn 0)) (fun _ _ _ _ _=>gn 0) (fun _ _ _ _ _=>YR) (fun _ _ _ _ _=>WG Zce (vn 0) ZA (by rfl))) Zs))))),?_⟩;refine⟨_,rfl,rfl,_,rfl,?_⟩;rw[t_e,Y8];refine ZO (fun O=>?_) (fun O=>?_)
  ·refine⟨_,rfl,_,rfl,ZbX ha,?_⟩
   refine Ww (Zbl (tx l)) [] rfl dgV (by rw[Za];show l.length<=_;omega) (fun i x z j s' R h1=>?_) (fun D z nD s' hD=>?_)
   ·rw[Zc] at j
    cases e:(tx l).cps.toList[i]? with
    |none=>rw[e] at j;cases j
    |some c=>
     rw[e] at j;cases j;refine⟨_,rfl,_,_,rfl,rfl,?_⟩;rw[t_d,ZdC];have:R (V.bl ([c].all fun c=>decide (48<=c) && decide (c<=57))) z:=h1 z (Zx.refl _);rw[f8,gx,dG] at this;exact this
   ·rw[Ze5] at hD
    refine⟨D,_,rfl,.of hD,?_⟩;have:=q z s';unfold Wj at this;have Y:l.isEmpty=false:=by cases l with|nil=>exact absurd O (by decide)|cons _ _=>rfl
    rw[Y] at this;rw[gy];exact this
  ·have:l=[]:=by simpa using O
   have hq:=q H (Zx.refl _);rw[this] at hq;exact hq
theorem Zgm {f:Addr}{fd:FuncData}(F:WT K "shown_place" "shown_place" ZhG f fd)(T:N63.Bl mg)(TX:BlX mg):Z8 P w K mg base YD 1 f fd ["k", "power"] Zfp:=by
 refine F.ok (FS (N:=["k", "power", "ahead"])) (fun vs H Q E h=>?_) (fun j8 A j7 s H vs Q E hr h=>?_)
 ·obtain⟨k,p,rfl,_⟩:=h;rfl
 ·obtain⟨k,p,rfl,hk,hp,q⟩:=h
  refine⟨_,Zt (ZQ (Zy Z1 (vn 1) Zu (Zz _)) (Zw (ZF (ct Ym TX.str (pc (vn 0) Zs)))) ZE)
   (Zt (ZJ 2 rfl (ct Ym TX.str (pc (vn 0) Zs)))
   (Zt (ZQ (Zy Z1 (cb (U8) T.abs (pc (vn 0) Zs)) Zu (Zz _)) (Zw (ZJ 2 rfl (Z5 (Zy Wo (vn 0) Zu (Zz _)) ZA ZA))) ZE)
   (Zw (ZF (ZD Z4 (ZD Z4 (vn 2) ZA) (Z5 (Zy Z1 (vn 1) Zu (Zz _)) ZA (ct Ym TX.str (pc (vn 1) Zs)))))))),?_⟩
  have lg:=X1 hk;have lp:((p:Nat):Int).natAbs.log2<1920:=X1 (by rw[bW];exact cN hp (by decide +kernel));have hz:(16777216:Nat)=sizeLine:=by decide
  have l1:=W7 (by decide) hk;have l2:(Y1 ((p:Nat):Int)).length<=3:=W7 (by decide) (by rw[bW];exact hp);have ep:Y1 ((p:Nat):Int)=ZL p:=by unfold Y1;rw[if_neg (by omega),bW]
  refine⟨_,rfl,rfl,_,rfl,?_⟩;refine ZO (fun O=>?_) (fun O=>?_)
  ·have O:p=0:=by simpa using O
   refine⟨_,rfl,_,rfl,lg,?_⟩;rw[str_int];unfold wd at q;rw[if_pos O] at q;exact q
  ·have O:p≠0:=by simpa using O
   refine⟨_,rfl,_,rfl,lg,?_⟩;rw[str_int];refine⟨_,rfl,_,rfl,rfl,_,rfl,?_⟩;have J:wd k p=(if k.natAbs=1 then (if k > 0 then [] else [45]) else Y1 k)++122::(if p=1 then [] else ZL p):=by unfold wd;rw[if_neg O]
   refine ZO (fun Y=>?_) (fun Y=>?_)
   ·have Y:k.natAbs=1:=by
     have:=of_decide_eq_true Y;have:=V.int.inj this;split at this <;> omega
    rw[if_pos Y] at J;refine⟨_,rfl,_,_,rfl,rfl,_,rfl,?_⟩;refine ZO (fun h2=>?_) (fun h2=>?_)
    case' refine_1=>
     rw[if_pos (by simpa using h2)] at J;rw[t_e];have lq:([]:List Nat).length<=501:=by decide
    case' refine_2=>
     rw[if_neg (by simpa using h2)] at J;rw[t_m];have lq:[45].length<=501:=by decide
    all_goals
     refine⟨_,rfl,_,_,rfl,rfl,?_,?_⟩
     ·rw[t_z,ZC,ZC];simp only[Zi,ax];omega
     rw[t_z,Yi];refine⟨_,rfl,rfl,_,rfl,?_⟩;refine ZO (fun j=>?_) (fun j=>?_)
     ·have j:p=1:=by have:=V.int.inj (of_decide_eq_true j);omega
      rw[if_pos j] at J;refine⟨_,_,rfl,rfl,?_,?_⟩
      ·(try rw[t_e]);rw[ZC,ZC];simp only[Zd,Zi,ax];omega
      try rw[t_e]
      rw[Yi,aI];rw[J] at q;exact q
     ·have j:¬p=1:=fun z=>by rw[z] at j;exact absurd j (by decide)
      rw[if_neg j] at J;refine⟨_,rfl,_,rfl,lp,?_⟩;rw[str_int,ep];refine⟨_,_,rfl,rfl,?_,?_⟩
      ·rw[ZC,ZC,Zd];rw[ep] at l2;simp only[Zi,ax];omega
      rw[Yi,aw];rw[J] at q;exact q
   ·have Y:¬k.natAbs=1:=fun z=>by
     refine Y (decide_eq_true ?_);congr 1;split <;> omega
    rw[if_neg Y] at J;have lq:=l1;refine⟨_,rfl,_,_,rfl,rfl,?_,?_⟩
    ·rw[t_z,ZC,ZC];simp only[Zi,ax];omega
    rw[t_z,Yi];refine⟨_,rfl,rfl,_,rfl,?_⟩;refine ZO (fun j=>?_) (fun j=>?_)
    ·have j:p=1:=by have:=V.int.inj (of_decide_eq_true j);omega
     rw[if_pos j] at J;refine⟨_,_,rfl,rfl,?_,?_⟩
     ·rw[t_e,ZC,ZC];simp only[Zd,Zi,ax];omega
     rw[t_e,Yi,aI];rw[J] at q;exact q
    ·have j:¬p=1:=fun z=>by rw[z] at j;exact absurd j (by decide)
     rw[if_neg j] at J;refine⟨_,rfl,_,rfl,lp,?_⟩;rw[str_int,ep];refine⟨_,_,rfl,rfl,?_,?_⟩
     ·rw[ZC,ZC,Zd];rw[ep] at l2;simp only[Zi,ax];omega
     rw[Yi,aw];rw[J] at q;exact q
theorem Zgn {f:Addr}{fd:FuncData}(F:WT K "shown_number" "shown_number" ZhH f fd)(TX:BlX mg)(GP:Fn P w K mg base YD 1 "shown_place" ["k", "power"] Zfp):Z8 P w K mg base YD 2 f fd ["one"] (Zfq K):=by
 refine F.ok (FS (N:=["one", "shown", "power", "k", "sign"])) (fun vs H Q E h=>?_) (fun j9 A j6 s H vs Q E hr h=>?_)
 ·obtain⟨a,xs,rfl,_⟩:=h;rfl
 ·obtain⟨a,xs,rfl,hS,hx,hl,q⟩:=h
  refine⟨_,Zt (ZJ 1 rfl ZA)
   (Zt (Wh ba rfl (ZgT K TX.enumerate (pc (vn 0) Zs)) (g2 K 2 3 rfl (gn 2) (gn 3))
   (Zw (ZQ (Zy Y7 (vn 3) Zu (Zz _)) (Zt (ZJ 4 rfl (Z5 (WF (Zy Y7 (vn 1) ZA (Zz _)) (Y0 (Zy Wo (vn 3) Zu (Zz _)))).pt ZA ZA))
   (Zw (ZJ 1 rfl (ZD Z4 (ZD Z4 (vn 1) (vn 4)) (Wc GP hr ZU (pc (vn 3) (pc (vn 2) Zs))))))) ZE)))
   (Zw (ZF (Z5 (Zy Z1 (vn 1) ZA (Zz _)) ZA (vn 1))))),?_⟩
  have hz:(16777216:Nat)=sizeLine:=by decide
  refine⟨_,rfl,a,_,H,rfl,hS,Zx.refl _,fun J At S j7=>?_⟩;rw[t_e];refine ZdL S (fun i Y H'=>∃(O:List Nat) (v2 v3 v4:Option V),Y=[some (.ref a),some (.str (tx O)),v2,v3,v4]/\Zx H H'/\WC O (xs.drop i) i=WC [] xs 0/\O.length<=i*505)
   ⟨[],_,_,_,rfl,Zx.refl _,rfl,by simp⟩ (fun i Y H' h=>j7 _ h.choose_spec.choose_spec.choose_spec.choose_spec.2.1) ?_ ?_
  ·rintro i y Y H' T' hy ⟨O,v2,v3,v4,rfl,sm,j,j8⟩ nT
   obtain⟨hi,rfl⟩:=Zds hy;have sT:=Zx.upd (o:=.tup [.int i,.int (Yv xs i)]) nT;have hd:=W4 hi;have j4:=hx _ (Uk hi);have lw:=Zan (p:=i) (e:=500) (by decide) j4 (by omega);refine⟨T',_,rfl,.of Zv,rfl,_,_,rfl,_,_,rfl,rfl,_,rfl,rfl,_,rfl,?_⟩;rw[hd,Yz] at j;refine ZO (fun h0=>?_) (fun h0=>?_)
   ·have h0:Yv xs i≠0:=fun z=>by rw[z] at h0;exact absurd h0 (by decide)
    rw[if_neg h0] at j;refine⟨_,rfl,rfl,_,rfl,?_⟩;rw[Y8];refine ZO (fun ha=>?A) (fun ha=>?B)
    case' A=>
     have ha:O≠[]:=by simpa using ha
     refine⟨_,rfl,_,_,rfl,rfl,_,rfl,?_⟩;refine ZO (fun hp=>?A1) (fun hp=>?A2)
    case' A1=>
     rw[if_pos ⟨ha,by simpa using hp⟩] at j;rw[t_p]
    case' A2=>rw[if_neg (fun z=>hp (by simpa using z.2))] at j
    case' B=>rw[if_neg (fun z=>ha (by simpa using z.1))] at j
    all_goals
     refine⟨_,rfl,_,rfl,_,_,rfl,rfl,?_,?_⟩
     ·rw[ZC,ZC];simp only[Zi,ax];omega
     rw[Yi];refine⟨_,rfl,_,rfl,_,i,rfl,j4,by omega,_,_,rfl,rfl,?_,?_⟩
     ·rw[ZC,ZC];simp only[Zd,Zi,ax];omega
     rw[Yi];exact⟨_,_,_,_,rfl,sm.trans sT,j,by simp only[Zd,Zi,ax];omega⟩
   ·have h0:Yv xs i=0:=by simpa using h0
    rw[if_pos h0] at j;exact⟨O,_,_,_,rfl,sm.trans sT,j,by omega⟩
  ·rintro Y H' ⟨O,v2,v3,v4,rfl,sm,j,j8⟩
   rw[Za,dA] at j;have j:O=WC [] xs 0:=j;have hq:=q H' sm;unfold Wn at hq;rw[<-j] at hq;refine⟨_,rfl,rfl,_,rfl,?_⟩;rw[Y8];refine ZO (fun ha=>?_) (fun ha=>?_)
   ·rw[if_pos (by simpa using ha)] at hq
    rw[t_0];exact hq
   ·rw[if_neg (by simpa using ha)] at hq
    exact⟨_,rfl,hq⟩
end
end C63
namespace C63
open PySem L2 PySem.Spec PyProof.Rows PySem.NumText
open Tx Pm
noncomputable def Zfr:Sp:=fun z H Q _=>∃l,z=[.str (tx l)]/\YX l/\l.length<=640/\(rdP l=none->∀j,Zx H j->Q .non j)/\∀k p,rdP l=some (k,p)->∀r j,Zx H j->j r=some (.tup [.int k,.int (p:Nat)])->Q (.ref r) j
section
variable {P:Program}{w:World}{K:ac}{mg:Str->Option Value}{base:Heap}
end
noncomputable def Zhk (K:ac):TS:=
 Vm (Zau (Wl (Xi rEq (Xi (Zel K) (Yq 1) (tC (V.int 1))) (tC (V.str (ar ""))))) (Vo (tC (V.str (ar "0"))) (Ye 4))
   (Zau (Wl (Xi rEq (Yq 4) (tC (V.str (ar ""))))) (Vo (tC (V.str (ar "1"))) (Ye 4)) XI))
  (Vm (Zau (ZfQ (Wl (Xi rEq (Xi (Zel K) (Yq 1) (tC (V.int 1))) (tC (V.str (ar "z"))))) (Wl (Xi rEq (Yq 3) (tC (V.str (ar "")))))) (Vo (tC (V.str (ar "1"))) (Ye 3)) XI)
   (Vm (Zau (tOr (ZcX (tB (XJ XN [] E0 (Yw (Yq 3) Jl)))) (ZcX (tB (XJ XN [] E0 (Yw (Yq 4) Jl))))) (Vn (tC V.non)) XI)
    (Vn (ZbZ (Yw (Xi (rI Zd6 fun i j=>V.int (i*j)) (Yq 2) (tCB (fun xs H Q=>∃x n,xs=[V.str x]/\x.length<=640/\intText? x=some n/\Q (V.int n) H) (Yw (Yq 3) Jl)))
     (Yw (tCB (fun xs H Q=>∃x n,xs=[V.str x]/\x.length<=640/\intText? x=some n/\Q (V.int n) H) (Yw (Yq 4) Jl)) Jl))))))
theorem ZgU {H1:Hp}{w0 w1:Option V}{sg:Int}{J O:List Nat}{D:YH}(hs:sg=1\/sg=-1)(af:YX J)(ap:YX O)(lf:J.length<=640)(lp:O.length<=640)
  (qn:¬(Wj J=true/\Wj O=true)->∀Y,Zx H1 Y->D.rt .non Y) (qs:Wj J=true/\Wj O=true->∀r Y,Zx H1 Y->Y r=some (.tup [.int (sg*(digitsVal J:Nat)),.int (digitsVal O:Nat)])->D.rt (.ref r) Y) :
  (Vm (Zau (tOr (ZcX (tB (XJ XN [] E0 (Yw (Yq 3) Jl)))) (ZcX (tB (XJ XN [] E0 (Yw (Yq 4) Jl))))) (Vn (tC V.non)) XI)
    (Vn (ZbZ (Yw (Xi (rI Zd6 fun i j=>V.int (i*j)) (Yq 2) (tCB (fun xs H Q=>∃x n,xs=[V.str x]/\x.length<=640/\intText? x=some n/\Q (V.int n) H) (Yw (Yq 3) Jl)))
     (Yw (tCB (fun xs H Q=>∃x n,xs=[V.str x]/\x.length<=640/\intText? x=some n/\Q (V.int n) H) (Yw (Yq 4) Jl)) Jl))))) D [w0,w1,some (.int sg),some (.str (tx J)),some (.str (tx O))] H1:=by
 refine⟨_,rfl,J,rfl,af,by omega,fun H2 s2=>⟨_,rfl,?_⟩⟩;cases e1:Wj J
 ·exact qn (fun z=>by rw[e1] at z;cases z.1) H2 s2
 ·refine Yg (by decide) ?_
  refine⟨_,rfl,O,rfl,ap,by omega,fun H3 s3=>⟨_,rfl,?_⟩⟩;cases e2:Wj O
  ·exact qn (fun z=>by rw[e2] at z;cases z.2) H3 (s2.trans s3)
  ·refine Yg (by decide) ?_
   have f1:=YA.mp e1;have f2:=YA.mp e2;refine⟨_,rfl,_,rfl,_,_,rfl,lf,eY (x:=tx J) f1.2 f1.1 (by rw[ZC];omega),_,_,rfl,rfl,.inl ⟨by omega,by omega⟩,?_⟩;refine⟨_,rfl,_,_,rfl,lp,eY (x:=tx O) f2.2 f2.1 (by rw[ZC];omega),?_⟩;refine⟨(by show 2<=sizeLine;decide),fun r nr=>?_⟩;exact qs ⟨e1,e2⟩ r _ ((s2.trans s3).trans (Zx.upd nr)) Zv
theorem Zei {K:ac}{H1:Hp}{l a b:List Nat}{z:Bool}{p:Addr}{D:YH}(hc:ZX l=(a,z,b))(ha:YX l)(hl:l.length<=640)
  (h1:H1 p=some (.tup [.str (tx a),.str (if z=true then ⟨#[122]⟩ else fi),.str (tx (if z=true then b else []))]))
  (qn:rdP l=none->∀Y,Zx H1 Y->D.rt .non Y) (qs:∀k p,rdP l=some (k,p)->∀r Y,Zx H1 Y->Y r=some (.tup [.int k,.int (p:Nat)])->D.rt (.ref r) Y) :
  Zhk K D [some (.str (tx l)),some (.ref p),some (.int (if neg l=true then -1 else 1)),some (.str (tx (Wt l))),some (.str (tx (if z=true then b else [])))] H1:=by
 obtain⟨la,lb,ma,mb,zb⟩:=Uj hc;have af:YX (Wt l):=by
  unfold Wt;rw[hc];split
  ·exact fun c h=>ha c (ma c (dL h))
  ·exact fun c h=>ha c (ma c h)
 have lf:(Wt l).length<=640:=by
  unfold Wt;rw[hc];split
  ·rw[ao];show a.length-1<=_;omega
  ·show a.length<=_;omega
 have j4:YX [49]:=fun c h=>by rw[aq.mp h];decide
 have j6:YX [48]:=fun c h=>by rw[aq.mp h];decide
 have hs:(if neg l=true then (-1:Int) else 1)=1\/(if neg l=true then (-1:Int) else 1)=-1:=by split <;> simp
 have j:∀{w0 w1:Option V}{fg pw:List Nat},fg=Vs l->pw=ZaE l->YX fg->YX pw->fg.length<=640->pw.length<=640->_:=fun {w0 w1 fg pw} e1 e2 af ap lf lp=>
  ZgU (H1:=H1) (w0:=w0) (w1:=w1) (D:=D) hs af ap lf lp (fun hn=>qn (by unfold rdP;rw[if_neg (by rw[<-e1,<-e2];exact hn)])) (fun hy=>qs _ _ (by unfold rdP;rw[if_pos (by rw[<-e1,<-e2];exact hy),e1,e2]))
 have eP:ZaE l=if z=true then (if b=[] then [49] else b) else [48]:=by unfold ZaE;rw[hc]
 have eF:Vs l=if z=true/\Wt l=[] then [49] else Wt l:=by unfold Vs;rw[hc]
 cases z
 ·refine⟨_,rfl,p,_,_,_,rfl,rfl,.of h1,rfl,rfl,_,rfl,?_⟩
  refine YF ?_;rw[t_0];refine⟨_,rfl,p,_,_,_,rfl,rfl,.of h1,rfl,rfl,_,rfl,?_⟩;refine Yg (by decide) ?_;refine Yg (by decide) ?_;exact j (by rw[eF,if_neg (fun h=>by cases h.1)]) (by rw[eP,if_neg (by decide)]) af j6 lf (by decide)
 ·refine⟨_,rfl,p,_,_,_,rfl,rfl,.of h1,rfl,rfl,_,rfl,?_⟩
  refine Yg (by decide) ?_;refine⟨_,rfl,rfl,_,rfl,?_⟩;rw[t_e,Y8];rw[if_pos rfl] at eP;refine ZO (fun hb=>?A) (fun hb=>?B)
  case' A=>
   have hb:b=[]:=by simpa using hb
   rw[if_pos hb] at eP;rw[t_1];have J:=j4;have O:[49].length<=640:=by decide
  case' B=>
   have hb:¬b=[]:=by simpa using hb
   rw[if_neg hb] at eP;have J:YX b:=fun c h=>ha c (mb c h);have O:b.length<=640:=by omega
  all_goals
   refine⟨_,rfl,p,_,_,_,rfl,rfl,.of h1,rfl,rfl,_,rfl,?_⟩;refine YF ?_;refine⟨_,rfl,rfl,_,rfl,?_⟩;rw[Y8];refine ZO (fun hf=>?_) (fun hf=>?_)
   ·have hf:Wt l=[]:=by simpa using hf
    rw[if_pos ⟨rfl,hf⟩] at eF
    try rw[t_1]
    exact j eF.symm eP.symm j4 J (by decide) O
   ·have hf:¬Wt l=[]:=by simpa using hf
    rw[if_neg (fun h=>hf h.2)] at eF;exact j eF.symm eP.symm af J lf O
section
variable {P:Program}{w:World}{K:ac}{mg:Str->Option Value}{base:Heap}
theorem Zgo {f:Addr}{fd:FuncData}(F:WT K "read_place" "read_place" ZhI f fd)(T:N63.Bl mg)(GA:Fn P w K mg base YD 1 "are_figures" ["text"] XN):Z8 P w K mg base YD 2 f fd ["word"] Zfr:=by
 refine F.ok (FS (N:=["word", "halves", "sign", "figures", "power"])) (fun vs H Q E h=>?_) (fun j6 A j4 s H vs Q E hr h=>?_)
 ·obtain⟨l,rfl,_⟩:=h;rfl
 ·obtain⟨l,rfl,ha,hl,qn,qs⟩:=h
  refine⟨_,Zt (ZJ 1 rfl (Y6 aQ iB PySem.F.type_str_partition ZeO (vn 0) (pc ZA Zs)))
   (Zt (ZJ 2 rfl (Z5 (Wg (Y6 aQ eJ gI VD (vn 0) (pc ZA Zs))) (UK XD Zu) Zu))
   (Zt (ZJ 3 rfl (Z5 (Zy Z1 (vn 2) (UK XD Zu) (Zz _)) (ZG JZ (ZP (Vl K) (vn 1) Zu (fun _ _=>rfl)) (ZK Zu) ZM) (ZP (Vl K) (vn 1) Zu (fun _ _=>rfl))))
   (Zt (ZJ 4 rfl (ZP (Vl K) (vn 1) Zu (fun _ _=>rfl)))
   (Zt (ZQ (Zy Z1 (ZP (Vl K) (vn 1) Zu (fun _ _=>rfl)) ZA (Zz _)) (Zw (ZJ 4 rfl ZA)) (Zw (ZQ (Zy Z1 (vn 4) ZA (Zz _)) (Zw (ZJ 4 rfl ZA)) ZE)))
   (Zt (ZQ (WF (Zy Z1 (ZP (Vl K) (vn 1) Zu (fun _ _=>rfl)) ZA (Zz _)) (Y0 (Zy Z1 (vn 3) ZA (Zz _)))).pt (Zw (ZJ 3 rfl ZA)) ZE)
   (Zt (ZQ (YJ (V5 (Wg (Wc GA hr ZU (pc (vn 3) Zs)))) (Wf (V5 (Wg (Wc GA hr ZU (pc (vn 4) Zs)))))).pt (Zw (ZF Yd)) ZE)
   (Zw (ZF (Y5 (pc (ZD WI (vn 2) (ct Wz T.int (pc (vn 3) Zs))) (pc (ct Wz T.int (pc (vn 4) Zs)) Zs))))))))))),?_⟩
  have hz:(16777216:Nat)=sizeLine:=by decide
  rcases J:ZX l with ⟨a,z,b⟩;have Y:=Zcd l;rw[J] at Y;obtain⟨la,lb,ma,mb,zb⟩:=Uj J;refine⟨_,rfl,rfl,_,_,rfl,rfl,by rw[t_z];rfl,by rw[ZC];omega,fun p np=>?_⟩;rw[show bv (tx l) (ar "z")=bv (tx l) (⟨#[122]⟩:Str) from congrArg _ t_z,Y];have s1:=Zx.upd (H:=H) (o:=.tup [.str (tx a),.str (if z=true then ⟨#[122]⟩ else fi),.str (tx (if z=true then b else []))]) np
  have O:=Zv (H:=H) (a:=p) (o:=.tup [.str (tx a),.str (if z=true then ⟨#[122]⟩ else fi),.str (tx (if z=true then b else []))])
  generalize upd H p (.tup [.str (tx a),.str (if z=true then ⟨#[122]⟩ else fi),.str (tx (if z=true then b else []))])=H1 at s1 O ⊢
  refine⟨_,rfl,rfl,_,_,rfl,rfl,_,rfl,?_⟩;rw[t_m,ZcZ];have j:=Zei (K:=K) (D:={nx:=fun x H'=>Q V.non H',rt:=Q}) J ha hl O (fun e H' s=>qn e H' (s1.trans s)) (fun k p e r H' s=>qs k p e r H' (s1.trans s));cases en:neg l
  ·rw[en] at j
   have eF:Wt l=a:=by unfold Wt;rw[en,J];rfl
   rw[eF] at j;refine Yg (by decide) ?_;refine⟨_,rfl,_,rfl,rfl,_,rfl,?_⟩;refine Yg (by decide) ?_;refine⟨_,rfl,p,_,_,_,rfl,rfl,.of O,rfl,?_⟩;refine⟨_,rfl,p,_,_,_,rfl,rfl,.of O,rfl,?_⟩;exact j
  ·rw[en] at j
   have eF:Wt l=a.drop 1:=by unfold Wt;rw[en,J];rfl
   rw[eF] at j;refine YF ?_;refine⟨_,rfl,_,rfl,_,rfl,rfl,_,rfl,?_⟩;refine YF ?_;refine⟨_,rfl,p,_,_,_,rfl,rfl,.of O,rfl,_,rfl,tx a,rfl,by rw[ZC];omega,?_⟩;rw[show db (tx a) (some 1) none=tx (a.drop 1) from Zbh a (i:=1) (ZeM en J)];refine⟨_,rfl,p,_,_,_,rfl,rfl,.of O,rfl,?_⟩;exact j
end
noncomputable abbrev ZhS:Stmt:=top 35
noncomputable abbrev ZhL:Stmt:=top 36
noncomputable def Zc4:Sp:=fun j H Q _=>∃a b:Int,j=[.int a,.int b]/\0<=b/\b<100/\Q (.bl (decide (N63.Vr a b=1))) H
noncomputable def Zft (K:ac):Sp:=fun J H Q _=>∃(a:Addr) (j:List Int),J=[.ref a]/\WS K H a (j.map V.int)/\(∀x∈j,x.natAbs<10 ^ 500)/\j.length<=60/\∀z,Zx H z->Q (.str (tx (Wn j))) z
section
variable {P:Program}{w:World}{K:ac}{mg:Str->Option Value}{base:Heap}
theorem Zgx {f:Addr}{fd:FuncData}(F:WT K "_law_alone" "_law_alone" ZhS f fd):Z8 P w K mg base YD 1 f fd ["_law_k", "_law_n"] Zc4:=by
 refine F.ok (FS (N:=["_law_k", "_law_n"])) (fun vs H Q E h=>?_) (fun j8 A j6 s H vs Q E hr h=>?_)
 ·obtain⟨a,b,rfl,_⟩:=h;rfl
 ·obtain⟨a,b,rfl,b0,b1,q⟩:=h
  refine⟨_,Zt (WX ba (Zy Wo (vn 1) Zu (Zz _)) (Zw (Zf8 (i:=0) (j:=1) rfl (Yu (by kernel_rfl)) rfl rfl (by decide) (Yn (by kernel_rfl)) (Yn (by kernel_rfl)) (pc (vn 1) (pc (ZD Wi (vn 0) (vn 1)) Zs)) rfl)))
   (Zw (ZF (WG Z1 (vn 0) Zu (Zz _)))),?_⟩
  refine Wk (fun m O H'=>∃(a' J:Int),O=[some (.int a'),some (.int J)]/\H'=H/\0<=J/\J<m/\N63.ZeU m a' J=N63.Vr a b) (fun O H'=>∃J:Option V,O=[some (.int (N63.Vr a b)),J]/\H'=H) ?hend ⟨100,a,b,rfl,rfl,b0,b1,rfl⟩ ?turn
  case hend=>
   rintro O H' ⟨J,rfl,rfl⟩;refine⟨_,rfl,rfl,?_⟩;rw[show decide (V.int (N63.Vr a b)=V.int 1)=decide (N63.Vr a b=1) from by rw[be,decide_eq_true_eq,decide_eq_true_eq];exact⟨fun h=>V.int.inj h,fun h=>by rw[h]⟩];exact q
  case turn=>
   rintro j4 m O H' ⟨a',J,rfl,rfl,c0,c1,c2⟩;refine⟨_,rfl,_,_,rfl,rfl,_,rfl,?_⟩;obtain⟨m2,rfl⟩:∃m2,m=m2+1:=⟨m-1,by omega⟩;unfold N63.ZeU at c2;refine ZO (fun Y=>?_) (fun Y=>?_)
   ·have Y:0<J:=of_decide_eq_true Y
    rw[if_pos Y] at c2;refine⟨_,fun _ _ z=>z,_,rfl,_,rfl,_,rfl,_,_,rfl,rfl,Y,_,_,rfl,m2,by omega,J,a' % J,rfl,rfl,ce _ (by omega),?_,c2⟩;have:=bN a' Y;omega
   ·have Y:¬ 0<J:=fun z=>Y (decide_eq_true z)
    rw[if_neg Y] at c2;exact j4 _ _ ⟨_,by rw[c2],rfl⟩
theorem Zgr {f:Addr}{fd:FuncData}(F:WT K "_law_shown" "_law_shown" ZhL f fd)(T:N63.Bl mg)(TX:BlX mg)(j9:mg "min"=none):Z8 P w K mg base YD 1 f fd ["_law_number_here"] (Zft K):=by
 refine F.ok (FS (N:=["_law_number_here", "_law_found", "_law_k", "_law_piece_here"])) (fun vs H Q E h=>?_) (fun m3 A l8 s H vs Q E hr h=>?_)
 ·obtain⟨a,xs,rfl,_⟩:=h;rfl
 ·obtain⟨a,xs,rfl,hS,hx,hl,q⟩:=h
  refine⟨_,Zt (ZJ 1 rfl ZA)
   (Zt (Wh ba rfl (Zb3 T.range (pc (cb (Ws K) T.len (pc (vn 0) Zs)) Zs)) (gn 2)
   (Zw (ZQ (Zy Y7 (ZP (Vl K) (vn 0) (vn 2) (fun _ _=>rfl)) Zu (Zz _)) (Zt (ZJ 3 rfl (ZD Z4 (ct Ym TX.str (pc (ZP (Vl K) (vn 0) (vn 2) (fun _ _=>rfl)) Zs)) (ZP (Vq K) (Z3 (pc ZA (pc ZA (pc (ZD Z4 ZA (ct Ym TX.str (pc (vn 2) Zs))) Zs)))) (cb (Xe rfl) j9 (pc (vn 2) (pc Zu Zs))) (fun _ _=>rfl))))
   (Zt (ZQ (WF (Zy Wo (vn 2) Zu (Zz _)) (Y0 (Zy Z1 (cb (U8) T.abs (pc (ZP (Vl K) (vn 0) (vn 2) (fun _ _=>rfl)) Zs)) Zu (Zz _)))).pt (Zw (ZJ 3 rfl (ZD Z4 (ZP (Vq K) (Z3 (pc ZA (pc ZA Zs))) (ct Xf T.int (pc (WG XY (ZP (Vl K) (vn 0) (vn 2) (fun _ _=>rfl)) Zu (Zz _)) Zs)) (fun _ _=>rfl)) (ZP (Vq K) (Z3 (pc ZA (pc ZA (pc (ZD Z4 ZA (ct Ym TX.str (pc (vn 2) Zs))) Zs)))) (cb (Xe rfl) j9 (pc (vn 2) (pc Zu Zs))) (fun _ _=>rfl))))) ZE)
   (Zt (ZQ (WF (Zy Y7 (vn 1) ZA (Zz _)) (Y0 (Zy Wo (ZP (Vl K) (vn 0) (vn 2) (fun _ _=>rfl)) Zu (Zz _)))).pt (Zw (ZJ 3 rfl (ZD Z4 ZA (vn 3)))) ZE)
   (Zw (ZJ 1 rfl (ZD Z4 (vn 1) (vn 3))))))) ZE)))
   (Zw (ZF (Z5 (Zy Y7 (vn 1) ZA (Zz _)) (vn 1) ZA)))),?_⟩
  have hz:(16777216:Nat)=sizeLine:=by decide
  rw[t_e];refine⟨_,rfl,a,_,rfl,.inr hS,_,rfl,by omega,by rw[Za];omega,?_⟩;rw[Za];refine YO (fun i j4 H'=>∃(J:List Nat) (v2 v3:Option V),j4=[some (.ref a),some (.str (tx J)),v2,v3]/\Zx H H'/\WC J (xs.drop i) i=WC [] xs 0/\J.length<=i*505)
   ⟨[],_,_,rfl,Zx.refl _,rfl,by simp⟩ ?_ ?_
  ·rintro i j4 H' hi ⟨J,v2,v3,rfl,sm,j,l9⟩
   rw[show (0:Int)+(i:Int)=(i:Int) by omega];have hi:i<xs.length:=by omega
   have sS:WS K H' a (xs.map V.int):=sm.tup hS;have O:=ZT (ZbJ hi);have hd:=W4 hi;have j6:=hx _ (Uk hi);have lg:=X1 j6;have lp:((i:Nat):Int).natAbs.log2<1920:=X1 (by rw[bW];exact cN (show i<100 by omega) (by decide +kernel));have lw:=Zan (p:=i) (e:=500) (by decide) j6 (by omega);have lb:=Zfb (p:=i) (by omega);have ld:=W7 (by decide) j6;have ln:(ZL i).length<=2:=W6 (by decide) (show i<10 ^ 2 by omega);have ep:Y1 ((i:Nat):Int)=ZL i:=by unfold Y1;rw[if_neg (by omega),bW]
   rw[hd,Yz] at j;refine⟨_,rfl,_,rfl,a,_,_,_,rfl,rfl,sS,O,rfl,_,rfl,?_⟩;refine ZO (fun Y=>?_) (fun Y=>?_)
   ·have Y:Yv xs i≠0:=fun z=>by rw[z] at Y;exact absurd Y (by decide)
    rw[if_neg Y] at j;refine⟨_,rfl,_,rfl,a,_,_,_,rfl,rfl,sS,O,_,rfl,lg,_,rfl,_,rfl,lp,_,_,rfl,rfl,?_,(by show 3<=sizeLine;decide),fun l1 n1=>?_⟩
    ·rw[str_int,ep,t_z,ZC,ZC];simp only[Zi,ax];omega
    rw[str_int,str_int,ep,t_z,Yi];have s1:=sm.trans (Zx.upd (o:=.lst [V.str (tx []),V.str (tx [122]),V.str (tx (122::ZL i))]) n1);have j7:=Zv (H:=H') (a:=l1) (o:=.lst [V.str (tx []),V.str (tx [122]),V.str (tx (122::ZL i))]);show tCB _ _ _ (upd H' l1 (.lst [V.str (tx []),V.str (tx [122]),V.str (tx (122::ZL i))])) _;generalize upd H' l1 (.lst [V.str (tx []),V.str (tx [122]),V.str (tx (122::ZL i))])=H1 at s1 j7 ⊢;refine⟨_,rfl,_,_,rfl,l1,_,_,_,rfl,rfl,.of j7,Zd0 i,_,_,rfl,rfl,?_,?_⟩
    ·rw[ZC,ZC];omega
    rw[Yi];have ew:=ZcN Y i;refine⟨_,rfl,_,_,rfl,rfl,_,rfl,?_⟩;refine ZO (fun hp=>?A) (fun hp=>?B)
    case' B=>
     rw[if_neg (fun h=>hp (decide_eq_true (by have:=h.1;show (0:Int)<(i:Int);omega)))] at ew;rw[<-ew]
    case' A=>
     have hp:i≠0:=by have:=of_decide_eq_true hp;omega
     refine⟨_,rfl,_,rfl,a,_,_,_,rfl,rfl,s1.tup hS,O,_,rfl,rfl,_,rfl,?_⟩;refine ZO (fun h1=>?A1) (fun h1=>?A2)
    case' A2=>
     rw[if_neg (fun h=>h1 (decide_eq_true (by congr 1;have:=h.2;split <;> omega)))] at ew
     rw[<-ew]
    case' A1=>
     have h1:(Yv xs i).natAbs=1:=by
      have:=V.int.inj (of_decide_eq_true h1);split at this <;> omega
     rw[if_pos ⟨hp,h1⟩] at ew;refine⟨(by show 2<=sizeLine;decide),fun l2 n2=>?_⟩;rw[t_m];have s2:=s1.trans (Zx.upd (o:=.lst [V.str (tx []),V.str (tx [45])]) n2);have j8:=Zv (H:=H1) (a:=l2) (o:=.lst [V.str (tx []),V.str (tx [45])]);clear s1 j7;generalize upd H1 l2 (.lst [V.str (tx []),V.str (tx [45])])=H2 at s2 j8 ⊢;clear n2 n1;refine⟨_,rfl,_,rfl,a,_,_,_,rfl,rfl,s2.tup hS,O,_,_,rfl,rfl,.inr ⟨_,rfl,l2,_,_,V.str (tx (if Yv xs i<0 then [45] else [])),rfl,rfl,.of j8,Zix _,?_⟩⟩
     refine⟨_,rfl,_,rfl,lp,_,_,rfl,rfl,?_,(by show 3<=sizeLine;decide),fun l3 n3=>?_⟩
     ·rw[str_int,ep,ZC,ZC];simp only[Zi,ax];omega
     rw[str_int,ep,Yi];have s1:=s2.trans (Zx.upd (o:=.lst [V.str (tx []),V.str (tx [122]),V.str (tx (122::ZL i))]) n3);have l7:=Zv (H:=H2) (a:=l3) (o:=.lst [V.str (tx []),V.str (tx [122]),V.str (tx (122::ZL i))]);clear s2 j8;show tCB _ _ _ (upd H2 l3 (.lst [V.str (tx []),V.str (tx [122]),V.str (tx (122::ZL i))])) _;generalize upd H2 l3 (.lst [V.str (tx []),V.str (tx [122]),V.str (tx (122::ZL i))])=H3 at s1 l7 ⊢;refine⟨_,rfl,_,_,rfl,l3,_,_,_,rfl,rfl,.of l7,Zd0 i,_,_,rfl,rfl,?_,?_⟩
     ·rw[ZC,ZC]
      have:(if Yv xs i<0 then [45] else []:List Nat).length<=1:=by split <;> simp
      omega
     rw[Yi,<-ew]
    case' B=>refine Yg (by decide) ?_
    all_goals
     refine⟨_,rfl,rfl,_,rfl,?_⟩;rw[Y8];refine ZO (fun ha=>?_) (fun ha=>?_)
     ·have ha:J≠[]:=by simpa using ha
      refine⟨_,rfl,_,rfl,a,_,_,_,rfl,rfl,s1.tup hS,O,_,_,rfl,rfl,_,rfl,?_⟩;refine ZO (fun hk=>?_) (fun hk=>?_)
      ·rw[if_pos ⟨ha,of_decide_eq_true hk⟩] at j
       refine⟨_,rfl,_,_,rfl,rfl,?_,?_⟩
       ·rw[t_p,ZC,ZC];simp only[Zi,ax];omega
       rw[t_p,Yi];refine⟨_,rfl,_,rfl,_,_,rfl,rfl,?_,?_⟩
       ·rw[ZC,ZC,Zd];simp only[Zi,ax];omega
       rw[Yi,<-aw];exact⟨_,_,_,rfl,s1,j,by simp only[Zd,Zi,ax];omega⟩
      ·rw[if_neg (fun h=>hk (decide_eq_true h.2)),aI] at j
       refine⟨_,rfl,_,rfl,_,_,rfl,rfl,?_,?_⟩
       ·rw[ZC,ZC];omega
       rw[Yi];exact⟨_,_,_,rfl,s1,j,by rw[Zd];omega⟩
     ·rw[if_neg (fun h=>ha (by simpa using h.1)),aI] at j
      refine Yg (by decide) ?_;refine⟨_,rfl,_,rfl,_,_,rfl,rfl,?_,?_⟩
      ·rw[ZC,ZC];omega
      rw[Yi];exact⟨_,_,_,rfl,s1,j,by rw[Zd];omega⟩
   ·have Y:Yv xs i=0:=by simpa using Y
    rw[if_pos Y] at j;exact⟨J,_,_,rfl,sm,j,by omega⟩
  ·rintro j4 H' ⟨J,v2,v3,rfl,sm,j,l9⟩
   have:xs.drop (xs.length:Int).toNat=[]:=bH (by omega);rw[this] at j;have j:J=WC [] xs 0:=j;have hq:=q H' sm;unfold Wn at hq;rw[<-j] at hq;refine⟨_,rfl,rfl,_,rfl,?_⟩;rw[Y8];refine ZO (fun ha=>?_) (fun ha=>?_)
   ·rw[if_neg (by simpa using ha)] at hq
    exact⟨_,rfl,hq⟩
   ·rw[if_pos (by simpa using ha)] at hq
    rw[t_0];exact hq
end
noncomputable abbrev ZhN:Stmt:=top 37
noncomputable def Zfv:Sp:=fun J H Q _=>∃(p q:Addr) (wide b:Nat),J=[.ref p,.int (wide:Nat)]/\Yo H p q b/\b<2 ^ 59/\wide<=60/\∀(z:List Int) r j,Tk p H j->Yo j p q (b+2*wide)->z.length=wide->(∀x∈z,x.natAbs<10 ^ 20)->j r=some (.tup (z.map V.int))->Q (.ref r) j
section
variable {P:Program}{w:World}{K:ac}{mg:Str->Option Value}{base:Heap}
theorem Zgt {f:Addr}{fd:FuncData}(F:WT K "_law_number" "_law_number" ZhN f fd)(T:N63.Bl mg)(GD:Fn P w K mg base YD 1 "_law_draw" ["_law_feed_here", "_law_many"] VW):Z8 P w K mg base YD 2 f fd ["_law_feed_here", "_law_wide"] Zfv:=by
 refine F.ok (FS (N:=["_law_feed_here", "_law_wide", "_law_found", "_law_k", "_law_way", "_law_big"])) (fun vs H Q E h=>?_) (fun m7 A j8 s H vs Q E hr h=>?_)
 ·obtain⟨p,q,wide,b,rfl,_⟩:=h;rfl
 ·obtain⟨p,q,wide,b,rfl,T0,hb,hw,qq⟩:=h
  refine⟨_,Zt (ZJ 2 rfl (Z3 Zs))
   (Zt (Wh ba rfl (Zb3 T.range (pc (vn 1) Zs)) (gn 3)
   (Zt (ZJ 4 rfl (Wc GD hr ZU (pc (vn 0) (pc Zu Zs))))
   (Zt (ZJ 5 rfl (Z5 (Zy Z1 (vn 4) Zu (Zz _)) (ZD WY (ZD WY (ZD ZaI Zu Zu) Zu) (Wc GD hr ZU (pc (vn 0) (pc (ZD ZaI Zu Zu) Zs)))) (Wc GD hr ZU (pc (vn 0) (pc Zu Zs)))))
   (Zw (Jb (Y6 bO bx bM YC (vn 2) (pc (ZP (Vq K) (Z3 (pc Zu (pc Zu (pc (UK XD Zu) (pc (vn 5) (pc (ZD WY Zu (vn 5)) (pc (vn 5) Zs))))))) (vn 4) (fun _ _=>rfl)) Zs)))))))
   (Zw (ZF (ct (tupK K) T.tuple (pc (vn 2) Zs))))),?_⟩
  have hz:(16777216:Nat)=sizeLine:=by decide
  have j9:(10:Int) ^ (20:Int).toNat=100000000000000000000:=by decide
  have e6:(10:Int) ^ (6:Int).toNat=1000000:=by decide
  refine⟨(by show 0<=sizeLine;omega),fun L nL=>?_⟩;refine⟨_,rfl,_,rfl,by omega,by omega,?_⟩;obtain⟨Y,j7⟩:=T0.neN nL;refine YO (fun i j4 H'=>∃(O:List Int) (v3 v4 v5:Option V),j4=[some (.ref p),some (.int (wide:Nat)),some (.ref L),v3,v4,v5]/\Tk p H H'/\Yo H' p q (b+2*i)/\H' L=some (.lst (O.map V.int))/\O.length=i/\∀x∈O,x.natAbs<10 ^ 20)
   ⟨[],_,_,_,rfl,Tk.of (Zx.upd nL),T0.put Y j7,Zv,rfl,fun x hx=>by cases hx⟩ ?_ ?_
  ·rintro i j4 H1 hi ⟨O,v3,v4,v5,rfl,k1,T1,j6,hn,hx⟩
   refine⟨_,rfl,p,q,_,_,rfl,T1,by omega,by decide,by decide,fun r H2 r0 r6 k2 T2=>?_⟩;have l7:=k2.lst T1 j6;refine⟨_,rfl,rfl,_,rfl,?_⟩;refine ZO (fun h5=>?A) (fun h5=>?B)
   case' A=>
    refine⟨_,_,rfl,rfl,⟨by decide,by decide,by decide⟩,_,_,rfl,rfl,_,rfl,_,_,rfl,rfl,⟨by decide,by decide,by decide⟩,p,q,_,_,rfl,T2,by omega,(by decide),(by decide),fun z H3 z0 z1 k3 T3=>?_⟩;refine⟨_,_,rfl,rfl,?_⟩;rw[e6] at z1;rw[j9];obtain⟨j,l8⟩:∃j,j=(100000000000000000000:Int)-1-z:=⟨_,rfl⟩;show Ye 5 (V.int (100000000000000000000-1-z)) _ _ _;rw[<-l8];have l9:0<=j/\j<100000000000000000000:=by omega
   case' B=>
    refine⟨_,rfl,p,q,_,_,rfl,T2,by omega,by decide,by decide,fun j H3 z0 z1 k3 T3=>?_⟩;have l9:0<=j/\j<100000000000000000000:=by omega
   all_goals
    have J:=k3.lst T2 l7;refine⟨_,rfl,.inl ⟨rfl,_,.of J⟩,_,rfl,_,rfl,_,rfl,_,_,rfl,rfl,_,rfl,(by show 6<=sizeLine;decide),fun l6 n6=>?_⟩;have s6:=Zx.upd (H:=H3) (o:=.lst [V.int 0,V.int 1,V.int (-1),V.int j,V.int (0-j),V.int j]) n6;have h6:=Zv (H:=H3) (a:=l6) (o:=.lst [V.int 0,V.int 1,V.int (-1),V.int j,V.int (0-j),V.int j]);obtain⟨v,hv,m3⟩:∃v:Int,atI [V.int 0,V.int 1,V.int (-1),V.int j,V.int (0-j),V.int j] r=some (.int v)/\v.natAbs<100000000000000000000:=by
     have:r=0\/r=1\/r=2\/r=3\/r=4\/r=5:=by omega
     rcases this with rfl|rfl|rfl|rfl|rfl|rfl
     ·exact⟨0,rfl,by decide⟩
     ·exact⟨1,rfl,by decide⟩
     ·exact⟨-1,rfl,by decide⟩
     ·exact⟨j,rfl,by omega⟩
     ·exact⟨0-j,rfl,by omega⟩
     ·exact⟨j,rfl,by omega⟩
    refine⟨_,rfl,l6,_,_,_,rfl,rfl,.of h6,hv,L,_,_,rfl,rfl,s6 _ _ J,by rw[Za];omega,?_⟩;have m6:L≠p:=Y;have m8:L≠l6:=fun z=>by rw[z,n6] at J;cases J
    refine⟨O++[v],_,_,_,rfl,fun c o ho hc=>?_,?_,?_,?_,fun x m4=>?_⟩
    ·have m5:c≠L:=fun z=>by rw[z,nL] at ho;cases ho
     rw[ZB m5];exact s6 _ _ (k3 _ _ (k2 _ _ (k1 _ _ ho hc) hc) hc)
    ·exact ((T3.mono s6).put Y j7).le (by omega)
    ·rw[Zv,aU];rfl
    ·rw[Zd,Zk,hn]
    ·rcases aD.mp m4 with h|h
     ·exact hx x h
     ·rw[aq.mp h];exact m3
  ·rintro j4 H1 ⟨O,v3,v4,v5,rfl,k1,T1,j6,hn,hx⟩
   refine⟨_,rfl,L,_,rfl,.inl ⟨.of j6,fun r nr=>?_⟩⟩;have sr:=Zx.upd (H:=H1) (o:=.tup (O.map V.int)) nr;exact qq O r _ (k1.trans (Tk.of sr)) ((T1.mono sr).le (by omega)) (by omega) hx Zv
end
end C63
namespace PyX
open PySem
noncomputable def JA (h:Heap)(C N:Addr)(z:List Value)(j:String):Prop:=
 ∃J q bs O Y sb ab cl dd k0 k1 k2 k3 k5,
  h.get? C=some (excClassObj J q C N bs z O Y sb ab cl dd k0 k1 k2 k3 k5 j)
theorem JA.keeps {h h':Heap}{C N:Addr}{bm:List Value}{j:String}(x:JA h C N bm j)
  (k:∀b o,h.get? b=some o->h'.get? b=some o):JA h' C N bm j:=by
 obtain⟨z,q,bs,hd,sn,J,O,Y,dd,k0,k1,k2,k3,k5,e⟩:=x;exact⟨z,q,bs,hd,sn,J,O,Y,dd,k0,k1,k2,k3,k5,k _ _ e⟩
noncomputable abbrev X9 (xs:List Value):Obj:={cls:=.type "tuple",data:=.seq xs.toArray}
noncomputable abbrev X8 (C a:Addr):Obj:=
 {cls:=.ref C,data:=.fields #[.ref a,.none,.none,.none,.bool false,.none]}
section
variable {prog:Program}{w:World}{A:Around}{E:Value->Shared->Prop}
variable {h:Heap}{gs:Array GenState}{dr:Drawn}{tk:Nat}{os:OsState}
variable {C N fI:Addr}{oI:Obj}{bm bB:List Value}{B nid iid:String}{mN:Str->Option Value}{xs:List Value}
theorem XE {Q:Fin->Shared->Prop}(F:dD B nid iid bB)(T:jv h bB bm)
    (x:JA h C N bm nid) (ns:h.Ns N mN) (hi:mN "__init__"=some (.ref fI))
    (hf:h.get? fI=some oI) (hc:oI.cls=.type "function")
    (hq:∀h' e,eg h h' e (.ref C) xs->h.objs.size<=e->
      wpAny (model prog w) A (call (.ref fI) (.ref e::xs))
        (fun r s'=>r=.none/\Q (.done (.ret (.ref e))) s') E ⟨h',gs,dr,tk,os⟩)
    (hl:xs.length<=sizeLine) :
    wpAny (model prog w) A (aO.«type.__call__» ⟨.ref C::xs,[]⟩) Q E ⟨h,gs,dr,tk,os⟩:=by
  obtain⟨nm,q,bs,hd,sn,sb,ab,cl,dd,k0,k1,k2,k3,k5,J⟩:=x
  repeat (first
    |with_reducible refine aG J ?_
    |with_reducible refine wpAny_madeBy_exc J ?_
    |wp_step)
  refine iU (cW _ F.quiet)
    (wpAny_check_new_subT F T J (codeAny_exc_new_subT F T J ?_ hl))
  show wpAny _ _ _ _ _ _;have O:∀b o,h.get? b=some o->((h.push (X9 xs)).push (X8 C h.objs.size)).get? b=some o:=
    fun b o e=>Zn _ (Zn _ e)
  have Y:=O _ _ J;have j4:=O _ _ hf;have j6:=ns.keeps O;have T1:=T.keeps O;have he:((h.push (X9 xs)).push (X8 C h.objs.size)).get? (h.objs.size+1)=some (X8 C h.objs.size):=by
    heap_get
  have j:(au C::bm).contains (.ref C)=true:=by
    simp
  unfold isInstance
  repeat (first
    |with_reducible refine aG he ?_
    | (with_reducible refine bK Y ?_
       rw[j])
    |wp_step)
  show wpAny _ _ (typeLookup (.ref C) _) _ _ _;refine jD Y j6 T1 F.mroIs F.init.lookup ?_;rw[hi];refine dQ (Zl ?_);unfold bindSpecial;refine Zl (wpAny_typeOf (T:="function") ⟨_,j4,hc⟩ ?_);rw[if_pos (by decide)];have mk:eg h ((h.push (X9 xs)).push (X8 C h.objs.size)) (h.objs.size+1) (.ref C) xs:=
    ⟨O,cI (de _),h.objs.size,he,cI (Zq _),
      Zn _ (gr rfl rfl)⟩
  refine Zm (Zl (aY (hq _ _ mk (de _)) (fun r s' hr=>?_) fun _ _ z=>z));obtain⟨rfl,hQ⟩:=hr
  wp_walk
  exact hQ
theorem Za4 {Q:Value->Shared->Prop}(F:dD B nid iid bB)(T:jv h bB bm)
  (x:JA h C N bm nid) (ns:h.Ns N mN) (z:mN "__init__"=some (.ref fI))
  (J:h.get? fI=some oI) (O:oI.cls=.type "function")
  (Y:∀h' e,eg h h' e (.ref C) xs->h.objs.size<=e->
   wpAny (model prog w) (A.under (.builtin "type.__call__" ⟨.ref C::xs,[]⟩)) (call (.ref fI) (.ref e::xs))
    (fun r s'=>r=.none/\Q (.ref e) s') E ⟨h',gs,dr,tk,os⟩)
  (hl:xs.length<=sizeLine) :
  wpAny (model prog w) A (call (.ref C) xs) Q E ⟨h,gs,dr,tk,os⟩:=by
 obtain⟨nm,q,bs,hd,sn,sb,ab,cl,dd,k0,k1,k2,k3,k5,j⟩:=x;have f1:=tc_lookup;have f2:=tc_bind (.ref C);have hT:(⟨h,gs,dr,tk,os⟩:Shared).TypeIs (.ref C) "type":=⟨_,j,rfl⟩;refine gN (codeAny_of_tree ?_);show wpAny _ _ (callAny (.ref C) _) _ _ _
 repeat (any_goals (first
  |assumption
  |with_reducible refine aG j ?_
  |wp_step))
 refine⟨rfl,?_⟩;refine jd (cW _ (by decide +kernel)) entry_typeCall
  (iS j (XE F T ⟨nm,q,bs,hd,sn,sb,ab,cl,dd,k0,k1,k2,k3,k5,j⟩
   ns z J O (fun h' e hm hz=>?_) hl))
 exact Y h' e hm hz
theorem Xq {Q:Fin->Shared->Prop}(F:dD B nid iid bB)(T:jv h bB bm)
    (x:JA h C N bm nid) (ns:h.Ns N mN) (hi:mN "__init__"=none)
    (hq:∀h' e,eg h h' e (.ref C) xs->h.objs.size<=e->Q (.done (.ret (.ref e))) ⟨h',gs,dr,tk,os⟩)
    (hl:xs.length<=sizeLine) :
    wpAny (model prog w) A (aO.«type.__call__» ⟨.ref C::xs,[]⟩) Q E ⟨h,gs,dr,tk,os⟩:=by
  obtain⟨nm,q,bs,hd,sn,sb,ab,cl,dd,k0,k1,k2,k3,k5,J⟩:=x
  repeat (first
    |with_reducible refine aG J ?_
    |with_reducible refine wpAny_madeBy_exc J ?_
    |wp_step)
  refine iU (cW _ F.quiet)
    (wpAny_check_new_subT F T J (codeAny_exc_new_subT F T J ?_ hl))
  show wpAny _ _ _ _ _ _;have O:∀b o,h.get? b=some o->((h.push (X9 xs)).push (X8 C h.objs.size)).get? b=some o:=
    fun b o e=>Zn _ (Zn _ e)
  have j:=O _ _ J;have Y:=ns.keeps O;have T1:=T.keeps O;have he:((h.push (X9 xs)).push (X8 C h.objs.size)).get? (h.objs.size+1)=some (X8 C h.objs.size):=by
    heap_get
  have z:(au C::bm).contains (.ref C)=true:=by
    simp
  unfold isInstance
  repeat (first
    |with_reducible refine aG he ?_
    | (with_reducible refine bK j ?_
       rw[z])
    |wp_step)
  show wpAny _ _ (typeLookup (.ref C) _) _ _ _;refine jD j Y T1 F.mroIs F.init.lookup ?_;rw[hi];refine dQ (Zl (wpAny_of_eq (F.init.bind _) ?_));refine Zl (gN (cQ F.init.plain F.initEntry (wpAny_check_init_subT F T1 j he rfl ?_)))
  wp_walk
  refine hq _ _ ⟨fun b o hb=>?_,cI (de _),h.objs.size+2,?_,cI (by omega),?_⟩ (de _)
  · rw[aL _ _ (bz (gE (Zp hb)))]
    exact Zn _ (O b o hb)
  · rw[bL _ (Zn _ he) rfl]
    simp only[bu];rfl
  · rw[aL _ _ (show h.objs.size+1≠h.objs.size+2 by
      omega)]
    exact gr (by
      simp only[bu]) rfl
theorem U5 {Q:Value->Shared->Prop}(F:dD B nid iid bB)(T:jv h bB bm)
  (x:JA h C N bm nid) (ns:h.Ns N mN) (z:mN "__init__"=none)
  (J:∀h' e,eg h h' e (.ref C) xs->h.objs.size<=e->Q (.ref e) ⟨h',gs,dr,tk,os⟩)
  (O:xs.length<=sizeLine) :
  wpAny (model prog w) A (call (.ref C) xs) Q E ⟨h,gs,dr,tk,os⟩:=by
 obtain⟨Y,q,bs,hd,sn,sb,ab,cl,dd,k0,k1,k2,k3,k5,j⟩:=x;have f1:=tc_lookup;have f2:=tc_bind (.ref C);have hT:(⟨h,gs,dr,tk,os⟩:Shared).TypeIs (.ref C) "type":=⟨_,j,rfl⟩;refine gN (codeAny_of_tree ?_);show wpAny _ _ (callAny (.ref C) _) _ _ _
 repeat (any_goals (first
  |assumption
  |with_reducible refine aG j ?_
  |wp_step))
 refine⟨rfl,?_⟩;refine jd (cW _ (by decide +kernel)) entry_typeCall
  (iS j (Xq F T ⟨Y,q,bs,hd,sn,sb,ab,cl,dd,k0,k1,k2,k3,k5,j⟩
   ns z (fun h' e hm hz=>?_) O))
 exact J h' e hm hz
theorem Xj {e D:Addr}{Y:Obj}{b:Bool}{Q:Bool->Shared->Prop}{ND:Addr}{j:List Value}{M:Model}
    (x:JA h C N bm nid) (y:JA h D ND j nid) (he:h.get? e=some Y) (z:Y.cls=.ref C)
    (J:j.contains (.type "BaseException")=true) (hb:(au C::bm).contains (.ref D)=b)
    (hq:Q b ⟨h,gs,dr,tk,os⟩) :
    wpAny M A (excMatches (.ref e) (.ref D)) Q E ⟨h,gs,dr,tk,os⟩:=by
  obtain⟨nm,q,bs,hd,sn,sb,ab,cl,dd,k0,k1,k2,k3,k5,hC⟩:=x;obtain⟨j4,q1,j6,j7,j8,j9,l7,l8,l9,j0,j1,j2,j3,j5,hD⟩:=y;have O:(au D::j).contains (.type "BaseException")=true:=by
    rw[aW,J,cL]
  have f:=tc_notTuple;unfold excMatches
  repeat (first
    | (with_reducible refine aG he ?_
       rw[z])
    |with_reducible refine aG hD ?_
    | (with_reducible refine bK hD ?_
       rw[O])
    | (with_reducible refine bK hC ?_
       rw[hb])
    |wp_step)
  cases b <;> (first|exact hq|(wp_walk;exact hq))
end
end PyX
namespace PyX
open PySem
open PySem.Builtin PySem.Builtin.ObjectAttr
noncomputable abbrev VE:List Value:=[.type "ValueError",.type "Exception",.type "BaseException",.type "object"]
noncomputable abbrev Y9:String:="ValueError.__new__"
noncomputable def Zag (h:Heap)(C N:Addr)(z:List Value)(j:String):Prop:=
 ∃J q bs O Y ab cl dd k0 k1 k2 k3 k5,
  h.get? C=some (excClassObj J q C N bs z true O Y ab cl dd k0 k1 k2 k3 k5 j)
theorem Zag.ex {h:Heap}{C N:Addr}{bm:List Value}{j:String}(x:Zag h C N bm j):JA h C N bm j:=by
 obtain⟨z,q,bs,sn,J,O,Y,dd,k0,k1,k2,k3,k5,e⟩:=x;exact⟨z,q,bs,true,sn,J,O,Y,dd,k0,k1,k2,k3,k5,e⟩
theorem Zag.keeps {h h':Heap}{C N:Addr}{bm:List Value}{j:String}(x:Zag h C N bm j)
  (k:∀b o,h.get? b=some o->h'.get? b=some o):Zag h' C N bm j:=by
 obtain⟨z,q,bs,sn,J,O,Y,dd,k0,k1,k2,k3,k5,e⟩:=x;exact⟨z,q,bs,sn,J,O,Y,dd,k0,k1,k2,k3,k5,k _ _ e⟩
structure Jm (h:Heap)(C N T U:Addr)(nid:String)(mN mT:Str->Option Value):Prop where
 c:Zag h C N (.ref T::VE) nid
 t:Zag h T U VE nid
 nsC:h.Ns N mN
 nsT:h.Ns U mT
 ini:mT "__init__"=none
section
variable {h h':Heap}{C N T U:Addr}{nid:String}{mN mT:Str->Option Value}
theorem Jm.keeps (x:Jm h C N T U nid mN mT)(k:∀b o,h.get? b=some o->h'.get? b=some o):Jm h' C N T U nid mN mT:=
 ⟨x.c.keeps k,x.t.keeps k,x.nsC.keeps k,x.nsT.keeps k,x.ini⟩
theorem Jm.tail (x:Jm h C N T U nid mN mT):jv h VE (.ref T::VE):=by
 obtain⟨j,q,bs,sn,z,J,O,Y,k0,k1,k2,k3,k5,e⟩:=x.t;exact .own e x.nsT x.ini .base
variable {M:Model}{A:Around}{E:Value->Shared->Prop}{gs:Array GenState}{dr:Drawn}{tk:Nat}{os:OsState}
theorem Jm.look (x:Jm h C N T U nid mN mT){name:Str}{y:Option Value}{Q:Option Value->Shared->Prop}
  (J:typeLookup (.type "ValueError") name=pure y)
  (j:Q (match mN name with|some v=>some v|none=>(match mT name with|some v=>some v|none=>y)) ⟨h,gs,dr,tk,os⟩) :
  wpAny M A (typeLookup (.ref C) name) Q E ⟨h,gs,dr,tk,os⟩:=by
 obtain⟨nm,q,bs,sn,sb,ab,cl,dd,k0,k1,k2,k3,k5,O⟩:=x.c;obtain⟨j4,q',j6,j7,j8,j9,l7,l8,j0,j1,j2,j3,j5,eT⟩:=x.t;have r:lookupAlong VE name=pure y:=by
  rw[typeLookup_eq,fV.mroIs] at J;exact J
 rw[typeLookup_eq];refine Zl (wpAny_mroOf_exc O ?_);rw[lookupAlong_cons];refine Zl (wpAny_classOwn_exc O x.nsC ?_);cases Y:mN name with
 |some v=>
  rw[Y] at j;exact Zm j
 |none=>
  rw[Y] at j;simp only[];rw[lookupAlong_cons];refine Zl (wpAny_classOwn_exc eT x.nsT ?_);cases z:mT name with
  |some v=>
   rw[z] at j;exact Zm j
  |none=>
   rw[z] at j;simp only[];rw[r];exact Zm j
theorem Jm.lookB (x:Jm h C N T U nid mN mT){name:Str}{y:Option Value}{Q:Option Value->Shared->Prop}
  (j:typeLookup (.type "ValueError") name=pure y) (z:mN name=none) (J:mT name=none)
  (O:Q y ⟨h,gs,dr,tk,os⟩):wpAny M A (typeLookup (.ref C) name) Q E ⟨h,gs,dr,tk,os⟩:=
 x.look j (by
  rw[z];simp only[];rw[J];exact O)
end
section
variable {prog:Program}{w:World}{h:Heap}{C N T U x:Addr}{nid:String}{mN mT mA:Str->Option Value}
variable {A:Around}{E:Value->Shared->Prop}{gs:Array GenState}{dr:Drawn}{tk:Nat}{os:OsState}
variable {name:Str}{v:Value}
noncomputable abbrev SF:=F.store_ValueError
theorem Ze8 {M:Model}{o:Obj}{j:Value}{Q:Unit->Shared->Prop}(c:Jm h C N T U nid mN mT)
    (z:h.get? x=some o) (J:o.cls=.ref C) (O:Q () ⟨h,gs,dr,tk,os⟩) :
    wpAny M A (checkBuiltinCall "object.__setattr__" ⟨[.ref x,j,v],[]⟩) Q E ⟨h,gs,dr,tk,os⟩:=by
  obtain⟨nm,q,bs,sn,sb,ab,cl,dd,k0,k1,k2,k3,k5,Y⟩:=c.c;have hO:(au C::au T::VE).contains (.type "object")=true:=by
    rw[aW,aW,SF.hasOwner,cL,cL]
  have ha:=SF.args (.ref x) j v;simp only[checkBuiltinCall,SF.kind,SF.split];refine Zl ?_;unfold isInstance
  repeat (first
    | (with_reducible refine aG z ?_
       rw[J])
    | (with_reducible refine bK Y ?_
       rw[hO])
    |wp_step)
  exact O
noncomputable def Xn (h h':Heap)(x:Addr):Prop:=
 (∀b o,b≠x->(∀o0 z,h.get? x=some o0->o0.dict=some z->b≠z)->h.get? b=some o->h'.get? b=some o)/\
 (∀o0,h.get? x=some o0->∃j,h'.get? x=some j/\j.cls=o0.cls/\j.data=o0.data/\j.slots=o0.slots/\∀z,o0.dict=some z->j.dict=some z)/\
 (∀o0,h.get? x=some o0->o0.dict=none->∃j,h'.get? x=some j/\j.dict=some h.objs.size)
theorem Zax {kt:Tok}{Q:Fin->Shared->Prop}{ns:List Str}(c:Jm h C N T U nid mN mT)
    (h1:mN name=none) (h2:mT name=none) (hB:typeLookup (.type "ValueError") name=pure none) (I:h.Inst x C mA)
    (hw:Within mA ns) (hsz:ns.length<sizeLine)
    (hq:∀h' t',h'.Inst x C (fun y=>if y=name then some v else mA y)->Xn h h' x->Q (.done (.ret .none)) ⟨h',gs,dr,t',os⟩) :
    wpAny (model prog w) A (aO.«object.__setattr__» ⟨[.ref x,.str name kt,v],[]⟩) Q E ⟨h,gs,dr,tk,os⟩:=by
  obtain⟨nm,q,bs,sn,sb,ab,cl,dd,k0,k1,k2,k3,k5,hC⟩:=id c.c;obtain⟨o,O,hc,Y,hd⟩:=I;have hp:=SF.passes (.ref x);unfold aO.«object.__setattr__»
  repeat (first
    |rw[refuse_eq]
    |rw[refuseLoop_ref,refuseLoop_ref,hp]
    | (with_reducible refine aG O ?_
       rw[hc])
    |with_reducible refine wpAny_mroOf_exc hC ?_
    |with_reducible refine c.lookB hB h1 h2 ?_
    |wp_step)
  rcases hd with ⟨l8,m3⟩|⟨dx,J,j4,m4⟩
  · rw[l8,if_neg (by simp[typeHasDict])]
    split
    · rename_i z
      cases z
    split
    · rename_i cc z
      exact absurd z (Y cc)
    have j6:x≠h.objs.size:=aA (Zp O);have l9:(h.push {cls:=.type "dict",data:=.dict #[]}).get? x=some o:=Zn _ O;refine Zl (wpAny_alloc' (Zl (wpAny_update' l9 (Zm ?_))));show wpAny _ _ (storeInDict h.objs.size (.str name kt) name v) _ _ _;have m5:((h.push {cls:=.type "dict",data:=.dict #[]}).update x fun o=>{cls:=o.cls,dict:=some h.objs.size,data:=o.data,slots:=o.slots}).get? h.objs.size
       =some {cls:=.type "dict",data:=.dict #[]}:=
      (ja _ _ _ _ j6.symm).trans (gr rfl rfl)
    unfold storeInDict newKeyGuard;refine Zl (Zm (Zl (wpAny_nsSet1 (Heap.Ns1.of_empty
      ⟨_,#[],_,m5,rfl,fun e he=>absurd he (by simp),fun _=>rfl⟩) fun h' j hs=>?_)))
    obtain⟨oD,es,ep,j7,j8,j9⟩:=j.count (gX name v gq);refine Zl (wpAny_lookBehind j7 (by
      rw[j8];exact pastItsLine_dict (aK j9 (by
        rw[Zi,ax,fu];omega))) ?_)
    wp_walk
    have l7:h'.get? x=some {cls:=o.cls,dict:=some h.objs.size,data:=o.data,slots:=o.slots}:=by
      refine (hs.2 x j6).trans (bL _ l9 ?_);have m6:=(Heap.get?_some_iff.mp O).2;obtain⟨oc,od,m7,n8⟩:=o;cases m7 <;> first|rfl|exact m6
    refine hq h' _ ⟨_,l7,hc,Y,.inr ⟨h.objs.size,rfl,j6.symm,?_⟩⟩ ⟨fun b ob m8 _ hb=>?_,fun o0 e0=>?_,fun o0 e0 _=>⟨_,l7,rfl⟩⟩
    · obtain⟨o',m9,n4,e1,e2,e3,eu,e4⟩:=j
      refine⟨o',m9,n4,e1,e2,e3,eu,fun y=>?_⟩;rw[e4 y];by_cases hy:y=name <;> simp[hy,m3]
    · exact (hs.2 b (aA (Zp hb))).trans ((ja _ _ _ _ m8).trans (Zn _ hb))
    · obtain rfl:o=o0:=ay (O.symm.trans e0)
      exact⟨_,l7,rfl,rfl,rfl,fun dx e=>by
        rw[l8] at e;cases e⟩
  · rw[J]
    refine Zm ?_;show wpAny _ _ (storeInDict dx (.str name kt) name v) _ _ _;unfold storeInDict newKeyGuard;refine Zl (Zm (Zl (wpAny_nsSet1 m4 fun h' j hs=>?_)));obtain⟨oD,es,ep,j7,j8,j9⟩:=j.count (gX name v hw);refine Zl (wpAny_lookBehind j7 (by
      rw[j8];exact pastItsLine_dict (aK j9 (by
        rw[Zi];omega))) ?_)
    wp_walk
    refine hq h' _ ⟨o,(hs.2 x j4.symm).trans O,hc,Y,.inr ⟨dx,J,j4,j⟩⟩ ⟨fun b ob _ n5 hb=>?_,fun o0 e0=>?_,fun o0 e0 n0=>?_⟩
    · exact (hs.2 b (n5 o dx O J)).trans hb
    · exact⟨o0,(hs.2 x j4.symm).trans e0,rfl,rfl,rfl,fun _ e=>e⟩
    · obtain rfl:o=o0:=ay (O.symm.trans e0)
      rw[J] at n0;cases n0
theorem Zb0 {Q:Unit->Shared->Prop}{ns:List Str}(c:Jm h C N T U nid mN mT)
    (J:mN name=none) (O:mT name=none) (Y:typeLookup (.type "ValueError") name=pure none)
    (h3:mN "__setattr__"=none) (h4:mT "__setattr__"=none) (I:h.Inst x C mA)
    (hw:Within mA ns) (hsz:ns.length<sizeLine)
    (hq:∀h' t',h'.Inst x C (fun y=>if y=name then some v else mA y)->Xn h h' x->Q () ⟨h',gs,dr,t',os⟩) :
    wpAny (model prog w) A (setAttr (.ref x) name v) Q E ⟨h,gs,dr,tk,os⟩:=by
  obtain⟨o,j,z,_⟩:=id I;have f3:=SF.slot.bind (.ref x);unfold setAttr callSpecial? specialOf
  repeat (any_goals (first
    |assumption
    | (with_reducible refine aG j ?_
       rw[z])
    |with_reducible refine c.lookB SF.slot.lookup h3 h4 ?_
    |wp_step))
  refine cQ SF.slot.plain SF.entry (Ze8 c j z (Zax c J O Y I hw hsz fun h' t' I' k=>?_))
  repeat (any_goals (first
    |assumption
    |wp_step))
  exact hq h' t' I' k
theorem Zcn {kt:Tok}{Q:Fin->Shared->Prop}(c:Jm h C N T U nid mN mT)
    (h1:mN name=none) (h2:mT name=none) (hB:typeLookup (.type "ValueError") name=pure none) (I:h.Inst x C mA)
    (j:mA name=some v) (hq:Q (.done (.ret v)) ⟨h,gs,dr,tk,os⟩) :
    wpAny (model prog w) A (aO.«object.__getattribute__» ⟨[.ref x,.str name kt],[]⟩) Q E ⟨h,gs,dr,tk,os⟩:=by
  obtain⟨nm,q,bs,sn,sb,ab,cl,dd,k0,k1,k2,k3,k5,hC⟩:=id c.c;obtain⟨o,hx,hc,J,hd⟩:=I;rcases hd with ⟨_,O⟩|⟨dx,Y,j6,j4⟩
  · rw[O name] at j
    cases j
  repeat (first
    | (with_reducible refine aG hx ?_
       rw[hc])
    |with_reducible refine c.lookB hB h1 h2 ?_
    |wp_step)
  split
  · rename_i cc z
    exact absurd z (J cc)
  unfold instanceDict
  repeat (first
    | (with_reducible refine aG hx ?_
       rw[hc])
    |with_reducible refine aG hC ?_
    |wp_step)
  rw[Y]
  repeat (first
    | (with_reducible refine wpAny_nsGet j4.ns ?_
       rw[j])
    |wp_step)
  exact hq
theorem ZbV {M:Model}{o:Obj}{j:Value}{Q:Unit->Shared->Prop}(c:Jm h C N T U nid mN mT)
    (z:h.get? x=some o) (J:o.cls=.ref C) (O:Q () ⟨h,gs,dr,tk,os⟩) :
    wpAny M A (checkBuiltinCall "BaseException.__getattribute__" ⟨[.ref x,j],[]⟩) Q E ⟨h,gs,dr,tk,os⟩:=by
  obtain⟨nm,q,bs,sn,sb,ab,cl,dd,k0,k1,k2,k3,k5,Y⟩:=c.c;have hk:builtinKind "BaseException.__getattribute__"=some .slot:=by
    decide +kernel
  have hs:splitId "BaseException.__getattribute__"=some ("BaseException", "__getattribute__"):=by
    decide +kernel
  have hO:(au C::au T::VE).contains (.type "BaseException")=true:=by
    rw[aW,aW,fV.hasBase,cL,cL]
  have ha:=F.args_bexc_ga (.ref x) j;simp only[checkBuiltinCall,hk,hs];refine Zl ?_;unfold isInstance
  repeat (first
    | (with_reducible refine aG z ?_
       rw[J])
    | (with_reducible refine bK Y ?_
       rw[hO])
    |wp_step)
  exact O
theorem Zdw {expr:Bool}{Q:Value->Shared->Prop}(c:Jm h C N T U nid mN mT)
    (J:mN name=none) (O:mT name=none) (Y:typeLookup (.type "ValueError") name=pure none)
    (h3:mN "__getattribute__"=none) (h4:mT "__getattribute__"=none) (h5:mN "__getattr__"=none) (h6:mT "__getattr__"=none)
    (I:h.Inst x C mA) (hv:mA name=some v) (hh:handedOut v=pure v) (hq:Q v ⟨h,gs,dr,tk+1,os⟩) :
    wpAny (model prog w) A (getAttr (.ref x) name expr) Q E ⟨h,gs,dr,tk,os⟩:=by
  obtain⟨o,j,z,_⟩:=id I;have f3:=cJ.ga.bind (.ref x);have e0:(expr && onTheHeap (cf "BaseException.__getattribute__"))=false:=by
    cases expr <;> rfl
  have e2:(cf "BaseException.__getattribute__" == cf "object.__getattribute__")=false:=by
    decide +kernel
  have e1:(onTheHeap (au C) && cf "BaseException.__getattribute__" == cf "object.__getattribute__")=false:=by
    rw[e2];rfl
  unfold getAttr getAttrBy
  repeat (any_goals (first
    |assumption
    | (with_reducible refine aG j ?_
       rw[z])
    |with_reducible refine c.lookB cJ.ga.lookup h3 h4 ?_
    |with_reducible refine c.lookB jg.noGetattr h5 h6 ?_
    |wp_step))
  refine cQ cJ.ga.plain F.entry_bexc_ga (ZbV c j z (Zcn c J O Y I hv ?_))
  repeat (any_goals (first
    |assumption
    |wp_step))
end
end PyX
namespace PyX
open PySem
noncomputable abbrev frs (l:List Env):List Addr:=l.filterMap (·.frame)
noncomputable def Ex (h:Heap)(e C:Addr)(d:Option Addr)(T:Addr)(O:Value):Prop:=
 ∃j z J,h.get? e=some {cls:=.ref C,dict:=d,data:=.fields j}/\j[1]?=some (.ref T)/\
  T≠e/\h.get? T=some z/\z.data=.fields J/\J[3]?=some O
noncomputable def Ex0 (h:Heap)(e C:Addr)(d:Option Addr):Prop:=
 ∃j,h.get? e=some {cls:=.ref C,dict:=d,data:=.fields j}/\j[1]?=some .none
noncomputable def But (l:List Env)(xs:List Addr)(h h':Heap):Prop:=
 (∀b o,h.get? b=some o->b∉frs l->b∉xs->h'.get? b=some o)/\
 (∀b o,h.get? b=some o->b∉xs->∃j,h'.get? b=some {o with slots:=j})
section
variable {M:Model}{A:Around}{E:Value->Shared->Prop}{s:Shared}
variable {base:Heap}{env:Env}{outer:List Env}{L e C T:Addr}{d:Option Addr}{fl:Value}{vs:Array Value}
theorem newEntry {head:Value}{nx:Bool}{Q:Unit->Shared->Prop}
  (fr:A.frames=some (env::outer)) (hl:s.heap.FunFrames base (env::outer)) (hf:env.frame=some L)
  (he:s.heap.get? e=some {cls:=.ref C,dict:=d,data:=.fields vs}) (sz:1<vs.size)
  (hq:∀h' T,s.heap.objs.size<=T->Ex h' e C d T (rawInt L)->But (env::outer) [e] s.heap h'->Q () {s with heap:=h'}) :
  wpAny M A (do let a <-frameOf env;let Y <-entryPlaceOf L nx;let b <-im head a .none (rawInt L) .none Y;setField (.ref e) 1 b)
   Q E s:=by
 have j4:e∉(env::outer).filterMap (·.frame):=fun hm=>by
  obtain⟨_,o,ho,j6⟩:=hl.mem hm;rw[he] at ho;injection ho with ho;subst ho;exact j6 vs rfl
 refine Zl (wpAny_frameOf_fun fr hl hf fun j k1=>?_);refine Zl (wpAny_entryPlaceOf fun Y j7=>?_);unfold im newFields;refine Zl (bw ?_ (j7.sizeOk5 _ _ _ _ _));have e1:j.get? e=some {cls:=.ref C,dict:=d,data:=.fields vs}:=(k1.2.1 e j4).trans he;generalize hO:({cls:=.type "traceback",dict:=none,data:=.fields ([head,.ref L,.none,rawInt L,.none]++(if Y.isEmpty then ag 6 bn else Y)).toArray}:Obj)=oT
 have e2:=Zn (h:=j) oT e1;have j8:oT.isFreed=false:=by
  rw[<-hO];rfl
 refine dC e2 rfl sz (hq _ j.objs.size ?_ ?_ ?_)
 ·rw[k1.1]
  exact Zq _
 ·have O:j.objs.size≠e:=bz (Zp e1)
  have e3:=bL (dH (·.setIfInBounds 1 (au j.objs.size))) e2 rfl;have t3:=(aL (j.push oT) (dH (·.setIfInBounds 1 (au j.objs.size))) (bC O)).trans (Zo j j8);refine⟨vs.setIfInBounds 1 (.ref j.objs.size),oT,_,e3,by simp[sz],O,t3,(by rw[<-hO]),?_⟩;simp
 ·refine⟨fun b o q n m=>?_,fun b o q m=>?_⟩
  ·have J:b≠e:=fun z=>m (by simp[z])
   rw[aL _ _ (bC J)];exact Zn _ ((k1.2.1 b n).trans q)
  ·have J:b≠e:=fun z=>m (by simp[z])
   obtain⟨sl,q'⟩:=k1.2.2 b o q;refine⟨sl,?_⟩;rw[aL _ _ (bC J)];exact Zn _ q'
theorem ZaK {Q:Unit->Shared->Prop}
  (J:A.frames=some (env::outer)) (O:s.heap.FunFrames base (env::outer)) (j:env.frame=some L) (x:Ex0 s.heap e C d)
  (Y:∀h' T,s.heap.objs.size<=T->Ex h' e C d T (rawInt L)->But (env::outer) [e] s.heap h'->Q () {s with heap:=h'}) :
  wpAny M A (noteFrame (.ref e) env) Q E s:=by
 obtain⟨vs,he,z⟩:=x;unfold noteFrame;simp only[j];refine Zl (bh he rfl z ?_);rw[if_neg (by decide)];exact newEntry J O j he (bq.mp z).1 Y
theorem VC {Q:Unit->Shared->Prop}
  (fr:A.frames=some (env::outer)) (hl:s.heap.FunFrames base (env::outer)) (hf:env.frame=some L) (x:Ex s.heap e C d T .none)
  (hq:∀h' Y,s.heap.objs.size<=Y->Ex h' e C d Y (rawInt L)->But (env::outer) [e,T] s.heap h'->Q () {s with heap:=h'}) :
  wpAny M A (noteFrame (.ref e) env) Q E s:=by
 obtain⟨vs,oT,ts,he,h1,j4,hT,J,h3⟩:=x;unfold noteFrame;simp only[hf];refine Zl (bh he rfl h1 ?_);rw[if_pos (show (au T != bn)=true from by simp)];refine Zl (bh hT J h3 ?_);rw[if_neg (show ¬((bn == rawInt L)=true) from by simp[rawInt])];refine Zl (dC hT J (bq.mp h3).1 ?_);have j:∀b,b≠T->(s.heap.update T (dH (·.setIfInBounds 3 bn))).get? b=s.heap.get? b:=
  fun b hb=>aL _ _ (bC hb)
 have noR:∀b o,s.heap.get? b=some o->(∀ws,o.data≠.fields ws)->b≠T:=fun b o hb O z=>by
  rw[z,hT] at hb;injection hb with hb;subst hb;exact O ts J
 refine newEntry fr (hl.of_keeps fun b o hb O=>⟨o,(j b (noR b o hb O)).trans hb,rfl⟩) hf
  ((j e (bC j4)).trans he) (bq.mp h1).1 fun h' Y n x k=>hq h' Y ?_ x ?_
 ·have n':(s.heap.update T (dH (·.setIfInBounds 3 bn))).objs.size<=Y:=n
  rw[iG] at n';exact n'
 ·refine⟨fun b o q nf m=>?_,fun b o q m=>?_⟩
  ·have b1:b≠T:=fun z=>m (by simp[z])
   exact k.1 b o ((j b b1).trans q) nf fun z=>m (by simp at z;simp[z])
  ·have b1:b≠T:=fun z=>m (by simp[z])
   exact k.2 b o ((j b b1).trans q) fun z=>m (by simp at z;simp[z])
theorem ZaL {Q:Unit->Shared->Prop}(z:env.frame=some L)(x:Ex s.heap e C d T (rawInt L))(J:Q () s) :
  wpAny M A (noteFrame (.ref e) env) Q E s:=by
 obtain⟨vs,oT,ts,he,O,Y,hT,j,h3⟩:=x;exact wpAny_noteFrame_inFlight z he rfl O hT j h3 J
theorem YV {Q:Unit->Shared->Prop}(x:Ex s.heap e C d T fl)
  (hq:∀h',Ex h' e C d T .none->But [] [T] s.heap h'->Q () {s with heap:=h'}) :
  wpAny M A (setFlight (.ref e) none) Q E s:=by
 obtain⟨vs,oT,ts,he,O,J,Y,j,h3⟩:=x;have sz:3<ts.size:=(bq.mp h3).1;refine wpAny_setFlight_none he rfl O Y j sz (hq _ ?_ ?_)
 ·exact⟨vs,_,_,(aL _ _ J).trans he,O,J,
   bL _ Y (fC (cC j _)),cC j _,by simp[sz]⟩
 ·refine⟨fun b o q _ m=>?_,fun b o q m=>⟨o.slots,?_⟩⟩
  ·rw[aL _ _ (fun z=>m (by simp[z]))]
   exact q
  ·rw[aL _ _ (fun z=>m (by simp[z]))]
   exact q
theorem But.nil {l:List Env}{xs:List Addr}{h h':Heap}(a:But [] xs h h'):But l xs h h':=
 ⟨fun b o q _ m=>a.1 b o q (by simp) m,a.2⟩
theorem UR {Q:Unit->Shared->Prop}
  (J:A.frames=some (env::outer)) (O:s.heap.FunFrames base (env::outer)) (Y:env.frame=some L) (x:Ex0 s.heap e C d)
  (hq:∀h' T,s.heap.objs.size<=T->Ex h' e C d T .none->But (env::outer) [e] s.heap h'->Q () {s with heap:=h'}) :
  wpAny M A (leaving env (.ref e)) Q E s:=by
 unfold leaving;refine Zl (ZaK J O Y x fun h1 T n x1 j=>?_);refine YV x1 fun h2 x2 z=>?_;refine hq h2 T n x2 ⟨fun b o q nf m=>?_,fun b o q m=>?_⟩
 ·have hb:b≠T:=aA (ak (Zp q) n)
  exact z.1 b o (j.1 b o q nf m) (by simp) (by simp[hb])
 ·have hb:b≠T:=aA (ak (Zp q) n)
  obtain⟨sl,q1⟩:=j.2 b o q m;exact⟨sl,z.1 b _ q1 (by simp) (by simp[hb])⟩
end
end PyX
namespace L2
open PySem PySem.Spec PyProof.Rows
noncomputable def CXE (P:Program)(w:World):VQ:=fun j H s E e z=>
 ∃a C d T J,e=.ref a/\z.os=s.os/\fv z.gens/\Un (frs j) [] H J s.heap z.heap/\JB P w J z.heap/\
  PyX.Ex z.heap a C d T .none/\s.heap.objs.size<=a/\s.heap.objs.size<=T/\J a=none/\J T=none/\E (.ref C) d J
section
variable {X:Cx}{pins:List (Addr×Obj)}{σ:St}{H:Hp}{s:Shared}
noncomputable def Yx (X:Cx)(pins:List (Addr×Obj))(H:Hp)(b:Addr):Prop:=
 X.s₀.heap.objs.size<=b/\H b=none/\b≠X.env.locals/\(∀x c,X.env.cells.lookup x=some c->c≠b)/\∀p∈X.pn++pins,p.1≠b
theorem Inv.loose (I:Inv X pins σ H s){b:Addr}(h:s.heap.objs.size<=b)(n:H b=none):Yx X pins H b:=by
 refine⟨aK I.sz h,n,?_,fun x c e z=>?_,fun p j z=>?_⟩
 ·exact bz (ak I.lt h)
 ·obtain⟨v,o,J,hd⟩:=I.cell x c e
  exact absurd (ak (Zp J) h) (by rw[z];exact a9 _)
 ·exact absurd (ak (Zp (I.pin p j).1) h) (by rw[z];exact a9 _)
theorem Inv.but {xs:List Addr}{h':Heap}{t':Nat}(I:Inv X pins σ H s)(k:PyX.But X.stack xs s.heap h')(J:∀b∈xs,Yx X pins H b) :
  Inv X pins σ H {s with heap:=h',toks:=t'}:=by
 refine I.call (ch:=xs) (g':=s.gens) (d':=s.drawn) ⟨fun b o e _ O j=>k.1 b o e O j,fun b o e _ _ j=>k.2 b o e j,fun _ _ _ n _=>n,fun b o e j=>?_,fun _ _ q=>q,fun _ _ _ q=>q,
  fun _ ps q=>⟨#[],by rw[q];simp⟩⟩ (fun a o e=>?_) I.bare fun b hb=>?_
 ·obtain⟨sl,q⟩:=k.2 b o e j
  exact⟨_,q⟩
 ·have z:∀b u,(∃o,H b=some o)->s.heap.get? b=some u->h'.get? b=some u:=fun b u ⟨o',n⟩ q=>by
   refine k.1 b u q (fun Y=>?_) fun hb=>?_
   ·rw[I.stkFree b Y] at n
    cases n
   ·rw[(J b hb).2.1] at n
    cases n
  refine (I.hok a o e).stay (fun b u hb q=>z b u ?_ q) (fun c r=>r) fun c ys r=>r;rcases hb with rfl|hb
  ·exact⟨o,e⟩
  ·exact⟨_,hb⟩
 ·obtain⟨h1,h2,h3,h4,h5⟩:=J b hb
  exact⟨.inr h1,h3,h4,h5⟩
theorem Inv.afterX {E:XK}{e:Value}{s':Shared}(I:Inv X pins σ H s)(h:CXE X.prog X.w X.stack H s E e s') :
  ∃a C d T j,e=.ref a/\Inv X pins σ j s'/\PyX.Ex s'.heap a C d T .none/\Yx X pins j a/\Yx X pins j T/\E (.ref C) d j:=by
 obtain⟨a,C,d,T,j,rfl,z,O,u,hok,x,Y,hT,na,nT,q⟩:=h;have J:Inv X pins σ j s':=I.call' z u hok O fun b hb=>absurd hb (by simp);have lo:∀b,s.heap.objs.size<=b->j b=none->Yx X pins j b:=fun b hb n=>by
  obtain⟨h1,_,h3,h4,h5⟩:=I.loose hb (I.hok.fresh hb);exact⟨h1,n,h3,h4,h5⟩
 exact⟨a,C,d,T,j,rfl,J,x,lo a Y na,lo T hT nT,q⟩
end
noncomputable def Za7 (X:Cx)(E:XK):Prop:=∀(j:List (Addr×Obj)) (z:St) (H:Hp) (s:Shared) (a C:Addr) (d:Option Addr),
 Inv X j z H s->PyX.Ex0 s.heap a C d->Yx X j H a->E (.ref C) d H->X.xe (.ref a) s
section
variable {P:Program}{w:World}{K:ac}{mg:Str->Option Value}{base:Heap}{N:List Str}{qual:Str}{scope:Scope}{f:Addr}{cd:Value}
variable {A:Around}{outer:List Env}{s:Shared}{H:Hp}{E:XK}
theorem Zhh {X:Cx}{j:List (Addr×Obj)}{σ:St}{z:Hp}{s':Shared}(I:Inv X j σ z s')(J:X.ex=[]):Un X.fs [] X.H₀ z X.s₀.heap s'.heap:=by
 have:=I.base;rw[J] at this;exact this
theorem YK:Za7 (UZ (CXE P w) P w K mg base N qual scope f cd A outer s H E) E:=by
 intro j σ z s1 a C d I x lo q;show wpAny _ _ _ _ _ _;refine PyX.UR (base:=base) I.ok.frames I.stack rfl x fun h' T O x' k=>?_;have Y:Yx (UZ (CXE P w) P w K mg base N qual scope f cd A outer s H E) j z T:=I.loose O (I.hok.fresh O);have J:=I.but (t':=s1.toks) k fun b hb=>by
  obtain rfl:b=a:=by simpa using hb
  exact lo
 exact⟨a,C,d,T,z,rfl,J.os,J.bare,Zhh J rfl,J.hok,x',lo.1,Y.1,lo.2.1,Y.2.1,q⟩
end
noncomputable def exO (a C:Addr)(d:Option Addr):HO:=.ext fun h=>∃j,h.get? a=some {cls:=.ref C,dict:=d,data:=.fields j}
noncomputable def Cx.suite (X:Cx)(a:Addr)(j:List (Addr×Obj)):Cx:=
 {X with A:=X.A.mark (some (.ref a)),calm:=false,xe:=fun _ _=>False,pn:=X.pn++j}
noncomputable def Cx.tryc (X:Cx)(D:YH)(j:List (Addr×Obj))(z:List ExceptHandler):Cx:=
 { X with
  pn:=X.pn++j
  xe:=fun e J=>wpAny (model X.prog X.w) X.A (noteFrame e X.env) (fun _ O=>wpAny (model X.prog X.w) X.A (setFlight e none)
   (fun _ Y=>wpAny (model X.prog X.w) X.A (handleBy e X.env z) (SP X j D) X.xe Y) X.xe O) X.xe J}
section
variable {X:Cx}{pins:List (Addr×Obj)}{σ:St}{H:Hp}{s:Shared}{D:YH}{hs:List ExceptHandler}{a:Addr}
theorem Inv.toTry (I:Inv X pins σ H s):Inv (X.tryc D pins hs) [] σ H s:=
 ⟨⟨I.ok.mod,I.ok.kind,I.ok.glob,I.ok.blt,I.ok.above,I.ok.inj,I.ok.has,I.ok.cab,I.ok.hd,I.ok.frames,I.ok.stk,I.ok.exf,I.ok.bs,I.ok.bsz,I.ok.noex,I.ok.exfs,I.ok.funs,I.ok.frf⟩,
  I.os,I.bare,I.base,I.loc,I.cell,I.free,I.freeC,fun p j=>I.pin p (by
   rw[aI] at j;exact j),I.hok,I.len⟩
theorem Inv.ofTry {j:List (Addr×Obj)}(I:Inv (X.tryc D pins hs) j σ H s):Inv X pins σ H s:=
 ⟨⟨I.ok.mod,I.ok.kind,I.ok.glob,I.ok.blt,I.ok.above,I.ok.inj,I.ok.has,I.ok.cab,I.ok.hd,I.ok.frames,I.ok.stk,I.ok.exf,I.ok.bs,I.ok.bsz,I.ok.noex,I.ok.exfs,I.ok.funs,I.ok.frf⟩,
  I.os,I.bare,I.base,I.loc,I.cell,I.free,I.freeC,fun p z=>I.pin p (bE _ z),I.hok,I.len⟩
theorem Inv.toSuite (I:Inv X pins σ H s):Inv (X.suite a pins) [] σ H s:=
 ⟨⟨I.ok.mod,I.ok.kind,I.ok.glob,I.ok.blt,I.ok.above,I.ok.inj,I.ok.has,I.ok.cab,fun z=>(by cases z),I.ok.frames,I.ok.stk,I.ok.exf,I.ok.bs,I.ok.bsz,I.ok.noex,I.ok.exfs,I.ok.funs,I.ok.frf⟩,
  I.os,I.bare,I.base,I.loc,I.cell,I.free,I.freeC,fun p j=>I.pin p (by
   rw[aI] at j;exact j),I.hok,I.len⟩
theorem Inv.ofSuite (j:X.calm=true->X.A.handled=none){z:List (Addr×Obj)}(I:Inv (X.suite a pins) z σ H s):Inv X pins σ H s:=
 ⟨⟨I.ok.mod,I.ok.kind,I.ok.glob,I.ok.blt,I.ok.above,I.ok.inj,I.ok.has,I.ok.cab,j,I.ok.frames,I.ok.stk,I.ok.exf,I.ok.bs,I.ok.bsz,I.ok.noex,I.ok.exfs,I.ok.funs,I.ok.frf⟩,
  I.os,I.bare,I.base,I.loc,I.cell,I.free,I.freeC,fun p J=>I.pin p (bE _ J),I.hok,I.len⟩
theorem Zde {body:List Stmt}{h0:ExceptHandler}{pos:Pos}{tb:YH->TS}
  (hb:∀D pins,Vi (X.tryc D pins (h0::hs)) body (tb D)):PS X (.Try body (h0::hs) [] [] pos) (fun D σ H=>tb D D σ H):=by
 intro pins s σ H D I h;refine wpAny_Try_except (ZW (hb D pins [] s σ H D I.toTry h) fun f Y O=>?_);cases f with
 |next=>
  obtain⟨j,z,J,q⟩:=O;exact df ⟨j,z,J.ofTry,q⟩
 |brk=>
  obtain⟨j,z,J,q⟩:=O;exact⟨j,z,J.ofTry,q⟩
 |cont=>
  obtain⟨j,z,J,q⟩:=O;exact⟨j,z,J.ofTry,q⟩
 |ret u=>
  obtain⟨v,j,z,J,r,q⟩:=O;exact⟨v,j,z,J.ofTry,r,q⟩
theorem Inv.track {C:Addr}{d:Option Addr}{vs:Array Value}(I:Inv X pins σ H s)(he:s.heap.get? a=some {cls:=.ref C,dict:=d,data:=.fields vs})(lo:Yx X pins H a) :
  Inv X pins σ (upd H a (exO a C d)) s:=by
 have ext:Yf X.prog X.w (upd H a (exO a C d)) s.heap a (exO a C d):=
  ⟨⟨vs,he⟩,⟨_,he⟩,fun h1 h2 ⟨j,e⟩ k=>⟨j,k _ e⟩⟩
 obtain⟨h,g,J,t,os⟩:=s;refine I.call (ch:=[a]) (h':=h) (g':=g) (d':=J) (t':=t) ⟨fun b o e _ _ _=>e,fun b o e _ _ _=>⟨o.slots,e⟩,fun b o e n O=>?_,fun b o e _=>⟨o,e⟩,fun b Y q=>?_,fun b o u q=>?_,fun b ps q=>⟨#[],?_⟩⟩
  (fun b o e=>?_) I.bare fun b hb=>?_
 ·rw[ZB (fun z=>O (by simp[z]))]
  exact n
 ·rw[ZB (ZH q lo.2.1)]
  exact q
 ·rw[ZB (ZH q lo.2.1)]
  exact q
 ·rw[ZB (ZH q lo.2.1),q]
  simp
 ·by_cases hb:b=a
  ·subst hb
   rw[Zv] at e;cases e;exact ext
  ·rw[ZB hb] at e
   exact (I.hok b o e).stay (fun _ _ _ q=>q) (fun c r=>by rw[ZB (ZH r lo.2.1)];exact r) fun c Y r=>by rw[ZB (ZH r lo.2.1)];exact r
 ·obtain rfl:b=a:=by simpa using hb
  exact⟨.inr lo.1,lo.2.2.1,lo.2.2.2.1,lo.2.2.2.2⟩
end
section
variable {X:Cx}{pins:List (Addr×Obj)}{σ:St}{H:Hp}{s:Shared}{D:YH}{a:Addr}
theorem Xy {M:Model}{A:Around}{E:Value->Shared->Prop}{i:Nat}{n:Str}{pos:Pos}{Q:Unit->Shared->Prop}(I:Inv X pins σ H s)(hN:X.N.Nodup)(hi:X.N[i]?=some n)
  (hk:X.env.kindOf n=some .local) (h:∀s',Inv X pins (σ.set i none) H s'->Q () s'):wpAny M A (do bindName X.env n .none;unbindBehindTheSuite X.env n pos) Q E s:=by
 obtain⟨m,hn,hl⟩:=id I.loc;have Y:(X.env.scope.kind == .class || (X.env.scope.kind == .module && X.env.locals != X.env.globals))=false:=by
  rw[I.ok.kind];rfl
 have j4:i < σ.length:=by
  rw[I.len];exact (aH.mp hi).1
 have cne:=I.cne;refine wpAny_nameGoes_keeps hk hn Y fun h' v j6 J=>?_;obtain⟨oL,_,_,j7,_⟩:=id hn;have up:∀{b:Addr}{o:Obj},X.s₀.heap.get? b=some o->b≠X.env.locals:=fun {b o} e=>aA (ak (Zp e) I.ok.above);refine h _ ⟨I.ok,I.os,I.bare,⟨fun b o e n hb hx=>?_,fun b o e n hb hx=>?_,I.base.free,fun b o e hx=>?_,I.base.tups,I.base.frzs,I.base.tbls⟩,⟨_,j6,fun j y v' O e2 e3=>?_⟩,fun y c e=>?_,I.free,I.freeC,fun p hp=>?_,fun b ob e=>?_,?_⟩
 ·exact (J.2 b (up e)).trans (I.base.keep b o e n hb hx)
 ·obtain⟨sl,O⟩:=I.base.slot b o e n hb hx
  exact⟨sl,(J.2 b (up e)).trans O⟩
 ·obtain⟨o',O⟩:=I.base.there b o e hx
  exact⟨o',(J.2 b (up e)).trans O⟩
 ·by_cases hj:j=i
  ·subst hj
   rw[fw j4] at e2;cases e2
  ·rw[fF (bC hj)] at e2
   obtain⟨u',r',q⟩:=hl j y v' O e2 e3;refine⟨u',r',?_⟩;rcases q with ⟨k,e⟩|⟨k,c,e,z⟩
   ·refine .inl ⟨k,?_⟩
    have:y≠n:=fun e=>hj (XZ hN O (e▸hi));simp[this,e]
   ·exact .inr ⟨k,c,e,z.sameBut J (cne y c e)⟩
 ·obtain⟨w',z⟩:=I.cell y c e
  exact⟨w',z.sameBut J (cne y c e)⟩
 ·obtain⟨e,n,ne,nf,d⟩:=I.pin p hp
  exact⟨(J.2 p.1 ne).trans e,n,ne,nf,d⟩
 ·refine (I.hok b ob e).stay (fun c w' hc q=>(J.2 c ?_).trans q) (fun _ q=>q) fun _ _ q=>q
  rintro rfl;rcases hc with rfl|hc
  ·rw[I.free] at e
   cases e
  ·rw[I.free] at hc
   cases hc
 ·simpa using I.len
noncomputable def ZgV (D:YH)(i:Nat):YH:={nx:=fun σ H=>D.nx (σ.set i none) H,rt:=D.rt,bk:=fun σ H=>D.bk (σ.set i none) H,ct:=fun σ H=>D.ct (σ.set i none) H}
noncomputable def noSt (X:Cx):St:=ag X.N.length none
theorem Inv.noSt (I:Inv X pins σ H s):Inv X pins (noSt X) H s:=
 I.weak (by simp[L2.noSt,I.len]) fun i v e=>by
  unfold L2.noSt at e;rw[cp] at e;split at e <;> cases e
noncomputable def Zav (X:Cx)(z:Addr)(i:Nat)(ts:TS)(D:YH):XK:=fun cls d H=>∃C N J j Y O,cls=.ref C/\PyX.JA X.base C N J j/\PyX.JA X.base z Y O j/\
 O.contains (.type "BaseException")=true/\(au C::J).contains (.ref z)=true/\
 ∀a,H a=none->ts (ZgV D i) ((noSt X).set i (some (.ref a))) (upd H a (exO a C d))
theorem Xd {C T L:Addr}{d:Option Addr}{Dc:Addr}{i:Nat}{n x:Str}{np hp:Pos}{b0:Stmt}{suite:List Stmt}{ts:TS}
  (I:Inv X pins σ H s) (e:PyX.Ex s.heap a C d T (rawInt L)) (la:Yx X pins H a) (lT:Yx X pins H T)
  (hN:X.N.Nodup) (hi:X.N[i]?=some n) (hk:X.env.kindOf n=some .local) (hg:Gl X x) (hm:X.mg x=some (.ref Dc)) (j4:(x == ("__debug__":Str))=false)
  (hs:Vi (X.suite a pins) (b0::suite) ts) (q:Zav X Dc i ts D (.ref C) d H) :
  wpAny (model X.prog X.w) X.A (setFlight (.ref a) none)
   (fun _ s3=>wpAny (model X.prog X.w) X.A (handleBy (.ref a) X.env [.ExceptHandler (some (.Name x np)) (some n) (b0::suite) hp]) (SP X pins D) X.xe s3) X.xe s:=by
 obtain⟨C',N,bm,j9,ND,bD,hC,ic,j6,hb,j7,q⟩:=q;cases hC;refine PyX.YV e fun h1 e1 k1=>?_;have I1:Inv X pins σ H {s with heap:=h1}:=I.but (t':=s.toks) k1.nil fun b hb=>by
  obtain rfl:b=T:=by simpa using hb
  exact lT
 refine wpAny_handleBy_cons (jE (Je (X:=X.suite a pins) I1.toSuite hg hm ?_ j4)) (by intro z;cases z);obtain⟨vs,oT,tl,ea,_⟩:=id e1;refine PyX.Xj (ic.keeps I1.bk) (j6.keeps I1.bk) ea rfl hb j7 ?_;simp only[if_true];refine codeAny_handlers_suite_as (PyX.YV e1 fun h2 e2 k2=>?_);have I2:Inv X pins σ H {s with heap:=h2}:=I1.but (t':=s.toks) k2.nil fun b hb=>by
  obtain rfl:b=T:=by simpa using hb
  exact lT
 obtain⟨l7,l8,l9,j8,_⟩:=id e2;have I3:=(I2.noSt.track j8 la).toSuite (a:=a);refine Wm (X:=X.suite a pins) (v:=.ref a) I3 hN hi (.inl hk) rfl (fun s4 I4=>?_) (.inr hk);refine aY (hs [] s4 _ _ (ZgV D i) I4 (q a la.2.1)) (fun f s5 h5=>?_) fun _ _ z=>bA z;have back:∀{j:St}{O:Hp},Inv (X.suite a pins) [] j O s5->Inv X pins j O s5:=fun J=>J.ofSuite I.ok.hd;cases f with
 |next=>
  obtain⟨j,O,J,z⟩:=h5;exact Xy (back J) hN hi hk fun s6 Y=>⟨_,O,Y,z⟩
 |brk=>
  obtain⟨j,O,J,z⟩:=h5;exact Xy (back J) hN hi hk fun s6 Y=>⟨_,O,Y,z⟩
 |cont=>
  obtain⟨j,O,J,z⟩:=h5;exact Xy (back J) hN hi hk fun s6 Y=>⟨_,O,Y,z⟩
 |ret u=>
  obtain⟨v,j,O,J,r,z⟩:=h5;exact Xy (back J) hN hi hk fun s6 Y=>⟨v,_,O,Y,r,z⟩
section
variable {Dc:Addr}{i:Nat}{n x:Str}{np hp:Pos}{b0:Stmt}{suite:List Stmt}{ts:TS}
theorem ZaH (hN:X.N.Nodup)(hi:X.N[i]?=some n)(hk:X.env.kindOf n=some .local)(hg:Gl X x)(hm:X.mg x=some (.ref Dc))(Y:(x == ("__debug__":Str))=false)
  (j:X.stack=X.env::X.outer) (hf:X.env.frame=some X.env.locals) (hs:∀a,Vi (X.suite a pins) (b0::suite) ts) :
  WN (CXE X.prog X.w) (X.tryc D pins [.ExceptHandler (some (.Name x np)) (some n) (b0::suite) hp]) (Zav X Dc i ts D):=by
 intro ps σ H s e s' I h;obtain⟨a,C,d,T,H',rfl,J,z,la,lT,q⟩:=I.afterX h;show wpAny _ _ _ _ _ _;have O:=J.ofTry;have fr:=O.ok.frames;have st:=O.stack;have lo:∀b,Yx (X.tryc D pins [.ExceptHandler (some (.Name x np)) (some n) (b0::suite) hp]) ps H' b->Yx X pins H' b:=
  fun b ⟨h1,h2,h3,h4,h5⟩=>⟨h1,h2,h3,h4,fun p hp=>h5 p (bE _ hp)⟩
 rw[j] at fr st;refine PyX.VC (base:=X.base) fr st hf z fun h' T' nT z' k=>?_;rw[<-j] at k;have J2:Inv X pins σ H' {s' with heap:=h'}:=O.but (t':=s'.toks) k fun b hb=>by
  rcases aj.mp hb with rfl|hb
  ·exact lo _ la
  ·obtain rfl:b=T:=by simpa using hb
   exact lo _ lT
 exact Xd J2 z' (lo _ la) (O.loose nT (O.hok.fresh nT)) hN hi hk hg hm Y (hs a) q
end
end
end L2
namespace PyX
open PySem
section
variable {M:Model}{A:Around}{E:Value->Shared->Prop}{env:Env}{s:Shared}
theorem Zdb {v:Sem Value}{Q:Flow->Shared->Prop}(Y:A.handled=none)
    (h:wpAny M A v (fun u s1=>∃e C N bm j d vs,u=.ref e/\JA s1.heap C N bm j/\bm.contains (.type "BaseException")=true/\
      s1.heap.get? e=some {cls:=.ref C,dict:=d,data:=.fields vs}/\vs[1]?=some .none/\E (.ref e) s1) E s) :
    wpAny M A (raiseStmt env (some v) none) Q E s:=by
  unfold raiseStmt;refine Zl (aY h (fun u s1 h1=>?_) fun _ _ z=>z);obtain⟨e,C,N,bm,j,d,vs,rfl,x,hb,he,hv,hE⟩:=h1;obtain⟨nm,q,bs,hd,sn,sb,ab,cl,dd,k0,k1,k2,k3,k5,O⟩:=x;have J:(au C::bm).contains (.type "BaseException")=true:=by
    rw[aW,hb,cL]
  obtain⟨hp,g,dr,tk,os⟩:=s1
  repeat (first
    |with_reducible refine aG he ?_
    |with_reducible refine aG O ?_
    | (with_reducible refine bK O ?_
       rw[J])
    |wp_step)
  rw[hv];refine Zm ?_;rw[if_neg (by decide)];exact Zm (wpAny_raiseNew_none Y hE)
end
end PyX
namespace L2
open PySem PySem.Spec PyProof.Rows
section
variable {X:Cx}{C N T U:Addr}{nid iid:String}{mN mT:Str->Option Value}{x:Str}{p pos cpos:Pos}{e:Expr}{es:List Expr}{t:TA}{E:XK}
theorem VB (hc:X.calm=true)(c:PyX.Jm X.base C N T U nid mN mT)(hi:mN "__init__"=none)(F:dD "ValueError" nid iid PyX.VE)
  (hg:Gl X x) (hm:X.mg x=some (.ref C)) (kp:aX X.K (.ref C)=true) (ha:PA X (e::es) t) (hx:Za7 X E)
  (j4:(x == ("__debug__":Str))=false:=by decide) (he:starEach (e::es) X.env=(false,eval e X.env)::starEach es X.env:=by rfl) (j6:(backTo cpos (starEach es X.env)).any (·.1)=false:=by rfl) :
  PS X (.Raise (some (.Call (.Name x p) (e::es) [] cpos)) none pos) (fun D O H=>t O H fun vs H1=>vs.length<=sizeLine/\E (.ref C) none H1):=by
 intro j s O H D I h;rw[arm_exec_Raise];refine Zl (cq (PyX.Zdb (I.ok.hd hc) ?_));refine Zl (aY (di (Je I hg hm ?_ j4)) (fun v s3 h3=>Zl (cq (Zm h3))) fun _ _ z=>z);refine fJ (h₀:=X.base) I.ok.mod.kin kp (ZW (ha cpos j s O H _ I h) fun us s1 ⟨vs,H1,Y,r,hl,q⟩=>⟨Y.kIn,?_⟩) he j6;have c1:=c.keeps Y.bk;have j7:us.length<=sizeLine:=by
  rw[<-r.length];exact hl
 obtain⟨h1,g1,d1,t1,o1⟩:=s1;refine PyX.U5 F c1.tail c1.c.ex c1.nsC hi (fun h' a mk hz=>?_) j7;have J:Inv X j O H1 ⟨h',g1,d1,t1,o1⟩:=Y.kept (t':=t1) mk.keeps;obtain⟨ta,ho,_,_⟩:=mk.there;exact⟨a,C,N,_,nid,none,_,rfl,(c1.keeps mk.keeps).c.ex,rfl,ho,rfl,hx j O H1 _ a C none J ⟨_,ho,rfl⟩ (by
  obtain⟨l1,l2,l3,l4,l5⟩:=Y.loose hz (Y.hok.fresh hz);exact⟨l1,l2,l3,l4,l5⟩) q⟩
end
noncomputable def Ut (a C:Addr)(d:Option Addr):HO:=.ext fun h=>∃j,h.get? a=some {cls:=.ref C,dict:=d,data:=.fields j}/\j[1]?=some .none
noncomputable def exD (z:Addr)(fs:List (Str×V)):HO:=.ext fun h=>∃j,h.Ns1 z j/\(∀f,JT (fs.lookup f) (j f))/\iz j (fs.map (·.1))
section
variable {X:Cx}{pins:List (Addr×Obj)}{σ:St}{H:Hp}{s:Shared}{a:Addr}
theorem Inv.trackO {o:HO}{ob:Obj}(I:Inv X pins σ H s)(ok:Yf X.prog X.w (upd H a o) s.heap a o)(lo:Yx X pins H a):Inv X pins σ (upd H a o) s:=by
 obtain⟨h,g,j,t,os⟩:=s;refine I.call (ch:=[a]) (h':=h) (g':=g) (d':=j) (t':=t) ⟨fun b o e _ _ _=>e,fun b o e _ _ _=>⟨o.slots,e⟩,fun b o e n J=>?_,fun b o e _=>⟨o,e⟩,fun b O q=>?_,fun b o u q=>?_,fun b ps q=>⟨#[],?_⟩⟩
  (fun b Y e=>?_) I.bare fun b hb=>?_
 ·rw[ZB (fun z=>J (by simp[z]))]
  exact n
 ·rw[ZB (ZH q lo.2.1)]
  exact q
 ·rw[ZB (ZH q lo.2.1)]
  exact q
 ·rw[ZB (ZH q lo.2.1),q]
  simp
 ·by_cases hb:b=a
  ·subst hb
   rw[Zv] at e;cases e;exact ok
  ·rw[ZB hb] at e
   exact (I.hok b Y e).stay (fun _ _ _ q=>q) (fun c r=>by rw[ZB (ZH r lo.2.1)];exact r) fun c O r=>by rw[ZB (ZH r lo.2.1)];exact r
 ·obtain rfl:b=a:=by simpa using hb
  exact⟨.inr lo.1,lo.2.2.1,lo.2.2.2.1,lo.2.2.2.2⟩
theorem ZdO {z:Hp}{h:Heap}{C:Addr}{d:Option Addr}{vs:Array Value}(e:h.get? a=some {cls:=.ref C,dict:=d,data:=.fields vs})(v:vs[1]?=some .none):Yf X.prog X.w z h a (Ut a C d):=
 ⟨⟨vs,e,v⟩,⟨_,e⟩,fun Y h2 ⟨j,J,O⟩ k=>⟨j,k _ J,O⟩⟩
theorem ZgC {z J:Heap}{j:Addr}{m:Str->Option Value}(n:z.Ns1 j m)(k:∀o,z.get? j=some o->J.get? j=some o):J.Ns1 j m:=by
 obtain⟨o,es,O,e,r⟩:=n;exact⟨o,es,O,k _ e,r⟩
theorem ZgR {z:Hp}{h:Heap}{j:Addr}{fs:List (Str×V)}{mA:Str->Option Value}(n:h.Ns1 j mA)(r:∀f,JT (fs.lookup f) (mA f))(J:iz mA (fs.map (·.1))):Yf X.prog X.w z h j (exD j fs):=
 ⟨⟨mA,n,r,J⟩,(by
  obtain⟨o,es,ep,e,_⟩:=n;exact⟨o,e⟩),fun h1 h2 ⟨m,O,Y,w'⟩ k=>⟨m,ZgC O k,Y,w'⟩⟩
variable {C N T U:Addr}{nid:String}{mN mT:Str->Option Value}{f:Str}{y:V}{u:Value}{A:Around}{E:Value->Shared->Prop}{Q:Unit->Shared->Prop}
structure NoN (mN mT:Str->Option Value)(f:Str):Prop where
 a:mN f=none
 b:mT f=none
 c:typeLookup (.type "ValueError") f=pure none
 d:mN "__setattr__"=none
 e:mT "__setattr__"=none
theorem Zaz (I:Inv X pins σ H s)(c:PyX.Jm X.base C N T U nid mN mT)(n:NoN mN mT f)(hH:H a=some (Ut a C none))(ry:RelV y u)
  (hq:∀j s',H j=none->j≠a->Inv X pins σ (upd (upd H a (Ut a C (some j))) j (exD j [(f,y)])) s'->Q () s'):wpAny (model X.prog X.w) A (setAttr (.ref a) f u) Q E s:=by
 obtain⟨⟨Y,J,hv⟩,_,_⟩:=I.hok a _ hH;have J0:=I;obtain⟨h,g,dr,t,os⟩:=s;have fr:H h.objs.size=none:=I.hok.fresh (Zq _);have la:a<h.objs.size:=Zp J;refine PyX.Zb0 (mA:=fun _=>none) (ns:=[]) (c.keeps I.bk) n.a n.b n.c n.d n.e ⟨_,J,rfl,fun c z=>(by cases z),.inl ⟨rfl,fun _=>rfl⟩⟩ gq (by rw[fu];decide) fun h' t' In SL=>?_;obtain⟨o1,e1,c1,d1,s1,_⟩:=SL.2.1 _ J;obtain⟨o2,e2,dd⟩:=SL.2.2 _ J rfl;obtain rfl:o1=o2:=ay (e1.symm.trans e2);have he:h'.get? a=some {cls:=.ref C,dict:=some h.objs.size,data:=.fields Y}:=by
  rw[e1];obtain⟨oc,od,j4,j6⟩:=o1;have q1:oc=.ref C:=c1;have q2:j4=.fields Y:=d1;have q3:j6=#[]:=s1;have q4:od=some h.objs.size:=dd;subst q1 q2 q3 q4;rfl
 have I1:Inv X pins σ (upd H a (Ut a C (some h.objs.size))) ⟨h',g,dr,t',os⟩:=
  I.write (x:=a) (e:=a) (t':=t') (by rw[hH];exact dZ) (.inl rfl) (fun b ob hb q=>SL.1 b ob hb (fun o0 j z z'=>by
   have:o0=_:=ay (z.symm.trans J);subst this;cases z') q) ⟨_,he⟩ (ZdO he hv)
 obtain⟨oI,eI,_,_,hd⟩:=In;have:oI={cls:=.ref C,dict:=some h.objs.size,data:=.fields Y}:=ay (eI.symm.trans he);subst this;rcases hd with ⟨z,_⟩|⟨j,z,O,ns⟩
 ·cases z
 ·cases z
  refine hq h.objs.size _ fr O (I1.trackO (ob:={cls:=.none,data:=.fields #[]}) (ZgR ns (fun g=>?_) ?_) ?_)
  ·by_cases q:g=f
   ·subst q
    simp[i4,JT];exact ry
   ·have:(g == f)=false:=by simpa using q
    simp[i4,this,q,JT]
  ·exact gX f u gq
  ·have:=J0.loose (Zq _) fr
   exact⟨this.1,by rw[ZB O];exact fr,this.2.2⟩
end
section
variable {X:Cx}{pins:List (Addr×Obj)}{σ:St}{H:Hp}{s:Shared}{a:Addr}
variable {C N T U dx:Addr}{nid:String}{mN mT:Str->Option Value}{f:Str}{y:V}{u:Value}{A:Around}{E:Value->Shared->Prop}{Q:Unit->Shared->Prop}{fs:List (Str×V)}
noncomputable def sX1 (C:Addr)(z J:TE)(f:Str):TS:=fun D σ H=>J σ H fun y O=>z σ O fun x j=>∃a,x=.ref a/\j a=some (Ut a C none)/\
 ∀dx,j dx=none->dx≠a->D.nx σ (upd (upd j a (Ut a C (some dx))) dx (exD dx [(f,y)]))
variable {o value:Expr}{ta tv:TE}{pos pos':Pos}
theorem Zh1 (c:PyX.Jm X.base C N T U nid mN mT)(n:NoN mN mT f)(j:PE X o ta)(z:PE X value tv)(J:swapsWith value (some (.Attribute o f pos')) pos.line X.env=pure false) :
  PS X (.Assign [.Attribute o f pos'] value pos) (sX1 C ta tv f):=by
 intro pins s σ H D I h;refine plainObj_wpAny_Assign_Attribute (ZW (z pins s σ H _ I h) fun u O ⟨y,Y,I1,ry,q⟩=>ZW (j pins O σ Y _ I1 q) fun ov s2 ⟨x,H2,I2,rx,a,ex,ea,q2⟩=>?_) J;subst ex;obtain rfl:ov=au a:=rx;exact Zaz I2 c n ea ry fun dx s3 h1 h2 I3=>⟨σ,_,I3,q2 dx h1 h2⟩
end
noncomputable def del (H:Hp)(a:Addr):Hp:=fun b=>if b=a then none else H b
theorem UY {H:Hp}{a:Addr}:del H a a=none:=by
 unfold del;rw[if_pos rfl]
theorem W5 {H:Hp}{a b:Addr}(h:b≠a):del H a b=H b:=by
 unfold del;rw[if_neg h]
section
variable {X:Cx}{pins:List (Addr×Obj)}{σ:St}{H:Hp}{s:Shared}{a:Addr}{φ:Heap->Prop}
theorem Inv.untrack (I:Inv X pins σ H s)(j:H a=some (.ext φ))(h1:X.s₀.heap.objs.size<=a)(h3:a≠X.env.locals)(h4:∀x c,X.env.cells.lookup x=some c->c≠a)(h5:∀p∈X.pn++pins,p.1≠a):Inv X pins σ (del H a) s:=by
 obtain⟨h,g,J,t,os⟩:=s;have ne:∀{b:Addr}{o:HO},H b=some o->(∀ O,o≠.ext O)->b≠a:=fun {b o} e d z=>by
  rw[z,j] at e;exact d φ (ay e).symm
 refine I.call (ch:=[]) (h':=h) (g':=g) (d':=J) (t':=t) ⟨fun b o e _ _ _=>e,fun b o e _ _ _=>⟨o.slots,e⟩,fun b o e n _=>?_,fun b o e _=>⟨o,e⟩,fun b Y q=>?_,fun b o u q=>?_,fun b ps q=>⟨#[],?_⟩⟩
  (fun b o' e=>?_) I.bare fun b hb=>absurd hb (by simp)
 ·unfold del
  split
  ·rfl
  ·exact n
 ·rw[W5 (ne q fun _ z=>by cases z)]
  exact q
 ·rw[W5 (ne q fun _ z=>by cases z)]
  exact q
 ·rw[W5 (ne q fun _ z=>by cases z),q]
  simp
 ·by_cases hb:b=a
  ·subst hb
   rw[UY] at e;cases e
  ·rw[W5 hb] at e
   exact (I.hok b o' e).stay (fun _ _ _ q=>q) (fun c r=>by rw[W5 (ne r fun _ z=>by cases z)];exact r) fun c Y r=>by rw[W5 (ne r fun _ z=>by cases z)];exact r
end
section
variable {X:Cx}{C N T U fI:Addr}{nid iid:String}{mN mT:Str->Option Value}{x:Str}{p pos cpos:Pos}{e:Expr}{es:List Expr}{t:TA}{E:XK}{k:Nat}{fd:FuncData}{ps:List Str}{sp:Sp}{oI:Obj}
theorem Ja (hc:X.calm=true)(c:PyX.Jm X.base C N T U nid mN mT)(hi:mN "__init__"=some (.ref fI))(hf:X.base.get? fI=some oI)(j8:oI.cls=.type "function")(F:dD "ValueError" nid iid PyX.VE)
  (G:Z8 X.prog X.w X.K X.mg X.base YD k fI fd ps sp) (hr:Y2 (k+1) X.A) (hb:Binds X.K fd ps [])
  (hg:Gl X x) (hm:X.mg x=some (.ref C)) (kp:aX X.K (.ref C)=true) (ha:PA X (e::es) t) (hx:Za7 X E)
  (j9:(x == ("__debug__":Str))=false:=by decide) (he:starEach (e::es) X.env=(false,eval e X.env)::starEach es X.env:=by rfl) (l7:(backTo cpos (starEach es X.env)).any (·.1)=false:=by rfl) :
  PS X (.Raise (some (.Call (.Name x p) (e::es) [] cpos)) none pos) (fun D σ H=>t σ H fun vs H1=>vs.length<=sizeLine/\∀a,H1 a=none->
   sp (.ref a::vs) (upd H1 a (Ut a C none)) (fun v H2=>v=.non/\∃d,H2 a=some (Ut a C d)/\E (.ref C) d (del H2 a)) fun _ _ _=>False):=by
 intro j s σ H D I h;rw[arm_exec_Raise];refine Zl (cq (PyX.Zdb (I.ok.hd hc) ?_));refine Zl (aY (di (Je I hg hm ?_ j9)) (fun v s3 h3=>Zl (cq (Zm h3))) fun _ _ z=>z);refine fJ (h₀:=X.base) I.ok.mod.kin kp (ZW (ha cpos j s σ H _ I h) fun Y s1 ⟨vs,H1,I1,r,hl,q⟩=>⟨I1.kIn,?_⟩) he l7;have c1:=c.keeps I1.bk;have l8:Y.length<=sizeLine:=by
  rw[<-r.length];exact hl
 obtain⟨h1,g1,d1,t1,o1⟩:=s1;refine PyX.Za4 F c1.tail c1.c.ex c1.nsC hi (I1.bk _ _ hf) j8 (fun h' a mk hz=>?_) l8;have J:Inv X j σ H1 ⟨h',g1,d1,t1,o1⟩:=I1.kept (t':=t1) mk.keeps;obtain⟨ta,ho,_,_⟩:=mk.there;have lo:=I1.loose hz (I1.hok.fresh hz);have J2:Inv X j σ (upd H1 a (Ut a C none)) ⟨h',g1,d1,t1,o1⟩:=J.trackO (ob:={cls:=.none,data:=.fields #[]}) (ZdO ho rfl) lo;have hq:=q a lo.2.1;have r2:ZN (V.ref a::vs) (au a::Y):=.cons rfl r;have j4:(au a::Y++[]).length=ps.length:=by
  have e1:=r2.length;rw[G.len _ _ _ _ hq] at e1;rw[aI];exact e1.symm
 have bb:=hb ⟨h',g1,d1,t1,o1⟩ (au a::Y) J2.kIn j4;rw[aI] at bb;refine gN (hG (G.run _ X.stack _ _ ⟨au a::Y,[]⟩ (au a::Y) _ _ _ (hr.make C Y []) (J2.env0.make C Y []) bb r2 hq) fun l9 s' O=>?_);cases l9 with
 |error z=>exact bA O
 |ok fl=>
  cases fl with
  |ret u=>
   obtain⟨v,H2,I3,rv,ev,d,h2,q3⟩:=J2.after O;subst ev;obtain⟨⟨ws,j6,j7⟩,_,_⟩:=I3.hok a _ h2;have I4:=I3.untrack h2 lo.1 lo.2.2.1 lo.2.2.2.1 lo.2.2.2.2;exact⟨rv,a,C,N,_,nid,d,ws,rfl,(c.keeps I3.bk).c.ex,rfl,j6,j7,hx j σ _ s' a C d I4 ⟨ws,j6,j7⟩ ⟨lo.1,UY,lo.2.2⟩ q3⟩
  |next=>exact bA O
  |brk=>exact bA O
  |cont=>exact bA O
end
section
variable {X:Cx}{f:Str}{e:Expr}{ta:TE}{pos:Pos}
structure NoR (mN mT:Str->Option Value)(f:Str):Prop where
 a:mN f=none
 b:mT f=none
 c:typeLookup (.type "ValueError") f=pure none
 d:mN "__getattribute__"=none
 e:mT "__getattribute__"=none
 g:mN "__getattr__"=none
 h:mT "__getattr__"=none
noncomputable def tXf (X:Cx)(ta:TE)(f:Str):TE:=fun σ H Q=>ta σ H fun x z=>∃a C j fs y N T U J O Y,x=.ref a/\z a=some (exO a C (some j))/\z j=some (exD j fs)/\j≠a/\
 PyX.Jm X.base C N T U J O Y/\NoR O Y f/\fs.lookup f=some y/\Q y z
theorem Zh2 (he:PE X e ta)(hb:attributeBase e f X.env (eval e X.env)=eval e X.env):PE X (.Attribute e f pos) (tXf X ta f):=by
 intro j s σ H Q I h;refine Zfd hb (ZW (he j s σ H _ I h) fun u s1 ⟨x,H1,Y,rx,a,C,dx,fs,y,N,T,U,j4,mN,mT,ex,ea,ed,ne,c,n,l,q⟩=>?_);subst ex;obtain rfl:u=au a:=rx;obtain⟨⟨vs,ho⟩,_,_⟩:=Y.hok a _ ea;obtain⟨⟨mA,ns,r,wi⟩,_,_⟩:=Y.hok dx _ ed;have J:=r f;rw[l] at J;cases hv:mA f with
 |none=>
  rw[hv] at J;exact bA J
 |some w0=>
  rw[hv] at J;have O:RelV y w0:=J;obtain⟨h1,g1,d1,t1,o1⟩:=s1;refine PyX.Zdw (c.keeps Y.bk) n.a n.b n.c n.d n.e n.g n.h ⟨_,ho,rfl,fun c z=>(by cases z),.inr ⟨dx,rfl,ne,ns⟩⟩ hv (PySem.W.handedOut_of (Zcu O)) ?_;exact⟨y,H1,Y.tok _,O,q⟩
end
end L2
namespace PyX
open PySem
theorem Zec:typeLookup (.type "ValueError") "__class__"=pure (some (.builtin "object.__class__")):=by
 rw[typeLookup_type,jF];kernel_rfl
section
variable {prog:Program}{w:World}{h:Heap}{C N T U x:Addr}{nid:String}{mN mT:Str->Option Value}{o:Obj}
variable {A:Around}{E:Value->Shared->Prop}{gs:Array GenState}{dr:Drawn}{tk:Nat}{os:OsState}
theorem ZdX {R:Result->Shared->Prop}(c:Jm h C N T U nid mN mT)(j:h.get? x=some o)(z:o.cls=.ref C)(hq:R (.ok (.ret (.ref C))) ⟨h,gs,dr,tk,os⟩) :
    codeAny (model prog w) A (.call (.builtin "getset_descriptor.__get__") ⟨[.builtin "object.__class__",.ref x,.ref C],[]⟩) R ⟨h,gs,dr,tk,os⟩:=by
  obtain⟨nm,q,bs,sn,sb,ab,cl,dd,k0,k1,k2,k3,k5,J⟩:=c.c;have O:(⟨h,gs,dr,tk,os⟩:Shared).TypeIs (.builtin "object.__class__") "getset_descriptor":=fL;have Y:(au C::au T::VE).contains (.type (".".intercalate ("object.__class__".cutAt '.').dropLast))=true:=by
    rw[F.owner_object_class,aW,aW,SF.hasOwner,cL,cL]
  refine cQ iP.plain F.entry_gs_get (iP.check _ _ _ _ _ _ _ _ O (F.args_gs_get _ _ _) ?_)
  repeat (any_goals (first
    |assumption
    | (with_reducible refine aG j ?_
       rw[z])
    | (with_reducible refine bK J ?_
       rw[Y])
    |wp_step))
  refine⟨cW _ (by decide +kernel),codeAny_builtin F.entry_object_class ?_⟩
  repeat (any_goals (first
    |assumption
    | (with_reducible refine aG j ?_
       rw[z])
    |wp_step))
theorem Za1 {kt:Tok}{Q:Fin->Shared->Prop}(c:Jm h C N T U nid mN mT)(J:mN "__class__"=none)(O:mT "__class__"=none)(j:h.get? x=some o)(z:o.cls=.ref C)
    (Y:Q (.done (.ret (.ref C))) ⟨h,gs,dr,tk,os⟩) :
    wpAny (model prog w) A (aO.«object.__getattribute__» ⟨[.ref x,.str "__class__" kt],[]⟩) Q E ⟨h,gs,dr,tk,os⟩:=by
  have h5:(⟨h,gs,dr,tk,os⟩:Shared).TypeIs (.builtin "object.__class__") "getset_descriptor":=fL;have f5:=fL;have f6:=iP.lookup;have f7:=F.slot_gs_set.lookup
  repeat (any_goals (first
    |assumption
    | (with_reducible refine aG j ?_
       rw[z])
    |with_reducible refine c.lookB Zec J O ?_
    |wp_step))
  refine ZdX c j z ?_
  repeat (any_goals (first
    |assumption
    |wp_step))
theorem ZcC {Q:Option Value->Shared->Prop}(c:Jm h C N T U nid mN mT)(J:mN "__class__"=none)(O:mT "__class__"=none)
    (Y:mN "__getattribute__"=none) (h4:mT "__getattribute__"=none) (h5:mN "__getattr__"=none) (h6:mT "__getattr__"=none)
    (j:h.get? x=some o) (z:o.cls=.ref C) (hq:Q (some (.ref C)) ⟨h,gs,dr,tk+1,os⟩) :
    wpAny (model prog w) A (getAttr? (.ref x) "__class__") Q E ⟨h,gs,dr,tk,os⟩:=by
  have f3:=cJ.ga.bind (.ref x);have e2:(cf "BaseException.__getattribute__" == cf "object.__getattribute__")=false:=by
    decide +kernel
  have e1:(onTheHeap (au C) && cf "BaseException.__getattribute__" == cf "object.__getattribute__")=false:=by
    rw[e2];rfl
  unfold getAttr? getAttrBy? getAttrBy
  repeat (any_goals (first
    |assumption
    | (with_reducible refine aG j ?_
       rw[z])
    |with_reducible refine c.lookB cJ.ga.lookup Y h4 ?_
    |with_reducible refine c.lookB jg.noGetattr h5 h6 ?_
    |wp_step))
  refine cQ cJ.ga.plain F.entry_bexc_ga (ZbV c j z (Za1 c J O j z ?_))
  repeat (any_goals (first
    |assumption
    |wp_step))
end
end PyX
namespace L2
open PySem PySem.Spec PyProof.Rows
structure NoC (mN mT:Str->Option Value):Prop where
 a:mN "__class__"=none
 b:mT "__class__"=none
 d:mN "__getattribute__"=none
 e:mT "__getattribute__"=none
 g:mN "__getattr__"=none
 h:mT "__getattr__"=none
theorem ZbE {K:ac}{x C N T U:Addr}{J:String}{mN mT:Str->Option Value}{cd:ClassData}(j:b9 K C=some cd)(n:NoC mN mT) :
  PySem.W.KitX K (.ref x) (.ref C) (fun h=>PyX.Jm h C N T U J mN mT/\∃o,h.get? x=some o/\o.cls=.ref C) where
 ty:=fun M h _ ⟨_,o,e,c⟩=>by
  intro A Q E s k q;unfold typeOf;refine Zl (wpAny_loadPart (k _ _ e) (Zm ?_));rw[c];exact q
 it:=fun M h X _=>by
  unfold b9 at j;split at j
  ·rename_i c' d' O Y ho
   intro A' Q' E' s' k q;unfold isType loadHead;exact Zl (wpAny_loadPart (k _ _ (X _ _ ho)) (Zm q))
  ·cases j
 ne:=fun h tp dd j6 m sl X j4=>by
  refine eU.mpr fun q=>?_;have e:C=tp:=fA (beq_iff_eq.mp q);subst e;unfold b9 at j;split at j
  ·rename_i c' d' O Y ho
   have z:=(X _ _ ho).symm.trans j4;cases z
  ·cases j
 ca:=fun {prog w A E Q s} X ⟨c,o,e,cc⟩ k=>by
  obtain⟨h,g,d,t,os⟩:=s;exact PyX.ZcC c n.a n.b n.d n.e n.g n.h e cc k
section
variable {X:Cx}{C N T U:Addr}{nid:String}{mN mT:Str->Option Value}{cd:ClassData}
theorem U6:Yk X (.builtin "isinstance") (fun xs H Q=>∃a C d N T U nid mN mT cd c b,xs=[.ref a,c]/\H a=some (exO a C d)/\b9 X.K C=some cd/\NoC mN mT/\PyX.Jm X.base C N T U nid mN mT/\
  (∀j,RelV c j->cY X.K (.ref C) j=some b)/\Q (.bl b) H):=by
 intro J s σ H xs us Q I r h;obtain⟨a,C,d,N,T,U,nid,mN,mT,cd,c,b,rfl,O,Y,n,two,e,q⟩:=h;cases r with
 |cons r1 r=>
  cases r with
  |cons r2 r=>
   cases r;cases (show _=au a from r1);obtain⟨⟨vs,ho⟩,_,_⟩:=I.hok a _ O;exact PySem.W.kia_one (ZbE Y n) I.kIn ⟨two.keeps I.bk,_,ho,rfl⟩ (e _ r2) (fun z=>nomatch z) fun tk=>⟨.bl b,H,I.tok _,rfl,q⟩
theorem ZcG:Yk X (.builtin "isinstance") (fun xs H Q=>∃a C d N T U nid mN mT cd J cs b,xs=[.ref a,.ref J]/\H a=some (exO a C d)/\H J=some (.tup cs)/\b9 X.K C=some cd/\NoC mN mT/\PyX.Jm X.base C N T U nid mN mT/\
  (∀j,ZN cs j->gP X.K (.ref C) j=some b)/\Q (.bl b) H):=by
 intro O s σ H xs us Q I r h;obtain⟨a,C,d,N,T,U,nid,mN,mT,cd,J,cs,b,rfl,Y,ht,hk,n,two,e,q⟩:=h;cases r with
 |cons r1 r=>
  cases r with
  |cons r2 r=>
   cases r;cases (show _=au a from r1);cases (show _=au J from r2);obtain⟨⟨vs,ho⟩,_,_⟩:=I.hok a _ Y;obtain⟨_,j,rv,o,h1,h2,m,h3⟩:=I.hok J _ ht;obtain⟨oc,od,j4,j6⟩:=o;cases h2;cases h3;exact PySem.W.kia_tup (ZbE hk n) I.kIn ⟨two.keeps I.bk,_,ho,rfl⟩ h1 (e _ rv) (fun z=>nomatch z) fun tk=>⟨.bl b,H,I.tok _,rfl,q⟩
end
noncomputable def YS (j:Array DictEntry):Bool:=j.toList.all fun e=>match e.key with | .str _ _=>true|_=>false
theorem Zaw {es:Array DictEntry}(h:YS es=true):StrKeys es:=by
 intro e j;unfold YS at h;have:=aJ.mp h e (Array.mem_toList_iff.mpr j);split at this
 ·rename_i n t q;exact⟨n,t,q⟩
 ·cases this
noncomputable def W0 (j:Array DictEntry)(ns:List Str):Bool:=ns.all fun n=>(nsFind j n).isNone
theorem Z0 {es:Array DictEntry}{ns:List Str}(h:W0 es ns=true){n:Str}(j:n∈ns):nsFind es n=none:=by
 have:=aJ.mp h n j;exact Option.isNone_iff_eq_none.mp this
structure Yy (K:ac)(x:Str)(C N:Addr)(bm:List Value)(es:Array DictEntry):Prop where
 at_:aF K mainGlobals x=some (some (.ref C))
 ob:∃nm q bs sn sb ab cl dd k0 k1 k2 k3 k5,K.lookup C=some (excClassObj nm q C N bs bm true sn sb ab cl dd k0 k1 k2 k3 k5 PyX.Y9)
 ns:∃c d ep sl,K.lookup N=some ⟨c,d,.dict es ep,sl⟩
 kp:aX K (.ref C)=true
 sk:YS es=true
theorem Yy.mk' {K:ac}{x:Str}{C N:Addr}{bm:List Value}{es:Array DictEntry}{nm q:Str}{bs:List Value}{sn:List Str}{j:List Value}{z:Bool}{J:Option Bool}{O:Option Addr}{Y k1 k2 k3 k5:Option Value}{c:Value}{d:Option Addr}{ep:Nat}{sl:Array (Option Value)}
  (a:aF K mainGlobals x=some (some (.ref C))) (l:K.lookup C=some (excClassObj nm q C N bs bm true sn j z J O Y k1 k2 k3 k5 PyX.Y9)) (n:K.lookup N=some ⟨c,d,.dict es ep,sl⟩) (kp:aX K (.ref C)=true) (sk:YS es=true):Yy K x C N bm es:=
 ⟨a,⟨nm,q,bs,sn,j,z,J,O,Y,k1,k2,k3,k5,l⟩,⟨c,d,ep,sl,n⟩,kp,sk⟩
section
variable {K:ac}{x y:Str}{C N T U D M:Addr}{bm:List Value}{es et ez:Array DictEntry}{h:Heap}{mg:Str->Option Value}
theorem Yy.ed (e:Yy K x C N bm es)(X:K.In h):PyX.Zag h C N bm PyX.Y9:=by
 obtain⟨j,q,bs,sn,z,J,O,Y,k0,k1,k2,k3,k5,l⟩:=e.ob;exact⟨j,q,bs,sn,z,J,O,Y,k0,k1,k2,k3,k5,X _ _ l⟩
theorem Yy.nsx (e:Yy K x C N bm es)(X:K.In h):h.Ns N (nsFind es):=by
 obtain⟨c,d,j,z,l⟩:=e.ns;exact⟨_,es,j,X _ _ l,rfl,Zaw e.sk,fun _=>rfl⟩
theorem Yy.cls (e:Yy K x C N bm es):∃j:ClassData,b9 K C=some j/\j.mro=.ref C::bm:=by
 obtain⟨z,q,bs,sn,J,O,Y,dd,k0,k1,k2,k3,k5,l⟩:=e.ob;have q:b9 K C=some {name:=z,bases:=bs,mro:=.ref C::bm,ns:=N,qualname:=q,hasDict:=true,slotNames:=sn,subclasses:=J,abstract:=O,collection:=Y,hasDel:=false}:=by
  unfold b9;rw[l]
 exact⟨_,q,rfl⟩
theorem Yy.ty (e:Yy K x C N bm es):jt K (.ref C)=some (.type "type"):=by
 obtain⟨j,q,bs,sn,z,J,O,Y,k0,k1,k2,k3,k5,l⟩:=e.ob;show (K.lookup C).map (·.cls)=_;rw[l];rfl
theorem Yy.sub (e:Yy K x C N bm es)(v:Value):hJ K (.ref C) v=some ((au C::bm).contains v):=by
 obtain⟨j,z,J⟩:=e.cls;show jG K C v=_;unfold jG;rw[z];show (if j.mro.isEmpty=true then none else some (j.mro.contains v))=_
 rw[J];rfl
theorem Yy.kitR (e:Yy K x C N bm es){j:List Value}(f:Yy K y D M j ez):cY K (.ref C) (.ref D)=some ((au C::bm).contains (.ref D)):=by
 unfold cY;by_cases q:(au C == au D)=true
 ·rw[if_pos q]
  have:C=D:=fA (beq_iff_eq.mp q);subst this;simp[aW]
 ·rw[if_neg q]
  obtain⟨J,z,_⟩:=f.cls;show (if ((b9 K D).isSome && jt K (.ref D) == some (.type "type"))=true then hJ K (.ref C) (.ref D) else none)=_
  rw[if_pos,e.sub];rw[z,f.ty];rfl
theorem Zcp:je "ValueError"=true:=by kernel_rfl
theorem Yy.kitV (e:Yy K x C N (.ref T::PyX.VE) es):cY K (.ref C) (.type "ValueError")=some true:=by
 unfold cY;rw[if_neg (by simp)];show (if je "ValueError"=true then hJ K (.ref C) (.type "ValueError") else none)=_
 rw[if_pos Zcp,e.sub];rfl
theorem Yy.two (e:Yy K x C N (.ref T::PyX.VE) es)(t:Yy K y T U PyX.VE et)(i:nsFind et "__init__"=none)(X:K.In h):PyX.Jm h C N T U PyX.Y9 (nsFind es) (nsFind et):=
 ⟨e.ed X,t.ed X,e.nsx X,t.nsx X,i⟩
end
noncomputable def ZZ:List Str:=["__setattr__", "__class__", "__getattribute__", "__getattr__"]
noncomputable def Ys:List Str:=["word", "thing", "number", "row", "name"]
noncomputable def Zip:List Str->Bool:=fun l=>l.all fun n=>match fastLookup "ValueError" n with|some none=>true|_=>false
theorem ZbL {f:Str}(j:f∈Ys):typeLookup (.type "ValueError") f=pure none:=by
 have h:Zip Ys=true:=by kernel_rfl
 have:=aJ.mp h f j;rw[typeLookup_type,jF];split at this
 ·rename_i q;rw[q]
 ·cases this
structure Ec where
 C:Addr
 N:Addr
 es:Array DictEntry
structure YW (K:ac)(x:Str)(T U:Addr)(et:Array DictEntry)(e:Ec):Prop where
 c:Yy K x e.C e.N (.ref T::PyX.VE) e.es
 no:W0 e.es (ZZ++Ys)=true
structure Us (K:ac)(T U:Addr)(et:Array DictEntry):Prop where
 t:Yy K "TableError" T U PyX.VE et
 no:W0 et ("__init__" :: (ZZ++Ys))=true
section
variable {K:ac}{x:Str}{T U:Addr}{et:Array DictEntry}{e:Ec}{f:Str}{h:Heap}
theorem YW.two (E:YW K x T U et e)(B:Us K T U et)(X:K.In h):PyX.Jm h e.C e.N T U PyX.Y9 (nsFind e.es) (nsFind et):=E.c.two B.t (Z0 B.no (by simp)) X
theorem YW.noN (E:YW K x T U et e)(B:Us K T U et)(j:f∈Ys):NoN (nsFind e.es) (nsFind et) f:=
 ⟨Z0 E.no (am _ j),Z0 B.no (ae _ (am _ j)),ZbL j,Z0 E.no (by simp[ZZ]),Z0 B.no (by simp[ZZ])⟩
theorem YW.noR (E:YW K x T U et e)(B:Us K T U et)(j:f∈Ys):NoR (nsFind e.es) (nsFind et) f:=
 ⟨Z0 E.no (am _ j),Z0 B.no (ae _ (am _ j)),ZbL j,Z0 E.no (by simp[ZZ]),Z0 B.no (by simp[ZZ]),Z0 E.no (by simp[ZZ]),Z0 B.no (by simp[ZZ])⟩
theorem YW.noC (E:YW K x T U et e)(B:Us K T U et):NoC (nsFind e.es) (nsFind et):=
 ⟨Z0 E.no (by simp[ZZ]),Z0 B.no (by simp[ZZ]),Z0 E.no (by simp[ZZ]),Z0 B.no (by simp[ZZ]),Z0 E.no (by simp[ZZ]),Z0 B.no (by simp[ZZ])⟩
end
noncomputable def VU (C:Addr)(f:Str):Sp:=fun z H Q _=>∃(a:Addr) (y:V),z=[.ref a,y]/\H a=some (Ut a C none)/\∀j,H j=none->j≠a->Q .non (upd (upd H a (Ut a C (some j))) j (exD j [(f,y)]))
section
variable {P:Program}{w:World}{K:ac}{mg:Str->Option Value}{base:Heap}{C N T U:Addr}{mN mT:Str->Option Value}{qual:Str}{st:Stmt}{fI:Addr}{fd:FuncData}{f g u v:Str}
theorem ZeF {z J O Y:Pos}(F:WT K "__init__" qual st fI fd)(c:PyX.Jm base C N T U PyX.Y9 mN mT)(n1:NoN mN mT f)(hS:JU ["self",u] ["self",u] (ZS st))
  (hb:Yh st=[.Assign [.Attribute (.Name "self" z) f J] (.Name u O) Y]) (v0:UU (ZS st) "self"=true) (v1:UU (ZS st) u=true) (d1:(u == ("__debug__":Str))=false) (d2:(u == ("__classdict__":Str))=false) :
  Z8 P w K mg base YD 1 fI fd ["self",u] (VU C f):=by
 refine F.ok hS (fun vs H Q E h=>?_) (fun j4 A j s H vs Q E hr h=>?_)
 ·obtain⟨a,y,rfl,_⟩:=h;rfl
 ·obtain⟨a,y,rfl,ha,k⟩:=h
  rw[hb];refine⟨_,Zw (Zh1 c n1 (vn 0 rfl v0) (vn 1 rfl v1 d1 d2) rfl),?_⟩;exact⟨_,rfl,_,rfl,a,rfl,ha,fun dx h1 h2=>k dx h1 h2⟩
end
noncomputable def Zd5 (P:Program)(w:World)(K:ac)(Y:Str->Option Value)(base:Heap)(e:Ec)(z:List Str)(sp:Sp):Prop:=
 ∃j J O,nsFind e.es "__init__"=some (.ref j)/\base.get? j=some J/\J.cls=.type "function"/\Z8 P w K Y base YD 1 j O z sp/\Binds K O z []
noncomputable def Zah (K:ac)(e:Ec)(j:Str)(st:Stmt):Prop:=
 ∃(f:Addr) (Y an:Option Addr) (J:Array (Option Value)) (kV O pm z ct:Value),nsFind e.es "__init__"=some (.ref f)/\
  K.lookup f=some ⟨.type "function",Y,.func (bj "__init__" j (Yp st) (Yh st) (ZS st) .none kV O pm an z ct),J⟩/\bS K z j=true/\aX K (.ref f)=true
theorem Zah.mk {K:ac}{e:Ec}{qual:Str}{st:Stmt}{f:Addr}{J an:Option Addr}{z:Array (Option Value)}{kV doc pm j ct:Value}(a:nsFind e.es "__init__"=some (.ref f))
  (l:K.lookup f=some ⟨.type "function",J,.func (bj "__init__" qual (Yp st) (Yh st) (ZS st) .none kV doc pm an j ct),z⟩) (c:bS K j qual=true) (k:aX K (.ref f)=true):Zah K e qual st:=
 ⟨f,J,an,z,kV,doc,pm,j,ct,a,l,c,k⟩
theorem Zah.ok {P:Program}{w:World}{K:ac}{mg:Str->Option Value}{base:Heap}{e:Ec}{qual:Str}{st:Stmt}{z:List Str}{sp:Sp}(I:Zah K e qual st)(X:K.In base)
  (hok:∀f J,WT K "__init__" qual st f J->Z8 P w K mg base YD 1 f J z sp)
  (hb:∀(kV doc pm:Value) (an:Option Addr) (j ct:Value) (us:List Value),us.length=z.length->bindArgs (bj "__init__" qual (Yp st) (Yh st) (ZS st) .none kV doc pm an j ct) ⟨us,[]⟩=pure (z.zip us)) :
  Zd5 P w K mg base e z sp:=by
 obtain⟨f,Y,an,O,kV,doc,pm,j,ct,a,l,c,k⟩:=I;exact⟨f,_,_,a,X _ _ l,rfl,hok f _ (X7 l c k),(X7 l c k).binds hb⟩
section
variable {K:ac}{x:Str}{C N T U:Addr}{es et:Array DictEntry}{nm q:Str}{bs:List Value}{sn:List Str}{sb:List Value}{ab:Bool}{cl:Option Bool}{dd:Option Addr}{k0 k1 k2 k3 k5:Option Value}{c:Value}{d:Option Addr}{ep:Nat}{sl:Array (Option Value)}
theorem Us.mk' (a:aF K mainGlobals "TableError"=some (some (.ref T)))(l:K.lookup T=some (excClassObj nm q T U bs PyX.VE true sn sb ab cl dd k0 k1 k2 k3 k5 PyX.Y9))(n:K.lookup U=some ⟨c,d,.dict et ep,sl⟩)(j:aX K (.ref T)=true)
  (o:(YS et && W0 et ("__init__" :: (ZZ++Ys)))=true):Us K T U et:=by
 rw[aT] at o;exact⟨.mk' a l n j o.1,o.2⟩
theorem YW.mk' (a:aF K mainGlobals x=some (some (.ref C)))(l:K.lookup C=some (excClassObj nm q C N bs (.ref T::PyX.VE) true sn sb ab cl dd k0 k1 k2 k3 k5 PyX.Y9))(n:K.lookup N=some ⟨c,d,.dict es ep,sl⟩)(j:aX K (.ref C)=true)
  (o:(YS es && W0 es (ZZ++Ys))=true):YW K x T U et ⟨C,N,es⟩:=by
 rw[aT] at o;exact⟨.mk' a l n j o.1,o.2⟩
noncomputable def Xt (K:ac)(x:Str)(T U:Addr)(et:Array DictEntry)(e:Ec):Prop:=YW K x T U et e/\nsFind e.es "__init__"=none
theorem Xt.mk (a:aF K mainGlobals x=some (some (.ref C)))(l:K.lookup C=some (excClassObj nm q C N bs (.ref T::PyX.VE) true sn sb ab cl dd k0 k1 k2 k3 k5 PyX.Y9))(n:K.lookup N=some ⟨c,d,.dict es ep,sl⟩)(j:aX K (.ref C)=true)
  (o:(YS es && W0 es (ZZ++Ys) && W0 es ["__init__"])=true):Xt K x T U et ⟨C,N,es⟩:=by
 rw[aT] at o;exact⟨.mk' a l n j o.1,Z0 o.2 (by simp)⟩
theorem Zci {K:ac}{N:Addr}{c:Value}{d:Option Addr}{es:Array DictEntry}{ep:Nat}{sl:Array (Option Value)}(n:K.lookup N=some ⟨c,d,.dict es ep,sl⟩){x:Str}{v:Value}(e:aF K N x=some (some v)):nsFind es x=some v:=by
 unfold aF at e;rw[n] at e;dsimp only at e;unfold nsFind findBy;rw[<-Array.find?_toList];split at e
 ·rename_i z j;cases e;rw[j];rfl
 ·split at e <;> cases e
noncomputable def Zfm (K:ac)(x:Str)(T U:Addr)(et:Array DictEntry)(j:Str)(st:Stmt)(e:Ec):Prop:=YW K x T U et e/\Zah K e j st
theorem Zfm.mk {qual:Str}{st:Stmt}{f:Addr}{O Y:Option Addr}{z:Array (Option Value)}{kV J pm j ct:Value}(a:aF K mainGlobals x=some (some (.ref C)))(l:K.lookup C=some (excClassObj nm q C N bs (.ref T::PyX.VE) true sn sb ab cl dd k0 k1 k2 k3 k5 PyX.Y9))
  (n:K.lookup N=some ⟨c,d,.dict es ep,sl⟩) (kp:aX K (.ref C)=true) (o:(YS es && W0 es (ZZ++Ys))=true) (ai:aF K N "__init__"=some (some (.ref f)))
  (li:K.lookup f=some ⟨.type "function",O,.func (bj "__init__" qual (Yp st) (Yh st) (ZS st) .none kV J pm Y j ct),z⟩) (ci:bS K j qual=true) (ki:aX K (.ref f)=true):Zfm K x T U et qual st ⟨C,N,es⟩:=
 ⟨.mk' a l n kp o,.mk (Zci n ai) li ci ki⟩
end
end L2
namespace C63
open PySem L2 PySem.Spec PyProof.Rows
open Tb
noncomputable def ZdV:Nat->Str
 |0 => "NoGroup" |1 => "NoTable" |2 => "NoShares" |3 => "NoPerm" |4 => "NoLines" |5 => "NoAlike" |6 => "NoName" |7 => "TooMany" |8 => "NoOrder" |9 => "NoPart" |10 => "NoText" |_ => "NoRow"
structure Cs (K:ac)(mg:Str->Option Value)(T U:Addr)(et:Array DictEntry)(c:Nat->Ec):Prop where
 tb:Us K T U et
 ok:∀k,k<12->YW K (ZdV k) T U et (c k)
 mgT:mg "TableError"=some (.ref T)
 mgC:∀k,k<12->mg (ZdV k)=some (.ref (c k).C)
 inj:∀j k,j<12->k<12->(c j).C=(c k).C->j=k
 neT:∀k,k<12->(c k).C≠T
 pl:∀k,7<=k->k<12->nsFind (c k).es "__init__"=none
noncomputable abbrev fVE:dD "ValueError" PyX.Y9 "ValueError.__init__" PyX.VE:=fV
noncomputable def ZbN (T:Addr)(l:List Addr):Bool:=match l with
 | []=>true
 |a::r=>!(a == T) && !(r.contains a) && ZbN T r
theorem ZbM {T:Addr}:∀{l:List Addr},ZbN T l=true->(∀j k:Nat,∀a:Addr,l[j]?=some a->l[k]?=some a->j=k)/\∀a∈l,a≠T
 | [],_=>⟨fun j k a h=>by simp at h,fun a h=>by cases h⟩
 |b::r,h=>by
  unfold ZbN at h;simp only[aT,jC] at h;obtain⟨⟨h1,h2⟩,h3⟩:=h;obtain⟨i1,i2⟩:=ZbM h3;have nb:b∉r:=fun z=>by
   have:=iR.mpr z;rw[h2] at this;cases this
  refine⟨fun j k a J O=>?_,fun a Y=>?_⟩
  ·cases j with
   |zero=>
    cases k with
    |zero=>rfl
    |succ k=>
     have e:b=a:=by simpa using J
     subst e;have j4:r[k]?=some b:=by simpa using O
     exact absurd (aN j4) nb
   |succ j=>
    cases k with
    |zero=>
     have e:b=a:=by simpa using O
     subst e;have j6:r[j]?=some b:=by simpa using J
     exact absurd (aN j6) nb
    |succ k=>rw[i1 j k a (by simpa using J) (by simpa using O)]
  ·rcases aj.mp Y with rfl|Y
   ·intro z;subst z;simp at h1
   ·exact i2 a Y
noncomputable def U9 (l:List Ec)(k:Nat):Ec:=l.getD k ⟨0,0,#[]⟩
theorem Um {l:List Ec}{k:Nat}(h:k<l.length):(l.map Ec.C)[k]?=some (U9 l k).C:=by
 unfold U9;rw[Zc,Zb,Zf h];rfl
theorem k12 {k:Nat}(h:k<12):k=0\/k=1\/k=2\/k=3\/k=4\/k=5\/k=6\/k=7\/k=8\/k=9\/k=10\/k=11:=by omega
structure BlV (mg:Str->Option Value):Prop where
 ve:mg "ValueError"=none
section
variable {P:Program}{w:World}{K:ac}{mg:Str->Option Value}{base:Heap}{T U:Addr}{et:Array DictEntry}{c:Nat->Ec}
theorem Cs.kit (S:Cs K mg T U et c){j k:Nat}(J:j<12)(O:k<12):cY K (.ref (c k).C) (.ref (c j).C)=some (decide (j=k)):=by
 rw[(S.ok k O).c.kitR (S.ok j J).c];have Y:(au (c j).C == au T)=false:=by
  refine eU.mpr fun q=>S.neT j J (fA (beq_iff_eq.mp q))
 congr 1;rw[aW,aW,Y];by_cases q:j=k
 ·subst q;simp
 ·have e2:(au (c j).C == au (c k).C)=false:=eU.mpr fun z=>q (S.inj j k J O (fA (beq_iff_eq.mp z)))
  rw[e2,decide_eq_false q];rfl
noncomputable def Zjb (c:Nat->Ec):List V->Hp->VK->Prop:=fun xs H Q=>∃a k j d,xs=[.ref a,.ref (c j).C]/\k<12/\j<12/\H a=some (exO a (c k).C d)/\Q (.bl (decide (j=k))) H
theorem isE {X:Cx}(S:Cs K mg T U et c)(O:K.In base)(Y:X.K=K:=by rfl)(hB:X.base=base:=by rfl):Yk X (.builtin "isinstance") (Zjb c):=by
 subst Y hB;intro z s σ H xs us Q I r h;obtain⟨a,k,j,d,rfl,J,hj,ha,q⟩:=h;obtain⟨cd,h1,_⟩:=(S.ok k J).c.cls;refine U6 z s σ H _ us Q I r ⟨a,_,d,_,T,U,_,_,_,cd,_,_,rfl,ha,h1,(S.ok k J).noC S.tb,(S.ok k J).two S.tb O,fun cv rc=>?_,q⟩;cases (show cv=au _ from rc);exact S.kit hj J
noncomputable def Zi9 (c:Nat->Ec):List V->Hp->VK->Prop:=fun xs H Q=>∃a k d,xs=[.ref a,.ty "ValueError"]/\k<12/\H a=some (exO a (c k).C d)/\Q (.bl true) H
theorem isV {X:Cx}(S:Cs K mg T U et c)(J:K.In base)(O:X.K=K:=by rfl)(Y:X.base=base:=by rfl):Yk X (.builtin "isinstance") (Zi9 c):=by
 subst O Y;intro j s σ H xs us Q I r h;obtain⟨a,k,d,rfl,z,ha,q⟩:=h;obtain⟨cd,h1,_⟩:=(S.ok k z).c.cls;refine U6 j s σ H _ us Q I r ⟨a,_,d,_,T,U,_,_,_,cd,_,_,rfl,ha,h1,(S.ok k z).noC S.tb,(S.ok k z).two S.tb J,fun cv rc=>?_,q⟩;cases (show cv=hU "ValueError" from rc);exact (S.ok k z).c.kitV
theorem Cs.any (S:Cs K mg T U et c){k:Nat}(O:k<12):∀(J:List Nat) (z:List Value),(∀j∈J,j<12)->ZN (J.map fun j=>V.ref (c j).C) z->gP K (.ref (c k).C) z=some (J.any fun j=>decide (j=k))
 | [],z,_,h=>by cases h;rfl
 |j::J,z,Y,h=>by
  cases h with
  |cons r rs=>
   cases (show _=au (c j).C from r);have ih:=S.any O J _ (fun i hi=>Y i (ae _ hi)) rs;have h1:=S.kit (Y j ah) O;unfold gP;rw[h1,dF];by_cases e:j=k
   ·rw[decide_eq_true e];rfl
   ·rw[decide_eq_false e];exact ih
noncomputable def Zja (c:Nat->Ec):List V->Hp->VK->Prop:=fun xs H Q=>∃(a:Addr) (k:Nat) (d:Option Addr) (J:Addr) (z:List Nat),xs=[.ref a,.ref J]/\k<12/\(∀j∈z,j<12)/\H a=some (exO a (c k).C d)/\H J=some (.tup (z.map fun j=>V.ref (c j).C))/\Q (.bl (z.any fun j=>decide (j=k))) H
theorem isT {X:Cx}(S:Cs K mg T U et c)(O:K.In base)(Y:X.K=K:=by rfl)(hB:X.base=base:=by rfl):Yk X (.builtin "isinstance") (Zja c):=by
 subst Y hB;intro j s σ H xs us Q I r h;obtain⟨a,k,d,tp,js,rfl,z,hj,ha,ht,q⟩:=h;obtain⟨cd,h1,_⟩:=(S.ok k z).c.cls;exact ZcG j s σ H _ us Q I r ⟨a,_,d,_,T,U,_,_,_,cd,tp,_,_,rfl,ha,ht,h1,(S.ok k z).noC S.tb,(S.ok k z).two S.tb O,fun J rv=>S.any z js J hj rv,q⟩
theorem clv {X:Cx}{x:Str}{C:Addr}{pos:Pos}(j:X.mg x=some (.ref C))(z:YZ X.env.scope x=true:=by kernel_rfl)(J:(x == ("__debug__":Str))=false:=by kernel_rfl):PE X (.Name x pos) (tC (.ref C)):=Zbt (YU z) j rfl J
theorem Cs.catchR {X:Cx}(S:Cs K mg T U et c)(j:K.In base){k:Nat}(z:k<12){i:Nat}{ts:TS}{D:YH}{d:Option Addr}{H:Hp}(J:X.base=base)
  (h:∀a,H a=none->ts (ZgV D i) ((noSt X).set i (some (.ref a))) (upd H a (exO a (c k).C d))):Zav X T i ts D (.ref (c k).C) d H:=by
 subst J;have two:=(S.ok k z).two S.tb j;refine⟨_,_,_,_,_,_,rfl,two.c.ex,two.t.ex,rfl,?_,h⟩;rw[aW,aW];simp
end
end C63
namespace Tx
open PySem PySem.Builtin PySem.Builtin.Str PySem.NumText PyProof.Rows PySem.W PySem.W.KIN
theorem UM {c:Nat}(h:48<=c/\c<=57):(jn c).toNat=c:=by
 have:c=48\/c=49\/c=50\/c=51\/c=52\/c=53\/c=54\/c=55\/c=56\/c=57:=by omega
 rcases this with rfl|rfl|rfl|rfl|rfl|rfl|rfl|rfl|rfl|rfl <;> rfl
theorem Zck {l:List Nat}(h:bY l):(l.map jn).map gj=l:=by
 rw[a7];exact (dP fun c j=>UM (h c j)).trans (List.map_id _)
theorem Ze6 {l:List Nat}(h:bY l){c:Nat}{r:List Nat}(e:l=c::r)(J:c≠48):ZL (digitsVal l)=l/\1<=digitsVal l:=by
 have O:=h c (by rw[e];exact ah);have Y:=toDigits_digitsVal r.length l (by rw[e];rfl) h (.inr ⟨c,r,e,by omega⟩);have j:ZL (digitsVal l)=l:=by unfold ZL;rw[Y];exact Zck h
 refine⟨j,?_⟩;rcases Nat.eq_zero_or_pos (digitsVal l) with z|z
 ·rw[z] at j
  have:l=[48]:=j.symm;rw[e] at this;exact absurd (dY this).1 J
 ·exact z
theorem Zcz {m:Nat}(hm:1<=m){c:Nat}{r:List Nat}(e:ZL m=c::r):c≠48:=by
 intro J;subst J;have h:=toDigits_all (ZL m) (Z6 m);rw[Wu] at h;have j:ZL m=(Nat.toDigits 10 m).map gj:=rfl;rw[h,e] at j;have O:(48::r).dropWhile (· == 48)=r.dropWhile (· == 48):=rfl;rw[O] at j;cases z:r.dropWhile (· == 48) with
 |nil=>
  rw[z] at j;have j:48::r=[48]:=j;have:m=0:=by
   have v:=Wu m;rw[e,j] at v;exact v.symm
  omega
 |cons x y=>
  rw[z] at j;have j:48::r=((x::y).map jn).map gj:=j;have Y:=congrArg eS j;rw[Za,Za,Zi] at Y;have:=(List.dropWhile_sublist (· == 48) (l:=r)).length_le;rw[z] at this;omega
noncomputable def Z7 (l:List Nat):Option Nat:=if Wj l=true/\l.head?≠some 48 then some (digitsVal l) else none
theorem X3 {m:Nat}(j:1<=m):Z7 (ZL m)=some m:=by
 have z:(ZL m).head?≠some 48:=by
  cases e:ZL m with
  |nil=>exact absurd e (WM m)
  |cons c r=>
   intro h;exact Zcz j e (ay h)
 unfold Z7;rw[if_pos ⟨Xb m,z⟩,Wu]
theorem Wr {l:List Nat}{m:Nat}(h:Z7 l=some m):l=ZL m/\1<=m:=by
 unfold Z7 at h;split at h
 ·rename_i j
  cases h;obtain⟨J,O⟩:=YA.mp j.1;cases l with
  |nil=>exact absurd rfl J
  |cons c r=>
   obtain⟨a,b⟩:=Ze6 O rfl (fun z=>j.2 (by rw[z];rfl));exact⟨a.symm,b⟩
 ·cases h
noncomputable def Xv (l:List Nat):Option (Nat×Nat):=
 if (ZX l).2.1=false then (match Z7 l with|none=>none|some m=>some (0,m))
 else match (if (ZX l).1=[] then some 1 else Z7 (ZX l).1),(if (ZX l).2.2=[] then some 1 else Z7 (ZX l).2.2) with
  |some m,some h=>if ((ZX l).1≠[]/\m=1)\/(ZX l).2.2=[49] then none else some (h,m)
  |_,_=>none
noncomputable def wdP (m p:Nat):List Nat:=(if p=0 then ZL m else if m=1 then [] else ZL m)++Vg p
theorem Zao (k:Int)(p:Nat)(j:k≠0):wd k p=(if k<0 then [45] else [])++wdP k.natAbs p:=by
 rw[Uw k p j];unfold wdP ahd;rw[aw]
theorem ZbC {m:Nat}(O:1<=m)(p:Nat):Xv (wdP m p)=some (p,m):=by
 have Y:122∉ZL m:=(Zbz (Z6 m)).1;unfold wdP Vg;by_cases z:p=0
 ·rw[if_pos z,if_pos z,aI]
  unfold Xv;rw[Ji Y,if_pos rfl,X3 O,z]
 ·rw[if_neg z,if_neg z]
  have hb:(if (if p=1 then [] else ZL p)=[] then some 1 else Z7 (if p=1 then [] else ZL p))=some p:=by
   by_cases j:p=1
   ·rw[if_pos j,if_pos rfl,j]
   ·rw[if_neg j,if_neg (WM p),X3 (by omega)]
  have J:(if p=1 then [] else ZL p)≠[49]:=by
   by_cases j:p=1
   ·rw[if_pos j];simp
   ·rw[if_neg j]
    intro e;have:=Wu p;rw[e] at this;exact j this.symm
  by_cases j:m=1
  ·rw[if_pos j]
   unfold Xv;rw[Jh (by simp),if_neg (by simp)];show (match (if ([]:List Nat)=[] then some 1 else Z7 []),(if (if p=1 then [] else ZL p)=[] then some 1 else Z7 (if p=1 then [] else ZL p)) with
    |some m,some h=>if (([]:List Nat)≠[]/\m=1)\/(if p=1 then [] else ZL p)=[49] then none else some (h,m)
    |_,_=>none)=_
   rw[hb,if_pos rfl];show (if _\/_ then none else some (p,1))=_
   rw[if_neg (fun h=>h.elim (fun h=>h.1 rfl) J),j]
  ·rw[if_neg j]
   unfold Xv;rw[Jh Y,if_neg (by simp)];show (match (if ZL m=[] then some 1 else Z7 (ZL m)),(if (if p=1 then [] else ZL p)=[] then some 1 else Z7 (if p=1 then [] else ZL p)) with
    |some m',some h=>if (ZL m≠[]/\m'=1)\/(if p=1 then [] else ZL p)=[49] then none else some (h,m')
    |_,_=>none)=_
   rw[hb,if_neg (WM m),X3 O];show (if _\/_ then none else some (p,m))=_
   rw[if_neg (fun h=>h.elim (fun h=>j h.2) J)]
theorem Zdv {l:List Nat}{p m:Nat}(h:Xv l=some (p,m)):l=wdP m p/\1<=m:=by
 obtain⟨c1,Y⟩:=Wv l;unfold Xv at h;by_cases O:(ZX l).2.1=false
 ·rw[if_pos O] at h
  split at h
  ·cases h
  ·rename_i m' e
   cases h;obtain⟨a,b⟩:=Wr e;refine⟨?_,b⟩;unfold wdP Vg;rw[if_pos rfl,if_pos rfl,aI];exact a
 ·rw[if_neg O] at h
  have O:(ZX l).2.1=true:=by simpa using O
  rw[if_pos O] at Y;generalize (ZX l).1=a at h c1 Y;generalize (ZX l).2.2=b at h Y;have hb:∀{x:Nat},(if b=[] then some 1 else Z7 b)=some x->b≠[49]->x≠0/\b=if x=1 then [] else ZL x:=fun {x} e j=>by
   split at e
   ·cases e;exact⟨by decide,by rw[if_pos rfl];assumption⟩
   ·obtain⟨J,e2⟩:=Wr e
    refine⟨by omega,?_⟩;rw[if_neg (fun z=>j (by rw[J,z];rfl))];exact J
  have ha:∀{x:Nat},(if a=[] then some 1 else Z7 a)=some x->¬(a≠[]/\x=1)->1<=x/\a=if x=1 then [] else ZL x:=fun {x} e j=>by
   split at e
   ·cases e;exact⟨by decide,by rw[if_pos rfl];assumption⟩
   ·rename_i j4
    obtain⟨J,e2⟩:=Wr e;refine⟨e2,?_⟩;rw[if_neg (fun z=>j ⟨j4,z⟩)];exact J
  split at h
  ·rename_i m' p' J e2
   split at h
   ·cases h
   ·rename_i j
    cases h;obtain⟨a1,a2⟩:=ha J (fun z=>j (.inl z));obtain⟨b1,b2⟩:=hb e2 (fun z=>j (.inr z));refine⟨?_,a1⟩;rw[Y,a2,b2];unfold wdP Vg;rw[if_neg b1,if_neg b1]
  ·cases h
noncomputable def brk (c:Nat):Bool:=c == 43 || c == 45
noncomputable def WL (l:List Nat):List Nat:=l.takeWhile fun c=>!brk c
noncomputable def tlw (l:List Nat):List Nat:=l.dropWhile fun c=>!brk c
theorem ZbH (l:List Nat):WL l++tlw l=l:=List.takeWhile_append_dropWhile
noncomputable def Vk (j:Bool)(c:Nat)(r:List Nat):Option (Int×List Nat):=if c=45 then some (-1,r) else if j=true then some (1,c::r) else if c=43 then some (1,r) else none
noncomputable def Xk (wide:Nat):Nat->Bool->Nat->List Int->List Nat->Option (List Int)
 |_,_,nx,f,[]=>if nx≠0 then some f else none
 |0,_,_,_,_::_=>none
 |n+1,fst,nx,f,c::r=>match Vk fst c r with
  |none=>none
  |some (j,rest)=>match Xv (WL rest) with
   |none=>none
   |some (p,m)=>if p<nx\/wide<=p then none else Xk wide n false (p+1) (f.set p (j*(m:Nat))) (tlw rest)
theorem Jj {f:List Int}{p:Nat}{z:Int}(J:p<f.length)(j:Nat):Yv (f.set p z) j=if j=p then z else Yv f j:=by
 unfold Yv;rw[Zb,List.getElem?_set,Zb];by_cases h:j=p
 ·rw[if_pos h,if_pos h.symm,if_pos J];rfl
 ·rw[if_neg h,if_neg (bC h)]
theorem J3:∀(j:List Int) (p:Nat) (acc:List Nat),(∀x∈j,x=0)->WC acc j p=acc
 | [],_,_,_=>rfl
 |k::r,p,acc,h=>by
  rw[Yz,if_pos (h k ah)];exact J3 r (p+1) acc fun x z=>h x (ae _ z)
theorem UF {xs:List Int}(z:List Nat){nx:Nat}:∀{d:Nat},nx+d<=xs.length->(∀j,nx<=j->j<nx+d->Yv xs j=0)->WC z (xs.drop nx) nx=WC z (xs.drop (nx+d)) (nx+d)
 |0,_,_=>rfl
 |d+1,h,J=>by
  rw[UF (d:=d) z (by omega) (fun j a b=>J j a (by omega)),W4 (i:=nx+d) (by omega),Yz,if_pos (J _ (by omega) (by omega))];rfl
theorem drop_zero {f:List Int}{nx:Nat}(h:∀j,nx<=j->Yv f j=0):∀x∈f.drop nx,x=0:=fun x J=>by
 obtain⟨i,z⟩:=fG J;rw[jk] at z;have:=h (nx+i) (by omega);unfold Yv at this;rw[Zb,z] at this;exact this
theorem ZeN {m:Nat}{j:Int}(h:j=1\/j=-1):(j*(m:Int)).natAbs=m:=by rcases h with rfl|rfl <;> omega
theorem UP {wide:Nat}:∀(n:Nat) (fst:Bool) (nx:Nat) (f:List Int) (l:List Nat) {xs:List Int},Xk wide n fst nx f l=some xs->f.length=wide->(∀j,nx<=j->Yv f j=0)->
  xs.length=wide/\(∀j,j<nx->Yv xs j=Yv f j)/\(∀Y:List Nat,(Y=[]↔fst=true)->WC Y (xs.drop nx) nx=Y++l)/\(l=[]->nx≠0)/\(l≠[]->∃j,Yv xs j≠0)
 |n,fst,nx,f,[],xs,h,hl,hz=>by
  unfold Xk at h;split at h
  ·cases h
   exact⟨hl,fun j _=>rfl,fun Y _=>by rw[J3 _ _ _ (drop_zero hz),aI],fun _=>by assumption,fun z=>absurd rfl z⟩
  ·cases h
 |0,fst,nx,f,c::r,xs,h,hl,hz=>by cases h
 |n+1,fst,nx,f,c::r,xs,h,hl,hz=>by
  unfold Xk at h;cases J:Vk fst c r with
  |none=>rw[J] at h;cases h
  |some y=>
   obtain⟨sg,rest⟩:=y;rw[J] at h;have h:(match Xv (WL rest) with|none=>none|some (p,m)=>if p<nx\/wide<=p then none else Xk wide n false (p+1) (f.set p (sg*(m:Nat))) (tlw rest))=some xs:=h
   cases ep:Xv (WL rest) with
   |none=>rw[ep] at h;cases h
   |some z=>
    obtain⟨p,m⟩:=z;rw[ep] at h;have h:(if p<nx\/wide<=p then none else Xk wide n false (p+1) (f.set p (sg*(m:Nat))) (tlw rest))=some xs:=h
    split at h
    ·cases h
    rename_i j9
    obtain⟨ew,m1⟩:=Zdv ep;have j6:p<f.length:=by omega
    obtain⟨i1,i2,i3,_,_⟩:=UP n false (p+1) (f.set p (sg*(m:Nat))) (tlw rest) h (by rw[cU];exact hl) (fun j hj=>by rw[Jj j6,if_neg (by omega)];exact hz j (by omega));have j8:sg=1\/sg=-1:=by
     unfold Vk at J;split at J
     ·cases J;exact .inr rfl
     split at J
     ·cases J;exact .inl rfl
     split at J
     ·cases J;exact .inl rfl
     ·cases J
    have hk:Yv xs p=sg*(m:Int):=by rw[i2 p (by omega),Jj j6,if_pos rfl]
    have j7:Yv xs p≠0:=by rw[hk];rcases j8 with rfl|rfl <;> omega
    refine⟨i1,fun j hj=>by rw[i2 j (by omega),Jj j6,if_neg (by omega)],fun Y ha=>?_,fun z=>(by cases z),fun _=>⟨p,j7⟩⟩;have j4:=UF (xs:=xs) Y (nx:=nx) (d:=p-nx) (by omega) (fun j a b=>by rw[i2 j (by omega),Jj j6,if_neg (by omega)];exact hz j a);rw[show nx+(p-nx)=p by omega] at j4;rw[j4,W4 (i:=p) (by omega),Yz,if_neg j7,i3 _ ⟨fun z=>absurd (fx.mp z).2 (Uv _ _),fun z=>by cases z⟩,Zao _ _ j7,hk,ZeN j8,<-ew];have O:=ZbH rest;unfold Vk at J;split at J
    ·rename_i hc
     cases J;rw[if_neg (fun z=>by omega),if_pos (by omega),aI,aw,aw,O,hc];rfl
    ·split at J
     ·rename_i hf
      cases J;rw[if_neg (fun z=>z.1 (ha.mpr hf)),if_neg (by omega),aI,br,aw,O]
     ·split at J
      ·rename_i hf hc
       cases J;rw[if_pos ⟨fun z=>hf (ha.mp z),by omega⟩,if_neg (by omega),br,aw,aw,O,hc];rfl
      ·cases J
noncomputable def shT:List Int->Nat->List Nat
 | [],_=>[]
 |k::r,p=>if k=0 then shT r (p+1) else (if k > 0 then [43] else [])++wd k p++shT r (p+1)
theorem Zbj:∀(J:List Int) (p:Nat) {acc:List Nat},acc≠[]->WC acc J p=acc++shT J p
 | [],_,_,_=>(aI _).symm
 |k::r,p,acc,h=>by
  rw[Yz];unfold shT;split
  ·exact Zbj r (p+1) h
  ·rw[Zbj r (p+1) (by simp[h])]
   by_cases j:k > 0
   ·rw[if_pos ⟨h,j⟩,if_pos j]
    simp only[aw]
   ·rw[if_neg (fun z=>j z.2),if_neg j]
    simp only[aw,br]
theorem Zbi:∀(j:List Int) (p:Nat),shT j p=[]\/∃c r,shT j p=c::r/\brk c=true
 | [],_=>.inl rfl
 |k::r,p=>by
  unfold shT;split
  ·exact Zbi r (p+1)
  ·rename_i z
   refine .inr ?_;by_cases h:k > 0
   ·rw[if_pos h]
    exact⟨43,_,rfl,rfl⟩
   ·rw[if_neg h,Zao _ _ z,if_pos (by omega)]
    exact⟨45,_,rfl,rfl⟩
theorem Ux (m p:Nat):∀c∈wdP m p,brk c=false:=fun c J=>by
 have j:c≠43/\c≠45:=by
  unfold wdP at J;rcases aD.mp J with h|h
  ·have O:bY (if p=0 then ZL m else if m=1 then [] else ZL m):=by
    split
    ·exact Z6 _
    ·split
     ·intro c J;cases J
     ·exact Z6 _
   have:=O c h;omega
  ·exact⟨fun z=>JS p (by decide) (by decide) (z▸h),fun z=>JS p (by decide) (by decide) (z▸h)⟩
 unfold brk;simp[j.1,j.2]
theorem Ziu {w t:List Nat}(hw:∀c∈w,brk c=false)(J:t=[]\/∃c r,t=c::r/\brk c=true):WL (w++t)=w/\tlw (w++t)=t:=by
 have j:∀c∈w,(!brk c)=true:=fun c z=>by rw[hw c z];rfl
 unfold WL tlw;rw[List.takeWhile_append_of_pos j,List.dropWhile_append_of_pos j];rcases J with rfl|⟨c,r,rfl,z⟩
 ·simp
 ·rw[fP,List.dropWhile_cons,z]
  simp
theorem ZcO (m p:Nat)(j:1<=m):wdP m p≠[]:=by
 intro z;have:=ZbC j p;rw[z] at this;exact absurd this (by unfold Xv Z7;simp[ZX,Wj])
theorem ZaT {wide:Nat}{xs:List Int}(hx:xs.length=wide):∀(d q n:Nat) (fst:Bool) (nx:Nat) (f:List Int) (acc l:List Nat),q+d=wide->nx<=q->f.length=wide->(∀j,j<nx->Yv f j=Yv xs j)->(∀j,nx<=j->Yv f j=0)->(∀j,nx<=j->j<q->Yv xs j=0)->
  (acc=[]↔fst=true)->WC acc (xs.drop q) q=acc++l->l.length<=n->(l=[]->nx≠0)->Xk wide n fst nx f l=some xs
 |0,q,n,fst,nx,f,acc,l,hq,hn,hf,h1,h2,h3,ha,O,hl,j8=>by
  rw[bH (by omega)] at O;have O:acc=acc++l:=O;have l0:l=[]:=by
   have:=congrArg eS O;rw[Zd] at this;exact iD.mp (by omega)
  subst l0;have ef:f=xs:=by
   refine jz fun j=>?_;have:Yv f j=Yv xs j:=by
    by_cases hj:j<nx
    ·exact h1 j hj
    ·rw[h2 j (by omega)]
     by_cases Y:j<q
     ·exact (h3 j (by omega) Y).symm
     ·unfold Yv
      rw[Zb,bV (by omega)];rfl
   unfold Yv at this;rw[Zb,Zb] at this;by_cases hj:j<wide
   ·rw[Zf (by omega),Zf (by omega)] at this ⊢
    exact congrArg some this
   ·rw[bV (by omega),bV (by omega)]
  cases n <;> (unfold Xk;rw[if_pos (j8 rfl),ef])
 |d+1,q,n,fst,nx,f,acc,l,hq,hn,hf,h1,h2,h3,ha,O,hl,j8=>by
  have l9:q<xs.length:=by omega
  rw[W4 l9,Yz] at O;by_cases hk:Yv xs q=0
  ·rw[if_pos hk] at O
   exact ZaT hx d (q+1) n fst nx f acc l (by omega) (by omega) hf h1 h2 (fun j a b=>by
    by_cases hj:j=q
    ·rw[hj];exact hk
    ·exact h3 j a (by omega)) ha O hl j8
  ·rw[if_neg hk] at O
   have j9:acc++(if acc≠[]/\Yv xs q > 0 then [43] else [])++wd (Yv xs q) q≠[]:=fun z=>absurd (fx.mp z).2 (Uv _ _)
   rw[Zbj _ _ j9] at O;have l7:1<=(Yv xs q).natAbs:=by omega
   have el:l=(if acc≠[]/\Yv xs q > 0 then [43] else [])++((if Yv xs q<0 then [45] else [])++(wdP (Yv xs q).natAbs q++shT (xs.drop (q+1)) (q+1))):=by
    rw[Zao _ _ hk] at O;simp only[aw] at O;exact (List.append_cancel_left O).symm
   obtain⟨c1,c2⟩:=Ziu (Ux (Yv xs q).natAbs q) (Zbi (xs.drop (q+1)) (q+1));have m3:=ZbC l7 q;have m4:∀J,(shT (xs.drop (q+1)) (q+1)).length<=J->Xk wide J false (q+1) (f.set q (Yv xs q)) (shT (xs.drop (q+1)) (q+1))=some xs:=fun J l8=>
    ZaT hx d (q+1) J false (q+1) (f.set q (Yv xs q)) (acc++(if acc≠[]/\Yv xs q > 0 then [43] else [])++wd (Yv xs q) q) _ (by omega) (Zq _) (by rw[cU];exact hf)
     (fun j hj=>by
      rw[Jj (by omega)];by_cases Y:j=q
      ·rw[if_pos Y,Y]
      ·rw[if_neg Y]
       by_cases m5:j<nx
       ·exact h1 j m5
       ·rw[h2 j (by omega),h3 j (by omega) (by omega)])
     (fun j hj=>by rw[Jj (by omega),if_neg (by omega)];exact h2 j (by omega)) (fun j a b=>by omega) ⟨fun z=>absurd z j9,fun z=>by cases z⟩ (Zbj _ _ j9) l8 (fun _=>by omega)
   have step:∀(J:Nat) (c:Nat) (r:List Nat) (sg:Int) (fst:Bool),Vk fst c r=some (sg,wdP (Yv xs q).natAbs q++shT (xs.drop (q+1)) (q+1))->sg*((Yv xs q).natAbs:Nat)=Yv xs q->(shT (xs.drop (q+1)) (q+1)).length<=J->Xk wide (J+1) fst nx f (c::r)=some xs:=fun J c r sg fst es e l8=>by
    unfold Xk;rw[es];show (match Xv (WL (wdP (Yv xs q).natAbs q++shT (xs.drop (q+1)) (q+1))) with|none=>none|some (p,m)=>if p<nx\/wide<=p then none else Xk wide J false (p+1) (f.set p (sg*(m:Nat))) (tlw (wdP (Yv xs q).natAbs q++shT (xs.drop (q+1)) (q+1))))=some xs
    rw[c1,m3,c2];show (if q<nx\/wide<=q then none else Xk wide J false (q+1) (f.set q (sg*((Yv xs q).natAbs:Nat))) (shT (xs.drop (q+1)) (q+1)))=some xs
    rw[if_neg (by omega),e];exact m4 J l8
   have lw:1<=(wdP (Yv xs q).natAbs q).length:=cP.mpr (ZcO _ _ l7);by_cases j7:Yv xs q<0
   ·rw[if_neg (fun z=>by omega),if_pos j7] at el
    rw[el] at hl ⊢;simp only[br,Zd,Zi,ax] at hl;obtain⟨J,rfl⟩:∃J,n=J+1:=⟨n-1,by omega⟩;exact step J 45 _ (-1) fst (by unfold Vk;rw[if_pos rfl];rfl) (by omega) (by omega)
   ·rw[if_neg j7] at el
    by_cases j6:acc=[]
    ·rw[if_neg (fun z=>z.1 j6)] at el
     have j4:=ha.mp j6;simp only[br] at el;rw[el] at hl ⊢;rw[Zd] at hl;obtain⟨J,rfl⟩:∃J,n=J+1:=⟨n-1,by omega⟩;cases e:wdP (Yv xs q).natAbs q with
     |nil=>exact absurd e (ZcO _ _ l7)
     |cons c r=>
      have hc:c≠45:=fun z=>by
       have:=Ux (Yv xs q).natAbs q c (by rw[e];exact ah);rw[z] at this;cases this
      refine step J c (r++shT (xs.drop (q+1)) (q+1)) 1 fst (by unfold Vk;rw[if_neg hc,if_pos j4,e];rfl) (by omega) (by omega)
    ·rw[if_pos ⟨j6,by omega⟩] at el
     have j4:fst=false:=by
      cases fst with
      |false=>rfl
      |true=>exact absurd (ha.mpr rfl) j6
     rw[el] at hl ⊢;simp only[br,Zd,Zi,ax] at hl;obtain⟨J,rfl⟩:∃J,n=J+1:=⟨n-1,by omega⟩;exact step J 43 _ 1 fst (by unfold Vk;rw[if_neg (by decide),j4,if_neg (by decide),if_pos rfl];rfl) (by omega) (by omega)
noncomputable def lrN (wide:Nat)(l:List Nat):Option (List Int):=if l=[48] then some (ag wide 0) else Xk wide l.length true 0 (ag wide 0) l
theorem ZbT (n j:Nat):Yv (ag n 0) j=0:=by
 unfold Yv;rw[Zb,cp];split <;> rfl
theorem Zdu {wide:Nat}{l:List Nat}{xs:List Int}(h:lrN wide l=some xs):xs.length=wide/\Wn xs=l:=by
 unfold lrN at h;split at h
 ·rename_i e
  cases h;refine⟨cF ..,?_⟩;unfold Wn;rw[if_pos (J3 _ _ _ fun x J=>(gh.mp J).2),e]
 ·obtain⟨O,_,Y,a4,a5⟩:=UP _ _ _ _ _ h (cF ..) (fun j _=>ZbT _ j)
  have:=Y [] ⟨fun _=>rfl,fun _=>rfl⟩;rw[br,dg] at this;refine⟨O,?_⟩;have hl:l≠[]:=fun z=>a4 z rfl;unfold Wn;rw[this,if_neg hl]
theorem ZgE {xs:List Int}:lrN xs.length (Wn xs)=some xs:=by
 by_cases O:WC [] xs 0=[]
 ·have Y:=VY xs 0 O
  unfold Wn lrN;rw[if_pos O,if_pos rfl];exact congrArg some Y.symm
 ·have J:=ZaT (xs:=xs) rfl xs.length 0 (WC [] xs 0).length true 0 (ag xs.length 0) [] (WC [] xs 0) (by omega) (Zq _) (cF ..) (fun j hj=>by omega) (fun j _=>ZbT _ j) (fun j a b=>by omega) ⟨fun _=>rfl,fun _=>rfl⟩ (by rw[dg,br]) (Zq _) (fun z=>absurd z O)
  unfold Wn lrN;rw[if_neg O];split
  ·rename_i e
   rw[e] at J;have:Xk xs.length [48].length true 0 (ag xs.length 0) [48]=none:=rfl;rw[this] at J;cases J
  ·exact J
theorem ZfA {wide:Nat}(h:1<=wide)(l:List Nat):lrN wide l=We wide l:=by
 have len:∀{j:List (List Nat)}{f g:List Int},putAll f j=some g->g.length=f.length:=fun {j}=>by
  induction j with
  |nil=>intro f g e;cases e;rfl
  |cons w j Y=>
   intro f g e;obtain⟨f',e1,z⟩:=XV e;rw[Y z,UI e1]
 cases e:lrN wide l with
 |some J=>
  obtain⟨a,b⟩:=Zdu e;rw[<-b,<-a];exact (Zf3 (by omega)).symm
 |none=>
  cases z:We wide l with
  |none=>rfl
  |some J=>
   obtain⟨a,b⟩:=XT z;have O:=len a;rw[Ze] at O;have:=ZgE (xs:=J);rw[O,b,e] at this;cases this
theorem XM (c:Nat):∀l:List Nat,(Z2 c l).length<=l.length+1/\∀w∈Z2 c l,w.length<=l.length
 | []=>⟨Zq 1,fun w j=>by rw[aq.mp j];exact aE _⟩
 |x::r=>by
  obtain⟨J,z⟩:=XM c r;unfold Z2;split
  ·refine⟨by rw[Zi,Zi];omega,fun w j=>?_⟩
   rcases aj.mp j with rfl|j
   ·exact aE _
   ·have:=z w j
    rw[Zi];omega
  ·cases e:Z2 c r with
   |nil=>exact absurd e (YM c r)
   |cons q O=>
    rw[e] at J z;refine⟨by rw[Zi] at J ⊢;rw[Zi];omega,fun w j=>?_⟩;rcases aj.mp j with rfl|j
    ·have:=z q ah
     rw[Zi,Zi];omega
    ·have:=z w (ae _ j)
     rw[Zi];omega
theorem Zba (l:List Nat):(Xp l).length<=2*l.length+1/\∀w∈Xp l,w.length<=2*l.length:=by
 obtain⟨J,j⟩:=XM 43 (rep l);have:=V3 l;exact⟨by unfold Xp;omega,fun w z=>aK (j w z) this⟩
theorem ZfH:∀(j:List Nat) (a:Nat),bY j->j.foldl (fun z c=>z*10+(c-48)) a<(a+1)*10 ^ j.length
 | [],a,_=>by simp
 |c::j,a,h=>by
  have:=h c ah;have J:=ZfH j (a*10+(c-48)) fun d O=>h d (ae _ O);show j.foldl _ (a*10+(c-48))<_;refine ak J ?_;rw[Zi,Nat.pow_succ,gD (10 ^ j.length) 10,<-Nat.mul_assoc];exact a8 _ (by omega)
theorem Uh {cs:List Nat}(h:bY cs):digitsVal cs<10 ^ cs.length:=by
 have:=ZfH cs 0 h;rw[Nat.zero_add,Nat.one_mul] at this;exact this
theorem Zf2 {w:List Nat}{k:Int}{p:Nat}(h:rdP w=some (k,p)):k.natAbs<10 ^ (w.length+1):=by
 unfold rdP at h;split at h
 ·rename_i O
  have Y:=(YA.mp O.1).2;have h1:=Uh Y;have hl:(Vs w).length<=w.length+1:=by
   rcases j:ZX w with ⟨a,z,b⟩;obtain⟨la,_⟩:=Uj j;have lo:(Wt w).length<=w.length:=by
    unfold Wt;rw[j];split
    ·rw[ao];show a.length-1<=_;omega
    ·exact la
   unfold Vs;by_cases J:(ZX w).2.1=true/\Wt w=[]
   ·rw[if_pos J,Zk];omega
   ·rw[if_neg J];omega
  have h2:10 ^ (Vs w).length<=10 ^ (w.length+1):=fM (by decide) hl;obtain⟨e1,_⟩:=iC (ay h);rw[<-e1];split <;> omega
 ·cases h
theorem Zbs {f g:List Int}{w:List Nat}(h:Y4 f w=some g){B D:Nat}(z:∀x∈f,x.natAbs<=B)(hw:10 ^ (w.length+1)<=D):∀x∈g,x.natAbs<=B+D:=by
 by_cases J:w=[]
 ·unfold Y4 at h
  rw[if_pos J] at h;cases h;exact fun x j=>aK (z x j) (gU _ _)
 ·obtain⟨k,p,e,O,rfl⟩:=Zeo h J
  intro x j;rcases List.mem_or_eq_of_mem_set j with j|rfl
  ·exact aK (z x j) (gU _ _)
  ·have Y:=z _ (Uk O)
   have h2:=Zf2 e;have:=Int.natAbs_add_le (Yv f p) k;omega
end Tx
namespace C63
open PySem L2 PySem.Spec PyProof.Rows PySem.NumText
open Tx Pm
noncomputable def Zc2 (c:Nat->Ec):Sp:=fun J H Q E=>∃(n:Nat) (l:List Nat),J=[.int n,.str (tx l)]/\1<=n/\n<=60/\YX l/\l.length<=200/\(∀z,We (N63.YN n).toNat l=some z->∀r j,Zx H j->j r=some (.tup (z.map V.int))->Q (.ref r) j)/\(We (N63.YN n).toNat l=none->∀j,Zx H j->E (.ref (c 10).C) none j)
section
variable {P:Program}{w:World}{K:ac}{mg:Str->Option Value}{base:Heap}{T U:Addr}{et:Array DictEntry}{c:Nat->Ec}
theorem Zgp {f:Addr}{fd:FuncData}(F:WT K "read_number" "read_number" ZhJ f fd)(B:N63.Bl mg)(S:Cs K mg T U et c)(hI:K.In base)(m8:Fn P w K mg base YD 2 "places" ["n"] N63.UE)(GR:Fn P w K mg base YD 2 "read_place" ["word"] Zfr)(GS:Fn P w K mg base YD 2 "shown_number" ["one"] (Zfq K)):Z8 P w K mg base (CXE P w) 3 f fd ["n", "text"] (Zc2 c):=by
 obtain⟨oc,od,kV,doc,pm,an,p0,p6,p7,rfl,lk,m9⟩:=F.ex;refine ZdM lk m9 (FS (N:=["n", "text", "found", "word", "place"])) (fun vs H Q E h=>?_) fun A n4 s H vs Q E hr h=>?_
 ·obtain⟨n,l,rfl,_⟩:=h;rfl
 ·obtain⟨n,l,rfl,n1,m4,ha,hl,q,qE⟩:=h
  have two:PyX.Jm base (c 10).C (c 10).N T U PyX.Y9 (nsFind (c 10).es) (nsFind et):=(S.ok 10 (by decide)).two S.tb hI;refine⟨_,Zb7 ZeX (ZJ 2 rfl (ZD Zdm (Z3 (pc Zu Zs)) (Wc m8 hr ZU (pc (vn 0) Zs))))
   (Zb6 (Zep iF rfl (Zje K (Zgh aQ bp bP Wq (Zev (vn 1)) (pc ZA Zs))) (gn 3)
   (Zw (ZQ (Zy Y7 (vn 3) ZA (Zz _)) (Zt (ZJ 4 rfl (Wc GR hr ZU (pc (vn 3) Zs)))
   (Zt (ZQ (YJ (Zy Js (vn 4) Yd (Zz _)) (Wf (Zy Zbw (ZP (Vl K) (vn 4) Zu (fun _ _=>rfl)) (cb (Ws K) B.len (pc (vn 2) Zs)) (Zz _)))).pt (Zw (VB rfl two (S.pl 10 (by decide) (by decide)) fVE (YU (by kernel_rfl)) (S.mgC 10 (by decide)) (S.ok 10 (by decide)).c.kp (pc ZA Zs) YK (by kernel_rfl))) ZE)
   (Zw (Zeq (vn 2) (ZP (Vl K) (vn 4) Zu (fun _ _=>rfl)) ZdI (ZP (Vl K) (vn 4) Zu (fun _ _=>rfl)) ZdB UG)))) ZE)))
   (Zt (ZQ (Zy Y7 (Wc GS hr ZU (pc (vn 2) Zs)) (vn 1) (Zz _)) (Zw (VB rfl two (S.pl 10 (by decide) (by decide)) fVE (YU (by kernel_rfl)) (S.mgC 10 (by decide)) (S.ok 10 (by decide)).c.kp (pc ZA Zs) YK (by kernel_rfl))) ZE)
   (Zw (ZF (ct (tupK K) B.tuple (pc (vn 2) Zs)))))),?_⟩
  obtain⟨_,_,_,p1,p8⟩:=N63.J5 n1 m4;have hz:(16777216:Nat)=sizeLine:=by decide
  obtain⟨wc,wl⟩:=Zba l;have n5:putAll (ag (N63.YN n).toNat 0) (Xp l)=none->We (N63.YN n).toNat l=none:=fun e=>by unfold We;rw[e]
  refine⟨(by show 1<=sizeLine;decide),fun l0 n0=>?_⟩;have s0:Zx H _:=Zx.upd (o:=.lst [.int 0]) n0;refine⟨_,rfl,n,rfl,n1,m4,fun H1 s1=>?_⟩;refine⟨l0,_,_,rfl,rfl,s1 _ _ Zv,by omega,by omega,?_,fun L nL=>?_⟩
  ·show 1*_<=sizeLine
   omega
  rw[Zf0];have n8:H L=none:=(s0.trans s1).free nL;have s2:=(s0.trans s1).trans (Zx.upd (o:=.lst ((ag (N63.YN n).toNat (0:Int)).map V.int)) nL);have j6:=Zv (H:=H1) (a:=L) (o:=.lst ((ag (N63.YN n).toNat (0:Int)).map V.int));generalize upd H1 L (.lst ((ag (N63.YN n).toNat (0:Int)).map V.int))=H2 at s2 j6 ⊢;refine⟨_,rfl,tx l,rfl,by decide +kernel,by rw[ZC,Zef,ZC];show l.length+(l.length+1)*2<=_;omega,rfl,_,_,rfl,rfl,by decide +kernel,?_,fun W nW=>⟨W,rfl,⟨_,.of Zv⟩,?_⟩⟩
  ·rw[t_m,Zef,show tx [45]=(⟨#[45]⟩:Str) from rfl,show tx [43,45]=(⟨#[43,45]⟩:Str) from rfl,Zbp,ZC]
   have:=V3 l;omega
  rw[t_m,Zef,t_p,show tx [45]=(⟨#[45]⟩:Str) from rfl,show tx [43,45]=(⟨#[43,45]⟩:Str) from rfl,Zbp,show tx [43]=(⟨#[43]⟩:Str) from rfl,Zb1];have l7:=Zv (H:=H2) (a:=W) (o:=.lst (((Z2 43 (rep l)).map tx).map V.str));have s3:=Zx.upd (H:=H2) (o:=.lst (((Z2 43 (rep l)).map tx).map V.str)) nW;have m5:=s3 _ _ j6;have n9:L≠W:=fun z=>by rw[z,nW] at j6;cases j6
  generalize upd H2 W (.lst (((Z2 43 (rep l)).map tx).map V.str))=H3 at l7 s3 m5 ⊢;rw[a7] at l7;refine ZdK (K:=K) (xs:=(Xp l).map (V.str ∘ tx)) (fun i j7 H'=>∃(j:List Int) (v3 v4:Option V),j7=[some (.int n),some (.str (tx l)),some (.ref L),v3,v4]/\Zx H H'/\H' W=some (.lst ((Xp l).map (V.str ∘ tx)))/\H' L=some (.lst (j.map V.int))/\j.length=(N63.YN n).toNat/\putAll j ((Xp l).drop i)=putAll (ag (N63.YN n).toNat 0) (Xp l)/\∀x∈j,x.natAbs<=i*10 ^ 401)
   ⟨_,_,_,rfl,s2.trans s3,l7,m5,by rw[Ze],rfl,fun x hx=>by rw[(gh.mp hx).2];exact aE _⟩ (fun i j7 H' _ h=>by obtain⟨_,_,_,_,_,h,_⟩:=h;exact .of h) ?_ ?_
  ·rintro i y j7 H' hy ⟨j,v3,v4,rfl,sm,hW,hL,l8,O,j4⟩
   obtain⟨Y,m6,rfl⟩:∃Y,(Xp l)[i]?=some Y/\y=V.str (tx Y):=by
    rw[Zc] at hy;cases e:(Xp l)[i]? with
    |none=>rw[e] at hy;cases hy
    |some r=>rw[e] at hy;exact⟨r,rfl,(ay hy).symm⟩
   have j9:=aN m6;obtain⟨o4,o5⟩:=aH.mp m6;rw[bJ o4,o5] at O;have p9:=wl _ j9;have o6:10 ^ (Y.length+1)<=10 ^ 401:=fM (by decide) (by omega);refine⟨_,rfl,rfl,_,rfl,?_⟩;rw[t_e,Y8];refine ZO (fun J=>?_) (fun J=>?_)
   ·have J:Y≠[]:=by simpa using J
    have m7:Y4 j Y=none->We (N63.YN n).toNat l=none:=fun e=>n5 (by rw[<-O];unfold Tx.putAll;rw[e]);refine⟨_,rfl,Y,rfl,Zfe ha _ j9,by omega,(fun en H4 s4=>?_),fun k p hk r H4 s4 hr=>?_⟩
    ·refine⟨_,rfl,rfl,_,rfl,?_⟩
     refine YF ?_;refine YF ?_;exact⟨(by show 1<=sizeLine;decide),qE (m7 (by unfold Y4;rw[if_neg J,en])) H4 (sm.trans s4)⟩
    have l9:=s4 _ _ hL;refine⟨_,rfl,rfl,_,rfl,?_⟩;refine Yg (fun z=>by cases of_decide_eq_true z) ?_;refine⟨_,rfl,r,_,_,_,rfl,rfl,.of hr,rfl,_,rfl,L,_,rfl,.inl (.of l9),_,_,rfl,rfl,_,rfl,?_⟩;rw[Za];refine ZO (fun z=>?_) (fun z=>?_)
    ·have o8:¬p<j.length:=by have:=of_decide_eq_true z;omega
     exact⟨(by show 1<=sizeLine;decide),qE (m7 (by unfold Y4;rw[if_neg J,hk];show (if p<j.length then _ else none)=_;rw[if_neg o8])) H4 (sm.trans s4)⟩
    have hp:p<j.length:=by
     have:=fun h=>z (decide_eq_true h);have:¬((j.length:Int)<=(p:Int)):=this;omega
    have ep:Y4 j Y=some (j.set p (Yv j p+k)):=by unfold Y4;rw[if_neg J,hk];show (if p<j.length then _ else none)=_;rw[if_pos hp]
    have m3:putAll (j.set p (Yv j p+k)) ((Xp l).drop (i+1))=putAll (ag (N63.YN n).toNat 0) (Xp l):=by
     rw[<-O];show _=(match Y4 j Y with|none=>none|some g=>Tx.putAll g ((Xp l).drop (i+1)))
     rw[ep]
    refine⟨_,rfl,_,rfl,r,_,_,_,rfl,rfl,.of hr,rfl,L,_,p,.int (Yv j p),rfl,rfl,l9,ZbJ hp,_,rfl,r,_,_,_,rfl,rfl,.of hr,rfl,_,_,rfl,rfl,L,_,_,p,rfl,rfl,l9,?_,?_⟩
    ·rw[Za];exact UT hp
    ·refine⟨j.set p (Yv j p+k),_,_,rfl,(sm.trans s4).updr n8,?_,?_,?_,m3,?_⟩
     ·rw[ZB n9.symm];exact s4 _ _ hW
     ·rw[Zv,List.map_set]
     ·rw[cU];exact l8
     ·have:=Zbs ep j4 o6
      rw[dW];exact this
   ·have J:Y=[]:=by simpa using J
    have m3:putAll j ((Xp l).drop (i+1))=putAll (ag (N63.YN n).toNat 0) (Xp l):=by
     rw[<-O,J];rfl
    exact⟨j,_,_,rfl,sm,hW,hL,l8,m3,fun x hx=>aK (j4 x hx) (a8 _ (de i))⟩
  ·rintro j7 H' ⟨j,v3,v4,rfl,sm,hW,hL,l8,O,j4⟩
   rw[Za] at O j4;rw[dA] at O;have O:some j=_:=O;have o9:∀x∈j,x.natAbs<10 ^ 500:=fun x hx=>by
    have h1:=j4 x hx;have h2:(Xp l).length*10 ^ 401<=401*10 ^ 401:=a8 _ (by omega);have h3:401*10 ^ 401<10 ^ 500:=by decide +kernel
    omega
   refine⟨_,rfl,L,_,rfl,.inl (.of hL),o9,by omega,fun H4 s4=>?_⟩;refine⟨_,rfl,rfl,_,rfl,?_⟩;rw[Y8];have j8:We (N63.YN n).toNat l=if Wn j=l then some j else none:=by unfold We;rw[<-O]
   refine ZO (fun J=>?_) (fun J=>?_)
   ·have J:¬Wn j=l:=by simpa using J
    rw[if_neg J] at j8;exact⟨(by show 1<=sizeLine;decide),qE j8 H4 (sm.trans s4)⟩
   ·have J:Wn j=l:=by simpa using J
    rw[if_pos J] at j8;exact⟨_,rfl,L,_,rfl,.inl ⟨.of (s4 _ _ hL),fun r nr=>q j j8 r _ ((sm.trans s4).trans (Zx.upd nr)) Zv⟩⟩
end
end C63
namespace L2
open PySem PySem.Spec PyProof.Rows
open PySem.Builtin PySem.Builtin.Str
section
variable {X:Cx}
theorem Zdr:MtR X "str.index" (fun x xs H Q=>∃a b i r,x=.str a/\xs=[.str b]/\occurrences a b 0 a.length 1=i::r/\Q (.int (i:Nat)) H):=by
 intro j s σ H x xs v us Q I z J h;obtain⟨a,b,i,r,rfl,rfl,O,q⟩:=h;obtain⟨t,rfl⟩:=z;obtain⟨u,rfl,Y,rfl⟩:=vals1 J;exact call_gives jb (b8 _ _ _) F.entry_str_index (F.args_str_index_2 _ _) (gives_str_index a b t Y i r O) ⟨.int i,H,I.tok _,⟨_,rfl⟩,q⟩
end
end L2
namespace Tx
open PySem L2 PySem.Spec PyProof.Rows PySem.NumText
open PySem.Builtin.Str
theorem Zik {a b:List Nat}(h:122∉a):∃r,occurrences (tx (a++122::b)) (tx [122]) 0 (tx (a++122::b)).length 1=a.length::r:=by
 have j:StrLaws.At (tx (a++122::b)) ⟨#[122]⟩ (tx (a++122::b)).length a.length:=(bX _ _ _).mpr (by
  rw[ZY,aP (Zq _),dX];rfl)
 rcases gm (tx (a++122::b)) ⟨#[122]⟩ 1 (Zq _) with ⟨_,J⟩|⟨i,r,e,O,hm⟩
 ·exact absurd j (J _)
 ·have Y:i=a.length:=by
   rcases jJ i a.length with z|z|z
   ·have:=(bX _ _ _).mp O
    rw[ZY,a6 z] at this;exact absurd (aN this) h
   ·exact z
   ·exact absurd j (hm _ z)
  rw[Y] at e;exact⟨r,e⟩
theorem ZgM (c:Nat)(l:List Nat):(!(occurrences (tx l) (tx [c]) 0 (tx l).length 1).isEmpty)=decide (c∈l):=fU (tx l) c
theorem ZfU (l:List Nat){a b:Nat}(h:a<=b)(hb:b<=l.length):db (tx l) (some (a:Int)) (some (b:Int))=tx ((l.drop a).take (b-a)):=by
 have:=StrLaws.sliceText_plain (x:=tx l) (i:=(a:Int)) (j:=(b:Int)) ⟨by omega,by omega,by rw[ZY];omega⟩;refine (show db (tx l) (some (a:Int)) (some (b:Int))=fS (tx l) (some (a:Int)) (some (b:Int)) from rfl).trans (this.trans ?_);rw[ZY,Zj,show ((b:Int)-(a:Int)).toNat=b-a by omega];rfl
theorem ZhD (l:List Nat){b:Nat}(hb:b<=l.length):db (tx l) none (some (b:Int))=tx (l.take b):=by
 have:=StrLaws.sliceText_to (x:=tx l) (j:=(b:Int)) ⟨by omega,by rw[ZY];omega⟩;refine (show db (tx l) none (some (b:Int))=fS (tx l) none (some (b:Int)) from rfl).trans (this.trans ?_);rw[ZY,show ((b:Int)-0).toNat=b by omega,dg];rfl
end Tx
namespace C63
open PySem L2 PySem.Spec PyProof.Rows PySem.NumText
open Tx Pm
noncomputable abbrev ZhQ:Stmt:=top 38
noncomputable abbrev ZhK:Stmt:=top 39
noncomputable def Zbf:Sp:=fun z H Q _=>∃l,z=[.str (tx l)]/\YX l/\l.length<=640/\(Z7 l=none->∀j,Zx H j->Q .non j)/\∀m:Nat,Z7 l=some m->∀j,Zx H j->Q (.int (m:Nat)) j
noncomputable def Zfs:Sp:=fun z H Q _=>∃l,z=[.str (tx l)]/\YX l/\l.length<=640/\(Xv l=none->∀j,Zx H j->Q .non j)/\∀h m:Nat,Xv l=some (h,m)->∀r j,Zx H j->j r=some (.tup [.int (h:Nat),.int (m:Nat)])->Q (.ref r) j
noncomputable def ndV:V->Bool
 | .str s=>!(s.cps.toList.all fun c=>decide (48<=c) && decide (c<=57))
 |_=>false
theorem ZhC:∀c,c<128->cm (.str ⟨#[c]⟩)=true:=by decide +kernel
theorem Zbr {K:ac}{H:Hp}:∀j:List Nat,Y3 K H (j.map fun c=>V.str ⟨#[c]⟩) (j.map fun c=>du ⟨#[c]⟩)
 | []=>.nil
 |c::j=>.cons (.str _) (Zbr j)
theorem Ze4 (l:List Nat):((l.map fun c=>V.str ⟨#[c]⟩).filter ndV).map (fun y=>y)=(l.filter fun c=>!(decide (48<=c) && decide (c<=57))).map fun c=>V.str ⟨#[c]⟩:=by
 rw[gv,g8];congr 1;refine List.filter_congr fun c _=>?_;show (!([c].all _))=_;rw[f8,gx,dG]
noncomputable def vO:Option Nat->V
 |none=>.non
 |some m=>.int (m:Nat)
noncomputable def ZfP:TS:=Vm (Zau (tOr (Wl (Xi (fun x y H Q=>y=V.non/\Q (V.bl (decide (x=V.non))) H) (Yq 1) (tC V.non))) (tOr (Wl (Xi (fun x y H Q=>y=V.non/\Q (V.bl (decide (x=V.non))) H) (Yq 3) (tC V.non)))
  (tOr (ZfQ (Wl (Xi (rI0 fun i j=>V.bl (decide (j<i))) (Yq 2) (tC (V.int 0)))) (Wl (Xi rEq (Yq 1) (tC (V.int 1))))) (Wl (Xi rEq (tSl Zdc (Yq 0) (XH (Xi (rI0 fun i j=>V.int (i+j)) (Yq 2) (tC (V.int 1)))) WB) (tC (V.str (ar "1"))))))))
  (Vn (tC V.non)) XI) (Vn (ZbZ (Yw (Yq 3) (Yw (Yq 1) Jl))))
noncomputable def ZiV:TS:=Vm (Vo (tIf (Wl (Xi rEq (tSl Zdc (Yq 0) (XH (Xi (rI0 fun i j=>V.int (i+j)) (Yq 2) (tC (V.int 1)))) WB) (tC (V.str (ar ""))))) (tC (V.int 1))
  (XJ Zbf [] E0 (Yw (tSl Zdc (Yq 0) (XH (Xi (rI0 fun i j=>V.int (i+j)) (Yq 2) (tC (V.int 1)))) WB) Jl))) (Ye 3)) ZfP
theorem ZfV {l a b:List Nat}(e:l=a++122::b):db (tx l) (some (((a.length:Nat):Int)+1)) none=tx b:=by
 have:=Zbh l (i:=a.length+1) (by rw[e,Zd,Zi];omega);rw[Int.natCast_add] at this;refine this.trans ?_;rw[e,gJ,bH (de _),show a.length+1-a.length=1 by omega];rfl
theorem Zgi {l a b:List Nat}{A B:Option Nat}{D:YH}{H:Hp}(e:l=a++122::b)(hl:l.length<=640)(qn:(∀m h,A=some m->B=some h->(a≠[]/\m=1)\/b=[49])->D.rt .non H)
  (qs:∀m h,A=some m->B=some h->¬((a≠[]/\m=1)\/b=[49])->∀r H',Zx H H'->H' r=some (.tup [.int (h:Nat),.int (m:Nat)])->D.rt (.ref r) H') :
  ZfP D [some (.str (tx l)),some (vO A),some (.int (a.length:Nat)),some (vO B)] H:=by
 have hz:(16777216:Nat)=sizeLine:=by decide
 refine⟨_,rfl,rfl,_,rfl,?_⟩;cases A with
 |none=>
  refine YF ?_;exact YF (qn fun m h z=>by cases z)
 |some m=>
  refine Yg (fun z=>by cases of_decide_eq_true z) ?_;refine⟨_,rfl,rfl,_,rfl,?_⟩;cases B with
  |none=>
   refine YF ?_;exact YF (qn fun m h _ z=>by cases z)
  |some h=>
   refine Yg (fun z=>by cases of_decide_eq_true z) ?_;refine⟨_,rfl,_,_,rfl,rfl,_,rfl,?_⟩;have J:¬(a≠[]/\m=1)->Wl (Xi rEq (tSl Zdc (Yq 0) (XH (Xi (rI0 fun i j=>V.int (i+j)) (Yq 2) (tC (V.int 1)))) WB) (tC (V.str (ar "1")))) [some (.str (tx l)),some (.int (m:Nat)),some (.int (a.length:Nat)),some (.int (h:Nat))] H (fun b H1=>if b=true then Vn (tC V.non) {D with nx:=Vn (ZbZ (Yw (Yq 3) (Yw (Yq 1) Jl))) D} [some (.str (tx l)),some (.int (m:Nat)),some (.int (a.length:Nat)),some (.int (h:Nat))] H1 else XI {D with nx:=Vn (ZbZ (Yw (Yq 3) (Yw (Yq 1) Jl))) D} [some (.str (tx l)),some (.int (m:Nat)),some (.int (a.length:Nat)),some (.int (h:Nat))] H1):=fun h1=>by
    refine⟨_,rfl,_,rfl,_,_,rfl,rfl,_,rfl,tx l,rfl,by rw[ZC];omega,?_⟩;rw[ZfV e];refine⟨rfl,_,rfl,?_⟩;rw[t_1,Y8];refine ZO (fun Y=>?_) (fun Y=>?_)
    ·exact qn fun m' h' _ _=>.inr (by simpa using Y)
    ·have Y:¬b=[49]:=by simpa using Y
     refine⟨_,rfl,_,rfl,(by show 2<=sizeLine;decide),fun r nr=>?_⟩;exact qs m h rfl rfl (fun z=>z.elim h1 Y) r _ (Zx.upd nr) Zv
   refine ZO (fun O=>?_) (fun O=>?_)
   ·have O:a≠[]:=fun z=>by rw[z] at O;exact absurd O (by decide)
    refine⟨_,rfl,rfl,_,rfl,?_⟩;by_cases hm:m=1
    ·rw[show decide (vO (some m)=V.int 1)=true from decide_eq_true (by rw[hm];rfl)]
     refine YF ?_;exact YF (qn fun m' h' e1 _=>by cases e1;exact .inl ⟨O,hm⟩)
    ·rw[show decide (vO (some m)=V.int 1)=false from decide_eq_false (fun z=>hm (by have:V.int ((m:Nat):Int)=V.int 1:=z;have:=V.int.inj this;omega))]
     refine Yg (by decide) ?_;exact J fun z=>hm z.2
   ·refine Yg (by decide) ?_
    exact J fun z=>O (decide_eq_true (by have:=cP.mpr z.1;show (0:Int)<(a.length:Int);omega))
theorem ZfD {l a b:List Nat}(j:ZX l=(a,false,b)):(Z7 l=none->Xv l=none)/\∀m,Z7 l=some m->Xv l=some (0,m):=
 ⟨fun e=>by unfold Xv;rw[j,if_pos rfl,e],fun m e=>by unfold Xv;rw[j,if_pos rfl,e]⟩
theorem ZfC {l a b:List Nat}{A B:Option Nat}(z:ZX l=(a,true,b))(J:A=if a=[] then some 1 else Z7 a)(O:B=if b=[] then some 1 else Z7 b) :
  ((∀m h,A=some m->B=some h->(a≠[]/\m=1)\/b=[49])->Xv l=none)/\∀m h,A=some m->B=some h->¬((a≠[]/\m=1)\/b=[49])->Xv l=some (h,m):=by
 unfold Xv;rw[z,if_neg (by simp)];simp only;rw[<-J,<-O];refine⟨fun j=>?_,fun m h Y e2 j=>?_⟩
 ·cases A with
  |none=>rfl
  |some m=>
   cases B with
   |none=>rfl
   |some h=>
    simp only;rw[if_pos (j m h rfl rfl)]
 ·rw[Y,e2]
  simp only;rw[if_neg j]
section
variable {P:Program}{w:World}{K:ac}{mg:Str->Option Value}{base:Heap}
theorem Zgw {f:Addr}{fd:FuncData}(F:WT K "_law_figures" "_law_figures" ZhQ f fd)(T:N63.Bl mg):Z8 P w K mg base YD 1 f fd ["_law_text"] Zbf:=by
 refine F.ok (FS (N:=["_law_text"])) (fun vs H Q E h=>?_) (fun j8 A j4 s H vs Q E hr h=>?_)
 ·obtain⟨l,rfl,_⟩:=h;rfl
 ·obtain⟨l,rfl,ha,hl,qn,qs⟩:=h
  refine⟨_,Zt (ZQ (YJ (Zy Z1 (vn 0) ZA (Zz _)) (YJ (Zy (neC K hr.units) (cmp ["_law_sign"] [] ["_law_sign"] rfl (Zdg (vn 0)) (fun _ _ _ _ _=>gn 0) (fun _ _ _ _ _=>V7 (Zy WH (vn 0) ZA (by rfl))) (fun _ _ _ _ _=>vn 0)) (Z3 Zs) (Zz _)) (Wf (Zy Z1 (ZP Uf (vn 0) Zu (fun _ _=>rfl)) ZA (Zz _))))).pt (Zw (ZF Yd)) ZE)
   (Zw (ZF (ct Wz T.int (pc (vn 0) Zs)))),?_⟩
  have hz:(16777216:Nat)=sizeLine:=by decide
  refine⟨_,rfl,rfl,_,rfl,?_⟩;rw[t_e,Y8];refine ZO (fun J=>?_) (fun J=>?_)
  ·have J:l=[]:=by simpa using J
   exact qn (by rw[J];rfl) H (Zx.refl _)
  have J:l≠[]:=by simpa using J
  refine⟨_,rfl,_,rfl,ZbX ha,?_⟩;refine Xc (Zbl (tx l)) [] rfl ndV (fun y=>y) (by rw[Za];show l.length<=_;omega) (fun i x H' hx s' R R' g1 g2=>?_) (fun D H1 nD s1 hD=>?_)
  ·rw[Zc] at hx
   cases e:(tx l).cps.toList[i]? with
   |none=>rw[e] at hx;cases hx
   |some c=>
    rw[e] at hx;cases hx;refine⟨_,rfl,_,_,rfl,rfl,_,rfl,?_⟩;rw[t_d,ZdC];have eb:ndV (V.str ⟨#[c]⟩) = !(decide (48<=c) && decide (c<=57)):=by
     show (!([c].all _))=_;rw[f8,gx,dG]
    refine ZO (fun b1=>?_) (fun b1=>?_)
    ·exact⟨_,rfl,g1 (by rw[<-b1];exact eb) H' (Zx.refl _)⟩
    ·exact g2 (by rw[show ndV _=_ from eb];simpa using b1) H' (Zx.refl _)
  ·rw[Ze4,show (tx l).cps.toList=l from rfl] at hD
   refine⟨(by show 0<=sizeLine;omega),fun D2 j6=>?_⟩;have s2:=Zx.upd (H:=H1) (o:=.lst []) j6;refine⟨.list ((l.filter fun c=>!(decide (48<=c) && decide (c<=57))).map fun c=>du ⟨#[c]⟩),.list [],.lst (.of (s2 _ _ hD)) (Zbr _),.lst (.of Zv) .nil,?_,by decide +kernel,_,rfl,?_⟩
   ·refine N63.Xu fun d hd=>?_
    obtain⟨c,hc,rfl⟩:=aV.mp hd;have:=ha c (gZ.mp hc).1;exact⟨ZhC c this,aE _⟩
   rw[N63.ZaZ];have O:=s1.trans s2;refine ZO (fun Y=>?_) (fun Y=>?_)
   ·refine YF ?_
    refine qn ?_ _ O;unfold Z7;rw[if_neg];rintro⟨hf,_⟩;have hd:=(YA.mp hf).2;have:(l.filter fun c=>!(decide (48<=c) && decide (c<=57)))=[]:=iJ.mpr fun c hc=>by
     have:=hd c hc;simp[this.1,this.2]
    rw[this] at Y;cases Y
   ·have hd:bY l:=fun c hc=>by
     have Y:(l.filter fun c=>!(decide (48<=c) && decide (c<=57)))=[]:=by simpa using Y
     have:=iJ.mp Y c hc;simpa using this
    have j7:Wj l=true:=YA.mpr ⟨J,hd⟩;obtain⟨c0,r0,e0⟩:=bU J;refine⟨_,rfl,tx l,0,c0,rfl,rfl,by rw[ZC];omega,by rw[ZY,e0];exact ZT (j:=0) rfl,rfl,_,rfl,?_⟩;rw[t_0,show (⟨#[c0]⟩:Str)=tx [c0] from rfl,Y8];refine ZO (fun h2=>?_) (fun h2=>?_)
    ·refine qn ?_ _ O
     unfold Z7;rw[if_neg];rintro⟨_,hh⟩;have:c0=48:=by simpa using h2
     rw[e0,this] at hh;exact hh rfl
    ·refine⟨_,rfl,tx l,_,rfl,hl,eY (x:=tx l) hd J (by rw[ZC];omega),?_⟩
     refine qs (digitsVal l) ?_ _ O;have hh:l.head?≠some 48:=fun z=>h2 (by
      rw[e0] at z;rw[show c0=48 from ay z];decide)
     unfold Z7;rw[if_pos ⟨j7,hh⟩]
theorem Zgq {f:Addr}{fd:FuncData}(F:WT K "_law_piece" "_law_piece" ZhK f fd)(T:N63.Bl mg)(GF:Fn P w K mg base YD 1 "_law_figures" ["_law_text"] Zbf):Z8 P w K mg base YD 2 f fd ["_law_text"] Zfs:=by
 refine F.ok (FS (N:=["_law_text", "_law_many", "_law_at", "_law_high"])) (fun vs H Q E h=>?_) (fun j9 A j6 s H vs Q E hr h=>?_)
 ·obtain⟨l,rfl,_⟩:=h;rfl
 ·obtain⟨l,rfl,ha,hl,qn,qs⟩:=h
  refine⟨_,Zt (ZQ (Zy WH ZA (vn 0) (by rfl)) (Zt (ZJ 1 rfl (Wc GF hr ZU (pc (vn 0) Zs)))
   (Zw (ZF (Z5 (Zy Js (vn 1) Yd (Zz _)) Yd (Y5 (pc Zu (pc (vn 1) Zs))))))) ZE)
   (Zt (ZJ 2 rfl (Y6 aQ jb PySem.F.type_str_index Zdr (vn 0) (pc ZA Zs)))
   (Zt (ZJ 1 rfl (Z5 (Zy Z1 (vn 2) Zu (Zz _)) Zu (Wc GF hr ZU (pc (ZG JZ (vn 0) ZM (ZK (vn 2))) Zs))))
   (Zt (ZJ 3 rfl (Z5 (Zy Z1 (ZG JZ (vn 0) (ZK (ZD Z9 (vn 2) Zu)) ZM) ZA (Zz _)) Zu (Wc GF hr ZU (pc (ZG JZ (vn 0) (ZK (ZD Z9 (vn 2) Zu)) ZM) Zs))))
   (Zt (ZQ (YJ (Zy Js (vn 1) Yd (Zz _)) (YJ (Zy Js (vn 3) Yd (Zz _)) (YJ (WF (Zy Wo (vn 2) Zu (Zz _)) (Y0 (Zy Z1 (vn 1) Zu (Zz _)))).pt (Wf (Zy Z1 (ZG JZ (vn 0) (ZK (ZD Z9 (vn 2) Zu)) ZM) ZA (Zz _)))))).pt (Zw (ZF Yd)) ZE)
   (Zw (ZF (Y5 (pc (vn 3) (pc (vn 1) Zs))))))))),?_⟩
  have hz:(16777216:Nat)=sizeLine:=by decide
  rcases hc:ZX l with ⟨a,z,b⟩;obtain⟨c1,j⟩:=Wv l;rw[hc] at c1 j;refine⟨_,rfl,_,_,rfl,rfl,_,rfl,?_⟩;rw[t_z,ZgM];cases z
  ·have j:l=a:=j
   rw[show decide (122∈l)=false from decide_eq_false (by rw[j];exact c1)];refine YF ?_;refine⟨_,rfl,l,rfl,ha,hl,fun e J Y=>?_,fun m e J Y=>?_⟩
   ·refine⟨_,rfl,rfl,_,rfl,YF ?_⟩
    exact qn ((ZfD hc).1 e) J Y
   ·have j7:=(ZfD hc).2 m e
    refine⟨_,rfl,rfl,_,rfl,Yg (fun z=>by cases of_decide_eq_true z) ?_⟩;refine⟨_,rfl,(by show 2<=sizeLine;decide),fun r nr=>?_⟩;exact qs 0 m j7 r _ (Y.trans (Zx.upd nr)) Zv
  ·have j:l=a++122::b:=j
   rw[show decide (122∈l)=true from decide_eq_true (by rw[j];simp)];refine Yg (by decide) ?_;have j8:a.length<=l.length/\b.length<=l.length:=by rw[j,Zd,Zi];omega
   have aa:YX a:=fun c h=>ha c (by rw[j];exact bE _ h);have ab:YX b:=fun c h=>ha c (by rw[j];exact am _ (ae _ h));obtain⟨r0,j4⟩:=Zik (b:=b) c1;rw[<-j] at j4;refine⟨_,rfl,rfl,tx l,_,a.length,r0,rfl,rfl,j4,?_⟩;have O:∀{A B:Option Nat}{J:Hp},A=(if a=[] then some 1 else Z7 a)->B=(if b=[] then some 1 else Z7 b)->Zx H J->ZfP {nx:=fun x H'=>Q V.non H',rt:=Q} [some (.str (tx l)),some (vO A),some (.int (a.length:Nat)),some (vO B)] J:=fun {A B J} eA eB Y=>by
    exact Zgi j hl (fun hn=>qn ((ZfC hc eA eB).1 hn) J Y) (fun m h e1 e2 hn r H' s' hr=>qs h m ((ZfC hc eA eB).2 m h e1 e2 hn) r H' (Y.trans s') hr)
   have fin2:∀{A:Option Nat}{J:Hp},A=(if a=[] then some 1 else Z7 a)->Zx H J->ZiV {nx:=fun x H'=>Q V.non H',rt:=Q} [some (.str (tx l)),some (vO A),some (.int (a.length:Nat)),none] J:=fun {A J} eA Y=>by
    refine⟨_,rfl,_,rfl,_,_,rfl,rfl,_,rfl,tx l,rfl,by rw[ZC];omega,?_⟩;rw[ZfV j];refine⟨rfl,_,rfl,?_⟩;rw[t_e,Y8];refine ZO (fun h2=>?_) (fun h2=>?_)
    ·exact O (B:=some 1) eA (by rw[if_pos (by simpa using h2)]) Y
    ·have h2:¬b=[]:=by simpa using h2
     refine⟨_,rfl,_,rfl,_,_,rfl,rfl,_,rfl,tx l,rfl,by rw[ZC];omega,?_⟩;rw[ZfV j];refine⟨b,rfl,ab,by omega,fun e H2 s2=>?_,fun m e H2 s2=>?_⟩
     ·exact O (B:=none) eA (by rw[if_neg h2,e]) (Y.trans s2)
     ·exact O (B:=some m) eA (by rw[if_neg h2,e]) (Y.trans s2)
   refine⟨_,rfl,rfl,_,rfl,?_⟩;refine ZO (fun h1=>?_) (fun h1=>?_)
   ·have h1:a=[]:=by
     have:=V.int.inj (of_decide_eq_true h1);exact iD.mp (by omega)
    exact fin2 (A:=some 1) (by rw[if_pos h1]) (Zx.refl _)
   ·have h1:¬a=[]:=fun z=>h1 (by rw[z];rfl)
    refine⟨_,rfl,_,rfl,_,rfl,tx l,rfl,by rw[ZC];omega,?_⟩;rw[ZhD l j8.1,show l.take a.length=a by rw[j,dJ (Zq _),cK]];refine⟨a,rfl,aa,by omega,fun e H2 s2=>?_,fun m e H2 s2=>?_⟩
    ·exact fin2 (A:=none) (by rw[if_neg h1,e]) s2
    ·exact fin2 (A:=some m) (by rw[if_neg h1,e]) s2
end
end C63
namespace Tx
open PySem L2 PySem.Spec PyProof.Rows PySem.NumText
open PySem.Builtin.Str
theorem Zhj:ar "+-"=tx [43,45]:=Zef
theorem ZgN (c:Nat):(!(!(occurrences (tx [43,45]) ⟨#[c]⟩ 0 (tx [43,45]).length 1).isEmpty)) = !brk c:=by
 rw[fU,ZY];unfold brk;congr 1;rw[be];simp
theorem Zcm {wide n nx c:Nat}{fst:Bool}{f:List Int}{r:List Nat}(h:Vk fst c r=none):Xk wide (n+1) fst nx f (c::r)=none:=by
 unfold Xk;rw[h]
theorem Zcl {wide n nx c:Nat}{fst:Bool}{f:List Int}{r rest:List Nat}{j:Int}(h:Vk fst c r=some (j,rest))(z:Xv (WL rest)=none):Xk wide (n+1) fst nx f (c::r)=none:=by
 unfold Xk;rw[h];simp only;rw[z]
theorem Zdt {wide n nx c p m:Nat}{fst:Bool}{f:List Int}{r rest:List Nat}{j:Int}(h:Vk fst c r=some (j,rest))(z:Xv (WL rest)=some (p,m)) :
  Xk wide (n+1) fst nx f (c::r)=if p<nx\/wide<=p then none else Xk wide n false (p+1) (f.set p (j*(m:Nat))) (tlw rest):=by
 conv=>lhs;unfold Xk
 rw[h];simp only;rw[z]
theorem ZeQ {wide n nx:Nat}{fst:Bool}{f:List Int}:Xk wide n fst nx f []=if nx≠0 then some f else none:=by
 cases n <;> rfl
theorem ZdH:∀{l:List Nat}{j c:Nat},j<=(WL l).length->l[j]?=some c->(brk c=false↔j<(WL l).length)
 | [],j,c,_,h=>by cases h
 |x::r,0,c,_,h=>by
  cases h;unfold WL;rw[fP];cases hb:brk x <;> simp[hb]
 |x::r,j+1,c,z,h=>by
  unfold WL at z ⊢;rw[fP] at z ⊢;cases hb:brk x with
  |true=>rw[hb] at z;simp at z
  |false=>
   simp only[hb,Bool.not_false,if_true,Zi] at z ⊢;have:=ZdH (l:=r) (j:=j) (c:=c) (by unfold WL;omega) h;unfold WL at this;rw[this];omega
theorem ZgO (l:List Nat):(WL l).length<=l.length:=by
 have:=congrArg eS (ZbH l);rw[Zd] at this;omega
theorem ZdG (l:List Nat):l.take (WL l).length=WL l:=by
 have h:=ZbH l
 calc l.take (WL l).length=(WL l++tlw l).take (WL l).length:=by rw[h]
  _=WL l:=by rw[dJ (Zq _),cK]
theorem ZcU (l:List Nat):l.drop (WL l).length=tlw l:=by
 have h:=ZbH l
 calc l.drop (WL l).length=(WL l++tlw l).drop (WL l).length:=by rw[h]
  _=tlw l:=by rw[gJ,dA,dX];rfl
theorem Zd1 {l:List Nat}(h:YX l)(a:Nat):YX (l.drop a):=fun c j=>h c (dL j)
theorem Zfh {l:List Nat}(h:YX l):YX (WL l):=fun c j=>h c ((List.takeWhile_sublist _).subset j)
theorem ZgF {w:List Nat}{p m:Nat}(h:Xv w=some (p,m)):1<=w.length:=by
 cases w with
 |nil=>exact absurd h (by unfold Xv Z7;simp[ZX,Wj])
 |cons c r=>rw[Zi];omega
end Tx
namespace C63
open PySem L2 PySem.Spec PyProof.Rows PySem.NumText
open Tx Pm
noncomputable abbrev ZhM:Stmt:=top 40
noncomputable def Zfu:Sp:=fun J H Q _=>∃(wide:Nat) (l:List Nat),J=[.int (wide:Nat),.str (tx l)]/\1<=wide/\wide<=60/\YX l/\l.length<=600/\(lrN wide l=none->∀j,Zx H j->Q .non j)/\∀z,lrN wide l=some z->∀r j,Zx H j->j r=some (.tup (z.map V.int))->Q (.ref r) j
noncomputable def sgo {fst:Bool}{c:Nat}{r t:List Nat}{s:Int}(_:Vk fst c r=some (s,t)):Int:=s
theorem ZfX {fst:Bool}{c:Nat}{r t:List Nat}{s:Int}(h:Vk fst c r=some (s,t)):s=1\/s=-1:=by
 unfold Vk at h;split at h
 ·cases h;exact .inr rfl
 split at h
 ·cases h;exact .inl rfl
 split at h
 ·cases h;exact .inl rfl
 ·cases h
section
variable {P:Program}{w:World}{K:ac}{mg:Str->Option Value}{base:Heap}
theorem Zgs {f:Addr}{fd:FuncData}(F:WT K "_law_read" "_law_read" ZhM f fd)(T:N63.Bl mg)(m8:Fn P w K mg base YD 2 "_law_piece" ["_law_text"] Zfs):Z8 P w K mg base YD 3 f fd ["_law_wide", "_law_text"] Zfu:=by
 refine F.ok (FS (N:=["_law_wide", "_law_text", "_law_found", "_law_last", "_law_at", "_law_sign", "_law_end", "_law_piece_here"])) (fun vs H Q E h=>?_) (fun o8 A m9 s H vs Q E hr h=>?_)
 ·obtain⟨wide,l,rfl,_⟩:=h;rfl
 ·obtain⟨wide,l,rfl,w1,o9,ha,hl,qn,qs⟩:=h
  refine⟨_,Zt (ZQ (Zy Z1 (vn 1) ZA (Zz _)) (Zw (ZF (ZD Zbv (Y5 (pc Zu Zs)) (vn 0)))) ZE)
   (Zt (ZJ 2 rfl (ZD Zdm (Z3 (pc Zu Zs)) (vn 0)))
   (Zt (ZJ 3 rfl (UK XD Zu))
   (Zt (ZJ 4 rfl Zu)
   (Zt (WX ba (Zy XY (vn 4) (cb (JR) T.len (pc (vn 1) Zs)) (Zz _))
   (Zt (ZJ 5 rfl Zu)
   (Zt (ZQ (Zy Z1 (ZP Uf (vn 1) (vn 4) (fun _ _=>rfl)) ZA (Zz _)) (Zt (ZJ 5 rfl (UK XD Zu))
   (Zw (ZJ 4 rfl (ZD Z9 (vn 4) Zu)))) (Zw (ZQ (WF (Zy Wo (vn 4) Zu (Zz _)) (Y0 (Zy Z1 (ZP Uf (vn 1) (vn 4) (fun _ _=>rfl)) ZA (Zz _)))).pt (Zw (ZJ 4 rfl (ZD Z9 (vn 4) Zu))) (Zw (ZQ (Zy Wo (vn 4) Zu (Zz _)) (Zw (ZF Yd)) ZE)))))
   (Zt (ZJ 6 rfl (vn 4))
   (Zt (WX ba (WF (Zy XY (vn 6) (cb (JR) T.len (pc (vn 1) Zs)) (Zz _)) (Y0 (Zy WH (ZP Uf (vn 1) (vn 6) (fun _ _=>rfl)) ZA (by rfl)))).pt
   (Zw (ZJ 6 rfl (ZD Z9 (vn 6) Zu))))
   (Zt (ZJ 7 rfl (Wc m8 hr ZU (pc (ZG JZ (vn 1) (ZK (vn 4)) (ZK (vn 6))) Zs)))
   (Zt (ZQ (YJ (Zy Js (vn 7) Yd (Zz _)) (YJ (Zy UL (ZP (Vl K) (vn 7) Zu (fun _ _=>rfl)) (vn 3) (Zz _)) (Wf (Zy Zbw (ZP (Vl K) (vn 7) Zu (fun _ _=>rfl)) (vn 0) (Zz _))))).pt (Zw (ZF Yd)) ZE)
   (Zt (ZJ 3 rfl (ZP (Vl K) (vn 7) Zu (fun _ _=>rfl)))
   (Zt (Zga (ZD WI (vn 5) (ZP (Vl K) (vn 7) Zu (fun _ _=>rfl))) (Zgd (vn 2) (vn 3) UG))
   (Zw (ZJ 4 rfl (vn 6))))))))))))
   (Zw (ZF (Z5 (Zy Zbw (vn 3) Zu (Zz _)) (ct (tupK K) T.tuple (pc (vn 2) Zs)) Yd))))))),?_⟩
  have hz:(16777216:Nat)=sizeLine:=by decide
  refine⟨_,rfl,rfl,_,rfl,?_⟩;rw[t_0,Y8];refine ZO (fun h0=>?_) (fun h0=>?_)
  ·have h0:l=[48]:=by simpa using h0
   refine⟨(by show 1<=sizeLine;decide),fun c1 m1=>?_⟩;refine⟨_,rfl,c1,_,wide,rfl,rfl,Zv,by simp,by simp only[Zi,ax];omega,by omega,fun d1 H1 s1 m3=>?_⟩;rw[Zi4] at m3;exact qs (ag wide 0) (by unfold lrN;rw[if_pos h0]) d1 H1 ((Zx.upd m1).trans s1) m3
  have h0:¬l=[48]:=by simpa using h0
  have n4:lrN wide l=Xk wide l.length true 0 (ag wide 0) l:=by unfold lrN;rw[if_neg h0]
  rw[n4] at qn qs;obtain⟨R,m4⟩:∃R,Xk wide l.length true 0 (ag wide 0) l=R:=⟨_,rfl⟩;rw[m4] at qn qs;refine⟨(by show 1<=sizeLine;decide),fun l0 n0=>?_⟩;have s0:Zx H _:=Zx.upd (o:=.lst [.int 0]) n0;refine⟨_,rfl,l0,_,_,rfl,rfl,Zv,by omega,by omega,?_,fun L nL=>?_⟩
  ·rw[Zj]
   show 1*wide<=sizeLine;omega
  rw[Zj,Zf0];have n5:H L=none:=s0.free nL;have s2:=s0.trans (Zx.upd (o:=.lst ((ag wide (0:Int)).map V.int)) nL);refine⟨_,rfl,?_⟩;refine Wk (fun k O H'=>∃(J nx n:Nat) (f:List Int) (v5 v6 v7:Option V),O=[some (.int (wide:Nat)),some (.str (tx l)),some (.ref L),some (.int ((nx:Int)-1)),some (.int (J:Nat)),v5,v6,v7]/\Zx H H'/\H' L=some (.lst (f.map V.int))/\f.length=wide/\J<=l.length/\l.length-J<=k/\(l.drop J).length<=n/\Xk wide n (decide (J=0)) nx f (l.drop J)=R)
   (fun O H'=>∃(nx:Nat) (f:List Int) (v4 v5 v6 v7:Option V),O=[some (.int (wide:Nat)),some (.str (tx l)),some (.ref L),some (.int ((nx:Int)-1)),v4,v5,v6,v7]/\Zx H H'/\H' L=some (.lst (f.map V.int))/\R=if nx≠0 then some f else none) ?hend ⟨l.length,0,0,l.length,ag wide 0,_,_,_,rfl,s2,Zv,cF ..,aE _,by omega,by rw[dg];exact Zq _,by rw[dg];exact m4⟩ ?turn
  case hend=>
   rintro O H' ⟨nx,f,v4,v5,v6,v7,rfl,sm,hL,eR⟩;refine⟨_,rfl,_,_,rfl,rfl,_,rfl,?_⟩;refine ZO (fun h1=>?_) (fun h1=>?_)
   ·have h1:=of_decide_eq_true h1
    rw[if_pos (by omega)] at eR;exact⟨_,rfl,L,_,rfl,.inl ⟨.of hL,fun r nr=>qs f eR r _ (sm.trans (Zx.upd nr)) Zv⟩⟩
   ·have h1:¬(0:Int)<=(nx:Int)-1:=fun z=>h1 (decide_eq_true z)
    rw[if_neg (by omega)] at eR;exact qn eR H' sm
  case turn=>
   rintro l7 k O H' ⟨J,nx,n,f,v5,v6,v7,rfl,sm,hL,hf,p0,hk,hn,Y⟩;refine⟨_,rfl,_,rfl,tx l,rfl,by rw[ZC];omega,_,_,rfl,rfl,_,rfl,?_⟩;rw[ZC];refine ZO (fun h1=>?_) (fun h1=>?_)
   ·have h1:J<l.length:=by have:=of_decide_eq_true h1;omega
    rw[bJ h1] at hn Y;rw[Zi] at hn;obtain⟨n',rfl⟩:∃n',n=n'+1:=⟨n-1,by omega⟩;have hc:atI (tx l).cps.toList ((J:Nat):Int)=some l[J]:=ZT (by rw[ZY];exact Zf h1);generalize ec:l[J]=c at hn Y hc;refine⟨_,fun _ _ z=>z,?_⟩;refine⟨_,rfl,_,rfl,tx l,_,_,rfl,rfl,by rw[ZC];omega,hc,rfl,_,rfl,?_⟩;rw[t_m,show (⟨#[c]⟩:Str)=tx [c] from rfl,Y8];refine ZO (fun hm=>?A) (fun hm=>?B)
    case' A=>
     have hm:c=45:=by simpa using hm
     refine⟨_,rfl,_,rfl,_,_,rfl,rfl,?_⟩;show Ye 4 (V.int (((J:Nat):Int)+1)) _ _ _;obtain⟨a2,j4,l8⟩:∃a2:Nat,((J:Nat):Int)+1=(a2:Nat)/\J+1=a2:=⟨J+1,by omega,rfl⟩;rw[j4];rw[l8] at Y;have es:Vk (decide (J=0)) c (l.drop a2)=some (-1,l.drop a2):=by unfold Vk;rw[if_pos hm]
     have m5:a2<=l.length:=by omega
     have m6:l.length-a2<=k:=by omega
     have l9:(l.drop a2).length<=n'+1:=by rw[ao];rw[ao] at hn;omega
    case' B=>
     have hm:¬c=45:=by simpa using hm
     refine⟨_,rfl,_,_,rfl,rfl,_,rfl,?_⟩;refine ZO (fun hp=>?B1) (fun hp=>?B2)
    case' B1=>
     have j9:¬J=0:=by have:=of_decide_eq_true hp;omega
     refine⟨_,rfl,_,rfl,tx l,_,_,rfl,rfl,by rw[ZC];omega,hc,rfl,_,rfl,?_⟩;rw[t_p,show (⟨#[c]⟩:Str)=tx [c] from rfl,Y8];refine ZO (fun j6=>?B11) (fun j6=>?B12)
    case B12=>
     have j6:¬c=43:=by simpa using j6
     have es:Vk (decide (J=0)) c (l.drop (J+1))=none:=by unfold Vk;rw[if_neg hm,decide_eq_false j9,if_neg (by decide),if_neg j6]
     rw[Zcm es] at Y;refine⟨_,rfl,_,_,rfl,rfl,_,rfl,?_⟩;refine ZO (fun _=>?_) (fun z=>absurd hp z);exact qn Y.symm H' sm
    case' B11=>
     have j6:c=43:=by simpa using j6
     refine⟨_,rfl,_,_,rfl,rfl,?_⟩;show Ye 4 (V.int (((J:Nat):Int)+1)) _ _ _;obtain⟨a2,j4,l8⟩:∃a2:Nat,((J:Nat):Int)+1=(a2:Nat)/\J+1=a2:=⟨J+1,by omega,rfl⟩;rw[j4];rw[l8] at Y;have es:Vk (decide (J=0)) c (l.drop a2)=some (1,l.drop a2):=by unfold Vk;rw[if_neg hm,decide_eq_false j9,if_neg (by decide),if_pos j6]
     have m5:a2<=l.length:=by omega
     have m6:l.length-a2<=k:=by omega
     have l9:(l.drop a2).length<=n'+1:=by rw[ao];rw[ao] at hn;omega
    case' B2=>
     have j9:J=0:=by have:¬(0:Int)<(J:Int):=fun z=>hp (decide_eq_true z);omega
     refine Yg (by decide) ?_;refine⟨_,rfl,_,_,rfl,rfl,_,rfl,?_⟩;refine ZO (fun z=>absurd z hp) (fun _=>?_);have ed:c::l.drop (J+1)=l.drop J:=by rw[<-ec];exact (bJ h1).symm
     have es:Vk (decide (J=0)) c (l.drop (J+1))=some (1,l.drop J):=by unfold Vk;rw[if_neg hm,decide_eq_true j9,if_pos rfl,ed]
     obtain⟨a2,j4⟩:∃a2:Nat,J=a2:=⟨_,rfl⟩;rw[j4] at es;rw[j4];rw[j4] at Y;have m5:a2<=l.length:=by omega
     have m6:l.length-a2<=k:=by omega
     have l9:(l.drop a2).length<=n'+1:=by rw[ao];rw[ao] at hn;omega
    all_goals
     have n8:=ZgO (l.drop a2);rw[ao] at n8;refine⟨_,rfl,?_⟩;refine Wk (fun k' O j7=>∃j:Nat,O=[some (.int (wide:Nat)),some (.str (tx l)),some (.ref L),some (.int ((nx:Int)-1)),some (.int (a2:Nat)),some (.int (sgo es)),some (.int ((a2+j:Nat):Int)),v7]/\j7=H'/\j<=(WL (l.drop a2)).length/\(WL (l.drop a2)).length-j<=k')
      (fun O j7=>O=[some (.int (wide:Nat)),some (.str (tx l)),some (.ref L),some (.int ((nx:Int)-1)),some (.int (a2:Nat)),some (.int (sgo es)),some (.int ((a2+(WL (l.drop a2)).length:Nat):Int)),v7]/\j7=H') ?_ ⟨_,0,rfl,rfl,aE _,Zq _⟩ ?_
     ·rintro O j7 ⟨rfl,rfl⟩
      have p8:sgo es=1\/sgo es=-1:=ZfX es;refine⟨_,rfl,_,rfl,_,rfl,_,rfl,_,rfl,tx l,rfl,by rw[ZC];omega,?_⟩;rw[ZfU l (gU _ _) (by omega),Nat.add_sub_cancel_left,ZdG];refine⟨WL (l.drop a2),rfl,Zfh (Zd1 ha a2),by omega,fun e H1 s1=>?_,fun p m e r H1 s1 hr=>?_⟩
      ·rw[Zcl es e] at Y
       exact⟨_,rfl,rfl,_,rfl,YF (YF (qn Y.symm H1 (sm.trans s1)))⟩
      have p9:=ZgF e;have n9:=s1 _ _ hL;rw[Zdt es e] at Y;refine⟨_,rfl,rfl,_,rfl,Yg (fun z=>by cases of_decide_eq_true z) ?_⟩;refine⟨_,rfl,r,_,_,_,rfl,rfl,.of hr,rfl,_,rfl,_,_,rfl,rfl,_,rfl,?_⟩;refine ZO (fun h3=>?_) (fun h3=>?_)
      ·rw[if_pos (.inl (by have:=of_decide_eq_true h3;omega))] at Y
       exact YF (qn Y.symm H1 (sm.trans s1))
      have h3:¬((p:Int)<=(nx:Int)-1):=fun z=>h3 (decide_eq_true z);refine⟨_,rfl,r,_,_,_,rfl,rfl,.of hr,rfl,_,rfl,_,_,rfl,rfl,_,rfl,?_⟩;refine ZO (fun h4=>?_) (fun h4=>?_)
      ·rw[if_pos (.inr (by have:=of_decide_eq_true h4;omega))] at Y
       exact qn Y.symm H1 (sm.trans s1)
      have h4:¬((wide:Int)<=(p:Int)):=fun z=>h4 (decide_eq_true z);rw[if_neg (by omega)] at Y;have hp:p<f.length:=by omega
      refine⟨_,rfl,r,_,_,_,rfl,rfl,.of hr,rfl,?_⟩;refine⟨_,rfl,_,rfl,r,_,_,_,rfl,rfl,.of hr,rfl,_,_,rfl,rfl,.inl (by omega),?_⟩;refine⟨_,rfl,_,rfl,L,_,_,p,rfl,rfl,n9,?_,?_⟩
      ·rw[Za];exact UT hp
      refine⟨_,rfl,?_⟩;refine⟨l.length-(a2+(WL (l.drop a2)).length),by omega,a2+(WL (l.drop a2)).length,p+1,n',f.set p (sgo es*(m:Nat)),some (.int (sgo es)),some (.int ((a2+(WL (l.drop a2)).length:Nat):Int)),some (.ref r),?_,(sm.trans s1).updr n5,?_,?_,by omega,Zq _,?_,?_⟩
      ·rw[show ((p+1:Nat):Int)-1=(p:Int) by omega]
       rfl
      ·rw[Zv,List.map_set]
      ·rw[cU];exact hf
      ·rw[ao];rw[ao] at l9;omega
      ·have ed:l.drop (a2+(WL (l.drop a2)).length)=tlw (l.drop a2):=by rw[<-List.drop_drop,ZcU]
       rw[ed,show decide (a2+(WL (l.drop a2)).length=0)=false from decide_eq_false (by omega)];exact Y
     ·rintro j8 k' O j7 ⟨j,rfl,rfl,hj,r8⟩
      refine⟨_,rfl,_,rfl,tx l,rfl,by rw[ZC];omega,_,_,rfl,rfl,_,rfl,?_⟩;rw[ZC];refine ZO (fun h2=>?_) (fun h2=>?_)
      ·have h2:a2+j<l.length:=by have:=of_decide_eq_true h2;omega
       have o4:atI (tx l).cps.toList ((a2+j:Nat):Int)=some l[a2+j]:=ZT (by rw[ZY];exact Zf h2);have o5:(l.drop a2)[j]?=some l[a2+j]:=by rw[jk];exact Zf h2
       have m7:=ZdH hj o5;refine⟨_,rfl,_,rfl,tx l,_,_,rfl,rfl,by rw[ZC];omega,o4,_,_,rfl,rfl,_,rfl,?_⟩;rw[Zhj,ZgN];cases hb:brk l[a2+j]
       ·refine YF ?_
        have t0:=m7.mp hb;exact⟨_,fun _ _ z=>z,_,rfl,_,_,rfl,rfl,k'-1,by omega,j+1,rfl,rfl,by omega,by omega⟩
       ·refine Yg (by decide) ?_
        have:¬j<(WL (l.drop a2)).length:=fun z=>by rw[m7.mpr z] at hb;cases hb
        exact j8 _ _ ⟨by rw[show (WL (l.drop a2)).length=j by omega],rfl⟩
      ·have h2:¬(((a2+j:Nat):Int)<(l.length:Int)):=fun z=>h2 (decide_eq_true z)
       refine Yg (by decide) ?_;exact j8 _ _ ⟨by rw[show (WL (l.drop a2)).length=j by omega],rfl⟩
   ·have h1:¬((J:Int)<(l.length:Int)):=fun z=>h1 (decide_eq_true z)
    rw[bH (by omega),ZeQ] at Y;exact l7 _ _ ⟨nx,f,_,_,_,_,rfl,sm,hL,Y.symm⟩
end
end C63
namespace L2
open PySem PySem.Spec PyProof.Rows
open PySem.Builtin PySem.Builtin.Str
noncomputable def JN:List Expr->Option (List Str)
 | []=>some []
 | .Constant (.str x) _ _::r=>(JN r).map (x :: ·)
 |_=>none
section
variable {X:Cx}
noncomputable def taS (xs:List Str):TA:=fun _ H Q=>Q (xs.map V.str) H
theorem Zbu:∀(j:List Expr) {xs:List Str},JN j=some xs->PA X j (taS xs)
 | [],xs,h=>by
  cases h;exact Zs
 |e::r,xs,h=>by
  cases e with
  |Constant c k p=>
   cases c with
   |str x=>
    unfold JN at h;cases e:JN r with
    |none=>rw[e] at h;cases h
    |some z=>
     rw[e] at h;cases h;exact pc ZA (Zbu r e) rfl
   |_=>cases h
  |_=>cases h
noncomputable def teS (xs:List Str):TE:=fun _ H Q=>xs.length<=sizeLine/\∀p,H p=none->Q (.ref p) (upd H p (.lst (xs.map V.str)))
theorem Zf5 {es:List Expr}{xs:List Str}{pos:Pos}(h:JN es=some xs:=by rfl):Pm.QE X (.List es pos) (teS xs):=⟨fun j s z H Q I J=>Z3 (Zbu es h) j s z H Q I (by
 show (xs.map V.str).length<=sizeLine/\_;rw[Za];exact J)⟩
structure WlS (p:Prop):Prop where
 h:p
theorem Zaa {j:List Stmt}{D:YH}{σ:St}{H:Hp}{t:TS}(h:Pm.QSs X j t)(k:WlS (t D σ H)):∃t,Vi X j t/\t D σ H:=⟨t,h.h,k.h⟩
end
section
variable {X:Cx}
theorem Zbd:∀{ts:List Str}{vs:List Value},ZN (ts.map V.str) vs->∃l:List (Str×Tok),l.map (·.1)=ts/\vs=strValues l
 | [],_,h=>by cases h;exact⟨[],rfl,rfl⟩
 |t::ts,_,h=>by
  cases h with
  |cons j z=>
   obtain⟨k,rfl⟩:=j;obtain⟨l,rfl,rfl⟩:=Zbd z;exact⟨(t,k)::l,rfl,rfl⟩
theorem Uc:MtR X "str.join" (fun x xs H Q=>∃a p ts,x=.str a/\xs=[.ref p]/\H p=some (.lst (ts.map V.str))/\JoinOk a ts=true/\Q (.str (eG a ts)) H):=by
 intro j s σ H x xs v us Q I z J h;obtain⟨a,p,ts,rfl,rfl,O,hok,q⟩:=h;obtain⟨t,rfl⟩:=z;obtain⟨u,rfl,Y⟩:=vals1 J;cases Y;obtain⟨j4,r,pl,hz⟩:=I.list (.of O);obtain⟨l,rfl,rfl⟩:=Zbd r;exact SC.join (l:=l) pl.isList rfl hok fun t' k=>⟨.str (Txt.join a (l.map (·.1))),H,I.tok _,⟨_,rfl⟩,by rw[show Txt.join a (l.map (·.1))=glued a (l.map (·.1)) from rfl,StrLaws.glued_eq_join];exact q⟩
end
end L2
namespace Tx
open PySem PySem.Builtin PySem.Builtin.Str PySem.NumText PyProof.Rows PySem.W PySem.W.KIN
noncomputable def byf (l:List Nat):Bool:=Wj l && (decide (l=[48]) || !decide (l.head?=some 48))
noncomputable def sz (l:List Nat):Bool:=match Z7 l with
 |some m=>decide (m<=60)
 |none=>false
theorem Zhu {l:List Nat}:sz l=(byf l && (decide (1<=digitsVal l) && decide (digitsVal l<=60))):=by
 unfold sz byf;cases J:Wj l with
 |false=>
  have:Z7 l=none:=by unfold Z7;rw[if_neg (fun z=>by rw[J] at z;exact absurd z.1 (by decide))]
  rw[this];rfl
 |true=>
  by_cases j:l.head?=some 48
  ·have:Z7 l=none:=by unfold Z7;rw[if_neg (fun z=>z.2 j)]
   rw[this];by_cases O:l=[48]
   ·rw[O];rfl
   ·rw[decide_eq_false O,decide_eq_true j];rfl
  ·have e:Z7 l=some (digitsVal l):=by unfold Z7;rw[if_pos ⟨J,j⟩]
   have:=(Wr e).2;rw[e,decide_eq_false j,decide_eq_true this];simp
noncomputable def VI (l:List Nat):Nat:=(Z7 l).getD 0
theorem JD {l:List Nat}(h:sz l=true):Z7 l=some (VI l)/\1<=VI l/\VI l<=60:=by
 unfold sz at h;unfold VI;cases e:Z7 l with
 |none=>rw[e] at h;cases h
 |some m=>
  rw[e] at h;exact⟨rfl,(Wr e).2,of_decide_eq_true h⟩
theorem ZfR {l:List Nat}(h:sz l=true):bY l/\l≠[]/\digitsVal l=VI l:=by
 have j:=(JD h).1;have J:Wj l=true/\l.head?≠some 48:=gL fun z=>by unfold Z7 at j;rw[if_neg z] at j;cases j
 have O:=j;unfold Z7 at O;rw[if_pos J] at O;exact⟨(YA.mp J.1).2,(YA.mp J.1).1,ay O⟩
noncomputable def WO:List Nat:=[116,97,98,108,101]
noncomputable def JX:List Nat:=[114,111,119]
noncomputable def hdN:List (List Nat)->Option (List Nat)
 | []=>none
 |h::r=>if h=WO/\2<=r.length/\r.length<=17/\r.all sz=true then some (r.map VI) else none
noncomputable def rwN (wide cnt:Nat):List (List Nat)->Option (List (List Int))
 | []=>none
 |h::r=>if h=JX/\r.length=cnt/\(r.all fun w=>(We wide w).isSome)=true then some (r.map fun w=>(We wide w).getD []) else none
noncomputable def YT (wide cnt:Nat):Nat->List (List (List Nat))->Sum Nat (List (List (List Int)))
 |_,[]=>.inr []
 |k,l::r=>match rwN wide cnt l with
  |none=>.inl k
  |some x=>match YT wide cnt (k+1) r with
   | .inl j=>.inl j
   | .inr z=>.inr (x::z)
structure Xg (ws:List (List Nat)):Prop where
 ne:ws≠[]
 le:ws.length<=40
 wd:∀w∈ws,YX w/\32∉w/\w.length<=60
noncomputable def Xw (j:List (List Nat)):List Nat:=Yc 32 j
theorem Jf (c:Nat){B:Nat}:∀j:List (List Nat),(∀w∈j,w.length<=B)->(Yc c j).length<=j.length*(B+1)
 | [],_=>aE _
 | [p],h=>by
  have:=h p (aq.mpr rfl);show p.length<=1*(B+1);omega
 |p::q::r,h=>by
  have O:=h p (ah ..);have Y:=Jf c (q::r) fun z J=>h z (ae _ J);show (p++c::Yc c (q::r)).length<=_;rw[Zd,Zi,Zi,dW];omega
theorem Zac:∀J:List (List Nat),(∀w∈J,YX w)->YX (Yc 32 J)
 | [],_=>fun c j=>by cases j
 | [p],h=>h p (aq.mpr rfl)
 |p::q::r,h=>fun c j=>by
  rcases aD.mp j with j|j
  ·exact h p (ah ..) c j
  ·rcases aj.mp j with rfl|j
   ·decide
   ·exact Zac (q::r) (fun z O=>h z (ae _ O)) c j
theorem Xg.len {j:List (List Nat)}(h:Xg j):(Xw j).length<=2440:=by
 have O:=Jf 32 j (B:=60) fun w z=>(h.wd w z).2.2;have J:=h.le;have Y:j.length*61<=40*61:=a8 _ J;unfold Xw;omega
theorem Xg.asc {j:List (List Nat)}(h:Xg j):YX (Xw j):=Zac j fun w z=>(h.wd w z).1
theorem Xg.spl {j:List (List Nat)}(h:Xg j):cr (tx (Xw j)) ⟨#[32]⟩=j.map tx:=UA h.ne fun w z=>(h.wd w z).2.1
theorem ZcV:ar "table"=tx WO:=by decide +kernel
theorem Zfo:ar "row"=tx JX:=by decide +kernel
theorem JW:ar " "=tx [32]:=by decide +kernel
theorem VA {D:Nat}:∀(j:List (List Nat)) {f g:List Int}{B:Nat},putAll f j=some g->(∀x∈f,x.natAbs<=B)->(∀w∈j,10 ^ (w.length+1)<=D)->∀x∈g,x.natAbs<=B+j.length*D
 | [],f,g,B,h,hf,_=>fun x J=>by
  have h:some f=some g:=h;cases h;have:=hf x J;omega
 |w::j,f,g,B,h,hf,O=>fun x J=>by
  obtain⟨f',Y,e2⟩:=XV h;have h1:=Zbs Y hf (O w (ah ..));have h2:=VA j e2 h1 (fun z hz=>O z (ae _ hz)) x J;rw[Zi,dW];omega
theorem Zf4 {wide:Nat}{l:List Nat}{xs:List Int}(h:We wide l=some xs)(Y:l.length<=60):∀x∈xs,x.natAbs<10 ^ 130:=fun x j=>by
 obtain⟨z,_⟩:=XT h;obtain⟨c1,J⟩:=Zba l;have:=VA (D:=10 ^ 121) (B:=0) (Xp l) z (fun x j=>by rw[(gh.mp j).2];exact Zq _) (fun w O=>fM (by decide) (by have:=J w O;omega)) x j;have h3:(Xp l).length*10 ^ 121<=121*10 ^ 121:=a8 _ (by omega);have h4:121*10 ^ 121<10 ^ 130:=by decide +kernel
 omega
theorem XW:∀(j:List (List Nat)) {f g:List Int},putAll f j=some g->g.length=f.length
 | [],f,g,h=>by
  have h:some f=some g:=h;cases h;rfl
 |w::j,f,g,h=>by
  obtain⟨O,z,J⟩:=XV h;rw[XW j J,UI z]
theorem Zej {wide:Nat}{l:List Nat}{xs:List Int}(h:We wide l=some xs):xs.length=wide:=by
 rw[XW _ (XT h).1,Ze]
end Tx
namespace Tx
noncomputable def Zae (z:List (List (List Int))):Sum Nat (List (List (List Int)))->Sum Nat (List (List (List Int)))
 | .inl j=>.inl j
 | .inr J=>.inr (z++J)
theorem JJ {wide cnt k:Nat}{l:List (List Nat)}{r:List (List (List Nat))}(h:rwN wide cnt l=none):YT wide cnt k (l::r)=.inl k:=by
 unfold YT;rw[h]
theorem JI {wide cnt k:Nat}{l:List (List Nat)}{r:List (List (List Nat))}{x:List (List Int)}(h:rwN wide cnt l=some x):YT wide cnt k (l::r)=Zae [x] (YT wide cnt (k+1) r):=by
 rw[YT,h];simp only;cases YT wide cnt (k+1) r <;> rfl
theorem Zad (J:List (List (List Int)))(x:List (List Int))(z:Sum Nat (List (List (List Int)))):Zae J (Zae [x] z)=Zae (J++[x]) z:=by
 cases z with
 |inl j=>rfl
 |inr O=>show dS (J++([x]++O))=dS (J++[x]++O);rw[aw]
noncomputable def Jp (j:Nat->Nat):List (List (List Nat))->Sum Nat (List Nat×List (List (List Int)))
 | []=>.inl 0
 |h::r=>match hdN h with
  |none=>.inl 0
  |some z=>if r=[] then .inl 1 else match YT (j (z.headD 0)) (z.length-1) 1 r with
   | .inl k=>.inl k
   | .inr xs=>.inr (z,xs)
noncomputable def ZfN (ns:List Nat):Sum Nat (List (List (List Int)))->Sum Nat (List Nat×List (List (List Int)))
 | .inl k=>.inl k
 | .inr xs=>.inr (ns,xs)
theorem XG {j:Nat->Nat}{h:List (List Nat)}{r:List (List (List Nat))}(e:hdN h=none):Jp j (h::r)=.inl 0:=by
 simp only[Jp,e]
theorem VS {j:Nat->Nat}{h:List (List Nat)}{ns:List Nat}(e:hdN h=some ns):Jp j [h]=.inl 1:=by
 simp only[Jp,e,if_true]
theorem XF {j:Nat->Nat}{h:List (List Nat)}{r:List (List (List Nat))}{n:Nat}{ss:List Nat}(e:hdN h=some (n::ss))(z:r≠[]) :
  Jp j (h::r)=ZfN (n::ss) (YT (j n) ss.length 1 r):=by
 simp only[Jp,e];rw[if_neg z];show (match YT (j n) ss.length 1 r with | .inl k=>_ | .inr J=>_)=_
 cases YT (j n) ss.length 1 r <;> rfl
theorem X5 {J:List (List Nat)}{ns:List Nat}(h:hdN J=some ns):∃n j,ns=n::j/\1<=n/\n<=60/\1<=j.length/\j.length<=16/\∀k∈j,1<=k/\k<=60:=by
 cases J with
 |nil=>cases h
 |cons hd r=>
  have h:(if _ then _ else _)=_:=h
  by_cases z:hd=WO/\2<=r.length/\r.length<=17/\r.all sz=true
  ·rw[if_pos z] at h
   cases h;obtain⟨_,O,h3,Y⟩:=z;cases r with
   |nil=>exact absurd O (by decide)
   |cons a t=>
    have ha:=(JD (aJ.mp Y a (ah ..))).2;rw[Zi] at O h3;refine⟨VI a,t.map VI,rfl,ha.1,ha.2,by rw[Za];omega,by rw[Za];omega,fun k hk=>?_⟩;obtain⟨b,hb,rfl⟩:=aV.mp hk;exact (JD (aJ.mp Y b (ae _ hb))).2
  ·rw[if_neg z] at h;cases h
end Tx
namespace Tx
open PySem L2 PySem.Spec PyProof.Rows PySem.NumText
theorem Zc0 (l:List Nat):dk (tx l) (tx [48])=decide (l.head?=some 48):=by
 unfold dk;rw[be,aT,decide_eq_true_eq,decide_eq_true_eq];have:=bX (tx l) 48 0;rw[ZY] at this;refine this.trans ?_;cases l with
 |nil=>simp
 |cons c r=>simp
end Tx
namespace C63
open PySem L2 PySem.Spec PyProof.Rows PySem.NumText
open Tx Pm
noncomputable abbrev sBf:Stmt:=top 17
noncomputable abbrev sSz:Stmt:=top 30
noncomputable def Zhz:Sp:=fun z H Q _=>∃l,z=[.str (tx l)]/\YX l/\l.length<=640/\∀j,Zx H j->Q (.bl (byf l)) j
noncomputable def Zhv:Sp:=fun z H Q _=>∃l,z=[.str (tx l)]/\YX l/\l.length<=640/\∀j,Zx H j->Q (.bl (sz l)) j
section
variable {P:Program}{w:World}{K:ac}{mg:Str->Option Value}{base:Heap}
theorem Zib {f:Addr}{fd:FuncData}(F:WT K "is_by_figures" "is_by_figures" sBf f fd)(Y:Fn P w K mg base YD 1 "are_figures" ["text"] XN):Z8 P w K mg base YD 2 f fd ["text"] Zhz:=by
 refine F.ok (FS (N:=["text"])) (fun vs H Q E h=>?_) (fun j4 A O s H vs Q E hr h=>?_)
 ·obtain⟨l,rfl,_⟩:=h;rfl
 ·obtain⟨l,rfl,ha,hl,q⟩:=h
  refine⟨_,Zw (ZF (ZaG (Wc Y hr ZU (pc (vn 0) Zs)) (V8 (Zh3 (WG Z1 (vn 0) ZA (Zz _)) (V8 (Zgg (Y6 aQ eJ gI VD (vn 0) (pc ZA Zs)))))))),?_⟩;refine⟨_,rfl,l,rfl,ha,by omega,fun H1 s1=>⟨_,rfl,?_⟩⟩;have j:=q H1 s1;unfold byf at j;refine ZO (fun z=>?_) (fun z=>?_)
  ·rw[z,eX] at j
   refine⟨_,rfl,rfl,_,rfl,?_⟩;rw[t_0,Y8];refine ZO (fun J=>?_) (fun J=>?_)
   ·rw[J] at j;exact j
   ·rw[fh] at J
    rw[J,ix] at j;refine⟨_,rfl,rfl,_,_,rfl,rfl,?_⟩;rw[Zc0];exact⟨_,rfl,j⟩
  ·rw[fh] at z
   rw[z] at j;exact j
theorem Zh6 {f:Addr}{fd:FuncData}{m:Tok}(F:WT K "is_size" "is_size" sSz f fd)(T:N63.Bl mg)(Y:mg "MOST_THINGS"=some (.int 60 m))(GB:Fn P w K mg base YD 2 "is_by_figures" ["text"] Zhz):Z8 P w K mg base YD 3 f fd ["word"] Zhv:=by
 refine F.ok (FS (N:=["word"])) (fun vs H Q E h=>?_) (fun j4 A O s H vs Q E hr h=>?_)
 ·obtain⟨l,rfl,_⟩:=h;rfl
 ·obtain⟨l,rfl,ha,hl,q⟩:=h
  refine⟨_,Zw (ZF (ZaG (Wc GB hr ZU (pc (vn 0) Zs)) (V8 (Zdi UL UL Zu (ct Wz T.int (pc (vn 0) Zs)) (Zim Y))))),?_⟩;refine⟨_,rfl,l,rfl,ha,by omega,fun H1 s1=>⟨_,rfl,?_⟩⟩;have j:=q H1 s1;rw[Zhu] at j;refine ZO (fun z=>?_) (fun z=>?_)
  ·rw[z,eX] at j
   have hf:Wj l=true:=by unfold byf at z;rw[aT] at z;exact z.1
   obtain⟨h0,hd⟩:=YA.mp hf;refine⟨_,rfl,tx l,_,rfl,hl,eY (x:=tx l) hd h0 (by rw[ZC];omega),_,_,rfl,rfl,_,rfl,?_⟩;show if decide ((1:Int)<=((digitsVal l:Nat):Int))=true then _ else _
   have e1:decide ((1:Int)<=((digitsVal l:Nat):Int))=decide (1<=digitsVal l):=by rw[be,decide_eq_true_eq,decide_eq_true_eq];omega
   rw[e1];refine ZO (fun J=>?_) (fun J=>?_)
   ·rw[J,eX] at j
    refine⟨_,_,rfl,rfl,?_⟩;have e2:decide (((digitsVal l:Nat):Int)<=(60:Int))=decide (digitsVal l<=60):=by rw[be,decide_eq_true_eq,decide_eq_true_eq];omega
    rw[<-e2] at j;exact j
   ·rw[fh] at J
    rw[J] at j;exact j
  ·rw[fh] at z
   rw[z] at j;exact j
end
end C63
namespace Tx
open PySem L2 PySem.Spec PyProof.Rows PySem.NumText
theorem Ziv {xs:List V}{b:Nat}(h:b<=xs.length):Jw xs (some (b:Int)) none=xs.drop b:=by
 unfold Jw;rw[HT.JH,HT.XR,ie h,bR (by rw[ao];omega)]
theorem Xl {x:V}{xs:List V}:Jw (x::xs) (some 1) none=xs:=Ziv (b:=1) (by rw[Zi];omega)
noncomputable def szV:V->V
 | .str s=>.bl (sz s.cps.toList)
 |v=>v
noncomputable def ZgP:V->V
 | .str s=>.int (VI s.cps.toList:Nat)
 |v=>v
noncomputable def wV (w:List Nat):V:=.str (tx w)
theorem Uy {j:List (List Nat)}{i:Nat}{x:V}(h:(j.map wV)[i]?=some x):∃w,w∈j/\j[i]?=some w/\x=wV w:=by
 rw[Zc] at h;cases e:j[i]? with
 |none=>rw[e] at h;cases h
 |some w=>
  rw[e] at h;exact⟨w,aN e,rfl,(ay h).symm⟩
theorem Jd (j:List (List Nat)):(j.map tx).map V.str=j.map wV:=by rw[a7];rfl
end Tx
namespace C63
open PySem L2 PySem.Spec PyProof.Rows PySem.NumText
open Tx Pm
noncomputable abbrev sHd:Stmt:=top 29
noncomputable def Zhy:Sp:=fun O H Q _=>∃z,O=[.str (tx (Xw z))]/\Xg z/\(hdN z=none->∀j,Zx H j->Q .non j)/\∀J,hdN z=some J->∀r j,Zx H j->j r=some (.tup (J.map nV))->Q (.ref r) j
section
variable {P:Program}{w:World}{K:ac}{mg:Str->Option Value}{base:Heap}
theorem Zh9 {f:Addr}{fd:FuncData}{m:Tok}(F:WT K "read_head" "read_head" sHd f fd)(T:N63.Bl mg)(hM:mg "MOST_SIZES"=some (.int 16 m))(j9:Fn P w K mg base YD 3 "is_size" ["word"] Zhv):Z8 P w K mg base YD 4 f fd ["line"] Zhy:=by
 refine F.ok (FS (N:=["line", "words"])) (fun vs H Q E h=>?_) (fun m6 A l7 s H vs Q E hr h=>?_)
 ·obtain⟨l,rfl,_⟩:=h;rfl
 ·obtain⟨ws,rfl,ok,qn,qs⟩:=h
  refine⟨_,Zt (ZJ 1 rfl (Y6 aQ bp bP Wq (vn 0) (pc ZA Zs)))
   (Zt (ZQ (YJ (Zy Y7 (ZP (Vq K) (vn 1) Zu (fun _ _=>rfl)) ZA (Zz _)) (YJ (Zy XY (cb (Ws K) T.len (pc (vn 1) Zs)) Zu (Zz _)) (Wf (Zy Wo (cb (Ws K) T.len (pc (vn 1) Zs)) (ZD Z9 (Zim hM) Zu) (Zz _))))).pt (Zw (ZF Yd)) ZE)
   (Zt (ZQ (V5 (Wg (cb (U7 rfl) T.all (pc (cmp ["word"] [] ["word"] rfl (itL K (ZG ZV (vn 1) (ZK Zu) ZM)) (fun _ _ _ _ _=>gn 0) (fun _ _ _ _ _=>YR) (fun _ _ _ _ _=>Wc j9 hr ZU (pc (vn 0) Zs))) Zs)))) (Zw (ZF Yd)) ZE)
   (Zw (ZF (ct (tupK K) T.tuple (pc (cmp ["word"] [] ["word"] rfl (itL K (ZG ZV (vn 1) (ZK Zu) ZM)) (fun _ _ _ _ _=>gn 0) (fun _ _ _ _ _=>YR) (fun _ _ _ _ _=>ct Wz T.int (pc (vn 0) Zs))) Zs)))))),?_⟩
  have hz:(16777216:Nat)=sizeLine:=by decide
  have m5:=ok.len;refine⟨_,rfl,rfl,_,_,rfl,rfl,by decide +kernel,by rw[ZC];omega,fun W nW=>?_⟩;rw[JW,show tx [32]=(⟨#[32]⟩:Str) from rfl,ok.spl,Jd];have s1:=Zx.upd (H:=H) (o:=.lst (ws.map wV)) nW;have hW:=Zv (H:=H) (a:=W) (o:=.lst (ws.map wV));generalize upd H W (.lst (ws.map wV))=H1 at s1 hW ⊢;obtain⟨hd,r,rfl⟩:=bU ok.ne;have l8:=ok.le;rw[Zi] at l8;refine⟨_,rfl,_,_,_,_,rfl,rfl,.of hW,ZT (j:=0) rfl,rfl,_,rfl,?_⟩;rw[ZcV,show wV hd=V.str (tx hd) from rfl,Y8];refine ZO (fun Y=>?_) (fun Y=>?_)
  ·have Y:¬hd=WO:=by simpa using Y
   refine YF ?_;exact qn (by show (if _ then _ else _)=_;rw[if_neg fun z=>Y z.1]) H1 s1
  have Y:hd=WO:=by simpa using Y
  refine⟨_,rfl,W,_,rfl,.inl (.of hW),_,_,rfl,rfl,_,rfl,?_⟩;rw[Za,Zi];refine ZO (fun h2=>?_) (fun h2=>?_)
  ·have h2:¬ 2<=r.length:=by have:=of_decide_eq_true h2;omega
   refine YF ?_;exact qn (by show (if _ then _ else _)=_;rw[if_neg fun z=>h2 z.2.1]) H1 s1
  have h2:2<=r.length:=by
   have:¬(((r.length+1:Nat):Int)<3):=fun z=>h2 (decide_eq_true z);omega
  refine⟨_,rfl,W,_,rfl,.inl (.of hW),_,_,rfl,rfl,_,_,rfl,rfl,_,rfl,?_⟩;rw[Za,Zi];refine ZO (fun h3=>?_) (fun h3=>?_)
  ·have h3:¬r.length<=17:=by have:=of_decide_eq_true h3;omega
   exact qn (by show (if _ then _ else _)=_;rw[if_neg fun z=>h3 z.2.2.1]) H1 s1
  have h3:r.length<=17:=by
   have:¬(((16:Int)+2)<((r.length+1:Nat):Int)):=fun z=>h3 (decide_eq_true z);omega
  refine⟨_,rfl,_,rfl,W,_,rfl,.of hW,fun W2 l9=>?_⟩;rw[aZ,Xl];have s2:=Zx.upd (H:=H1) (o:=.lst (r.map wV)) l9;have j4:=Zv (H:=H1) (a:=W2) (o:=.lst (r.map wV));generalize upd H1 W2 (.lst (r.map wV))=H2 at s2 j4 ⊢;refine⟨W2,rfl,⟨_,.of j4⟩,?_⟩;refine Ww (WD (.of j4)) [] rfl szV (by rw[Za];omega) (fun i x H' hx s' R O=>?_) (fun D H3 nD s3 hD=>?_)
  ·obtain⟨J,hm,_,rfl⟩:=Uy hx
   obtain⟨a1,a2,a3⟩:=ok.wd J (ae _ hm);exact⟨_,rfl,J,rfl,a1,by omega,fun H5 s5=>O H5 s5⟩
  have eD:(r.map wV).map szV=(r.map sz).map V.bl:=by rw[a7,a7];rfl
  rw[eD] at hD;refine⟨D,_,rfl,.of hD,_,rfl,?_⟩;have j7:=(s1.trans s2).trans s3;refine ZO (fun O=>?_) (fun O=>?_)
  ·refine qn ?_ H3 j7
   show (if _ then _ else _)=_
   rw[if_neg];rintro⟨_,_,_,h5⟩;rw[gy] at O;have h5:r.all (id ∘ sz)=true:=h5;rw[h5] at O;cases O
  have O:r.all sz=true:=by
   rw[gy] at O;simpa using O
  have eh:hdN (hd::r)=some (r.map VI):=by
   show (if _ then _ else _)=_
   rw[if_pos ⟨Y,h2,h3,O⟩]
  refine⟨_,rfl,_,rfl,W,_,rfl,.of (s3 _ _ (s2 _ _ hW)),fun W3 m3=>?_⟩;rw[aZ,Xl];have s4:=Zx.upd (H:=H3) (o:=.lst (r.map wV)) m3;have j6:=Zv (H:=H3) (a:=W3) (o:=.lst (r.map wV));generalize upd H3 W3 (.lst (r.map wV))=H4 at s4 j6 ⊢;refine⟨W3,rfl,⟨_,.of j6⟩,?_⟩;refine Ww (WD (.of j6)) [] rfl ZgP (by rw[Za];omega) (fun i x H' hx s' R h6=>?_) (fun D2 H5 m7 s5 j8=>?_)
  ·obtain⟨J,hm,_,rfl⟩:=Uy hx
   obtain⟨a1,a2,a3⟩:=ok.wd J (ae _ hm);obtain⟨b1,b2,b3⟩:=ZfR (aJ.mp O J hm);refine⟨_,rfl,tx J,_,rfl,by rw[ZC];omega,eY (x:=tx J) b1 b2 (by rw[ZC];omega),?_⟩;have:=h6 H' (Zx.refl _);rw[show ZgP (wV J)=V.int (VI J:Nat) from rfl,<-b3] at this;exact this
  have m4:(r.map wV).map ZgP=(r.map VI).map nV:=by rw[a7,a7];rfl
  rw[m4] at j8;exact⟨D2,_,rfl,.inl ⟨.of j8,fun q nq=>qs _ eh q _ (((j7.trans s4).trans s5).trans (Zx.upd nq)) Zv⟩⟩
end
end C63
namespace PyX
open PySem
theorem Ex.sameBut {h h':Heap}{e C T c:Addr}{d:Option Addr}{j:Value}(x:Ex h e C d T j)(z:bd c h h')(J:e≠c)(O:T≠c):Ex h' e C d T j:=by
 obtain⟨Y,oT,ts,a,b,n,t,dT,f⟩:=x;exact⟨Y,oT,ts,z.extBut _ _ J a,b,n,z.extBut _ _ O t,dT,f⟩
section
variable {M:Model}{A:Around}{E:Value->Shared->Prop}{s:Shared}
variable {base:Heap}{env:Env}{outer:List Env}{L e C T:Addr}{d:Option Addr}{fl:Value}{vs:Array Value}
theorem ZaX {Q:Unit->Shared->Prop}{O:Option Addr}(x:Ex s.heap e C d T fl)
  (hq:∀h',Ex h' e C d T (O.elim .none fun f=>rawInt f)->But [] [T] s.heap h'->Q () {s with heap:=h'}) :
  wpAny M A (setFlight (.ref e) O) Q E s:=by
 obtain⟨vs,oT,ts,he,Y,J,hT,j,h3⟩:=x;have sz:3<ts.size:=(bq.mp h3).1;unfold setFlight;refine Zl (bh he rfl Y ?_);rw[if_pos (show (au T != bn)=true from by simp)];refine dC hT j sz (hq _ ?_ ?_)
 ·exact⟨vs,_,_,(aL _ _ J).trans he,Y,J,
   bL _ hT (fC (cC j _)),cC j _,by simp[sz]⟩
 ·refine⟨fun b o q _ m=>?_,fun b o q m=>⟨o.slots,?_⟩⟩
  ·rw[aL _ _ (fun z=>m (by simp[z]))]
   exact q
  ·rw[aL _ _ (fun z=>m (by simp[z]))]
   exact q
theorem ZeA {α:Type}{Q:α->Shared->Prop}{j:String}{z:Env}(x:Ex s.heap e C d T fl)
  (O:∀h' J,Ex h' e C d T J->But [] [T] s.heap h'->E (.ref e) {s with heap:=h'}) :
  wpAny M A (passOn j (.ref e) z:Sem α) Q E s:=by
 obtain⟨vs,oT,ts,he,Y,j4,hT,j6,h3⟩:=id x;unfold passOn;refine Zl (bh he rfl Y ?_);rw[if_neg (show ¬(au T == bn)=true from by simp)];exact Zl (ZaX x fun h' x' k=>wpAny_throw (O h' _ x' k))
theorem Zdn {Q:Unit->Shared->Prop}
  (fr:A.frames=some (env::outer)) (hl:s.heap.FunFrames base (env::outer)) (hf:env.frame=some L) (x:Ex s.heap e C d T fl)
  (hq:∀h' Y,(s.heap.objs.size<=Y\/Y=T)->Ex h' e C d Y (rawInt L)->But (env::outer) [e,T] s.heap h'->Q () {s with heap:=h'}) :
  wpAny M A (noteFrame (.ref e) env) Q E s:=by
 by_cases j4:(fl == rawInt L)=true
 ·have:fl=rawInt L:=by simpa using j4
  subst this;exact ZaL hf x (hq s.heap T (.inr rfl) x ⟨fun b o q _ _=>q,fun b o q _=>⟨o.slots,q⟩⟩)
 obtain⟨vs,oT,ts,he,h1,j6,hT,J,h3⟩:=x;unfold noteFrame;simp only[hf];refine Zl (bh he rfl h1 ?_);rw[if_pos (show (au T != bn)=true from by simp)];refine Zl (bh hT J h3 ?_);rw[if_neg j4];refine Zl (dC hT J (bq.mp h3).1 ?_);have j:∀b,b≠T->(s.heap.update T (dH (·.setIfInBounds 3 bn))).get? b=s.heap.get? b:=
  fun b hb=>aL _ _ (bC hb)
 have noR:∀b o,s.heap.get? b=some o->(∀ws,o.data≠.fields ws)->b≠T:=fun b o hb O z=>by
  rw[z,hT] at hb;injection hb with hb;subst hb;exact O ts J
 refine newEntry fr (hl.of_keeps fun b o hb O=>⟨o,(j b (noR b o hb O)).trans hb,rfl⟩) hf
  ((j e (bC j6)).trans he) (bq.mp h1).1 fun h' Y n x k=>hq h' Y (.inl ?_) x ?_
 ·have n':(s.heap.update T (dH (·.setIfInBounds 3 bn))).objs.size<=Y:=n
  rw[iG] at n';exact n'
 ·refine⟨fun b o q nf m=>?_,fun b o q m=>?_⟩
  ·have b1:b≠T:=fun z=>m (by simp[z])
   exact k.1 b o ((j b b1).trans q) nf fun z=>m (by simp at z;simp[z])
  ·have b1:b≠T:=fun z=>m (by simp[z])
   exact k.2 b o ((j b b1).trans q) fun z=>m (by simp at z;simp[z])
end
end PyX
namespace L2
open PySem PySem.Spec PyProof.Rows
theorem Ua {e:Value}{env env':Env}(h:env.frame=env'.frame):noteFrame e env=noteFrame e env':=by
 unfold noteFrame PySem.frameOf;rw[h]
noncomputable def ZbY (X:Cx)(E:XK):Prop:=∀(j:List (Addr×Obj)) (z:St) (H:Hp) (s:Shared) (a C:Addr) (d:Option Addr) (T:Addr) (J:Value),
 Inv X j z H s->PyX.Ex s.heap a C d T J->Yx X j H a->Yx X j H T->E (.ref C) d H->X.xe (.ref a) s
noncomputable def Wx (X:Cx)(scope:Scope)(j:List (Str×Addr))(z:List Str)(C:Addr)(s:Shared)(H:Hp)(ex:List Addr)(xe:Value->Shared->Prop):Cx:={Yt X scope j z C s H ex with xe:=xe}
section
variable {X:Cx}
theorem WP {prog:Program}{w:World}{A:Around}{R:Result->Shared->Prop}{s:Shared}{elt j iter:Expr}{ifs:List Expr}{scope:Scope}{pos:Pos}{it l7:Value}{env:Env}(I:Nat->Shared->Prop)
  (turn:∀n s,I n s->wpAny (model prog w) A (pyNext it) (fun r z=>match r with
   |none=>R (.ok .next) z
   |some v=>wpAny (model prog w) A (letOwnedTupleGo j it v) (fun _ J=>wpAny (model prog w) A (assign j env v) (fun _ j4=>
     wpAny (model prog w) A (forIn ifs true fun c r=>if r=true then do let ok <-isTrue c env (eval c env);pure (bF ok) else pure (bF r)) (fun ok O=>
      if ok=true then wpAny (model prog w) A (eval elt env) (fun x j6=>
       wpAny (model prog w) A (call (.builtin "list.append") [l7,x]) (fun _ j7=>∃m,m<n/\I m j7) (notedBy (model prog w) A env fun x s'=>R (.error x) s') j6) (notedBy (model prog w) A env fun x s'=>R (.error x) s') O
      else ∃m,m<n/\I m O) (notedBy (model prog w) A env fun x s'=>R (.error x) s') j4) (notedBy (model prog w) A env fun x s'=>R (.error x) s') J) (notedBy (model prog w) A env fun x s'=>R (.error x) s') z) (notedBy (model prog w) A env fun x s'=>R (.error x) s') s)
  (n:Nat) (h:I n s) :
  codeAny (model prog w) A (.compLoop (.ListComp elt [⟨j,iter,ifs,0⟩] scope pos) 0 it l7 env) R s:=by
 refine codeAny_loop rfl I (fun n s hI=>?_) n h;show wpAny _ A ((compTurn (.ListComp elt [⟨j,iter,ifs,0⟩] scope pos) 0 it l7 env).onRaise (fun x=>do noteFrame x env;theTreesLotGoes x)) _ _ s
 refine wpAny_noted ?_;rw[compTurn_list];refine Zl (cq (Zl (aY (turn n s hI) (fun r z j8=>?_) fun _ _ Y=>Y)));cases r with
 |none=>exact Zm j8
 |some v=>
  refine Zl (aY j8 (fun _ J l8=>?_) fun _ _ Y=>Y);refine Zl (aY l8 (fun _ j4 l9=>Zl (aY l9 (fun ok O j9=>?_) fun _ _ Y=>Y)) fun _ _ Y=>Y);cases ok with
  |false=>exact Zm ⟨rfl,j9⟩
  |true=>
   exact Zl (Zl (aY j9 (fun x j6 m3=>Zl (aY m3 (fun _ j7 m4=>Zm (Zm ⟨rfl,m4⟩)) fun _ _ Y=>Y)) fun _ _ Y=>Y))
theorem U3 {EX:XK}{own:List Str}{m6:List Nat}{N':List Str}{u0 scope:Scope}{elt iter tg:Expr}{ifs:List Expr}{pos:Pos}{g:TG}{tc:TT}{te:TE}{cl:List (Str×Addr)}
  (u3:X.env.scope=u0) (S:YQ X.N u0 own m6 N' scope) (hc:X.calm=true)
  (j9:∀y c,cl.lookup y=some c->X.env.cells.lookup y=some c) (p0:∀y∈scope.names,y.2=.free->∃c,cl.lookup y.1=some c)
  (hg:∀cl C s H ex xe,PG (Wx X scope cl N' C s H ex xe) tg g) (ht:∀cl C s H ex xe,PIf (Wx X scope cl N' C s H ex xe) ifs tc) (he:∀cl C s H ex xe,WN (CXE X.prog X.w) (Wx X scope cl N' C s H ex xe) EX->PE (Wx X scope cl N' C s H ex xe) elt te)
  (hx:ZbY X EX) (u4:X.stack=X.env::X.outer) (y6:X.env.frame=some X.env.locals)
  {j7:List (Addr×Obj)}{σ:St}{H2:Hp}{s2:Shared}{it:Addr}{fp:List Addr}{tn:Nat->Heap->Prop}{J:It}{Q:VK}{RR:Value->Addr->Result->Shared->Prop}{E:Value->Shared->Prop}
  (I2:Inv X j7 σ H2 s2) (T:Ur X.prog X.w X.K tg J fp it tn) (p8:tn 0 s2.heap) (f2:∀b∈fp,Xh X j7 H2 b)
  (h:JV own m6 g tc te σ Q J H2)
  (y8:∀D C s' m H',s'.heap.Ns C m->C≠X.env.locals->(∀x c,X.env.cells.lookup x=some c->c≠C)->X.s₀.heap.objs.size<=C->(∀p∈X.pn++j7,p.1≠C)->H' C=none->Q (.ref D) H'->(∀h',bd C s'.heap h'->Inv X j7 σ H' {s' with heap:=h'})->RR (.ref D) C (.ok .next) s')
  (hRE:∀n5 C x s' m,s'.heap.Ns C m->(∀h',bd C s'.heap h'->∀l9:Env,l9.locals=C->wpAny (model X.prog X.w) X.A (passOn "comprehension.variables-let-go" x l9:Sem Value) (fun _ _=>False) X.xe {s' with heap:=h'})->RR n5 C (.error x) s') :
  wpAny (model X.prog X.w) X.A (newList []) (fun n5 u5=>wpAny (model X.prog X.w) X.A (newFunctionEnv scope X.env.globals cl [] X.env.qual none .none (some X.env)) (fun l9 u6=>
   codeAny (model X.prog X.w) X.A (.compStart (.ListComp elt [⟨tg,iter,ifs,0⟩] scope pos) 0 (.ref it) n5 {l9 with scope:=relabel scope X.env}) (RR n5 l9.locals) u6) E u5) E s2:=by
 refine bw (ZbA ?_);dsimp only;have hD:H2 s2.heap.objs.size=none:=I2.hok.fresh (Zq _);obtain⟨W,⟨m0,w0⟩,u7⟩:=h _ hD;generalize p9:s2.heap.push {cls:=.type "list",dict:=none,data:=.seq ([]:List Value).toArray}=Y;have hC:Y.objs.size=s2.heap.objs.size+1:=by rw[<-p9,bu]
 have p6:∀b o,s2.heap.get? b=some o->Y.get? b=some o:=fun b o e=>p9▸Zn _ e;have I3:Inv X j7 σ (upd H2 s2.heap.objs.size (.lst [])) {s2 with heap:=Y,toks:=s2.toks}:=
  I2.laid (t':=s2.toks) p6 (Zq _) ⟨aE _,[],0,.nil,p9▸Zo _ rfl⟩
 generalize r8:pushCells (Y.push {cls:=.type "dict",data:=.dict #[]}) scope.names=m3;have k1:∀b o,Y.get? b=some o->m3.get? b=some o:=fun b o e=>r8▸fN _ _ b o (Zn _ e);have n8:m3.Ns Y.objs.size (fun _=>none):=r8▸(Heap.Ns.new Y (.type "dict")).keeps (fN _ _);have n9:CellsOk m3 (Y.objs.size+1) (cellsFrom (Y.objs.size+1) scope.names []):=by
  have q:=cellsFrom_ok scope.names (Y.push {cls:=.type "dict",data:=.dict #[]}) (Y.objs.size+1) [] ⟨fun _ _ hm=>(nomatch hm),fz⟩ (by rw[bu];exact Zq _);rw[bu,r8] at q;exact q
 have m7:cellsFrom (Y.objs.size+1) scope.names cl=cellsFrom (Y.objs.size+1) scope.names []++cl:=Wy _ _ _;have m4:∀y,scope.names.lookup y=some .cell->∃c,(cellsFrom (Y.objs.size+1) scope.names []).lookup y=some c:=fun y hy=>eM.mp (cZ scope.names (Y.objs.size+1) [] (.inl hy));generalize hcA:cellsFrom (Y.objs.size+1) scope.names []=cA at n9 m7 m4;have u8:∀y c,cA.lookup y=some c->(y,bZ)∈scope.names:=fun y c e=>by
  have:=aR e;rw[<-hcA] at this;rcases Jk _ _ _ this with z|z
  ·exact z
  ·cases z
 generalize hcE:cellsFrom (Y.objs.size+1) scope.names cl=cE at m7;have m8:∀y c,cE.lookup y=some c->cA.lookup y=some c\/(cA.lookup y=none/\cl.lookup y=some c):=fun y c e=>by
  rw[m7,cz] at e;cases q:cA.lookup y with
  |none=>rw[q] at e;exact .inr ⟨rfl,by simpa using e⟩
  |some c'=>rw[q] at e;exact .inl (by simpa using e)
 have u9:∀y c,scope.names.lookup y=some .free->cl.lookup y=some c->cE.lookup y=some c:=fun y c hy e=>by
  rw[m7,cz];cases q:cA.lookup y with
  |none=>simpa using e
  |some c'=>
   have:=Wp S.ndn (u8 y c' q);rw[hy] at this;cases this
 have fpn:∀b∈fp,upd H2 s2.heap.objs.size (.lst []) b=none:=fun b hb=>by
  obtain⟨o,ho,_⟩:=T.obj _ _ p8 b hb;rw[ZB (aA (Zp ho))];exact (f2 b hb).1
 have m9:∀b∈fp,b<Y.objs.size:=fun b hb=>by
  obtain⟨o,ho,_⟩:=T.obj _ _ p8 b hb;rw[hC];exact gE (Zp ho)
 generalize v8:notedBy (model X.prog X.w) X.A (compEnvC scope cE Y.objs.size X.env) (fun x s'=>RR (.ref s2.heap.objs.size) Y.objs.size (.error x) s')=EE;generalize O:Wx X scope cE N' Y.objs.size {s2 with heap:=Y,toks:=s2.toks} (upd H2 s2.heap.objs.size (.lst [])) fp EE=X';have v9:X'.fs=frs X.stack:=by rw[<-O];rfl
 have t0:∀y,X'.env.kindOf y=some .cell\/X'.env.kindOf y=some .free->∃c,cE.lookup y=some c:=fun y hy=>by
  have hy':(relabel scope X.env).names.lookup y=some .cell\/(relabel scope X.env).names.lookup y=some .free:=by rw[<-O] at hy;exact hy
  have hf:scope.names.lookup y=some .free->∃c,cE.lookup y=some c:=fun hf=>by
   obtain⟨c,l8⟩:=p0 _ (Yj hf) rfl;exact⟨c,u9 y c hf l8⟩
  have o4:scope.names.lookup y=some .cell->∃c,cE.lookup y=some c:=fun hf=>by
   obtain⟨c,l8⟩:=m4 y hf;exact⟨c,by rw[m7,cz,l8];rfl⟩
  rcases hy' with q|q
  ·rcases Ya q with z|z
   ·exact o4 z
   ·exact hf z.2
  ·rcases Ya q with z|z
   ·exact hf z
   ·exact absurd z.1 (by decide)
 have l7:X'.env.cells=cE:=by rw[<-O];rfl
 have j8:X'.env.locals=Y.objs.size:=by rw[<-O];rfl
 have cne:∀x c,cl.lookup x=some c->c≠Y.objs.size/\c<Y.objs.size:=fun x c e=>by
  obtain⟨v,q⟩:=I3.cell x c (j9 x c e);exact⟨aA q.lt,q.lt⟩
 have j4:∀x c,cA.lookup x=some c->Y.objs.size+1<=c:=fun x c e=>(n9.empty x c (aR e)).2;have w6:∀x y c,cE.lookup x=some c->cE.lookup y=some c->x=y:=fun x y c a b=>by
  rcases m8 x c a with a|⟨_,a⟩ <;> rcases m8 y c b with b|⟨_,b⟩
  ·exact jp n9.apart (aR a) (aR b)
  ·have h1:Y.objs.size+1<=c:=j4 x c a
   exact absurd (ak (cne y c b).2 (bi h1)) (a9 _)
  ·have h1:Y.objs.size+1<=c:=j4 y c b
   exact absurd (ak (cne x c a).2 (bi h1)) (a9 _)
  ·exact I3.ok.inj x y c (j9 x c a) (j9 y c b)
 have ok':X'.Ok:=by
  refine O▸⟨I3.ok.mod,S.kind,I3.ok.glob,I3.ok.blt,Zq _,w6,?_,?cab,I3.ok.hd,I3.ok.frames,.inl rfl,?_,?_,?_,?_,?_,I3.stack,I3.stkFree⟩
  ·intro y hy
   exact t0 y (by rw[<-O];exact hy)
  ·intro x c z e
   have hm:=Wp S.ndn (VJ z);rcases m8 x c e with e|⟨n,_⟩
   ·exact bi (j4 x c e)
   ·obtain⟨c',l8⟩:=m4 x hm
    rw[n] at l8;cases l8
  ·intro b hb
   refine⟨aA (m9 b hb),fun x c e=>?_⟩;rcases m8 x c e with e|⟨_,e⟩
   ·have h1:Y.objs.size+1<=c:=j4 x c e
    exact fun z=>absurd (ak (m9 b hb) (bi h1)) (by rw[z];exact a9 _)
   ·exact (f2 b hb).2.2.2.2.1 x c (j9 x c e)
  ·exact I3.bs
  ·exact aK I3.ok.bsz I3.sz
  ·intro b o e hb
   rcases (f2 b hb).2.2.2.1 with z|z
   ·exact I3.ok.noex b o e z
   ·exact absurd (ak (Zp e) (aK I3.ok.bsz z)) (a9 _)
  ·intro b hb z
   rcases aj.mp (I3.stkSub b z) with e|e
   ·exact (f2 b hb).2.1 e
   ·exact (f2 b hb).2.2.1 e
 have I4:Inv X' [] (Jz own m6 σ) (upd H2 s2.heap.objs.size (.lst [])) {s2 with heap:=m3,toks:=s2.toks}:=by
  refine⟨ok',O▸rfl,I3.bare,?_,⟨_,by rw[j8];exact n8,?_⟩,?_,?_,?_,?_,?_,?_⟩
  ·rw[<-O];exact Un.kept k1
  ·intro i x v hN m5 hV
   have t5:N'[i]?=some x:=by rw[<-O] at hN;exact hN
   unfold Jz at m5;by_cases hi:i<own.length
   ·rw[a6 (by simpa using hi),cp] at m5
    rw[if_pos hi] at m5;cases m5
   ·rw[aP (by simpa using hi),Ze,Zc] at m5
    rw[S.eqN,aP (by omega),Zc] at t5;cases hj:m6[i-own.length]? with
    |none=>rw[hj] at m5;cases m5
    |some j=>
     rw[hj] at m5 t5;have hx:X.N.getD j ""=x:=ay t5;obtain⟨w8,n4⟩:=S.cap j (aN hj);rw[hx] at n4;have hjN:X.N[j]?=some x:=by
      rw[Zf w8,<-hx,Zb,Zf w8];rfl
     have hv:σ[j]?=some (some v):=by
      have q:(σ[j]?).join=some v:=ay m5;cases q':σ[j]? with
      |none=>rw[q'] at q;cases q
      |some o=>rw[q'] at q;rw[show o=some v from q]
     have t6:=S.fr (x,.free) (Yj n4) rfl;rw[<-u3] at t6;obtain⟨m,hn,hl⟩:=I3.loc;have w9:Vis X.env.scope x:=t6.elim (fun z=>.inr (.inl z)) fun z=>.inr (.inr z);obtain⟨u,ru,look⟩:=hl j x v hjN hv w9;refine⟨u,ru,?_⟩;obtain⟨c,o4⟩:=p0 (x,.free) (Yj n4) rfl;rcases look with ⟨a,_⟩|⟨_,c',l8,t7⟩
     ·rcases t6 with z|z
      ·rw[show X.env.kindOf x=X.env.scope.names.lookup x from rfl,z] at a;cases a
      ·rw[show X.env.kindOf x=X.env.scope.names.lookup x from rfl,z] at a;cases a
     ·have:c'=c:=by rw[j9 _ _ o4] at l8;cases l8;rfl
      subst this;refine .inr ⟨?_,c',by rw[l7];exact u9 _ _ n4 o4,t7.keeps k1⟩;rcases hV with q|q|q
      ·have q':(relabel scope X.env).names.lookup x=some .local:=by rw[<-O] at q;exact q
       rcases Ya q' with z|z
       ·rw[n4] at z;cases z
       ·exact absurd z.1 (by decide)
      ·exact .inl q
      ·exact .inr q
  ·intro x c e
   rw[l7] at e;rcases m8 x c e with e|⟨_,e⟩
   ·exact⟨_,(n9.empty x c (aR e)).1⟩
   ·obtain⟨v,q⟩:=I3.cell x c (j9 x c e)
    exact⟨v,q.keeps k1⟩
  ·rw[j8];exact I3.hok.fresh (Zq _)
  ·intro x c e
   rw[l7] at e;rcases m8 x c e with e|⟨_,e⟩
   ·exact I3.hok.fresh (bi (j4 x c e))
   ·exact I3.freeC x c (j9 x c e)
  ·intro p hp
   have:p∈([]:List (Addr×Obj)):=by rw[<-O] at hp;exact hp
   cases this
  ·rw[<-O];exact I3.hok.kept k1
  ·rw[<-O]
   show (Jz own m6 σ).length=N'.length;unfold Jz;rw[S.eqN,Zd,Zd,Ze,Za,Za]
 have pX:X'.prog=X.prog:=by rw[<-O];rfl
 have wX:X'.w=X.w:=by rw[<-O];rfl
 have KX:X'.K=X.K:=by rw[<-O];rfl
 have AX:X'.A=X.A:=by rw[<-O];rfl
 have cX:X'.calm=true:=by rw[<-O];exact hc
 have xX:X'.xe=EE:=by rw[<-O];rfl
 have envX:X'.env=compEnvC scope cE Y.objs.size X.env:=by rw[<-O];rfl
 have x6:X'.ex=fp:=by rw[<-O];rfl
 have hg':PG X' tg g:=O▸hg _ _ _ _ _ _;have ht':PIf X' ifs tc:=O▸ht _ _ _ _ _ _;have t8:∀{H':Hp},(∀b∈fp,H' b=none)->∀b∈fp,Xh X' [] H' b:=fun {H'} hn b hb=>by
  refine⟨hn b hb,?_,?_,?_,?_,?_⟩
  ·rw[j8];exact aA (m9 b hb)
  ·rw[v9];intro z
   rcases aj.mp (I3.stkSub b z) with e|e
   ·exact (f2 b hb).2.1 e
   ·exact (f2 b hb).2.2.1 e
  ·rw[x6];exact .inl hb
  ·intro x c e
   rw[l7] at e;rcases m8 x c e with e|⟨_,e⟩
   ·have h1:Y.objs.size+1<=c:=j4 x c e
    exact fun z=>absurd (ak (m9 b hb) (bi h1)) (by rw[z];exact a9 _)
   ·exact (f2 b hb).2.2.2.2.1 x c (j9 x c e)
  ·intro p hp
   have:p∈([]:List (Addr×Obj)):=by rw[<-O] at hp;exact hp
   cases this
 have x8:tn 0 m3:=T.keep _ _ _ p8 fun b hb o e=>k1 b o (p6 b o e);have back:∀{j6:St}{H':Hp}{s':Shared}{pp:List (Addr×Obj)}{h':Heap},Inv X' pp j6 H' s'->bd Y.objs.size s'.heap h'->Inv X j7 σ H' {s' with heap:=h'}:=fun {j6 H' s' pp h'} I' sb=>by
  have u:=I'.base;rw[v9,x6] at u;have hs0:X'.s₀.heap=Y:=by rw[<-O];rfl
  have hH0:X'.H₀=upd H2 s2.heap.objs.size (.lst []):=by rw[<-O];rfl
  rw[hs0,hH0] at u;have ne:∀b o,Y.get? b=some o->b≠Y.objs.size:=fun b o e=>aA (Zp e);have x9:H' Y.objs.size=none:=by have:=I'.free;rw[j8] at this;exact this
  refine I3.call' (s':={s' with heap:=h'}) (ch:=fp) ?_ ⟨?_,?_,?_,?_,?_,?_,?_⟩ ?_ I'.bare ?_
  ·have:=I'.os;rw[<-O] at this;exact this
  ·intro b o e n hb hx;exact sb.extBut b o (ne b o e) (u.keep b o e n hb hx)
  ·intro b o e n hb hx
   obtain⟨sl,q⟩:=u.slot b o e n hb hx;exact⟨sl,sb.extBut b _ (ne b o e) q⟩
  ·exact u.free
  ·intro b o e hx
   obtain⟨o',q⟩:=u.there b o e hx;exact⟨o',sb.extBut b _ (ne b o e) q⟩
  ·exact u.tups
  ·exact u.frzs
  ·exact u.tbls
  ·have y1:=I'.hok
   rw[pX,wX] at y1;intro a o e;refine (y1 a o e).stay (fun b v hb r=>sb.extBut b v ?_ r) (fun b r=>r) fun b xs r=>r;rcases hb with rfl|hb
   ·intro z;rw[z,x9] at e;cases e
   ·intro z;rw[z,x9] at hb;cases hb
  ·intro b hb
   refine⟨(f2 b hb).2.2.2.1,(f2 b hb).2.1,(f2 b hb).2.2.2.2.1,(f2 b hb).2.2.2.2.2⟩
 have hps:WN (CXE X.prog X.w) X' EX:=by
  intro ps j6 H' s e s' I' hh;have hh:CXE X'.prog X'.w X'.stack H' s EX e s':=by rw[pX,wX];exact hh
  obtain⟨a,C0,d,T0,H1,rfl,J0,x0,la,lT,q0⟩:=I'.afterX hh;rw[xX,<-v8];show wpAny _ _ (noteFrame _ _) _ _ _;rw[Ua (env:=compEnvC scope cE Y.objs.size X.env) (env':=X.env) rfl];have sX:X'.stack=X.stack:=by rw[<-O];rfl
  have fr:=J0.ok.frames;have st:=J0.stack;rw[sX,u4] at fr st;rw[AX] at fr;refine PyX.VC fr st y6 x0 fun h' T' nT x1 k=>?_;rw[<-u4,<-sX] at k;have J1:Inv X' ps j6 H1 {s' with heap:=h'}:=J0.but (t':=s'.toks) k fun b hb=>by
   rcases aj.mp hb with rfl|hb
   ·exact la
   ·obtain rfl:b=T0:=by simpa using hb
    exact lT
  obtain⟨m,hn,_⟩:=id J1.loc;rw[j8] at hn;have g0:X'.s₀.heap.objs.size=Y.objs.size:=by rw[<-O];rfl
  have aC:a≠Y.objs.size:=by have:=la.2.2.1;rw[j8] at this;exact this
  have ll:=J0.lt;rw[j8] at ll;have tC:T'≠Y.objs.size:=bz (ak ll nT);have lo:∀b,Y.objs.size<=b->H1 b=none->Yx X j7 H1 b:=fun b hb n=>by
   obtain⟨h1,_,h3,h4,h5⟩:=I3.loose hb (I3.hok.fresh hb);exact⟨h1,n,h3,h4,h5⟩
  have lA:Yx X j7 H1 a:=lo a (by rw[<-g0];exact la.1) la.2.1;have y2:Yx X j7 H1 T':=lo T' (aK (gF ll) nT) (J0.hok.fresh nT);refine hRE _ _ _ _ m hn fun h2 sb l9 l8=>?_;have J2:=back J1 sb;refine PyX.ZeA (x1.sameBut sb aC tC) fun h3 fl' x3 k3=>?_;exact hx j7 σ H1 _ a C0 d T' fl' (J2.but (t':=s'.toks) k3.nil fun b hb=>by
   obtain rfl:b=T':=by simpa using hb
   exact y2) x3 lA y2 q0
 have he':PE X' elt te:=O▸he _ _ _ _ _ _ (O.symm▸hps);have p7:∀s3:Shared,s3={s2 with heap:=m3,toks:=s2.toks}->
   codeAny (model X.prog X.w) X.A (.compLoop (.ListComp elt [⟨tg,iter,ifs,0⟩] scope pos) 0 (.ref it) (.ref s2.heap.objs.size) (compEnvC scope cE Y.objs.size X.env)) (RR (.ref s2.heap.objs.size) Y.objs.size) s3:=by
  rintro s3 rfl;refine WP (fun n s'=>∃i j6 H',Inv X' [] j6 H' s'/\tn i s'.heap/\(∀b∈fp,H' b=none)/\W i n j6 H') ?_ m0 ⟨0,_,_,I4,x8,fpn,w0⟩;rintro n s5 ⟨i,o5,H5,I5,y3,y4,w5⟩;rw[v8];rcases u7 i n o5 H5 w5 with ⟨stop,qn⟩|⟨go,N,hN,step⟩
  ·have q:=T.done X' pX wX KX cX i [] s5 o5 H5 EE I5 (t8 y4) y3 stop
   rw[AX] at q;refine ZW q fun r s6 ⟨hr,I6⟩=>?_;subst hr;obtain⟨m,hn,_⟩:=I6.loc;rw[j8] at hn;refine y8 _ _ s6 m H5 hn ?_ ?_ I3.sz ?_ ?_ qn fun h' sb=>back I6 sb
   ·exact bz I3.lt
   ·intro x c e
    obtain⟨v,q⟩:=I3.cell x c e;exact aA q.lt
   ·intro pp hpp
    exact aA (Zp (I3.pin pp hpp).1)
   ·have:=I6.free;rw[j8] at this;exact this
  ·have q:=T.item X' pX wX KX cX i [] s5 o5 H5 EE I5 (t8 y4) y3 go
   rw[AX] at q;refine ZW q fun r s6 ⟨u,hr,h6⟩=>?_;subst hr;refine ZW h6 fun _ s7 ⟨x,H7,I7,r7,y7,t9,fr7⟩=>?_;have I7':=I7.pinned (t8 fr7) (T.obj _ _ t9);have q8:=hg' _ s7 o5 H7 x u _ I7' r7 (step x H7 y7);rw[pX,wX,AX,envX,xX] at q8;refine ZW q8 fun _ s8 ⟨o6,H8,I8,q8⟩=>?_;have q9:=ht' _ s8 o6 H8 _ I8 q8;rw[pX,wX,AX,envX,xX] at q9;have again:∀{j6:St}{H':Hp}{s':Shared},Inv X' ([]++Jr fp s7.heap) j6 H' s'->N j6 H'->∃m,m<n/\∃i j6 H',Inv X' [] j6 H' s'/\tn i s'.heap/\(∀b∈fp,H' b=none)/\W i m j6 H':=fun {j6 H' s'} I' n'=>by
    obtain⟨m',hm,w'⟩:=hN j6 H' n';refine⟨m',hm,i+1,j6,H',I'.unpinned,T.keep _ _ _ t9 fun b hb o e=>(I'.pin (b,o) (am _ (am _ (Yr hb e)))).1,fun b hb=>?_,w'⟩;obtain⟨o,e,d⟩:=T.obj _ _ t9 b hb;exact (I'.pin (b,o) (am _ (am _ (Yr hb e)))).2.1
   refine ZW q9 fun ok s9 ⟨H9,I9,q9⟩=>?_;cases ok with
   |false=>
    simp only[gl,if_false] at q9 ⊢;exact again I9 q9
   |true=>
    simp only[if_true] at q9 ⊢;have o8:=he' _ s9 o6 H9 _ I9 q9;rw[pX,wX,AX,envX,xX] at o8;refine ZW o8 fun y s10 ⟨v,H10,I10,rv,xs,hxs,hz,o8⟩=>?_;have o9:=YC (X:=X') _ s10 o6 H10 (.ref s2.heap.objs.size) [v] (.ref s2.heap.objs.size) [y] (fun _ H'=>N o6 H') I10 rfl (.cons rv .nil) ⟨_,xs,v,rfl,rfl,hxs,hz,o8⟩;rw[pX,wX,AX,xX] at o9;exact ZW o9 fun _ s11 ⟨_,H11,I11,_,o9⟩=>again I11 o9
 exact jr (p7 _ rfl) (T.self _ 0 _ _ _ x8 (p7 _ rfl))
theorem Zdh {own:List Str}{j:List Nat}{N':List Str}{j4 scope:Scope}{elt iter tg:Expr}{ifs:List Expr}{pos:Pos}{wi:TI}{g:TG}{tc:TT}{te:TE}{EX:XK}
  (z:X.env.scope=j4) (S:YQ X.N j4 own j N' scope) (hc:X.calm=true) (hx:ZbY X EX) (j9:X.stack=X.env::X.outer) (l7:X.env.frame=some X.env.locals) (hi:PI X tg iter wi)
  (hg:∀Y C s H ex xe,PG (Wx X scope Y N' C s H ex xe) tg g) (ht:∀Y C s H ex xe,PIf (Wx X scope Y N' C s H ex xe) ifs tc) (he:∀Y C s H ex xe,WN (CXE X.prog X.w) (Wx X scope Y N' C s H ex xe) EX->PE (Wx X scope Y N' C s H ex xe) elt te)
  (hs:∀x,foldedSetIterable iter X.env x=pure x:=by intro _;rfl) :
  PE X (.ListComp elt [⟨tg,iter,ifs,0⟩] scope pos) (Vx own j wi g tc te):=by
 intro O s σ H Q I h;obtain⟨Y,l8,j6,j7⟩:=Jx (scope:=scope) (env:=X.env) fun y hy hf=>by
  have:=S.fr y hy hf;rw[<-z] at this;exact I.ok.has y.1 this
 rw[eval_ListComp];refine fy (use:=none) rfl hs l8 S.kind S.uniq (ZW (hi O s σ H _ I h) fun v s1 h1=>ZW h1 fun m3 s2 h2=>?_);obtain⟨it,fp,tn,J,H2,e,I2,T,l9,f2,q⟩:=h2;subst e;refine U3 (RR:=fun j8 C=>compPost (model X.prog X.w) X.A X.xe none (EP X O σ Q) j8 C) z S hc j6 j7 hg ht he hx j9 l7 I2 T l9 f2 q ?_ ?_
 ·intro D C s' m H' hn _ _ _ _ _ q' hb
  exact⟨m,hn,fun h' sb=>⟨.ref D,H',hb h' sb,rfl,q'⟩⟩
 ·intro j8 C x s' m hn hq
  exact⟨m,hn,hq⟩
theorem Zjj (J:List Str)(j:List Nat)(O:List Str){scope:Scope}{elt iter Y:Expr}{ifs:List Expr}{pos:Pos}{wi:TI}{g:TG}{tc:TT}{te:TE}{EX:XK}(hc:X.calm=true)(hx:ZbY X EX)(hi:PI X Y iter wi)
  (hg:∀z C s H ex xe,PG (Wx X scope z O C s H ex xe) Y g) (ht:∀z C s H ex xe,PIf (Wx X scope z O C s H ex xe) ifs tc) (he:∀z C s H ex xe,WN (CXE X.prog X.w) (Wx X scope z O C s H ex xe) EX->PE (Wx X scope z O C s H ex xe) elt te)
  (j4:X.stack=X.env::X.outer:=by rfl) (j6:X.env.frame=some X.env.locals:=by rfl)
  (hS:Ve X.N X.env.scope J j O scope=true:=by kernel_rfl) (hs:∀x,foldedSetIterable iter X.env x=pure x:=by intro _;rfl) :
  PE X (.ListComp elt [⟨Y,iter,ifs,0⟩] scope pos) (Vx J j wi g tc te):=Zdh rfl (.of hS) hc hx j4 j6 hi hg ht he hs
end
section
variable {X:Cx}{pins:List (Addr×Obj)}{σ:St}{H:Hp}{s:Shared}{D:YH}{a:Addr}
noncomputable def VT (X:Cx)(z:Addr)(ts:TS)(D:YH):XK:=fun cls d H=>∃C N J j Y O,cls=.ref C/\PyX.JA X.base C N J j/\PyX.JA X.base z Y O j/\
 O.contains (.type "BaseException")=true/\(au C::J).contains (.ref z)=true/\ts D (noSt X) H
theorem Ze9 {C T L:Addr}{d:Option Addr}{Dc:Addr}{x:Str}{np hp:Pos}{b0:Stmt}{suite:List Stmt}{ts:TS}
  (I:Inv X pins σ H s) (e:PyX.Ex s.heap a C d T (rawInt L)) (lT:Yx X pins H T)
  (hg:Gl X x) (hm:X.mg x=some (.ref Dc)) (j4:(x == ("__debug__":Str))=false)
  (hs:Vi (X.suite a pins) (b0::suite) ts) (q:VT X Dc ts D (.ref C) d H) :
  wpAny (model X.prog X.w) X.A (setFlight (.ref a) none)
   (fun _ s3=>wpAny (model X.prog X.w) X.A (handleBy (.ref a) X.env [.ExceptHandler (some (.Name x np)) none (b0::suite) hp]) (SP X pins D) X.xe s3) X.xe s:=by
 obtain⟨C',N,bm,j8,ND,bD,hC,ic,j6,hb,j7,q⟩:=q;cases hC;refine PyX.YV e fun h1 e1 k1=>?_;have Y:Inv X pins σ H {s with heap:=h1}:=I.but (t':=s.toks) k1.nil fun b hb=>by
  obtain rfl:b=T:=by simpa using hb
  exact lT
 refine wpAny_handleBy_cons (jE (Je (X:=X.suite a pins) Y.toSuite hg hm ?_ j4)) (by intro z;cases z);obtain⟨vs,oT,tl,ea,_⟩:=id e1;refine PyX.Xj (ic.keeps Y.bk) (j6.keeps Y.bk) ea rfl hb j7 ?_;simp only[if_true];refine codeAny_handlers_suite (PyX.YV e1 fun h2 e2 k2=>?_);have I2:Inv X pins σ H {s with heap:=h2}:=Y.but (t':=s.toks) k2.nil fun b hb=>by
  obtain rfl:b=T:=by simpa using hb
  exact lT
 have I3:=I2.noSt.toSuite (a:=a);refine aY (hs [] _ _ _ D I3 q) (fun f s5 h5=>?_) fun _ _ z=>bA z;have back:∀{j:St}{O:Hp},Inv (X.suite a pins) [] j O s5->Inv X pins j O s5:=fun J=>J.ofSuite I.ok.hd;cases f with
 |next=>
  obtain⟨j,O,J,z⟩:=h5;exact⟨j,O,back J,z⟩
 |brk=>
  obtain⟨j,O,J,z⟩:=h5;exact⟨j,O,back J,z⟩
 |cont=>
  obtain⟨j,O,J,z⟩:=h5;exact⟨j,O,back J,z⟩
 |ret u=>
  obtain⟨v,j,O,J,r,z⟩:=h5;exact⟨v,j,O,back J,r,z⟩
section
variable {Dc:Addr}{x:Str}{np hp:Pos}{b0:Stmt}{suite:List Stmt}{ts:TS}
theorem Za2 (hg:Gl X x)(hm:X.mg x=some (.ref Dc))(Y:(x == ("__debug__":Str))=false)
  (j:X.stack=X.env::X.outer) (hf:X.env.frame=some X.env.locals) (hs:∀a,Vi (X.suite a pins) (b0::suite) ts) :
  ZbY (X.tryc D pins [.ExceptHandler (some (.Name x np)) none (b0::suite) hp]) (VT X Dc ts D):=by
 intro ps σ H s a C d T fl I z la lT q;show wpAny _ _ _ _ _ _;have J:=I.ofTry;have fr:=J.ok.frames;have st:=J.stack;have lo:∀b,Yx (X.tryc D pins [.ExceptHandler (some (.Name x np)) none (b0::suite) hp]) ps H b->Yx X pins H b:=
  fun b ⟨h1,h2,h3,h4,h5⟩=>⟨h1,h2,h3,h4,fun p hp=>h5 p (bE _ hp)⟩
 rw[j] at fr st;refine PyX.Zdn (base:=X.base) fr st hf z fun h' T' O z' k=>?_;rw[<-j] at k;have J2:Inv X pins σ H {s with heap:=h'}:=J.but (t':=s.toks) k fun b hb=>by
  rcases aj.mp hb with rfl|hb
  ·exact lo _ la
  ·obtain rfl:b=T:=by simpa using hb
   exact lo _ lT
 have j4:Yx X pins H T':=by
  rcases O with O|rfl
  ·exact J.loose O (J.hok.fresh O)
  ·exact lo _ lT
 exact Ze9 J2 z' j4 hg hm Y (hs a) q
end
end
section
variable {P:Program}{w:World}{K:ac}{mg:Str->Option Value}{base:Heap}{N:List Str}{qual:Str}{scope:Scope}{f:Addr}{cd:Value}
variable {A:Around}{outer:List Env}{s:Shared}{H:Hp}{E:XK}
end
theorem Vc (Pr:Nat->V->Hp->Prop){J:It}{own:List Str}{j6:List Nat}{te:TE}{σ:St}{H:Hp}{Q:VK}{xs:List V}(S:WA J H xs)(cs:St)(j8:Jz own j6 σ=none::cs)(hn:xs.length<=1000)
  (mono:∀i v H z,Zx H z->Pr i v H->Pr i v z) (hu:∀i v H D Y j9,Pr i v H->H D=some (.lst Y)->Pr i v (upd H D (.lst j9)))
  (hs:∀(i:Nat) y,xs[i]?=some y->∀z,Zx H z->∀R:VK,(∀v H5,Zx z H5->Pr i v H5->R v H5)->te (some y::cs) z R)
  (hd:∀D (vs:List V) z,H D=none->Zx H z->z D=some (.lst vs)->vs.length=xs.length->(∀(i:Nat) v,vs[i]?=some v->Pr i v z)->Q (.ref D) z):JV own j6 (Ye 0) JC te σ Q J H:=by
 refine U2 (xs:=xs) (fun D i Y z=>Zx H z/\Y.length=i/\∀(j:Nat) v,Y[j]?=some v->Pr j v z) cs j8 (by omega) ?_ ?_ ?_ ?_
 ·intro D i Y z hD j4 p
  have S':=S.mono p.1;exact⟨fun hi=>⟨S'.go i z (Zx.refl _) hi,fun x H3 y=>S'.yld i z x H3 (Zx.refl _) hi y⟩,fun e=>e▸S'.stop z (Zx.refl _)⟩
 ·intro D hD
  exact⟨Zx.upd hD,rfl,fun j v hv=>by cases hv⟩
 ·rintro D i y Y z hD j4 hy ⟨sm,yl,hp⟩ R k
  refine hs i y hy z sm R fun v H5 s5 p5=>?_;have j7:=s5 _ _ j4;refine k v H5 j7 ⟨(sm.trans s5).updr hD,by rw[Zd,yl];rfl,fun j u O=>?_⟩;by_cases hj:j<Y.length
  ·rw[a6 hj] at O
   exact hu _ _ _ _ _ _ (mono _ _ _ _ s5 (hp j u O)) j7
  ·rw[aP (by omega)] at O
   have l7:j-Y.length=0:=by
    have:=(aH.mp O).1;rw[Zk] at this;omega
   rw[l7] at O;cases O;have:j=i:=by omega
   rw[this];exact hu _ _ _ _ _ _ p5 j7
 ·rintro D Y z hD j4 yl ⟨sm,_,hp⟩
  exact hd D Y z hD sm j4 yl hp
theorem slK {X:Cx}(K:ac)(j:X.K=K:=by rfl):SlR X (Zek K):=j▸ZV
end L2
namespace C63
open PySem L2 PySem.Spec PyProof.Rows PySem.NumText
open Tx Pm
noncomputable abbrev sNs:Stmt:=top 31
noncomputable def Jn (H:Hp)(r:Addr)(j:List (List Int)):Prop:=∃rs:List Addr,H r=some (.tup (rs.map V.ref))/\rs.length=j.length/\∀(i:Nat) b,rs[i]?=some b->∃y,j[i]?=some y/\H b=some (.tup (y.map V.int))
theorem Jn.mono {H z:Hp}{r:Addr}{j:List (List Int)}(h:Jn H r j)(s:Zx H z):Jn z r j:=by
 obtain⟨J,O,Y,h3⟩:=h;exact⟨J,s _ _ O,Y,fun i b hb=>by obtain⟨y,e1,e2⟩:=h3 i b hb;exact⟨y,e1,s _ _ e2⟩⟩
theorem Zbq {vs:List V}(h:∀(i:Nat) v,vs[i]?=some v->∃r,v=V.ref r):∃j:List Addr,vs=j.map V.ref:=by
 induction vs with
 |nil=>exact⟨[],rfl⟩
 |cons v vs z=>
  obtain⟨r,rfl⟩:=h 0 v rfl;obtain⟨j,rfl⟩:=z fun i u J=>h (i+1) u J;exact⟨r::j,rfl⟩
noncomputable def Zhw:Sp:=fun O H Q _=>∃(n cnt:Nat) (J:List (List Nat)),O=[.int n,.int (cnt:Nat),.str (tx (Xw J))]/\1<=n/\n<=60/\cnt<=60/\Xg J/\(rwN (N63.YN n).toNat cnt J=none->∀j,Zx H j->Q .non j)/\∀z,rwN (N63.YN n).toNat cnt J=some z->∀r j,Zx H j->Jn j r z->Q (.ref r) j
section
variable {P:Program}{w:World}{K:ac}{mg:Str->Option Value}{base:Heap}{T U:Addr}{et:Array DictEntry}{c:Nat->Ec}
theorem ZdZ {X:Cx}(S:Cs K mg T U et c)(j:K.In base){k:Nat}(z:k<12){ts:TS}{D:YH}{d:Option Addr}{H:Hp}(J:X.base=base)(h:ts D (noSt X) H):VT X (c k).C ts D (.ref (c k).C) d H:=by
 subst J;have two:=(S.ok k z).two S.tb j;refine⟨_,_,_,_,_,_,rfl,two.c.ex,two.c.ex,?_,?_,h⟩
 ·rfl
 ·rw[aW];simp
theorem Zh7 {f:Addr}{fd:FuncData}(F:WT K "read_numbers" "read_numbers" sNs f fd)(B:N63.Bl mg)(S:Cs K mg T U et c)(hI:K.In base)(GR:Fn P w K mg base (CXE P w) 3 "read_number" ["n", "text"] (Zc2 c)):Z8 P w K mg base YD 4 f fd ["n", "count", "line"] Zhw:=by
 refine F.ok (FS (N:=["n", "count", "line", "words"])) (fun vs H Q E h=>?_) (fun m4 A j7 s H vs Q E hr h=>?_)
 ·obtain⟨n,cnt,ws,rfl,_⟩:=h;rfl
 ·obtain⟨n,cnt,ws,rfl,n1,j8,m5,ok,qn,qs⟩:=h
  refine⟨_,Zt (ZJ 3 rfl (Y6 aQ bp bP Wq (vn 2) (pc ZA Zs)))
   (Zt (ZQ (YJ (Zy Y7 (ZP (Vq K) (vn 3) Zu (fun _ _=>rfl)) ZA (Zz _)) (Wf (Zy Y7 (cb (Ws K) B.len (pc (vn 3) Zs)) (ZD Z9 (vn 1) Zu) (Zz _)))).pt (Zw (ZF Yd)) ZE)
   (Zw (Zde (fun D l9=>Zw (ZF (ct (tupK K) B.tuple (pc (Zjj ["word"] [0] ["word", "n"] rfl (Za2 (YU (by kernel_rfl)) (S.mgC 10 (by decide)) (by kernel_rfl) rfl rfl (fun a=>Zw (ZF Yd))) (itL K (ZG (slK K) (vn 3) (ZK Zu) ZM)) (fun _ _ _ _ _ _=>gn 0) (fun _ _ _ _ _ _=>YR) (fun _ _ _ _ _ _ ps=>Wc GR hr ps (pc (vn 1) (pc (vn 0) Zs)))) Zs))))))),?_⟩
  have hz:(16777216:Nat)=sizeLine:=by decide
  have m3:=ok.len;refine⟨_,rfl,rfl,_,_,rfl,rfl,by decide +kernel,by rw[ZC];omega,fun W nW=>?_⟩;rw[JW,show tx [32]=(⟨#[32]⟩:Str) from rfl,ok.spl,Jd];have s1:=Zx.upd (H:=H) (o:=.lst (ws.map wV)) nW;have hW:=Zv (H:=H) (a:=W) (o:=.lst (ws.map wV));generalize upd H W (.lst (ws.map wV))=H1 at s1 hW ⊢;obtain⟨hd,r,rfl⟩:=bU ok.ne;have j9:=ok.le;rw[Zi] at j9;refine⟨_,rfl,_,_,_,_,rfl,rfl,.of hW,ZT (j:=0) rfl,rfl,_,rfl,?_⟩;rw[Zfo,show wV hd=V.str (tx hd) from rfl,Y8];refine ZO (fun h1=>?_) (fun h1=>?_)
  ·have h1:¬hd=JX:=by simpa using h1
   refine YF ?_;exact qn (by show (if _ then _ else _)=_;rw[if_neg fun z=>h1 z.1]) H1 s1
  have h1:hd=JX:=by simpa using h1
  refine⟨_,rfl,W,_,rfl,.inl (.of hW),_,rfl,_,_,rfl,rfl,rfl,_,rfl,?_⟩;rw[Za,Zi];have O:decide (V.int ((r.length+1:Nat):Int)=V.int ((cnt:Int)+1))=decide (r.length=cnt):=by
   rw[be,decide_eq_true_eq,decide_eq_true_eq];exact⟨fun h=>by have:=V.int.inj h;omega,fun h=>by rw[h];rfl⟩
  rw[O];refine ZO (fun h2=>?_) (fun h2=>?_)
  ·have h2:¬r.length=cnt:=by simpa using h2
   exact qn (by show (if _ then _ else _)=_;rw[if_neg fun z=>h2 z.2.1]) H1 s1
  have h2:r.length=cnt:=by simpa using h2
  refine⟨_,rfl,_,rfl,W,_,rfl,.of hW,fun W2 l7=>?_⟩;rw[aZ,Xl];have s2:=Zx.upd (H:=H1) (o:=.lst (r.map wV)) l7;have j4:=Zv (H:=H1) (a:=W2) (o:=.lst (r.map wV));generalize upd H1 W2 (.lst (r.map wV))=H2 at s2 j4 ⊢;refine⟨W2,rfl,⟨_,.of j4⟩,?_⟩;refine Vc (fun i v H=>∃J xs b,r[i]?=some J/\We (N63.YN n).toNat J=some xs/\v=.ref b/\H b=some (.tup (xs.map V.int))) (WD (.of j4)) [some (.int n)] rfl (by rw[Za];omega)
   (fun i v H H' s ⟨J,xs,b,Y,O,e3,e4⟩=>⟨J,xs,b,Y,O,e3,s _ _ e4⟩)
   (fun i v H D ys m6 ⟨J,xs,b,Y,O,e3,e4⟩ hD=>⟨J,xs,b,Y,O,e3,by
    rw[ZB (fun z=>by rw[<-z,e4] at hD;cases hD)];exact e4⟩)
   (fun i y hy H' s' R k=>?_) (fun D vs H3 nD s3 hD vl hp=>?_)
  ·obtain⟨J,hm,hi,rfl⟩:=Uy hy
   obtain⟨a1,a2,a3⟩:=ok.wd J (ae _ hm);refine⟨_,rfl,_,rfl,n,J,rfl,n1,j8,a1,by omega,fun xs e b H5 s5 h5=>k _ H5 s5 ⟨J,xs,b,hi,e,rfl,h5⟩,fun e H5 s5=>ZdZ S hI (by decide) rfl ?_⟩;refine qn ?_ H5 (((s1.trans s2).trans s').trans s5);show (if _ then _ else _)=_
   rw[if_neg];rintro⟨_,_,h5⟩;have:=aJ.mp h5 J hm;rw[e] at this;cases this
  ·obtain⟨rs,rfl⟩:=Zbq fun i v hv=>by obtain⟨_,_,b,_,_,e,_⟩:=hp i v hv;exact⟨b,e⟩
   rw[Za,Za] at vl;have j6:(r.all fun w=>(We (N63.YN n).toNat w).isSome)=true:=aJ.mpr fun J hm=>by
    obtain⟨i,hi,hw⟩:=List.getElem_of_mem hm;have l8:i<rs.length:=by omega
    obtain⟨w1,xs,b,Y,O,e3,e4⟩:=hp i (.ref rs[i]) (by rw[Zc,Zf l8];rfl);rw[Zf hi,hw] at Y;cases Y;rw[O];rfl
   have er:rwN (N63.YN n).toNat cnt (hd::r)=some (r.map fun w=>(We (N63.YN n).toNat w).getD []):=by
    show (if _ then _ else _)=_
    rw[if_pos ⟨h1,h2,j6⟩]
   refine⟨D,_,rfl,.inl ⟨.of hD,fun q nq=>qs _ er q _ (((s1.trans s2).trans s3).trans (Zx.upd nq)) ⟨rs,Zv,by rw[Za];exact vl,fun i b hb=>?_⟩⟩⟩;obtain⟨w1,xs,b',Y,O,e3,e4⟩:=hp i (.ref b) (by rw[Zc,hb];rfl);cases e3;refine⟨xs,by rw[Zc,Y];show some ((We _ w1).getD [])=_;rw[O];rfl,?_⟩;exact (Zx.upd nq) _ _ e4
end
noncomputable abbrev sTb:Stmt:=top 28
theorem ZfL {H:Hp}{a:Addr}{x y:HO}:upd (upd H a x) a y=upd H a y:=by
 funext b;by_cases h:b=a
 ·subst h;rw[Zv,Zv]
 ·rw[ZB h,ZB h,ZB h]
theorem ZaB {H:Hp}{a j C:Addr}{f:Str}{y:V}(O:H a=none)(hd:(upd H a (Ut a C none)) j=none)(z:j≠a) :
  Zx H (del (upd (upd (upd H a (Ut a C none)) a (Ut a C (some j))) j (exD j [(f,y)])) a)/\del (upd (upd (upd H a (Ut a C none)) a (Ut a C (some j))) j (exD j [(f,y)])) a j=some (exD j [(f,y)]):=by
 rw[ZfL];rw[ZB z] at hd;refine⟨fun r o e=>?_,by rw[W5 z,Zv]⟩;have J:r≠a:=fun q=>by rw[q,O] at e;cases e
 have Y:r≠j:=fun q=>by rw[q,hd] at e;cases e
 rw[W5 J,ZB Y,ZB J];exact e
noncomputable def lV (j:List (List Nat)):V:=.str (tx (Xw j))
noncomputable def WR (H:Hp)(rs:List Addr)(j:List (List (List Int))):Prop:=rs.length=j.length/\∀(i:Nat) b,rs[i]?=some b->∃y,j[i]?=some y/\Jn H b y
theorem WR.mono {H z:Hp}{rs:List Addr}{j:List (List (List Int))}(h:WR H rs j)(s:Zx H z):WR z rs j:=
 ⟨h.1,fun i b hb=>by obtain⟨y,J,O⟩:=h.2 i b hb;exact⟨y,J,O.mono s⟩⟩
theorem Jn.updL {H:Hp}{r L:Addr}{j:List (List Int)}{Y zs:List V}(h:Jn H r j)(hL:H L=some (.lst Y)):Jn (upd H L (.lst zs)) r j:=by
 obtain⟨rs,J,h2,h3⟩:=h;have ne:∀b o,H b=some (.tup o)->b≠L:=fun b o e z=>by rw[z,hL] at e;cases e
 exact⟨rs,by rw[ZB (ne _ _ J)];exact J,h2,fun i b hb=>by obtain⟨y,e1,O⟩:=h3 i b hb;exact⟨y,e1,by rw[ZB (ne _ _ O)];exact O⟩⟩
theorem WR.updL {H:Hp}{L:Addr}{rs:List Addr}{j:List (List (List Int))}{z J:List V}(h:WR H rs j)(O:H L=some (.lst z)):WR (upd H L (.lst J)) rs j:=
 ⟨h.1,fun i b hb=>by obtain⟨y,Y,e2⟩:=h.2 i b hb;exact⟨y,Y,e2.updL O⟩⟩
theorem WR.snoc {H:Hp}{rs:List Addr}{j:List (List (List Int))}{b:Addr}{x:List (List Int)}(h:WR H rs j)(hb:Jn H b x):WR H (rs++[b]) (j++[x]):=by
 refine⟨by rw[Zd,Zd,h.1];rfl,fun i c z=>?_⟩;by_cases J:i<rs.length
 ·rw[a6 J] at z
  rw[a6 (by rw[<-h.1];exact J)];exact h.2 i c z
 ·rw[aP (by omega)] at z
  have O:i-rs.length=0:=by
   have:=(aH.mp z).1;rw[Zk] at this;omega
  rw[O] at z;cases z;rw[aP (by rw[<-h.1];omega),show i-j.length=0 by rw[<-h.1];exact O];exact⟨x,rfl,hb⟩
noncomputable def ZcH (H:Hp)(r:Addr)(ns:List Nat)(j:List (List (List Int))):Prop:=∃(n:Nat) (z:List Nat) (a q:Addr) (J:List Addr),ns=n::z/\H r=some (.tup [.int n,.ref a,.ref q])/\H a=some (.tup (z.map nV))/\H q=some (.tup (J.map V.ref))/\WR H J j
noncomputable def ph (n:Nat):Nat:=(N63.YN n).toNat
noncomputable def ZfS (c:Nat->Ec):Sp:=fun vs H Q E=>∃(L:Addr) (z:List (List (List Nat))),vs=[.ref L]/\H L=some (.lst (z.map lV))/\z.length<=20/\(∀l∈z,Xg l)/\
 (∀Y J,Jp ph z=.inr (Y,J)->∀r j,Zx H j->ZcH j r Y J->Q (.ref r) j)/\(∀k:Nat,Jp ph z=.inl k->∀O j,Zx H j->j O=some (exD O [("row",.int (k:Nat))])->E (.ref (c 4).C) (some O) j)
section
variable {P:Program}{w:World}{K:ac}{mg:Str->Option Value}{base:Heap}{T U:Addr}{et:Array DictEntry}{c:Nat->Ec}
theorem Zh5 {f:Addr}{fd:FuncData}(F:WT K "read_table" "read_table" sTb f fd)(B:N63.Bl mg)(S:Cs K mg T U et c)(hI:K.In base)(I0:Zd5 P w K mg base (c 4) ["self", "row"] (VU (c 4).C "row"))
  (GH:Fn P w K mg base YD 4 "read_head" ["line"] Zhy) (m4:Fn P w K mg base YD 4 "read_numbers" ["n", "count", "line"] Zhw):Z8 P w K mg base (CXE P w) 5 f fd ["lines"] (ZfS c):=by
 obtain⟨oc,od,kV,doc,pm,an,n8,n9,o4,rfl,lk,m5⟩:=F.ex;refine ZdM lk m5 (FS (N:=["lines", "head", "rows", "k", "row"])) (fun vs H Q E h=>?_) fun A m6 s H vs Q E hr h=>?_
 ·obtain⟨L,ls,rfl,_⟩:=h;rfl
 ·obtain⟨L,ls,rfl,hL,m7,j9,q,qE⟩:=h
  have two:PyX.Jm base (c 4).C (c 4).N T U PyX.Y9 (nsFind (c 4).es) (nsFind et):=(S.ok 4 (by decide)).two S.tb hI;obtain⟨f0,o0,d0,a0,b0,e0,F0,g0⟩:=I0;refine⟨_,Zt (ZQ (Zy Z1 (cb (Ws K) B.len (pc (vn 0) Zs)) Zu (Zz _)) (Zw (Ja rfl two a0 b0 e0 fVE F0 (hr.mono (by decide)) g0 (YU (by kernel_rfl)) (S.mgC 4 (by decide)) (S.ok 4 (by decide)).c.kp (pc Zu Zs) YK (by kernel_rfl))) ZE)
   (Zt (ZJ 1 rfl (Wc GH hr ZU (pc (ZP (Vq K) (vn 0) Zu (fun _ _=>rfl)) Zs)))
   (Zt (ZQ (Zy Js (vn 1) Yd (Zz _)) (Zw (Ja rfl two a0 b0 e0 fVE F0 (hr.mono (by decide)) g0 (YU (by kernel_rfl)) (S.mgC 4 (by decide)) (S.ok 4 (by decide)).c.kp (pc Zu Zs) YK (by kernel_rfl))) ZE)
   (Zt (ZQ (Zy Z1 (cb (Ws K) B.len (pc (vn 0) Zs)) Zu (Zz _)) (Zw (Ja rfl two a0 b0 e0 fVE F0 (hr.mono (by decide)) g0 (YU (by kernel_rfl)) (S.mgC 4 (by decide)) (S.ok 4 (by decide)).c.kp (pc Zu Zs) YK (by kernel_rfl))) ZE)
   (Zt (ZJ 2 rfl (Z3 Zs))
   (Zt (Wh iF rfl (Zeh B.range (pc Zu (pc (cb (Ws K) B.len (pc (vn 0) Zs)) Zs))) (gn 3)
   (Zt (ZJ 4 rfl (Wc m4 hr ZU (pc (ZP (Vl K) (vn 1) Zu (fun _ _=>rfl)) (pc (ZD WY (cb (Ws K) B.len (pc (vn 1) Zs)) Zu) (pc (ZP (Vq K) (vn 0) (vn 3) (fun _ _=>rfl)) Zs)))))
   (Zt (ZQ (Zy Js (vn 4) Yd (Zz _)) (Zw (Ja rfl two a0 b0 e0 fVE F0 (hr.mono (by decide)) g0 (YU (by kernel_rfl)) (S.mgC 4 (by decide)) (S.ok 4 (by decide)).c.kp (pc (vn 3) Zs) YK (by kernel_rfl))) ZE)
   (Zw (Jb (Y6 bO bx bM YC (vn 2) (pc (vn 4) Zs)))))))
   (Zw (ZF (Y5 (pc (ZP (Vl K) (vn 1) Zu (fun _ _=>rfl)) (pc (ZG ZfT (vn 1) (ZK Zu) ZM) (pc (ct (tupK K) B.tuple (pc (vn 2) Zs)) Zs)))))))))))
   ,?_⟩
  have sz:(16777216:Nat)=sizeLine:=by decide
  have J:∀(k:Nat) (O:Hp),Zx H O->Jp ph ls=.inl k->∀a,O a=none->VU (c 4).C "row" [.ref a,.int (k:Nat)] (upd O a (Ut a (c 4).C none)) (fun v H2=>v=.non/\∃d,H2 a=some (Ut a (c 4).C d)/\E (.ref (c 4).C) d (del H2 a)) (fun _ _ _=>False):=fun k O sH e a ha=>by
   refine⟨a,_,rfl,Zv,fun dx h1 h2=>⟨rfl,some dx,?_,?_⟩⟩
   ·rw[ZB (bC h2),Zv]
   ·obtain⟨u1,u2⟩:=ZaB (f:="row") (y:=.int (k:Nat)) ha h1 h2
    exact qE k e dx _ (sH.trans u1) u2
  refine⟨_,rfl,L,_,rfl,.inl (.of hL),rfl,_,rfl,?_⟩;cases ls with
  |nil=>
   refine JO (decide_eq_true rfl) ?_;exact⟨(by show 1<=sizeLine;decide),J 0 H (Zx.refl _) rfl⟩
  |cons hd r=>
  refine Yg (fun z=>by have:=V.int.inj (of_decide_eq_true z);rw[Za,Zi] at this;omega) ?_;refine⟨_,rfl,_,_,_,_,rfl,rfl,.of hL,ZT (j:=0) rfl,hd,rfl,j9 hd (ah ..),fun e H1 s1=>?_,fun ns e r0 H1 s1 m8=>?_⟩
  ·refine⟨_,rfl,rfl,_,rfl,JO (decide_eq_true rfl) ?_⟩
   exact⟨(by show 1<=sizeLine;decide),J 0 H1 s1 (XG e)⟩
  refine⟨_,rfl,rfl,_,rfl,Yg (fun z=>by cases of_decide_eq_true z) ?_⟩;refine⟨_,rfl,L,_,rfl,.inl (.of (s1 _ _ hL)),rfl,_,rfl,?_⟩;by_cases j6:r=[]
  ·subst j6
   refine JO (decide_eq_true rfl) ?_;exact⟨(by show 1<=sizeLine;decide),J 1 H1 s1 (VS e)⟩
  have r1:1<=r.length:=cP.mpr j6;refine Yg (fun z=>by have:=V.int.inj (of_decide_eq_true z);rw[Za,Zi] at this;omega) ?_;obtain⟨n,ss,rfl,n1,m9,o5,n5,_⟩:=X5 e;rw[Zi] at m7;refine⟨aE _,fun R nR=>?_⟩;have n4:H R=none:=s1.free nR;have s2:=s1.trans (Zx.upd (o:=.lst []) nR);have l7:=Zv (H:=H1) (a:=R) (o:=.lst []);have l8:=Zx.upd (o:=.lst []) nR _ _ m8;generalize upd H1 R (.lst [])=H2 at s2 l7 l8 ⊢;refine⟨_,rfl,L,_,rfl,.inl (.of (s2 _ _ hL)),1,_,rfl,⟨by decide,by decide,by omega,by rw[Za,Zi];omega⟩,?_⟩;rw[show (((gw lV (hd::r)).length:Int)-1).toNat=r.length by rw[Za,Zi];omega];have l9:∀z,YT (ph n) ss.length 1 r=z->Jp ph (hd::r)=ZfN (n::ss) z:=fun z hz=>by
   rw[XF e j6,hz]
  refine YO (fun i j7 O=>∃(ys:List (List (List Int))) (rs:List Addr) (v3 v4:Option V),j7=[some (.ref L),some (.ref r0),some (.ref R),v3,v4]/\Zx H O/\O r0=some (.tup ((n::ss).map nV))/\O R=some (.lst (rs.map V.ref))/\WR O rs ys/\ys.length=i/\YT (ph n) ss.length 1 r=Zae ys (YT (ph n) ss.length (1+i) (r.drop i)))
   ⟨[],[],_,_,rfl,s2,l8,l7,⟨rfl,fun i b hb=>by cases hb⟩,rfl,by
    show _=Zae [] (YT _ _ 1 r);cases YT (ph n) ss.length 1 r <;> rfl⟩ ?_ ?_
  ·rintro i j7 H3 hi ⟨ys,rs,v3,v4,rfl,s3,h0,hR,Y,yl,eq⟩
   rw[show (1:Int)+(i:Int)=((i+1:Nat):Int) by omega];rw[bJ hi] at eq;have m3:=j9 r[i] (ae _ (dz hi));refine⟨_,rfl,_,_,_,_,rfl,rfl,.of h0,ZT (j:=0) rfl,_,rfl,r0,_,rfl,.inr (.of h0),_,_,rfl,rfl,_,rfl,_,rfl,_,_,_,_,rfl,rfl,.of (s3 _ _ hL),ZT (j:=i+1) (v:=lV r[i]) (by rw[aZ,iE,Zc,Zf hi];rfl),n,ss.length,r[i],?_,n1,m9,by omega,m3,fun e3 H4 s4=>?_,fun x e3 b H4 s4 hb=>?_⟩
   ·show [nV n,V.int (((gw nV (n::ss)).length:Int)-1),lV r[i]]=_
    rw[show (((gw nV (n::ss)).length:Int)-1)=(ss.length:Int) by rw[Za,Zi];omega];rfl
   ·refine⟨_,rfl,rfl,_,rfl,JO (decide_eq_true rfl) ?_⟩
    refine⟨_,rfl,(by show 1<=sizeLine;decide),J (i+1) H4 (s3.trans s4) ?_⟩;have e3:rwN (ph n) ss.length r[i]=none:=e3;rw[l9 (.inl (1+i)) (eq.trans (by rw[JJ e3];rfl)),gG];rfl
   ·refine⟨_,rfl,rfl,_,rfl,Yg (fun z=>by cases of_decide_eq_true z) ?_⟩
    have e3:rwN (ph n) ss.length r[i]=some x:=e3;have j4:=s4 _ _ hR;refine⟨_,rfl,.inl ⟨rfl,_,.of j4⟩,_,rfl,R,_,_,rfl,rfl,j4,by rw[Za,Y.1];omega,?_⟩;have j8:=s4 _ _ h0;refine⟨ys++[x],rs++[b],_,_,rfl,(s3.trans s4).updr n4,by rw[ZB (fun z=>by rw[z,j4] at j8;cases j8)];exact j8,by rw[Zv,aU];rfl,((Y.mono s4).snoc hb).updL j4,by rw[Zd,yl];rfl,?_⟩;rw[eq,JI e3,Zad,show 1+i+1=1+(i+1) by omega]
  ·rintro j7 H3 ⟨ys,rs,v3,v4,rfl,s3,h0,hR,Y,yl,eq⟩
   rw[dA] at eq;have eq:_=dS (ys++[]):=eq;rw[aI] at eq;refine⟨_,rfl,_,_,_,_,rfl,rfl,.of h0,ZT (j:=0) rfl,_,rfl,_,rfl,r0,_,rfl,.of h0,?_,fun a na=>?_⟩
   ·intro z
    have h1:=z.1;have e1:=HT.JH ((n::ss).map nV).length 0 1;rw[show ((1:Nat):Int)=1 from rfl] at e1;rw[e1,Za,Zi] at h1;omega
   rw[aZ,Xl];have sa:=Zx.upd (H:=H3) (o:=.tup (ss.map nV)) na;have ha:=Zv (H:=H3) (a:=a) (o:=.tup (ss.map nV));generalize upd H3 a (.tup (ss.map nV))=H4 at sa ha ⊢;refine⟨_,rfl,R,_,rfl,.inl ⟨.of (sa _ _ hR),fun qr nq=>?_⟩⟩;have sq:=Zx.upd (H:=H4) (o:=.tup (rs.map V.ref)) nq;have hq:=Zv (H:=H4) (a:=qr) (o:=.tup (rs.map V.ref));generalize upd H4 qr (.tup (rs.map V.ref))=H5 at sq hq ⊢;refine⟨(by show 3<=sizeLine;decide),fun t nt=>?_⟩;have st:=Zx.upd (H:=H5) (o:=.tup [nV n,.ref a,.ref qr]) nt;exact q _ _ (l9 _ eq) t _ (((s3.trans sa).trans sq).trans st) ⟨n,ss,a,qr,rs,rfl,Zv,st _ _ (sq _ _ ha),st _ _ hq,((Y.mono sa).mono sq).mono st⟩
end
end C63
namespace L2
open PySem PySem.Spec PyProof.Rows
noncomputable def ZiU (base:Heap)(ta:TE)(f:Str):TE:=fun σ H Q=>ta σ H fun x z=>∃a C j fs y N T U J O Y,x=.ref a/\z a=some (exO a C (some j))/\z j=some (exD j fs)/\j≠a/\
 PyX.Jm base C N T U J O Y/\NoR O Y f/\fs.lookup f=some y/\Q y z
theorem Zge {X:Cx}{e:Expr}{j:TE}{f:Str}{pos:Pos}(base:Heap)(z:PE X e j)(hb:attributeBase e f X.env (eval e X.env)=eval e X.env)(J:X.base=base:=by rfl):PE X (.Attribute e f pos) (ZiU base j f):=by
 subst J;exact Zh2 z hb
end L2
namespace C63
open PySem L2 PySem.Spec PyProof.Rows PySem.NumText
open Tx Pm
noncomputable abbrev ZhF:Stmt:=top 44
noncomputable def UC:Sp:=fun Y H Q _=>∃(L:Addr) (z:List (List (List Nat))),Y=[.ref L]/\H L=some (.lst (z.map lV))/\z.length<=20/\(∀l∈z,Xg l)/\
 (∀O J,Jp ph z=.inr (O,J)->∀r j,Zx H j->ZcH j r O J->Q (.ref r) j)/\(∀k:Nat,Jp ph z=.inl k->∀j,Zx H j->Q (.int (k:Nat)) j)
section
variable {P:Program}{w:World}{K:ac}{mg:Str->Option Value}{base:Heap}{T U:Addr}{et:Array DictEntry}{c:Nat->Ec}
theorem Zgl {f:Addr}{fd:FuncData}(F:WT K "_law_told" "_law_told" ZhF f fd)(B:N63.Bl mg)(V0:BlV mg)(S:Cs K mg T U et c)(Y:K.In base)(GT:Fn P w K mg base (CXE P w) 5 "read_table" ["lines"] (ZfS c)) :
  Z8 P w K mg base YD 6 f fd ["_law_lines_here"] UC:=by
 refine F.ok (FS (N:=["_law_lines_here", "_law_found", "e"])) (fun vs H Q E h=>?_) (fun m4 A j6 s H vs Q E hr h=>?_)
 ·obtain⟨L,ls,rfl,_⟩:=h;rfl
 ·obtain⟨L,ls,rfl,hL,j7,j8,q,qE⟩:=h
  refine⟨_,Zt (ZJ 1 rfl Yd)
   (Zt (Zde (fun D m3=>Zw (ZJ 1 rfl (Wc GT hr (ZaH (i:=2) (Yu (by kernel_rfl)) rfl (Yn (by kernel_rfl)) (YU (by kernel_rfl)) S.mgT (by kernel_rfl) rfl rfl
    (fun a=>Zt (ZJ 1 rfl ZA)
     (Zt (ZQ (WF (Wg (cb (isE S Y) B.isi (pc (vn 2) (pc (clv (S.mgC 4 (by decide))) Zs)))) (Y0 (Wg (cb (isV S Y) B.isi (pc (vn 2) (pc (tyv "ValueError" V0.ve) Zs)))))).pt (Zw (ZJ 1 rfl (Zge base (vn 2) (by rfl)))) ZE)
     (Zt (ZQ (Wg (cb (isT S Y) B.isi (pc (vn 2) (pc (Y5 (pc (clv (S.mgC 5 (by decide))) (pc (clv (S.mgC 0 (by decide))) (pc (clv (S.mgC 6 (by decide))) (pc (clv (S.mgC 8 (by decide))) (pc (clv (S.mgC 9 (by decide))) (pc (clv (S.mgC 3 (by decide))) Zs))))))) Zs)))) (Zw (ZJ 1 rfl ZA)) ZE)
     (Zw (ZQ (Wg (cb (isT S Y) B.isi (pc (vn 2) (pc (Y5 (pc (clv (S.mgC 11 (by decide))) (pc (clv (S.mgC 2 (by decide))) (pc (clv (S.mgC 1 (by decide))) (pc (clv (S.mgC 10 (by decide))) (pc (clv (S.mgC 7 (by decide))) Zs)))))) Zs)))) (Zw (ZJ 1 rfl ZA)) ZE)))))) (pc (vn 0) Zs)))))
   (Zw (ZF (vn 1)))),?_⟩
  refine⟨_,rfl,L,ls,rfl,hL,j7,j8,fun ns j9 e r H1 s1 l7=>?_,fun k e J H1 s1 O=>S.catchR Y (by decide) rfl fun b hb=>?_⟩
  ·exact⟨_,rfl,q ns j9 e r H1 s1 l7⟩
  ·have two:PyX.Jm base (c 4).C (c 4).N T U PyX.Y9 (nsFind (c 4).es) (nsFind et):=(S.ok 4 (by decide)).two S.tb Y
   have nr:∀{f:Str},f∈Ys->NoR (nsFind (c 4).es) (nsFind et) f:=fun hf=>(S.ok 4 (by decide)).noR S.tb hf;have ne:J≠b:=fun z=>by rw[z,hb] at O;cases O
   have s2:=Zx.upd (o:=exO b (c 4).C (some J)) hb;have hB:upd H1 b (exO b (c 4).C (some J)) b=some (exO b (c 4).C (some J)):=Zv;have hX:=s2 _ _ O;have sA:=s1.trans s2;generalize upd H1 b (exO b (c 4).C (some J))=H2 at hB hX sA ⊢;refine⟨_,rfl,b,4,4,some J,rfl,by decide,by decide,hB,_,rfl,JO (by decide) ⟨_,rfl,b,4,some J,rfl,by decide,hB,_,rfl,JO rfl ?_⟩⟩;refine⟨_,rfl,b,_,J,_,_,_,T,U,_,_,_,rfl,hB,hX,ne,two,nr (by decide),rfl,?_⟩;refine⟨_,rfl,(by show 6<=sizeLine;decide),fun tp l8=>?_⟩;have s3:=Zx.upd (H:=H2) (o:=.tup ([5,0,6,8,9,3].map fun j=>V.ref (c j).C)) l8;refine⟨b,4,some J,tp,[5,0,6,8,9,3],rfl,by decide,by decide,s3 _ _ hB,Zv,_,rfl,Yg (by decide) ?_⟩;refine⟨_,rfl,(by show 5<=sizeLine;decide),fun l9 j4=>?_⟩;have s4:=s3.trans (Zx.upd (o:=.tup ([11,2,1,10,7].map fun j=>V.ref (c j).C)) j4);refine⟨b,4,some J,l9,[11,2,1,10,7],rfl,by decide,by decide,s4 _ _ hB,Zv,_,rfl,Yg (by decide) ?_⟩;exact⟨_,rfl,qE k e _ (sA.trans s4)⟩
end
end C63
namespace L2
open PySem PySem.Spec PyProof.Rows
section
variable {X:Cx}
theorem ZcE (K:ac)(hc:X.calm=true)(hK:X.K=K:=by rfl):Yk X (.builtin "max") (fun xs H Q=>∃(p:Addr) (ns:List Int),xs=[.ref p]/\WQ K H p (ns.map V.int)/\ns≠[]/\∀M,M∈ns->(∀a,a∈ns->a<=M)->Q (.int M) H):=by
 subst hK;intro Y s σ H xs us Q I r h;obtain⟨p,ns,rfl,hp,J,q⟩:=h;obtain⟨u,rfl,ru⟩:=vals1 r;cases ru;obtain⟨j4,r,pl,hz⟩:=I.list hp;have hi:=intsAre_of r;obtain⟨xs,e⟩:=hi.allInts.items;have z:ns=xs.toList.map (·.1):=by
  rw[<-hi.numsOf,<-nums_intItems,<-e]
 have O:0<xs.size:=by
  have h3:0<ns.length:=cP.mpr J;rw[z,Za,Zr] at h3;exact h3
 have hl:=pl.isList;rw[e] at hl;refine max_intList (I.ok.hd hc) hl O fun v h' tk hv hk=>?_;obtain⟨t,rfl⟩:=intItems_at hv;obtain⟨h1,h2⟩:=argBest_gt (numAt xs) (xs.size-1);refine⟨.int _,H,I.kept hk,⟨_,rfl⟩,q _ ?_ fun a ha=>?_⟩
 ·rw[z,numAt_eq];exact getD_mem (by rw[Za,Zr];omega)
 ·rw[z] at ha
  obtain⟨j,hj,rfl⟩:=mem_getD ha;rw[Za,Zr] at hj;rw[<-numAt_eq];exact h2 j (by omega)
end
end L2
namespace C63
open PySem L2 PySem.Spec PyProof.Rows PySem.NumText
open Tx Pm
noncomputable abbrev sDu:Stmt:=top 43
noncomputable def fgO:V->V
 | .str s=>vO (Z7 s.cps.toList)
 |v=>v
noncomputable def dO:Option Nat->ck
 |none=>.none
 |some m=>.int (m:Nat)
theorem Zc9 {K:ac}{H:Hp}:∀os:List (Option Nat),Y3 K H (os.map vO) (os.map dO)
 | []=>.nil
 |none::r=>.cons .non (Zc9 r)
 |some m::r=>.cons (.int _) (Zc9 r)
theorem ZaU:∀os:List (Option Nat),bf (os.map dO)=true
 | []=>rfl
 |none::r=>ZaU r
 |some m::r=>ZaU r
theorem Zd3:∀os:List (Option Nat),((os.map dO).any fun y=>y.eqv .none)=os.any fun o=>o.isNone
 | []=>rfl
 |none::r=>rfl
 |some m::r=>Zd3 r
theorem Ue {l:List Nat}(h:YX l):cm (.str (tx l))=true:=by
 show (tx l).cps.all (· < 0x110000)=true;rw[ZcR];exact aJ.mpr fun c j=>decide_eq_true (ak (h c j) (by decide))
theorem V4 {K:ac}{H:Hp}:∀j:List (List (List Nat)),Y3 K H (j.map lV) (j.map fun l=>du (tx (Xw l)))
 | []=>.nil
 |l::r=>.cons (.str _) (V4 r)
noncomputable def dR:Option (List Int)->ck
 |none=>.none
 |some j=>.tuple (j.map bc)
theorem Zdy (wide:Nat):∀u:List (List Nat),bf (u.map fun w0=>dR (We wide w0))=true
 | []=>rfl
 |w0::r=>by
  show ((dR (We wide w0)).canLay0 && bf (r.map fun w0=>dR (We wide w0)))=true;rw[Zdy wide r,dG];cases We wide w0 with
  |none=>rfl
  |some j=>exact Wd j
theorem Zd2 (wide:Nat):∀u:List (List Nat),((u.map fun w0=>dR (We wide w0)).any fun y=>y.eqv .none)=u.any fun w0=>(We wide w0).isNone
 | []=>rfl
 |w0::r=>by
  rw[aZ,dF,dF,Zd2 wide r];congr 1;cases We wide w0 with
  |none=>rfl
  |some j=>rfl
theorem XS {K:ac}{H:Hp}:∀{vs:List V}{ds:List ck},vs.length=ds.length->(∀(i:Nat) v,vs[i]?=some v->∃d,ds[i]?=some d/\Vh K H v d)->Y3 K H vs ds
 | [],[],_,_=>.nil
 | [],_::_,h,_=>by cases h
 |_::_,[],h,_=>by cases h
 |v::vs,d::ds,h,g=>by
  obtain⟨O,j,z⟩:=g 0 v rfl;cases j;exact .cons z (XS (eW h) fun i u J=>g (i+1) u J)
noncomputable def dTI (j:List (List Int)):ck:=.tuple (j.map fun z=>iu (z.map bc))
theorem Jn.rd {K:ac}{H:Hp}{r:Addr}{j:List (List Int)}(h:Jn H r j):Vh K H (.ref r) (dTI j):=by
 obtain⟨J,O,Y,h3⟩:=h;refine .tup (.of O) (XS (by rw[Za,Za];exact Y) fun i v z=>?_);rw[Zc] at z;cases e:J[i]? with
 |none=>rw[e] at z;cases z
 |some b=>
  rw[e] at z;cases z;obtain⟨y,e1,e2⟩:=h3 i b e;exact⟨.tuple (y.map bc),by rw[Zc,e1];rfl,.tup (.of e2) (Y3.ints _)⟩
theorem WR.rd {K:ac}{H:Hp}{rs:List Addr}{j:List (List (List Int))}(h:WR H rs j):Y3 K H (rs.map V.ref) (j.map dTI):=by
 refine XS (by rw[Za,Za];exact h.1) fun i v z=>?_;rw[Zc] at z;cases e:rs[i]? with
 |none=>rw[e] at z;cases z
 |some b=>
  rw[e] at z;cases z;obtain⟨y,J,O⟩:=h.2 i b e;exact⟨dTI y,by rw[Zc,J];rfl,O.rd⟩
theorem UX:∀ns:List Int,bo (ns.map bc)=0
 | []=>rfl
 |n::r=>by
  show max 0 (bo (r.map bc))=0;rw[UX r];rfl
theorem ZfW (j:List (List Int)):(dTI j).canLay0=true/\(dTI j).depth<=10:=by
 have:bf (j.map fun z=>iu (z.map bc))=true/\bo (j.map fun z=>iu (z.map bc))<=1:=by
  induction j with
  |nil=>exact⟨rfl,aE _⟩
  |cons x r J=>
   refine⟨?_,?_⟩
   ·show (bf (x.map bc) && _)=true
    rw[Wd,eX];exact J.1
   ·show max (bo (x.map bc)+1) _<=1
    rw[UX];have:=J.2;omega
 refine⟨this.1,?_⟩;show bo _+1<=10;omega
section
variable {P:Program}{w:World}{K:ac}{mg:Str->Option Value}{base:Heap}
theorem Zia {f:Addr}{fd:FuncData}(F:WT K "_law_due" "_law_due" sDu f fd)(B:N63.Bl mg)(u3:mg "max"=none)(GF:Fn P w K mg base YD 1 "_law_figures" ["_law_text"] Zbf)(u4:Fn P w K mg base YD 1 "_law_alone" ["_law_k", "_law_n"] Zc4)(u5:Fn P w K mg base YD 3 "_law_read" ["_law_wide", "_law_text"] Zfu) :
  Z8 P w K mg base YD 4 f fd ["_law_lines_here"] UC:=by
 refine F.ok (FS (N:=["_law_lines_here", "_law_words", "_law_numbers", "_law_wide", "_law_rows", "_law_k", "_law_row"])) (fun vs H Q E h=>?_) (fun y4 A u6 s H vs Q E hr h=>?_)
 ·obtain⟨L,ls,rfl,_⟩:=h;rfl
 ·obtain⟨L,ls,rfl,hL,u7,m4,q,qE⟩:=h
  refine⟨_,Zt (ZJ 1 rfl (Z5 (Zy (neC K hr.units) (vn 0) (Z3 Zs) (Zz _)) (Y6 aQ bp bP Wq (ZP (Vq K) (vn 0) Zu (fun _ _=>rfl)) (pc ZA Zs)) (Z3 (pc ZA Zs))))
   (Zt (ZJ 2 rfl (cmp ["_law_word"] [] ["_law_word"] rfl (itL K (ZG ZV (vn 1) (ZK Zu) ZM)) (fun _ _ _ _ _=>gn 0) (fun _ _ _ _ _=>YR) (fun _ _ _ _ _=>Wc GF hr ZU (pc (vn 0) Zs))))
   (Zt (ZQ (YJ (Zy Y7 (ZP (Vq K) (vn 1) Zu (fun _ _=>rfl)) ZA (Zz _)) (YJ (Zy (Zij K hr.units) Yd (vn 2) (by rfl)) (YJ (V5 (Zdd UL UL Zu (cb (Ws K) B.len (pc (vn 2) Zs)) Zu)) (Wf (Zy Wo (cb (ZcE K rfl) u3 (pc (vn 2) Zs)) Zu (Zz _)))))).pt (Zw (ZF Zu)) ZE)
   (Zt (ZJ 3 rfl (cb (Ws K) B.len (pc (cmp ["_law_k"] [2] ["_law_k", "_law_numbers"] rfl (Zeh B.range (pc Zu (pc (ZD Z9 (ZP (Vq K) (vn 2) Zu (fun _ _=>rfl)) Zu) Zs))) (fun _ _ _ _ _=>gn 0) (fun _ _ _ _ _=>V7 (Wg (Wc u4 hr ZU (pc (vn 0) (pc (ZP (Vq K) (vn 1) Zu (fun _ _=>rfl)) Zs))))) (fun _ _ _ _ _=>vn 0)) Zs)))
   (Zt (ZJ 4 rfl (Z3 Zs))
   (Zt (Wh ba rfl (Zeh B.range (pc Zu (pc (cb (Ws K) B.len (pc (vn 0) Zs)) Zs))) (gn 5)
   (Zt (ZJ 1 rfl (Y6 aQ bp bP Wq (ZP (Vq K) (vn 0) (vn 5) (fun _ _=>rfl)) (pc ZA Zs)))
   (Zt (Zi2 6 ["_law_word"] [3] ["_law_word", "_law_wide"] rfl rfl (itL K (ZG ZV (vn 1) (ZK Zu) ZM)) (fun _ _ _ _ _=>gn 0) (fun _ _ _ _ _=>YR) (fun _ _ _ _ _=>Wc u5 hr ZU (pc (vn 1) (pc (vn 0) Zs))))
   (Zt (ZQ (YJ (Zy Y7 (ZP (Vq K) (vn 1) Zu (fun _ _=>rfl)) ZA (Zz _)) (YJ (Zy (Zij K hr.units) Yd (vn 6) (by rfl)) (Wf (Zy Y7 (cb (Ws K) B.len (pc (vn 6) Zs)) (ZD WY (cb (Ws K) B.len (pc (vn 2) Zs)) Zu) (Zz _))))).pt (Zw (ZF (vn 5))) ZE)
   (Zw (Jb (Y6 bO bx bM YC (vn 4) (pc (ct (tupK K) B.tuple (pc (vn 6) Zs)) Zs))))))))
   (Zw (ZF (Z5 (Zy (neC K hr.units) (vn 4) (Z3 Zs) (Zz _)) (Y5 (pc (ZP (Vq K) (vn 2) Zu (fun _ _=>rfl)) (pc (ct (tupK K) B.tuple (pc (ZG ZV (vn 2) (ZK Zu) ZM) Zs)) (pc (ct (tupK K) B.tuple (pc (vn 4) Zs)) Zs)))) Zu)))))))),?_⟩
  have hz:(16777216:Nat)=sizeLine:=by decide
  refine⟨_,rfl,aE _,fun D0 n0=>?_⟩;have s0:=Zx.upd (H:=H) (o:=.lst []) n0;have h0:=Zv (H:=H) (a:=D0) (o:=.lst []);generalize upd H D0 (.lst [])=H0 at s0 h0 ⊢;have m5:=s0 _ _ hL;refine⟨.list (ls.map fun l=>du (tx (Xw l))),.list [],.lst (.of m5) (V4 ls),.lst (.of h0) .nil,N63.Xu (fun d hd=>by
   obtain⟨l,hl,rfl⟩:=aV.mp hd;exact⟨Ue (m4 l hl).asc,aE _⟩),by decide +kernel,_,rfl,?_⟩
  rw[N63.ZaZ];cases ls with
  |nil=>
   refine Yg (by decide) ?_;refine⟨(by show 1<=sizeLine;decide),fun W nW=>?_⟩;have s1:=Zx.upd (H:=H0) (o:=.lst [.str ""]) nW;have hW:=Zv (H:=H0) (a:=W) (o:=.lst [.str ""]);generalize upd H0 W (.lst [.str ""])=H1 at s1 hW ⊢;refine⟨_,rfl,_,rfl,W,_,rfl,.of hW,fun W2 j6=>?_⟩;rw[Xl];have s2:=Zx.upd (H:=H1) (o:=.lst []) j6;have O:=Zv (H:=H1) (a:=W2) (o:=.lst []);generalize upd H1 W2 (.lst [])=H2 at s2 O ⊢;refine⟨W2,rfl,⟨_,.of O⟩,?_⟩;refine Ww (WD (.of O)) [] rfl fgO (aE _) (fun i x Y hx s' R h4=>by cases hx) (fun D H3 nD s3 hD=>?_);refine⟨_,rfl,_,_,_,_,rfl,rfl,.of (s3 _ _ (s2 _ _ hW)),ZT (j:=0) rfl,rfl,_,rfl,?_⟩;rw[ZcV,t_e,Y8];refine JO (by decide) ?_;refine YF ?_;exact qE 0 rfl H3 (((s0.trans s1).trans s2).trans s3)
  |cons hd r=>
  refine JO rfl ?_;have ok:=m4 hd (ah ..);have y2:=ok.len;rw[Zi] at u7;refine⟨_,rfl,_,_,_,_,rfl,rfl,.of m5,ZT (j:=0) rfl,rfl,_,_,rfl,rfl,by decide +kernel,by show (tx (Xw hd)).length+2<=sizeLine;rw[ZC];omega,fun W nW=>?_⟩;rw[JW,show tx [32]=(⟨#[32]⟩:Str) from rfl,ok.spl,Jd];have s1:=Zx.upd (H:=H0) (o:=.lst (hd.map wV)) nW;have hW:=Zv (H:=H0) (a:=W) (o:=.lst (hd.map wV));generalize upd H0 W (.lst (hd.map wV))=H1 at s1 hW ⊢;have o5:=s0.trans s1;obtain⟨h1,t,rfl⟩:=bU ok.ne;have u8:=ok.le;rw[Zi] at u8;refine⟨_,rfl,_,rfl,W,_,rfl,.of hW,fun W2 j6=>?_⟩;rw[aZ,Xl];have s2:=Zx.upd (H:=H1) (o:=.lst (t.map wV)) j6;have O:=Zv (H:=H1) (a:=W2) (o:=.lst (t.map wV));generalize upd H1 W2 (.lst (t.map wV))=H2 at s2 O ⊢;refine⟨W2,rfl,⟨_,.of O⟩,?_⟩;refine Ww (WD (.of O)) [] rfl fgO (by rw[Za];omega) (fun i x Y hx s' R h4=>?_) (fun N H3 nN s3 hN=>?_)
  ·obtain⟨J,hm,_,rfl⟩:=Uy hx
   obtain⟨a1,a2,a3⟩:=ok.wd J (ae _ hm);refine⟨_,rfl,J,rfl,a1,by omega,fun e H5 s5=>?_,fun m e H5 s5=>?_⟩
   ·have:=h4 H5 s5
    rw[show fgO (wV J)=vO (Z7 J) from rfl,e] at this;exact this
   ·have:=h4 H5 s5
    rw[show fgO (wV J)=vO (Z7 J) from rfl,e] at this;exact this
  have eN:(t.map wV).map fgO=(t.map Z7).map vO:=by rw[a7,a7];rfl
  rw[eN] at hN;have m6:=(o5.trans s2).trans s3;have o6:=s3 _ _ (s2 _ _ hW);clear O j6 nW n0 h0 m5 s0 s1 s2 o5;have no:∀Y,Zx H3 Y->¬(h1=WO/\2<=t.length/\t.length<=17/\t.all sz=true)->Q (.int 0) Y:=fun Y s' hn=>qE 0 (XG (by show (if _ then _ else _)=_;rw[if_neg hn])) Y (m6.trans s')
  refine⟨_,rfl,_,_,_,_,rfl,rfl,.of o6,ZT (j:=0) rfl,rfl,_,rfl,?_⟩;rw[ZcV,show wV h1=V.str (tx h1) from rfl,Y8];refine ZO (fun c1=>?_) (fun c1=>?_)
  ·have c1:¬h1=WO:=by simpa using c1
   refine YF ?_;exact no H3 (Zx.refl _) fun z=>c1 z.1
  have c1:h1=WO:=by simpa using c1
  refine⟨_,rfl,N,_,_,.none,rfl,.inl (.of hN),Zc9 _,.non,ZaU _,rfl,by decide,_,rfl,?_⟩;rw[if_neg (by decide),Zd3];refine ZO (fun c2=>?_) (fun c2=>?_)
  ·refine YF ?_
   refine no H3 (Zx.refl _) fun z=>?_;obtain⟨o,ho,hs⟩:=dB.mp c2;obtain⟨J,hm,rfl⟩:=aV.mp ho;rw[(JD (aJ.mp z.2.2.2 J hm)).1] at hs;cases hs
  have c2:∀J∈t,Z7 J=some (VI J):=fun J hm=>by
   unfold VI;cases e:Z7 J with
   |none=>exact absurd (dB.mpr ⟨Z7 J,List.mem_map_of_mem hm,by rw[e];rfl⟩) c2
   |some m=>rfl
  have o8:(t.map Z7).map vO=(t.map VI).map nV:=by
   rw[a7,a7];refine dP fun J hm=>?_;show vO (Z7 J)=_;rw[c2 J hm];rfl
  rw[o8] at hN;have o9:((t.map VI).map nV)=(t.map fun J=>((VI J:Nat):Int)).map V.int:=by rw[a7,a7];rfl
  refine⟨_,rfl,N,_,rfl,.inl (.of hN),_,_,rfl,rfl,?_⟩;rw[Za,Za];refine⟨_,rfl,?_⟩;refine ZO (fun c3=>?_) (fun c3=>?_)
  case' refine_2=>
   have c3:¬ 2<=t.length:=fun z=>c3 (decide_eq_true (by show (2:Int)<=((t.length:Nat):Int);omega));refine⟨_,rfl,JO rfl ?_⟩;refine YF ?_;exact no H3 (Zx.refl _) fun z=>c3 z.2.1
  have c3:2<=t.length:=by have:(2:Int)<=((t.length:Nat):Int):=of_decide_eq_true c3;omega
  refine⟨_,_,rfl,rfl,_,rfl,?_⟩;refine ZO (fun c4=>?_) (fun c4=>?_)
  ·have c4:¬t.length<=17:=fun z=>by
    rw[decide_eq_true (show ((t.length:Nat):Int)<=17 by omega)] at c4;cases c4
   refine YF ?_;exact no H3 (Zx.refl _) fun z=>c4 z.2.2.1
  have c4:t.length<=17:=by
   have:¬(decide (((t.length:Nat):Int)<=17))=false:=fun z=>c4 (by rw[z];rfl);have:=of_decide_eq_true (by simpa using this:decide (((t.length:Nat):Int)<=17)=true);omega
  refine⟨_,rfl,N,_,rfl,.of (by rw[hN,o9]),(fun z=>by
   have:=congrArg eS z;rw[Za] at this;have:t.length=0:=this;omega),fun M hM p0=>?_⟩
  refine⟨_,_,rfl,rfl,_,rfl,?_⟩;refine ZO (fun c5=>?_) (fun c5=>?_)
  ·refine no H3 (Zx.refl _) fun z=>?_
   obtain⟨J,hm,rfl⟩:=aV.mp hM;have:=(JD (aJ.mp z.2.2.2 J hm)).2.2;have c5:(60:Int)<((VI J:Nat):Int):=of_decide_eq_true c5;omega
  have c5:t.all sz=true:=aJ.mpr fun J hm=>by
   have y6:¬(60:Int)<M:=fun z=>c5 (decide_eq_true z);have:=p0 ((VI J:Nat):Int) (aV.mpr ⟨J,hm,rfl⟩);unfold sz;rw[c2 J hm];exact decide_eq_true (by omega)
  have eh:hdN (h1::t)=some (t.map VI):=by
   show (if _ then _ else _)=_
   rw[if_pos ⟨c1,c3,c4,c5⟩]
  obtain⟨n,ss,en,n1,u9,y8,y3,_⟩:=X5 eh;rw[en] at hN eh;have tl:t.length=ss.length+1:=by have:=congrArg eS en;rw[Za,Zi] at this;exact this
  clear c1 c2 c3 c4 c5 p0 hM no eN o8 o9 nN o6;refine⟨_,rfl,_,_,_,_,rfl,rfl,.of hN,ZT (j:=0) rfl,_,_,rfl,rfl,1,(n:Int)+1,rfl,⟨by omega,by omega,by omega,by omega⟩,?_⟩;rw[show ((n:Int)+1-1).toNat=n by omega];obtain⟨_,_,p6,p1,v8⟩:=N63.J5 n1 u9;refine Xc (V2 1 n) [some (.ref N)] rfl (fun y=>match y with | .int k=>decide (N63.Vr k n=1)|_=>false) (fun y=>y) (by rw[Za,JK];omega) ?_ ?_
  ·intro j y Y hy s' R R' g1 g2
   rw[Zc] at hy;cases e:(Xr 1 n)[j]? with
   |none=>rw[e] at hy;cases hy
   |some k=>
    rw[e] at hy;cases hy;refine⟨_,rfl,_,rfl,_,_,_,_,rfl,rfl,.of (s' _ _ hN),ZT (j:=0) rfl,k,n,rfl,by omega,by omega,_,rfl,?_⟩;refine ZO (fun b1=>?_) (fun b1=>?_)
    ·exact⟨_,rfl,g1 b1 Y (Zx.refl _)⟩
    ·exact g2 (by simpa using b1) Y (Zx.refl _)
  intro Dl H4 nD s4 p7;refine⟨Dl,_,rfl,.inl (.of p7),?_⟩;have e:((((Xr 1 n).map V.int).filter fun y=>match y with | .int k=>decide (N63.Vr k n=1)|_=>false).map fun y=>y).length=ph n:=by
   unfold ph;rw[gv,g8,Za,p6];unfold N63.ZbD;rw[Zj,Zj];rfl
  rw[e];have w1:1<=ph n:=by unfold ph;omega
  have p8:ph n<=60:=by unfold ph;omega
  have m7:∀z,r≠[]->YT (ph n) ss.length 1 r=z->Jp ph ((h1::t)::r)=ZfN (n::ss) z:=fun z j9 hz=>by
   rw[XF eh j9,hz]
  generalize ph n=wide at w1 p8 m7 ⊢;have m8:=s4 _ _ hN;have p9:=m6.trans s4;clear p7 nD p6 p1 v8 e hN m6 s4;refine⟨aE _,fun R nR=>?_⟩;have v9:H R=none:=p9.free nR;have w6:N≠R:=fun z=>by rw[z,nR] at m8;cases m8
  have s5:=p9.trans (Zx.upd (o:=.lst []) nR);have r8:=Zv (H:=H4) (a:=R) (o:=.lst []);have t0:=Zx.upd (o:=.lst []) nR _ _ m8;generalize upd H4 R (.lst [])=H5 at s5 r8 t0 ⊢;refine⟨_,rfl,L,_,rfl,.inl (.of (s5 _ _ hL)),1,_,rfl,⟨by decide,by decide,by omega,by rw[Za,Zi];omega⟩,?_⟩;rw[show (((gw lV ((h1::t)::r)).length:Int)-1).toNat=r.length by rw[Za,Zi];omega];refine YO (fun i m9 Y=>∃(ys:List (List (List Int))) (rs:List Addr) (v1 v5 v6:Option V),m9=[some (.ref L),v1,some (.ref N),some (.int (wide:Nat)),some (.ref R),v5,v6]/\Zx H Y/\Y N=some (.lst ((n::ss).map nV))/\Y R=some (.lst (rs.map V.ref))/\WR Y rs ys/\ys.length=i/\YT wide ss.length 1 r=Zae ys (YT wide ss.length (1+i) (r.drop i)))
   ⟨[],[],_,_,_,rfl,s5,t0,r8,⟨rfl,fun i b hb=>by cases hb⟩,rfl,by
    show _=Zae [] (YT _ _ 1 r);cases YT wide ss.length 1 r <;> rfl⟩ ?_ ?_
  ·rintro i m9 H6 hi ⟨ys,rs,v1,v5,v6,rfl,s6,n4,n5,l7,yl,eq⟩
   rw[show (1:Int)+(i:Int)=((i+1:Nat):Int) by omega];rw[bJ hi] at eq;have j7:=m4 r[i] (ae _ (dz hi));have w8:=j7.len;have no:∀Y,Zx H6 Y->rwN wide ss.length r[i]=none->Q (.int ((i+1:Nat):Int)) Y:=fun Y s' e3=>by
    refine qE (i+1) ?_ Y (s6.trans s');rw[m7 (.inl (1+i)) (fun z=>by rw[z] at hi;exact absurd hi (Nat.not_lt_zero _)) (eq.trans (by rw[JJ e3];rfl)),gG];rfl
   refine⟨_,rfl,_,rfl,_,_,_,_,rfl,rfl,.of (s6 _ _ hL),ZT (j:=i+1) (v:=lV r[i]) (by rw[aZ,iE,Zc,Zf hi];rfl),rfl,_,_,rfl,rfl,by decide +kernel,by show (tx (Xw r[i])).length+2<=sizeLine;rw[ZC];omega,fun W nW=>?_⟩;show Ye 1 (V.ref W) _ (upd H6 W (.lst ((cr (tx (Xw r[i])) (ar " ")).map V.str))) _;rw[JW,show tx [32]=(⟨#[32]⟩:Str) from rfl,j7.spl,Jd];generalize r[i]=ws at j7 w8 no eq ⊢;have s7:=Zx.upd (H:=H6) (o:=.lst (ws.map wV)) nW;have hW:=Zv (H:=H6) (a:=W) (o:=.lst (ws.map wV));generalize upd H6 W (.lst (ws.map wV))=H7 at s7 hW ⊢;obtain⟨g1,u,rfl⟩:=bU j7.ne;have w9:=j7.le;rw[Zi] at w9;refine⟨_,rfl,_,rfl,W,_,rfl,.of hW,fun W2 j6=>?_⟩;rw[show gw wV (g1::u)=wV g1::u.map wV from rfl,Xl (x:=wV g1) (xs:=u.map wV)];have s8:=Zx.upd (H:=H7) (o:=.lst (u.map wV)) j6;have O:=Zv (H:=H7) (a:=W2) (o:=.lst (u.map wV));generalize upd H7 W2 (.lst (u.map wV))=H8 at s8 O ⊢;refine⟨W2,rfl,⟨_,.of O⟩,?_⟩;refine Vc (fun i v H=>∃J,u[i]?=some J/\((We wide J=none/\v=.non)\/∃xs b,We wide J=some xs/\v=.ref b/\H b=some (.tup (xs.map V.int)))) (WD (.of O)) [some (.int (wide:Nat))] rfl (by rw[Za];omega)
    (fun i v H Y s ⟨J,e1,e2⟩=>⟨J,e1,e2.imp id fun ⟨xs,b,f1,f2,f3⟩=>⟨xs,b,f1,f2,s _ _ f3⟩⟩)
    (fun i v H D ys ys' ⟨J,e1,e2⟩ hD=>⟨J,e1,e2.imp id fun ⟨xs,b,f1,f2,f3⟩=>⟨xs,b,f1,f2,by
     rw[ZB (fun z=>by rw[<-z,f3] at hD;cases hD)];exact f3⟩⟩)
    (fun j y hy Y s' R k=>?_) (fun Dr vs H9 nDr s9 n8 vl hp=>?_)
   ·obtain⟨J,hm,hj,rfl⟩:=Uy hy
    obtain⟨a1,a2,a3⟩:=j7.wd J (ae _ hm);refine⟨_,rfl,_,rfl,wide,J,rfl,w1,p8,a1,by omega,fun e H9 s9=>k _ H9 s9 ⟨J,hj,.inl ⟨by rw[<-ZfA w1];exact e,rfl⟩⟩,fun xs e b H9 s9 h9=>k _ H9 s9 ⟨J,hj,.inr ⟨xs,b,by rw[<-ZfA w1];exact e,rfl,h9⟩⟩⟩
   ·have j4:=(s7.trans s8).trans s9
    have x6:=s9 _ _ (s8 _ _ hW);rw[Za] at vl;refine⟨_,rfl,_,_,_,_,rfl,rfl,.of x6,ZT (j:=0) rfl,rfl,_,rfl,?_⟩;rw[Zfo,show wV g1=V.str (tx g1) from rfl,Y8];refine ZO (fun c1=>?_) (fun c1=>?_)
    ·have c1:¬g1=JX:=by simpa using c1
     refine YF ?_;exact⟨_,rfl,no H9 j4 (by show (if _ then _ else _)=_;rw[if_neg fun z=>c1 z.1])⟩
    have c1:g1=JX:=by simpa using c1
    refine⟨_,rfl,Dr,_,u.map fun J=>dR (We wide J),.none,rfl,.inl (.of n8),XS (by rw[Za];exact vl) (fun j v hv=>?_),.non,Zdy _ _,rfl,by decide,_,rfl,?_⟩
    ·obtain⟨J,e1,e2⟩:=hp j v hv
     refine⟨dR (We wide J),by rw[Zc,e1];rfl,?_⟩;rcases e2 with ⟨f1,rfl⟩|⟨xs,b,f1,rfl,f3⟩
     ·rw[f1];exact .non
     ·rw[f1];exact .tup (.of f3) (Y3.ints _)
    rw[if_neg (by decide),Zd2];refine ZO (fun c2=>?_) (fun c2=>?_)
    ·refine YF ?_
     refine⟨_,rfl,no H9 j4 ?_⟩;show (if _ then _ else _)=_
     rw[if_neg];rintro⟨_,_,z⟩;obtain⟨J,hm,hs⟩:=dB.mp c2;have:=aJ.mp z J hm;cases e:We wide J with
     |none=>rw[e] at this;cases this
     |some _=>rw[e] at hs;cases hs
    have t5:=j4 _ _ n4;refine⟨_,rfl,Dr,_,rfl,.inl (.of n8),_,rfl,N,_,rfl,.inl (.of t5),_,_,rfl,rfl,rfl,_,rfl,?_⟩;have e3:decide (V.int (vs.length:Int)=V.int ((((n::ss).map nV).length:Int)-1))=decide (u.length=ss.length):=by
     rw[vl,Za,Zi,be,decide_eq_true_eq,decide_eq_true_eq];exact⟨fun h=>by have:=V.int.inj h;omega,fun h=>by rw[h];congr 1;omega⟩
    rw[e3];refine ZO (fun c3=>?_) (fun c3=>?_)
    ·have c3:¬u.length=ss.length:=by simpa using c3
     exact⟨_,rfl,no H9 j4 (by show (if _ then _ else _)=_;rw[if_neg fun z=>c3 z.2.1])⟩
    have c3:u.length=ss.length:=by simpa using c3
    have l8:(u.all fun w=>(We wide w).isSome)=true:=aJ.mpr fun J hm=>by
     cases e:We wide J with
     |none=>exact absurd (dB.mpr ⟨J,hm,by rw[e];rfl⟩) c2
     |some _=>rfl
    have er:rwN wide ss.length (g1::u)=some (u.map fun w=>(We wide w).getD []):=by
     show (if _ then _ else _)=_
     rw[if_pos ⟨c1,c3,l8⟩]
    have hv:∀(j:Nat) v,vs[j]?=some v->∃xs b,(u.map fun w=>(We wide w).getD [])[j]?=some xs/\v=.ref b/\H9 b=some (.tup (xs.map V.int)):=fun j v h=>by
     obtain⟨J,e1,e2⟩:=hp j v h;rcases e2 with ⟨f1,_⟩|⟨xs,b,f1,f2,f3⟩
     ·have:=aJ.mp l8 J (aN e1)
      rw[f1] at this;cases this
     ·exact⟨xs,b,by rw[Zc,e1];show some ((We wide J).getD [])=_;rw[f1];rfl,f2,f3⟩
    obtain⟨bs,rfl⟩:=Zbq fun j v h=>by obtain⟨_,b,_,e,_⟩:=hv j v h;exact⟨b,e⟩
    have t6:=j4 _ _ n5;refine⟨_,rfl,.inl ⟨rfl,_,.of t6⟩,_,rfl,Dr,_,rfl,.inl ⟨.of n8,fun b nb=>?_⟩⟩;have j8:=Zx.upd (H:=H9) (o:=.tup (bs.map V.ref)) nb;have hb:=Zv (H:=H9) (a:=b) (o:=.tup (bs.map V.ref));generalize upd H9 b (.tup (bs.map V.ref))=n9 at j8 hb ⊢;have l9:=j8 _ _ t6;have t7:=j8 _ _ t5;refine⟨R,_,_,rfl,rfl,l9,by rw[Za,l7.1];omega,?_⟩;have x8:Jn n9 b (u.map fun w=>(We wide w).getD []):=⟨bs,hb,by rw[Za,<-vl,Za],fun j a ha=>by
     obtain⟨xs,b',e1,e2,e3⟩:=hv j (.ref a) (by rw[Zc,ha];rfl);cases e2;exact⟨xs,e1,j8 _ _ e3⟩⟩
    refine⟨ys++[_],rs++[b],_,_,_,rfl,((s6.trans j4).trans j8).updr v9,by rw[ZB w6];exact t7,by rw[Zv,aU];rfl,((l7.mono (j4.trans j8)).snoc x8).updL l9,by rw[Zd,yl];rfl,?_⟩;rw[eq,JI er,Zad,show 1+i+1=1+(i+1) by omega]
  ·rintro m9 H6 ⟨ys,rs,v1,v5,v6,rfl,s6,n4,n5,l7,yl,eq⟩
   rw[dA] at eq;have eq:_=dS (ys++[]):=eq;rw[aI] at eq;refine⟨_,rfl,aE _,fun D0 n0=>?_⟩;have s7:=Zx.upd (H:=H6) (o:=.lst []) n0;have hD:=Zv (H:=H6) (a:=D0) (o:=.lst []);generalize upd H6 D0 (.lst [])=H7 at s7 hD ⊢;have t8:=s7 _ _ n5;have t9:=s7 _ _ n4;have m3:=l7.mono s7;refine⟨.list (ys.map dTI),.list [],.lst (.of t8) m3.rd,.lst (.of hD) .nil,N63.Xu (fun d hd=>by
    obtain⟨x,_,rfl⟩:=aV.mp hd;exact ZfW x),by decide +kernel,_,rfl,?_⟩
   rw[N63.ZaZ];by_cases j9:r=[]
   ·subst j9
    have:ys=[]:=gW yl;subst this;refine Yg (by decide) ?_;exact qE 1 (VS eh) H7 (s6.trans s7)
   ·have x9:(ys.map dTI).isEmpty=false:=by
     cases ys with
     |nil=>exact absurd (gW yl.symm) j9
     |cons _ _=>rfl
    rw[x9];refine JO rfl ?_;refine⟨_,rfl,_,_,_,_,rfl,rfl,.of t9,ZT (j:=0) rfl,_,rfl,_,rfl,N,_,rfl,.of t9,fun N2 y1=>?_⟩;rw[show gw nV (n::ss)=nV n::ss.map nV from rfl,Xl (x:=nV n) (xs:=ss.map nV)];have s8:=Zx.upd (H:=H7) (o:=.lst (ss.map nV)) y1;have u0:=Zv (H:=H7) (a:=N2) (o:=.lst (ss.map nV));generalize upd H7 N2 (.lst (ss.map nV))=H8 at s8 u0 ⊢;refine⟨N2,_,rfl,.inl ⟨.of u0,fun a na=>?_⟩⟩;have sa:=Zx.upd (H:=H8) (o:=.tup (ss.map nV)) na;have ha:=Zv (H:=H8) (a:=a) (o:=.tup (ss.map nV));generalize upd H8 a (.tup (ss.map nV))=H9 at sa ha ⊢;refine⟨_,rfl,R,_,rfl,.inl ⟨.of (sa _ _ (s8 _ _ t8)),fun qr nq=>?_⟩⟩;have sq:=Zx.upd (H:=H9) (o:=.tup (rs.map V.ref)) nq;have hq:=Zv (H:=H9) (a:=qr) (o:=.tup (rs.map V.ref));generalize upd H9 qr (.tup (rs.map V.ref))=n9 at sq hq ⊢;refine⟨(by show 3<=sizeLine;decide),fun tt nt=>?_⟩;have st:=Zx.upd (H:=n9) (o:=.tup [nV n,.ref a,.ref qr]) nt;exact q _ _ (m7 _ j9 eq) tt _ (((((s6.trans s7).trans s8).trans sa).trans sq).trans st) ⟨n,ss,a,qr,rs,rfl,Zv,st _ _ (sq _ _ ha),st _ _ hq,((m3.mono (s8.trans sa)).mono sq).mono st⟩
end
end C63
namespace Tx
open PySem PySem.Builtin PySem.Builtin.Str PySem.NumText PyProof.Rows PySem.W PySem.W.KIN
noncomputable def NB (l:List Nat):Prop:=∀c∈l,c≠32
theorem NB.app {a b:List Nat}(j:NB a)(hb:NB b):NB (a++b):=fun c z=>(aD.mp z).elim (j c) (hb c)
theorem Ub {l:List Nat}(h:bY l):NB l:=fun c j=>by have:=h c j;omega
theorem Zif (k:Int)(p:Nat):NB (wd k p):=by
 have d:NB (Y1 k):=by
  unfold Y1;split
  ·intro c j
   rcases aj.mp j with rfl|j
   ·decide
   ·exact Ub (Z6 _) c j
  ·exact Ub (Z6 _)
 unfold wd;split
 ·exact d
 ·refine NB.app ?_ fun c j=>?_
  ·split
   ·split
    ·intro c j;cases j
    ·intro c j;rw[aq.mp j];decide
   ·exact d
  ·rcases aj.mp j with rfl|j
   ·decide
   ·split at j
    ·cases j
    ·exact Ub (Z6 _) c j
theorem ZaO:∀(xs:List Int) (p:Nat) {acc:List Nat},NB acc->NB (WC acc xs p)
 | [],_,_,h=>h
 |k::r,p,acc,h=>by
  unfold WC;split
  ·exact ZaO r (p+1) h
  ·refine ZaO r (p+1) (NB.app (NB.app h ?_) (Zif k p))
   split
   ·intro c j;rw[aq.mp j];decide
   ·intro c j;cases j
theorem ZgD (xs:List Int):NB (Wn xs):=by
 unfold Wn;split
 ·intro c j;rw[aq.mp j];decide
 ·exact ZaO xs 0 fun c j=>by cases j
theorem JG:∀(ns:List Int) (k p:Nat) (acc:List Nat),WC acc (ns++ag k 0) p=WC acc ns p
 | [],0,_,_=>rfl
 | [],k+1,p,acc=>by
  rw[br,aM,Yz,if_pos rfl];exact JG [] k (p+1) acc
 |n::ns,k,p,acc=>by
  rw[gK,Yz,Yz];split
  ·exact JG ns k (p+1) acc
  ·exact JG ns k (p+1) _
structure OkW (w:List Nat):Prop where
 asc:YX w
 nb:32∉w
 le:w.length<=60
theorem Zgz {ns:List Int}{k:Nat}(j:ns.length<=2)(O:ns.length+k<=100)(z:∀x∈ns,x.natAbs<10 ^ 20):OkW (Wn (ns++ag k 0)):=by
 refine⟨Zff _,fun h=>ZgD _ 32 h rfl,?_⟩;have J:=VZ (e:=20) (by decide) ns 0 [] z (by omega);unfold Wn;rw[JG];split
 ·show 1<=60
  decide
 ·have Y:ns.length*(20+5)<=2*(20+5):=a8 _ j
  rw[ax] at J;omega
theorem Zby {n:Nat}(h:n<=60):OkW (ZL n):=
 ⟨Xz (Z6 _),fun z=>Ub (Z6 _) 32 z rfl,aK (W6 (k:=2) (by decide) (by omega)) (by decide)⟩
noncomputable def Zco (ns:List Nat)(j:List (List (List Int))):List (List (List Nat)):=(WO::ns.map ZL)::j.map fun z=>JX::z.map Wn
theorem ZgB {ns:List Nat}(J:ns.length<=30)(h:∀n∈ns,n<=60):Xg (WO::ns.map ZL):=by
 refine⟨by simp,by rw[Zi,Za];omega,fun w j=>?_⟩;rcases aj.mp j with rfl|j
 ·exact⟨by unfold YX;decide,by decide,by decide⟩
 ·obtain⟨n,z,rfl⟩:=aV.mp j
  obtain⟨a,b,c⟩:=Zby (h n z);exact⟨a,b,c⟩
theorem ZgA {xs:List (List Int)}(J:xs.length<=30)(h:∀x∈xs,OkW (Wn x)):Xg (JX::xs.map Wn):=by
 refine⟨by simp,by rw[Zi,Za];omega,fun w j=>?_⟩;rcases aj.mp j with rfl|j
 ·exact⟨by unfold YX;decide,by decide,by decide⟩
 ·obtain⟨n,z,rfl⟩:=aV.mp j
  obtain⟨a,b,c⟩:=h n z;exact⟨a,b,c⟩
theorem UQ {w:List Nat}{j:List (List Nat)}(h:j≠[]):Xw (w::j)=w++32::Xw j:=by
 cases j with
 |nil=>exact absurd rfl h
 |cons a r=>rfl
end Tx
namespace C63
open PySem L2 PySem.Spec PyProof.Rows PySem.NumText
open Tx Pm
noncomputable abbrev sLi:Stmt:=top 41
noncomputable def Zg5 (n:Nat)(J:List Nat)(j:List (List (List Int))):Prop:=1<=n/\n<=60/\1<=J.length/\J.length<=17/\(∀k∈J,k<=60)/\j.length<=4/\∀xs∈j,xs≠[]/\xs.length<=17/\∀x∈xs,OkW (Wn x)/\x.length<=60/\∀z∈x,z.natAbs<10 ^ 500
noncomputable def Zhx:Sp:=fun O H Q _=>∃(r:Addr) (n:Nat) (z:List Nat) (j:List (List (List Int))),O=[.ref r]/\ZcH H r (n::z) j/\Zg5 n z j/\∀L J,Zx H J->J L=some (.lst ((Zco (n::z) j).map lV))->Q (.ref L) J
theorem Xx {j:List (List Nat)}(h:j.length<=40)(hw:∀w∈j,w.length<=60):JoinOk (tx [32]) (j.map tx)=true:=by
 unfold JoinOk;rw[StrLaws.joinFits (B:=60) (fun y J=>by obtain⟨w,z,rfl⟩:=aV.mp J;rw[ZC];exact hw w z) ?_]
 ·rfl
 ·rw[Za,ZC]
  have:j.length*60<=40*60:=a8 _ h;have O:j.length * [32].length<=40*1:=a8 _ h;omega
end C63
namespace L2
open PySem PySem.Spec PyProof.Rows
theorem V9 {X:Cx}{T:String}{name:Str}{id:String}{r:V->List V->Hp->VK->Prop}{o e:Expr}{to:TE}{t:TA}{j z:Pos}(pa:PlainAttrs T)(slot:Slot T name id)(Y:typeOf (.builtin id)=pure (.type "method_descriptor"))(hm:MtR X id r)(ho:PE X o to)(ha:PA X [e] t)
  (he:Jt e=true:=by rfl) (J:attributeBase o name X.env (eval o X.env)=eval o X.env:=by rfl) (O:(j.endLine == z.line)=true:=by rfl) :
  PE X (.Call (.Attribute o name j) [e] [] z) (tBM X.K T r to t):=Y6 pa slot Y hm ho ha J (by rw[YL he];rfl) O (YL he) rfl
end L2
namespace C63
open PySem L2 PySem.Spec PyProof.Rows PySem.NumText
open Tx Pm
noncomputable def stV:V->V
 | .int k=>.str (tx (Y1 k))
 |v=>v
section
variable {P:Program}{w:World}{K:ac}{mg:Str->Option Value}{base:Heap}
theorem Zh8 {f:Addr}{fd:FuncData}(F:WT K "_law_lines" "_law_lines" sLi f fd)(B:N63.Bl mg)(TX:BlX mg)(m4:Fn P w K mg base YD 2 "_law_shown" ["_law_number_here"] (Zft K)):Z8 P w K mg base YD 3 f fd ["_law_frame"] Zhx:=by
 refine F.ok (FS (N:=["_law_frame", "_law_lines_here", "_law_row"])) (fun vs H Q E h=>?_) (fun n9 A m5 s H vs Q E hr h=>?_)
 ·obtain⟨r,n,ss,j6,rfl,_⟩:=h;rfl
 ·obtain⟨r,n,ss,j6,rfl,⟨n',o4,a,q,rs,e0,h1,h2,h3,h4⟩,⟨n1,j7,s1,o5,j8,x4,hx⟩,qq⟩:=h
  cases e0;refine Zaa (XU (ZfB 1 rfl ⟨Z3 (pc (ZD Z4 ZA (V9 aQ fk fj Uc ZA (pc (cmp ["_law_one"] [] ["_law_one"] rfl (itT K (ZD Zbx (Y5 (pc (ZP (Vl K) (vn 0) Zu (fun _ _=>rfl)) Zs)) (ZP (Vl K) (vn 0) Zu (fun _ _=>rfl)))) (fun _ _ _ _ _=>gn 0) (fun _ _ _ _ _=>YR) (fun _ _ _ _ _=>ct Ym TX.str (pc (vn 0) Zs))) Zs))) Zs)⟩)
   ⟨Zt (Wh ba rfl (itT K (ZP (Vl K) (vn 0) Zu (fun _ _=>rfl))) (gn 2) (Zw (Jb (V9 bO bx bM YC (vn 1) (pc (ZD Z4 ZA (V9 aQ fk fj Uc ZA (pc (cmp ["_law_number_here"] [] ["_law_number_here"] rfl (itT K (vn 2)) (fun _ _ _ _ _=>gn 0) (fun _ _ _ _ _=>YR) (fun _ _ _ _ _=>Wc m4 hr ZU (pc (vn 0) Zs))) Zs))) Zs)))))
   (Zw (ZF (vn 1)))⟩) ⟨?_⟩
  have hz:(16777216:Nat)=sizeLine:=by decide
  refine⟨rfl,_,rfl,_,_,_,_,rfl,rfl,.of h1,ZT (j:=0) rfl,(by show 1<=sizeLine;decide),fun p1 m6=>?_⟩;have sp:=Zx.upd (H:=H) (o:=.tup [.int n]) m6;have j9:=Zv (H:=H) (a:=p1) (o:=.tup [.int n]);generalize upd H p1 (.tup [.int n])=H1 at sp j9 ⊢;refine⟨_,rfl,_,_,_,_,rfl,rfl,.of (sp _ _ h1),ZT (j:=1) rfl,p1,a,_,_,rfl,rfl,j9,sp _ _ h2,by rw[Za];show 1+ss.length<=sizeLine;omega,fun p2 H2 s2 Y=>?_⟩;have Y:H2 p2=some (.tup ((n::ss).map nV)):=Y;refine⟨p2,rfl,⟨_,.of Y⟩,?_⟩;refine Ww (V1 (.of Y)) [] rfl stV (by rw[Za,Zi];omega) (fun i x H' hx s' R h4=>?_) (fun D H3 nD s3 hD=>?_)
  ·rw[Zc] at hx
   cases e:(n::ss)[i]? with
   |none=>rw[e] at hx;cases hx
   |some k=>
    rw[e] at hx;cases hx;have m7:k<=60:=by
     rcases aj.mp (aN e) with rfl|hm
     ·exact j7
     ·exact j8 k hm
    refine⟨_,rfl,(k:Int),rfl,X1 (by show (k:Nat)<10 ^ 500;exact jx m7 (by decide +kernel)),?_⟩;have:=h4 H' (Zx.refl _);rw[show stV (nV k)=V.str (tx (Y1 (k:Int))) from rfl,<-str_int] at this;exact this
  have eD:((n::ss).map nV).map stV=(((n::ss).map ZL).map tx).map V.str:=by
   rw[a7,a7,a7];refine dP fun k _=>?_;show V.str (tx (Y1 (k:Int)))=V.str (tx (ZL k));unfold Y1;rw[if_neg (by omega),bW]
  rw[eD] at hD;have wl:((n::ss).map ZL).length<=40:=by rw[Za,Zi];omega
  have wk:∀w∈(n::ss).map ZL,w.length<=60:=fun w hw=>by
   obtain⟨k,hk,rfl⟩:=aV.mp hw;refine (Zby ?_).le;rcases aj.mp hk with rfl|hm
   ·exact j7
   ·exact j8 k hm
  refine⟨_,D,_,rfl,rfl,hD,by rw[JW];exact Xx wl wk,_,_,rfl,rfl,?_,(by show 1<=sizeLine;decide),fun L nL=>?_⟩
  ·rw[JW,show tx [32]=(⟨#[32]⟩:Str) from rfl,Wb,ZC]
   have h1:=Jf 32 (B:=60) _ wk;have h2:((n::ss).map ZL).length*61<=40*61:=a8 _ wl;have h3:(ar "table ").length=6:=by decide +kernel
   omega
  have eT:(ar "table ")++eG (ar " ") (((n::ss).map ZL).map tx)=tx (Xw (WO::(n::ss).map ZL)):=by
   rw[JW,show tx [32]=(⟨#[32]⟩:Str) from rfl,Wb,show ar "table "=tx (WO++[32]) by decide +kernel,Yi,UQ (by simp),aw];rfl
  have l7:=(sp.trans s2).trans s3;have m8:H L=none:=l7.free nL;have s4:=l7.trans (Zx.upd (o:=.lst [lV (WO::(n::ss).map ZL)]) nL);have l8:upd H3 L (.lst [lV (WO::(n::ss).map ZL)]) L=some (.lst [lV (WO::(n::ss).map ZL)]):=Zv;rw[eT];show Ye 1 (V.ref L) _ (upd H3 L (.lst [lV (WO::(n::ss).map ZL)])) _;generalize upd H3 L (.lst [lV (WO::(n::ss).map ZL)])=H4 at s4 l8 ⊢;refine⟨_,rfl,_,_,_,_,rfl,rfl,.of (s4 _ _ h1),ZT (j:=2) rfl,q,rfl,⟨_,.of (s4 _ _ h3)⟩,?_⟩;refine Ze2 (K:=K) (xs:=rs.map V.ref) (fun i j4 H'=>∃v2:Option V,j4=[some (.ref r),some (.ref L),v2]/\Zx H H'/\H' L=some (.lst (((WO::(n::ss).map ZL)::(j6.take i).map fun xs=>JX::xs.map Wn).map lV)))
   ⟨_,rfl,s4,l8⟩ (fun i j4 H' _ h=>by obtain⟨_,_,sm,_⟩:=h;exact .of (sm _ _ h3)) ?_ ?_
  ·rintro i x j4 H5 J ⟨v2,rfl,s5,O⟩
   rw[Zc] at J;cases eb:rs[i]? with
   |none=>rw[eb] at J;cases J
   |some b=>
   rw[eb] at J;cases J;obtain⟨y,ey,m9⟩:=h4.2 i b eb;obtain⟨cs,g1,g2,g3⟩:=m9.mono s5;have n4:=aN ey;obtain⟨n5,o6,hy⟩:=hx y n4;refine⟨_,rfl,.inl ⟨rfl,_,.of O⟩,rfl,_,rfl,b,rfl,⟨_,.of g1⟩,?_⟩;refine Vc (fun j v _=>∃x,y[j]?=some x/\v=wV (Wn x)) (V1 (.of g1)) [] rfl (by rw[Za];omega) (fun _ _ _ _ _ h=>h) (fun _ _ _ _ _ _ h _=>h) (fun j z hz H' s' R k=>?_) (fun D vs H6 nD s6 hD vl hp=>?_)
   ·rw[Zc] at hz
    cases ec:cs[j]? with
    |none=>rw[ec] at hz;cases hz
    |some c=>
     rw[ec] at hz;cases hz;obtain⟨x,e1,e2⟩:=g3 j c ec;obtain⟨o1,o2,o3⟩:=hy x (aN e1);exact⟨_,rfl,c,x,rfl,.of (s' _ _ e2),o3,o2,fun H7 s7=>k _ H7 s7 ⟨x,e1,rfl⟩⟩
   ·have ev:vs=((y.map Wn).map tx).map V.str:=by
     rw[Za,g2] at vl;refine jz fun j=>?_;rw[Zc,Zc,Zc];by_cases hj:j<vs.length
     ·obtain⟨x,e1,e2⟩:=hp j vs[j] (Zf hj)
      rw[Zf hj,e1,e2];rfl
     ·rw[bV (by omega),bV (by omega)]
      rfl
    subst ev;have l9:(y.map Wn).length<=40:=by rw[Za];omega
    have m3:∀w∈y.map Wn,w.length<=60:=fun w hw=>by
     obtain⟨x,hm,rfl⟩:=aV.mp hw;exact (hy x hm).1.le
    have n8:(ar "row ")++eG (ar " ") ((y.map Wn).map tx)=tx (Xw (JX::y.map Wn)):=by
     rw[JW,show tx [32]=(⟨#[32]⟩:Str) from rfl,Wb,show ar "row "=tx (JX++[32]) by decide +kernel,Yi,UQ (by simpa using n5),aw];rfl
    refine⟨_,D,_,rfl,rfl,hD,by rw[JW];exact Xx l9 m3,_,_,rfl,rfl,?_,L,_,_,rfl,rfl,s6 _ _ O,?_,?_⟩
    ·rw[JW,show tx [32]=(⟨#[32]⟩:Str) from rfl,Wb,ZC]
     have h1:=Jf 32 (B:=60) _ m3;have h2:(y.map Wn).length*61<=40*61:=a8 _ l9;have h3:(ar "row ").length=4:=by decide +kernel
     omega
    ·rw[Za,Zi,Za,aB]
     omega
    ·rw[n8]
     refine⟨_,rfl,(s5.trans s6).updr m8,?_⟩;rw[Zv,List.take_succ,ey];simp[lV]
  ·rintro j4 H5 ⟨v2,rfl,s5,O⟩
   rw[Za,h4.1,cK] at O;exact⟨_,rfl,qq L H5 s5 O⟩
end
noncomputable abbrev sAn:Stmt:=top 42
theorem ZbS {p q:Addr}{b:Nat}(c:Nat)(Pr:Nat->V->Hp->Prop){J:It}{own:List Str}{j4:List Nat}{te:TE}{σ:L2.St}{H:Hp}{Q:VK}{xs:List V}(S:∀O,Tk p H O->WA J O xs)(T0:Yo H p q b)(cs:L2.St)(j7:Jz own j4 σ=none::cs)(hn:xs.length<=1000)
  (mono:∀i v H O b',Yo H p q b'->Tk p H O->Pr i v H->Pr i v O) (hu:∀i v H D ys j8,Pr i v H->H D=some (.lst ys)->Pr i v (upd H D (.lst j8)))
  (hs:∀(i:Nat) y,xs[i]?=some y->∀O,Tk p H O->Yo O p q (b+c*i)->∀R:VK,(∀v H5,Tk p O H5->Yo H5 p q (b+c*(i+1))->Pr i v H5->R v H5)->te (some y::cs) O R)
  (hd:∀D (vs:List V) O,Tk p H O->Yo O p q (b+c*xs.length)->O D=some (.lst vs)->vs.length=xs.length->(∀(i:Nat) v,vs[i]?=some v->Pr i v O)->Q (.ref D) O):JV own j4 (Ye 0) JC te σ Q J H:=by
 refine U2 (xs:=xs) (fun D i ys O=>Tk p H O/\Yo O p q (b+c*i)/\ys.length=i/\∀(j:Nat) v,ys[j]?=some v->Pr j v O) cs j7 (by omega) ?_ ?_ ?_ ?_
 ·intro D i ys O hD Y g
  have S':=S O g.1;exact⟨fun hi=>⟨S'.go i O (Zx.refl _) hi,fun x H3 y=>S'.yld i O x H3 (Zx.refl _) hi y⟩,fun e=>e▸S'.stop O (Zx.refl _)⟩
 ·intro D hD
  exact⟨Tk.of (Zx.upd hD),T0.mono (Zx.upd hD),rfl,fun j v h=>by cases h⟩
 ·rintro D i x ys O hD Y hx ⟨k,T1,yl,hp⟩ R g
  have j9:D≠p:=T1.ne Y fun _ z=>by cases z
  have l7:D≠q:=(T0.neN hD).2;refine hs i x hx O k T1 R fun v H5 k5 T5 p5=>?_;have j6:=k5.lst T1 Y;refine g v H5 j6 ⟨fun b o e nb=>?_,T5.put j9 l7,?_,fun j u hv=>?_⟩
  ·rw[ZB (fun z=>by rw[z,hD] at e;cases e)]
   exact (k.trans k5) b o e nb
  ·rw[Zd,yl];rfl
  ·by_cases hj:j<ys.length
   ·rw[a6 hj] at hv
    exact hu _ _ _ _ _ _ (mono _ _ _ _ _ T1 k5 (hp j u hv)) j6
   ·rw[aP (by omega)] at hv
    have l8:j=i:=by
     have:=(aH.mp hv).1;rw[Zk] at this;omega
    subst l8;rw[yl,dX] at hv;cases hv;exact hu _ _ _ _ _ _ p5 j6
 ·rintro D ys O hD Y yl ⟨k,T1,_,hp⟩
  exact hd D ys O k T1 Y yl hp
noncomputable def OkX (x:List Int):Prop:=OkW (Wn x)/\x.length<=60/\∀z∈x,z.natAbs<10 ^ 500
theorem Zgy {ns:List Int}{k:Nat}(J:ns.length<=2)(O:ns.length+k<=60)(j:∀x∈ns,x.natAbs<10 ^ 20):OkX (ns++ag k 0):=by
 refine⟨Zgz J (by omega) j,by rw[Zd,Ze];exact O,fun z Y=>?_⟩;rcases aD.mp Y with h|h
 ·exact cN (j z h) (by decide +kernel)
 ·rw[List.eq_of_mem_replicate h];decide +kernel
theorem Zfx {H:Hp}:∀{vs:List V},(∀v∈vs,∃c x,v=V.ref c/\H c=some (.tup (x.map V.int))/\OkX x)->∃(rs:List Addr) (xs:List (List Int)),vs=rs.map V.ref/\rs.length=xs.length/\(∀(i:Nat) b,rs[i]?=some b->∃y,xs[i]?=some y/\H b=some (.tup (y.map V.int)))/\∀x∈xs,OkX x
 | [],_=>⟨[],[],rfl,rfl,(fun i b h=>by cases h),(fun x h=>by cases h)⟩
 |v::vs,h=>by
  obtain⟨c,x,rfl,z,J⟩:=h v (ah ..);obtain⟨rs,xs,rfl,O,Y,e3⟩:=Zfx (vs:=vs) fun u hu=>h u (ae _ hu);refine⟨c::rs,x::xs,rfl,by rw[Zi,Zi,O],fun i b hb=>?_,fun y j=>?_⟩
  ·cases i with
   |zero=>cases hb;exact⟨x,rfl,z⟩
   |succ i=>exact Y i b hb
  ·rcases aj.mp j with rfl|j
   ·exact J
   ·exact e3 y j
theorem ZbB:∀{vs:List V},(∀v∈vs,∃k:Nat,v=nV k/\k<=60)->∃J:List Nat,vs=J.map nV/\∀k∈J,k<=60
 | [],_=>⟨[],rfl,fun k h=>by cases h⟩
 |v::vs,h=>by
  obtain⟨k,rfl,O⟩:=h v (ah ..);obtain⟨J,rfl,Y⟩:=ZbB (vs:=vs) fun u hu=>h u (ae _ hu);exact⟨k::J,rfl,fun j hj=>(aj.mp hj).elim (fun z=>z▸O) (Y j)⟩
theorem Jn.tk {H z:Hp}{p q r:Addr}{b:Nat}{j:List (List Int)}(T:Yo H p q b)(k:Tk p H z)(h:Jn H r j):Jn z r j:=by
 obtain⟨J,O,Y,h3⟩:=h;exact⟨J,k.tup T O,Y,fun i b hb=>by obtain⟨y,e1,e2⟩:=h3 i b hb;exact⟨y,e1,k.tup T e2⟩⟩
theorem WR.tk {H z:Hp}{p q:Addr}{b:Nat}{rs:List Addr}{j:List (List (List Int))}(T:Yo H p q b)(k:Tk p H z)(h:WR H rs j):WR z rs j:=
 ⟨h.1,fun i c J=>by obtain⟨y,O,Y⟩:=h.2 i c J;exact⟨y,O,Y.tk T k⟩⟩
noncomputable def ZhB:Sp:=fun O H Q _=>∃(p q:Addr) (b:Nat),O=[.ref p]/\Yo H p q b/\b<2 ^ 58/\∀r n J j z,Tk p H z->Yo z p q (b+400)->ZcH z r (n::J) j->Zg5 n J j->Q (.ref r) z
section
variable {P:Program}{w:World}{K:ac}{mg:Str->Option Value}{base:Heap}
theorem Zid {f:Addr}{fd:FuncData}(F:WT K "_law_any" "_law_any" sAn f fd)(B:N63.Bl mg)(n9:mg "min"=none)(o4:mg "max"=none)(GD:Fn P w K mg base YD 1 "_law_draw" ["_law_feed_here", "_law_many"] VW)(o5:Fn P w K mg base YD 1 "_law_alone" ["_law_k", "_law_n"] Zc4)(o6:Fn P w K mg base YD 2 "_law_number" ["_law_feed_here", "_law_wide"] Zfv):Z8 P w K mg base YD 3 f fd ["_law_feed_here"] ZhB:=by
 refine F.ok (FS (N:=["_law_feed_here", "_law_n", "_law_wide", "_law_sizes", "_law_rows", "_law_k"])) (fun vs H Q E h=>?_) (fun u3 A o8 s H vs Q E hr h=>?_)
 ·obtain⟨p,q,b,rfl,_⟩:=h;rfl
 ·obtain⟨p,q,b,rfl,T0,hb,qq⟩:=h
  refine⟨_,Zt (ZJ 1 rfl (ZD Z9 Zu (Wc GD hr ZU (pc (vn 0) (pc Zu Zs)))))
   (Zt (ZJ 2 rfl (cb (Ws K) B.len (pc (cmp ["_law_k"] [1] ["_law_k", "_law_n"] rfl (Zeh B.range (pc Zu (pc (ZD Z9 (vn 1) Zu) Zs))) (fun _ _ _ _ _=>gn 0) (fun _ _ _ _ _=>V7 (Wg (Wc o5 hr ZU (pc (vn 0) (pc (vn 1) Zs))))) (fun _ _ _ _ _=>vn 0)) Zs)))
   (Zt (ZJ 3 rfl (ct (tupK K) B.tuple (pc (cmp ["_law_k"] [0] ["_law_k", "_law_feed_here"] rfl (Zb3 B.range (pc (ZD Z9 Zu (Wc GD hr ZU (pc (vn 0) (pc (ZP (Vq K) (Z3 (pc Zu (pc Zu Zs))) (ct Xf B.int (pc (WG Z1 (Wc GD hr ZU (pc (vn 0) (pc Zu Zs))) Zu (Zz _)) Zs)) (fun _ _=>rfl)) Zs)))) Zs)) (fun _ _ _ _ _=>gn 0) (fun _ _ _ _ _=>YR) (fun _ _ _ _ _=>ZD Z9 Zu (Wc GD hr ZU (pc (vn 1) (pc Zu Zs))))) Zs)))
   (Zt (ZJ 4 rfl (Z3 Zs))
   (Zt (Wh ba rfl (Zb3 B.range (pc (ZD Z9 Zu (Wc GD hr ZU (pc (vn 0) (pc Zu Zs)))) Zs)) (gn 5)
   (Zw (Jb (Y6 bO bx bM YC (vn 4) (pc (ct (tupK K) B.tuple (pc (cmp ["_law_size"] [0,2] ["_law_size", "_law_feed_here", "_law_wide"] rfl (itT K (vn 3)) (fun _ _ _ _ _=>gn 0) (fun _ _ _ _ _=>YR) (fun _ _ _ _ _=>ZD Zbx (Wc o6 hr ZU (pc (vn 1) (pc (cb (Xe rfl) (by exact n9) (pc Zu (pc (vn 2) Zs))) Zs))) (ZD Zbv (Y5 (pc Zu Zs)) (cb (ZcF rfl) (by exact o4) (pc Zu (pc (ZD WY (vn 2) Zu) Zs)))))) Zs)) Zs)))))
   (Zw (ZF (Y5 (pc (vn 1) (pc (vn 3) (pc (ct (tupK K) B.tuple (pc (vn 4) Zs)) Zs)))))))))),?_⟩
  have hz:(16777216:Nat)=sizeLine:=by decide
  refine⟨_,rfl,p,q,_,_,rfl,T0,by omega,by decide,by decide,fun r H1 r0 r1 k1 T1=>⟨_,_,rfl,rfl,?_⟩⟩;obtain⟨n,en⟩:∃n:Nat,(1:Int)+r=(n:Nat):=⟨(1+r).toNat,by omega⟩;have n1:1<=n:=by omega
  have l9:n<=60:=by omega
  show Ye 1 (V.int (1+r)) _ _ _;rw[en];obtain⟨_,_,m3,p1,o9⟩:=N63.J5 n1 l9;refine⟨_,rfl,_,_,rfl,rfl,1,(n:Int)+1,rfl,⟨by omega,by omega,by omega,by omega⟩,?_⟩;rw[show ((n:Int)+1-1).toNat=n by omega];refine Xc (V2 1 n) [some (.int n)] rfl (fun y=>match y with | .int k=>decide (N63.Vr k n=1)|_=>false) (fun y=>y) (by rw[Za,JK];omega) ?_ ?_
  ·intro j y O hy s' R R' g1 g2
   rw[Zc] at hy;cases e:(Xr 1 n)[j]? with
   |none=>rw[e] at hy;cases hy
   |some k=>
    rw[e] at hy;cases hy;refine⟨_,rfl,_,rfl,k,n,rfl,by omega,by omega,_,rfl,?_⟩;refine ZO (fun b1=>?_) (fun b1=>?_)
    ·exact⟨_,rfl,g1 b1 O (Zx.refl _)⟩
    ·exact g2 (by simpa using b1) O (Zx.refl _)
  intro D H2 nD s2 m4;refine⟨D,_,rfl,.inl (.of m4),?_⟩;have e:((((Xr 1 n).map V.int).filter fun y=>match y with | .int k=>decide (N63.Vr k n=1)|_=>false).map fun y=>y).length=ph n:=by
   unfold ph;rw[gv,g8,Za,m3];unfold N63.ZbD;rw[Zj,Zj];rfl
  rw[e];have w1:1<=ph n:=by unfold ph;omega
  have p0:ph n<=60:=by unfold ph;omega
  generalize ph n=wide at w1 p0 ⊢;have k2:=k1.trans (Tk.of s2);have T2:=T1.mono s2;clear m4 nD m3 p1 o9 e k1 s2 T1;refine⟨_,rfl,(by show 2<=sizeLine;decide),fun l2 p6=>?_⟩;have s3:=Zx.upd (H:=H2) (o:=.lst [.int 4,.int 17]) p6;have h3:=Zv (H:=H2) (a:=l2) (o:=.lst [.int 4,.int 17]);generalize upd H2 l2 (.lst [.int 4,.int 17])=H3 at s3 h3 ⊢;refine⟨_,rfl,p,q,_,_,rfl,T2.mono s3,by omega,by decide,by decide,fun r4 H4 u4 u5 k4 T4=>⟨rfl,.inr ⟨_,rfl,?_⟩⟩⟩;have h4:=k4.lst (T2.mono s3) h3;have m5:=(k2.trans (Tk.of s3)).trans k4;obtain⟨m,hm,u6⟩:∃m:Nat,atI [V.int 4,V.int 17] (if (decide (V.int r4=V.int 0)) then 1 else 0)=some (.int (m:Nat))/\(m=4\/m=17):=by
   by_cases h:V.int r4=V.int 0
   ·rw[decide_eq_true h];exact⟨17,rfl,.inr rfl⟩
   ·rw[decide_eq_false h];exact⟨4,rfl,.inl rfl⟩
  refine⟨l2,_,_,_,rfl,rfl,.of h4,hm,?_⟩;refine⟨p,q,_,_,rfl,T4,by omega,by omega,by omega,fun r5 H5 u7 u8 k5 T5=>⟨_,_,rfl,rfl,?_⟩⟩;obtain⟨c,ec⟩:∃c:Nat,(1:Int)+r5=(c:Nat):=⟨(1+r5).toNat,by omega⟩;have c1:1<=c:=by omega
  have u9:c<=17:=by omega
  have m6:=m5.trans k5;refine⟨_,rfl,by omega,by omega,?_⟩;rw[ec,Zj];have rl:((Xr 0 c).map V.int).length=c:=by rw[Za,JK]
  refine ZbS 1 (fun i v _=>∃k:Nat,v=nV k/\k<=60) (fun O _=>V2 0 c) T5 [some (.ref p)] rfl (by rw[rl];omega) (fun _ _ _ _ _ _ _ h=>h) (fun _ _ _ _ _ _ h _=>h) (fun i y hy O k' T' R g=>?_) (fun D vs H6 k6 T6 m7 vl hp=>?_)
  ·have hi:i<c:=by
    have:=(aH.mp hy).1;rw[rl] at this;exact this
   refine⟨_,rfl,p,q,_,_,rfl,T',by omega,by decide,by decide,fun r7 H7 v8 v9 k7 T7=>⟨_,_,rfl,rfl,?_⟩⟩;exact g _ H7 k7 (T7.le (by omega)) ⟨(1+r7).toNat,by show V.int (1+r7)=V.int (((1+r7).toNat:Nat):Int);rw[jm (by omega)],by omega⟩
  rw[rl] at T6 vl;obtain⟨ss,rfl,p7⟩:=ZbB fun v hv=>by
   obtain⟨i,hi⟩:=fG hv;exact hp i v hi
  rw[Za] at vl;refine⟨D,_,rfl,.inl ⟨.of m7,fun a na=>?_⟩⟩;have T7:=T6.mono (Zx.upd (o:=.tup (ss.map nV)) na);have h7:=Zv (H:=H6) (a:=a) (o:=.tup (ss.map nV));have j9:=(m6.trans k6).trans (Tk.of (Zx.upd (o:=.tup (ss.map nV)) na));generalize upd H6 a (.tup (ss.map nV))=H7 at T7 h7 j9 ⊢;clear m7 na hp k6 T6 m6 m5 h4 hm T4 T5 k5 k4 h3 s3;refine⟨aE _,fun L nL=>?_⟩;have p8:H L=none:=by
   cases e:H L with
   |none=>rfl
   |some o=>
    have:=j9 L o e (T7.neN nL).1;rw[nL] at this;cases this
  obtain⟨p9,r8⟩:=T7.neN nL;have T8:=T7.mono (Zx.upd (o:=.lst []) nL);have h8:=Zx.upd (o:=.lst []) nL _ _ h7;have m8:=Zv (H:=H7) (a:=L) (o:=.lst []);have m9:=j9.trans (Tk.of (Zx.upd (o:=.lst []) nL));generalize upd H7 L (.lst [])=H8 at T8 h8 m9 m8 ⊢;refine⟨_,rfl,p,q,_,_,rfl,T8,by omega,by decide,by decide,fun r9 H9 w6 w8 k9 T9=>⟨_,_,rfl,rfl,?_⟩⟩;have h9:=k9.tup T8 h8;have t0:=k9.lst T8 m8;have t5:=m9.trans k9;refine⟨_,rfl,by omega,by omega,?_⟩;refine YO (fun i l7 O=>∃(rs:List Addr) (J:List (List (List Int))) (v5:Option V),l7=[some (.ref p),some (.int (n:Nat)),some (.int (wide:Nat)),some (.ref a),some (.ref L),v5]/\Tk p H O/\Yo O p q (b+30+80*i)/\O a=some (.tup (ss.map nV))/\O L=some (.lst (rs.map V.ref))/\WR O rs J/\J.length=i/\∀xs∈J,xs.length=ss.length/\∀x∈xs,OkX x)
   ⟨[],[],_,rfl,t5,T9.le (by omega),h9,t0,⟨rfl,fun i b hb=>by cases hb⟩,rfl,fun xs hx=>by cases hx⟩ ?_ ?_
  ·rintro i l7 HA hi ⟨rs,J,v5,rfl,kA,TA,hA,j6,j7,xl,hx⟩
   refine⟨_,rfl,.inl ⟨rfl,_,.of j6⟩,_,rfl,a,rfl,⟨_,.of hA⟩,?_⟩;have sl:(ss.map nV).length=c:=by rw[Za];exact vl
   refine ZbS (b:=b+30+80*i) 4 (fun j v O=>∃c x,v=V.ref c/\O c=some (.tup (x.map V.int))/\OkX x) (fun O k'=>V1 (.of (k'.tup TA hA))) TA [some (.ref p),some (.int (wide:Nat))] rfl (by rw[sl];omega)
    (fun i v Ha Hb b' T' k' h=>by obtain⟨c,x,e1,e2,e3⟩:=h;exact⟨c,x,e1,k'.tup T' e2,e3⟩)
    (fun i v Ha D ys w9 h hD=>by obtain⟨c,x,e1,e2,e3⟩:=h;exact⟨c,x,e1,by rw[ZB (fun z=>by rw[<-z,e2] at hD;cases hD)];exact e2,e3⟩)
    (fun j y hy O k' T' R g=>?_) (fun D vs HB kB TB t6 n4 t7=>?_)
   ·have hj:j<c:=by
     have:=(aH.mp hy).1;rw[sl] at this;exact this
    refine⟨_,rfl,_,rfl,_,_,rfl,?_⟩;obtain⟨m2,t8,x6⟩:∃m2:Nat,(if (wide:Int)<2 then (wide:Int) else 2)=(m2:Nat)/\m2+(wide-2)=wide/\m2<=2:=by
     by_cases h:(wide:Int)<2
     ·exact⟨wide,by rw[if_pos h],by omega,by omega⟩
     ·exact⟨2,by rw[if_neg h];rfl,by omega,by omega⟩
    rw[t8];refine⟨p,q,m2,_,rfl,T',by omega,by omega,fun zs nb HC kC TC zl zb t9=>?_⟩;refine⟨(by show 1<=sizeLine;decide),fun z1 nz=>?_⟩;have sD:=Zx.upd (H:=HC) (o:=.tup [.int 0]) nz;have hD:=Zv (H:=HC) (a:=z1) (o:=.tup [.int 0]);generalize upd HC z1 (.tup [.int 0])=HD at sD hD ⊢;refine⟨_,rfl,_,_,rfl,rfl,_,_,rfl,?_⟩;rw[show (if (wide:Int)-2 > 0 then (wide:Int)-2 else 0)=((wide-2:Nat):Int) by split <;> omega]
    refine⟨z1,_,wide-2,rfl,rfl,hD,by simp,by simp;omega,by omega,fun z2 HE sE hE=>?_⟩;have eZ:(ag (wide-2) [V.int 0]).flatten=(ag (wide-2) (0:Int)).map V.int:=by
     rw[List.map_replicate];generalize wide-2=k;induction k with
     |zero=>rfl
     |succ k ih=>rw[aM,aM,bG,ih];rfl
    rw[eZ] at hE;have n5:=sD.trans sE;refine⟨nb,z2,_,_,rfl,rfl,n5 _ _ t9,hE,by rw[Za,Za,Ze];omega,fun z3 HF sF hF=>?_⟩;rw[<-aU] at hF;have n8:=n5.trans sF;exact g _ HF (kC.trans (Tk.of n8)) ((TC.mono n8).le (by omega)) ⟨z3,_,rfl,hF,Zgy (by omega) (by omega) zb⟩
   ·rw[sl] at TB n4
    obtain⟨cs,ys,rfl,e1,e2,e3⟩:=Zfx fun v hv=>by
     obtain⟨j,hj⟩:=fG hv;exact t7 j v hj
    rw[Za] at n4;refine⟨D,_,rfl,.inl ⟨.of t6,fun u nu=>?_⟩⟩;have Y:=Zx.upd (H:=HB) (o:=.tup (cs.map V.ref)) nu;have hC:=Zv (H:=HB) (a:=u) (o:=.tup (cs.map V.ref));generalize upd HB u (.tup (cs.map V.ref))=HC at Y hC ⊢;have j4:=Y _ _ (kB.lst TA j6);have kC:=(kA.trans kB).trans (Tk.of Y);have rC:Jn HC u ys:=⟨cs,hC,e1,fun i b hb=>by obtain⟨y,f1,f2⟩:=e2 i b hb;exact⟨y,f1,Y _ _ f2⟩⟩;have u0:=(j7.tk TA kB).mono Y;refine⟨L,_,_,rfl,rfl,j4,by rw[Za,j7.1];omega,?_⟩;refine⟨rs++[u],J++[ys],_,rfl,fun b o e nb=>?_,((TB.mono Y).put p9 r8).le (by omega),?_,?_,(u0.updL j4).snoc (rC.updL j4),by rw[Zd,xl];rfl,fun xs l8=>?_⟩
    ·rw[ZB (fun z=>by rw[z,p8] at e;cases e)]
     exact kC b o e nb
    ·rw[ZB (fun z=>by rw[<-z,Y _ _ (kB.tup TA hA)] at j4;cases j4)]
     exact Y _ _ (kB.tup TA hA)
    ·rw[Zv,aU];rfl
    ·rcases aD.mp l8 with z|z
     ·exact hx xs z
     ·rw[aq.mp z]
      exact⟨by omega,e3⟩
  ·rintro l7 HA ⟨rs,J,v5,rfl,kA,TA,hA,j6,j7,xl,hx⟩
   refine⟨_,rfl,_,rfl,_,rfl,L,_,rfl,.inl ⟨.of j6,fun t nt=>?_⟩⟩;have sB:=Zx.upd (H:=HA) (o:=.tup (rs.map V.ref)) nt;have hB:=Zv (H:=HA) (a:=t) (o:=.tup (rs.map V.ref));generalize upd HA t (.tup (rs.map V.ref))=HB at sB hB ⊢;refine⟨(by show 3<=sizeLine;decide),fun u nu=>?_⟩;have Y:=Zx.upd (H:=HB) (o:=.tup [.int (n:Nat),.ref a,.ref t]) nu;have hC:=Zv (H:=HB) (a:=u) (o:=.tup [.int (n:Nat),.ref a,.ref t]);have j8:=sB.trans Y;refine qq u n ss J _ (kA.trans (Tk.of j8)) ((TA.mono j8).le (by omega)) ⟨n,ss,a,t,rs,rfl,hC,j8 _ _ hA,Y _ _ hB,j7.mono j8⟩ ⟨n1,l9,by omega,by omega,p7,by omega,fun xs l8=>?_⟩;obtain⟨f1,f2⟩:=hx xs l8;refine⟨fun z=>?_,by omega,f2⟩;rw[z,ax] at f1;omega
end
end C63
namespace L2
open PySem PySem.Spec PyProof.Rows
noncomputable def Gi (j:TE)(z:St)(v:V):Prop:=∀H (Q:VK),Q v H->j z H Q
noncomputable def GL (J:TE)(O:St)(H:Hp)(vs:List V):Prop:=∀j,Zx H j->∀Q:VK,(∀a z,Zx j z->z a=some (.lst vs)->Q (.ref a) z)->J O j Q
theorem Gi.var {i:Nat}{σ:St}{v:V}(h:σ[i]?=some (some v)):Gi (Yq i) σ v:=fun _ _ q=>⟨v,h,q⟩
theorem Gi.c {σ:St}{v:V}:Gi (tC v) σ v:=fun _ _ q=>q
theorem Gi.add {z J:TE}{σ:St}{i j k:Int}(O:Gi z σ (.int i))(hb:Gi J σ (.int j))(e:i+j=k):Gi (Xi (rI0 fun i j=>.int (i+j)) z J) σ (.int k):=fun H Q q=>O H _ (hb H _ ⟨i,j,rfl,rfl,(by subst e;exact q)⟩)
theorem Gi.sub {z J:TE}{σ:St}{i j k:Int}(O:Gi z σ (.int i))(hb:Gi J σ (.int j))(e:i-j=k):Gi (Xi (rI0 fun i j=>.int (i-j)) z J) σ (.int k):=fun H Q q=>O H _ (hb H _ ⟨i,j,rfl,rfl,(by subst e;exact q)⟩)
theorem GL.cat {z J:TE}{σ:St}{H:Hp}{xs j:List V}(ha:GL z σ H xs)(hb:GL J σ H j)(hz:xs.length+j.length<=sizeLine):GL (Xi Zh0 z J) σ H (xs++j):=fun H1 O Q q=>
 ha H1 O _ fun a H2 Y h2=>hb H2 (O.trans Y) _ fun c H3 s3 h3=>⟨a,c,_,_,rfl,rfl,s3 _ _ h2,h3,hz,fun p np=>q p _ ((Y.trans s3).trans (Zx.upd np)) Zv⟩
theorem ZgY {xs:List V}{b:Nat}:Jw xs none (some (b:Int))=xs.take b:=by
 unfold Jw;rw[HT.JH,HT.XR,Nat.sub_zero,dg];by_cases h:b<=xs.length
 ·rw[ie h]
 ·rw[Nat.min_eq_right (by omega),bR (Zq _),bR (by omega)]
theorem ZgZ {xs:List V}{b:Nat}:Jw xs (some (b:Int)) none=xs.drop b:=by
 unfold Jw;rw[HT.JH,HT.XR];by_cases h:b<=xs.length
 ·rw[ie h,bR (by rw[ao];omega)]
 ·rw[Nat.min_eq_right (by omega),bH (show xs.length<=b by omega),bH (Zq _)]
  exact List.take_nil
theorem GL.to {K:ac}{j z:TE}{σ:St}{H:Hp}{a:Addr}{xs:List V}{b:Nat}(he:Gi j σ (.ref a))(O:H a=some (.lst xs))(Y:Gi z σ (.int (b:Nat))):GL (tSl (Zek K) j WB (XH z)) σ H (xs.take b):=fun J s1 Q q=>
 he J _ (Y J _ ⟨_,rfl,a,xs,rfl,.of (s1 _ _ O),fun p np=>q p _ (Zx.upd np) (by rw[Zv,ZgY])⟩)
theorem GL.frm {K:ac}{j z:TE}{σ:St}{H:Hp}{a:Addr}{xs:List V}{b:Nat}(he:Gi j σ (.ref a))(O:H a=some (.lst xs))(Y:Gi z σ (.int (b:Nat))):GL (tSl (Zek K) j (XH z) WB) σ H (xs.drop b):=fun J s1 Q q=>
 he J _ (Y J _ ⟨_,rfl,a,xs,rfl,.of (s1 _ _ O),fun p np=>q p _ (Zx.upd np) (by rw[Zv,ZgZ])⟩)
theorem GL.one {j:TE}{σ:St}{H:Hp}{v:V}(z:∀H1,Zx H H1->∀Q:VK,Q v H1->j σ H1 Q):GL (Zhn (Yw j Jl)) σ H [v]:=fun H1 J Q q=>z H1 J _ ⟨(by show 1<=sizeLine;decide),fun p O=>q p _ (Zx.upd O) Zv⟩
end L2
namespace C63
open PySem L2 PySem.Spec PyProof.Rows PySem.NumText
open Tx Pm
noncomputable abbrev sBe:Stmt:=top 45
noncomputable def ZgQ (x:Str):Bool:=x.cps.toList.all (fun c=>decide (c<128) && !decide (c=32)) && decide (x.length<=20)
noncomputable def ZaS:List Str:=["", "0", "00", "01", "60", "61", "-1", "7", "1", "table", "row", "z", "1z", "+1", "z60", "z+1", "Row", "x"]
theorem ZeP:ZaS.all ZgQ=true:=by decide +kernel
theorem Zir {xs:List Str}(h:xs.all ZgQ=true){i:Nat}(O:i<xs.length):∃l,(xs.map V.str)[i]?=some (wV l)/\YX l/\32∉l/\l.length<=60:=by
 have j:=aJ.mp h xs[i] (dz O);unfold ZgQ at j;rw[aT,decide_eq_true_eq] at j;have Y:∀c∈xs[i].cps.toList,c<128/\c≠32:=fun c J=>by
  have:=aJ.mp j.1 c J;simpa using this
 exact⟨xs[i].cps.toList,by rw[Zc,Zf O];rfl,fun c J=>(Y c J).1,fun z=>(Y 32 z).2 rfl,by have:=j.2;unfold Str.length at this;rw[Zr];omega⟩
noncomputable def OkB (l:List (List Nat)):Prop:=Xg l/\2<=l.length/\l.length<=20
noncomputable def ZhA:Sp:=fun Y H Q _=>∃(p q L:Addr) (z:List (List (List Nat))) (b:Nat),Y=[.ref p,.ref L]/\Yo H p q b/\b<2 ^ 58/\H L=some (.lst (z.map lV))/\1<=z.length/\z.length<=10/\(∀l∈z,OkB l)/\∀O (j:List (List (List Nat))) J,Tk p H J->Yo J p q (b+5)->J O=some (.lst (j.map lV))->j.length<=12->(∀l∈j,Xg l)->Q (.ref O) J
theorem ZaJ {J j:List (List Nat)}(h:OkB J)(O:j≠[])(h2:j.length<=J.length+1)(Y:∀w∈j,w∈J\/YX w/\32∉w/\w.length<=60):Xg j:=⟨O,by have:=h.2.2;omega,fun w hw=>(Y w hw).elim (fun z=>h.1.wd w z) id⟩
theorem Zdx {α:Type}{l:List α}(h:1<=l.length):l≠[]:=fun z=>by rw[z,ax] at h;omega
section
variable {P:Program}{w:World}{K:ac}{mg:Str->Option Value}{base:Heap}
theorem Zic {f:Addr}{fd:FuncData}(F:WT K "_law_bent" "_law_bent" sBe f fd)(B:N63.Bl mg)(GD:Fn P w K mg base YD 1 "_law_draw" ["_law_feed_here", "_law_many"] VW):Z8 P w K mg base YD 2 f fd ["_law_feed_here", "_law_lines_here"] ZhA:=by
 refine F.ok (FS (N:=["_law_feed_here", "_law_lines_here", "_law_at", "_law_words", "_law_spot", "_law_some", "_law_word", "_law_way"])) (fun vs H Q E h=>?_) (fun p9 A o6 s H vs Q E hr h=>?_)
 ·obtain⟨p,q,L,ls,b,rfl,_⟩:=h;rfl
 ·obtain⟨p,q,L,ls,b,rfl,T0,hb,hL,l1,r8,m4,qq⟩:=h
  refine Zaa (XU ⟨(ZJ 2 rfl (ZP (Vq K) (Z3 (pc Zu (pc (Wc GD hr ZU (pc (vn 0) (pc (cb (Ws K) B.len (pc (vn 1) Zs)) Zs))) Zs))) (ct Xf B.int (pc (WG Wo (Wc GD hr ZU (pc (vn 0) (pc Zu Zs))) Zu (Zz _)) Zs)) (fun _ _=>rfl)))⟩ (XU ⟨(ZJ 3 rfl (Y6 aQ bp bP Wq (ZP (Vq K) (vn 1) (vn 2) (fun _ _=>rfl)) (pc ZA Zs)))⟩ (XU ⟨(ZJ 4 rfl (Wc GD hr ZU (pc (vn 0) (pc (cb (Ws K) B.len (pc (vn 3) Zs)) Zs))))⟩ (XU (ZfB 5 rfl (Zf5 (xs:=ZaS))) ⟨(Zt (ZJ 6 rfl (ZP (Vq K) (vn 5) (Wc GD hr ZU (pc (vn 0) (pc (cb (Ws K) B.len (pc (vn 5) Zs)) Zs))) (fun _ _=>rfl)))
   (Zt (ZJ 7 rfl (Wc GD hr ZU (pc (vn 0) (pc Zu Zs))))
   (Zt (ZQ (Zy XY (vn 7) Zu (Zz _)) (Zw (ZJ 3 rfl (ZD YY (ZD YY (ZG ZV (vn 3) ZM (ZK (vn 4))) (Z3 (pc (vn 6) Zs))) (ZG ZV (vn 3) (ZK (ZD WY (ZD Z9 (vn 4) Zu) (vn 7))) ZM)))) ZE)
   (Zt (ZQ (Zy Z1 (vn 7) Zu (Zz _)) (Zw (ZJ 3 rfl (ZD YY (ZG ZV (vn 3) ZM (ZK (vn 4))) (ZG ZV (vn 3) (ZK (ZD Z9 (vn 4) Zu)) ZM)))) ZE)
   (Zt (ZQ (Zy Z1 (vn 7) Zu (Zz _)) (Zw (ZJ 3 rfl (ZD YY (ZG ZV (vn 3) ZM (ZK (ZD Z9 (vn 4) Zu))) (ZG ZV (vn 3) (ZK (vn 4)) ZM)))) ZE)
   (Zt (ZQ (Zy XY (vn 7) Zu (Zz _)) (Zw (ZF (ZD YY (ZD YY (ZG ZV (vn 1) ZM (ZK (vn 2))) (Z3 (pc (V9 aQ fk fj Uc ZA (pc (vn 3) Zs)) Zs))) (ZG ZV (vn 1) (ZK (ZD Z9 (vn 2) Zu)) ZM)))) ZE)
   (Zt (ZQ (Zy Z1 (vn 7) Zu (Zz _)) (Zw (ZF (ZD YY (ZG ZV (vn 1) ZM (ZK (vn 2))) (ZG ZV (vn 1) (ZK (ZD Z9 (vn 2) Zu)) ZM)))) ZE)
   (Zt (ZQ (Zy Z1 (vn 7) Zu (Zz _)) (Zw (ZF (ZD YY (ZD YY (ZG ZV (vn 1) ZM (ZK (vn 2))) (Z3 (pc (ZP (Vq K) (vn 1) (vn 2) (fun _ _=>rfl)) Zs))) (ZG ZV (vn 1) (ZK (vn 2)) ZM)))) ZE)
   (Zt (ZQ (Zy Z1 (vn 7) Zu (Zz _)) (Zw (ZF (ZG ZV (vn 1) ZM (ZK (vn 2))))) ZE)
   (Zt (ZQ (Zy Z1 (vn 7) Zu (Zz _)) (Zw (ZF (ZD YY (ZD YY (ZG ZV (vn 1) ZM (ZK (vn 2))) (Z3 (pc ZA Zs))) (ZG ZV (vn 1) (ZK (vn 2)) ZM)))) ZE)
   (Zw (ZF (ZD YY (ZG ZV (vn 1) (ZK (vn 2)) ZM) (ZG ZV (vn 1) ZM (ZK (vn 2))))))))))))))))⟩)))) ⟨?_⟩
  have hz:(16777216:Nat)=sizeLine:=by decide
  refine⟨_,rfl,_,rfl,L,_,rfl,.inl (.of hL),p,q,_,_,rfl,T0,by omega,by rw[Za];omega,by rw[Za];omega,fun r1 H1 n4 n5 k1 T1=>?_⟩;rw[Za] at n5;refine⟨(by show 2<=sizeLine;decide),fun X2 n2=>?_⟩;have s2:=Zx.upd (H:=H1) (o:=.lst [.int 0,.int r1]) n2;have h2:=Zv (H:=H1) (a:=X2) (o:=.lst [.int 0,.int r1]);generalize upd H1 X2 (.lst [.int 0,.int r1])=H2 at s2 h2 ⊢;have T2:=T1.mono s2;refine⟨_,rfl,p,q,_,_,rfl,T2,by omega,by decide,by decide,fun r3 H3 o8 o9 k3 T3=>⟨_,_,rfl,rfl,.inr ⟨_,rfl,?_⟩⟩⟩;have kA:=(k1.trans (Tk.of s2)).trans k3;obtain⟨a,ha,al⟩:∃a:Nat,atI [V.int 0,V.int r1] (if (decide (0<r3)) then 1 else 0)=some (.int (a:Nat))/\a<ls.length:=by
   by_cases h:0<r3
   ·rw[decide_eq_true h];exact⟨r1.toNat,by rw[jm n4];rfl,by omega⟩
   ·rw[decide_eq_false h];exact⟨0,rfl,by omega⟩
  have m5:=kA.lst T0 hL;refine⟨X2,_,_,_,rfl,rfl,.of (k3.lst T2 h2),ha,?_⟩;have ok:=m4 ls[a] (dz al);have n8:=ok.1.len;refine⟨_,rfl,_,rfl,_,_,_,_,rfl,rfl,.of m5,ZT (j:=a) (v:=lV ls[a]) (by rw[Zc,Zf al];rfl),rfl,_,_,rfl,rfl,by decide +kernel,by show (tx (Xw ls[a])).length+2<=sizeLine;rw[ZC];omega,fun W nW=>?_⟩;show Ye 3 (V.ref W) _ (upd H3 W (.lst ((cr (tx (Xw ls[a])) (ar " ")).map V.str))) _;rw[JW,show tx [32]=(⟨#[32]⟩:Str) from rfl,ok.1.spl,Jd];have t0:lV ls[a]=(ls.map lV)[a]'(by rw[Za];exact al):=by rw[List.getElem_map]
  have la:(ls.map lV)[a]?=some (lV ls[a]):=by rw[Zc,Zf al];rfl
  generalize ls[a]=z at ok n8 la ⊢;have s4:=Zx.upd (H:=H3) (o:=.lst (z.map wV)) nW;have m3:=Zv (H:=H3) (a:=W) (o:=.lst (z.map wV));have m6:=s4 _ _ m5;have T4:=T3.mono s4;have kB:=kA.trans (Tk.of s4);generalize upd H3 W (.lst (z.map wV))=H4 at s4 m3 m6 T4 kB ⊢;refine⟨_,rfl,_,rfl,W,_,rfl,.inl (.of m3),p,q,_,_,rfl,T4,by omega,by rw[Za];have:=ok.2.1;omega,by rw[Za];have:=ok.2.2;omega,fun r5 H5 t5 p0 k5 T5=>?_⟩;rw[Za] at p0;obtain⟨o,eo⟩:∃o:Nat,r5=(o:Nat):=⟨r5.toNat,by omega⟩;subst eo;have ol:o<z.length:=by omega
  have n9:=k5.lst T4 m6;have o4:=k5.lst T4 m3;have x3:ZaS.length=18:=rfl;have x2:=ZeP;refine⟨by decide,fun X6 n6=>?_⟩;have s6:=Zx.upd (H:=H5) (o:=.lst (ZaS.map V.str)) n6;have h6:=Zv (H:=H5) (a:=X6) (o:=.lst (ZaS.map V.str));have m7:=s6 _ _ n9;have m8:=s6 _ _ o4;have T6:=T5.mono s6;have kC:=(kB.trans k5).trans (Tk.of s6);generalize upd H5 X6 (.lst (ZaS.map V.str))=H6 at s6 h6 m7 m8 T6 kC ⊢;generalize ZaS=xs at x2 x3 h6 ⊢;refine⟨_,rfl,_,rfl,_,rfl,X6,_,rfl,.inl (.of h6),p,q,_,_,rfl,T6,by omega,by rw[Za];omega,by rw[Za];omega,fun r7 H7 t6 p6 k7 T7=>?_⟩;rw[Za] at p6;obtain⟨o7,eo⟩:∃o:Nat,r7=(o:Nat):=⟨r7.toNat,by omega⟩;subst eo;obtain⟨wd,p7,p8⟩:=Zir x2 (i:=o7) (by omega);refine⟨X6,_,_,_,rfl,rfl,.of (k7.lst T6 h6),ZT p7,?_⟩;refine⟨_,rfl,p,q,_,_,rfl,T7,by omega,by decide,by decide,fun y H8 y0 y9 k8 T8=>?_⟩;have kF:=(kC.trans k7).trans k8;have J:=k8.lst T7 (k7.lst T6 m7);have j4:=k8.lst T7 (k7.lst T6 m8);have T8:=T8.le (show b+1+1+1+1+1<=b+5 by omega);clear s2 h2 T2 k1 k3 T1 T3 nW s4 m3 m6 T4 kB n9 o4 n6 s6 h6 m7 m8 T6 kC T7 k7 k8 ha o8 o9 n4 n5 kA m5;have j6:∀L' (j9:List (List (List Nat))) H',Zx H8 H'->H' L'=some (.lst (j9.map lV))->j9.length<=12->(∀l∈j9,Xg l)->Q (.ref L') H':=fun L' j9 H' s' e1 e2 e3=>qq L' j9 H' (kF.trans (Tk.of s')) (T8.mono s') e1 e2 e3;obtain⟨yn,ey⟩:∃yn:Nat,y=(yn:Nat):=⟨y.toNat,by omega⟩;subst ey;have t7:yn<9:=by omega
  have j7:∀l∈ls.take a,Xg l:=fun l hl=>(m4 l (i0 hl)).1;have l7:∀n,∀l∈ls.drop n,Xg l:=fun n l hl=>(m4 l (dL hl)).1;have l8:(ls.take a).length=a:=by rw[aB];omega
  have l9:∀n,(ls.drop n).length=ls.length-n:=fun n=>ao;have wt:∀n,∀v∈z.take n,v∈z:=fun n v hv=>i0 hv;have m9:∀n,∀v∈z.drop n,v∈z:=fun n v hv=>dL hv;have t8:=ok.2.2;have w2:=ok.2.1;have t9:∀n,(z.take n).length<=n/\(z.take n).length<=z.length:=fun n=>by rw[aB];omega
  have u0:∀n,(z.drop n).length=z.length-n:=fun n=>ao;by_cases c4:yn<4
  ·refine (jB (yn<2)).elim (fun c2=>?A) (fun c2=>?B)
   case' A=>
    refine⟨_,rfl,_,_,rfl,rfl,_,rfl,JO (decide_eq_true (by omega)) ?_⟩;refine GL.cat (GL.cat (GL.to (.var rfl) j4 (.var rfl)) (GL.one fun _ _ _ q=>⟨_,rfl,q⟩) (by rw[aB,Za];show _+1<=_;omega)) (GL.frm (b:=o+1-yn) (.var rfl) j4 (.sub (.add (.var rfl) .c rfl) (.var rfl) (by omega))) (by rw[Zd,aB,Za,ao,Za];show _+1+_<=_;omega) H8 (Zx.refl _) _ fun W2 H9 s9 Y=>?_;rw[<-bT,<-cg,show [wV wd]=[wd].map wV from rfl,<-aU,<-aU] at Y;have O:Xg (z.take o++[wd]++z.drop (o+1-yn)):=ZaJ ok (by simp) (by rw[Zd,Zd,aB,ao,Zk];omega) fun v hv=>by
     rcases aD.mp hv with h|h
     ·rcases aD.mp h with h|h
      ·exact .inl (wt _ v h)
      ·rw[aq.mp h];exact .inr p8
     ·exact .inl (m9 _ v h)
    generalize z.take o++[wd]++z.drop (o+1-yn)=j8 at Y O ⊢;refine⟨_,rfl,rfl,_,rfl,Yg (by simp;omega) ?_⟩;refine⟨_,rfl,rfl,_,rfl,Yg (by simp;omega) ?_⟩
   case' B=>
    refine⟨_,rfl,_,_,rfl,rfl,_,rfl,Yg (by simp;omega) ?_⟩;refine (jB (yn=2)).elim (fun c3=>?C) (fun c3=>?D)
    case' C=>
     subst c3;refine⟨_,rfl,rfl,_,rfl,JO (by rfl) ?_⟩;refine GL.cat (GL.to (.var rfl) j4 (.var rfl)) (GL.frm (b:=o+1) (.var rfl) j4 (.add (.var rfl) .c (by omega))) (by rw[aB,Za,ao,Za];omega) H8 (Zx.refl _) _ fun W2 H9 s9 Y=>?_;rw[<-bT,<-cg,<-aU] at Y;have O:Xg (z.take o++z.drop (o+1)):=ZaJ ok (Zdx (by rw[Zd,aB,ao];omega)) (by rw[Zd,aB,ao];omega) fun v hv=>by
      rcases aD.mp hv with h|h
      ·exact .inl (wt _ v h)
      ·exact .inl (m9 _ v h)
     generalize z.take o++z.drop (o+1)=j8 at Y O ⊢;refine⟨_,rfl,rfl,_,rfl,Yg (by decide) ?_⟩
    case' D=>
     have c3:yn=3:=by omega
     subst c3;refine⟨_,rfl,rfl,_,rfl,Yg (by decide) ?_⟩;refine⟨_,rfl,rfl,_,rfl,JO (by rfl) ?_⟩;refine GL.cat (GL.to (b:=o+1) (.var rfl) j4 (.add (.var rfl) .c (by omega))) (GL.frm (b:=o) (.var rfl) j4 (.var rfl)) (by rw[aB,Za,ao,Za];omega) H8 (Zx.refl _) _ fun W2 H9 s9 Y=>?_;rw[<-bT,<-cg,<-aU] at Y;have O:Xg (z.take (o+1)++z.drop o):=ZaJ ok (Zdx (by rw[Zd,aB,ao];omega)) (by rw[Zd,aB,ao];omega) fun v hv=>by
      rcases aD.mp hv with h|h
      ·exact .inl (wt _ v h)
      ·exact .inl (m9 _ v h)
     generalize z.take (o+1)++z.drop o=j8 at Y O ⊢
   all_goals
    refine⟨_,rfl,_,_,rfl,rfl,_,rfl,JO (decide_eq_true (by omega)) ?_⟩;have o5:=s9 _ _ J;refine GL.cat (GL.cat (GL.to (.var rfl) o5 (.var rfl)) (GL.one (v:=lV j8) fun HA sA QA qA=>?_) (by rw[aB,Za];show _+1<=_;omega)) (GL.frm (b:=a+1) (.var rfl) o5 (.add (.var rfl) .c (by omega))) (by rw[Zd,aB,Za,ao,Za];show _+1+_<=_;omega) H9 (Zx.refl _) _ fun W3 HB sB hB=>?_
    ·refine⟨rfl,_,rfl,_,W2,j8.map tx,rfl,rfl,?_,by first|(rw[JW];exact Xx O.le fun v hv=>(O.wd v hv).2.2)|exact Xx O.le fun v hv=>(O.wd v hv).2.2,?_⟩
     ·rw[Jd];exact sA _ _ Y
     ·first|rw[JW,show tx [32]=(⟨#[32]⟩:Str) from rfl,Wb] | rw[Wb]
      exact qA
    ·rw[<-bT,<-cg,show [lV j8]=[j8].map lV from rfl,<-aU,<-aU] at hB
     refine j6 W3 _ HB (s9.trans sB) hB (by rw[Zd,Zd,l8,l9,Zk];omega) fun l hl=>?_;rcases aD.mp hl with h|h
     ·rcases aD.mp h with h|h
      ·exact j7 l h
      ·rw[aq.mp h];exact O
     ·exact l7 _ l h
  ·refine⟨_,rfl,_,_,rfl,rfl,_,rfl,Yg (by simp;omega) ?_⟩
   refine⟨_,rfl,rfl,_,rfl,Yg (by simp;omega) ?_⟩;refine⟨_,rfl,rfl,_,rfl,Yg (by simp;omega) ?_⟩;refine⟨_,rfl,_,_,rfl,rfl,_,rfl,Yg (by simp;omega) ?_⟩;refine⟨_,rfl,rfl,_,rfl,?_⟩;refine ZO (fun _=>?_) (fun _=>?_)
   ·refine GL.cat (GL.to (.var rfl) J (.var rfl)) (GL.frm (b:=a+1) (.var rfl) J (.add (.var rfl) .c (by omega))) (by rw[aB,Za,ao,Za];omega) H8 (Zx.refl _) _ fun W3 HB sB hB=>?_
    rw[<-bT,<-cg,<-aU] at hB;exact j6 W3 _ HB sB hB (by rw[Zd,l8,l9];omega) fun l hl=>(aD.mp hl).elim (j7 l) (l7 _ l)
   refine⟨_,rfl,rfl,_,rfl,?_⟩;refine ZO (fun _=>?_) (fun _=>?_)
   ·refine GL.cat (GL.cat (GL.to (.var rfl) J (.var rfl)) (GL.one (v:=lV z) fun HA sA QA qA=>⟨_,rfl,_,rfl,L,_,_,_,rfl,rfl,.of (sA _ _ J),ZT la,qA⟩) (by rw[aB,Za];show _+1<=_;omega)) (GL.frm (b:=a) (.var rfl) J (.var rfl)) (by rw[Zd,aB,Za,ao,Za];show _+1+_<=_;omega) H8 (Zx.refl _) _ fun W3 HB sB hB=>?_
    rw[<-bT,<-cg,show [lV z]=[z].map lV from rfl,<-aU,<-aU] at hB;refine j6 W3 _ HB sB hB (by rw[Zd,Zd,l8,l9,Zk];omega) fun l hl=>?_;rcases aD.mp hl with h|h
    ·rcases aD.mp h with h|h
     ·exact j7 l h
     ·rw[aq.mp h];exact ok.1
    ·exact l7 _ l h
   refine⟨_,rfl,rfl,_,rfl,?_⟩;refine ZO (fun _=>?_) (fun _=>?_)
   ·refine GL.to (.var rfl) J (.var rfl) H8 (Zx.refl _) _ fun W3 HB sB hB=>?_
    rw[<-bT] at hB;exact j6 W3 _ HB sB hB (by omega) j7
   refine⟨_,rfl,rfl,_,rfl,?_⟩;refine ZO (fun _=>?_) (fun _=>?_)
   ·have ee:lV [[]]=V.str "":=by show V.str (tx (Xw [[]]))=V.str (ar "");rw[t_e];rfl
    refine GL.cat (GL.cat (GL.to (.var rfl) J (.var rfl)) (GL.one fun HA sA QA qA=>qA) (by rw[aB,Za];show _+1<=_;omega)) (GL.frm (b:=a) (.var rfl) J (.var rfl)) (by rw[Zd,aB,Za,ao,Za];show _+1+_<=_;omega) H8 (Zx.refl _) _ fun W3 HB sB hB=>?_;rw[<-bT,<-cg,<-ee,show [lV [[]]]=[[[]]].map lV from rfl,<-aU,<-aU] at hB;refine j6 W3 _ HB sB hB (by rw[Zd,Zd,l8,l9,Zk];omega) fun l hl=>?_;rcases aD.mp hl with h|h
    ·rcases aD.mp h with h|h
     ·exact j7 l h
     ·rw[aq.mp h]
      exact⟨by simp,by decide,fun v hv=>by rw[aq.mp hv];exact⟨(fun c hc=>by cases hc),by simp,by decide⟩⟩
    ·exact l7 _ l h
   refine GL.cat (GL.frm (b:=a) (.var rfl) J (.var rfl)) (GL.to (.var rfl) J (.var rfl)) (by rw[aB,Za,ao,Za];omega) H8 (Zx.refl _) _ fun W3 HB sB hB=>?_;rw[<-bT,<-cg,<-aU] at hB;exact j6 W3 _ HB sB hB (by rw[Zd,l8,l9];omega) fun l hl=>(aD.mp hl).elim (l7 _ l) (j7 l)
end
noncomputable abbrev ZhO:Stmt:=top 46
theorem Zbg {z:Int}(h:z.natAbs<10 ^ 250):Sml 0 0 (.int z):=by
 have J:z.natAbs<10 ^ 500:=cN h (by decide +kernel);refine⟨?_,rfl,aE _,?_,aE _⟩
 ·simp only[gH,decide_eq_true_eq]
  by_cases j:z.natAbs=0
  ·rw[j];decide
  ·exact (Nat.log2_lt j).mpr (cN J (by decide +kernel))
 ·simp only[iW]
  refine decide_eq_true ?_;show (ar (toString z)).length<=300;rw[str_int,ZC];have:=W7 (by decide) h;omega
theorem _root_.L2.Sml.le {k b j z:Nat}{d:ck}(h:Sml k b d)(J:k<=j)(hb:b<=z):Sml j z d:=⟨h.sh,h.nd,aK h.dp J,h.lv,aK h.bl hb⟩
noncomputable def dFm:List Nat->List (List (List Int))->ck
 | [],_=>.none
 |n::z,j=>.tuple [.int (n:Nat),.tuple (z.map fun k=>bc (k:Nat)),.tuple (j.map dTI)]
noncomputable def Zit:Sum Nat (List Nat×List (List (List Int)))->ck
 | .inl k=>.int (k:Nat)
 | .inr (z,j)=>dFm z j
theorem ZcH.rd {K:ac}{H:Hp}{r:Addr}{ns:List Nat}{j:List (List (List Int))}(h:ZcH H r ns j):Vh K H (.ref r) (dFm ns j):=by
 obtain⟨n,ss,a,q,rs,rfl,J,O,Y,h4⟩:=h;refine .tup (.of J) (.cons (.int _) (.cons (.tup (.of O) ?_) (.cons (.tup (.of Y) h4.rd) .nil)));refine XS (by rw[Za,Za]) fun i v z=>?_;rw[Zc] at z;cases e:ss[i]? with
 |none=>rw[e] at z;cases z
 |some k=>rw[e] at z;cases z;exact⟨_,by rw[Zc,e];rfl,.int _⟩
theorem Zc7 {wide cnt:Nat}:∀(Y:List (List (List Nat))) (k:Nat) {J:List (List (List Int))},(∀l∈Y,Xg l)->YT wide cnt k Y=.inr J->J.length=Y.length/\∀xs∈J,xs.length=cnt/\∀x∈xs,x.length=wide/\∀z∈x,z.natAbs<10 ^ 130
 | [],k,J,_,h=>by cases h;exact⟨rfl,fun x hx=>by cases hx⟩
 |l::r,k,J,hl,h=>by
  cases e:rwN wide cnt l with
  |none=>rw[JJ e] at h;cases h
  |some x=>
   rw[JI e] at h;cases e2:YT wide cnt (k+1) r with
   |inl j=>rw[e2] at h;cases h
   |inr xs=>
    rw[e2] at h;cases h;obtain⟨h1,h2⟩:=Zc7 r (k+1) (fun l' j4=>hl l' (ae _ j4)) e2;refine⟨by rw[Zd,h1];simp[gG],fun ys O=>?_⟩;rcases aD.mp O with O|O
    ·rw[aq.mp O]
     have j6:=hl l (ah ..);cases l with
     |nil=>cases e
     |cons g t=>
      have e:(if g=JX/\t.length=cnt/\(t.all fun w=>(We wide w).isSome)=true then some (t.map fun w=>(We wide w).getD []) else none)=some x:=e
      by_cases c:g=JX/\t.length=cnt/\(t.all fun w=>(We wide w).isSome)=true
      ·rw[if_pos c] at e
       cases e;refine⟨by rw[Za];exact c.2.1,fun y O=>?_⟩;obtain⟨w0,hw,rfl⟩:=aV.mp O;have hs:=aJ.mp c.2.2 w0 hw;cases e3:We wide w0 with
       |none=>rw[e3] at hs;cases hs
       |some y=>exact⟨Zej e3,Zf4 e3 (j6.wd w0 (ae _ hw)).2.2⟩
      ·rw[if_neg c] at e;cases e
    ·exact h2 ys O
theorem Zbo {wide cnt:Nat}:∀(J:List (List (List Nat))) (k:Nat) {j:Nat},YT wide cnt k J=.inl j->j<=k+J.length
 | [],k,j,h=>by cases h
 |l::r,k,j,h=>by
  rw[Zi];cases e:rwN wide cnt l with
  |none=>rw[JJ e] at h;cases h;omega
  |some x=>
   rw[JI e] at h;cases z:YT wide cnt (k+1) r with
   |inr O=>rw[z] at h;cases h
   |inl Y=>
    rw[z] at h;cases h;have:=Zbo r (k+1) z;omega
theorem Jg {k:Nat}(h:k<=1000):Sml 0 0 (.int (k:Nat)):=Zbg (by rw[bW];exact jx h (by decide +kernel))
theorem ZdN {ls:List (List (List Nat))}(j4:ls.length<=12)(hl:∀l∈ls,Xg l):Zfk (Zit (Jp ph ls)):=by
 cases ls with
 |nil=>exact (Jg (k:=0) (by decide)).fit (by decide) (by decide)
 |cons g r=>
  rw[Zi] at j4;cases e:hdN g with
  |none=>rw[XG e];exact (Jg (k:=0) (by decide)).fit (by decide) (by decide)
  |some ns=>
   by_cases hr:r=[]
   ·rw[hr,VS e];exact (Jg (k:=1) (by decide)).fit (by decide) (by decide)
   obtain⟨n,ss,rfl,n1,j6,s1,J,j7⟩:=X5 e;rw[XF e hr];cases e2:YT (ph n) ss.length 1 r with
   |inl j=>
    have:=Zbo r 1 e2;exact (Jg (k:=j) (by omega)).fit (by decide) (by decide)
   |inr O=>
    obtain⟨h1,h2⟩:=Zc7 r 1 (fun l j8=>hl l (ae _ j8)) e2;have Y:ph n<=60:=by
     obtain⟨_,_,l7,p1,Y⟩:=N63.J5 n1 j6;unfold ph;omega
    have a1:Sml 3 (12*(16*(60*(0+1)+1)+1)) (.int (n:Nat)):=(Jg (k:=n) (by omega)).le (by decide) (by decide);have a2:Sml 3 (12*(16*(60*(0+1)+1)+1)) (.tuple (ss.map fun k:Nat=>bc (k:Nat))):=(Sml.tup (k:=0) (b:=0) (n:=16) (by rw[Za];exact J) (fun d hd=>by
     obtain⟨k,hk,rfl⟩:=aV.mp hd;exact Jg (k:=k) (by have:=(j7 k hk).2;omega))).le (by decide) (by decide)
    have a3:Sml 3 (12*(16*(60*(0+1)+1)+1)) (.tuple (O.map dTI)):=Sml.tup (by rw[Za,h1];omega) fun d hd=>by
     obtain⟨xs,j9,rfl⟩:=aV.mp hd;obtain⟨g1,g2⟩:=h2 xs j9;refine Sml.tup (by rw[Za,g1];exact J) fun d hd=>?_;obtain⟨x,hx,rfl⟩:=aV.mp hd;obtain⟨g3,g4⟩:=g2 x hx;refine Sml.tup (by rw[Za,g3];exact Y) fun d hd=>?_;obtain⟨z,hz,rfl⟩:=aV.mp hd;exact Zbg (cN (g4 z hz) (by decide +kernel))
    refine (Sml.tup (n:=3) (Zq 3) (fun d hd=>?_):Sml 4 (3*(12*(16*(60*(0+1)+1)+1)+1)) (dFm (n::ss) O)).fit (by decide) ?_
    ·rcases aj.mp hd with rfl|hd
     ·exact a1
     rcases aj.mp hd with rfl|hd
     ·exact a2
     rw[aq.mp hd];exact a3
    ·decide
theorem US:∀{ls:List (List (List Nat))},(∀l∈ls,Xg l)->bf (ls.map fun l=>du (tx (Xw l)))=true
 | [],_=>rfl
 |l::r,h=>by
  show (cm (.str (tx (Xw l))) && bf (r.map fun l=>du (tx (Xw l))))=true;rw[Ue (h l (ah ..)).asc,US fun j z=>h j (ae _ z)];rfl
theorem ZgG {n:Nat}{ss:List Nat}{j:List (List (List Int))}(h:Zg5 n ss j):1<=(Zco (n::ss) j).length/\(Zco (n::ss) j).length<=10/\∀l∈Zco (n::ss) j,OkB l:=by
 obtain⟨n1,z,s1,j6,J,x4,hx⟩:=h;unfold Zco;rw[Zi,Za];refine⟨by omega,by omega,fun l O=>?_⟩;rcases aj.mp O with rfl|O
 ·refine⟨ZgB (by rw[Zi];omega) fun k Y=>?_,?_,?_⟩
  ·rcases aj.mp Y with rfl|Y
   ·exact z
   ·exact J k Y
  ·simp only[Zi,Za];omega
  ·simp only[Zi,Za];omega
 ·obtain⟨xs,hm,rfl⟩:=aV.mp O
  obtain⟨a1,a2,a3⟩:=hx xs hm;have:=cP.mpr a1;refine⟨ZgA (by omega) fun x j4=>(a3 x j4).1,?_,?_⟩
  ·simp only[Zi,Za];omega
  ·simp only[Zi,Za];omega
theorem Zfy {X:Cx}(K:ac){k:Nat}(j:Y2 k X.A)(z:X.K=K:=by rfl):Yk X (.builtin "repr") (fun xs H Q=>∃x d,xs=[x]/\Vh K H x d/\Zfk d/\Q (.str d.shown) H):=z▸ZcD j
noncomputable def Zbe (K:ac):Sp:=fun z H Q _=>∃(a:Addr) (j:List Int),z=[.ref a]/\WQ K H a (j.map V.int)/\j.length<=63/\∀J,Q (.bl true) J
noncomputable def Zi1 (K:ac):Sp:=fun J H Q _=>∃(L:Addr) (j:List (List (List Nat))),J=[.ref L]/\H L=some (.lst (j.map lV))/\j.length<=12/\(∀l∈j,Xg l)/\∀v z,Zx H z->Vh K z v (Zit (Jp ph j))->Q v z
theorem ZcT {K:ac}{vs:List V}{H:Hp}{Q:VK}{E:XK}(h:Zi1 K vs H Q E):UC vs H Q E:=by
 obtain⟨L,ls,rfl,O,Y,hl,k⟩:=h;refine⟨L,ls,rfl,O,by omega,hl,fun ns j4 e r z J t=>k _ z J ?_,fun j e z J=>k _ z J ?_⟩
 ·rw[e];exact t.rd
 ·rw[e];exact .int _
theorem Fn.imp {P:Program}{w:World}{K:ac}{mg:Str->Option Value}{base:Heap}{CX:VQ}{k:Nat}{x:Str}{z:List Str}{sp j:Sp}(F:Fn P w K mg base CX k x z sp)(h:∀vs H Q E,j vs H Q E->sp vs H Q E):Fn P w K mg base CX k x z j:=by
 obtain⟨f,fd,a,b⟩:=F;exact⟨f,fd,a.imp h,b⟩
section
variable {P:Program}{w:World}{K:ac}{mg:Str->Option Value}{base:Heap}
theorem Zgu {f:Addr}{fd:FuncData}(F:WT K "law" "law" ZhO f fd)(B:N63.Bl mg)(m3:Fn P w K mg base YD 1 "_law_feed" ["_law_script"] (Zc3 K))(m4:Fn P w K mg base YD 3 "_law_any" ["_law_feed_here"] ZhB)(m5:Fn P w K mg base YD 3 "_law_lines" ["_law_frame"] Zhx)(m6:Fn P w K mg base YD 2 "_law_bent" ["_law_feed_here", "_law_lines_here"] ZhA)
  (j4:Fn P w K mg base YD 6 "_law_told" ["_law_lines_here"] UC) (j7:Fn P w K mg base YD 4 "_law_due" ["_law_lines_here"] UC):Z8 P w K mg base YD 7 f fd ["_law_script"] (Zbe K):=by
 refine F.ok (FS (N:=["_law_script", "_law_feed_here", "_law_turn", "_law_lines_here", "_law_k", "_law_handed", "_law_kept"])) (fun vs H Q E h=>?_) (fun m9 A m7 s H vs Q E O h=>?_)
 ·obtain⟨a,ns,rfl,_⟩:=h;rfl
 ·obtain⟨a,ns,rfl,hS,hl,qq⟩:=h
  have j4:=Fn.imp j4 fun _ _ _ _ h=>ZcT (K:=K) h;have j7:=Fn.imp j7 fun _ _ _ _ h=>ZcT (K:=K) h;refine⟨_,Zt (ZJ 1 rfl (Wc m3 O ZU (pc (vn 0) Zs)))
   (Zt (ZQ (Zy (neC K O.units) (Wc j4 O ZU (pc (Z3 Zs) Zs)) Zu (Zz _)) (Zw (ZF Zdk)) ZE)
   (Zt (Wh ba rfl (Zb3 B.range (pc Zu Zs)) (gn 2)
   (Zt (ZJ 3 rfl (Wc m5 O ZU (pc (Wc m4 O ZU (pc (vn 1) Zs)) Zs)))
   (Zw (Wh ba rfl (Zb3 B.range (pc Zu Zs)) (gn 4)
   (Zt (ZJ 5 rfl (Z5 (Zy Z1 (vn 4) Zu (Zz _)) (vn 3) (Wc m6 O ZU (pc (vn 1) (pc (vn 3) Zs)))))
   (Zt (ZJ 6 rfl (ct JQ B.list (pc (vn 5) Zs)))
   (Zw (ZQ (YJ (Zy Y7 (cb (Zfy K O) B.repr (pc (Wc j4 O ZU (pc (vn 5) Zs)) Zs)) (cb (Zfy K O) B.repr (pc (Wc j7 O ZU (pc (vn 6) Zs)) Zs)) (Zz _)) (Wf (Zy (neC K O.units) (vn 5) (vn 6) (Zz _)))).pt (Zw (ZF Zdk)) ZE))))))))
   (Zw (ZF Zdk)))),?_⟩
  have hz:(16777216:Nat)=sizeLine:=by decide
  refine⟨_,rfl,a,ns,rfl,hS,fun p q H1 s1 np T1=>?_⟩;refine⟨aE _,fun L0 n0=>?_⟩;have s2:=Zx.upd (H:=H1) (o:=.lst []) n0;have h2:=Zv (H:=H1) (a:=L0) (o:=.lst []);generalize upd H1 L0 (.lst [])=H2 at s2 h2 ⊢;refine⟨L0,[],rfl,h2,aE _,(fun l hl=>by cases hl),fun v H3 s3 r3=>?_⟩;refine⟨_,_,r3,.int 0,by decide +kernel,by decide +kernel,_,rfl,Yg (by decide +kernel) ?_⟩;have T3:=T1.mono (s2.trans s3);refine⟨_,rfl,by decide,by decide,?_⟩;refine YO (fun i J H'=>∃v2 v3 v4 v5 v6:Option V,J=[some (.ref a),some (.ref p),v2,v3,v4,v5,v6]/\Yo H' p q (500*i)) ⟨_,_,_,_,_,rfl,T3⟩ ?_ ?_
  ·rintro i J H4 hi ⟨v2,v3,v4,v5,v6,rfl,T4⟩
   have hi:i<3:=hi;refine⟨_,rfl,p,q,_,rfl,T4,by omega,fun r n ss j9 H5 k5 T5 ta fr=>?_⟩;refine⟨r,n,ss,j9,rfl,ta,fr,fun L H6 s6 l7=>?_⟩;have T6:=T5.mono s6;obtain⟨l1,j8,lb⟩:=ZgG fr;generalize Zco (n::ss) j9=ls at l7 l1 j8 lb ⊢;refine⟨_,rfl,by decide,by decide,?_⟩;refine YO (fun j J H'=>∃v4 v5 v6:Option V,J=[some (.ref a),some (.ref p),some (.int (0+(i:Int))),some (.ref L),v4,v5,v6]/\Yo H' p q (500*i+400+5*j)/\H' L=some (.lst (ls.map lV))) ⟨_,_,_,rfl,T6,l7⟩ ?_ ?_
   ·rintro j J H7 hj ⟨v4,v5,v6,rfl,T7,j6⟩
    have hj:j<5:=hj;refine⟨_,rfl,rfl,_,rfl,?_⟩;refine ZO (fun _=>?A) (fun _=>?B)
    case' A=>
     refine⟨_,rfl,?_⟩;have m8:=j6;have Ta:=T7.le (show 500*i+400+5*j<=500*i+400+5*(j+1) by omega);have La:=j8;have Lb:∀l∈ls,Xg l:=fun l hl=>(lb l hl).1;have kk:Tk p H7 H7:=Tk.refl;have l8:ls.length<=12:=by omega
     obtain⟨LL,z,HH,e1,e2,e3,e4,e5,e6,e7⟩:∃LL z HH,LL=L/\z=ls/\HH=H7/\HH LL=some (.lst (z.map lV))/\z.length<=12/\(∀l∈z,Xg l)/\Tk p H7 HH:=⟨L,ls,H7,rfl,rfl,rfl,m8,l8,Lb,kk⟩;rw[<-e1,<-e3];rw[<-e3] at Ta;clear e2 e3
    case' B=>
     refine⟨_,rfl,_,rfl,p,q,L,ls,_,rfl,T7,by omega,j6,l1,j8,lb,fun LL z HH e7 Ta e4 e5 e6=>?_⟩
    all_goals
     have l9:=e7.lst T7 j6;refine⟨_,rfl,LL,_,rfl,.inl (.of e4),fun M nM=>?_⟩;have s8:=Zx.upd (H:=HH) (o:=.lst (z.map lV)) nM;have h8:=Zv (H:=HH) (a:=M) (o:=.lst (z.map lV));generalize upd HH M (.lst (z.map lV))=H8 at s8 h8 ⊢;refine⟨_,rfl,?_⟩;refine⟨LL,z,rfl,s8 _ _ e4,e5,e6,fun v H9 s9 r9=>?_⟩;have ft:=ZdN e5 e6;refine⟨_,_,rfl,r9,ft,_,rfl,?_⟩;refine⟨M,z,rfl,s9 _ _ h8,e5,e6,fun v' HA sA rA=>?_⟩;refine⟨_,_,rfl,rA,ft,rfl,_,rfl,Yg (by simp) ?_⟩;have Y:=s8.trans (s9.trans sA);have sh:cy (.list (z.map fun l=>du (tx (Xw l))))=true:=N63.Xu (fun d hd=>by
      obtain⟨l,hl,rfl⟩:=aV.mp hd;exact⟨Ue (e6 l hl).asc,aE _⟩)
     refine⟨_,rfl,_,rfl,_,_,.lst (.of (Y _ _ e4)) (V4 z),.lst (.of (sA _ _ (s9 _ _ h8))) (V4 z),sh,sh,_,rfl,?_⟩;have ly:cm (.list (z.map fun l=>du (tx (Xw l))))=true:=US e6;rw[SeqAt.eqv_refl _ ly]
     first|exact Yg (by decide) ⟨_,_,_,rfl,Ta.mono Y,Y _ _ l9⟩|exact Yg (by decide) ⟨_,_,_,rfl,Ta.mono Y,Y _ _ (by rw[e1];exact l9)⟩
   ·rintro J H7 ⟨v4,v5,v6,rfl,T7,j6⟩
    exact⟨_,_,_,_,_,rfl,T7.le (by omega)⟩
  ·rintro J H4 ⟨v2,v3,v4,v5,v6,rfl,T4⟩
   exact qq H4
end
end C63
namespace C63
open PySem L2 PySem.Spec PyProof.Rows
open Tb Pm
theorem all_mk {l:eV}{w:World}{K:ac}{h:Heap}{mg:Str->Option Value}{fa T0 Y:Addr}{et:Array DictEntry}{tk l7:Tok}{c0 c1 c2 c3 c4 c5 c6 c7 c8 c9 J O:Ec}(X:K.In h)(G:h.Ns mainGlobals mg)(l8:mg "law"=some (.ref fa))
  (tb:Us K T0 Y et) (e0:YW K "NoGroup" T0 Y et c0) (e1:YW K "NoTable" T0 Y et c1) (e2:YW K "NoShares" T0 Y et c2) (e3:YW K "NoPerm" T0 Y et c3) (e4:Zfm K "NoLines" T0 Y et "NoLines.__init__" (ZeT (top 7) 0) c4) (e5:YW K "NoAlike" T0 Y et c5) (e6:YW K "NoName" T0 Y et c6) (e7:Xt K "TooMany" T0 Y et c7) (e8:Xt K "NoOrder" T0 Y et c8) (e9:Xt K "NoPart" T0 Y et c9) (j4:Xt K "NoText" T0 Y et J) (j6:Xt K "NoRow" T0 Y et O)
  (l9:ZbN T0 [c0.C,c1.C,c2.C,c3.C,c4.C,c5.C,c6.C,c7.C,c8.C,c9.C,J.C,O.C]=true) (m:aF K mainGlobals "MOST_THINGS"=some (some (.int 60 tk))) (m2:aF K mainGlobals "MOST_SIZES"=some (some (.int 16 l7)))
  (d1:ZI K "are_figures" ZhP) (d2:ZI K "primes_of" N63.Zbm) (d3:ZI K "places" N63.Zbn) (d4:ZI K "shown_place" ZhG) (d5:ZI K "shown_number" ZhH) (d6:ZI K "read_place" ZhI) (d7:ZI K "read_number" ZhJ) (d8:ZI K "is_by_figures" sBf) (d9:ZI K "is_size" sSz) (m3:ZI K "read_head" sHd) (m4:ZI K "read_numbers" sNs) (m5:ZI K "read_table" sTb) (m6:ZI K "_law_feed" Zfw) (m7:ZI K "_law_draw" Zc6) (m8:ZI K "_law_alone" ZhS) (m9:ZI K "_law_shown" ZhL) (n4:ZI K "_law_number" ZhN) (n5:ZI K "_law_figures" ZhQ) (n8:ZI K "_law_piece" ZhK) (n9:ZI K "_law_read" ZhM) (o4:ZI K "_law_lines" sLi) (o5:ZI K "_law_any" sAn) (o6:ZI K "_law_due" sDu) (o8:ZI K "_law_told" ZhF) (o9:ZI K "_law_bent" sBe) (p0:ZI K "law" ZhO)
  (z1:aF K mainGlobals "list"=some none) (z2:aF K mainGlobals "len"=some none) (z3:aF K mainGlobals "abs"=some none) (z4:aF K mainGlobals "range"=some none) (z5:aF K mainGlobals "tuple"=some none) (z6:aF K mainGlobals "isinstance"=some none) (z7:aF K mainGlobals "all"=some none) (z8:aF K mainGlobals "set"=some none) (z9:aF K mainGlobals "repr"=some none) (p6:aF K mainGlobals "any"=some none) (p7:aF K mainGlobals "int"=some none) (p8:aF K mainGlobals "bool"=some none) (p9:aF K mainGlobals "sorted"=some none) (r8:aF K mainGlobals "str"=some none) (t0:aF K mainGlobals "enumerate"=some none) (t5:aF K mainGlobals "min"=some none) (t6:aF K mainGlobals "max"=some none) (t7:aF K mainGlobals "ValueError"=some none) :
  ∃z:FuncData,(∀(s:Shared) (v:Value),gt s z ⟨[v],[]⟩ [("_law_script",v)])/\∀base:Heap,K.In base->base.Ns mainGlobals mg->Z8 l.prog w K mg base YD 7 fa z ["_law_script"] (Zbe K):=by
 have T:N63.Bl mg:=⟨az X G z1,az X G z2,az X G z3,az X G z4,az X G z5,az X G z6,az X G z7,az X G z8,az X G z9,az X G p6,az X G p7,az X G p8⟩;have TB:BlB mg:=⟨az X G z1,az X G z2,az X G z4,az X G z5,az X G p9⟩;have TX:BlX mg:=⟨az X G r8,az X G t0⟩;have j7:mg "min"=none:=az X G t5;have j8:mg "max"=none:=az X G t6;have hM:=dq X G m;have t8:=dq X G m2;have TV:BlV mg:=⟨az X G t7⟩;obtain⟨D1,D2⟩:=ZbM l9;have S:Cs K mg T0 Y et (U9 [c0,c1,c2,c3,c4,c5,c6,c7,c8,c9,J,O]):=by
  have ok:∀k,k<12->YW K (ZdV k) T0 Y et (U9 [c0,c1,c2,c3,c4,c5,c6,c7,c8,c9,J,O] k):=fun k hk=>by
   rcases k12 hk with rfl|rfl|rfl|rfl|rfl|rfl|rfl|rfl|rfl|rfl|rfl|rfl
   ·exact e0
   ·exact e1
   ·exact e2
   ·exact e3
   ·exact e4.1
   ·exact e5
   ·exact e6
   ·exact e7.1
   ·exact e8.1
   ·exact e9.1
   ·exact j4.1
   ·exact j6.1
  refine⟨tb,ok,dq X G tb.t.at_,fun k hk=>dq X G (ok k hk).c.at_,fun j k hj hk e=>?_,fun k hk=>?_,fun k h7 hk=>?_⟩
  ·refine D1 j k _ (Um (l:=[c0,c1,c2,c3,c4,c5,c6,c7,c8,c9,J,O]) hj) ?_
   rw[e];exact Um (l:=[c0,c1,c2,c3,c4,c5,c6,c7,c8,c9,J,O]) hk
  ·exact D2 _ (aN (Um (l:=[c0,c1,c2,c3,c4,c5,c6,c7,c8,c9,J,O]) hk))
  ·have h5:k=7\/k=8\/k=9\/k=10\/k=11:=by omega
   rcases h5 with rfl|rfl|rfl|rfl|rfl
   ·exact e7.2
   ·exact e8.2
   ·exact e9.2
   ·exact j4.2
   ·exact j6.2
 refine p0.law X G l8 (fun base f z nb kb F=>?_) (fun _ _ _ _ _ _ _ _=>.of_eq rfl);have fn:=@ZI.fn l.prog w K mg base h;have I0:Zd5 l.prog w K mg base ((U9 [c0,c1,c2,c3,c4,c5,c6,c7,c8,c9,J,O]) 4) ["self", "row"] (VU ((U9 [c0,c1,c2,c3,c4,c5,c6,c7,c8,c9,J,O]) 4).C "row"):=e4.2.ok kb (fun f z F=>ZeF F (e4.1.two tb kb) (e4.1.noN tb (by decide)) FS rfl (by kernel_rfl) (by kernel_rfl) (by kernel_rfl) (by kernel_rfl)) (fun _ _ _ _ _ _=>bd2 fun _ _=>rfl);have GA:=fn d1 X G (fun f z F=>Zgv F T) (fun _ _ _ _ _ _=>Uu fun _=>rfl);have t9:=fn d2 X G (fun f z F=>N63.Zcf F T) (fun _ _ _ _ _ _=>Uu fun _=>rfl);have u0:=fn d3 X G (fun f z F=>N63.Zcg F T t9) (fun _ _ _ _ _ _=>Uu fun _=>rfl);have GP:=fn d4 X G (fun f z F=>Zgm F T TX) (fun _ _ _ _ _ _=>bd2 fun _ _=>rfl);have GS:=fn d5 X G (fun f z F=>Zgn F TX GP) (fun _ _ _ _ _ _=>Uu fun _=>rfl);have GR:=fn d6 X G (fun f z F=>Zgo F T GA) (fun _ _ _ _ _ _=>Uu fun _=>rfl);have u3:Fn l.prog w K mg base (CXE l.prog w) 3 "read_number" ["n", "text"] (Zc2 (U9 [c0,c1,c2,c3,c4,c5,c6,c7,c8,c9,J,O])):=d7.fn X G (fun f z F=>Zgp F T S kb u0 GR GS) (fun _ _ _ _ _ _=>bd2 fun _ _=>rfl);have GB:=fn d8 X G (fun f z F=>Zib F GA) (fun _ _ _ _ _ _=>Uu fun _=>rfl);have u4:=fn d9 X G (fun f z F=>Zh6 F T hM GB) (fun _ _ _ _ _ _=>Uu fun _=>rfl);have GH:=fn m3 X G (fun f z F=>Zh9 F T t8 u4) (fun _ _ _ _ _ _=>Uu fun _=>rfl);have u5:=fn m4 X G (fun f z F=>Zh7 F T S kb u3) (fun _ _ _ _ _ _=>bd3 fun _ _ _=>rfl);have u6:Fn l.prog w K mg base (CXE l.prog w) 5 "read_table" ["lines"] (ZfS (U9 [c0,c1,c2,c3,c4,c5,c6,c7,c8,c9,J,O])):=m5.fn X G (fun f z F=>Zh5 F T S kb I0 GH u5) (fun _ _ _ _ _ _=>Uu fun _=>rfl);have u7:=fn m6 X G (fun f z F=>ZeG F TB) (fun _ _ _ _ _ _=>Uu fun _=>rfl);have GD:=fn m7 X G (fun f z F=>ZeH F TB) (fun _ _ _ _ _ _=>bd2 fun _ _=>rfl);have j9:=fn m8 X G (fun f z F=>Zgx F) (fun _ _ _ _ _ _=>bd2 fun _ _=>rfl);have u8:=fn m9 X G (fun f z F=>(Zgr F T TX j7).mono (show 1<=2 by decide)) (fun _ _ _ _ _ _=>Uu fun _=>rfl);have u9:=fn n4 X G (fun f z F=>Zgt F T GD) (fun _ _ _ _ _ _=>bd2 fun _ _=>rfl);have GF:=fn n5 X G (fun f z F=>Zgw F T) (fun _ _ _ _ _ _=>Uu fun _=>rfl);have v8:=fn n8 X G (fun f z F=>Zgq F T GF) (fun _ _ _ _ _ _=>Uu fun _=>rfl);have v9:=fn n9 X G (fun f z F=>Zgs F T v8) (fun _ _ _ _ _ _=>bd2 fun _ _=>rfl);have w6:=fn o4 X G (fun f z F=>Zh8 F T TX u8) (fun _ _ _ _ _ _=>Uu fun _=>rfl);have w8:=fn o5 X G (fun f z F=>Zid F T j7 j8 GD j9 u9) (fun _ _ _ _ _ _=>Uu fun _=>rfl);have w9:=fn o6 X G (fun f z F=>Zia F T j8 GF j9 v9) (fun _ _ _ _ _ _=>Uu fun _=>rfl);have x6:=fn o8 X G (fun f z F=>Zgl F T TV S kb u6) (fun _ _ _ _ _ _=>Uu fun _=>rfl);have x8:=fn o9 X G (fun f z F=>Zic F T GD) (fun _ _ _ _ _ _=>bd2 fun _ _=>rfl);exact Zgu F T u7 w8 w6 x8 x6 w9
theorem walk {l:eV}{q:Program}{loose:List Str}{XP:(Str->Option Value)->Heap->Prop}{O:World->Heap->Prop}{d:DefRec}{K:Params->ac}(hn:l.most=some 63)(J:d.params.defaults=[])
  (hY:∀(w:World) (h:Heap),O w h->(K w.params).In h)
  (F:∀(w:World) (j:Str->Option Value) (Y:Addr) (h:Heap),(K w.params).In h->h.Ns mainGlobals j->j d.name=some (.ref Y)->
   ∃fd:FuncData,(∀(s:Shared) (u:Value),gt s fd ⟨[u],[]⟩ [("_law_script",u)])/\∀base:Heap,(K w.params).In base->base.Ns mainGlobals j->Z8 l.prog w (K w.params) j base YD 7 Y fd ["_law_script"] (Zbe (K w.params))) :
  i7 q loose XP O l.row.toRowW d [] (fun f vs=>i6 f vs):=
 L2.VR (n:=63) (k:=7) (x:="_law_script") (CX:=fun _=>YD) (sp:=fun w=>Zbe (K w.params)) hn (by decide) J ⟨rfl,by decide,by decide,rfl⟩ hY F (fun _ _ a ns hl _ hS=>⟨a,ns,rfl,hS,hl,fun _=>rfl⟩) fun _ _ _ _ _ z=>z
end C63
namespace PySem.W.Fast
theorem tw12742529113094774025:0=0:=rfl
theorem tw9330904509385749314:0=0:=rfl
theorem tw7051902365290564031:0=0:=rfl
theorem tw8793332179239476942:0=0:=rfl
theorem tw2839620935027088825:0=0:=rfl
theorem tw17013749435607546743:0=0:=rfl
theorem tw3511095493093194138:0=0:=rfl
theorem tw12137920553446112891:0=0:=rfl
theorem tw10006033327341925985:0=0:=rfl
theorem tw2748747122649894767:0=0:=rfl
theorem tw2234112255767717507:0=0:=rfl
theorem tw9446152951818086294:0=0:=rfl
theorem tw1048323685400582968:0=0:=rfl
theorem tw18372387429098597169:0=0:=rfl
theorem tw4887363901207882696:0=0:=rfl
theorem tw6863913013867019858:0=0:=rfl
theorem tw7048652876233084094:0=0:=rfl
theorem tw12755207774050477966:0=0:=rfl
theorem tw9531775559507290909:0=0:=rfl
theorem tw8851598795078846790:0=0:=rfl
theorem tw3465296776622430543:0=0:=rfl
theorem tw15071785168112388964:0=0:=rfl
theorem tw8543864023039425976:0=0:=rfl
theorem tw17253738140696777895:0=0:=rfl
theorem tw6292095862512263849:0=0:=rfl
theorem tw11070766453156242996:0=0:=rfl
theorem tw424219432596843208:0=0:=rfl
theorem tw15420690287457526314:0=0:=rfl
theorem tw13629093370911251412:0=0:=rfl
theorem tw16803961413141272724:0=0:=rfl
theorem tw12263494705719920730:0=0:=rfl
theorem tw12524218519553181309:0=0:=rfl
theorem tw8492713240637207724:0=0:=rfl
theorem tw3782905045885217235:0=0:=rfl
theorem tw16408726824184216893:0=0:=rfl
theorem tw6301414513735701233:0=0:=rfl
theorem tw2197935402916710713:0=0:=rfl
theorem tw7592248854291038403:0=0:=rfl
theorem tw5748639060318750348:0=0:=rfl
theorem tw7037293261763729143:0=0:=rfl
theorem tw5641395553270735273:0=0:=rfl
theorem tw7486019041842644099:0=0:=rfl
theorem tw16275933949257521792:0=0:=rfl
theorem tw17179677401313249123:0=0:=rfl
theorem tw2461705343655644016:0=0:=rfl
theorem tw5354883728454057241:0=0:=rfl
theorem tw5994961015920126567:0=0:=rfl
theorem tw2736214149299953076:0=0:=rfl
theorem tw10349423459697330097:0=0:=rfl
theorem tw7319393650835136948:0=0:=rfl
theorem tw1366087319728440884:0=0:=rfl
theorem tw12833919815249813058:0=0:=rfl
theorem tw11530004374955735171:0=0:=rfl
theorem tw3580908569913788914:0=0:=rfl
theorem tw4796695730642961588:0=0:=rfl
theorem tw15319816099841548106:0=0:=rfl
theorem tw8922485743584737548:0=0:=rfl
theorem tw14367421360977334477:0=0:=rfl
theorem tw8601753737843445731:0=0:=rfl
theorem tw6363518415405404420:0=0:=rfl
theorem tw779809766768235139:0=0:=rfl
theorem tw15865918150113907102:0=0:=rfl
theorem tw17544059260930796113:0=0:=rfl
theorem tw14363281531951997993:0=0:=rfl
theorem tw5504803753797559278:0=0:=rfl
theorem tw6457108737342077802:0=0:=rfl
theorem tw9926097256924120886:0=0:=rfl
theorem tw1717836021607629366:0=0:=rfl
theorem tw2898034119564134735:0=0:=rfl
theorem tw11805323048377934545:0=0:=rfl
theorem tw16431636332095457085:0=0:=rfl
theorem tw16956294239670305076:0=0:=rfl
theorem tw9363124796224036603:0=0:=rfl
theorem tw4795778964140577522:0=0:=rfl
theorem tw16013367845255137306:0=0:=rfl
theorem tw182998326312438892:0=0:=rfl
theorem tw14326960928870060005:0=0:=rfl
theorem tw1461632273148132609:0=0:=rfl
theorem tw18177387525221796850:0=0:=rfl
theorem tw9918409700321491005:0=0:=rfl
theorem tw9133755042721896177:0=0:=rfl
theorem tw17100532298244737236:0=0:=rfl
theorem tw3963558750758937894:0=0:=rfl
theorem tw16125615418713750290:0=0:=rfl
theorem tw9917918431134915644:0=0:=rfl
theorem tw12885672722874047456:0=0:=rfl
theorem tw3827506346208031822:0=0:=rfl
theorem tw4002171436011278801:0=0:=rfl
theorem tw5780422253153654760:0=0:=rfl
theorem tw10488945053703322410:0=0:=rfl
theorem tw17908285335033450177:0=0:=rfl
theorem tw3625158750564484705:0=0:=rfl
theorem tw4142119803251048959:0=0:=rfl
theorem tw12893483295546397346:0=0:=rfl
theorem tw10108553839716898590:0=0:=rfl
theorem tw4474584524741423896:0=0:=rfl
theorem tw13124895837127161106:0=0:=rfl
theorem tw10757188512228154782:0=0:=rfl
theorem tw15717467921025106992:0=0:=rfl
theorem tw7232770028167169489:0=0:=rfl
theorem tw7189746271271507811:0=0:=rfl
theorem tw8682502384568060604:0=0:=rfl
theorem tw4737807932101534628:0=0:=rfl
theorem tw4666207415801554849:0=0:=rfl
theorem tw9071363659651788065:0=0:=rfl
theorem tw6311730847753899550:0=0:=rfl
theorem tw15536558048778444668:0=0:=rfl
theorem tw5671317835351260211:0=0:=rfl
theorem tw17618620881374009689:0=0:=rfl
theorem tw13439577037556495147:0=0:=rfl
theorem tw10924343271390861347:0=0:=rfl
theorem tw3799599141576211419:0=0:=rfl
theorem tw1882407515801843552:0=0:=rfl
theorem tw3625569528957740425:0=0:=rfl
theorem tw7779854021721697393:0=0:=rfl
theorem tw11542162273945477163:0=0:=rfl
theorem tw13311730554251943594:0=0:=rfl
theorem tw11632040437553240585:0=0:=rfl
theorem tw7223676344709860817:0=0:=rfl
theorem tw14438964156049697284:0=0:=rfl
theorem tw15194819658575996406:0=0:=rfl
theorem tw3487849231569995301:0=0:=rfl
theorem tw6964164804155321443:0=0:=rfl
theorem tw12465181867671284963:0=0:=rfl
theorem tw5082115181846850241:0=0:=rfl
theorem tw16459865559020079833:0=0:=rfl
theorem tw9613613044143039308:0=0:=rfl
theorem tw15380377828340114945:0=0:=rfl
theorem tw11132518959082549771:0=0:=rfl
theorem tw11252315092822489260:0=0:=rfl
theorem tw7949718868606456466:0=0:=rfl
theorem tw3865087874351261793:0=0:=rfl
theorem tw3632979505995635887:0=0:=rfl
theorem tw3892848101551872241:0=0:=rfl
theorem tw4904485970132863432:0=0:=rfl
theorem tw8593887210920628698:0=0:=rfl
theorem tw15446388712665917982:0=0:=rfl
theorem tw12716755280750679589:0=0:=rfl
theorem tw7994710367049018423:0=0:=rfl
theorem tw14359263013011321332:0=0:=rfl
theorem tw14265191837204047782:0=0:=rfl
theorem tw17843464275544077963:0=0:=rfl
theorem tw16357328985147309087:0=0:=rfl
theorem tw7606045744039732400:0=0:=rfl
theorem tw16425794564346757528:0=0:=rfl
theorem tw2014651229455554865:0=0:=rfl
theorem tw3225992048185133117:0=0:=rfl
theorem tw10519887743988728257:0=0:=rfl
theorem tw14864637783773509635:0=0:=rfl
theorem tw14940089584956014826:0=0:=rfl
theorem tw8762900391807777200:0=0:=rfl
theorem tw16517829646636581064:0=0:=rfl
theorem tw2863757834821752296:0=0:=rfl
theorem tw2435636209110429201:0=0:=rfl
theorem tw16522699376114360499:0=0:=rfl
theorem tw15913659848143968128:0=0:=rfl
theorem tw8610028964669329397:0=0:=rfl
theorem tw10924635211720009213:0=0:=rfl
theorem tw15709084843486650550:0=0:=rfl
theorem tw5543546128213639638:0=0:=rfl
theorem tw3511404531922281010:0=0:=rfl
theorem tw17710565987587221458:0=0:=rfl
theorem tw10965795687312377963:0=0:=rfl
theorem tw13650726366098189165:0=0:=rfl
theorem tw6907606973635959504:0=0:=rfl
theorem tw5966795503500135159:0=0:=rfl
theorem tw17266414554071904941:0=0:=rfl
theorem tw10428329522325434077:0=0:=rfl
theorem tw3530634465361333148:0=0:=rfl
theorem tw17773527186829969290:0=0:=rfl
theorem tw15061017058046499217:0=0:=rfl
theorem tw12787317065917599944:0=0:=rfl
theorem tw2983405167971668152:0=0:=rfl
theorem tw9964055912953143424:0=0:=rfl
theorem tw15349867103044483419:0=0:=rfl
theorem tw1110728289160198690:0=0:=rfl
theorem tw9729403921804340126:0=0:=rfl
theorem tw3459661542230588024:0=0:=rfl
theorem tw1863876430364440597:0=0:=rfl
theorem tw6093001373287285853:0=0:=rfl
theorem tw17956319396902518393:0=0:=rfl
theorem tw4711156431866562535:0=0:=rfl
theorem tw15255346704118886659:0=0:=rfl
theorem tw12656370793612708694:0=0:=rfl
theorem tw17066506545144810848:0=0:=rfl
theorem tw441557443051355239:0=0:=rfl
theorem tw11585666170444929034:0=0:=rfl
theorem tw9414029289018323164:0=0:=rfl
theorem tw13230225073694830254:0=0:=rfl
theorem tw4744127347378276135:0=0:=rfl
theorem tw2303099769169574438:0=0:=rfl
theorem tw11412482327662602236:0=0:=rfl
theorem tw1325802381215145461:0=0:=rfl
theorem tw16263508019556614944:0=0:=rfl
theorem tw9976454685264746859:0=0:=rfl
theorem tw17956531933354561341:0=0:=rfl
theorem tw12483623687663283740:0=0:=rfl
theorem tw10191302489148121271:0=0:=rfl
theorem tw13520586091811261455:0=0:=rfl
theorem tw14505418977150675502:0=0:=rfl
theorem tw17201881150646010550:0=0:=rfl
theorem tw1346827172654330435:0=0:=rfl
theorem tw6775792058551649874:0=0:=rfl
theorem tw6324685243319571728:0=0:=rfl
theorem tw15963087004160723083:0=0:=rfl
theorem tw4140858248827441757:0=0:=rfl
theorem tw15764525134227892350:0=0:=rfl
theorem tw12645573054592643870:0=0:=rfl
theorem tw14661819845464777610:0=0:=rfl
theorem tw14146381103118193112:0=0:=rfl
theorem tw16808923617780085391:0=0:=rfl
theorem tw603087247478728895:0=0:=rfl
theorem tw18285395445773960300:0=0:=rfl
theorem tw6643964752831457650:0=0:=rfl
theorem tw7333612293046339614:0=0:=rfl
theorem tw16546384239391791292:0=0:=rfl
theorem tw10439790661221607802:0=0:=rfl
theorem tw15302283654958594296:0=0:=rfl
theorem tw5548534990764624923:0=0:=rfl
theorem tw15444002893259268458:0=0:=rfl
theorem tw3309298045087140782:0=0:=rfl
theorem tw9402415772065511918:0=0:=rfl
theorem tw15242649833488008288:0=0:=rfl
theorem tw16801617671860775550:0=0:=rfl
theorem tw5200087894251952957:0=0:=rfl
theorem tw3466847692884968405:0=0:=rfl
theorem tw8749843724191805724:0=0:=rfl
theorem tw17630576908730175238:0=0:=rfl
theorem tw13690818581342423632:0=0:=rfl
theorem tw3641242103533447972:0=0:=rfl
theorem tw10735988177554862687:0=0:=rfl
theorem tw1804877515193011767:0=0:=rfl
theorem tw15000142458531471165:0=0:=rfl
theorem tw10007239782679253024:0=0:=rfl
theorem tw6224515609858976556:0=0:=rfl
theorem tw10141156219218788971:0=0:=rfl
theorem tw3225620106961987904:0=0:=rfl
theorem tw11148490128284818362:0=0:=rfl
theorem tw16725993068015256939:0=0:=rfl
theorem tw7599825384465581416:0=0:=rfl
theorem tw546531374301788062:0=0:=rfl
theorem tw15350934862003690247:0=0:=rfl
theorem tw16096735949961081986:0=0:=rfl
theorem tw2742925736843687394:0=0:=rfl
theorem tw15466179631313745557:0=0:=rfl
theorem tw6469527896420403029:0=0:=rfl
theorem tw6905883324603507951:0=0:=rfl
theorem tw7314178046824997057:0=0:=rfl
theorem tw3906424405464571920:0=0:=rfl
theorem tw1078037695776371414:0=0:=rfl
theorem tw6284521215141387709:0=0:=rfl
theorem tw11757877500327459416:0=0:=rfl
theorem tw12936335725183120218:0=0:=rfl
theorem tw13809582021236949844:0=0:=rfl
theorem tw12614464397455891392:0=0:=rfl
theorem tw10304714547144764795:0=0:=rfl
theorem tw7235944745844150808:0=0:=rfl
theorem tw12114920615423926228:0=0:=rfl
theorem tw6098785508078972496:0=0:=rfl
theorem tw11160565177721585440:0=0:=rfl
theorem tw12143095992927872780:0=0:=rfl
theorem tw9723567621879660752:0=0:=rfl
theorem tw7961648103033035012:0=0:=rfl
theorem tw10714977507580953399:0=0:=rfl
theorem tw16366838809565282589:0=0:=rfl
theorem tw17389934960267876935:0=0:=rfl
theorem tw6973679125179278038:0=0:=rfl
theorem tw3330000165271804668:0=0:=rfl
theorem tw3744126178034624939:0=0:=rfl
theorem tw9076979304841685623:0=0:=rfl
theorem tw4614482992870808645:0=0:=rfl
theorem tw10257774332978009939:0=0:=rfl
theorem tw5257738283581525853:0=0:=rfl
theorem tw15946237090379783501:0=0:=rfl
theorem tw866209428889121060:0=0:=rfl
theorem tw6872219554096356272:0=0:=rfl
theorem tw15464657568657764188:0=0:=rfl
theorem tw6498958870614584372:0=0:=rfl
theorem tw12009276997969319344:0=0:=rfl
theorem tw5847992022241378539:0=0:=rfl
theorem tw14065532566623343939:0=0:=rfl
theorem tw15837676464771512093:0=0:=rfl
theorem tw3510008978827595325:0=0:=rfl
theorem tw16215707021961938810:0=0:=rfl
theorem tw9506653950598997643:0=0:=rfl
theorem tw9112197333666843385:0=0:=rfl
theorem tw15613273757364605000:0=0:=rfl
theorem tw17157862871269861033:0=0:=rfl
theorem tw18349129151243358284:0=0:=rfl
theorem tw16614425044976483439:0=0:=rfl
theorem tw6908091059690673144:0=0:=rfl
theorem tw14683710511811180422:0=0:=rfl
theorem tw8857779058220458928:0=0:=rfl
theorem tw14857947703236804473:0=0:=rfl
theorem tw18088835467095706451:0=0:=rfl
theorem tw15534209020729882743:0=0:=rfl
theorem tw4763515162564007505:0=0:=rfl
theorem tw1500940143119518362:0=0:=rfl
theorem tw129789499796649935:0=0:=rfl
theorem tw6376048792434807986:0=0:=rfl
theorem tw10409656380429916365:0=0:=rfl
theorem tw10016084592924656069:0=0:=rfl
theorem tw14236967494604636905:0=0:=rfl
theorem tw13475189199597569257:0=0:=rfl
theorem tw3192806122785643192:0=0:=rfl
theorem tw6037896527710559288:0=0:=rfl
theorem tw3683206307364929039:0=0:=rfl
theorem tw9271265648568948368:0=0:=rfl
theorem tw7674359918367493662:0=0:=rfl
theorem tw161277538879599461:0=0:=rfl
theorem tw9783242547041897202:0=0:=rfl
theorem tw2185305337451706233:0=0:=rfl
theorem tw13347712815899644286:0=0:=rfl
theorem tw736675498409250657:0=0:=rfl
theorem tw474551610675380260:0=0:=rfl
theorem tw15773059454421181687:0=0:=rfl
theorem tw9872741411349855059:0=0:=rfl
theorem tw2941469451863678011:0=0:=rfl
theorem tw1183624878489573879:0=0:=rfl
theorem tw15375739916983552264:0=0:=rfl
theorem tw5689731405599286321:0=0:=rfl
theorem tw14722034034919967825:0=0:=rfl
theorem tw612980514060167963:0=0:=rfl
theorem tw8653117270906531321:0=0:=rfl
theorem tw1437316474249096815:0=0:=rfl
theorem tw12512864288716778017:0=0:=rfl
theorem tw2436952793776758684:0=0:=rfl
theorem tw8180784747851830599:0=0:=rfl
theorem tw2152824814346727388:0=0:=rfl
theorem tw17615377061156304903:0=0:=rfl
theorem tw15150540550844372050:0=0:=rfl
theorem tw1684797758222713527:0=0:=rfl
theorem tw7342555567680926332:0=0:=rfl
theorem tw7920209893583182193:0=0:=rfl
theorem tw3638164888180100217:0=0:=rfl
theorem tw2629767327411247150:0=0:=rfl
theorem tw16625709273431085778:0=0:=rfl
theorem tw1381008323757368781:0=0:=rfl
theorem tw17582344770506252081:0=0:=rfl
theorem tw6628213147269380220:0=0:=rfl
theorem tw5042530800596480628:0=0:=rfl
theorem tw5287882572318338243:0=0:=rfl
theorem tw17657370626106082966:0=0:=rfl
theorem tw7869464728820355140:0=0:=rfl
theorem tw1501742242714940542:0=0:=rfl
theorem tw7963267992939985704:0=0:=rfl
theorem tw16636564658312378363:0=0:=rfl
theorem tw16334672065349261308:0=0:=rfl
theorem tw10799688398294044117:0=0:=rfl
theorem tw8680957983124583633:0=0:=rfl
theorem tw13064843970012294915:0=0:=rfl
theorem tw4464855269490625599:0=0:=rfl
theorem tw15007844789461424439:0=0:=rfl
theorem tw10299996473904753114:0=0:=rfl
theorem tw17165524180502221:0=0:=rfl
theorem tw11359191396437462400:0=0:=rfl
theorem tw10518886739586810021:0=0:=rfl
theorem tw17376088960058417731:0=0:=rfl
theorem tw6918950694262453647:0=0:=rfl
theorem tw8587091523503661903:0=0:=rfl
theorem tw10286143336580703848:0=0:=rfl
theorem tw7311669570188416583:0=0:=rfl
theorem tw10851419901253559559:0=0:=rfl
theorem tw18299820016293757509:0=0:=rfl
theorem tw3111938986354011489:0=0:=rfl
theorem tw5801986955018351465:0=0:=rfl
theorem tw18066715160986604307:0=0:=rfl
theorem tw12440131705501947021:0=0:=rfl
theorem tw10301639246869370819:0=0:=rfl
theorem tw3497462460162716343:0=0:=rfl
theorem tw11027796754796756605:0=0:=rfl
theorem tw8640209633623850428:0=0:=rfl
theorem tw16396545042418211609:0=0:=rfl
theorem tw15884929415366040893:0=0:=rfl
theorem tw2170328995064393362:0=0:=rfl
theorem tw9232165251085020652:0=0:=rfl
theorem tw12059577726683956183:0=0:=rfl
theorem tw3749550618264006793:0=0:=rfl
theorem tw2453647436490900338:0=0:=rfl
theorem tw2365307008932477720:0=0:=rfl
theorem tw7707441165450199022:0=0:=rfl
theorem tw48877891675181651:0=0:=rfl
theorem tw13865968449093630684:0=0:=rfl
theorem tw1716523265017050278:0=0:=rfl
theorem tw17186926297935301063:0=0:=rfl
theorem tw15936650038839809617:0=0:=rfl
theorem tw9791277704100565516:0=0:=rfl
theorem tw1545961829580853824:0=0:=rfl
theorem tw9027454823908309564:0=0:=rfl
theorem tw13414275873587515952:0=0:=rfl
theorem tw7170341804982053921:0=0:=rfl
theorem tw9337068066390964669:0=0:=rfl
theorem tw9730284785217048768:0=0:=rfl
theorem tw4569424927040103411:0=0:=rfl
theorem tw9264762957633488607:0=0:=rfl
theorem tw11871710267077508780:0=0:=rfl
end PySem.W.Fast
open PySem PySem.W PyProof.Rows
set_option maxRecDepth 100000 in
set_option maxHeartbeats 0 in
theorem PySem.Challenge.cw_classtab_k63_lines_of_no_table_holds : PySem.Challenge.rw_classtab_k63_lines_of_no_table.Holds := by
 w_on;o_law;k_head;(case hw=>w_witness2)
 k_fill
 refine C63.walk (l:=PySem.Challenge.rw_classtab_k63_lines_of_no_table) rfl rfl (fun w h Y=>PySem.W.kIn_of Y) ?F
 case F=>
  intro w mg fa h KX G hmg
  refine' C63.all_mk KX G hmg (L2.Us.mk' ?_ ?_ ?_ ?_ ?_) (L2.YW.mk' ?_ ?_ ?_ ?_ ?_) (L2.YW.mk' ?_ ?_ ?_ ?_ ?_) (L2.YW.mk' ?_ ?_ ?_ ?_ ?_) (L2.YW.mk' ?_ ?_ ?_ ?_ ?_) (L2.Zfm.mk ?_ ?_ ?_ ?_ ?_ ?_ ?_ ?_ ?_) (L2.YW.mk' ?_ ?_ ?_ ?_ ?_) (L2.YW.mk' ?_ ?_ ?_ ?_ ?_) (L2.Xt.mk ?_ ?_ ?_ ?_ ?_) (L2.Xt.mk ?_ ?_ ?_ ?_ ?_) (L2.Xt.mk ?_ ?_ ?_ ?_ ?_) (L2.Xt.mk ?_ ?_ ?_ ?_ ?_) (L2.Xt.mk ?_ ?_ ?_ ?_ ?_) ?_ ?_ ?_ (L2.ZI.mk ?_ ?_ ?_ ?_) (L2.ZI.mk ?_ ?_ ?_ ?_) (L2.ZI.mk ?_ ?_ ?_ ?_) (L2.ZI.mk ?_ ?_ ?_ ?_) (L2.ZI.mk ?_ ?_ ?_ ?_) (L2.ZI.mk ?_ ?_ ?_ ?_) (L2.ZI.mk ?_ ?_ ?_ ?_) (L2.ZI.mk ?_ ?_ ?_ ?_) (L2.ZI.mk ?_ ?_ ?_ ?_) (L2.ZI.mk ?_ ?_ ?_ ?_) (L2.ZI.mk ?_ ?_ ?_ ?_) (L2.ZI.mk ?_ ?_ ?_ ?_) (L2.ZI.mk ?_ ?_ ?_ ?_) (L2.ZI.mk ?_ ?_ ?_ ?_) (L2.ZI.mk ?_ ?_ ?_ ?_) (L2.ZI.mk ?_ ?_ ?_ ?_) (L2.ZI.mk ?_ ?_ ?_ ?_) (L2.ZI.mk ?_ ?_ ?_ ?_) (L2.ZI.mk ?_ ?_ ?_ ?_) (L2.ZI.mk ?_ ?_ ?_ ?_) (L2.ZI.mk ?_ ?_ ?_ ?_) (L2.ZI.mk ?_ ?_ ?_ ?_) (L2.ZI.mk ?_ ?_ ?_ ?_) (L2.ZI.mk ?_ ?_ ?_ ?_) (L2.ZI.mk ?_ ?_ ?_ ?_) (L2.ZI.mk ?_ ?_ ?_ ?_) ?_ ?_ ?_ ?_ ?_ ?_ ?_ ?_ ?_ ?_ ?_ ?_ ?_ ?_ ?_ ?_ ?_ ?_
  any_goals k_is
  all_goals kernel_rfl
