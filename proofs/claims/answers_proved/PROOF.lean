import PyProof.Rows.All
import Wide.All
import OpenK.AllK
import Wide.FinOn
import PyProof.EqAt
import PyProof.EqKinds
import PyProof.TupleCall
import KE.BitLaws
import Open.SpecLaws
import KE.OsHead
import KE.OsGo
import KE.KSortTupG
import PyProof.Draws
import PyProof.EnumMake
import KE.KDictSum
import PySem.SetTable
import PyProof.Rows.SetFrom
import PyProof.Rows.TupDisplay
import PyProof.Rows.SortG.SortRunsSt
import PyProof.Rows.SortWalk
import PyProof.Rows.SortShellSt
import PySem.Challenge.RW_dependrules_s01_answers
set_option Elab.async false
set_option linter.all false
set_option maxRecDepth 100000
set_option maxHeartbeats 4000000
open Array renaming getD->eE,length_toList->e_,getElem?_toList->ju,getElem?_eq_none->l9,getElem?_eq_getElem->l_,mem_toList_iff->pN,toList->zh,getElem_mem->z0,size_map->Ac,append_assoc->RQ,toList_map->Ui,replicate->Uw,forIn_toList->UC,mem_of_getElem?->U4
open Array.Perm renaming refl->Vd
open Bool renaming and_eq_true->bY,not_eq_true'->cx,not_eq_false'->cN,false_ne_true->cY,false_eq_true->dy,or_eq_true->gL,noConfusion->h_,or_eq_false_iff->jx,eq_iff_iff->jX,false_or->tV,true_and->uc,not_true->uh,false_and->zl,and_false->zD,or_false->Uf,and_eq_false_iff->UM
open Classical renaming propDecidable->TX
open Decidable renaming em->zW,of_not_not->UX
open False renaming elim->fm
open ForInStep renaming yield->tU
open Int renaming toNat_natCast->nB,toNat_of_nonneg->IE
open List renaming length_map->aC,map_cons->aU,mem_cons->be,length_cons->bm,mem_map->bp,mem_cons_of_mem->bq,length_append->bx,mem_cons_self->bB,getElem?_map->bC,mem_append->bP,size_toArray->bQ,getElem?_eq_getElem->b8,mem_filter->cU,length_nil->cZ,mem_of_getElem?->dg,map_append->dh,all_eq_true->dG,length_take->dL,length_drop->d5,range->eQ,map_map->eR,nodup_cons->fc,take_length->fq,append_nil->fQ,mem_range->gi,any_cons->gm,find?_cons->hZ,pairwise_cons->ia,filter_cons->ib,map_nil->iU,take_zero->iV,length_filter_le->iX,filterMap_cons->jW,length_singleton->j4,append_assoc->j6,mem_of_find?_eq_some->kZ,nodup_iff_pairwise_ne->k8,mem_append_right->lX,lookup->lY,length->lZ,take_of_length_le->l5,all_map->l6,lookup_cons->l8,mem_of_mem_take->mh,mem_filterMap->nz,foldl_cons->nM,map_drop->nO,map_take->nP,getElem_map->nR,pairwise_map->nT,eraseIdx_cons_succ->pT,take_add_one->pZ,drop_zero->p5,find?_some->p6,contains_cons->p7,getD_eq_getElem?_getD->tR,forIn_nil->tS,drop_drop->ub,find?_eq_none->ug,mem_singleton->ul,map_congr_left->um,reverse->ur,zip_cons_cons->zw,all_cons->zz,reverse_cons->zB,any_map->zE,forIn_cons->zG,getElem?_eq_none->zJ,any_eq_true->zU,cons_append->zV,take_append_drop->zX,foldl_append->zY,nodup_range->z9,toList_toArray->z_,mem_flatMap->Ae,map_id->Af,getElem?_set_self->Hb,getElem?_set_ne->Hc,any_eq_false->Hh,of_mem_zip->Hs,getElem?_append_right->Ht,getElem?_append_left->Hu,filterMap_map->Hx,nodup_nil->HI,getElem?_cons_zero->HR,nil_append->HX,drop_eq_nil_of_le->HZ,mem_of_mem_drop->H_,drop_succ_cons->Ia,drop_eq_getElem_cons->Ib,flatMap_cons->Ic,contains_iff_mem->Ie,exists_cons_of_ne_nil->Ig,drop_of_length_le->Ik,set_set->Il,pairwise_iff_getElem->Iu,ext_getElem?->Iv,getElem_mem->Iy,sum_cons->II,mem_append_left->RR,getElem_inj->RS,getElem?_take_of_lt->Sf,take_sublist->Sg,zip_nil_left->Si,zip_nil_right->Sj,eraseIdxIfInBounds_toArray->SM,range_succ_eq_map->SN,getElem?_cons_succ->Tf,mem_erase_of_ne->Tx,length_erase_of_mem->Tz,length_pos_of_mem->TB,dropWhile_cons->TC,findIdx_lt_length_of_exists->TF,findIdx_getElem->TH,not_of_lt_findIdx->TJ,flatMap_append->TK,find?_isSome->TL,length_reverse->TM,drop_length->TR,range'_succ->TY,zip_map'->Uh,getElem_drop->Ut,getElem_range->Uu,length_range->Ux,perm_ext_iff_of_nodup->UF,not_mem_nil->UL,findIdx?_eq_some_iff_getElem->UP,mapM_toArray->U5
open List.Pairwise renaming nil->HS,imp_of_mem->Iz,imp->Tw,filter->Wn
open List.Perm renaming refl->qo,swap->IG
open List.cons renaming injEq->HY
open Nat renaming le_refl->aW,zero_le->bv,le_trans->bM,ne_of_lt->cX,lt_of_lt_of_le->eZ,mul_le_mul_right->fB,lt_irrefl->jr,not_lt_zero->k7,lt_succ_of_lt->nG,succ_pos->p4,le_of_lt->tM,le_total->ud,min_eq_left->ue,ne_of_gt->zk,le_of_eq->zp,lt_succ_self->zr,le_of_succ_le->zI,lt_trichotomy->z7,mod_lt->z8,add_comm->Ab,lt_trans->HG,sub_zero->Ii,min_eq_right->Ij,lt_or_ge->IF,le_succ->Sd,succ_ne_self->Tk,le_add_right->Tl,lt_of_le_of_lt->Tv,div_div_eq_div_mul->Uq,pow_succ->Ur,zero_add->Us,le_of_lt_succ->Uv,succ_mul->UQ
open Ne renaming symm->dw
open Option renaming none->zT,isSome_map->HF,getD->IA,getD_none->SF,isSome_some->SQ,map_some->UA
open Option.some renaming inj->cJ,injEq->Te
open Or renaming inl->aT,inr->nN
open Prod renaming fst->mi,snd->IU,ext->Ss
open PyFlat renaming rows->UW,told->UY,played->UZ,calls->U1
open PyProof.Rows renaming SortSt->bK,Keyed->cy,IntsAre->eB,SortKind->gu,IsTup->jV,AllBare->nw,SortedToK->nQ,slot_tuple_getitem->pS,lexLt->p8,itemOrd->p9,pairsOf_size->Ar,callWith_type1->Hv,Subscript_->Hy,tupItems->Ir,listUpdate_at->IM,seqEpoch_at->IN,Constant_none->RV,slicePart_none->Su,entry_tuple_getitem->Sx,args_tuple_getitem->Sy,tupleItemsOf_->SA,subscriptTail_builtinR->SE,boot_enumerate->Tj,slot_list_sort->T9,entry_list_sort->T_,args_list_sort->Ua,sortedHeap_at->Ub,sortedHeap_old->Uc,lex_self->Ud,lex_diff->Ue,callWith_builtin1->VM,lt_int->VN,gt_int->V7,tupKey->Wb,TupOf->Wc,TupsOf->Wd,pairsOf_toList->We,pairsOf_size->Wf,collect_list->Wg,tupItems_int->Wy
open PyProof.Rows.F renaming plain_set_update_loop->Ad,entry_set_update_loop->UI
open PyProof.Rows.G renaming tupKeyC->k5,tupKindC->k6,KeepsTups->uA,tupKeyC_some->IQ,tupC_ltAt->IT,isTupObj->Ug,wpS_sortRunsSt->Wz,keeps_sort6->WA,tupKeys->WB
open PyProof.Rows.IntsAre renaming length->TN
open PyProof.Rows.IsTup renaming new->Hz
open PyProof.Rows.SortSt renaming mk'->qr
open PySem renaming Addr->aa,Value->ac,Shared->af,wpAny_bind->aj,Expr->ao,wpAny_pure->ay,World->aE,Heap->aF,Program->aI,Stmt->aL,FuncData->aS,Around->a7,SetTable->bU,Scope->bX,Paired->cb,Model->eA,Builtin->eC,NameKind->fR,wpAny_call_entry->fS,wpAny_mono->gk,mem_of_lookup->gl,wpAny_newObj_type->hX,wpAny_loadPart'->iQ,wpAny_holding->iR,lookup_relabel_local->iW,CmpOp->js,wpAny_truthy_bool->jt,DictEntry->jv,wpAny_setState_of->jz,Ctx->jC,sizeLine_eq->jY,IsPart->jZ,Keyword->j3,Params->kY,wpAny_callSpecial?_slot->l4,PyData->l7,wpAny_passesOwn->ny,wpAny_typeOf->nE,call_meets->nF,tupleKind_room_in1->nH,wpAny_setField->nJ,wpAny_of_eq->nL,BindsTo->pO,codeAny_mono->pP,Meets->pQ,wpAny_forIn_list->pR,wpAny_dictEntries->pW,codeAny_builtin->qh,wpAny_Call_Name_kw->tN,wpAny_field->tP,wpAny_pyIter_slot->tX,size_of_entries->tZ,plainId_quiet->uk,wpAny_execs_nil->zi,Operator->zj,Result->zo,pushCells_keeps->zH,wpAny_attempt->zK,wpAny_typeNameOfWhole_keyiter->zL,wpAny_typeNameOf_keyiter->zM,entry_at->zN,wpAny_pyIter_enum->zP,boot_len->zZ,Fin->z5,IsTupleKey->Aa,wpAny_ite_split->Aq,Within->G_,wpAny_Name->Hd,wpAny_pyIter_list->He,wpAny_pyIter_tuple->Hf,wpAny_call->Hq,PlainAttrs->HC,wpAny_specialOf->HH,wpAny_dictEpoch->HK,wpAny_fieldsOf->HL,wpAny_handled->HN,wpAny_throw->HP,wpAny_isInstance->HQ,wpAny_rule->Ih,wpAny_seqItems->Io,wpAny_newList->Iq,wpAny_askSetting->ID,isSubtype_type->IP,wpAny_loadName_local->RT,wpAny_loadName_cell->RU,wpAny_Compare1->RZ,wpAny_isTrue_Compare1->R0,wpAny_execs_cons->R9,wpAny_assign_Name->R_,noFill_tuple_add->Sl,seq_tuple_add->Sn,wpAny_sequenceKey->Sw,evalPart_none->SD,call_list_seq->SH,wpAny_Call_method_late->SI,wpAny_standAt->SR,wpAny_getItem_of->SU,wpAny_Call_method->SY,wpAny_notOrdered_dict->S7,wpAny_isOneOf_keyiter->Tb,isSubtype_stop->Td,wpAny_letOwnedTupleGo_enum->Ti,call->Tu,richCompare_meets_room->TQ,wpAny_isSame_ref_self->UD,wpAny_storeSet_of->UG,codeAny_of_tree->UJ,typeLookup_type->U6,builtinLookup_eq_fast->U7,signature?_of->U8,entryFor_alias->U9
open PySem.Around renaming under_plainId->uj,under->Hm
open PySem.AutoSeq1 renaming sub_tuple_tuple->Sh
open PySem.Builtin.Dict renaming showsAll->S8,dictSlotNone->V4,pendingCount->Wh,keyAndDefault->Wi,takeOut->Wj
open PySem.Builtin.Dict_items renaming ownsTuple->Ta
open PySem.Builtin.Frozenset renaming newClass->Wl,updateFrom->Wm,slot0->Wv,sizeOf->Ww
open PySem.Builtin.List renaming listTooLong->zC,listItems->Wu,listLengthHint->Wx
open PySem.Builtin.Slice renaming slicePlaces->zx,sliceAdjust->Hw,sliceApplied->Sv,slicePartIndex->VO,sliceFields->VP
open PySem.Builtin.SmallTypes renaming nextOf->T8,stopIteration->Wa
open PySem.Builtin.Tuple renaming tupleExact->zy,tupleCompareSizes->Sk,tupleItemsOf->Sz,tupleIsExact->V8
open PySem.Calls renaming callWith_builtin->tQ,spliced_cons->zt,evalArgs_plain->zA,spliced_nil->Ho,call_function_entry->Ip,Name_function_global->RW
open PySem.CmpOp renaming In->RX,NotIn->RY
open PySem.Code renaming isFrame->Hn,frames->Sc
open PySem.Data renaming seq->zS,dict->Tq
open PySem.EqMixed renaming eq_bool_str->Vs,eq_int_str->Vu,eq_str_bool->Vw,eq_str_int->Vx,ne_bool_str->VD,ne_int_str->VF,ne_str_bool->VH,ne_str_int->VI
open PySem.EqNone renaming eq_none_none->Vn,eq_none_bool->Vo,eq_none_int->Vp,eq_none_str->Vq,eq_bool_none->Vr,eq_int_none->Vt,eq_str_none->Vv,ne_none_none->Vy,ne_none_bool->Vz,ne_none_int->VA,ne_none_str->VB,ne_bool_none->VC,ne_int_none->VE,ne_str_none->VG
open PySem.F renaming plainAttrs_list->fT,slot_list_append->iY,type_list_append->iZ,slot_dict_keyiterator_next->nI,slot_dict_keyiterator_iter->zO,slot_dict_get->HJ,slot_tuple_lt->IS,slot_tuple_add->So,entry_tuple_add->Sq,args_tuple_add_2->Sr,slot_list_extend->SJ,entry_list_extend->SK,args_list_extend_2->SL,entry_dict_get->SV,args_dict_get_3->SW,plainAttrs_dict->SZ,slot_dict_iter->S0,entry_dict_keyiterator_next->S9,args_dict_keyiterator_next_1->S_,entry_dict_keyiterator_iter->Tg,args_dict_keyiterator_iter_1->Th,slot_tuple_index->TZ,slot_tuple_iterator_next->T0,slot_dict_len->Ul,slot_dict_pop->Um,plain_set_new->UK,slot_list_extend->UN,type_list_extend->UO,slot_set_iter->U_,entry_tuple_lt->Vb,args_tuple_lt_2->Vc
open PySem.Heap renaming lt_size->bL,get?_push_of_some->b4,get?_push_size->cw,size_push->fP,SameBut->kU,get?_update_self->ma,ExtBut->HM
open PySem.Heap.IsSliceOf renaming new->VQ
open PySem.Heap.SameBut renaming update->jw
open PySem.IsTupleKey renaming typeIs->UB
open PySem.NameKind renaming free->pV,cell->HE
open PySem.Obj renaming data_mapFields->kX,mapSeq->pU,mapFields->pX,isFreed_of_fields->tY,data_mapDictKeys->Iw,putSet->IB,cls_mapFields->Tc,isFreed_of_dict->Uo
open PySem.Paired renaming length->dR,snoc->SS
open PySem.PassesOwn renaming never->fz
open PySem.PyData renaming int->j5,eqv->SO,canLayAll0->TU,depthAll->TV,eqvAll->TW
open PySem.Sem renaming wp->b5,wp_pure'->kg,wp_bind'->mm,wp_mono->uz,wp_attempt->U3
open PySem.SeqAt renaming EqAt->tO,shaped->zF
open PySem.SeqAt.EqAt renaming int_int->zu,int_str->RK,str_int->RL,same->SG,none_bool->VR,none_int->VS,none_str->VT,bool_none->VU,bool_bool->VW,bool_int->VX,bool_str->VY,int_none->VZ,int_bool->V0,str_none->V1,str_bool->V2,str_str->V3,of_refs->V5
open PySem.SeqAt.RcAt renaming tuples->V6
open PySem.SetTable renaming Probe->jy,advance->p_,turns->qe,grown->qf,below->qg,insertAt->ui,slot->Ix,sizeAbove->IC,fits->Uy,fill->Uz,Probe->UE,tooFull->UH
open PySem.SetTable.below renaming go->z6
open PySem.SetTable.layClean renaming free->nS
open PySem.SetTable.probe renaming go->mf,go->Wk
open PySem.Str renaming ofString->iS,empty->Sb
open PySem.Value renaming ref->aP,int->iM,none->iN,type->jq,bool->kT,str->zg,isInt->RG,isStrOf->RH,isInt_shape->RJ,bytes->RM,float->RP
open PySem.Value.type renaming inj->t_
open PySem.W renaming Frag->aA,WData->dD,keepIn->fo,findIn->iO,fnOf->iP,emptyDict->kW,instObj->lW,WellAll->md,nsIn->mn,mg_of->mo,codeIn->nA,plainGet->zm,hasDictIn->zn,methodObj->Ha,lookIn->Hg,plainOver->Hi,takerIn->Hj,makesIn->Hk,isFn->Hl,callWith_K->Hr,handedIn->Sa,cellsFrom_some->Se,WRecords->To,length_le_weightAllW->Tp,WalkOS->Tt,KdlSrc->Uj,kdu_collect->Uk
open PySem.W.Codec renaming encAll->pY,app->ua,denoteAll->zQ,withinAll->Tr
open PySem.W.Looks renaming here->VJ
open PySem.W.WData renaming weightAll->zR,int->Tn
open PySem.Walks renaming list->HD
open PySem.Within renaming cons->VL
open PySem.pickOrder renaming go->Va
open PyVabldg renaming shape->ke,whole->uv,answers->ux,calls->Ak,answers_asked->IL
open StateT renaming run_pure->Am,run_bind->An,lift->Ao,run_lift->Ap,run_get->U2
open Std.Legacy renaming Range->V9
open Std.Legacy.Range renaming forIn_eq_forIn_range'->Im,size->V_
open Sum renaming inl->dF,inr->nv
open True renaming intro->fb
open Vabldg renaming Text->ai,textsOf->aO,isLabel->a8,packageOf->bf,find->bj,State->bR,inOrder->cf,lines->cK,step->dz,breaches->d6,num->d7,Target->eF,withLength->eI,depsOf->eS,Group->fA,order->fC,idle->fD,Target->gn,readSpec->gp,breachLine->gq,wanted->gM,isGroupName->ic,sees->ie,closure->ig,circle->ii,no->ij,above->i0,mayNumber->jA,str->jB,nameByte->j7,isPath->j8,layerOf->j9,badLayer->j_,breachesOf->k9,Breach->k_,checkAnswer->lg,below->mj,onTarget->ml,split->nU,putTarget->nV,Call->nW,seesAnswer->nX,distinct->qi,isPart->qj,isPackage->qk,within->qm,orderAnswer->qp,textBefore->uf,isGroupSpec->uo,admitsPlainly->uq,restsOn->uu,start->Ah,mayAnswer->Ai,Answer->Aj,plainSpecs->IH,circleFrom->UR,LABEL->UT,targetCall->UU,groupCall->UV
open Vabldg.Call renaming layer->US,circle->Wo,may->Wp,sees->Wq,order->Wr,check->Ws,breaches->Wt
open VabldgNeutral renaming encode->i4,natural->nY,text->nZ,callOf->uw,whole60->Al,asked1->IJ,step->IK,asked->U0
namespace Dm
open Vabldg
theorem lB: ∀t:ai,textBefore t t=false
 | []=>rfl
 |a::r=>by simp [textBefore,lB r]
theorem vo (a b:Nat) (r s:ai):textBefore (a::r) (b::s)=true↔a<b∨(a=b/\textBefore r s=true):=by
 simp [textBefore]
theorem rh: ∀{a b c:ai},textBefore a b=true->textBefore b c=true->textBefore a c=true
 | [],_::_,_::_,_,_=>rfl
 | [],[],_,h,_=>by simp [textBefore] at h
 |_,_::_,[],_,h=>by simp [textBefore] at h
 |_::_,[],_,h,_=>by simp [textBefore] at h
 |a::r,b::s,c::t,h1,h2=>by
  rw[vo] at h1 h2 ⊢
  rcases h1 with h1|⟨e1,h1⟩
  ·rcases h2 with h2|⟨e2,h2⟩
   ·exact .inl (HG h1 h2)
   ·exact .inl (e2▸h1)
  ·rcases h2 with h2|⟨e2,h2⟩
   ·exact .inl (e1▸h2)
   ·exact .inr ⟨e1.trans e2,rh h1 h2⟩
theorem rp: ∀(a b:ai),a≠b->textBefore a b=false->textBefore b a=true
 | [],[],h,_=>(h rfl).elim
 | [],_::_,_,h=>by simp [textBefore] at h
 |_::_,[],_,_=>rfl
 |a::r,b::s,h,h1=>by
  rw[vo]
  have h2: ¬(a<b∨(a=b/\textBefore r s=true)):=λz=>by
   rw[←vo] at z;rw[z] at h1;cases h1
  by_cases e:a=b
  ·subst e
   refine .inr ⟨rfl,rp r s (λz=>h (by rw[z])) ?_⟩
   cases q:textBefore r s with
   |false=>rfl
   |true=>exact(h2 (.inr ⟨rfl,q⟩)).elim
  ·exact .inl (by omega)
theorem vp {a b:ai} (h:textBefore a b=true):textBefore b a=false:=by
 cases q:textBefore b a with
 |false=>rfl
 |true=>have:=rh h q;rw[lB] at this;cases this
theorem vq {a b:ai} (h:textBefore a b=true):a≠b:=λe=>by rw[e,lB] at h;cases h
abbrev cE (l:List ai):Prop:=l.Pairwise λa b=>textBefore a b=true
theorem vt {x y:ai}: ∀{l:List ai},y∈put x l↔y=x∨y∈l
 | []=>by simp [put]
 |z::r=>by
  unfold put
  split
  ·rename_i e;subst e;simp
  ·split
   ·simp
   ·rw[be,vt,be]
    constructor
    ·rintro(h|h|h)
     ·exact .inr (.inl h)
     ·exact .inl h
     ·exact .inr (.inr h)
    ·rintro(h|h|h)
     ·exact .inr (.inl h)
     ·exact .inl h
     ·exact .inr (.inr h)
theorem vv {x:ai}: ∀{l:List ai},cE l->cE (put x l)
 | [],_=>by simp [put,cE]
 |z::r,h=>by
  have h':(∀y∈r,textBefore z y=true)/\cE r:=ia.mp h
  unfold put
  split
  ·exact h
  ·rename_i ne
   split
   ·rename_i hb
    refine ia.mpr ⟨λy hy=>?_,h⟩
    rcases be.mp hy with rfl|hy
    ·exact hb
    ·exact rh hb (h'.1 y hy)
   ·rename_i hb
    refine ia.mpr ⟨λy hy=>?_,vv h'.2⟩
    rcases vt.mp hy with rfl|hy
    ·exact rp _ _ ne (by simpa using hb)
    ·exact h'.1 y hy
theorem dJ {y:ai}: ∀{l:List ai},y∈inOrder l↔y∈l
 | []=>by simp [inOrder]
 |x::r=>by
  show y∈put x (inOrder r)↔_
  rw[vt,dJ,be]
theorem iw: ∀l:List ai,cE (inOrder l)
 | []=>HS
 |_::r=>vv (iw r)
theorem rq: ∀{l m:List ai},cE l->cE m->(∀x,x∈l↔x∈m)->l=m
 | [],[],_,_,_=>rfl
 | [],b::s,_,_,h=>by have:=(h b).mpr bB;cases this
 |a::r,[],_,_,h=>by have:=(h a).mp bB;cases this
 |a::r,b::s,h1,h2,h=>by
  obtain⟨a1,a2⟩:=ia.mp h1
  obtain⟨b1,b2⟩:=ia.mp h2
  have e:a=b:=by
   rcases be.mp ((h a).mp bB) with e|ha
   ·exact e
   ·rcases be.mp ((h b).mpr bB) with e|hb
    ·exact e.symm
    ·have q:=rh (a1 b hb) (b1 a ha);rw[lB] at q;cases q
  subst e
  congr 1
  refine rq a2 b2 λx=>?_
  constructor
  ·intro hx
   rcases be.mp ((h x).mp (bq _ hx)) with e|q
   ·have:=a1 x hx;rw[e,lB] at this;cases this
   ·exact q
  ·intro hx
   rcases be.mp ((h x).mpr (bq _ hx)) with e|q
   ·have:=b1 x hx;rw[e,lB] at this;cases this
   ·exact q
theorem cE.nodup {l:List ai} (h:cE l):l.Nodup:=Tw (λh=>vq h) h
theorem mE {l m:List ai} (h:cE m) (hm: ∀x,x∈m↔x∈l):inOrder l=m:=
 rq (iw l) h λx=>dJ.trans (hm x).symm
theorem BX {l m:List ai} (h: ∀x,x∈l↔x∈m):inOrder l=inOrder m:=
 rq (iw l) (iw m) λx=>dJ.trans ((h x).trans dJ.symm)
theorem vw (x:ai): ∀l:List ai,(put x l).length<=l.length+1
 | []=>by simp [put]
 |y::r=>by
  unfold put
  have:=vw x r
  split
  ·simp
  ·split
   ·simp
   ·simp;omega
theorem mF: ∀l:List ai,(inOrder l).length<=l.length
 | []=>aW _
 |x::r=>by
  have:=mF r
  have h2:=vw x (inOrder r)
  show (put x (inOrder r)).length<=(x::r).length
  rw[bm];omega
theorem rA: ∀l:List ai,distinct l=true↔l.Nodup
 | []=>by simp [distinct]
 |x::r=>by
  simp only[distinct,bY,rA r,fc]
  simp
theorem fZ {α:Type} [DecidableEq α]: ∀{l m:List α},l.Nodup->(∀x∈l,x∈m)->l.length<=m.length
 | [],_,_,_=>bv _
 |x::r,m,h,hm=>by
  obtain⟨h1,h2⟩:=fc.mp h
  have hx:x∈m:=hm x bB
  have q:=fZ (l:=r) (m:=m.erase x) h2 λy hy=>(Tx (λ(e:y=x)=>h1 (e▸hy))).mpr (hm y (bq _ hy))
  rw[Tz hx] at q
  have:=TB hx
  simp only[bm];omega
theorem vx (c:Nat): ∀t:ai,split c t≠[]
 | []=>by simp [split]
 |x::r=>by
  unfold split
  split
  ·simp
  ·split <;> simp
theorem rB (c x:Nat): ∀(t:ai) (ps:List ai) (l:ai),split c t=ps++[l] ->
  split c (t++[x])=if x=c then ps++[l]++[[]] else ps++[l++[x]]
 | [],ps,l,h=>by
  have h1:ps=[]/\l=[]:=by
   simp only[split] at h
   cases ps with
   |nil=>simp at h;exact⟨rfl,h⟩
   |cons a r=>simp at h
  obtain⟨rfl,rfl⟩:=h1
  simp only[HX]
  unfold split
  split
  ·simp [split]
  ·simp [split]
 |y::r,ps,l,h=>by
  rw[zV]
  unfold split at h ⊢
  by_cases e:y=c
  ·rw[if_pos e] at h ⊢
   cases ps with
   |nil=>
    simp at h
    exact(vx c r h.2).elim
   |cons a qs=>
    simp only[zV,HY] at h
    obtain⟨rfl,h⟩:=h
    rw[rB c x r qs l h]
    split <;> simp
  ·rw[if_neg e] at h ⊢
   cases hs:split c r with
   |nil=>exact(vx c r hs).elim
   |cons z zs=>
    rw[hs] at h
    simp only at h
    cases ps with
    |nil=>
     simp only[HX,HY] at h
     obtain⟨rfl,rfl⟩:=h
     rw[rB c x r [] z (by simpa using hs)]
     by_cases ex:x=c
     ·simp [ex]
     ·simp [ex]
    |cons a qs=>
     simp only[zV,HY] at h
     obtain⟨rfl,h⟩:=h
     rw[rB c x r (z::qs) l (by rw[hs,h];simp)]
     by_cases ex:x=c
     ·simp [ex]
     ·simp [ex]
theorem iy {α:Type} {l:List α} {i:Nat} {x:α} (h:l[i]?=some x):l.take (i+1)=l.take i++[x]:=by
 rw[pZ,h];rfl
theorem Mh {c x:Nat} {t:ai} {i st:Nat} {ps:List ai} (hi:t[i]?=some x) (hs:st<=i) (h:split c (t.take i)=ps++[(t.take i).drop st]) :
  (x=c->split c (t.take (i+1))=(ps++[(t.take i).drop st])++[(t.take (i+1)).drop (i+1)]) /\
  (x≠c->split c (t.take (i+1))=ps++[(t.take (i+1)).drop st]):=by
 have hl:(t.take i).length=i:=by
  rw[dL]
  have:=(List.getElem?_eq_some_iff.mp hi).1
  omega
 rw[iy hi]
 have q:=rB c x (t.take i) ps _ h
 constructor
 ·intro e
  rw[q,if_pos e]
  have:(List.take i t++[x]).drop (i+1)=[]:=by
   apply HZ;simp [hl]
  rw[this]
 ·intro e
  rw[q,if_neg e,List.drop_append_of_le_length (by omega)]
theorem BY {c:Nat}: ∀{l:ai} {j:Nat},l[j]?=some c->(∀m,m<j->l[m]?≠some c)->l.takeWhile (λx=>x != c)=l.take j/\l.dropWhile (λx=>x != c)=l.drop j
 | [],j,h,_=>by simp at h
 |a::r,0,h,_=>by
  have e:a=c:=by simpa using h
  subst e;simp
 |a::r,j+1,h,hm=>by
  have ha:a≠c:=λe=>hm 0 (p4 _) (by simp [e])
  obtain⟨h1,h2⟩:=BY (l:=r) (j:=j) (by simpa using h) (λm hlt=>by have:=hm (m+1) (by omega);simpa using this)
  have hb:(a != c)=true:=by simpa using ha
  rw[List.takeWhile_cons,TC,hb]
  simp [h1,h2]
theorem dropWhile_none {c:Nat}: ∀{l:ai},c∉l->l.dropWhile (λx=>x != c)=[]
 | [],_=>rfl
 |a::r,h=>by
  have ha:(a != c)=true:=by simpa using λe:a=c=>h (by simp [e])
  rw[TC,ha]
  simp only[if_true]
  exact dropWhile_none λm=>h (bq _ m)
theorem oQ:str "//"=[47,47]:=by decide
theorem rC {l:ai} (h:l.take 2=[47,47]): ∃r,l=47::47::r:=by
 match l,h with
 | [],h=>simp at h
 | [_],h=>simp at h
 |a::b::r,h=>
  simp at h
  exact⟨r,by rw[h.1,h.2]⟩
theorem rD {l:ai} {j:Nat} (h2:l.take 2=[47,47]) (hj:l[j]?=some 58) (hm: ∀m,m<j->l[m]?≠some 58) :
  2<=j/\packageOf l=(l.drop 2).take (j-2)/\isLabel l=(isPackage ((l.drop 2).take (j-2)) && isPath (l.drop (j+1))):=by
 obtain⟨r,rfl⟩:=rC h2
 have j2:2<=j:=by
  match j,hj with
  |0,h=>simp at h
  |1,h=>simp at h
  |j+2,_=>omega
 obtain⟨k,rfl⟩: ∃k,j=k+2:=⟨j-2,by omega⟩
 have hk:r[k]?=some 58:=by simpa using hj
 obtain⟨h3,h4⟩:=BY hk (λm hlt=>by have:=hm (m+2) (by omega);simpa using this)
 have hp:packageOf (47::47::r)=r.take k:=h3
 refine⟨j2,hp,?_⟩
 unfold isLabel
 rw[hp,oQ]
 show ((47::47::r).take 2 == [47,47] && (isPackage (r.take k) && (!(r.dropWhile λc=>c != 58).isEmpty && isPath ((r.dropWhile λc=>c != 58).drop 1))))=_
 rw[h4]
 have hne:(r.drop k).isEmpty=false:=by
  have:=(List.getElem?_eq_some_iff.mp hk).1
  cases q:r.drop k with
  |nil=>have:=List.drop_eq_nil_iff.mp q;omega
  |cons _ _=>rfl
 rw[hne]
 simp
theorem BZ {l:ai} (h:l.take 2≠[47,47]):isLabel l=false:=by
 unfold isLabel
 rw[oQ,beq_eq_false_iff_ne.mpr h];rfl
theorem B0 {l:ai} (h:(58:Nat)∉l):isLabel l=false:=by
 unfold isLabel
 have:(l.drop 2).dropWhile (λc=>c != 58)=[]:=dropWhile_none λm=>h (H_ m)
 simp only[this]
 simp
theorem vy {l:ai} (h:isLabel l=true):l.take 2=[47,47]/\ ∃j:Nat,l[j]?=some 58/\ ∀m:Nat,m<j->l[m]?≠some 58:=by
 have h1:l.take 2=[47,47]:=by
  cases zW (l.take 2=[47,47]) with
  |inl h=>exact h
  |inr n=>rw[BZ n] at h;cases h
 have h2:(58:Nat)∈l:=by
  cases zW ((58:Nat)∈l) with
  |inl h=>exact h
  |inr n=>rw[B0 n] at h;cases h
 refine⟨h1,l.findIdx (· == 58),?_,λm hm=>?_⟩
 ·have hlt:l.findIdx (· == 58)<l.length:=TF ⟨58,h2,by simp⟩
  have q:=TH (w:=hlt) (p:=(· == 58))
  rw[b8 hlt]
  have:=eq_of_beq q
  rw[this]
 ·intro e
  have hlt:=(List.getElem?_eq_some_iff.mp e)
  obtain⟨w,hv⟩:=hlt
  have:=TJ hm
  simp [hv] at this
theorem vz {t:ai} (h:isPath t=true):1<=t.length/\t.length<=96:=by
 unfold isPath at h
 simp only[bY,decide_eq_true_eq] at h
 refine⟨?_,h.1⟩
 cases t with
 |nil=>have:=h.2.2;simp [split,isPart] at this
 |cons a r=>simp
theorem vA {l:ai} (h:isLabel l=true):l.length<=195:=by
 obtain⟨h1,j,hj,hm⟩:=vy h
 obtain⟨h2,_,e⟩:=rD h1 hj hm
 rw[e,bY] at h
 have a:=(vz h.2).2
 have hlt:=(List.getElem?_eq_some_iff.mp hj).1
 have b:j-2<=96:=by
  have hp:=h.1
  unfold isPackage at hp
  rw[gL] at hp
  have hl:((l.drop 2).take (j-2)).length=j-2:=by
   rw[dL,d5];omega
  rcases hp with hp|hp
  ·have:((l.drop 2).take (j-2))=[]:=by simpa using hp
   rw[this] at hl;simp at hl;omega
  ·have:=(vz hp).2;omega
 rw[d5] at a
 omega
theorem oR {l:ai} (h:isLabel l=true):(packageOf l).length<=96:=by
 obtain⟨h1,j,hj,hm⟩:=vy h
 obtain⟨h2,e1,e⟩:=rD h1 hj hm
 rw[e,bY,←e1] at h
 have hp:=h.1
 unfold isPackage at hp
 rw[gL] at hp
 rcases hp with hp|hp
 ·have:packageOf l=[]:=by simpa using hp
  rw[this];simp
 ·exact(vz hp).2
theorem lC {l:ai} (h:isLabel l=true):l≠[]:=by
 rintro rfl
 exact absurd h (by decide)
theorem rE:str "public"=[112,117,98,108,105,99]:=by decide
theorem oS:str "group:"=[103,114,111,117,112,58]:=by decide
theorem B1:str "/..."=[47,46,46,46]:=by decide
theorem rF:str "..."=[46,46,46]:=by decide
theorem Mi:str "."=[46]:=by decide
theorem Mj:str ".."=[46,46]:=by decide
abbrev eV:ai:=[112,117,98,108,105,99]
abbrev iz:ai:=[47,47,46,46,46]
abbrev cB:ai:=[47,46,46,46]
abbrev c_:ai:=[103,114,111,117,112,58]
def fH (t:ai):Bool:=decide (t.drop (t.length-4)=cB)
def f6 (t:ai):ai:=(t.drop 2).take (t.length-6)
def f7 (t:ai):Bool:=
 if t=eV∨t=iz then true else if t.take 2≠[47,47] then false else if fH t=true then isPath (f6 t) else isPackage (t.drop 2)
def fI (t p:ai):Bool:=
 if t=eV∨t=iz then true else if fH t=true then within p (f6 t) else decide (t.drop 2=p)
theorem vB (c:Nat): ∀(p q:ai),split c (p++c::q)=split c p++split c q
 | [],q=>by simp [split]
 |x::r,q=>by
  rw[zV]
  rw[show split c (x::(r++c::q))=(if x=c then []::split c (r++c::q) else match split c (r++c::q) with
   | []=>[[x]]
   |y::l=>(x::y)::l) from rfl,show split c (x::r)=(if x=c then []::split c r else match split c r with
   | []=>[[x]]
   |y::l=>(x::y)::l) from rfl]
  by_cases e:x=c
  ·rw[if_pos e,if_pos e,vB c r q];simp
  ·rw[if_neg e,if_neg e,vB c r q]
   cases h:split c r with
   |nil=>exact(vx c r h).elim
   |cons a l=>simp
theorem B2 {p:ai} (h:isPath (p++cB)=true):isPath p=true:=by
 have e:p++cB=p++47::[46,46,46]:=rfl
 unfold isPath at h ⊢
 rw[e,show SLASH=47 from rfl,vB] at h
 simp only[bY,decide_eq_true_eq,List.all_append,bx] at h ⊢
 obtain⟨h1,h2,h3⟩:=h
 rw[show SLASH=47 from rfl]
 refine⟨by omega,by omega,h3.1⟩
theorem drop_tail {α:Type} {t e:List α} (h:t.drop (t.length-e.length)=e) (hl:e.length<=t.length):t=t.take (t.length-e.length)++e:=by
 conv=>lhs;rw[←zX (t.length-e.length) t,h]
theorem B3 {r:ai} (h:fH (47::47::r)=true):r=[46,46,46]∨ ∃p,r=p++cB/\f6 (47::47::r)=p:=by
 unfold fH at h
 have h:=of_decide_eq_true h
 match r,h with
 | [],h=>simp at h
 | [a],h=>simp at h
 | [a,b],h=>simp at h
 | [a,b,c],h=>left;simpa using h
 |a::b::c::d::r',h=>
  right
  have h':(a::b::c::d::r').drop ((a::b::c::d::r').length-4)=cB:=by
   have e:(47::47::a::b::c::d::r').length-4=((a::b::c::d::r').length-4)+2:=by simp only[bm];omega
   rw[e] at h
   simpa using h
  have q:=drop_tail (t:=a::b::c::d::r') (e:=cB) h' (by simp only[bm,cZ];omega)
  refine⟨_,q,?_⟩
  unfold f6
  have e2:(47::47::a::b::c::d::r').length-6=(a::b::c::d::r').length-4:=by simp only[bm];omega
  rw[e2]
  show (a::b::c::d::r').take ((a::b::c::d::r').length-4)=(a::b::c::d::r').take ((a::b::c::d::r').length-cB.length)
  rfl
theorem Ml (p:ai):fH (47::47::(p++cB))=true/\f6 (47::47::(p++cB))=p:=by
 unfold fH f6
 have e:(47::47::(p++cB)).length=p.length+6:=by simp only[bm,bx,cZ]
 rw[e]
 refine⟨decide_eq_true ?_,?_⟩
 ·have e2:p.length+6-4=p.length+2:=by omega
  rw[e2];simp
 ·simp
theorem vC (p:ai):underOf (p++cB)=if isPath p=true then some p else none:=by
 unfold underOf
 rw[rF,B1]
 have h1:p++cB≠[46,46,46]:=λe=>by
  have:=congrArg lZ e
  simp only[bx,bm,cZ] at this;omega
 rw[if_neg h1]
 have e:(p++cB).length-4=p.length:=by simp only[bx,bm,cZ];omega
 rw[e]
 have h2:(p++cB).drop p.length=cB:=by simp
 have h3:(p++cB).take p.length=p:=by simp
 rw[h2,h3]
 by_cases hp:isPath p=true
 ·rw[if_pos ⟨rfl,hp⟩,if_pos hp]
 ·rw[if_neg (λz=>hp z.2),if_neg hp]
theorem B4 {r:ai} (h1:r≠[46,46,46]) (h2:fH (47::47::r)=false):underOf r=none:=by
 unfold underOf
 rw[rF,B1,if_neg h1]
 refine if_neg λz=>?_
 have hl:4<=r.length:=by
  have:=congrArg lZ z.1
  rw[d5] at this
  simp only[bm,cZ] at this
  omega
 have e:r=r.take (r.length-4)++cB:=drop_tail (e:=cB) z.1 hl
 rw[e,(Ml _).1] at h2
 cases h2
theorem vD (r:ai):readSpec (47::47::r)=match underOf r with
  |some p=>some (.under p)
  |none=>if isPackage r=true then some (.one r) else none:=by
 unfold readSpec
 rw[rE,oS,oQ]
 rw[if_neg (by simp),if_neg (by simp),if_pos (by simp)]
 rfl
theorem vE:readSpec eV=some .all:=by
 unfold readSpec
 rw[rE,if_pos rfl]
theorem Mm (r:ai):isGroupSpec (47::47::r)=false:=by
 unfold isGroupSpec
 rw[oS];simp
theorem Mn:isGroupSpec eV=false:=by decide
theorem vF {t:ai} (h:t.take 6=c_):readSpec t=if isGroupName (t.drop 6)=true then some (.group (t.drop 6)) else none:=by
 unfold readSpec
 rw[rE,oS,oQ]
 have h1:t≠[112,117,98,108,105,99]:=λe=>by rw[e] at h;simp at h
 rw[if_neg h1,if_pos h]
theorem vG {t:ai} (h1:t≠eV) (h2:t.take 6≠c_) (h3:t.take 2≠[47,47]):readSpec t=none:=by
 unfold readSpec
 rw[rE,oS,oQ,if_neg h1,if_neg h2,if_neg h3]
theorem Mo {t:ai} (h:t.take 6=c_):t.take 2≠[47,47]:=λe=>by
 have:(t.take 6).take 2=t.take 2:=by rw[List.take_take];simp
 rw[h,e] at this
 simp at this
theorem Mp {t:ai} (h:t.take 6=c_): ¬(t=eV∨t=iz):=by
 rintro(rfl|rfl) <;> simp at h
theorem rG (t:ai):isGroupSpec t=decide (t.take 6=c_):=by
 unfold isGroupSpec
 rw[oS]
 by_cases h:t.take 6=c_
 ·rw[decide_eq_true h,h];rfl
 ·rw[decide_eq_false h];exact beq_eq_false_iff_ne.mpr h
theorem B5 (t:ai):f7 t=((readSpec t).isSome && !isGroupSpec t):=by
  unfold f7
  by_cases h0:t=eV
  · subst h0
    rw[if_pos (.inl rfl),vE,Mn];rfl
  by_cases h6:t.take 6=c_
  · rw[if_neg (Mp h6),if_pos (Mo h6),rG,decide_eq_true h6]
    simp
  by_cases h2:t.take 2=[47,47]
  · obtain⟨r,rfl⟩:=rC h2
    rw[Mm,vD]
    by_cases h1:r=[46,46,46]
    · subst h1
      rw[if_pos (.inr rfl)]
      have:underOf [46,46,46]=some []:=by unfold underOf;rw[rF,if_pos rfl]
      rw[this];rfl
    · have hn: ¬((47::47::r:ai)=eV∨(47::47::r:ai)=iz):=by
        rintro(e|e)
        · exact h0 e
        · exact h1 (by simpa using e)
      rw[if_neg hn,if_neg (by simp)]
      cases hb:fH (47::47::r) with
      |true=>
        rcases B3 hb with e|⟨p,rfl,e⟩
        · exact(h1 e).elim
        · rw[if_pos rfl,e,vC]
          by_cases hp:isPath p=true
          · rw[if_pos hp];simp [hp]
          · rw[if_neg hp]
            have hpk:isPackage (p++cB)=false:=by
              unfold isPackage
              have:(p++cB).isEmpty=false:=by simp
              rw[this]
              cases q:isPath (p++cB) with
              |true=>exact(hp (B2 q)).elim
              |false=>rfl
            simp only[hpk]
            simpa using hp
      |false=>
        rw[if_neg (by simp),B4 h1 hb]
        simp only[Ia,p5]
        cases isPackage r <;> simp
  · have hn: ¬(t=eV∨t=iz):=by
      rintro(e|e)
      · exact h0 e
      · subst e;exact h2 (by simp)
    rw[if_neg hn,if_pos h2,vG h0 h6 h2];rfl
theorem Mq (t:ai):(f7 t || (decide (t.take 6=c_) && isGroupName (t.drop 6)))=(readSpec t).isSome:=by
 rw[B5,rG]
 by_cases h6:t.take 6=c_
 ·rw[decide_eq_true h6,vF h6]
  cases isGroupName (t.drop 6) <;> simp
 ·rw[decide_eq_false h6];simp
theorem vH {t:ai} (p:ai) (h:((readSpec t).isSome && !isGroupSpec t)=true):fI t p=admitsPlainly t p:=by
 unfold fI admitsPlainly
 by_cases h0:t=eV
 ·subst h0
  rw[if_pos (.inl rfl),vE]
 have h6: ¬t.take 6=c_:=λe=>by rw[rG,decide_eq_true e] at h;simp at h
 have h2:t.take 2=[47,47]:=by
  cases zW (t.take 2=[47,47]) with
  |inl h=>exact h
  |inr n=>rw[vG h0 h6 n] at h;cases h
 obtain⟨r,rfl⟩:=rC h2
 rw[vD] at h ⊢
 by_cases h1:r=[46,46,46]
 ·subst h1
  rw[if_pos (.inr rfl)]
  have:underOf [46,46,46]=some []:=by unfold underOf;rw[rF,if_pos rfl]
  rw[this];rfl
 ·have hn: ¬((47::47::r:ai)=eV∨(47::47::r:ai)=iz):=by
   rintro(e|e)
   ·exact h0 e
   ·exact h1 (by simpa using e)
  rw[if_neg hn]
  cases hb:fH (47::47::r) with
  |true=>
   rcases B3 hb with e|⟨q,rfl,e⟩
   ·exact(h1 e).elim
   ·rw[if_pos rfl,e,vC]
    by_cases hp:isPath q=true
    ·rw[if_pos hp]
    ·rw[vC,if_neg hp] at h
     have hpk:isPackage (q++cB)=false:=by
      unfold isPackage
      have:(q++cB).isEmpty=false:=by simp
      rw[this]
      cases z:isPath (q++cB) with
      |true=>exact(hp (B2 z)).elim
      |false=>rfl
     simp [hpk] at h
  |false=>
   rw[if_neg (by simp)]
   rw[B4 h1 hb] at h ⊢
   cases hk:isPackage r with
   |false=>simp [hk] at h
   |true=>
    simp only[Ia,p5,if_true]
    by_cases e:r=p
    ·rw[decide_eq_true e,e];simp
    ·rw[decide_eq_false e];exact(beq_eq_false_iff_ne.mpr λz=>e z.symm).symm
def iA (look:ai->List ai) (t p:ai):Bool:=
 if t.take 6≠c_ then fI t p else (look (t.drop 6)).any λu=>fI u p
theorem B6 {s:State} {look:ai->List ai} {t:ai} (p:ai) (h:(readSpec t).isSome=true)
  (hl: ∀n,look n=((s.groups.find? λg=>g.name == n).map λg=>g.specs).getD [])
  (hg: ∀g∈s.groups,∀u∈g.specs,((readSpec u).isSome && !isGroupSpec u)=true):iA look t p=admits s t p:=by
 unfold iA admits
 by_cases h6:t.take 6=c_
 ·rw[if_neg (λz=>z h6),vF h6]
  rw[vF h6] at h
  have hn:isGroupName (t.drop 6)=true:=by
   cases q:isGroupName (t.drop 6) with
   |true=>rfl
   |false=>rw[q] at h;cases h
  rw[if_pos hn]
  show (look (t.drop 6)).any _=((s.groups.find? λg=>g.name == t.drop 6).map λg=>g.specs.any λu=>admitsPlainly u p).getD false
  rw[hl]
  cases hf:s.groups.find? λg=>g.name == t.drop 6 with
  |none=>rfl
  |some g=>
   show g.specs.any _=g.specs.any _
   have hm:=kZ hf
   have hall:=hg g hm
   generalize g.specs=us at hall
   induction us with
   |nil=>rfl
   |cons u us ih=>
    rw[gm,gm,ih λv hv=>hall v (bq _ hv),vH p (hall u bB)]
 ·rw[if_pos h6]
  have hp:((readSpec t).isSome && !isGroupSpec t)=true:=by rw[h,rG,decide_eq_false h6];rfl
  rw[vH p hp]
  cases hr:readSpec t with
  |none=>rfl
  |some q=>
   cases q with
   |group n=>
    exfalso
    by_cases h0:t=eV
    ·subst h0;rw[vE] at hr;cases hr
    ·by_cases h2:t.take 2=[47,47]
     ·obtain⟨r,rfl⟩:=rC h2
      rw[vD] at hr
      cases hu:underOf r with
      |some x=>rw[hu] at hr;cases hr
      |none=>
       rw[hu] at hr
       simp only at hr
       split at hr <;> cases hr
     ·rw[vG h0 h6 h2] at hr;cases hr
   |all=>rfl
   |one _=>rfl
   |under _=>rfl
end Dm
set_option linter.unusedVariables false
namespace Dm
open Vabldg
theorem B7: ∀(k k':Nat) (l:List Int),l.length<=k->l.length<=k'->textsIn k l=textsIn k' l
 |0,0,_,_,_=>rfl
 |k,k',[],_,_=>by cases k <;> cases k' <;> rfl
 |0,_,_::_,h,_=>by simp at h
 |_,0,_::_,_,h=>by simp at h
 |k+1,k'+1,n::r,h,h'=>by
  unfold textsIn
  split
  ·have e:=B7 k k' (r.drop n.toNat) (by rw[d5];simp at h;omega) (by rw[d5];simp at h';omega)
   rw[e]
  ·rfl
def ja (b:Int):Bool:=decide (0<=b) && decide (b<=255)
theorem Mr (n:Int) (r:List Int):textsOf (n::r)=if 0<=n/\n<=(r.length:Int)/\(r.take n.toNat).all ja=true
  then (textsOf (r.drop n.toNat)).map λl=>(r.take n.toNat).map (λb=>b.toNat)::l else none:=by
 unfold textsOf
 rw[show (n::r).length+1=(r.length+1)+1 from rfl]
 rw[textsIn]
 have e:=B7 (r.length+1) ((r.drop n.toNat).length+1) (r.drop n.toNat) (by rw[d5];omega) (by omega)
 rw[e]
 rfl
theorem Ms {row:List Int} {p:Nat} {n:Int} {ts:List ai} (hp:row[p]?=some n) (h:textsOf row=(textsOf (row.drop p)).map λl=>ts++l) :
    (¬(0<=n/\n<=((row.length-(p+1):Nat):Int))->textsOf row=none) /\
    (0<=n->n<=((row.length-(p+1):Nat):Int) ->
      ((((row.drop (p+1)).take n.toNat).all ja=false->textsOf row=none) /\
       (((row.drop (p+1)).take n.toNat).all ja=true->textsOf row=(textsOf (row.drop (p+1+n.toNat))).map λl=>(ts++[((row.drop (p+1)).take n.toNat).map λb=>b.toNat])++l))):=by
  have hd:row.drop p=n::row.drop (p+1):=by
    obtain⟨hlt,he⟩:=List.getElem?_eq_some_iff.mp hp
    rw[←he];exact Ib hlt
  rw[hd,Mr,d5] at h
  refine⟨λhn=>?_,λh0 h1=>⟨λhb=>?_,λhb=>?_⟩⟩
  · rw[h,if_neg λz=>hn ⟨z.1,z.2.1⟩];rfl
  · rw[h,if_neg λz=>by rw[hb] at z;exact absurd z.2.2 (by simp)];rfl
  · rw[h,if_pos ⟨h0,h1,hb⟩,ub]
    cases textsOf (row.drop (p+1+n.toNat)) with
    |none=>rfl
    |some l=>simp
theorem vI (a b:List ai):lines (a++b)=lines a++lines b:=by
 unfold lines;exact TK
theorem B8 (x:ai):lines [x]=x++[10]:=by unfold lines;simp
abbrev aG (s:State):List ai:=s.targets.map λt=>t.label
theorem B9 (t:gn): ∀ts:List gn,(putTarget t ts).map (λu=>u.label)=put t.label (ts.map λu=>u.label)
 | []=>rfl
 |u::r=>by
  show (putTarget t (u::r)).map _=put t.label (u.label::r.map _)
  unfold putTarget put
  by_cases e:t.label=u.label
  ·rw[if_pos e,if_pos e,aU,e]
  ·rw[if_neg e,if_neg e]
   split
   ·rfl
   ·rw[aU,B9 t r]
theorem find_some {s:State} {l:ai} {t:gn} (h:find s l=some t):t∈s.targets/\t.label=l:=by
 unfold find at h
 exact⟨kZ h,eq_of_beq (p6 (p:=λ(u:gn)=>u.label == l) h)⟩
theorem dk {s:State} {l:ai}:(find s l).isSome=true↔l∈aG s:=by
 unfold find
 rw[TL]
 constructor
 ·rintro⟨t,ht,e⟩;exact bp.mpr ⟨t,ht,eq_of_beq e⟩
 ·intro h
  obtain⟨t,ht,e⟩:=bp.mp h
  exact⟨t,ht,by simp [e]⟩
theorem vJ {s:State} (ha:cE (aG s)) {t:gn} (ht:t∈s.targets):find s t.label=some t:=by
 unfold find
 unfold aG at ha
 generalize s.targets=ts at ha ht
 induction ts with
 |nil=>cases ht
 |cons u r ih=>
  rw[aU] at ha
  obtain⟨h1,h2⟩:=ia.mp ha
  rw[hZ]
  rcases be.mp ht with rfl|ht
  ·simp
  ·have:=h1 t.label (bp.mpr ⟨t,ht,rfl⟩)
   rw[beq_eq_false_iff_ne.mpr (vq this)]
   exact ih h2 ht
theorem Mt (l:ai) (ts:List gn):(ts.filter λt=>t.label != l).map (λt=>t.label)=(ts.map λt=>t.label).filter λx=>x != l:=by
 induction ts with
 |nil=>rfl
 |cons u r ih=>
  rw[ib,aU,ib]
  by_cases e:u.label=l
  ·simp [e,ih]
  ·have:(u.label != l)=true:=by simp [e]
   rw[this];simp [ih]
theorem lD {s:State} {l:ai} {t:gn} (h:find s l=some t):depsOf s l=t.deps:=by unfold depsOf;rw[h];rfl
theorem Mu {s:State} {l:ai} (h:find s l=none):depsOf s l=[]:=by unfold depsOf;rw[h];rfl
end Dm
set_option linter.unusedVariables false
namespace Dm
open Vabldg
abbrev hd (w:List ai):ai:=w.headD []
def fJ (s:State) (first:ai) (met:List ai) (w:List ai) (l:List (List ai)) (d:ai):List (List ai):=
 if (textBefore first d && ((find s d).isSome && !(met.contains d || (l.map hd).contains d)))=true then l++[d::w] else l
def rH (s:State) (first:ai) (met:List ai) (l:List (List ai)) (w:List ai):List (List ai):=(inOrder (depsOf s (hd w))).foldl (fJ s first met w) l
theorem Mv (l:List (List ai)) (x:ai):(l.any λv=>v.headD [] == x)=(l.map hd).contains x:=by
 induction l with
 |nil=>rfl
 |cons a r ih=>
  rw[gm,aU,p7,ih]
  congr 1
  exact Bool.beq_comm
theorem B_ {s:State} {first:ai} {met:List ai} (hf:first∈met) (w:List ai): ∀(ds:List ai) (l:List (List ai)),
  ((ds.filter λd=>!textBefore d first && (find s d).isSome).map λd=>d::w).foldl (λl w=>if met.contains (w.headD [])=true∨l.any (λv=>v.headD [] == w.headD [])=true then l else l++[w]) l =
  ds.foldl (fJ s first met w) l
 | [],l=>rfl
 |d::ds,l=>by
  have ih:=B_ (s:=s) hf w ds
  rw[nM,ib]
  by_cases hc:(!textBefore d first && (find s d).isSome)=true
  ·rw[if_pos hc,aU,nM,ih]
   congr 1
   rw[bY,cx] at hc
   show (if met.contains d=true∨l.any (λv=>v.headD [] == d)=true then l else l++[d::w])=fJ s first met w l d
   unfold fJ
   rw[Mv]
   by_cases hm:met.contains d=true∨(l.map hd).contains d=true
   ·rw[if_pos hm,if_neg]
    intro z
    simp only[bY,cx,jx] at z
    rcases hm with q|q
    ·rw[q] at z;exact absurd z.2.2.1 (by simp)
    ·rw[q] at z;exact absurd z.2.2.2 (by simp)
   ·rw[if_neg hm,if_pos]
    have hne:d≠first:=λe=>hm (.inl (by rw[e];simpa using hf))
    have h1:textBefore first d=true:=rp d first hne hc.1
    have h2:met.contains d=false:=by cases q:met.contains d with|false=>rfl|true=>exact(hm (.inl q)).elim
    have h3:(l.map hd).contains d=false:=by cases q:(l.map hd).contains d with|false=>rfl|true=>exact(hm (.inr q)).elim
    rw[h1,hc.2,h2,h3];rfl
  ·rw[if_neg hc,ih]
   congr 1
   unfold fJ
   rw[if_neg]
   intro z
   simp only[bY] at z
   apply hc
   rw[vp z.1,z.2.1];rfl
theorem Ca {s:State} {first:ai} {met:List ai} (hf:first∈met): ∀(ws:List (List ai)) (l:List (List ai)),
  (ws.flatMap λw=>((inOrder (depsOf s (w.headD []))).filter λd=>!textBefore d first && (find s d).isSome).map λd=>d::w).foldl (λl w=>if met.contains (w.headD [])=true∨l.any (λv=>v.headD [] == w.headD [])=true then l else l++[w]) l =
  ws.foldl (rH s first met) l
 | [],_=>rfl
 |w::ws,l=>by
  rw[Ic,zY,B_ hf w,nM,Ca hf ws]
  rfl
theorem Cb {s:State} {first:ai} {met:List ai} (hf:first∈met) (ws:List (List ai)):longer s first met ws=ws.foldl (rH s first met) []:=by
 unfold longer
 exact Ca hf ws []
structure ed (s:State) (met:List ai) (ws l:List (List ai)):Prop where
 nd:(l.map hd).Nodup
 out: ∀x∈l.map hd,x∉met
 oT: ∀x∈l.map hd,x∈aG s
 mem: ∀v∈l,∃d w,v=d::w/\w∈ws
theorem ed.turn {s:State} {first:ai} {met:List ai} {ws l:List (List ai)} {w:List ai} (h:ed s met ws l) (hw:w∈ws) (d:ai):ed s met ws (fJ s first met w l d):=by
 unfold fJ
 split
 ·rename_i z
  simp only[bY,cx,jx] at z
  obtain⟨z1,z2,z3,z4⟩:=z
  have n3:d∉met:=by simpa using z3
  have n4:d∉l.map hd:=λm=>by rw[Ie.mpr m] at z4;cases z4
  refine⟨?_,λx hx=>?_,λx hx=>?_,λv hv=>?_⟩
  ·rw[dh]
   refine List.nodup_append.mpr ⟨h.nd,by simp,λa ha b hb e=>?_⟩
   have:b=d:=by simpa using hb
   exact n4 (this▸e▸ha)
  ·rw[dh] at hx
   rcases bP.mp hx with q|q
   ·exact h.out x q
   ·have:x=d:=by simpa using q
    rw[this];exact n3
  ·rw[dh] at hx
   rcases bP.mp hx with q|q
   ·exact h.oT x q
   ·have:x=d:=by simpa using q
    rw[this];exact dk.mp z2
  ·rcases bP.mp hv with q|q
   ·exact h.mem v q
   ·have:v=d::w:=by simpa using q
    exact⟨d,w,this,hw⟩
 ·exact h
theorem ed.inner {s:State} {first:ai} {met:List ai} {ws:List (List ai)} {w:List ai} (hw:w∈ws): ∀(ds:List ai) {l:List (List ai)},ed s met ws l->ed s met ws (ds.foldl (fJ s first met w) l)
 | [],_,h=>h
 |d::ds,_,h=>ed.inner hw ds (h.turn hw d)
theorem ed.outer {s:State} {first:ai} {met:List ai} {ws:List (List ai)}: ∀(vs:List (List ai)) {l:List (List ai)},(∀v∈vs,v∈ws)->ed s met ws l->ed s met ws (vs.foldl (rH s first met) l)
 | [],_,_,h=>h
 |v::vs,_,hv,h=>ed.outer vs (λx hx=>hv x (bq _ hx)) (ed.inner (hv v bB) _ h)
theorem ed.nil {s:State} {met:List ai} {ws:List (List ai)}:ed s met ws []:=⟨HI,λ_ h=>(by cases h),λ_ h=>(by cases h),λ_ h=>(by cases h)⟩
theorem vK {s:State} {first:ai} {met:List ai} (hf:first∈met) (ws:List (List ai)):ed s met ws (longer s first met ws):=by
 rw[Cb hf]
 exact ed.outer ws (λ_ h=>h) .nil
structure Round (s:State) (first:ai) (n:Nat) (met:List ai) (ws:List (List ai)):Prop where
 eq:back s first n met ws=circleFrom s first
 fuel:(aG s).length+1<=n+met.length
 nd:met.Nodup
 sub: ∀x∈met,x∈aG s
 has:first∈met
theorem Round.len {s:State} {first:ai} {n:Nat} {met:List ai} {ws:List (List ai)} (r:Round s first n met ws):met.length<=(aG s).length:=fZ r.nd r.sub
theorem Cc (s:State) (first:ai) (n:Nat) (met:List ai):back s first n met []=none:=by
 cases n with
 |zero=>rfl
 |succ n=>rfl
theorem Round.found {s:State} {first:ai} {n:Nat} {met:List ai} {ws:List (List ai)} (r:Round s first n met ws) {w:List ai} (h:ws.find? (λw=>(depsOf s (w.headD [])).contains first)=some w):circleFrom s first=some w.reverse:=by
 have h1:=r.len
 have h2:=r.fuel
 obtain⟨m,rfl⟩: ∃m,n=m+1:=⟨n-1,by omega⟩
 rw[←r.eq]
 unfold back
 rw[h]
theorem Round.gone {s:State} {first:ai} {n:Nat} {met:List ai} (r:Round s first n met []):circleFrom s first=zT:=by rw[←r.eq,Cc]
theorem Round.next {s:State} {first:ai} {n:Nat} {met:List ai} {ws:List (List ai)} (r:Round s first n met ws) (h:ws.find? (λw=>(depsOf s (w.headD [])).contains first)=none) :
  ∃n',Round s first n' (met++(longer s first met ws).map hd) (longer s first met ws):=by
 have h1:=r.len
 have h2:=r.fuel
 obtain⟨m,rfl⟩: ∃m,n=m+1:=⟨n-1,by omega⟩
 have L:=vK r.has ws (s:=s)
 have nd:(met++(longer s first met ws).map hd).Nodup:=List.nodup_append.mpr ⟨r.nd,L.nd,λa ha b hb e=>L.out b hb (e▸ha)⟩
 have sub: ∀x∈met++(longer s first met ws).map hd,x∈aG s:=λx hx=>(bP.mp hx).elim (r.sub x) (L.oT x)
 have has:first∈met++(longer s first met ws).map hd:=bP.mpr (.inl r.has)
 have e:back s first (m+1) met ws=if (longer s first met ws).isEmpty=true then zT else back s first m (met++(longer s first met ws).map hd) (longer s first met ws):=by
  rw[back,h]
 cases hl:longer s first met ws with
 |nil=>
  rw[hl] at nd sub has e
  refine⟨m+1,⟨?_,?_,nd,sub,has⟩⟩
  ·rw[Cc,←r.eq,e];rfl
  ·rw[iU,fQ];omega
 |cons a b=>
  rw[hl] at nd sub has e
  refine⟨m,⟨?_,?_,nd,sub,has⟩⟩
  ·rw[←r.eq,e];rfl
  ·have q:(met++List.map hd (a::b)).length=met.length+(b.length+1):=by simp
   rw[q];omega
theorem Mw {s:State} {first:ai} (hn:(aG s).length<=64) (hf:first∈aG s):Round s first 65 [first] [[first]]:=by
 refine⟨rfl,?_,by simp,λx hx=>?_,by simp⟩
 ·have q:([first]:List ai).length=1:=rfl
  rw[q];omega
 ·have e:x=first:=by simpa using hx
  rw[e];exact hf
theorem Cd {s:State} {first:ai}: ∀(n k:Nat) (met:List ai) (ws:List (List ai)) (c:List ai),first∈met ->
  (∀w∈ws,w.length<=k/\w.getLast?=some first/\ ∀x∈w,x∈aG s)->back s first n met ws=some c->c.length<=k+n/\c.head?=some first/\ ∀x∈c,x∈aG s
 |0,_,_,_,_,_,_,h=>by cases h
 |n+1,k,met,ws,c,hf,hw,h=>by
  rw[back] at h
  split at h
  ·rename_i w hw'
   cases h
   obtain⟨a,b,d⟩:=hw w (kZ hw')
   refine⟨by rw[TM];omega,by rw[List.head?_reverse];exact b,λx hx=>d x (List.mem_reverse.mp hx)⟩
  ·simp only at h
   split at h
   ·cases h
   ·have L:=vK hf ws (s:=s)
    have hw2: ∀v∈longer s first met ws,v.length<=k+1/\v.getLast?=some first/\ ∀x∈v,x∈aG s:=by
     intro v hv
     obtain⟨e,w,rfl,hm⟩:=L.mem v hv
     obtain⟨a,b,d⟩:=hw w hm
     refine⟨by rw[bm];omega,?_,λx hx=>?_⟩
     ·cases w with
      |nil=>cases b
      |cons y r=>exact(List.getLast?_cons_cons).trans b
     ·rcases be.mp hx with e2|hx
      ·rw[e2];exact L.oT e (bp.mpr ⟨e::w,hv,rfl⟩)
      ·exact d x hx
    obtain⟨a,b,d⟩:=Cd n (k+1) _ _ c (bP.mpr (.inl hf)) hw2 h
    exact⟨by omega,b,d⟩
theorem rJ {s:State} {l:ai} {c:List ai} (hl:l∈aG s) (h:circleFrom s l=some c):c.length<=66/\c.head?=some l/\ ∀x∈c,x∈aG s:=by
  unfold circleFrom at h
  refine Cd 65 1 [l] [[l]] c (by simp) (λw hw=>?_) h
  have:w=[l]:=by simpa using hw
  subst this
  exact ⟨by simp, rfl, fun x hx => by have e:x=l:=by simpa using hx
                                      rw[e];exact hl⟩
def dc (a c:List ai):List ai:=if c.length=0 then a else if a.length=0 then c else if c.length<a.length then c else a
theorem Mx (a b c:List ai):dc (dc a b) c=dc a (dc b c):=by
 unfold dc
 repeat' split
 all_goals first|rfl|omega
theorem Ce: ∀(cs:List (List ai)),(∀c∈cs,c≠[])->(cs.Pairwise λa b=> ∀x y,a.head?=some x->b.head?=some y->textBefore x y=true) ->
  (∀a,cs.foldl dc a=dc a (leastOf cs))/\(leastOf cs=[]∨leastOf cs∈cs)
 | [],_,_=>⟨λa=>by simp [leastOf,dc],.inl rfl⟩
 |x::r,h0,hp=>by
  obtain⟨p1,p2⟩:=ia.mp hp
  obtain⟨ih,hm⟩:=Ce r (λc hc=>h0 c (bq _ hc)) p2
  have hx:x≠[]:=h0 x bB
  have e:leastOf (x::r)=dc x (leastOf r):=by
   show (if (leastOf r).isEmpty=true then x else if lessCircle (leastOf r) x=true then leastOf r else x)=_
   rcases hm with z|z
   ·rw[z];simp [dc]
   ·have hne:leastOf r≠[]:=h0 _ (bq _ z)
    obtain⟨a,r1,ea⟩:=Ig hne
    obtain⟨b,r2,eb⟩:=Ig hx
    have hlt:=p1 _ z b a (by rw[eb];rfl) (by rw[ea];rfl)
    have e1:lessCircle (leastOf r) x=decide ((leastOf r).length<x.length):=by
     unfold lessCircle
     have:listBefore (leastOf r) x=false:=by
      rw[ea,eb]
      unfold listBefore
      rw[vp hlt,beq_eq_false_iff_ne.mpr (dw (vq hlt))];rfl
     rw[this];simp
    rw[e1]
    unfold dc
    have l1:(leastOf r).length≠0:=by rw[ea];simp
    have l2:x.length≠0:=by rw[eb];simp
    have l3:(leastOf r).isEmpty=false:=by rw[ea];rfl
    rw[if_neg l1,if_neg l2,l3]
    simp
  refine⟨λa=>?_,?_⟩
  ·rw[nM,ih,e,Mx]
  ·right
   rw[e]
   unfold dc
   rcases hm with z|z
   ·rw[z];simp
   ·repeat' split
    ·exact bB
    ·exact bq _ z
    ·exact bq _ z
    ·exact bB
def fK (s:State) (l:ai):List ai:=(circleFrom s l).getD []
theorem fold_filterMap (s:State): ∀(ls:List ai) (a:List ai),(∀l∈ls,l∈aG s)->ls.foldl (λa l=>dc a (fK s l)) a=(ls.filterMap λl=>circleFrom s l).foldl dc a
 | [],_,_=>rfl
 |l::ls,a,h=>by
  have ih:=λa=>fold_filterMap s ls a λx hx=>h x (bq _ hx)
  rw[nM,ih,jW]
  unfold fK
  cases hc:circleFrom s l with
  |none=>simp [dc]
  |some c=>simp
theorem My {s:State} (ha:cE (aG s)):(aG s).foldl (λa l=>dc a (fK s l)) []=circle s:=by
 rw[fold_filterMap s (aG s) [] λ_ h=>h]
 have e:(s.targets.filterMap λt=>circleFrom s t.label)=(aG s).filterMap λl=>circleFrom s l:=by
  unfold aG;rw[Hx];rfl
 unfold circle
 rw[e]
 have q1: ∀c∈(aG s).filterMap λl=>circleFrom s l,c≠[]:=by
  intro c hc
  obtain⟨l,hl,e⟩:=nz.mp hc
  have:=(rJ hl e).2.1
  intro z;rw[z] at this;cases this
 have key: ∀ls:List ai,(∀l∈ls,l∈aG s)->cE ls->(ls.filterMap λl=>circleFrom s l).Pairwise λa b=> ∀x y,a.head?=some x->b.head?=some y->textBefore x y=true:=by
  intro ls
  induction ls with
  |nil=>intro _ _;exact HS
  |cons l ls ih=>
   intro hm ha
   obtain⟨a1,a2⟩:=ia.mp ha
   have q:=ih (λx hx=>hm x (bq _ hx)) a2
   rw[jW]
   cases hc:circleFrom s l with
   |none=>exact q
   |some c=>
    refine ia.mpr ⟨λb hb x y hx hy=>?_,q⟩
    obtain⟨l2,hl2,e2⟩:=nz.mp hb
    have f1:=(rJ (hm l bB) hc).2.1
    have f2:=(rJ (hm l2 (bq _ hl2)) e2).2.1
    rw[hx] at f1;rw[hy] at f2
    cases f1;cases f2
    exact a1 _ hl2
 obtain⟨h1,h2⟩:=Ce ((aG s).filterMap λl=>circleFrom s l) q1 (key _ (λ_ h=>h) ha)
 rw[h1]
 unfold dc
 split
 ·rename_i z;exact(List.length_eq_zero_iff.mp z).symm
 ·rfl
theorem rK {s:State} (ha:cE (aG s)):(circle s).length<=66/\ ∀x∈circle s,x∈aG s:=by
 have e:(s.targets.filterMap λt=>circleFrom s t.label)=(aG s).filterMap λl=>circleFrom s l:=by
  unfold aG;rw[Hx];rfl
 have hm: ∀cs:List (List ai),leastOf cs=[]∨leastOf cs∈cs:=by
  intro cs
  induction cs with
  |nil=>exact .inl rfl
  |cons x r ih=>
   show (if (leastOf r).isEmpty=true then x else if lessCircle (leastOf r) x=true then leastOf r else x)=[]∨(if (leastOf r).isEmpty=true then x else if lessCircle (leastOf r) x=true then leastOf r else x)∈x::r
   right
   split
   ·exact bB
   ·rename_i hn
    split
    ·rcases ih with z|z
     ·rw[z] at hn;exact absurd rfl hn
     ·exact bq _ z
    ·exact bB
 unfold circle
 rw[e]
 rcases hm ((aG s).filterMap λl=>circleFrom s l) with z|z
 ·rw[z];exact⟨by simp,λ_ h=>nomatch h⟩
 ·obtain⟨l,hl,e⟩:=nz.mp z
  obtain⟨a,_,b⟩:=rJ hl e
  exact⟨a,b⟩
end Dm
set_option linter.unusedVariables false
namespace Dm
open Vabldg
theorem wt {s:State} {x:ai}: ∀(n:Nat) (l:List ai),x∈l->x∈grown s n l
 |0,_,h=>h
 |n+1,l,h=>by
  unfold grown
  exact wt n _ (dJ.mpr (bP.mpr (.inl h)))
theorem sq {s:State} {C:ai->Prop} (hc: ∀x,C x-> ∀d∈depsOf s x,C d): ∀(n:Nat) (l:List ai),(∀x∈l,C x)-> ∀x∈grown s n l,C x
 |0,_,h,x,hx=>h x hx
 |n+1,l,h,x,hx=>by
  unfold grown at hx
  refine sq hc n _ (λy hy=>?_) x hx
  rcases bP.mp (dJ.mp hy) with q|q
  ·exact h y q
  ·obtain⟨z,hz,hd⟩:=Ae.mp q
   exact hc z (h z hz) y hd
def ring (s:State) (l:List ai):List ai:=inOrder (l++l.flatMap (depsOf s))
theorem DD (s:State) (n:Nat) (l:List ai):grown s (n+1) l=grown s n (ring s l):=rfl
theorem sr {s:State} {l:List ai} {x:ai}:x∈ring s l↔x∈l∨ ∃y∈l,x∈depsOf s y:=by
 unfold ring
 rw[dJ,bP,Ae]
theorem DE (s:State) (n:Nat) {l:List ai} (h:cE l):cE (grown s n l):=by
 induction n generalizing l with
 |zero=>exact h
 |succ n ih=>exact ih (iw _)
def jh (s:State) (l:List ai):Nat:=((aG s).filter λx=>l.contains x).length
theorem Of (s:State) (l:List ai):jh s l<=(aG s).length:=iX _ _
theorem DG {α:Type} (p q:α->Bool): ∀(l:List α),(∀x∈l,p x=true->q x=true)->(l.filter p).length<=(l.filter q).length/\((l.filter p).length=(l.filter q).length-> ∀x∈l,q x=true->p x=true)
 | [],_=>⟨aW _,λ_ _ h=>(by cases h)⟩
 |a::l,h=>by
  obtain⟨h1,h2⟩:=DG p q l λx hx=>h x (bq _ hx)
  have ha:=h a bB
  rw[ib,ib]
  cases hp:p a with
  |true=>
   rw[ha hp]
   simp only[if_true,bm]
   refine⟨by omega,λe x hx hq=>?_⟩
   rcases be.mp hx with rfl|hx
   ·exact hp
   ·exact h2 (by omega) x hx hq
  |false=>
   cases hq:q a with
   |true=>
    simp only[dy,if_false,if_true,bm]
    exact⟨by omega,λe=>by omega⟩
   |false=>
    simp only[dy,if_false]
    refine⟨h1,λe x hx hq'=>?_⟩
    rcases be.mp hx with rfl|hx
    ·rw[hq] at hq';cases hq'
    ·exact h2 e x hx hq'
theorem DH (s:State) (l:List ai):jh s l<=jh s (ring s l)/\(jh s l=jh s (ring s l)-> ∀x∈aG s,x∈ring s l->x∈l):=by
 have q:=DG (λx=>l.contains x) (λx=>(ring s l).contains x) (aG s) λx _ h=>by
  simp only[Ie] at h ⊢
  exact sr.mpr (.inl h)
 refine⟨q.1,λe x hx h=>?_⟩
 have:=q.2 e x hx (by simpa using h)
 simpa using this
theorem wu {s:State} {x d:ai} (h:d∈depsOf s x):x∈aG s:=by
 refine dk.mp ?_
 cases q:find s x with
 |none=>rw[Mu q] at h;cases h
 |some t=>rfl
theorem Og {s:State} {l:List ai} (e:jh s l=jh s (ring s l)) {x d:ai} (hx:x∈ring s l) (hd:d∈depsOf s x):d∈ring s l:=
 sr.mpr (.inr ⟨x,(DH s l).2 e x (wu hd) hx,hd⟩)
theorem Oh {s:State} {l:List ai} (h: ∀x d,x∈l->d∈depsOf s x->d∈l): ∀x,x∈ring s l↔x∈l:=λx=>by
 rw[sr]
 constructor
 ·rintro(q|⟨y,hy,hd⟩)
  ·exact q
  ·exact h y x hy hd
 ·exact λq=> .inl q
theorem DI {s:State}: ∀(n:Nat) {l:List ai},(∀x d,x∈l->d∈depsOf s x->d∈l)->(∀x d,x∈grown s n l->d∈depsOf s x->d∈grown s n l)
 |0,_,h=>h
 |n+1,l,h=>by
  rw[DD]
  refine DI n λx d hx hd=>?_
  exact sr.mpr (.inr ⟨x,(Oh h x).mp hx,hd⟩)
theorem DJ {s:State}: ∀(n:Nat) (l:List ai),(aG s).length+1<=n+jh s l->(∀x d,x∈grown s n l->d∈depsOf s x->d∈grown s n l)
 |0,l,h=>by have:=Of s l;omega
 |n+1,l,h=>by
  rw[DD]
  by_cases e:jh s l=jh s (ring s l)
  ·exact DI n λx d hx hd=>Og e hx hd
  ·have:=(DH s l).1
   exact DJ n _ (by omega)
theorem DK {s:State} (hn:(aG s).length<=64) (l:List ai) {x d:ai} (hx:x∈grown s 65 l) (hd:d∈depsOf s x):d∈grown s 65 l:=
 DJ 65 l (by omega) x d hx hd
end Dm
set_option linter.unusedVariables false
namespace Dm
open Vabldg
inductive dX (s:State) (ls:List ai):ai->Prop
 |base {l d:ai}:l∈ls->d∈depsOf s l->d∈aG s->dX s ls d
 |step {x d:ai}:dX s ls x->d∈depsOf s x->d∈aG s->dX s ls d
theorem dX.dP {s:State} {ls:List ai} {x:ai} (h:dX s ls x):x∈aG s:=by cases h <;> assumption
theorem dX.least {s:State} {ls:List ai} {C:ai->Prop} (h1: ∀l∈ls,∀d∈depsOf s l,d∈aG s->C d) (h2: ∀x,C x-> ∀d∈depsOf s x,d∈aG s->C d) {x:ai} (h:dX s ls x):C x:=by
 induction h with
 |base a b c=>exact h1 _ a _ b c
 |step _ b c ih=>exact h2 _ ih _ b c
theorem xW {s:State} {a d:ai} (h:d∈depsOf s a):d∈below s a:=wt 65 _ (dJ.mpr h)
theorem xX {s:State} (hn:(aG s).length<=64) {a x d:ai} (h:x∈below s a) (hd:d∈depsOf s x):d∈below s a:=DK hn _ h hd
theorem xY {s:State} {C:ai->Prop} {a:ai} (h1: ∀d∈depsOf s a,C d) (h2: ∀x,C x-> ∀d∈depsOf s x,C d): ∀x∈below s a,C x:=
 sq h2 65 _ λx hx=>h1 x (dJ.mp hx)
theorem Pc {s:State} (hn:(aG s).length<=64) {a b:ai} (hb:b∈aG s):dX s [a] b↔b∈below s a:=by
 constructor
 ·intro h
  refine h.least (C:=λx=>x∈below s a) (λl hl d hd _=>?_) λx hx d hd _=>xX hn hx hd
  have:l=a:=by simpa using hl
  subst this
  exact xW hd
 ·intro h
  exact xY (C:=λx=>x∈aG s->dX s [a] x) (λd hd hl=> .base (ul.mpr rfl) hd hl) (λx hx d hd hl=> .step (hx (wu hd)) hd hl) b h hb
def gc (s:State) (g:List ai):List ai:=(closure s g).filter λl=>(find s l).isSome
theorem mZ (s:State) (g:List ai):cE (closure s g):=DE s 65 (iw g)
theorem xZ {l:List ai} (p:ai->Bool) (h:cE l):cE (l.filter p):=Wn p h
theorem Eg (s:State) (g:List ai):cE (gc s g):=xZ _ (mZ s g)
theorem x0 {s:State} {g:List ai} {x:ai} (h:x∈g):x∈closure s g:=wt 65 _ (dJ.mpr h)
theorem m9 {s:State} (hn:(aG s).length<=64) {g:List ai} {x d:ai} (h:x∈closure s g) (hd:d∈depsOf s x):d∈closure s g:=DK hn _ h hd
theorem Pd {s:State} (hn:(aG s).length<=64) {g:List ai} (hg: ∀x∈g,x∈aG s) {x:ai}:x∈gc s g↔x∈g∨dX s g x:=by
 unfold gc
 rw[cU]
 constructor
 ·rintro⟨h,hf⟩
  exact sq (s:=s) (C:=λx=>x∈aG s->x∈g∨dX s g x) (λy hy d hd hl=> .inr ((hy (wu hd)).elim (λq=> .base q hd hl) λq=> .step q hd hl)) 65 _ (λy hy hl=> .inl (dJ.mp hy)) x h (dk.mp hf)
 ·rintro(h|h)
  ·exact⟨x0 h,dk.mpr (hg x h)⟩
  ·refine⟨h.least (C:=λx=>x∈closure s g) (λl hl d hd _=>m9 hn (x0 hl) hd) λy hy d hd _=>m9 hn hy hd,dk.mpr h.dP⟩
theorem Pe {s:State} (hn:(aG s).length<=64) {g:List ai} (hg: ∀x∈g,x∈aG s):(gc s g).all (λl=>(depsOf s l).all λd=>(find s d).isSome)=(closure s g).all λl=>(find s l).isSome:=by
 rw[jX,dG,dG]
 constructor
 ·intro h x hx
  have:=sq (s:=s) (C:=λx=>x∈closure s g/\(find s x).isSome=true) (λy hy d hd=>⟨m9 hn hy.1 hd,dG.mp (h y (cU.mpr hy)) d hd⟩) 65 (inOrder g) (λy hy=>⟨x0 (dJ.mp hy),dk.mpr (hg y (dJ.mp hy))⟩) x hx
  exact this.2
 ·intro h l hl
  rw[dG]
  intro d hd
  exact h d (m9 hn (cU.mp hl).1 hd)
theorem Eh {s:State} {g:List ai} (h:(closure s g).all (λl=>(find s l).isSome)=true):gc s g=closure s g:=List.filter_eq_self.mpr (dG.mp h)
theorem Pf {s:State} (hn:(aG s).length<=64) {a d:ai} (h:d∈depsOf s a): ∀y∈below s d,y∈below s a:=
 xY (C:=λy=>y∈below s a) (λy hy=>xX hn (xW h) hy) λx hx d hd=>xX hn hx hd
theorem Pg (s:State) (a:ai):cE (below s a):=DE s 65 (iw _)
theorem Ph {s:State} (hn:(aG s).length<=64) {a d:ai} (h:d∈depsOf s a) (hd:d∉below s d):(below s d).length<(below s a).length:=by
 have nd:(d::below s d).Nodup:=fc.mpr ⟨hd,(Pg s d).nodup⟩
 have:=fZ nd (m:=below s a) λx hx=>by
  rcases be.mp hx with e|hx
  ·rw[e];exact xW h
  ·exact Pf hn h x hx
 exact this
theorem Ei {α:Type} (f:α->Nat): ∀(l:List α),l≠[]-> ∃x∈l,∀y∈l,f x<=f y
 | [],h=>(h rfl).elim
 | [a],_=>by
  refine⟨a,bB,λy hy=>?_⟩
  have:y=a:=by simpa using hy
  rw[this]
  exact aW _
 |a::b::r,_=>by
  obtain⟨x,hx,h⟩:=Ei f (b::r) (by simp)
  by_cases e:f a<=f x
  ·exact⟨a,bB,λy hy=>(be.mp hy).elim (λz=>by rw[z];exact aW _) λz=>bM e (h y z)⟩
  ·exact⟨x,bq _ hx,λy hy=>(be.mp hy).elim (λz=>by rw[z];omega) λz=>h y z⟩
structure eX (s:State) (cl left done:List ai):Prop where
 all: ∀x,x∈cl↔x∈left∨x∈done
 nd:(left++done).Nodup
 Ej: ∀x∈done,∀d∈depsOf s x,d∈done
theorem eX.len {s:State} {cl left done:List ai} (h:eX s cl left done) (nc:cl.Nodup):left.length+done.length=cl.length:=by
 have a:=fZ nc (m:=left++done) λx hx=>bP.mpr ((h.all x).mp hx)
 have b:=fZ h.nd (m:=cl) λx hx=>(h.all x).mpr (bP.mp hx)
 rw[bx] at a b
 omega
def ready (s:State) (done:List ai) (l:ai):Bool:=(depsOf s l).all λd=>done.contains d
theorem eX.next {s:State} {cl left done:List ai} (h:eX s cl left done) {l:ai} (hl:l∈left) (hr:ready s done l=true):eX s cl (left.filter λx=>x != l) (done++[l]):=by
 have nd:=List.nodup_append.mp h.nd
 refine⟨λx=>?_,?_,λx hx d hd=>?_⟩
 ·rw[h.all,cU,bP,ul]
  constructor
  ·rintro(q|q)
   ·by_cases e:x=l
    ·exact .inr (.inr e)
    ·exact .inl ⟨q,by simpa using e⟩
   ·exact .inr (.inl q)
  ·rintro(q|q|q)
   ·exact .inl q.1
   ·exact .inr q
   ·exact .inl (q▸hl)
 ·refine List.nodup_append.mpr ⟨nd.1.filter _,List.nodup_append.mpr ⟨nd.2.1,by simp,λa ha b hb e=>?_⟩,λa ha b hb e=>?_⟩
  ·have:b=l:=by simpa using hb
   exact nd.2.2 l hl a ha (by rw[e,this])
  ·obtain⟨a1,a2⟩:=cU.mp ha
   rcases bP.mp hb with q|q
   ·exact nd.2.2 a a1 b q e
   ·have:b=l:=by simpa using q
    rw[e,this] at a2
    simp at a2
 ·rcases bP.mp hx with q|q
  ·exact bP.mpr (.inl (h.Ej x q d hd))
  ·have:x=l:=by simpa using q
   subst this
   have:=dG.mp hr d hd
   exact bP.mpr (.inl (by simpa using this))
theorem eX.start (s:State) {cl:List ai} (h:cl.Nodup):eX s cl cl []:=⟨λx=>by simp,by simpa using h,λx hx=>nomatch hx⟩
theorem eX.there {s:State} (hn:(aG s).length<=64) {cl left done:List ai} (h:eX s cl left done) (hc: ∀x∈cl,∀d∈depsOf s x,d∈cl) (no: ∀x∈cl,x∉below s x) (hl:left≠[]): ∃l,left.find? (ready s done)=some l:=by
 obtain⟨x,hx,hm⟩:=Ei (λx=>(below s x).length) left hl
 have hr:ready s done x=true:=by
  unfold ready
  rw[dG]
  intro d hd
  have hdc:=hc x ((h.all x).mpr (.inl hx)) d hd
  rcases(h.all d).mp hdc with q|q
  ·have:=Ph hn hd (no d hdc)
   have:=hm d q
   omega
  ·simpa using q
 cases e:left.find? (ready s done) with
 |some l=>exact⟨l,rfl⟩
 |none=>
  have:=ug.mp e x hx
  exact(this hr).elim
theorem x8 {s:State} {n:Nat} {left done:List ai} {l:ai} (h:left.find? (ready s done)=some l):told s (n+1) left done=told s n (left.filter λx=>x != l) (done++[l]):=by
 rw[told]
 have:left.find? (λl=>(depsOf s l).all λd=>done.contains d)=some l:=h
 rw[this]
theorem x9 {s:State} {n:Nat} {left done:List ai} (h:left.find? (ready s done)=none):told s n left done=done:=by
 cases n with
 |zero=>rfl
 |succ n=>
  rw[told]
  have:left.find? (λl=>(depsOf s l).all λd=>done.contains d)=none:=h
  rw[this]
theorem Ek {left:List ai} {l:ai} (h:l∈left):(left.filter λx=>x != l).length<left.length:=by
 rcases IF (left.filter λx=>x != l).length left.length with q|q
 ·exact q
 ·have e:(left.filter λx=>x != l)=left:=List.filter_sublist.eq_of_length_le q
  have:=List.filter_eq_self.mp e l h
  simp at this
theorem El {s:State} (hn:(aG s).length<=64) {cl:List ai} (nc:cl.Nodup) (hc: ∀x∈cl,∀d∈depsOf s x,d∈cl) (no: ∀x∈cl,x∉below s x): ∀(n:Nat) (left done:List ai),eX s cl left done->left.length<=n->(told s n left done).length=cl.length
 |0,left,done,h,hl=>by
  have:=h.len nc
  show done.length=_
  omega
 |n+1,left,done,h,hl=>by
  by_cases e:left=[]
  ·subst e
   rw[x9 (by rfl)]
   have:=h.len nc
   simpa using this
  ·obtain⟨l,hf⟩:=h.there hn hc no e
   rw[x8 hf]
   have hm:=kZ hf
   have:=Ek hm
   exact El hn nc hc no n _ _ (h.next hm (p6 hf)) (by omega)
theorem sO {s:State} {cl:List ai}: ∀(n:Nat) (left done:List ai),eX s cl left done->(∀x∈done,x∉below s x)->(∀x∈told s n left done,x∉below s x)/\(∀x∈told s n left done,x∈cl)/\(told s n left done).Nodup
 |0,left,done,h,no=>⟨no,λx hx=>(h.all x).mpr (.inr hx),(List.nodup_append.mp h.nd).2.1⟩
 |n+1,left,done,h,no=>by
  cases hf:left.find? (ready s done) with
  |none=>
   rw[x9 hf]
   exact⟨no,λx hx=>(h.all x).mpr (.inr hx),(List.nodup_append.mp h.nd).2.1⟩
  |some l=>
   rw[x8 hf]
   have hm:=kZ hf
   have hr:=p6 hf
   refine sO n _ _ (h.next hm hr) λx hx=>?_
   rcases bP.mp hx with q|q
   ·exact no x q
   ·have:x=l:=by simpa using q
    subst this
    intro z
    have:x∈done:=xY (C:=λy=>y∈done) (λd hd=>by have:=dG.mp hr d hd;simpa using this) h.Ej x z
    exact(List.nodup_append.mp h.nd).2.2 x hm x this rfl
theorem sP {s:State} {g:List ai} (hn:(aG s).length<=64) (h:(closure s g).all (λl=>(find s l).isSome)=true):(closure s g).length<=64:=
 bM (fZ (mZ s g).nodup λx hx=>dk.mp (dG.mp h x hx)) hn
theorem Em {s:State} (hn:(aG s).length<=64) {g:List ai} (h:(closure s g).all (λl=>(find s l).isSome)=true):((closure s g).any λl=>(below s l).contains l)=decide ((order s g).length≠(closure s g).length):=by
 have hc: ∀x∈closure s g,∀d∈depsOf s x,d∈closure s g:=λx hx d hd=>m9 hn hx hd
 have nc:=(mZ s g).nodup
 have hf:=sP hn h
 by_cases no: ∀x∈closure s g,x∉below s x
 ·have e:(order s g).length=(closure s g).length:=El hn nc hc no 65 _ _ (eX.start s nc) (by omega)
  rw[decide_eq_false (λq=>q e)]
  rw[Hh]
  intro x hx
  simpa using no x hx
 ·have e:(order s g).length≠(closure s g).length:=by
   intro e
   apply no
   obtain⟨h1,h2,h3⟩:=sO 65 (closure s g) [] (eX.start s nc) λx hx=>nomatch hx
   intro x hx
   refine h1 x ?_
   false_or_by_contra
   rename_i hx'
   have:(x::order s g).length<=(closure s g).length:=fZ (fc.mpr ⟨hx',h3⟩) λy hy=>(be.mp hy).elim (λz=>z▸hx) (h2 y)
   rw[bm] at this
   omega
  rw[decide_eq_true e,zU]
  false_or_by_contra
  rename_i hno
  apply no
  intro x hx hb
  exact hno ⟨x,hx,by simpa using hb⟩
theorem Pj (p:ai->Bool) (l:List ai):(inOrder l).filter p=inOrder (l.filter p):=by
 refine rq (xZ p (iw l)) (iw _) λx=>?_
 rw[cU,dJ,dJ,cU]
end Dm
set_option linter.unusedVariables false
namespace Dm
open Vabldg
structure RO (s:State) (ls W ks:List ai):Prop where
 nd:ks.Nodup
 kM: ∀x∈ks,dX s ls x
 m_: ∀x∈W,x∈aG s/\(x∈ls∨x∈ks)
 nh: ∀x,x∈ls∨x∈ks->x∈W∨ ∀d∈depsOf s x,d∈aG s->d∈ks
structure RI (s:State) (ls W ks:List ai) (l:ai) (ds:List ai):Prop where
 nd:ks.Nodup
 kM: ∀x∈ks,dX s ls x
 m_: ∀x∈W,x∈aG s/\(x∈ls∨x∈ks)
 src:l∈ls∨l∈ks
 seen: ∀d∈ds,d∈aG s->d∈ks
 nh: ∀x,x∈ls∨x∈ks->x≠l->x∈W∨ ∀d∈depsOf s x,d∈aG s->d∈ks
theorem RO.start {s:State} {ls:List ai} (h: ∀x∈ls,x∈aG s):RO s ls ls []:=⟨HI,λx hx=>(nomatch hx),λx hx=>⟨h x hx,.inl hx⟩,λx hx=>hx.elim .inl λq=>nomatch q⟩
theorem RI.ci {s:State} {ls W ks:List ai} {l:ai} {ds:List ai} (h:RI s ls W ks l ds):ks.length<=(aG s).length:=fZ h.nd λx hx=>(h.kM x hx).dP
theorem RO.pop {s:State} {ls W ks:List ai} {l:ai} (h:RO s ls (W++[l]) ks):l∈aG s/\RI s ls W ks l []:=by
 obtain⟨h1,h2⟩:=h.m_ l (by simp)
 refine⟨h1,h.nd,h.kM,λx hx=>h.m_ x (bP.mpr (.inl hx)),h2,λd hd=>(nomatch hd),λx hx hne=>?_⟩
 rcases h.nh x hx with q|q
 ·rcases bP.mp q with z|z
  ·exact .inl z
  ·exact(hne (by simpa using z)).elim
 ·exact .inr q
theorem RI.skip {s:State} {ls W ks:List ai} {l:ai} {ds:List ai} (h:RI s ls W ks l ds) {d:ai} (hd:d∈aG s->d∈ks):RI s ls W ks l (ds++[d]):=
 ⟨h.nd,h.kM,h.m_,h.src,λx hx hl=>(bP.mp hx).elim (λq=>h.seen x q hl) λq=>by
  have:x=d:=by simpa using q
  subst this
  exact hd hl,h.nh⟩
theorem RI.add {s:State} {ls W ks:List ai} {l:ai} {ds:List ai} (h:RI s ls W ks l ds) {d:ai} (hl:d∈aG s) (hn:d∉ks) (hd:d∈depsOf s l):RI s ls (W++[d]) (ks++[d]) l (ds++[d]):=by
 have more: ∀x,x∈ks->x∈ks++[d]:=λx hx=>bP.mpr (.inl hx)
 have hr:dX s ls d:=h.src.elim (λq=> .base q hd hl) λq=> .step (h.kM l q) hd hl
 refine⟨List.nodup_append.mpr ⟨h.nd,by simp,λa ha b hb e=>hn ?_⟩,λx hx=>?_,λx hx=>?_,h.src.imp id (more l),λx hx hl'=>?_,λx hx hne=>?_⟩
 ·have:b=d:=by simpa using hb
  rw[←this,←e];exact ha
 ·rcases bP.mp hx with q|q
  ·exact h.kM x q
  ·have:x=d:=by simpa using q
   rw[this];exact hr
 ·rcases bP.mp hx with q|q
  ·obtain⟨a,b⟩:=h.m_ x q
   exact⟨a,b.imp id (more x)⟩
  ·have:x=d:=by simpa using q
   rw[this];exact⟨hl,.inr (by simp)⟩
 ·rcases bP.mp hx with q|q
  ·exact more x (h.seen x q hl')
  ·exact bP.mpr (.inr q)
 ·have key:x∈ls∨x∈ks->x∈W++[d]∨ ∀e∈depsOf s x,e∈aG s->e∈ks++[d]:=λhx=>(h.nh x hx hne).imp (λq=>bP.mpr (.inl q)) λq e he hl'=>more e (q e he hl')
  rcases hx with q|q
  ·exact key (.inl q)
  ·rcases bP.mp q with z|z
   ·exact key (.inr z)
   ·exact .inl (bP.mpr (.inr z))
theorem RI.close {s:State} {ls W ks:List ai} {l:ai} (h:RI s ls W ks l (depsOf s l)):RO s ls W ks:=
 ⟨h.nd,h.kM,h.m_,λx hx=>by
  by_cases e:x=l
  ·subst e;exact .inr h.seen
  ·exact h.nh x hx e⟩
theorem RO.done {s:State} {ls ks:List ai} (h:RO s ls [] ks) (x:ai):x∈ks↔dX s ls x:=by
 refine⟨h.kM x,λhr=>?_⟩
 have get: ∀x,x∈ls∨x∈ks-> ∀d∈depsOf s x,d∈aG s->d∈ks:=λx hx=>(h.nh x hx).elim (λq=>nomatch q) id
 exact hr.least (C:=λx=>x∈ks) (λl hl d hd hd2=>get l (.inl hl) d hd hd2) λx hx d hd hd2=>get x (.inr hx) d hd hd2
theorem Pk {s:State} (hn:(aG s).length<=64) {g ks:List ai} (hg: ∀x∈g,x∈aG s) (h: ∀x,x∈ks↔x∈g∨dX s g x):inOrder ks=gc s g:=
 mE (Eg s g) λx=>by rw[Pd hn hg,h]
theorem Pl {s:State} {l:ai} {ps:List ai} (h: ∀x,x∈ps↔x∈((s.targets.filter λt=>t.deps.contains l).map λt=>packageOf t.label)):(inOrder ps).filter (λp=>p != packageOf l)=wanted s l:=by
 rw[Pj]
 unfold wanted
 refine BX λx=>?_
 rw[cU,cU,h]
end Dm
set_option linter.unusedVariables false
namespace Dm
open Vabldg
theorem EI {t u:gn}: ∀{ts:List gn},u∈putTarget t ts->u=t∨u∈ts
 | [],h=>by
  have:u=t:=by simpa [putTarget] using h
  exact .inl this
 |v::r,h=>by
  unfold putTarget at h
  split at h
  ·rcases be.mp h with q|q
   ·exact .inl q
   ·exact .inr (bq _ q)
  ·split at h
   ·rcases be.mp h with q|q
    ·exact .inl q
    ·exact .inr q
   ·rcases be.mp h with q|q
    ·exact .inr (by rw[q];exact bB)
    ·rcases EI q with z|z
     ·exact .inl z
     ·exact .inr (bq _ z)
theorem yn {t:gn}: ∀{ts:List gn},t.label∉ts.map (λu=>u.label)->(putTarget t ts).Perm (t::ts)
 | [],_=>qo _
 |v::r,h=>by
  rw[aU,be,not_or] at h
  unfold putTarget
  rw[if_neg h.1]
  split
  ·exact qo _
  ·exact((yn h.2).cons v).trans (IG t v r)
theorem yo {t:gn}: ∀{ts:List gn},cE (ts.map λu=>u.label)->t.label∈ts.map (λu=>u.label)->putTarget t ts=ts.map λu=>if u.label=t.label then t else u
 | [],_,h=>by cases h
 |v::r,ha,h=>by
  rw[aU] at ha h
  obtain⟨a1,a2⟩:=ia.mp ha
  unfold putTarget
  rw[aU]
  by_cases e:t.label=v.label
  ·rw[if_pos e,if_pos e.symm]
   congr 1
   have: ∀u∈r,(if u.label=t.label then t else u)=u:=λu hu=>by
    rw[if_neg]
    intro z
    have:=a1 u.label (bp.mpr ⟨u,hu,rfl⟩)
    rw[z,e,lB] at this
    cases this
   exact((um this).trans (Af r)).symm
  ·have hm:t.label∈r.map λu=>u.label:=(be.mp h).resolve_left e
   have hb:=a1 _ hm
   rw[if_neg e,if_neg (by rw[vp hb];decide),if_neg (dw e),yo a2 hm]
theorem Ql {t:gn} {ts:List gn} (ha:cE (ts.map λu=>u.label)):(putTarget t ts).length=if t.label∈ts.map (λu=>u.label) then ts.length else ts.length+1:=by
 split
 ·rename_i h;rw[yo ha h,aC]
 ·rename_i h;rw[(yn h).length_eq,bm]
theorem EJ: ∀(k:Nat) (r:List Int) (ts:List ai),textsIn k r=some ts->ts.length<=r.length/\ ∀t∈ts,t.length<=r.length
 |k,[],ts,h=>by
  have:ts=[]:=by
   cases k <;> (unfold textsIn at h;cases h;rfl)
  subst this
  exact⟨aW _,λt ht=>nomatch ht⟩
 |0,_::_,ts,h=>by unfold textsIn at h;cases h
 |k+1,n::r,ts,h=>by
  unfold textsIn at h
  split at h
  ·rename_i hc
   cases q:textsIn k (r.drop n.toNat) with
   |none=>rw[q] at h;cases h
   |some l=>
    rw[q] at h
    have e:ts=((r.take n.toNat).map λb=>b.toNat)::l:=(cJ h).symm
    subst e
    obtain⟨h1,h2⟩:=EJ k _ l q
    rw[d5] at h1 h2
    refine⟨by rw[bm,bm];omega,λt ht=>?_⟩
    rw[bm]
    rcases be.mp ht with e|ht
    ·rw[e,aC,dL];omega
    ·have:=h2 t ht;omega
  ·cases h
theorem kO {r:List Int} {ts:List ai} (h:textsOf r=some ts):ts.length<=r.length/\ ∀t∈ts,t.length<=r.length:=EJ _ _ _ h
end Dm
set_option linter.unusedVariables false
namespace Dm
open Vabldg PyFlat
def used (xs:List (List Int)):Nat:=(xs.map λx=>1+x.length).sum
theorem Fl {r x s:List Int} (h:row r=some (x,s)): ∃n r',r=n::r'/\0<=n/\n.toNat<=r'.length/\x=r'.take n.toNat/\s=r'.drop n.toNat:=by
 cases r with
 |nil=>cases h
 |cons n r'=>
  by_cases hc:0<=n/\n.toNat<=r'.length
  ·have e:row (n::r')=some (r'.take n.toNat,r'.drop n.toNat):=if_pos hc
   rw[e] at h
   cases h
   exact⟨n,r',rfl,hc.1,hc.2,rfl,rfl⟩
  ·have e:row (n::r')=none:=if_neg hc
   rw[e] at h
   cases h
theorem Fm {k:Nat} {r:List Int} {xs:List (List Int)} {t:List Int} (h:rows (k+1) r=some (xs,t)): ∃x s ys,row r=some (x,s)/\rows k s=some (ys,t)/\xs=x::ys:=by
 unfold rows at h
 cases h1:row r with
 |none=>rw[h1] at h;cases h
 |some p=>
  obtain⟨x,s⟩:=p
  rw[h1] at h
  dsimp only at h
  cases h2:rows k s with
  |none=>rw[h2] at h;cases h
  |some q=>
   obtain⟨ys,t'⟩:=q
   rw[h2] at h
   cases h
   exact⟨x,s,ys,rfl,h2,rfl⟩
theorem yC: ∀(k:Nat) {r:List Int} {xs:List (List Int)} {t:List Int},rows k r=some (xs,t)->xs.length=k/\used xs<=r.length/\t=r.drop (used xs)
 |0,r,xs,t,h=>by
  unfold rows at h
  cases h
  exact⟨rfl,bv _,rfl⟩
 |k+1,r,xs,t,h=>by
  obtain⟨x,s,ys,h1,h2,rfl⟩:=Fm h
  obtain⟨n,r',rfl,hn,hl,rfl,rfl⟩:=Fl h1
  obtain⟨i1,i2,i3⟩:=yC k h2
  have e:used (r'.take n.toNat::ys)=(n.toNat+used ys)+1:=by
   unfold used
   rw[aU,II,dL]
   omega
  rw[d5] at i2
  refine⟨by rw[bm,i1],by rw[e,bm];omega,?_⟩
  rw[i3,e,Ia,ub]
theorem QS (xs:List (List Int)):(xs.map λx=>(1:Int)+(x.length:Int)).sum=(used xs:Int):=by
 unfold used
 induction xs with
 |nil=>rfl
 |cons x xs ih=>rw[aU,II,aU,II,ih];omega
def cnt (n:Nat):Nat:=[3,1,2,1,0,0,0,1,2,2,1,1,1,1].getD n 0
theorem QT {p:Int} {a b:Nat} (h:ke p=some (a,b)): ∃n:Nat,n<14/\p=n/\a=0/\b=cnt n:=by
 unfold ke at h
 by_cases e0:p=0
 ·rw[if_pos e0] at h;cases h;exact⟨0,by decide,e0,rfl,rfl⟩
 rw[if_neg e0] at h
 by_cases e1:p=1
 ·rw[if_pos e1] at h;cases h;exact⟨1,by decide,e1,rfl,rfl⟩
 rw[if_neg e1] at h
 by_cases e2:p=2
 ·rw[if_pos e2] at h;cases h;exact⟨2,by decide,e2,rfl,rfl⟩
 rw[if_neg e2] at h
 by_cases e3:p=3
 ·rw[if_pos e3] at h;cases h;exact⟨3,by decide,e3,rfl,rfl⟩
 rw[if_neg e3] at h
 by_cases e4:p=4
 ·rw[if_pos e4] at h;cases h;exact⟨4,by decide,e4,rfl,rfl⟩
 rw[if_neg e4] at h
 by_cases e5:p=5
 ·rw[if_pos e5] at h;cases h;exact⟨5,by decide,e5,rfl,rfl⟩
 rw[if_neg e5] at h
 by_cases e6:p=6
 ·rw[if_pos e6] at h;cases h;exact⟨6,by decide,e6,rfl,rfl⟩
 rw[if_neg e6] at h
 by_cases e7:p=7
 ·rw[if_pos e7] at h;cases h;exact⟨7,by decide,e7,rfl,rfl⟩
 rw[if_neg e7] at h
 by_cases e8:p=8
 ·rw[if_pos e8] at h;cases h;exact⟨8,by decide,e8,rfl,rfl⟩
 rw[if_neg e8] at h
 by_cases e9:p=9
 ·rw[if_pos e9] at h;cases h;exact⟨9,by decide,e9,rfl,rfl⟩
 rw[if_neg e9] at h
 by_cases e10:p=10
 ·rw[if_pos e10] at h;cases h;exact⟨10,by decide,e10,rfl,rfl⟩
 rw[if_neg e10] at h
 by_cases e11:p=11
 ·rw[if_pos e11] at h;cases h;exact⟨11,by decide,e11,rfl,rfl⟩
 rw[if_neg e11] at h
 by_cases e12:p=12
 ·rw[if_pos e12] at h;cases h;exact⟨12,by decide,e12,rfl,rfl⟩
 rw[if_neg e12] at h
 by_cases e13:p=13
 ·rw[if_pos e13] at h;cases h;exact⟨13,by decide,e13,rfl,rfl⟩
 rw[if_neg e13] at h
 cases h
theorem QU {f:Nat} {p:Int} {r:List Int} {cs:List (List (List Int))} (h:calls ke f (p::r)=some cs): ∃(f' n:Nat) (xs:List (List Int)) (t:List Int) (cs':List (List (List Int))),f=f'+1/\n<14/\p=n/\rows (cnt n) r=some (xs,t)/\calls ke f' t=some cs'/\cs=([(n:Int)]::xs)::cs':=by
 cases f with
 |zero=>unfold calls at h;cases h
 |succ f=>
  unfold calls at h
  cases hc:call ke (p::r) with
  |none=>rw[hc] at h;cases h
  |some q=>
   obtain⟨c,t⟩:=q
   rw[hc] at h
   dsimp only at h
   cases hs:calls ke f t with
   |none=>rw[hs] at h;cases h
   |some cs'=>
    rw[hs] at h
    cases h
    unfold call at hc
    dsimp only at hc
    cases hp:ke p with
    |none=>rw[hp] at hc;cases hc
    |some ab=>
     obtain⟨a,b⟩:=ab
     rw[hp] at hc
     dsimp only at hc
     obtain⟨n,hn,rfl,rfl,rfl⟩:=QT hp
     rw[if_neg (by omega),p5] at hc
     cases hr:rows (cnt n) r with
     |none=>rw[hr] at hc;cases hc
     |some q=>
      obtain⟨xs,t'⟩:=q
      rw[hr] at hc
      cases hc
      exact⟨f,n,xs,t,cs',rfl,hn,rfl,hr,hs,rfl⟩
theorem QV (c:List (List Int)):uv c=c:=by
 unfold uv
 split <;> rfl
theorem QW {l:List Int} {cs:List (List (List Int))} (h:Ak l=some cs):calls ke l.length l=some cs:=by
 unfold Ak at h
 cases hc:calls ke l.length l with
 |none=>rw[hc] at h;cases h
 |some ds=>
  rw[hc] at h
  have e:ds.map uv=ds:=by
   rw[show uv=id from funext QV,Af]
  have h':some (ds.map uv)=some cs:=h
  rw[e] at h'
  exact h'
end Dm
namespace Sm
open PySem PySem.SetTable
def Up (xs:Array Nat):Prop:= ∀a b:Nat,a<b->b<xs.size->xs.getD a 0<xs.getD b 0
theorem getD_eq {xs:Array Nat} {i d e:Nat} (h:i<xs.size):xs.getD i d=xs.getD i e:=by
 simp [eE,h]
theorem v9 {xs:Array Nat} {j:Nat} (hu:Up xs): ∀(fuel lo hi:Nat),hi-lo<=fuel->lo<=hi->hi<=xs.size->(∀i,i<lo->xs.getD i 0<j)->(∀i,hi<=i->i<xs.size->j<=xs.getD i 0) ->
  (z6 xs j fuel lo hi)<=xs.size/\(∀i,i<z6 xs j fuel lo hi->xs.getD i 0<j)/\(∀i,z6 xs j fuel lo hi<=i->i<xs.size->j<=xs.getD i 0)
 |0,lo,hi,hf,hle,hs,h1,h2=>by
  have e:hi=lo:=by omega
  subst e
  exact⟨hs,h1,h2⟩
 |fuel+1,lo,hi,hf,hle,hs,h1,h2=>by
  unfold z6
  by_cases hlt:lo<hi
  ·rw[if_pos hlt]
   have hm:(lo+hi) / 2<xs.size:=by omega
   simp only
   by_cases hc:xs.getD ((lo+hi) / 2) j<j
   ·rw[if_pos hc]
    refine v9 hu fuel _ _ (by omega) (by omega) hs (λi hi'=>?_) h2
    rw[getD_eq (e:=0) hm] at hc
    by_cases e:i=(lo+hi) / 2
    ·rw[e];exact hc
    ·exact HG (hu i _ (by omega) hm) hc
   ·rw[if_neg hc]
    refine v9 hu fuel _ _ (by omega) (by omega) (by omega) h1 (λi hi' hlt'=>?_)
    rw[getD_eq (e:=0) hm] at hc
    by_cases e:i=(lo+hi) / 2
    ·rw[e];omega
    ·have:=hu _ i (show (lo+hi) / 2<i by omega) hlt'
     omega
  ·rw[if_neg hlt]
   have e:hi=lo:=by omega
   subst e
   exact⟨hs,h1,h2⟩
theorem v_ {xs:Array Nat} (j:Nat) (hu:Up xs):below xs j<=xs.size/\(∀i,i<below xs j->xs.getD i 0<j)/\(∀i,below xs j<=i->i<xs.size->j<=xs.getD i 0):=
 v9 hu _ _ _ (by omega) (bv _) (aW _) (λi h=>absurd h (k7 _)) (λi h1 h2=>by omega)
theorem below_at {xs:Array Nat} {i:Nat} (hu:Up xs) (hi:i<xs.size):below xs (xs.getD i 0)=i:=by
 obtain⟨h0,h1,h2⟩:=v_ (xs.getD i 0) hu
 rcases z7 (below xs (xs.getD i 0)) i with h|h|h
 ·have:=h2 (below xs (xs.getD i 0)) (aW _) (by omega)
  have:=hu _ _ h hi
  omega
 ·exact h
 ·have:=h1 i h
  omega
theorem C2 {t:bU} {i:Nat} (hu:Up t.place) (hi:i<t.place.size):t.slot (t.place.getD i 0)= .live i:=by
 unfold Ix
 simp only[below_at hu hi]
 have:t.place[i]?=some (t.place.getD i 0):=by simp [eE,hi]
 rw[this];simp
theorem slot_of {t:bU} {j i:Nat} (h:t.slot j= .live i):i<t.place.size/\t.place.getD i 0=j:=by
 unfold Ix at h
 simp only at h
 split at h
 ·rename_i hc
  cases h
  have e:=eq_of_beq hc
  obtain⟨hlt,hv⟩:=Array.getElem?_eq_some_iff.mp e
  exact⟨hlt,by simp [eE,hlt,hv]⟩
 ·split at h <;> cases h
theorem NG {t:bU} {j:Nat} (hu:Up t.place) (hd:t.dummies= #[]) (h: ∀i,i<t.place.size->t.place.getD i 0≠j):t.slot j= .empty:=by
 unfold Ix
 simp only
 have h1: ¬(t.place[below t.place j]? == some j)=true:=λz=>by
  have e:=eq_of_beq z
  obtain⟨hlt,hv⟩:=Array.getElem?_eq_some_iff.mp e
  exact h _ hlt (by simp [eE,hlt,hv])
 rw[if_neg h1,hd]
 have h2:has #[] j=false:=by unfold has;simp
 rw[h2];rfl
theorem C3 {t:bU} (j:Nat) (hu:Up t.place) (hd:t.dummies= #[]):(∃i,i<t.place.size/\t.place.getD i 0=j/\t.slot j= .live i)∨(t.slot j= .empty/\ ∀i,i<t.place.size->t.place.getD i 0≠j):=by
 by_cases h: ∃i,i<t.place.size/\t.place.getD i 0=j
 ·obtain⟨i,hi,e⟩:=h
  exact .inl ⟨i,hi,e,by rw[←e];exact C2 hu hi⟩
 ·have h': ∀i,i<t.place.size->t.place.getD i 0≠j:=λi hi e=>h ⟨i,hi,e⟩
  exact .inr ⟨NG hu hd h',h'⟩
def bA (t:bU):Nat->jy->jy
 |0,p=>p
 |n+1,p=>bA t n (t.advance p)
theorem iE (t:bU) (m:Nat): ∀(n:Nat) (p:jy),bA t (m+n) p=bA t m (bA t n p)
 |0,_=>rfl
 |n+1,p=>by
  show bA t (m+n) (t.advance p)=_
  rw[iE t m n];rfl
theorem C4 (t:bU) (p:jy):(t.advance p).dummy=p.dummy:=by
 unfold p_
 split <;> rfl
theorem C5 {t:bU} {hashAt:Nat->Int} {h:Int} (hu:Up t.place) (hd:t.dummies= #[]): ∀(fuel:Nat) (p:jy),p.dummy=none ->
  (mf t hashAt h fuel p=none/\ ∀n,n<fuel-> ∃i,t.slot (bA t n p).j= .live i) ∨
  (∃n,n<fuel/\mf t hashAt h fuel p=some (.empty (bA t n p).j none)/\t.slot (bA t n p).j= .empty/\ ∀m,m<n-> ∃i,t.slot (bA t m p).j= .live i/\hashAt i≠h) ∨
  (∃n i,n<fuel/\mf t hashAt h fuel p=some (.candidate (bA t n p).j i (bA t (n+1) p))/\t.slot (bA t n p).j= .live i/\hashAt i=h/\ ∀m,m<n-> ∃i,t.slot (bA t m p).j= .live i/\hashAt i≠h)
 |0,p,_=> .inl ⟨rfl,λn hn=>absurd hn (k7 _)⟩
 |fuel+1,p,hp=>by
  rcases C3 p.j hu hd with ⟨i,_,_,hs⟩|⟨hs,_⟩
  ·by_cases hh:hashAt i=h
   ·refine .inr (.inr ⟨0,i,p4 _,?_,hs,hh,λm hm=>absurd hm (k7 _)⟩)
    rw[mf,hs]
    simp [hh,bA]
   ·have e:mf t hashAt h (fuel+1) p=mf t hashAt h fuel (t.advance p):=by
     rw[mf,hs]
     simp [hh]
    rw[e]
    rcases C5 hu hd fuel (t.advance p) (by rw[C4];exact hp) with ⟨h1,h2⟩|⟨n,h1,h2,h3,h4⟩|⟨n,i2,h1,h2,h3,h4,h5⟩
    ·refine .inl ⟨h1,λn hn=>?_⟩
     cases n with
     |zero=>exact⟨i,hs⟩
     |succ n=>exact h2 n (by omega)
    ·refine .inr (.inl ⟨n+1,by omega,h2,h3,λm hm=>?_⟩)
     cases m with
     |zero=>exact⟨i,hs,hh⟩
     |succ m=>exact h4 m (by omega)
    ·refine .inr (.inr ⟨n+1,i2,by omega,h2,h3,h4,λm hm=>?_⟩)
     cases m with
     |zero=>exact⟨i,hs,hh⟩
     |succ m=>exact h5 m (by omega)
  ·refine .inr (.inl ⟨0,p4 _,?_,hs,λm hm=>absurd hm (k7 _)⟩)
   rw[mf,hs]
   simp [hp,bA]
def jO (mask i q:Nat):Nat:=(i*5+1+q) % (mask+1)
def dN (mask:Nat):Nat->Nat×Nat->Nat×Nat
 |0,x=>x
 |k+1,x=>dN mask k (jO mask x.1 (x.2 / 32),x.2 / 32)
theorem o5 (mask:Nat): ∀(k:Nat) (x:Nat×Nat),dN mask (k+1) x=(jO mask (dN mask k x).1 ((dN mask k x).2 / 32),(dN mask k x).2 / 32)
 |0,_=>rfl
 |k+1,x=>by
  show dN mask (k+1) (jO mask x.1 (x.2 / 32),x.2 / 32)=_
  rw[o5 mask k];rfl
theorem wa (mask i:Nat):runEnd mask i-i<=9:=by
 unfold runEnd
 split <;> omega
theorem sf {t:bU}: ∀(r:Nat) (p:jy),p.more=r-> ∃d,bA t (r+1) p={j:=jO t.mask p.i (p.perturb / 32),more:=runEnd t.mask (jO t.mask p.i (p.perturb / 32))-jO t.mask p.i (p.perturb / 32),i:=jO t.mask p.i (p.perturb / 32),perturb:=p.perturb / 32,dummy:=d}
 |0,p,h=>by
  refine⟨p.dummy,?_⟩
  show t.advance p=_
  unfold p_
  rw[if_neg (by omega)]
  rfl
 |r+1,p,h=>by
  have e:t.advance p={p with j:=p.j+1,more:=p.more-1}:=by
   unfold p_
   rw[if_pos (by omega)]
  obtain⟨d,q⟩:=sf (t:=t) r (t.advance p) (by rw[e];show p.more-1=r;omega)
  refine⟨d,?_⟩
  show bA t (r+1) (t.advance p)=_
  rw[q,e]
theorem C6 {t:bU} (p:jy) (hp:p.more<=9): ∀k:Nat,∃n,n<=10*(k+1)/\ ∃m d,m<=9/\bA t n p={j:=(dN t.mask (k+1) (p.i,p.perturb)).1,more:=m,i:=(dN t.mask (k+1) (p.i,p.perturb)).1,perturb:=(dN t.mask (k+1) (p.i,p.perturb)).2,dummy:=d}
 |0=>by
  obtain⟨d,e⟩:=sf (t:=t) p.more p rfl
  exact⟨p.more+1,by omega,_,d,wa _ _,e⟩
 |k+1=>by
  obtain⟨n,hn,m,d,hm,e⟩:=C6 (t:=t) p hp k
  obtain⟨d2,e2⟩:=sf (t:=t) m (bA t n p) (by rw[e])
  rw[e] at e2
  refine⟨m+1+n,by omega,runEnd t.mask (jO t.mask (dN t.mask (k+1) (p.i,p.perturb)).1 ((dN t.mask (k+1) (p.i,p.perturb)).2 / 32))-jO t.mask (dN t.mask (k+1) (p.i,p.perturb)).1 ((dN t.mask (k+1) (p.i,p.perturb)).2 / 32),d2,wa _ _,?_⟩
  rw[iE,e,e2,o5 t.mask (k+1)]
theorem C7 (mask:Nat) (x:Nat×Nat): ∀k:Nat,(dN mask k x).2=x.2 / 32 ^ k
 |0=>by simp [dN]
 |k+1=>by rw[o5,C7 mask x k,Uq,Ur]
def ee (mask:Nat):Nat->Nat->Nat
 |0,a=>a
 |d+1,a=>ee mask d ((a*5+1) % (mask+1))
theorem sg (mask:Nat): ∀(d a:Nat),ee mask (d+1) a=(ee mask d a*5+1) % (mask+1)
 |0,_=>rfl
 |d+1,a=>by
  show ee mask (d+1) ((a*5+1) % (mask+1))=_
  rw[sg mask d];rfl
theorem wb {mask:Nat} {x:Nat×Nat} (hx:x.2<2 ^ 64): ∀d:Nat,(dN mask (12+d) x).1=ee mask d (dN mask 12 x).1
 |0=>rfl
 |d+1=>by
  rw[show 12+(d+1)=(12+d)+1 from rfl,o5,sg,wb hx d,C7]
  have z:x.2 / 32 ^ (12+d) / 32=0:=by
   rw[Uq]
   apply Nat.div_eq_of_lt
   have:32 ^ 13<=32 ^ (12+d)*32:=by
    rw[←Ur]
    exact Nat.pow_le_pow_right (by decide) (by omega)
   exact eZ hx (bM (by decide) this)
  rw[z];rfl
theorem NH: ∀a:Fin 8,∀j:Fin 8,∃d:Fin 8,ee 7 d.val a.val=j.val:=by decide +kernel
theorem NI: ∀a:Fin 32,∀j:Fin 32,∃d:Fin 32,ee 31 d.val a.val=j.val:=by decide +kernel
theorem sj (mask:Nat): ∀(a b x:Nat),ee mask (a+b) x=ee mask a (ee mask b x)
 |0,b,x=>by rw[Us];rfl
 |a+1,b,x=>by rw[Nat.succ_add,sg,sj mask a b x,←sg]
theorem C8: ∀j:Fin 128,∃d:Fin 128,ee 127 d.val 0=j.val:=by decide +kernel
theorem NJ:ee 127 128 0=0:=by decide +kernel
theorem NK (a j:Fin 128): ∃d:Fin 128,ee 127 d.val a.val=j.val:=by
 obtain⟨d0,e0⟩:=C8 a
 obtain⟨d1,e1⟩:=C8 j
 by_cases h:d0.val<=d1.val
 ·refine⟨⟨d1.val-d0.val,by omega⟩,?_⟩
  show ee 127 (d1.val-d0.val) a.val=j.val
  rw[←e0,←sj,←e1]
  congr 1;omega
 ·refine⟨⟨128+d1.val-d0.val,by omega⟩,?_⟩
  show ee 127 (128+d1.val-d0.val) a.val=j.val
  rw[←e0,←sj,show 128+d1.val-d0.val+d0.val=d1.val+128 by omega,sj,NJ,e1]
def iF (m:Nat):Prop:=m=7∨m=31∨m=127
theorem iF.ee {m:Nat} (h:iF m) {a j:Nat} (ha:a<m+1) (hj:j<=m): ∃d,d<=m/\Sm.ee m d a=j:=by
 rcases h with e|e|e <;> subst e
 ·obtain⟨d,hd⟩:=NH ⟨a,ha⟩ ⟨j,by omega⟩
  exact⟨d.val,by omega,hd⟩
 ·obtain⟨d,hd⟩:=NI ⟨a,ha⟩ ⟨j,by omega⟩
  exact⟨d.val,by omega,hd⟩
 ·obtain⟨d,hd⟩:=NK ⟨a,ha⟩ ⟨j,by omega⟩
  exact⟨d.val,by omega,hd⟩
theorem C9 (mask:Nat) (x:Nat×Nat) (k:Nat):(dN mask (k+1) x).1<mask+1:=by
 rw[o5];exact z8 _ (p4 _)
theorem reach {t:bU} (hm:iF t.mask) (p:jy) (hp:p.more<=9) (hq:p.perturb<2 ^ 64) {j:Nat} (hj:j<=t.mask): ∃n,n<10*turns t.mask/\(bA t n p).j=j:=by
 have key: ∃d,d<=t.mask/\(dN t.mask (12+d) (p.i,p.perturb)).1=j:=by
  have a1:=C9 t.mask (p.i,p.perturb) 11
  obtain⟨d,hd,e⟩:=hm.ee a1 hj
  exact⟨d,hd,by rw[wb hq];exact e⟩
 obtain⟨d,hd,e⟩:=key
 obtain⟨n,hn,m,dd,_,e2⟩:=C6 (t:=t) p hp (11+d)
 refine⟨n,?_,?_⟩
 ·unfold turns
  omega
 ·rw[e2,show 11+d+1=12+d by omega];exact e
theorem NL (xs:Array Nat):Up xs↔xs.toList.Pairwise (· < ·):=by
 rw[Iu]
 constructor
 ·intro h i j hi hj hij
  have:=h i j hij (by simpa using hj)
  have hi':i<xs.size:=by simpa using hi
  have hj':j<xs.size:=by simpa using hj
  simpa [eE,hi',hj'] using this
 ·intro h a b hab hb
  have ha:a<xs.size:=by omega
  have:=h a b (by simpa using ha) (by simpa using hb) hab
  simpa [eE,ha,hb] using this
theorem wc {t t':bU} (h:t.mask=t'.mask): ∀(n:Nat) (p:jy),bA t n p=bA t' n p
 |0,_=>rfl
 |n+1,p=>by
  have e:t.advance p=t'.advance p:=by unfold p_;rw[h]
  show bA t n (t.advance p)=bA t' n (t'.advance p)
  rw[e,wc h n]
theorem C_ {t t':bU} (h:t.mask=t'.mask) (k:Int):t.probeStart k=t'.probeStart k:=by unfold SetTable.probeStart;rw[h]
def Way (mask:Nat) (taken:List Nat) (z:Nat×Int):Prop:= ∃(t:bU) (n:Nat),t.mask=mask/\(bA t n (t.probeStart z.2)).j=z.1/\ ∀m,m<n->(bA t m (t.probeStart z.2)).j∈taken
theorem Way.more {mask:Nat} {a b:List Nat} {z:Nat×Int} (h:Way mask a z) (hs: ∀x∈a,x∈b):Way mask b z:=by
 obtain⟨t,n,h1,h2,h3⟩:=h
 exact⟨t,n,h1,h2,λm hm=>hs _ (h3 m hm)⟩
structure dq (t:bU) (zs:List (Nat×Int)):Prop where
 pl:t.place.toList=zs.map (·.1)
 du:t.dummies= #[]
 up:(zs.map (·.1)).Pairwise (· < ·)
 le: ∀z∈zs,z.1<=t.mask
 lK:iF t.mask
 way: ∀z∈zs,Way t.mask (zs.map (·.1)) z
theorem dq.Up {t:bU} {zs:List (Nat×Int)} (h:dq t zs):Up t.place:=(NL _).mpr (by rw[h.pl];exact h.up)
theorem dq.size {t:bU} {zs:List (Nat×Int)} (h:dq t zs):t.place.size=zs.length:=by rw[←e_,h.pl,aC]
theorem getD_at {t:bU} {zs:List (Nat×Int)} (h:dq t zs) {i:Nat} {z:Nat×Int} (hz:zs[i]?=some z):t.place.getD i 0=z.1:=by
 have:t.place[i]?=some z.1:=by rw[←ju,h.pl,bC,hz];rfl
 simp [Array.getD_eq_getD_getElem?,this]
theorem dq.live {t:bU} {zs:List (Nat×Int)} (h:dq t zs) {i:Nat} {z:Nat×Int} (hz:zs[i]?=some z):t.slot z.1= .live i:=by
 have hi:i<t.place.size:=by rw[h.size];exact(List.getElem?_eq_some_iff.mp hz).1
 rw[←getD_at h hz]
 exact C2 h.Up hi
theorem dq.Db {t:bU} {zs:List (Nat×Int)} (h:dq t zs) {i j:Nat} (hs:t.slot j= .live i): ∃z,zs[i]?=some z/\z.1=j:=by
 obtain⟨hi,e⟩:=slot_of hs
 rw[h.size] at hi
 exact⟨zs[i],b8 hi,by rw[←e];exact(getD_at h (b8 hi)).symm⟩
theorem dq.taken {t:bU} {zs:List (Nat×Int)} (h:dq t zs) {i j:Nat} (hs:t.slot j= .live i):j∈zs.map (·.1):=by
 obtain⟨z,hz,e⟩:=h.Db hs
 exact bp.mpr ⟨z,dg hz,e⟩
theorem dq.empty {t:bU} {zs:List (Nat×Int)} (h:dq t zs) {j:Nat} (hs:t.slot j= .empty):j∉zs.map (·.1):=λhm=>by
 obtain⟨z,hz,e⟩:=bp.mp hm
 obtain⟨i,hi,ei⟩:=List.mem_iff_getElem.mp hz
 have:=h.live (b8 hi)
 rw[ei,e,hs] at this
 cases this
theorem we (t:bU) (k:Int):(t.probeStart k).more<=9/\(t.probeStart k).perturb<2 ^ 64/\(t.probeStart k).dummy=none:=by
 refine⟨wa _ _,?_,rfl⟩
 show bits k<2 ^ 64
 unfold bits
 have h1:=Int.emod_nonneg k (show (2 ^ 64:Int)≠0 by decide)
 have h2:=Int.emod_lt_of_pos k (show (0:Int)<2 ^ 64 by decide)
 omega
theorem Dc {α:Type} (xs:Array α) (p:Nat) (x:α):(insertAt xs p x).toList=xs.toList.take p++x::xs.toList.drop p:=by
 unfold insertAt
 simp
 exact l5 (by rw[d5,e_];omega)
theorem mem_insert {α:Type} {l:List α} {p:Nat} {x z:α}:z∈l.take p++x::l.drop p↔z=x∨z∈l:=by
 constructor
 ·intro h
  rcases bP.mp h with q|q
  ·exact .inr (mh q)
  ·rcases be.mp q with q|q
   ·exact .inl q
   ·exact .inr (H_ q)
 ·rintro(rfl|h)
  ·exact bP.mpr (.inr bB)
  ·rw[←zX p l] at h
   rcases bP.mp h with q|q
   ·exact bP.mpr (.inl q)
   ·exact bP.mpr (.inr (bq _ q))
theorem dq.put {t:bU} {zs:List (Nat×Int)} {j:Nat} {h:Int} (T:dq t zs) (hj:j∉zs.map (·.1)) (hle:j<=t.mask) (hw:Way t.mask (zs.map (·.1)) (j,h)) :
  (t.put j).2=below t.place j/\(t.put j).1.mask=t.mask/\(t.put j).1.led=t.led/\dq (t.put j).1 (zs.take (below t.place j)++(j,h)::zs.drop (below t.place j)):=by
 have hb:=v_ j T.Up
 have hno:has t.dummies j=false:=by rw[T.du];unfold has;simp
 have hm: ∀x,x∈zs.map (·.1)->x∈(zs.take (below t.place j)++(j,h)::zs.drop (below t.place j)).map (·.1):=λx hx=>by
  obtain⟨z,hz,e⟩:=bp.mp hx
  exact bp.mpr ⟨z,mem_insert.mpr (.inr hz),e⟩
 have get0: ∀i (hi:i<zs.length),t.place.getD i 0=zs[i].1:=λi hi=>getD_at T (b8 hi)
 refine⟨rfl,rfl,rfl,?_,?_,?_,?_,T.lK,?_⟩
 ·show (insertAt t.place (below t.place j) j).toList=_
  rw[Dc,T.pl,dh,aU,nP,nO]
 ·show (if has t.dummies j=true then _ else t.dummies)= #[]
  rw[hno];exact T.du
 ·rw[dh,aU,nP,nO]
  rw[List.pairwise_append]
  refine⟨T.up.sublist (Sg _ _),?_,?_⟩
  ·rw[ia]
   refine⟨λx hx=>?_,T.up.sublist (List.drop_sublist _ _)⟩
   obtain⟨i,hi,e⟩:=List.mem_iff_getElem.mp hx
   rw[d5,aC] at hi
   rw[Ut,nR] at e
   have:=hb.2.2 (below t.place j+i) (by omega) (by rw[T.size];omega)
   rw[get0 _ (by omega),e] at this
   have hne:x≠j:=λz=>hj (z▸H_ hx)
   omega
  ·intro a ha b hb'
   obtain⟨i,hi,e⟩:=List.mem_iff_getElem.mp ha
   rw[dL,aC] at hi
   rw[List.getElem_take,nR] at e
   have h1:=hb.2.1 i (by omega)
   rw[get0 _ (by omega),e] at h1
   rcases be.mp hb' with q|q
   ·rw[q];exact h1
   ·obtain⟨i2,hi2,e2⟩:=List.mem_iff_getElem.mp q
    rw[d5,aC] at hi2
    rw[Ut,nR] at e2
    have h2:=hb.2.2 (below t.place j+i2) (by omega) (by rw[T.size];omega)
    rw[get0 _ (by omega),e2] at h2
    omega
 ·intro z hz
  rcases mem_insert.mp hz with q|q
  ·rw[q];exact hle
  ·exact T.le z q
 ·intro z hz
  rcases mem_insert.mp hz with q|q
  ·rw[q];exact hw.more hm
  ·exact(T.way z q).more hm
theorem sk {t:bU}: ∀(k:Nat) (p:jy),k<=p.more->(bA t k p).j=p.j+k
 |0,_,_=>rfl
 |k+1,p,h=>by
  have e:t.advance p={p with j:=p.j+1,more:=p.more-1}:=by
   unfold p_
   rw[if_pos (by omega)]
  show (bA t k (t.advance p)).j=_
  rw[sk k (t.advance p) (by rw[e];show k<=p.more-1;omega),e]
  show p.j+1+k=p.j+(k+1)
  omega
theorem sm {n k:Nat} {p:Nat->Bool} (h:(eQ n).find? p=some k): ∀m,m<k->p m=false:=by
 intro m hm
 obtain⟨_,as,bs,e,ha⟩:=List.find?_eq_some_iff_append.mp h
 have el:as.length=k:=by
  have h1:(eQ n)[as.length]?=some k:=by rw[e,Ht (aW _)];simp
  obtain⟨hlt,h2⟩:=List.getElem?_eq_some_iff.mp h1
  rw[Uu] at h2
  exact h2
 have hm1:m<as.length:=by omega
 have h2:(eQ n)[m]?=some as[m]:=by rw[e,Hu hm1,b8 hm1]
 obtain⟨hlt,h3⟩:=List.getElem?_eq_some_iff.mp h2
 rw[Uu] at h3
 have:=ha as[m] (Iy hm1)
 rw[←h3] at this
 simpa using this
def gG (owner:Array (Option Nat)) (j:Nat):Bool:=(owner.getD j (some 0)).isNone
theorem NM {owner:Array (Option Nat)} {j:Nat} (h:gG owner j=true):j<owner.size/\owner.getD j none=none:=by
 unfold gG at h
 by_cases hj:j<owner.size
 ·refine⟨hj,?_⟩
  simp [eE,hj] at h ⊢
  exact h
 ·simp [eE,hj] at h
theorem Dd {t:bU} {owner:Array (Option Nat)}: ∀(fuel i q j:Nat) (d:Option Nat),nS t.mask owner fuel i q=some j ->
  gG owner j=true/\ ∃n,(bA t n ⟨i,runEnd t.mask i-i,i,q,d⟩).j=j/\ ∀m,m<n->gG owner (bA t m ⟨i,runEnd t.mask i-i,i,q,d⟩).j=false
 |0,_,_,_,_,h=>by cases h
 |fuel+1,i,q,j,d,h=>by
  have hre:i<=runEnd t.mask i:=by unfold runEnd;split <;> omega
  rw[nS] at h
  split at h
  ·rename_i k hk
   cases h
   have hp:=p6 hk
   have hm:=gi.mp (kZ hk)
   refine⟨hp,k,sk k _ (by show k<=runEnd t.mask i-i;omega),λm hm'=>?_⟩
   rw[sk m _ (by show m<=runEnd t.mask i-i;omega)]
   exact sm hk m hm'
  ·rename_i hk
   have hno: ∀m,m<=runEnd t.mask i-i->gG owner (i+m)=false:=λm hm=>by
    have:=ug.mp hk m (gi.mpr (by omega))
    exact Bool.eq_false_iff.mpr this
   obtain⟨d2,e⟩:=sf (t:=t) (runEnd t.mask i-i) ⟨i,runEnd t.mask i-i,i,q,d⟩ rfl
   obtain⟨h1,n,h2,h3⟩:=Dd fuel _ _ j d2 h
   refine⟨h1,n+(runEnd t.mask i-i+1),?_,λm hm=>?_⟩
   ·rw[iE,e];exact h2
   ·by_cases hlt:m<=runEnd t.mask i-i
    ·rw[sk m _ hlt];exact hno m hlt
    ·have em:m=(m-(runEnd t.mask i-i+1))+(runEnd t.mask i-i+1):=by omega
     rw[em,iE,e]
     exact h3 _ (by omega)
theorem De {mask:Nat} {owner:Array (Option Nat)}: ∀(k fuel i q:Nat),k<fuel->gG owner (dN mask k (i,q)).1=true-> ∃j,nS mask owner fuel i q=some j
 |k,0,_,_,h,_=>absurd h (k7 _)
 |k,fuel+1,i,q,h,hf=>by
  rw[nS]
  split
  ·rename_i x hx
   exact⟨_,rfl⟩
  ·rename_i hx
   cases k with
   |zero=>
    have hre:i<=runEnd mask i:=by unfold runEnd;split <;> omega
    have:=ug.mp hx 0 (gi.mpr (by omega))
    have hf':gG owner i=true:=hf
    simp [gG] at hf' this
    rw[hf'] at this
    exact absurd rfl this
   |succ k=>exact De k fuel _ _ (by omega) hf
theorem o6 {α:Type} [DecidableEq α]: ∀{l m:List α},l.Nodup->(∀x∈l,x∈m)->l.length<=m.length
 | [],_,_,_=>bv _
 |x::r,m,h,hm=>by
  obtain⟨h1,h2⟩:=fc.mp h
  have hx:x∈m:=hm x bB
  have q:=o6 (l:=r) (m:=m.erase x) h2 λy hy=>(Tx (λ(e:y=x)=>h1 (e▸hy))).mpr (hm y (bq _ hy))
  rw[Tz hx] at q
  have:=TB hx
  rw[bm];omega
def iH (m:Nat):bU:={mask:=m,place:= #[],dummies:= #[],finger:=0,led:=false,moves:=0,plain:=true}
def o7 (owner:Array (Option Nat)):List Nat:=(eQ owner.size).filter λj=>(owner.getD j none).isSome
theorem wg {owner:Array (Option Nat)} {j:Nat}:j∈o7 owner↔(owner.getD j none).isSome=true:=by
 unfold o7
 rw[cU,gi]
 refine⟨λh=>h.2,λh=>⟨?_,h⟩⟩
 by_cases hj:j<owner.size
 ·exact hj
 ·simp [eE,hj] at h
structure iI (mask:Nat) (owner:Array (Option Nat)) (hs:List Int):Prop where
 sz:owner.size=mask+1
 wj: ∀k,k<hs.length-> ∃j,owner.getD j none=some k
 inj: ∀j j' k,owner.getD j none=some k->owner.getD j' none=some k->j=j'
 bd: ∀j k,owner.getD j none=some k->k<hs.length
 way: ∀j k h,owner.getD j none=some k->hs[k]?=some h->Way mask (o7 owner) (j,h)
theorem Df {owner:Array (Option Nat)} {j k:Nat} (h:owner.getD j none=some k):j<owner.size:=by
 by_cases hj:j<owner.size
 ·exact hj
 ·simp [eE,hj] at h
theorem iI.free {mask:Nat} {owner:Array (Option Nat)} {hs:List Int} (o:iI mask owner hs) (hl:hs.length<=mask): ∃j,j<=mask/\gG owner j=true:=by
 false_or_by_contra
 rename_i hn
 have all: ∀j,j<mask+1-> ∃k,owner.getD j none=some k:=λj hj=>by
  have h1: ¬gG owner j=true:=λz=>hn ⟨j,by omega,z⟩
  have hj':j<owner.size:=by rw[o.sz];exact hj
  unfold gG at h1
  cases e:owner.getD j none with
  |some k=>exact⟨k,rfl⟩
  |none=>
   simp [eE,hj'] at h1 e
   rw[e] at h1;simp at h1
 have nd:((eQ (mask+1)).map λj=>(owner.getD j none).getD 0).Nodup:=by
  rw[k8,nT]
  refine Iz ?_ (k8.mp z9)
  intro a b ha hb hab e
  obtain⟨k,hk⟩:=all a (gi.mp ha)
  obtain⟨k2,hk2⟩:=all b (gi.mp hb)
  rw[hk,hk2] at e
  have e':k=k2:=e
  exact hab (o.inj a b k hk (by rw[hk2,e']))
 have:=o6 (m:=eQ hs.length) nd λx hx=>by
  obtain⟨j,hj,e⟩:=bp.mp hx
  obtain⟨k,hk⟩:=all j (gi.mp hj)
  rw[hk] at e
  have e':k=x:=e
  rw[←e']
  exact gi.mpr (o.bd j k hk)
 simp at this
 omega
theorem NN {mask:Nat} (hm:iF mask) (i q:Nat) (hq:q<2 ^ 64) {j:Nat} (hj:j<=mask): ∃d,d<=mask/\(dN mask (12+d) (i,q)).1=j:=by
 have a1:=C9 mask (i,q) 11
 obtain⟨d,hd,e⟩:=hm.ee a1 hj
 exact⟨d,hd,by rw[wb hq];exact e⟩
theorem Dg {mask i:Nat} (h:i<=mask):i+(runEnd mask i-i)<=mask:=by
 unfold runEnd
 split <;> omega
theorem Dh {t:bU}: ∀(n:Nat) (p:jy),p.j+p.more<=t.mask->(bA t n p).j+(bA t n p).more<=t.mask
 |0,_,h=>h
 |n+1,p,h=>by
  refine Dh n (t.advance p) ?_
  unfold p_
  split
  ·show p.j+1+(p.more-1)<=t.mask;omega
  ·exact Dg (Uv (z8 (p.i*5+1+p.perturb / 32) (p4 t.mask)))
theorem NO (t:bU) (h:Int):(t.probeStart h).j+(t.probeStart h).more<=t.mask:=
 Dg (Uv (z8 (bits h) (p4 t.mask)))
theorem Di (t:bU) (h:Int) (n:Nat):(bA t n (t.probeStart h)).j<=t.mask:=by
 have:=Dh (t:=t) n _ (NO t h)
 omega
theorem NP (h:Int):bits h<2 ^ 64:=(we (iH 7) h).2.1
theorem iI.step {mask:Nat} {owner:Array (Option Nat)} {hs:List Int} (o:iI mask owner hs) (hm:iF mask) (hl:hs.length<=mask) (h:Int) :
  ∃j,nS mask owner (turns mask) (bits h % (mask+1)) (bits h)=some j/\iI mask (owner.setIfInBounds j (some hs.length)) (hs++[h]):=by
 obtain⟨j0,hj0,hf0⟩:=o.free hl
 obtain⟨d,hd,e⟩:=NN hm (bits h % (mask+1)) (bits h) (NP h) hj0
 obtain⟨j,hj⟩:=De (12+d) (turns mask) (bits h % (mask+1)) (bits h) (by unfold turns;omega) (by rw[e];exact hf0)
 refine⟨j,hj,?_⟩
 obtain⟨hfr,n,hn,hbefore⟩:=Dd (t:=iH mask) _ _ _ j none hj
 obtain⟨hlt,hnone⟩:=NM hfr
 have get: ∀x,(owner.setIfInBounds j (some hs.length)).getD x none=if x=j then some hs.length else owner.getD x none:=λx=>by
  by_cases hx:x=j
  ·subst hx;simp [eE,hlt]
  ·rw[if_neg hx]
   by_cases hxs:x<owner.size
   ·simp [eE,hxs,Array.getElem_setIfInBounds,dw hx]
   ·simp [eE,hxs]
 have more: ∀x∈o7 owner,x∈o7 (owner.setIfInBounds j (some hs.length)):=λx hx=>by
  rw[wg] at hx ⊢
  rw[get]
  split
  ·rfl
  ·exact hx
 refine⟨by simp [o.sz],λk hk=>?_,λa b k ha hb=>?_,λa k ha=>?_,λa k h' ha hh=>?_⟩
 ·rw[bx,j4] at hk
  by_cases e:k=hs.length
  ·exact⟨j,by rw[get,if_pos rfl,e]⟩
  ·obtain⟨x,hx⟩:=o.wj k (by omega)
   exact⟨x,by rw[get,if_neg (λz=>by rw[z,hnone] at hx;cases hx)];exact hx⟩
 ·rw[get] at ha hb
  split at ha
  ·rename_i ea
   split at hb
   ·rename_i eb;rw[ea,eb]
   ·have:=o.bd b k hb
    cases ha;omega
  ·split at hb
   ·have:=o.bd a k ha
    cases hb;omega
   ·exact o.inj a b k ha hb
 ·rw[get] at ha
  rw[bx,j4]
  split at ha
  ·cases ha;omega
  ·have:=o.bd a k ha;omega
 ·rw[get] at ha
  split at ha
  ·rename_i ea
   cases ha
   rw[Ht (aW _)] at hh
   have eh:h=h':=by simpa using hh
   subst eh
   refine⟨iH mask,n,rfl,by rw[ea];exact hn,λm hm'=>more _ ?_⟩
   rw[wg]
   have q:=hbefore m hm'
   have q2:gG owner (bA (iH mask) m ((iH mask).probeStart h)).j=false:=q
   have hx:(bA (iH mask) m ((iH mask).probeStart h)).j<owner.size:=by
    have:=Di (iH mask) h m
    rw[o.sz]
    show _<mask+1
    have e3:(iH mask).mask=mask:=rfl
    omega
   unfold gG at q2
   generalize (bA (iH mask) m ((iH mask).probeStart h)).j=x at q2 hx
   simp [eE,hx] at q2 ⊢
   exact q2
  ·rename_i ea
   have hk:=o.bd a k ha
   rw[Hu hk] at hh
   exact(o.way a k h' ha hh).more more
theorem iI.nil (mask:Nat):iI mask (Uw (mask+1) none) []:=by
 have h: ∀j k,(Uw (mask+1) (none:Option Nat)).getD j none=some k->False:=λj k h=>by
  by_cases hj:j<mask+1
  ·simp [eE,hj] at h
  ·simp [eE,hj] at h
 exact⟨by simp,λk hk=>absurd hk (k7 _),λj _ k hk=>(h j k hk).elim,λj k hk=>(h j k hk).elim,λj k _ hk=>(h j k hk).elim⟩
theorem Dj {mask:Nat} (hm:iF mask) {f:Option (Array (Option Nat)×Nat)->Int->Option (Array (Option Nat)×Nat)}
  (hf: ∀owner k h,f (some (owner,k)) h=(nS mask owner (turns mask) (bits h % (mask+1)) (bits h)).bind λj=>some (owner.setIfInBounds j (some k),k+1)) :
  ∀(rest fore:List Int) (owner:Array (Option Nat)),iI mask owner fore->fore.length+rest.length<=mask+1-> ∃owner',rest.foldl f (some (owner,fore.length))=some (owner',(fore++rest).length)/\iI mask owner' (fore++rest)
 | [],fore,owner,o,_=>⟨owner,by rw[fQ];rfl,by rw[fQ];exact o⟩
 |h::rest,fore,owner,o,hl=>by
  rw[bm] at hl
  obtain⟨j,hj,o'⟩:=o.step hm (by omega) h
  have e:f (some (owner,fore.length)) h=some (owner.setIfInBounds j (some fore.length),(fore++[h]).length):=by
   rw[hf,hj,bx];rfl
  rw[nM,e]
  obtain⟨ow,h1,h2⟩:=Dj hm hf rest (fore++[h]) _ o' (by rw[bx,j4];omega)
  rw[j6] at h1 h2
  exact⟨ow,h1,h2⟩
theorem NQ {mask:Nat} (hm:iF mask) (hashes:Array Int) (hl:hashes.size<=mask+1): ∃owner,layClean mask hashes=some owner/\iI mask owner hashes.toList:=by
 unfold layClean
 rw[←Array.foldl_toList]
 obtain⟨ow,h1,h2⟩:=Dj hm (f:=λacc h=>do
  let (owner,k) ←acc
  let j ←nS mask owner (turns mask) (bits h % (mask+1)) (bits h)
  pure (owner.setIfInBounds j (some k),k+1)) (λowner k h=>rfl) hashes.toList [] _ (iI.nil mask) (by simpa using hl)
 refine⟨ow,?_,by simpa using h2⟩
 have:(([]:List Int).length)=0:=rfl
 rw[this] at h1
 rw[h1];rfl
def gH (mask:Nat) (owner:Array (Option Nat)):List (Nat×Nat):=(eQ (mask+1)).filterMap λj=>(owner.getD j none).map (j,·)
theorem NR {mask:Nat} {owner:Array (Option Nat)} (hz:owner.size=mask+1) {z:Nat×Nat}:z∈gH mask owner↔owner.getD z.1 none=some z.2:=by
 unfold gH
 rw[nz]
 constructor
 ·rintro⟨j,_,e⟩
  cases h:owner.getD j none with
  |none=>rw[h] at e;cases e
  |some k=>rw[h] at e;cases e;exact h
 ·intro h
  exact⟨z.1,gi.mpr (by rw[←hz];exact Df h),by rw[h];rfl⟩
theorem Dk (owner:Array (Option Nat)): ∀l:List Nat,l.Pairwise (· < ·)->((l.filterMap λj=>(owner.getD j none).map (j,·)).map (·.1)).Pairwise (· < ·)/\ ∀x∈(l.filterMap λj=>(owner.getD j none).map λk=>(j,k)).map (·.1),x∈l
 | [],_=>⟨HS,λx hx=>hx⟩
 |a::l,h=>by
  obtain⟨h1,h2⟩:=ia.mp h
  obtain⟨i1,i2⟩:=Dk owner l h2
  rw[jW]
  cases e:owner.getD a none with
  |none=>exact⟨i1,λx hx=>bq _ (i2 x hx)⟩
  |some k=>
   refine⟨ia.mpr ⟨λx hx=>h1 x (i2 x hx),i1⟩,λx hx=>?_⟩
   rcases be.mp hx with q|q
   ·rw[q];exact bB
   ·exact bq _ (i2 x q)
theorem NS {mask:Nat} (hm:iF mask) (finger moves:Nat) (led plain:Bool) (hashes:Array Int) (hl:hashes.size<=mask+1) :
  ∃t' order,laid mask finger moves led plain hashes=some (t',order)/\t'.mask=mask/\t'.led=led/\t'.plain=plain/\dq t' (t'.place.toList.zip (order.toList.map λk=>hashes.getD k 0)) /\
   order.toList.Nodup/\(∀k,k∈order.toList↔k<hashes.size)/\order.size=t'.place.size/\order.size=hashes.size:=by
 obtain⟨owner,e,o⟩:=NQ hm hashes hl
 have hmem:= @NR mask owner o.sz
 have hup:=Dk owner (eQ (mask+1)) List.pairwise_lt_range
 have el:laid mask finger moves led plain hashes=some ({mask,place:=((gH mask owner).map (·.1)).toArray,dummies:= #[],finger,led,moves,plain},((gH mask owner).map (·.2)).toArray):=by
  unfold laid
  rw[e];rfl
 refine⟨_,_,el,rfl,rfl,rfl,?_,?_,?_,?_,?_⟩
 ·have ez:(((gH mask owner).map (·.1)).toArray.toList.zip ((((gH mask owner).map (·.2)).toArray.toList).map λk=>hashes.getD k 0))=(gH mask owner).map λz=>(z.1,hashes.getD z.2 0):=by
   rw[z_,z_,eR,Uh]
   rfl
  rw[ez]
  have e1:((gH mask owner).map λz=>(z.1,hashes.getD z.2 0)).map (·.1)=(gH mask owner).map (·.1):=by rw[eR];rfl
  refine⟨by rw[e1],rfl,by rw[e1];exact hup.1,λz hz=>?_,hm,λz hz=>?_⟩
  ·obtain⟨y,hy,rfl⟩:=bp.mp hz
   have:=Df (hmem.mp hy)
   rw[o.sz] at this
   show y.1<=mask
   omega
  ·obtain⟨y,hy,rfl⟩:=bp.mp hz
   have hg:=hmem.mp hy
   have hb:=o.bd _ _ hg
   have hb':y.2<hashes.size:=by simpa using hb
   have hh:hashes.toList[y.2]?=some (hashes.getD y.2 0):=by simp [eE,hb']
   refine(o.way y.1 y.2 _ hg hh).more λx hx=>?_
   rw[wg] at hx
   rw[e1]
   cases hx2:owner.getD x none with
   |none=>rw[hx2] at hx;cases hx
   |some k=>exact bp.mpr ⟨(x,k),hmem.mpr hx2,rfl⟩
 ·rw[z_]
  have nd1:(gH mask owner).Pairwise λa b=>a.1<b.1:=nT.mp hup.1
  rw[k8,nT]
  refine Iz ?_ nd1
  intro a b ha hb hab e2
  have ga:=hmem.mp ha
  have gb:=hmem.mp hb
  rw[e2] at ga
  have:=o.inj _ _ _ ga gb
  omega
 ·intro k
  rw[z_,bp]
  constructor
  ·rintro⟨z,hz,rfl⟩
   have:=o.bd _ _ (hmem.mp hz)
   simpa using this
  ·intro hk
   obtain⟨j,hj⟩:=o.wj k (by simpa using hk)
   exact⟨(j,k),hmem.mpr hj,rfl⟩
 ·simp
 ·rw[bQ,aC]
  have nd:((gH mask owner).map (·.2)).Nodup:=by
   have nd1:(gH mask owner).Pairwise λa b=>a.1<b.1:=nT.mp hup.1
   rw[k8,nT]
   refine Iz ?_ nd1
   intro a b ha hb hab e2
   have ga:=hmem.mp ha
   have gb:=hmem.mp hb
   rw[e2] at ga
   have:=o.inj _ _ _ ga gb
   omega
  have a1:=o6 (m:=eQ hashes.size) nd λx hx=>by
   obtain⟨z,hz,rfl⟩:=bp.mp hx
   have:=o.bd _ _ (hmem.mp hz)
   exact gi.mpr (by simpa using this)
  have a2:=o6 (l:=eQ hashes.size) (m:=(gH mask owner).map (·.2)) z9 λx hx=>by
   obtain⟨j,hj⟩:=o.wj x (by simpa using gi.mp hx)
   exact bp.mpr ⟨(j,x),hmem.mpr hj,rfl⟩
  rw[aC,Ux] at a1 a2
  omega
end Sm
namespace L2
open PySem PyProof.Rows
theorem yJ {M:eA} {Γ:jC} {p:Pos} {t:Sem z5} {fs:List Frame} {s s':af} {e:End} (h:Runs M Γ p t fs s e s'): ∀e2 s2,Runs M Γ p t fs s e2 s2->e=e2/\s'=s2:=by
 induction h with
 |done=>intro e2 s2 h2;cases h2;exact⟨rfl,rfl⟩
 |raise=>intro e2 s2 h2;cases h2;exact⟨rfl,rfl⟩
 |again hq _ ih=>intro e2 s2 h2;cases h2;rename_i h _;exact ih _ _ (by assumption)
 |rule _ ih=>intro e2 s2 h2;cases h2;exact ih _ _ (by assumption)
 |«at» _ ih=>intro e2 s2 h2;cases h2;exact ih _ _ (by assumption)
 |load ho _ ih=>intro e2 s2 h2;cases h2;rename_i ho2 h2;rw[ho] at ho2;cases ho2;exact ih _ _ h2
 |update ho _ ih=>intro e2 s2 h2;cases h2;exact ih _ _ (by assumption)
 |loadIfAlive _ ih=>intro e2 s2 h2;cases h2;exact ih _ _ (by assumption)
 |point _ ih=>intro e2 s2 h2;cases h2;exact ih _ _ (by assumption)
 |alloc _ ih=>intro e2 s2 h2;cases h2;exact ih _ _ (by assumption)
 |fresh _ ih=>intro e2 s2 h2;cases h2;exact ih _ _ (by assumption)
 |ask _ ih=>intro e2 s2 h2;cases h2;exact ih _ _ (by assumption)
 |choose hn _ ih=>intro e2 s2 h2;cases h2;exact ih _ _ (by assumption)
 |os _ ih=>intro e2 s2 h2;cases h2;exact ih _ _ (by assumption)
 |handled _ ih=>intro e2 s2 h2;cases h2;exact ih _ _ (by assumption)
 |genState hg _ ih=>intro e2 s2 h2;cases h2;rename_i hg2 h2;rw[hg] at hg2;cases hg2;exact ih _ _ h2
 |stack _ ih=>intro e2 s2 h2;cases h2;exact ih _ _ (by assumption)
 |thread _ ih=>intro e2 s2 h2;cases h2;exact ih _ _ (by assumption)
 |newGen _ ih=>intro e2 s2 h2;cases h2;exact ih _ _ (by assumption)
 |call _ _ ih1 ih2=>
  intro e2 s2 h2
  cases h2 with
  |call a b=>
   obtain⟨e1,e3⟩:=ih1 _ _ a
   cases e1;subst e3
   exact ih2 _ _ b
  |callSusp a=>obtain⟨e1,_⟩:=ih1 _ _ a;cases e1
 |callSusp _ ih=>
  intro e2 s2 h2
  cases h2 with
  |call a b=>obtain⟨e1,_⟩:=ih _ _ a;cases e1
  |callSusp a=>
   obtain⟨e1,e3⟩:=ih _ _ a
   cases e1;subst e3
   exact⟨rfl,rfl⟩
 |yield=>intro e2 s2 h2;cases h2;exact⟨rfl,rfl⟩
 |resumeFresh hg _ hq _ ih1 ih2=>
  intro e2 s2 h2
  cases h2 with
  |resumeFresh hg2 a hq2 b=>
   rw[hg] at hg2;cases hg2
   obtain⟨e1,e3⟩:=ih1 _ _ a
   cases e1;subst e3
   exact ih2 _ _ b
  |resumeSuspended hg2=>rw[hg] at hg2;cases hg2
  |resumeJustStarted hg2 hv=>exact(hv rfl).elim
  |resumeRunning hg2=>rw[hg] at hg2;cases hg2
  |resumeFinished hg2=>rw[hg] at hg2;cases hg2
 |resumeSuspended hg _ hq _ ih1 ih2=>
  intro e2 s2 h2
  cases h2 with
  |resumeFresh hg2=>rw[hg] at hg2;cases hg2
  |resumeSuspended hg2 a hq2 b=>
   rw[hg] at hg2;cases hg2
   obtain⟨e1,e3⟩:=ih1 _ _ a
   cases e1;subst e3
   exact ih2 _ _ b
  |resumeJustStarted hg2 hv=>rw[hg] at hg2;cases hg2
  |resumeThrowFresh hg2=>rw[hg] at hg2;cases hg2
  |resumeRunning hg2=>rw[hg] at hg2;cases hg2
  |resumeFinished hg2=>rw[hg] at hg2;cases hg2
 |resumeJustStarted hg hv _ ih=>
  intro e2 s2 h2
  cases h2 with
  |resumeFresh hg2=>exact(hv rfl).elim
  |resumeSuspended hg2=>rw[hg] at hg2;cases hg2
  |resumeJustStarted hg2 hv2 a=>exact ih _ _ a
  |resumeRunning hg2=>rw[hg] at hg2;cases hg2
  |resumeFinished hg2=>rw[hg] at hg2;cases hg2
 |resumeThrowFresh hg _ ih=>
  intro e2 s2 h2
  cases h2 with
  |resumeSuspended hg2=>rw[hg] at hg2;cases hg2
  |resumeThrowFresh hg2 a=>exact ih _ _ a
  |resumeRunning hg2=>rw[hg] at hg2;cases hg2
  |resumeFinished hg2=>rw[hg] at hg2;cases hg2
 |resumeRunning hg _ ih=>
  intro e2 s2 h2
  cases h2 with
  |resumeFresh hg2=>rw[hg] at hg2;cases hg2
  |resumeSuspended hg2=>rw[hg] at hg2;cases hg2
  |resumeJustStarted hg2=>rw[hg] at hg2;cases hg2
  |resumeThrowFresh hg2=>rw[hg] at hg2;cases hg2
  |resumeRunning hg2 a=>exact ih _ _ a
  |resumeFinished hg2=>rw[hg] at hg2;cases hg2
 |resumeFinished hg _ ih=>
  intro e2 s2 h2
  cases h2 with
  |resumeFresh hg2=>rw[hg] at hg2;cases hg2
  |resumeSuspended hg2=>rw[hg] at hg2;cases hg2
  |resumeJustStarted hg2=>rw[hg] at hg2;cases hg2
  |resumeThrowFresh hg2=>rw[hg] at hg2;cases hg2
  |resumeRunning hg2=>rw[hg] at hg2;cases hg2
  |resumeFinished hg2 a=>exact ih _ _ a
 |segRet _ _ ih1 ih2=>
  intro e2 s2 h2
  cases h2 with
  |segRet a b=>
   obtain⟨e1,e3⟩:=ih1 _ _ a
   cases e1;subst e3
   exact ih2 _ _ b
  |segSuspOut hs a=>obtain⟨e1,_⟩:=ih1 _ _ a;cases e1
  |segSuspGen hs a=>obtain⟨e1,_⟩:=ih1 _ _ a;cases e1
 |segGen _ _ ih1 ih2=>
  intro e2 s2 h2
  cases h2 with
  |segGen a b=>
   obtain⟨e1,e3⟩:=ih1 _ _ a
   cases e1;subst e3
   exact ih2 _ _ b
  |segSuspOut hs a=>obtain⟨e1,_⟩:=ih1 _ _ a;cases e1
  |segSuspGen hs a=>obtain⟨e1,_⟩:=ih1 _ _ a;cases e1
 |segSuspOut hs _ ih=>
  intro e2 s2 h2
  cases h2 with
  |segRet a b=>obtain⟨e1,_⟩:=ih _ _ a;cases e1
  |segGen a b=>obtain⟨e1,_⟩:=ih _ _ a;cases e1
  |segSuspOut hs2 a=>
   obtain⟨e1,e3⟩:=ih _ _ a
   cases e1;subst e3
   exact⟨rfl,rfl⟩
  |segSuspGen hs2 a=>rw[hs] at hs2;cases hs2
 |segSuspGen hs _ hq _ ih1 ih2=>
  intro e2 s2 h2
  cases h2 with
  |segRet a b=>obtain⟨e1,_⟩:=ih1 _ _ a;cases e1
  |segGen a b=>obtain⟨e1,_⟩:=ih1 _ _ a;cases e1
  |segSuspOut hs2 a=>rw[hs] at hs2;cases hs2
  |segSuspGen hs2 a hq2 b=>
   rw[hs] at hs2;cases hs2
   obtain⟨e1,e3⟩:=ih1 _ _ a
   cases e1;subst e3
   exact ih2 _ _ b
theorem Ra {M:eA} {Γ:jC} {p:Pos} {g:Nat} {r:Resume} {s s1 s2:af} {r1 r2:GenResult} (h1:Wakes M Γ p g r s r1 s1) (h2:Wakes M Γ p g r s r2 s2):r1=r2/\s1=s2:=by
 unfold Wakes at h1 h2
 cases hg:s.gens[g]? with
 |none=>rw[hg] at h1;cases h1
 |some st=>
  rw[hg] at h1 h2
  cases st with
  |fresh c=>
   cases r with
   |throw x=>exact⟨h1.1.trans h2.1.symm,h1.2.trans h2.2.symm⟩
   |send v=>
    cases v with
    |none=>
     obtain⟨e1,t1,a1,_,rfl,rfl⟩:=h1
     obtain⟨e2,t2,a2,_,rfl,rfl⟩:=h2
     obtain⟨rfl,rfl⟩:=yJ a1 _ _ a2
     exact⟨rfl,rfl⟩
    |_=>exact⟨h1.1.trans h2.1.symm,h1.2.trans h2.2.symm⟩
  |suspended k0 l0 c0 p0 fs cl=>
   obtain⟨e1,t1,a1,_,rfl,rfl⟩:=h1
   obtain⟨e2,t2,a2,_,rfl,rfl⟩:=h2
   obtain⟨rfl,rfl⟩:=yJ a1 _ _ a2
   exact⟨rfl,rfl⟩
  |running=>exact⟨h1.1.trans h2.1.symm,h1.2.trans h2.2.symm⟩
  |finished=>exact⟨h1.1.trans h2.1.symm,h1.2.trans h2.2.symm⟩
theorem Rb {M:eA} {Γ:jC} {α:Type} {b:α} {s0:af} {Q:α->Pos->af->Prop} {E:ac->Pos->af->Prop} (t:Sem α): ∀(p1 p2:Pos) (s:af),p1=p2->b5 M Γ t Q E p1 s->b5 M Γ t (λa _ s'=>a=b/\s'=s0) (λ_ _ _=>False) p2 s-> ∃p',Q b p' s0:=by
 induction t with
 |pure a=>intro p _ s ep h1 h2;rw[b5] at h1 h2;obtain⟨rfl,rfl⟩:=h2;exact⟨p,h1⟩
 |raise e=>intro p _ s ep h1 h2;rw[b5] at h2;exact h2.elim
 |unsupported u=>intro p _ s ep h1 h2;rw[b5] at h2;exact h2.elim
 |finish u=>intro p _ s ep h1 h2;rw[b5] at h2;exact h2.elim
 |rule u k ih=>intro p p2 s ep h1 h2;rw[b5] at h1 h2;exact ih () p p2 s ep h1 h2
 |«at» u k ih=>intro p p2 s ep h1 h2;rw[b5] at h1 h2;exact ih () _ _ s rfl h1 h2
 |load a u k ih=>
  intro p p2 s ep h1 h2
  rw[b5] at h1 h2
  obtain⟨o,e1,h1⟩:=h1
  obtain⟨o2,e2,h2⟩:=h2
  rw[e1] at e2;cases e2
  exact ih o p p2 s ep h1 h2
 |update a u f k ih=>intro p p2 s ep h1 h2;rw[b5] at h1 h2;exact ih () p p2 _ ep h1.2 h2.2
 |loadIfAlive a k ih=>intro p p2 s ep h1 h2;rw[b5] at h1 h2;exact ih _ p p2 s ep h1 h2
 |point u k ih=>intro p p2 s ep h1 h2;rw[b5] at h1 h2;exact ih () p p2 s ep h1 h2
 |register u k ih=>intro p _ s ep h1 h2;rw[b5] at h2;exact h2.elim
 |alloc o k ih=>intro p p2 s ep h1 h2;rw[b5] at h1 h2;exact ih _ p p2 _ ep h1 h2
 |fresh k ih=>intro p p2 s ep h1 h2;rw[b5] at h1 h2;exact ih _ p p2 _ ep h1 h2
 |ask k ih=>intro p p2 s ep h1 h2;rw[b5] at h1 h2;exact ih _ p p2 _ ep h1 h2
 |choose src n k ih=>intro p p2 s ep h1 h2;rw[b5] at h1 h2;exact ih _ p p2 _ ep h1.2 h2.2
 |os q l k ih=>intro p p2 s ep h1 h2;rw[b5] at h1 h2;exact ih _ p p2 _ ep h1 h2
 |call c h g l k ih=>
  intro p p2 s ep h1 h2
  subst ep
  rw[b5] at h1 h2
  obtain⟨r1,s1,a1,h1⟩:=h1
  obtain⟨r2,s2,a2,h2⟩:=h2
  obtain⟨e1,e2⟩:=yJ a1 _ _ a2
  cases e1
  subst e2
  exact ih _ p p _ rfl h1 h2
 |handled own k ih=>intro p p2 s ep h1 h2;rw[b5] at h1 h2;exact ih _ p p2 _ ep h1 h2
 |genState g k ih=>
  intro p p2 s ep h1 h2
  rw[b5] at h1 h2
  obtain⟨o,e1,h1⟩:=h1
  obtain⟨o2,e2,h2⟩:=h2
  rw[e1] at e2;cases e2
  exact ih _ p p2 s ep h1 h2
 |newGen c k ih=>intro p p2 s ep h1 h2;rw[b5] at h1 h2;exact ih _ p p2 _ ep h1 h2
 |resume g r l k ih=>
  intro p p2 s ep h1 h2
  subst ep
  rw[b5] at h1 h2
  obtain⟨r1,s1,a1,h1⟩:=h1
  obtain⟨r2,s2,a2,h2⟩:=h2
  obtain⟨rfl,rfl⟩:=Ra a1 a2
  exact ih _ p p _ rfl h1 h2
 |yield v g l k ih=>intro p _ s ep h1 h2;rw[b5] at h2;exact h2.elim
 |stack k ih=>intro p p2 s ep h1 h2;subst ep;rw[b5] at h1 h2;exact ih _ p p _ rfl h1 h2
 |fork c k ih=>intro p _ s ep h1 h2;rw[b5] at h2;exact h2.elim
 |thread k ih=>intro p p2 s ep h1 h2;rw[b5] at h1 h2;exact ih _ p p2 _ ep h1 h2
 |await a f d l k ih=>intro p _ s ep h1 h2;rw[b5] at h2;exact h2.elim
abbrev k2 (k:gu) (st:bK):bK:=qr k (arrOf st) (pendingOf st) (gallopOf st) (failedOf st)
class Ag (G:cy->Prop) (α:Type) where
 ag:α->Prop
section
variable {G:cy->Prop}
instance Vf:Ag G cy:=⟨G⟩
instance Vg:Ag G (Array cy):=⟨λa=> ∀x∈a,G x⟩
instance Vh:Ag G Nat:=⟨λ_=>True⟩
instance Vi:Ag G Bool:=⟨λ_=>True⟩
instance Vj:Ag G PUnit:=⟨λ_=>True⟩
instance Vk {α:Type} [Ag G α]:Ag G (Option α):=⟨λo=> ∀a,o=some a->Ag.ag G a⟩
instance Vl {α β:Type} [Ag G α] [Ag G β]:Ag G (α×β):=⟨λx=>Ag.ag G x.1/\Ag.ag G x.2⟩
instance Vm {α:Type} [Ag G α]:Ag G (ForInStep α):=⟨λx=>match x with| .done a=>Ag.ag G a| .yield a=>Ag.ag G a⟩
end
section
variable (M:eA) (Γ:jC) (s:af) (ka kb:gu) (G:cy->Prop)
def jl (st:bK):Prop:=kindOf st=ka/\ ∀x∈arrOf st,G x
def bV {α:Type} [Ag G α] (m1 m2:StateT bK Sem α):Prop:=
 ∀(st:bK) (p1 p2:Pos) (Q1:α->bK->Pos->af->Prop) (E1:ac->Pos->af->Prop) (Q2:α->bK->Prop),jl ka G st->(∀a st' p',Ag.ag G a->jl ka G st'->Q1 a st' p' s->Q2 a (k2 kb st')) ->
  b5 M Γ (m1.run st) (λr p' s'=>Q1 r.1 r.2 p' s') E1 p1 s->b5 M Γ (m2.run (k2 kb st)) (λr _ s'=>s'=s/\Q2 r.1 r.2) (λ_ _ _=>False) p2 s
end
section
variable {M:eA} {Γ:jC} {s:af} {ka kb:gu} {G:cy->Prop} {α β:Type} [Ag G α] [Ag G β]
theorem bW {a:α} (h:Ag.ag G a):bV M Γ s ka kb G (pure a) (pure a):=by
 intro st p1 p2 Q1 E1 Q2 ok hq hw
 rw[Am] at hw ⊢
 rw[kg] at hw ⊢
 exact⟨rfl,hq a st p1 h ok hw⟩
theorem cv {m1 m2:StateT bK Sem α} {f1 f2:α->StateT bK Sem β} (h:bV M Γ s ka kb G m1 m2) (hf: ∀a,Ag.ag G a->bV M Γ s ka kb G (f1 a) (f2 a)):bV M Γ s ka kb G (m1 >>= f1) (m2 >>= f2):=by
 intro st p1 p2 Q1 E1 Q2 ok hq hw
 rw[An] at hw ⊢
 rw[mm] at hw ⊢
 have:=h st p1 p2 (λa st' p' s'=>b5 M Γ ((f1 a).run st') (λr p' s'=>Q1 r.1 r.2 p' s') E1 p' s') E1 (λa st2=> ∀p2,b5 M Γ ((f2 a).run st2) (λr _ s'=>s'=s/\Q2 r.1 r.2) (λ_ _ _=>False) p2 s) ok (λa st' p' ha ok' h1 p3=>hf a ha st' p' p3 Q1 E1 Q2 ok' hq h1) hw
 refine uz M Γ _ (λr p' s' hr=>?_) (λe p' s' he=>he) p2 s this
 obtain⟨rfl,hr⟩:=hr
 exact hr p'
theorem gg {f1 f2:bK->StateT bK Sem β} (hf: ∀st,jl ka G st->bV M Γ s ka kb G (f1 st) (f2 (k2 kb st))):bV M Γ s ka kb G (get >>= f1) (get >>= f2):=by
 intro st p1 p2 Q1 E1 Q2 ok hq hw
 rw[An,U2] at hw ⊢
 rw[mm] at hw ⊢
 rw[kg] at hw ⊢
 exact hf st ok st p1 p2 Q1 E1 Q2 ok hq hw
theorem jm {g:bK->bK} (h1: ∀st,g (k2 kb st)=k2 kb (g st)) (h2: ∀st,jl ka G st->jl ka G (g st)):bV M Γ s ka kb G (modify g:StateT bK Sem PUnit) (modify g):=by
 intro st p1 p2 Q1 E1 Q2 ok hq hw
 rw[StateT.run_modify] at hw ⊢
 rw[kg] at hw ⊢
 refine⟨rfl,?_⟩
 show Q2 ⟨⟩ (g (k2 kb st))
 rw[h1]
 exact hq _ _ p1 fb (h2 st ok) hw
theorem Rc {st1 st2:bK} (h1:st2=k2 kb st1) (h2:jl ka G st1):bV M Γ s ka kb G (set st1:StateT bK Sem PUnit) (set st2):=by
 intro st p1 p2 Q1 E1 Q2 ok hq hw
 rw[StateT.run_set] at hw ⊢
 rw[kg] at hw ⊢
 refine⟨rfl,?_⟩
 show Q2 ⟨⟩ st2
 rw[h1]
 exact hq _ _ p1 fb h2 hw
theorem Fw {m1 m2:StateT bK Sem α} (h: ∀st p Q E,b5 M Γ (m1.run st) Q E p s->False):bV M Γ s ka kb G m1 m2:=λst p1 p2 Q1 E1 Q2 ok hq hw=>(h st p1 _ _ hw).elim
theorem Fx {γ:Type}: ∀(l:List γ) (b:β) {f1 f2:γ->β->StateT bK Sem (ForInStep β)},Ag.ag G b->(∀x b,Ag.ag G b->bV M Γ s ka kb G (f1 x b) (f2 x b))->bV M Γ s ka kb G (forIn l b f1) (forIn l b f2)
 | [],b,f1,f2,hb,hf=>by rw[tS,tS];exact bW hb
 |x::l,b,f1,f2,hb,hf=>by
  rw[zG,zG]
  refine cv (hf x b hb) λr hr=>?_
  cases r with
  |done b'=>exact bW hr
  |yield b'=>exact Fx l b' hr hf
end
section
variable {G:cy->Prop} {α β:Type} [Ag G α] [Ag G β]
theorem jn {n:Nat}:Ag.ag G n:=fb
theorem jo {n:Bool}:Ag.ag G n:=fb
theorem dC {n:Unit}:Ag.ag G n:=fb
theorem yK {n:PUnit}:Ag.ag G n:=fb
theorem dQ:Ag.ag G (none:Option α):=λ_ e=>nomatch e
theorem iL {a:α} (h:Ag.ag G a):Ag.ag G (some a):=λ_ e=>by cases e;exact h
theorem Fy {a:α} (h:Ag.ag G (some a)):Ag.ag G a:=h a rfl
theorem yL {a:α} {b:β} (h:Ag.ag G a) (k:Ag.ag G b):Ag.ag G (a,b):=⟨h,k⟩
theorem yM {x:α×β} (h:Ag.ag G x):Ag.ag G x.1:=h.1
theorem yO {x:α×β} (h:Ag.ag G x):Ag.ag G x.2:=h.2
theorem yP {a:α} (h:Ag.ag G a):Ag.ag G (tU a):=h
theorem yQ {a:α} (h:Ag.ag G a):Ag.ag G (ForInStep.done a):=h
theorem yR {a:Array cy} {x:cy} (h:Ag.ag G a) (k:Ag.ag G x):Ag.ag G (a.push x):=λy hy=>by
 rcases Array.mem_push.mp hy with hy|rfl
 ·exact h y hy
 ·exact k
theorem yS {a b:Array cy} (h:Ag.ag G a) (k:Ag.ag G b):Ag.ag G (a++b):=λy hy=>by
 rcases Array.mem_append.mp hy with hy|hy
 ·exact h y hy
 ·exact k y hy
theorem lS {a:Array cy} {i j:Nat} (h:Ag.ag G a):Ag.ag G (a.extract i j):=λy hy=>by
 obtain⟨k,hk,e⟩:=Array.mem_extract_iff_getElem.mp hy
 exact h y (by rw[←e];exact z0 _)
theorem yT {a:Array cy} (h:Ag.ag G a):Ag.ag G a.reverse:=λy hy=>h y (Array.mem_reverse.mp hy)
theorem yU {x:cy} (h:Ag.ag G x):Ag.ag G #[x]:=λy hy=>by
 have:y=x:=by simpa using hy
 rw[this];exact h
end
section
variable {M:eA} {Γ:jC} {s:af} {ka kb:gu} {G:cy->Prop} {α β γ δ:Type} [Ag G α] [Ag G β] [Ag G γ] [Ag G δ]
def Alike (M:eA) (Γ:jC) (s:af) (ka kb:gu) (G:cy->Prop):Prop:= ∀x y:cy,G x->G y-> ∃b:Bool,(∀p,b5 M Γ (keyLt' ka x.1 y.1) (λa _ s'=>a=b/\s'=s) (λ_ _ _=>False) p s)/\ ∀p,b5 M Γ (keyLt' kb x.1 y.1) (λa _ s'=>a=b/\s'=s) (λ_ _ _=>False) p s
theorem nn (hA:Alike M Γ s ka kb G) {x y:cy} (hx:Ag.ag G x) (hy:Ag.ag G y):bV M Γ s ka kb G (lt' x y) (lt' x y):=by
 intro st p1 p2 Q1 E1 Q2 ok hq hw
 obtain⟨b,h1,h2⟩:=hA x y hx hy
 have e1: ∀p,b5 M Γ ((keyLt' ka x.1 y.1).attempt) (λa _ s'=>a= .ok b/\s'=s) (λ_ _ _=>False) p s:=λp=>by
  rw[U3]
  exact uz M Γ _ (λa _ s' h=>⟨by rw[h.1],h.2⟩) (λ_ _ _ h=>h.elim) p s (h1 p)
 have e2: ∀p,b5 M Γ ((keyLt' kb x.1 y.1).attempt) (λa _ s'=>a= .ok b/\s'=s) (λ_ _ _=>False) p s:=λp=>by
  rw[U3]
  exact uz M Γ _ (λa _ s' h=>⟨by rw[h.1],h.2⟩) (λ_ _ _ h=>h.elim) p s (h2 p)
 rw[lt'_eq] at hw ⊢
 rw[An,U2] at hw ⊢
 rw[mm,kg] at hw ⊢
 dsimp only at hw ⊢
 rw[An,mm] at hw ⊢
 have f1: ∀(t:Sem (Except ac Bool)) (st:bK),(liftM t:StateT bK Sem _).run st=t >>= λa=>pure (a,st):=λt st=>by
  show (Ao t:StateT bK Sem _).run st=_
  rw[Ap]
 rw[f1,mm] at hw ⊢
 rw[ok.1] at hw
 obtain⟨p',hw⟩:=Rb _ p1 p1 s rfl hw (e1 p1)
 rw[kg] at hw
 dsimp only at hw
 rw[Am,kg] at hw
 refine uz M Γ _ (λa p' s' h=>?_) (λ_ _ _ h=>h) p2 s (e2 p2)
 obtain⟨rfl,rfl⟩:=h
 rw[kg]
 dsimp only
 rw[Am,kg]
 exact⟨rfl,hq _ _ _ (iL jo) ok hw⟩
theorem jp {arr:Array cy} {i:Nat} (h:Ag.ag G arr):bV M Γ s ka kb G (elem' arr i) (elem' arr i):=by
 rw[elem'_eq]
 cases e:arr[i]? with
 |none=>
  refine Fw λst p Q E hw=>?_
  have f1: ∀(t:Sem cy) (st:bK),(liftM t:StateT bK Sem _).run st=t >>= λa=>pure (a,st):=λt st=>by
   show (Ao t:StateT bK Sem _).run st=_
   rw[Ap]
  have hw':b5 M Γ ((liftM (unsupported "internal:list.sort.index":Sem cy):StateT bK Sem _).run st) Q E p s:=hw
  rw[f1,mm] at hw'
  exact hw'.elim
 |some x=>exact bW (h x (U4 e))
theorem dZ {c:Prop} [Decidable c] {a1 a2 b1 b2:StateT bK Sem α} (h1:c->bV M Γ s ka kb G a1 a2) (h2: ¬c->bV M Γ s ka kb G b1 b2):bV M Γ s ka kb G (if c then a1 else b1) (if c then a2 else b2):=by
 by_cases h:c
 ·rw[if_pos h,if_pos h];exact h1 h
 ·rw[if_neg h,if_neg h];exact h2 h
theorem kS {x:String}:bV M Γ s ka kb G (liftM (rule x):StateT bK Sem Unit) (liftM (rule x)):=by
 intro st p1 p2 Q1 E1 Q2 ok hq hw
 have f1: ∀(t:Sem Unit) (st:bK),(liftM t:StateT bK Sem _).run st=t >>= λa=>pure (a,st):=λt st=>by
  show (Ao t:StateT bK Sem _).run st=_
  rw[Ap]
 rw[f1,mm] at hw ⊢
 have hw':b5 M Γ (pure ((),st):Sem (Unit×bK)) (λr p' s'=>Q1 r.1 r.2 p' s') E1 p1 s:=hw
 show b5 M Γ (pure ((),k2 kb st):Sem (Unit×bK)) (λr _ s'=>s'=s/\Q2 r.1 r.2) (λ_ _ _=>False) p2 s
 rw[kg] at hw' ⊢
 exact⟨rfl,hq _ _ _ fb ok hw'⟩
theorem nq {m1 m2:StateT bK Sem (Option α)} {f1 f2:Option α->StateT bK Sem β} (h:bV M Γ s ka kb G m1 m2) (hn:bV M Γ s ka kb G (f1 none) (f2 none)) (hs: ∀a,Ag.ag G a->bV M Γ s ka kb G (f1 (some a)) (f2 (some a))):bV M Γ s ka kb G (m1 >>= f1) (m2 >>= f2):=
 cv h λa ha=>match a,ha with
  |none,_=>hn
  |some a,ha=>hs a (Fy ha)
theorem gJ {m1 m2:StateT bK Sem (Option α×γ)} {f1 f2:Option α×γ->StateT bK Sem β} (h:bV M Γ s ka kb G m1 m2) (hn: ∀c,Ag.ag G c->bV M Γ s ka kb G (f1 (none,c)) (f2 (none,c))) (hs: ∀a c,Ag.ag G a->Ag.ag G c->bV M Γ s ka kb G (f1 (some a,c)) (f2 (some a,c))):bV M Γ s ka kb G (m1 >>= f1) (m2 >>= f2):=
 cv h λa ha=>match a,ha with
  |(none,c),ha=>hn c ha.2
  |(some a,c),ha=>hs a c (Fy ha.1) ha.2
theorem gK {a b:Nat} {c:β} {f1 f2:Nat->β->StateT bK Sem (ForInStep β)} (hc:Ag.ag G c) (hf: ∀x b,Ag.ag G b->bV M Γ s ka kb G (f1 x b) (f2 x b)):bV M Γ s ka kb G (forIn [a:b] c f1) (forIn [a:b] c f2):=by
 rw[Im,Im]
 exact Fx _ c hc hf
theorem yV (hA:Alike M Γ s ka kb G) {i j:Nat}:bV M Γ s ka kb G (ltAt' i j) (ltAt' i j):=by
 rw[ltAt'_eq]
 refine gg λst ok=>?_
 exact cv (jp ok.2) λx hx=>cv (jp ok.2) λy hy=>nn hA hx hy
theorem Re {st:bK} {a:Array cy} (h:jl ka G st) (k:Ag.ag G a):jl ka G (setArr st a):=⟨h.1,k⟩
theorem Fz {st:bK} {a:Array cy} (h:jl ka G st) (k:a.Perm (arrOf st)):jl ka G (setArr st a):=⟨h.1,λx hx=>h.2 x (k.mem_iff.mp hx)⟩
theorem yW {i j:Nat}:bV M Γ s ka kb G (reverseSlice' i j) (reverseSlice' i j):=by
 rw[reverseSlice'_eq]
 exact jm (λst=>rfl) λst ok=>Fz ok (mirror_perm _ _ _ _)
theorem yX {i j:Nat}:bV M Γ s ka kb G (moveDown' i j) (moveDown' i j):=by
 rw[moveDown'_eq]
 exact jm (λst=>rfl) λst ok=>Fz ok (bubble_perm _ _ _)
theorem yY {g:Nat}:bV M Γ s ka kb G (setMinGallop' g) (setMinGallop' g):=by
 rw[setMinGallop'_eq]
 exact jm (λst=>rfl) λst ok=>⟨ok.1,ok.2⟩
end
local macro_rules| `(tactic|trivial)=> `(tactic|(repeat' (with_reducible first|exact jn|exact jo|exact dC|exact yK|exact dQ|assumption|refine yM ?_|refine yO ?_|refine yL ?_ ?_|refine iL ?_|refine yP ?_|refine yQ ?_|refine yR ?_ ?_|refine yS ?_ ?_|refine lS ?_|refine yT ?_|refine yU ?_)))
local macro_rules| `(tactic|get_elem_tactic_extensible)=> `(tactic|(first|with_reducible exact yV (by assumption)|with_reducible exact yW|with_reducible exact yX|with_reducible exact yY|with_reducible exact kS|(with_reducible refine nn (by assumption) ?_ ?_;trivial;trivial)|(with_reducible refine jp ?_;trivial)|(with_reducible refine gK ?_ λx b hb=>?_;(trivial))|(with_reducible refine gg λst ok=>?_)|(with_reducible refine nq ?_ ?_ λa ha=>?_)|(with_reducible refine gJ ?_ (λc hc=>?_) λa c ha hc=>?_)|(with_reducible refine cv ?_ λa ha=>?_)|(with_reducible refine dZ (λh=>?_) λh=>?_)|(with_reducible refine bW ?_;trivial)|dsimp only))
section
variable {M:eA} {Γ:jC} {s:af} {ka kb:gu} {G:cy->Prop}
theorem tH {α:Type} [Ag G α] {x:String}:bV M Γ s ka kb G (liftM (unsupported x:Sem α):StateT bK Sem α) (liftM (unsupported x:Sem α)):=by
 refine Fw λst p Q E hw=>?_
 have f1: ∀(t:Sem α) (st:bK),(liftM t:StateT bK Sem _).run st=t >>= λa=>pure (a,st):=λt st=>by
  show (Ao t:StateT bK Sem _).run st=_
  rw[Ap]
 rw[f1,mm] at hw
 exact hw.elim
theorem Rf (hA:Alike M Γ s ka kb G) {lo n:Nat}:bV M Γ s ka kb G (countRun' lo n) (countRun' lo n):=by
 rw[countRun'_eq]
 repeat' get_elem_tactic_extensible
theorem Rg (hA:Alike M Γ s ka kb G) {lo n ok:Nat}:bV M Γ s ka kb G (binarySort' lo n ok) (binarySort' lo n ok):=by
 rw[binarySort'_eq]
 repeat' get_elem_tactic_extensible
theorem Rh (hA:Alike M Γ s ka kb G) {left:Bool} {key:cy} {arr:Array cy} {base i:Nat} (hk:Ag.ag G key) (ha:Ag.ag G arr):bV M Γ s ka kb G (beyond' left key arr base i) (beyond' left key arr base i):=by
 unfold beyond'
 refine cv (jp ha) λx hx=>dZ (λ_=>nn hA hx hk) λ_=>cv (nn hA hk hx) λa _=>bW ?_
 cases a with
 |none=>exact dQ
 |some a=>exact iL jo
theorem tI (hA:Alike M Γ s ka kb G) {left:Bool} {key:cy} {arr:Array cy} {base n hint:Nat} (hk:Ag.ag G key) (ha:Ag.ag G arr):bV M Γ s ka kb G (gallop' left key arr base n hint) (gallop' left key arr base n hint):=by
 rw[gallop'_eq]
 have hB:=λi=>Rh (left:=left) (base:=base) (i:=i) hA hk ha
 repeat' (first|with_reducible exact hB _|get_elem_tactic_extensible)
end
section
variable {M:eA} {Γ:jC} {s:af} {ka kb:gu} {G:cy->Prop}
theorem Ri (hA:Alike M Γ s ka kb G) {a b:Array cy} (ha:Ag.ag G a) (hb:Ag.ag G b):bV M Γ s ka kb G (mergeLo' a b) (mergeLo' a b):=by
 rw[mergeLo'_eq]
 refine cv kS λ_ _=>?_
 dsimp only
 refine cv (jp hb) λx hx=>?_
 refine dZ (λh=>bW (by trivial)) λh=>?_
 refine dZ (λh=>bW (by trivial)) λh=>?_
 refine gg λst ok=>?_
 refine gJ (gK (by trivial) λx b hb=>?_) (λc hc=>?_) λa c ha hc=>?_
 ·refine gJ (gK (by trivial) λx b hb=>?_) (λc hc=>?_) λa c ha hc=>?_
  ·repeat' get_elem_tactic_extensible
  ·dsimp only
   refine cv kS λ_ _=>?_
   refine gJ (gK (by trivial) λx b hb=>?_) (λc hc=>?_) λa c ha hc=>?_
   ·repeat' (first|(with_reducible refine tI hA ?_ ?_;trivial;trivial)|get_elem_tactic_extensible)
   ·repeat' get_elem_tactic_extensible
   ·repeat' get_elem_tactic_extensible
  ·repeat' get_elem_tactic_extensible
 ·with_reducible exact tH
 ·repeat' get_elem_tactic_extensible
theorem Rj (hA:Alike M Γ s ka kb G) {a b:Array cy} (ha:Ag.ag G a) (hb:Ag.ag G b):bV M Γ s ka kb G (mergeHi' a b) (mergeHi' a b):=by
 rw[mergeHi'_eq]
 refine cv kS λ_ _=>?_
 dsimp only
 refine cv (jp ha) λx hx=>?_
 refine dZ (λh=>bW (by trivial)) λh=>?_
 refine dZ (λh=>bW (by trivial)) λh=>?_
 refine gg λst ok=>?_
 refine gJ (gK (by trivial) λx b hb=>?_) (λc hc=>?_) λa c ha hc=>?_
 ·refine gJ (gK (by trivial) λx b hb=>?_) (λc hc=>?_) λa c ha hc=>?_
  ·repeat' get_elem_tactic_extensible
  ·dsimp only
   refine cv kS λ_ _=>?_
   refine gJ (gK (by trivial) λx b hb=>?_) (λc hc=>?_) λa c ha hc=>?_
   ·repeat' (first|(with_reducible refine tI hA ?_ ?_;trivial;trivial)|get_elem_tactic_extensible)
   ·repeat' get_elem_tactic_extensible
   ·repeat' get_elem_tactic_extensible
  ·repeat' get_elem_tactic_extensible
 ·with_reducible exact tH
 ·repeat' get_elem_tactic_extensible
end
theorem FA {kb:gu} {st:bK}:arrOf (k2 kb st)=arrOf st:=rfl
theorem pI {kb:gu} {st:bK}:pendingOf (k2 kb st)=pendingOf st:=rfl
section
variable {M:eA} {Γ:jC} {s:af} {ka kb:gu} {G:cy->Prop}
theorem FC {sa:Nat}: ∀(l:List (cy×Nat)) (a:Array cy),(∀p∈l,G p.1)->Ag.ag G a->Ag.ag G (l.foldl (λa (p,j)=>a.setIfInBounds (sa+j) p) a)
 | [],a,_,h=>h
 |p::l,a,hl,h=>by
  rw[nM]
  refine FC l _ (λq hq=>hl q (bq _ hq)) ?_
  intro x hx
  rcases Array.mem_or_eq_of_mem_setIfInBounds hx with hx|hx
  ·exact h x hx
  ·rw[hx];exact hl p bB
theorem yZ (hA:Alike M Γ s ka kb G) {i:Nat}:bV M Γ s ka kb G (mergeAt' i) (mergeAt' i):=by
 rw[mergeAt'_eq]
 refine gg λst ok=>?_
 simp only[pI,FA]
 generalize (pendingOf st)[i]?=o1
 generalize (pendingOf st)[i+1]?=o2
 have hr:Ag.ag G (arrOf st):=ok.2
 rcases o1 with _|⟨sa,na,pw⟩
 ·with_reducible exact tH
 ·rcases o2 with _|⟨sb,nb,pw2⟩
  ·with_reducible exact tH
  ·dsimp only
   refine cv (Rc rfl ⟨ok.1,ok.2⟩) λ_ _=>?_
   refine cv (jp hr) λx hx=>?_
   refine nq (tI hA hx hr) (bW jo) λk hk=>?_
   dsimp only
   refine dZ (λ_=>bW jo) λ_=>?_
   refine cv (jp hr) λy hy=>?_
   refine nq (tI hA hy hr) (bW jo) λk2 hk2=>?_
   dsimp only
   refine dZ (λ_=>bW jo) λ_=>?_
   have fin: ∀m:Array cy,Ag.ag G m->bV M Γ s ka kb G (do
     modify λs=>setArr s (m.toList.zipIdx.foldl (λa (p,j)=>a.setIfInBounds (sa+k+j) p) (arrOf s))
     return (failedOf (←get)).isNone) (do
     modify λs=>setArr s (m.toList.zipIdx.foldl (λa (p,j)=>a.setIfInBounds (sa+k+j) p) (arrOf s))
     return (failedOf (←get)).isNone):=λm hm=>
    cv (jm (λ_=>rfl) λst ok=>Re ok (FC _ _ (λp hp=>hm p.1 (pN.mp (List.fst_mem_of_mem_zipIdx hp))) ok.2)) λ_ _=>gg λst ok=>bW jo
   refine dZ (λ_=>?_) λ_=>?_
   ·exact cv (Ri hA (lS hr) (lS hr)) λm hm=>fin m hm
   ·exact cv (Rj hA (lS hr) (lS hr)) λm hm=>fin m hm
theorem Rk (hA:Alike M Γ s ka kb G):bV M Γ s ka kb G sortRuns' sortRuns':=by
  rw[sortRuns'_eq]
  refine gg λst ok=>?_
  simp only[FA]
  refine gJ (gK (by trivial) λx b hb=>?_) (λc hc=>?_) λa c ha hc=>?_
  · refine dZ (λ_=>bW (by trivial)) λ_=>?_
    refine nq (Rf hA) (bW (by trivial)) λf hf=>?_
    dsimp only
    refine dZ (λ_=>?_) λ_=>?_
    · refine cv kS λ_ _=>cv (Rg hA) λz _=>dZ (λ_=>bW ⟨iL dC,jn⟩) λ_=>?_
      refine gg λst2 ok2=>?_
      simp only[pI]
      generalize (pendingOf st2).back?=o
      rcases o with _|⟨s1,n1,z⟩
      · exact cv (jm (λ_=>rfl) λ_ o=>⟨o.1,o.2⟩) λ_ _=>bW ⟨dQ,jn⟩
      · dsimp only
        refine gJ (gK ⟨dQ,dC⟩ λx b hb=>?_) (λc hc=>?_) λa c ha hc=>bW ⟨iL ha,jn⟩
        · refine gg λst3 ok3=>?_
          simp only[pI]
          by_cases hp:(pendingOf st3).size > 1
          · rw[if_pos hp]
            generalize (pendingOf st3)[(pendingOf st3).size-2]?=o
            rcases o with _|⟨s4,n4,z4⟩
            · exact bW ⟨dQ,dC⟩
            · exact dZ (λ_=>bW ⟨dQ,dC⟩) λ_=>cv (yZ hA) λz _=>dZ (λ_=>bW ⟨iL dC,dC⟩) λ_=>bW ⟨dQ,dC⟩
          · rw[if_neg hp]
            exact bW ⟨dQ,dC⟩
        · exact cv (jm (λ_=>rfl) λ_ o=>⟨o.1,o.2⟩) λ_ _=>cv (jm (λ_=>rfl) λ_ o=>⟨o.1,o.2⟩) λ_ _=>bW ⟨dQ,jn⟩
    · refine gg λst2 ok2=>?_
      simp only[pI]
      generalize (pendingOf st2).back?=o
      rcases o with _|⟨s1,n1,z⟩
      · exact cv (jm (λ_=>rfl) λ_ o=>⟨o.1,o.2⟩) λ_ _=>bW ⟨dQ,jn⟩
      · dsimp only
        refine gJ (gK ⟨dQ,dC⟩ λx b hb=>?_) (λc hc=>?_) λa c ha hc=>bW ⟨iL ha,jn⟩
        · refine gg λst3 ok3=>?_
          simp only[pI]
          by_cases hp:(pendingOf st3).size > 1
          · rw[if_pos hp]
            generalize (pendingOf st3)[(pendingOf st3).size-2]?=o
            rcases o with _|⟨s4,n4,z4⟩
            · exact bW ⟨dQ,dC⟩
            · exact dZ (λ_=>bW ⟨dQ,dC⟩) λ_=>cv (yZ hA) λz _=>dZ (λ_=>bW ⟨iL dC,dC⟩) λ_=>bW ⟨dQ,dC⟩
          · rw[if_neg hp]
            exact bW ⟨dQ,dC⟩
        · exact cv (jm (λ_=>rfl) λ_ o=>⟨o.1,o.2⟩) λ_ _=>cv (jm (λ_=>rfl) λ_ o=>⟨o.1,o.2⟩) λ_ _=>bW ⟨dQ,jn⟩
  · dsimp only
    refine gJ (gK ⟨dQ,dC⟩ λx b hb=>?_) (λc hc=>bW dC) λa c ha hc=>bW ha
    refine gg λst3 ok3=>?_
    exact dZ (λ_=>bW ⟨dQ,dC⟩) λ_=>cv (yZ hA) λz _=>dZ (λ_=>bW ⟨iL dC,dC⟩) λ_=>bW ⟨dQ,dC⟩
  · exact bW (by trivial)
end
abbrev nr (h:aF) (a:aa) (vs:List ac):aF:=((h.update a (pU λ_=> #[])).push (seqObj "tuple" vs.toArray 0)).push (seqObj "list" #[] 0)
section
variable {prog:aI} {w:aE} {A:a7} {E:ac->af->Prop} {s:af}
theorem y1 {M:eA} {α β:Type} {f:α->Sem β} {P:β->Prop}: ∀(l:List α) {Q:List β->af->Prop},(∀x∈l,∀Q:β->af->Prop,(∀b,P b->Q b s)->wpAny M A (f x) Q E s)->(∀bs,(∀b∈bs,P b)->Q bs s)->wpAny M A (l.mapM f) Q E s
 | [],Q,_,h=>by rw[List.mapM_nil];exact ay (h [] λb hb=>nomatch hb)
 |x::l,Q,hf,h=>by
  rw[List.mapM_cons]
  refine aj (hf x bB _ λb hb=>aj (y1 l (λy hy=>hf y (bq _ hy)) λbs hbs=>ay (h _ λc hc=>?_)))
  rcases be.mp hc with rfl|hc
  ·exact hb
  ·exact hbs c hc
theorem FD {M:eA} (vs:List ac) {Q:Option ac->af->Prop} (ht: ∀v∈vs,∃T,s.TypeIs v T) (h: ∀o,Q o s):wpAny M A (oneTypeOnly' vs.toArray) Q E s:=by
 rw[oneTypeOnly'_eq,U5,map_eq_pure_bind]
 refine aj (aj (y1 (P:=λ_=>True) vs (λv hv Q' hq=>?_) λbs _=>ay ?_))
 ·obtain⟨T,hT⟩:=ht v hv
  exact nE hT (hq _ fb)
 ·cases bs.toArray[0]? with
  |none=>exact ay (h _)
  |some t=>exact ay (h _)
theorem Rl {M:eA} {a:aa} {o:Obj} {xs:Array ac} {n:Nat} {Q:Option ac->af->Prop} (ho:s.heap.get? a=some o) (hc:o.cls= .type "tuple") (hd:o.data= .seq xs n) (h:Q xs[0]? s):wpAny M A (firstOfTuple' (.ref a)) Q E s:=by
 show wpAny M A (do
  if (←typeOf (.ref a)) != .type "tuple" then return none
  return (←Wu (.ref a))[0]?) Q E s
 refine aj (nE ⟨o,ho,hc⟩ ?_)
 rw[if_neg (by simp)]
 exact aj (listItems_at ho hd (ay h))
theorem kind_any {M:eA} {vs:List ac} {Q:gu->af->Prop} (hv: ∀v∈vs,∃a o xs n,v= .ref a/\s.heap.get? a=some o/\o.cls= .type "tuple"/\o.data= .seq xs n/\ ∀x∈xs,∃T,s.TypeIs x T) (h: ∀kd,Q kd s):wpAny M A (keyKind' vs.toArray) Q E s:=by
 rw[keyKind'_eq,U5,map_eq_pure_bind]
 refine aj (aj (y1 (P:=λo=> ∀v,o=some v-> ∃T,s.TypeIs v T) vs (λv hm Q' hq=>?_) λbs hbs=>ay ?_))
 ·obtain⟨a,o,xs,n,rfl,ho,hc,hd,hx⟩:=hv v hm
  exact Rl ho hc hd (hq _ λv e=>hx v (U4 e))
 ·refine Aq (λ_=>aj (Ih ?_)) λ_=>Aq (λ_=>ay (h _)) λ_=>?_
  ·have e:(bs.toArray.filterMap id)=(bs.filterMap id).toArray:=by simp
   rw[e]
   refine aj (FD _ (λv hv=>?_) λo=>ay (h _))
   obtain⟨o,ho,e⟩:=nz.mp hv
   exact hbs o ho v e
  ·refine aj (FD vs (λv hm=>?_) λo=>ay (h _))
   obtain⟨a,o,xs,n,rfl,ho,hc,_⟩:=hv v hm
   exact⟨"tuple",o,ho,hc⟩
theorem Rm {a:aa} {vs:List ac} {n:Nat} {P:Fin->af->Prop} {R:bK->Prop} (ho:s.heap.get? a=some (seqObj "list" vs.toArray n)) (ci:vs.length<=sizeLine)
  (one:vs.length<2->R (qr general' (pairsOf vs) #[] 7 none)) (kinds:2<=vs.length-> ∀Q:gu->af->Prop,(∀kd,Q kd {s with heap:=nr s.heap a vs})->wpAny (model prog w) A (keyKind' vs.toArray) Q E {s with heap:=nr s.heap a vs})
  (runs:2<=vs.length-> ∀kd,wpS (model prog w) A E {s with heap:=nr s.heap a vs} sortRuns' (λ_ st=>R st) (qr kd (pairsOf vs) #[] 7 none)) (good: ∀st,R st->failedOf st=none/\(arrOf st).size=vs.length)
  (h: ∀st,R st->P (.done (.ret .none)) {s with heap:=sortedHeap s.heap a vs ((arrOf st).map (·.2))}):wpAny (model prog w) A (eC.«list.sort» ⟨[.ref a],[]⟩) P E s:=by
 have fw:=ci
 rw[jY] at fw
 have lt:=bL ho
 have z:vs.toArray.size=vs.length:=bQ ..
 obtain⟨e1,g1⟩: ∃e1,(s.heap.update a (pU λ_=> #[])).get? a=some (seqObj "list" #[] e1):=⟨_,get?_update_seq ho λ_=> #[]⟩
 have g6:(nr s.heap a vs).get? a=some (seqObj "list" #[] e1):=by
  rw[b4 _ (b4 _ g1)]
 rw[list_sort_plain]
 refine aj (listItems_at ho rfl (aj (IM ho rfl (aj (IN g1 rfl (aj (wpAny_newTuple (aj (Iq (iR ?_))))))))))
 show wpAny (model prog w) A _ P E {s with heap:=nr s.heap a vs}
 dsimp only
 by_cases h2:vs.toArray.size<2
 ·rw[if_pos h2,if_pos h2]
  have r:=one (by omega)
  refine aj (ay ?_)
  rw[Am]
  refine aj (ay (aj (IN g6 rfl (aj (IM g6 rfl ?_ (hsz2:=by rw[Ac];show (pairsOf vs).size<=_;rw[Ar,jY];omega))))))
  simp only[bne_self_eq_false,dy,if_false]
  exact ay (h _ r)
 ·rw[if_neg h2,if_neg h2]
  refine aj (kinds (by omega) _ λkd=>aj (gk (runs (by omega) kd) ?_ λ_ _ e=>e))
  rintro⟨⟨⟩,st⟩ s' ⟨rfl,r⟩
  obtain⟨gf,gz⟩:=good st r
  refine aj (IN g6 rfl (aj (IM g6 rfl ?_ (hsz2:=by rw[Ac,gz,jY];omega))))
  dsimp only
  rw[gf]
  simp only[bne_self_eq_false,dy,if_false]
  exact ay (h st r)
end
end L2
namespace L2
open PySem PySem.Spec PyProof.Rows
abbrev Key:=Sum Int Str
def kh:Key->ac->Bool
 | .inl k,v=>RG k v
 | .inr x,v=>RH x v
def IV (w:aE):Key->Int
 | .inl k=>hashInt k
 | .inr x=>hashStr w x
theorem i5: ∀{k:Key} {v:ac},kh k v=true->(∃i t,k=dF i/\v=iM i t)∨(∃x t,k=nv x/\v=zg x t)
 | .inl i,v,h=>by
  obtain⟨t,e⟩:=RJ (k:=i) (v:=v) h
  exact .inl ⟨i,t,rfl,e⟩
 | .inr x,v,h=>by
  obtain⟨t,e⟩:=Value.isStrOf_shape (x:=x) (v:=v) h
  exact .inr ⟨x,t,rfl,e⟩
theorem IW (i:Int) (t:Tok):kh (.inl i) (.int i t)=true:=by simp [kh,RG]
theorem IX (x:Str) (t:Tok):kh (.inr x) (.str x t)=true:=by simp [kh,RH]
theorem IY (a b:Int):decide ((dF a:Key)=dF b)=(a == b):=by
 by_cases e:a=b
 ·subst e;simp
 ·have h: ¬(dF a:Key)=dF b:=λq=>e (Sum.inl.inj q)
  rw[decide_eq_false h]
  exact(beq_eq_false_iff_ne.mpr e).symm
theorem IZ (a b:Str):decide ((nv a:Key)=nv b)=decide (a=b):=by
 by_cases e:a=b
 ·subst e;simp
 ·have h: ¬(nv a:Key)=nv b:=λq=>e (Sum.inr.inj q)
  rw[decide_eq_false h,decide_eq_false e]
theorem I_ (a:Int) (b:Str):decide ((dF a:Key)=nv b)=false:=decide_eq_false (λq=>nomatch q)
theorem Ja (a:Str) (b:Int):decide ((nv a:Key)=dF b)=false:=decide_eq_false (λq=>nomatch q)
def cu (prog:aI) (w:aE):PySem.KeyKind prog w Key where
 is:=kh
 hash:=IV w
 inj:=λv a b ha hb=>by
  rcases i5 ha with ⟨i,t,rfl,rfl⟩|⟨x,t,rfl,rfl⟩
  ·rcases i5 hb with ⟨j,u,rfl,e⟩|⟨y,u,rfl,e⟩
   ·injection e with e1 _;rw[e1]
   ·exact nomatch e
  ·rcases i5 hb with ⟨j,u,rfl,e⟩|⟨y,u,rfl,e⟩
   ·exact nomatch e
   ·injection e with e1 _;rw[e1]
 byValue:=λk v h=>by
  rcases i5 h with ⟨i,t,rfl,rfl⟩|⟨x,t,rfl,rfl⟩ <;> rfl
 pyHash:=λhv h=>by
  rcases i5 hv with ⟨i,t,rfl,rfl⟩|⟨x,t,rfl,rfl⟩
  ·exact wpAny_pyHash_int h
  ·exact wpAny_pyHash_str h
 eqBool:=λhu hv h=>by
  rcases i5 hu with ⟨i,t,rfl,rfl⟩|⟨x,t,rfl,rfl⟩
  ·rcases i5 hv with ⟨j,u,rfl,rfl⟩|⟨y,u,rfl,rfl⟩
   ·rw[IY] at h;exact wpAny_eqBool_int h
   ·rw[I_] at h;exact RK i t y u _ _ _ _ h
  ·rcases i5 hv with ⟨j,u,rfl,rfl⟩|⟨y,u,rfl,rfl⟩
   ·rw[Ja] at h;exact RL x t j u _ _ _ _ h
   ·rw[IZ] at h;exact wpAny_eqBool_str h
 «strs»:=λk x t v h=>by
  rcases i5 h with ⟨i,u,rfl,e⟩|⟨y,u,rfl,e⟩
  ·exact nomatch e
  ·injection e with e1 _
   subst e1
   cases v <;> rfl
theorem lh (prog:aI) (w:aE) (i:Int) (t:Tok):(cu prog w).is (.inl i) (.int i t)=true:=IW i t
theorem Jb (prog:aI) (w:aE) (x:Str) (t:Tok):(cu prog w).is (.inr x) (.str x t)=true:=IX x t
inductive V where
 |a9|bl (b:Bool)|int (i:Int)|str (x:Str)|eU (b:Array UInt8)|n6 (b:UInt64)|ref (a:aa)|ty (n:String)
 deriving DecidableEq
def RelV:V->ac->Prop
 | .a9,u=>u=iN
 | .bl b,u=>u=kT b
 | .int i,u=> ∃t,u=iM i t
 | .str x,u=> ∃t,u=zg x t
 | .eU b,u=> ∃t,u=RM b t
 | .n6 b,u=> ∃t,u=RP b t
 | .ref a,u=>u=aP a
 | .ty n,u=>u=jq n
abbrev Vals:List V->List ac->Prop:=cb RelV
theorem Vals.length {xs:List V} {us:List ac} (r:Vals xs us):xs.length=us.length:=dR r
theorem Vals.get: ∀{xs:List V} {us:List ac} {i:Nat} {x:V},Vals xs us->xs[i]?=some x-> ∃u,us[i]?=some u/\RelV x u
 |_,_,_,_,.nil,e=>by simp at e
 |_,_,0,_,.cons r _,e=>by simp at e;subst e;exact⟨_,rfl,r⟩
 |_,_,i+1,x,.cons _ t,e=>by
  obtain⟨u,h1,h2⟩:=Vals.get (i:=i) (x:=x) t (by simpa using e)
  exact⟨u,by simpa using h1,h2⟩
theorem Vals.append: ∀{xs ys:List V} {us ws:List ac},Vals xs us->Vals ys ws->Vals (xs++ys) (us++ws)
 |_,_,_,_,.nil,s=>s
 |_,_,_,_,.cons r t,s=> .cons r (Vals.append t s)
theorem Vals.take: ∀{xs:List V} {us:List ac} (n:Nat),Vals xs us->Vals (xs.take n) (us.take n)
 |_,_,0,_=> .nil
 |_,_,_+1,.nil=> .nil
 |_,_,n+1,.cons r t=> .cons r (Vals.take n t)
theorem Vals.drop: ∀{xs:List V} {us:List ac} (n:Nat),Vals xs us->Vals (xs.drop n) (us.drop n)
 |_,_,0,r=>r
 |_,_,_+1,.nil=> .nil
 |_,_,n+1,.cons _ t=>Vals.drop n t
def fE:Option V->Option ac->Prop
 |some v,some u=>RelV v u
 |none,none=>True
 |_,_=>False
def KV {κ:Type}:List (κ×V)->List (κ×ac)->Prop:=cb λ(p:κ×V) (q:κ×ac)=>p.1=q.1/\RelV p.2 q.2
def kV:Key->V
 | .inl i=> .int i
 | .inr x=> .str x
inductive HO where
 |lst (xs:List V)
 |tup (xs:List V)
 |dK (kvs:List (Key×V))|dT (kvs:List (List Key×V))
 |set (S:Int->Bool) (n:Nat)
 |ins (C dx:aa) (fs:List (Str×V))
 |own (x:aa)
 |xd (fs:List (Str×V))
 |met (f x:aa)
 |uB (lo hi:Int)
 |bi (o:Obj) (u:HO)
 |li (ps:Array ac)
 |ext (φ:aF->Prop)
abbrev Hp:=aa->Option HO
def upd (H:Hp) (a:aa) (o:HO):Hp:=λb=>if b=a then some o else H b
theorem aK {H:Hp} {a:aa} {o:HO}:upd H a o a=some o:=by unfold upd;rw[if_pos rfl]
theorem az {H:Hp} {a b:aa} {o:HO} (h:b≠a):upd H a o b=H b:=by unfold upd;rw[if_neg h]
theorem bg {H:Hp} {a b:aa} {o u:HO} (h:H a=some o) (h':H b=some u) (d:o≠u):a≠b:=by
 intro e;subst e;rw[h] at h';exact d (cJ h')
theorem cA {H:Hp} {a b:aa} {o:HO} (h:H a=some o) (h':H b=none):a≠b:=by
 intro e;subst e;rw[h] at h';cases h'
section
variable (P:aI) (w:aE)
def cz (H:Hp) (h:aF) (a:aa):HO->Prop
 | .lst xs=>xs.length<=sizeLine/\ ∃(its:List ac) (n:Nat),Vals xs its/\h.get? a=some {cls:= .type "list",data:= .seq its.toArray n}
 | .tup xs=>xs.length<=sizeLine/\ ∃its:List ac,Vals xs its/\jV h a its.toArray/\ ∃o,h.get? a=some o/\o.dict=none/\o.slots= #[]
 | .dK kvs=>kvs.length<=sizeLine/\(a == sysModules)=false/\ ∃vs,KV kvs vs/\h.DictOf (cu P w) a vs
 | .dT kvs=>kvs.length<=sizeLine/\(a == sysModules)=false/\ ∃xs:List (List Key×aa×ac),
   cb (λ(p:List Key×V) (q:List Key×aa×ac)=>p.1=q.1/\H q.2.1=some (.tup (p.1.map kV))/\RelV p.2 q.2.2) kvs xs /\
   ∃o es ep,h.get? a=some o/\o.ExactDict/\o.data= .dict es ep/\es.toList=xs.map (entryOfKey (tupleKind (cu P w)))/\(xs.map (·.1)).Nodup
 | .set S n=>h.SetOf (intKind P w) a S n
 | .ins C dx fs=>H dx=some (.own a)/\fs.length<=1000/\dx≠a/\h.get? a=some (lW C dx) /\
   ∃mA,h.Ns1 dx mA/\(∀f,fE (fs.lookup f) (mA f))/\G_ mA (fs.map (·.1))
 | .own _=> ∃o,h.get? a=some o
 | .xd fs=> ∃mA,h.Ns1 a mA/\ ∀f,fE (fs.lookup f) (mA f)
 | .uB lo hi=> ∃t u v,h.get? a=some {cls:= .type "range",data:= .fields #[.int lo t,.int hi u,.int 1 v]}
 | .bi o u=>h.get? a=some o/\cz H h a u
 | .li ps=>h.get? a=some {cls:= .none,data:= .fields ps}
 | .met f x=>h.get? a=some (Ha (.ref f) (.ref x))
 | .ext φ=>φ h/\(∃o,h.get? a=some o)/\ ∀h1 h2:aF,φ h1->(∀o,h1.get? a=some o->h2.get? a=some o)->φ h2
def cg (H:Hp) (h:aF):Prop:= ∀a o,H a=some o->cz P w H h a o
end
section
variable {P:aI} {w:aE} {H H':Hp} {h h':aF} {a:aa} {o:HO}
theorem cz.lt (x:cz P w H h a o):a<h.objs.size:=by
 cases o with
 |lst xs=>obtain⟨_,_,_,_,e⟩:=x;exact bL e
 |tup xs=>obtain⟨_,_,_,p,_⟩:=x;exact p.lt
 |dK kvs=>obtain⟨_,_,_,_,o,_,_,e,_⟩:=x;exact bL e
 |dT kvs=>obtain⟨_,_,_,_,o,_,_,e,_⟩:=x;exact bL e
 |set S n=>obtain⟨o,_,_,_,e,_⟩:=x;exact bL e
 |ins C dx fs=>obtain⟨_,_,_,e,_⟩:=x;exact bL e
 |own y=>obtain⟨_,e⟩:=x;exact bL e
 |xd fs=>obtain⟨_,⟨_,_,_,e,_⟩,_⟩:=x;exact bL e
 |uB lo hi=>obtain⟨_,_,_,e⟩:=x;exact bL e
 |bi ob u=>obtain⟨e,_⟩:=x;exact bL e
 |li ps=>exact bL (show h.get? a=some _ from x)
 |met f y=>exact bL (show h.get? a=some _ from x)
 |ext φ=>obtain⟨_,⟨_,e⟩,_⟩:=x;exact bL e
theorem Paired.b6 {α β:Type} {F G:α->β->Prop}: ∀{l₁:List α} {l₂:List β},cb F l₁ l₂->(∀a b,F a b->G a b)->cb G l₁ l₂
 |_,_,.nil,_=> .nil
 |_,_,.cons r t,f=> .cons (f _ _ r) (Paired.b6 t f)
theorem cz.jD (x:cz P w H h a o) (k: ∀b u,(b=a∨H b=some (.own a))->h.get? b=some u->h'.get? b=some u)
  (ho: ∀b,H b=some (.own a)->H' b=some (.own a)) (ht: ∀b xs,H b=some (.tup xs)->H' b=some (.tup xs)):cz P w H' h' a o:=by
 induction o with
 |lst xs=>obtain⟨z,its,n,r,e⟩:=x;exact⟨z,its,n,r,k _ _ (.inl rfl) e⟩
 |tup xs=>obtain⟨z,its,r,⟨ob,e,c⟩,ob2,e2,d2⟩:=x;exact⟨z,its,r,⟨ob,k _ _ (.inl rfl) e,c⟩,ob2,k _ _ (.inl rfl) e2,d2⟩
 |dK kvs=>obtain⟨z,y,vs,r,ob,es,ep,e,c⟩:=x;exact⟨z,y,vs,r,ob,es,ep,k _ _ (.inl rfl) e,c⟩
 |dT kvs=>
  obtain⟨z,y,xs,r,ob,es,ep,e,c⟩:=x
  exact⟨z,y,xs,Paired.b6 r λp q z=>⟨z.1,ht _ _ z.2.1,z.2.2⟩,ob,es,ep,k _ _ (.inl rfl) e,c⟩
 |set S n=>obtain⟨ob,es,ep,t,e,c⟩:=x;exact⟨ob,es,ep,t,k _ _ (.inl rfl) e,c⟩
 |ins C dx fs=>
  obtain⟨d,z,ne,e,mA,⟨od,es,ep,e2,c⟩,r⟩:=x
  exact⟨ho _ d,z,ne,k _ _ (.inl rfl) e,mA,⟨od,es,ep,k _ _ (.inr d) e2,c⟩,r⟩
 |own y=>obtain⟨ob,e⟩:=x;exact⟨ob,k _ _ (.inl rfl) e⟩
 |xd fs=>obtain⟨mA,⟨od,es,ep,e,c⟩,r⟩:=x;exact⟨mA,⟨od,es,ep,k _ _ (.inl rfl) e,c⟩,r⟩
 |uB lo hi=>obtain⟨t,u,v,e⟩:=x;exact⟨t,u,v,k _ _ (.inl rfl) e⟩
 |bi ob u ih=>obtain⟨e,q⟩:=x;exact⟨k _ _ (.inl rfl) e,ih q⟩
 |li ps=>
  have e:h.get? a=some {cls:= .none,data:= .fields ps}:=x
  show h'.get? a=some {cls:= .none,data:= .fields ps}
  exact k a _ (.inl rfl) e
 |met f y=>
  have e:h.get? a=some (Ha (.ref f) (.ref y)):=x
  show h'.get? a=some (Ha (.ref f) (.ref y))
  exact k a _ (.inl rfl) e
 |ext φ=>obtain⟨p,⟨o,e⟩,st⟩:=x;exact⟨st _ _ p λo q=>k _ _ (.inl rfl) q,⟨o,k _ _ (.inl rfl) e⟩,st⟩
theorem cg.lt (x:cg P w H h) (e:H a=some o):a<h.objs.size:=(x a o e).lt
theorem cg.fresh (x:cg P w H h) (e:h.objs.size<=a):H a=none:=by
 cases q:H a with
 |none=>rfl
 |some u=>exact absurd (eZ (x.lt q) e) (jr _)
theorem cg.kept (x:cg P w H h) (k: ∀b u,h.get? b=some u->h'.get? b=some u):cg P w H h':=λa o e=>
 (x a o e).jD (λb u _ q=>k b u q) (λ_ q=>q) λ_ _ q=>q
theorem cg.laid (x:cg P w H h) (k: ∀b u,h.get? b=some u->h'.get? b=some u) (hp:h.objs.size<=a) (new:cz P w (upd H a o) h' a o):cg P w (upd H a o) h':=λb u e=>by
 have hn:=x.fresh hp
 by_cases hb:b=a
 ·subst hb;rw[aK] at e;cases e;exact new
 ·rw[az hb] at e
  exact(x b u e).jD (λc v _ q=>k c v q) (λc q=>by rw[az (cA q hn)];exact q) λc xs q=>by rw[az (cA q hn)];exact q
end
def Rd (H:Hp) (a:aa) (u:HO):Prop:=H a=some u∨ ∃o,H a=some (.bi o u)
theorem Rd.ok {P:aI} {w:aE} {H:Hp} {h:aF} {a:aa} {u:HO} (r:Rd H a u) (x:cg P w H h):cz P w H h a u:=by
 rcases r with r|⟨o,r⟩
 ·exact x a u r
 ·obtain⟨_,q⟩:=x a _ r
  exact q
def ki:Option HO->Prop
 |some (.lst _)=>True
 |some (.dK _)=>True
 |some (.dT _)=>True
 |some (.set _ _)=>True
 |some (.ins _ _ _)=>True
 |some (.ext _)=>True
 |_=>False
section
variable {P:aI} {w:aE} {H:Hp} {h h':aF} {x e:aa} {o':HO}
theorem cg.write (ok:cg P w H h) (mu:ki (H x)) (he:e=x∨H e=some (.own x)) (k: ∀b u,b≠e->h.get? b=some u->h'.get? b=some u) (heo: ∃u,h'.get? e=some u)
  (new:cz P w (upd H x o') h' x o'):cg P w (upd H x o') h':=λb u q=>by
 have nown: ∀c y,H c=some (.own y)->c≠x:=λc y r z=>by subst z;rw[r] at mu;exact mu
 have ntup: ∀c xs,H c=some (.tup xs)->c≠x:=λc xs r z=>by subst z;rw[r] at mu;exact mu
 by_cases hb:b=x
 ·subst hb;rw[aK] at q;cases q;exact new
 ·rw[az hb] at q
  by_cases hbe:b=e
  ·have q':H b=some (.own x):=by
    rcases he with z|z
    ·exact absurd (hbe.trans z) hb
    ·rw[hbe];exact z
   rw[q] at q';cases q'
   obtain⟨v,hv⟩:=heo
   exact⟨v,by rw[hbe];exact hv⟩
  ·refine(ok b u q).jD (λc v hc r=>k c v ?_ r) (λc r=>by rw[az (nown c b r)];exact r) λc xs r=>by rw[az (ntup c xs r)];exact r
   rcases hc with rfl|hc
   ·exact hbe
   ·rintro rfl
    rcases he with z|z
    ·exact nown c b hc z
    ·rw[hc] at z;cases z;exact hb rfl
end
structure Un (fs ex:List aa) (H H':Hp) (h h':aF):Prop where
 keep: ∀b o,h.get? b=some o->H b=none->b∉fs->b∉ex->h'.get? b=some o
 slot: ∀b o,h.get? b=some o->H b=none->b∈fs->b∉ex-> ∃sl,h'.get? b=some {o with slots:=sl}
 free: ∀b o,h.get? b=some o->H b=none->b∉ex->H' b=none
 there: ∀b o,h.get? b=some o->b∉ex-> ∃o',h'.get? b=some o'
 eJ: ∀b xs,H b=some (.tup xs)->H' b=some (.tup xs)
 fU: ∀b o u,H b=some (.bi o u)->H' b=some (.bi o u)
 gN: ∀b ps,H b=some (.li ps)-> ∃more,H' b=some (.li (ps++more))
section
variable {fs fs' ex ex':List aa} {H H1 H2:Hp} {h h1 h2 h':aF} {a x e:aa} {o:HO}
theorem Un.any (u:Un fs ex H H1 h h1) {b:aa} {ob:Obj} (q:h.get? b=some ob) (n:H b=none) (hx:b∉ex): ∃sl,h1.get? b=some {ob with slots:=sl}:=by
 by_cases hb:b∈fs
 ·exact u.slot b ob q n hb hx
 ·exact⟨ob.slots,u.keep b ob q n hb hx⟩
theorem Un.trans (a:Un fs ex H H1 h h1) (b:Un fs ex H1 H2 h1 h2):Un fs ex H H2 h h2 where
 keep:=λc ob q n hc hx=>b.keep c ob (a.keep c ob q n hc hx) (a.free c ob q n hx) hc hx
 slot:=λc ob q n hc hx=>by
  obtain⟨sl,e1⟩:=a.slot c ob q n hc hx
  obtain⟨sl',e2⟩:=b.slot c _ e1 (a.free c ob q n hx) hc hx
  exact⟨sl',e2⟩
 free:=λc ob q n hx=>by
  obtain⟨o',e1⟩:=a.there c ob q hx
  exact b.free c o' e1 (a.free c ob q n hx) hx
 there:=λc ob q hx=>by
  obtain⟨o',e1⟩:=a.there c ob q hx
  exact b.there c o' e1 hx
 eJ:=λc xs q=>b.eJ c xs (a.eJ c xs q)
 fU:=λc ob xs q=>b.fU c ob xs (a.fU c ob xs q)
 gN:=λc ps q=>by
  obtain⟨m1,e1⟩:=a.gN c ps q
  obtain⟨m2,e2⟩:=b.gN c _ e1
  exact⟨m1++m2,by rw[e2,RQ]⟩
theorem Un.kept (k: ∀b u,h.get? b=some u->h'.get? b=some u):Un fs ex H H h h':=
 ⟨λb ob q _ _ _=>k b ob q,λb ob q _ _ _=>⟨ob.slots,k b ob q⟩,λ_ _ _ n _=>n,λb ob q _=>⟨ob,k b ob q⟩,λ_ _ q=>q,λ_ _ _ q=>q,λ_ ps q=>⟨#[],by rw[q];simp⟩⟩
theorem Un.refl:Un fs ex H H h h:=Un.kept λ_ _ q=>q
theorem Un.laid (k: ∀b u,h.get? b=some u->h'.get? b=some u) (hp:h.objs.size<=a) (hn:H a=none):Un fs ex H (upd H a o) h h' where
 keep:=λb u q _ _ _=>k b u q
 slot:=λb u q _ _ _=>⟨u.slots,k b u q⟩
 free:=λb u q n _=>by rw[az (cX (eZ (bL q) hp))];exact n
 there:=λb u q _=>⟨u,k b u q⟩
 eJ:=λb xs q=>by rw[az (cA q hn)];exact q
 fU:=λb u xs q=>by rw[az (cA q hn)];exact q
 gN:=λb ps q=>⟨#[],by rw[az (cA q hn),q];simp⟩
theorem Un.write (mu:ki (H x)) (he:e=x∨H e=some (.own x)) (k: ∀b u,b≠e->h.get? b=some u->h'.get? b=some u) (heo: ∃u,h'.get? e=some u):Un fs ex H (upd H x o) h h':=by
 have hx: ∀b,H b=none->b≠x:=λb n z=>by subst z;rw[n] at mu;exact mu
 have hb: ∀b,H b=none->b≠e:=λb n z=>by
  subst z
  rcases he with r|r
  ·exact hx b n r
  ·rw[n] at r;cases r
 have hm: ∀b u,H b=some u-> ¬ki (some u)->b≠x:=λb u q nm z=>by subst z;rw[q] at mu;exact nm mu
 refine⟨λb u q n _ _=>k b u (hb b n) q,λb u q n _ _=>⟨u.slots,k b u (hb b n) q⟩,λb u q n _=>by rw[az (hx b n)];exact n,λb u q _=>?_,
  λb xs q=>by rw[az (hm b _ q λz=>z)];exact q,λb u xs q=>by rw[az (hm b _ q λz=>z)];exact q,λb ps q=>⟨#[],by rw[az (hm b _ q λz=>z),q];simp⟩⟩
 by_cases hbe:b=e
 ·subst hbe;exact heo
 ·exact⟨u,k b u hbe q⟩
end
def qt (h:aF) (H:Hp):List aa:=(eQ h.objs.size).filter λa=>(H a).isSome
def jE (h:aF) (H:Hp):aF:=PySem.W.hideAll h (qt h H)
theorem Jc (h:aF) (H:Hp):(jE h H).objs.size=h.objs.size:=PySem.W.hideAll_size _ _
theorem Jd {h:aF} {H:Hp} {b:aa} {o:Obj} (e:h.get? b=some o) (n:H b=none):(jE h H).get? b=some o:=
 PySem.W.hideAll_get _ e λhm=>by
  have q:(H b).isSome=true:=(cU.mp hm).2
  rw[n] at q;simp at q
theorem Je {h:aF} {H:Hp} {b:aa} {o:Obj} (e:(jE h H).get? b=some o):h.get? b=some o/\H b=none:=by
 have e':h.get? b=some o:=PySem.W.of_hideAll (qt h H) e
 refine⟨e',?_⟩
 cases q:H b with
 |none=>rfl
 |some x=>
  have hm:b∈qt h H:=cU.mpr ⟨gi.mpr (bL e'),by simp [q]⟩
  have z:(jE h H).get? b=none:=PySem.W.hideAll_none (qt h H) hm
  rw[z] at e;cases e
structure Mod (K:aA) (mg:Str->Option ac) (base:aF):Prop where
 kj:K.In base
 glob:base.Ns mainGlobals mg
 blt: ∃mb,base.Ns builtinsNs mb/\ ∀x:Str,x≠"__name__"->mb x=bootBuiltins x
 nolimit:base.NoLimit
structure Cx where
 prog:aI
 w:aE
 K:aA
 mg:Str->Option ac
 base:aF
 A:a7
 N:List Str
 dS:af
 lj:Hp
 env:Env
 outer:List Env
 stack:List Env
 ex:List aa
 fn:Str->Bool
 calm:Bool
 pn:List (aa×Obj)
 xe:ac->af->Prop
def ik (l:List Env):List aa:=l.filterMap (·.frame)
abbrev Cx.fs (X:Cx):List aa:=ik X.outer
def mq (sc:bX) (x:Str):Prop:=sc.names.lookup x=some .local∨sc.names.lookup x=some .cell∨sc.names.lookup x=some .free
def Loc (sc:bX) (x:Str):Prop:=sc.names.lookup x=some .local∨sc.names.lookup x=some .cell
def Look (env:Env) (h:aF) (m:Str->Option ac) (x:Str) (u:ac):Prop:=
 (env.kindOf x=some .local/\m x=some u)∨((env.kindOf x=some .cell∨env.kindOf x=some .free)/\ ∃c,env.cells.lookup x=some c/\h.IsCell c (some u))
structure Cx.Ok (X:Cx):Prop where
 mod:Mod X.K X.mg X.base
 kind:X.env.scope.kind= .function
 glob:X.env.globals=mainGlobals
 blt:X.env.builtins=builtinsNs
 above:X.dS.heap.objs.size<=X.env.locals
 inj: ∀x y c,X.env.cells.lookup x=some c->X.env.cells.lookup y=some c->x=y
 has: ∀x,(X.env.kindOf x=some .cell∨X.env.kindOf x=some .free)-> ∃c,X.env.cells.lookup x=some c
 n8: ∀x c,X.fn x=true->X.env.cells.lookup x=some c->X.dS.heap.objs.size<=c
 hd:X.calm=true->X.A.handled=none
 frames:X.A.frames=some X.stack
 n9:X.stack=X.outer∨(X.stack=X.env::X.outer/\X.env.frame=some X.env.locals)
 qv: ∀b∈X.ex,b≠X.env.locals/\ ∀x c,X.env.cells.lookup x=some c->c≠b
 bs: ∀b o,X.base.get? b=some o->X.dS.heap.get? b=some o/\X.lj b=none
 jF:X.base.objs.size<=X.dS.heap.objs.size
 n_: ∀b o,X.base.get? b=some o->b∉X.ex
 oe: ∀b∈X.ex,b∉X.fs
 gO:X.dS.heap.FunFrames X.base X.outer
 ln: ∀b∈X.fs,X.lj b=none
structure Inv (X:Cx) (pins:List (aa×Obj)) (σ:List (Option V)) (H:Hp) (s:af):Prop where
 ok:X.Ok
 os:s.os=X.dS.os
 bare:nw s.gens
 base:Un X.fs X.ex X.lj H X.dS.heap s.heap
 loc: ∃m,s.heap.Ns X.env.locals m/\ ∀(i:Nat) (x:Str) (v:V),X.N[i]?=some x->σ[i]?=some (some v)->mq X.env.scope x-> ∃u,RelV v u/\Look X.env s.heap m x u
 cell: ∀x c,X.env.cells.lookup x=some c-> ∃v,s.heap.IsCell c v
 free:H X.env.locals=none
 gv: ∀x c,X.env.cells.lookup x=some c->H c=none
 pin: ∀p∈X.pn++pins,s.heap.get? p.1=some p.2/\H p.1=none/\p.1≠X.env.locals/\p.1∉X.fs/\ ∀v,p.2.data≠ .cell v
 aB:cg X.prog X.w H s.heap
 len:σ.length=X.N.length
section
variable {X:Cx} {pins:List (aa×Obj)} {σ:List (Option V)} {H H':Hp} {s:af} {h':aF}
theorem Cx.Ok.Jf (ok:X.Ok) {b:aa} {o:Obj} (e:X.base.get? b=some o):b∉X.fs:=λhb=>by
 have:=(ok.gO.mem hb).1
 rw[e] at this;cases this
theorem Inv.bs (I:Inv X pins σ H s): ∀b o,X.base.get? b=some o->s.heap.get? b=some o/\H b=none:=λb o e=>
 ⟨I.base.keep b o (I.ok.bs b o e).1 (I.ok.bs b o e).2 (I.ok.Jf e) (I.ok.n_ b o e),I.base.free b o (I.ok.bs b o e).1 (I.ok.bs b o e).2 (I.ok.n_ b o e)⟩
theorem Inv.bk (I:Inv X pins σ H s): ∀b o,X.base.get? b=some o->s.heap.get? b=some o:=λb o e=>(I.bs b o e).1
theorem Inv.mod (I:Inv X pins σ H s):Mod X.K X.mg X.base:=I.ok.mod
theorem Inv.fV (I:Inv X pins σ H s):X.K.In s.heap:=I.ok.mod.kj.keeps I.bk
theorem Inv.nolimit (I:Inv X pins σ H s):s.heap.NoLimit:=I.ok.mod.nolimit.keeps I.bk
theorem Inv.lt (I:Inv X pins σ H s):X.env.locals<s.heap.objs.size:=let ⟨_,hn,_⟩:=I.loc;hn.lt
theorem Inv.sz (I:Inv X pins σ H s):X.dS.heap.objs.size<=s.heap.objs.size:=bM I.ok.above (tM I.lt)
theorem Inv.Jg (I:Inv X pins σ H s) {a:aa} (h:s.heap.objs.size<=a):a∉X.fs:=λhb=>by
 obtain⟨_,o,ho,_⟩:=I.ok.gO.mem hb
 exact absurd (eZ (bL ho) (bM I.sz h)) (jr _)
theorem Inv.lp (I:Inv X pins σ H s): ∀x c,X.env.cells.lookup x=some c->c≠X.env.locals:=λx c e z=>by
 obtain⟨v,o,ho,hd⟩:=I.cell x c e
 obtain⟨m,⟨o',es,ep,ho',hd',_⟩,_⟩:=I.loc
 rw[z,ho'] at ho;cases ho;rw[hd'] at hd;cases hd
theorem Inv.gO (I:Inv X pins σ H s):s.heap.FunFrames X.base X.outer:=by
 have all: ∀(l:List Env),(∀b∈ik l,b∈X.fs)->X.dS.heap.FunFrames X.base l->s.heap.FunFrames X.base l:=by
  intro l
  induction l with
  |nil=>intro _ _;trivial
  |cons env r ih=>
   intro hs hl
   obtain⟨hk,⟨L,o,hf,hn,ho,hd⟩,hr⟩:=hl
   have hL:L∈X.fs:=hs L (by unfold ik;rw[jW,hf];exact bB)
   obtain⟨sl,e⟩:=I.base.slot L o ho (I.ok.ln L hL) hL λz=>I.ok.oe L z hL
   exact⟨hk,⟨L,_,hf,hn,e,hd⟩,ih (λb hb=>hs b (by unfold ik;rw[jW,hf];exact bq _ hb)) hr⟩
 exact all X.outer (λ_ hb=>hb) I.ok.gO
theorem Inv.stack (I:Inv X pins σ H s):s.heap.FunFrames X.base X.stack:=by
 rcases I.ok.n9 with e|⟨e,hf⟩
 ·rw[e];exact I.gO
 ·rw[e]
  obtain⟨m,hn,_⟩:=I.loc
  refine .cons (by rw[I.ok.kind];decide) hf hn ?_ I.gO
  exact Heap.get?_none_of_le (bM I.ok.jF I.ok.above)
theorem Inv.uC (I:Inv X pins σ H s): ∀b∈ik X.stack,b∈X.env.locals::X.fs:=λb hb=>by
 rcases I.ok.n9 with e|⟨e,hf⟩
 ·rw[e] at hb;exact bq _ hb
 ·rw[e] at hb
  unfold ik at hb
  rw[jW,hf] at hb
  exact hb
theorem Inv.As (I:Inv X pins σ H s): ∀b∈ik X.stack,H b=none:=λb hb=>by
 rcases be.mp (I.uC b hb) with e|hb
 ·rw[e];exact I.free
 ·obtain⟨_,o,ho,_⟩:=I.ok.gO.mem hb
  exact I.base.free b o ho (I.ok.ln b hb) λz=>I.ok.oe b z hb
theorem Inv.step {g':Array GenState} {t':Nat} {d':Drawn} {ch:List aa} (I:Inv X pins σ H s)
  (hch: ∀b∈ch,(b∈X.ex∨X.dS.heap.objs.size<=b)/\b≠X.env.locals/\(∀x c,X.env.cells.lookup x=some c->c≠b)/\ ∀p∈X.pn++pins,p.1≠b)
  (keep: ∀b o,b≠X.env.locals->b∉X.fs->b∉ch->s.heap.get? b=some o->H b=none->h'.get? b=some o)
  (slot: ∀b o,b≠X.env.locals->b∈X.fs->b∉ch->s.heap.get? b=some o->H b=none-> ∃sl,h'.get? b=some {o with slots:=sl}) (free: ∀b o,b∉ch->s.heap.get? b=some o->H b=none->H' b=none)
  (there: ∀b o,b∉ch->s.heap.get? b=some o-> ∃o',h'.get? b=some o')
  (eJ: ∀b xs,H b=some (.tup xs)->H' b=some (.tup xs)) (fU: ∀b o u,H b=some (.bi o u)->H' b=some (.bi o u)) (gN: ∀b ps,H b=some (.li ps)-> ∃more,H' b=some (.li (ps++more)))
  (ns: ∀m,s.heap.Ns X.env.locals m->h'.Ns X.env.locals m) (aB:cg X.prog X.w H' h') (hg:nw g') :
  Inv X pins σ H' {s with heap:=h',gens:=g',drawn:=d',toks:=t'}:=by
 have neL: ∀b o,X.dS.heap.get? b=some o->b≠X.env.locals:=λb o e=>cX (eZ (bL e) I.ok.above)
 have neC: ∀b o,X.dS.heap.get? b=some o->b∉X.ex->b∉ch:=λb o e hx hb=>by
  rcases(hch b hb).1 with z|z
  ·exact hx z
  ·exact absurd (eZ (bL e) z) (jr _)
 have cellK: ∀x c,X.env.cells.lookup x=some c-> ∀v,s.heap.IsCell c v->h'.IsCell c v:=λx c e v ⟨o,ho,hd⟩=>by
  have nch:c∉ch:=λz=>(hch c z).2.2.1 x c e rfl
  by_cases hc:c∈X.fs
  ·obtain⟨sl,q⟩:=slot c o (I.lp x c e) hc nch ho (I.gv x c e)
   exact⟨_,q,hd⟩
  ·exact⟨o,keep c o (I.lp x c e) hc nch ho (I.gv x c e),hd⟩
 refine⟨I.ok,I.os,hg,⟨λb o e n hb hx=>?_,λb o e n hb hx=>?_,λb o e n hx=>?_,λb o e hx=>?_,λb xs e=>eJ b xs (I.base.eJ b xs e),λb o xs e=>fU b o xs (I.base.fU b o xs e),λb ps e=>?_⟩,?_,λx c e=>?_,?_,λx c e=>?_,λp hp=>?_,aB,I.len⟩
 ·exact keep b o (neL b o e) hb (neC b o e hx) (I.base.keep b o e n hb hx) (I.base.free b o e n hx)
 ·obtain⟨sl,e1⟩:=I.base.slot b o e n hb hx
  obtain⟨sl',e2⟩:=slot b _ (neL b o e) hb (neC b o e hx) e1 (I.base.free b o e n hx)
  exact⟨sl',e2⟩
 ·obtain⟨o',e1⟩:=I.base.there b o e hx
  exact free b o' (neC b o e hx) e1 (I.base.free b o e n hx)
 ·obtain⟨o',e1⟩:=I.base.there b o e hx
  exact there b o' (neC b o e hx) e1
 ·obtain⟨m1,e1⟩:=I.base.gN b ps e
  obtain⟨m2,e2⟩:=gN b _ e1
  exact⟨m1++m2,by rw[e2,RQ]⟩
 ·obtain⟨m,hn,hl⟩:=I.loc
  refine⟨m,ns m hn,λi x v e1 e2 e3=>?_⟩
  obtain⟨u,r,l⟩:=hl i x v e1 e2 e3
  refine⟨u,r,?_⟩
  rcases l with l|⟨k,c,e,z⟩
  ·exact .inl l
  ·exact .inr ⟨k,c,e,cellK x c e _ z⟩
 ·obtain⟨v,z⟩:=I.cell x c e
  exact⟨v,cellK x c e v z⟩
 ·obtain⟨m,⟨o,_,_,ho,_⟩,_⟩:=I.loc
  exact free _ o (λz=>(hch _ z).2.1 rfl) ho I.free
 ·obtain⟨v,o,ho,hd⟩:=I.cell x c e
  exact free c o (λz=>(hch c z).2.2.1 x c e rfl) ho (I.gv x c e)
 ·obtain⟨e,n,ne,nf,d⟩:=I.pin p hp
  have nch:p.1∉ch:=λz=>(hch p.1 z).2.2.2 p hp rfl
  exact⟨keep p.1 p.2 ne nf nch e n,free p.1 p.2 nch e n,ne,nf,d⟩
theorem Inv.un {t':Nat} (I:Inv X pins σ H s) (u:Un X.fs [] H H' s.heap h') (aB:cg X.prog X.w H' h'):Inv X pins σ H' {s with heap:=h',toks:=t'}:=by
 obtain⟨m,⟨o,es,ep,ho,r⟩,_⟩:=id I.loc
 obtain⟨sl,hL⟩:=u.any ho I.free (by simp)
 exact I.step (g':=s.gens) (d':=s.drawn) (ch:=[]) (λ_ z=>nomatch z) (λb o _ hb _ e n=>u.keep b o e n hb (by simp)) (λb o _ hb _ e n=>u.slot b o e n hb (by simp)) (λb o _ e n=>u.free b o e n (by simp)) (λb o _ e=>u.there b o e (by simp)) u.eJ u.fU u.gN (λm' hm=>by
  obtain⟨o',es',ep',ho',r'⟩:=hm
  rw[ho] at ho';cases ho'
  exact⟨_,es',ep',hL,r'⟩) aB I.bare
theorem Inv.call {g':Array GenState} {t':Nat} {d':Drawn} {ch:List aa} (I:Inv X pins σ H s) (u:Un (ik X.stack) ch H H' s.heap h') (aB:cg X.prog X.w H' h') (hg:nw g')
  (hch: ∀b∈ch,(b∈X.ex∨X.dS.heap.objs.size<=b)/\b≠X.env.locals/\(∀x c,X.env.cells.lookup x=some c->c≠b)/\ ∀p∈X.pn++pins,p.1≠b) :
  Inv X pins σ H' {s with heap:=h',gens:=g',drawn:=d',toks:=t'}:=by
 obtain⟨m,⟨o,es,ep,ho,r⟩,_⟩:=id I.loc
 obtain⟨sl,hL⟩:=u.any ho I.free λz=>(hch _ z).2.1 rfl
 exact I.step (ch:=ch) hch (λb o hL hb hc e n=>u.keep b o e n (λz=>(be.mp (I.uC b z)).elim hL hb) hc) (λb o _ _ hc e n=>u.any e n hc) (λb o hc e n=>u.free b o e n hc) (λb o hc e=>u.there b o e hc) u.eJ u.fU u.gN (λm' hm=>by
  obtain⟨o',es',ep',ho',r'⟩:=hm
  rw[ho] at ho';cases ho'
  exact⟨_,es',ep',hL,r'⟩) aB hg
theorem Inv.turned {t':Nat} {it:aa} (I:Inv X pins σ H s) (k: ∀b o,b≠it->s.heap.get? b=some o->h'.get? b=some o) (hn:H it=none) (hL:it≠X.env.locals)
  (h1:it∈X.ex∨X.dS.heap.objs.size<=it) (h2: ∀x c,X.env.cells.lookup x=some c->c≠it) (h3: ∀p∈X.pn++pins,p.1≠it):Inv X pins σ H {s with heap:=h',toks:=t'}:=by
 have nit: ∀b u,H b=some u->b≠it:=λb u e z=>by rw[z,hn] at e;cases e
 refine I.step (g':=s.gens) (d':=s.drawn) (ch:=[it]) (λb hb=>?_) (λb o _ _ hc e _=>k b o (λz=>hc (by simp [z])) e) (λb o _ _ hc e _=>⟨o.slots,k b o (λz=>hc (by simp [z])) e⟩) (λ_ _ _ _ n=>n)
  (λb o hc e=>⟨o,k b o (λz=>hc (by simp [z])) e⟩) (λ_ _ e=>e) (λ_ _ _ e=>e) (λb ps e=>⟨#[],by rw[e];simp⟩) (λm hm=>?_) (λb u e=>?_) I.bare
 ·have e:b=it:=by simpa using hb
  subst e
  exact⟨h1,hL,h2,h3⟩
 ·obtain⟨o,es,ep,ho,r⟩:=hm
  exact⟨o,es,ep,k _ o (dw hL) ho,r⟩
 ·refine(I.aB b u e).jD (λc v hc q=>k c v ?_ q) (λ_ q=>q) λ_ _ q=>q
  rcases hc with z|z
  ·rw[z];exact nit b u e
  ·exact nit c _ z
theorem Inv.tok (I:Inv X pins σ H s) (t:Nat):Inv X pins σ H {s with toks:=t}:=I.un (h':=s.heap) (t':=t) Un.refl I.aB
theorem Inv.kept {t':Nat} (I:Inv X pins σ H s) (k: ∀b u,s.heap.get? b=some u->h'.get? b=some u):Inv X pins σ H {s with heap:=h',toks:=t'}:=I.un (Un.kept k) (I.aB.kept k)
theorem Inv.laid {a:aa} {o:HO} {t':Nat} (I:Inv X pins σ H s) (k: ∀b u,s.heap.get? b=some u->h'.get? b=some u) (hp:s.heap.objs.size<=a) (new:cz X.prog X.w (upd H a o) h' a o) :
  Inv X pins σ (upd H a o) {s with heap:=h',toks:=t'}:=I.un (Un.laid k hp (I.aB.fresh hp)) (I.aB.laid k hp new)
theorem Inv.write {x e:aa} {o:HO} {t':Nat} (I:Inv X pins σ H s) (mu:ki (H x)) (he:e=x∨H e=some (.own x)) (k: ∀b u,b≠e->s.heap.get? b=some u->h'.get? b=some u) (heo: ∃u,h'.get? e=some u)
  (new:cz X.prog X.w (upd H x o) h' x o):Inv X pins σ (upd H x o) {s with heap:=h',toks:=t'}:=I.un (Un.write mu he k heo) (I.aB.write mu he k heo new)
theorem Inv.weak {σ':List (Option V)} (I:Inv X pins σ H s) (hl:σ'.length=σ.length) (w: ∀(i:Nat) v,σ'[i]?=some (some v)->σ[i]?=some (some v)):Inv X pins σ' H s:=
 ⟨I.ok,I.os,I.bare,I.base,let ⟨m,hn,hl'⟩:=I.loc;⟨m,hn,λi x v e1 e2 e3=>hl' i x v e1 (w i v e2) e3⟩,I.cell,I.free,I.gv,I.pin,I.aB,hl.trans I.len⟩
theorem Inv.At {pins':List (aa×Obj)} (I:Inv X pins σ H s) (h: ∀p∈pins',s.heap.get? p.1=some p.2/\H p.1=none/\p.1≠X.env.locals/\p.1∉X.fs/\ ∀v,p.2.data≠ .cell v):Inv X pins' σ H s:=
 ⟨I.ok,I.os,I.bare,I.base,I.loc,I.cell,I.free,I.gv,λp hp=>(bP.mp hp).elim (λz=>I.pin p (RR _ z)) (h p),I.aB,I.len⟩
theorem uD {N:List Str} (hN:N.Nodup) {i j:Nat} {x:Str} (a:N[i]?=some x) (b:N[j]?=some x):i=j:=by
 obtain⟨h1,e1⟩:=List.getElem?_eq_some_iff.mp a
 obtain⟨h2,e2⟩:=List.getElem?_eq_some_iff.mp b
 exact(RS hN).mp (e1.trans e2.symm)
theorem Au {M:eA} {A:a7} {E:ac->af->Prop} {i:Nat} {x:Str} {v:V} {u:ac} {Q:Unit->af->Prop} (I:Inv X pins σ H s) (hN:X.N.Nodup) (hi:X.N[i]?=some x) (hx:Loc X.env.scope x) (r:RelV v u)
  (h: ∀s',Inv X pins (σ.set i (some v)) H s'->(∃a,kU a s.heap s'.heap/\(a=X.env.locals∨X.env.cells.lookup x=some a))->Q () s') (hf:X.fn x=true∨X.env.scope.names.lookup x=some .local:=by first|exact .inl rfl|exact .inr rfl|assumption):wpAny M A (storeName X.env x u) Q E s:=by
 obtain⟨m,hn,hl⟩:=id I.loc
 have hcls:(X.env.scope.kind == .class || (X.env.scope.kind == .module && X.env.locals != X.env.globals))=false:=by rw[I.ok.kind];rfl
 have hiσ:i<σ.length:=by rw[I.len];exact(List.getElem?_eq_some_iff.mp hi).1
 have lp:=I.lp
 have tracked: ∀{a:aa} {h':aF},(∃o,s.heap.get? a=some o/\H a=none)->kU a s.heap h'->cg X.prog X.w H h':=λ{a h'} ha hs b ob e=>by
  obtain⟨_,_,hfree⟩:=ha
  refine(I.aB b ob e).jD (λc w' hc q=>(hs.2 c ?_).trans q) (λ_ q=>q) λ_ _ q=>q
  rintro rfl
  rcases hc with rfl|hc
  ·rw[hfree] at e;cases e
  ·rw[hfree] at hc;cases hc
 rcases hx with hk|hk
 ·refine wpAny_storeName_local hk hn (λh' hn' hs=>?_) hcls
  obtain⟨oL,_,_,hoL,_⟩:=id hn
  refine h _ ⟨I.ok,I.os,I.bare,⟨λb o e n hb hx=>?_,λb o e n hb hx=>?_,I.base.free,λb o e hx=>?_,I.base.eJ,I.base.fU,I.base.gN⟩,⟨_,hn',λj y v' e1 e2 e3=>?_⟩,λy c e=>?_,I.free,I.gv,λp hp=>?_,tracked ⟨oL,hoL,I.free⟩ hs,by simpa using I.len⟩ ⟨_,hs,.inl rfl⟩
  ·exact(hs.2 b (cX (eZ (bL e) I.ok.above))).trans (I.base.keep b o e n hb hx)
  ·obtain⟨sl,e1⟩:=I.base.slot b o e n hb hx
   exact⟨sl,(hs.2 b (cX (eZ (bL e) I.ok.above))).trans e1⟩
  ·obtain⟨o',e1⟩:=I.base.there b o e hx
   exact⟨o',(hs.2 b (cX (eZ (bL e) I.ok.above))).trans e1⟩
  ·by_cases hj:j=i
   ·subst hj
    rw[hi] at e1;cases e1
    rw[Hb hiσ] at e2
    cases e2
    exact⟨u,r,.inl ⟨hk,by simp⟩⟩
   ·rw[Hc (dw hj)] at e2
    obtain⟨u',r',q⟩:=hl j y v' e1 e2 e3
    refine⟨u',r',?_⟩
    rcases q with ⟨k,e⟩|⟨k,c,e,z⟩
    ·refine .inl ⟨k,?_⟩
     have:y≠x:=λe=>hj (uD hN e1 (e▸hi))
     simp [this,e]
    ·exact .inr ⟨k,c,e,z.sameBut hs (lp y c e)⟩
  ·obtain⟨w',z⟩:=I.cell y c e
   exact⟨w',z.sameBut hs (lp y c e)⟩
  ·obtain⟨e,n,ne,nf,d⟩:=I.pin p hp
   exact⟨(hs.2 p.1 ne).trans e,n,ne,nf,d⟩
 ·have hfn:X.fn x=true:=by
   rcases hf with z|z
   ·exact z
   ·rw[z] at hk;cases hk
  obtain⟨c,hc⟩:=I.ok.has x (.inl hk)
  obtain⟨w',z⟩:=I.cell x c hc
  refine wpAny_storeName_cell I.ok.kind hk hc z (λh' hc' hs=>?_)
  obtain⟨oc,hoc,hocd⟩:=id z
  refine h {s with heap:=h'} ⟨I.ok,I.os,I.bare,⟨λb o e n hb hx=>?_,λb o e n hb hx=>?_,I.base.free,λb o e hx=>?_,I.base.eJ,I.base.fU,I.base.gN⟩,⟨m,hn.sameBut hs (dw (lp x c hc)),λj y v' e1 e2 e3=>?_⟩,λy c' e=>?_,I.free,I.gv,λp hp=>?_,tracked ⟨oc,hoc,I.gv x c hc⟩ hs,by simpa using I.len⟩ ⟨c,hs,.inr hc⟩
  ·exact(hs.2 b (cX (eZ (bL e) (I.ok.n8 x c hfn hc)))).trans (I.base.keep b o e n hb hx)
  ·obtain⟨sl,e1⟩:=I.base.slot b o e n hb hx
   exact⟨sl,(hs.2 b (cX (eZ (bL e) (I.ok.n8 x c hfn hc)))).trans e1⟩
  ·obtain⟨o',e1⟩:=I.base.there b o e hx
   exact⟨o',(hs.2 b (cX (eZ (bL e) (I.ok.n8 x c hfn hc)))).trans e1⟩
  ·by_cases hj:j=i
   ·subst hj
    rw[hi] at e1;cases e1
    rw[Hb hiσ] at e2
    cases e2
    exact⟨u,r,.inr ⟨.inl hk,c,hc,hc'⟩⟩
   ·rw[Hc (dw hj)] at e2
    obtain⟨u',r',q⟩:=hl j y v' e1 e2 e3
    refine⟨u',r',?_⟩
    rcases q with q|⟨k,c',e,z'⟩
    ·exact .inl q
    ·refine .inr ⟨k,c',e,z'.sameBut hs ?_⟩
     rintro rfl
     exact hj (uD hN e1 (I.ok.inj _ _ _ e hc▸hi))
  ·by_cases hcc:c'=c
   ·subst hcc;exact⟨_,hc'⟩
   ·obtain⟨w2,z2⟩:=I.cell y c' e
    exact⟨w2,z2.sameBut hs hcc⟩
  ·obtain⟨e,n,ne,nf,d⟩:=I.pin p hp
   refine⟨(hs.2 p.1 ?_).trans e,n,ne,nf,d⟩
   intro q
   rw[q,hoc] at e
   have q':oc=p.2:=cJ e
   exact d w' (by rw[←q'];exact hocd)
theorem uE {M:eA} {A:a7} {E:ac->af->Prop} {i:Nat} {x:Str} {v:V} {u:ac} {Q:Unit->af->Prop} (I:Inv X pins σ H s) (hN:X.N.Nodup) (hi:X.N[i]?=some x) (hx:Loc X.env.scope x) (r:RelV v u)
  (h: ∀s',Inv X pins (σ.set i (some v)) H s'->Q () s') (hf:X.fn x=true∨X.env.scope.names.lookup x=some .local:=by first|exact .inl rfl|exact .inr rfl|assumption):wpAny M A (storeName X.env x u) Q E s:=
 Au I hN hi hx r (λs' I' _=>h s' I') hf
theorem Inv.Jh {s':af} {ch:List aa} (I:Inv X pins σ H s) (ho:s'.os=s.os) (u:Un (ik X.stack) ch H H' s.heap s'.heap) (aB:cg X.prog X.w H' s'.heap) (hg:nw s'.gens)
  (hch: ∀b∈ch,(b∈X.ex∨X.dS.heap.objs.size<=b)/\b≠X.env.locals/\(∀x c,X.env.cells.lookup x=some c->c≠b)/\ ∀p∈X.pn++pins,p.1≠b):Inv X pins σ H' s':=by
 obtain⟨h',g',d',t',o'⟩:=s'
 have e:o'=s.os:=ho
 subst e
 exact I.call (g':=g') (t':=t') (d':=d') u aB hg hch
end
abbrev XK:=ac->Option aa->Hp->Prop
abbrev St:=List (Option V)
abbrev VK:=V->Hp->Prop
abbrev TE:=St->Hp->VK->Prop
abbrev TT:=St->Hp->(Bool->Hp->Prop)->Prop
abbrev TA:=St->Hp->(List V->Hp->Prop)->Prop
structure Ends where
 nx:St->Hp->Prop
 rt:VK
 bk:St->Hp->Prop:=λ_ _=>False
 ct:St->Hp->Prop:=λ_ _=>False
abbrev TS:=Ends->St->Hp->Prop
def EP (X:Cx) (pins:List (aa×Obj)) (σ:St) (Q:VK) (u:ac) (s':af):Prop:= ∃v H',Inv X pins σ H' s'/\RelV v u/\Q v H'
def TP (X:Cx) (pins:List (aa×Obj)) (σ:St) (Q:Bool->Hp->Prop) (b:Bool) (s':af):Prop:= ∃H',Inv X pins σ H' s'/\Q b H'
def AP (X:Cx) (pins:List (aa×Obj)) (σ:St) (Q:List V->Hp->Prop) (us:List ac) (s':af):Prop:= ∃vs H',Inv X pins σ H' s'/\Vals vs us/\Q vs H'
def SP (X:Cx) (pins:List (aa×Obj)) (D:Ends) (f:Flow) (s':af):Prop:=
 match f with
 | .next=> ∃σ' H',Inv X pins σ' H' s'/\D.nx σ' H'
 | .brk=> ∃σ' H',Inv X pins σ' H' s'/\D.bk σ' H'
 | .cont=> ∃σ' H',Inv X pins σ' H' s'/\D.ct σ' H'
 | .ret u=> ∃v σ' H',Inv X pins σ' H' s'/\RelV v u/\D.rt v H'
def PE (X:Cx) (e:ao) (t:TE):Prop:=
 ∀(pins:List (aa×Obj)) (s:af) (σ:St) (H:Hp) (Q:VK),Inv X pins σ H s->t σ H Q->wpAny (model X.prog X.w) X.A (eval e X.env) (EP X pins σ Q) X.xe s
def PT (X:Cx) (e:ao) (t:TT):Prop:=
 ∀(pins:List (aa×Obj)) (s:af) (σ:St) (H:Hp) (Q:Bool->Hp->Prop),Inv X pins σ H s->t σ H Q->wpAny (model X.prog X.w) X.A (isTrue e X.env (eval e X.env)) (TP X pins σ Q) X.xe s
def PW (X:Cx) (e:ao) (t:TT):Prop:=
 ∀(whole:Sem ac) (pins:List (aa×Obj)) (s:af) (σ:St) (H:Hp) (Q:Bool->Hp->Prop),Inv X pins σ H s->t σ H Q->wpAny (model X.prog X.w) X.A (isTrue e X.env whole) (TP X pins σ Q) X.xe s
def PA (X:Cx) (es:List ao) (t:TA):Prop:=
 ∀(pos:Pos) (pins:List (aa×Obj)) (s:af) (σ:St) (H:Hp) (Q:List V->Hp->Prop),Inv X pins σ H s->t σ H Q->wpAny (model X.prog X.w) X.A (spliced (backTo pos (starEach es X.env))) (AP X pins σ Q) X.xe s
def PS (X:Cx) (st:aL) (t:TS):Prop:=
 ∀(pins:List (aa×Obj)) (s:af) (σ:St) (H:Hp) (D:Ends),Inv X pins σ H s->t D σ H->wpAny (model X.prog X.w) X.A (exec st X.env) (SP X pins D) X.xe s
def gw (X:Cx) (st:List aL) (t:TS):Prop:=
 ∀(pins:List (aa×Obj)) (s:af) (σ:St) (H:Hp) (D:Ends),Inv X pins σ H s->t D σ H->wpAny (model X.prog X.w) X.A (execs st X.env) (SP X pins D) X.xe s
theorem aJ {α:Type} {t:Sem α} {Q Q':α->af->Prop} {M:eA} {A:a7} {E:ac->af->Prop} {s:af} (h:wpAny M A t Q E s) (hQ: ∀a s,Q a s->Q' a s):wpAny M A t Q' E s:=gk h hQ λ_ _ x=>x
section
variable {X:Cx}
def Ji (i:Nat):TE:=λσ H Q=> ∃v,σ[i]?=some (some v)/\Q v H
def tC (v:V):TE:=λ_ H Q=>Q v H
theorem Jj {i:Nat} {x:Str} {pos:Pos} (hN:X.N[i]?=some x) (hv:mq X.env.scope x) (hd:(x == ("__debug__":Str))=false:=by decide) (hcd:(x == ("__classdict__":Str))=false:=by decide):PE X (.Name x pos) (Ji i):=by
 intro pins s σ H Q I h
 obtain⟨v,e,h⟩:=h
 obtain⟨m,hn,hl⟩:=I.loc
 obtain⟨u,r,l⟩:=hl i x v hN e hv
 have fin:EP X pins σ Q u s:=⟨v,H,I,r,h⟩
 rcases l with ⟨hk,hm⟩|⟨hk,c,hc,hcell⟩
 ·exact Hd (RT I.ok.kind hk hn hm fin) hd
 ·rcases hk with hk|hk
  ·exact Hd (RU I.ok.kind hk hc hcell fin) hd
  ·exact Hd (wpAny_loadName_free I.ok.kind hk hc hcell fin hcd) hd
theorem Jk {i j pos}:PE X (.Constant (.int i) j pos) (tC (.int i)):=λ_ _ _ H _ I h=>wpAny_Constant_int ⟨.int i,H,I.tok _,⟨_,rfl⟩,h⟩
theorem Jl {b j pos}:PE X (.Constant (.bool b) j pos) (tC (.bl b)):=λ_ _ _ H _ I h=>Constant_bool ⟨.bl b,H,I,rfl,h⟩
theorem Jm {j pos}:PE X (.Constant .none j pos) (tC .a9):=λ_ _ _ H _ I h=>RV ⟨.a9,H,I,rfl,h⟩
theorem Jn {x j pos}:PE X (.Constant (.str x) j pos) (tC (.str x)):=λ_ _ _ H _ I h=>Calls.Constant_str ⟨.str x,H,I.tok _,⟨_,rfl⟩,h⟩
def Gl (X:Cx) (x:Str):Prop:=X.env.kindOf x=some .globalImplicit
theorem qw {E:ac->af->Prop} {pins:List (aa×Obj)} {s:af} {σ:St} {H:Hp} {x:Str} {u:ac} {pos:Pos} {Q:ac->af->Prop} (I:Inv X pins σ H s) (hg:Gl X x) (hm:X.mg x=some u) (h:Q u s)
  (hd:(x == ("__debug__":Str))=false:=by decide):wpAny (model X.prog X.w) X.A (eval (.Name x pos) X.env) Q E s:=
 RW I.ok.kind hg (Calls.loadGlobal_global (by rw[I.ok.glob];exact I.mod.glob.keeps I.bk) hm h) hd
theorem qx {E:ac->af->Prop} {pins:List (aa×Obj)} {s:af} {σ:St} {H:Hp} {x:Str} {u:ac} {pos:Pos} {Q:ac->af->Prop} (I:Inv X pins σ H s) (hg:Gl X x) (hm:X.mg x=none) (hv:bootBuiltins x=some u) (h:Q u s)
  (hn:x≠"__name__":=by decide) (hd:(x == ("__debug__":Str))=false:=by decide):wpAny (model X.prog X.w) X.A (eval (.Name x pos) X.env) Q E s:=by
 obtain⟨mb,h1,h2⟩:=I.mod.blt
 exact RW I.ok.kind hg (Calls.loadGlobal_builtin (by rw[I.ok.glob];exact I.mod.glob.keeps I.bk) hm (by rw[I.ok.blt];exact h1.keeps I.bk) ((h2 x hn).trans hv) h) hd
theorem Jo {x:Str} {v:V} {u:ac} {pos:Pos} (hg:Gl X x) (hm:X.mg x=some u) (r:RelV v u) (hd:(x == ("__debug__":Str))=false:=by decide):PE X (.Name x pos) (tC v):=
 λ_ _ _ H _ I h=>qw I hg hm ⟨v,H,I,r,h⟩ hd
variable {a b:ao} {ta tb:TE} {pos:Pos}
def PC (X:Cx) (op:js) (a b:ao) (t:TE):Prop:=
 ∀(pins:List (aa×Obj)) (s:af) (σ:St) (H:Hp) (Q:VK),Inv X pins σ H s->t σ H Q ->
  wpAny (model X.prog X.w) X.A (eval a X.env) (λv s₁=>wpAny (model X.prog X.w) X.A (eval b X.env) (λu s₂=>wpAny (model X.prog X.w) X.A (compareOp op v u) (EP X pins σ Q) X.xe s₂) X.xe s₁) X.xe s
theorem Av (b:ao) {op:js} (h:op≠ .In) (h2:op≠ .NotIn):behindInMarks op b=false:=by
 have e1:(op == RX)=false:=by cases op <;> first|rfl|exact absurd rfl h
 have e2:(op == RY)=false:=by cases op <;> first|rfl|exact absurd rfl h2
 cases b <;> simp [behindInMarks,e1,e2]
def Jp (ta:TE):TE:=λσ H Q=>ta σ H λx H1=>Q (.bl (decide (x= .a9))) H1
theorem RelV.Jq {x:V} {v:ac} (r:RelV x v):(v == iN)=decide (x= .a9):=by
 cases x with
 |a9=>cases r;rfl
 |bl _=>cases r;rfl
 |int _=>obtain⟨t,rfl⟩:=r;rfl
 |str _=>obtain⟨t,rfl⟩:=r;rfl
 |eU _=>obtain⟨t,rfl⟩:=r;rfl
 |n6 _=>obtain⟨t,rfl⟩:=r;rfl
 |ref _=>cases r;rfl
 |ty _=>cases r;rfl
theorem Jr {j pos'} (ha:PE X a ta):PC X .Is a (.Constant .none j pos') (Jp ta):=by
 intro pins s σ H Q I h
 refine aJ (ha pins s σ H _ I h) λv s1 ⟨x,H1,I1,r1,q1⟩=>?_
 exact RV (is_none_gen ⟨.bl _,H1,I1,by rw[r1.Jq];rfl,q1⟩)
def tB (t:TE):TT:=λσ H Q=>t σ H λx H1=> ∃c,x= .bl c/\Q c H1
theorem uF {op:js} {t:TE} (h:PC X op a b t) (h1:behindInMarks op b=false:=by first|exact Av _ (by decide) (by decide)|rfl):PE X (.Compare a [op] [b] pos) t:=λpins s σ H Q I hw=>RZ (h pins s σ H Q I hw) h1
theorem uG {op:js} {t:TE} (h:PC X op a b t) (h1:behindInMarks op b=false:=by first|exact Av _ (by decide) (by decide)|rfl):PT X (.Compare a [op] [b] pos) (tB t):=by
 intro pins s σ H Q I hw
 refine R0 (aJ (h pins s σ H _ I hw) λv s1 h1=>aJ h1 λu s2 h2=>aJ h2 λc s3 ⟨x,H1,I1,r1,q1⟩=>?_) h1
 obtain⟨d,rfl,q⟩:=q1
 cases r1
 exact jt ⟨H1,I1,q⟩
theorem Js {e:ao} {t:TE} (h:PE X e t) (he: ∀whole,isTrue e X.env whole=(do let v ←whole;standAt e.pos;holding [v] (truthy v)):=by intro _;rfl):PT X e (tB t):=by
 intro pins s σ H Q I hw
 refine isTrue_plain (aJ (h pins s σ H _ I hw) λv s1 ⟨x,H1,I1,r1,q1⟩=>?_) (he _)
 obtain⟨d,rfl,q⟩:=q1
 cases r1
 exact jt ⟨H1,I1,q⟩
variable {tA tB':TT} {rest:List ao}
def Jt (t u:TT):TT:=λσ H Q=>t σ H λc H1=>if c=true then u σ H1 Q else Q false H1
def Ju (t u:TT):TT:=λσ H Q=>t σ H λc H1=>if c=true then Q true H1 else u σ H1 Q
def Jv (t:TT):TT:=λσ H Q=>t σ H λc H1=>Q (!c) H1
theorem Jw (ha:PT X a tA):PW X (.BoolOp .And [a] pos) tA:=by
 intro wh pins s σ H Q I h
 refine isTrue_and (aJ (ha pins s σ H Q I h) λc s1 e=>?_)
 cases c with
 |true=>exact isTrue_and_nil e
 |false=>exact e
theorem Jx (ha:PT X a tA):PW X (.BoolOp .Or [a] pos) tA:=by
 intro wh pins s σ H Q I h
 refine isTrue_or (aJ (ha pins s σ H Q I h) λc s1 e=>?_)
 cases c with
 |false=>exact isTrue_or_nil e
 |true=>exact e
theorem Jy (ha:PT X a tA) (hb:PW X (.BoolOp .And (b::rest) pos) tB'):PW X (.BoolOp .And (a::b::rest) pos) (Jt tA tB'):=by
 intro wh pins s σ H Q I h
 refine isTrue_and (aJ (ha pins s σ H _ I h) λc s1 ⟨H1,I1,q1⟩=>?_)
 cases c with
 |true=>exact hb wh pins s1 σ H1 Q I1 q1
 |false=>exact⟨H1,I1,q1⟩
theorem Jz (ha:PT X a tA) (hb:PW X (.BoolOp .Or (b::rest) pos) tB'):PW X (.BoolOp .Or (a::b::rest) pos) (Ju tA tB'):=by
 intro wh pins s σ H Q I h
 refine isTrue_or (aJ (ha pins s σ H _ I h) λc s1 ⟨H1,I1,q1⟩=>?_)
 cases c with
 |true=>exact⟨H1,I1,q1⟩
 |false=>exact hb wh pins s1 σ H1 Q I1 q1
theorem JA (ha:PT X a tA):PT X (.UnaryOp .Not a pos) (Jv tA):=by
 intro pins s σ H Q I h
 exact isTrue_not (ha pins s σ H (λc H1=>Q (!c) H1) I h)
def JB (ta tb:TE):TE:=λσ H Q=>ta σ H λx H1=> ∃c,x= .bl c/\if c=true then tb σ H1 Q else Q (.bl false) H1
def JC (ta tb:TE):TE:=λσ H Q=>ta σ H λx H1=> ∃c,x= .bl c/\if c=true then Q (.bl true) H1 else tb σ H1 Q
theorem JD {op} {t:TE} (h:PE X a t):PE X (.BoolOp op [a] pos) t:=λpins s σ H Q I hw=>BoolOp_one (h pins s σ H Q I hw)
theorem JE (ha:PE X a ta) (hb:PE X (.BoolOp .And (b::rest) pos) tb):PE X (.BoolOp .And (a::b::rest) pos) (JB ta tb):=by
 intro pins s σ H Q I h
 refine BoolOp_and (aJ (ha pins s σ H _ I h) λv s1 ⟨x,H1,I1,r1,q1⟩=>?_)
 obtain⟨c,rfl,q1⟩:=q1
 cases r1
 refine jt ?_
 cases c with
 |true=>exact hb pins s1 σ H1 Q I1 q1
 |false=>exact⟨.bl false,H1,I1,rfl,q1⟩
theorem JF (ha:PE X a ta) (hb:PE X (.BoolOp .Or (b::rest) pos) tb):PE X (.BoolOp .Or (a::b::rest) pos) (JC ta tb):=by
 intro pins s σ H Q I h
 refine BoolOp_or (aJ (ha pins s σ H _ I h) λv s1 ⟨x,H1,I1,r1,q1⟩=>?_)
 obtain⟨c,rfl,q1⟩:=q1
 cases r1
 refine jt ?_
 cases c with
 |false=>exact hb pins s1 σ H1 Q I1 q1
 |true=>exact⟨.bl true,H1,I1,rfl,q1⟩
def JG (t:TT) (ta tb:TE):TE:=λσ H Q=>t σ H λc H1=>if c=true then ta σ H1 Q else tb σ H1 Q
theorem JH {c:ao} (hc:PT X c tA) (ha:PE X a ta) (hb:PE X b tb):PE X (.IfExp c a b pos) (JG tA ta tb):=by
 intro pins s σ H Q I h
 refine wpAny_IfExp (aJ (hc pins s σ H _ I h) λd s1 ⟨H1,I1,q1⟩=>?_)
 cases d with
 |true=>exact ha pins s1 σ H1 Q I1 q1
 |false=>exact hb pins s1 σ H1 Q I1 q1
end
def bN (K:aA) (H:Hp) (a:aa) (xs:List V):Prop:=
 Rd H a (.lst xs) ∨
  ∃(o:Obj) (its:Array ac) (n:Nat),K.lookup a=some o/\o.cls= .type "list"/\o.dict=none/\o.data= .seq its n/\its.size<=sizeLine/\Vals xs its.toList
def bE (K:aA) (H:Hp) (a:aa) (xs:List V):Prop:=
 Rd H a (.tup xs) ∨
  ∃(o:Obj) (its:Array ac) (n:Nat),K.lookup a=some o/\o.cls= .type "tuple"/\o.data= .seq its n/\its.size<=sizeLine/\Vals xs its.toList
def JI:ac->Option V
 | .none=>some .a9
 | .bool b=>some (.bl b)
 | .int i _=>some (.int i)
 | .str x _=>some (.str x)
 | .bytes b _=>some (.eU b)
 | .float b _=>some (.n6 b)
 | .ref a=>some (.ref a)
 | .type n=>some (.ty n)
 |_=>none
theorem RelV.abs {x:V} {u:ac} (r:RelV x u):JI u=some x:=by
 cases x with
 |a9=>cases r;rfl
 |bl _=>cases r;rfl
 |int _=>obtain⟨t,rfl⟩:=r;rfl
 |str _=>obtain⟨t,rfl⟩:=r;rfl
 |eU _=>obtain⟨t,rfl⟩:=r;rfl
 |n6 _=>obtain⟨t,rfl⟩:=r;rfl
 |ref _=>cases r;rfl
 |ty _=>cases r;rfl
theorem RelV.inj {x y:V} {u:ac} (r:RelV x u) (q:RelV y u):x=y:=cJ (r.abs.symm.trans q.abs)
theorem Vals.inj: ∀{xs ys:List V} {us:List ac},Vals xs us->Vals ys us->xs=ys
 |_,_,_,.nil,.nil=>rfl
 |_,_,_,.cons r t,.cons r' t'=>by rw[r.inj r',Vals.inj t t']
section
variable {X:Cx} {pins:List (aa×Obj)} {σ:St} {H:Hp} {s:af} {a:aa} {xs ys:List V}
theorem bN.of {K:aA} (h:H a=some (.lst xs)):bN K H a xs:= .inl (.inl h)
theorem bE.of {K:aA} (h:H a=some (.tup xs)):bE K H a xs:= .inl (.inl h)
theorem Inv.list (I:Inv X pins σ H s) (h:bN X.K H a xs): ∃its:List ac,Vals xs its/\PlainL s.heap a its.toArray/\xs.length<=sizeLine:=by
 rcases h with h|⟨o,its,n,hk,hc,hd,hs,hz,r⟩
 ·obtain⟨z,its,n,r,e⟩:=h.ok I.aB
  exact⟨its,r,⟨_,n,e,rfl,rfl,rfl⟩,z⟩
 ·refine⟨its.toList,r,⟨o,n,I.fV a o hk,hc,hd,by simpa using hs⟩,?_⟩
  have e:=r.length
  simp only[e_] at e
  omega
theorem Inv.tuple (I:Inv X pins σ H s) (h:bE X.K H a xs): ∃its:List ac,Vals xs its/\jV s.heap a its.toArray/\xs.length<=sizeLine:=by
 rcases h with h|⟨o,its,n,hk,hc,hs,hz,r⟩
 ·obtain⟨z,its,r,p,_⟩:=h.ok I.aB
  exact⟨its,r,p,z⟩
 ·refine⟨its.toList,r,⟨o,I.fV a o hk,hc,n,by simpa using hs⟩,?_⟩
  have e:=r.length
  simp only[e_] at e
  omega
theorem Inv.Aw (I:Inv X pins σ H s) (h:bN X.K H a xs) (h':bN X.K H a ys):xs=ys:=by
 obtain⟨its,r,⟨o,n,e,_,_,d⟩,_⟩:=I.list h
 obtain⟨its',r',⟨o',n',e',_,_,d'⟩,_⟩:=I.list h'
 rw[e] at e';cases e'
 rw[d] at d'
 injection d' with d1 _
 have:its=its':=by simpa using congrArg zh d1
 subst this
 exact r.inj r'
theorem Inv.uH (I:Inv X pins σ H s) (h:bE X.K H a xs) (h':bE X.K H a ys):xs=ys:=by
 obtain⟨its,r,⟨o,e,_,n,d⟩,_⟩:=I.tuple h
 obtain⟨its',r',⟨o',e',_,n',d'⟩,_⟩:=I.tuple h'
 rw[e] at e';cases e'
 rw[d] at d'
 injection d' with d1 _
 have:its=its':=by simpa using congrArg zh d1
 subst this
 exact r.inj r'
end
abbrev Cx.i6 (X:Cx) (E:ac->af->Prop):Cx:={X with xe:=E}
abbrev Cx.oh (X:Cx):Cx:=X.i6 λ_ _=>False
theorem Cx.Ok.i6 {X:Cx} (ok:X.Ok) (E:ac->af->Prop):(X.i6 E).Ok:=
 ⟨ok.mod,ok.kind,ok.glob,ok.blt,ok.above,ok.inj,ok.has,ok.n8,ok.hd,ok.frames,ok.n9,ok.qv,ok.bs,ok.jF,ok.n_,ok.oe,ok.gO,ok.ln⟩
theorem Cx.Ok.kl {X:Cx} {E:ac->af->Prop} (ok:(X.i6 E).Ok):X.Ok:=
 ⟨ok.mod,ok.kind,ok.glob,ok.blt,ok.above,ok.inj,ok.has,ok.n8,ok.hd,ok.frames,ok.n9,ok.qv,ok.bs,ok.jF,ok.n_,ok.oe,ok.gO,ok.ln⟩
section
variable {X:Cx} {pins:List (aa×Obj)} {σ:St} {H:Hp} {s:af} {E:ac->af->Prop}
theorem Inv.i6 (I:Inv X pins σ H s) (E:ac->af->Prop):Inv (X.i6 E) pins σ H s:=⟨I.ok.i6 E,I.os,I.bare,I.base,I.loc,I.cell,I.free,I.gv,I.pin,I.aB,I.len⟩
theorem Inv.kl (I:Inv (X.i6 E) pins σ H s):Inv X pins σ H s:=⟨I.ok.kl,I.os,I.bare,I.base,I.loc,I.cell,I.free,I.gv,I.pin,I.aB,I.len⟩
theorem SP.kl {D:Ends} {f:Flow} {s':af} (h:SP (X.i6 E) pins D f s'):SP X pins D f s':=by
 cases f with
 |next=>obtain⟨σ',H',I,q⟩:=h;exact⟨σ',H',I.kl,q⟩
 |brk=>obtain⟨σ',H',I,q⟩:=h;exact⟨σ',H',I.kl,q⟩
 |cont=>obtain⟨σ',H',I,q⟩:=h;exact⟨σ',H',I.kl,q⟩
 |ret u=>obtain⟨v,σ',H',I,r,q⟩:=h;exact⟨v,σ',H',I.kl,r,q⟩
theorem gw.oh {st:List aL} {t:TS} (h:gw X.oh st t):gw X st t:=λpins s σ H D I hw=>
 gk (h pins s σ H D (I.i6 _) hw) (λ_ _ q=>q.kl) λ_ _ z=>fm z
end
section
variable {X:Cx} {st:aL} {rest:List aL} {t u:TS} {e:ao} {te:TE} {pos:Pos}
def JJ:TS:=λD σ H=>D.nx σ H
def JK (t u:TS):TS:=λD σ H=>t {D with nx:=u D} σ H
theorem bh:gw X [] JJ:=λ_ _ σ H _ I h=>zi ⟨σ,H,I,h⟩
theorem ap (h1:PS X st t) (h2:gw X rest u):gw X (st::rest) (JK t u):=by
 intro pins s σ H D I h
 refine R9 (aJ (h1 pins s σ H {D with nx:=u D} I h) λf s1 q=>?_)
 cases f with
 |next=>
  obtain⟨σ',H',I',q⟩:=q
  exact h2 pins s1 σ' H' D I' q
 |ret v=>exact q
 |brk=>exact q
 |cont=>exact q
theorem au (h1:PS X st t):gw X [st] t:=by
 intro pins s σ H D I h
 refine R9 (aJ (h1 pins s σ H D I h) λf s1 q=>?_)
 cases f with
 |next=>exact zi q
 |ret v=>exact q
 |brk=>exact q
 |cont=>exact q
theorem Inv.quiet {pins:List (aa×Obj)} {σ:St} {H:Hp} {s:af} (I:Inv X pins σ H s):interactive X.env=false:=by simp [interactive,I.ok.kind]
def ol (te:TE):TS:=λD σ H=>te σ H λ_ H1=>D.nx σ H1
theorem fe (he:PE X e te) (hs:swapsWith e none pos.line X.env=pure false:=by rfl):PS X (.Expr e pos) (ol te):=by
 intro pins s σ H D I h
 exact wpAny_Expr_any (aJ (he pins s σ H _ I h) λv s1 ⟨x,H1,I1,r1,q1⟩=>⟨σ,H1,I1,q1⟩) I.quiet hs
def qy (te:TE):TS:=λD σ H=>te σ H D.rt
theorem aD (he:PE X e te):PS X (.Return (some e) pos) (qy te):=by
 intro pins s σ H D I h
 exact wpAny_Return_some (aJ (he pins s σ H _ I h) λv s1 ⟨x,H1,I1,r1,q1⟩=>⟨x,σ,H1,I1,r1,q1⟩)
def Ax (c:TT) (t u:TS):TS:=λD σ H=>c σ H λb H1=>if b=true then t D σ H1 else u D σ H1
theorem a_ {c:ao} {a b:List aL} {tc:TT} (hc:PT X c tc) (ha:gw X a t) (hb:gw X b u):PS X (.If c a b pos) (Ax tc t u):=by
 intro pins s σ H D I h
 refine wpAny_If (aJ (hc pins s σ H _ I h) λd s1 ⟨H1,I1,q1⟩=>?_)
 cases d with
 |true=>exact ha pins s1 σ H1 D I1 q1
 |false=>exact hb pins s1 σ H1 D I1 q1
end
abbrev TG:=V->St->Hp->(St->Hp->Prop)->Prop
abbrev lq:=List V->St->Hp->(St->Hp->Prop)->Prop
def PG (X:Cx) (target:ao) (t:TG):Prop:=
 ∀(pins:List (aa×Obj)) (s:af) (σ:St) (H:Hp) (v:V) (u:ac) (Q:St->Hp->Prop),Inv X pins σ H s->RelV v u->t v σ H Q ->
  wpAny (model X.prog X.w) X.A (assign target X.env u) (λ_ s'=> ∃σ' H',Inv X pins σ' H' s'/\Q σ' H') X.xe s
def qz (X:Cx) (ts:List ao) (t:lq):Prop:=
 ∀(pins:List (aa×Obj)) (s:af) (σ:St) (H:Hp) (vs:List V) (us:List ac) (Q:St->Hp->Prop),Inv X pins σ H s->Vals vs us->t vs σ H Q ->
  wpAny (model X.prog X.w) X.A (assignInOrder ((assignEach ts X.env).map (·.2)) us) (λ_ s'=> ∃σ' H',Inv X pins σ' H' s'/\Q σ' H') X.xe s
abbrev qA:=V->V->Hp->VK->Prop
def Ay (X:Cx) (op:zj) (t:qA):Prop:=
 ∀(pins:List (aa×Obj)) (s:af) (σ:St) (H:Hp) (x y:V) (v u:ac) (Q:VK),Inv X pins σ H s->RelV x v->RelV y u->t x y H Q ->
  wpAny (model X.prog X.w) X.A (inplaceOp op v u) (EP X pins σ Q) X.xe s
section
variable {X:Cx} {pos:Pos}
def d8 (i:Nat):TG:=λv σ H Q=>Q (σ.set i (some v)) H
theorem d9 {i:Nat} {x:Str} (hN:X.N.Nodup) (hi:X.N[i]?=some x) (hx:Loc X.env.scope x) (hf:X.fn x=true∨X.env.scope.names.lookup x=some .local:=by first|exact .inl rfl|exact .inr rfl|assumption):PG X (.Name x pos) (d8 i):=by
 intro pins s σ H v u Q I r h
 exact R_ (uE I hN hi hx r (λs' I'=>⟨_,H,I',h⟩) hf)
def JL:lq:=λvs σ H Q=>vs=[]/\Q σ H
def JM (t:TG) (u:lq):lq:=λvs σ H Q=> ∃v r,vs=v::r/\t v σ H λσ' H'=>u r σ' H' Q
theorem Az:qz X [] JL:=by
 intro pins s σ H vs us Q I r h
 obtain⟨e,h⟩:=h
 subst e
 cases r
 exact assignInOrder_nil ⟨σ,H,I,h⟩
theorem qB {e:ao} {es:List ao} {t:TG} {u:lq} (h1:PG X e t) (h2:qz X es u)
  (hs:(assignEach (e::es) X.env).map (·.2)=assign e X.env::(assignEach es X.env).map (·.2):=by rfl):qz X (e::es) (JM t u):=by
 intro pins s σ H vs us Q I r h
 obtain⟨v,vr,e1,h⟩:=h
 subst e1
 cases r with
 |cons r rr=>
  rw[hs]
  refine assignInOrder_cons (aJ (h1 pins s σ H _ _ _ I r h) λ_ s1 ⟨σ1,H1,I1,q1⟩=>?_)
  exact h2 pins s1 σ1 H1 _ _ Q I1 rr q1
def JN (K:aA) (n:Nat) (t:lq):TG:=λv σ H Q=> ∃a xs,v= .ref a/\bE K H a xs/\xs.length=n/\t xs σ H Q
theorem AA {es:List ao} {k:Nat} {t:lq} {n:Nat} (hc:X.calm=true) (h:qz X es t)
  (hn:(assignEach es X.env).length=n:=by rfl) (hst:(assignEach es X.env).findIdx? (·.1)=none:=by rfl):PG X (.Tuple es k pos) (JN X.K n t):=by
 intro pins s σ H v u Q I r hw
 obtain⟨a,xs,e1,hq,hl,hw⟩:=hw
 subst e1
 cases r
 obtain⟨its,rv,ht,hz⟩:=I.tuple hq
 refine assign_Tuple_tuple (I.ok.hd hc) ht (by simp [hn,←hl,rv.length]) hst λh' hx=>?_
 have I1:Inv X pins σ H {s with heap:=h'}:=I.kept (t':=s.toks) λb o e=>hx b o (cX (bL e)) e
 exact h pins _ σ H xs _ Q I1 (by simpa using rv) hw
def lr (te:TE) (g:TG):TS:=λD σ H=>te σ H λx H1=>g x σ H1 D.nx
theorem a5 {i:Nat} {x:Str} {e:ao} {te:TE} {pos':Pos} (hN:X.N.Nodup) (hi:X.N[i]?=some x) (hx:Loc X.env.scope x) (he:PE X e te) (hs:swapsWith e (some (.Name x pos')) pos.line X.env=pure false:=by rfl) (hf:X.fn x=true∨X.env.scope.names.lookup x=some .local:=by first|exact .inl rfl|exact .inr rfl|assumption) :
  PS X (.Assign [.Name x pos'] e pos) (lr te (d8 i)):=by
 intro pins s σ H D I h
 refine wpAny_Assign_Name (aJ (he pins s σ H _ I h) λv s1 ⟨y,H1,I1,r1,q1⟩=>?_) hs
 exact uE I1 hN hi hx r1 (λs2 I2=>⟨_,H1,I2,q1⟩) hf
def AB (i:Nat) (te:TE) (ti:qA):TS:=λD σ H=> ∃x,σ[i]?=some (some x)/\te σ H λy H1=>ti x y H1 λz H2=>D.nx (σ.set i (some z)) H2
theorem JO {i:Nat} {x:Str} {e:ao} {te:TE} {op:zj} {ti:qA} {pos':Pos} (hN:X.N.Nodup) (hi:X.N[i]?=some x) (hx:Loc X.env.scope x) (he:PE X e te) (ho:Ay X op ti) (hf:X.fn x=true∨X.env.scope.names.lookup x=some .local:=by first|exact .inl rfl|exact .inr rfl|assumption) :
  PS X (.AugAssign (.Name x pos') op e pos) (AB i te ti):=by
 intro pins s σ H D I h
 obtain⟨v,e1,h⟩:=h
 obtain⟨m,hn,hl⟩:=I.loc
 have vis:mq X.env.scope x:=by rcases hx with k|k;exact .inl k;exact .inr (.inl k)
 obtain⟨u,r,l⟩:=hl i x v hi e1 vis
 refine wpAny_AugAssign_Name ?_
 have go:wpAny (model X.prog X.w) X.A (eval e X.env) (λw s₂=>wpAny (model X.prog X.w) X.A (inplaceOp op u w) (λr s₃=>wpAny (model X.prog X.w) X.A (storeName X.env x r) (λ_=>SP X pins D .next) X.xe s₃) X.xe s₂) X.xe s:=by
  refine aJ (he pins s σ H _ I h) λw s1 ⟨y,H1,I1,r1,q1⟩=>?_
  refine aJ (ho pins s1 σ H1 v y u w _ I1 r r1 q1) λz s2 ⟨zv,H2,I2,r2,q2⟩=>?_
  exact uE I2 hN hi hx r2 (λs3 I3=>⟨_,H2,I3,q2⟩) hf
 rcases l with ⟨hk,hm⟩|⟨hk,c,hc,hcell⟩
 ·exact RT I.ok.kind hk hn hm go
 ·rcases hk with hk|hk
  ·exact RU I.ok.kind hk hc hcell go
  ·rcases hx with k|k
   ·have:X.env.scope.names.lookup x=some .free:=hk
    rw[k] at this;cases this
   ·have:X.env.scope.names.lookup x=some .free:=hk
    rw[k] at this;cases this
def AC (f:Int->Int->Int):qA:=λx y H Q=> ∃i j,x= .int i/\y= .int j/\Q (.int (f i j)) H
theorem JP:Ay X .Add (AC λi j=>i+j):=by
 intro pins s σ H x y v u Q I r1 r2 h
 obtain⟨i,j,e1,e2,q⟩:=h
 subst e1;subst e2
 obtain⟨t,rfl⟩:=r1
 obtain⟨t',rfl⟩:=r2
 exact iadd_int ⟨.int _,H,I.tok _,⟨_,rfl⟩,q⟩
end
section
variable {X:Cx} {pos:Pos}
def qC (c:TT) (tb:TS):TS:=λD σ H=> ∃W:Nat->St->Hp->Prop,(∃m,W m σ H)/\ ∀m σ H,W m σ H ->
 c σ H λb H1=>if b=true then ∃N:St->Hp->Prop,(∀σ' H',N σ' H'-> ∃m',m'<m/\W m' σ' H')/\tb {D with nx:=N,ct:=N,bk:=D.nx} σ H1 else D.nx σ H1
theorem mr {c:ao} {body:List aL} {tc:TT} {tb:TS} (hp:PassesOwn (model X.prog X.w) X.A X.env X.xe) (hc:PT X c tc) (hb:gw X body tb):PS X (.While c body [] pos) (qC tc tb):=by
 intro pins s σ H D I h
 obtain⟨W,⟨m0,w0⟩,turn⟩:=h
 refine wpAny_While (codeAny_whileLoop (λn s'=> ∃σ' H',Inv X pins σ' H' s'/\W n σ' H') ?_ m0 ⟨σ,H,I,w0⟩)
 rintro n s1 ⟨σ1,H1,I1,w1⟩
 refine ny hp (aJ (hc pins s1 σ1 H1 _ I1 (turn n σ1 H1 w1)) λb s2 ⟨H2,I2,q2⟩=>?_)
 cases b with
 |true=>
  obtain⟨N,hN,q2⟩:=q2
  rw[if_pos rfl]
  refine ny hp (aJ (hb pins s2 σ1 H2 _ I2 q2) λf s3 q3=>?_)
  cases f with
  |next=>
   obtain⟨σ3,H3,I3,n3⟩:=q3
   obtain⟨m',hm,w3⟩:=hN σ3 H3 n3
   exact⟨m',hm,σ3,H3,I3,w3⟩
  |cont=>
   obtain⟨σ3,H3,I3,n3⟩:=q3
   obtain⟨m',hm,w3⟩:=hN σ3 H3 n3
   exact⟨m',hm,σ3,H3,I3,w3⟩
  |brk=>exact q3
  |ret v=>exact q3
 |false=>
  rw[if_neg cY]
  exact zi ⟨σ1,H2,I2,q2⟩
end
structure It where
 go:Nat->Hp->Prop
 gx:Nat->Hp->V->Hp->Prop
 stop:Nat->Hp->Prop
def il (X:Cx) (pins:List (aa×Obj)) (H:Hp) (b:aa):Prop:=
 H b=none/\b≠X.env.locals/\b∉X.fs/\(b∈X.ex∨X.dS.heap.objs.size<=b)/\(∀x c,X.env.cells.lookup x=some c->c≠b)/\ ∀p∈X.pn++pins,p.1≠b
theorem Inv.mv {X:Cx} {pins:List (aa×Obj)} {σ:St} {H H':Hp} {s:af} {b:aa} (I:Inv X pins σ H s) (hb:s.heap.objs.size<=b) (hn:H' b=none):il X pins H' b:=by
 refine⟨hn,zk (eZ I.lt hb),I.Jg hb,.inr (bM I.sz hb),λx c e z=>?_,λp hp z=>?_⟩
 ·obtain⟨v,q⟩:=I.cell x c e
  exact absurd (eZ q.lt (by rw[z];exact hb)) (jr _)
 ·exact absurd (eZ (bL (I.pin p hp).1) (by rw[z];exact hb)) (jr _)
structure Turn (P:aI) (w:aE) (K:aA) (tg:ao) (J:It) (fp:List aa) (it:aa) (tn:Nat->aF->Prop):Prop where
 mem:it∈fp
 obj: ∀i h,tn i h-> ∀b∈fp,∃o,h.get? b=some o/\ ∀v,o.data≠ .cell v
 keep: ∀i h h',tn i h->(∀b∈fp,∀o,h.get? b=some o->h'.get? b=some o)->tn i h'
 item: ∀(X:Cx),X.prog=P->X.w=w->X.K=K->X.calm=true-> ∀(i:Nat) (pins:List (aa×Obj)) (s:af) (σ:St) (H:Hp) (E:ac->af->Prop),Inv X pins σ H s->(∀b∈fp,il X pins H b)->tn i s.heap->J.go i H ->
  wpAny (model P w) X.A (pyNext (.ref it)) (λr s1=> ∃u,r=some u /\
   wpAny (model P w) X.A (letOwnedTupleGo tg (.ref it) u) (λ_ s2=> ∃x H',Inv X pins σ H' s2/\RelV x u/\J.gx i H x H'/\tn (i+1) s2.heap/\ ∀b∈fp,H' b=none) E s1) E s
 done: ∀(X:Cx),X.prog=P->X.w=w->X.K=K->X.calm=true-> ∀(i:Nat) (pins:List (aa×Obj)) (s:af) (σ:St) (H:Hp) (E:ac->af->Prop),Inv X pins σ H s->(∀b∈fp,il X pins H b)->tn i s.heap->J.stop i H ->
  wpAny (model P w) X.A (pyNext (.ref it)) (λr s1=>r=none/\Inv X pins σ H s1) E s
 self: ∀(A:a7) (i:Nat) (s:af) (Q:ac->af->Prop) (E:ac->af->Prop),tn i s.heap->Q (.ref it) s->wpAny (model P w) A (pyIter (.ref it)) Q E s
abbrev TI:=St->Hp->(It->Hp->Prop)->Prop
def AD (X:Cx) (pins:List (aa×Obj)) (σ:St) (tg:ao) (R:It->Hp->Prop) (itv:ac) (s2:af):Prop:=
 ∃(it:aa) (fp:List aa) (tn:Nat->aF->Prop) (J:It) (H':Hp),itv= .ref it/\Inv X pins σ H' s2/\Turn X.prog X.w X.K tg J fp it tn/\tn 0 s2.heap/\(∀b∈fp,il X pins H' b)/\R J H'
def PI (X:Cx) (tg iter:ao) (wi:TI):Prop:=
 ∀(pins:List (aa×Obj)) (s:af) (σ:St) (H:Hp) (R:It->Hp->Prop),Inv X pins σ H s->wi σ H R ->
  wpAny (model X.prog X.w) X.A (eval iter X.env) (λv s1=>wpAny (model X.prog X.w) X.A (pyIter v) (AD X pins σ tg R) X.xe s1) X.xe s
theorem om {M:eA} {A:a7} {E:ac->af->Prop} {s:af} {tg:ao} {it:aa} {u:ac} {o:Obj} {n:String} {vs:Array ac} {Q:Unit->af->Prop} (ho:s.heap.get? it=some o) (hc:o.cls= .type n) (hd:o.data= .fields vs)
    (hn:["enumerate","zip","dict_itemiterator","dict_reverseitemiterator","odict_iterator","itertools.zip_longest","itertools.pairwise"].contains n=false) (hQ:Q () s):wpAny M A (letOwnedTupleGo tg (.ref it) u) Q E s:=by
  unfold letOwnedTupleGo
  cases tg <;> first
    |exact ay hQ
    |(cases u <;> first
        |exact ay hQ
        | (refine aj (wpAny_load ho ?_)
           rw[hc,hd]
           show wpAny M A (if (["enumerate","zip","dict_itemiterator","dict_reverseitemiterator","odict_iterator","itertools.zip_longest","itertools.pairwise"].contains n && vs[0]? == some (rawInt _))=true then _ else _) Q E s
           rw[if_neg (by intro h;rw[hn,zl] at h;cases h)]
           exact ay hQ))
def km (K:aA) (a:aa):It:=
 ⟨λi H=> ∃xs x,bN K H a xs/\xs[i]?=some x,λi H x H'=>H'=H/\ ∀xs,bN K H a xs->xs[i]?=some x,λi H=> ∃xs,bN K H a xs/\xs.length<=i⟩
def oo (K:aA) (a:aa):It:=
 ⟨λi H=> ∃xs x,bE K H a xs/\xs[i]?=some x,λi H x H'=>H'=H/\ ∀xs,bE K H a xs->xs[i]?=some x,λi H=> ∃xs,bE K H a xs/\xs.length<=i⟩
theorem JQ {P:aI} {w:aE} {K:aA} {tg:ao} (a it:aa):Turn P w K tg (km K a) [it] it (λi h=>h.IsListIter it a i) where
 mem:=by simp
 obj:=λi h st b hb=>by
  have e:b=it:=by simpa using hb
  subst e
  obtain⟨o,e,c,d⟩:=st
  exact⟨o,e,λv z=>by rw[d] at z;cases z⟩
 keep:=λi h h' st k=>st.at λo e=>k it (by simp) o e
 item:=by
  intro X hP hw hK hc i pins s σ H E I hf st hg
  subst hP hw hK
  obtain⟨xs,x,hq,hx⟩:=hg
  obtain⟨its,rv,p,hz⟩:=I.list hq
  obtain⟨u,hu,ru⟩:=rv.get hx
  obtain⟨f0,f1,f2,f3,f4,f5⟩:=hf it (by simp)
  refine wpAny_pyNext_list_item st p.isList (x:=u) (by simpa using hu) λh' st' sb=>?_
  have I1:Inv X pins σ H {s with heap:=h'}:=I.turned (t':=s.toks) (λb o hb e=>(sb.2 b hb).trans e) f0 f1 f3 f4 f5
  obtain⟨o,e,c,d⟩:=id st'
  exact⟨u,rfl,om (s:={s with heap:=h'}) e c d (by decide) ⟨x,H,I1,ru,⟨rfl,λys hy=>by rw[I.Aw hy hq];exact hx⟩,st',λb hb=>(hf b hb).1⟩⟩
 done:=by
  intro X hP hw hK hc i pins s σ H E I hf st hg
  subst hP hw hK
  obtain⟨xs,hq,hx⟩:=hg
  obtain⟨its,rv,p,hz⟩:=I.list hq
  obtain⟨f0,f1,f2,f3,f4,f5⟩:=hf it (by simp)
  have hl:=rv.length
  exact wpAny_pyNext_list_end (I.ok.hd hc) st p.isList (by simp;omega) λh' eb=>⟨rfl,I.turned (t':=s.toks) (λb o hb e=>eb b o hb e) f0 f1 f3 f4 f5⟩
 self:=λ_ _ _ _ _ st h=>wpAny_pyIter_listiter st h
theorem JR {P:aI} {w:aE} {K:aA} {tg:ao} (a it:aa):Turn P w K tg (oo K a) [it] it (λi h=>h.IsTupleIter it a i) where
 mem:=by simp
 obj:=λi h st b hb=>by
  have e:b=it:=by simpa using hb
  subst e
  obtain⟨o,e,c,d⟩:=st
  exact⟨o,e,λv z=>by rw[d] at z;cases z⟩
 keep:=λi h h' st k=>st.at λo e=>k it (by simp) o e
 item:=by
  intro X hP hw hK hc i pins s σ H E I hf st hg
  subst hP hw hK
  obtain⟨xs,x,hq,hx⟩:=hg
  obtain⟨its,rv,p,hz⟩:=I.tuple hq
  obtain⟨u,hu,ru⟩:=rv.get hx
  obtain⟨f0,f1,f2,f3,f4,f5⟩:=hf it (by simp)
  refine wpAny_pyNext_tuple_item st (show s.heap.IsTuple a its.toArray from p) (x:=u) (by simpa using hu) λh' st' sb=>?_
  have I1:Inv X pins σ H {s with heap:=h'}:=I.turned (t':=s.toks) (λb o hb e=>(sb.2 b hb).trans e) f0 f1 f3 f4 f5
  obtain⟨o,e,c,d⟩:=id st'
  exact⟨u,rfl,om (s:={s with heap:=h'}) e c d (by decide) ⟨x,H,I1,ru,⟨rfl,λys hy=>by rw[I.uH hy hq];exact hx⟩,st',λb hb=>(hf b hb).1⟩⟩
 done:=by
  intro X hP hw hK hc i pins s σ H E I hf st hg
  subst hP hw hK
  obtain⟨xs,hq,hx⟩:=hg
  obtain⟨its,rv,p,hz⟩:=I.tuple hq
  obtain⟨f0,f1,f2,f3,f4,f5⟩:=hf it (by simp)
  have hl:=rv.length
  exact wpAny_pyNext_tuple_end (I.ok.hd hc) st (show s.heap.IsTuple a its.toArray from p) (by simp;omega) λh' eb=>⟨rfl,I.turned (t':=s.toks) (λb o hb e=>eb b o hb e) f0 f1 f3 f4 f5⟩
 self:=λ_ _ _ _ _ st h=>wpAny_pyIter_tupleiter st h
section
variable {X:Cx} {tg:ao}
def AE (K:aA) (tl:TE):TI:=λσ H R=>tl σ H λx H1=> ∃a,x= .ref a/\(∃xs,bN K H1 a xs)/\R (km K a) H1
def JS (K:aA) (tl:TE):TI:=λσ H R=>tl σ H λx H1=> ∃a,x= .ref a/\(∃xs,bE K H1 a xs)/\R (oo K a) H1
theorem gy {l:ao} {tl:TE} (hl:PE X l tl):PI X tg l (AE X.K tl):=by
 intro pins s σ H R I h
 refine aJ (hl pins s σ H _ I h) λv s1 ⟨x,H1,I1,r1,q1⟩=>?_
 obtain⟨a,e,⟨xs,hq⟩,q⟩:=q1
 subst e
 cases r1
 obtain⟨its,rv,p,hz⟩:=I1.list hq
 refine He p.isList ?_
 refine⟨s1.heap.objs.size,[s1.heap.objs.size],_,_,H1,rfl,I1.kept (t':=s1.toks) λb o e=>b4 _ e,JQ a _,⟨_,cw _ rfl,rfl,rfl⟩,λb hb=>?_,q⟩
 have e:b=s1.heap.objs.size:=by simpa using hb
 subst e
 exact I1.mv (aW _) (I1.aB.fresh (aW _))
theorem JT {l:ao} {tl:TE} (hl:PE X l tl):PI X tg l (JS X.K tl):=by
 intro pins s σ H R I h
 refine aJ (hl pins s σ H _ I h) λv s1 ⟨x,H1,I1,r1,q1⟩=>?_
 obtain⟨a,e,⟨xs,hq⟩,q⟩:=q1
 subst e
 cases r1
 obtain⟨its,rv,p,hz⟩:=I1.tuple hq
 refine Hf (show s1.heap.IsTuple a its.toArray from p) ?_
 refine⟨s1.heap.objs.size,[s1.heap.objs.size],_,_,H1,rfl,I1.kept (t':=s1.toks) λb o e=>b4 _ e,JR a _,⟨_,cw _ rfl,rfl,rfl⟩,λb hb=>?_,q⟩
 have e:b=s1.heap.objs.size:=by simpa using hb
 subst e
 exact I1.mv (aW _) (I1.aB.fresh (aW _))
def JU (wi:TI) (g:TG) (tb:TS):TS:=λD σ H=>wi σ H λJ H1=> ∃W:Nat->Nat->St->Hp->Prop,(∃m,W 0 m σ H1)/\ ∀i m σ H,W i m σ H ->
 (J.stop i H/\D.nx σ H)∨(J.go i H/\ ∃N:St->Hp->Prop,(∀σ' H',N σ' H'-> ∃m',m'<m/\W (i+1) m' σ' H')/\ ∀x H',J.gx i H x H'->g x σ H' λσ2 H2=>tb {D with nx:=N,ct:=N,bk:=D.nx} σ2 H2)
def oq (fp:List aa) (h:aF):List (aa×Obj):=fp.filterMap λb=>(h.get? b).map λo=>(b,o)
theorem uI {fp:List aa} {h:aF} {b:aa} {o:Obj} (hb:b∈fp) (e:h.get? b=some o):(b,o)∈oq fp h:=nz.mpr ⟨b,hb,by rw[e];rfl⟩
theorem JV {fp:List aa} {h:aF} {p:aa×Obj} (hp:p∈oq fp h):p.1∈fp/\h.get? p.1=some p.2:=by
 obtain⟨b,hb,e⟩:=nz.mp hp
 cases q:h.get? b with
 |none=>rw[q] at e;cases e
 |some o=>
  rw[q] at e
  have e':(b,o)=p:=cJ e
  subst e'
  exact⟨hb,q⟩
theorem Inv.pinned {pins:List (aa×Obj)} {σ:St} {H:Hp} {s:af} {fp:List aa} (I:Inv X pins σ H s) (hf: ∀b∈fp,il X pins H b) (ho: ∀b∈fp,∃o,s.heap.get? b=some o/\ ∀v,o.data≠ .cell v):Inv X (pins++oq fp s.heap) σ H s:=
 I.At λp hp=>(bP.mp hp).elim (λz=>I.pin p (lX _ z)) λz=>by
  obtain⟨hb,e⟩:=JV z
  obtain⟨f0,f1,f2,_⟩:=hf p.1 hb
  obtain⟨o,e',d⟩:=ho p.1 hb
  rw[e] at e';cases e'
  exact⟨e,f0,f1,f2,d⟩
theorem Inv.qD {pins pl:List (aa×Obj)} {σ:St} {H:Hp} {s:af} (I:Inv X (pins++pl) σ H s):Inv X pins σ H s:=I.At λp hp=>I.pin p (lX _ (RR _ hp))
theorem im {iter:ao} {body:List aL} {wi:TI} {g:TG} {tb:TS} {pos:Pos} (hp:PassesOwn (model X.prog X.w) X.A X.env X.xe) (hc:X.calm=true) (hi:PI X tg iter wi) (hg:PG X tg g) (hb:gw X body tb)
  (hs: ∀x,foldedSetIterable iter X.env x=pure x:=by intro _;rfl):PS X (.For tg iter body [] pos) (JU wi g tb):=by
 intro pins s σ H D I h
 refine wpAny_For (aJ (hi pins s σ H _ I h) λv s1 h1=>aJ h1 λitv s2 h2=>?_) hs
 obtain⟨it,fp,tn,J,H2,e,I2,T,st2,f2,W,⟨m0,w0⟩,turn⟩:=h2
 subst e
 have stat: ∀{H':Hp},(∀b∈fp,H' b=none)-> ∀b∈fp,il X pins H' b:=λhn b hb=>⟨hn b hb,(f2 b hb).2⟩
 refine codeAny_forLoop_any (λn s'=> ∃i σ' H',Inv X pins σ' H' s'/\tn i s'.heap/\(∀b∈fp,H' b=none)/\W i n σ' H') ?_ m0 ⟨0,σ,H2,I2,st2,λb hb=>(f2 b hb).1,w0⟩
 rintro n s3 ⟨i,σ3,H3,I3,st3,fr3,w3⟩
 rcases turn i n σ3 H3 w3 with ⟨stop,qn⟩|⟨go,N,hN,step⟩
 ·refine ny hp (aJ (T.done X rfl rfl rfl hc i pins s3 σ3 H3 X.xe I3 (stat fr3) st3 stop) λr s4 ⟨hr,I4⟩=>?_)
  subst hr
  exact zi ⟨σ3,H3,I4,qn⟩
 ·refine ny hp (aJ (T.item X rfl rfl rfl hc i pins s3 σ3 H3 X.xe I3 (stat fr3) st3 go) λr s4 ⟨u,hr,h4⟩=>?_)
  subst hr
  refine ny hp (aJ h4 λ_ s5 ⟨x,H5,I5,r5,y5,st5,fr5⟩=>?_)
  have I5':=I5.pinned (stat fr5) (T.obj _ _ st5)
  refine ny hp (aJ (hg _ s5 σ3 H5 x u _ I5' r5 (step x H5 y5)) λ_ s6 ⟨σ6,H6,I6,q6⟩=>?_)
  refine ny hp (aJ (hb _ s6 σ6 H6 _ I6 q6) λf s7 q7=>?_)
  have again: ∀{σ7:St} {H7:Hp},Inv X (pins++oq fp s5.heap) σ7 H7 s7->N σ7 H7-> ∃m,m<n/\ ∃i σ' H',Inv X pins σ' H' s7/\tn i s7.heap/\(∀b∈fp,H' b=none)/\W i m σ' H':=λ{σ7 H7} I7 n7=>by
   obtain⟨m',hm,w7⟩:=hN σ7 H7 n7
   refine⟨m',hm,i+1,σ7,H7,I7.qD,T.keep _ _ _ st5 λb hb o e=>(I7.pin (b,o) (lX _ (lX _ (uI hb e)))).1,λb hb=>?_,w7⟩
   obtain⟨o,e,d⟩:=T.obj _ _ st5 b hb
   exact(I7.pin (b,o) (lX _ (lX _ (uI hb e)))).2.1
  cases f with
  |next=>obtain⟨σ7,H7,I7,n7⟩:=q7;exact again I7 n7
  |cont=>obtain⟨σ7,H7,I7,n7⟩:=q7;exact again I7 n7
  |brk=>obtain⟨σ7,H7,I7,q7⟩:=q7;exact⟨σ7,H7,I7.qD,q7⟩
  |ret v=>obtain⟨x7,σ7,H7,I7,r7,q7⟩:=q7;exact⟨x7,σ7,H7,I7.qD,r7,q7⟩
end
theorem jG {K:aA} {a:aa} {xs:List V} {g:TG} {tb:TS} {D:Ends} {σ:St} {H:Hp} (Pv:Nat->St->Hp->Prop) (h0:Pv 0 σ H) (hl: ∀i σ H,i<=xs.length->Pv i σ H->bN K H a xs)
  (hs: ∀i x σ H,xs[i]?=some x->Pv i σ H->g x σ H λσ2 H2=>tb {D with nx:=Pv (i+1),ct:=Pv (i+1),bk:=D.nx} σ2 H2) (hd: ∀σ H,Pv xs.length σ H->D.nx σ H) :
  ∃W:Nat->Nat->St->Hp->Prop,(∃m,W 0 m σ H)/\ ∀i m σ H,W i m σ H ->
   ((km K a).stop i H/\D.nx σ H)∨((km K a).go i H/\ ∃N:St->Hp->Prop,(∀σ' H',N σ' H'-> ∃m',m'<m/\W (i+1) m' σ' H')/\ ∀x H',(km K a).gx i H x H'->g x σ H' λσ2 H2=>tb {D with nx:=N,ct:=N,bk:=D.nx} σ2 H2):=by
 refine⟨λi m σ H=>m=xs.length-i/\i<=xs.length/\Pv i σ H,⟨xs.length,by simp,bv _,h0⟩,?_⟩
 rintro i m σ H ⟨rfl,hi,p⟩
 have q:=hl i σ H hi p
 by_cases hlt:i<xs.length
 ·refine .inr ⟨⟨xs,xs[i],q,by simp [hlt]⟩,Pv (i+1),λσ' H' p'=>⟨xs.length-(i+1),by omega,rfl,hlt,p'⟩,λx H' y=>?_⟩
  obtain⟨e,y⟩:=y
  subst e
  exact hs i x σ _ (y xs q) p
 ·have e:i=xs.length:=by omega
  subst e
  exact .inl ⟨⟨xs,q,aW _⟩,hd σ H p⟩
theorem JW {c:TT} {tb:TS} {D:Ends} {σ:St} {H:Hp} (Pv:St->Hp->Prop) (μ:St->Hp->Nat) (h0:Pv σ H)
  (hs: ∀σ H,Pv σ H->c σ H λb H1=>if b=true then tb {D with nx:=λσ' H'=>Pv σ' H'/\μ σ' H'<μ σ H,ct:=λσ' H'=>Pv σ' H'/\μ σ' H'<μ σ H,bk:=D.nx} σ H1 else D.nx σ H1)
  (mono: ∀σ H Q Q',(∀b H1,Q b H1->Q' b H1)->c σ H Q->c σ H Q'):qC c tb D σ H:=by
 refine⟨λm σ H=>m=μ σ H/\Pv σ H,⟨_,rfl,h0⟩,?_⟩
 rintro m σ H ⟨rfl,p⟩
 refine mono σ H _ _ (λb H1 q=>?_) (hs σ H p)
 cases b with
 |true=>exact⟨_,λσ' H' ⟨p',l⟩=>⟨_,l,rfl,p'⟩,q⟩
 |false=>exact q
abbrev R2:=V->V->Hp->VK->Prop
def cO (X:Cx) (f:ac->ac->Sem ac) (r:R2):Prop:=
 ∀(pins:List (aa×Obj)) (s:af) (σ:St) (H:Hp) (x y:V) (v u:ac) (Q:VK),Inv X pins σ H s->RelV x v->RelV y u->r x y H Q ->
  wpAny (model X.prog X.w) X.A (f v u) (EP X pins σ Q) X.xe s
def uJ (X:Cx) (f:ac->Sem ac) (r:V->Hp->VK->Prop):Prop:=
 ∀(pins:List (aa×Obj)) (s:af) (σ:St) (H:Hp) (x:V) (v:ac) (Q:VK),Inv X pins σ H s->RelV x v->r x H Q ->
  wpAny (model X.prog X.w) X.A (f v) (EP X pins σ Q) X.xe s
def io (X:Cx) (f:ac) (r:List V->Hp->VK->Prop):Prop:=
 ∀(pins:List (aa×Obj)) (s:af) (σ:St) (H:Hp) (xs:List V) (us:List ac) (Q:VK),Inv X pins σ H s->Vals xs us->r xs H Q ->
  wpAny (model X.prog X.w) X.A (call f us) (EP X pins σ Q) X.xe s
def qE (r:R2) (ta tb:TE):TE:=λσ H Q=>ta σ H λx H1=>tb σ H1 λy H2=>r x y H2 Q
def JX (r:V->Hp->VK->Prop) (ta:TE):TE:=λσ H Q=>ta σ H λx H1=>r x H1 Q
def kn (g:Int->Int->V):R2:=λx y H Q=> ∃i j,x= .int i/\y= .int j/\Q (g i j) H
def rU (g:Int->V):V->Hp->VK->Prop:=λx H Q=> ∃i,x= .int i/\Q (g i) H
section
variable {X:Cx} {a b c:ao} {ta tb tc:TE} {pos:Pos}
theorem uK (ha:PE X a ta) (hb:PE X b tb) {pins:List (aa×Obj)} {s:af} {σ:St} {H:Hp} {R:V->V->Hp->Prop} (I:Inv X pins σ H s)
  (h:ta σ H λx H1=>tb σ H1 λy H2=>R x y H2) {Q:ac->af->Prop} {f:ac->ac->Sem ac}
  (hf: ∀v u s2 x y H2,Inv X pins σ H2 s2->RelV x v->RelV y u->R x y H2->wpAny (model X.prog X.w) X.A (f v u) Q X.xe s2) :
  wpAny (model X.prog X.w) X.A (eval a X.env) (λv s₁=>wpAny (model X.prog X.w) X.A (eval b X.env) (λu s₂=>wpAny (model X.prog X.w) X.A (f v u) Q X.xe s₂) X.xe s₁) X.xe s:=by
 refine aJ (ha pins s σ H _ I h) λv s1 ⟨x,H1,I1,r1,q1⟩=>?_
 refine aJ (hb pins s1 σ H1 _ I1 q1) λu s2 ⟨y,H2,I2,r2,q2⟩=>?_
 exact hf v u s2 x y H2 I2 r1 r2 q2
theorem JY {op:zj} {r:R2} (ho:cO X (binaryOp op) r) (ha:PE X a ta) (hb:PE X b tb):PE X (.BinOp a op b pos) (qE r ta tb):=by
 intro pins s σ H Q I h
 exact wpAny_BinOp (uK ha hb I h λv u s2 x y H2 I2 rx ry q=>ho pins s2 σ H2 x y v u Q I2 rx ry q)
theorem JZ {op:UnaryOp} {r:V->Hp->VK->Prop} (ho:uJ X (unaryOp op) r) (ha:PE X a ta):PE X (.UnaryOp op a pos) (JX r ta):=by
 intro pins s σ H Q I h
 exact UnaryOp_ (aJ (ha pins s σ H _ I h) λv s1 ⟨x,H1,I1,r1,q1⟩=>ho pins s1 σ H1 x v Q I1 r1 q1)
theorem AF {f:ac->ac->Sem ac} {g:Int->Int->Int}
  (rule: ∀(i j:Int) (t u:Tok) (s:af) (Q:ac->af->Prop) (E:ac->af->Prop),Q (.int (g i j) s.toks) {s with toks:=s.toks+1}->wpAny (model X.prog X.w) X.A (f (.int i t) (.int j u)) Q E s) :
  cO X f (kn λi j=> .int (g i j)):=by
 intro pins s σ H x y v u Q I rx ry h
 obtain⟨i,j,rfl,rfl,q⟩:=h
 obtain⟨t,rfl⟩:=rx
 obtain⟨t',rfl⟩:=ry
 exact rule i j t t' s _ _ ⟨.int (g i j),H,I.tok _,⟨_,rfl⟩,q⟩
theorem qF {f:ac->ac->Sem ac} {g:Int->Int->Bool}
  (rule: ∀(i j:Int) (t u:Tok) (s:af) (Q:ac->af->Prop) (E:ac->af->Prop),Q (.bool (g i j)) s->wpAny (model X.prog X.w) X.A (f (.int i t) (.int j u)) Q E s) :
  cO X f (kn λi j=> .bl (g i j)):=by
 intro pins s σ H x y v u Q I rx ry h
 obtain⟨i,j,rfl,rfl,q⟩:=h
 obtain⟨t,rfl⟩:=rx
 obtain⟨t',rfl⟩:=ry
 exact rule i j t t' s _ _ ⟨.bl (g i j),H,I,rfl,q⟩
theorem J0:cO X (binaryOp .Add) (kn λi j=> .int (i+j)):=AF λ_ _ _ _ _ _ _ q=>add_int q
theorem J1:cO X (binaryOp .Sub) (kn λi j=> .int (i-j)):=AF λ_ _ _ _ _ _ _ q=>sub_int q
theorem J2 {f:ac->Sem ac} {g:Int->Int}
  (rule: ∀(i:Int) (t:Tok) (s:af) (Q:ac->af->Prop) (E:ac->af->Prop),Q (.int (g i) s.toks) {s with toks:=s.toks+1}->wpAny (model X.prog X.w) X.A (f (.int i t)) Q E s) :
  uJ X f (rU λi=> .int (g i)):=by
 intro pins s σ H x v Q I rx h
 obtain⟨i,rfl,q⟩:=h
 obtain⟨t,rfl⟩:=rx
 exact rule i t s _ _ ⟨.int (g i),H,I.tok _,⟨_,rfl⟩,q⟩
theorem J3:uJ X (unaryOp .USub) (rU λi=> .int (-i)):=J2 λ_ _ _ _ _ q=>neg_int q
end
def AG:V->V->Bool
 | .a9,.a9=>true| .a9,.int _=>true| .int _,.a9=>true| .a9,.bl _=>true| .bl _,.a9=>true| .a9,.str _=>true| .str _,.a9=>true
 | .int _,.int _=>true| .bl _,.bl _=>true| .str _,.str _=>true| .eU _,.eU _=>true
 | .int _,.str _=>true| .str _,.int _=>true| .bl _,.str _=>true| .str _,.bl _=>true
 |_,_=>false
def J4:R2:=λx y H Q=>AG x y=true/\Q (.bl (decide (x=y))) H
def J5:R2:=λx y H Q=>AG x y=true/\Q (.bl (!decide (x=y))) H
theorem mw {i j:Int}:decide (V.int i=V.int j)=(i == j):=by
 rw[jX]
 simp
theorem AH {i j:Bool}:decide (V.bl i=V.bl j)=(i == j):=by
 rw[jX]
 simp
theorem AI {i j:Str}:decide (V.str i=V.str j)=(i == j):=by
 rw[jX]
 simp
theorem AJ {i j:Array UInt8}:decide (V.eU i=V.eU j)=(i.toList == j.toList):=by
 rw[jX]
 cases i
 cases j
 simp
section
variable {X:Cx} {a b c:ao} {ta tb tc:TE} {pos:Pos}
theorem cD {pins:List (aa×Obj)} {σ:St} {H:Hp} {s:af} {Q:VK} {k k':Bool} (I:Inv X pins σ H s) (q:Q (.bl k) H) (e:k=k'):EP X pins σ Q (.bool k') s:=by
 subst e
 exact⟨.bl k,H,I,rfl,q⟩
theorem AK:cO X (compareOp .Eq) J4:=by
 intro pins s σ H x y v u Q I rx ry h
 obtain⟨hs,q⟩:=h
 cases x with
 |a9=>
  cases rx
  cases y with
  |a9=>cases ry;exact Vn (cD I q (by simp))
  |bl j=>cases ry;exact Vo (cD I q (by simp))
  |int j=>obtain⟨t',rfl⟩:=ry;exact Vp (cD I q (by simp))
  |str j=>obtain⟨t',rfl⟩:=ry;exact Vq (cD I q (by simp))
  |_=>exact absurd (show false=true from hs) cY
 |bl i=>
  cases rx
  cases y with
  |a9=>cases ry;exact Vr (cD I q (by simp))
  |bl j=>cases ry;exact eq_bool (cD I q AH)
  |str j=>obtain⟨t',rfl⟩:=ry;exact Vs (cD I q (by simp))
  |_=>exact absurd (show false=true from hs) cY
 |int i=>
  obtain⟨t,rfl⟩:=rx
  cases y with
  |a9=>cases ry;exact Vt (cD I q (by simp))
  |int j=>obtain⟨t',rfl⟩:=ry;exact eq_int (cD I q mw)
  |str j=>obtain⟨t',rfl⟩:=ry;exact Vu (cD I q (by simp))
  |_=>exact absurd (show false=true from hs) cY
 |str i=>
  obtain⟨t,rfl⟩:=rx
  cases y with
  |a9=>cases ry;exact Vv (cD I q (by simp))
  |bl j=>cases ry;exact Vw (cD I q (by simp))
  |int j=>obtain⟨t',rfl⟩:=ry;exact Vx (cD I q (by simp))
  |str j=>obtain⟨t',rfl⟩:=ry;exact eq_str (cD I q AI)
  |_=>exact absurd (show false=true from hs) cY
 |eU i=>
  obtain⟨t,rfl⟩:=rx
  cases y with
  |eU j=>obtain⟨t',rfl⟩:=ry;exact PySem.W.eq_bytes (cD I q AJ)
  |_=>exact absurd (show false=true from hs) cY
 |_=>cases y <;> exact absurd (show false=true from hs) cY
theorem AL:cO X (compareOp .NotEq) J5:=by
 intro pins s σ H x y v u Q I rx ry h
 obtain⟨hs,q⟩:=h
 cases x with
 |a9=>
  cases rx
  cases y with
  |a9=>cases ry;exact Vy (cD I q (by simp))
  |bl j=>cases ry;exact Vz (cD I q (by simp))
  |int j=>obtain⟨t',rfl⟩:=ry;exact VA (cD I q (by simp))
  |str j=>obtain⟨t',rfl⟩:=ry;exact VB (cD I q (by simp))
  |_=>exact absurd (show false=true from hs) cY
 |bl i=>
  cases rx
  cases y with
  |a9=>cases ry;exact VC (cD I q (by simp))
  |bl j=>cases ry;exact ne_bool (cD I q (congrArg not AH))
  |str j=>obtain⟨t',rfl⟩:=ry;exact VD (cD I q (by simp))
  |_=>exact absurd (show false=true from hs) cY
 |int i=>
  obtain⟨t,rfl⟩:=rx
  cases y with
  |a9=>cases ry;exact VE (cD I q (by simp))
  |int j=>obtain⟨t',rfl⟩:=ry;exact ne_int (cD I q (congrArg not mw))
  |str j=>obtain⟨t',rfl⟩:=ry;exact VF (cD I q (by simp))
  |_=>exact absurd (show false=true from hs) cY
 |str i=>
  obtain⟨t,rfl⟩:=rx
  cases y with
  |a9=>cases ry;exact VG (cD I q (by simp))
  |bl j=>cases ry;exact VH (cD I q (by simp))
  |int j=>obtain⟨t',rfl⟩:=ry;exact VI (cD I q (by simp))
  |str j=>obtain⟨t',rfl⟩:=ry;exact ne_str (cD I q (congrArg not AI))
  |_=>exact absurd (show false=true from hs) cY
 |eU i=>
  obtain⟨t,rfl⟩:=rx
  cases y with
  |eU j=>obtain⟨t',rfl⟩:=ry;exact PySem.W.ne_bytes (cD I q (congrArg not AJ))
  |_=>exact absurd (show false=true from hs) cY
 |_=>cases y <;> exact absurd (show false=true from hs) cY
theorem J6:cO X (compareOp .Lt) (kn λi j=> .bl (decide (i<j))):=qF λ_ _ _ _ _ _ _ q=>lt_int q
theorem ox:cO X (compareOp .LtE) (kn λi j=> .bl (decide (i<=j))):=qF λ_ _ _ _ _ _ _ q=>le_int q
theorem AM:cO X (compareOp .Gt) (kn λi j=> .bl (decide (j<i))):=qF λ_ _ _ _ _ _ _ q=>gt_int q
theorem J7:cO X (compareOp .GtE) (kn λi j=> .bl (decide (j<=i))):=qF λ_ _ _ _ _ _ _ q=>ge_int q
theorem gA (b:ao) {op:js} (h:op≠ .In:=by decide) (h2:op≠ .NotIn:=by decide):behindInMarks op b=false:=by
 have e1:(op == RX)=false:=by cases op <;> first|rfl|exact absurd rfl h
 have e2:(op == RY)=false:=by cases op <;> first|rfl|exact absurd rfl h2
 cases b <;> simp [behindInMarks,e1,e2]
theorem J8 {op:js} {r:R2} (ho:cO X (compareOp op) r) (ha:PE X a ta) (hb:PE X b tb) (hm:behindInMarks op b=false):PE X (.Compare a [op] [b] pos) (qE r ta tb):=by
 intro pins s σ H Q I h
 exact RZ (uK ha hb I h λv u s2 x y H2 I2 rx ry q=>ho pins s2 σ H2 x y v u Q I2 rx ry q) hm
def AN (t:TE):TT:=λσ H Q=>t σ H λx H'=> ∃k,x= .bl k/\Q k H'
theorem J9 {op:js} {r:R2} (ho:cO X (compareOp op) r) (ha:PE X a ta) (hb:PE X b tb) (hm:behindInMarks op b=false):PT X (.Compare a [op] [b] pos) (AN (qE r ta tb)):=by
 intro pins s σ H Q I h
 refine R0 (aJ (ha pins s σ H _ I h) λv s1 ⟨x,H1,I1,r1,q1⟩=>aJ (hb pins s1 σ H1 _ I1 q1) λu s2 ⟨y,H2,I2,r2,q2⟩=>
  aJ (ho pins s2 σ H2 x y v u _ I2 r1 r2 q2) λc s3 ⟨z,H3,I3,r3,k,e,q3⟩=>?_) hm
 subst e
 cases r3
 exact jt ⟨H3,I3,q3⟩
def AO (r r':R2) (ta tb tc:TE):TE:=λσ H Q=>ta σ H λx H1=>tb σ H1 λy H2=>r x y H2 λz H3=> ∃k,z= .bl k /\
 (if k=true then tc σ H3 λw' H4=>r' y w' H4 Q else Q (.bl false) H3)
theorem J_ {op op':js} {r r':R2} (ho:cO X (compareOp op) r) (ho':cO X (compareOp op') r') (ha:PE X a ta) (hb:PE X b tb) (hc:PE X c tc)
  (hm:lastMarks [op,op'] [b,c]=false:=by with_unfolding_all rfl):PE X (.Compare a [op,op'] [b,c] pos) (AO r r' ta tb tc):=by
 intro pins s σ H Q I h
 refine Compare_chain (aJ (ha pins s σ H _ I h) λv s1 ⟨x,H1,I1,r1,q1⟩=>chain_link (aJ (hb pins s1 σ H1 _ I1 q1) λu s2 ⟨y,H2,I2,r2,q2⟩=>
  aJ (ho pins s2 σ H2 x y v u _ I2 r1 r2 q2) λd s3 ⟨z,H3,I3,r3,k,e,q3⟩=>?_)) hm
 subst e
 cases r3
 refine jt ?_
 cases k with
 |false=>exact ite_ff ⟨.bl false,H3,I3,rfl,q3⟩
 |true=>exact ite_tt (chain_last (aJ (hc pins s3 σ H3 _ I3 q3) λw' s4 ⟨z',H4,I4,r4,q4⟩=>ho' pins s4 σ H4 y z' u w' Q I4 r2 r4 q4))
theorem Ka {op op':js} {r r':R2} (ho:cO X (compareOp op) r) (ho':cO X (compareOp op') r') (ha:PE X a ta) (hb:PE X b tb) (hc:PE X c tc)
  (hm:lastMarks [op,op'] [b,c]=false:=by with_unfolding_all rfl):PT X (.Compare a [op,op'] [b,c] pos) (AN (AO r r' ta tb tc)):=by
 intro pins s σ H Q I h
 refine isTrue_chain (aJ (ha pins s σ H _ I h) λv s1 ⟨x,H1,I1,r1,q1⟩=>test_link (aJ (hb pins s1 σ H1 _ I1 q1) λu s2 ⟨y,H2,I2,r2,q2⟩=>
  aJ (ho pins s2 σ H2 x y v u _ I2 r1 r2 q2) λd s3 ⟨z,H3,I3,r3,k,e,q3⟩=>?_)) hm
 subst e
 cases r3
 refine jt ?_
 cases k with
 |false=>
  obtain⟨k',e',q'⟩:=q3
  cases e'
  exact ite_ff ⟨H3,I3,q'⟩
 |true=>
  refine ite_tt (test_last (aJ (hc pins s3 σ H3 _ I3 q3) λw' s4 ⟨z',H4,I4,r4,q4⟩=>aJ (ho' pins s4 σ H4 y z' u w' _ I4 r2 r4 q4) λd' s5 ⟨z2,H5,I5,r5,k2,e2,q5⟩=>?_))
  subst e2
  cases r5
  exact jt ⟨H5,I5,q5⟩
theorem uL:(sizeLine:Nat)<2 ^ 63:=by rw[jY];decide
theorem vals1 {x:V} {us:List ac} (r:Vals [x] us): ∃u,us=[u]/\RelV x u:=by
 cases r with
 |cons r1 r2=>cases r2;exact⟨_,rfl,r1⟩
theorem Kb:io X (.builtin "ord") (λxs H Q=> ∃x,xs=[.str x]/\x.length=1/\Q (.int (x.cps.getD 0 0:Nat)) H):=by
 intro pins s σ H xs us Q I r h
 obtain⟨x,rfl,hz,q⟩:=h
 obtain⟨u,rfl,t,rfl⟩:=vals1 r
 exact ord_of_one hz ⟨.int _,H,I.tok _,⟨_,rfl⟩,q⟩
end
structure mx (h:aF) (x dx C:aa) (mA:Str->Option ac):Prop where
 obj:h.get? x=some (lW C dx)
 ns:h.Ns1 dx mA
 ne:dx≠x
theorem Kc {h:aF} {dx:aa} {mA:Str->Option ac} (n:h.Ns1 dx mA): ∃od,h.get? dx=some od/\ ∀name,Hg name od=some (mA name):=by
 obtain⟨o,es,ep,ho,hd,hk,_,hm⟩:=n
 refine⟨o,ho,λname=>?_⟩
 have e:=hm name
 unfold nsFind findBy at e
 rw[←Array.find?_toList] at e
 unfold Hg
 rw[hd]
 dsimp only
 split
 ·rename_i y q
  rw[q] at e
  exact congrArg some e
 ·rename_i q
  rw[q] at e
  have a:es.toList.any (·.refKey)=false:=by
   rw[Hh]
   intro y hy
   obtain⟨z,t,hkey⟩:=hk y (pN.mp hy)
   simp [DictEntry.refKey,hkey]
  have a': ¬es.toList.any (·.refKey)=true:=by rw[a];exact cY
  rw[if_neg a']
  exact congrArg some e
theorem mx.look {h:aF} {x dx C:aa} {mA:Str->Option ac} (I:mx h x dx C mA): ∃od,PySem.W.InstAt h x (lW C dx) C (some od)/\ ∀name,Hg name od=some (mA name):=
 let ⟨od,ho,hl⟩:=Kc I.ns
 ⟨od,⟨I.obj,rfl,rfl,ho⟩,hl⟩
section
variable {prog:aI} {w:aE} {A:a7} {E:ac->af->Prop} {s:af} {K:aA} {x dx C f:aa} {mA:Str->Option ac} {name:Str} {v:ac}
theorem get_map {expr:Bool} {Q:ac->af->Prop} (X:K.In s.heap) (I:mx s.heap x dx C mA) (hg:zm K C name=true) (hh:zn K C=true)
  (ha:iO K (.ref C) name=some none) (hv:mA name=some v) (hv':Sa v=true) (h:Q v {s with toks:=s.toks+1}) :
  wpAny (model prog w) A (getAttr (.ref x) name expr) Q E s:=by
 obtain⟨od,J,hl⟩:=I.look
 exact PySem.W.get_value X J (PySem.W.plainGet_of hg).1 (PySem.W.findObj_own hh ha rfl (by rw[hl,hv])) hv' h
theorem Kd {ns:List Str} {Q:Unit->af->Prop} (X:K.In s.heap) (I:mx s.heap x dx C mA)
  (hs:iO K (.ref C) "__setattr__"=some (some (.builtin "object.__setattr__"))) (hp:Hi K C=true) (ht:Hj K C name=some none) (hh:zn K C=true)
  (hw:G_ mA ns) (hsz:ns.length<=sizeLine)
  (h: ∀h',mx h' x dx C (λy=>if y=name then some v else mA y)->kU dx s.heap h'->Q () {s with heap:=h',toks:=s.toks+2}) :
  wpAny (model prog w) A (setAttr (.ref x) name v) Q E s:=by
 obtain⟨od,J,hl⟩:=I.look
 refine PySem.W.set_plain X J hs (PySem.W.osa_open (s:={s with toks:=s.toks+1}) (r:=none) X J hp ht λb=>?_)
 obtain⟨cd,hc,hd'⟩:=PySem.W.any_some hh
 have hx:s.heap.get? x=some ⟨.ref C,some dx,.plain,#[]⟩:=I.obj
 refine aj (ay (aj (aj (wpAny_loadPart hx (aj (VJ (s:={s with toks:=s.toks+1}) (PySem.W.looks_clsIn X hc) ?_))))))
 rw[hd']
 refine ay (a:=some dx) (aj (ay (aj ?_)))
 refine wpAny_nsSet1 (s:={s with toks:=s.toks+1}) I.ns λh' hn2 hs2=>?_
 obtain⟨oD,esD,epD,hoD,hdD,hcD⟩:=hn2.count (VL name v hw)
 refine aj (wpAny_lookBehind hoD (by rw[hdD];exact pastItsLine_dict (bM hcD (by rw[bm];omega))) ?_)
 exact ay (h _ ⟨(hs2.2 _ (dw I.ne)).trans I.obj,hn2,I.ne⟩ hs2)
theorem Ke {R:zo->af->Prop} {vs:List ac} {kw:List (Str×ac)} (X:K.In s.heap) (hm:Hk K C=true)
  (hi:iO K (.ref C) "__init__"=some (some (.ref f))) (hf:PySem.W.typeIn K (.ref f)=some (.type "function"))
  (h:codeAny (model prog w) (A.under (.builtin "type.__call__" ⟨.ref C::vs,kw⟩)) (.call (.ref f) ⟨.ref (s.heap.objs.size+1)::vs,kw⟩) (PySem.W.InitBack (s.heap.objs.size+1) R)
   {s with heap:=(s.heap.push kW).push (lW C s.heap.objs.size)}) :
  codeAny (model prog w) A (.call (.ref C) ⟨vs,kw⟩) R s:=by
 obtain⟨hh,g,d,t,os⟩:=s
 exact PySem.W.make_core (PySem.W.makes_of X hm) (PySem.W.looks_findIn X hi) (λself=>PySem.W.bind_fn X self hf) (.inl rfl) h
end
def dH (f:Str) (v:V):List (Str×V)->List (Str×V)
 | []=>[(f,v)]
 |(g,x)::r=>if g=f then (g,v)::r else (g,x)::dH f v r
theorem oy (f g:Str) (v:V): ∀fs:List (Str×V),(dH f v fs).lookup g=if g=f then some v else fs.lookup g
 | []=>by
  show lY g [(f,v)]=_
  by_cases h:g=f
  ·have hb:(g == f)=true:=beq_iff_eq.mpr h
   simp only[lY,hb,if_pos h]
  ·have hb:(g == f)=false:=beq_eq_false_iff_ne.mpr h
   simp only[lY,hb,if_neg h]
 |(k,x)::r=>by
  have ih:=oy f g v r
  rw[show dH f v ((k,x)::r)=(if k=f then (k,v)::r else (k,x)::dH f v r) from rfl]
  by_cases hk:k=f
  ·rw[if_pos hk]
   by_cases h:g=k
   ·have hb:(g == k)=true:=beq_iff_eq.mpr h
    simp only[lY,hb,if_pos (h.trans hk)]
   ·have hb:(g == k)=false:=beq_eq_false_iff_ne.mpr h
    simp only[lY,hb,if_neg (λe:g=f=>h (e.trans hk.symm))]
  ·rw[if_neg hk]
   by_cases h:g=k
   ·have hb:(g == k)=true:=beq_iff_eq.mpr h
    simp only[lY,hb,if_neg (λe:g=f=>hk (h.symm.trans e))]
   ·have hb:(g == k)=false:=beq_eq_false_iff_ne.mpr h
    simp only[lY,hb]
    exact ih
theorem uM (f:Str) (v:V): ∀fs:List (Str×V),f∈(dH f v fs).map (·.1)/\ ∀g,g∈fs.map (·.1)->g∈(dH f v fs).map (·.1)
 | []=>⟨by simp [dH],λg h=>by simp at h⟩
 |(k,x)::r=>by
  obtain⟨i1,i2⟩:=uM f v r
  rw[show dH f v ((k,x)::r)=(if k=f then (k,v)::r else (k,x)::dH f v r) from rfl]
  by_cases hk:k=f
  ·rw[if_pos hk]
   subst hk
   exact⟨by simp,λg h=>by simpa using h⟩
  ·rw[if_neg hk]
   refine⟨?_,λg h=>?_⟩
   ·rw[aU]
    exact bq _ i1
   ·rw[aU] at h ⊢
    rcases be.mp h with e|e
    ·exact be.mpr (.inl e)
    ·exact bq _ (i2 g e)
theorem AQ (f:Str) (v:V): ∀fs:List (Str×V),(dH f v fs).length<=fs.length+1
 | []=>by simp [dH]
 |(k,x)::r=>by
  have ih:=AQ f v r
  rw[show dH f v ((k,x)::r)=(if k=f then (k,v)::r else (k,x)::dH f v r) from rfl]
  by_cases hk:k=f
  ·rw[if_pos hk,bm,bm];omega
  ·rw[if_neg hk,bm,bm];omega
theorem fE.some_of {v:V} {o:Option ac} (r:fE (some v) o): ∃u,o=some u/\RelV v u:=by
 cases o with
 |none=>exact(show False from r).elim
 |some u=>exact⟨u,rfl,r⟩
theorem Kf {v:V} {u:ac} (r:RelV v u):Sa u=true:=by
 cases v with
 |a9=>cases (show u=iN from r);rfl
 |bl b=>cases (show u=kT b from r);rfl
 |int i=>obtain⟨t,e⟩:=(show ∃t,u=iM i t from r);cases e;rfl
 |str x=>obtain⟨t,e⟩:=(show ∃t,u=zg x t from r);cases e;rfl
 |eU b=>obtain⟨t,e⟩:=(show ∃t,u=RM b t from r);cases e;rfl
 |n6 b=>obtain⟨t,e⟩:=(show ∃t,u=RP b t from r);cases e;rfl
 |ref a=>cases (show u=aP a from r);rfl
 |ty n=>cases (show u=jq n from r);rfl
section
variable {P:aI} {w:aE} {H H':Hp} {h h':aF} {a C dx:aa} {fs fs':List (Str×V)}
theorem AR (aB:cg P w H h) (e:H a=some (.ins C dx fs)): ∃mA,mx h a dx C mA/\(∀f,fE (fs.lookup f) (mA f))/\G_ mA (fs.map (·.1))/\fs.length<=1000/\H dx=some (.own a):=by
 obtain⟨d,z,ne,ob,mA,n,r,q⟩:=(show cz P w H h a (.ins C dx fs) from aB a _ e)
 exact⟨mA,⟨ob,n,ne⟩,r,q,z,d⟩
end
structure ip (K:aA) (C:aa):Prop where
 pg:zm K C Sb=true
 hd:zn K C=true
 po:Hi K C=true
 sa:iO K (.ref C) "__setattr__"=some (some (.builtin "object.__setattr__"))
theorem ip.get {K:aA} {C:aa} (c:ip K C) (f:Str):zm K C f=true:=c.pg
def fW (K:aA) (C:aa) (f:Str):Prop:=iO K (.ref C) f=some none
theorem fW.Kg {K:aA} {C:aa} {f:Str} (n:fW K C f):Hj K C f=some none:=by
 unfold Hj
 rw[show iO K (.ref C) f=some none from n]
 rfl
structure Ve (K:aA) (C:aa) (f:Str) (v:V) (u:ac):Prop where
 at_:iO K (.ref C) f=some (some u)
 rel:RelV v u
 get:PySem.W.specialIn K u "__get__"=some none
 cp:PySem.W.copiedNames.contains f=false
structure Meth (K:aA) (C:aa) (m:Str) (f:aa):Prop where
 at_:iO K (.ref C) m=some (some (.ref f))
 fn:Hl K (.ref f)=true
 kp:fo K (.ref f)=true
section
variable {X:Cx} {pins:List (aa×Obj)} {σ:St} {H:Hp} {s:af} {a C dx:aa} {fs:List (Str×V)} {f:Str} {v:V} {A:a7} {E:ac->af->Prop}
theorem Kh {b:Bool} {Q:ac->af->Prop} (I:Inv X pins σ H s) (e:H a=some (.ins C dx fs)) (c:ip X.K C) (n:fW X.K C f) (l:fs.lookup f=some v)
  (h: ∀u s',Inv X pins σ H s'->RelV v u->Q u s'):wpAny (model X.prog X.w) A (getAttr (.ref a) f b) Q E s:=by
 obtain⟨mA,O,r,_,_,_⟩:=AR I.aB e
 obtain⟨u,hu,ru⟩:=fE.some_of (v:=v) (o:=mA f) (by rw[←l];exact r f)
 exact get_map I.fV O (c.get f) c.hd n hu (Kf ru) (h u _ (I.tok _) ru)
theorem Ki {y:V} {u:ac} {Q:Unit->af->Prop} (I:Inv X pins σ H s) (e:H a=some (.ins C dx fs)) (c:ip X.K C) (n:fW X.K C f) (hl:fs.length<1000) (ry:RelV y u)
  (h: ∀s',Inv X pins σ (upd H a (.ins C dx (dH f y fs))) s'->Q () s'):wpAny (model X.prog X.w) A (setAttr (.ref a) f u) Q E s:=by
 obtain⟨mA,O,r,wi,_,ho⟩:=AR I.aB e
 have hz:(fs.map (·.1)).length<=sizeLine:=by rw[aC,jY];omega
 refine Kd I.fV O c.sa c.po n.Kg c.hd wi hz λh' O' sb=>h _ ?_
 have hd: ∃o,h'.get? dx=some o:=let ⟨o,_,_,e',_⟩:=O'.ns;⟨o,e'⟩
 refine I.write (x:=a) (e:=dx) (by rw[e];exact fb) (.inr ho) (λb q hb z=>(sb.2 b hb).trans z) hd ?_
 refine⟨by rw[az O.ne];exact ho,?_,O.ne,O'.obj,_,O'.ns,λg=>?_,λg hg=>?_⟩
 ·have:=AQ f y fs;omega
 ·show fE ((dH f y fs).lookup g) (if g=f then some u else mA g)
  rw[oy]
  by_cases q:g=f
  ·rw[if_pos q,if_pos q];exact ry
  ·rw[if_neg q,if_neg q];exact r g
 ·by_cases q:g=f
  ·rw[q];exact(uM f y fs).1
  ·refine(uM f y fs).2 g (wi g λz=>hg ?_)
   show (if g=f then some u else mA g)=none
   rw[if_neg q];exact z
theorem Inv.made (I:Inv X pins σ H s):Inv X pins σ (upd (upd H s.heap.objs.size (.own (s.heap.objs.size+1))) (s.heap.objs.size+1) (.ins C s.heap.objs.size []))
  {s with heap:=(s.heap.push kW).push (lW C s.heap.objs.size)}:=by
 have e1:(s.heap.push kW).get? s.heap.objs.size=some kW:=cw s.heap rfl
 have e2:((s.heap.push kW).push (lW C s.heap.objs.size)).get? (s.heap.objs.size+1)=some (lW C s.heap.objs.size):=by
  have:=cw (s.heap.push kW) (o:=lW C s.heap.objs.size) rfl
  rwa[fP] at this
 have e3:(s.heap.push kW).Ns s.heap.objs.size (λ_=>none):=⟨kW,#[],_,e1,rfl,(λe he=>absurd he (by simp)),λ_=>rfl⟩
 have I1:=I.laid (a:=s.heap.objs.size) (o:= .own (s.heap.objs.size+1)) (h':=s.heap.push kW) (t':=s.toks) (λb u q=>b4 _ q) (aW _) ⟨_,e1⟩
 refine I1.laid (a:=s.heap.objs.size+1) (o:= .ins C s.heap.objs.size []) (t':=s.toks) (λb u q=>b4 _ q) (zp (fP _ _)) ?_
 have ne:s.heap.objs.size≠s.heap.objs.size+1:=cX (zr _)
 refine⟨by rw[az ne,aK],bv _,ne,e2,λ_=>none,(Heap.Ns1.of_empty e3).at λo q=>b4 _ q,λ_=>fb,λy hy=>absurd rfl hy⟩
theorem Kj {prog:aI} {w:aE} {env:Env} {e:ao} {f:Str} {pos:Pos} {s:af} {Q:ac->af->Prop} (hb:attributeBase e f env (eval e env)=eval e env)
  (h:wpAny (model prog w) A (eval e env) (λo s₁=>wpAny (model prog w) A (getAttr o f true) Q E s₁) E s):wpAny (model prog w) A (eval (.Attribute e f pos) env) Q E s:=
 Attribute_any_ h (by rw[arm_eval_Attribute,hb])
end
def Kk (K:aA) (ta:TE) (f:Str):TE:=λσ H Q=>ta σ H λx H1=> ∃a C dx fs v,x= .ref a/\H1 a=some (.ins C dx fs)/\ip K C/\fW K C f/\fs.lookup f=some v/\Q v H1
def AS (K:aA) (ta tv:TE) (f:Str):TS:=λD σ H=>tv σ H λy H1=>ta σ H1 λx H2=> ∃a C dx fs,x= .ref a/\H2 a=some (.ins C dx fs)/\ip K C/\fW K C f/\fs.length<1000 /\
 D.nx σ (upd H2 a (.ins C dx (dH f y fs)))
section
variable {X:Cx} {o e value:ao} {f:Str} {pos pos' tpos:Pos} {ta tv:TE}
theorem Kl (he:PE X e ta) (hb:attributeBase e f X.env (eval e X.env)=eval e X.env):PE X (.Attribute e f pos) (Kk X.K ta f):=by
 intro pins s σ H Q I h
 refine Kj hb (aJ (he pins s σ H _ I h) λu s1 ⟨x,H1,I1,rx,a,C,dx,fs,v,ex,ea,c,n,l,q⟩=>?_)
 subst ex
 obtain rfl:u=aP a:=rx
 exact Kh I1 ea c n l λu' s2 I2 ru=>⟨v,H1,I2,ru,q⟩
theorem my (ha:PE X o ta) (hv:PE X value tv) (hs:swapsWith value (some (.Attribute o f pos')) pos.line X.env=pure false):PS X (.Assign [.Attribute o f pos'] value pos) (AS X.K ta tv f):=by
 intro pins s σ H D I h
 refine plainObj_wpAny_Assign_Attribute (aJ (hv pins s σ H _ I h) λu s1 ⟨y,H1,I1,ry,q⟩=>aJ (ha pins s1 σ H1 _ I1 q) λov s2 ⟨x,H2,I2,rx,a,C,dx,fs,ex,ea,c,n,l,q2⟩=>?_) hs
 subst ex
 obtain rfl:ov=aP a:=rx
 exact Ki I2 ea c n l ry λs3 I3=>⟨σ,_,I3,q2⟩
end
structure bJ (k:Nat) (A:a7):Prop where
 hd:A.handled=none
 dp:A.depth+3*k+5<recursionLimit
 un:A.units+16*k+200<cLine
theorem bJ.mono {j k:Nat} {A:a7} (r:bJ k A) (h:j<=k):bJ j A:=⟨r.hd,by have:=r.dp;omega,by have:=r.un;omega⟩
theorem bJ.deeper {k:Nat} {A:a7} (r:bJ (k+1) A) (env:Env):bJ k (A.deeper env):=
 ⟨r.hd,by have:=r.dp;show A.depth+1+3*k+5<_;omega,by have:=r.un;show A.units+3+16*k+200<_;omega⟩
theorem Km {A:a7} {C:aa} {us:List ac} {kw:List (Str×ac)}:(A.under (.builtin "type.__call__" ⟨.ref C::us,kw⟩)).depth=A.depth+1:=by
 first|rfl|simp [Hm,Code.weight,Code.isCreation,Code.isGuard,Code.isCaller,Sc,Hn,guardIds]
theorem Kn {A:a7} {C:aa} {us:List ac} {kw:List (Str×ac)}:(A.under (.builtin "type.__call__" ⟨.ref C::us,kw⟩)).units=A.units+1:=by
 first|rfl|simp [Hm,Code.cUnits,Sc,Hn]
theorem bJ.make {k:Nat} {A:a7} (r:bJ (k+1) A) (C:aa) (us:List ac) (kw:List (Str×ac)):bJ k (A.under (.builtin "type.__call__" ⟨.ref C::us,kw⟩)):=
 ⟨r.hd,by have:=r.dp;rw[Km];omega,by have:=r.un;rw[Kn];omega⟩
theorem bJ.depth {k:Nat} {A:a7} (r:bJ k A):A.depth<recursionLimit:=by have:=r.dp;omega
theorem bJ.units {k:Nat} {A:a7} (r:bJ k A):A.units+64<cLine:=by have:=r.un;omega
theorem bJ.gB {k:Nat} {A:a7} (r:bJ k A):A.units<cLine:=by have:=r.un;omega
def AT:TA:=λ_ H Q=>Q [] H
def Ko (ta:TE) (tr:TA):TA:=λσ H Q=>ta σ H λx H1=>tr σ H1 λxs H2=>Q (x::xs) H2
section
variable {X:Cx} {e:ao} {es:List ao} {te:TE} {t:TA} {pos:Pos}
theorem gP:PA X [] AT:=λ_ _ _ _ H Q I h=>Ho ⟨[],H,I,.nil,h⟩
theorem Kp (ha:PE X e te) (hr:PA X es t) (hs:starEach (e::es) X.env=(false,eval e X.env)::starEach es X.env:=by rfl):PA X (e::es) (Ko te t):=by
 intro pos pins s σ H Q I h
 rw[hs]
 show wpAny _ _ (spliced ((false,eval e X.env)::backTo pos (starEach es X.env))) _ _ s
 refine zt (aJ (ha pins s σ H _ I h) λu s1 ⟨x,H1,I1,r1,q1⟩=>?_)
 exact aJ (hr pos pins s1 σ H1 _ I1 q1) λus s2 ⟨xs,H2,I2,r2,q2⟩=>⟨x::xs,H2,I2,.cons r1 r2,q2⟩
def Kq (t:TA):TE:=λσ H Q=>t σ H λxs H1=>xs.length<=sizeLine/\ ∀p,H1 p=none->Q (.ref p) (upd H1 p (.tup xs))
def Kr (t:TA):TE:=λσ H Q=>t σ H λxs H1=>xs.length<=sizeLine/\ ∀p,H1 p=none->Q (.ref p) (upd H1 p (.lst xs))
theorem Ks {x1} (h:PA X es t):PE X (.Tuple es x1 pos) (Kq t):=by
 intro pins s σ H Q I hq
 refine wpAny_Tuple_spliced (aJ (h pos pins s σ H _ I hq) λus s1 ⟨xs,H1,I1,r,z,q⟩=>⟨by rw[←r.length];exact z,?_⟩)
 have hf:H1 s1.heap.objs.size=none:=I1.aB.fresh (aW _)
 refine⟨.ref s1.heap.objs.size,upd H1 s1.heap.objs.size (.tup xs),I1.laid (t':=s1.toks) (λb u e=>b4 _ e) (aW _) ?_,rfl,q _ hf⟩
 exact⟨z,us,r,⟨_,cw _ rfl,rfl,_,rfl⟩,_,cw _ rfl,rfl,rfl⟩
theorem fF (h:PA X es t):PE X (.List es pos) (Kr t):=by
 intro pins s σ H Q I hq
 refine wpAny_List_spliced (aJ (h pos pins s σ H _ I hq) λus s1 ⟨xs,H1,I1,r,z,q⟩=>⟨by rw[←r.length];exact z,?_⟩)
 have hf:H1 s1.heap.objs.size=none:=I1.aB.fresh (aW _)
 refine⟨.ref s1.heap.objs.size,upd H1 s1.heap.objs.size (.lst xs),I1.laid (t':=s1.toks) (λb u e=>b4 _ e) (aW _) ?_,rfl,q _ hf⟩
 exact⟨z,us,0,r,cw _ rfl⟩
end
abbrev Sp:=List V->Hp->VK->XK->Prop
abbrev iq:=List Env->Hp->af->XK->ac->af->Prop
structure lu (P:aI) (w:aE) (K:aA) (mg:Str->Option ac) (base:aF) (A:a7) (outer:List Env) (s:af) (H:Hp):Prop where
 frames:A.frames=some outer
 mod:Mod K mg base
 bs: ∀b o,base.get? b=some o->s.heap.get? b=some o/\H b=none
 jF:base.objs.size<=s.heap.objs.size
 gO:s.heap.FunFrames base outer
 ln: ∀b∈ik outer,H b=none
 aB:cg P w H s.heap
 bare:nw s.gens
def CE (outer:List Env) (P:aI) (w:aE) (H:Hp) (s:af) (Q:VK) (u:ac) (s':af):Prop:=
 ∃v H',s'.os=s.os/\nw s'.gens/\Un (ik outer) [] H H' s.heap s'.heap/\cg P w H' s'.heap/\RelV v u/\Q v H'
def CR (CX:iq) (outer:List Env) (P:aI) (w:aE) (H:Hp) (s:af) (Q:VK) (E:XK) (r:zo) (s':af):Prop:=
 match r with
 | .ok (.ret u)=>CE outer P w H s Q u s'
 | .ok _=>False
 | .error e=>CX outer H s E e s'
structure aN (P:aI) (w:aE) (K:aA) (mg:Str->Option ac) (base:aF) (CX:iq) (k:Nat) (f:aa) (fd:aS) (ps:List Str) (sp:Sp):Prop where
 len: ∀vs H Q E,sp vs H Q E->vs.length=ps.length
 run: ∀(A:a7) (outer:List Env) (s:af) (H:Hp) (args:Args) (us:List ac) (vs:List V) (Q:VK) (E:XK),bJ k A->lu P w K mg base A outer s H->pO s fd args (ps.zip us)->Vals vs us->sp vs H Q E ->
  codeAny (model P w) A (.call (.ref f) args) (CR CX outer P w H s Q E) s
theorem lu.make {P:aI} {w:aE} {K:aA} {mg:Str->Option ac} {base:aF} {A:a7} {outer:List Env} {s:af} {H:Hp} (e:lu P w K mg base A outer s H) (C:aa) (us:List ac) (kw:List (Str×ac)) :
  lu P w K mg base (A.under (.builtin "type.__call__" ⟨.ref C::us,kw⟩)) outer s H:=⟨by first|exact e.frames|(simpa [Hm,Code.envs,Hn,pushEnvs] using e.frames),e.mod,e.bs,e.jF,e.gO,e.ln,e.aB,e.bare⟩
section
variable {X:Cx} {pins:List (aa×Obj)} {σ:St} {H:Hp} {s s':af}
theorem Inv.AU (I:Inv X pins σ H s):lu X.prog X.w X.K X.mg X.base X.A X.stack s H:=
 ⟨I.ok.frames,I.ok.mod,I.bs,bM I.ok.jF I.sz,I.stack,I.As,I.aB,I.bare⟩
theorem Inv.after {Q:VK} {u:ac} (I:Inv X pins σ H s) (h:CE X.stack X.prog X.w H s Q u s'):EP X pins σ Q u s':=by
 obtain⟨v,H',os,bare,un,aB,r,q⟩:=h
 obtain⟨hh,g,d,t,os'⟩:=s'
 obtain rfl:os'=s.os:=os
 exact⟨v,H',I.call (h':=hh) (g':=g) (d':=d) (t':=t) (ch:=[]) un aB bare (λb z=>absurd z (by simp)),r,q⟩
end
def Kt (sp:Sp) (dvs:List V) (E:XK) (t:TA):TE:=λσ H Q=>t σ H λvs H1=>sp (vs++dvs) H1 Q E
def AV (C:aa) (sp:Sp) (dvs:List V) (E:XK) (t:TA):TE:=λσ H Q=>t σ H λvs H1=> ∀x dx,H1 x=none->H1 dx=none->dx≠x ->
 sp (.ref x::(vs++dvs)) (upd (upd H1 dx (.own x)) x (.ins C dx [])) (λv H2=>v= .a9/\Q (.ref x) H2) E
def Binds (K:aA) (fd:aS) (ps:List Str) (ds:List ac):Prop:=
 ∀(s:af) (us:List ac),K.In s.heap->(us++ds).length=ps.length->pO s fd ⟨us,[]⟩ (ps.zip (us++ds))
theorem Binds.all {K:aA} {fd:aS} {ps:List Str} (h: ∀us:List ac,us.length=ps.length->bindArgs fd ⟨us,[]⟩=pure (ps.zip us)):Binds K fd ps []:=λs us _ hl=>by
 rw[fQ] at hl ⊢
 exact .of_eq (h us hl)
def Passes (CX:iq) (X:Cx) (E:XK):Prop:= ∀(pins:List (aa×Obj)) (σ:St) (H:Hp) (s:af) (e:ac) (s':af),Inv X pins σ H s->CX X.stack H s E e s'->X.xe e s'
section
variable {X:Cx} {CX:iq} {k:Nat} {f C:aa} {fd:aS} {ps:List Str} {sp:Sp} {dvs:List V} {ds:List ac} {E:XK} {x m:Str} {p pos apos:Pos} {e o:ao} {es:List ao} {ta:TE} {t:TA}
theorem AW {pins:List (aa×Obj)} {σ:St} {H:Hp} {s:af} {Q:VK} {us:List ac} {vs:List V} (F:aN X.prog X.w X.K X.mg X.base CX k f fd ps sp) (hr:bJ k X.A) (hb:Binds X.K fd ps ds) (hd:Vals dvs ds) (hx:Passes CX X E)
  (I:Inv X pins σ H s) (r:Vals vs us) (h:sp (vs++dvs) H Q E):wpAny (model X.prog X.w) X.A (call (.ref f) us) (EP X pins σ Q) X.xe s:=by
 have r2:Vals (vs++dvs) (us++ds):=r.append hd
 have hl:(us++ds).length=ps.length:=by rw[←r2.length];exact F.len _ _ _ _ h
 refine Hq (pP (F.run X.A X.stack s H ⟨us,[]⟩ (us++ds) (vs++dvs) Q E hr I.AU (hb s us I.fV hl) r2 h) λr s' hq=>?_)
 cases r with
 |error e=>exact hx pins σ H s e s' I hq
 |ok fl=>
  cases fl with
  |ret u=>exact I.after hq
  |next=>exact fm hq
  |brk=>exact fm hq
  |cont=>exact fm hq
theorem Ku (F:aN X.prog X.w X.K X.mg X.base CX k f fd ps sp) (hr:bJ k X.A) (hg:Gl X x) (hm:X.mg x=some (.ref f)) (hk:fo X.K (.ref f)=true) (hb:Binds X.K fd ps ds) (hd:Vals dvs ds) (hx:Passes CX X E)
  (ha:PA X (e::es) t) (hdb:(x == ("__debug__":Str))=false:=by decide) (he:starEach (e::es) X.env=(false,eval e X.env)::starEach es X.env:=by rfl) (hpl:(backTo pos (starEach es X.env)).any (·.1)=false:=by rfl) :
  PE X (.Call (.Name x p) (e::es) [] pos) (Kt sp dvs E t):=by
 intro pins s σ H Q I h
 refine tN (qw I hg hm ?_ hdb)
 refine Hr (h₀:=X.base) I.ok.mod.kj hk (aJ (ha pos pins s σ H _ I h) λus s1 ⟨vs,H1,I1,r,q⟩=>⟨I1.fV,?_⟩) he hpl
 exact AW F hr hb hd hx I1 r q
structure Mk (K:aA) (C f:aa):Prop where
 makes:Hk K C=true
 init:iO K (.ref C) "__init__"=some (some (.ref f))
 fn:Hl K (.ref f)=true
 kp:fo K (.ref C)=true
theorem AX {pins:List (aa×Obj)} {σ:St} {H:Hp} {s:af} {Q:VK} {us:List ac} {vs:List V} (M:Mk X.K C f) (F:aN X.prog X.w X.K X.mg X.base CX k f fd ps sp) (hr:bJ (k+1) X.A) (hb:Binds X.K fd ps ds) (hd:Vals dvs ds)
  (hx:Passes CX X E) (I:Inv X pins σ H s) (r:Vals vs us)
  (h: ∀x dx,H x=none->H dx=none->dx≠x->sp (.ref x::(vs++dvs)) (upd (upd H dx (.own x)) x (.ins C dx [])) (λv H2=>v= .a9/\Q (.ref x) H2) E) :
  wpAny (model X.prog X.w) X.A (call (.ref C) us) (EP X pins σ Q) X.xe s:=by
 have hq:=h (s.heap.objs.size+1) s.heap.objs.size (I.aB.fresh (Sd _)) (I.aB.fresh (aW _)) (cX (zr _))
 have I2:=Inv.made (C:=C) I
 have r2:Vals (V.ref (s.heap.objs.size+1)::(vs++dvs)) (aP (s.heap.objs.size+1)::(us++ds)):= .cons rfl (r.append hd)
 have hl:(aP (s.heap.objs.size+1)::us++ds).length=ps.length:=by
  have e:=r2.length
  rw[F.len _ _ _ _ hq] at e
  exact e.symm
 refine Hq (Ke (f:=f) I.fV M.makes M.init (beq_iff_eq.mp M.fn) (pP (F.run _ X.stack _ _ ⟨aP (s.heap.objs.size+1)::us,[]⟩ (aP (s.heap.objs.size+1)::(us++ds)) _ _ E (hr.make C us [])
  (I2.AU.make C us []) (hb _ (aP (s.heap.objs.size+1)::us) I2.fV hl) r2 hq) λr s' hq'=>?_))
 cases r with
 |error e=>exact hx pins σ _ _ e s' I2 hq'
 |ok fl=>
  cases fl with
  |ret u=>
   obtain⟨v,H',I3,rv,ev,q3⟩:=I2.after hq'
   subst ev
   exact⟨rv,⟨V.ref (s.heap.objs.size+1),H',I3,rfl,q3⟩⟩
  |next=>exact fm hq'
  |brk=>exact fm hq'
  |cont=>exact fm hq'
theorem Kv (M:Mk X.K C f) (F:aN X.prog X.w X.K X.mg X.base CX k f fd ps sp) (hr:bJ (k+1) X.A) (hg:Gl X x) (hm:X.mg x=some (.ref C)) (hb:Binds X.K fd ps ds) (hd:Vals dvs ds) (hx:Passes CX X E)
  (ha:PA X (e::es) t) (hdb:(x == ("__debug__":Str))=false:=by decide) (he:starEach (e::es) X.env=(false,eval e X.env)::starEach es X.env:=by rfl) (hpl:(backTo pos (starEach es X.env)).any (·.1)=false:=by rfl) :
  PE X (.Call (.Name x p) (e::es) [] pos) (AV C sp dvs E t):=by
 intro pins s σ H Q I h
 refine tN (qw I hg hm ?_ hdb)
 refine Hr (h₀:=X.base) I.ok.mod.kj M.kp (aJ (ha pos pins s σ H _ I h) λus s1 ⟨vs,H1,I1,r,q⟩=>⟨I1.fV,?_⟩) he hpl
 exact AX M F hr hb hd hx I1 r q
theorem Kw (M:Mk X.K C f) (F:aN X.prog X.w X.K X.mg X.base CX k f fd ps sp) (hr:bJ (k+1) X.A) (hg:Gl X x) (hm:X.mg x=some (.ref C)) (hb:Binds X.K fd ps ds) (hd:Vals dvs ds) (hx:Passes CX X E)
  (hdb:(x == ("__debug__":Str))=false:=by decide):PE X (.Call (.Name x p) [] [] pos) (AV C sp dvs E AT):=by
 intro pins s σ H Q I h
 refine tN (qw I hg hm ?_ hdb)
 exact PySem.W.callWith_K0 I.fV M.kp (AX (us:=[]) M F hr hb hd hx I .nil h)
end
structure a6 (N P:List Str) (sc:bX):Prop where
 kind:sc.kind= .function
 co:sc.isCoroutine=false
 gen:sc.isGenerator=false
 nd:N.Nodup
 pre:N.take P.length=P
 par: ∀x∈P,sc.names.lookup x=some .local∨sc.names.lookup x=some .cell
 Kx: ∀y∈sc.names,y.2≠ .free
theorem AY {kindOf:Str->Option fR} {x:Str}: ∀{binds:List (Str×ac)} {m:Str->Option ac},(∀v,(x,v)∉binds)->bindL kindOf binds m x=m x
 | [],_,_=>rfl
 |(n,v)::r,m,h=>by
  unfold bindL
  rw[AY λw hw=>h w (bq _ hw)]
  split
  ·have:x≠n:=by rintro rfl;exact h v bB
   simp [this]
  ·rfl
theorem AZ {kindOf:Str->Option fR} {x:Str}: ∀{binds:List (Str×ac)} {m:Str->Option ac},(∀v,(x,v)∉binds)->bindC kindOf binds m x=m x
 | [],_,_=>rfl
 |(n,v)::r,m,h=>by
  unfold bindC
  rw[AZ λw hw=>h w (bq _ hw)]
  split
  ·rfl
  ·have:x≠n:=by rintro rfl;exact h v bB
   simp [this]
theorem A0 {kindOf:Str->Option fR} {x:Str} {v:ac}: ∀{P:List Str} {vs:List ac} {i:Nat} {m:Str->Option ac},P.Nodup->P[i]?=some x->vs[i]?=some v->kindOf x=some .local ->
  bindL kindOf (P.zip vs) m x=some v
 | [],_,_,_,_,h,_,_=>by simp at h
 |_::_,[],_,_,_,_,h,_=>by simp at h
 |p::P,w::vs,0,m,nd,h1,h2,hk=>by
  simp at h1 h2;subst h1;subst h2
  show bindL kindOf ((p,w)::P.zip vs) m p=_
  unfold bindL
  rw[AY λv hv=>(fc.mp nd).1 (Hs hv).1,if_pos hk]
  simp
 |p::P,w::vs,i+1,m,nd,h1,h2,hk=>by
  show bindL kindOf ((p,w)::P.zip vs) m x=_
  unfold bindL
  exact A0 (i:=i) (fc.mp nd).2 (by simpa using h1) (by simpa using h2) hk
theorem A1 {kindOf:Str->Option fR} {x:Str} {v:ac}: ∀{P:List Str} {vs:List ac} {i:Nat} {m:Str->Option ac},P.Nodup->P[i]?=some x->vs[i]?=some v->kindOf x≠some .local ->
  bindC kindOf (P.zip vs) m x=some v
 | [],_,_,_,_,h,_,_=>by simp at h
 |_::_,[],_,_,_,_,h,_=>by simp at h
 |p::P,w::vs,0,m,nd,h1,h2,hk=>by
  simp at h1 h2;subst h1;subst h2
  show bindC kindOf ((p,w)::P.zip vs) m p=_
  unfold bindC
  rw[AZ λv hv=>(fc.mp nd).1 (Hs hv).1,if_neg hk]
  simp
 |p::P,w::vs,i+1,m,nd,h1,h2,hk=>by
  show bindC kindOf ((p,w)::P.zip vs) m x=_
  unfold bindC
  exact A1 (i:=i) (fc.mp nd).2 (by simpa using h1) (by simpa using h2) hk
def start (N:List Str) (vs:List V):St:=vs.map some++List.replicate (N.length-vs.length) none
def lv (CX:iq) (P:aI) (w:aE) (K:aA) (mg:Str->Option ac) (base:aF) (N:List Str) (qual:Str) (scope:bX) (f:aa) (cd:ac) (A:a7) (outer:List Env) (s:af) (H:Hp) (E:XK):Cx where
 prog:=P
 w:=w
 K:=K
 mg:=mg
 base:=base
 A:=A.deeper (envOfC qual scope s.heap.objs.size f cd)
 N:=N
 dS:=s
 lj:=H
 env:=envOfC qual scope s.heap.objs.size f cd
 outer:=outer
 stack:=envOfC qual scope s.heap.objs.size f cd::outer
 ex:=[]
 calm:=true
 fn:=λ_=>true
 pn:=[]
 xe:=λe s'=>wpAny (model P w) (A.deeper (envOfC qual scope s.heap.objs.size f cd)) (leaving (envOfC qual scope s.heap.objs.size f cd) e) (λ_ s''=>CX outer H s E e s'') (λe' s''=>CX outer H s E e' s'') s'
theorem A2 {sc:bX} {n:Nat} {x:Str} (h:sc.names.lookup x=some .cell): ∃c,(cellsFrom n sc.names []).lookup x=some c:=by
 have q:=Se sc.names n [] (.inl h)
 exact Option.isSome_iff_exists.mp q
theorem Ky {CX:iq} {P:aI} {w:aE} {K:aA} {mg:Str->Option ac} {base:aF} {N ps:List Str} {qual:Str} {scope:bX} {f:aa} {cd:ac} {A:a7} {outer:List Env} {s s1:af} {H:Hp} {E:XK} {us:List ac} {vs:List V}
  (S:a6 N ps scope) (hd:A.handled=none) (e0:lu P w K mg base A outer s H) (hl:vs.length=ps.length) (r:Vals vs us)
  (x:InCallC s s.heap.objs.size (bindL (envOfC qual scope s.heap.objs.size f cd).kindOf (ps.zip us) λ_=>none) (cellsFrom (s.heap.objs.size+1) scope.names []) (bindC (envOfC qual scope s.heap.objs.size f cd).kindOf (ps.zip us) λ_=>none) s1) :
  Inv (lv CX P w K mg base N qual scope f cd A outer s H E) [] (start N vs) H s1:=by
 have hpl:ps.length<=N.length:=by have:=congrArg lZ S.pre;rw[dL] at this;omega
 obtain⟨h1,tk,rfl,hk⟩:=x.done
 have noA: ∀b:aa,b∉(lv CX P w K mg base N qual scope f cd A outer s H E).ex:=λb z=>absurd (show b∈([]:List aa) from z) (by simp)
 refine⟨⟨e0.mod,S.kind,rfl,rfl,aW _,λy z c h1 h2=>?_,λy hy=>?_,λy c _ h=>?_,λ_=>hd,Around.frames_deeper e0.frames,.inr ⟨rfl,rfl⟩,λb z=>absurd z (noA b),e0.bs,e0.jF,λb _ _=>noA b,λb z=>absurd z (noA b),e0.gO,e0.ln⟩,
  rfl,e0.bare,Un.kept hk,⟨_,x.toInCall.ns,λi y v h1 h2 h3=>?_⟩,λy c h=>⟨_,x.cell y c h⟩,e0.aB.fresh (aW _),λy c h=>?_,λp hp=>absurd (show p∈([]:List (aa×Obj)) from hp) (by simp),e0.aB.kept hk,?_⟩
 ·exact name_of_addr x.apart (gl h1) (gl h2)
 ·have hy:scope.names.lookup y=some .cell∨scope.names.lookup y=some .free:=hy
  rcases hy with hy|hy
  ·exact A2 hy
  ·exact absurd rfl (S.Kx _ (gl hy))
 ·exact tM (x.above y c (gl h))
 ·have hi:i<vs.length:=by
   unfold start at h2
   by_cases hi:i<vs.length
   ·exact hi
   ·rw[Ht (by simpa using hi)] at h2
    rw[List.getElem?_replicate] at h2
    split at h2 <;> cases h2
  have ha:vs[i]?=some v:=by
   unfold start at h2
   rw[Hu (by simpa using hi),bC] at h2
   cases e:vs[i]? with
   |none=>rw[e] at h2;cases h2
   |some a=>rw[e] at h2;cases h2;rfl
  obtain⟨u,hu,rv⟩:=r.get ha
  have hp:ps[i]?=some y:=by
   rw[←S.pre,Sf (by omega)];exact h1
  have ndP:ps.Nodup:=by rw[←S.pre];exact S.nd.sublist (Sg _ _)
  refine⟨u,rv,?_⟩
  rcases S.par y (dg hp) with k|k
  ·exact .inl ⟨k,A0 ndP hp hu k⟩
  ·obtain⟨c,e⟩:=A2 (n:=s.heap.objs.size+1) k
   refine .inr ⟨.inl k,c,e,?_⟩
   have q:=x.cell y c e
   rw[A1 ndP hp hu (by show scope.names.lookup y≠_;rw[k];decide)] at q
   exact q
 ·exact e0.aB.fresh (tM (x.above y c (gl h)))
 ·unfold start
  show _=N.length
  rw[bx,aC,List.length_replicate]
  omega
theorem Kz {CX:iq} {P:aI} {w:aE} {K:aA} {mg:Str->Option ac} {base:aF} {k:Nat} {f:aa} {name qual:Str} {params:Arguments} {body:List aL} {scope:bX} {dV kV doc pm cdv ct oc:ac} {an od:Option aa}
  {osl:Array (Option ac)} {N ps:List Str} {sp:Sp} (lk:K.lookup f=some ⟨oc,od,.func (iP name qual params body scope dV kV doc pm an cdv ct),osl⟩) (hcd:nA K cdv qual=true) (S:a6 N ps scope)
  (len: ∀vs H Q E,sp vs H Q E->vs.length=ps.length)
  (hbody: ∀(A:a7) (outer:List Env) (s:af) (H:Hp) (vs:List V) (Q:VK) (E:XK),bJ k (A.deeper (envOfC qual scope s.heap.objs.size f cdv))->sp vs H Q E ->
   ∃t,gw (lv CX P w K mg base N qual scope f cdv A outer s H E) body t/\t {nx:=λ_ H'=>Q .a9 H',rt:=Q} (start N vs) H) :
  aN P w K mg base CX (k+1) f (iP name qual params body scope dV kV doc pm an cdv ct) ps sp:=by
 refine⟨len,λA outer s H args us vs Q E hr e0 hb r hsp=>?_⟩
 have hl:=len _ _ _ _ hsp
 have KX:K.In s.heap:=e0.mod.kj.keeps λb o e=>(e0.bs b o e).1
 have lim:s.heap.NoLimit:=e0.mod.nolimit.keeps λb o e=>(e0.bs b o e).1
 have hkind: ∀y∈ps.zip us,scope.names.lookup y.1=some .local∨(scope.names.lookup y.1=some .cell/\((cellsFrom (s.heap.objs.size+1) scope.names []).lookup y.1).isSome=true):=λ⟨n,v⟩ hy=>by
  rcases S.par n (Hs hy).1 with q|q
  ·exact .inl q
  ·exact .inr ⟨q,Se _ _ _ (.inl q)⟩
 refine codeAny_call_function hr.depth (KX _ _ lk) rfl S.co S.gen rfl (PySem.W.codeRec_of KX hcd) (hb _ _ _ _ ?_)
 refine wpAny_newFunctionEnv_cells S.kind hkind λenv he s1 x=>?_
 subst he
 refine⟨lim.keeps x.toInCall.keep,codeAny_func ?_⟩
 obtain⟨t,ht,hq⟩:=hbody A outer s H vs Q E (hr.deeper _) hsp
 have I:Inv (lv CX P w K mg base N qual scope f cdv A outer s H E) [] (start N vs) H s1:=Ky S hr.hd e0 hl r x
 refine gk (ht [] s1 (start N vs) H _ I hq) (λfl s' hs=>?_) λe s' hs=>hs
 have fin: ∀{σ':St} {H':Hp} {v:V} {u:ac},Inv (lv CX P w K mg base N qual scope f cdv A outer s H E) [] σ' H' s'->RelV v u->Q v H'->CE outer P w H s Q u s':=
  λ{σ' H' v u} J rv q=>⟨v,H',J.os,J.bare,J.base,J.aB,rv,q⟩
 cases fl with
 |ret u=>
  obtain⟨v,σ',H',J,rv,q⟩:=hs
  exact fin J rv q
 |next=>
  obtain⟨σ',H',J,q⟩:=hs
  exact fin (v:=V.a9) (u:=iN) J rfl q
 |brk=>
  obtain⟨_,_,_,q⟩:=hs
  exact fm q
 |cont=>
  obtain⟨_,_,_,q⟩:=hs
  exact fm q
section
variable {X:Cx} {x:Str} {p pos:Pos} {e:ao} {es:List ao} {t:TA} {id T:String} {r:List V->Hp->VK->Prop}
def A3 (r:List V->Hp->VK->Prop) (t:TA):TE:=λσ H Q=>t σ H λvs H1=>r vs H1 Q
theorem KA (hc:io X (.builtin id) r) (hg:Gl X x) (hm:X.mg x=none) (hv:bootBuiltins x=some (.builtin id)) (ha:PA X (e::es) t) (hn:x≠"__name__":=by decide) (hdb:(x == ("__debug__":Str))=false:=by decide)
  (he:starEach (e::es) X.env=(false,eval e X.env)::starEach es X.env:=by rfl) (hpl:(backTo pos (starEach es X.env)).any (·.1)=false:=by rfl):PE X (.Call (.Name x p) (e::es) [] pos) (A3 r t):=by
 intro pins s σ H Q I h
 refine tN (qx I hg hm hv ?_ hn hdb)
 exact VM (aJ (ha pos pins s σ H _ I h) λus s1 ⟨vs,H1,I1,r1,q1⟩=>hc pins s1 σ H1 vs us Q I1 r1 q1) he hpl
theorem KB (hc:io X (.type T) r) (hg:Gl X x) (hm:X.mg x=none) (hv:bootBuiltins x=some (.type T)) (ha:PA X (e::es) t) (hn:x≠"__name__":=by decide) (hdb:(x == ("__debug__":Str))=false:=by decide)
  (he:starEach (e::es) X.env=(false,eval e X.env)::starEach es X.env:=by rfl) (hpl:(backTo pos (starEach es X.env)).any (·.1)=false:=by rfl):PE X (.Call (.Name x p) (e::es) [] pos) (A3 r t):=by
 intro pins s σ H Q I h
 refine tN (qx I hg hm hv ?_ hn hdb)
 exact Hv (aJ (ha pos pins s σ H _ I h) λus s1 ⟨vs,H1,I1,r1,q1⟩=>hc pins s1 σ H1 vs us Q I1 r1 q1) he hpl
end
end L2
namespace HT
open PySem PyProof.Rows
def lexLt:List Int->List Int->Bool
 | [],[]=>false
 | [],_::_=>true
 |_::_,[]=>false
 |x::xs,y::ys=>if x=y then lexLt xs ys else decide (x<y)
theorem qG (x y:Int) (xs ys:List Int):lexLt (x::xs) (y::ys)=if x=y then lexLt xs ys else decide (x<y):=rfl
theorem A4:lexLt [] []=false:=rfl
theorem A5 (y:Int) (ys:List Int):lexLt [] (y::ys)=true:=rfl
theorem A6 (x:Int) (xs:List Int):lexLt (x::xs) []=false:=rfl
theorem A7 (A:a7) (s:af) (a:Int) (t:Tok) (c:Int) (u:Tok): ∃e,tO A s (.int a t) (.int c u) e/\(e=true↔a=c):=
 ⟨(a == c),zu a t c u,by simp⟩
theorem KD (A:a7) (s:af) (a:Int) (t:Tok) (c:Int) (u:Tok) (prog:aI) (w:aE) (E:ac->af->Prop) (Q:ac->af->Prop) (h:Q (.bool (decide (a<c))) s) :
  wpAny (model prog w) A (richCompare .Lt (.int a t) (.int c u)) Q E s:=
 (VN h:wpAny (model prog w) A (compareOp .Lt (.int a t) (.int c u)) Q E s)
section
open PySem.SeqAt
open PySem.AutoSeq1 (wpAny_loadPart')
open PySem.MeetsSeq PySem.MeetsSeq2 PySem.MeetsSeq3
theorem KG (l b:aa) (items items2:Array ac) (n n2:Nat) (dd dd2:Option aa) (sl sl2:Array (Option ac)) (ns ms:List Int) (hi:eB items.toList ns) (hj:eB items2.toList ms) :
    pQ (eC.«tuple.__lt__» ⟨[.ref l,.ref b],[]⟩)
      (λ_ R s=>s.heap.get? l=some {cls:= .type "tuple",dict:=dd,data:= .seq items n,slots:=sl}/\s.heap.get? b=some {cls:= .type "tuple",dict:=dd2,data:= .seq items2 n2,slots:=sl2} /\
        R (.ok (.ret (.bool (lexLt ns ms)))) s):=
  .of_wp λprog w A R s h=>by
    obtain⟨hp,g,d,tk,os⟩:=s;obtain⟨hl,hb,h⟩:=h
    have f2:=Sh
    have z1:items.size=ns.length:=by rw[←hi.length];simp
    have z2:items2.size=ms.length:=by rw[←hj.length];simp
    wp_walk using iQ hl,iQ hb,pR _ (λrest b s'=>b.1=none/\s'=⟨hp,g,d,tk,os⟩/\ ∃(vs ws:List ac) (ns' ms':List Int),rest=vs.zip ws /\
      eB vs ns'/\eB ws ms'/\ns'.length+items2.size=ms'.length+items.size/\R (.ok (.ret (.bool (lexLt ns' ms')))) ⟨hp,g,d,tk,os⟩) _
    case turn=>
      rintro⟨y,x⟩ rest b s' ⟨hb',rfl,vs,ws,ns',ms',hz,hvi,hwi,hlen,hR⟩
      cases hvi with
      |nil=>rw[Si] at hz;cases hz
      |cons a t hvi'=>
        cases hwi with
        |nil=>rw[Sj] at hz;cases hz
        |cons c u hwi'=>
          rw[zw] at hz
          injection hz with hyx hrest
          injection hyx with hy hx
          subst hy hx
          rw[qG] at hR
          simp only[bm] at hlen
          obtain⟨e,he,hiff⟩:=A7 A.in1 ⟨hp,g,d,tk,os⟩ a t c u
          refine aj (he prog w _ _ ?_)
          cases e with
          |true=>
            rw[if_pos (hiff.mp rfl)] at hR
            wp_walk
            exact⟨rfl,rfl,_,_,_,_,hrest,hvi',hwi',by omega,hR⟩
          |false=>
            rw[if_neg (λq=>absurd (hiff.mpr q) cY)] at hR
            have hri:=KD A.in1 ⟨hp,g,d,tk,os⟩ a t c u prog w
            wp_walk using hri
            exact⟨_,rfl,by simpa using hR⟩
    case fin=>
      rintro⟨b1,b2⟩ s' ⟨hb',rfl,vs,ws,ns',ms',hz,hvi,hwi,hlen,hR⟩
      simp only at hb'
      subst hb'
      have hv:lexLt ns' ms'=decide (items.size<items2.size):=by
        cases hvi with
        |nil=>
          cases hwi with
          |nil=>
            simp only[cZ] at hlen
            rw[A4]
            exact(decide_eq_false (by omega)).symm
          |cons c u hw=>
            simp only[cZ,bm] at hlen
            rw[A5]
            exact(decide_eq_true (by omega)).symm
        |cons a t hv=>
          cases hwi with
          |nil=>
            simp only[cZ,bm] at hlen
            rw[A6]
            exact(decide_eq_false (by omega)).symm
          |cons c u hw=>
            rw[zw] at hz
            cases hz
      rw[hv] at hR
      wp_walk
      exact⟨_,rfl,by simpa [Sk] using hR⟩
    case h=>
      exact⟨rfl,rfl,items.toList,items2.toList,ns,ms,rfl,hi,hj,by omega,h⟩
end
section
variable {prog:aI} {w:aE} {A:a7} {E:ac->af->Prop} {s:af}
theorem KH {t b:aa} {vs ws:List ac} {Q:ac->af->Prop} (ht:jV s.heap t vs.toArray) (hb:jV s.heap b ws.toArray) (hv:vs≠[])
  (h1:ws=[]->Q (.ref t) s) (h2:ws≠[]->Q (.ref s.heap.objs.size) {s with heap:=s.heap.push {cls:= .type "tuple",data:= .seq (vs++ws).toArray}})
  (hsz:vs.length+ws.length<=sizeLine):wpAny (model prog w) A (binaryOp .Add (.ref t) (.ref b)) Q E s:=by
 obtain⟨⟨cls,dd,data,sl⟩,ho,hc,n,hd⟩:=id ht
 obtain⟨⟨cls2,dd2,data2,sl2⟩,ho2,hc2,n2,hd2⟩:=id hb
 simp only at hc hd hc2 hd2
 subst hc hd hc2 hd2
 have e:vs.toArray++ws.toArray=(vs++ws).toArray:=by simp
 by_cases hw:ws=[]
 ·exact concat_meets ⟨_,ho,rfl⟩ ⟨_,ho2,rfl⟩ Sl Sn So Sq (Sr _ _)
   (tuple_addW1 t b vs.toArray ws.toArray n n2 dd dd2 sl sl2 (by simpa using hv) (by simp [hw])) ⟨ho,ho2,h1 hw⟩
 ·refine concat_meets ⟨_,ho,rfl⟩ ⟨_,ho2,rfl⟩ Sl Sn So Sq (Sr _ _)
   (tuple_addW2 t b vs.toArray ws.toArray n n2 dd dd2 sl sl2 (by simpa using hv) (by simpa using hw) (by rw[bQ,bQ];exact hsz)) ⟨ho,ho2,?_⟩
  rw[e]
  exact h2 hw
def bn (n d:Nat):Option Int->Nat
 |none=>d
 |some v=>if v<0 then (v+(n:Int)).toNat else min v.toNat n
theorem uN (n d:Nat):bn n d none=d:=rfl
theorem oz (n d k:Nat):bn n d (some (k:Int))=min k n:=by
 show (if (k:Int)<0 then ((k:Int)+(n:Int)).toNat else min (k:Int).toNat n)=min k n
 rw[if_neg (by omega),nB]
theorem KI (n d:Nat) (hd:d<=n) (o:Option Int):bn n d o<=n:=by
 cases o with
 |none=>exact hd
 |some v=>
  show (if v<0 then (v+(n:Int)).toNat else min v.toNat n)<=n
  by_cases hv:v<0
  ·rw[if_pos hv];omega
  ·rw[if_neg hv];exact Nat.min_le_right _ _
theorem A8 (v:Int) (n d:Nat):(if v<0 then max (v+(n:Int)) 0 else min v (n:Int))=((bn n d (some v):Nat):Int):=by
 show (if v<0 then max (v+(n:Int)) 0 else min v (n:Int))=(((if v<0 then (v+(n:Int)).toNat else min v.toNat n):Nat):Int)
 by_cases hv:v<0
 ·simp only[if_pos hv];omega
 ·simp only[if_neg hv];omega
theorem KJ (lo hi:Option Int) (n:Nat):Hw lo hi 1 (n:Int)=(((bn n 0 lo:Nat):Int),((bn n n hi:Nat):Int)):=by
 have h1: ¬((1:Int)<0):=by omega
 unfold Hw
 simp only[h1,if_false]
 refine Ss ?_ ?_
 ·cases lo with
  |none=>rfl
  |some v=>exact A8 v n 0
 ·cases hi with
  |none=>rfl
  |some v=>exact A8 v n n
theorem KL (i j:Nat):zx (i:Int) (j:Int) 1=j-i:=by
 unfold zx
 have h1:(1:Int) > 0:=by omega
 simp only[h1,if_true,Int.ediv_one]
 split <;> omega
theorem A9 {v:ac} {o:Option Int} {Q:Option Int->af->Prop} (p:jZ v o) (h:Q o s):wpAny (model prog w) A (VO v) Q E s:=by
 cases p with
 |none=>exact Su h
 |int i t=>exact slicePart_int h
theorem A_ {sl:aa} {vl vu:ac} {lo hi:Option Int} {n:Nat} {Q:Int×Int×Nat->af->Prop} (hs:s.heap.IsSliceOf sl vl vu .none) (pl:jZ vl lo) (pu:jZ vu hi)
  (h:Q (((bn n 0 lo:Nat):Int),1,bn n n hi-bn n 0 lo) s):wpAny (model prog w) A (Sv (.ref sl) (pure (n:Int))) Q E s:=by
 obtain⟨os,hos,hcs,hds⟩:=id hs
 unfold Sv VP
 refine aj (aj (tP hos hds (x:=vl) rfl (aj (tP hos hds (x:=vu) rfl (aj (tP hos hds (x:= .none) rfl (ay ?_)))))))
 refine aj (Su ?_)
 show wpAny _ _ (if ((1:Int) == 0)=true then _ else _) _ _ s
 rw[if_neg (by decide)]
 refine aj (A9 pl (aj (A9 pu (aj (ay ?_)))))
 show wpAny _ _ (match Hw lo hi 1 (n:Int) with|(lo,hi)=>pure (lo,(1:Int),zx lo hi 1)) _ _ s
 rw[KJ lo hi n]
 show wpAny _ _ (pure (((bn n 0 lo:Nat):Int),(1:Int),zx ((bn n 0 lo:Nat):Int) ((bn n n hi:Nat):Int) 1)) _ _ s
 rw[KL]
 exact ay h
theorem KM (xs:Array ac) (i k:Nat):((eQ k).filterMap λ(m:Nat)=>xs[((i:Int)+(m:Int)*1).toNat]?).toArray=((xs.toList.drop i).take k).toArray:=by
 have e:(λ(m:Nat)=>xs[((i:Int)+(m:Int)*1).toNat]?)=λm=>xs[i+m]?:=by
  funext m
  have:((i:Int)+(m:Int)*1).toNat=i+m:=by omega
  rw[this]
 rw[e]
 have:=pick_run xs i k
 rw[Hx] at this
 have e2:((λx=>xs[x]?) ∘ λx=>i+x)=λm=>xs[i+m]?:=rfl
 rw[e2] at this
 rw[this]
theorem KN {t sl:aa} {items:Array ac} {vl vu:ac} {lo hi:Option Int} {Q:ac->af->Prop} (ht:jV s.heap t items) (hs:s.heap.IsSliceOf sl vl vu .none) (pl:jZ vl lo) (pu:jZ vu hi)
  (hw: ¬(bn items.size 0 lo=0/\bn items.size items.size hi=items.size))
  (h:Q (.ref s.heap.objs.size) {s with heap:=s.heap.push {cls:= .type "tuple",data:= .seq ((items.toList.drop (bn items.size 0 lo)).take (bn items.size items.size hi-bn items.size 0 lo)).toArray}})
  (hsz:items.size<=sizeLine):wpAny (model prog w) A (getItem (.ref t) (.ref sl)) Q E s:=by
 have htake:sizeOk (.seq ((items.toList.drop (bn items.size 0 lo)).take (bn items.size items.size hi-bn items.size 0 lo)).toArray):=by
  show ((items.toList.drop (bn items.size 0 lo)).take (bn items.size items.size hi-bn items.size 0 lo)).toArray.size<=sizeLine
  rw[bQ,dL,d5,e_]
  omega
 have hj:bn items.size items.size hi<=items.size:=KI _ _ (aW _) hi
 obtain⟨os,hos,hcs,hds⟩:=id hs
 have hTs:s.TypeIs (.ref sl) "slice":=⟨os,hos,hcs⟩
 unfold getItem
 try with_reducible refine iR ?_
 first|refine aj (ay ?_)|skip
 refine aj (Sw ht.typeIs (by decide) ?_)
 refine aj (l4 (name:=iS "__getitem__") ht.typeIs pS
  (fS pS ht.typeIs Sx ?_ (Sy _ _)))
 show wpAny _ _ (Sz (.ref t) >>= _) _ _ s
 refine aj (SA ht ?_)
 refine aj (nE hTs ?_)
 rw[if_pos (by decide)]
 refine aj (A_ hs pl pu ?_)
 have hno: ¬((((bn items.size 0 lo:Nat):Int) == 0 && (1:Int) == 1 && (bn items.size items.size hi-bn items.size 0 lo) == items.size)=true):=by
  intro q
  rw[bY,bY] at q
  have q1:((bn items.size 0 lo:Nat):Int)=0:=eq_of_beq q.1.1
  have q2:bn items.size items.size hi-bn items.size 0 lo=items.size:=eq_of_beq q.2
  exact hw ⟨by omega,by omega⟩
 show wpAny _ _ (if (((bn items.size 0 lo:Nat):Int) == 0 && (1:Int) == 1 && (bn items.size items.size hi-bn items.size 0 lo) == items.size)=true then _ else _) _ _ s
 rw[if_neg hno,KM]
 first
  |exact aj (m:=zy _) (hX (ay ⟨_,rfl,ay h⟩) htake)
  |exact aj (m:=zy _) (hX (aj (ay (ay ⟨_,rfl,ay h⟩))) htake)
  |exact aj (aj (m:=zy _) (hX (ay (ay ⟨_,rfl,ay h⟩)) htake))
  |exact aj (aj (m:=zy _) (hX (ay ⟨_,rfl,ay h⟩) htake))
end
end HT
namespace L2
open PySem PySem.Spec PyProof.Rows
abbrev TO:=St->Hp->(Option Int->Hp->Prop)->Prop
def PO (X:Cx) (e:Option ao) (t:TO):Prop:=
 ∀(pins:List (aa×Obj)) (s:af) (σ:St) (H:Hp) (Q:Option Int->Hp->Prop),Inv X pins σ H s->t σ H Q ->
  wpAny (model X.prog X.w) X.A (evalPart e X.env) (λu s'=> ∃o H',Inv X pins σ H' s'/\jZ u o/\Q o H') X.xe s
def KO:TO:=λ_ H Q=>Q none H
def KP (t:TE):TO:=λσ H Q=>t σ H λx H1=> ∃i,x= .int i/\Q (some i) H1
section
variable {X:Cx} {e:ao} {te:TE} {lo hi:Option ao} {tl th:TO} {pos p2:Pos}
theorem KQ:PO X none KO:=by
 intro pins s σ H Q I h
 rw[SD]
 exact ay ⟨none,H,I,.none,h⟩
theorem KR (h:PE X e te):PO X (some e) (KP te):=by
 intro pins s σ H Q I hw
 rw[evalPart_some]
 refine aJ (h pins s σ H _ I hw) λu s1 ⟨x,H1,I1,r1,q1⟩=>?_
 obtain⟨i,rfl,q⟩:=q1
 obtain⟨t,rfl⟩:=r1
 exact⟨some i,H1,I1,.int i t,q⟩
def qH (X:Cx) (r:V->Option Int->Option Int->Hp->VK->Prop):Prop:=
 ∀(pins:List (aa×Obj)) (s:af) (σ:St) (H:Hp) (x:V) (v vl vu:ac) (lo hi:Option Int) (sl:aa) (Q:VK),Inv X pins σ H s->RelV x v->s.heap.IsSliceOf sl vl vu .none->jZ vl lo->jZ vu hi->r x lo hi H Q ->
  ∃T id,typeLookup (.type T) "__getitem__"=pure (some (.builtin id))/\s.TypeIs v T/\wpAny (model X.prog X.w) X.A (getItem v (.ref sl)) (EP X pins σ Q) X.xe s
def KS (r:V->Option Int->Option Int->Hp->VK->Prop) (te:TE) (tl th:TO):TE:=λσ H Q=>te σ H λx H1=>tl σ H1 λl H2=>th σ H2 λu H3=>r x l u H3 Q
theorem Ba {r:V->Option Int->Option Int->Hp->VK->Prop} (hr:qH X r) (he:PE X e te) (hl:PO X lo tl) (hu:PO X hi th):PE X (.Subscript e (.Slice lo hi none p2) pos) (KS r te tl th):=by
 intro pins s σ H Q I h
 refine Hy (aJ (he pins s σ H _ I h) λv s1 ⟨x,H1,I1,r1,q1⟩=>?_)
 refine wpAny_Slice (aJ (hl pins s1 σ H1 _ I1 q1) λvl s2 ⟨l,H2,I2,pl,q2⟩=>aJ (hu pins s2 σ H2 _ I2 q2) λvu s3 ⟨u,H3,I3,pu,q3⟩=>?_)
 rw[SD]
 refine ay ?_
 have I4:Inv X pins σ H3 {s3 with heap:=s3.heap.push {cls:= .type "slice",data:= .fields #[vl,vu,.none]}}:=I3.kept (t':=s3.toks) λb ob q=>b4 _ q
 obtain⟨T,id,hT,ht,hg⟩:=hr pins {s3 with heap:=s3.heap.push {cls:= .type "slice",data:= .fields #[vl,vu,.none]}} σ H3 x v vl vu l u s3.heap.objs.size Q I4 r1 (VQ ..) pl pu q3
 show wpAny (model X.prog X.w) X.A (subscriptTail e (.Slice lo hi none p2) v (.ref s3.heap.objs.size)) (EP X pins σ Q) X.xe {s3 with heap:=s3.heap.push {cls:= .type "slice",data:= .fields #[vl,vu,.none]}}
 exact tail_any (ops:=[.ref s3.heap.objs.size,v]) ht hT hg (by with_unfolding_all rfl)
def b7 (xs:List V) (lo hi:Option Int):List V:=(xs.drop (HT.bn xs.length 0 lo)).take (HT.bn xs.length xs.length hi-HT.bn xs.length 0 lo)
theorem Bb (xs:List V) (lo hi:Option Int):(b7 xs lo hi).length<=xs.length:=by
 unfold b7
 rw[dL,d5]
 omega
def KU (K:aA):V->Option Int->Option Int->Hp->VK->Prop:=λx lo hi H Q=> ∃a xs,x= .ref a/\bE K H a xs /\
 ¬(HT.bn xs.length 0 lo=0/\HT.bn xs.length xs.length hi=xs.length)/\ ∀p,H p=none->Q (.ref p) (upd H p (.tup (b7 xs lo hi)))
theorem KW:qH X (KU X.K):=by
 intro pins s σ H x v vl vu lo hi sl Q I rx hs pl pu h
 obtain⟨a,xs,rfl,hx,hw,q⟩:=h
 cases rx
 obtain⟨its,r,ht,hz⟩:=I.tuple hx
 have hlen:its.toArray.size=xs.length:=by rw[bQ];exact r.length.symm
 refine⟨"tuple",_,pS.lookup,ht.typeIs,?_⟩
 refine HT.KN ht hs pl pu (by rw[hlen];exact hw) ?_ (by rw[hlen];exact hz)
 rw[hlen]
 refine⟨.ref s.heap.objs.size,_,I.laid (t':=s.toks) (o:= .tup (b7 xs lo hi)) (λb ob q=>b4 _ q) (aW _) ?_,rfl,q _ (I.aB.fresh (aW _))⟩
 exact⟨bM (Bb xs lo hi) hz,_,(r.drop (HT.bn xs.length 0 lo)).take (HT.bn xs.length xs.length hi-HT.bn xs.length 0 lo),Hz _ _,_,cw _ rfl,rfl,rfl⟩
def KY (K:aA):R2:=λx y H Q=> ∃a b xs ys,x= .ref a/\y= .ref b/\bE K H a xs/\bE K H b ys/\xs≠[]/\xs.length+ys.length<=sizeLine /\
 (ys=[]->Q (.ref a) H)/\(ys≠[]-> ∀p,H p=none->Q (.ref p) (upd H p (.tup (xs++ys))))
theorem Vals.uO {xs:List V} {us:List ac} (r:Vals xs us):us=[]↔xs=[]:=by
 cases r with
 |nil=>simp
 |cons _ _=>simp
theorem KZ:cO X (binaryOp .Add) (KY X.K):=by
 intro pins s σ H x y v u Q I rx ry h
 obtain⟨a,b,xs,ys,rfl,rfl,ha,hb,hx,hz,q1,q2⟩:=h
 cases rx
 cases ry
 obtain⟨its,r1,p1,_⟩:=I.tuple ha
 obtain⟨its2,r2,p2,_⟩:=I.tuple hb
 refine HT.KH p1 p2 (λz=>hx (r1.uO.mp z)) (λz=>⟨.ref a,H,I,rfl,q1 (r2.uO.mp z)⟩) (λz=>?_) (by rw[←r1.length,←r2.length];exact hz)
 refine⟨.ref s.heap.objs.size,_,I.laid (t':=s.toks) (o:= .tup (xs++ys)) (λb ob q=>b4 _ q) (aW _) ?_,rfl,q2 (λw=>z (r2.uO.mpr w)) _ (I.aB.fresh (aW _))⟩
 exact⟨by rw[bx];exact hz,_,r1.append r2,Hz _ _,_,cw _ rfl,rfl,rfl⟩
end
def jH (n:Nat) (i:Int):Option Nat:=if 0<=i then (if i<n then some i.toNat else none) else if -(n:Int)<=i then some (i+n).toNat else none
def fX {α:Type} (xs:List α) (i:Int):Option α:=(jH xs.length i).bind λj=>xs[j]?
theorem K0 {n:Nat} {i:Int} {j:Nat} (h:jH n i=some j):seqIndex? i n=some j/\j<n/\ -(n:Int)<=i/\i<n:=by
 unfold jH at h
 by_cases h0:0<=i
 ·rw[if_pos h0] at h
  by_cases h1:i<n
  ·rw[if_pos h1] at h
   have e:i.toNat=j:=cJ h
   exact⟨by rw[seqIndex_of h0 h1,e],by omega,by omega,h1⟩
  ·rw[if_neg h1] at h;cases h
 ·rw[if_neg h0] at h
  by_cases h1: -(n:Int)<=i
  ·rw[if_pos h1] at h
   have e:(i+n).toNat=j:=cJ h
   exact⟨by rw[seqIndex_neg (by omega) h1,e],by omega,h1,by omega⟩
  ·rw[if_neg h1] at h;cases h
theorem Bc {α:Type} {xs:List α} {i:Int} {v:α} (h:fX xs i=some v): ∃j,seqIndex? i xs.length=some j/\xs[j]?=some v/\j<xs.length/\ -(xs.length:Int)<=i/\i<xs.length:=by
 unfold fX at h
 cases e:jH xs.length i with
 |none=>rw[e] at h;cases h
 |some j=>
  rw[e] at h
  obtain⟨h1,h2,h3,h4⟩:=K0 e
  exact⟨j,h1,h,h2,h3,h4⟩
theorem qI {α:Type} {xs:List α} {j:Nat} {v:α} (h:xs[j]?=some v):fX xs (j:Int)=some v:=by
 have hj:j<xs.length:=(List.getElem?_eq_some_iff.mp h).1
 have e:jH xs.length (j:Int)=some j:=by
  unfold jH
  rw[if_pos (by omega),if_pos (by omega)];simp
 unfold fX;rw[e];exact h
theorem K1 {α:Type} (xs:List α) (v:α):fX (xs++[v]) (-1)=some v:=by
 have hl:(xs++[v]).length=xs.length+1:=by simp
 have e:jH (xs++[v]).length (-1)=some xs.length:=by
  unfold jH
  rw[hl,if_neg (by decide),if_pos (by omega)]
  congr 1
  omega
 unfold fX
 rw[e]
 show (xs++[v])[xs.length]?=some v
 simp
def oA (b:ao):Prop:= ∀o i,subscripted b false o i=operate [o,i] (getItem o i)
def uP (X:Cx) (r:R2):Prop:=
 ∀(value slice:ao) (pins:List (aa×Obj)) (s:af) (σ:St) (H:Hp) (x y:V) (v u:ac) (Q:VK),Inv X pins σ H s->RelV x v->RelV y u->r x y H Q ->
  subscripted slice false v u=operate [v,u] (getItem v u)->wpAny (model X.prog X.w) X.A (subscriptTail value slice v u) (EP X pins σ Q) X.xe s
def qJ (X:Cx) (id:String) (r:V->List V->Hp->VK->Prop):Prop:=
 ∀(pins:List (aa×Obj)) (s:af) (σ:St) (H:Hp) (x:V) (xs:List V) (v:ac) (us:List ac) (Q:VK),Inv X pins σ H s->RelV x v->Vals xs us->r x xs H Q ->
  wpAny (model X.prog X.w) X.A (call (.builtin id) (v::us)) (EP X pins σ Q) X.xe s
section
variable {X:Cx} {a b:ao} {ta tb:TE} {pos:Pos}
theorem qK {r:R2} (hr:uP X r) (ha:PE X a ta) (hb:PE X b tb) (hs:oA b):PE X (.Subscript a b pos) (qE r ta tb):=by
 intro pins s σ H Q I h
 exact Hy (uK ha hb I h λv u s2 x y H2 I2 rx ry q=>hr a b pins s2 σ H2 x y v u Q I2 rx ry q (hs _ _))
def K2 (K:aA):R2:=λx y H Q=> ∃p xs i v,x= .ref p/\y= .int i/\bN K H p xs/\fX xs i=some v/\Q v H
def K3 (K:aA):R2:=λx y H Q=> ∃p xs i v,x= .ref p/\y= .int i/\bE K H p xs/\fX xs i=some v/\Q v H
theorem uQ:uP X (K2 X.K):=by
 intro value slice pins s σ H x y v u Q I rx ry h hs
 obtain⟨p,xs,i,z,rfl,rfl,hq,he,q⟩:=h
 cases rx
 obtain⟨t,rfl⟩:=ry
 obtain⟨its,r,pl,hz⟩:=I.list hq
 obtain⟨j,h1,h2,h3,h4,h5⟩:=Bc he
 obtain⟨w,ew,rw'⟩:=r.get h2
 have hl:=r.length
 have hn:=uL
 have fin:EP X pins σ Q w s:=⟨z,H,I,rw',q⟩
 by_cases h0:0<=i
 ·have hj:i.toNat=j:=by
   rw[seqIndex_of h0 h5] at h1
   exact cJ h1
  exact item_listR pl.isList h0 (by omega) (by rw[hj];simpa using ew) fin hs
 ·have hj:(i+(its.toArray.size:Int)).toNat=j:=by
   rw[seqIndex_neg (by omega) h4] at h1
   rw[bQ,←hl]
   exact cJ h1
  exact SE (x:=w) pl.isList.typeIs slot_list_getitem.lookup
   (wpAny_getItem_list_neg (Q:=λr s'=>r=w/\EP X pins σ Q r s') pl.isList (by omega) (by rw[bQ] <;> omega) (by omega) (by rw[hj];simpa using ew) ⟨rfl,fin⟩) hs
theorem K4:uP X (K3 X.K):=by
 intro value slice pins s σ H x y v u Q I rx ry h hs
 obtain⟨p,xs,i,z,rfl,rfl,hq,he,q⟩:=h
 cases rx
 obtain⟨t,rfl⟩:=ry
 obtain⟨its,r,pl,hz⟩:=I.tuple hq
 obtain⟨j,h1,h2,h3,h4,h5⟩:=Bc he
 obtain⟨w,ew,rw'⟩:=r.get h2
 have hl:=r.length
 have hn:=uL
 have fin:EP X pins σ Q w s:=⟨z,H,I,rw',q⟩
 exact SE (x:=w) pl.typeIs slot_tuple_getitem.lookup
  (getItem_tuple (j:=j) (Q:=λr s'=>r=w/\EP X pins σ Q r s') pl (by omega) (by omega) (by rw[bQ,←hl];exact h1) (by simpa using ew) ⟨rfl,fin⟩) hs
theorem K5 (lo hi:Option Int) (n:Nat):(sliceBounds lo hi none n).1=((HT.bn n 0 lo:Nat):Int)/\(sliceBounds lo hi none n).2.1=((HT.bn n n hi:Nat):Int)/\(sliceBounds lo hi none n).2.2=1:=by
 refine⟨?_,?_,rfl⟩
 ·cases lo with
  |none=>simp [sliceBounds,HT.bn]
  |some i=>
   simp only[sliceBounds,HT.bn,SF,show (1:Int) > 0 by decide,if_true]
   by_cases h:i<0
   ·simp only[h,if_true] <;> omega
   ·simp only[h,if_false] <;> omega
 ·cases hi with
  |none=>simp [sliceBounds,HT.bn]
  |some i=>
   simp only[sliceBounds,HT.bn,SF,show (1:Int) > 0 by decide,if_true]
   by_cases h:i<0
   ·simp only[h,if_true] <;> omega
   ·simp only[h,if_false] <;> omega
theorem K6 (its:List ac) (lo hi:Option Int):slicePick its.toArray lo hi none=((its.drop (HT.bn its.length 0 lo)).take (HT.bn its.length its.length hi-HT.bn its.length 0 lo)).toArray:=by
 obtain⟨h1,h2,h3⟩:=K5 lo hi its.toArray.size
 unfold slicePick
 rw[h1,h2,h3]
 simp only[sliceRange_one,pick_run,bQ] <;> rfl
def K7 (K:aA):V->Option Int->Option Int->Hp->VK->Prop:=λx lo hi H Q=> ∃a xs,x= .ref a/\bN K H a xs/\ ∀p,H p=none->Q (.ref p) (upd H p (.lst (b7 xs lo hi)))
theorem K8:qH X (K7 X.K):=by
 intro pins s σ H x v vl vu lo hi sl Q I rx hs pl pu h
 obtain⟨a,xs,rfl,hx,q⟩:=h
 cases rx
 obtain⟨its,r,ht,hz⟩:=I.list hx
 have hlen:=r.length
 refine⟨"list",_,slot_list_getitem.lookup,ht.isList.typeIs,?_⟩
 refine wpAny_getItem_list_slice ht.isList hs pl pu .none (by simp) ?_ (by rw[bQ] <;> omega)
 rw[K6,←hlen]
 refine⟨.ref s.heap.objs.size,_,I.laid (t':=s.toks) (o:= .lst (b7 xs lo hi)) (λb ob q=>b4 _ q) (aW _) ?_,rfl,q _ (I.aB.fresh (aW _))⟩
 exact⟨bM (Bb xs lo hi) hz,_,0,(r.drop (HT.bn xs.length 0 lo)).take (HT.bn xs.length xs.length hi-HT.bn xs.length 0 lo),cw _ rfl⟩
def i7:V->Bool
 | .a9=>true
 | .bl _=>true
 | .int _=>true
 | .str _=>true
 |_=>false
def ko:V->V->Bool
 | .a9,.a9=>true
 | .bl a,.bl b=>a == b
 | .bl a,.int b=>(if a then 1 else 0) == b
 | .int a,.bl b=>a == (if b then 1 else 0)
 | .int a,.int b=>a == b
 | .str a,.str b=>a == b
 |_,_=>false
theorem K9 {A:a7} {s:af} {y x:V} {u v:ac} (ry:RelV y u) (rx:RelV x v) (fy:i7 y=true) (fx:i7 x=true):tO A s u v (ko y x):=by
 cases y with
 |a9=>
  cases ry
  cases x with
  |a9=>cases rx;exact SG _
  |bl b=>cases rx;exact VR b
  |int b=>obtain⟨t,rfl⟩:=rx;exact VS b t
  |str b=>obtain⟨t,rfl⟩:=rx;exact VT b t
  |_=>exact absurd (show false=true from fx) cY
 |bl a=>
  cases ry
  cases x with
  |a9=>cases rx;exact VU a
  |bl b=>cases rx;exact VW a b
  |int b=>obtain⟨t,rfl⟩:=rx;exact VX a b t
  |str b=>obtain⟨t,rfl⟩:=rx;exact VY a b t
  |_=>exact absurd (show false=true from fx) cY
 |int a=>
  obtain⟨t',rfl⟩:=ry
  cases x with
  |a9=>cases rx;exact VZ a t'
  |bl b=>cases rx;exact V0 a t' b
  |int b=>obtain⟨t,rfl⟩:=rx;exact zu a t' b t
  |str b=>obtain⟨t,rfl⟩:=rx;exact RK a t' b t
  |_=>exact absurd (show false=true from fx) cY
 |str a=>
  obtain⟨t',rfl⟩:=ry
  cases x with
  |a9=>cases rx;exact V1 a t'
  |bl b=>cases rx;exact V2 a t' b
  |int b=>obtain⟨t,rfl⟩:=rx;exact RL a t' b t
  |str b=>obtain⟨t,rfl⟩:=rx;exact V3 a t' b t
  |_=>exact absurd (show false=true from fx) cY
 |_=>exact absurd (show false=true from fy) cY
def ir (x:V) (u:ac):Bool:=match u with
 | .none=>ko .a9 x
 | .bool b=>ko (.bl b) x
 | .int i _=>ko (.int i) x
 | .str z _=>ko (.str z) x
 |_=>false
theorem Bd {x y:V} {u:ac} (r:RelV y u) (f:i7 y=true):ir x u=ko y x:=by
 cases y with
 |a9=>cases r;rfl
 |bl b=>cases r;rfl
 |int i=>obtain⟨t,rfl⟩:=r;rfl
 |str z=>obtain⟨t,rfl⟩:=r;rfl
 |_=>exact absurd (show false=true from f) cY
theorem uR {x:V}: ∀{xs:List V} {us:List ac},Vals xs us->xs.all i7=true->us.any (ir x)=xs.any λy=>ko y x
 |_,_,.nil,_=>rfl
 |y::xs,u::us,.cons r t,f=>by
  rw[zz,bY] at f
  rw[gm,gm,Bd r f.1,uR t f.2]
theorem qL {A:a7} {s:af} {x:V} {v:ac} (rx:RelV x v) (fx:i7 x=true): ∀{xs:List V} {us:List ac},Vals xs us->xs.all i7=true-> ∀u∈us,tO A s u v (ir x u)
 |_,_,.nil,_=>λu hu=>by cases hu
 |y::xs,u::us,.cons r t,f=>λu' hu=>by
  rw[zz,bY] at f
  rcases be.mp hu with rfl|hu
  ·rw[Bd r f.1];exact K9 r rx f.1 fx
  ·exact qL rx fx t f.2 u' hu
def qM (x:V) (xs:List V):Bool:=xs.any λy=>ko y x
def K_ (K:aA) (neg:Bool):R2:=λx y H Q=> ∃p xs,y= .ref p/\(bN K H p xs∨bE K H p xs)/\i7 x=true/\xs.all i7=true/\Q (.bl (if neg then !qM x xs else qM x xs)) H
theorem La:cO X (compareOp .NotIn) (K_ X.K true):=by
 intro pins s σ H x y v u Q I rx ry h
 obtain⟨p,xs,rfl,hq,fx,fs,q⟩:=h
 cases ry
 rcases hq with hq|hq
 ·obtain⟨its,r,pl,hz⟩:=I.list hq
  refine SeqAt.notIn_listAt (ir x) pl.isList (λw hw=>qL rx fx r fs w (by simpa using hw)) ⟨.bl _,H,I,rfl,?_⟩
  rw[show its.toArray.any (ir x)=its.any (ir x) by simp,uR r fs]
  exact q
 ·obtain⟨its,r,pl,hz⟩:=I.tuple hq
  refine SeqAt.notIn_tupleAt (ir x) pl (λw hw=>qL rx fx r fs w (by simpa using hw)) ⟨.bl _,H,I,rfl,?_⟩
  rw[show its.toArray.any (ir x)=its.any (ir x) by simp,uR r fs]
  exact q
theorem Be:io X (.builtin "len") (λxs H Q=> ∃p ys,xs=[.ref p]/\(bN X.K H p ys∨bE X.K H p ys)/\Q (.int ys.length) H):=by
 intro pins s σ H xs us Q I r h
 obtain⟨p,ys,rfl,hq,q⟩:=h
 obtain⟨u,rfl,rx⟩:=vals1 r
 cases rx
 have hn:=uL
 rcases hq with hq|hq
 ·obtain⟨its,r',pl,hz⟩:=I.list hq
  have hlen:=r'.length
  exact Calls.call_len_list pl.isList (by simp only[bQ] <;> omega) ⟨.int ys.length,H,I.tok _,⟨s.toks+1,by rw[bQ,hlen]⟩,q⟩
 ·obtain⟨its,r',pl,hz⟩:=I.tuple hq
  have hlen:=r'.length
  exact len_tuple pl (by simp only[bQ] <;> omega) ⟨.int ys.length,H,I.tok _,⟨s.toks+1,by rw[bQ,hlen]⟩,q⟩
theorem Bf:io X (.type "list") (λxs H Q=> ∃p ys,xs=[.ref p]/\(bN X.K H p ys∨bE X.K H p ys)/\ ∀l,H l=none->Q (.ref l) (upd H l (.lst ys))):=by
 intro pins s σ H xs us Q I r h
 obtain⟨p,ys,rfl,hq,q⟩:=h
 obtain⟨u,rfl,rx⟩:=vals1 r
 cases rx
 have fin: ∀(its:List ac),Vals ys its->ys.length<=sizeLine-> ∀(h':aF) (c':Nat),(∀b o',s.heap.get? b=some o'->h'.get? b=some o') ->
   h'.get? s.heap.objs.size=some {cls:= .type "list",dict:=none,data:= .seq its.toArray c',slots:= #[]}->EP X pins σ Q (.ref s.heap.objs.size) {s with heap:=h'}:=λits r' hz h' c' kp e=>
  ⟨.ref s.heap.objs.size,_,I.laid (t':=s.toks) kp (aW _) (show cz X.prog X.w _ h' _ (.lst ys) from ⟨hz,its,c',r',e⟩),rfl,q _ (I.aB.fresh (aW _))⟩
 rcases hq with hq|hq
 ·obtain⟨its,r',pl,hz⟩:=I.list hq
  have hlen:=r'.length
  obtain⟨o,ho,hc,n,hd⟩:=pl.isList
  exact SH p (.inl rfl) ho hc hd (λh' c' kp e=>fin its r' hz h' c' kp e) (by simp only[bQ] <;> omega)
 ·obtain⟨its,r',pl,hz⟩:=I.tuple hq
  have hlen:=r'.length
  obtain⟨o,ho,hc,n,hd⟩:=pl
  exact SH p (.inr rfl) ho hc hd (λh' c' kp e=>fin its r' hz h' c' kp e) (by simp only[bQ] <;> omega)
theorem Lb:io X (.type "tuple") (λxs H Q=> ∃p ys,xs=[.ref p]/\((bN X.K H p ys/\ ∀l,H l=none->Q (.ref l) (upd H l (.tup ys)))∨(bE X.K H p ys/\Q (.ref p) H))):=by
 intro pins s σ H xs us Q I r h
 obtain⟨p,ys,rfl,h⟩:=h
 obtain⟨u,rfl,rx⟩:=vals1 r
 cases rx
 rcases h with ⟨hq,q⟩|⟨hq,q⟩
 ·obtain⟨its,r',pl,hz⟩:=I.list hq
  have hlen:=r'.length
  refine call_tuple_list pl.isList (λh' kp=>?_) (by simp only[bQ] <;> omega)
  have I1:Inv X pins σ H {s with heap:=h'}:=I.kept (t':=s.toks) kp
  have I2:Inv X pins σ (upd H h'.objs.size (.tup ys)) {s with heap:=h'.push {cls:= .type "tuple",data:= .seq its.toArray}}:=
   I1.laid (t':=s.toks) (λb o e=>b4 _ e) (aW _) (show cz X.prog X.w _ _ _ (.tup ys) from ⟨hz,its,r',Hz _ _,_,cw _ rfl,rfl,rfl⟩)
  exact⟨.ref h'.objs.size,_,I2,rfl,q _ (I1.aB.fresh (aW _))⟩
 ·obtain⟨its,r',pl,hz⟩:=I.tuple hq
  exact call_tuple_same pl ⟨.ref p,H,I,rfl,q⟩
def uS (K:aA) (T:String) (x:V) (H:Hp):Prop:=match x with
 | .str _=>T="str"
 | .int _=>T="int"
 | .ref p=>(T="list"/\ ∃xs,bN K H p xs)∨(T="tuple"/\ ∃o,K.lookup p=some o/\o.cls= .type "tuple"/\o.dict=none) ∨
   (T="dict"/\((∃kvs,H p=some (.dK kvs))∨ ∃kvs,H p=some (.dT kvs)))∨(T="set"/\ ∃S n,H p=some (.set S n))
 |_=>False
theorem Bg {pins:List (aa×Obj)} {σ:St} {H:Hp} {s:af} {T:String} {x:V} {v:ac} (I:Inv X pins σ H s) (r:RelV x v) (ty:uS X.K T x H) :
  s.TypeIs v T/\ ∀a,v= .ref a-> ∃ob,s.heap.get? a=some ob/\ob.dict=none:=by
 cases x with
 |str z=>
  obtain⟨t,rfl⟩:=r
  cases (show T="str" from ty)
  exact⟨typeIs_str s z t,λ_ e=>nomatch e⟩
 |int i=>
  obtain⟨t,rfl⟩:=r
  cases (show T="int" from ty)
  exact⟨typeIs_int s i t,λ_ e=>nomatch e⟩
 |ref p=>
  cases r
  rcases ty with ⟨rfl,xs,hq⟩|⟨rfl,o,hk,hc,hd⟩|⟨rfl,hk⟩|⟨rfl,S,n,hk⟩
  ·obtain⟨its,_,pl,_⟩:=I.list hq
   refine⟨pl.isList.typeIs,λa e=>?_⟩
   cases e
   obtain⟨o,n,e,c,hd,_⟩:=pl
   exact⟨o,e,hd⟩
  ·refine⟨⟨o,I.fV p o hk,hc⟩,λa e=>?_⟩
   cases e
   exact⟨o,I.fV _ o hk,hd⟩
  ·have z: ∃o,s.heap.get? p=some o/\o.ExactDict:=by
    rcases hk with ⟨kvs,hk⟩|⟨kvs,hk⟩
    ·obtain⟨_,_,_,_,o,_,_,e,ex,_⟩:=I.aB p _ hk
     exact⟨o,e,ex⟩
    ·obtain⟨_,_,_,_,o,_,_,e,ex,_⟩:=I.aB p _ hk
     exact⟨o,e,ex⟩
   obtain⟨o,e,ex⟩:=z
   refine⟨⟨o,e,ex.1⟩,λa e2=>?_⟩
   cases e2
   exact⟨o,e,ex.2.1⟩
  ·obtain⟨o,_,_,_,e,ex,_⟩:=I.aB p _ hk
   refine⟨⟨o,e,ex.1⟩,λa e2=>?_⟩
   cases e2
   exact⟨o,e,ex.2.1⟩
 |_=>exact fm ty
def Bh (K:aA) (T:String) (r:V->List V->Hp->VK->Prop) (to:TE):TE:=λσ H Q=>to σ H λx H1=>uS K T x H1/\r x [] H1 Q
def oB (K:aA) (T:String) (r:V->List V->Hp->VK->Prop) (to:TE) (t:TA):TE:=λσ H Q=>to σ H λx H1=>uS K T x H1/\t σ H1 λxs H2=>r x xs H2 Q
variable {o e:ao} {es:List ao} {to:TE} {t:TA} {name:Str} {apos cpos:Pos} {T id:String} {r:V->List V->Hp->VK->Prop}
theorem Lc (pa:HC T) (slot:Slot T name id) (hty:typeOf (.builtin id)=pure (.type "method_descriptor")) (hm:qJ X id r) (ho:PE X o to)
  (hbase:attributeBase o name X.env (eval o X.env)=eval o X.env:=by rfl) (hline:(apos.endLine == cpos.line)=true:=by rfl):PE X (.Call (.Attribute o name apos) [] [] cpos) (Bh X.K T r to):=by
 intro pins s σ H Q I h
 refine wpAny_Call_method0_late hbase hline (aJ (ho pins s σ H _ I h) λv s1 ⟨x,H1,I1,r1,ty,q1⟩=>?_)
 obtain⟨h1,h2⟩:=Bg I1 r1 ty
 exact⟨T,id,pa,slot,hty,h1,h2,tQ rfl (PySem.evalArgs_none (hm pins s1 σ H1 x [] v [] Q I1 r1 .nil q1))⟩
theorem fG (pa:HC T) (slot:Slot T name id) (hty:typeOf (.builtin id)=pure (.type "method_descriptor")) (hm:qJ X id r) (ho:PE X o to) (ha:PA X (e::es) t)
  (hbase:attributeBase o name X.env (eval o X.env)=eval o X.env:=by rfl)
  (hfew:((backTo cpos (starEach (e::es) X.env)).all (λx=>!x.1) && (backToKw cpos (keywordEach [] X.env)).all (λx=>x.1.isSome)
   && decide ((e::es).length+([]:List j3).length+(if ([]:List j3).isEmpty then 0 else 1)<30))=true:=by rfl)
  (hline:(apos.endLine == cpos.line)=true:=by rfl) (hs:starEach (e::es) X.env=(false,eval e X.env)::starEach es X.env:=by rfl) (hplain:(backTo cpos (starEach es X.env)).any (·.1)=false:=by rfl) :
  PE X (.Call (.Attribute o name apos) (e::es) [] cpos) (oB X.K T r to t):=by
 intro pins s σ H Q I h
 refine SI hbase hfew hline rfl (aJ (ho pins s σ H _ I h) λv s1 ⟨x,H1,I1,r1,ty,q1⟩=>?_)
 obtain⟨h1,h2⟩:=Bg I1 r1 ty
 refine⟨T,id,pa,slot,hty,h1,h2,?_⟩
 have hA:=ha cpos pins s1 σ H1 _ I1 q1
 rw[hs] at hA ⊢
 refine tQ (by show (false || (backTo cpos (starEach es X.env)).any (·.1))=false;rw[hplain] <;> rfl) (zA ?_)
 exact aJ hA λus s2 ⟨vs,H2,I2,r2,q2⟩=>hm pins s2 σ H2 x vs v us Q I2 r1 r2 q2
end
def oC (X:Cx) (id:String) (r:V->List V->Hp->VK->Prop):Prop:=
 ∀(pins:List (aa×Obj)) (s:af) (σ:St) (H:Hp) (x:V) (xs:List V) (v:ac) (us:List ac) (Q:VK),Inv X pins σ H s->RelV x v->Vals xs us->r x xs H Q ->
  wpAny (model X.prog X.w) X.A (call (.builtin id) (v::us)) (EP X pins σ Q) X.xe s
theorem Vals.one: ∀{x:V} {us:List ac},Vals [x] us-> ∃u,us=[u]/\RelV x u
 |_,_,.cons r .nil=>⟨_,rfl,r⟩
theorem Vals.zero: ∀{us:List ac},Vals [] us->us=[]
 |_,.nil=>rfl
theorem Vals.dropLast {xs:List V} {us:List ac} (h:Vals xs us):Vals xs.dropLast us.dropLast:=by
 induction h with
 |nil=>exact .nil
 |cons r t ih=>
  cases t with
  |nil=>exact .nil
  |cons q t'=>exact .cons r ih
theorem Vals.eraseIdx: ∀{xs:List V} {us:List ac} (i:Nat),Vals xs us->Vals (xs.eraseIdx i) (us.eraseIdx i)
 |_,_,_,.nil=> .nil
 |_,_,0,.cons _ t=>t
 |_,_,i+1,.cons r t=> .cons r (Vals.eraseIdx i t)
theorem Vals.reverse {xs:List V} {us:List ac} (h:Vals xs us):Vals xs.reverse us.reverse:=by
 induction h with
 |nil=>exact .nil
 |cons r t ih=>rw[zB,zB];exact Vals.append ih (.cons r .nil)
theorem Ld {α:Type} (l:List α):l.eraseIdx (l.length-1)=l.dropLast:=by
 induction l with
 |nil=>rfl
 |cons a r ih=>
  cases r with
  |nil=>rfl
  |cons b r=>
   have e:(a::b::r).length-1=((b::r).length-1)+1:=by
    have h1:(a::b::r).length=r.length+2:=rfl
    have h2:(b::r).length=r.length+1:=rfl
    omega
   rw[e,pT,ih]
   all_goals rfl
theorem uT {α:Type}: ∀(l:List α) (i:Nat),(l.eraseIdx i).length<=l.length
 | [],_=>aW _
 |_::_,0=>Sd _
 |_::r,i+1=>Nat.succ_le_succ (uT r i)
section
variable {X:Cx} {pins:List (aa×Obj)} {σ:St} {H:Hp} {s:af} {l b:aa} {xs ys zs:List V}
theorem Inv.oE {its its':List ac} {n:Nat} {f:Array ac->Array ac} {t':Nat} (I:Inv X pins σ H s) (hH:H l=some (.lst xs))
  (e:s.heap.get? l=some {cls:= .type "list",data:= .seq its.toArray n}) (hf:f its.toArray=its'.toArray) (hv:Vals ys its') (hz:ys.length<=sizeLine) :
  Inv X pins σ (upd H l (.lst ys)) {s with heap:=s.heap.update l (pU f),toks:=t'}:=by
 have q:=PySem.IsL.update e f
 rw[hf] at q
 refine I.write (x:=l) (e:=l) (by rw[hH];exact trivial) (.inl rfl) (λb' u hb hu=>(Heap.get?_update_other s.heap (pU f) (dw hb)).trans hu) ⟨_,q⟩ ?_
 exact⟨hz,its',_,hv,q⟩
theorem Inv.Le {its:List ac} {t':Nat} (I:Inv X pins σ H s) (hv:Vals ys its) (hz:ys.length<=sizeLine) :
  Inv X pins σ (upd H s.heap.objs.size (.lst ys)) {s with heap:=s.heap.push {cls:= .type "list",data:= .seq its.toArray},toks:=t'}:=
 I.laid (λ_ _ q=>b4 _ q) (aW _) ⟨hz,its,0,hv,cw _ rfl⟩
theorem Inv.fresh (I:Inv X pins σ H s):H s.heap.objs.size=none:=I.aB.fresh (aW _)
theorem Inv.kq (I:Inv X pins σ H s) (hH:H l=some (.lst xs)):xs.length<=sizeLine/\ ∃(its:List ac) (n:Nat),Vals xs its/\xs.length=its.length/\s.heap.get? l=some {cls:= .type "list",data:= .seq its.toArray n}:=by
 obtain⟨z,its,n,r,e⟩:=I.aB l _ hH
 exact⟨z,its,n,r,r.length,e⟩
theorem Bi {n:Nat} (h:n<=sizeLine):zC n=false:=by
 unfold zC
 exact decide_eq_false (by omega)
end
section
variable {X:Cx}
def Bj:V->List V->Hp->VK->Prop:=λx vs H Q=> ∃l xs y,x= .ref l/\vs=[y]/\H l=some (.lst xs)/\xs.length<sizeLine/\Q .a9 (upd H l (.lst (xs++[y])))
theorem gQ:oC X "list.append" Bj:=by
 intro pins s σ H x vs v us Q I rx rv h
 obtain⟨l,xs,y,rfl,rfl,hH,hz,q⟩:=h
 cases rx
 obtain⟨u,rfl,ru⟩:=rv.one
 obtain⟨z,its,n,r,hl,e⟩:=I.kq hH
 refine nF F.slot_list_append ⟨_,e,rfl⟩ F.entry_list_append (F.args_list_append_2 _ _) (PySem.list_append l its.toArray n u (by rw[bQ];omega)) ⟨e,?_⟩
 refine⟨.a9,_,I.oE (its':=its++[u]) hH e (by simp) (r.append (.cons ru .nil)) ?_,rfl,q⟩
 rw[bx,j4]
 omega
def Bk:V->List V->Hp->VK->Prop:=λx vs H Q=> ∃l b xs zs,x= .ref l/\vs=[.ref b]/\H l=some (.lst xs)/\H b=some (.lst zs)/\xs.length+zs.length<=sizeLine/\Q .a9 (upd H l (.lst (xs++zs)))
theorem Lf:oC X "list.extend" Bk:=by
 intro pins s σ H x vs v us Q I rx rv h
 obtain⟨l,b,xs,zs,rfl,rfl,hH,hB,hz,q⟩:=h
 cases rx
 obtain⟨u,rfl,ru⟩:=rv.one
 cases ru
 obtain⟨z,its,n,r,hl,e⟩:=I.kq hH
 obtain⟨z2,its2,n2,r2,hl2,e2⟩:=I.kq hB
 have hsz:its.toArray.size+its2.toArray.size<=sizeLine:=by rw[bQ,bQ];omega
 have hlong: ¬(!its.toArray.isEmpty && zC (its.toArray.size+its2.toArray.size))=true:=by
  rw[Bi hsz,zD]
  exact cY
 refine nF SJ ⟨_,e,rfl⟩ SK (SL _ _)
  (AutoSeq1.list_extend_list_list_0 l its.toArray n b its2.toArray n2 hlong (by rw[bQ];omega) (by omega)) ⟨e,e2,?_⟩
 refine⟨.a9,_,I.oE (its':=its++its2) hH e (by simp) (r.append r2) ?_,rfl,q⟩
 rw[bx]
 omega
def Bl:V->List V->Hp->VK->Prop:=λx vs H Q=> ∃l xs y,x= .ref l/\vs=[]/\H l=some (.lst xs)/\xs[xs.length-1]?=some y/\Q y (upd H l (.lst xs.dropLast))
theorem Lg:oC X "list.pop" Bl:=by
 intro pins s σ H x vs v us Q I rx rv h
 obtain⟨l,xs,y,rfl,rfl,hH,hy,q⟩:=h
 cases rx
 have hus:=rv.zero
 subst hus
 obtain⟨z,its,n,r,hl,e⟩:=I.kq hH
 obtain⟨u,hu,ru⟩:=r.get hy
 have hy':its.toArray[its.toArray.size-1]?=some u:=by
  show its.toArray[its.length-1]?=some u
  rw[←ju,←hl]
  exact hu
 refine nF F.slot_list_pop ⟨_,e,rfl⟩ F.entry_list_pop (F.args_list_pop_1 _) (MeetsSeq.list_pop_last l its.toArray n u hy' (by rw[bQ];omega)) ⟨e,?_⟩
 refine⟨y,_,I.oE (its':=its.dropLast) hH e ?_ r.dropLast ?_,ru,q⟩
 ·show its.toArray.eraseIdxIfInBounds (its.toArray.size-1)=its.dropLast.toArray
  rw[bQ,SM,Ld]
 ·rw[List.length_dropLast]
  omega
def Lh:R2:=λx y H Q=> ∃l b xs zs,x= .ref l/\y= .ref b/\H l=some (.lst xs)/\H b=some (.lst zs)/\xs.length+zs.length<=sizeLine/\ ∀p,H p=none->Q (.ref p) (upd H p (.lst (xs++zs)))
theorem uU:cO X (binaryOp .Add) Lh:=by
 intro pins s σ H x y v u Q I rx ry h
 obtain⟨l,b,xs,zs,rfl,rfl,hH,hB,hz,q⟩:=h
 cases rx
 cases ry
 obtain⟨z,its,n,r,hl,e⟩:=I.kq hH
 obtain⟨z2,its2,n2,r2,hl2,e2⟩:=I.kq hB
 refine PySem.P.add_list e e2 ?_ (by rw[bQ,bQ];omega)
 have ea:its.toArray++its2.toArray=(its++its2).toArray:=by simp
 rw[ea]
 exact⟨.ref _,_,I.Le (t':=s.toks) (r.append r2) (by rw[bx];omega),rfl,q _ I.fresh⟩
end
theorem Vals.ints: ∀{ns:List Int} {us:List ac},Vals (ns.map V.int) us->eB us ns
 | [],us,h=>by
  rw[iU] at h
  cases h
  exact IntsAre.nil
 |n::ns,us,h=>by
  rw[aU] at h
  cases h with
  |cons r t=>
   obtain⟨k,rfl⟩:=r
   exact IntsAre.cons n k (Vals.ints t)
theorem uV: ∀{us:List ac} {ns:List Int},eB us ns->Vals (ns.map V.int) us
 |_,_,.nil=>by rw[iU];exact Paired.nil
 |_,_,.cons n t h=>by rw[aU];exact Paired.cons (show RelV (V.int n) (iM n t) from ⟨t,rfl⟩) (uV h)
theorem Vals.uW: ∀{bs:List Bool} {us:List ac},Vals (bs.map V.bl) us->us=bs.map kT
 | [],us,h=>by
  rw[iU] at h
  cases h
  rfl
 |b::bs,us,h=>by
  rw[aU] at h
  cases h with
  |cons r t=>
   cases r
   rw[Vals.uW t,aU]
theorem Vals.uX {a:aa} {us:List ac} (r:Vals [V.ref a] us):us=[aP a]:=by
 cases r with
 |cons r t=>
  cases t
  cases r
  rfl
section
variable {prog:aI} {w:aE} {A:a7} {E:ac->af->Prop} {s:af} {l:aa} {its:List ac} {ns:List Int} {Q:ac->af->Prop}
theorem Li (hh:A.handled=none) (hl:s.heap.IsList l its.toArray) (hi:eB its ns)
  (h: ∀h' tk t',(∀b o,s.heap.get? b=some o->h'.get? b=some o)->Q (.int ns.sum t') {s with heap:=h',toks:=tk}):wpAny (model prog w) A (call (.builtin "sum") [.ref l]) Q E s:=by
 obtain⟨xs,e⟩:=hi.allInts.items
 have hn:numsOf (intItems xs).toList=ns:=by rw[←e];exact hi.numsOf
 rw[nums_intItems] at hn
 rw[e] at hl
 refine PySem.sum_intListG hh hl λh' tk t' hk=>?_
 have:=h h' tk t' hk
 rw[preSum_eq,l5 (by simp),hn];exact this
end
section
variable {X:Cx}
def Lj (K:aA):List V->Hp->VK->Prop:=λvs H Q=> ∃(a:aa) (ns:List Int),vs=[V.ref a]/\bN K H a (ns.map V.int)/\Q (.int ns.sum) H
theorem Lk (hc:X.calm=true):io X (.builtin "sum") (Lj X.K):=by
 intro pins s σ H vs us Q I r h
 obtain⟨a,ns,rfl,hs,q⟩:=h
 obtain⟨its,rv,hl,_⟩:=I.list hs
 rw[Vals.uX r]
 exact Li (I.ok.hd hc) hl.isList rv.ints λh' tk t' hk=>⟨.int _,H,I.kept hk,⟨_,rfl⟩,q⟩
end
theorem Bm {prog:aI} {w:aE} {A:a7} {E:ac->af->Prop} {s:af} {l:aa} {items:Array ac} {Q:ac->af->Prop} (hl:s.heap.IsList l items)
  (h: ∀s₂:af,s₂={s with heap:=s.heap.push {cls:= .type "list_iterator",data:= .fields #[.ref l,.int 0 0]}} ->
   (s₂.heap.IsListIter s.heap.objs.size l 0/\s₂.heap.IsList l items)->l≠s.heap.objs.size->Q (.ref s.heap.objs.size) s₂):wpAny (model prog w) A (pyIter (.ref l)) Q E s:=by
 have hlt:l<s.heap.objs.size:=by obtain⟨_,e,_⟩:=hl;exact bL e
 exact He hl (h _ rfl ⟨⟨_,cw _ rfl,rfl,rfl⟩,hl.push _⟩ (cX hlt))
theorem Bn {prog:aI} {w:aE} {A:a7} {bs:List Bool} {its:List ac} (e:its=bs.map kT) :
  TruthOf prog w A (λi v=>its.toArray[i]?=some v) (λi=>bs.getD i false):=λi v s Q E hv hq=>by
 have hv':its[i]?=some v:=by simpa using hv
 rw[e,bC] at hv'
 obtain⟨b,hb,rfl⟩:=Option.map_eq_some_iff.mp hv'
 have hg:bs.getD i false=b:=by rw[tR,hb] <;> rfl
 have hq':Q (bs.getD i false) s:=hq
 rw[hg] at hq'
 exact jt hq'
theorem any_range: ∀bs:List Bool,(eQ bs.length).any (λi=>bs.getD i false)=bs.any id
 | []=>rfl
 |b::bs=>by
  rw[bm,SN,gm,zE,gm,←any_range bs]
  all_goals rfl
theorem all_range: ∀bs:List Bool,(eQ bs.length).all (λi=>bs.getD i false)=bs.all id
 | []=>rfl
 |b::bs=>by
  rw[bm,SN,zz,l6,zz,←all_range bs]
  all_goals rfl
section
variable {X:Cx}
def Ll (K:aA):List V->Hp->VK->Prop:=λvs H Q=> ∃(a:aa) (bs:List Bool),vs=[V.ref a]/\bN K H a (bs.map V.bl)/\Q (.bl (bs.any id)) H
def Lm (K:aA):List V->Hp->VK->Prop:=λvs H Q=> ∃(a:aa) (bs:List Bool),vs=[V.ref a]/\bN K H a (bs.map V.bl)/\Q (.bl (bs.all id)) H
theorem Ln (hc:X.calm=true):io X (.builtin "any") (Ll X.K):=by
 intro pins s σ H vs us Q I r h
 obtain⟨a,bs,rfl,hs,q⟩:=h
 obtain⟨its,rv,hl,_⟩:=I.list hs
 rw[Vals.uX r]
 have hb:=rv.uW
 refine call_any_walk (Bm hl.isList λs₂ e2 st hne=>?_)
 subst e2
 refine⟨_,_,_,_,_,_,_,rfl,HD (A:=X.A.in1) (I.ok.hd hc) _ a hne its.toArray,st,Bn hb,λh' tk hk=>?_⟩
 refine⟨.bl _,H,I.kept λb o eo=>hk b o (λhmem=>?_) (b4 _ eo),?_,q⟩
 ·rcases be.mp hmem with e1|hmem
  ·exact absurd (e1▸bL eo) (jr _)
  ·cases hmem
 ·show kT _=kT _
  rw[←any_range,hb,bQ,aC]
theorem Lo (hc:X.calm=true):io X (.builtin "all") (Lm X.K):=by
 intro pins s σ H vs us Q I r h
 obtain⟨a,bs,rfl,hs,q⟩:=h
 obtain⟨its,rv,hl,_⟩:=I.list hs
 rw[Vals.uX r]
 have hb:=rv.uW
 refine call_all_walk (Bm hl.isList λs₂ e2 st hne=>?_)
 subst e2
 refine⟨_,_,_,_,_,_,_,rfl,HD (A:=X.A.in1) (I.ok.hd hc) _ a hne its.toArray,st,Bn hb,λh' tk hk=>?_⟩
 refine⟨.bl _,H,I.kept λb o eo=>hk b o (λhmem=>?_) (b4 _ eo),?_,q⟩
 ·rcases be.mp hmem with e1|hmem
  ·exact absurd (e1▸bL eo) (jr _)
  ·cases hmem
 ·show kT _=kT _
  rw[←all_range,hb,bQ,aC]
end
mutual
inductive Dp (K:aA) (H:Hp):V->l7->Prop
 |a9:Dp K H .a9 .none
 |bl (b:Bool):Dp K H (.bl b) (.bool b)
 |int (i:Int):Dp K H (.int i) (.int i)
 |str (x:Str):Dp K H (.str x) (.str x)
 |lst {a:aa} {xs:List V} {ds:List l7}:bN K H a xs->lw K H xs ds->Dp K H (.ref a) (.list ds)
 |tup {a:aa} {xs:List V} {ds:List l7}:bE K H a xs->lw K H xs ds->Dp K H (.ref a) (.tuple ds)
inductive lw (K:aA) (H:Hp):List V->List l7->Prop
 |nil:lw K H [] []
 |cons {v:V} {vs:List V} {d:l7} {ds:List l7}:Dp K H v d->lw K H vs ds->lw K H (v::vs) (d::ds)
end
section
variable {X:Cx} {pins:List (aa×Obj)} {σ:St} {H:Hp} {s:af}
mutual
theorem Dp.reads (I:Inv X pins σ H s): ∀(d:l7) (v:V) (u:ac),Dp X.K H v d->RelV v u-> ∃as,Reads s.heap u d as
 | .none,_,_,h,r=>by
  cases h
  cases r
  exact⟨_,Reads.none⟩
 | .bool b,_,_,h,r=>by
  cases h
  cases r
  exact⟨_,Reads.bool b⟩
 | .int i,_,_,h,r=>by
  cases h
  obtain⟨t,rfl⟩:=r
  exact⟨_,Reads.int i t⟩
 | .str x,_,_,h,r=>by
  cases h
  obtain⟨t,rfl⟩:=r
  exact⟨_,Reads.str x t⟩
 | .list ds,_,_,h,r=>by
  cases h with
  |lst hs ha=>
   cases r
   obtain⟨its,rv,⟨o,n,ho,hc,_,hd⟩,_⟩:=I.list hs
   obtain⟨as,hr⟩:=Dp.readsAll I ds _ its ha rv
   exact⟨_,Reads.list ho hc hd hr⟩
 | .tuple ds,_,_,h,r=>by
  cases h with
  |tup hs ha=>
   cases r
   obtain⟨its,rv,⟨o,ho,hc,n,hd⟩,_⟩:=I.tuple hs
   obtain⟨as,hr⟩:=Dp.readsAll I ds _ its ha rv
   exact⟨_,Reads.tuple ho hc hd hr⟩
 | .dict _,_,_,h,_=>by cases h
theorem Dp.readsAll (I:Inv X pins σ H s): ∀(ds:List l7) (vs:List V) (us:List ac),lw X.K H vs ds->Vals vs us-> ∃as,ReadsAll s.heap us ds as
 | [],_,_,h,r=>by
  cases h
  cases r
  exact⟨_,ReadsAll.nil⟩
 |d::ds,_,_,h,r=>by
  cases h with
  |cons h1 h2=>
   cases r with
   |cons r1 r2=>
    obtain⟨as,q1⟩:=Dp.reads I d _ _ h1 r1
    obtain⟨bs,q2⟩:=Dp.readsAll I ds _ _ h2 r2
    exact⟨_,ReadsAll.cons q1 q2⟩
end
end
section
variable {X:Cx}
def Lp (K:aA):R2:=λx y H Q=> ∃d e,Dp K H x d/\Dp K H y e/\zF d=true/\zF e=true/\Q (.bl (!SO d e)) H
theorem Lq (hu:X.A.units+64<cLine):cO X (compareOp .NotEq) (Lp X.K):=by
 intro pins s σ H x y v u Q I rx ry h
 obtain⟨d,e,hd,he,sd,se,q⟩:=h
 obtain⟨as,r1⟩:=Dp.reads I d x v hd rx
 obtain⟨bs,r2⟩:=Dp.reads I e y u he ry
 exact SeqAt.compareNe_shaped r1 r2 sd se hu ⟨.bl _,H,I,rfl,q⟩
end
abbrev Bo (h:aF) (c:aa) (v:Option ac):Prop:=h.IsCell c v
def Lr (scope sc:bX):bX:=
 {scope with names:=scope.names.map λ(n,k)=>if (k == .free && sc.kind == .function && sc.names.lookup n == some .cell) then (n,.cell) else (n,k)}
def dM (cells:List (Str×aa)):List (Str×fR)->List (Str×aa)->List (Str×aa)
 | [],acc=>acc
 |(n,k)::r,acc=>if k == .free then dM cells r ((n,(cells.lookup n).getD 0)::acc) else dM cells r acc
theorem Bp (env:Env) (f:Str×fR->List (Str×aa)->Sem (ForInStep (List (Str×aa))))
  (hf: ∀n k c,f (n,k) c=if k == .free then (do let a ←cellOf env n;pure (.yield ((n,a)::c))) else pure (.yield c)) :
  ∀(names:List (Str×fR)) (acc:List (Str×aa)),(∀y∈names,y.2= .free-> ∃c,env.cells.lookup y.1=some c)->forIn names acc f=pure (dM env.cells names acc)
 | [],acc,_=>by rw[tS];rfl
 |(n,k)::r,acc,h=>by
  rw[zG,hf]
  have ih:=λacc=>Bp env f hf r acc λy hy=>h y (bq _ hy)
  unfold dM
  by_cases hk:(k == pV)=true
  ·rw[if_pos hk,if_pos hk]
   obtain⟨c,hc⟩:=h (n,k) bB (by simpa using hk)
   have e:cellOf env n=pure c:=by unfold cellOf;rw[hc]
   rw[e]
   have e2:(env.cells.lookup n).getD 0=c:=by rw[hc];rfl
   rw[e2]
   exact ih _
  ·rw[if_neg hk,if_neg hk]
   exact ih _
theorem Ls {scope:bX} {env:Env} (h: ∀y∈scope.names,y.2= .free-> ∃c,env.cells.lookup y.1=some c):closureFor scope env=pure (dM env.cells scope.names []):=by
 simp only[closureFor]
 rw[Bp env _ (λn k c=>rfl) scope.names [] h]
 rfl
theorem mem_lookup {α:Type}: ∀{l:List (Str×α)} {n:Str} {c:α},(n,c)∈l-> ∃c',l.lookup n=some c'
 |(k,v)::r,n,c,h=>by
  rw[l8]
  cases hb:n == k with
  |true=>exact⟨_,rfl⟩
  |false=>
   rcases be.mp h with e|h
   ·cases e;simp at hb
   ·exact mem_lookup h
theorem qN {cells:List (Str×aa)}: ∀{names:List (Str×fR)} {acc:List (Str×aa)} {n:Str} {c:aa},(n,c)∈dM cells names acc->(n,c)∈acc∨((n,.free)∈names/\c=(cells.lookup n).getD 0)
 | [],_,_,_,h=> .inl h
 |(m,k)::r,acc,n,c,h=>by
  unfold dM at h
  split at h
  ·rename_i hk
   have hk:k= .free:=by simpa using hk
   rcases qN h with h|⟨h1,h2⟩
   ·rcases be.mp h with e|h
    ·cases e;exact .inr ⟨hk▸bB,rfl⟩
    ·exact .inl h
   ·exact .inr ⟨bq _ h1,h2⟩
  ·rcases qN h with h|⟨h1,h2⟩
   ·exact .inl h
   ·exact .inr ⟨bq _ h1,h2⟩
theorem uY {cells:List (Str×aa)}: ∀{names:List (Str×fR)} {acc:List (Str×aa)} {p:Str×aa},p∈acc->p∈dM cells names acc
 | [],_,_,h=>h
 |(m,k)::r,acc,p,h=>by
  unfold dM
  split
  ·exact uY (bq _ h)
  ·exact uY h
theorem uZ {cells:List (Str×aa)}: ∀{names:List (Str×fR)} {acc:List (Str×aa)} {n:Str},(n,.free)∈names->(n,(cells.lookup n).getD 0)∈dM cells names acc
 |(m,k)::r,acc,n,h=>by
  unfold dM
  rcases be.mp h with e|h
  ·cases e
   exact uY bB
  ·split
   ·exact uZ h
   ·exact uZ h
theorem oF: ∀{names:List (Str×fR)} {h:aF} {acc:List (Str×aa)} {x:Str} {c:aa},(x,c)∈cellsFrom h.objs.size names acc ->
  (x,c)∈acc∨((x,.cell)∈names/\h.objs.size<=c/\Bo (pushCells h names) c none)
 | [],_,_,_,_,h=> .inl h
 |(n,k)::r,h,acc,x,c,hm=>by
  unfold cellsFrom at hm
  unfold pushCells
  split at hm
  ·rename_i hk
   rw[if_pos hk]
   have hk:k= .cell:=by simpa using hk
   rw[←fP h {cls:= .type "cell",data:= .cell none}] at hm
   rcases oF hm with hm|⟨h1,h2,h3⟩
   ·rcases be.mp hm with e|hm
    ·cases e
     exact .inr ⟨hk▸bB,aW _,_,zH r _ _ _ (cw _ rfl),rfl⟩
    ·exact .inl hm
   ·rw[fP] at h2
    exact .inr ⟨bq _ h1,zI h2,h3⟩
  ·rename_i hk
   rw[if_neg hk]
   rcases oF hm with hm|⟨h1,h2,h3⟩
   ·exact .inl hm
   ·exact .inr ⟨bq _ h1,h2,h3⟩
theorem qO: ∀{names:List (Str×fR)} {n:Nat} {acc:List (Str×aa)} {p:Str×aa},p∈acc->p∈cellsFrom n names acc
 | [],_,_,_,h=>h
 |(m,k)::r,n,acc,p,h=>by
  unfold cellsFrom
  split
  ·exact qO (bq _ h)
  ·exact qO h
theorem u4: ∀{names:List (Str×fR)} {n:Nat} {acc:List (Str×aa)} {x:Str},(x,.cell)∈names-> ∃c,(x,c)∈cellsFrom n names acc
 |(m,k)::r,n,acc,x,h=>by
  unfold cellsFrom
  rcases be.mp h with e|h
  ·cases e
   exact⟨n,qO bB⟩
  ·split
   ·exact u4 h
   ·exact u4 h
theorem u5: ∀{names:List (Str×fR)} {h:aF} {acc:List (Str×aa)} {x y:Str} {c:aa},(∀p∈acc,p.2<h.objs.size)->(∀x y c,(x,c)∈acc->(y,c)∈acc->x=y) ->
  (x,c)∈cellsFrom h.objs.size names acc->(y,c)∈cellsFrom h.objs.size names acc->x=y
 | [],_,_,_,_,_,_,hi,h1,h2=>hi _ _ _ h1 h2
 |(n,k)::r,h,acc,x,y,c,hl,hi,h1,h2=>by
  unfold cellsFrom at h1 h2
  split at h1
  ·rename_i hk
   rw[if_pos hk] at h2
   rw[←fP h {cls:= .type "cell",data:= .cell none}] at h1 h2
   refine u5 (h:=h.push _) (λp hp=>?_) (λx y c a b=>?_) h1 h2
   ·rw[fP]
    rcases be.mp hp with rfl|hp
    ·exact zr _
    ·exact nG (hl p hp)
   ·rcases be.mp a with e|a <;> rcases be.mp b with e'|b
    ·cases e;cases e';rfl
    ·cases e;exact absurd (hl _ b) (jr _)
    ·cases e';exact absurd (hl _ a) (jr _)
    ·exact hi _ _ _ a b
  ·rename_i hk
   rw[if_neg hk] at h2
   exact u5 hl hi h1 h2
theorem Lu {M:eA} {A:a7} {E:ac->af->Prop} {s:af} {scope:bX} {globals:aa} {closure:List (Str×aa)} {qual:Str} {func:Option aa} {code:ac} {around:Env} {builtins:aa} {Q:Env->af->Prop}
  (h:Q (newEnv scope s.heap.objs.size globals (cellsFrom (s.heap.objs.size+1) scope.names closure) qual func code (some around) builtins)
   {s with heap:=pushCells (s.heap.push {cls:= .type "dict",data:= .dict #[]}) scope.names}) :
  wpAny M A (newFunctionEnv scope globals closure [] qual func code (some around) builtins) Q E s:=by
 simp only[newFunctionEnv,SQ,if_true]
 refine aj (wpAny_alloc ?_)
 refine aj (wpAny_layCells _ (λn k c=>rfl) scope.names closure _ _ ?_)
 rw[show ({s with heap:=s.heap.push {cls:= .type "dict",data:= .dict #[]}}:af).heap.objs.size=s.heap.objs.size+1 from fP ..]
 rw[tS]
 exact aj (ay (ay h))
theorem u6 {sc:bX}: ∀{names:List (Str×fR)} {x:Str} {k:fR},
  (names.map λ(n,k)=>if (k == pV && sc.kind == .function && sc.names.lookup n == some .cell) then (n,HE) else (n,k)).lookup x=some k ->
  ∃k',names.lookup x=some k'/\(k=k'∨(k'= .free/\k= .cell))
 | [],_,_,h=>by simp at h
 |(n,k₀)::r,x,k,h=>by
  have ih:= @u6 sc r x k
  have h':lY x ((if (k₀ == pV && sc.kind == .function && sc.names.lookup n == some .cell)=true then (n,HE) else (n,k₀))::(r.map _))=some k:=h
  cases hx:x == n with
  |true=>
   simp only[l8,hx]
   by_cases hc:(k₀ == pV && sc.kind == .function && sc.names.lookup n == some .cell)=true
   ·rw[if_pos hc] at h'
    simp only[l8,hx] at h'
    cases h'
    simp only[bY,beq_iff_eq] at hc
    exact⟨k₀,rfl,.inr ⟨hc.1.1,rfl⟩⟩
   ·rw[if_neg hc] at h'
    simp only[l8,hx] at h'
    cases h'
    exact⟨_,rfl,.inl rfl⟩
  |false=>
   simp only[l8,hx]
   by_cases hc:(k₀ == pV && sc.kind == .function && sc.names.lookup n == some .cell)=true
   ·rw[if_pos hc] at h'
    simp only[l8,hx] at h'
    exact ih h'
   ·rw[if_neg hc] at h'
    simp only[l8,hx] at h'
    exact ih h'
structure gC (N:List Str) (sc scope:bX) (own:List (Str×Nat)):Prop where
 kind:scope.kind= .function
 uniq: ∀y∈scope.names,scope.names.lookup y.1=some y.2
 ix: ∀p∈own,N[p.2]?=some p.1
 free: ∀y∈scope.names,y.2= .free->sc.names.lookup y.1=some .cell∨sc.names.lookup y.1=some .free
 own: ∀y∈scope.names,y.2= .local∨y.2= .cell->y.1∈own.map (·.1)∨y.1∉N
def wipe (σ:St):List Nat->St
 | []=>σ
 |v::vs=>(wipe σ vs).set v none
theorem u7 (σ:St): ∀vs:List Nat,(wipe σ vs).length=σ.length
 | []=>rfl
 |v::vs=>by unfold wipe;rw[List.length_set,u7 σ vs]
theorem u9 {σ:St} {i:Nat} {x:V}: ∀{vs:List Nat},(wipe σ vs)[i]?=some (some x)->σ[i]?=some (some x)/\i∉vs
 | [],h=>⟨h,by simp⟩
 |v::vs,h=>by
  unfold wipe at h
  by_cases hi:v=i
  ·subst hi
   by_cases hv:v<(wipe σ vs).length
   ·rw[Hb hv] at h;cases h
   ·rw[zJ (by simpa using hv)] at h;cases h
  ·rw[Hc hi] at h
   obtain⟨h1,h2⟩:=u9 h
   exact⟨h1,by simp only[be,not_or];exact⟨λe=>hi e.symm,h2⟩⟩
abbrev Cx.dU (X:Cx) (s:af) (H:Hp) (scope:bX) (cenv:Env) (fp:List aa):Cx:={X with dS:=s,lj:=H,env:=cenv,outer:=X.stack,ex:=fp,fn:=λx=>scope.names.lookup x == some .cell,pn:=[],xe:=λ_ _=>False}
section
variable {X:Cx} {pins:List (aa×Obj)} {σ:St} {H:Hp} {s:af}
theorem Lv {scope:bX} {own:List (Str×Nat)} {fp:List aa} (I:Inv X pins σ H s) (ok:gC X.N X.env.scope scope own) (hN:X.N.Nodup) (hfp: ∀b∈fp,il X pins H b/\b<s.heap.objs.size) :
  Inv (X.dU s H scope (compEnvC scope (cellsFrom (s.heap.objs.size+1) scope.names (dM X.env.cells scope.names [])) s.heap.objs.size X.env) fp) [] (wipe σ (own.map (·.2))) H {s with heap:=pushCells (s.heap.push {cls:= .type "dict",data:= .dict #[]}) scope.names}:=by
 have hfree: ∀y∈scope.names,y.2= .free-> ∃c,X.env.cells.lookup y.1=some c:=λy hy e=>by
  rcases ok.free y hy e with k|k
  ·exact I.ok.has _ (.inl k)
  ·exact I.ok.has _ (.inr k)
 generalize hcenv:compEnvC scope (cellsFrom (s.heap.objs.size+1) scope.names (dM X.env.cells scope.names [])) s.heap.objs.size X.env=cenv
 have kp: ∀b o,s.heap.get? b=some o->(pushCells (s.heap.push {cls:= .type "dict",data:= .dict #[]}) scope.names).get? b=some o:=λb o e=>zH _ _ _ _ (b4 _ e)
 have hL:cenv.locals=s.heap.objs.size:=by rw[←hcenv];rfl
 have hcl:cenv.cells=cellsFrom (s.heap.objs.size+1) scope.names (dM X.env.cells scope.names []):=by rw[←hcenv];rfl
 have hsc:cenv.scope=Lr scope X.env.scope:=by rw[←hcenv];rfl
 rw[←fP s.heap {cls:= .type "dict",data:= .dict #[]}] at hcl
 have cm: ∀{y c},(y,c)∈dM X.env.cells scope.names []->X.env.cells.lookup y=some c/\c<s.heap.objs.size:=λ{y c} hm=>by
  rcases qN hm with hm|⟨h1,rfl⟩
  ·cases hm
  ·obtain⟨c,hc⟩:=hfree _ h1 rfl
   rw[hc]
   obtain⟨w,z⟩:=I.cell _ _ hc
   exact⟨rfl,z.lt⟩
 have mem: ∀{y c},cenv.cells.lookup y=some c->(X.env.cells.lookup y=some c/\c<s.heap.objs.size)∨(s.heap.objs.size+1<=c/\Bo (pushCells (s.heap.push {cls:= .type "dict",data:= .dict #[]}) scope.names) c none):=λ{y c} e=>by
  rw[hcl] at e
  rcases oF (gl e) with hm|⟨_,h2,h3⟩
  ·exact .inl (cm hm)
  ·rw[fP] at h2;exact .inr ⟨h2,h3⟩
 have look: ∀{y},scope.names.lookup y=some .free-> ∃c,cenv.cells.lookup y=some c/\X.env.cells.lookup y=some c:=λ{y} hl=>by
  have hy:(y,pV)∈scope.names:=gl hl
  obtain⟨c',e'⟩:=mem_lookup (qO (names:=scope.names) (n:=(s.heap.push {cls:= .type "dict",data:= .dict #[]}).objs.size) (uZ (cells:=X.env.cells) (acc:=[]) hy))
  rw[←hcl] at e'
  refine⟨c',e',?_⟩
  rw[hcl] at e'
  rcases oF (gl e') with hm|⟨h1,_,_⟩
  ·exact(cm hm).1
  ·have:=ok.uniq _ h1
   rw[hl] at this;cases this
 have okB:(X.dU s H scope cenv fp).Ok:=by
  refine⟨I.ok.mod,by show cenv.scope.kind=_;rw[hsc];exact ok.kind,by show cenv.globals=_;rw[←hcenv];exact I.ok.glob,by show cenv.builtins=_;rw[←hcenv];exact I.ok.blt,by show s.heap.objs.size<=cenv.locals;rw[hL];exact aW _,
   λy z c e1 e2=>?_,λy hy=>?_,λy c z e=>?_,I.ok.hd,I.ok.frames,.inl rfl,λb hb=>⟨?_,λy c e z=>?_⟩,I.bs,bM I.ok.jF I.sz,λb o e hb=>?_,λb hb z=>?_,I.stack,I.As⟩
  ·have e1:cenv.cells.lookup y=some c:=e1
   have e2:cenv.cells.lookup z=some c:=e2
   rw[hcl] at e1 e2
   refine u5 (λp hp=>?_) (λy z c a b=>I.ok.inj y z c (cm a).1 (cm b).1) (gl e1) (gl e2)
   rw[fP]
   exact nG (cm (y:=p.1) (c:=p.2) hp).2
  ·show ∃c,cenv.cells.lookup y=some c
   have key: ∀k,cenv.kindOf y=some k->(k= .cell∨k= .free)-> ∃c,cenv.cells.lookup y=some c:=λk hk hk'=>by
    unfold Env.kindOf at hk
    rw[hsc] at hk
    obtain⟨k',e,r⟩:=u6 hk
    have:k'= .cell∨k'= .free:=by
     rcases r with rfl|⟨rfl,_⟩
     ·exact hk'
     ·exact .inr rfl
    rcases this with rfl|rfl
    ·obtain⟨c,hm⟩:=u4 (n:=(s.heap.push {cls:= .type "dict",data:= .dict #[]}).objs.size) (acc:=dM X.env.cells scope.names []) (gl e)
     obtain⟨c',e'⟩:=mem_lookup hm
     exact⟨c',by rw[hcl];exact e'⟩
    ·obtain⟨c,h1,_⟩:=look e
     exact⟨c,h1⟩
   rcases hy with hy|hy
   ·exact key _ hy (.inl rfl)
   ·exact key _ hy (.inr rfl)
  ·have z:(scope.names.lookup y == some HE)=true:=z
   have z:scope.names.lookup y=some .cell:=by simpa using z
   have e:cenv.cells.lookup y=some c:=e
   rw[hcl] at e
   rcases oF (gl e) with hm|⟨_,h2,_⟩
   ·rcases qN hm with hm|⟨h1,_⟩
    ·cases hm
    ·have q:=ok.uniq _ h1
     rw[z] at q;cases q
   ·rw[fP] at h2
    exact zI h2
  ·show b≠cenv.locals
   rw[hL];exact cX (hfp b hb).2
  ·have e:cenv.cells.lookup y=some c:=e
   rcases mem e with ⟨h1,_⟩|⟨h1,_⟩
   ·exact(hfp b hb).1.2.2.2.2.1 y c h1 z
   ·have h2:s.heap.objs.size+1<=b:=by rw[←z];exact h1
    exact absurd (eZ (hfp b hb).2 (zI h2)) (jr _)
  ·rcases(hfp b hb).1.2.2.2.1 with z|z
   ·exact I.ok.n_ b o e z
   ·exact absurd (eZ (bL e) (bM I.ok.jF z)) (jr _)
  ·rcases be.mp (I.uC b z) with z|z
   ·exact(hfp b hb).1.2.1 z
   ·exact(hfp b hb).1.2.2.1 z
 refine⟨okB,rfl,I.bare,Un.kept kp,⟨λ_=>none,?_,λi y av e1 e2 e3=>?_⟩,λy c e=>?_,?_,λy c e=>?_,λp hp=>?_,I.aB.kept kp,by rw[u7];exact I.len⟩
 ·show Heap.Ns _ cenv.locals _
  rw[hL]
  exact Heap.Ns.keeps (Heap.Ns.new ..) λb o e=>zH _ _ _ _ e
 ·obtain⟨e2,hne⟩:=u9 e2
  have hfr:scope.names.lookup y=some .free/\(cenv.kindOf y=some .cell∨cenv.kindOf y=some .free):=by
   have key: ∀k,cenv.scope.names.lookup y=some k->k= .local∨k= .cell∨k= .free->scope.names.lookup y=some .free/\(cenv.kindOf y=some .cell∨cenv.kindOf y=some .free):=λk hk hk'=>by
    have hk0:=hk
    rw[hsc] at hk
    obtain⟨k',e,r⟩:=u6 hk
    have no: ¬(k'= .local∨k'= .cell):=λhh=>by
     rcases ok.own _ (gl e) hh with e'|e'
     ·obtain⟨p,hp,hpy⟩:=bp.mp e'
      have e3:=ok.ix p hp
      have:p.1=y:=hpy
      rw[this] at e3
      exact hne (bp.mpr ⟨p,hp,uD hN e3 e1⟩)
     ·exact e' (dg e1)
    rcases r with rfl|⟨rfl,rfl⟩
    ·rcases hk' with rfl|rfl|rfl
     ·exact absurd (.inl rfl) no
     ·exact absurd (.inr rfl) no
     ·exact⟨e,.inr hk0⟩
    ·exact⟨e,.inl hk0⟩
   have e3:mq cenv.scope y:=e3
   rcases e3 with e3|e3|e3
   ·exact key _ e3 (.inl rfl)
   ·exact key _ e3 (.inr (.inl rfl))
   ·exact key _ e3 (.inr (.inr rfl))
  obtain⟨m,hn,hl⟩:=I.loc
  have hvis:mq X.env.scope y:=(ok.free _ (gl hfr.1) rfl).elim (λk=> .inr (.inl k)) (λk=> .inr (.inr k))
  obtain⟨w,r,q⟩:=hl i y av e1 e2 hvis
  refine⟨w,r,.inr ⟨hfr.2,?_⟩⟩
  obtain⟨c,h1,h2⟩:=look hfr.1
  rcases q with ⟨k,_⟩|⟨_,c',e',z⟩
  ·have k:X.env.scope.names.lookup y=some .local:=k
   rcases ok.free _ (gl hfr.1) rfl with k'|k' <;> rw[show X.env.scope.names.lookup y=_ from k'] at k <;> cases k
  ·rw[h2] at e';cases e'
   exact⟨c,h1,z.keeps kp⟩
 ·have e:cenv.cells.lookup y=some c:=e
  rcases mem e with ⟨h1,_⟩|⟨_,z⟩
  ·obtain⟨w,z⟩:=I.cell y c h1
   exact⟨w,z.keeps kp⟩
  ·exact⟨_,z⟩
 ·show H cenv.locals=none
  rw[hL];exact I.aB.fresh (aW _)
 ·have e:cenv.cells.lookup y=some c:=e
  rcases mem e with ⟨h1,_⟩|⟨h1,_⟩
  ·exact I.gv y c h1
  ·exact I.aB.fresh (zI h1)
 ·exact absurd (show p∈([]:List (aa×Obj))++[] from hp) (by simp)
theorem Lw {E:ac->af->Prop} {D:aa} {xs:List V} {y:V} {v:ac} {Q:ac->af->Prop} (I:Inv X pins σ H s) (hD:H D=some (.lst xs)) (hz:xs.length<sizeLine) (r:RelV y v)
  (h: ∀s',Inv X pins σ (upd H D (.lst (xs++[y]))) s'->Q .none s'):wpAny (model X.prog X.w) X.A (call (.builtin "list.append") [.ref D,v]) Q E s:=by
 obtain⟨hz',its,n,ri,e⟩:=I.aB D _ hD
 have hl:=ri.length
 refine append_at (hsz:=by rw[bQ];omega) e λh' sb ho'=>?_
 refine h {s with heap:=h'} (I.write (t':=s.toks) (by rw[hD];trivial) (.inl rfl) (λb u hb q=>(sb.2 b hb).trans q) ⟨_,ho'⟩ ⟨by rw[bx];exact hz,its++[v],n+1,ri.append (.cons r .nil),?_⟩)
 rw[ho']
 simp
def oG (X:Cx) (ifs:List ao) (t:TT):Prop:=
 ∀(pins:List (aa×Obj)) (s:af) (σ:St) (H:Hp) (Q:Bool->Hp->Prop),Inv X pins σ H s->t σ H Q ->
  wpAny (model X.prog X.w) X.A (forIn ifs true λc r=>if r=true then do let ok ←isTrue c X.env (eval c X.env);pure (tU ok) else pure (tU r)) (TP X pins σ Q) X.xe s
def mz:TT:=λ_ H Q=>Q true H
theorem qP:oG X [] mz:=λ_ _ _ H _ I h=>wpAny_tests_nil ⟨H,I,h⟩
theorem Bq {c:ao} {t:TT} (h:PT X c t):oG X [c] t:=λpins s σ H Q I hw=>wpAny_tests_one (h pins s σ H Q I hw)
end
theorem mB {α:Type} {t:Sem α} {Q Q':α->af->Prop} {M:eA} {A:a7} {E:ac->af->Prop} {s:af} (h:wpAny M A t Q (λ_ _=>False) s) (hQ: ∀a s,Q a s->Q' a s):wpAny M A t Q' E s:=gk h hQ λ_ _ z=>fm z
theorem Lx {prog:aI} {w:aE} {A:a7} {R:zo->af->Prop} {s:af} {elt target iter:ao} {ifs:List ao} {scope:bX} {pos:Pos} {it acc:ac} {env:Env} (I:Nat->af->Prop)
  (turn: ∀n s,I n s->wpAny (model prog w) A (pyNext it) (λr s₁=>match r with
   |none=>R (.ok .next) s₁
   |some v=>wpAny (model prog w) A (letOwnedTupleGo target it v) (λ_ s₁'=>wpAny (model prog w) A (assign target env v) (λ_ s₂=>
     wpAny (model prog w) A (forIn ifs true λc r=>if r=true then do let ok ←isTrue c env (eval c env);pure (tU ok) else pure (tU r)) (λok s₃=>
      if ok=true then wpAny (model prog w) A (eval elt env) (λx s₄=>
       wpAny (model prog w) A (call (.builtin "list.append") [acc,x]) (λ_ s₅=> ∃m,m<n/\I m s₅) (notedBy (model prog w) A env λe s'=>R (.error e) s') s₄) (notedBy (model prog w) A env λe s'=>R (.error e) s') s₃
      else ∃m,m<n/\I m s₃) (notedBy (model prog w) A env λe s'=>R (.error e) s') s₂) (notedBy (model prog w) A env λe s'=>R (.error e) s') s₁') (notedBy (model prog w) A env λe s'=>R (.error e) s') s₁) (notedBy (model prog w) A env λe s'=>R (.error e) s') s)
  (n:Nat) (h:I n s) :
  codeAny (model prog w) A (.compLoop (.ListComp elt [⟨target,iter,ifs,0⟩] scope pos) 0 it acc env) R s:=by
 refine codeAny_loop rfl I (λn s hI=>?_) n h
 show wpAny _ A ((compTurn (.ListComp elt [⟨target,iter,ifs,0⟩] scope pos) 0 it acc env).onRaise (λx=>do noteFrame x env;theTreesLotGoes x)) _ _ s
 refine wpAny_noted ?_
 rw[compTurn_list]
 refine aj (SR (aj (gk (turn n s hI) (λr s₁ h₁=>?_) λ_ _ h'=>h')))
 cases r with
 |none=>exact ay h₁
 |some v=>
  refine aj (gk h₁ (λ_ s₁' h₁'=>?_) λ_ _ h'=>h')
  refine aj (gk h₁' (λ_ s₂ h₂=>aj (gk h₂ (λok s₃ h₃=>?_) λ_ _ h'=>h')) λ_ _ h'=>h')
  cases ok with
  |false=>exact ay ⟨rfl,h₃⟩
  |true=>
   exact aj (aj (gk h₃ (λx s₄ h₄=>aj (gk h₄ (λ_ s₅ h₅=>ay (ay ⟨rfl,h₅⟩)) λ_ _ h'=>h')) λ_ _ h'=>h'))
section
variable {X:Cx}
def i8 (wi:TI) (g:TG) (tt:TT) (te:TE) (vs:List Nat):TE:=λσ H Q=>wi σ H λJ H1=> ∀D,H1 D=none-> ∃W:Nat->Nat->Hp->Prop,(∃m,W 0 m (upd H1 D (.lst [])))/\ ∀i m H,W i m H ->
 (J.stop i H/\Q (.ref D) H)∨(J.go i H/\ ∃Nx:Hp->Prop,(∀H',Nx H'-> ∃m',m'<m/\W (i+1) m' H')/\ ∀x H',J.gx i H x H'->g x (wipe σ vs) H' λσ2 H2=>wipe σ2 vs=wipe σ vs/\tt σ2 H2 λb H3=>
  if b=true then te σ2 H3 λy H4=> ∃acc,H4 D=some (.lst acc)/\acc.length<sizeLine/\Nx (upd H4 D (.lst (acc++[y]))) else Nx H3)
theorem Br {pins:List (aa×Obj)} {s:af} {σ:St} {H:Hp} {Q:VK} {elt tg iter:ao} {ifs:List ao} {scope:bX} {own:List (Str×Nat)} {pos pos':Pos} {wi:TI} {g:TG} {tt:TT} {te:TE} {use:Option (ac->Sem Unit)} {Qf:ac->af->Prop}
  (hc:X.calm=true) (hN:X.N.Nodup) (I:Inv X pins σ H s) (hi:PI X tg iter wi) (ok:gC X.N X.env.scope scope own)
  (hg: ∀(s:af) (H:Hp) (C:aa) (cl:List (Str×aa)) (fp:List aa),PG (X.dU s H scope (compEnvC scope cl C X.env) fp) tg g) (ht: ∀(s:af) (H:Hp) (C:aa) (cl:List (Str×aa)) (fp:List aa),oG (X.dU s H scope (compEnvC scope cl C X.env) fp) ifs tt)
  (he: ∀(s:af) (H:Hp) (C:aa) (cl:List (Str×aa)) (fp:List aa),PE (X.dU s H scope (compEnvC scope cl C X.env) fp) elt te) (hs: ∀x,foldedSetIterable iter X.env x=pure x)
  (h:i8 wi g tt te (own.map (·.2)) σ H Q)
  (hRR: ∀D C s' m H',Inv X pins σ H' s'->Q (.ref D) H'->s'.heap.Ns C m->il X pins H' C->compPost (model X.prog X.w) X.A X.xe use Qf (.ref D) C (.ok .next) s') :
  wpAny (model X.prog X.w) X.A (comprehension (.ListComp elt [⟨tg,iter,ifs,0⟩] scope pos) scope X.env pos' (newList []) false (eval iter X.env) use) Qf X.xe s:=by
 have hfree: ∀y∈scope.names,y.2= .free-> ∃c,X.env.cells.lookup y.1=some c:=λy hy e=>by
  rcases ok.free y hy e with k|k
  ·exact I.ok.has _ (.inl k)
  ·exact I.ok.has _ (.inr k)
 refine wpAny_comprehension_free (use:=use) rfl hs (Ls hfree) ok.kind (λy hy e=>by rw[ok.uniq y hy,e])
  (aJ (hi pins s σ H _ I h) λxv s1 hx=>aJ hx λitv s2 h2=>?_)
 obtain⟨it,fp,tn,J,H2,e,I2,T,st2,f2,q⟩:=h2
 subst e
 refine hX (Lu ?_) (by show 0<=sizeLine;decide)
 generalize hD:s2.heap.objs.size=D
 have hDn:H2 D=none:=I2.aB.fresh (zp hD)
 obtain⟨W,⟨m0,w0⟩,turn⟩:=q D hDn
 generalize hs3:({s2 with heap:=s2.heap.push {cls:= .type "list",data:= .seq ([]:List ac).toArray}}:af)=s3
 have I3:Inv X pins σ (upd H2 D (.lst [])) s3:=by
  rw[←hs3]
  refine I2.laid (t':=s2.toks) (λb o e=>b4 _ e) (zp hD) ⟨bv _,[],0,.nil,?_⟩
  rw[←hD]
  exact cw _ rfl
 have h3:s3.heap=s2.heap.push {cls:= .type "list",data:= .seq ([]:List ac).toArray}:=by rw[←hs3]
 have sz: ∀b∈fp,b<s2.heap.objs.size:=λb hb=>by
  obtain⟨o,e,_⟩:=T.obj _ _ st2 b hb
  exact bL e
 have f3: ∀b∈fp,il X pins (upd H2 D (.lst [])) b/\b<s3.heap.objs.size:=λb hb=>by
  have hlt:=sz b hb
  refine⟨⟨?_,(f2 b hb).2⟩,by rw[h3,fP];exact nG hlt⟩
  rw[az (by rw[←hD];exact cX hlt)]
  exact(f2 b hb).1
 have st3:tn 0 s3.heap:=T.keep _ _ _ st2 λb _ o e=>by rw[h3];exact b4 _ e
 have I4:=Lv I3 ok hN f3
 have pg:=hg s3 (upd H2 D (.lst [])) s3.heap.objs.size (cellsFrom (s3.heap.objs.size+1) scope.names (dM X.env.cells scope.names [])) fp
 have pt:=ht s3 (upd H2 D (.lst [])) s3.heap.objs.size (cellsFrom (s3.heap.objs.size+1) scope.names (dM X.env.cells scope.names [])) fp
 have pe:=he s3 (upd H2 D (.lst [])) s3.heap.objs.size (cellsFrom (s3.heap.objs.size+1) scope.names (dM X.env.cells scope.names [])) fp
 show codeAny _ _ (.compStart (.ListComp elt [⟨tg,iter,ifs,0⟩] scope pos) 0 (.ref it) (.ref D) (compEnvC scope (cellsFrom (s3.heap.objs.size+1) scope.names (dM X.env.cells scope.names [])) s3.heap.objs.size X.env)) (compPost (model X.prog X.w) X.A X.xe use Qf (.ref D) s3.heap.objs.size) {s3 with heap:=pushCells (s3.heap.push {cls:= .type "dict",data:= .dict #[]}) scope.names}
 have nfp: ∀b∈fp,(upd H2 D (.lst [])) b=none:=λb hb=>(f3 b hb).1.1
 generalize hce:compEnvC scope (cellsFrom (s3.heap.objs.size+1) scope.names (dM X.env.cells scope.names [])) s3.heap.objs.size X.env=ce at I4 pg pt pe ⊢
 have cL:ce.locals=s3.heap.objs.size:=by subst hce;rfl
 generalize hH3:upd H2 D (.lst [])=H3 at I3 I4 pg pt pe w0 nfp f3
 generalize hs4:({s3 with heap:=pushCells (s3.heap.push {cls:= .type "dict",data:= .dict #[]}) scope.names}:af)=s4 at I4 ⊢
 have st4:tn 0 s4.heap:=T.keep _ _ _ st3 λb _ o e=>by rw[←hs4];exact zH _ _ _ _ (b4 _ e)
 have stat: ∀{σ':St} {H':Hp} {s':af},Inv (X.dU s3 H3 scope ce fp) [] σ' H' s'->(∀b∈fp,H' b=none)-> ∀b∈fp,il (X.dU s3 H3 scope ce fp) [] H' b:=λ{σ' H' s'} I' hn b hb=>
  ⟨hn b hb,(I'.ok.qv b hb).1,I'.ok.oe b hb,.inl hb,λx c e=>(I'.ok.qv b hb).2 x c e,λp hp=>absurd (show p∈([]:List (aa×Obj))++[] from hp) (by simp)⟩
 have loop:codeAny (model X.prog X.w) X.A (.compLoop (.ListComp elt [⟨tg,iter,ifs,0⟩] scope pos) 0 (.ref it) (.ref D) ce) (compPost (model X.prog X.w) X.A X.xe use Qf (.ref D) s3.heap.objs.size) s4:=by
  refine Lx (λn s'=> ∃i H',Inv (X.dU s3 H3 scope ce fp) [] (wipe σ (own.map (·.2))) H' s'/\tn i s'.heap/\(∀b∈fp,H' b=none)/\W i n H') ?_ m0 ⟨0,H3,I4,st4,nfp,w0⟩
  rintro n s5 ⟨i,H5,I5,st5,n5,w5⟩
  rcases turn i n H5 w5 with ⟨stop,qq⟩|⟨go,Nx,hNx,step⟩
  ·have td:=T.done (X.dU s3 H3 scope ce fp) rfl rfl rfl hc i [] s5 _ H5 (λ_ _=>False) I5 (stat I5 n5) st5 stop
   refine mB td λr s6 ⟨hr,I6⟩=>?_
   subst hr
   have I7:Inv X pins σ H5 s6:=I3.Jh (ch:=fp) I6.os I6.base I6.aB I6.bare λb hb=>⟨(f3 b hb).1.2.2.2.1,(f3 b hb).1.2.1,(f3 b hb).1.2.2.2.2.1,(f3 b hb).1.2.2.2.2.2⟩
   have nC:H5 s3.heap.objs.size=none:=by
    have z:H5 ce.locals=none:=I6.free
    rw[cL] at z
    exact z
   obtain⟨m,hn,_⟩:=I6.loc
   have hn:s6.heap.Ns ce.locals m:=hn
   rw[cL] at hn
   exact hRR D s3.heap.objs.size s6 m H5 I7 qq hn (I3.mv (aW _) nC)
  ·have ti:=T.item (X.dU s3 H3 scope ce fp) rfl rfl rfl hc i [] s5 _ H5 (λ_ _=>False) I5 (stat I5 n5) st5 go
   refine mB ti λr s6 ⟨u,hr,h6⟩=>?_
   subst hr
   refine mB h6 λ_ s7 ⟨x,H7,I7,r7,y7,st7,n7⟩=>?_
   have I7':=I7.pinned (stat I7 n7) (T.obj _ _ st7)
   refine mB (pg _ s7 _ H7 x u _ I7' r7 (step x H7 y7)) λ_ s8 ⟨σ8,H8,I8,hw8,q8⟩=>?_
   refine mB (pt _ s8 σ8 H8 _ I8 q8) λb s9 ⟨H9,I9,q9⟩=>?_
   have fin: ∀{s':af} {H':Hp},Inv (X.dU s3 H3 scope ce fp) ([]++oq fp s7.heap) σ8 H' s'->Nx H'-> ∃m,m<n/\ ∃i H',Inv (X.dU s3 H3 scope ce fp) [] (wipe σ (own.map (·.2))) H' s'/\tn i s'.heap/\(∀b∈fp,H' b=none)/\W i m H':=λ{s' H'} I' nx=>by
    obtain⟨m',hm,w'⟩:=hNx H' nx
    have pin': ∀b∈fp,∀o,s7.heap.get? b=some o->s'.heap.get? b=some o/\H' b=none:=λb hb o e=>
     let z:=I'.pin (b,o) (lX _ (lX _ (uI hb e)))
     ⟨z.1,z.2.1⟩
    have hl:(wipe σ (own.map (·.2))).length=σ8.length:=by rw[←hw8,u7]
    refine⟨m',hm,i+1,H',(I'.qD (pins:=[])).weak hl (λj v e=>?_),T.keep _ _ _ st7 λb hb o e=>(pin' b hb o e).1,λb hb=>?_,w'⟩
    ·rw[←hw8] at e
     exact(u9 e).1
    ·obtain⟨o,e,_⟩:=T.obj _ _ st7 b hb
     exact(pin' b hb o e).2
   cases b with
   |false=>
    simp only[dy,if_false] at q9 ⊢
    exact fin I9 q9
   |true=>
    simp only[if_true] at q9 ⊢
    refine mB (pe _ s9 σ8 H9 _ I9 q9) λz s10 ⟨yv,H10,I10,u_,acc,hD10,hz10,nx⟩=>?_
    exact Lw (X:=X.dU s3 H3 scope ce fp) I10 hD10 hz10 u_ λs11 I11=>fin I11 nx
 exact codeAny_compStart_list loop (T.self X.A 0 _ _ _ st4 loop)
theorem oH {elt tg iter:ao} {ifs:List ao} {scope:bX} {own:List (Str×Nat)} {pos:Pos} {wi:TI} {g:TG} {tt:TT} {te:TE} (hc:X.calm=true) (hN:X.N.Nodup) (hi:PI X tg iter wi) (ok:gC X.N X.env.scope scope own)
  (hg: ∀(s:af) (H:Hp) (C:aa) (cl:List (Str×aa)) (fp:List aa),PG (X.dU s H scope (compEnvC scope cl C X.env) fp) tg g) (ht: ∀(s:af) (H:Hp) (C:aa) (cl:List (Str×aa)) (fp:List aa),oG (X.dU s H scope (compEnvC scope cl C X.env) fp) ifs tt)
  (he: ∀(s:af) (H:Hp) (C:aa) (cl:List (Str×aa)) (fp:List aa),PE (X.dU s H scope (compEnvC scope cl C X.env) fp) elt te) (hs: ∀x,foldedSetIterable iter X.env x=pure x:=by intro _;rfl) :
  PE X (.ListComp elt [⟨tg,iter,ifs,0⟩] scope pos) (i8 wi g tt te (own.map (·.2))):=by
 intro pins s σ H Q I h
 rw[eval_ListComp]
 refine Br hc hN I hi ok hg ht he hs h λD C s' m H' I' q hn f=>⟨m,hn,λh'' sb=>?_⟩
 obtain⟨f0,f1,f2,f3,f4,f5⟩:=f
 exact⟨.ref D,H',I'.turned (t':=s'.toks) (λb o hb e=>(sb.2 b hb).trans e) f0 f1 f3 f4 f5,rfl,q⟩
theorem Ly {i:Nat} {y:Str} {py:Pos} {elt tg iter:ao} {ifs:List ao} {scope:bX} {own:List (Str×Nat)} {pos spos:Pos} {wi:TI} {g:TG} {tt:TT} {te:TE} (hc:X.calm=true) (hN:X.N.Nodup) (hy:X.N[i]?=some y) (hyl:X.env.scope.names.lookup y=some .local)
  (hsw:swapsWith (.ListComp elt [⟨tg,iter,ifs,0⟩] scope pos) (some (.Name y py)) spos.line X.env=pure true) (hi:PI X tg iter wi) (ok:gC X.N X.env.scope scope own)
  (hg: ∀(s:af) (H:Hp) (C:aa) (cl:List (Str×aa)) (fp:List aa),PG (X.dU s H scope (compEnvC scope cl C X.env) fp) tg g) (ht: ∀(s:af) (H:Hp) (C:aa) (cl:List (Str×aa)) (fp:List aa),oG (X.dU s H scope (compEnvC scope cl C X.env) fp) ifs tt)
  (he: ∀(s:af) (H:Hp) (C:aa) (cl:List (Str×aa)) (fp:List aa),PE (X.dU s H scope (compEnvC scope cl C X.env) fp) elt te) (hs: ∀x,foldedSetIterable iter X.env x=pure x:=by intro _;rfl) :
  PS X (.Assign [.Name y py] (.ListComp elt [⟨tg,iter,ifs,0⟩] scope pos) spos) (lr (i8 wi g tt te (own.map (·.2))) (d8 i)):=by
 intro pins s σ H D I h
 rw[exec_Assign_Name_used _ _ _ _ hsw]
 refine aj (SR (aj ?_))
 show wpAny _ X.A (do let _ ←comprehension (.ListComp elt [⟨tg,iter,ifs,0⟩] scope pos) scope X.env (firstIterPos [⟨tg,iter,ifs,0⟩] pos) (newList []) false (eval iter X.env) (some (assign (.Name y py) X.env))) _ _ s
 have h:i8 wi g tt te (own.map (·.2)) σ H (λx H1=>d8 i x σ H1 D.nx):=h
 refine aj (aJ (Br (Qf:=λ_ s'=>SP X pins D .next s') hc hN I hi ok hg ht he hs h λL C s' m H' I' q hn f=>?_) λ_ s' hq=>ay (ay hq))
 show wpAny _ _ (assign (.Name y py) X.env (.ref L)) _ _ _
 refine R_ (Au (v:=V.ref L) I' hN hy (.inl hyl) rfl (λs2 I2 ⟨a,sb,ha⟩=>?_) (.inr hyl))
 obtain⟨f0,f1,f2,f3,f4,f5⟩:=f
 have haC:C≠a:=by
  rcases ha with z|z
  ·rw[z];exact f1
  ·exact λe=>f4 y a z e.symm
 refine⟨m,hn.sameBut sb haC,λh3 sb3=>?_⟩
 exact⟨_,H',I2.turned (t':=s2.toks) (λb o hb e=>(sb3.2 b hb).trans e) f0 f1 f3 f4 f5,q⟩
theorem Bs {elt:ao} {gs:List Comprehension} {scope:bX} {pos py:Pos} {y:Str} {l:Nat} {env:Env} (hk:env.scope.kind= .function) (hy:env.scope.names.lookup y=some .local) (hl:(py.line == pos.line)=true)
  (ha:(scope.names.any λ(n,k)=>n == y && (k == .local || k == .cell))=false):swapsWith (.ListComp elt gs scope pos) (some (.Name y py)) l env=pure true:=by
 have ky:env.kindOf y=some .local:=hy
 have hb:env.blockKind= .function:=by unfold Env.blockKind;rw[hk];rfl
 unfold swapsWith
 simp only[hb,ky,ha,Expr.pos,hl]
 rfl
end
theorem vb {K:aA} {a:aa} {xs:List V} {g:TG} {tt:TT} {te:TE} {vs:List Nat} {σ:St} {H1:Hp} {D:aa} {Qd:Hp->Prop} (Pv:Nat->Hp->Prop) (h0:Pv 0 (upd H1 D (.lst []))) (hl: ∀i H,i<=xs.length->Pv i H->bN K H a xs)
    (hs: ∀i x H,xs[i]?=some x->Pv i H->g x (wipe σ vs) H λσ2 H2=>wipe σ2 vs=wipe σ vs/\tt σ2 H2 λb H3=>
      if b=true then te σ2 H3 λy H4=> ∃acc,H4 D=some (.lst acc)/\acc.length<sizeLine/\Pv (i+1) (upd H4 D (.lst (acc++[y]))) else Pv (i+1) H3) (hd: ∀H,Pv xs.length H->Qd H) :
    ∃W:Nat->Nat->Hp->Prop,(∃m,W 0 m (upd H1 D (.lst [])))/\ ∀i m H,W i m H ->
      ((km K a).stop i H/\Qd H)∨((km K a).go i H/\ ∃Nx:Hp->Prop,(∀H',Nx H'-> ∃m',m'<m/\W (i+1) m' H')/\ ∀x H',(km K a).gx i H x H'->g x (wipe σ vs) H' λσ2 H2=>wipe σ2 vs=wipe σ vs/\tt σ2 H2 λb H3=>
        if b=true then te σ2 H3 λy H4=> ∃acc,H4 D=some (.lst acc)/\acc.length<sizeLine/\Nx (upd H4 D (.lst (acc++[y]))) else Nx H3):=by
  refine⟨λi m H=>m=xs.length-i/\i<=xs.length/\Pv i H,⟨xs.length,by simp,bv _,h0⟩,?_⟩
  rintro i m H ⟨rfl,hi,p⟩
  have q:=hl i H hi p
  by_cases hlt:i<xs.length
  · refine .inr ⟨⟨xs,xs[i],q,by simp [hlt]⟩,Pv (i+1),λH' p'=>⟨xs.length-(i+1),by omega,rfl,hlt,p'⟩,λx H' y=>?_⟩
    obtain⟨e,y⟩:=y
    subst e
    exact hs i x _ (y xs q) p
  · have e:i=xs.length:=by omega
    subst e
    exact .inl ⟨⟨xs,q,aW _⟩,hd H p⟩
theorem Lz {K:aA} {a:aa} {xs:List V} {g:TG} {tt:TT} {te:TE} {vs:List Nat} {σ:St} {H1:Hp} {D:aa} {Qd:Hp->Prop} (Pv:Nat->Hp->Prop) (h0:Pv 0 (upd H1 D (.lst []))) (hl: ∀i H,i<=xs.length->Pv i H->bE K H a xs)
    (hs: ∀i x H,xs[i]?=some x->Pv i H->g x (wipe σ vs) H λσ2 H2=>wipe σ2 vs=wipe σ vs/\tt σ2 H2 λb H3=>
      if b=true then te σ2 H3 λy H4=> ∃acc,H4 D=some (.lst acc)/\acc.length<sizeLine/\Pv (i+1) (upd H4 D (.lst (acc++[y]))) else Pv (i+1) H3) (hd: ∀H,Pv xs.length H->Qd H) :
    ∃W:Nat->Nat->Hp->Prop,(∃m,W 0 m (upd H1 D (.lst [])))/\ ∀i m H,W i m H ->
      ((oo K a).stop i H/\Qd H)∨((oo K a).go i H/\ ∃Nx:Hp->Prop,(∀H',Nx H'-> ∃m',m'<m/\W (i+1) m' H')/\ ∀x H',(oo K a).gx i H x H'->g x (wipe σ vs) H' λσ2 H2=>wipe σ2 vs=wipe σ vs/\tt σ2 H2 λb H3=>
        if b=true then te σ2 H3 λy H4=> ∃acc,H4 D=some (.lst acc)/\acc.length<sizeLine/\Nx (upd H4 D (.lst (acc++[y]))) else Nx H3):=by
  refine⟨λi m H=>m=xs.length-i/\i<=xs.length/\Pv i H,⟨xs.length,by simp,bv _,h0⟩,?_⟩
  rintro i m H ⟨rfl,hi,p⟩
  have q:=hl i H hi p
  by_cases hlt:i<xs.length
  · refine .inr ⟨⟨xs,xs[i],q,by simp [hlt]⟩,Pv (i+1),λH' p'=>⟨xs.length-(i+1),by omega,rfl,hlt,p'⟩,λx H' y=>?_⟩
    obtain⟨e,y⟩:=y
    subst e
    exact hs i x _ (y xs q) p
  · have e:i=xs.length:=by omega
    subst e
    exact .inl ⟨⟨xs,q,aW _⟩,hd H p⟩
def Bt (N:List Str) (sc scope:bX) (own:List (Str×Nat)):Bool:=
 (match scope.kind with| .function=>true|_=>false) && (scope.names.all λy=>decide (scope.names.lookup y.1=some y.2)) && (own.all λp=>decide (N[p.2]?=some p.1)) &&
  (scope.names.all λy=>match y.2 with
   | .free=>(match sc.names.lookup y.1 with|some .cell=>true|some .free=>true|_=>false)
   | .local=>decide (y.1∈own.map (·.1)) || decide (y.1∉N)
   | .cell=>decide (y.1∈own.map (·.1)) || decide (y.1∉N)
   |_=>true)
theorem dI {N:List Str} {sc scope:bX} {own:List (Str×Nat)} (h:Bt N sc scope own=true):gC N sc scope own:=by
 unfold Bt at h
 simp only[bY,dG,decide_eq_true_eq] at h
 obtain⟨⟨⟨h1,h2⟩,h3⟩,h4⟩:=h
 refine⟨?_,h2,h3,λy hy e=>?_,λy hy e=>?_⟩
 ·split at h1
  ·assumption
  ·cases h1
 ·have q:=h4 y hy
  simp only[e] at q
  split at q <;> first|exact .inl (by assumption)|exact .inr (by assumption)|cases q
 ·have q:=h4 y hy
  rcases e with e|e <;> (simp only[e,gL,decide_eq_true_eq] at q;exact q)
section
variable {κ:Type} [DecidableEq κ]
def bO (kvs:List (κ×V)) (k:κ):Option V:=(kvs.find? λkv=>decide (kv.1=k)).map (·.2)
def putK (kvs:List (κ×V)) (k:κ) (v:V):List (κ×V):=
 if (kvs.any λkv=>decide (kv.1=k))=true then kvs.map (λkv=>if kv.1=k then (kv.1,v) else kv) else kvs++[(k,v)]
def kr (kvs:List (κ×V)) (k:κ):List (κ×V):=kvs.filter λkv=>decide (kv.1≠k)
theorem oI {p:κ×V} {r:List (κ×V)} {k:κ} (e:p.1=k):bO (p::r) k=some p.2:=by simp [bO,hZ,e]
theorem oJ {p:κ×V} {r:List (κ×V)} {k:κ} (e: ¬p.1=k):bO (p::r) k=bO r k:=by simp [bO,hZ,e]
theorem qQ (k:κ): ∀kvs:List (κ×V),(kvs.any λkv=>decide (kv.1=k))=(bO kvs k).isSome
 | []=>rfl
 |p::r=>by
  rw[gm]
  by_cases e:p.1=k
  ·simp only[oI e,decide_eq_true e,Bool.true_or,SQ]
  ·rw[oJ e,decide_eq_false e,tV];exact qQ k r
theorem Bu (kvs:List (κ×V)) (k:κ) (v:V):(putK kvs k v).length<=kvs.length+1:=by
 unfold putK
 split
 ·rw[aC];omega
 ·rw[bx,bm,cZ];omega
theorem fE.oK {o:Option V} {u:Option ac} (r:fE o u):o.isSome=u.isSome:=by
 cases o with
 |none=>cases u with
  |none=>rfl
  |some _=>exact(show False from r).elim
 |some _=>cases u with
  |none=>exact(show False from r).elim
  |some _=>rfl
theorem fE.getD {o:Option V} {u:Option ac} {d:V} {d':ac} (r:fE o u) (rd:RelV d d'):RelV (o.getD d) (u.getD d'):=by
 cases o with
 |none=>cases u with
  |none=>exact rd
  |some _=>exact(show False from r).elim
 |some _=>cases u with
  |none=>exact(show False from r).elim
  |some _=>exact r
theorem KV.val {kvs:List (κ×V)} {vs:List (κ×ac)} (r:KV kvs vs) (k:κ):fE (bO kvs k) (valueAt vs k):=by
 unfold KV at r
 induction r with
 |nil=>exact fb
 | @cons p q ps qs h t ih=>
  obtain⟨h1,h2⟩:=h
  by_cases e:p.1=k
  ·have e':q.1=k:=h1.symm.trans e
   have b:valueAt (q::qs) k=some q.2:=by simp [valueAt,hZ,e']
   rw[oI e,b];exact h2
  ·have e': ¬q.1=k:=λz=>e (h1.trans z)
   have b:valueAt (q::qs) k=valueAt qs k:=by simp [valueAt,hZ,e']
   rw[oJ e,b];exact ih
theorem KV.any {kvs:List (κ×V)} {vs:List (κ×ac)} (r:KV kvs vs) (k:κ):(kvs.any λkv=>decide (kv.1=k))=vs.any λkv=>decide (kv.1=k):=by
 unfold KV at r
 induction r with
 |nil=>rfl
 |cons h t ih=>rw[gm,gm,ih,h.1]
theorem KV.vc {kvs:List (κ×V)} {vs:List (κ×ac)} (r:KV kvs vs) (k:κ) {y:V} {u:ac} (ry:RelV y u) :
  KV (kvs.map λkv=>if kv.1=k then (kv.1,y) else kv) (vs.map λkv=>if kv.1=k then (kv.1,u) else kv):=by
 unfold KV at r ⊢
 induction r with
 |nil=>exact .nil
 | @cons p q ps qs h t ih=>
  rw[aU,aU]
  refine .cons ?_ ih
  obtain⟨h1,h2⟩:=h
  by_cases e:p.1=k
  ·rw[if_pos e,if_pos (h1.symm.trans e)];exact⟨h1,ry⟩
  ·rw[if_neg e,if_neg (λz=>e (h1.trans z))];exact⟨h1,h2⟩
theorem KV.put {kvs:List (κ×V)} {vs:List (κ×ac)} (r:KV kvs vs) (k:κ) {y:V} {u:ac} (ry:RelV y u):KV (putK kvs k y) (stored vs k u):=by
 unfold putK stored
 rw[r.any k]
 by_cases e:(vs.any λkv=>decide (kv.1=k))=true
 ·rw[if_pos e,if_pos e];exact r.vc k ry
 ·rw[if_neg e,if_neg e];exact SS r ⟨rfl,ry⟩
theorem KV.length {kvs:List (κ×V)} {vs:List (κ×ac)} (r:KV kvs vs):kvs.length=vs.length:=dR r
end
theorem lx {P:aI} {w:aE} {k:Key} {u:ac} (r:RelV (kV k) u):(cu P w).is k u=true:=by
 cases k with
 |inl i=>obtain⟨t,e⟩:=(show ∃t,u=iM i t from r);subst e;exact lh P w i t
 |inr x=>obtain⟨t,e⟩:=(show ∃t,u=zg x t from r);subst e;exact Jb P w x t
theorem Bv {P:aI} {w:aE}: ∀{ks:List Key} {us:List ac},Vals (ks.map kV) us->ItemsAre (cu P w) ks us
 | [],_,r=>by rw[iU] at r;cases r;exact .nil
 |k::ks,_,r=>by
  rw[aU] at r
  cases r with
  |cons h t=>exact .cons (lx h) (Bv t)
abbrev KT (H:Hp):List (List Key×V)->List (List Key×aa×ac)->Prop:=cb λp q=>p.1=q.1/\H q.2.1=some (.tup (p.1.map kV))/\RelV p.2 q.2.2
theorem KT.val {H:Hp} {kvs:List (List Key×V)} {xs:List (List Key×aa×ac)} (r:KT H kvs xs) (k:List Key):fE (bO kvs k) ((atKey xs k).map (·.2)):=by
 induction r with
 |nil=>exact fb
 | @cons p q ps qs h t ih=>
  obtain⟨h1,_,h2⟩:=h
  by_cases e:p.1=k
  ·have e':q.1=k:=h1.symm.trans e
   have b:atKey (q::qs) k=some q.2:=by simp [atKey,hZ,e']
   rw[oI e,b];exact h2
  ·have e': ¬q.1=k:=λz=>e (h1.trans z)
   have b:atKey (q::qs) k=atKey qs k:=by simp [atKey,hZ,e']
   rw[oJ e,b];exact ih
theorem KT.vc {H:Hp} {kvs:List (List Key×V)} {xs:List (List Key×aa×ac)} (r:KT H kvs xs) (k:List Key) {y:V} {u:ac} (ry:RelV y u) :
  KT H (kvs.map λkv=>if kv.1=k then (kv.1,y) else kv) (xs.map (putAt k u)):=by
 induction r with
 |nil=>exact .nil
 | @cons p q ps qs h t ih=>
  rw[aU,aU]
  refine .cons ?_ ih
  obtain⟨h1,h2,h3⟩:=h
  unfold putAt
  by_cases e:p.1=k
  ·rw[if_pos e,if_pos (h1.symm.trans e)];exact⟨h1,h2,ry⟩
  ·rw[if_neg e,if_neg (λz=>e (h1.trans z))];exact⟨h1,h2,h3⟩
theorem KT.put {H:Hp} {kvs:List (List Key×V)} {xs:List (List Key×aa×ac)} (r:KT H kvs xs) (k:List Key) {b:aa} {y:V} {u:ac} (hb:H b=some (.tup (k.map kV))) (ry:RelV y u) :
  KT H (putK kvs k y) (storedH xs k b u):=by
 have e:(kvs.any λkv=>decide (kv.1=k))=(atKey xs k).isSome:=by
  rw[qQ,(r.val k).oK,HF]
 unfold putK storedH
 rw[e]
 by_cases q:(atKey xs k).isSome=true
 ·rw[if_pos q,if_pos q];exact r.vc k ry
 ·rw[if_neg q,if_neg q];exact SS r ⟨rfl,hb,ry⟩
theorem KT.keeps {H H':Hp} {kvs:List (List Key×V)} {xs:List (List Key×aa×ac)} (r:KT H kvs xs) (ht: ∀b ys,H b=some (.tup ys)->H' b=some (.tup ys)):KT H' kvs xs:=
 Paired.b6 r λ_ _ z=>⟨z.1,ht _ _ z.2.1,z.2.2⟩
section
variable {P:aI} {w:aE} {H:Hp} {h:aF} {a:aa}
theorem Bw {u:HO} (ok:cg P w H h) (e:Rd H a u):cz P w H h a u:=e.ok ok
theorem ly {kvs:List (Key×V)} (ok:cg P w H h) (e:Rd H a (.dK kvs)):kvs.length<=sizeLine/\(a == sysModules)=false/\ ∃vs,KV kvs vs/\h.DictOf (cu P w) a vs:=
 show cz P w H h a (.dK kvs) from Bw ok e
theorem LA {kvs:List (Key×V)} (ok:cg P w H h) (e:H a=some (.dK kvs)):kvs.length<=sizeLine/\(a == sysModules)=false/\ ∃vs,KV kvs vs/\h.DictOf (cu P w) a vs:=ly ok (.inl e)
theorem i9 {ks:List Key} (ok:cg P w H h) (e:H a=some (.tup (ks.map kV))):(tupleKind (cu P w)).is h ks a:=by
 obtain⟨_,its,r,⟨o,h1,h2,n,h3⟩,_⟩:=(show cz P w H h a (.tup (ks.map kV)) from ok a _ e)
 exact⟨o,its.toArray,n,h1,h2,h3,by simpa using Bv r⟩
theorem lz {kvs:List (List Key×V)} (ok:cg P w H h) (e:Rd H a (.dT kvs)):kvs.length<=sizeLine/\(a == sysModules)=false /\
  ∃xs,KT H kvs xs/\h.DictOfH (tupleKind (cu P w)) a xs:=by
 obtain⟨z,y,xs,r,o,es,ep,h1,h2,h3,h4,h5⟩:=(show cz P w H h a (.dT kvs) from Bw ok e)
 refine⟨z,y,xs,r,o,es,ep,h1,h2,h3,h4,λx hx=>?_,h5⟩
 have all: ∀{l:List (List Key×V)} {m:List (List Key×aa×ac)},KT H l m-> ∀x∈m,(tupleKind (cu P w)).is h x.1 x.2.1:=by
  intro l m q
  induction q with
  |nil=>intro x hx;exact nomatch hx
  | @cons p q ps qs hq t ih=>
   intro x hx
   rcases be.mp hx with e|hx
   ·subst e
    exact i9 ok (by rw[←hq.1];exact hq.2.1)
   ·exact ih x hx
 exact all r x hx
theorem ve {kvs:List (List Key×V)} (ok:cg P w H h) (e:H a=some (.dT kvs)):kvs.length<=sizeLine/\(a == sysModules)=false /\
  ∃xs,KT H kvs xs/\h.DictOfH (tupleKind (cu P w)) a xs:=lz ok (.inl e)
end
def gD (H:Hp) (a:aa) (y:V) (r:Option V):Prop:=
 (∃kvs k,Rd H a (.dK kvs)/\y=kV k/\r=bO kvs k)∨ ∃kvs k b,Rd H a (.dT kvs)/\y= .ref b/\H b=some (.tup (k.map kV))/\r=bO kvs k
def lA (H:Hp) (a:aa) (y v:V) (H':Hp):Prop:=
 (∃kvs k,H a=some (.dK kvs)/\y=kV k/\kvs.length<sizeLine/\H'=upd H a (.dK (putK kvs k v))) ∨
 ∃kvs k b,H a=some (.dT kvs)/\y= .ref b/\H b=some (.tup (k.map kV))/\kvs.length<sizeLine/\H'=upd H a (.dT (putK kvs k v))
theorem gD.t {H:Hp} {a b:aa} {kvs:List (List Key×V)} {k:List Key} (e:H a=some (.dT kvs)) (eb:H b=some (.tup (k.map kV))):gD H a (.ref b) (bO kvs k):= .inr ⟨kvs,k,b,.inl e,rfl,eb,rfl⟩
theorem lA.t {H:Hp} {a b:aa} {kvs:List (List Key×V)} {k:List Key} {v:V} (e:H a=some (.dT kvs)) (eb:H b=some (.tup (k.map kV))) (hl:kvs.length<sizeLine) :
  lA H a (.ref b) v (upd H a (.dT (putK kvs k v))):= .inr ⟨kvs,k,b,e,rfl,eb,hl,rfl⟩
section
variable {X:Cx} {pins:List (aa×Obj)} {σ:St} {H:Hp} {s:af} {a:aa} {y v:V} {u r:ac} {o:Option V} {A:a7} {E:ac->af->Prop}
theorem Inv.big (I:Inv X pins σ H s):sysModules<s.heap.objs.size:=by
 have h:mainGlobals<s.heap.objs.size:=(I.mod.glob.keeps I.bk).lt
 exact HG (by decide) h
theorem LB {Q:ac->af->Prop} (hu:A.units+1<cLine) (I:Inv X pins σ H s) (g:gD H a y (some v)) (ry:RelV y u) (h: ∀w' s',Inv X pins σ H s'->RelV v w'->Q w' s') :
  wpAny (model X.prog X.w) A (getItem (.ref a) u) Q E s:=by
 rcases g with ⟨kvs,k,e,ey,l⟩|⟨kvs,k,b,e,ey,eb,l⟩
 ·subst ey
  obtain⟨z,hd,vs,rel,dd⟩:=ly I.aB e
  obtain⟨w',hw,rw'⟩:=fE.some_of (v:=v) (o:=valueAt vs k) (by rw[l];exact rel.val k)
  exact SU (lx ry) dd.mapOf hw (h w' _ (I.tok _) rw')
 ·subst ey
  cases (show u=aP b from ry)
  obtain⟨z,hd,xs,rel,dd⟩:=lz I.aB e
  obtain⟨w',hw,rw'⟩:=fE.some_of (v:=v) (o:=(atKey xs k).map (·.2)) (by rw[l];exact rel.val k)
  obtain⟨p,hp,hp2⟩:=Option.map_eq_some_iff.mp hw
  refine wpAny_getItem_heap (nH hu) (i9 I.aB eb) dd hp ?_
  rw[hp2]
  exact h w' _ (I.tok _) rw'
theorem LC {Q:ac->af->Prop} (hu:A.units+1<cLine) (I:Inv X pins σ H s) (g:gD H a y o) (ry:RelV y u) (h: ∀s',Inv X pins σ H s'->Q (.bool o.isSome) s') :
  wpAny (model X.prog X.w) A (compareOp .In u (.ref a)) Q E s:=by
 rcases g with ⟨kvs,k,e,ey,l⟩|⟨kvs,k,b,e,ey,eb,l⟩
 ·subst ey
  obtain⟨z,hd,vs,rel,dd⟩:=ly I.aB e
  refine wpAny_in_of (lx ry) hd dd.mapOf ?_
  rw[←(rel.val k).oK,←l]
  exact h _ (I.tok _)
 ·subst ey
  cases (show u=aP b from ry)
  obtain⟨z,hd,xs,rel,dd⟩:=lz I.aB e
  refine wpAny_in_heap (nH hu) (i9 I.aB eb) hd dd ?_
  have q:=(rel.val k).oK
  rw[HF] at q
  rw[←q,←l]
  exact h _ (I.tok _)
theorem LD {Q:ac->af->Prop} (hu:A.units+1<cLine) (I:Inv X pins σ H s) (g:gD H a y o) (ry:RelV y u) (h: ∀s',Inv X pins σ H s'->Q (.bool (!o.isSome)) s') :
  wpAny (model X.prog X.w) A (compareOp .NotIn u (.ref a)) Q E s:=by
 rcases g with ⟨kvs,k,e,ey,l⟩|⟨kvs,k,b,e,ey,eb,l⟩
 ·subst ey
  obtain⟨z,hd,vs,rel,dd⟩:=ly I.aB e
  refine wpAny_notIn_of (lx ry) hd dd.mapOf ?_
  rw[←(rel.val k).oK,←l]
  exact h _ (I.tok _)
 ·subst ey
  cases (show u=aP b from ry)
  obtain⟨z,hd,xs,rel,dd⟩:=lz I.aB e
  refine wpAny_notIn_heap (nH hu) (i9 I.aB eb) hd dd ?_
  have q:=(rel.val k).oK
  rw[HF] at q
  rw[←q,←l]
  exact h _ (I.tok _)
theorem qR {h':aF} {t':Nat} {ob:HO} (I:Inv X pins σ H s) (mu:ki (H a)) (hs:kU a s.heap h') (he: ∃q,h'.get? a=some q) (new:cz X.prog X.w (upd H a ob) h' a ob) :
  Inv X pins σ (upd H a ob) {s with heap:=h',toks:=t'}:=
 I.write (x:=a) (e:=a) mu (.inl rfl) (λb q hb z=>(hs.2 b hb).trans z) he new
theorem LF {P:aI} {w:aE} {H':Hp} {h':aF} {kvs:List (Key×V)} {vs:List (Key×ac)} (z:kvs.length<=sizeLine) (hd:(a == sysModules)=false) (rel:KV kvs vs) (dd:h'.DictOf (cu P w) a vs) :
  cz P w H' h' a (.dK kvs):=⟨z,hd,vs,rel,dd⟩
theorem LG {H':Hp} {Q:Unit->af->Prop} (hu:A.units+1<cLine) (I:Inv X pins σ H s) (g:lA H a y v H') (ry:RelV y u) (rv:RelV v r) (h: ∀s',Inv X pins σ H' s'->Q () s') :
  wpAny (model X.prog X.w) A (setItem (.ref a) u r) Q E s:=by
 rcases g with ⟨kvs,k,e,ey,l,eH⟩|⟨kvs,k,b,e,ey,eb,l,eH⟩
 ·subst ey eH
  obtain⟨z,hd,vs,rel,dd⟩:=LA I.aB e
  have hz:vs.length<=sizeLine:=by rw[←rel.length];exact z
  have hl:(putK kvs k v).length<=sizeLine:=by have:=Bu kvs k v;omega
  refine wpAny_setItem_pairs (hsz:=hz) (lx ry) dd λh' dd' hs=>h _ ?_
  have he: ∃q,h'.get? a=some q:=let ⟨q,_,_,hq,_⟩:=dd';⟨q,hq⟩
  exact qR I (by rw[e];exact fb) hs he (LF hl hd (rel.put k rv) dd')
 ·subst ey eH
  cases (show u=aP b from ry)
  obtain⟨z,hd,xs,rel,dd⟩:=ve I.aB e
  have hz:xs.length<=sizeLine:=by rw[←dR rel];exact z
  have hl:(putK kvs k v).length<=sizeLine:=by have:=Bu kvs k v;omega
  refine wpAny_setItem_heap (hsz:=hz) (nH hu) (i9 I.aB eb) dd λh' dd' hs=>h _ ?_
  obtain⟨q,es,ep,hq,h2,h3,h4,_,h5⟩:=dd'
  refine qR I (by rw[e];exact fb) hs ⟨q,hq⟩ ⟨hl,hd,_,(rel.put k eb rv).keeps λc ys ec=>?_,q,es,ep,hq,h2,h3,h4,h5⟩
  rw[az (bg ec e (λz=>nomatch z))]
  exact ec
end
def oM (i:ao):Prop:= ∀ov iv,subscripted i false ov iv=operate [ov,iv] (getItem ov iv)
theorem Bx {prog:aI} {w:aE} {A:a7} {E:ac->af->Prop} {s:af} {env:Env} {value slice:ao} {pos:Pos} {T id:String} {Q:ac->af->Prop}
  (hl:typeLookup (.type T) "__getitem__"=pure (some (.builtin id))) (hs:oM slice)
  (h:wpAny (model prog w) A (eval value env) (λo s₁=>wpAny (model prog w) A (eval slice env) (λi s₂=>s₂.TypeIs o T/\wpAny (model prog w) A (getItem o i) Q E s₂) E s₁) E s) :
  wpAny (model prog w) A (eval (.Subscript value slice pos) env) Q E s:=by
 refine Hy (gk h (λo s₁ h₁=>gk h₁ (λi s₂ h₂=>?_) λ_ _ x=>x) λ_ _ x=>x)
 obtain⟨hT,h₂⟩:=h₂
 unfold subscriptTail
 refine aj ?_
 rw[getitemInPython_of_ne hT.not_modules]
 refine aj (HH hT hl ?_)
 have fin:wpAny (model prog w) A (subscripted slice false o i) (λr s₃=>wpAny (model prog w) A (letTemporaryGo value o r >>= λ_=>pure r) Q E s₃) E s₂:=by
  rw[hs o i]
  exact wpAny_operating (gk h₂ (λr s₃ h₃=>aj (wpAny_letTemporaryGo (ay h₃))) λ_ _ x=>x)
 first
  |exact ay (aj fin)
  |exact aj (ay (aj fin))
  |exact aj fin
theorem LH {X:Cx} {pins:List (aa×Obj)} {σ:St} {H:Hp} {s:af} {a:aa} {y:V} {o:Option V} (I:Inv X pins σ H s) (g:gD H a y o):s.TypeIs (.ref a) "dict":=by
 rcases g with ⟨kvs,k,e,_,_⟩|⟨kvs,k,b,e,_,_,_⟩
 ·obtain⟨_,_,vs,_,dd⟩:=ly I.aB e
  exact dd.typeIs
 ·obtain⟨_,_,xs,_,dd⟩:=lz I.aB e
  exact dd.typeIs
def LI (td ty:TE):TE:=λσ H Q=>td σ H λx H1=>ty σ H1 λy H2=> ∃a v,x= .ref a/\gD H2 a y (some v)/\Q v H2
def LJ (ty td:TE):TE:=λσ H Q=>ty σ H λy H1=>td σ H1 λx H2=> ∃a o,x= .ref a/\gD H2 a y o/\Q (.bl o.isSome) H2
def LK (ty td:TE):TE:=λσ H Q=>ty σ H λy H1=>td σ H1 λx H2=> ∃a o,x= .ref a/\gD H2 a y o/\Q (.bl (!o.isSome)) H2
def By (td ty tv:TE):TS:=λD σ H=>tv σ H λv H1=>td σ H1 λx H2=>ty σ H2 λy H3=> ∃a H4,x= .ref a/\lA H3 a y v H4/\D.nx σ H4
section
variable {X:Cx} {o i e value:ao} {pos pos' tpos:Pos} {td ty tv:TE}
theorem Bz (hu:X.A.units+1<cLine) (ho:PE X o td) (hi:PE X i ty) (hs:oM i):PE X (.Subscript o i pos) (LI td ty):=by
 intro pins s σ H Q I h
 refine Bx PySem.F.slot_dict_getitem.lookup hs (aJ (ho pins s σ H _ I h) λu s1 ⟨x,H1,I1,rx,q1⟩=>aJ (hi pins s1 σ H1 _ I1 q1) λiv s2 ⟨y,H2,I2,ry,a,v,ex,g,q2⟩=>?_)
 subst ex
 obtain rfl:u=aP a:=rx
 exact⟨LH I2 g,LB hu I2 g ry λw' s3 I3 rw'=>⟨v,H2,I3,rw',q2⟩⟩
theorem vf (hu:X.A.units+1<cLine) (hi:PE X i ty) (ho:PE X o td):PC X .In i o (LJ ty td):=by
 intro pins s σ H Q I h
 refine aJ (hi pins s σ H _ I h) λiv s1 ⟨y,H1,I1,ry,q1⟩=>aJ (ho pins s1 σ H1 _ I1 q1) λu s2 ⟨x,H2,I2,rx,a,ov,ex,g,q2⟩=>?_
 subst ex
 obtain rfl:u=aP a:=rx
 exact LC hu I2 g ry λs3 I3=>⟨.bl ov.isSome,H2,I3,rfl,q2⟩
theorem BA (hu:X.A.units+1<cLine) (hi:PE X i ty) (ho:PE X o td):PC X .NotIn i o (LK ty td):=by
 intro pins s σ H Q I h
 refine aJ (hi pins s σ H _ I h) λiv s1 ⟨y,H1,I1,ry,q1⟩=>aJ (ho pins s1 σ H1 _ I1 q1) λu s2 ⟨x,H2,I2,rx,a,ov,ex,g,q2⟩=>?_
 subst ex
 obtain rfl:u=aP a:=rx
 exact LD hu I2 g ry λs3 I3=>⟨.bl (!ov.isSome),H2,I3,rfl,q2⟩
theorem mC (hu:X.A.units+1<cLine) (ho:PE X o td) (hi:PE X i ty) (hv:PE X value tv) (hs:swapsWith value (some (.Subscript o i pos')) pos.line X.env=pure false) :
  PS X (.Assign [.Subscript o i pos'] value pos) (By td ty tv):=by
 intro pins s σ H D I h
 refine wpAny_Assign_Subscript (aJ (hv pins s σ H _ I h) λr s1 ⟨v,H1,I1,rv,q1⟩=>aJ (ho pins s1 σ H1 _ I1 q1) λu s2 ⟨x,H2,I2,rx,q2⟩=>aJ (hi pins s2 σ H2 _ I2 q2) λiv s3 ⟨y,H3,I3,ry,a,H4,ex,g,q3⟩=>?_) hs
 subst ex
 obtain rfl:u=aP a:=rx
 exact LG hu I3 g ry rv λs4 I4=>⟨σ,H4,I4,q3⟩
end
theorem BB {P:aI} {w:aE} {H:Hp} (h:aF) (hb:sysModules<h.objs.size):cz P w H (h.push {cls:= .type "dict",data:= .dict #[]}) h.objs.size (.dT []):=
 ⟨bv _,beq_eq_false_iff_ne.mpr (dw (cX hb)),[],.nil,_,#[],0,cw _ rfl,⟨rfl,rfl,rfl⟩,rfl,rfl,HI⟩
def LL:TE:=λ_ H Q=> ∀p,H p=none->Q (.ref p) (upd H p (.dT []))
section
variable {X:Cx} {pos:Pos}
theorem qS:PE X (.Dict [] [] pos) LL:=λpins s σ H Q I h=>
 wpAny_Dict_empty ⟨.ref s.heap.objs.size,_,I.laid (a:=s.heap.objs.size) (o:= .dT []) (t':=s.toks) (λ_ _ q=>b4 _ q) (aW _) (BB s.heap I.big),rfl,h _ (I.aB.fresh (aW _))⟩
end
structure M1 (X:Cx) (o:ao) (m:Str) (apos:Pos) (e:ao) (cpos:Pos):Prop where
 base:attributeBase o m X.env (eval o X.env)=eval o X.env
 ci:((backTo cpos (starEach [e] X.env)).all (λx=>!x.1) && (backToKw cpos (keywordEach [] X.env)).all (λx=>x.1.isSome)
  && decide (([e]:List ao).length+([]:List j3).length+(if ([]:List j3).isEmpty then 0 else 1)<30))=true
 line:(apos.endLine == cpos.line)=true
 trees:backTo cpos (starEach [e] X.env)=[(false,eval e X.env)]
structure M2 (X:Cx) (o:ao) (m:Str) (apos:Pos) (e f:ao) (cpos:Pos):Prop where
 base:attributeBase o m X.env (eval o X.env)=eval o X.env
 ci:((backTo cpos (starEach [e,f] X.env)).all (λx=>!x.1) && (backToKw cpos (keywordEach [] X.env)).all (λx=>x.1.isSome)
  && decide (([e,f]:List ao).length+([]:List j3).length+(if ([]:List j3).isEmpty then 0 else 1)<30))=true
 line:(apos.endLine == cpos.line)=true
 trees:backTo cpos (starEach [e,f] X.env)=[(false,eval e X.env),(false,eval f X.env)]
def vg (H:Hp) (a:aa):Prop:=(∃kvs,Rd H a (.dK kvs))∨ ∃kvs,Rd H a (.dT kvs)
theorem BC {X:Cx} {pins:List (aa×Obj)} {σ:St} {H:Hp} {s:af} {a:aa} (I:Inv X pins σ H s) (d:vg H a) :
  s.TypeIs (.ref a) "dict"/\(∀b,aP a= .ref b-> ∃ob,s.heap.get? b=some ob/\ob.dict=none)/\(a == sysModules)=false:=by
 rcases d with ⟨kvs,e⟩|⟨kvs,e⟩
 ·obtain⟨_,hd,vs,_,dd⟩:=ly I.aB e
  refine⟨dd.typeIs,λb q=>?_,hd⟩
  cases q
  obtain⟨ob,_,_,h1,h2,_⟩:=dd
  exact⟨ob,h1,h2.2.1⟩
 ·obtain⟨_,hd,xs,_,dd⟩:=lz I.aB e
  refine⟨dd.typeIs,λb q=>?_,hd⟩
  cases q
  obtain⟨ob,_,_,h1,h2,_⟩:=dd
  exact⟨ob,h1,h2.2.1⟩
section
variable {X:Cx} {pins:List (aa×Obj)} {σ:St} {H:Hp} {s:af} {a:aa} {y d:V} {u r:ac} {o:Option V} {A:a7} {E:ac->af->Prop}
theorem LN {Q:ac->af->Prop} (hu:A.units+1<cLine) (I:Inv X pins σ H s) (g:gD H a y o) (ry:RelV y u) (rd:RelV d r) (h: ∀w' s',Inv X pins σ H s'->RelV (o.getD d) w'->Q w' s') :
  wpAny (model X.prog X.w) A (call (.builtin "dict.get") [.ref a,u,r]) Q E s:=by
 rcases g with ⟨kvs,k,e,ey,l⟩|⟨kvs,k,b,e,ey,eb,l⟩
 ·subst ey
  obtain⟨z,hd,vs,rel,dd⟩:=ly I.aB e
  refine call_meetsIn HJ dd.typeIs SV (SW _ _ _) (meets_dict_get_default (cu X.prog X.w) a (lx ry) hd r) ⟨_,dd.mapOf,h _ _ (I.tok _) ?_⟩
  rw[l]
  exact(rel.val k).getD rd
 ·subst ey
  cases (show u=aP b from ry)
  obtain⟨z,hd,xs,rel,dd⟩:=lz I.aB e
  refine call_meetsIn HJ dd.typeIs SV (SW _ _ _) (meetsH_dict_get_default (tupleKind (cu X.prog X.w)) a b hd r) ⟨nH hu,k,xs,i9 I.aB eb,dd,h _ _ (I.tok _) ?_⟩
  rw[l]
  exact(rel.val k).getD rd
end
def LO (td ty tx:TE):TE:=λσ H Q=>td σ H λx H1=> ∃a,x= .ref a/\vg H1 a/\ty σ H1 λy H2=>tx σ H2 λz H3=> ∃o,gD H3 a y o/\Q (o.getD z) H3
section
variable {X:Cx} {o e f:ao} {apos cpos:Pos} {td ty tx:TE}
theorem LP (hu:X.A.units+1<cLine) (ho:PE X o td) (he:PE X e ty) (hf:PE X f tx) (m:M2 X o "get" apos e f cpos):PE X (.Call (.Attribute o "get" apos) [e,f] [] cpos) (LO td ty tx):=by
 intro pins s σ H Q I h
 refine SY m.base m.ci m.line SZ HJ PySem.F.type_dict_get (aJ (ho pins s σ H _ I h) λu s1 ⟨x,H1,I1,rx,a,ex,d,q1⟩=>?_)
 subst ex
 obtain rfl:u=aP a:=rx
 obtain⟨t1,t2,_⟩:=BC I1 d
 refine⟨t1,t2,?_⟩
 rw[m.trees]
 refine tQ rfl (zA (zt (aJ (he pins s1 σ H1 _ I1 q1) λiv s2 ⟨y,H2,I2,ry,q2⟩=>
  zt (aJ (hf pins s2 σ H2 _ I2 q2) λfv s3 ⟨z,H3,I3,rz,ov,g,q3⟩=>Ho ?_))))
 exact LN hu I3 g ry rz λw' s4 I4 rw'=>⟨_,H3,I4,rw',q3⟩
end
section
variable {X:Cx} {pins:List (aa×Obj)} {σ:St} {H:Hp} {s:af} {h':aF}
theorem Inv.BD {t':Nat} {ch:List aa} {T:aa} {ob:HO} (I:Inv X pins σ H s) (k: ∀b o,b∉ch->s.heap.get? b=some o->h'.get? b=some o) (hf: ∀b∈ch,il X pins H b) (hT:s.heap.objs.size<=T)
  (new:cz X.prog X.w (upd H T ob) h' T ob):Inv X pins σ (upd H T ob) {s with heap:=h',toks:=t'}:=by
 have hn:H T=none:=I.aB.fresh hT
 have nit: ∀b u,H b=some u->b∉ch:=λb u e z=>by
  have q:=(hf b z).1
  rw[q] at e;cases e
 refine I.step (g':=s.gens) (d':=s.drawn) (ch:=ch) (λb hb=>⟨(hf b hb).2.2.2.1,(hf b hb).2.1,(hf b hb).2.2.2.2.1,(hf b hb).2.2.2.2.2⟩) (λb o _ _ hc e _=>k b o hc e) (λb o _ _ hc e _=>⟨o.slots,k b o hc e⟩)
  (λb o _ e n=>?_) (λb o hc e=>⟨o,k b o hc e⟩) (λb xs e=>?_) (λb o u e=>?_) (λb ps e=>⟨#[],?_⟩) (λm hm=>?_) (λb u e=>?_) I.bare
 ·rw[az (cX (eZ (bL e) hT))];exact n
 ·rw[az (cA e hn)];exact e
 ·rw[az (cA e hn)];exact e
 ·rw[az (cA e hn),e];simp
 ·obtain⟨o,es,ep,ho,r⟩:=hm
  exact⟨o,es,ep,k _ o (λz=>(hf _ z).2.1 rfl) ho,r⟩
 ·by_cases hb:b=T
  ·subst hb
   rw[aK] at e
   cases e
   exact new
  ·rw[az hb] at e
   refine(I.aB b u e).jD (λc v hc q=>k c v ?_ q) (λc q=>by rw[az (cA q hn)];exact q) λc xs q=>by rw[az (cA q hn)];exact q
   rcases hc with z|z
   ·rw[z];exact nit b u e
   ·exact nit c _ z
theorem Inv.lock {d:aa} {u:HO} (I:Inv X pins σ H s) (h:H d=some u) (mu:ki (some u)): ∃od,Inv X pins σ (upd H d (.bi od u)) s:=by
 have x:=I.aB d u h
 have ex: ∃od,s.heap.get? d=some od:=by
  cases u with
  |lst xs=>obtain⟨_,_,_,_,e⟩:=x;exact⟨_,e⟩
  |dK kvs=>obtain⟨_,_,_,_,o,_,_,e,_⟩:=x;exact⟨o,e⟩
  |dT kvs=>obtain⟨_,_,_,_,o,_,_,e,_⟩:=x;exact⟨o,e⟩
  |set S n=>obtain⟨o,_,_,_,e,_⟩:=x;exact⟨o,e⟩
  |ins C dx fs=>obtain⟨_,_,_,e,_⟩:=x;exact⟨_,e⟩
  |ext φ=>obtain⟨_,⟨_,e⟩,_⟩:=x;exact⟨_,e⟩
  |_=>exact fm mu
 obtain⟨od,e⟩:=ex
 have new:cz X.prog X.w (upd H d (.bi od u)) s.heap d (.bi od u):=by
  refine⟨e,x.jD (λb v _ q=>q) (λb q=>?_) λb xs q=>?_⟩
  ·rw[az (λz=>by rw[z,h] at q;cases q;exact mu)];exact q
  ·rw[az (λz=>by rw[z,h] at q;cases q;exact mu)];exact q
 exact⟨od,I.write (x:=d) (e:=d) (t':=s.toks) (h':=s.heap) (by rw[h];exact mu) (.inl rfl) (λb v _ q=>q) ⟨od,e⟩ new⟩
theorem Inv.qT {d:aa} {u:HO} (I:Inv X pins σ H s) (h:H d=some u) (mu:ki (some u)): ∀o' u',X.lj d≠some (.bi o' u'):=λo' u' e=>by
 have q:=I.base.fU d o' u' e
 rw[h] at q
 cases q
 exact mu
theorem Inv.unlock {d:aa} {od:Obj} {u:HO} (I:Inv X pins σ H s) (h:H d=some (.bi od u)) (hn: ∀o' u',X.lj d≠some (.bi o' u')):Inv X pins σ (upd H d u) s:=by
 have neH: ∀b o,H b=some o->(∀o' u',o≠ .bi o' u')->b≠d:=λb o e hne z=>by
  rw[z,h] at e
  cases e
  exact hne _ _ rfl
 have neN: ∀b,H b=none->b≠d:=λb e z=>by rw[z,h] at e;cases e
 refine⟨I.ok,I.os,I.bare,⟨I.base.keep,I.base.slot,λb o e n hx=>?_,I.base.there,λb xs e=>?_,λb o x e=>?_,λb ps e=>?_⟩,I.loc,I.cell,?_,λx c e=>?_,λp hp=>?_,λb o e=>?_,I.len⟩
 ·rw[az (neN b (I.base.free b o e n hx))];exact I.base.free b o e n hx
 ·have q:=I.base.eJ b xs e
  rw[az (neH b _ q (λ_ _ z=>nomatch z))];exact q
 ·have q:=I.base.fU b o x e
  rw[az (λz=>by rw[z] at e;exact hn _ _ e)];exact q
 ·obtain⟨m,q⟩:=I.base.gN b ps e
  exact⟨m,by rw[az (neH b _ q (λ_ _ z=>nomatch z))];exact q⟩
 ·rw[az (neN _ I.free)];exact I.free
 ·rw[az (neN c (I.gv x c e))];exact I.gv x c e
 ·obtain⟨e,n,r⟩:=I.pin p hp
  exact⟨e,by rw[az (neN _ n)];exact n,r⟩
 ·by_cases hb:b=d
  ·rw[hb,aK] at e
   cases e
   rw[hb]
   obtain⟨_,x⟩:=I.aB d _ h
   exact x.jD (λc v _ q=>q) (λc q=>by rw[az (neH c _ q (λ_ _ z=>nomatch z))];exact q) λc xs q=>by rw[az (neH c _ q (λ_ _ z=>nomatch z))];exact q
  ·rw[az hb] at e
   exact(I.aB b o e).jD (λc v _ q=>q) (λc q=>by rw[az (neH c _ q (λ_ _ z=>nomatch z))];exact q) λc xs q=>by rw[az (neH c _ q (λ_ _ z=>nomatch z))];exact q
end
def BE (t:TS):TS:=λD σ H=> ∃d u,H d=some u/\ki (some u)/\ ∀od,t ⟨λσ' H'=>H' d=some (.bi od u)/\D.nx σ' (upd H' d u),λv H'=>H' d=some (.bi od u)/\D.rt v (upd H' d u),λσ' H'=>H' d=some (.bi od u)/\D.bk σ' (upd H' d u),λσ' H'=>H' d=some (.bi od u)/\D.ct σ' (upd H' d u)⟩ σ (upd H d (.bi od u))
section
variable {X:Cx}
theorem BF {st:aL} {t:TS} (h:PS X st t):PS X st (BE t):=by
 intro pins s σ H D I hw
 obtain⟨d,u,hd,mu,hw⟩:=hw
 obtain⟨od,I1⟩:=I.lock hd mu
 refine aJ (h pins s σ _ _ I1 (hw od)) λf s1 q=>?_
 cases f with
 |next=>obtain⟨σ',H',I2,e,q⟩:=q;exact⟨σ',_,I2.unlock e (I.qT hd mu),q⟩
 |brk=>obtain⟨σ',H',I2,e,q⟩:=q;exact⟨σ',_,I2.unlock e (I.qT hd mu),q⟩
 |cont=>obtain⟨σ',H',I2,e,q⟩:=q;exact⟨σ',_,I2.unlock e (I.qT hd mu),q⟩
 |ret v=>obtain⟨x,σ',H',I2,r,e,q⟩:=q;exact⟨x,σ',_,I2.unlock e (I.qT hd mu),r,q⟩
theorem qU {tg:ao} {pins:List (aa×Obj)} {σ:St} {H:Hp} {s:af} {R:It->Hp->Prop} {J:It} {tn:Nat->aF->Prop} {tk:Nat} (I:Inv X pins σ H s) (o:Obj)
  (T:Turn X.prog X.w X.K tg J [s.heap.objs.size] s.heap.objs.size tn) (st:tn 0 (s.heap.push o)) (q:R J H):AD X pins σ tg R (.ref s.heap.objs.size) {s with heap:=s.heap.push o,toks:=tk}:=by
 refine⟨s.heap.objs.size,[s.heap.objs.size],tn,J,H,rfl,I.kept λb ob e=>b4 _ e,T,st,λb hb=>?_,q⟩
 have e:b=s.heap.objs.size:=by simpa using hb
 subst e
 exact I.mv (aW _) (I.aB.fresh (aW _))
end
def oN (x:Str):It:=⟨λi _=>i<x.cps.size,λi H v H'=>H'=H/\ ∃c,x.cps[i]?=some c/\v= .str ⟨#[c]⟩,λi _=>x.cps.size<=i⟩
theorem BG {P:aI} {w:aE} {K:aA} {tg:ao} (it:aa) (x:Str) (t:Tok) (ty:String) (hty:ty="str_ascii_iterator"∨ty="str_iterator") :
  Turn P w K tg (oN x) [it] it (λi h=>h.IsStrIter it ty x t i) where
 mem:=by simp
 obj:=λi h st b hb=>by
  have e:b=it:=by simpa using hb
  subst e
  obtain⟨o,e,c,d⟩:=st
  exact⟨o,e,λv z=>by rw[d] at z;cases z⟩
 keep:=λi h h' st k=>let ⟨o,ho,r⟩:=st;⟨o,k it (by simp) o ho,r⟩
 item:=by
  intro X hP hw hK hc i pins s σ H E I hf st hg
  subst hP hw hK
  obtain⟨f0,f1,f2,f3,f4,f5⟩:=hf it (by simp)
  have W:Walks X.prog X.w X.A it [it] [it] x.cps.size (SignAt x) (λi h=>h.IsStrIter it ty x t i):=by
   rcases hty with e|e
   ·rw[e];exact Walks.strAscii (I.ok.hd hc) it x t
   ·rw[e];exact Walks.strWide (I.ok.hd hc) it x t
  have hno:["enumerate","zip","dict_itemiterator","dict_reverseitemiterator","odict_iterator","itertools.zip_longest","itertools.pairwise"].contains ty=false:=by
   rcases hty with e|e
   ·rw[e];decide
   ·rw[e];decide
  refine W.item i s _ _ hg st λv h' tk hv st' kk=>?_
  obtain⟨c,u,hcx,rfl⟩:=hv
  have I1:Inv X pins σ H {s with heap:=h',toks:=tk}:=I.turned (λb o hb e=>kk b o (by simpa using hb) e) f0 f1 f3 f4 f5
  obtain⟨oi,e,cc,dd⟩:=id st'
  exact⟨_,rfl,om (s:={s with heap:=h',toks:=tk}) e cc dd hno ⟨.str ⟨#[c]⟩,H,I1,⟨u,rfl⟩,⟨rfl,c,hcx,rfl⟩,st',λb hb=>(hf b hb).1⟩⟩
 done:=by
  intro X hP hw hK hc i pins s σ H E I hf st hg
  subst hP hw hK
  obtain⟨f0,f1,f2,f3,f4,f5⟩:=hf it (by simp)
  have hx:x.cps[i]?=none:=l9 hg
  rcases hty with e|e
  ·rw[e] at st
   exact wpAny_pyNext_ascii_end (I.ok.hd hc) st hx λh' eb=>⟨rfl,I.turned (t':=s.toks) (λb o hb e=>eb b o hb e) f0 f1 f3 f4 f5⟩
  ·rw[e] at st
   exact wpAny_pyNext_wide_end (I.ok.hd hc) st hx λh' eb=>⟨rfl,I.turned (t':=s.toks) (λb o hb e=>eb b o hb e) f0 f1 f3 f4 f5⟩
 self:=λA i s Q E st h=>by
  rcases hty with e|e
  ·rw[e] at st;exact wpAny_pyIter_striter_ascii st h
  ·rw[e] at st;exact wpAny_pyIter_striter_wide st h
def LQ (te:TE):TI:=λσ H R=>te σ H λv H1=> ∃x,v= .str x/\R (oN x) H1
theorem LR {X:Cx} {tg e:ao} {te:TE} (he:PE X e te):PI X tg e (LQ te):=by
 intro pins s σ H R I h
 refine aJ (he pins s σ H _ I h) λv s1 ⟨y,H1,I1,r1,x,ex,q⟩=>?_
 subst ex
 obtain⟨t,rfl⟩:=r1
 cases ha:x.cps.all (· <128)
 ·exact wpAny_pyIter_wide ha (qU (tk:=s1.toks) I1 _ (BG _ x t "str_iterator" (.inr rfl)) ⟨_,cw _ rfl,rfl,rfl⟩ q)
 ·exact wpAny_pyIter_ascii ha (qU (tk:=s1.toks) I1 _ (BG _ x t "str_ascii_iterator" (.inl rfl)) ⟨_,cw _ rfl,rfl,rfl⟩ q)
section
variable {prog:aI} {w:aE} {A:a7} {E:ac->af->Prop} {s:af}
theorem vh {d:aa} {o:Obj} {es:Array jv} {ep:Nat} {Q:ac->af->Prop} (hd:(d == sysModules)=false) (ho:s.heap.get? d=some o) (hc:o.ExactDict) (hdat:o.data= .dict es ep)
  (hQ:Q (.ref s.heap.objs.size) {s with heap:=s.heap.push {cls:= .type "dict_keyiterator",data:= .fields #[.ref d,.int 0 0,.int es.size 0,.int ep 0]}}) :
  wpAny (model prog w) A (pyIter (.ref d)) Q E s:=by
 have hT:s.TypeIs (.ref d) "dict":=⟨o,ho,hc.1⟩
 refine tX hT S0 (fS S0 hT F.entry_dict_iter ?_ (F.args_dict_iter_1 _))
 unfold eC.«dict.__iter__»
 refine aj ?_
 unfold V4
 refine aj (S7 hT ?_)
 show wpAny _ _ (pure (aP d)) _ _ s
 refine ay ?_
 show wpAny _ _ (S8 d >>= _) _ _ s
 unfold S8
 rw[if_neg (by rw[hd];exact cY)]
 refine aj (ay ?_)
 refine aj (pW ho hdat ?_)
 refine aj (HK ho hdat ?_)
 refine aj (hX (ay ⟨_,rfl,"dict_keyiterator",_,⟨_,cw _ rfl,rfl⟩,nI.lookup,?_⟩))
 simpa [rawInt] using hQ
theorem BH {it d:aa} {i n ep:Nat} {od:Obj} {es:Array jv} {en:jv} {Q:Option ac->af->Prop} (hit:s.heap.IsKeyIter it d i n ep) (hod:s.heap.get? d=some od) (hdd:od.data= .dict es ep)
  (hsz:es.size=n) (hx:es[i]?=some en) (hQ: ∀h',h'.IsKeyIter it d (i+1) n ep->kU it s.heap h'->Q (some en.key) {s with heap:=h'}):wpAny (model prog w) A (pyNext (.ref it)) Q E s:=by
 obtain⟨o,ho,hc,hd⟩:=id hit
 unfold pyNext
 refine aj (zK (l4 (name:=iS "__next__") hit.typeIs nI
  (fS nI hit.typeIs S9 ?_ (S_ _))))
 refine aj (ay ?_)
 refine aj ?_
 refine aj ?_
 first|refine aj (zL hit.typeIs (ay ?_))|refine aj (zM hit.typeIs (ay ?_))
 refine aj (HL ho hd ?_)
 have hown:Ta "dict_keyiterator"=false:=by decide
 simp only[hown,dy,if_false]
 show wpAny _ _ (if (aP d == iN)=true then _ else _) _ _ s
 rw[if_neg (show ¬((aP d == iN)=true) from cY)]
 refine aj (ay ?_)
 refine aj (pW hod hdd ?_)
 rw[if_neg (by rw[hsz];simp)]
 refine aj (ay ?_)
 refine aj (HK hod hdd ?_)
 rw[if_neg (by simp)]
 refine ay ?_
 obtain⟨hlt',hen⟩:=Array.getElem?_eq_some_iff.mp hx
 simp only[show ¬((i:Int)<0) from by omega,if_false,nB,l_ hlt']
 refine aj ?_
 first|refine aj (zL hit.typeIs (ay ?_))|refine aj (zM hit.typeIs (ay ?_))
 refine aj (Tb hit.typeIs ?_)
 show wpAny _ _ (setField (.ref it) 1 (rawInt ((i:Int)+1)) >>= _) _ _ s
 refine aj (nJ ho hd (by simp) ?_)
 have hit':(s.heap.update it (pX (·.setIfInBounds 1 (rawInt ((i:Int)+1))))).IsKeyIter it d (i+1) n ep:=
  ⟨_,ma _ ho (tY (kX hd _)),(Tc ..).trans hc,by rw[kX hd];simp [rawInt]⟩
 refine aj (iR ?_)
 refine aj (Tb (s:={s with heap:=s.heap.update it (pX (·.setIfInBounds 1 (rawInt ((i:Int)+1))))}) hit'.typeIs ?_)
 show wpAny _ _ (pure es[i].key) _ _ _
 rw[hen]
 exact ay (ay ⟨_,rfl,ay (hQ _ hit' (jw ..))⟩)
theorem vi {it d:aa} {i n ep:Nat} {od:Obj} {es:Array jv} {Q:Option ac->af->Prop} (hh:A.handled=none) (hit:s.heap.IsKeyIter it d i n ep) (hod:s.heap.get? d=some od) (hdd:od.data= .dict es ep)
  (hsz:es.size=n) (hge:n<=i) (hQ: ∀h',HM it s.heap h'->Q none {s with heap:=h'}):wpAny (model prog w) A (pyNext (.ref it)) Q E s:=by
 obtain⟨o,ho,hc,hd⟩:=id hit
 unfold pyNext
 refine aj (zK (l4 (name:=iS "__next__") hit.typeIs nI
  (fS nI hit.typeIs S9 ?_ (S_ _))))
 refine aj (ay ?_)
 refine aj ?_
 refine aj ?_
 first|refine aj (zL hit.typeIs (ay ?_))|refine aj (zM hit.typeIs (ay ?_))
 refine aj (HL ho hd ?_)
 have hown:Ta "dict_keyiterator"=false:=by decide
 simp only[hown,dy,if_false]
 show wpAny _ _ (if (aP d == iN)=true then _ else _) _ _ s
 rw[if_neg (show ¬((aP d == iN)=true) from cY)]
 refine aj (ay ?_)
 refine aj (pW hod hdd ?_)
 rw[if_neg (by rw[hsz];simp)]
 refine aj (ay ?_)
 refine aj (HK hod hdd ?_)
 rw[if_neg (by simp)]
 refine ay ?_
 have hge':es.size<=i:=by rw[hsz];exact hge
 simp only[show ¬((i:Int)<0) from by omega,if_false,nB,l9 hge']
 refine aj ?_
 first|refine aj (zL hit.typeIs (ay ?_))|refine aj (zM hit.typeIs (ay ?_))
 show wpAny _ _ (setField (.ref it) 0 .none >>= _) _ _ s
 refine aj (nJ ho hd (by simp) ?_)
 show wpAny _ _ (newExc (.type "StopIteration") [] >>= _) _ _ _
 refine aj ?_
 simp only[newExc,newTuple]
 refine aj (hX ?_ (by size_fits))
 refine aj (m:=firstArgMember _ _) (nL (a:=iN) (by first|rfl|(simp only[firstArgMember];rfl)) ?_)
 refine hX ?_ (by size_fits)
 simp only[raiseNew]
 refine aj (HN ?_)
 rw[show A.in1.handled=none from hh]
 refine aj (ay (HP ?_))
 refine aj (HQ (T:="StopIteration") (b:=true) ⟨_,cw _ rfl,rfl⟩ Td ?_)
 exact ay (hQ _ (((jw ..).extBut.push _).push _))
end
theorem LS {κ:Type} {kvs:List (κ×V)} {vs:List (κ×ac)} (h:KV kvs vs): ∀{i:Nat} {k:κ} {v:V},kvs[i]?=some (k,v)-> ∃u,vs[i]?=some (k,u)/\RelV v u:=by
 unfold KV at h
 induction h with
 |nil=>intro i k v e;simp at e
 | @cons a b l₁ l₂ r t ih=>
  intro i k v e
  cases i with
  |zero=>
   simp only[HR,Te] at e
   subst e
   refine⟨b.2,?_,r.2⟩
   simp only[HR]
   exact congrArg some (Ss r.1.symm rfl)
  |succ j=>
   simp only[Tf] at e ⊢
   exact ih e
theorem LU {α β:Type} {G:α->β->Prop} {l₁:List α} {l₂:List β} (h:cb G l₁ l₂): ∀{i:Nat} {a:α},l₁[i]?=some a-> ∃b,l₂[i]?=some b/\G a b:=by
 induction h with
 |nil=>intro i a e;simp at e
 | @cons a b l₁ l₂ r t ih=>
  intro i a' e
  cases i with
  |zero=>
   simp only[HR,Te] at e
   subst e
   exact⟨b,rfl,r⟩
  |succ j=>
   simp only[Tf] at e ⊢
   exact ih e
theorem LV {k:Key} {u:ac} (h:kh k u=true):RelV (kV k) u:=by
 rcases i5 h with ⟨i,t,rfl,rfl⟩|⟨x,t,rfl,rfl⟩
 ·exact⟨t,rfl⟩
 ·exact⟨t,rfl⟩
section
variable {X:Cx} {pins:List (aa×Obj)} {σ:St} {H:Hp} {s:af} {d:aa} {o:Obj}
theorem Inv.vj {kvs:List (Key×V)} (I:Inv X pins σ H s) (h:H d=some (.bi o (.dK kvs))) :
  (d == sysModules)=false/\s.heap.get? d=some o/\o.ExactDict/\ ∃(es:Array jv) (ep:Nat) (vs:List (Key×ac)),o.data= .dict es ep/\es.size=kvs.length/\KV kvs vs/\s.heap.DictAt (cu X.prog X.w) d vs ep:=by
 obtain⟨hd,z,hs,vs,kv,o',es,ep,ho,hx,hdt,r⟩:=I.aB d _ h
 rw[hd] at ho
 cases ho
 refine⟨hs,hd,hx,es,ep,vs,hdt,?_,kv,o,es,hd,hx,hdt,r⟩
 have l1:=r.2.1.length
 have l2:kvs.length=vs.length:=dR kv
 rw[e_] at l1
 omega
theorem Inv.vk {kvs:List (List Key×V)} (I:Inv X pins σ H s) (h:H d=some (.bi o (.dT kvs))) :
  (d == sysModules)=false/\s.heap.get? d=some o/\o.ExactDict/\ ∃(es:Array jv) (ep:Nat),o.data= .dict es ep/\es.size=kvs.length /\
   ∀(i:Nat) (k:List Key) (v:V),kvs[i]?=some (k,v)-> ∃(en:jv) (q:aa),es[i]?=some en/\en.key= .ref q/\H q=some (.tup (k.map kV)):=by
 obtain⟨hd,z,hs,xs,pr,o',es,ep,ho,hx,hdt,he,_⟩:=I.aB d _ h
 rw[hd] at ho
 cases ho
 refine⟨hs,hd,hx,es,ep,hdt,?_,λi k v e=>?_⟩
 ·have l1:es.size=xs.length:=tZ he
  have l2:kvs.length=xs.length:=dR pr
  omega
 ·obtain⟨b,hb,e1,e2,_⟩:=LU pr e
  have q:=zN he i
  rw[hb] at q
  exact⟨_,b.2.1,q,rfl,e2⟩
end
def BI (d:aa) (o:Obj) (kvs:List (Key×V)):It:=
 ⟨λi H=>H d=some (.bi o (.dK kvs))/\i<kvs.length,λi H x H'=>H'=H/\ ∃k v,kvs[i]?=some (k,v)/\x=kV k,λi H=>H d=some (.bi o (.dK kvs))/\kvs.length<=i⟩
def BJ (d:aa) (o:Obj) (kvs:List (List Key×V)):It:=
 ⟨λi H=>H d=some (.bi o (.dT kvs))/\i<kvs.length,λi H x H'=>H'=H/\ ∃(k:List Key) (v:V) (q:aa),kvs[i]?=some (k,v)/\x= .ref q/\H q=some (.tup (k.map kV)),λi H=>H d=some (.bi o (.dT kvs))/\kvs.length<=i⟩
theorem qV {o:Obj} {es es':Array jv} {ep ep':Nat} (h:o.data= .dict es ep) (h':o.data= .dict es' ep'):es'=es/\ep'=ep:=by
 rw[h] at h'
 cases h'
 exact⟨rfl,rfl⟩
section
variable {P:aI} {w:aE} {K:aA} {tg:ao} {d:aa} {o:Obj} {es:Array jv} {ep:Nat}
theorem LW {kvs:List (Key×V)} (it:aa) (hod:o.data= .dict es ep):Turn P w K tg (BI d o kvs) [it] it (λi h=>h.IsKeyIter it d i kvs.length ep) where
 mem:=by simp
 obj:=λi h st b hb=>by
  have e:b=it:=by simpa using hb
  subst e
  obtain⟨oi,e,c,dd⟩:=st
  exact⟨oi,e,λv z=>by rw[dd] at z;cases z⟩
 keep:=λi h h' st k=>st.at λoi e=>k it (by simp) oi e
 item:=by
  intro X hP hw hK hc i pins s σ H E I hf st hg
  subst hP hw hK
  obtain⟨hd,hi⟩:=hg
  obtain⟨f0,f1,f2,f3,f4,f5⟩:=hf it (by simp)
  obtain⟨hs,hgd,hx,es',ep',vs,hdt,hsz,kv,hm⟩:=I.vj hd
  obtain⟨rfl,rfl⟩:=qV hod hdt
  obtain⟨⟨k,v⟩,hkv⟩: ∃p,kvs[i]?=some p:=⟨kvs[i],b8 hi⟩
  obtain⟨u,hu,ru⟩:=LS kv hkv
  have hl:kvs.length=vs.length:=dR kv
  rw[hl] at st
  refine wpAny_pyNext_dict_item st hm hu λkey h' hkey st' sb=>?_
  have I1:Inv X pins σ H {s with heap:=h'}:=I.turned (t':=s.toks) (λb ob hb e=>(sb.2 b hb).trans e) f0 f1 f3 f4 f5
  obtain⟨oi,e,c,dd⟩:=id st'
  refine⟨key,rfl,om (s:={s with heap:=h'}) e c dd (by decide) ⟨kV k,H,I1,LV (show kh k key=true from hkey),⟨rfl,k,v,hkv,rfl⟩,?_,λb hb=>(hf b hb).1⟩⟩
  show h'.IsKeyIter it d (i+1) kvs.length _
  rw[hl]
  exact st'
 done:=by
  intro X hP hw hK hc i pins s σ H E I hf st hg
  subst hP hw hK
  obtain⟨hd,hi⟩:=hg
  obtain⟨f0,f1,f2,f3,f4,f5⟩:=hf it (by simp)
  obtain⟨hs,hgd,hx,es',ep',vs,hdt,hsz,kv,hm⟩:=I.vj hd
  obtain⟨rfl,rfl⟩:=qV hod hdt
  exact vi (I.ok.hd hc) st hgd hdt hsz hi λh' eb=>⟨rfl,I.turned (t':=s.toks) (λb ob hb e=>eb b ob hb e) f0 f1 f3 f4 f5⟩
 self:=λA i s Q E st h=>wpAny_pyIter_keyiter st h
theorem LX {kvs:List (List Key×V)} (it:aa) (hod:o.data= .dict es ep):Turn P w K tg (BJ d o kvs) [it] it (λi h=>h.IsKeyIter it d i kvs.length ep) where
 mem:=by simp
 obj:=λi h st b hb=>by
  have e:b=it:=by simpa using hb
  subst e
  obtain⟨oi,e,c,dd⟩:=st
  exact⟨oi,e,λv z=>by rw[dd] at z;cases z⟩
 keep:=λi h h' st k=>st.at λoi e=>k it (by simp) oi e
 item:=by
  intro X hP hw hK hc i pins s σ H E I hf st hg
  subst hP hw hK
  obtain⟨hd,hi⟩:=hg
  obtain⟨f0,f1,f2,f3,f4,f5⟩:=hf it (by simp)
  obtain⟨hs,hgd,hx,es',ep',hdt,hsz,ent⟩:=I.vk hd
  obtain⟨rfl,rfl⟩:=qV hod hdt
  obtain⟨⟨k,v⟩,hkv⟩: ∃p,kvs[i]?=some p:=⟨kvs[i],b8 hi⟩
  obtain⟨en,q,hen,hkey,hq⟩:=ent i k v hkv
  refine BH st hgd hdt hsz hen λh' st' sb=>?_
  have I1:Inv X pins σ H {s with heap:=h'}:=I.turned (t':=s.toks) (λb ob hb e=>(sb.2 b hb).trans e) f0 f1 f3 f4 f5
  obtain⟨oi,e,c,dd⟩:=id st'
  exact⟨en.key,rfl,om (s:={s with heap:=h'}) e c dd (by decide) ⟨.ref q,H,I1,hkey,⟨rfl,k,v,q,hkv,rfl,hq⟩,st',λb hb=>(hf b hb).1⟩⟩
 done:=by
  intro X hP hw hK hc i pins s σ H E I hf st hg
  subst hP hw hK
  obtain⟨hd,hi⟩:=hg
  obtain⟨f0,f1,f2,f3,f4,f5⟩:=hf it (by simp)
  obtain⟨hs,hgd,hx,es',ep',hdt,hsz,ent⟩:=I.vk hd
  obtain⟨rfl,rfl⟩:=qV hod hdt
  exact vi (I.ok.hd hc) st hgd hdt hsz hi λh' eb=>⟨rfl,I.turned (t':=s.toks) (λb ob hb e=>eb b ob hb e) f0 f1 f3 f4 f5⟩
 self:=λA i s Q E st h=>by
  refine tX st.typeIs zO (fS zO st.typeIs Tg ?_ (Th _))
  show wpAny _ _ (ret (.ref it)) _ _ s
  exact ay ⟨_,rfl,"dict_keyiterator",_,st.typeIs,nI.lookup,h⟩
end
def vm (td:TE):TI:=λσ H R=>td σ H λx H1=> ∃d o,x= .ref d/\((∃kvs,H1 d=some (.bi o (.dK kvs))/\R (BI d o kvs) H1)∨ ∃kvs,H1 d=some (.bi o (.dT kvs))/\R (BJ d o kvs) H1)
section
variable {X:Cx} {tg e:ao} {td:TE} {apos cpos:Pos}
theorem LY (he:PE X e td):PI X tg e (vm td):=by
 intro pins s σ H R I h
 refine aJ (he pins s σ H _ I h) λu s1 ⟨x,H1,I1,rx,d,o,ex,q⟩=>?_
 subst ex
 obtain rfl:u=aP d:=rx
 rcases q with ⟨kvs,hd,q⟩|⟨kvs,hd,q⟩
 ·obtain⟨hs,hgd,hx,es,ep,vs,hdt,hsz,kv,hm⟩:=I1.vj hd
  refine vh hs hgd hx hdt (qU (tk:=s1.toks) I1 _ (LW _ hdt) ⟨_,cw _ rfl,rfl,?_⟩ q)
  rw[hsz] <;> rfl
 ·obtain⟨hs,hgd,hx,es,ep,hdt,hsz,ent⟩:=I1.vk hd
  refine vh hs hgd hx hdt (qU (tk:=s1.toks) I1 _ (LX _ hdt) ⟨_,cw _ rfl,rfl,?_⟩ q)
  rw[hsz] <;> rfl
end
def oO (K:aA) (a:aa):It:=
 ⟨λi H=> ∃(xs:List V) (x:V),bN K H a xs/\xs[i]?=some x,λi H v H'=> ∃T x,v= .ref T/\H T=none/\H'=upd H T (.tup [.int (i:Nat),x])/\ ∀xs,bN K H a xs->xs[i]?=some x,λi H=> ∃xs:List V,bN K H a xs/\xs.length<=i⟩
theorem LZ {P:aI} {w:aE} {K:aA} {elts:List ao} {kk:Nat} {tpos:Pos} (a e it:aa) :
  Turn P w K (.Tuple elts kk tpos) (oO K a) [e,it] e (λi h=>(∃old,IsEnum h e it ((i:Nat):Int) old)/\h.IsListIter it a i/\e≠it) where
 mem:=by simp
 obj:=λi h st b hb=>by
  obtain⟨⟨old,he⟩,⟨o,ho,hc,hd⟩,_⟩:=st
  have e':b=e∨b=it:=by simpa using hb
  rcases e' with z|z
  ·rw[z];exact⟨_,he,λv q=>nomatch q⟩
  ·rw[z];exact⟨o,ho,λv q=>by rw[hd] at q;cases q⟩
 keep:=λi h h' st k=>let ⟨⟨old,he⟩,hi,hne⟩:=st;⟨⟨old,k e (by simp) _ he⟩,hi.at λo q=>k it (by simp) o q,hne⟩
 item:=by
  intro X hP hw hK hc i pins s σ H E I hf st hg
  subst hP hw hK
  obtain⟨⟨old,he⟩,hit,hne⟩:=st
  obtain⟨xs,x,hq,hx⟩:=hg
  obtain⟨its,rv,p,hz⟩:=I.list hq
  obtain⟨u,hu,ru⟩:=rv.get hx
  have hel:e<s.heap.objs.size:=bL he
  have hil:it<s.heap.objs.size:=by obtain⟨_,q,_⟩:=hit;exact bL q
  refine wpAny_pyNext_enum_item he hit p.isList (x:=u) (by simpa using hu) hne λh' ho hit' hT hsz hk=>?_
  refine⟨_,rfl,Ti (s:={s with heap:=h',toks:=s.toks+1}) ho λh'' he' sb=>?_⟩
  have hT2:h''.get? s.heap.objs.size=some {cls:= .type "tuple",data:= .seq #[.int i s.toks,u]}:=(sb.2 _ (zk hel)).trans hT
  have new:cz X.prog X.w (upd H s.heap.objs.size (.tup [.int (i:Nat),x])) h'' s.heap.objs.size (.tup [.int (i:Nat),x]):=
   ⟨by show 2<=sizeLine;decide,[.int i s.toks,u],.cons ⟨_,rfl⟩ (.cons ru .nil),⟨_,hT2,rfl,_,rfl⟩,_,hT2,rfl,rfl⟩
  have I1:Inv X pins σ (upd H s.heap.objs.size (.tup [.int (i:Nat),x])) {s with heap:=h'',toks:=s.toks+1}:=
   I.BD (ch:=[e,it]) (λb ob hb q=>(sb.2 b (λz=>hb (by simp [z]))).trans (hk b ob (λz=>hb (by simp [z])) (λz=>hb (by simp [z])) q)) hf (aW _) new
  refine⟨.ref s.heap.objs.size,_,I1,rfl,⟨_,x,rfl,I.aB.fresh (aW _),rfl,λys hy=>by rw[I.Aw hy hq];exact hx⟩,⟨⟨u,?_⟩,hit'.at λo q=>(sb.2 it (dw hne)).trans q,hne⟩,λb hb=>?_⟩
  ·have e1:((i+1:Nat):Int)=(i:Int)+1:=by omega
   rw[e1];exact he'
  ·have hb':b<s.heap.objs.size:=by
    have e':b=e∨b=it:=by simpa using hb
    rcases e' with z|z
    ·rw[z];exact hel
    ·rw[z];exact hil
   rw[az (cX hb')]
   exact(hf b hb).1
 done:=by
  intro X hP hw hK hc i pins s σ H E I hf st hg
  subst hP hw hK
  obtain⟨⟨old,he⟩,hit,hne⟩:=st
  obtain⟨xs,hq,hx⟩:=hg
  obtain⟨its,rv,p,hz⟩:=I.list hq
  obtain⟨f0,f1,f2,f3,f4,f5⟩:=hf it (by simp)
  have hl:=rv.length
  exact wpAny_pyNext_enum_end (I.ok.hd hc) he hit p.isList (by simp;omega) λh' eb=>⟨rfl,I.turned (t':=s.toks) (λb o hb q=>eb b o hb q) f0 f1 f3 f4 f5⟩
 self:=λA i s Q E st h=>let ⟨⟨_,he⟩,_⟩:=st;zP he h
def L0 (K:aA) (ta:TA):TI:=λσ H R=>ta σ H λvs H1=> ∃a xs,vs=[.ref a]/\bN K H1 a xs/\R (oO K a) H1
theorem L1 {X:Cx} {e:ao} {ta:TA} {p pos tpos:Pos} {elts:List ao} {kk:Nat} (hg:Gl X "enumerate") (hm:X.mg "enumerate"=none) (ha:PA X [e] ta) (hs:starEach [e] X.env=[(false,eval e X.env)]:=by rfl) :
  PI X (.Tuple elts kk tpos) (.Call (.Name "enumerate" p) [e] [] pos) (L0 X.K ta):=by
 intro pins s σ H R I h
 refine Call_ (qx I hg hm Tj (Hv (aJ (ha pos pins s σ H _ I h) λus s1 ⟨vs,H1,I1,r1,q1⟩=>?_) hs rfl))
 obtain⟨a,xs,ex,hq,q⟩:=q1
 subst ex
 cases r1 with
 |cons r rr=>
  cases rr
  cases r
  obtain⟨its,rv,p',hz⟩:=I1.list hq
  refine call_enumerate_list p'.isList λh' he hit hsz hk=>zP he ?_
  have I2:Inv X pins σ H1 {s1 with heap:=h'}:=I1.kept (t':=s1.toks) hk
  refine⟨s1.heap.objs.size+1,[s1.heap.objs.size+1,s1.heap.objs.size],_,_,H1,rfl,I2,LZ a (s1.heap.objs.size+1) s1.heap.objs.size,⟨⟨.none,he⟩,hit,Tk _⟩,λb hb=>?_,q⟩
  have e':b=s1.heap.objs.size+1∨b=s1.heap.objs.size:=by simpa using hb
  have hle:s1.heap.objs.size<=b:=by
   rcases e' with z|z
   ·rw[z];exact Tl _ _
   ·rw[z];exact aW _
  exact I1.mv hle (I1.aB.fresh hle)
end L2
section
namespace L2
open PySem PySem.Spec PyProof.Rows
open PySem.W (WData Codec OpenSpec Well WellAll ReadsW ReadsAllW)
mutual
inductive Dw (K:aA) (H:Hp):V->dD->Prop
 |a9:Dw K H .a9 .none
 |bl (b:Bool):Dw K H (.bl b) (.bool b)
 |int (i:Int):Dw K H (.int i) (.int i)
 |str (x:Str):Dw K H (.str x) (.str x)
 |eU (b:Array UInt8):Dw K H (.eU b) (.bytes b.toList)
 |lst {a:aa} {xs:List V} {ds:List dD}:bN K H a xs->gR K H xs ds->Dw K H (.ref a) (.list ds)
 |tup {a:aa} {xs:List V} {ds:List dD}:bE K H a xs->gR K H xs ds->Dw K H (.ref a) (.tuple ds)
inductive gR (K:aA) (H:Hp):List V->List dD->Prop
 |nil:gR K H [] []
 |cons {v:V} {vs:List V} {d:dD} {ds:List dD}:Dw K H v d->gR K H vs ds->gR K H (v::vs) (d::ds)
end
theorem BK {K:aA} {H:Hp}: ∀ns:List Int,gR K H (ns.map V.int) (ns.map Tn)
 | []=> .nil
 |n::r=> .cons (.int n) (BK r)
theorem BL {K:aA} {H:Hp}: ∀(ns:List Int) (xs:List V),gR K H xs (ns.map Tn)->xs=ns.map V.int
 | [],xs,h=>by
  cases h
  rfl
 |n::r,xs,h=>by
  cases h with
  |cons h1 h2=>
   cases h1
   rw[BL r _ h2] <;> rfl
section
variable {P:aI} {w:aE} {K:aA} {H:Hp} {h:aF} {R:To} {cl:Str->Option aa}
theorem L3 {a:aa} {xs:List V} (aB:cg P w H h) (KX:K.In h) (q:bN K H a xs): ∃(its:List ac) (o:Obj) (n:Nat),Vals xs its/\h.get? a=some o/\o.cls= .type "list"/\o.data= .seq its.toArray n:=by
 rcases q with q|⟨o,its,n,e,hc,_,hd,_,hv⟩
 ·obtain⟨_,its,n,hv,e⟩:=(show cz P w H h a (.lst xs) from q.ok aB)
  exact⟨its,_,n,hv,e,rfl,rfl⟩
 ·exact⟨its.toList,o,n,hv,KX _ _ e,hc,by simp [hd]⟩
theorem L4 {a:aa} {xs:List V} (aB:cg P w H h) (KX:K.In h) (q:bE K H a xs): ∃(its:List ac) (o:Obj) (n:Nat),Vals xs its/\h.get? a=some o/\o.cls= .type "tuple"/\o.data= .seq its.toArray n:=by
 rcases q with q|⟨o,its,n,e,hc,hd,_,hv⟩
 ·obtain⟨_,its,hv,⟨o,e,hc,n,hd⟩,_⟩:=(show cz P w H h a (.tup xs) from q.ok aB)
  exact⟨its,o,n,hv,e,hc,hd⟩
 ·exact⟨its.toList,o,n,hv,KX _ _ e,hc,by simp [hd]⟩
mutual
theorem Dw.reads (aB:cg P w H h) (KX:K.In h): ∀(d:dD) (v:V) (u:ac),Dw K H v d->RelV v u-> ∃as,ReadsW R cl h u d as
 | .none,_,_,x,r=>by
  cases x
  cases r
  exact⟨_,ReadsW.none⟩
 | .bool b,_,_,x,r=>by
  cases x
  cases r
  exact⟨_,ReadsW.bool b⟩
 | .int i,_,_,x,r=>by
  cases x
  obtain⟨t,rfl⟩:=r
  exact⟨_,ReadsW.int i t⟩
 | .str s,_,_,x,r=>by
  cases x
  obtain⟨t,rfl⟩:=r
  exact⟨_,ReadsW.str s t⟩
 | .bytes b,_,_,x,r=>by
  cases x
  obtain⟨t,rfl⟩:=r
  exact⟨_,ReadsW.bytes _ t⟩
 | .list ds,_,_,x,r=>by
  cases x with
  |lst hs ha=>
   cases r
   obtain⟨its,o,n,rv,ho,hc,hd⟩:=L3 aB KX hs
   obtain⟨as,hr⟩:=Dw.readsAll aB KX ds _ its ha rv
   exact⟨_,ReadsW.list ho hc hd hr⟩
 | .tuple ds,_,_,x,r=>by
  cases x with
  |tup hs ha=>
   cases r
   obtain⟨its,o,n,rv,ho,hc,hd⟩:=L4 aB KX hs
   obtain⟨as,hr⟩:=Dw.readsAll aB KX ds _ its ha rv
   exact⟨_,ReadsW.tuple ho hc hd hr⟩
 | .float _,_,_,x,_=>by cases x
 | .dict _,_,_,x,_=>by cases x
 | .bytearray _,_,_,x,_=>by cases x
 | .set _,_,_,x,_=>by cases x
 | .frozenset _,_,_,x,_=>by cases x
 | .obj _ _,_,_,x,_=>by cases x
theorem Dw.readsAll (aB:cg P w H h) (KX:K.In h): ∀(ds:List dD) (vs:List V) (us:List ac),gR K H vs ds->Vals vs us-> ∃as,ReadsAllW R cl h us ds as
 | [],_,_,x,r=>by
  cases x
  cases r
  exact⟨_,ReadsAllW.nil⟩
 |d::ds,_,_,x,r=>by
  cases x with
  |cons h1 h2=>
   cases r with
   |cons r1 r2=>
    obtain⟨as,q1⟩:=Dw.reads aB KX d _ _ h1 r1
    obtain⟨bs,q2⟩:=Dw.readsAll aB KX ds _ _ h2 r2
    exact⟨_,ReadsAllW.cons q1 q2⟩
end
end
mutual
def fY:dD->Bool
 | .none=>true
 | .bool _=>true
 | .int _=>true
 | .str _=>true
 | .bytes _=>true
 | .list xs=>gS xs
 | .tuple xs=>gS xs
 |_=>false
def gS:List dD->Bool
 | []=>true
 |x::r=>fY x && gS r
end
theorem BM {α:Type} {f:α->dD} (h: ∀a,fY (f a)=true): ∀l:List α,gS (l.map f)=true
 | []=>rfl
 |x::r=>by
  show (fY (f x) && gS (r.map f))=true
  rw[h x,BM h r] <;> rfl
theorem ku: ∀(c:Codec) (a:c.denote),fY (c.enc a)=true
 | .unit,_=>rfl
 | .bool,_=>rfl
 | .int _ _,_=>rfl
 | .nat _ _,_=>rfl
 | .u8,_=>rfl
 | .bytes _ _,_=>rfl
 | .text _ _ _ _,_=>rfl
 | .list _ _ c,a=>BM (λx=>ku c x) a
 | .pair c d,a=>by
  show (fY (c.enc a.1) && (fY (d.enc a.2) && true))=true
  rw[ku c a.1,ku d a.2] <;> rfl
 | .triple c d e,a=>by
  show (fY (c.enc a.1) && (fY (d.enc a.2.1) && (fY (e.enc a.2.2) && true)))=true
  rw[ku c a.1,ku d a.2.1,ku e a.2.2] <;> rfl
 | .option c,none=>rfl
 | .option c,some x=>ku c x
theorem BN: ∀(cs:List Codec) (a:zQ cs),gS (pY cs a)=true
 | [],_=>rfl
 |c::cs,a=>by
  show (fY (c.enc a.1) && gS (pY cs a.2))=true
  rw[ku c a.1,BN cs a.2] <;> rfl
theorem vn: ∀{xs:List dD} {d:dD},d∈xs->d.weight<=zR xs
 | [],d,h=>absurd h (by simp)
 |x::r,d,h=>by
  show d.weight<=x.weight+1+zR r
  rcases be.mp h with e|m
  ·rw[e]
   omega
  ·have z:=vn m
   omega
def toV:ac->V
 | .none=> .a9
 | .bool b=> .bl b
 | .int i _=> .int i
 | .str x _=> .str x
 | .bytes b _=> .eU b
 | .ref a=> .ref a
 |_=> .a9
def gE (A:List aa):ac->Prop
 | .none=>True
 | .bool _=>True
 | .int _ _=>True
 | .str _ _=>True
 | .bytes _ _=>True
 | .ref a=>a∈A
 |_=>False
theorem gE.mono {A B:List aa} (h: ∀a∈A,a∈B): ∀{u:ac},gE A u->gE B u:=λ{u} x=>by
 cases u with
 |ref a=>exact h a x
 |none=>trivial
 |bool b=>trivial
 |int i t=>trivial
 |str s t=>trivial
 |bytes b t=>trivial
 |_=>exact fm x
theorem L5 {A:List aa} {u:ac} (x:gE A u):RelV (toV u) u:=by
 cases u with
 |ref a=>rfl
 |none=>rfl
 |bool b=>rfl
 |int i t=>exact⟨t,rfl⟩
 |str s t=>exact⟨t,rfl⟩
 |bytes b t=>exact⟨t,rfl⟩
 |_=>exact fm x
theorem mD {A:List aa}: ∀{vs:List ac},(∀u∈vs,gE A u)->Vals (vs.map toV) vs
 | [],_=> .nil
 |u::r,h=> .cons (L5 (h u (bB ..))) (mD λx hx=>h x (bq _ hx))
def gT (h:aF) (A:List aa) (a:aa):Prop:= ∃vs:List ac,vs.length<=sizeLine/\(∀u∈vs,gE A u) /\
 (h.get? a=some {cls:= .type "list",data:= .seq vs.toArray}∨h.get? a=some {cls:= .type "tuple",data:= .seq vs.toArray})
theorem gT.mono {h:aF} {A B:List aa} {a:aa} (k: ∀a∈A,a∈B) (x:gT h A a):gT h B a:=by
 obtain⟨vs,h1,h2,h3⟩:=x
 exact⟨vs,h1,λu hu=>(h2 u hu).mono k,h3⟩
theorem qW {P:kY} {h:aF}: ∀{vs:List ac} {ds:List dD},md P h vs ds->vs.length=ds.length
 |_,_,.nil=>rfl
 |_,_,.cons _ b=>by
  show _+1=_+1
  rw[qW b]
theorem BO {P:kY} {h:aF} {v:ac} {ds:List dD} (x:Well P h v (.list ds)): ∃(a:aa) (vs:List ac),v= .ref a/\h.get? a=some {cls:= .type "list",data:= .seq vs.toArray}/\md P h vs ds:=by
 cases x with
 |list ho hall=>exact⟨_,_,rfl,ho,hall⟩
theorem BP {P:kY} {h:aF} {v:ac} {ds:List dD} (x:Well P h v (.tuple ds)): ∃(a:aa) (vs:List ac),v= .ref a/\h.get? a=some {cls:= .type "tuple",data:= .seq vs.toArray}/\md P h vs ds:=by
 cases x with
 |tuple ho hall=>exact⟨_,_,rfl,ho,hall⟩
theorem BQ {P:kY} {h:aF} {us:List ac} {d:dD} {ds:List dD} (x:md P h us (d::ds)): ∃(v:ac) (vs:List ac),us=v::vs/\Well P h v d/\md P h vs ds:=by
 cases x with
 |cons a b=>exact⟨_,_,rfl,a,b⟩
theorem BR {n:Nat} (h:n<=1048576):n<=sizeLine:=bM h (by decide)
section
variable {P:kY} {h:aF}
mutual
theorem L6: ∀(d:dD) (v:ac),Well P h v d->fY d=true->d.weight<=1048576-> ∃A:List aa,gE A v/\ ∀a∈A,gT h A a
 | .none,_,x,_,_=>by
  cases x
  exact⟨[],trivial,λa m=>absurd m (by simp)⟩
 | .bool b,_,x,_,_=>by
  cases x
  exact⟨[],trivial,λa m=>absurd m (by simp)⟩
 | .int i,_,x,_,_=>by
  cases x
  exact⟨[],trivial,λa m=>absurd m (by simp)⟩
 | .str s,_,x,_,_=>by
  cases x
  exact⟨[],trivial,λa m=>absurd m (by simp)⟩
 | .bytes b,_,x,_,_=>by
  cases x
  exact⟨[],trivial,λa m=>absurd m (by simp)⟩
 | .list ds,_,x,p,z=>by
  obtain⟨a,vs,rfl,ho,hall⟩:=BO x
  have z2:zR ds<=1048576:=z
  obtain⟨A,h1,h2⟩:=qX ds _ hall p λd hd=>bM (vn hd) z2
  have k: ∀b∈A,b∈a::A:=λb hb=>bq _ hb
  refine⟨a::A,bB ..,λb hb=>?_⟩
  rcases be.mp hb with e|m
  ·rw[e]
   exact⟨vs,BR (by rw[qW hall];exact bM (Tp ds) z2),λu hu=>(h1 u hu).mono k,.inl ho⟩
  ·exact(h2 b m).mono k
 | .tuple ds,_,x,p,z=>by
  obtain⟨a,vs,rfl,ho,hall⟩:=BP x
  have z2:zR ds<=1048576:=z
  obtain⟨A,h1,h2⟩:=qX ds _ hall p λd hd=>bM (vn hd) z2
  have k: ∀b∈A,b∈a::A:=λb hb=>bq _ hb
  refine⟨a::A,bB ..,λb hb=>?_⟩
  rcases be.mp hb with e|m
  ·rw[e]
   exact⟨vs,BR (by rw[qW hall];exact bM (Tp ds) z2),λu hu=>(h1 u hu).mono k,.inr ho⟩
  ·exact(h2 b m).mono k
 | .float _,_,_,p,_=>h_ (show false=true from p)
 | .dict _,_,_,p,_=>h_ (show false=true from p)
 | .bytearray _,_,_,p,_=>h_ (show false=true from p)
 | .set _,_,_,p,_=>h_ (show false=true from p)
 | .frozenset _,_,_,p,_=>h_ (show false=true from p)
 | .obj _ _,_,_,p,_=>h_ (show false=true from p)
theorem qX: ∀(ds:List dD) (vs:List ac),md P h vs ds->gS ds=true->(∀d∈ds,d.weight<=1048576)-> ∃A:List aa,(∀u∈vs,gE A u)/\ ∀a∈A,gT h A a
 | [],_,x,_,_=>by
  cases x
  exact⟨[],λu m=>absurd m (by simp),λa m=>absurd m (by simp)⟩
 |d::ds,_,x,p,z=>by
  obtain⟨v,vs,rfl,x1,x2⟩:=BQ x
  have q:fY d=true/\gS ds=true:=Bool.and_eq_true_iff.mp p
  obtain⟨A,a1,a2⟩:=L6 d v x1 q.1 (z d (bB ..))
  obtain⟨B,b1,b2⟩:=qX ds vs x2 q.2 λe he=>z e (bq _ he)
  have kA: ∀b∈A,b∈A++B:=λb hb=>bP.mpr (.inl hb)
  have kB: ∀b∈B,b∈A++B:=λb hb=>bP.mpr (.inr hb)
  refine⟨A++B,λu hu=>?_,λb hb=>?_⟩
  ·rcases be.mp hu with e|m
   ·rw[e]
    exact a1.mono kA
   ·exact(b1 u m).mono kB
  ·rcases bP.mp hb with m|m
   ·exact(a2 b m).mono kA
   ·exact(b2 b m).mono kB
end
end
def qY (o:Obj):Option HO:=match o.data with
 | .seq vs _=>if (o.cls == jq "list")=true then some (.bi o (.lst (vs.toList.map toV))) else some (.bi o (.tup (vs.toList.map toV)))
 |_=>none
def d_ (K:aA) (h:aF) (A:List aa):Hp:=λb=>if b∈A then (if (K.lookup b).isNone=true then (h.get? b).bind qY else none) else none
def oP (H:Hp):Prop:= ∀b,H b=none∨ ∃o u,H b=some (.bi o u)
theorem BS (vs:List ac):qY {cls:= .type "list",data:= .seq vs.toArray}=some (.bi {cls:= .type "list",data:= .seq vs.toArray} (.lst (vs.map toV))):=by
 show (if (jq "list" == jq "list")=true then some (HO.bi {cls:= .type "list",data:= .seq vs.toArray} (.lst (vs.toArray.toList.map toV))) else some (HO.bi {cls:= .type "list",data:= .seq vs.toArray} (.tup (vs.toArray.toList.map toV))))=_
 rw[if_pos (beq_self_eq_true _)]
theorem BU (vs:List ac):qY {cls:= .type "tuple",data:= .seq vs.toArray}=some (.bi {cls:= .type "tuple",data:= .seq vs.toArray} (.tup (vs.map toV))):=by
 show (if (jq "tuple" == jq "list")=true then some (HO.bi {cls:= .type "tuple",data:= .seq vs.toArray} (.lst (vs.toArray.toList.map toV))) else some (HO.bi {cls:= .type "tuple",data:= .seq vs.toArray} (.tup (vs.toArray.toList.map toV))))=_
 rw[if_neg (by decide)]
section
variable {P:aI} {w:aE} {K:aA} {h:aF} {A:List aa}
theorem qZ {b:aa} {o:Obj} (hb:b∈A) (hk:K.lookup b=none) (e:h.get? b=some o):d_ K h A b=qY o:=by
 unfold d_
 rw[if_pos hb,hk,if_pos (show (none:Option Obj).isNone=true from rfl),e] <;> rfl
theorem L7 {b:aa} {u:HO} (q:d_ K h A b=some u):b∈A/\K.lookup b=none:=by
 unfold d_ at q
 by_cases hb:b∈A
 ·rw[if_pos hb] at q
  cases hk:K.lookup b with
  |none=>exact⟨hb,rfl⟩
  |some o=>
   rw[hk,if_neg (by simp)] at q
   cases q
 ·rw[if_neg hb] at q
  cases q
theorem q_ (ar: ∀a∈A,gT h A a) {b:aa} {u:HO} (q:d_ K h A b=some u):K.lookup b=none/\ ∃vs:List ac,vs.length<=sizeLine/\(∀u∈vs,gE A u) /\
    ((h.get? b=some {cls:= .type "list",data:= .seq vs.toArray}/\u= .bi {cls:= .type "list",data:= .seq vs.toArray} (.lst (vs.map toV))) ∨
     (h.get? b=some {cls:= .type "tuple",data:= .seq vs.toArray}/\u= .bi {cls:= .type "tuple",data:= .seq vs.toArray} (.tup (vs.map toV)))):=by
  obtain⟨hb,hk⟩:=L7 q
  obtain⟨vs,h1,h2,h3⟩:=ar b hb
  refine⟨hk,vs,h1,h2,?_⟩
  rcases h3 with e|e
  · rw[qZ hb hk e,BS] at q
    exact .inl ⟨e,(cJ q).symm⟩
  · rw[qZ hb hk e,BU] at q
    exact .inr ⟨e,(cJ q).symm⟩
theorem L8 (ar: ∀a∈A,gT h A a):oP (d_ K h A):=λb=>by
 cases q:d_ K h A b with
 |none=>exact .inl rfl
 |some u=>
  obtain⟨_,vs,_,_,⟨_,e⟩|⟨_,e⟩⟩:=q_ ar q
  ·exact .inr ⟨_,_,by rw[e]⟩
  ·exact .inr ⟨_,_,by rw[e]⟩
theorem L9 (ar: ∀a∈A,gT h A a):cg P w (d_ K h A) h:=λb u q=>by
 obtain⟨_,vs,h1,h2,⟨e,rfl⟩|⟨e,rfl⟩⟩:=q_ ar q
 ·exact⟨e,by rw[aC];exact h1,vs,_,mD h2,e⟩
 ·exact⟨e,by rw[aC];exact h1,vs,mD h2,⟨_,e,rfl,_,rfl⟩,_,e,rfl,rfl⟩
theorem rb {c c':ac} {vs us:List ac} (e:(some {cls:=c,data:= .seq vs.toArray}:Option Obj)=some {cls:=c',data:= .seq us.toArray}):c=c'/\vs=us:=by
 have e1:=cJ e
 have e2:c=c':=congrArg Obj.cls e1
 have e3:zS vs.toArray=zS us.toArray:=congrArg Obj.data e1
 injection e3 with e4
 refine⟨e2,?_⟩
 have e5:=congrArg zh e4
 simpa using e5
theorem L_ (KX:K.In h) (ar: ∀a∈A,gT h A a) {a:aa} {vs:List ac} (ha:a∈A) (e:h.get? a=some {cls:= .type "list",data:= .seq vs.toArray}):(∀u∈vs,gE A u)/\bN K (d_ K h A) a (vs.map toV):=by
 obtain⟨us,h1,h2,h3⟩:=ar a ha
 have hu:us=vs:=by
  rcases h3 with q|q
  ·rw[e] at q
   exact(rb q).2.symm
  ·rw[e] at q
   exact absurd (t_ (rb q).1) (by decide)
 subst hu
 refine⟨h2,?_⟩
 cases hk:K.lookup a with
 |none=>exact .inl (.inr ⟨_,by rw[qZ ha hk e,BS]⟩)
 |some o=>
  have e2:=KX a o hk
  rw[e] at e2
  obtain rfl:=cJ e2
  exact .inr ⟨_,us.toArray,_,hk,rfl,rfl,rfl,by rw[bQ];exact h1,by simpa using mD h2⟩
theorem Ma (KX:K.In h) (ar: ∀a∈A,gT h A a) {a:aa} {vs:List ac} (ha:a∈A) (e:h.get? a=some {cls:= .type "tuple",data:= .seq vs.toArray}):(∀u∈vs,gE A u)/\bE K (d_ K h A) a (vs.map toV):=by
 obtain⟨us,h1,h2,h3⟩:=ar a ha
 have hu:us=vs:=by
  rcases h3 with q|q
  ·rw[e] at q
   exact absurd (t_ (rb q).1) (by decide)
  ·rw[e] at q
   exact(rb q).2.symm
 subst hu
 refine⟨h2,?_⟩
 cases hk:K.lookup a with
 |none=>exact .inl (.inr ⟨_,by rw[qZ ha hk e,BU]⟩)
 |some o=>
  have e2:=KX a o hk
  rw[e] at e2
  obtain rfl:=cJ e2
  exact .inr ⟨_,us.toArray,_,hk,rfl,rfl,by rw[bQ];exact h1,by simpa using mD h2⟩
mutual
theorem Mb {Pm:kY} (KX:K.In h) (ar: ∀a∈A,gT h A a): ∀(d:dD) (v:ac),Well Pm h v d->fY d=true->gE A v->Dw K (d_ K h A) (toV v) d
 | .none,_,x,_,_=>by
  cases x
  exact .a9
 | .bool b,_,x,_,_=>by
  cases x
  exact .bl b
 | .int i,_,x,_,_=>by
  cases x
  exact .int i
 | .str s,_,x,_,_=>by
  cases x
  exact .str s
 | .bytes b,_,x,_,_=>by
  cases x
  have z:=Dw.eU (K:=K) (H:=d_ K h A) b.toArray
  exact z
 | .list ds,_,x,p,hu=>by
  obtain⟨a,vs,rfl,ho,hall⟩:=BO x
  obtain⟨h2,hs⟩:=L_ KX ar hu ho
  exact .lst hs (re KX ar ds _ hall p h2)
 | .tuple ds,_,x,p,hu=>by
  obtain⟨a,vs,rfl,ho,hall⟩:=BP x
  obtain⟨h2,hs⟩:=Ma KX ar hu ho
  exact .tup hs (re KX ar ds _ hall p h2)
 | .float _,_,_,p,_=>h_ (show false=true from p)
 | .dict _,_,_,p,_=>h_ (show false=true from p)
 | .bytearray _,_,_,p,_=>h_ (show false=true from p)
 | .set _,_,_,p,_=>h_ (show false=true from p)
 | .frozenset _,_,_,p,_=>h_ (show false=true from p)
 | .obj _ _,_,_,p,_=>h_ (show false=true from p)
theorem re {Pm:kY} (KX:K.In h) (ar: ∀a∈A,gT h A a): ∀(ds:List dD) (vs:List ac),md Pm h vs ds->gS ds=true->(∀u∈vs,gE A u)->gR K (d_ K h A) (vs.map toV) ds
 | [],_,x,_,_=>by
  cases x
  exact .nil
 |d::ds,_,x,p,hu=>by
  obtain⟨v,vs,rfl,x1,x2⟩:=BQ x
  have q:fY d=true/\gS ds=true:=Bool.and_eq_true_iff.mp p
  exact .cons (Mb KX ar d v x1 q.1 (hu _ (bB ..))) (re KX ar ds vs x2 q.2 λu m=>hu u (bq _ m))
end
end
theorem Mc {P:aI} {w:aE} {K:aA} {mg mb:Str->Option ac} {CX:iq} {k:Nat} {fa:aa} {fd:aS} {ps:List Str} {sp:Sp} {s₁:af} {vals:List ac} {ds:List dD} {R:To} {cl:Str->Option aa} {d0:dD}
  (KX:K.In s₁.heap) (hns:s₁.heap.Ns mainGlobals mg) (hb:s₁.heap.Ns builtinsNs mb) (hbb: ∀x:Str,x≠"__name__"->mb x=bootBuiltins x) (hlim:s₁.heap.NoLimit) (hg:s₁.gens= #[])
  (hwl:md w.params s₁.heap vals ds) (hpl:gS ds=true) (hwt: ∀d∈ds,d.weight<=1048576) (hr:bJ k callerA)
  (F: ∀base:aF,K.In base->base.Ns mainGlobals mg->aN P w K mg base CX k fa fd ps sp) (hbind: ∀(s:af) (us:List ac),us.length=ps.length->pO s fd ⟨us,[]⟩ (ps.zip us)) (hlen:ds.length=ps.length)
  (hsp: ∀(H:Hp) (xs:List V),oP H->gR K H xs ds->sp xs H (λv H'=>Dw K H' v d0) λ_ _ _=>False)
  (hCX: ∀H e s',CX [] H s₁ (λ_ _ _=>False) e s'->False) :
  codeAny (model P w) callerA (.call (.ref fa) ⟨vals,[]⟩) (λr s'=> ∃u as,r= .ok (.ret u)/\ReadsW R cl s'.heap u d0 as/\OldK s₁.heap s'.heap/\s'.os=s₁.os/\nw s'.gens) s₁:=by
 obtain⟨A,ho,ar⟩:=qX ds vals hwl hpl hwt
 have hO:oP (d_ K s₁.heap A):=L8 ar
 have aB:cg P w (d_ K s₁.heap A) s₁.heap:=L9 ar
 have hS:=re KX ar ds vals hwl hpl ho
 have hV:=mD ho
 have hK: ∀b u,d_ K s₁.heap A b=some u->K.lookup b=none:=λb u q=>(q_ ar q).1
 have noA: ∀{b:aa} {o:Obj} {es:Array jv} {ep:Nat},s₁.heap.get? b=some o->o.data= .dict es ep->d_ K s₁.heap A b=none:=λ{b o es ep} e d=>by
  cases q:d_ K s₁.heap A b with
  |none=>rfl
  |some u=>
   obtain⟨_,vs,_,_,⟨e2,_⟩|⟨e2,_⟩⟩:=q_ ar q
   ·rw[e2] at e
    cases e
    have d':zS vs.toArray _=Tq es ep:=d
    cases d'
   ·rw[e2] at e
    cases e
    have d':zS vs.toArray _=Tq es ep:=d
    cases d'
 generalize d_ K s₁.heap A=H at hO aB hS hK noA
 have base_of: ∀{b:aa} {o:Obj},s₁.heap.get? b=some o->H b=none->(jE s₁.heap H).get? b=some o:=λe n=>Jd e n
 have nsK: ∀{b:aa} {m:Str->Option ac},s₁.heap.Ns b m->(jE s₁.heap H).Ns b m:=λ{b m} ⟨o,es,ep,e,d,r⟩=>⟨o,es,ep,base_of e (noA e d),d,r⟩
 have nK: ∀b o,K.lookup b=some o->H b=none:=λb o e=>by
  cases q:H b with
  |none=>rfl
  |some u=>
   rw[hK b u q] at e
   cases e
 have hKb:K.In (jE s₁.heap H):=λb o e=>base_of (KX b o e) (nK b o e)
 have hM:Mod K mg (jE s₁.heap H):=⟨hKb,nsK hns,⟨mb,nsK hb,hbb⟩,let ⟨mc,h1,h2⟩:=hlim;⟨mc,nsK h1,h2⟩⟩
 have e0:lu P w K mg (jE s₁.heap H) callerA [] s₁ H:=⟨rfl,hM,λb o e=>Je e,zp (Jc _ _),trivial,λb hb=>absurd (show b∈([]:List aa) from hb) (by simp),aB,.of_eq hg⟩
 have hl:vals.length=ps.length:=by rw[qW hwl];exact hlen
 refine pP ((F _ hKb (nsK hns)).run callerA [] s₁ H ⟨vals,[]⟩ vals (vals.map toV) _ _ hr e0 (hbind s₁ vals hl) hV (hsp H _ hO hS)) λr s' x=>?_
 cases r with
 |error e=>exact(hCX H e s' x).elim
 |ok fl=>
  cases fl with
  |next=>exact fm x
  |brk=>exact fm x
  |cont=>exact fm x
  |ret u=>
   obtain⟨v,H',os,bare,un,hok',r',q⟩:=x
   have kept: ∀b o,s₁.heap.get? b=some o->s'.heap.get? b=some o:=λb o e=>by
    cases q2:H b with
    |none=>exact un.keep b o e q2 (by intro z;exact absurd (show b∈([]:List aa) from z) (by simp)) (by simp)
    |some u2=>
     rcases hO b with z|⟨ob,u3,z⟩
     ·rw[q2] at z
      cases z
     ·have z2:=un.fU b ob _ z
      obtain⟨e1,_⟩:=aB b _ z
      obtain⟨e2,_⟩:=hok' b _ z2
      rw[e] at e1
      cases e1
      exact e2
   have KX':K.In s'.heap:=λb o e=>kept b o (KX b o e)
   obtain⟨as,hrd⟩:=Dw.reads (R:=R) (cl:=cl) hok' KX' d0 v u q r'
   exact⟨u,as,rfl,hrd,OldK.of_keep kept,os,bare⟩
theorem Md {ds:List dD} (h:WData.layableAll ds=true): ∀d∈ds,d.weight<=1048576:=λd hd=>
 (PySem.W.layableW_iff.mp (dG.mp h d hd)).2.2
theorem BV: ∀(cs:List Codec) (a:zQ cs),(pY cs a).length=cs.length
 | [],_=>rfl
 |c::cs,a=>by
  show (pY cs a.2).length+1=cs.length+1
  rw[BV cs a.2]
theorem Me {r:OpenSpec} {k:Nat} {q:aI} {loose:List Str} {XP:(Str->Option ac)->aF->Prop} {YP:aE->aF->Prop} {d:DefRec} {K:kY->aA} {CX:aE->iq} {ps:List Str} {sp:aE->Sp}
  (hwell:r.wellSaid=true) (hdf:d.params.defaults=[]) (hlen:r.args.length=ps.length) (hr:bJ k callerA)
  (hY: ∀(w:aE) (h:aF),YP w h->(K w.params).In h)
  (F: ∀(w:aE) (mg:Str->Option ac) (fa:aa) (h:aF),YP w h->(K w.params).In h->h.Ns mainGlobals mg->mg d.name=some (.ref fa) ->
   ∃fd:aS,(∀(s:af) (us:List ac),us.length=ps.length->pO s fd ⟨us,[]⟩ (ps.zip us)) /\
    ∀base:aF,(K w.params).In base->base.Ns mainGlobals mg->aN r.prog w (K w.params) mg base (CX w) k fa fd ps (sp w))
  (hsp: ∀(w:aE) (H:Hp) (xs:List V) (a:zQ r.args),oP H->Tr r.args a=true->ua r.args r.asked a=true->gR (K w.params) H xs (pY r.args a) ->
   sp w xs H (λv H'=>Dw (K w.params) H' v (r.ret.enc (ua r.args r.f a))) λ_ _ _=>False)
  (hCX: ∀(w:aE) (H:Hp) (s:af) (e:ac) (s':af),CX w [] H s (λ_ _ _=>False) e s'->False) :
  Tt q loose XP YP r d [] (λf vs=>Tu f vs):=by
 intro w dS s₁ mg mb G Y fa o pm cd doc dV kV ho hd hcd hD hmg hg args vals as hpre hlay hrd hwl hlo
 obtain⟨a,e1,e2⟩:=PySem.W.os_pre_some hpre
 obtain⟨e3,hwi⟩:=Codec.encAll_of_decAll r.args args a e1
 subst e3
 have KX:=hY w _ Y
 obtain⟨fd,hb,hF⟩:=F w mg fa _ Y KX G.T.g hmg
 refine PySem.W.enter_call (pP (Mc (R:=[]) (cl:=classAt dS.heap) (d0:=r.ret.enc (ua r.args r.f a)) KX G.T.g G.T.b G.T.builtins G.T.nolimit hg hwl (BN _ _) (Md hlay) hr hF hb (by rw[BV];exact hlen)
  (λH xs hO hS=>hsp w H xs a hO hwi e2 hS) λH e s'=>hCX w H s₁ e s') λr' s' hq=>?_)
 obtain⟨u,as',rfl,h1,h2,h3,h4⟩:=hq
 exact⟨.inl ⟨u,_,as',rfl,λ_=>rfl,h1,(OpenSpec.post_iff hwell hwi _ _).mpr rfl,λz=>h_ (show false=true from z)⟩,h2,h3,h4⟩
theorem Mf {r:OpenSpec} {k:Nat} {q:aI} {loose:List Str} {XP:(Str->Option ac)->aF->Prop} {YP:aE->aF->Prop} {d:DefRec} {K:kY->aA} {CX:iq} {ps:List Str} {sp:aA->Sp}
  (hwell:r.wellSaid=true) (hdf:d.params.defaults=[]) (hlen:r.args.length=ps.length) (hr:bJ k callerA)
  (hY: ∀(w:aE) (h:aF),YP w h->(K w.params).In h)
  (F: ∀(w:aE) (mg:Str->Option ac) (fa:aa) (h:aF),YP w h->(K w.params).In h->h.Ns mainGlobals mg->mg d.name=some (.ref fa) ->
   ∃fd:aS,(∀(s:af) (us:List ac),us.length=ps.length->pO s fd ⟨us,[]⟩ (ps.zip us)) /\
    ∀base:aF,(K w.params).In base->base.Ns mainGlobals mg->aN r.prog w (K w.params) mg base CX k fa fd ps (sp (K w.params)))
  (hsp: ∀(K:aA) (H:Hp) (xs:List V) (a:zQ r.args),oP H->Tr r.args a=true->ua r.args r.asked a=true->gR K H xs (pY r.args a) ->
   sp K xs H (λv H'=>Dw K H' v (r.ret.enc (ua r.args r.f a))) λ_ _ _=>False)
  (hCX: ∀(H:Hp) (s:af) (e:ac) (s':af),CX [] H s (λ_ _ _=>False) e s'->False) :
  Tt q loose XP YP r d [] (λf vs=>Tu f vs):=
 Me (K:=K) (CX:=λ_=>CX) (sp:=λw=>sp (K w.params)) hwell hdf hlen hr hY F (λw H xs a h1 h2 h3 h4=>hsp (K w.params) H xs a h1 h2 h3 h4) λ_ H s e s'=>hCX H s e s'
end L2
end
section
namespace L2
open PySem PySem.Spec PyProof.Rows
def inClass (s:aL) (j:Nat):aL:=match s with
 | .ClassDef _ _ _ body _ _ _ _ _ _ _=>body.getD j (.Pass ⟨0,0,0,0⟩)
 |_=> .Pass ⟨0,0,0,0⟩
def i_ (s:aL):Arguments:=match s with
 | .FunctionDef _ a _ _ _ _ _ _ _ _=>a
 |_=>{posonlyargs:=[],args:=[],vararg:=none,kwonlyargs:=[],kw_defaults:=[],kwarg:=none,defaults:=[]}
def iu (s:aL):List aL:=match s with
 | .FunctionDef _ _ b _ _ _ _ _ _ _=>b
 |_=>[]
def aV (s:aL):bX:=match s with
 | .FunctionDef _ _ _ _ _ _ sc _ _ _=>sc
 |_=>{kind:= .function,names:=[],isGenerator:=false,isCoroutine:=false}
abbrev aR:iq:=λ_ _ _ _ _ _=>False
abbrev E0:XK:=λ_ _ _=>False
theorem rf {X:Cx}:Passes aR X E0:=λ_ _ _ _ _ _ _ h=>h.elim
structure aX (K:aA) (x qual:Str) (st:aL) (f:aa) (fd:aS):Prop where
 ex: ∃(oc:ac) (od:Option aa) (kV doc pm:ac) (an:Option aa) (cdv ct:ac) (osl:Array (Option ac)),
  fd=iP x qual (i_ st) (iu st) (aV st) .none kV doc pm an cdv ct/\K.lookup f=some ⟨oc,od,.func fd,osl⟩/\nA K cdv qual=true
 kp:fo K (.ref f)=true
section
variable {P:aI} {w:aE} {K:aA} {mg:Str->Option ac} {base:aF}
theorem aX.ok {x qual:Str} {st:aL} {f:aa} {fd:aS} {N ps:List Str} {k:Nat} {sp:Sp} (F:aX K x qual st f fd) (S:a6 N ps (aV st)) (len: ∀vs H Q E,sp vs H Q E->vs.length=ps.length)
  (hbody: ∀(cdv:ac) (A:a7) (outer:List Env) (s:af) (H:Hp) (vs:List V) (Q:VK) (E:XK),bJ k (A.deeper (envOfC qual (aV st) s.heap.objs.size f cdv))->sp vs H Q E ->
   ∃t,gw (lv aR P w K mg base N qual (aV st) f cdv A outer s H E).oh (iu st) t/\t {nx:=λ_ H'=>Q .a9 H',rt:=Q} (start N vs) H):aN P w K mg base aR (k+1) f fd ps sp:=by
 obtain⟨oc,od,kV,doc,pm,an,cdv,ct,osl,rfl,lk,hcd⟩:=F.ex
 refine Kz lk hcd S len λA outer s H vs Q E hr hsp=>?_
 obtain⟨t,h,q⟩:=hbody cdv A outer s H vs Q E hr hsp
 exact⟨t,h.oh,q⟩
theorem aX.binds {x qual:Str} {st:aL} {f:aa} {fd:aS} {ps:List Str} (F:aX K x qual st f fd)
  (h: ∀(kV doc pm:ac) (an:Option aa) (cdv ct:ac) (us:List ac),us.length=ps.length->bindArgs (iP x qual (i_ st) (iu st) (aV st) .none kV doc pm an cdv ct) ⟨us,[]⟩=pure (ps.zip us)):Binds K fd ps []:=by
 obtain⟨oc,od,kV,doc,pm,an,cdv,ct,osl,rfl,lk,hcd⟩:=F.ex
 exact .all (h kV doc pm an cdv ct)
theorem rg {x qual:Str} {st:aL} {f:aa} {oc:ac} {od an:Option aa} {osl:Array (Option ac)} {kV doc pm cdv ct:ac} (l:K.lookup f=some ⟨oc,od,.func (iP x qual (i_ st) (iu st) (aV st) .none kV doc pm an cdv ct),osl⟩)
  (c:nA K cdv qual=true) (k:fo K (.ref f)=true):aX K x qual st f (iP x qual (i_ st) (iu st) (aV st) .none kV doc pm an cdv ct):=⟨⟨oc,od,kV,doc,pm,an,cdv,ct,osl,rfl,l,c⟩,k⟩
end
theorem b9 {A:a7} {k:Nat} (hr:bJ k A):A.units+1<cLine:=Tv (Nat.add_le_add_left (by decide:1<=64) _) hr.units
theorem jI {A B:Prop} (h:B):if false=true then A else B:=by
 rw[if_neg cY]
 exact h
theorem jJ {A B:Prop} (h:A):if true=true then A else B:=by
 rw[if_pos rfl]
 exact h
def ak (H H':Hp):Prop:= ∀b o,H b=some o->H' b=some o
theorem ak.refl (H:Hp):ak H H:=λ_ _ h=>h
theorem ak.trans {H H1 H2:Hp} (a:ak H H1) (b:ak H1 H2):ak H H2:=λc o h=>b c o (a c o h)
theorem ak.free {H H':Hp} (e:ak H H') {l:aa} (h:H' l=zT):H l=zT:=by
 cases q:H l with
 |none=>rfl
 |some o=>
  rw[e l o q] at h
  cases h
theorem ak.seq {K:aA} {H H':Hp} {a:aa} {xs:List V} (e:ak H H') (h:bN K H a xs):bN K H' a xs:=by
 rcases h with (h|⟨o,h⟩)|h
 ·exact .inl (.inl (e _ _ h))
 ·exact .inl (.inr ⟨o,e _ _ h⟩)
 ·exact .inr h
section
variable {κ:Type} [DecidableEq κ]
theorem Mg {kvs:List (κ×V)} {k:κ} {v:V} (h:bO kvs k=some v):k∈kvs.map (·.1):=by
 have q:(kvs.any λkv=>decide (kv.1=k))=true:=by
  rw[qQ,h]
  all_goals rfl
 obtain⟨p,hp,e⟩:=zU.mp q
 exact bp.mpr ⟨p,hp,of_decide_eq_true e⟩
end
end L2
end
namespace L2
open PySem PySem.Spec PyProof.Rows
structure Den where
 p:V->Hp->Prop
 mono: ∀v H H',ak H H'->p v H->p v H'
def ax (x:V):Den:=⟨λv _=>v=x,λ_ _ _ _ h=>h⟩
abbrev aH (i:Int):Den:=ax (.int i)
abbrev bo (b:Bool):Den:=ax (.bl b)
abbrev Cf:Den:=ax .a9
theorem ak.kx {K:aA} {H H':Hp} {a:aa} {xs:List V} (e:ak H H') (h:bE K H a xs):bE K H' a xs:=by
 rcases h with (h|⟨o,h⟩)|h
 ·exact .inl (.inl (e _ _ h))
 ·exact .inl (.inr ⟨o,e _ _ h⟩)
 ·exact .inr h
def tv (t:List Nat):List V:=t.map λn=>V.int ((n:Nat):Int)
def rv (t:List Int):List V:=t.map V.int
def de (K:aA) (xs:List V):Den:=⟨λv H=> ∃a,v= .ref a/\bE K H a xs,λ_ _ _ s ⟨a,e,h⟩=>⟨a,e,ak.kx s h⟩⟩
def aw (xs:List V):Den:=⟨λv H=> ∃a,v= .ref a/\H a=some (.tup xs),λ_ _ _ s ⟨a,e,h⟩=>⟨a,e,s _ _ h⟩⟩
def cC (xs:List V):Den:=⟨λv H=> ∃a,v= .ref a/\H a=some (.lst xs),λ_ _ _ s ⟨a,e,h⟩=>⟨a,e,s _ _ h⟩⟩
def bt (K:aA) (xs:List V):Den:=⟨λv H=> ∃a,v= .ref a/\bN K H a xs,λ_ _ _ s ⟨a,e,h⟩=>⟨a,e,s.seq h⟩⟩
section
variable {X:Cx}
def EE (X:Cx) (e:ao) (σ:St) (H:Hp) (d:Den):Prop:=
 ∀(pins:List (aa×Obj)) (s:af) (H1:Hp),ak H H1->Inv X pins σ H1 s->wpAny (model X.prog X.w) X.A (eval e X.env) (EP X pins σ λv H2=>ak H1 H2/\d.p v H2) X.xe s
def ET (X:Cx) (e:ao) (σ:St) (H:Hp) (b:Bool):Prop:=
 ∀(pins:List (aa×Obj)) (s:af) (H1:Hp),ak H H1->Inv X pins σ H1 s->wpAny (model X.prog X.w) X.A (isTrue e X.env (eval e X.env)) (TP X pins σ λk H2=>ak H1 H2/\k=b) X.xe s
inductive bZ:List Den->List V->Hp->Prop
 |nil {H:Hp}:bZ [] [] H
 |cons {H:Hp} {d:Den} {ds:List Den} {v:V} {vs:List V}:d.p v H->bZ ds vs H->bZ (d::ds) (v::vs) H
theorem bZ.mono {ds:List Den} {vs:List V} {H H':Hp} (s:ak H H') (h:bZ ds vs H):bZ ds vs H':=by
 induction h with
 |nil=>exact .nil
 |cons h _ ih=>exact .cons (Den.mono _ _ _ _ s h) (ih s)
def EA (X:Cx) (es:List ao) (σ:St) (H:Hp) (ds:List Den):Prop:=
 ∀(pos:Pos) (pins:List (aa×Obj)) (s:af) (H1:Hp),ak H H1->Inv X pins σ H1 s->wpAny (model X.prog X.w) X.A (spliced (backTo pos (starEach es X.env))) (AP X pins σ λvs H2=>ak H1 H2/\bZ ds vs H2) X.xe s
theorem EE.grow {e:ao} {σ:St} {H H':Hp} {d:Den} (h:EE X e σ H d) (s:ak H H'):EE X e σ H' d:=λpins sh H1 s1 I=>h pins sh H1 (s.trans s1) I
theorem ET.grow {e:ao} {σ:St} {H H':Hp} {b:Bool} (h:ET X e σ H b) (s:ak H H'):ET X e σ H' b:=λpins sh H1 s1 I=>h pins sh H1 (s.trans s1) I
theorem EA.grow {e:List ao} {σ:St} {H H':Hp} {d:List Den} (h:EA X e σ H d) (s:ak H H'):EA X e σ H' d:=λpos pins sh H1 s1 I=>h pos pins sh H1 (s.trans s1) I
theorem EE.imp {e:ao} {σ:St} {H:Hp} {d d':Den} (h:EE X e σ H d) (hd: ∀v H2,ak H H2->d.p v H2->d'.p v H2):EE X e σ H d':=λpins sh H1 s1 I=>
 aJ (h pins sh H1 s1 I) λu s2 ⟨v,H2,I2,r,s3,q⟩=>⟨v,H2,I2,r,s3,hd v H2 (s1.trans s3) q⟩
def tE (X:Cx) (e:ao):TE:=λσ H Q=> ∃d,EE X e σ H d/\ ∀v H2,ak H H2->d.p v H2->Q v H2
def tT (X:Cx) (e:ao):TT:=λσ H Q=> ∃b,ET X e σ H b/\ ∀H2,ak H H2->Q b H2
def tA (X:Cx) (es:List ao):TA:=λσ H Q=> ∃ds,EA X es σ H ds/\ ∀vs H2,ak H H2->bZ ds vs H2->Q vs H2
theorem ah {e:ao}:PE X e (tE X e):=λpins s σ H Q I ⟨d,h,q⟩=>aJ (h pins s H (ak.refl H) I) λu s2 ⟨v,H2,I2,r,s3,z⟩=>⟨v,H2,I2,r,q v H2 s3 z⟩
theorem aY {e:ao}:PT X e (tT X e):=λpins s σ H Q I ⟨d,h,q⟩=>aJ (h pins s H (ak.refl H) I) λu s2 ⟨H2,I2,s3,z⟩=>⟨H2,I2,by rw[z];exact q H2 s3⟩
theorem cF {es:List ao}:PA X es (tA X es):=λpos pins s σ H Q I ⟨d,h,q⟩=>aJ (h pos pins s H (ak.refl H) I) λu s2 ⟨v,H2,I2,r,s3,z⟩=>⟨v,H2,I2,r,q v H2 s3 z⟩
theorem EE.of {e:ao} {t:TE} {σ:St} {H:Hp} {d:Den} (h:PE X e t) (ht: ∀H1,ak H H1-> ∀Q:VK,(∀v H2,ak H1 H2->d.p v H2->Q v H2)->t σ H1 Q):EE X e σ H d:=
 λpins s H1 s1 I=>h pins s σ H1 _ I (ht H1 s1 _ λv H2 s2 z=>⟨s2,z⟩)
theorem ET.of {e:ao} {t:TT} {σ:St} {H:Hp} {b:Bool} (h:PT X e t) (ht: ∀H1,ak H H1-> ∀Q:Bool->Hp->Prop,(∀H2,ak H1 H2->Q b H2)->t σ H1 Q):ET X e σ H b:=
 λpins s H1 s1 I=>h pins s σ H1 _ I (ht H1 s1 _ λH2 s2=>⟨s2,rfl⟩)
theorem EA.of {es:List ao} {t:TA} {σ:St} {H:Hp} {ds:List Den} (h:PA X es t) (ht: ∀H1,ak H H1-> ∀Q:List V->Hp->Prop,(∀vs H2,ak H1 H2->bZ ds vs H2->Q vs H2)->t σ H1 Q):EA X es σ H ds:=
 λpos pins s H1 s1 I=>h pos pins s σ H1 _ I (ht H1 s1 _ λvs H2 s2 z=>⟨s2,z⟩)
theorem a0 {σ:St} {H:Hp}:EA X [] σ H []:=EA.of gP λH1 _ Q q=>q [] H1 (ak.refl _) .nil
theorem aM {e:ao} {es:List ao} {σ:St} {H:Hp} {d:Den} {ds:List Den} (h:EE X e σ H d) (hs:EA X es σ H ds) (he:starEach (e::es) X.env=(false,eval e X.env)::starEach es X.env:=by rfl):EA X (e::es) σ H (d::ds):=
 EA.of (Kp ah cF he) λH1 s1 Q q=>⟨d,h.grow s1,λv H2 s2 z=>⟨ds,hs.grow (s1.trans s2),λvs H3 s3 zs=>q _ _ (s2.trans s3) (.cons (d.mono _ _ _ s3 z) zs)⟩⟩
theorem ae (i:Nat) {x:Str} {pos:Pos} {σ:St} {H:Hp} {d:Den} {v:V} (hs:σ[i]?=some (some v)) (hd:d.p v H) (hN:X.N[i]?=some x:=by rfl) (hv:mq X.env.scope x:=by first|exact aT rfl|exact nN (aT rfl)|exact nN (nN rfl))
  (h1:(x == ("__debug__":Str))=false:=by decide) (h2:(x == ("__classdict__":Str))=false:=by decide):EE X (.Name x pos) σ H d:=
 EE.of (Jj hN hv h1 h2) λH1 s1 Q q=>⟨v,hs,q v H1 (ak.refl _) (d.mono _ _ _ s1 hd)⟩
theorem kz {x:Str} {v:V} {u:ac} {pos:Pos} {σ:St} {H:Hp} {d:Den} (hm:X.mg x=some u) (r:RelV v u) (hd:d.p v H) (hg:Gl X x:=by rfl) (h1:(x == ("__debug__":Str))=false:=by decide):EE X (.Name x pos) σ H d:=
 EE.of (Jo hg hm r h1) λH1 s1 Q q=>q v H1 (ak.refl _) (d.mono _ _ _ s1 hd)
theorem aZ {i:Int} {j:Nat} {pos:Pos} {σ:St} {H:Hp}:EE X (.Constant (.int i) j pos) σ H (aH i):=EE.of Jk λH1 _ Q q=>q _ H1 (ak.refl _) rfl
theorem f8 {b:Bool} {j:Nat} {pos:Pos} {σ:St} {H:Hp}:EE X (.Constant (.bool b) j pos) σ H (bo b):=EE.of Jl λH1 _ Q q=>q _ H1 (ak.refl _) rfl
theorem Cg {j:Nat} {pos:Pos} {σ:St} {H:Hp}:EE X (.Constant .none j pos) σ H Cf:=EE.of Jm λH1 _ Q q=>q _ H1 (ak.refl _) rfl
theorem Ch {x:Str} {j:Nat} {pos:Pos} {σ:St} {H:Hp}:EE X (.Constant (.str x) j pos) σ H (ax (.str x)):=EE.of Jn λH1 _ Q q=>q _ H1 (ak.refl _) rfl
variable {a b c:ao} {pos:Pos} {σ:St} {H:Hp}
theorem mH {op:zj} {r:R2} {da db d:Den} (ho:cO X (binaryOp op) r) (ha:EE X a σ H da) (hb:EE X b σ H db) (hr: ∀x y H1,ak H H1->da.p x H1->db.p y H1-> ∀Q:VK,(∀v H2,ak H1 H2->d.p v H2->Q v H2)->r x y H1 Q) :
  EE X (.BinOp a op b pos) σ H d:=
 EE.of (JY ho ah ah) λH1 s1 Q q=>⟨da,ha.grow s1,λx H2 s2 hx=>⟨db,hb.grow (s1.trans s2),λy H3 s3 hy=>hr x y H3 (s1.trans (s2.trans s3)) (da.mono _ _ _ s3 hx) hy Q λv H4 s4 hv=>q v H4 (s2.trans (s3.trans s4)) hv⟩⟩
theorem oU {op:js} {r:R2} {da db d:Den} (ho:cO X (compareOp op) r) (ha:EE X a σ H da) (hb:EE X b σ H db) (hr: ∀x y H1,ak H H1->da.p x H1->db.p y H1-> ∀Q:VK,(∀v H2,ak H1 H2->d.p v H2->Q v H2)->r x y H1 Q)
  (hm:behindInMarks op b=false):EE X (.Compare a [op] [b] pos) σ H d:=
 EE.of (J8 ho ah ah hm) λH1 s1 Q q=>⟨da,ha.grow s1,λx H2 s2 hx=>⟨db,hb.grow (s1.trans s2),λy H3 s3 hy=>hr x y H3 (s1.trans (s2.trans s3)) (da.mono _ _ _ s3 hx) hy Q λv H4 s4 hv=>q v H4 (s2.trans (s3.trans s4)) hv⟩⟩
theorem jb {op:js} {r:R2} {da db:Den} {k:Bool} (ho:cO X (compareOp op) r) (ha:EE X a σ H da) (hb:EE X b σ H db) (hr: ∀x y H1,ak H H1->da.p x H1->db.p y H1-> ∀Q:VK,(∀v H2,ak H1 H2->(bo k).p v H2->Q v H2)->r x y H1 Q)
  (hm:behindInMarks op b=false):ET X (.Compare a [op] [b] pos) σ H k:=
 ET.of (J9 ho ah ah hm) λH1 s1 Q q=>⟨da,ha.grow s1,λx H2 s2 hx=>⟨db,hb.grow (s1.trans s2),λy H3 s3 hy=>hr x y H3 (s1.trans (s2.trans s3)) (da.mono _ _ _ s3 hx) hy _ λv H4 s4 hv=>⟨k,hv,q H4 (s2.trans (s3.trans s4))⟩⟩⟩
theorem cP {e:ao} {k:Bool} (h:EE X e σ H (bo k)) (he: ∀whole,isTrue e X.env whole=(do let v ←whole;standAt e.pos;holding [v] (truthy v)):=by intro _;rfl):ET X e σ H k:=
 ET.of (Js ah he) λH1 s1 Q q=>⟨_,h.grow s1,λv H2 s2 hv=>⟨k,hv,q H2 s2⟩⟩
theorem gU {i j:Int} (ha:EE X a σ H (aH i)) (hb:EE X b σ H (aH j)):EE X (.BinOp a .Add b pos) σ H (aH (i+j)):=
 mH J0 ha hb λx y H1 _ hx hy Q q=>⟨i,j,hx,hy,q _ _ (ak.refl _) rfl⟩
theorem Mz {i j:Int} (ha:EE X a σ H (aH i)) (hb:EE X b σ H (aH j)):EE X (.BinOp a .Sub b pos) σ H (aH (i-j)):=
 mH J1 ha hb λx y H1 _ hx hy Q q=>⟨i,j,hx,hy,q _ _ (ak.refl _) rfl⟩
theorem rL {i:Int} (ha:EE X a σ H (aH i)):EE X (.UnaryOp .USub a pos) σ H (aH (-i)):=
 EE.of (JZ J3 ah) λH1 s1 Q q=>⟨_,ha.grow s1,λv H2 s2 hv=>⟨i,hv,q _ _ s2 rfl⟩⟩
theorem MA {i j:Int} (ha:EE X a σ H (aH i)) (hb:EE X b σ H (aH j)):EE X (.Compare a [.LtE] [b] pos) σ H (bo (decide (i<=j))):=
 oU ox ha hb (λx y H1 _ hx hy Q q=>⟨i,j,hx,hy,q _ _ (ak.refl _) rfl⟩) (gA _)
theorem MB {i j:Int} (ha:EE X a σ H (aH i)) (hb:EE X b σ H (aH j)):EE X (.Compare a [.Gt] [b] pos) σ H (bo (decide (j<i))):=
 oU AM ha hb (λx y H1 _ hx hy Q q=>⟨i,j,hx,hy,q _ _ (ak.refl _) rfl⟩) (gA _)
theorem rM {i j:Int} (ha:EE X a σ H (aH i)) (hb:EE X b σ H (aH j)):EE X (.Compare a [.Eq] [b] pos) σ H (bo (decide (i=j))):=
 oU AK ha hb (λx y H1 _ hx hy Q q=>by
  cases hx;cases hy
  exact⟨rfl,q _ _ (ak.refl _) (by show V.bl _=V.bl _;rw[mw];rfl)⟩) (gA _)
theorem Ci {i j:Int} (ha:EE X a σ H (aH i)) (hb:EE X b σ H (aH j)):EE X (.Compare a [.NotEq] [b] pos) σ H (bo (!decide (i=j))):=
 oU AL ha hb (λx y H1 _ hx hy Q q=>by
  cases hx;cases hy
  exact⟨rfl,q _ _ (ak.refl _) (by show V.bl _=V.bl _;rw[mw];rfl)⟩) (gA _)
theorem vL {i j k:Int} (ha:EE X a σ H (aH i)) (hb:EE X b σ H (aH j)) (hc:EE X c σ H (aH k)) (hm:lastMarks [.LtE,.LtE] [b,c]=false:=by with_unfolding_all rfl):EE X (.Compare a [.LtE,.LtE] [b,c] pos) σ H (bo (decide (i<=j) && decide (j<=k))):=
 EE.of (J_ ox ox ah ah ah hm) λH1 s1 Q q=>⟨_,ha.grow s1,λx H2 s2 hx=>⟨_,hb.grow (s1.trans s2),λy H3 s3 hy=>⟨i,j,hx,hy,decide (i<=j),rfl,by
  by_cases e:i<=j
  ·rw[decide_eq_true e]
   exact jJ ⟨_,hc.grow (s1.trans (s2.trans s3)),λz H4 s4 hz=>⟨j,k,hy,hz,q _ _ (s2.trans (s3.trans s4)) (by show V.bl _=V.bl _;rw[decide_eq_true e];rfl)⟩⟩
  ·rw[decide_eq_false e]
   exact jI (q _ _ (s2.trans s3) (by show V.bl _=V.bl _;rw[decide_eq_false e];rfl))⟩⟩⟩
theorem mI {k l:Bool} {rest:List ao} (ha:EE X a σ H (bo k)) (hb:k=true->EE X (.BoolOp .And (b::rest) pos) σ H (bo l)):EE X (.BoolOp .And (a::b::rest) pos) σ H (bo (k && l)):=
 EE.of (JE ah ah) λH1 s1 Q q=>⟨_,ha.grow s1,λx H2 s2 hx=>⟨k,hx,by
  cases k with
  |true=>exact jJ ⟨_,(hb rfl).grow (s1.trans s2),λy H3 s3 hy=>q _ _ (s2.trans s3) (by rw[uc];exact hy)⟩
  |false=>exact jI (q _ _ s2 rfl)⟩⟩
theorem oV {k l:Bool} {rest:List ao} (ha:EE X a σ H (bo k)) (hb:k=false->EE X (.BoolOp .Or (b::rest) pos) σ H (bo l)):EE X (.BoolOp .Or (a::b::rest) pos) σ H (bo (k || l)):=
 EE.of (JF ah ah) λH1 s1 Q q=>⟨_,ha.grow s1,λx H2 s2 hx=>⟨k,hx,by
  cases k with
  |true=>exact jJ (q _ _ s2 rfl)
  |false=>exact jI ⟨_,(hb rfl).grow (s1.trans s2),λy H3 s3 hy=>q _ _ (s2.trans s3) (by rw[tV];exact hy)⟩⟩⟩
theorem jK {op:BoolOp} {d:Den} (h:EE X a σ H d):EE X (.BoolOp op [a] pos) σ H d:=EE.of (JD ah) λH1 s1 Q q=>⟨_,h.grow s1,q⟩
theorem eW {k:Bool} (h:ET X a σ H k):ET X (.UnaryOp .Not a pos) σ H (!k):=ET.of (JA aY) λH1 s1 Q q=>⟨_,h.grow s1,λH2 s2=>q _ s2⟩
def EW (X:Cx) (e:ao) (σ:St) (H:Hp) (b:Bool):Prop:=
 ∀(whole:Sem ac) (pins:List (aa×Obj)) (s:af) (H1:Hp),ak H H1->Inv X pins σ H1 s->wpAny (model X.prog X.w) X.A (isTrue e X.env whole) (TP X pins σ λk H2=>ak H1 H2/\k=b) X.xe s
def tW (X:Cx) (e:ao):TT:=λσ H Q=> ∃b,EW X e σ H b/\ ∀H2,ak H H2->Q b H2
theorem Cj {e:ao}:PW X e (tW X e):=λwhole pins s σ H Q I ⟨d,h,q⟩=>aJ (h whole pins s H (ak.refl H) I) λu s2 ⟨H2,I2,s3,z⟩=>⟨H2,I2,by rw[z];exact q H2 s3⟩
theorem EW.of {e:ao} {t:TT} {b:Bool} (h:PW X e t) (ht: ∀H1,ak H H1-> ∀Q:Bool->Hp->Prop,(∀H2,ak H1 H2->Q b H2)->t σ H1 Q):EW X e σ H b:=
 λwhole pins s H1 s1 I=>h whole pins s σ H1 _ I (ht H1 s1 _ λH2 s2=>⟨s2,rfl⟩)
theorem EW.grow {e:ao} {H':Hp} {b:Bool} (h:EW X e σ H b) (s:ak H H'):EW X e σ H' b:=λwh pins sh H1 s1 I=>h wh pins sh H1 (s.trans s1) I
theorem EW.et {e:ao} {b:Bool} (h:EW X e σ H b):ET X e σ H b:=h _
theorem lE {k:Bool} (h:ET X a σ H k):EW X (.BoolOp .And [a] pos) σ H k:=EW.of (Jw aY) λH1 s1 Q q=>⟨_,h.grow s1,q⟩
theorem gW {k:Bool} (h:ET X a σ H k):EW X (.BoolOp .Or [a] pos) σ H k:=EW.of (Jx aY) λH1 s1 Q q=>⟨_,h.grow s1,q⟩
theorem kC {k l:Bool} {rest:List ao} (ha:ET X a σ H k) (hb:k=true->EW X (.BoolOp .And (b::rest) pos) σ H l):EW X (.BoolOp .And (a::b::rest) pos) σ H (k && l):=
 EW.of (Jy aY Cj) λH1 s1 Q q=>⟨_,ha.grow s1,λH2 s2=>by
  cases k with
  |true=>exact jJ ⟨_,(hb rfl).grow (s1.trans s2),λH3 s3=>by rw[uc] at q;exact q _ (s2.trans s3)⟩
  |false=>exact jI (q _ s2)⟩
theorem gX {k l:Bool} {rest:List ao} (ha:ET X a σ H k) (hb:k=false->EW X (.BoolOp .Or (b::rest) pos) σ H l):EW X (.BoolOp .Or (a::b::rest) pos) σ H (k || l):=
 EW.of (Jz aY Cj) λH1 s1 Q q=>⟨_,ha.grow s1,λH2 s2=>by
  cases k with
  |true=>exact jJ (q _ s2)
  |false=>exact jI ⟨_,(hb rfl).grow (s1.trans s2),λH3 s3=>by rw[tV] at q;exact q _ (s2.trans s3)⟩⟩
theorem vM {k:Bool} {d:Den} (hc:ET X c σ H k) (ha:k=true->EE X a σ H d) (hb:k=false->EE X b σ H d):EE X (.IfExp c a b pos) σ H d:=
 EE.of (JH aY ah ah) λH1 s1 Q q=>⟨_,hc.grow s1,λH2 s2=>by
  cases k with
  |true=>exact jJ ⟨_,(ha rfl).grow (s1.trans s2),λv H3 s3 hv=>q _ _ (s2.trans s3) hv⟩
  |false=>exact jI ⟨_,(hb rfl).grow (s1.trans s2),λv H3 s3 hv=>q _ _ (s2.trans s3) hv⟩⟩
def am (P:List V->Hp->Den->Prop):Sp:=λvs H Q _=> ∃d,P vs H d/\ ∀v H',ak H H'->d.p v H'->Q v H'
theorem MC {k:Nat} {f:aa} {fd:aS} {ps:List Str} {sp:Sp} {x:Str} {p:Pos} {e:ao} {es:List ao} {ds:List Den} {d:Den} (F:aN X.prog X.w X.K X.mg X.base aR k f fd ps sp) (hr:bJ k X.A) (hm:X.mg x=some (.ref f)) (hk:fo X.K (.ref f)=true) (hb:Binds X.K fd ps [])
  (ha:EA X (e::es) σ H ds) (h: ∀vs H1,ak H H1->bZ ds vs H1-> ∀Q:VK,(∀v H2,ak H1 H2->d.p v H2->Q v H2)->sp vs H1 Q E0)
  (hg:Gl X x:=by rfl) (hdb:(x == ("__debug__":Str))=false:=by decide) (he:starEach (e::es) X.env=(false,eval e X.env)::starEach es X.env:=by rfl) (hpl:(backTo pos (starEach es X.env)).any (·.1)=false:=by rfl):EE X (.Call (.Name x p) (e::es) [] pos) σ H d:=
 EE.of (Ku (dvs:=[]) (ds:=[]) F hr hg hm hk hb .nil rf cF hdb he hpl) λH1 s1 Q q=>⟨ds,ha.grow s1,λvs H2 s2 z=>by
  show sp (vs++[]) H2 Q E0
  rw[fQ]
  exact h vs H2 (s1.trans s2) z Q λv H3 s3 hv=>q v H3 (s2.trans s3) hv⟩
theorem iB {x:Str} {p:Pos} {e:ao} {es:List ao} {id:String} {r:List V->Hp->VK->Prop} {ds:List Den} {d:Den} (hc:io X (.builtin id) r) (hm:X.mg x=none) (hv:bootBuiltins x=some (.builtin id)) (ha:EA X (e::es) σ H ds)
  (h: ∀vs H1,ak H H1->bZ ds vs H1-> ∀Q:VK,(∀v H2,ak H1 H2->d.p v H2->Q v H2)->r vs H1 Q)
  (hg:Gl X x:=by rfl) (hn:x≠"__name__":=by decide) (hdb:(x == ("__debug__":Str))=false:=by decide) (he:starEach (e::es) X.env=(false,eval e X.env)::starEach es X.env:=by rfl) (hpl:(backTo pos (starEach es X.env)).any (·.1)=false:=by rfl):EE X (.Call (.Name x p) (e::es) [] pos) σ H d:=
 EE.of (KA hc hg hm hv cF hn hdb he hpl) λH1 s1 Q q=>⟨ds,ha.grow s1,λvs H2 s2 z=>h vs H2 (s1.trans s2) z Q λv H3 s3 hv=>q v H3 (s2.trans s3) hv⟩
theorem oW {x:Str} {p:Pos} {e:ao} {es:List ao} {id:String} {r:List V->Hp->VK->Prop} {ds:List Den} {d:Den} (hc:io X (.type id) r) (hm:X.mg x=none) (hv:bootBuiltins x=some (.type id)) (ha:EA X (e::es) σ H ds)
  (h: ∀vs H1,ak H H1->bZ ds vs H1-> ∀Q:VK,(∀v H2,ak H1 H2->d.p v H2->Q v H2)->r vs H1 Q)
  (hg:Gl X x:=by rfl) (hn:x≠"__name__":=by decide) (hdb:(x == ("__debug__":Str))=false:=by decide) (he:starEach (e::es) X.env=(false,eval e X.env)::starEach es X.env:=by rfl) (hpl:(backTo pos (starEach es X.env)).any (·.1)=false:=by rfl):EE X (.Call (.Name x p) (e::es) [] pos) σ H d:=
 EE.of (KB hc hg hm hv cF hn hdb he hpl) λH1 s1 Q q=>⟨ds,ha.grow s1,λvs H2 s2 z=>h vs H2 (s1.trans s2) z Q λv H3 s3 hv=>q v H3 (s2.trans s3) hv⟩
theorem cM {d:Den} {vs:List V} {H:Hp} (h:bZ [d] vs H): ∃v,vs=[v]/\d.p v H:=by
 cases h with
 |cons h t=>cases t;exact⟨_,rfl,h⟩
theorem lF {d e:Den} {vs:List V} {H:Hp} (h:bZ [d,e] vs H): ∃v w,vs=[v,w]/\d.p v H/\e.p w H:=by
 cases h with
 |cons h t=>obtain⟨w,rfl,q⟩:=cM t;exact⟨_,_,rfl,h,q⟩
theorem vN {d e f:Den} {vs:List V} {H:Hp} (h:bZ [d,e,f] vs H): ∃v w u,vs=[v,w,u]/\d.p v H/\e.p w H/\f.p u H:=by
 cases h with
 |cons h t=>obtain⟨w,u,rfl,q,r⟩:=lF t;exact⟨_,_,_,rfl,h,q,r⟩
theorem MD {d e f g:Den} {vs:List V} {H:Hp} (h:bZ [d,e,f,g] vs H): ∃v w u x,vs=[v,w,u,x]/\d.p v H/\e.p w H/\f.p u H/\g.p x H:=by
 cases h with
 |cons h t=>obtain⟨w,u,x,rfl,q,r,z⟩:=vN t;exact⟨_,_,_,_,rfl,h,q,r,z⟩
theorem dm {x:Str} {p:Pos} {xs:List V} (hx:x="len") (hm:X.mg x=none) (ha:EE X a σ H (de X.K xs)) (hg:Gl X x:=by rfl) (hs:starEach [a] X.env=[(false,eval a X.env)]:=by rfl):EE X (.Call (.Name x p) [a] [] pos) σ H (aH xs.length):=by
 subst hx
 exact iB Be hm zZ (aM ha a0 hs) (λvs H1 s1 z Q q=>by
  obtain⟨v,rfl,a,rfl,h⟩:=cM z
  exact⟨a,xs,rfl,.inr h,q _ _ (ak.refl _) rfl⟩) hg (by decide) (by decide) hs
theorem dW {x:Str} {p:Pos} {xs:List V} (hx:x="len") (hm:X.mg x=none) (ha:EE X a σ H (bt X.K xs)) (hg:Gl X x:=by rfl) (hs:starEach [a] X.env=[(false,eval a X.env)]:=by rfl):EE X (.Call (.Name x p) [a] [] pos) σ H (aH xs.length):=by
 subst hx
 exact iB Be hm zZ (aM ha a0 hs) (λvs H1 s1 z Q q=>by
  obtain⟨v,rfl,a,rfl,h⟩:=cM z
  exact⟨a,xs,rfl,.inl h,q _ _ (ak.refl _) rfl⟩) hg (by decide) (by decide) hs
end
theorem gY (t:List Nat):tv t=rv (t.map λn=>((n:Nat):Int)):=by unfold tv rv;rw[eR];rfl
theorem bD (t:List Nat):(tv t).length=t.length:=by unfold tv;rw[aC]
theorem gZ (t:List Int):(rv t).length=t.length:=by unfold rv;rw[aC]
theorem g0 (t:List Nat) (n:Nat):(tv t).drop n=tv (t.drop n):=by unfold tv;rw[nO]
theorem jc (t:List Nat) (n:Nat):(tv t).take n=tv (t.take n):=by unfold tv;rw[nP]
theorem Ck (t:List Int) (n:Nat):(rv t).drop n=rv (t.drop n):=by unfold rv;rw[nO]
theorem Cm (t:List Int) (n:Nat):(rv t).take n=rv (t.take n):=by unfold rv;rw[nP]
theorem mJ (t u:List Nat):tv (t++u)=tv t++tv u:=by unfold tv;rw[dh]
theorem map_inj {α β:Type} {f:α->β} (hf: ∀a b,f a=f b->a=b): ∀{l m:List α},l.map f=m.map f->l=m
 | [],[],_=>rfl
 | [],_::_,h=>by simp at h
 |_::_,[],h=>by simp at h
 |a::l,b::m,h=>by
  rw[aU,aU] at h
  injection h with h1 h2
  rw[hf a b h1,map_inj hf h2]
theorem ME {t u:List Int} (h:rv t=rv u):t=u:=by
 unfold rv at h
 exact map_inj (λa b e=>V.int.inj e) h
theorem oX {t u:List Nat} (h:tv t=tv u):t=u:=by
 unfold tv at h
 exact map_inj (λa b e=>Int.ofNat.inj (V.int.inj e)) h
theorem Cn {its its2:List ac} {ns ms:List Int} (hi:eB its ns) (hj:eB its2 ms) :
  ((eQ (min its.toArray.size its2.toArray.size)).all (λj=>ns.getD j 0 == ms.getD j 0) && its.toArray.size == its2.toArray.size)=decide (ns=ms):=by
 have l1:=TN hi
 have l2:=TN hj
 rw[bQ,bQ,l1,l2]
 by_cases e:ns=ms
 ·subst e
  rw[decide_eq_true rfl]
  simp
 ·rw[decide_eq_false e]
  by_cases hl:ns.length=ms.length
  ·rw[hl]
   simp only[Nat.min_self,beq_self_eq_true,Bool.and_true]
   rw[List.all_eq_false]
   false_or_by_contra
   rename_i hn
   apply e
   apply List.ext_getElem hl
   intro i h1 h2
   by_cases hq:(ns.getD i 0 == ms.getD i 0)=true
   ·have:=eq_of_beq hq
    rw[tR,tR,b8 h1,b8 h2] at this
    simpa using this
   ·exact(hn ⟨i,gi.mpr h2,hq⟩).elim
  ·have:(ns.length == ms.length)=false:=beq_eq_false_iff_ne.mpr hl
   rw[this,zD]
theorem oY {its:List ac} {ns:List Int} (hi:eB its ns) {j:Nat} (h:j<its.toArray.size): ∃t,its.toArray[j]=iM (ns.getD j 0) t:=by
 have h':j<its.length:=by simpa using h
 exact IntsAre.int_at hi j _ (by simp [b8 h'])
theorem MF {A:a7} {s:af} {a b:aa} {its its2:List ac} {ns ms:List Int} (ha:jV s.heap a its.toArray) (hb:jV s.heap b its2.toArray) (hi:eB its ns) (hj:eB its2 ms) (hu:A.units<cLine) :
  tO A s (.ref a) (.ref b) (decide (ns=ms)):=by
 by_cases e:a=b
 ·subst e
  obtain⟨o,e1,_,n,d1⟩:=ha
  obtain⟨o',e2,_,n',d2⟩:=hb
  rw[e1] at e2;cases e2
  rw[d1] at d2
  injection d2 with d3 _
  have:its=its2:=by simpa using congrArg zh d3
  subst this
  have q:=(uV hi).inj (uV hj)
  have q2:ns=ms:=ME q
  rw[decide_eq_true q2]
  exact SG _
 ·rw[←Cn hi hj]
  refine V5 e (V6 ha hb hu λj h1 h2=>?_)
  obtain⟨t,e1⟩:=oY hi h1
  obtain⟨u,e2⟩:=oY hj h2
  rw[e1,e2]
  exact zu _ _ _ _
section
variable {X:Cx} {a b c:ao} {pos:Pos} {σ:St} {H:Hp}
def MH (K:aA) (neg:Bool):R2:=λx y H Q=> ∃p q t u,x= .ref p/\y= .ref q/\bE K H p (rv t)/\bE K H q (rv u)/\Q (.bl (if neg then !decide (t=u) else decide (t=u))) H
theorem Co (hu:X.A.units<cLine):cO X (compareOp .Eq) (MH X.K false):=by
 intro pins s σ H x y v u Q I rx ry h
 obtain⟨p,q,t,w,rfl,rfl,hp,hq,k⟩:=h
 cases rx;cases ry
 obtain⟨its,r1,p1,_⟩:=I.tuple hp
 obtain⟨its2,r2,p2,_⟩:=I.tuple hq
 have i1:=Vals.ints r1
 have i2:=Vals.ints r2
 refine SeqAt.eq_tupleAt (e:=λj=>t.getD j 0 == w.getD j 0) p1 p2 hu (λj h1 h2=>?_) ?_
 ·obtain⟨t1,e1⟩:=oY i1 h1
  obtain⟨u1,e2⟩:=oY i2 h2
  rw[e1,e2]
  exact zu _ _ _ _
 ·rw[Cn i1 i2]
  exact⟨.bl _,H,I,rfl,k⟩
theorem rN (hu:X.A.units<cLine) {t u:List Nat} (ha:EE X a σ H (de X.K (tv t))) (hb:EE X b σ H (de X.K (tv u))):EE X (.Compare a [.Eq] [b] pos) σ H (bo (decide (t=u))):=
  oU (Co hu) ha hb (λx y H1 _ ⟨p,hp,h1⟩ ⟨q,hq,h2⟩ Q k=>by
    rw[gY] at h1 h2
    refine⟨p,q,_,_,hp,hq,h1,h2,k _ _ (ak.refl _) ?_⟩
    show V.bl _=V.bl _
    congr 1
    by_cases e:t=u
    · rw[decide_eq_true e,e];simp
    · rw[decide_eq_false e]
      have: ¬(t.map λn=>((n:Nat):Int))=u.map λn=>((n:Nat):Int):=λz=>e (oX (by rw[gY,gY,z]))
      simp [this]) (gA _)
end
end L2
namespace HT
open PySem PyProof.Rows
theorem MJ (A:a7) (s:af) (a:Int) (t:Tok) (c:Int) (u:Tok) (prog:aI) (w:aE) (E:ac->af->Prop) (Q:ac->af->Prop) (h:Q (.bool (decide (c<a))) s) :
  wpAny (model prog w) A (richCompare .Gt (.int a t) (.int c u)) Q E s:=
 (V7 h:wpAny (model prog w) A (compareOp .Gt (.int a t) (.int c u)) Q E s)
section
open PySem.SeqAt
open PySem.AutoSeq1 (wpAny_loadPart')
open PySem.MeetsSeq PySem.MeetsSeq2 PySem.MeetsSeq3
theorem MK (l b:aa) (items items2:Array ac) (n n2:Nat) (dd dd2:Option aa) (sl sl2:Array (Option ac)) (ns ms:List Int) (hi:eB items.toList ns) (hj:eB items2.toList ms) :
    pQ (eC.«tuple.__gt__» ⟨[.ref l,.ref b],[]⟩)
      (λ_ R s=>s.heap.get? l=some {cls:= .type "tuple",dict:=dd,data:= .seq items n,slots:=sl}/\s.heap.get? b=some {cls:= .type "tuple",dict:=dd2,data:= .seq items2 n2,slots:=sl2} /\
        R (.ok (.ret (.bool (lexLt ms ns)))) s):=
  .of_wp λprog w A R s h=>by
    obtain⟨hp,g,d,tk,os⟩:=s;obtain⟨hl,hb,h⟩:=h
    have f2:=Sh
    have z1:items.size=ns.length:=by rw[←hi.length];simp
    have z2:items2.size=ms.length:=by rw[←hj.length];simp
    wp_walk using iQ hl,iQ hb,pR _ (λrest b s'=>b.1=none/\s'=⟨hp,g,d,tk,os⟩/\ ∃(vs ws:List ac) (ns' ms':List Int),rest=vs.zip ws /\
      eB vs ns'/\eB ws ms'/\ns'.length+items2.size=ms'.length+items.size/\R (.ok (.ret (.bool (lexLt ms' ns')))) ⟨hp,g,d,tk,os⟩) _
    case turn=>
      rintro⟨y,x⟩ rest b s' ⟨hb',rfl,vs,ws,ns',ms',hz,hvi,hwi,hlen,hR⟩
      cases hvi with
      |nil=>rw[Si] at hz;cases hz
      |cons a t hvi'=>
        cases hwi with
        |nil=>rw[Sj] at hz;cases hz
        |cons c u hwi'=>
          rw[zw] at hz
          injection hz with hyx hrest
          injection hyx with hy hx
          subst hy hx
          rw[qG] at hR
          simp only[bm] at hlen
          obtain⟨e,he,hiff⟩:=A7 A.in1 ⟨hp,g,d,tk,os⟩ a t c u
          refine aj (he prog w _ _ ?_)
          cases e with
          |true=>
            rw[if_pos (hiff.mp rfl).symm] at hR
            wp_walk
            exact⟨rfl,rfl,_,_,_,_,hrest,hvi',hwi',by omega,hR⟩
          |false=>
            rw[if_neg (λq=>absurd (hiff.mpr q.symm) cY)] at hR
            have hri:=MJ A.in1 ⟨hp,g,d,tk,os⟩ a t c u prog w
            wp_walk using hri
            exact⟨_,rfl,by simpa using hR⟩
    case fin=>
      rintro⟨b1,b2⟩ s' ⟨hb',rfl,vs,ws,ns',ms',hz,hvi,hwi,hlen,hR⟩
      simp only at hb'
      subst hb'
      have hv:lexLt ms' ns'=decide (items2.size<items.size):=by
        cases hvi with
        |nil=>
          cases hwi with
          |nil=>
            simp only[cZ] at hlen
            rw[A4]
            exact(decide_eq_false (by omega)).symm
          |cons c u hw=>
            simp only[cZ,bm] at hlen
            rw[A6]
            exact(decide_eq_false (by omega)).symm
        |cons a t hv=>
          cases hwi with
          |nil=>
            simp only[cZ,bm] at hlen
            rw[A5]
            exact(decide_eq_true (by omega)).symm
          |cons c u hw=>
            rw[zw] at hz
            cases hz
      rw[hv] at hR
      wp_walk
      exact⟨_,rfl,by simpa [Sk] using hR⟩
    case h=>
      exact⟨rfl,rfl,items.toList,items2.toList,ns,ms,rfl,hi,hj,by omega,h⟩
end
section
variable {prog:aI} {w:aE} {A:a7} {E:ac->af->Prop} {s:af}
theorem ML {l b:aa} {items items2:Array ac} {ns ms:List Int} {Q:ac->af->Prop} (hl:jV s.heap l items) (hb:jV s.heap b items2) (hi:eB items.toList ns) (hj:eB items2.toList ms)
  (hu:A.units<cLine) (h:Q (.bool (lexLt ms ns)) s):wpAny (model prog w) A (compareOp .Gt (.ref l) (.ref b)) Q E s:=by
 obtain⟨⟨cls,dd,data,sl⟩,ho,hc,n,hd⟩:=id hl
 obtain⟨⟨cls2,dd2,data2,sl2⟩,ho2,hc2,n2,hd2⟩:=id hb
 simp only at hc hd hc2 hd2
 subst hc hd hc2 hd2
 exact TQ (op:= .Gt) ⟨_,ho,rfl⟩ ⟨_,ho2,rfl⟩ PySem.F.slot_tuple_gt PySem.F.entry_tuple_gt (PySem.F.args_tuple_gt_2 _ _) (MK l b items items2 n n2 dd dd2 sl sl2 ns ms hi hj)
  ⟨ho,ho2,show kT (lexLt ms ns)≠Value.notImplemented/\Q (.bool (lexLt ms ns)) s from ⟨(λx=>nomatch x),h⟩⟩ hu
end
section
variable {prog:aI} {w:aE} {A:a7} {E:ac->af->Prop} {s:af}
theorem MM {t sl:aa} {items:Array ac} {vl vu:ac} {lo hi:Option Int} {Q:ac->af->Prop} (ht:jV s.heap t items) (hs:s.heap.IsSliceOf sl vl vu .none) (pl:jZ vl lo) (pu:jZ vu hi)
  (hw:bn items.size 0 lo=0/\bn items.size items.size hi=items.size) (h:Q (.ref t) s):wpAny (model prog w) A (getItem (.ref t) (.ref sl)) Q E s:=by
 obtain⟨os,hos,hcs,hds⟩:=id hs
 have hTs:s.TypeIs (.ref sl) "slice":=⟨os,hos,hcs⟩
 unfold getItem
 try with_reducible refine iR ?_
 first|refine aj (ay ?_)|skip
 refine aj (Sw ht.typeIs (by decide) ?_)
 refine aj (l4 (name:=iS "__getitem__") ht.typeIs pS
  (fS pS ht.typeIs Sx ?_ (Sy _ _)))
 show wpAny _ _ (Sz (.ref t) >>= _) _ _ s
 refine aj (SA ht ?_)
 refine aj (nE hTs ?_)
 rw[if_pos (by decide)]
 refine aj (A_ hs pl pu ?_)
 rw[hw.1,hw.2]
 have hyes:((((0:Nat):Int) == 0 && (1:Int) == 1 && (items.size-0) == items.size)=true):=by simp
 show wpAny _ _ (if (((0:Nat):Int) == 0 && (1:Int) == 1 && (items.size-0) == items.size)=true then _ else _) _ _ s
 rw[if_pos hyes]
 refine aj (m:=V8 _) ?_
 refine aj (nE ht.typeIs ?_)
 refine ay ?_
 rw[if_pos (by decide)]
 refine aj (Ih ?_)
 exact ay ⟨_,rfl,ay h⟩
end
end HT
namespace L2
open PySem PySem.Spec PyProof.Rows
def rO (xs:List V) (lo hi:Option Int):Prop:=HT.bn xs.length 0 lo=0/\HT.bn xs.length xs.length hi=xs.length
theorem MN {xs:List V} {lo hi:Option Int} (h:rO xs lo hi):b7 xs lo hi=xs:=by
 unfold b7
 rw[h.1,h.2,p5,Ii,fq]
section
variable {X:Cx} {a b c e:ao} {pos p2:Pos} {σ:St} {H:Hp} {lo hi:Option ao}
def MO (K:aA):V->Option Int->Option Int->Hp->VK->Prop:=λx lo hi H Q=> ∃a xs,x= .ref a/\bE K H a xs/\(rO xs lo hi->Q (.ref a) H)/\(¬rO xs lo hi-> ∀p,H p=none->Q (.ref p) (upd H p (.tup (b7 xs lo hi))))
theorem MP:qH X (MO X.K):=by
 intro pins s σ H x v vl vu lo hi sl Q I rx hs pl pu h
 obtain⟨a,xs,rfl,hx,q1,q2⟩:=h
 by_cases hw:rO xs lo hi
 ·cases rx
  obtain⟨its,r,ht,hz⟩:=I.tuple hx
  have hl:its.toArray.size=xs.length:=by rw[bQ];exact r.length.symm
  refine⟨"tuple","tuple.__getitem__",pS.lookup,ht.typeIs,?_⟩
  exact HT.MM ht hs pl pu (by rw[hl];exact hw) ⟨.ref a,H,I,rfl,q1 hw⟩
 ·exact KW pins s σ H _ v vl vu lo hi sl Q I rx hs pl pu ⟨a,xs,rfl,hx,hw,q2 hw⟩
def EO (X:Cx) (e:Option ao) (σ:St) (H:Hp) (o:Option Int):Prop:=match e,o with
 |none,none=>True
 |some e,some i=>EE X e σ H (aH i)
 |_,_=>False
theorem rP {e:Option ao}:PO X e (λσ H Q=> ∃o,EO X e σ H o/\ ∀H2,ak H H2->Q o H2):=by
 intro pins s σ H Q I ⟨o,h,q⟩
 match e,o,h with
 |none,none,_=>exact KQ pins s σ H Q I (q H (ak.refl H))
 |some e,some i,h=>exact KR ah pins s σ H Q I ⟨_,h,λv H2 s2 hv=>⟨i,hv,q H2 s2⟩⟩
theorem EO.grow {e:Option ao} {H':Hp} {o:Option Int} (h:EO X e σ H o) (s:ak H H'):EO X e σ H' o:=by
 match e,o,h with
 |none,none,_=>trivial
 |some e,some i,h=>exact EE.grow (show EE X e σ H (aH i) from h) s
theorem bF {H:Hp} {p:aa} {o:HO} (h:H p=none):ak H (upd H p o):=λb u e=>by rw[az (cA e h)];exact e
theorem eK {xs:List V} {o1 o2:Option Int} (he:EE X e σ H (aw xs)) (hl:EO X lo σ H o1) (hu:EO X hi σ H o2):EE X (.Subscript e (.Slice lo hi none p2) pos) σ H (aw (b7 xs o1 o2)):=
 EE.of (Ba MP ah rP rP) λH1 s1 Q q=>⟨_,he.grow s1,λv H2 s2 ⟨a,ev,hv⟩=>⟨o1,hl.grow (s1.trans s2),λH3 s3=>⟨o2,hu.grow (s1.trans (s2.trans s3)),λH4 s4=>
  ⟨a,xs,ev,.of (s4 _ _ (s3 _ _ hv)),λw=>q _ _ (s2.trans (s3.trans s4)) ⟨a,rfl,by rw[MN w];exact s4 _ _ (s3 _ _ hv)⟩,
   λ_ p hp=>q _ _ (s2.trans (s3.trans (s4.trans (bF hp)))) ⟨p,rfl,aK⟩⟩⟩⟩⟩
theorem EE.T {xs:List V} (h:EE X e σ H (aw xs)):EE X e σ H (de X.K xs):=h.imp λv H2 _ ⟨a,ev,hv⟩=>⟨a,ev,.of hv⟩
theorem EE.R {xs:List V} (h:EE X e σ H (cC xs)):EE X e σ H (bt X.K xs):=h.imp λv H2 _ ⟨a,ev,hv⟩=>⟨a,ev,.of hv⟩
theorem mK (xs:List V) (n:Nat):b7 xs none (some (n:Int))=xs.take n:=by
 unfold b7
 rw[HT.uN,HT.oz,p5,Ii]
 rcases ud n xs.length with h|h
 ·rw[ue h]
 ·rw[Ij h,fq,l5 h]
theorem vO {α:Type} (xs:List α) (n:Nat):xs.drop (min n xs.length)=xs.drop n:=by
 rcases ud n xs.length with h|h
 ·rw[ue h]
 ·rw[Ij h,TR,Ik h]
theorem mL (xs:List V) (n:Nat):b7 xs (some (n:Int)) none=xs.drop n:=by
 unfold b7
 rw[HT.uN,HT.oz,vO]
 refine l5 ?_
 rw[d5];omega
theorem oZ (xs:List V) (m n:Nat):b7 xs (some (m:Int)) (some (n:Int))=(xs.drop m).take (n-m):=by
 unfold b7
 rw[HT.oz,HT.oz,vO]
 rcases ud n xs.length with h|h
 ·rw[ue h]
  rcases ud m xs.length with h2|h2
  ·rw[ue h2]
  ·rw[Ik h2];simp
 ·rw[Ij h]
  rw[l5 (l:=xs.drop m) (by rw[d5];omega),l5 (by rw[d5];omega)]
theorem Cp (n d k:Nat) (hk:0<k):HT.bn n d (some (-(k:Int)))=n-k:=by
 show (if (-(k:Int))<0 then (-(k:Int)+(n:Int)).toNat else min (-(k:Int)).toNat n)=n-k
 rw[if_pos (by omega)];omega
theorem MQ (xs:List V) (k:Nat) (hk:0<k):b7 xs (some (-(k:Int))) none=xs.drop (xs.length-k):=by
 unfold b7
 rw[HT.uN,Cp _ _ _ hk]
 refine l5 ?_
 rw[d5];omega
theorem Cq (xs:List V) (m k:Nat) (hk:0<k):b7 xs (some (m:Int)) (some (-(k:Int)))=(xs.drop m).take (xs.length-k-m):=by
 unfold b7
 rw[HT.oz,Cp _ _ _ hk,vO]
 rcases ud m xs.length with h2|h2
 ·rw[ue h2]
 ·rw[Ik h2];simp
theorem Cr: ∀t u:List Nat,HT.lexLt (t.map λn=>((n:Nat):Int)) (u.map λn=>((n:Nat):Int))=uf t u
 | [],[]=>rfl
 | [],_::_=>rfl
 |_::_,[]=>rfl
 |a::t,b::u=>by
  rw[aU,aU,HT.qG,Cr t u]
  show _=(decide (a<b) || (a == b && uf t u))
  by_cases e:a=b
  ·subst e
   rw[if_pos rfl];simp
  ·have e': ¬((a:Nat):Int)=((b:Nat):Int):=by omega
   rw[if_neg e',beq_eq_false_iff_ne.mpr e]
   simp
def MR (K:aA):R2:=λx y H Q=> ∃a b ns ms,x= .ref a/\y= .ref b/\bE K H a (ns.map V.int)/\bE K H b (ms.map V.int)/\Q (.bl (HT.lexLt ms ns)) H
theorem MS (hu:X.A.units<cLine):cO X (compareOp .Gt) (MR X.K):=by
 intro pins s σ H x y v u Q I rx ry h
 obtain⟨a,b,ns,ms,rfl,rfl,ha,hb,q⟩:=h
 cases rx;cases ry
 obtain⟨its,r1,p1,_⟩:=I.tuple ha
 obtain⟨its2,r2,p2,_⟩:=I.tuple hb
 exact HT.ML p1 p2 (by simpa using Vals.ints r1) (by simpa using Vals.ints r2) hu ⟨.bl _,H,I,rfl,q⟩
theorem MU (hu:X.A.units+64<cLine):cO X (compareOp .NotEq) (λx y H Q=> ∃p q t u,x= .ref p/\y= .ref q/\bE X.K H p (rv t)/\bE X.K H q (rv u)/\Q (.bl (!decide (t=u))) H):=by
 intro pins s σ H x y v u Q I rx ry h
 obtain⟨p,q,t,w,rfl,rfl,hp,hq,k⟩:=h
 have key: ∀ns:List Int,lw X.K H (rv ns) (ns.map j5):=by
  intro ns
  induction ns with
  |nil=>exact .nil
  |cons n ns ih=>exact .cons (.int n) ih
 have sh: ∀ns:List Int,zF (.tuple (ns.map j5))=true:=by
  intro ns
  have h1:TU (ns.map j5)=true:=by
   induction ns with
   |nil=>rfl
   |cons n ns ih=>rw[aU];unfold TU;rw[ih];rfl
  have h2:TV (ns.map j5)<=1:=by
   clear h1
   induction ns with
   |nil=>exact bv _
   |cons n ns ih=>rw[aU];unfold TV;exact Nat.max_le.mpr ⟨by show 0<=1;omega,ih⟩
  unfold zF
  rw[bY]
  refine⟨h1,decide_eq_true ?_⟩
  unfold PyData.depth
  omega
 have ev: ∀ns ms:List Int,SO (.tuple (ns.map j5)) (.tuple (ms.map j5))=decide (ns=ms):=by
  intro ns
  induction ns with
  |nil=>intro ms;cases ms <;> rfl
  |cons n ns ih=>
   intro ms
   cases ms with
   |nil=>rfl
   |cons m ms=>
    have:=ih ms
    show (n == m && TW (ns.map j5) (ms.map j5))=_
    have e2:TW (ns.map j5) (ms.map j5)=decide (ns=ms):=this
    rw[e2]
    by_cases e:n=m
    ·subst e;by_cases e3:ns=ms <;> simp [e3]
    ·simp [e]
 refine Lq hu pins s σ H _ _ v u Q I rx ry ⟨_,_,.tup hp (key t),.tup hq (key w),sh t,sh w,?_⟩
 rw[ev];exact k
theorem Ct {xs ys:List V} (hn:xs≠[]) (hz:xs.length+ys.length<=sizeLine) (ha:EE X a σ H (aw xs)) (hb:EE X b σ H (aw ys)):EE X (.BinOp a .Add b pos) σ H (aw (xs++ys)):=
 mH KZ ha hb λx y H1 _ ⟨p,hp,h1⟩ ⟨q,hq,h2⟩ Q k=>⟨p,q,xs,ys,hp,hq,.of h1,.of h2,hn,hz,λe=>k _ _ (ak.refl _) ⟨p,rfl,by rw[e,fQ];exact h1⟩,λ_ r hr=>k _ _ (bF hr) ⟨r,rfl,aK⟩⟩
end
section
variable {X:Cx} {a b c e:ao} {pos p2:Pos} {σ:St} {H:Hp}
theorem mM {i j:Int} (ha:EE X a σ H (aH i)) (hb:EE X b σ H (aH j)):ET X (.Compare a [.Lt] [b] pos) σ H (decide (i<j)):=
 jb J6 ha hb (λx y H1 _ hx hy Q q=>⟨i,j,hx,hy,q _ _ (ak.refl _) rfl⟩) (gA _)
theorem iC {i j:Int} (ha:EE X a σ H (aH i)) (hb:EE X b σ H (aH j)):ET X (.Compare a [.Gt] [b] pos) σ H (decide (j<i)):=
 jb AM ha hb (λx y H1 _ hx hy Q q=>⟨i,j,hx,hy,q _ _ (ak.refl _) rfl⟩) (gA _)
theorem Cu {i j:Int} (ha:EE X a σ H (aH i)) (hb:EE X b σ H (aH j)):ET X (.Compare a [.GtE] [b] pos) σ H (decide (j<=i)):=
 jb J7 ha hb (λx y H1 _ hx hy Q q=>⟨i,j,hx,hy,q _ _ (ak.refl _) rfl⟩) (gA _)
theorem rQ {i j:Int} (ha:EE X a σ H (aH i)) (hb:EE X b σ H (aH j)):ET X (.Compare a [.Eq] [b] pos) σ H (decide (i=j)):=
 jb AK ha hb (λx y H1 _ hx hy Q q=>by
  cases hx;cases hy
  exact⟨rfl,q _ _ (ak.refl _) (by show V.bl _=V.bl _;rw[mw];rfl)⟩) (gA _)
theorem jL {i j:Int} (ha:EE X a σ H (aH i)) (hb:EE X b σ H (aH j)):ET X (.Compare a [.NotEq] [b] pos) σ H (!decide (i=j)):=
 jb AL ha hb (λx y H1 _ hx hy Q q=>by
  cases hx;cases hy
  exact⟨rfl,q _ _ (ak.refl _) (by show V.bl _=V.bl _;rw[mw];rfl)⟩) (gA _)
theorem vP {i j k:Int} (ha:EE X a σ H (aH i)) (hb:EE X b σ H (aH j)) (hc:EE X c σ H (aH k)) (hm:lastMarks [.LtE,.LtE] [b,c]=false:=by with_unfolding_all rfl):ET X (.Compare a [.LtE,.LtE] [b,c] pos) σ H (decide (i<=j) && decide (j<=k)):=
 ET.of (Ka ox ox ah ah ah hm) λH1 s1 Q q=>⟨_,ha.grow s1,λx H2 s2 hx=>⟨_,hb.grow (s1.trans s2),λy H3 s3 hy=>⟨i,j,hx,hy,decide (i<=j),rfl,by
  by_cases e:i<=j
  ·rw[decide_eq_true e]
   refine jJ ⟨_,hc.grow (s1.trans (s2.trans s3)),λz H4 s4 hz=>⟨j,k,hy,hz,decide (j<=k),rfl,?_⟩⟩
   have q':=q H4 (s2.trans (s3.trans s4))
   rw[decide_eq_true e,uc] at q'
   exact q'
  ·rw[decide_eq_false e]
   refine jI ⟨false,rfl,?_⟩
   have q':=q H3 (s2.trans s3)
   rw[decide_eq_false e,zl] at q'
   exact q'⟩⟩⟩
theorem vQ {t u:List Nat}:decide ((t.map λn=>((n:Nat):Int))=u.map λn=>((n:Nat):Int))=decide (t=u):=by
 by_cases e:t=u
 ·rw[decide_eq_true e,e];simp
 ·rw[decide_eq_false e]
  have: ¬(t.map λn=>((n:Nat):Int))=u.map λn=>((n:Nat):Int):=λz=>e (oX (by rw[gY,gY,z]))
  simp [this]
theorem lG (hu:X.A.units<cLine) {t u:List Nat} (ha:EE X a σ H (de X.K (tv t))) (hb:EE X b σ H (de X.K (tv u))):ET X (.Compare a [.Eq] [b] pos) σ H (decide (t=u)):=
 jb (Co hu) ha hb (λx y H1 _ ⟨p,hp,h1⟩ ⟨q,hq,h2⟩ Q k=>by
  rw[gY] at h1 h2
  refine⟨p,q,_,_,hp,hq,h1,h2,k _ _ (ak.refl _) ?_⟩
  show V.bl _=V.bl _
  rw[←vQ];rfl) (gA _)
theorem o0 (hu:X.A.units+64<cLine) {t u:List Nat} (ha:EE X a σ H (de X.K (tv t))) (hb:EE X b σ H (de X.K (tv u))):ET X (.Compare a [.NotEq] [b] pos) σ H (!decide (t=u)):=
 jb (MU hu) ha hb (λx y H1 _ ⟨p,hp,h1⟩ ⟨q,hq,h2⟩ Q k=>by
  rw[gY] at h1 h2
  refine⟨p,q,_,_,hp,hq,h1,h2,k _ _ (ak.refl _) ?_⟩
  show V.bl _=V.bl _
  rw[←vQ]) (gA _)
theorem MV (hu:X.A.units<cLine) {t u:List Nat} (ha:EE X a σ H (de X.K (tv t))) (hb:EE X b σ H (de X.K (tv u))):ET X (.Compare a [.Gt] [b] pos) σ H (uf u t):=
 jb (MS hu) ha hb (λx y H1 _ ⟨p,hp,h1⟩ ⟨q,hq,h2⟩ Q k=>by
  rw[gY] at h1 h2
  refine⟨p,q,_,_,hp,hq,h1,h2,k _ _ (ak.refl _) ?_⟩
  show V.bl _=V.bl _
  rw[Cr]) (gA _)
theorem rR {d:Den} {k:Bool} {j:Nat} {pos':Pos} (ha:EE X a σ H d) (hd: ∀v H1,d.p v H1->decide (v= .a9)=k):ET X (.Compare a [.Is] [.Constant .none j pos'] pos) σ H k:=
 ET.of (uG (Jr ah)) λH1 s1 Q q=>⟨_,ha.grow s1,λv H2 s2 hv=>⟨k,by rw[hd v H2 hv],q _ s2⟩⟩
theorem MW (i:Nat) (t:List Nat):qM (.int (i:Int)) (tv t)=t.contains i:=by
 unfold qM tv
 induction t with
 |nil=>rfl
 |cons n t ih=>
  rw[aU,gm,ih,p7]
  congr 1
  show (((n:Nat):Int) == (i:Int))=(i == n)
  by_cases e:i=n
  ·subst e;simp
  ·rw[beq_eq_false_iff_ne.mpr e,beq_eq_false_iff_ne.mpr (by omega)]
theorem Cv (t:List Nat):(tv t).all i7=true:=by
 unfold tv
 rw[l6]
 exact dG.mpr λ_ _=>rfl
theorem MX {i:Nat} {t:List Nat} (ha:EE X a σ H (aH i)) (hb:EE X b σ H (de X.K (tv t))) (hm:behindInMarks .NotIn b=false:=by with_unfolding_all rfl):ET X (.Compare a [.NotIn] [b] pos) σ H (!t.contains i):=
 jb La ha hb (λx y H1 _ hx ⟨q,hq,h2⟩ Q k=>by
  cases hx
  exact⟨q,_,hq,.inr h2,rfl,Cv t,k _ _ (ak.refl _) (by show V.bl _=V.bl _;rw[MW];rfl)⟩) hm
abbrev kD (K:aA) (H:Hp):List aa->List (List Nat)->Prop:=cb λa t=>bE K H a (tv t)
abbrev ba (H:Hp):List aa->List (List Nat)->Prop:=cb λa t=>H a=some (.tup (tv t))
theorem ba.eJ {K:aA} {as:List aa} {ts:List (List Nat)} (h:ba H as ts):kD K H as ts:=Paired.b6 h λ_ _ q=> .of q
theorem ba.grow {H H':Hp} {as:List aa} {ts:List (List Nat)} (s:ak H H') (h:ba H as ts):ba H' as ts:=Paired.b6 h λ_ _ q=>s _ _ q
theorem kD.grow {K:aA} {H H':Hp} {as:List aa} {ts:List (List Nat)} (s:ak H H') (h:kD K H as ts):kD K H' as ts:=Paired.b6 h λ_ _ q=>ak.kx s q
open Classical in
noncomputable def g7 (K:aA) (H:Hp) (t:List Nat) (u:ac):Bool:=decide (∃a,u= .ref a/\bE K H a (tv t))
theorem vR {pins:List (aa×Obj)} {s:af} (I:Inv X pins σ H s) {a:aa} {t u:List Nat} (h:bE X.K H a (tv u)):g7 X.K H t (.ref a)=decide (u=t):=by
 unfold g7
 by_cases e:u=t
 ·subst e
  rw[decide_eq_true rfl]
  exact @decide_eq_true _ (TX _) ⟨a,rfl,h⟩
 ·rw[decide_eq_false e]
  refine @decide_eq_false _ (TX _) ?_
  rintro⟨b,eb,hb⟩
  cases eb
  exact e (oX (I.uH h hb))
theorem vS {pins:List (aa×Obj)} {s:af} (I:Inv X pins σ H s) (t:List Nat): ∀{as:List aa} {ts:List (List Nat)},kD X.K H as ts->(as.map aP).any (g7 X.K H t)=ts.contains t
 |_,_,.nil=>rfl
 |_,_,.cons (a:=a) (b:=u) h r=>by
  rw[aU,gm,vS I t r,p7,vR I h]
  congr 1
  by_cases e:u=t
  ·subst e;simp
  ·rw[decide_eq_false e,beq_eq_false_iff_ne.mpr λz=>e z.symm]
theorem rS {pins:List (aa×Obj)} {s:af} {A:a7} (I:Inv X pins σ H s) {b:aa} {t:List Nat} (hb:bE X.K H b (tv t)) (hu:A.units<cLine): ∀{as:List aa} {ts:List (List Nat)},kD X.K H as ts-> ∀v∈as.map aP,tO A s v (.ref b) (g7 X.K H t v)
 |_,_,.nil,v,hv=>by cases hv
 |_,_,.cons (a:=a) (b:=u) h r,v,hv=>by
  rw[aU] at hv
  rcases be.mp hv with e|hv
  ·rw[e,vR I h]
   obtain⟨its,r1,p1,_⟩:=I.tuple h
   obtain⟨its2,r2,p2,_⟩:=I.tuple hb
   rw[gY] at r1 r2
   have q:=MF p1 p2 (Vals.ints r1) (Vals.ints r2) hu
   rw[vQ] at q
   exact q
  ·exact rS I hb hu r v hv
theorem mN: ∀{as:List aa} {us:List ac},Vals (as.map V.ref) us->us=as.map aP
 | [],_,r=>by rw[iU] at r;cases r;rfl
 |a::as,_,r=>by
  rw[aU] at r
  cases r with
  |cons h t=>cases h;rw[aU,mN t]
def MY (K:aA) (neg:Bool):R2:=λx y H Q=> ∃p q t as ts,x= .ref p/\y= .ref q/\bE K H p (tv t)/\(bN K H q (as.map V.ref)∨bE K H q (as.map V.ref))/\kD K H as ts/\Q (.bl (if neg then !ts.contains t else ts.contains t)) H
theorem in1_units {A:a7} (h:A.units+1<cLine):A.in1.units<cLine:=h
theorem MZ (hu:X.A.units+1<cLine):cO X (compareOp .In) (MY X.K false):=by
 intro pins s σ H x y v u Q I rx ry h
 obtain⟨p,q,t,as,ts,rfl,rfl,hp,hq,ht,k⟩:=h
 cases rx;cases ry
 rcases hq with hq|hq
 ·obtain⟨its,r,pl,hz⟩:=I.list hq
  have e:=mN r
  subst e
  refine SeqAt.in_listAt (g7 X.K H t) pl.isList (λw hw=>rS I hp (in1_units hu) ht w (by simpa using hw)) ⟨.bl _,H,I,rfl,?_⟩
  rw[show (as.map aP).toArray.any (g7 X.K H t)=(as.map aP).any (g7 X.K H t) by simp,vS I t ht]
  exact k
 ·obtain⟨its,r,pl,hz⟩:=I.tuple hq
  have e:=mN r
  subst e
  refine SeqAt.in_tupleAt (g7 X.K H t) pl (λw hw=>rS I hp (in1_units hu) ht w (by simpa using hw)) ⟨.bl _,H,I,rfl,?_⟩
  rw[show (as.map aP).toArray.any (g7 X.K H t)=(as.map aP).any (g7 X.K H t) by simp,vS I t ht]
  exact k
def vT (K:aA) (ts:List (List Nat)):Den:=⟨λv H=> ∃q as,v= .ref q/\(bN K H q (as.map V.ref)∨bE K H q (as.map V.ref))/\kD K H as ts,
 λv H H' s h=>by
  obtain⟨q,as,e,h,ht⟩:=h
  exact⟨q,as,e,h.imp (λz=>s.seq z) (λz=>ak.kx s z),ht.grow s⟩⟩
def bz (ts:List (List Nat)):Den:=⟨λv H=> ∃q as,v= .ref q/\H q=some (.lst (as.map V.ref))/\ba H as ts,λv H H' s h=>by
  obtain⟨q,as,e,h,ht⟩:=h
  exact⟨q,as,e,s _ _ h,ht.grow s⟩⟩
theorem EE.Ts {ts:List (List Nat)} (h:EE X e σ H (bz ts)):EE X e σ H (vT X.K ts):=h.imp λv H2 _ ⟨q,as,ev,hv,ht⟩=>⟨q,as,ev,.inl (.of hv),ht.eJ⟩
theorem rT (hu:X.A.units+1<cLine) {t:List Nat} {ts:List (List Nat)} (ha:EE X a σ H (de X.K (tv t))) (hb:EE X b σ H (vT X.K ts)) (hm:behindInMarks .In b=false:=by with_unfolding_all rfl):ET X (.Compare a [.In] [b] pos) σ H (ts.contains t):=
 jb (MZ hu) ha hb (λx y H1 _ ⟨p,hp,h1⟩ ⟨q,as,hq,h2,ht⟩ Q k=>⟨p,q,t,as,ts,hp,hq,h1,h2,ht,k _ _ (ak.refl _) rfl⟩) hm
end
section
variable {X:Cx} {a b c e:ao} {pos p2:Pos} {σ:St} {H:Hp}
abbrev df (X:Cx) (scope:bX) (s:af) (H:Hp) (C:aa) (cl:List (Str×aa)) (fp:List aa):Cx:=X.dU s H scope (compEnvC scope cl C X.env) fp
def iD (X:Cx) (scope:bX) (e:ao):TE:=λσ H Q=> ∃d,(∀(s:af) (H0:Hp) (C:aa) (cl:List (Str×aa)) (fp:List aa),EE (df X scope s H0 C cl fp) e σ H d)/\ ∀v H2,ak H H2->d.p v H2->Q v H2
theorem mO {scope:bX} {e:ao} (s:af) (H0:Hp) (C:aa) (cl:List (Str×aa)) (fp:List aa):PE (df X scope s H0 C cl fp) e (iD X scope e):=λpins sh σ H Q I ⟨d,h,q⟩=>ah pins sh σ H Q I ⟨d,h s H0 C cl fp,q⟩
theorem vU (σ:St) (j:Nat) (x:V):wipe ((wipe σ [j]).set j (some x)) [j]=wipe σ [j]:=by
 show (((σ.set j none).set j (some x)).set j none)=σ.set j none
 rw[Il,Il]
theorem vV (σ:St) (j:Nat) (x:V):(wipe σ [j]).set j (some x)=σ.set j (some x):=by
 show ((σ.set j none).set j (some x))=_
 rw[Il]
theorem vW {H1 H':Hp} {D:aa} (hD:H1 D=none) (s:ak H1 H') (o:HO):ak H1 (upd H' D o):=λb u e=>by rw[az (cA e hD)];exact s b u e
theorem M0 {σ:St} {H:Hp} {F G:Hp->Prop} (h:F H):mz σ H λb H3=>if b=true then F H3 else G H3:=by
 show (if true=true then F H else G H)
 rw[if_pos rfl]
 exact h
theorem vX {K:aA} {J:It} {xs ys:List V} {scope:bX} {elt:ao} {j:Nat} {H1:Hp} {D:aa} {Qd:Hp->Prop} (hD:H1 D=none)
  (hit: ∀(Pv:Nat->Hp->Prop),(∀i H,i<=xs.length->Pv i H->ak H1 H)->Pv 0 (upd H1 D (.lst [])) ->
   (∀i x H,xs[i]?=some x->Pv i H->d8 j x (wipe σ [j]) H λσ2 H2=>wipe σ2 [j]=wipe σ [j]/\mz σ2 H2 λb H3=>if b=true then iD X scope elt σ2 H3 λy H4=> ∃acc,H4 D=some (.lst acc)/\acc.length<sizeLine/\Pv (i+1) (upd H4 D (.lst (acc++[y]))) else Pv (i+1) H3) ->
   (∀H,Pv xs.length H->Qd H) ->
   ∃W:Nat->Nat->Hp->Prop,(∃m,W 0 m (upd H1 D (.lst [])))/\ ∀i m H,W i m H->(J.stop i H/\Qd H)∨(J.go i H/\ ∃Nx:Hp->Prop,(∀H',Nx H'-> ∃m',m'<m/\W (i+1) m' H')/\ ∀x H',J.gx i H x H'->d8 j x (wipe σ [j]) H' λσ2 H2=>wipe σ2 [j]=wipe σ [j]/\mz σ2 H2 λb H3=>
    if b=true then iD X scope elt σ2 H3 λy H4=> ∃acc,H4 D=some (.lst acc)/\acc.length<sizeLine/\Nx (upd H4 D (.lst (acc++[y]))) else Nx H3))
  (hl:ys.length=xs.length) (hz:xs.length<=sizeLine)
  (he: ∀(i:Nat) x y,xs[i]?=some x->ys[i]?=some y-> ∀(s:af) (H0:Hp) (C:aa) (cl:List (Str×aa)) (fp:List aa),EE (df X scope s H0 C cl fp) elt (σ.set j (some x)) H1 (ax y))
  (hq: ∀H',ak H1 H'->H' D=some (.lst ys)->Qd H') :
  ∃W:Nat->Nat->Hp->Prop,(∃m,W 0 m (upd H1 D (.lst [])))/\ ∀i m H,W i m H->(J.stop i H/\Qd H)∨(J.go i H/\ ∃Nx:Hp->Prop,(∀H',Nx H'-> ∃m',m'<m/\W (i+1) m' H')/\ ∀x H',J.gx i H x H'->d8 j x (wipe σ [j]) H' λσ2 H2=>wipe σ2 [j]=wipe σ [j]/\mz σ2 H2 λb H3=>
    if b=true then iD X scope elt σ2 H3 λy H4=> ∃acc,H4 D=some (.lst acc)/\acc.length<sizeLine/\Nx (upd H4 D (.lst (acc++[y]))) else Nx H3):=by
 refine hit (λi H'=>ak H1 H'/\H' D=some (.lst (ys.take i))) (λi H' _ h=>h.1) ⟨bF hD,by rw[aK,iV]⟩ ?_ ?_
 ·rintro i x H' hx ⟨s1,hd⟩
  have hi:i<xs.length:=(List.getElem?_eq_some_iff.mp hx).1
  obtain⟨y,hy⟩: ∃y,ys[i]?=some y:=⟨_,b8 (by omega)⟩
  refine⟨vU σ j x,?_⟩
  refine M0 ?_
  refine⟨ax y,λs H0 C cl fp=>?_,λv H2 s2 hv=>?_⟩
  ·rw[vV]
   exact(he i x y hx hy s H0 C cl fp).grow s1
  ·cases hv
   refine⟨ys.take i,s2 _ _ hd,?_,vW hD (s1.trans s2) _,?_⟩
   ·rw[dL];omega
   ·rw[aK,pZ,hy];rfl
 ·rintro H' ⟨s1,hd⟩
  refine hq H' s1 ?_
  rw[hd,←hl,fq]
theorem vY {scope:bX} {y:Str} {py:Pos} {iter elt:ao} {j:Nat} {xs ys:List V} (hc:X.calm=true) (hN:X.N.Nodup) (hi:EE X iter σ H (de X.K xs)) (ok:gC X.N X.env.scope scope [(y,j)]) (hj:X.N[j]?=some y) (hy:scope.names.lookup y=some .local)
  (hl:ys.length=xs.length) (hz:xs.length<=sizeLine)
  (he: ∀(i:Nat) x z,xs[i]?=some x->ys[i]?=some z-> ∀(s:af) (H0:Hp) (C:aa) (cl:List (Str×aa)) (fp:List aa),EE (df X scope s H0 C cl fp) elt (σ.set j (some x)) H (ax z))
  (hs: ∀x,foldedSetIterable iter X.env x=pure x:=by intro _;rfl):EE X (.ListComp elt [⟨.Name y py,iter,[],0⟩] scope pos) σ H (cC ys):=
 EE.of (oH hc hN (JT ah) ok (λs H0 C cl fp=>d9 (X:=df X scope s H0 C cl fp) hN hj (.inl (iW hy)) (.inr (iW hy))) (λs H0 C cl fp=>qP) (λs H0 C cl fp=>mO s H0 C cl fp) hs)
  λH1 s1 Q q=>⟨_,hi.grow s1,λv H2 s2 hv=>by
   obtain⟨a,rfl,ha⟩:=hv
   refine⟨a,rfl,⟨_,ha⟩,λD hD=>?_⟩
   exact vX (K:=X.K) (X:=X) (xs:=xs) (ys:=ys) hD (λPv h1 h2 h3 h4=>Lz Pv h2 (λi H' hle hp=>ak.kx (h1 i H' hle hp) ha) h3 h4) hl hz (λi x z hx hy2 s H0 C cl fp=>(he i x z hx hy2 s H0 C cl fp).grow (s1.trans s2))
    λH' s3 hd=>q _ _ (s2.trans s3) ⟨D,rfl,hd⟩⟩
theorem lH {scope:bX} {y:Str} {py:Pos} {iter elt:ao} {j:Nat} {xs ys:List V} (hc:X.calm=true) (hN:X.N.Nodup) (hi:EE X iter σ H (bt X.K xs)) (ok:gC X.N X.env.scope scope [(y,j)]) (hj:X.N[j]?=some y) (hy:scope.names.lookup y=some .local)
  (hl:ys.length=xs.length) (hz:xs.length<=sizeLine)
  (he: ∀(i:Nat) x z,xs[i]?=some x->ys[i]?=some z-> ∀(s:af) (H0:Hp) (C:aa) (cl:List (Str×aa)) (fp:List aa),EE (df X scope s H0 C cl fp) elt (σ.set j (some x)) H (ax z))
  (hs: ∀x,foldedSetIterable iter X.env x=pure x:=by intro _;rfl):EE X (.ListComp elt [⟨.Name y py,iter,[],0⟩] scope pos) σ H (cC ys):=
 EE.of (oH hc hN (gy ah) ok (λs H0 C cl fp=>d9 (X:=df X scope s H0 C cl fp) hN hj (.inl (iW hy)) (.inr (iW hy))) (λs H0 C cl fp=>qP) (λs H0 C cl fp=>mO s H0 C cl fp) hs)
  λH1 s1 Q q=>⟨_,hi.grow s1,λv H2 s2 hv=>by
   obtain⟨a,rfl,ha⟩:=hv
   refine⟨a,rfl,⟨_,ha⟩,λD hD=>?_⟩
   exact vX (K:=X.K) (X:=X) (xs:=xs) (ys:=ys) hD (λPv h1 h2 h3 h4=>vb Pv h2 (λi H' hle hp=>(h1 i H' hle hp).seq ha) h3 h4) hl hz (λi x z hx hy2 s H0 C cl fp=>(he i x z hx hy2 s H0 C cl fp).grow (s1.trans s2))
    λH' s3 hd=>q _ _ (s2.trans s3) ⟨D,rfl,hd⟩⟩
theorem boot_all:bootBuiltins "all"=some (.builtin "all"):=by decide +kernel
theorem boot_any:bootBuiltins "any"=some (.builtin "any"):=by decide +kernel
theorem mP {x:Str} {p:Pos} {bs:List Bool} (hx:x="all") (hc:X.calm=true) (hm:X.mg x=none) (ha:EE X a σ H (cC (bs.map V.bl))) (hg:Gl X x:=by rfl) (hs:starEach [a] X.env=[(false,eval a X.env)]:=by rfl):EE X (.Call (.Name x p) [a] [] pos) σ H (bo (bs.all id)):=by
 subst hx
 exact iB (Lo hc) hm boot_all (aM ha a0 hs) (λvs H1 s1 z Q q=>by
  obtain⟨v,rfl,a,rfl,h⟩:=cM z
  exact⟨a,bs,rfl,.of h,q _ _ (ak.refl _) rfl⟩) hg (by decide) (by decide) hs
theorem vZ {x:Str} {p:Pos} {bs:List Bool} (hx:x="any") (hc:X.calm=true) (hm:X.mg x=none) (ha:EE X a σ H (cC (bs.map V.bl))) (hg:Gl X x:=by rfl) (hs:starEach [a] X.env=[(false,eval a X.env)]:=by rfl):EE X (.Call (.Name x p) [a] [] pos) σ H (bo (bs.any id)):=by
 subst hx
 exact iB (Ln hc) hm boot_any (aM ha a0 hs) (λvs H1 s1 z Q q=>by
  obtain⟨v,rfl,a,rfl,h⟩:=cM z
  exact⟨a,bs,rfl,.of h,q _ _ (ak.refl _) rfl⟩) hg (by decide) (by decide) hs
end
end L2
namespace HT
open PySem PyProof.Rows
section
open PySem.SeqAt
open PySem.AutoSeq1 (wpAny_loadPart')
open PySem.MeetsSeq PySem.MeetsSeq2 PySem.MeetsSeq3
theorem M_ (l:aa) (items:Array ac) (n:Nat) (dd:Option aa) (sl:Array (Option ac)) (x:ac) (e:ac->Bool) (j:Nat) (hj:j<items.size)
  (fnd:e items[j]=true) (hno: ∀m (hm:m<items.size),m<j->e items[m]=false) :
  pQ (eC.«tuple.index» ⟨[.ref l,x],[]⟩)
   (λA R s=>s.heap.get? l=some {cls:= .type "tuple",dict:=dd,data:= .seq items n,slots:=sl}/\(∀y,y∈items->EqAt A.in1 s y x (e y))/\R (.ok (.ret (.int j s.toks))) {s with toks:=s.toks+1}):=
 .of_wp λprog w A R s h=>by
  obtain⟨hp,gs,dr,tk,os⟩:=s
  obtain⟨hl,eqs,h⟩:=h
  have hz: ∀k:Nat,([:min k k]:V9).size=k:=λk=>by simp [V_]
  unfold eC.«tuple.index»
  simp only[Im,hz]
  wp_walk using iQ hl,pR _ (λrest b s'=>b.1=none/\s'=⟨hp,gs,dr,tk,os⟩/\ ∃i,i<=j/\rest=List.range' i (items.size-i) 1) _
  case turn=>
   rintro i rest b s' ⟨hb,rfl,i',hij,hr⟩
   have hlt:i'<items.size:=by omega
   have e1:items.size-i'=(items.size-i'-1)+1:=by omega
   rw[e1,TY] at hr
   injection hr with h1 h2
   subst h1
   have hi:items[i]?=some items[i]:=by simp [hlt]
   rw[hi]
   refine aj (eqs _ (z0 hlt) prog w _ _ ?_)
   by_cases hc:i=j
   ·subst hc
    rw[fnd]
    wp_walk
    exact⟨_,rfl,h⟩
   ·rw[hno i hlt (by omega)]
    wp_walk
    exact⟨rfl,rfl,i+1,by omega,by rw[h2];congr 1⟩
  case fin=>
   rintro⟨b1,b2⟩ s' ⟨hb,rfl,i',hij,hr⟩
   have e1:items.size-i'=(items.size-i'-1)+1:=by omega
   rw[e1,TY] at hr
   cases hr
  case h=>
   exact⟨rfl,rfl,0,bv _,by rw[hz,Ii]⟩
end
end HT
namespace L2
open PySem PySem.Spec PyProof.Rows
section
variable {X:Cx} {a b c e o:ao} {es:List ao} {pos p2 apos cpos:Pos} {σ:St} {H:Hp} {name:Str} {id:String} {r:V->List V->Hp->VK->Prop} {to:TE} {t:TA}
theorem Inv.tup {pins:List (aa×Obj)} {s:af} {p:aa} {xs:List V} (I:Inv X pins σ H s) (h:H p=some (.tup xs)): ∃(its:List ac) (n:Nat),Vals xs its/\s.heap.get? p=some {cls:= .type "tuple",data:= .seq its.toArray n}/\xs.length<=sizeLine:=by
 obtain⟨z,its,r,⟨o1,e1,c1,n,d1⟩,o2,e2,d2,s2⟩:=(show cz X.prog X.w H s.heap p (.tup xs) from I.aB p _ h)
 rw[e1] at e2
 cases e2
 refine⟨its,n,r,?_,z⟩
 rw[e1]
 obtain⟨c,d,da,sl⟩:=o1
 simp only at c1 d1 d2 s2
 subst c1 d1 d2 s2
 rfl
theorem Na (pa:HC "tuple") (slot:Slot "tuple" name id) (hty:typeOf (.builtin id)=pure (.type "method_descriptor")) (hm:qJ X id r) (ho:PE X o to) (ha:PA X (e::es) t)
  (hbase:attributeBase o name X.env (eval o X.env)=eval o X.env:=by rfl)
  (hfew:((backTo cpos (starEach (e::es) X.env)).all (λx=>!x.1) && (backToKw cpos (keywordEach [] X.env)).all (λx=>x.1.isSome)
   && decide ((e::es).length+([]:List j3).length+(if ([]:List j3).isEmpty then 0 else 1)<30))=true:=by rfl)
  (hline:(apos.endLine == cpos.line)=true:=by rfl) (hs:starEach (e::es) X.env=(false,eval e X.env)::starEach es X.env:=by rfl) (hplain:(backTo cpos (starEach es X.env)).any (·.1)=false:=by rfl) :
  PE X (.Call (.Attribute o name apos) (e::es) [] cpos) (λσ H Q=>to σ H λx H1=>(∃p xs,x= .ref p/\H1 p=some (.tup xs))/\t σ H1 λxs H2=>r x xs H2 Q):=by
 intro pins s σ H Q I h
 refine SI hbase hfew hline rfl (aJ (ho pins s σ H _ I h) λv s1 ⟨x,H1,I1,r1,ty,q1⟩=>?_)
 obtain⟨p,xs,ex,hp⟩:=ty
 obtain⟨its,n,_,hg,_⟩:=I1.tup hp
 subst ex
 cases r1
 refine⟨"tuple",id,pa,slot,hty,⟨_,hg,rfl⟩,λb eb=>by cases eb;exact⟨_,hg,rfl⟩,?_⟩
 have hA:=ha cpos pins s1 σ H1 _ I1 q1
 rw[hs] at hA ⊢
 refine tQ (by show (false || (backTo cpos (starEach es X.env)).any (·.1))=false;rw[hplain] <;> rfl) (zA ?_)
 exact aJ hA λus s2 ⟨vs,H2,I2,r2,q2⟩=>hm pins s2 σ H2 (.ref p) vs _ us Q I2 rfl r2 q2
theorem Nb:qJ X "tuple.index" (λx xs H Q=> ∃p t i j,x= .ref p/\xs=[.int ((i:Nat):Int)]/\H p=some (.tup (tv t))/\t[j]?=some i/\(∀m,m<j->t[m]?≠some i)/\Q (.int (j:Nat)) H):=by
 intro pins s σ H x xs v us Q I rx rxs h
 obtain⟨p,t,i,j,rfl,rfl,hp,hj,hno,q⟩:=h
 cases rx
 obtain⟨u,rfl,tk,rfl⟩:=vals1 rxs
 obtain⟨its,n,rv,hg,hz⟩:=I.tup hp
 have fl:(tv t).all i7=true:=Cv t
 have hl:=rv.length
 rw[bD] at hl
 have hjt:j<t.length:=(List.getElem?_eq_some_iff.mp hj).1
 have hval: ∀(m:Nat) (hm:m<its.toArray.size),∃tk,its.toArray[m]=iM ((t.getD m 0:Nat):Int) tk:=λm hm=>by
  rw[gY] at rv
  obtain⟨tk,e⟩:=oY (Vals.ints rv) hm
  refine⟨tk,?_⟩
  rw[e]
  congr 1
  have hm':m<t.length:=by rw[bQ] at hm;omega
  simp [tR,bC,b8 hm']
 have hev: ∀(m:Nat) (hm:m<its.toArray.size),ir (.int (i:Int)) its.toArray[m]=decide (t[m]?=some i):=λm hm=>by
  obtain⟨tk,e⟩:=hval m hm
  have hm':m<t.length:=by rw[bQ] at hm;omega
  rw[e]
  show (((t.getD m 0:Nat):Int) == (i:Int))=_
  rw[tR,b8 hm']
  show (((t[m]:Nat):Int) == (i:Int))=_
  by_cases e2:t[m]=i
  ·rw[e2];simp
  ·rw[beq_eq_false_iff_ne.mpr (by omega)]
   simp [e2]
 have hjs:j<its.toArray.size:=by rw[bQ];omega
 refine nF TZ ⟨_,hg,rfl⟩ PySem.F.entry_tuple_index (PySem.F.args_tuple_index_2 _ _)
  (HT.M_ p its.toArray n none #[] _ (ir (.int (i:Int))) j hjs ?_ ?_) ⟨hg,λu' hu'=>qL (x:= .int (i:Int)) ⟨_,rfl⟩ rfl rv fl u' (by simpa using hu'),?_⟩
 ·rw[hev j hjs];exact decide_eq_true hj
 ·intro m hm hmj
  rw[hev m hm];exact decide_eq_false (hno m hmj)
 ·exact⟨.int (j:Nat),H,I.tok _,⟨_,rfl⟩,q⟩
theorem Cw {tx:List Nat} {i j:Nat} (ho:EE X o σ H (aw (tv tx))) (ha:EE X e σ H (aH (i:Nat))) (hj:tx[j]?=some i) (hno: ∀m,m<j->tx[m]?≠some i)
  (hbase:attributeBase o "index" X.env (eval o X.env)=eval o X.env:=by rfl)
  (hfew:((backTo cpos (starEach [e] X.env)).all (λx=>!x.1) && (backToKw cpos (keywordEach [] X.env)).all (λx=>x.1.isSome)
   && decide (([e]:List ao).length+([]:List j3).length+(if ([]:List j3).isEmpty then 0 else 1)<30))=true:=by rfl)
  (hline:(apos.endLine == cpos.line)=true:=by rfl) (hs:starEach [e] X.env=[(false,eval e X.env)]:=by rfl):EE X (.Call (.Attribute o "index" apos) [e] [] cpos) σ H (aH (j:Nat)):=
 EE.of (Na PySem.F.plainAttrs_tuple TZ PySem.F.type_tuple_index Nb ah cF hbase hfew hline hs rfl) λH1 s1 Q q=>⟨_,ho.grow s1,λv H2 s2 ⟨p,ev,hv⟩=>⟨⟨p,_,ev,hv⟩,_,(aM (ha.grow (s1.trans s2)) a0 hs),λvs H3 s3 z=>by
  obtain⟨w,rfl,hw⟩:=cM z
  cases hw
  exact⟨p,tx,i,j,ev,rfl,s3 _ _ hv,hj,hno,q _ _ (s2.trans s3) rfl⟩⟩⟩
theorem Nc:oC X "list.extend" (λx vs H Q=> ∃l b xs zs,x= .ref l/\vs=[.ref b]/\H l=some (.lst xs)/\H b=some (.tup zs)/\xs.length+zs.length<=sizeLine/\Q .a9 (upd H l (.lst (xs++zs)))):=by
 intro pins s σ H x vs v us Q I rx rv h
 obtain⟨l,b,xs,zs,rfl,rfl,hH,hB,hz,q⟩:=h
 cases rx
 obtain⟨u,rfl,ru⟩:=rv.one
 cases ru
 obtain⟨z,its,n,r,hl,e⟩:=I.kq hH
 obtain⟨its2,n2,r2,e2,z2⟩:=I.tup hB
 have hl2:=r2.length
 have hsz:its.toArray.size+its2.toArray.size<=sizeLine:=by rw[bQ,bQ];omega
 have hlong: ¬(!its.toArray.isEmpty && zC (its.toArray.size+its2.toArray.size))=true:=by
  rw[Bi hsz,zD]
  exact cY
 refine nF SJ ⟨_,e,rfl⟩ SK (SL _ _)
  (AutoSeq1.list_extend_list_tuple_0 l its.toArray n b its2.toArray n2 hlong (by rw[bQ];omega) (by omega)) ⟨e,e2,?_⟩
 refine⟨.a9,_,I.oE (its':=its++its2) hH e (by simp) (r.append r2) ?_,rfl,q⟩
 rw[bx]
 omega
end
end L2
namespace HT
open PySem PyProof.Rows
section
variable {prog:aI} {w:aE} {A:a7} {E:ac->af->Prop} {s:af} {J T:aa} {k:Nat} {arr:Array ac}
def rV (J:aa) (k:Nat) (arr:Array ac):Sem z5:=match arr[k]? with
 |some x=>do setField (.ref J) 1 (rawInt ((k:Int)+1));ret x
 |none=>do rule (toString "tuple_iterator.__next__"++toString ".end");setField (.ref J) 0 .none;Wa
theorem Nd {Q:z5->af->Prop} (hJ:s.heap.IsTupleIter J T k) (hT:s.heap.IsTuple T arr) (h:wpAny (model prog w) A (rV J k arr) Q E s):wpAny (model prog w) A (eC.«tuple_iterator.__next__» ⟨[.ref J],[]⟩) Q E s:=by
 obtain⟨oj,gj,_,dj⟩:=hJ
 obtain⟨ot,gt,_,m,dt⟩:=hT
 have z:(aP T == iN)=false:=rfl
 refine aj (m:=field (.ref J) 0) (tP gj dj (x:= .ref T) rfl ?_)
 simp only[z,dy,if_false]
 refine aj (m:=field (.ref J) 1) (tP gj dj (x:= .int k 0) rfl (aj (m:=seqItems? (.ref T)) (Io gt dt ?_)))
 exact h
theorem Cy {Q:Option ac->af->Prop} (hJ:s.heap.IsTupleIter J T k) (hT:s.heap.IsTuple T arr) (h:wpAny (model prog w) A.in1 (rV J k arr) (λf s'=> ∃v,f= .done (.ret v)/\Q (some v) s') E s):wpAny (model prog w) A (callSpecial? (.ref J) (iS "__next__")) Q E s:=
 l4 (name:=iS "__next__") hJ.typeIs T0 (fS T0 hJ.typeIs F.entry_tuple_iterator_next (Nd hJ hT h) (F.args_tuple_iterator_next_1 _))
theorem Nf {Q:ac->af->Prop} {v:ac} (hJ:s.heap.IsTupleIter J T k) (hT:s.heap.IsTuple T arr) (hv:arr[k]?=some v) (q: ∀h',h'.IsTupleIter J T (k+1)->kU J s.heap h'->Q v {s with heap:=h'}):wpAny (model prog w) A (T8 (.ref J)) Q E s:=by
 refine aj (m:=callSpecial? (.ref J) (iS "__next__")) (Cy hJ hT ?_)
 obtain⟨oj,gj,cj,dj⟩:=hJ
 unfold rV
 rw[hv]
 refine aj (m:=setField (.ref J) 1 _) (nJ gj dj (by simp) (ay ⟨v,rfl,ay (q _ ⟨_,ma _ gj (tY (kX dj _)),?_,?_⟩ (jw ..))⟩))
 ·rw[Tc];exact cj
 ·rw[kX dj];simp [rawInt]
theorem Cz {Q:ac->af->Prop} (h0:A.handled=none) (hJ:s.heap.IsTupleIter J T k) (hT:s.heap.IsTuple T arr) (hv:arr[k]?=none)
  (q: ∀h' x,HM J s.heap h'->(∃o,h'.get? x=some o/\o.cls= .type "StopIteration")->E (.ref x) {s with heap:=h'}):wpAny (model prog w) A (T8 (.ref J)) Q E s:=by
 refine aj (m:=callSpecial? (.ref J) (iS "__next__")) (Cy hJ hT ?_)
 obtain⟨oj,gj,cj,dj⟩:=hJ
 unfold rV
 rw[hv]
 refine aj (Ih (aj (m:=setField (.ref J) 0 _) (nJ gj dj (by simp) ?_)))
 show wpAny _ _ (newExc (.type "StopIteration") [] >>= _) _ _ _
 refine aj ?_
 simp only[newExc,newTuple]
 refine aj (hX ?_ (by size_fits))
 refine aj (m:=firstArgMember _ _) (nL (a:=iN) (by first|rfl|(simp only[firstArgMember];rfl)) ?_)
 refine hX ?_ (by size_fits)
 simp only[raiseNew]
 refine aj (HN ?_)
 rw[show A.in1.handled=none from h0]
 exact aj (ay (HP (q _ _ (((jw ..).extBut.push _).push _) ⟨_,cw _ rfl,rfl⟩)))
end
theorem Ng {prog:aI} {w:aE} {A:a7} (h0:A.handled=none) (J T:aa) (ne:T≠J) (arr:Array ac):Draws prog w A J [J,T] arr.size (λk v=>arr[k]?=some v) (λk h=>h.IsTupleIter J T k/\h.IsTuple T arr) where
 live:=λ_ _ z=>let ⟨ob,g,_⟩:=z.1;⟨ob,g⟩
 frame:=λ_ _ _ z kp=>by
  obtain⟨⟨oj,gj,rj⟩,ot,gt,rt⟩:=z
  exact⟨⟨oj,kp J (by simp) oj gj,rj⟩,ot,kp T (by simp) ot gt,rt⟩
 item:=λk sh Q E lt z q=>Nf z.1 z.2 (l_ lt) λh' z1 sb=>q _ h' sh.toks (l_ lt) ⟨z1,by
  obtain⟨ot,gt,rt⟩:=z.2
  exact⟨ot,(sb.2 T ne).trans gt,rt⟩⟩ sb
 done:=λsh Q E z q=>Cz h0 z.1 z.2 (l9 (aW _)) q
theorem Nh {prog:aI} {w:aE} {A:a7} (h0:A.handled=none) (J T:aa) (arr:Array ac) (n:Nat) (hv:arr[n]?=none):Draws prog w A J [J,T] n (λ_ _=>True) (λk h=>k=n/\h.IsTupleIter J T k/\h.IsTuple T arr) where
 live:=λ_ _ z=>let ⟨ob,g,_⟩:=z.2.1;⟨ob,g⟩
 frame:=λ_ _ _ z kp=>by
  obtain⟨e,⟨oj,gj,rj⟩,ot,gt,rt⟩:=z
  exact⟨e,⟨oj,kp J (by simp) oj gj,rj⟩,ot,kp T (by simp) ot gt,rt⟩
 item:=λk sh Q E lt z _=>absurd z.1 (cX lt)
 done:=λsh Q E z q=>Cz h0 z.2.1 z.2.2 hv q
section
open PySem.AutoSeq1 (wpAny_loadPart')
def rW (T:aa):Obj:={cls:= .type "tuple_iterator",data:= .fields #[.ref T,.int 0 0]}
def v0 (J:aa):Obj:={cls:= .type "enumerate",data:= .fields #[.none,.bool false,.ref J,rawInt 0,.none,.none]}
set_option maxHeartbeats 1000000 in
theorem Ni (T:aa) (arr:Array ac):pQ (eC.«enumerate.__new__» ⟨[.type "enumerate",.ref T],[]⟩) (λ_ R s=>s.heap.IsTuple T arr/\R (.ok (.ret (.ref (s.heap.push (rW T)).objs.size))) {s with heap:=(s.heap.push (rW T)).push (v0 s.heap.objs.size)}):=
 .of_wp λprog w A R s h=>by
  obtain⟨hT,q⟩:=h
  have sb:=sub_enumerate
  obtain⟨⟨cl,dd,da,sl⟩,gt,rfl,m,rfl⟩:=id hT
  obtain⟨hp,gs,dr,tk,os⟩:=s
  wp_walk using iQ gt
  refine wpAny_stack_any λn9=>ay ?_
  split
  ·rename_i c _ _ _ _ _
   generalize (c == jq "enumerate")=bb
   cases bb <;> (wp_walk using iQ gt,Hf hT;exact⟨_,rfl,q⟩)
  ·wp_walk using iQ gt,Hf hT;exact⟨_,rfl,q⟩
theorem Nj {prog:aI} {w:aE} {A:a7} {E:ac->af->Prop} {s:af} {T:aa} {arr:Array ac} {Q:ac->af->Prop} (hT:s.heap.IsTuple T arr)
  (q: ∀h',IsEnum h' (s.heap.objs.size+1) s.heap.objs.size 0 .none->h'.IsTupleIter s.heap.objs.size T 0->(∀b o,s.heap.get? b=some o->h'.get? b=some o)->Q (.ref (s.heap.objs.size+1)) {s with heap:=h'}):wpAny (model prog w) A (call (.type "enumerate") [.ref T]) Q E s:=by
 have z:(s.heap.push (rW T)).objs.size=s.heap.objs.size+1:=fP ..
 have g1:((s.heap.push (rW T)).push (v0 s.heap.objs.size)).get? (s.heap.objs.size+1)=some (v0 s.heap.objs.size):=by rw[←z];exact cw _ rfl
 refine callType_new F.called_enumerate (by decide) (F.typeCall_enumerate_1 _) (F.newCall_enumerate_1 _) (λob=>F.args_object_init_2 ob _) F.entry_enumerate_new (Ni T arr) ⟨hT,?_⟩
 show _/\_
 rw[z]
 exact⟨⟨_,g1,rfl⟩,q _ g1 ⟨_,b4 _ (cw _ rfl),rfl,rfl⟩ λb o e=>b4 _ (b4 _ e)⟩
end
end HT
namespace L2
open PySem PySem.Spec PyProof.Rows
def o4 (K:aA) (a:aa):It:=
 ⟨λi H=> ∃(xs:List V) (x:V),bE K H a xs/\xs[i]?=some x,λi H v H'=> ∃T x,v= .ref T/\H T=none/\H'=upd H T (.tup [.int (i:Nat),x])/\ ∀xs,bE K H a xs->xs[i]?=some x,λi H=> ∃xs:List V,bE K H a xs/\xs.length<=i⟩
theorem Nk {P:aI} {w:aE} {K:aA} {elts:List ao} {kk:Nat} {tpos:Pos} (a e it:aa) :
  Turn P w K (.Tuple elts kk tpos) (o4 K a) [e,it] e (λi h=>(∃old,IsEnum h e it ((i:Nat):Int) old)/\h.IsTupleIter it a i/\e≠it) where
 mem:=by simp
 obj:=λi h st b hb=>by
  obtain⟨⟨old,he⟩,⟨o,ho,hc,hd⟩,_⟩:=st
  have e':b=e∨b=it:=by simpa using hb
  rcases e' with z|z
  ·rw[z];exact⟨_,he,λv q=>nomatch q⟩
  ·rw[z];exact⟨o,ho,λv q=>by rw[hd] at q;cases q⟩
 keep:=λi h h' st k=>let ⟨⟨old,he⟩,hi,hne⟩:=st;⟨⟨old,k e (by simp) _ he⟩,hi.at λo q=>k it (by simp) o q,hne⟩
 item:=by
  intro X hP hw hK hc i pins s σ H E I hf st hg
  subst hP hw hK
  obtain⟨⟨old,he⟩,hit,hne⟩:=st
  obtain⟨xs,x,hq,hx⟩:=hg
  obtain⟨its,rv,p,hz⟩:=I.tuple hq
  obtain⟨u,hu,ru⟩:=rv.get hx
  have hel:e<s.heap.objs.size:=bL he
  have hil:it<s.heap.objs.size:=by obtain⟨_,q,_⟩:=hit;exact bL q
  have hai:a≠it:=λz=>by
   obtain⟨o1,e1,c1,_⟩:=hit
   obtain⟨o2,e2,c2,_⟩:=p
   rw[z,e1] at e2;cases e2
   rw[c1] at c2
   exact absurd (t_ c2) (by decide)
  have hea:e∉[it,a]:=λz=>by
   have z':e=it∨e=a:=by simpa using z
   rcases z' with z'|z'
   ·exact hne z'
   ·obtain⟨o2,e2,c2,_⟩:=p
    rw[←z',he] at e2;cases e2
    exact absurd (t_ c2) (by decide)
  have hlt:i<its.toArray.size:=by rw[bQ];exact(List.getElem?_eq_some_iff.mp hu).1
  refine wpAny_pyNext_enum_itemD (HT.Ng (by show X.A.handled=none;exact I.ok.hd hc) it a hai its.toArray) he ⟨hit,p⟩ hlt hne hea λx' h' tk hP ho hst' hT hsz hk=>?_
  have ex:x'=u:=by
   have q:its[i]?=some x':=by simpa using hP
   rw[hu] at q;exact(cJ q).symm
  subst ex
  have hit':=hst'.1
  refine⟨_,rfl,Ti (s:={s with heap:=h',toks:=tk+1}) ho λh'' he' sb=>?_⟩
  have hT2:h''.get? s.heap.objs.size=some {cls:= .type "tuple",data:= .seq #[.int i tk,x']}:=(sb.2 _ (zk hel)).trans hT
  have new:cz X.prog X.w (upd H s.heap.objs.size (.tup [.int (i:Nat),x])) h'' s.heap.objs.size (.tup [.int (i:Nat),x]):=
   ⟨by show 2<=sizeLine;decide,[.int i tk,x'],.cons ⟨_,rfl⟩ (.cons ru .nil),⟨_,hT2,rfl,_,rfl⟩,_,hT2,rfl,rfl⟩
  have I1:Inv X pins σ (upd H s.heap.objs.size (.tup [.int (i:Nat),x])) {s with heap:=h'',toks:=tk+1}:=
   I.BD (ch:=[e,it]) (λb ob hb q=>(sb.2 b (λz=>hb (by simp [z]))).trans (hk b ob (λz=>hb (by simp [z])) (λz=>hb (by simp [z])) q)) hf (aW _) new
  refine⟨.ref s.heap.objs.size,_,I1,rfl,⟨_,x,rfl,I.aB.fresh (aW _),rfl,λys hy=>by rw[I.uH hy hq];exact hx⟩,⟨⟨x',?_⟩,hit'.at λo q=>(sb.2 it (dw hne)).trans q,hne⟩,λb hb=>?_⟩
  ·have e1:((i+1:Nat):Int)=(i:Int)+1:=by omega
   rw[e1];exact he'
  ·have hb':b<s.heap.objs.size:=by
    have e':b=e∨b=it:=by simpa using hb
    rcases e' with z|z
    ·rw[z];exact hel
    ·rw[z];exact hil
   rw[az (cX hb')]
   exact(hf b hb).1
 done:=by
  intro X hP hw hK hc i pins s σ H E I hf st hg
  subst hP hw hK
  obtain⟨⟨old,he⟩,hit,hne⟩:=st
  obtain⟨xs,hq,hx⟩:=hg
  obtain⟨its,rv,p,hz⟩:=I.tuple hq
  obtain⟨f0,f1,f2,f3,f4,f5⟩:=hf it (by simp)
  have hl:=rv.length
  have hai:a≠it:=λz=>by
   obtain⟨o1,e1,c1,_⟩:=hit
   obtain⟨o2,e2,c2,_⟩:=p
   rw[z,e1] at e2;cases e2
   rw[c1] at c2
   exact absurd (t_ c2) (by decide)
  refine wpAny_pyNext_enum_endD (HT.Nh (by show X.A.handled=none;exact I.ok.hd hc) it a its.toArray i (by simp;omega)) he ⟨rfl,hit,p⟩ λh' eb=>⟨rfl,I.turned (t':=s.toks) (λb o hb q=>eb b o hb q) f0 f1 f3 f4 f5⟩
 self:=λA i s Q E st h=>let ⟨⟨_,he⟩,_⟩:=st;zP he h
def Nl (K:aA) (ta:TA):TI:=λσ H R=>ta σ H λvs H1=> ∃a xs,vs=[.ref a]/\bE K H1 a xs/\R (o4 K a) H1
theorem Nm {X:Cx} {e:ao} {ta:TA} {p pos tpos:Pos} {elts:List ao} {kk:Nat} (hg:Gl X "enumerate") (hm:X.mg "enumerate"=none) (ha:PA X [e] ta) (hs:starEach [e] X.env=[(false,eval e X.env)]:=by rfl) :
  PI X (.Tuple elts kk tpos) (.Call (.Name "enumerate" p) [e] [] pos) (Nl X.K ta):=by
 intro pins s σ H R I h
 refine Call_ (qx I hg hm Tj (Hv (aJ (ha pos pins s σ H _ I h) λus s1 ⟨vs,H1,I1,r1,q1⟩=>?_) hs rfl))
 obtain⟨a,xs,ex,hq,q⟩:=q1
 subst ex
 cases r1 with
 |cons r rr=>
  cases rr
  cases r
  obtain⟨its,rv,p',hz⟩:=I1.tuple hq
  refine HT.Nj p' λh' he hit hk=>zP he ?_
  have I2:Inv X pins σ H1 {s1 with heap:=h'}:=I1.kept (t':=s1.toks) hk
  refine⟨s1.heap.objs.size+1,[s1.heap.objs.size+1,s1.heap.objs.size],_,_,H1,rfl,I2,Nk a (s1.heap.objs.size+1) s1.heap.objs.size,⟨⟨.none,he⟩,hit,Tk _⟩,λb hb=>?_,q⟩
  have e':b=s1.heap.objs.size+1∨b=s1.heap.objs.size:=by simpa using hb
  have hle:s1.heap.objs.size<=b:=by
   rcases e' with z|z
   ·rw[z];exact Tl _ _
   ·rw[z];exact aW _
  exact I1.mv hle (I1.aB.fresh hle)
section
variable {X:Cx} {a b c e o:ao} {σ:St} {H:Hp} {D:Ends} {t u:TS}
theorem aQ {d:Den} (h:EE X e σ H d) (q: ∀v H2,ak H H2->d.p v H2->D.rt v H2):qy (tE X e) D σ H:=⟨d,h,q⟩
theorem bc {b:Bool} (h:ET X c σ H b) (h1:b=true-> ∀H2,ak H H2->t D σ H2) (h2:b=false-> ∀H2,ak H H2->u D σ H2):Ax (tT X c) t u D σ H:=
 ⟨b,h,λH2 s2=>by
  cases b with
  |true=>exact jJ (h1 rfl H2 s2)
  |false=>exact jI (h2 rfl H2 s2)⟩
theorem br {i:Nat} {d:Den} (h:EE X e σ H d) (q: ∀v H2,ak H H2->d.p v H2->D.nx (σ.set i (some v)) H2):lr (tE X e) (d8 i) D σ H:=⟨d,h,q⟩
theorem g8 {d:Den} {l:aa} {xs:List V} (ho:EE X o σ H (ax (.ref l))) (hl:H l=some (.lst xs)) (hz:xs.length<sizeLine) (he:EA X [e] σ H [d]) (q: ∀v H2,ak H H2->d.p v H2->D.nx σ (upd H2 l (.lst (xs++[v])))) :
  ol (oB X.K "list" Bj (tE X o) (tA X [e])) D σ H:=
 ⟨_,ho,λv H2 s2 hv=>by
  cases hv
  refine⟨.inl ⟨rfl,_,.of (s2 _ _ hl)⟩,_,he.grow s2,λvs H3 s3 z=>?_⟩
  obtain⟨w,rfl,hw⟩:=cM z
  exact⟨l,xs,w,rfl,rfl,s3 _ _ (s2 _ _ hl),hz,q w H3 (s2.trans s3) hw⟩⟩
theorem Nn {l:aa} {xs zs:List V} (ho:EE X o σ H (ax (.ref l))) (hl:H l=some (.lst xs)) (hz:xs.length+zs.length<=sizeLine) (he:EA X [e] σ H [aw zs]) (q: ∀H2,ak H H2->D.nx σ (upd H2 l (.lst (xs++zs)))) :
  ol (oB X.K "list" (λx vs H Q=> ∃l b xs zs,x= .ref l/\vs=[.ref b]/\H l=some (.lst xs)/\H b=some (.tup zs)/\xs.length+zs.length<=sizeLine/\Q .a9 (upd H l (.lst (xs++zs)))) (tE X o) (tA X [e])) D σ H:=
 ⟨_,ho,λv H2 s2 hv=>by
  cases hv
  refine⟨.inl ⟨rfl,_,.of (s2 _ _ hl)⟩,_,he.grow s2,λvs H3 s3 z=>?_⟩
  obtain⟨w,rfl,b,rfl,hb⟩:=cM z
  exact⟨l,b,xs,zs,rfl,rfl,s3 _ _ (s2 _ _ hl),hb,hz,q H3 (s2.trans s3)⟩⟩
theorem ff {H H1:Hp} {l:aa} {o:HO} (hl:H l=none) (s:ak H H1):ak H (upd H1 l o):=λb u e=>by rw[az (cA e hl)];exact s b u e
theorem No {K:aA} {a:aa} {xs:List V} {g:TG} {tb:TS} {D:Ends} {σ:St} {H:Hp} (Pv:Nat->St->Hp->Prop) (h0:Pv 0 σ H) (hl: ∀i σ H,i<=xs.length->Pv i σ H->bE K H a xs)
  (hs: ∀i x σ H T,xs[i]?=some x->Pv i σ H->H T=none->g (.ref T) σ (upd H T (.tup [.int (i:Nat),x])) λσ2 H2=>tb {D with nx:=Pv (i+1),ct:=Pv (i+1),bk:=D.nx} σ2 H2) (hd: ∀σ H,Pv xs.length σ H->D.nx σ H) :
  ∃W:Nat->Nat->St->Hp->Prop,(∃m,W 0 m σ H)/\ ∀i m σ H,W i m σ H ->
   ((o4 K a).stop i H/\D.nx σ H)∨((o4 K a).go i H/\ ∃N:St->Hp->Prop,(∀σ' H',N σ' H'-> ∃m',m'<m/\W (i+1) m' σ' H')/\ ∀x H',(o4 K a).gx i H x H'->g x σ H' λσ2 H2=>tb {D with nx:=N,ct:=N,bk:=D.nx} σ2 H2):=by
 refine⟨λi m σ H=>m=xs.length-i/\i<=xs.length/\Pv i σ H,⟨xs.length,by simp,bv _,h0⟩,?_⟩
 rintro i m σ H ⟨rfl,hi,p⟩
 have q:=hl i σ H hi p
 by_cases hlt:i<xs.length
 ·refine .inr ⟨⟨xs,xs[i],q,by simp [hlt]⟩,Pv (i+1),λσ' H' p'=>⟨xs.length-(i+1),by omega,rfl,hlt,p'⟩,λx H' y=>?_⟩
  obtain⟨T,z,rfl,hT,rfl,y⟩:=y
  exact hs i z σ H T (y xs q) p hT
 ·have e:i=xs.length:=by omega
  subst e
  exact .inl ⟨⟨xs,q,aW _⟩,hd σ H p⟩
theorem Np {K:aA} {a:aa} {xs:List V} {g:TG} {tb:TS} {D:Ends} {σ:St} {H:Hp} (Pv:Nat->St->Hp->Prop) (h0:Pv 0 σ H) (hl: ∀i σ H,i<=xs.length->Pv i σ H->bN K H a xs)
  (hs: ∀i x σ H T,xs[i]?=some x->Pv i σ H->H T=none->g (.ref T) σ (upd H T (.tup [.int (i:Nat),x])) λσ2 H2=>tb {D with nx:=Pv (i+1),ct:=Pv (i+1),bk:=D.nx} σ2 H2) (hd: ∀σ H,Pv xs.length σ H->D.nx σ H) :
  ∃W:Nat->Nat->St->Hp->Prop,(∃m,W 0 m σ H)/\ ∀i m σ H,W i m σ H ->
   ((oO K a).stop i H/\D.nx σ H)∨((oO K a).go i H/\ ∃N:St->Hp->Prop,(∀σ' H',N σ' H'-> ∃m',m'<m/\W (i+1) m' σ' H')/\ ∀x H',(oO K a).gx i H x H'->g x σ H' λσ2 H2=>tb {D with nx:=N,ct:=N,bk:=D.nx} σ2 H2):=by
 refine⟨λi m σ H=>m=xs.length-i/\i<=xs.length/\Pv i σ H,⟨xs.length,by simp,bv _,h0⟩,?_⟩
 rintro i m σ H ⟨rfl,hi,p⟩
 have q:=hl i σ H hi p
 by_cases hlt:i<xs.length
 ·refine .inr ⟨⟨xs,xs[i],q,by simp [hlt]⟩,Pv (i+1),λσ' H' p'=>⟨xs.length-(i+1),by omega,rfl,hlt,p'⟩,λx H' y=>?_⟩
  obtain⟨T,z,rfl,hT,rfl,y⟩:=y
  exact hs i z σ H T (y xs q) p hT
 ·have e:i=xs.length:=by omega
  subst e
  exact .inl ⟨⟨xs,q,aW _⟩,hd σ H p⟩
theorem Nq {c:ao} {tb:TS} {D:Ends} {σ:St} {H:Hp} (Pv:St->Hp->Prop) (μ:St->Hp->Nat) (h0:Pv σ H)
  (hs: ∀σ H,Pv σ H-> ∃b,ET X c σ H b/\ ∀H1,ak H H1->(b=true->tb {D with nx:=λσ' H'=>Pv σ' H'/\μ σ' H'<μ σ H,ct:=λσ' H'=>Pv σ' H'/\μ σ' H'<μ σ H,bk:=D.nx} σ H1)/\(b=false->D.nx σ H1)):qC (tT X c) tb D σ H:=by
 refine JW Pv μ h0 (λσ H p=>?_) (λσ H Q Q' hq ⟨b,h,q⟩=>⟨b,h,λH2 s2=>hq _ _ (q H2 s2)⟩)
 obtain⟨b,hb,h⟩:=hs σ H p
 refine⟨b,hb,λH2 s2=>?_⟩
 cases b with
 |true=>exact jJ ((h H2 s2).1 rfl)
 |false=>exact jI ((h H2 s2).2 rfl)
end
section
variable {X:Cx} {a b c e f o:ao} {es:List ao} {pos p2 apos cpos:Pos} {σ:St} {H:Hp}
theorem rX: ∀{xs vs:List V} {H:Hp},bZ (xs.map ax) vs H->vs=xs
 | [],_,_,h=>by rw[iU] at h;cases h;rfl
 |x::xs,_,_,h=>by
  rw[aU] at h
  cases h with
  |cons h t=>cases h;rw[rX t]
theorem CB {xs:List V} {k:Nat} (h:EA X es σ H (xs.map ax)) (hz:xs.length<=sizeLine):EE X (.Tuple es k pos) σ H (aw xs):=
 EE.of (Ks cF) λH1 s1 Q q=>⟨_,h.grow s1,λvs H2 s2 z=>by
  have e:=rX z
  subst e
  exact⟨hz,λp hp=>q _ _ (s2.trans (bF hp)) ⟨p,rfl,aK⟩⟩⟩
theorem mQ {xs:List V} (h:EA X es σ H (xs.map ax)) (hz:xs.length<=sizeLine):EE X (.List es pos) σ H (cC xs):=
 EE.of (fF cF) λH1 s1 Q q=>⟨_,h.grow s1,λvs H2 s2 z=>by
  have e:=rX z
  subst e
  exact⟨hz,λp hp=>q _ _ (s2.trans (bF hp)) ⟨p,rfl,aK⟩⟩⟩
def keyOf (t:List Nat):List Key:=t.map λn=>dF ((n:Nat):Int)
theorem gF (t:List Nat):(keyOf t).map kV=tv t:=by unfold keyOf tv;rw[eR];rfl
theorem kE {t u:List Nat} (h:keyOf t=keyOf u):t=u:=oX (by rw[←gF,←gF,h])
theorem lI {H:Hp} {d p:aa} {kvs:List (List Key×V)} {t:List Nat} (hd:H d=some (.dT kvs)) (hp:H p=some (.tup (tv t))):gD H d (.ref p) (bO kvs (keyOf t)):=gD.t hd (by rw[gF];exact hp)
theorem CC (hu:X.A.units+1<cLine) {d:aa} {kvs:List (List Key×V)} {t:List Nat} (ha:EE X a σ H (aw (tv t))) (hb:EE X b σ H (ax (.ref d))) (hd:H d=some (.dT kvs)) (hm:behindInMarks .In b=false:=by with_unfolding_all rfl):ET X (.Compare a [.In] [b] pos) σ H ((bO kvs (keyOf t)).isSome):=
 ET.of (uG (vf hu ah ah) hm) λH1 s1 Q q=>⟨_,ha.grow s1,λv H2 s2 ⟨p,ev,hv⟩=>⟨_,hb.grow (s1.trans s2),λw H3 s3 hw=>by
  cases hw
  subst ev
  exact⟨d,_,rfl,lI (s3 _ _ (s2 _ _ (s1 _ _ hd))) (s3 _ _ hv),_,rfl,q _ (s2.trans s3)⟩⟩⟩
theorem jM (hu:X.A.units+1<cLine) {d:aa} {kvs:List (List Key×V)} {t:List Nat} (ha:EE X a σ H (aw (tv t))) (hb:EE X b σ H (ax (.ref d))) (hd:H d=some (.dT kvs)) (hm:behindInMarks .NotIn b=false:=by with_unfolding_all rfl):ET X (.Compare a [.NotIn] [b] pos) σ H (!(bO kvs (keyOf t)).isSome):=
 ET.of (uG (BA hu ah ah) hm) λH1 s1 Q q=>⟨_,ha.grow s1,λv H2 s2 ⟨p,ev,hv⟩=>⟨_,hb.grow (s1.trans s2),λw H3 s3 hw=>by
  cases hw
  subst ev
  exact⟨d,_,rfl,lI (s3 _ _ (s2 _ _ (s1 _ _ hd))) (s3 _ _ hv),_,rfl,q _ (s2.trans s3)⟩⟩⟩
theorem CD (hu:X.A.units+1<cLine) {d:aa} {kvs:List (List Key×V)} {t:List Nat} (ha:EE X a σ H (aw (tv t))) (hb:EE X b σ H (ax (.ref d))) (hd:H d=some (.dT kvs)) (hm:behindInMarks .NotIn b=false:=by with_unfolding_all rfl):EE X (.Compare a [.NotIn] [b] pos) σ H (bo (!(bO kvs (keyOf t)).isSome)):=
 EE.of (uF (BA hu ah ah) hm) λH1 s1 Q q=>⟨_,ha.grow s1,λv H2 s2 ⟨p,ev,hv⟩=>⟨_,hb.grow (s1.trans s2),λw H3 s3 hw=>by
  cases hw
  subst ev
  exact⟨d,_,rfl,lI (s3 _ _ (s2 _ _ (s1 _ _ hd))) (s3 _ _ hv),q _ _ (s2.trans s3) rfl⟩⟩⟩
theorem Nr (hu:X.A.units+1<cLine) {d:aa} {kvs:List (List Key×V)} {t:List Nat} (ha:EE X a σ H (aw (tv t))) (hb:EE X b σ H (ax (.ref d))) (hd:H d=some (.dT kvs)) (hm:behindInMarks .In b=false:=by with_unfolding_all rfl):EE X (.Compare a [.In] [b] pos) σ H (bo ((bO kvs (keyOf t)).isSome)):=
 EE.of (uF (vf hu ah ah) hm) λH1 s1 Q q=>⟨_,ha.grow s1,λv H2 s2 ⟨p,ev,hv⟩=>⟨_,hb.grow (s1.trans s2),λw H3 s3 hw=>by
  cases hw
  subst ev
  exact⟨d,_,rfl,lI (s3 _ _ (s2 _ _ (s1 _ _ hd))) (s3 _ _ hv),q _ _ (s2.trans s3) rfl⟩⟩⟩
theorem kF (hu:X.A.units+1<cLine) {d:aa} {kvs:List (List Key×V)} {t:List Nat} {v:V} (ha:EE X a σ H (ax (.ref d))) (hb:EE X b σ H (aw (tv t))) (hd:H d=some (.dT kvs)) (hv:bO kvs (keyOf t)=some v) (hs:oM b:=by intro _ _;rfl):EE X (.Subscript a b pos) σ H (ax v):=
 EE.of (Bz hu ah ah hs) λH1 s1 Q q=>⟨_,ha.grow s1,λw H2 s2 hw=>⟨_,hb.grow (s1.trans s2),λy H3 s3 ⟨p,ep,hp⟩=>by
  cases hw
  subst ep
  refine⟨d,v,rfl,?_,q _ _ (s2.trans s3) rfl⟩
  rw[←hv]
  exact lI (s3 _ _ (s2 _ _ (s1 _ _ hd))) hp⟩⟩
theorem Nt (hu:X.A.units+1<cLine) {d:aa} {kvs:List (List Key×V)} {t:List Nat} {dx d':Den} (ho:EE X o σ H (ax (.ref d))) (he:EE X e σ H (aw (tv t))) (hf:EE X f σ H dx) (hd:H d=some (.dT kvs))
  (h: ∀z H1,ak H H1->dx.p z H1->d'.p ((bO kvs (keyOf t)).getD z) H1) (m:M2 X o "get" apos e f cpos):EE X (.Call (.Attribute o "get" apos) [e,f] [] cpos) σ H d':=
 EE.of (LP hu ah ah ah m) λH1 s1 Q q=>⟨_,ho.grow s1,λw H2 s2 hw=>by
  cases hw
  refine⟨d,rfl,.inr ⟨kvs,.inl (s2 _ _ (s1 _ _ hd))⟩,_,he.grow (s1.trans s2),λy H3 s3 hy=>?_⟩
  obtain⟨p,ep,hp⟩:=hy
  subst ep
  refine⟨_,hf.grow (s1.trans (s2.trans s3)),λz H4 s4 hz=>?_⟩
  exact⟨_,lI (s4 _ _ (s3 _ _ (s2 _ _ (s1 _ _ hd)))) (s4 _ _ hp),q _ _ (s2.trans (s3.trans s4)) (h z H4 (s1.trans (s2.trans (s3.trans s4))) hz)⟩⟩
theorem bS {g C dx:aa} {fs:List (Str×V)} {fn:Str} {v:V} (ha:EE X a σ H (ax (.ref g))) (hg:H g=some (.ins C dx fs)) (cl:ip X.K C) (n:fW X.K C fn) (hf:fs.lookup fn=some v) (hb:attributeBase a fn X.env (eval a X.env)=eval a X.env:=by rfl):EE X (.Attribute a fn pos) σ H (ax v):=
 EE.of (Kl ah hb) λH1 s1 Q q=>⟨_,ha.grow s1,λw H2 s2 hw=>by
  cases hw
  exact⟨g,C,dx,fs,v,rfl,s2 _ _ (s1 _ _ hg),cl,n,hf,q _ _ s2 rfl⟩⟩
theorem dE {xs:List V} {i:Int} {v:V} (ha:EE X a σ H (bt X.K xs)) (hb:EE X b σ H (aH i)) (hv:fX xs i=some v) (hs:oA b:=by intro _ _;rfl):EE X (.Subscript a b pos) σ H (ax v):=
 EE.of (qK uQ ah ah hs) λH1 s1 Q q=>⟨_,ha.grow s1,λw H2 s2 ⟨p,ep,hp⟩=>⟨_,hb.grow (s1.trans s2),λy H3 s3 hy=>⟨p,xs,i,v,ep,hy,s3.seq hp,hv,q _ _ (s2.trans s3) rfl⟩⟩⟩
theorem jd {xs:List V} {i:Int} {v:V} (ha:EE X a σ H (de X.K xs)) (hb:EE X b σ H (aH i)) (hv:fX xs i=some v) (hs:oA b:=by intro _ _;rfl):EE X (.Subscript a b pos) σ H (ax v):=
 EE.of (qK K4 ah ah hs) λH1 s1 Q q=>⟨_,ha.grow s1,λw H2 s2 ⟨p,ep,hp⟩=>⟨_,hb.grow (s1.trans s2),λy H3 s3 hy=>⟨p,xs,i,v,ep,hy,ak.kx s3 hp,hv,q _ _ (s2.trans s3) rfl⟩⟩⟩
end
end L2
namespace PyProof.Rows.G
open PySem PySem.W PySem.Calls PyProof.Rows
section
variable {prog:aI} {w:aE} {A:a7} {E:ac->af->Prop} {s:af}
theorem Nu {shape:Nat->Bool} {d:ac} {vs fs:List ac} {Q:ac->af->Prop}
  (hcol: ∀(A':a7) (Q':List ac->af->Prop) (E':ac->af->Prop),A'.handled=A.handled->A'.units<=A.units+1->(∀h1 tk,(∀b o,s.heap.get? b=some o->h1.get? b=some o)->Q' vs {s with heap:=h1,toks:=tk})->wpAny (model prog w) A' (collect d) Q' E' s)
  (eJ:TupsOf s.heap shape vs fs) (keys: ∀v,v∈vs-> ∃l,tupKeyC s.heap shape v=some l) (ci:vs.length<=sizeLine)
  (h: ∀(st':bK) (h1 h':aF) (e tk:Nat),(arrOf st').Perm (pairsOf vs)->nQ (tupKindC s.heap shape) (arrOf st') (pairsOf vs).size->(∀b o,s.heap.get? b=some o->h1.get? b=some o)->(∀b o,h1.get? b=some o->h'.get? b=some o)->h'.get? h1.objs.size=some (seqObj "list" ((arrOf st').map (·.2)) e) ->
   Q (.ref h1.objs.size) {s with heap:=h',toks:=tk}) :
  wpAny (model prog w) A (call (.builtin "sorted") [d]) Q E s:=by
 refine Ip kind_sorted plain_sorted entry_sorted (args_sorted1 _) (aj (m:=checkCount "sorted" 1 1 _) (ay (aj (hcol _ _ _ rfl (aW _) λh1 tk k1=>aj (Iq ?_)))))
 have hoL:(h1.push (seqObj "list" vs.toArray 0)).get? h1.objs.size=some (seqObj "list" vs.toArray 0):=cw _ rfl
 have k0:KeepsTups s.heap (h1.push (seqObj "list" vs.toArray 0)):=λb o e _=>b4 _ (k1 b o e)
 have kAll:KeepsTups s.heap _:=k0.trans (keeps_sort6 (vs:=vs) hoL)
 show wpAny _ _ _ _ _ {s with heap:=h1.push (seqObj "list" vs.toArray 0),toks:=tk}
 refine aj (iR (fS T9 ⟨_,hoL,rfl⟩ T_ (list_sort_treeG (κ:=tupKindC s.heap shape) (kd:=tuples' true) hoL (tupKeys keys) ?ordG ?keyG ci λst' a1 a2 a3=>⟨_,rfl,?retG⟩) (Ua _)))
 case ordG=>exact tupC_ltAt true kAll
 case keyG=>
  intro h2 R hq
  exact tup_kind (by rw[TupsOf.length eJ];omega) (TupsOf.keep kAll eJ) hq
 case retG=>
  obtain⟨e,he⟩:=Ub (vs:=vs) (out:=(arrOf st').map (·.2)) hoL
  refine ay ⟨_,rfl,h st' h1 _ e tk a1 a2 k1 (λb o hb1=>?_) he⟩
  have hlt:b<h1.objs.size:=bL hb1
  rw[Uc (cX hlt) (by rw[size_push'];exact nG hlt)]
  exact b4 _ hb1
end
end PyProof.Rows.G
namespace L2
open PySem PySem.Spec PyProof.Rows
theorem CF {α β:Type} {f:α->β} {l:List β}: ∀{m:List β},l.Perm m-> ∀{n:List α},m=n.map f-> ∃n':List α,n'.Perm n/\l=n'.map f:=by
 intro m h
 induction h with
 |nil=>
  intro n e
  have:n=[]:=by cases n with|nil=>rfl|cons _ _=>cases e
  subst this
  exact⟨[],.nil,rfl⟩
 |cons x h ih=>
  intro n e
  cases n with
  |nil=>cases e
  |cons a n=>
   rw[aU] at e
   injection e with e1 e2
   obtain⟨n',p,q⟩:=ih e2
   exact⟨a::n',p.cons a,by rw[aU,q,e1]⟩
 |swap x y l=>
  intro n e
  match n,e with
  | [],e=>cases e
  | [_],e=>cases e
  |a::b::n,e=>
   rw[aU,aU] at e
   injection e with e1 e2
   injection e2 with e2 e3
   exact⟨b::a::n,.swap a b n,by rw[aU,aU,e1,e2,e3]⟩
 |trans h1 h2 ih1 ih2=>
  intro n e
  obtain⟨n1,p1,q1⟩:=ih2 e
  obtain⟨n2,p2,q2⟩:=ih1 q1
  exact⟨n2,p2.trans p1,q2⟩
theorem lJ {α β:Type} {F:α->β->Prop}: ∀{as:List α} {ts:List β},cb F as ts-> ∃ps:List (α×β),as=ps.map (·.1)/\ts=ps.map (·.2)/\ ∀p∈ps,F p.1 p.2
 |_,_,.nil=>⟨[],rfl,rfl,λp hp=>(by cases hp)⟩
 |_,_,.cons (a:=a) (b:=b) h t=>by
  obtain⟨ps,h1,h2,h3⟩:=lJ t
  refine⟨(a,b)::ps,by rw[h1];rfl,by rw[h2];rfl,λp hp=>?_⟩
  rcases be.mp hp with e|hp
  ·rw[e];exact h
  ·exact h3 p hp
theorem CG {α β:Type} {F:α->β->Prop}: ∀{ps:List (α×β)},(∀p∈ps,F p.1 p.2)->cb F (ps.map (·.1)) (ps.map (·.2))
 | [],_=> .nil
 |p::ps,h=> .cons (h p bB) (CG λq hq=>h q (bq _ hq))
def je (t:List Nat):List (Int ⊕ List Nat):=t.map λn=>dF ((n:Nat):Int)
abbrev dA:Nat->Bool:=λ_=>false
theorem CH: ∀{us:List ac} {t:List Nat} (i:Nat),Vals (tv t) us->Ir dA i us=some (je t)
 | [],t,i,r=>by
  cases t with
  |nil=>rfl
  |cons n t=>cases r
 |u::us,t,i,r=>by
  cases t with
  |nil=>cases r
  |cons n t=>
   cases r with
   |cons h q=>
    obtain⟨k,rfl⟩:=h
    have ih:=CH (i+1) (t:=t) q
    show (if dA i=true then none else (Ir dA (i+1) us).map (dF ((n:Nat):Int):: ·))=_
    rw[if_neg (by simp [dA]),ih];rfl
theorem CI: ∀t u:List Nat,p8 p9 (je t) (je u)=uf t u
 | [],[]=>rfl
 | [],_::_=>rfl
 |_::_,[]=>rfl
 |a::t,b::u=>by
  show p8 p9 (dF ((a:Nat):Int)::je t) (dF ((b:Nat):Int)::je u)=(decide (a<b) || (a == b && uf t u))
  by_cases e:a=b
  ·subst e
   rw[Ud,CI t u];simp
  ·rw[Ue (by intro z;injection z with z;omega),beq_eq_false_iff_ne.mpr e]
   show decide (((a:Nat):Int)<((b:Nat):Int))=_
   rw[zl,Uf]
   exact decide_eq_decide.mpr (by omega)
section
variable {X:Cx} {σ:St} {H:Hp} {pins:List (aa×Obj)} {s:af}
theorem CJ (I:Inv X pins σ H s) {a:aa} {t:List Nat} (h:H a=some (.tup (tv t))):k5 s.heap dA (.ref a)=some (je t):=by
 obtain⟨its,n,r,hg,hz⟩:=I.tup h
 unfold k5
 have h1:Ug s.heap (.ref a)=true:=by simp only[Ug,hg];rfl
 rw[if_pos h1]
 simp only[Wb,hg]
 exact CH 0 r
theorem Nv (I:Inv X pins σ H s) {a:aa} {t:List Nat} (h:H a=some (.tup (tv t))) (hn:t≠[]): ∃f,Wc s.heap dA (.ref a) f:=by
 obtain⟨its,n,r,hg,hz⟩:=I.tup h
 cases t with
 |nil=>exact(hn rfl).elim
 |cons x t=>
  cases r with
  |cons q _=>
   obtain⟨k,rfl⟩:=q
   exact⟨_,a,_,_,n,rfl,hg,rfl,rfl,rfl,λ_=>⟨_,_,rfl⟩,λz=>(by cases z)⟩
theorem CK (I:Inv X pins σ H s): ∀{as:List aa} {ts:List (List Nat)},ba H as ts->(∀t∈ts,t≠[])-> ∃fs,Wd s.heap dA (as.map aP) fs
 |_,_,.nil,_=>⟨[],.nil⟩
 |_,_,.cons h t,hn=>by
  obtain⟨fs,q⟩:=CK I t λx hx=>hn x (bq _ hx)
  obtain⟨f,hf⟩:=Nv I h (hn _ bB)
  exact⟨f::fs,.cons hf q⟩
theorem rY: ∀as:List aa,Vals (as.map V.ref) (as.map aP)
 | []=> .nil
 |a::as=> .cons rfl (rY as)
def CL (P:aI) (w:aE) (A:a7) (E:ac->af->Prop) (Q:ac->af->Prop) (s:af) (d:ac) (vs:List ac):Prop:=
  (∀ (st':bK) (h1 h':aF) (e tk:Nat),(arrOf st').Perm (pairsOf vs)->nQ (k6 s.heap dA) (arrOf st') (pairsOf vs).size->(∀b o,s.heap.get? b=some o->h1.get? b=some o)->(∀b o,h1.get? b=some o->h'.get? b=some o)->h'.get? h1.objs.size=some (seqObj "list" ((arrOf st').map (·.2)) e) ->
      Q (.ref h1.objs.size) {s with heap:=h',toks:=tk})->wpAny (model P w) A (call (.builtin "sorted") [d]) Q E s
theorem CM {A:a7} {E:ac->af->Prop} {Q:ac->af->Prop} {d:ac} {as:List aa} {ts:List (List Nat)} (I:Inv X pins σ H s) (htx:ba H as ts) (hnd:ts.Nodup) (hz:as.length<=sizeLine) (hS:CL X.prog X.w A E Q s d (as.map aP))
  (h: ∀p as' s',H p=none->Inv X pins σ (upd H p (.lst (as'.map V.ref))) s'->ba H as' (cf ts)->Q (.ref p) s'):wpAny (model X.prog X.w) A (call (.builtin "sorted") [d]) Q E s:=by
 obtain⟨ps,e1,e2,hps⟩:=lJ htx
 have hkey: ∀p∈ps,k5 s.heap dA (.ref p.1)=some (je p.2):=λp hp=>CJ I (hps p hp)
 refine hS λst' h1 h' e tk a1 a2 hk1 hk he=>?_
 have pm:(arrOf st').toList.Perm (ps.map λq=>(aP q.1,aP q.1)):=by
  have q1:=Array.perm_iff_toList_perm.mp a1
  rw[We,e1,eR] at q1
  have q2:(ps.map (aP ∘ λx=>x.1)).zip (ps.map (aP ∘ λx=>x.1))=ps.map λq=>(aP q.1,aP q.1):=by
   rw[Uh];rfl
  rw[q2] at q1
  exact q1
 obtain⟨ps',pp,ep⟩:=CF pm rfl
 have hps': ∀q∈ps',H q.1=some (.tup (tv q.2)):=λq hq=>hps q (pp.mem_iff.mp hq)
 have htx':ba H (ps'.map (·.1)) (ps'.map (·.2)):=CG hps'
 have hsz:(pairsOf (as.map aP)).size=ps'.length:=by rw[Wf,aC,e1,aC,pp.length_eq]
 have hKK: ∀(i:Nat) (q:aa×List Nat),ps'[i]?=some q->KK (k6 s.heap dA) (arrOf st') i=je q.2:=λi q hq=>by
  have:(arrOf st')[i]?=some (aP q.1,aP q.1):=by
   rw[←ju,ep,bC,hq];rfl
  unfold KK
  rw[this]
  show (k5 s.heap dA (aP q.1)).getD []=_
  rw[hkey q (pp.mem_iff.mp (dg hq))];rfl
 have nd':(ps'.map (·.2)).Nodup:=by
  have:(ps'.map (·.2)).Perm (ps.map (·.2)):=pp.map _
  rw[←e2] at this
  exact this.nodup_iff.mpr hnd
 have asc:Dm.cE (ps'.map (·.2)):=by
  rw[Dm.cE,Iu]
  intro i j hi hj hij
  rw[aC] at hi hj
  have k1:=hKK i _ (b8 hi)
  have k2:=hKK j _ (b8 hj)
  have k3:=a2 i j (tM hij) (by rw[hsz];exact hj)
  rw[k1,k2] at k3
  have k4:p8 p9 (je ps'[j].2) (je ps'[i].2)=false:=k3
  rw[CI] at k4
  rw[nR,nR]
  refine Dm.rp _ _ ?_ k4
  intro z
  have:=(RS (h₀:=by rw[aC];exact hj) (h₁:=by rw[aC];exact hi) nd').mp (by rw[nR,nR];exact z)
  omega
 have eo:cf ts=ps'.map (·.2):=Dm.mE asc λx=>by
  rw[e2]
  exact(pp.map _).mem_iff
 have hout:((arrOf st').map (·.2)).toList=(ps'.map (·.1)).map aP:=by
  rw[Ui,ep,eR,eR];rfl
 have I1:Inv X pins σ H {s with heap:=h1}:=I.kept (t':=s.toks) hk1
 have hfree:H h1.objs.size=none:=I1.aB.fresh (aW _)
 refine h h1.objs.size (ps'.map (·.1)) _ hfree (I1.laid (t':=tk) hk (aW _) ⟨?_,(ps'.map (·.1)).map aP,e,rY _,?_⟩) (by rw[eo];exact htx')
 ·rw[aC,aC,pp.length_eq]
  rw[e1,aC] at hz
  exact hz
 ·rw[he,←hout]
theorem CN (I:Inv X pins σ H s) {as:List aa} {ts:List (List Nat)} (htx:ba H as ts): ∀v∈as.map aP,∃l,k5 s.heap dA v=some l:=by
 obtain⟨ps,e1,e2,hps⟩:=lJ htx
 intro v hv
 rw[e1,eR] at hv
 obtain⟨q,hq,rfl⟩:=bp.mp hv
 exact⟨_,CJ I (hps q hq)⟩
theorem CO {A:a7} {E:ac->af->Prop} {Q:ac->af->Prop} {d:ac} {as:List aa} {ts:List (List Nat)} (I:Inv X pins σ H s) (htx:ba H as ts) (hne: ∀t∈ts,t≠[]) (hnd:ts.Nodup) (hz:as.length<=sizeLine)
  (hcol: ∀(A':a7) (Q':List ac->af->Prop) (E':ac->af->Prop),A'.handled=A.handled->A'.units<=A.units+1->(∀h1 tk,(∀b o,s.heap.get? b=some o->h1.get? b=some o)->Q' (as.map aP) {s with heap:=h1,toks:=tk})->wpAny (model X.prog X.w) A' (collect d) Q' E' s)
  (h: ∀p as' s',H p=none->Inv X pins σ (upd H p (.lst (as'.map V.ref))) s'->ba H as' (cf ts)->Q (.ref p) s'):wpAny (model X.prog X.w) A (call (.builtin "sorted") [d]) Q E s:=by
 obtain⟨fs,hfs⟩:=CK I htx hne
 exact CM I htx hnd hz (λh'=>PyProof.Rows.G.Nu hcol hfs (CN I htx) (by rw[aC];exact hz) h') h
end
section
variable {X:Cx} {a:ao} {pos p2:Pos} {σ:St} {H:Hp}
theorem boot_sorted:bootBuiltins "sorted"=some (.builtin "sorted"):=by decide +kernel
def fr (H0:Hp) (d:Den):Den:=⟨λv H=>d.p v H/\ ∀q,v= .ref q->H0 q=none,λv H H' s h=>⟨d.mono _ _ _ s h.1,h.2⟩⟩
theorem EE.jN {e:ao} {d:Den} {H0:Hp} (h:EE X e σ H (fr H0 d)):EE X e σ H d:=h.imp λ_ _ _ z=>z.1
theorem CP {x:Str} {p:Pos} {ts:List (List Nat)} (hx:x="sorted") (hm:X.mg x=none) (hne: ∀t∈ts,t≠[]) (hnd:ts.Nodup) (ha:EE X a σ H (bz ts)) (hg:Gl X x:=by rfl) (hs:starEach [a] X.env=[(false,eval a X.env)]:=by rfl):EE X (.Call (.Name x p) [a] [] pos) σ H (fr H (bz (cf ts))):=by
 subst hx
 refine iB (r:=λvs H Q=> ∃q as,vs=[.ref q]/\H q=some (.lst (as.map V.ref))/\ba H as ts/\ ∀p as',H p=none->ba H as' (cf ts)->Q (.ref p) (upd H p (.lst (as'.map V.ref)))) ?_ hm boot_sorted (aM ha a0 hs) (λvs H1 s1 z Q q=>?_) hg (by decide) (by decide) hs
 ·intro pins s σ H xs us Q I r h
  obtain⟨q,as,rfl,hq,htx,k⟩:=h
  obtain⟨u,rfl,hu⟩:=vals1 r
  cases hu
  obtain⟨its,r2,pl,hz⟩:=I.list (.of hq)
  have e:=mN r2
  subst e
  rw[aC] at hz
  refine CO I htx hne hnd hz (λA' Q' E' _ _ h=>?_) λp as' s' hp I' ht'=>⟨.ref p,_,I',rfl,k p as' hp ht'⟩
  refine Wg pl.isList (h _ _ (λb o hb=>?_)) (by rw[aC];exact hz)
  rw[Heap.get?_update_ne _ _ _ _ (cX (bL hb))];exact b4 _ hb
 ·obtain⟨v,rfl,qa,as,rfl,hq,ht⟩:=cM z
  exact⟨qa,as,rfl,hq,ht,λp as' hp ht'=>q _ _ (bF hp) ⟨⟨p,as',rfl,aK,ht'.grow (bF hp)⟩,λz ez=>by cases ez;exact s1.free hp⟩⟩
end
theorem CQ {prog:aI} {w:aE} {d:aa} {o:Obj} {es:Array jv} {ep:Nat} (lo:(d == sysModules)=false) (hc:o.ExactDict) (hd:o.data= .dict es ep) :
  Uj prog w "dict" d d es.size (λi v=> ∃en,es[i]?=some en/\v=en.key) (λh=>h.get? d=some o) where
 type:=λ_ hm=>⟨o,hm,hc.1⟩
 there:=λ_ hm=>⟨bL hm,bL hm⟩
 keep:=λ_ _ hm hk=>hk d (.inl rfl) o hm
 notList:=by decide
 notTuple:=by decide
 hint:=λ_ _ _ _ hm hq=>PySem.W.kdl_hint_dict ⟨o,hm,hc.1⟩ hq
 iter:=λA s hh hm=>⟨_,λi h=>h.IsKeyIter s.heap.objs.size d i es.size ep/\h.get? d=some o,(λ_ _ hq=>vh lo hm hc hd hq),{
   sub:=λb hb=>by simp at hb ⊢;exact .inl hb
   frame:=λi h h' st hk=>⟨st.1.at λo' e=>hk _ (by simp) o' e,hk d (by simp) o st.2⟩
   item:=λi s' Q E hi st hQ=>by
    have hx:es[i]?=some es[i]:=by simp [hi]
    refine BH st.1 st.2 hd rfl hx λh' st' sb=>?_
    have hne:d≠s.heap.objs.size:=cX (bL hm)
    exact hQ _ h' s'.toks ⟨_,hx,rfl⟩ ⟨st',(sb.2 d hne).trans st.2⟩ λb o' hb e=>(sb.2 b (by simpa using hb)).trans e
   done:=λs' Q E st hQ=>by
    refine vi hh st.1 st.2 hd rfl (aW _) λh' eb=>?_
    exact hQ h' s'.toks λb o' hb e=>eb b o' (by simpa using hb) e
   self:=λi s' Q E st h=>by
    refine tX st.1.typeIs zO (fS zO st.1.typeIs Tg ?_ (Th _))
    show wpAny _ _ (ret (.ref _)) _ _ s'
    exact ay ⟨_,rfl,"dict_keyiterator",_,st.1.typeIs,nI.lookup,h⟩},
   ⟨⟨_,cw _ rfl,rfl,rfl⟩,b4 _ hm⟩⟩
section
variable {X:Cx} {σ:St} {H:Hp} {pins:List (aa×Obj)} {s:af}
theorem Inv.dT {d:aa} {kvs:List (List Key×V)} (I:Inv X pins σ H s) (h:H d=some (.dT kvs)):kvs.length<=sizeLine/\(d == sysModules)=false/\ ∃xs:List (List Key×aa×ac),KT H kvs xs /\
  ∃o es ep,s.heap.get? d=some o/\o.ExactDict/\o.data= .dict es ep/\es.toList=xs.map (entryOfKey (tupleKind (cu X.prog X.w)))/\(xs.map (·.1)).Nodup:=I.aB d _ h
theorem CS {kvs:List (List Key×V)} {xs:List (List Key×aa×ac)}:KT H kvs xs-> ∀{ts:List (List Nat)},kvs.map (·.1)=ts.map keyOf->ba H (xs.map λx=>x.2.1) ts:=by
 intro h
 induction h with
 |nil=>
  intro ts e
  cases ts with
  |nil=>exact .nil
  |cons _ _=>cases e
 |cons q _ ih=>
  intro ts e
  cases ts with
  |nil=>cases e
  |cons t ts=>
   rw[aU,aU] at e
   injection e with e1 e2
   rw[aU]
   refine .cons ?_ (ih e2)
   have:=q.2.1
   rw[e1,gF] at this
   exact this
end
section
variable {X:Cx} {a:ao} {pos p2:Pos} {σ:St} {H:Hp}
theorem rZ {x:Str} {p:Pos} {d:aa} {kvs:List (List Key×V)} {ts:List (List Nat)} (hx:x="sorted") (hc:X.calm=true) (hm:X.mg x=none) (hne: ∀t∈ts,t≠[]) (hnd:ts.Nodup) (hd:H d=some (.dT kvs)) (hk:kvs.map (·.1)=ts.map keyOf) (ha:EE X a σ H (ax (.ref d))) (hg:Gl X x:=by rfl) (hs:starEach [a] X.env=[(false,eval a X.env)]:=by rfl) :
  EE X (.Call (.Name x p) [a] [] pos) σ H (fr H (bz (cf ts))):=by
 subst hx
 refine iB (r:=λvs H Q=>vs=[.ref d]/\H d=some (.dT kvs)/\ ∀p as',H p=none->ba H as' (cf ts)->Q (.ref p) (upd H p (.lst (as'.map V.ref)))) ?_ hm boot_sorted (aM ha a0 hs) (λvs H1 s1 z Q q=>?_) hg (by decide) (by decide) hs
 ·intro pins s σ H xs us Q I r h
  obtain⟨rfl,hd,k⟩:=h
  obtain⟨u,rfl,hu⟩:=vals1 r
  cases hu
  obtain⟨hz,lo,xs,kt,o,es,ep,ho,hx,hdt,he,hn⟩:=I.dT hd
  have htx:=CS kt hk
  have hsz:es.size=xs.length:=tZ he
  have hkl:kvs.length=xs.length:=dR kt
  refine CO I htx hne hnd (by rw[aC];omega) (λA' Q' E' hh _ h=>?_) λp as' s' hp I' ht'=>⟨.ref p,_,I',rfl,k p as' hp ht'⟩
  refine Uk (CQ lo hx hdt) (hh.trans (I.ok.hd hc)) ho (by omega) λh' tk acc hk' hacc=>?_
  have:acc.toList=(xs.map λx=>x.2.1).map aP:=by
   apply Iv
   intro j
   rw[bC,bC,ju]
   by_cases hj:j<es.size
   ·have hja:j<acc.size:=by rw[hacc.1];exact hj
    obtain⟨en,hen,hv⟩:=hacc.2 j acc[j] (by simp [hja])
    rw[l_ hja,hv]
    rw[zN he j] at hen
    cases hxj:xs[j]? with
    |none=>rw[hxj] at hen;cases hen
    |some y=>rw[hxj] at hen;cases hen;rfl
   ·rw[l9 (by rw[hacc.1];omega),zJ (by omega)];rfl
  rw[this]
  exact h h' tk hk'
 ·obtain⟨v,rfl,hv⟩:=cM z
  cases hv
  exact⟨rfl,s1 _ _ hd,λp as' hp ht'=>q _ _ (bF hp) ⟨⟨p,as',rfl,aK,ht'.grow (bF hp)⟩,λz ez=>by cases ez;exact s1.free hp⟩⟩
theorem CU {x:Str} {p:Pos} {d:aa} {kvs:List (List Key×V)} (hx:x="len") (hm:X.mg x=none) (hd:H d=some (.dT kvs)) (ha:EE X a σ H (ax (.ref d))) (hg:Gl X x:=by rfl) (hs:starEach [a] X.env=[(false,eval a X.env)]:=by rfl):EE X (.Call (.Name x p) [a] [] pos) σ H (aH kvs.length):=by
 subst hx
 refine iB (r:=λvs H Q=>vs=[.ref d]/\H d=some (.dT kvs)/\Q (.int kvs.length) H) ?_ hm zZ (aM ha a0 hs) (λvs H1 s1 z Q q=>?_) hg (by decide) (by decide) hs
 ·intro pins s σ H xs us Q I r h
  obtain⟨rfl,hd,k⟩:=h
  obtain⟨u,rfl,hu⟩:=vals1 r
  cases hu
  obtain⟨hz,lo,xs,kt,o,es,ep,ho,hx,hdt,he,hn⟩:=I.dT hd
  have hT:s.TypeIs (.ref d) "dict":=⟨o,ho,hx.1⟩
  have hsz:es.size=kvs.length:=by rw[tZ he];exact(dR kt).symm
  have hfit:(kvs.length:Int)<2 ^ 63:=by rw[jY] at hz;omega
  have e0:((es.size:Nat):Int)+((0:Nat):Int)=(kvs.length:Int):=by rw[hsz];omega
  refine Ip kind_len plain_len entry_len (args_len1 _) (aj (m:=oneArg "len" _) (ay (aj (m:=callSpecial? (.ref d) (iS "__len__")) (l4 (name:=iS "__len__") hT Ul
   (fS Ul hT F.entry_dict_len (aj (m:=dictSize d) (aj (pW ho hdt (ay (aj (m:=Wh d) (wpAny_pendingCount_other lo ?_)))))) (F.args_dict_len_1 _))))))
  rw[e0]
  refine wpAny_ret_mkInt (aj (iR (ay (aj (wpAny_letGo ?_)))))
  have n1: ¬((kvs.length:Nat):Int)<0:=by omega
  have n2: ¬((kvs.length:Nat):Int) ≥ 2 ^ 63:=by omega
  simp only[n1,n2,if_false]
  exact aj (wpAny_mkInt (ay ⟨_,rfl,.int kvs.length,H,(I.tok _).tok _,⟨_,rfl⟩,k⟩))
 ·obtain⟨v,rfl,hv⟩:=cM z
  cases hv
  exact⟨rfl,s1 _ _ hd,q _ _ (ak.refl _) rfl⟩
end
theorem v8 {α β:Type} {F:α->β->Prop}: ∀{l:List α} {m:List β} (i:Nat),cb F l m->cb F (l.eraseIdx i) (m.eraseIdx i)
 |_,_,_,.nil=> .nil
 |_,_,0,.cons _ t=>t
 |_,_,i+1,.cons h t=> .cons h (v8 i t)
theorem CV {κ β:Type} [DecidableEq κ]: ∀{l:List (κ×β)} {j:Nat} {k:κ} {p:β},(l.map (·.1)).Nodup->l[j]?=some (k,p)->l.eraseIdx j=l.filter λkv=>decide (kv.1≠k)
 | [],j,k,p,_,h=>by simp at h
 |q::l,0,k,p,hn,h=>by
  have e:q=(k,p):=by simpa using h
  subst e
  rw[aU,fc] at hn
  rw[List.eraseIdx_cons_zero,ib,if_neg (by simp)]
  refine(List.filter_eq_self.mpr λx hx=>?_).symm
  exact decide_eq_true λz=>hn.1 (bp.mpr ⟨x,hx,z⟩)
 |q::l,j+1,k,p,hn,h=>by
  rw[aU,fc] at hn
  have h':l[j]?=some (k,p):=by simpa using h
  have hne:q.1≠k:=λz=>hn.1 (by rw[z];exact bp.mpr ⟨(k,p),dg h',rfl⟩)
  rw[pT,ib,if_pos (decide_eq_true hne),CV hn.2 h']
theorem r_ {α β:Type} {f:α->β}: ∀{l:List α} {i:Nat},(l.eraseIdx i).map f=(l.map f).eraseIdx i
 | [],_=>rfl
 |_::_,0=>rfl
 |a::l,i+1=>by
  rw[pT,aU,aU,pT,r_]
theorem Nw {α:Type}: ∀{l:List α} (i:Nat),l.Nodup->(l.eraseIdx i).Nodup:=λ{l} i h=>(List.eraseIdx_sublist l i).nodup h
theorem Ny {H:Hp} {kvs:List (List Key×V)} {xs:List (List Key×aa×ac)} (h:KT H kvs xs):kvs.map (·.1)=xs.map (·.1):=by
 induction h with
 |nil=>rfl
 |cons q _ ih=>rw[aU,aU,ih,q.1]
theorem Nz {κ:Type} [DecidableEq κ] {kvs:List (κ×V)} {k:κ} {v:V} (hn:(kvs.map (·.1)).Nodup) {j:Nat} (h:kvs[j]?=some (k,v)):bO kvs k=some v:=by
 unfold bO
 induction kvs generalizing j with
 |nil=>simp at h
 |cons q r ih=>
  rw[aU,fc] at hn
  rw[hZ]
  cases j with
  |zero=>
   have e:q=(k,v):=by simpa using h
   subst e;simp
  |succ j=>
   have h':r[j]?=some (k,v):=by simpa using h
   have hne: ¬q.1=k:=λz=>hn.1 (by rw[z];exact bp.mpr ⟨(k,v),dg h',rfl⟩)
   rw[decide_eq_false hne]
   exact ih hn.2 h'
section
variable {X:Cx} {σ:St} {H:Hp} {pins:List (aa×Obj)} {s:af}
theorem NA {A:a7} {E:ac->af->Prop} {d a:aa} {kvs:List (List Key×V)} {t:List Nat} {v:V} {Q:ac->af->Prop} (hu:A.units+1<cLine) (I:Inv X pins σ H s) (hd:H d=some (.dT kvs)) (ha:H a=some (.tup (tv t))) (hv:bO kvs (keyOf t)=some v)
  (h: ∀w' s',Inv X pins σ (upd H d (.dT (kr kvs (keyOf t)))) s'->RelV v w'->Q w' s'):wpAny (model X.prog X.w) A (call (.builtin "dict.pop") [.ref d,.ref a]) Q E s:=by
 obtain⟨hz,lo,xs,kt,o,es,ep,ho,hx,hdt,he,hn⟩:=I.dT hd
 have hT:s.TypeIs (.ref d) "dict":=⟨o,ho,hx.1⟩
 have hsz:es.size=xs.length:=tZ he
 have hkl:kvs.length=xs.length:=dR kt
 have hnk:(kvs.map (·.1)).Nodup:=by rw[Ny kt];exact hn
 have his: ∀x∈xs,(tupleKind (cu X.prog X.w)).is s.heap x.1 x.2.1:=by
  obtain⟨_,_,xs',kt',dd⟩:=ve I.aB hd
  intro x hx'
  obtain⟨ps,e1,e2,hps⟩:=lJ kt
  rw[e2] at hx'
  obtain⟨p,hp,rfl⟩:=bp.mp hx'
  have q:=hps p hp
  rw[←q.1]
  exact i9 I.aB q.2.1
 have hkey:(tupleKind (cu X.prog X.w)).is s.heap (keyOf t) a:=i9 I.aB (by rw[gF];exact ha)
 refine fS Um hT PySem.F.entry_dict_pop ?_ (PySem.F.args_dict_pop_2 _ _)
 unfold eC.«dict.pop»
 refine aj ?_
 unfold Wi
 refine aj (S7 hT ?_)
 show wpAny _ _ (pure (d,aP a,none)) _ _ s
 refine ay ?_
 have hne:es.isEmpty=false:=by
  have:kvs≠[]:=λz=>by rw[z] at hv;cases hv
  have h0:es.size≠0:=by rw[hsz,←hkl];exact λz=>this (List.length_eq_zero_iff.mp z)
  simpa [Array.isEmpty] using h0
 show wpAny _ _ (if (keyPart (aP a)).isSome=true then _ else _) _ _ s
 rw[if_neg (by simp [keyPart])]
 refine aj (pW ho hdt ?_)
 refine aj (ay ?_)
 show wpAny _ _ (if es.isEmpty=true then _ else _) _ _ s
 rw[if_neg (by rw[hne];simp)]
 refine aj ?_
 unfold Wj
 try with_reducible refine iR ?_
 refine aj ((tupleKind (cu X.prog X.w)).pyHash (nH hu) hkey ?_)
 refine aj (wpAny_dictFind_heap (knd:=tupleKind (cu X.prog X.w)) (s:={s with toks:=s.toks+(tupleKind (cu X.prog X.w)).draws (keyOf t)}) (nH hu) hkey ho hdt he his hn (λhno=>?_) λj p hj=>?_)
 ·exfalso
  obtain⟨q,hq,e⟩:=bp.mp (Mg hv)
  obtain⟨ps,e1,e2,hps⟩:=lJ kt
  rw[e1] at hq
  obtain⟨r,hr,rfl⟩:=bp.mp hq
  obtain⟨j,hj,ej⟩:=List.mem_iff_getElem.mp hr
  refine hno j r.2.2 ?_
  rw[e2,bC,b8 hj,ej]
  have q:=(hps r hr).1
  show some r.2=some (keyOf t,r.2.2)
  rw[←e,q]
 ·refine aj (pW (s:={s with toks:=s.toks+(tupleKind (cu X.prog X.w)).draws (keyOf t)}) ho hdt ?_)
  rw[zN he j,hj]
  refine aj (wpAny_updateDictKeys (hz:=by omega) (s:={s with toks:=s.toks+(tupleKind (cu X.prog X.w)).draws (keyOf t)}) ho hdt (ay ?_))
  simp only[Option.isNone_some,dy,if_false]
  obtain⟨q,hq1,hq2⟩: ∃q:List Key×V,kvs[j]?=some q/\q.1=keyOf t/\RelV q.2 p.2:=by
   obtain⟨ps,e1,e2,hps⟩:=lJ kt
   rw[e2,bC] at hj
   cases hp:ps[j]? with
   |none=>rw[hp] at hj;cases hj
   |some r=>
    rw[hp] at hj
    have er:r.2=(keyOf t,p):=cJ hj
    have z:=hps r (dg hp)
    refine⟨r.1,by rw[e1,bC,hp];rfl,?_,?_⟩
    ·rw[z.1,er]
    ·have:=z.2.2
     rw[er] at this
     exact this
  have hv2:q.2=v:=by
   have:=Nz hnk (k:=keyOf t) (v:=q.2) (j:=j) (by rw[hq1,←hq2.1])
   rw[hv] at this;exact(cJ this).symm
  refine aj (wpAny_letGo (ay ⟨_,rfl,h _ _ ?_ (by rw[←hv2];exact hq2.2)⟩))
  have hq3:kvs[j]?=some (keyOf t,q.2):=by rw[hq1,←hq2.1]
  refine qR I (by rw[hd];exact fb) (jw ..) ⟨_,ma _ ho (Uo (Iw hdt _))⟩ ?_
  have ek:kr kvs (keyOf t)=kvs.eraseIdx j:=(CV hnk hq3).symm
  refine⟨?_,lo,xs.eraseIdx j,?_,_,_,ep+1,ma _ ho (Uo (Iw hdt _)),hx.mapDictKeys _,Iw hdt _,?_,?_⟩
  ·rw[ek];exact bM (uT _ _) hz
  ·rw[ek]
   refine Paired.b6 (v8 j kt) λx y z=>⟨z.1,?_,z.2.2⟩
   rw[az (bg z.2.1 hd (by intro q;cases q))];exact z.2.1
  ·have:(es.eraseIdxIfInBounds j).toList=es.toList.eraseIdx j:=by
    obtain⟨l⟩:=es
    simp
   rw[this,he,r_]
  ·rw[r_];exact Nw j hn
end
section
variable {X:Cx} {o e:ao} {apos cpos:Pos} {σ:St}
theorem NB {td ty:TE} (hu:X.A.units+1<cLine) (ho:PE X o td) (he:PE X e ty) (m:M1 X o "pop" apos e cpos):PE X (.Call (.Attribute o "pop" apos) [e] [] cpos)
  (λσ H Q=>td σ H λx H1=> ∃d,x= .ref d/\vg H1 d/\ty σ H1 λy H2=> ∃kvs t a v,H2 d=some (.dT kvs)/\y= .ref a/\H2 a=some (.tup (tv t))/\bO kvs (keyOf t)=some v/\Q v (upd H2 d (.dT (kr kvs (keyOf t))))):=by
 intro pins s σ H Q I h
 refine SY m.base m.ci m.line SZ Um PySem.F.type_dict_pop (aJ (ho pins s σ H _ I h) λu s1 ⟨x,H1,I1,rx,d,ex,hD,q1⟩=>?_)
 subst ex
 obtain rfl:u=aP d:=rx
 obtain⟨t1,t2,_⟩:=BC I1 hD
 refine⟨t1,t2,?_⟩
 rw[m.trees]
 refine tQ rfl (zA (zt (aJ (he pins s1 σ H1 _ I1 q1) λiv s2 ⟨y,H2,I2,ry,kvs,t,a,v,ea,ey,hta,l,q2⟩=>Ho ?_)))
 subst ey
 cases ry
 exact NA hu I2 ea hta l λw' s3 I3 rw'=>⟨v,_,I3,rw',q2⟩
end
section
variable {X:Cx} {a b c e o func:ao} {es:List ao} {pos p2 apos cpos:Pos} {σ:St} {H:Hp}
def NC (X:Cx) (tf:TE) (t:TA):TE:=λσ H Q=>tf σ H λx H1=> ∃(f:aa) (fd:aS) (ps:List Str) (sp:Sp) (k:Nat),x= .ref f/\aN X.prog X.w X.K X.mg X.base aR k f fd ps sp/\bJ k X.A/\fo X.K (.ref f)=true/\Binds X.K fd ps []/\t σ H1 λvs H2=>sp vs H2 Q E0
theorem CW {tf:TE} {t:TA} (hf:PE X func tf) (ha:PA X (e::es) t)
  (hev:eval (.Call func (e::es) [] pos) X.env=(do callWith pos (←eval func X.env) [] (backTo pos (starEach (e::es) X.env)) (backToKw pos (keywordEach [] X.env))):=by rfl)
  (he:starEach (e::es) X.env=(false,eval e X.env)::starEach es X.env:=by rfl) (hpl:(backTo pos (starEach es X.env)).any (·.1)=false:=by rfl):PE X (.Call func (e::es) [] pos) (NC X tf t):=by
 intro pins s σ H Q I h
 refine Call_ (aJ (hf pins s σ H _ I h) λu s0 ⟨x,H0,I0,rx,f,fd,ps,sp,k,ex,F,hr,hk,hb,q0⟩=>?_) hev
 subst ex
 cases rx
 refine Hr (h₀:=X.base) I0.ok.mod.kj hk (aJ (ha pos pins s0 σ H0 _ I0 q0) λus s1 ⟨vs,H1,I1,r,q⟩=>⟨I1.fV,?_⟩) he hpl
 exact AW (dvs:=[]) (ds:=[]) F hr hb .nil rf I1 r (by rw[fQ];exact q)
theorem ND {x:Str} {g:TG} {tt:TT} {te:TE} {vs:List Nat} {σ:St} {H1:Hp} {D:aa} {Qd:Hp->Prop} (Pv:Nat->Hp->Prop) (h0:Pv 0 (upd H1 D (.lst [])))
    (hs: ∀i c H,x.cps[i]?=some c->Pv i H->g (.str ⟨#[c]⟩) (wipe σ vs) H λσ2 H2=>wipe σ2 vs=wipe σ vs/\tt σ2 H2 λb H3=>
      if b=true then te σ2 H3 λy H4=> ∃acc,H4 D=some (.lst acc)/\acc.length<sizeLine/\Pv (i+1) (upd H4 D (.lst (acc++[y]))) else Pv (i+1) H3) (hd: ∀H,Pv x.cps.size H->Qd H) :
    ∃W:Nat->Nat->Hp->Prop,(∃m,W 0 m (upd H1 D (.lst [])))/\ ∀i m H,W i m H ->
      ((oN x).stop i H/\Qd H)∨((oN x).go i H/\ ∃Nx:Hp->Prop,(∀H',Nx H'-> ∃m',m'<m/\W (i+1) m' H')/\ ∀y H',(oN x).gx i H y H'->g y (wipe σ vs) H' λσ2 H2=>wipe σ2 vs=wipe σ vs/\tt σ2 H2 λb H3=>
        if b=true then te σ2 H3 λy H4=> ∃acc,H4 D=some (.lst acc)/\acc.length<sizeLine/\Nx (upd H4 D (.lst (acc++[y]))) else Nx H3):=by
  refine⟨λi m H=>m=x.cps.size-i/\i<=x.cps.size/\Pv i H,⟨_,rfl,bv _,h0⟩,?_⟩
  rintro i m H ⟨rfl,hi,p⟩
  by_cases hlt:i<x.cps.size
  · refine .inr ⟨hlt,Pv (i+1),λH' p'=>⟨_,by omega,rfl,hlt,p'⟩,λy H' hy=>?_⟩
    obtain⟨rfl,c,hc,rfl⟩:=hy
    exact hs i c _ hc p
  · have e:i=x.cps.size:=by omega
    subst e
    exact .inl ⟨aW _,hd H p⟩
theorem NE {scope:bX} {y:Str} {py:Pos} {iter elt:ao} {j:Nat} {x:Str} {ys:List V} (hc:X.calm=true) (hN:X.N.Nodup) (hi:EE X iter σ H (ax (.str x))) (ok:gC X.N X.env.scope scope [(y,j)]) (hj:X.N[j]?=some y) (hy:scope.names.lookup y=some .local)
  (hl:ys.length=x.cps.size) (hz:x.cps.size<=sizeLine)
  (he: ∀(i:Nat) ch z,x.cps[i]?=some ch->ys[i]?=some z-> ∀(s:af) (H0:Hp) (C:aa) (cl:List (Str×aa)) (fp:List aa),EE (df X scope s H0 C cl fp) elt (σ.set j (some (.str ⟨#[ch]⟩))) H (ax z))
  (hs: ∀x,foldedSetIterable iter X.env x=pure x:=by intro _;rfl):EE X (.ListComp elt [⟨.Name y py,iter,[],0⟩] scope pos) σ H (cC ys):=
 EE.of (oH hc hN (LR ah) ok (λs H0 C cl fp=>d9 (X:=df X scope s H0 C cl fp) hN hj (.inl (iW hy)) (.inr (iW hy))) (λs H0 C cl fp=>qP) (λs H0 C cl fp=>mO s H0 C cl fp) hs)
  λH1 s1 Q q=>⟨_,hi.grow s1,λv H2 s2 hv=>by
   cases hv
   refine⟨x,rfl,λD hD=>?_⟩
   have hx: ∀(i:Nat) (z:V),(x.cps.toList.map λc=>V.str ⟨#[c]⟩)[i]?=some z-> ∃c,x.cps[i]?=some c/\z= .str ⟨#[c]⟩:=λi z hz=>by
    rw[bC,ju] at hz
    cases hc:x.cps[i]? with
    |none=>rw[hc] at hz;cases hz
    |some c=>rw[hc] at hz;exact⟨c,rfl,(cJ hz).symm⟩
   refine vX (K:=X.K) (X:=X) (xs:=x.cps.toList.map λc=>V.str ⟨#[c]⟩) (ys:=ys) hD (λPv h1 h2 h3 h4=>ND Pv h2 (λi c H' hc hp=>h3 i _ H' (by rw[bC,ju,hc];rfl) hp) (λH' hp=>h4 H' (by rw[aC,e_];exact hp))) (by rw[aC,e_];exact hl) (by rw[aC,e_];exact hz) (λi z z2 hz1 hz2 s H0 C cl fp=>?_)
    λH' s3 hd=>q _ _ (s2.trans s3) ⟨D,rfl,hd⟩
   obtain⟨c,hc1,rfl⟩:=hx i z hz1
   exact(he i c z2 hc1 hz2 s H0 C cl fp).grow (s1.trans s2)⟩
theorem boot_tuple:bootBuiltins "tuple"=some (.type "tuple"):=by decide +kernel
theorem CY {x:Str} {p:Pos} {xs:List V} (hx:x="tuple") (hm:X.mg x=none) (ha:EE X a σ H (bt X.K xs)) (hg:Gl X x:=by rfl) (hs:starEach [a] X.env=[(false,eval a X.env)]:=by rfl):EE X (.Call (.Name x p) [a] [] pos) σ H (aw xs):=by
 subst hx
 exact oW Lb hm boot_tuple (aM ha a0 hs) (λvs H1 s1 z Q q=>by
  obtain⟨v,rfl,a,rfl,h⟩:=cM z
  exact⟨a,xs,rfl,.inl ⟨h,λl hl=>q _ _ (bF hl) ⟨l,rfl,aK⟩⟩⟩) hg (by decide) (by decide) hs
theorem boot_list:bootBuiltins "list"=some (.type "list"):=by decide +kernel
theorem NF {x:Str} {p:Pos} {xs:List V} (hx:x="list") (hm:X.mg x=none) (ha:EE X a σ H (de X.K xs)) (hg:Gl X x:=by rfl) (hs:starEach [a] X.env=[(false,eval a X.env)]:=by rfl):EE X (.Call (.Name x p) [a] [] pos) σ H (cC xs):=by
 subst hx
 exact oW Bf hm boot_list (aM ha a0 hs) (λvs H1 s1 z Q q=>by
  obtain⟨v,rfl,a,rfl,h⟩:=cM z
  exact⟨a,xs,rfl,.inr h,λl hl=>q _ _ (bF hl) ⟨l,rfl,aK⟩⟩) hg (by decide) (by decide) hs
theorem CZ {xs ys:List V} (hz:xs.length+ys.length<=sizeLine) (ha:EE X a σ H (cC xs)) (hb:EE X b σ H (cC ys)):EE X (.BinOp a .Add b pos) σ H (cC (xs++ys)):=
 mH uU ha hb λx y H1 _ ⟨p,hp,h1⟩ ⟨q,hq,h2⟩ Q k=>⟨p,q,xs,ys,hp,hq,h1,h2,hz,λr hr=>k _ _ (bF hr) ⟨r,rfl,aK⟩⟩
theorem C1 {xs:List V} {lo hi:Option ao} {o1 o2:Option Int} (he:EE X e σ H (bt X.K xs)) (hl:EO X lo σ H o1) (hu:EO X hi σ H o2):EE X (.Subscript e (.Slice lo hi none p2) pos) σ H (cC (b7 xs o1 o2)):=
 EE.of (Ba K8 ah rP rP) λH1 s1 Q q=>⟨_,he.grow s1,λv H2 s2 ⟨a,ev,hv⟩=>⟨o1,hl.grow (s1.trans s2),λH3 s3=>⟨o2,hu.grow (s1.trans (s2.trans s3)),λH4 s4=>
  ⟨a,xs,ev,s4.seq (s3.seq hv),λp hp=>q _ _ (s2.trans (s3.trans (s4.trans (bF hp)))) ⟨p,rfl,aK⟩⟩⟩⟩⟩
end
section
variable {P:aI} {w:aE} {A:a7} {E:ac->af->Prop} {s:af}
abbrev tk (P:aI) (w:aE):=tupleKind (cu P w)
structure f9 (P:aI) (w:aE) (h:aF) (a:aa) (o:Obj) (es:Array (Int×ac)) (ep:Nat) (t:bU) (zs:List (Nat×Int)) (ps:List (List Key×aa)):Prop where
 get:h.get? a=some o
 ex:o.ExactSet
 data:o.data= .set es ep t
 tab:Sm.dq t zs
 ents:es.toList=ps.map λp=>((tk P w).hash p.1,aP p.2)
 hs:zs.map (·.2)=ps.map λp=>(tk P w).hash p.1
 nd:(ps.map (·.1)).Nodup
 room:ps.length*5<t.mask*3
 sn:t.plain=true
 led:t.led=!w.params.followText "set-order"
theorem f9.len {h:aF} {a:aa} {o:Obj} {es:Array (Int×ac)} {ep:Nat} {t:bU} {zs:List (Nat×Int)} {ps:List (List Key×aa)} (S:f9 P w h a o es ep t zs ps):zs.length=ps.length/\es.size=ps.length:=by
 have h1:=congrArg lZ S.hs
 have h2:=congrArg lZ S.ents
 simp only[aC] at h1 h2
 exact⟨h1,by rw[←e_];exact h2⟩
theorem f9.fits {h:aF} {a:aa} {o:Obj} {es:Array (Int×ac)} {ep:Nat} {t:bU} {zs:List (Nat×Int)} {ps:List (List Key×aa)} (S:f9 P w h a o es ep t zs ps):t.fits es.size=true:=by
 have h1:=S.len
 have h2:=S.tab.size
 have h3:=S.room
 unfold Uy Uz
 rw[S.tab.du,h2,h1.1,h1.2]
 simp
 omega
theorem f9.entry {h:aF} {a:aa} {o:Obj} {es:Array (Int×ac)} {ep:Nat} {t:bU} {zs:List (Nat×Int)} {ps:List (List Key×aa)} (S:f9 P w h a o es ep t zs ps) {i:Nat} {z:Nat×Int} (hz:zs[i]?=some z) :
  ∃p,ps[i]?=some p/\z.2=(tk P w).hash p.1/\es[i]?=some ((tk P w).hash p.1,aP p.2):=by
 have hi:i<ps.length:=by rw[←S.len.1];exact(List.getElem?_eq_some_iff.mp hz).1
 refine⟨ps[i],b8 hi,?_,?_⟩
 ·have:=congrArg (λl=>l[i]?) S.hs
  simp only[bC,hz,b8 hi,UA] at this
  exact cJ this
 ·rw[←ju,S.ents,bC,b8 hi];rfl
theorem Dn {ks:List Key} {b:aa} {Q:Bool->af->Prop} (hk:(tk P w).is s.heap ks b) (q:Q false s):wpAny (model P w) A (ofAClassStatement 8 (.ref b)) Q E s:=by
 have hT:s.TypeIs (.ref b) "tuple":=UB hk
 obtain⟨o,its,n,ho,_,hd,hi⟩:=(show Aa (cu P w) s.heap ks b from hk)
 have hby:=hi.byValue
 unfold ofAClassStatement
 refine aj (nE hT ?_)
 dsimp only
 rw[if_pos (show ("tuple" == "tuple")=true by decide)]
 refine aj (m:=pure true) (ay ?_)
 simp only[uh,dy,if_false]
 refine aj (Io ho hd ?_)
 dsimp only
 refine aj ?_
 rw[←UC]
 refine pR _ (λl r s'=>r.1=none/\s'=s/\ ∀v∈l,carriedByValue v=true) _ ?_ ?_ _ _ ⟨rfl,rfl,hby⟩
 ·rintro v l r s' ⟨_,rfl,hl⟩
  have e:ofAClassStatement 7 v=pure false:=by
   have:=hl v bB
   cases v <;> first|rfl|cases this
  rw[e]
  exact aj (ay (ay ⟨rfl,rfl,λu hu=>hl u (bq _ hu)⟩))
 ·rintro⟨r1,r2⟩ s' ⟨hr,rfl,_⟩
  simp only at hr
  subst hr
  exact ay q
theorem NT {ks:List Key} {b:aa} {Q:Bool->af->Prop} (hk:(tk P w).is s.heap ks b): ∀(l:List ac),(∀v∈l,∃p:List Key×aa,v= .ref p.2/\(tk P w).is s.heap p.1 p.2)->Q false s->wpAny (model P w) A (searchCouldBeSeen (.ref b) l) Q E s:=by
 intro l hl q
 unfold searchCouldBeSeen
 refine aj ?_
 refine pR _ (λl r s'=>r.1=none/\s'=s/\ ∀v∈l,∃p:List Key×aa,v= .ref p.2/\(tk P w).is s.heap p.1 p.2) _ ?_ ?_ _ _ ⟨rfl,rfl,hl⟩
 ·rintro v rest r s' ⟨_,rfl,hv⟩
  obtain⟨p,rfl,hp⟩:=hv v bB
  have hrest: ∀u∈rest,∃p:List Key×aa,u= .ref p.2/\(tk P w).is s'.heap p.1 p.2:=λu hu=>hv u (bq _ hu)
  dsimp only
  by_cases e:(b == p.2)=true
  ·rw[if_pos (by rw[e];rfl)]
   exact ay ⟨rfl,rfl,hrest⟩
  ·have e0:(b == p.2)=false:=by simpa using e
   rw[if_neg (by rw[e0];simp [carriedByValue])]
   refine aj ((tk P w).quiet hk ?_)
   simp only[uh,dy,if_false]
   refine aj ((tk P w).quiet hp ?_)
   simp only[uh,dy,if_false]
   refine aj (Dn hk ?_)
   simp only[dy,if_false]
   refine aj (Dn hp ?_)
   simp only[dy,if_false]
   exact ay ⟨rfl,rfl,hrest⟩
 ·rintro⟨r1,r2⟩ s' ⟨hr,rfl,_⟩
  simp only at hr
  subst hr
  exact ay q
end
section
variable {P:aI} {w:aE} {A:a7} {E:ac->af->Prop} {s:af}
variable {a b:aa} {o:Obj} {es:Array (Int×ac)} {ep:Nat} {t:bU} {zs:List (Nat×Int)} {ps:List (List Key×aa)} {ks:List Key}
def lL (P:aI) (w:aE) (t:bU) (ps:List (List Key×aa)) (ks:List Key) (c:Nat):Prop:=
 ∀m,m<c-> ∃i p,t.slot (Sm.bA t m (t.probeStart ((tk P w).hash ks))).j= .live i/\ps[i]?=some p/\p.1≠ks
theorem f9.wm (S:f9 P w s.heap a o es ep t zs ps) {j i:Nat} (hs:t.slot j= .live i): ∃p,ps[i]?=some p/\es[i]?=some ((tk P w).hash p.1,aP p.2):=by
 obtain⟨z,hz,_⟩:=S.tab.Db hs
 obtain⟨p,h1,_,h2⟩:=S.entry hz
 exact⟨p,h1,h2⟩
theorem f9.gap (S:f9 P w s.heap a o es ep t zs ps) (k:Int): ∃n,n<10*qe t.mask/\t.slot (Sm.bA t n (t.probeStart k)).j= .empty:=by
 have: ∃j,j<=t.mask/\j∉zs.map (·.1):=by
  false_or_by_contra
  rename_i hno
  have hall: ∀x∈eQ (t.mask+1),x∈zs.map (·.1):=λx hx=>by
   false_or_by_contra
   rename_i hx2
   exact hno ⟨x,by have:=gi.mp hx;omega,hx2⟩
  have:=Sm.o6 z9 hall
  rw[Ux,aC,S.len.1] at this
  have:=S.room
  omega
 obtain⟨j,hj,hn⟩:=this
 have hf:=Sm.we t k
 obtain⟨n,h1,h2⟩:=Sm.reach S.tab.lK (t.probeStart k) hf.1 hf.2.1 hj
 refine⟨n,h1,?_⟩
 rw[h2]
 rcases Sm.C3 j S.tab.Up S.tab.du with ⟨i,hi,e,_⟩|⟨e,_⟩
 ·exfalso
  rw[S.tab.size] at hi
  have:=Sm.getD_at S.tab (b8 hi)
  exact hn (bp.mpr ⟨zs[i],Iy hi,by rw[←this];exact e⟩)
 ·exact e
theorem lL.out (S:f9 P w s.heap a o es ep t zs ps) {c:Nat} (g:lL P w t ps ks c) (he:t.slot (Sm.bA t c (t.probeStart ((tk P w).hash ks))).j= .empty) :
  (∀p∈ps,p.1≠ks)/\(Sm.bA t c (t.probeStart ((tk P w).hash ks))).j∉zs.map (·.1)/\Sm.Way t.mask (zs.map (·.1)) ((Sm.bA t c (t.probeStart ((tk P w).hash ks))).j,(tk P w).hash ks):=by
 have hno:=S.tab.empty he
 refine⟨λp hp e=>?_,hno,t,c,rfl,rfl,λm hm=>?_⟩
 ·obtain⟨i,hi,ei⟩:=List.mem_iff_getElem.mp hp
  have hiz:i<zs.length:=by rw[S.len.1];exact hi
  have hz:zs[i]?=some zs[i]:=b8 hiz
  obtain⟨p',hp',hh,_⟩:=S.entry hz
  rw[b8 hi] at hp'
  have ep':p'=p:=by rw[←ei];exact(cJ hp').symm
  rw[ep',e] at hh
  obtain⟨t',n,hm',hj,hw⟩:=S.tab.way zs[i] (Iy _)
  rw[Sm.wc (t':=t) hm',Sm.C_ hm',hh] at hj
  have hlive:=S.tab.live hz
  rcases z7 n c with h|h|h
  ·obtain⟨i2,p2,h1,h2,h3⟩:=g n h
   rw[hj,hlive] at h1
   cases h1
   rw[b8 hi] at h2
   apply h3
   rw[←cJ h2,ei];exact e
  ·subst h
   rw[hj,hlive] at he;cases he
  ·have:=hw c h
   rw[Sm.wc (t':=t) hm',Sm.C_ hm',hh] at this
   exact hno this
 ·obtain⟨i,p,h1,_,_⟩:=g m hm
  exact S.tab.taken h1
theorem Dq {c n:Nat} (g:lL P w t ps ks c) (h: ∀m,m<n-> ∃i p,t.slot (Sm.bA t m (Sm.bA t c (t.probeStart ((tk P w).hash ks)))).j= .live i/\ps[i]?=some p/\p.1≠ks):lL P w t ps ks (c+n):=λm hm=>by
 by_cases hc:m<c
 ·exact g m hc
 ·have:=h (m-c) (by omega)
  rw[←Sm.iE,show m-c+c=m by omega] at this
  exact this
set_option hygiene false in
local macro_rules| `(tactic|get_elem_tactic_extensible)=> `(tactic|(
 rw[h8]
 dsimp only
 refine aj (iR ((tk P w).eqBool hu hp hk ?_))
 refine aj (jz S.get S.data S.fits ?_)
 dsimp only
 by_cases hq:p.1=ks
 ·rw[decide_eq_true hq]
  have hyes: ∃p∈ps,p.1=ks:=⟨p,dg h7,hq⟩
  cases adding with
  |true=>
   simp only[Bool.and_self,if_true]
   exact ay (hin hyes none (λz=>by cases z))
  |false=>
   simp only[zl,dy,if_false]
   rw[hsm]
   simp only[if_true]
   rw[h2]
   dsimp only
   rw[h8]
   dsimp only
   refine aj (UD (aj (ay ?_)))
   simp only[if_true]
   exact ay (hin hyes _ (λ_=>rfl))
 ·rw[decide_eq_false hq]
  simp only[zD,dy,if_false]
  rw[hsm]
  simp only[if_true]
  rw[h2]
  dsimp only
  rw[h8]
  dsimp only
  refine aj (UD (aj (ay ?_)))
  simp only[if_true]
  refine ih (c+n+1) _ (by omega) (λm hm=>?_) rfl (by omega) (by omega)
  by_cases hm2:m<c+n
  ·exact hgone m hm2
  ·have:m=c+n:=by omega
   subst this
   exact⟨i,p,h2,h7,hq⟩))
theorem NU {adding:Bool} {Q:SetFound->af->Prop} (hu:A.units<cLine) (S:f9 P w s.heap a o es ep t zs ps) (hk:(tk P w).is s.heap ks b) (his: ∀p∈ps,(tk P w).is s.heap p.1 p.2)
  (hin:(∃p∈ps,p.1=ks)-> ∀r,(adding=false->r.isSome=true)->Q (.there r) s)
  (hout:(∀p∈ps,p.1≠ks)-> ∀j,j∉zs.map (·.1)->j<=t.mask->Sm.Way t.mask (zs.map (·.1)) (j,(tk P w).hash ks)->Q (.free j false) s) :
  ∀(N fuel c:Nat) (st:Option UE),N<fuel->c<=N->N<10*qe t.mask->t.slot (Sm.bA t N (t.probeStart ((tk P w).hash ks))).j= .empty->lL P w t ps ks c ->
   st.getD (t.probeStart ((tk P w).hash ks))=Sm.bA t c (t.probeStart ((tk P w).hash ks))-> ∀g,N-c<g->g<=fuel->wpAny (model P w) A (setSearchFrom a (.ref b) ((tk P w).hash ks) adding g st) Q E s:=by
 intro N fuel c st hN hc hT he hg hst g
 induction g generalizing c st with
 |zero=>intro h _;omega
 |succ g ih=>
  intro hgN hgf
  have hst2:=S.tab.lK
  have hgw:t.gaveWay=false:=by
   unfold SetTable.gaveWay
   rcases hst2 with e|e|e <;> rw[e] <;> rfl
  rw[setSearchFrom]
  refine aj (jz S.get S.data S.fits ?_)
  dsimp only
  rw[hgw]
  simp only[dy,if_false]
  rw[hst]
  have hpd:(Sm.bA t c (t.probeStart ((tk P w).hash ks))).dummy=none:=by
   have: ∀(n:Nat) (p:UE),p.dummy=none->(Sm.bA t n p).dummy=none:=by
    intro n
    induction n with
    |zero=>intro p h;exact h
    |succ n ih=>intro p h;exact ih _ (by rw[Sm.C4];exact h)
   exact this c _ (Sm.we t _).2.2
  generalize hpr:SetTable.probe t _ _ _=r
  have hpr':Wk t (λi=>((es[i]?.map (·.1)).getD 0)) ((tk P w).hash ks) (10*qe t.mask) (Sm.bA t c (t.probeStart ((tk P w).hash ks)))=r:=hpr
  rcases Sm.C5 (t:=t) (hashAt:=λi=>((es[i]?.map (·.1)).getD 0)) (h:=(tk P w).hash ks) S.tab.Up S.tab.du (10*qe t.mask) (Sm.bA t c (t.probeStart ((tk P w).hash ks))) hpd with ⟨_,h2⟩|⟨n,hn,h1,h2,h3⟩|⟨n,i,hn,h1,h2,h3,h4⟩
  ·exfalso
   obtain⟨i,hi⟩:=h2 (N-c) (by omega)
   rw[←Sm.iE,show N-c+c=N by omega,he] at hi
   cases hi
  ·have hgone:lL P w t ps ks (c+n):=Dq hg λm hm=>by
    obtain⟨i,h5,h6⟩:=h3 m hm
    obtain⟨p,h7,h8⟩:=S.wm h5
    refine⟨i,p,h5,h7,λe=>h6 ?_⟩
    show ((es[i]?.map (·.1)).getD 0)=_
    rw[h8,←e];rfl
   rw[h1,←Sm.iE,Ab n c] at hpr'
   rw[←Sm.iE,Ab n c] at h2
   obtain⟨o1,o2,o3⟩:=hgone.out S h2
   subst hpr'
   dsimp only
   exact ay (hout o1 _ o2 (Sm.Di t _ _) o3)
  ·have hgone:lL P w t ps ks (c+n):=Dq hg λm hm=>by
    obtain⟨i,h5,h6⟩:=h4 m hm
    obtain⟨p,h7,h8⟩:=S.wm h5
    refine⟨i,p,h5,h7,λe=>h6 ?_⟩
    show ((es[i]?.map (·.1)).getD 0)=_
    rw[h8,←e];rfl
   have ea:Sm.bA t (n+1) (Sm.bA t c (t.probeStart ((tk P w).hash ks)))=Sm.bA t (c+n+1) (t.probeStart ((tk P w).hash ks)):=by rw[←Sm.iE];congr 1;omega
   rw[h1,ea,←Sm.iE,Ab n c] at hpr'
   rw[←Sm.iE,Ab n c] at h2
   obtain⟨p,h7,h8⟩:=S.wm h2
   subst hpr'
   dsimp only
   have hp:=his p (dg h7)
   have hnc:c+n<N:=by
    rcases z7 (c+n) N with h|h|h
    ·exact h
    ·rw[h,he] at h2;cases h2
    ·exfalso
     obtain⟨i2,p2,h9,_,_⟩:=hgone N h
     rw[he] at h9;cases h9
   have hsm:t.sameMemory t.moves t.mask=some true:=by unfold SetTable.sameMemory;rw[if_pos (by simp)]
   cases hl:t.led
   ·simp only[Bool.not_false,if_true]
    refine aj (NT hk _ (λv hv=>?_) ?_)
    ·obtain⟨q,hq,rfl⟩:=bp.mp hv
     have hq2:=(Array.mem_filter.mp (pN.mp hq)).1
     rw[←pN,S.ents] at hq2
     obtain⟨p2,hp2,rfl⟩:=bp.mp hq2
     exact⟨p2,rfl,his p2 hp2⟩
    ·simp only[dy,if_false]
     get_elem_tactic_extensible
   ·simp only[uh,dy,if_false]
    get_elem_tactic_extensible
end
section
variable {P:aI} {w:aE} {A:a7} {E:ac->af->Prop} {s:af}
variable {a b:aa} {o:Obj} {es:Array (Int×ac)} {ep:Nat} {t:bU} {zs:List (Nat×Int)} {ps:List (List Key×aa)} {ks:List Key}
theorem NV {adding:Bool} {Q:SetFound->af->Prop} (hu:A.units<cLine) (S:f9 P w s.heap a o es ep t zs ps) (hk:(tk P w).is s.heap ks b) (his: ∀p∈ps,(tk P w).is s.heap p.1 p.2)
  (hin:(∃p∈ps,p.1=ks)-> ∀r,(adding=false->r.isSome=true)->Q (.there r) s)
  (hout:(∀p∈ps,p.1≠ks)-> ∀j,j∉zs.map (·.1)->j<=t.mask->Sm.Way t.mask (zs.map (·.1)) (j,(tk P w).hash ks)->Q (.free j false) s) :
  wpAny (model P w) A (setSearch a (.ref b) ((tk P w).hash ks) adding) Q E s:=by
 obtain⟨N,h1,h2⟩:=S.gap ((tk P w).hash ks)
 have h3:10*qe t.mask<100000:=by
  unfold qe
  rcases S.tab.lK with e|e|e <;> rw[e] <;> decide
 exact NU hu S hk his hin hout N 100000 0 none (by omega) (bv _) h1 h2 (λm hm=>absurd hm (k7 _)) rfl 100000 (by omega) (aW _)
theorem Ds: ∀{tx:List Nat} {vs:List ac},ItemsAre (cu P w) (keyOf tx) vs-> ∀v∈vs,∃i u,v=iM i u
 | [],_,h,v,hv=>by
  cases h
  cases hv
 |n::tx,_,h,v,hv=>by
  cases h with
  |cons h1 r=>
   rcases be.mp hv with e|hv
   ·subst e
    obtain⟨u,hu⟩:=RJ (k:=((n:Nat):Int)) h1
    exact⟨_,u,hu⟩
   ·exact Ds r v hv
theorem NW {Q:Bool->af->Prop} (hk:(tk P w).is s.heap ks b) (hi: ∃tx,ks=keyOf tx) (q:Q true s):wpAny (model P w) A (hashByValue 8 (.ref b)) Q E s:=by
 have hT:s.TypeIs (.ref b) "tuple":=UB hk
 obtain⟨o,its,n,ho,_,hd,hik⟩:=(show Aa (cu P w) s.heap ks b from hk)
 have hby: ∀v∈its.toList,∃i u,v=iM i u:=by
  obtain⟨tx,rfl⟩:=hi
  exact Ds hik
 rw[hashByValue]
 refine aj (HH hT PySem.F.slot_tuple_hash.lookup ?_)
 dsimp only
 refine aj (Io ho hd ?_)
 dsimp only[IA]
 refine aj ?_
 rw[←UC]
 refine pR _ (λl r s'=>r.1=none/\s'=s/\ ∀v∈l,∃i u,v=iM i u) _ ?_ ?_ _ _ ⟨rfl,rfl,hby⟩
 ·rintro v l r s' ⟨_,rfl,hl⟩
  obtain⟨i,u,rfl⟩:=hl v bB
  have e:hashByValue 7 (iM i u)=pure true:=rfl
  rw[e]
  refine aj (ay ?_)
  simp only[uh,dy,if_false]
  exact ay ⟨rfl,rfl,λu hu=>hl u (bq _ hu)⟩
 ·rintro⟨r1,r2⟩ s' ⟨hr,rfl,_⟩
  simp only at hr
  subst hr
  exact ay q
theorem NX {α:Type} (l:List α):(eQ l.length).filterMap (λi=>l[i]?)=l:=by
 apply Iv
 intro i
 have key: ∀(l:List α) (n:Nat),n<=l.length->(eQ n).filterMap (λi=>l[i]?)=l.take n:=by
  intro l n
  induction n with
  |zero=>intro _;rfl
  |succ n ih=>
   intro h
   rw[List.range_succ,List.filterMap_append,ih (by omega),jW,List.filterMap_nil,b8 (by omega),pZ,b8 (by omega)]
   rfl
 rw[key l l.length (aW _),fq]
theorem NY {α:Type} {l:List α} {ord:List Nat} (nd:ord.Nodup) (hm: ∀k,k∈ord↔k<l.length):(ord.filterMap (λi=>l[i]?)).Perm l:=by
 have:ord.Perm (eQ l.length):=(UF nd z9).mpr λk=>by rw[hm,gi]
 have h2:=this.filterMap (λi=>l[i]?)
 rw[NX] at h2
 exact h2
end
section
variable {P:aI} {w:aE} {A:a7} {E:ac->af->Prop} {s:af}
variable {a b:aa} {o:Obj} {es:Array (Int×ac)} {ep:Nat} {t:bU} {zs:List (Nat×Int)} {ps:List (List Key×aa)} {ks:List Key}
def ef (P:aI) (w:aE) (h:aF) (a:aa) (ps:List (List Key×aa)):Prop:= ∃o es ep t zs ps',f9 P w h a o es ep t zs ps'/\ps'.Perm ps
theorem Dt {h:aF} (ho:h.get? a=some o) (hd:o.data= .set es ep t) (es':Array (Int×ac)) (t':bU):(h.update a (IB es' t')).get? a=some {o with data:= .set es' (ep+1) t'}:=by
 have:=ma (IB es' t') ho (by rw[putSet_of es' t' hd];rfl)
 rw[putSet_of es' t' hd] at this
 exact this
theorem Du {α β:Type} (f:α->β) (l:List α) (ord:List Nat):(ord.filterMap λi=>(l.map f)[i]?)=(ord.filterMap λi=>l[i]?).map f:=by
 induction ord with
 |nil=>rfl
 |cons k r ih=>
  rw[jW,jW,bC,ih]
  cases l[k]? <;> rfl
theorem NZ {ord:List Nat} {l:List Int} (h: ∀k∈ord,k<l.length):(ord.map λk=>l.toArray.getD k 0)=ord.filterMap λi=>l[i]?:=by
 induction ord with
 |nil=>rfl
 |cons k r ih=>
  have hk:=h k bB
  rw[aU,jW,b8 hk,ih λx hx=>h x (bq _ hx)]
  simp [eE,hk]
theorem N5 {Q:Unit->af->Prop} {n m:Nat} (hmk:Sm.iF m) (hz:ps.length=n) (hsa:IC (qf n)=m+1) (hfew:n*5<m*3) (hpl:t.plain=true) (hld:t.led=!w.params.followText "set-order") (ho:s.heap.get? a=some o) (hx:o.ExactSet) (hd:o.data= .set es ep t) (hf:t.fits es.size=true) (hes:es.toList=ps.map λp=>((tk P w).hash p.1,aP p.2)) (nd:(ps.map (·.1)).Nodup)
  (h: ∀h',kU a s.heap h'->ef P w h' a ps->Q () {s with heap:=h'}):wpAny (model P w) A (setRelay a (qf n)) Q E s:=by
 have hm4:m<=127:=by rcases hmk with e|e|e <;> omega
 have hl:es.size=n:=by rw[←e_,hes,aC,hz]
 obtain⟨t',ord,e1,hm,hld',hpl',hT,hnd,hmem,hsz,hsz2⟩:=Sm.NS (mask:=m) hmk t.finger (t.movedTo m) t.led t.plain (es.map (·.1)) (by rw[Ac,hl];omega)
 rw[Ac,hl] at hmem hsz2
 have hmem': ∀k,k∈ord.toList↔k<ps.length:=λk=>by rw[hmem,hz]
 have e2:t.relaid (es.map (·.1)) (qf n)=some (t',ord):=by
  unfold SetTable.relaid
  rw[hsa,Nat.add_sub_cancel]
  exact e1
 have pm:=NY (l:=ps) hnd hmem'
 have ees:(ord.filterMap (es[·]?)).toList=(ord.toList.filterMap λi=>ps[i]?).map λp=>((tk P w).hash p.1,aP p.2):=by
  rw[Array.toList_filterMap,←Du,←hes]
  congr 1
  funext i
  rw[ju]
 have esz:(ord.filterMap (es[·]?)).size=es.size:=by rw[←e_,ees,aC,pm.length_eq,hz,hl]
 unfold setRelay
 refine aj (jz ho hd hf ?_)
 dsimp only
 rw[if_neg (by show ¬IC (qf n) > sizeLine;rw[jY,hsa];omega),e2]
 refine aj (nL (a:=(ord.filterMap (es[·]?),t')) ?_ ?_)
 ·show (if ((ord.filterMap (es[·]?)).size != es.size)=true then _ else pure (ord.filterMap (es[·]?),t'))=_
  rw[if_neg (by rw[esz];simp)]
 ·dsimp only
  refine UG ho hd (h _ (jw ..) ?_) (by rw[esz,hl,jY];omega)
  refine⟨_,_,_,_,_,_,⟨Dt ho hd _ _,hx,rfl,hT,ees,?_,?_,?_,hpl'.trans hpl,hld'.trans hld⟩,pm⟩
  ·have hh:(es.map (·.1)).toList=ps.map λp=>(tk P w).hash p.1:=by rw[Ui,hes,eR];rfl
   have e3:(es.map (·.1))=(ps.map λp=>(tk P w).hash p.1).toArray:=by rw[←hh]
   rw[List.map_snd_zip (by rw[aC,e_,e_];omega),e3,NZ (by intro k hk;rw[aC];exact(hmem' k).mp hk),Du]
  ·exact(pm.map _).nodup_iff.mpr nd
  ·rw[hm,pm.length_eq,hz];exact hfew
theorem N6 {Q:Bool->af->Prop} (hu:A.units<cLine) (hz:ps.length+1<=76) (hi: ∃tx,ks=keyOf tx) (S:ef P w s.heap a ps) (hk:(tk P w).is s.heap ks b) (his: ∀p∈ps,(tk P w).is s.heap p.1 p.2)
  (hin:(∃p∈ps,p.1=ks)->Q false s)
  (hout:(∀p∈ps,p.1≠ks)-> ∀h',kU a s.heap h'->ef P w h' a ((ks,b)::ps)->Q true {s with heap:=h'}) :
  wpAny (model P w) A (setAddHashed a (.ref b) ((tk P w).hash ks)) Q E s:=by
 obtain⟨o,es,ep,t,zs,ps',S,pm⟩:=S
 have hl:=S.len
 have hzp:ps'.length=ps.length:=pm.length_eq
 unfold setAddHashed
 refine iR ?_
 rw[setAddHashedIn]
 refine aj (jz S.get S.data S.fits ?_)
 dsimp only
 have hns:byScan (.ref b) es=false:=rfl
 rw[hns]
 simp only[dy,if_false]
 refine aj (NV hu S hk (λp hp=>his p (pm.mem_iff.mp hp)) (λ⟨p,hp,e⟩ r _=>?_) λhno j hj hle hw=>?_)
 ·dsimp only
  exact ay (hin ⟨p,pm.mem_iff.mp hp,e⟩)
 ·dsimp only
  refine aj (jz S.get S.data S.fits ?_)
  dsimp only
  obtain⟨q1,q2,q3,q4⟩:=S.tab.put hj hle hw
  have fin: ∀t2:bU,t2.mask=t.mask->t2.plain=true->t2.led=t.led->Sm.dq t2 (zs.take (qg t.place j)++(j,(tk P w).hash ks)::zs.drop (qg t.place j)) ->
    wpAny (model P w) A (storeSet a (ui es (t.put j).2 ((tk P w).hash ks,aP b)) t2 >>= λ_=>if (!false && t2.tooFull)=true then setRelay a (qf (es.size+1)) >>= λ_=>pure true else pure true) Q E s:=by
   intro t2 hm hp2 hl2 hT
   rw[q1]
   generalize hpl:qg t.place j=pl at hT
   have e1:(ui es pl ((tk P w).hash ks,aP b)).toList=(ps'.take pl++(ks,b)::ps'.drop pl).map λp=>((tk P w).hash p.1,aP p.2):=by
    rw[Sm.Dc,S.ents,dh,aU,nP,nO]
   have e2:(zs.take pl++(j,(tk P w).hash ks)::zs.drop pl).map (·.2)=(ps'.take pl++(ks,b)::ps'.drop pl).map λp=>(tk P w).hash p.1:=by
    rw[dh,aU,nP,nO,S.hs,dh,aU,nP,nO]
   have pm2:(ps'.take pl++(ks,b)::ps'.drop pl).Perm ((ks,b)::ps'):=by
    have:=List.perm_middle (a:=(ks,b)) (l₁:=ps'.take pl) (l₂:=ps'.drop pl)
    rwa[zX] at this
   have nd2:((ps'.take pl++(ks,b)::ps'.drop pl).map (·.1)).Nodup:=(pm2.map _).nodup_iff.mpr (by
    rw[aU,fc]
    exact⟨λh=>by obtain⟨p,hp,e⟩:=bp.mp h;exact hno p hp e,S.nd⟩)
   have l2:(ps'.take pl++(ks,b)::ps'.drop pl).length=ps'.length+1:=by rw[pm2.length_eq];rfl
   have esz:(ui es pl ((tk P w).hash ks,aP b)).size=ps'.length+1:=by rw[←e_,e1,aC,l2]
   have psz:t2.place.size=ps'.length+1:=by
    rw[hT.size]
    have:=congrArg lZ e2
    rwa[aC,aC,l2] at this
   have hfill:t2.fill=ps'.length+1:=by unfold Uz;rw[hT.du,psz];rfl
   have hno': ∀p∈ps,p.1≠ks:=λp hp=>hno p (pm.mem_iff.mpr hp)
   have hg:=Dt S.get S.data (ui es pl ((tk P w).hash ks,aP b)) t2
   refine aj (UG S.get S.data ?_ (by rw[esz,jY];omega))
   by_cases hf:t2.tooFull=true
   ·rw[if_pos (by rw[hf];rfl)]
    have h5:ps'.length+1=5/\t.mask=7∨ps'.length+1=19/\t.mask=31:=by
     unfold UH at hf
     rw[hfill,hm] at hf
     have h1:=of_decide_eq_true hf
     have h2:=S.room
     rcases S.tab.lK with e|e|e <;> rw[e] at h1 h2 ⊢ <;> omega
    rw[hl.2]
    have hgo: ∃m,Sm.iF m/\IC (qf (ps'.length+1))=m+1/\(ps'.length+1)*5<m*3:=by
     rcases h5 with h5|h5
     ·rw[h5.1];exact⟨31,.inr (.inl rfl),by decide,by decide⟩
     ·rw[h5.1];exact⟨127,.inr (.inr rfl),by decide,by decide⟩
    obtain⟨m,hg1,hg2,hg3⟩:=hgo
    refine aj (N5 (t:=t2) hg1 (s:={s with heap:=s.heap.update a (IB (ui es pl ((tk P w).hash ks,aP b)) t2)}) (ps:=ps'.take pl++(ks,b)::ps'.drop pl) l2 hg2 hg3 hp2 (hl2.trans S.led) hg S.ex rfl ?_ e1 nd2 λh' sb hS=>?_)
    ·rw[esz]
     unfold Uy
     rw[psz,hfill,hm]
     rcases h5 with h5|h5 <;> rw[h5.1,h5.2] <;> decide
    ·obtain⟨o3,es3,ep3,t3,zs3,ps3,S3,pm3⟩:=hS
     exact ay (hout hno' h' ((jw ..).trans sb) ⟨_,_,_,_,_,_,S3,(pm3.trans pm2).trans (pm.cons _)⟩)
   ·rw[if_neg (by simpa using hf)]
    refine ay (hout hno' _ (jw ..) ⟨_,_,_,_,_,_,⟨hg,S.ex,rfl,hT,e1,e2,nd2,?_,hp2,hl2.trans S.led⟩,pm2.trans (pm.cons _)⟩)
    unfold UH at hf
    rw[hfill,decide_eq_true_eq] at hf
    rw[l2];omega
  by_cases hp:(t.put j).1.plain=true
  ·rw[if_pos hp]
   exact aj (NW hk hi (fin (t.put j).1 q2 S.sn rfl q4))
  ·rw[if_neg hp]
   exact aj (ay (fin (t.put j).1 q2 S.sn rfl q4))
end
section
variable {P:aI} {w:aE} {A:a7} {E:ac->af->Prop} {s:af} {h h':aF}
variable {a b:aa} {ks:List Key}
theorem wn (hk:(tk P w).is h ks b) (e: ∀o,h.get? b=some o->h'.get? b=some o):(tk P w).is h' ks b:=by
 obtain⟨o,its,n,ho,r⟩:=(show Aa (cu P w) h ks b from hk)
 exact⟨o,its,n,e o ho,r⟩
theorem wo {ps:List (List Key×aa)} (hS:ef P w h a ps) (e: ∀o,h.get? a=some o->h'.get? a=some o):ef P w h' a ps:=by
 obtain⟨o,es,ep,t,zs,ps',S,pm⟩:=hS
 exact⟨o,es,ep,t,zs,ps',⟨e o S.get,S.ex,S.data,S.tab,S.ents,S.hs,S.nd,S.room,S.sn,S.led⟩,pm⟩
theorem N7 {led:Bool} (hld:led=!w.params.followText "set-order") (hg:h.get? a=some {cls:= .type "set",dict:=none,data:= .set #[] 0 (.fresh 0 0 led)}):ef P w h a []:=
 ⟨_,_,_,_,[],[],⟨hg,⟨rfl,rfl,rfl⟩,rfl,⟨rfl,rfl,.nil,λz hz=>(by cases hz),.inl rfl,λz hz=>(by cases hz)⟩,rfl,rfl,.nil,show 0*5<7*3 from by decide,rfl,hld⟩,.nil⟩
theorem N8 {R:zo->af->Prop} {I S:aa} {fp wr:List aa} {n:Nat} {Pr:Nat->ac->Prop} {St:Nat->aF->Prop} (W:Walks P w A.in1 I fp wr n Pr St) (hSf:S∉fp) {qs:List (List Key×aa)} (hn:n=qs.length) (hz:qs.length<=70) (hkt: ∀q∈qs,∃tx,q.1=keyOf tx)
  (hv: ∀i v,Pr i v-> ∃q,qs[i]?=some q/\v= .ref q.2) (hu:A.in1.units<cLine) :
  ∀(k i:Nat) (s:af) (ps:List (List Key×aa)),n-i=k->i<=n->St i s.heap->ef P w s.heap S ps->(∀q∈qs,(tk P w).is s.heap q.1 q.2/\q.2∉S::wr)->(∀p∈ps,p∈qs)->ps.length<=i->(∀x,x∈ps.map (·.1)↔x∈(qs.take i).map (·.1)) ->
   (∀h' tk' ps',(∀b o,b∉S::wr->s.heap.get? b=some o->h'.get? b=some o)->ef P w h' S ps'->(∀p∈ps',p∈qs)->(∀x,x∈ps'.map (·.1)↔x∈qs.map (·.1))->R (.ok (.ret .none)) {s with heap:=h',toks:=tk'}) ->
   codeAny (model P w) A (.builtin "set.update.loop" ⟨[.ref S,.ref I],[]⟩) R s:=by
 have hSw:S∉wr:=λh=>hSf (W.sub _ h)
 intro k
 induction k with
 |zero=>
  intro i s ps hk hi hst hS hq hps hle hx hR
  have e:i=qs.length:=by omega
  rw[e,fq] at hx
  rw[e,←hn] at hst
  refine qh UI ?_
  rw[uj Ad _]
  refine aj (m:=pyNext (.ref I)) (W.done s _ _ hst λh' tk' kp=>?_)
  exact ay (hR h' tk' ps (λb o hb=>kp b o λz=>hb (bq _ z)) (wo hS λo=>kp S o hSw) hps hx)
 |succ k ih=>
  intro i s ps hk hi hst hS hq hps hle hx hR
  have hlt:i<n:=by omega
  refine qh UI ?_
  rw[uj Ad _]
  refine aj (m:=pyNext (.ref I)) (W.item i s _ _ hlt hst λv h1 tk1 hP hst1 kp=>?_)
  obtain⟨q,hqi,rfl⟩:=hv i v hP
  have hqm:=dg hqi
  have kp': ∀b o,b∉S::wr->s.heap.get? b=some o->h1.get? b=some o:=λb o hb=>kp b o λz=>hb (bq _ z)
  have hq1: ∀q∈qs,(tk P w).is h1 q.1 q.2:=λq hq'=>wn (hq q hq').1 λo=>kp' q.2 o (hq q hq').2
  have hS1:ef P w h1 S ps:=wo hS λo=>kp S o hSw
  have etake:qs.take (i+1)=qs.take i++[q]:=by rw[pZ,hqi];rfl
  dsimp only
  refine aj (iR ?_)
  unfold setAdd
  refine iR (aj ((tk P w).pyHash hu (hq1 q hqm) ?_))
  refine N6 (s:={s with heap:=h1,toks:=tk1+(tk P w).draws q.1}) hu (by omega) (hkt q hqm) hS1 (hq1 q hqm) (λp hp=>hq1 p (hps p hp)) (λ⟨p,hp,e⟩=>?_) λhno h2 sb hS2=>?_
  ·refine ay ⟨uk Ad _,ih (i+1) _ ps (by omega) hlt hst1 hS1 (λq hq'=>⟨hq1 q hq',(hq q hq').2⟩) hps (by omega) (λx=>?_) λh' tk' ps' kp2=>hR h' tk' ps' λb o hb e=>kp2 b o hb (kp' b o hb e)⟩
   rw[etake,dh,bP,←hx]
   refine⟨.inl,λz=>z.elim id λz=>?_⟩
   rw[aU,iU,ul] at z
   rw[z,←e]
   exact bp.mpr ⟨p,hp,rfl⟩
  ·have kp2: ∀b o,b∉S::wr->s.heap.get? b=some o->h2.get? b=some o:=λb o hb e=>(sb.2 b λz=>hb (by rw[z];exact bB)).trans (kp' b o hb e)
   refine ay ⟨uk Ad _,ih (i+1) _ (q::ps) (by omega) hlt (W.frame _ _ _ hst1 λb hb o e=>(sb.2 b λz=>hSf (by rw[←z];exact hb)).trans e) hS2 (λq hq'=>⟨wn (hq q hq').1 λo=>kp2 q.2 o (hq q hq').2,(hq q hq').2⟩) (λp hp=>?_) (by rw[bm];omega) (λx=>?_) λh' tk' ps' kp3=>hR h' tk' ps' λb o hb e=>kp3 b o hb (kp2 b o hb e)⟩
   ·rcases be.mp hp with e|hp
    ·rw[e];exact hqm
    ·exact hps p hp
   ·rw[etake,dh,bP,←hx,aU,be,aU,iU,ul,Or.comm]
end
abbrev jf (led:Bool):Obj:={cls:= .type "set",dict:=none,data:= .set #[] 0 (.fresh 0 0 led)}
section
variable {P:aI} {w:aE} {A:a7} {E:ac->af->Prop} {s:af}
theorem N9 (x:ac) {Q1:ac->af->Prop} (h:Q1 (.ref s.heap.objs.size) {s with heap:=s.heap.push (jf (!w.params.followText "set-order"))}):codeAny (model P w) A (.call (.builtin "set.__new__") ⟨[.type "set",x],[]⟩) (wants Q1 E) s:=by
 have hsub:=sub_set_self
 refine UJ (show wpAny _ A.in1 (checkBuiltinCall "set.__new__" ⟨[.type "set",x],[]⟩ >>= λ_=>again (.builtin "set.__new__" ⟨[.type "set",x],[]⟩)) _ _ s from ?_)
 refine aj (nL (PySem.F.newCall_set_1 x) (ay ⟨uk UK _,qh PySem.F.entry_set_new (by
  rw[uj UK _]
  unfold eC.«set.__new__» Wl
  obtain⟨hp,g,d,tk,os⟩:=s
  dsimp only;wp_walk
  refine ID (ay ?_)
  dsimp only;simp only[newObj]
  exact aj (wpAny_alloc (ay (ay h))))⟩))
set_option maxHeartbeats 3200000 in
theorem N_ {x:ac} {Q:ac->af->Prop}
  (h: ∀led,led=(!w.params.followText "set-order")->wpAny (model P w) A.in1.in1 (eC.«set.__init__» ⟨[.ref s.heap.objs.size,x],[]⟩) (λfin s'=>fin= .done (.ret .none)/\Q (.ref s.heap.objs.size) s') E {s with heap:=s.heap.push (jf led)}):wpAny (model P w) A (call (.type "set") [x]) Q E s:=by
 have ft:=PySem.F.called_set
 have ⟨_,_,m1⟩:=ft.mro
 have m2:=ft.made
 have m3:=ft.sub
 have m4:=ft.notType
 have m5:=ft.canCreate
 have m6:=PySem.F.typeCall_set_1 x
 refine Hq (UJ (show wpAny _ _ (callAny (jq "set") _) _ _ s from ay ⟨Code.quiet_builtin _ (by decide +kernel),qh PySem.F.entry_type_call ?_⟩))
 rw[Around.under_plain (weight_type_call_type "set" [x] []) rfl]
 repeat (any_goals (first|assumption|wp_step))
 refine pP (N9 x (E:=E) (Q1:=λv s1=> ∃led,led=(!w.params.followText "set-order")/\v= .ref s.heap.objs.size/\s1={s with heap:=s.heap.push (jf led)}) ⟨_,rfl,rfl,rfl⟩) λr s1 hr=>?_
 match r,hr with
 | .error e,hr=>exact hr
 | .ok (.ret v),hr=>
  obtain⟨led,hled,rfl,rfl⟩:=hr
  have hT:Shared.TypeIs {s with heap:=s.heap.push (jf led)} (.ref s.heap.objs.size) "set":=⟨_,cw _ rfl,rfl⟩
  have m7:=ft.init.lookup
  have m8:=ft.init.bind (.ref s.heap.objs.size)
  repeat (any_goals (first|assumption|wp_step))
  refine pP (codeAny_call_builtin (R:=wants (λr s2=>r= .none/\Q (.ref s.heap.objs.size) s2) E) ft.init.plain PySem.F.entry_set_init (check_set_init_1 hT (gk (h led hled) (λfin s2 z=>?_) λ_ _ z=>z))) λr2 s2 hr2=>?_
  ·obtain⟨e,q⟩:=z
   subst e
   exact⟨rfl,q⟩
  ·match r2,hr2 with
   | .error e,z=>exact z
   | .ok (.ret v),z=>
    obtain⟨rfl,q⟩:=z
    repeat (any_goals (first|assumption|wp_step))
set_option maxHeartbeats 3200000 in
theorem Oa {l:aa} {qs:List (List Key×aa)} {Q:ac->af->Prop} (h0:A.handled=none) (hu:A.units+4<cLine) (hl:s.heap.IsList l (qs.map λq=>aP q.2).toArray) (hk: ∀q∈qs,(tk P w).is s.heap q.1 q.2) (hz:qs.length<=70) (hkt: ∀q∈qs,∃tx,q.1=keyOf tx)
  (h: ∀h' tk' ps,(∀b o,s.heap.get? b=some o->h'.get? b=some o)->ef P w h' s.heap.objs.size ps->(∀p∈ps,p∈qs)->(∀x,x∈ps.map (·.1)↔x∈qs.map (·.1))->Q (.ref s.heap.objs.size) {s with heap:=h',toks:=tk'}):wpAny (model P w) A (call (.type "set") [.ref l]) Q E s:=by
 refine N_ λled hled=>?_
 obtain⟨⟨oc,od,odt,osl⟩,hol,hcl,nl,hdl⟩:=id hl
 simp only at hcl hdl
 subst hcl hdl
 have hS:(s.heap.push (jf led)).get? s.heap.objs.size=some (jf led):=cw _ rfl
 have hol':=b4 (jf led) hol
 have hl1:(s.heap.push (jf led)).IsList l (qs.map λq=>aP q.2).toArray:=⟨_,hol',rfl,nl,rfl⟩
 have n1:=PySem.F.sub_list_set
 have n2:=PySem.F.sub_list_frozenset
 have n3:(jq "list" == jq "dict")=false:=by decide
 have hlt:l<s.heap.objs.size:=bL hol
 unfold eC.«set.__init__» noKeywords Wm
 generalize ei:pyIter=PI
 wp_walk
 subst ei
 refine He hl1 (aj (wpAny_runValue ?_))
 have ne1:l≠(s.heap.push (jf led)).objs.size:=by rw[fP];exact cX (nG hlt)
 have hg2:=b4 {cls:= .type "list_iterator",data:= .fields #[.ref l,.int 0 0]} hS
 have hkeep: ∀b o,s.heap.get? b=some o->b∉s.heap.objs.size::[(s.heap.push (jf led)).objs.size]:=λb o e z=>by
  have hb:=bL e
  rw[fP] at z
  simp only[be,UL,or_false] at z
  exact z.elim (cX hb) (cX (nG hb))
 refine N8 (P:=P) (w:=w) (HD (A:=A.in1.in1.in1) (by show A.handled=none;exact h0) _ l ne1 (qs.map λq=>aP q.2).toArray) (S:=s.heap.objs.size) ?_ (qs:=qs) (by simp) hz hkt (λi v hv=>?_) (show A.units+3<cLine by omega) _ 0 _ [] rfl (bv _)
  ⟨⟨_,cw _ rfl,rfl,rfl⟩,hl1.push _⟩ (N7 hled hg2) (λq hq=>⟨wn (hk q hq) λo e=>b4 _ (b4 _ e),?_⟩) (λp hp=>(by cases hp)) (aW _) (λx=>by simp) λh' tk' ps kp hS' hps hx=>?_
 ·rw[fP]
  simp only[be,UL,or_false]
  exact λz=>z.elim (cX (zr _)) (zk hlt)
 ·rw[List.getElem?_toArray,bC] at hv
  cases hq:qs[i]? with
  |none=>rw[hq] at hv;cases hv
  |some q=>rw[hq] at hv;exact⟨q,rfl,(cJ hv).symm⟩
 ·obtain⟨o,_,_,ho,_⟩:=(show Aa (cu P w) s.heap q.1 q.2 from hk q hq)
  exact hkeep _ _ ho
 ·refine ay (ay ⟨rfl,h h' tk' ps (λb o e=>kp b o (hkeep b o e) (b4 _ (b4 _ e))) hS' hps hx⟩)
end
def wq (P:aI) (w:aE) (ts:List (List Nat)):Den:=⟨λv H=> ∃(q:aa) (ps:List (List Key×aa)),v= .ref q/\H q=some (.ext λh=>ef P w h q ps)/\(ps.map mi).Nodup/\(∀x,x∈ps.map mi↔x∈ts.map keyOf)/\ ∀p∈ps,∃t,p.1=keyOf t/\H p.2=some (.tup (tv t)),
 λv H H' s ⟨q,ps,e,h,r1,r2,r3⟩=>⟨q,ps,e,s _ _ h,r1,r2,λp hp=>let ⟨t,e1,e2⟩:=r3 p hp;⟨t,e1,s _ _ e2⟩⟩⟩
theorem ef.nd {P:aI} {w:aE} {h:aF} {a:aa} {ps:List (List Key×aa)} (S:ef P w h a ps):(ps.map (·.1)).Nodup:=by
 obtain⟨o,es,ep,t,zs,ps',S,pm⟩:=S
 exact(pm.map _).nodup_iff.mp S.nd
theorem Ob {ts:List (List Nat)} {ps:List (List Key×aa)} (nd:(ps.map (·.1)).Nodup) (h: ∀x,x∈ps.map (·.1)↔x∈ts.map keyOf):ps.length=(cf ts).length:=by
 have n2:((cf ts).map keyOf).Nodup:=by
  rw[k8,nT]
  exact Tw (λhn e=>hn (kE e)) (k8.mp (Dm.iw ts).nodup)
 have e: ∀x,x∈ps.map (·.1)↔x∈(cf ts).map keyOf:=λx=>by
  rw[h,bp,bp]
  exact⟨λ⟨t,ht,e⟩=>⟨t,Dm.dJ.mpr ht,e⟩,λ⟨t,ht,e⟩=>⟨t,Dm.dJ.mp ht,e⟩⟩
 have:=((UF nd n2).mpr e).length_eq
 rwa[aC,aC] at this
theorem Dv: ∀ts:List (List Nat),¬ts.Nodup->(cf ts).length<ts.length
 | [],h=>(h .nil).elim
 |x::r,h=>by
  by_cases hx:x∈r
  ·have e:cf (x::r)=cf r:=Dm.BX λy=>by
    rw[be]
    exact⟨λz=>z.elim (λz=>z▸hx) id,.inr⟩
   have:=Dm.mF r
   rw[e,bm];omega
  ·have h2:=Dv r λnd=>h (fc.mpr ⟨hx,nd⟩)
   have h3:=Dm.vw x (cf r)
   show (Vabldg.put x (cf r)).length<(x::r).length
   rw[bm];omega
theorem Oc (ts:List (List Nat)):decide (((cf ts).length:Int)<(ts.length:Int))=!qi ts:=by
 by_cases h:qi ts=true
 ·have nd:=(Dm.rA ts).mp h
  have:=Dm.fZ nd (m:=cf ts) λx hx=>Dm.dJ.mpr hx
  rw[h,decide_eq_false (by omega)];rfl
 ·have h':qi ts=false:=by simpa using h
  rw[h']
  refine decide_eq_true ?_
  have:=Dv ts λnd=>h ((Dm.rA ts).mpr nd)
  omega
section
variable {X:Cx} {a e:ao} {pos:Pos} {σ:St} {H:Hp}
theorem boot_set:bootBuiltins "set"=some (.type "set"):=by decide +kernel
theorem Dx {x:Str} {p:Pos} {ts:List (List Nat)} (hx:x="set") (hc:X.calm=true) (hm:X.mg x=none) (hu:X.A.units+64<cLine) (hz:ts.length<=70) (ha:EE X a σ H (bz ts)) (hg:Gl X x:=by rfl) (hs:starEach [a] X.env=[(false,eval a X.env)]:=by rfl):EE X (.Call (.Name x p) [a] [] pos) σ H (wq X.prog X.w ts):=by
 subst hx
 refine oW (r:=λvs H Q=> ∃q as,vs=[.ref q]/\H q=some (.lst (as.map V.ref))/\ba H as ts/\ ∀p ps,H p=none->(ps.map (·.1)).Nodup->(∀x,x∈ps.map (·.1)↔x∈ts.map keyOf)->(∀p∈ps,∃t,p.1=keyOf t/\H p.2=some (.tup (tv t)))->Q (.ref p) (upd H p (.ext λh=>ef X.prog X.w h p ps))) ?_ hm boot_set (aM ha a0 hs) (λvs H1 s1 z Q q=>?_) hg (by decide) (by decide) hs
 ·intro pins s σ H xs us Q I r h
  obtain⟨q,as,rfl,hq,htx,k⟩:=h
  obtain⟨u,rfl,hu'⟩:=vals1 r
  cases hu'
  obtain⟨its,r2,pl,_⟩:=I.list (.of hq)
  have e:=mN r2
  subst e
  obtain⟨ps,e1,e2,hps⟩:=lJ htx
  subst e1 e2
  have el:((ps.map λq=>(keyOf q.2,q.1)).map λq=>aP q.2)=(ps.map (·.1)).map aP:=by rw[eR,eR];rfl
  refine Oa (qs:=ps.map λq=>(keyOf q.2,q.1)) (I.ok.hd hc) (by omega) (by rw[el];exact pl.isList) (λq hq=>?_) (by rw[aC] at hz ⊢;exact hz) (λq hq=>by obtain⟨y,hy,rfl⟩:=bp.mp hq;exact⟨y.2,rfl⟩) λh' tk' ps' kp hS hsub hx=>?_
  ·obtain⟨y,hy,rfl⟩:=bp.mp hq
   exact i9 I.aB (by rw[gF];exact hps y hy)
  ·have hfree:H s.heap.objs.size=none:=I.aB.fresh (aW _)
   refine⟨.ref s.heap.objs.size,_,I.laid (o:= .ext λh=>ef X.prog X.w h s.heap.objs.size ps') (t':=tk') kp (aW _) ⟨hS,?_,λh1 h2 hs hk=>wo hs hk⟩,rfl,k _ ps' hfree hS.nd (λx=>?_) λp hp=>?_⟩
   ·obtain⟨o,_,_,_,_,_,S,_⟩:=hS
    exact⟨o,S.get⟩
   ·rw[hx,eR,eR];rfl
   ·obtain⟨y,hy,rfl⟩:=bp.mp (hsub p hp)
    exact⟨y.2,rfl,hps y hy⟩
 ·obtain⟨v,rfl,qa,as,rfl,hq,ht⟩:=cM z
  exact⟨qa,as,rfl,hq,ht,λp ps hp nd hx hps=>q _ _ (bF hp) ⟨p,ps,rfl,aK,nd,hx,λz hz=>let ⟨t,e1,e2⟩:=hps z hz;⟨t,e1,bF hp _ _ e2⟩⟩⟩
theorem Od {x:Str} {p:Pos} {ts:List (List Nat)} (hx:x="len") (hm:X.mg x=none) (ha:EE X a σ H (wq X.prog X.w ts)) (hg:Gl X x:=by rfl) (hs:starEach [a] X.env=[(false,eval a X.env)]:=by rfl):EE X (.Call (.Name x p) [a] [] pos) σ H (aH ((cf ts).length:Nat)):=by
 subst hx
 refine iB (r:=λvs H Q=> ∃q ps,vs=[.ref q]/\H q=some (.ext λh=>ef X.prog X.w h q ps)/\Q (.int (ps.length:Nat)) H) ?_ hm zZ (aM ha a0 hs) (λvs H1 s1 z Q q=>?_) hg (by decide) (by decide) hs
 ·intro pins s σ H xs us Q I r h
  obtain⟨q,ps,rfl,hq,k⟩:=h
  obtain⟨u,rfl,hu'⟩:=vals1 r
  cases hu'
  obtain⟨⟨o,es,ep,t,zs,ps',S,pm⟩,_⟩:=(show cz X.prog X.w H s.heap q (.ext λh=>ef X.prog X.w h q ps) from I.aB q _ hq)
  have e:es.size=ps.length:=by rw[S.len.2,pm.length_eq]
  refine call_len_set S.get S.ex S.data S.fits ?_ ⟨.int (ps.length:Nat),H,I.tok _,⟨_,by rw[e]⟩,k⟩
  have:=S.room
  have h2:=S.len.2
  rcases S.tab.lK with e|e|e <;> rw[e] at this <;> omega
 ·obtain⟨v,rfl,qa,ps,rfl,hq,nd,hx,_⟩:=cM z
  exact⟨qa,ps,rfl,hq,q _ _ (ak.refl _) (by rw[Ob nd hx];rfl)⟩
end
def iJ (ds:List Den):Den:=⟨λv H=> ∃(q:aa) (vs:List V),v= .ref q/\H q=some (.lst vs)/\bZ ds vs H,λv H H' s ⟨q,vs,e,h,z⟩=>⟨q,vs,e,s _ _ h,z.mono s⟩⟩
def jg (d:Den):Prop:= ∀(v:V) (H:Hp) (D:aa) (xs ys:List V),H D=some (.lst xs)->d.p v H->d.p v (upd H D (.lst ys))
theorem mR (xs:List V):jg (aw xs):=λv H D us ys hD ⟨a,e,h⟩=>⟨a,e,by rw[az (bg h hD (by intro z;cases z))];exact h⟩
theorem bZ.Dy {ds:List Den} {vs:List V} {H:Hp} {D:aa} {xs ys:List V} (hD:H D=some (.lst xs)) (hs: ∀d∈ds,jg d) (h:bZ ds vs H):bZ ds vs (upd H D (.lst ys)):=by
 induction h with
 |nil=>exact .nil
 |cons h _ ih=>exact .cons (hs _ bB _ _ _ _ _ hD h) (ih hD λd hd=>hs d (bq _ hd))
theorem bZ.snoc {ds:List Den} {vs:List V} {H:Hp} {d:Den} {v:V} (h:bZ ds vs H) (hv:d.p v H):bZ (ds++[d]) (vs++[v]) H:=by
 induction h with
 |nil=>exact .cons hv .nil
 |cons h _ ih=>exact .cons h (ih hv)
theorem bZ.len {ds:List Den} {vs:List V} {H:Hp} (h:bZ ds vs H):vs.length=ds.length:=by
 induction h with
 |nil=>rfl
 |cons _ _ ih=>rw[bm,bm,ih]
theorem so {H:Hp}: ∀{ts:List (List Nat)} {vs:List V},bZ (ts.map λt=>aw (tv t)) vs H-> ∃as:List aa,vs=as.map V.ref/\ba H as ts
 | [],_,h=>by rw[iU] at h;cases h;exact⟨[],rfl,.nil⟩
 |t::ts,_,h=>by
  rw[aU] at h
  cases h with
  |cons h r=>
   obtain⟨a,e,ha⟩:=h
   obtain⟨as,e2,q⟩:=so r
   exact⟨a::as,by rw[e,e2];rfl,.cons ha q⟩
theorem Dz {H:Hp}: ∀{ts:List (List Nat)} {as:List aa},ba H as ts->bZ (ts.map λt=>aw (tv t)) (as.map V.ref) H
 |_,_,.nil=> .nil
 |_,_,.cons h r=> .cons ⟨_,rfl,h⟩ (Dz r)
section
variable {X:Cx} {a b c e:ao} {pos p2:Pos} {σ:St} {H:Hp}
theorem EE.DT {ts:List (List Nat)} (h:EE X e σ H (iJ (ts.map λt=>aw (tv t)))):EE X e σ H (bz ts):=h.imp λv H2 _ ⟨q,vs,ev,hv,z⟩=>by
 obtain⟨as,rfl,ht⟩:=so z
 exact⟨q,as,ev,hv,ht⟩
def mS (X:Cx) (scope:bX) (e:ao):TT:=λσ H Q=> ∃b,(∀(s:af) (H0:Hp) (C:aa) (cl:List (Str×aa)) (fp:List aa),ET (df X scope s H0 C cl fp) e σ H b)/\ ∀H2,ak H H2->Q b H2
theorem DA {scope:bX} {e:ao} (s:af) (H0:Hp) (C:aa) (cl:List (Str×aa)) (fp:List aa):PT (df X scope s H0 C cl fp) e (mS X scope e):=λpins sh σ H Q I ⟨d,h,q⟩=>aY pins sh σ H Q I ⟨d,h s H0 C cl fp,q⟩
theorem DB {α:Type} {ys:List α} {i:Nat} {y:α} (c:α->Bool) (h:ys[i]?=some y):(ys.take (i+1)).filter c=(ys.take i).filter c++if c y=true then [y] else []:=by
 rw[pZ,h,List.filter_append]
 congr 1
 show [y].filter c=_
 rw[ib,List.filter_nil]
theorem DC {α:Type} {J:It} {xs:List V} {ys:List α} {ct:α->Bool} {dn:α->Den} {tt:TT} {scope:bX} {elt:ao} {j:Nat} {H1:Hp} {D:aa} {Qd:Hp->Prop} (hD:H1 D=none)
  (hit: ∀(Pv:Nat->Hp->Prop),(∀i H,i<=xs.length->Pv i H->ak H1 H)->Pv 0 (upd H1 D (.lst [])) ->
   (∀i x H,xs[i]?=some x->Pv i H->d8 j x (wipe σ [j]) H λσ2 H2=>wipe σ2 [j]=wipe σ [j]/\tt σ2 H2 λb H3=>if b=true then iD X scope elt σ2 H3 λy H4=> ∃acc,H4 D=some (.lst acc)/\acc.length<sizeLine/\Pv (i+1) (upd H4 D (.lst (acc++[y]))) else Pv (i+1) H3) ->
   (∀H,Pv xs.length H->Qd H) ->
   ∃W:Nat->Nat->Hp->Prop,(∃m,W 0 m (upd H1 D (.lst [])))/\ ∀i m H,W i m H->(J.stop i H/\Qd H)∨(J.go i H/\ ∃Nx:Hp->Prop,(∀H',Nx H'-> ∃m',m'<m/\W (i+1) m' H')/\ ∀x H',J.gx i H x H'->d8 j x (wipe σ [j]) H' λσ2 H2=>wipe σ2 [j]=wipe σ [j]/\tt σ2 H2 λb H3=>
    if b=true then iD X scope elt σ2 H3 λy H4=> ∃acc,H4 D=some (.lst acc)/\acc.length<sizeLine/\Nx (upd H4 D (.lst (acc++[y]))) else Nx H3))
  (hl:ys.length=xs.length) (hz:xs.length<=sizeLine) (hst: ∀y∈ys,jg (dn y))
  (ht: ∀(i:Nat) x y H',xs[i]?=some x->ys[i]?=some y->ak H1 H'-> ∀Q:Bool->Hp->Prop,(∀H3,ak H' H3->Q (ct y) H3)->tt (σ.set j (some x)) H' Q)
  (he: ∀(i:Nat) x y,xs[i]?=some x->ys[i]?=some y->ct y=true-> ∀(s:af) (H0:Hp) (C:aa) (cl:List (Str×aa)) (fp:List aa),EE (df X scope s H0 C cl fp) elt (σ.set j (some x)) H1 (dn y))
  (hq: ∀H',ak H1 H'->(iJ ((ys.filter ct).map dn)).p (.ref D) H'->Qd H') :
  ∃W:Nat->Nat->Hp->Prop,(∃m,W 0 m (upd H1 D (.lst [])))/\ ∀i m H,W i m H->(J.stop i H/\Qd H)∨(J.go i H/\ ∃Nx:Hp->Prop,(∀H',Nx H'-> ∃m',m'<m/\W (i+1) m' H')/\ ∀x H',J.gx i H x H'->d8 j x (wipe σ [j]) H' λσ2 H2=>wipe σ2 [j]=wipe σ [j]/\tt σ2 H2 λb H3=>
    if b=true then iD X scope elt σ2 H3 λy H4=> ∃acc,H4 D=some (.lst acc)/\acc.length<sizeLine/\Nx (upd H4 D (.lst (acc++[y]))) else Nx H3):=by
 refine hit (λi H'=>ak H1 H'/\ ∃vs,H' D=some (.lst vs)/\bZ (((ys.take i).filter ct).map dn) vs H') (λi H' _ h=>h.1) ⟨bF hD,[],by rw[aK],by rw[iV];exact .nil⟩ ?_ ?_
 ·rintro i x H' hx ⟨s1,vs,hd,hv⟩
  have hi:i<xs.length:=(List.getElem?_eq_some_iff.mp hx).1
  obtain⟨y,hy⟩: ∃y,ys[i]?=some y:=⟨_,b8 (by omega)⟩
  refine⟨vU σ j x,?_⟩
  rw[vV]
  refine ht i x y H' hx hy s1 _ λH3 s3=>?_
  have etk:=DB ct hy
  have hst': ∀d∈((ys.take i).filter ct).map dn,jg d:=λd hd=>by
   obtain⟨z,hz,rfl⟩:=bp.mp hd
   exact hst z (mh (cU.mp hz).1)
  cases hb:ct y with
  |false=>
   rw[hb] at etk
   simp only[dy,if_false,fQ] at etk ⊢
   rw[etk]
   exact⟨s1.trans s3,vs,s3 _ _ hd,hv.mono s3⟩
  |true=>
   rw[hb] at etk
   simp only[if_true] at etk ⊢
   rw[etk]
   refine⟨dn y,λs H0 C cl fp=>(he i x y hx hy hb s H0 C cl fp).grow (s1.trans s3),λv H4 s4 hv4=>?_⟩
   have hd4:=s4 _ _ (s3 _ _ hd)
   refine⟨vs,hd4,?_,vW hD ((s1.trans s3).trans s4) _,vs++[v],aK,?_⟩
   ·rw[hv.len,aC]
    have h1:=iX ct (ys.take i)
    rw[dL] at h1
    omega
   ·rw[dh]
    exact bZ.snoc (bZ.Dy hd4 hst' (hv.mono (s3.trans s4))) (hst y (dg hy) _ _ _ _ _ hd4 hv4)
 ·rintro H' ⟨s1,vs,hd,hv⟩
  rw[←hl,fq] at hv
  exact hq H' s1 ⟨D,vs,rfl,hd,hv⟩
theorem Oe {α:Type} {scope:bX} {y:Str} {py:Pos} {iter elt:ao} {j:Nat} {xs:List V} (ys:List α) (dn:α->Den) (hc:X.calm=true) (hN:X.N.Nodup) (hi:EE X iter σ H (bt X.K xs)) (ok:gC X.N X.env.scope scope [(y,j)]) (hj:X.N[j]?=some y) (hy:scope.names.lookup y=some .local)
  (hl:ys.length=xs.length) (hz:xs.length<=sizeLine) (hst: ∀y∈ys,jg (dn y))
  (he: ∀(i:Nat) x z,xs[i]?=some x->ys[i]?=some z-> ∀(s:af) (H0:Hp) (C:aa) (cl:List (Str×aa)) (fp:List aa),EE (df X scope s H0 C cl fp) elt (σ.set j (some x)) H (dn z))
  (hs: ∀x,foldedSetIterable iter X.env x=pure x:=by intro _;rfl):EE X (.ListComp elt [⟨.Name y py,iter,[],0⟩] scope pos) σ H (iJ (ys.map dn)):=
 EE.of (oH hc hN (gy ah) ok (λs H0 C cl fp=>d9 (X:=df X scope s H0 C cl fp) hN hj (.inl (iW hy)) (.inr (iW hy))) (λs H0 C cl fp=>qP) (λs H0 C cl fp=>mO s H0 C cl fp) hs)
  λH1 s1 Q q=>⟨_,hi.grow s1,λv H2 s2 hv=>by
   obtain⟨a,rfl,ha⟩:=hv
   refine⟨a,rfl,⟨_,ha⟩,λD hD=>?_⟩
   exact DC (X:=X) (xs:=xs) (ys:=ys) (ct:=λ_=>true) (dn:=dn) (tt:=mz) hD (λPv h1 h2 h3 h4=>vb Pv h2 (λi H' hle hp=>(h1 i H' hle hp).seq ha) h3 h4) hl hz hst (λi x z H' _ _ _ Q hq=>hq H' (ak.refl _)) (λi x z hx hz2 _ s H0 C cl fp=>(he i x z hx hz2 s H0 C cl fp).grow (s1.trans s2))
    λH' s3 hd=>q _ _ (s2.trans s3) (by rw[List.filter_eq_self.mpr λ_ _=>rfl] at hd;exact hd)⟩
end
end L2
namespace Dr
open PySem L2
def top (i:Nat):aL:=PySem.Challenge.pw_dependrules_s01_answers.main.body.getD i (.Pass ⟨0,0,0,0⟩)
abbrev wv:aL:=top 2
abbrev ww:aL:=top 3
abbrev wx:aL:=top 4
abbrev wy:aL:=top 5
abbrev wz:aL:=top 6
abbrev wA:aL:=top 18
abbrev wB:aL:=top 19
abbrev wC:aL:=top 20
abbrev wD:aL:=top 21
abbrev ss:aL:=top 22
abbrev wE:aL:=top 23
abbrev wF:aL:=top 24
abbrev wG:aL:=top 31
abbrev wH:aL:=top 32
abbrev wI:aL:=top 33
abbrev wJ:aL:=top 34
abbrev wK:aL:=top 35
abbrev wL:aL:=top 36
abbrev wM:aL:=top 37
abbrev wN:aL:=top 43
abbrev wO:aL:=top 44
abbrev wP:aL:=top 45
abbrev wQ:aL:=top 46
abbrev wR:aL:=top 47
abbrev wS:aL:=top 49
abbrev wT:aL:=top 50
abbrev wU:aL:=top 51
abbrev wV:aL:=top 52
abbrev wW:aL:=top 53
abbrev wX:aL:=top 54
abbrev wY:aL:=top 62
abbrev wZ:aL:=top 64
abbrev w6:aL:=top 65
abbrev w8:aL:=inClass (top 67) 0
abbrev w9:aL:=inClass (top 68) 0
abbrev w_:aL:=top 85
abbrev xa:aL:=top 86
abbrev xb:aL:=top 87
abbrev xc:aL:=top 88
abbrev xf:aL:=top 89
abbrev xg:aL:=top 90
abbrev xh:aL:=top 91
abbrev xi:aL:=top 93
abbrev xj:aL:=top 94
abbrev xk:aL:=top 95
abbrev xl:aL:=top 100
abbrev xm:aL:=top 101
abbrev xn:aL:=top 102
abbrev xo:aL:=top 103
abbrev xp:aL:=top 104
abbrev xq:aL:=top 105
abbrev xt:aL:=top 106
abbrev xu:aL:=top 107
abbrev xw:aL:=top 108
abbrev xx:aL:=top 109
abbrev xy:aL:=top 110
abbrev xz:aL:=top 111
abbrev xB:aL:=top 112
abbrev xC:aL:=top 113
abbrev xD:aL:=top 114
abbrev xE:aL:=top 115
abbrev xF:aL:=top 116
abbrev xG:aL:=top 117
abbrev xH:aL:=top 119
abbrev mU:aL:=top 120
end Dr
namespace L2
open PySem PySem.Spec PyProof.Rows Dr
abbrev GI (mg:Str->Option ac) (x:Str) (i:Int):Prop:= ∃t,mg x=some (.int i t)
def ji (K:aA) (a:aa) (xs:List V):Prop:= ∃(o:Obj) (its:Array ac) (n:Nat),K.lookup a=some o/\o.cls= .type "tuple"/\o.data= .seq its n/\its.size<=sizeLine/\Vals xs its.toList
abbrev GT (K:aA) (mg:Str->Option ac) (x:Str) (t:List Nat):Prop:= ∃a,mg x=some (.ref a)/\ji K a (tv t)
abbrev su (K:aA) (mg:Str->Option ac) (x:Str) (ts:List (List Nat)):Prop:= ∃a as,mg x=some (.ref a)/\ji K a (as.map V.ref)/\cb (λa t=>ji K a (tv t)) as ts
theorem a4 {X:Cx} {x:Str} {i:Int} {pos:Pos} {σ:St} {H:Hp} (h:GI X.mg x i) (hg:Gl X x:=by rfl) (h1:(x == ("__debug__":Str))=false:=by decide):EE X (.Name x pos) σ H (aH i):=by
 obtain⟨t,e⟩:=h
 exact kz (v:= .int i) e ⟨t,rfl⟩ rfl hg h1
theorem dB {X:Cx} {x:Str} {t:List Nat} {pos:Pos} {σ:St} {H:Hp} (h:GT X.K X.mg x t) (hg:Gl X x:=by rfl) (h1:(x == ("__debug__":Str))=false:=by decide):EE X (.Name x pos) σ H (de X.K (tv t)):=by
 obtain⟨a,e,k⟩:=h
 exact kz (v:= .ref a) e rfl ⟨a,rfl,.inr k⟩ hg h1
theorem Oi {X:Cx} {x:Str} {ts:List (List Nat)} {pos:Pos} {σ:St} {H:Hp} (h:su X.K X.mg x ts) (hg:Gl X x:=by rfl) (h1:(x == ("__debug__":Str))=false:=by decide):EE X (.Name x pos) σ H (vT X.K ts):=by
 obtain⟨a,as,e,k,ks⟩:=h
 exact kz (v:= .ref a) e rfl ⟨a,as,rfl,.inr (.inr k),Paired.b6 ks λ_ _ q=> .inr q⟩ hg h1
def aq (P:aI) (w:aE) (K:aA) (mg:Str->Option ac) (base:aF) (k:Nat) (x:Str) (ps:List Str) (sp:Sp):Prop:=
 ∃f fd,mg x=some (.ref f)/\fo K (.ref f)=true/\Binds K fd ps []/\aN P w K mg base aR k f fd ps sp
theorem jP {X:Cx} {σ:St} {H:Hp} {pos:Pos} {k:Nat} {ps:List Str} {sp:Sp} {x:Str} {p:Pos} {e:ao} {es:List ao} {ds:List Den} {d:Den} (F:aq X.prog X.w X.K X.mg X.base k x ps sp) (hr:bJ k X.A)
  (ha:EA X (e::es) σ H ds) (h: ∀vs H1,ak H H1->bZ ds vs H1-> ∀Q:VK,(∀v H2,ak H1 H2->d.p v H2->Q v H2)->sp vs H1 Q E0)
  (hg:Gl X x:=by rfl) (hdb:(x == ("__debug__":Str))=false:=by decide) (he:starEach (e::es) X.env=(false,eval e X.env)::starEach es X.env:=by rfl) (hpl:(backTo pos (starEach es X.env)).any (·.1)=false:=by rfl):EE X (.Call (.Name x p) (e::es) [] pos) σ H d:=by
 obtain⟨f,fd,hm,hk,hb,F⟩:=F
 exact MC F hr hm hk hb ha h hg hdb he hpl
theorem cn {X:Cx} {σ:St} {H:Hp} {pos:Pos} {k:Nat} {ps:List Str} {Pr:List V->Hp->Den->Prop} {x:Str} {p:Pos} {e:ao} {d0 d:Den} (F:aq X.prog X.w X.K X.mg X.base k x ps (am Pr)) (hr:bJ k X.A)
  (ha:EE X e σ H d0) (h: ∀v H1,d0.p v H1->Pr [v] H1 d)
  (hg:Gl X x:=by rfl) (hdb:(x == ("__debug__":Str))=false:=by decide) (he:starEach [e] X.env=[(false,eval e X.env)]:=by rfl):EE X (.Call (.Name x p) [e] [] pos) σ H d:=
 jP F hr (aM ha a0 he) (λvs H1 s1 z Q q=>by
  obtain⟨v,rfl,hv⟩:=cM z
  exact⟨d,h v H1 hv,q⟩) hg hdb he rfl
theorem o8 {X:Cx} {σ:St} {H:Hp} {pos:Pos} {k:Nat} {ps:List Str} {Pr:List V->Hp->Den->Prop} {x:Str} {p:Pos} {e e2:ao} {d0 d1 d:Den} (F:aq X.prog X.w X.K X.mg X.base k x ps (am Pr)) (hr:bJ k X.A)
  (ha:EE X e σ H d0) (hb:EE X e2 σ H d1) (h: ∀v u H1,d0.p v H1->d1.p u H1->Pr [v,u] H1 d)
  (hg:Gl X x:=by rfl) (hdb:(x == ("__debug__":Str))=false:=by decide) (he:starEach [e,e2] X.env=(false,eval e X.env)::starEach [e2] X.env:=by rfl) (he2:starEach [e2] X.env=[(false,eval e2 X.env)]:=by rfl) (hpl:(backTo pos (starEach [e2] X.env)).any (·.1)=false:=by rfl):EE X (.Call (.Name x p) [e,e2] [] pos) σ H d:=
 jP F hr (aM ha (aM hb a0 he2) he) (λvs H1 s1 z Q q=>by
  obtain⟨v,u,rfl,hv,hu⟩:=lF z
  exact⟨d,h v u H1 hv hu,q⟩) hg hdb he hpl
section
variable {P:aI} {w:aE} {K:aA} {mg:Str->Option ac} {base:aF}
def sv:List V->Hp->Den->Prop:=λvs _ d=> ∃n:Nat,vs=[.int n]/\d=bo (j7 n)
theorem Oj:a6 ["byte"] ["byte"] (aV wA):=⟨rfl,rfl,rfl,by decide +kernel,rfl,by decide +kernel,by decide +kernel⟩
theorem Ol {f:aa} {fd:aS} (F:aX K "is_name_byte" "is_name_byte" wA f fd) (h1:GI mg "UNDERSCORE" 95) (h2:GI mg "MINUS" 45):aN P w K mg base aR 1 f fd ["byte"] (am sv):=by
 refine F.ok Oj (λvs H Q E h=>?_) (λcdv A outer s H vs Q E hr h=>?_)
 ·obtain⟨d,⟨n,rfl,_⟩,_⟩:=h
  rfl
 ·obtain⟨d,⟨n,rfl,rfl⟩,k⟩:=h
  refine⟨_,ap (a_ aY (au (aD ah)) bh) (au (aD ah)),?_⟩
  refine bc (EW.et (gX (vP aZ (ae 0 rfl rfl) aZ) λ_=>gW (vP aZ (ae 0 rfl rfl) aZ))) (λhc H2 s2=>?_) (λhc H2 s2=>?_)
  ·refine aQ f8 λv H3 s3 hv=>k v H3 (s2.trans s3) ?_
   cases hv
   show V.bl _=V.bl _
   congr 1
   unfold j7
   simp only[gL,bY,decide_eq_true_eq] at hc
   simp only[gL,bY,decide_eq_true_eq,Bool.true_eq]
   omega
  ·refine aQ (oV (vL aZ (ae 0 rfl rfl) aZ) λ_=>oV (rM (ae 0 rfl rfl) (a4 h1)) λ_=>jK (rM (ae 0 rfl rfl) (a4 h2))) λv H3 s3 hv=>k v H3 (s2.trans s3) ?_
   cases hv
   show V.bl _=V.bl _
   congr 1
   unfold j7
   rw[jX]
   simp only[jx,UM,decide_eq_false_iff_not] at hc
   simp only[gL,bY,decide_eq_true_eq,beq_iff_eq] at hc ⊢
   omega
def b_ (f:List Nat->V):List V->Hp->Den->Prop:=λvs H d=> ∃a t,vs=[.ref a]/\H a=some (.tup (tv t))/\d=ax (f t)
theorem o9 {t:List Nat} {i:Nat} {x:V} (h:(tv t)[i]?=some x): ∃n,t[i]?=some n/\x= .int (n:Nat):=by
 unfold tv at h
 rw[bC] at h
 cases e:t[i]? with
 |none=>rw[e] at h;cases h
 |some n=>rw[e] at h;exact⟨n,rfl,(cJ h).symm⟩
theorem DL:a6 ["text","byte"] ["text"] (aV wB):=⟨rfl,rfl,rfl,by decide +kernel,rfl,by decide +kernel,by decide +kernel⟩
theorem DM (t:List Nat):qj t=(!((!(decide ((1:Int)<=(tv t).length) && decide (((tv t).length:Int)<=32))) || ([[46],[46,46]]:List (List Nat)).contains t) && (t.map λ(n:Nat)=>decide (((n:Nat):Int)=46) || j7 n).all id):=by
 unfold qj
 rw[Dm.Mi,Dm.Mj,bD,l6]
 have e:(t.all λc=>j7 c || c == 46)=t.all (id ∘ λ(n:Nat)=>decide (((n:Nat):Int)=46) || j7 n):=by
  congr 1
  funext c
  show (j7 c || c == 46)=(decide ((c:Int)=46) || j7 c)
  rw[Bool.or_comm]
  congr 1
  by_cases h:c=46
  ·subst h;rfl
  ·rw[beq_eq_false_iff_ne.mpr h,decide_eq_false (by omega)]
 rw[e]
 generalize t.all _=z
 have c1:decide ((1:Int)<=(t.length:Int))=decide (1<=t.length):=decide_eq_decide.mpr (by omega)
 have c2:decide ((t.length:Int)<=32)=decide (t.length<=32):=decide_eq_decide.mpr (by omega)
 rw[c1,c2]
 have c3:([[46],[46,46]]:List (List Nat)).contains t=(t == [46] || t == [46,46]):=by rw[p7,p7,List.contains_nil,Uf]
 rw[c3]
 unfold bne
 cases decide (1<=t.length) <;> cases decide (t.length<=32) <;> cases z <;> cases t == [46] <;> cases t == [46,46] <;> rfl
theorem Om {f:aa} {fd:aS} (F:aX K "is_part" "is_part" wB f fd) (h1:GI mg "PART_BYTES" 32) (h2:su K mg "NO_PARTS" [[46],[46,46]]) (h3:GI mg "DOT" 46) (hl:mg "len"=none) (ha:mg "all"=none)
  (N:aq P w K mg base 1 "is_name_byte" ["byte"] (am sv)):aN P w K mg base aR 2 f fd ["text"] (am (b_ λt=> .bl (qj t))):=by
 refine F.ok DL (λvs H Q E h=>?_) (λcdv A outer s H vs Q E hr h=>?_)
 ·obtain⟨d,⟨a,t,rfl,_⟩,_⟩:=h
  rfl
 ·obtain⟨d,⟨a,t,rfl,ht,rfl⟩,k⟩:=h
  have hu:=b9 hr
  refine⟨_,ap (a_ aY (au (aD ah)) bh) (au (aD ah)),?_⟩
  refine bc (EW.et (gX (eW (vP aZ (dm rfl hl (ae 0 rfl ⟨a,rfl,.of ht⟩)) (a4 h1))) λ_=>gW (rT hu (ae 0 rfl ⟨a,rfl,.of ht⟩) (Oi h2)))) (λhc H2 s2=>?_) (λhc H2 s2=>?_)
  ·refine aQ f8 λv H3 s3 hv=>k v H3 (s2.trans s3) ?_
   cases hv
   show V.bl _=V.bl _
   rw[DM,hc];rfl
  ·have ht2:=s2 _ _ ht
   refine aQ (mP (bs:=t.map λ(n:Nat)=>decide (((n:Nat):Int)=46) || j7 n) rfl rfl ha (vY (j:=1) (xs:=tv t) rfl DL.nd (ae 0 rfl ⟨a,rfl,.of ht2⟩) (dI rfl) rfl rfl ?_ ?_ ?_)) λv H3 s3 hv=>k v H3 (s2.trans s3) ?_
   ·simp [bD]
   ·rw[bD]
    have:t.length<=32:=by
     simp only[jx,cN,bY,decide_eq_true_eq] at hc
     rw[bD] at hc;omega
    exact bM this (by decide)
   ·intro i x z hx hz s0 H0 C cl fp
    obtain⟨n,hn,rfl⟩:=o9 hx
    rw[bC,bC,hn] at hz
    cases hz
    exact oV (rM (ae 1 rfl rfl) (a4 h3)) λ_=>jK (cn N hr (ae 1 (d:=aH n) rfl rfl) λv H1 hv=>⟨n,by rw[hv],rfl⟩)
   ·cases hv
    show V.bl _=V.bl _
    rw[DM,hc];rfl
end
theorem cV {n m:Nat} (h:n<=m) (hm:m<=1000000:=by decide):n<=sizeLine:=bM h (bM hm (by decide))
theorem f_ {n m:Nat} (h:n<=m) (hm:m<=1000000:=by decide):n<sizeLine:=Tv (bM h hm) (by decide)
theorem ba.snoc {H:Hp} {as:List aa} {ts:List (List Nat)} {a:aa} {t:List Nat} (h:ba H as ts) (ha:H a=some (.tup (tv t))):ba H (as++[a]) (ts++[t]):=by
 induction h with
 |nil=>exact .cons ha .nil
 |cons q _ ih=>exact .cons q (ih)
theorem xI {H:Hp} {l:aa} {o:HO} {xs:List V} {as:List aa} {ts:List (List Nat)} (hl:H l=some (.lst xs)) (h:ba H as ts):ba (upd H l o) as ts:=Paired.b6 h λb t q=>by
 rw[az (bg q hl (by intro z;cases z))];exact q
section
variable {P:aI} {w:aE} {K:aA} {mg:Str->Option ac} {base:aF}
def xJ:List V->Hp->Den->Prop:=λvs H d=> ∃a t c,vs=[.ref a,.int ((c:Nat):Int)]/\H a=some (.tup (tv t))/\t.length<=5000/\d=bz (nU c t)
theorem DN:a6 ["text","byte","parts","start","place","found"] ["text","byte"] (aV wz):=⟨rfl,rfl,rfl,by decide +kernel,rfl,by decide +kernel,by decide +kernel⟩
theorem Oo {f:aa} {fd:aS} (F:aX K "parts_between" "parts_between" wz f fd) (he:mg "enumerate"=none):aN P w K mg base aR 1 f fd ["text","byte"] (am xJ):=by
 refine F.ok DN (λvs H Q E h=>?_) (λcdv A outer s H vs Q E hr h=>?_)
 ·obtain⟨d,⟨a,t,c,rfl,_⟩,_⟩:=h
  rfl
 ·obtain⟨d,⟨a,t,c,rfl,ht,hlen,rfl⟩,k⟩:=h
  have nd:=DN.nd
  refine⟨_,ap (a5 (i:=2) nd rfl (aT rfl) (fF gP)) (ap (a5 (i:=3) nd rfl (aT rfl) ah)
   (ap (im fz rfl (Nm rfl he cF) (AA rfl (qB (d9 (i:=4) nd rfl (aT rfl)) (qB (d9 (i:=5) nd rfl (aT rfl)) Az)))
    (au (a_ aY (ap (fe (fG fT iY iZ gQ ah cF)) (au (a5 (i:=3) nd rfl (aT rfl) ah))) bh)))
   (ap (fe (fG fT iY iZ gQ ah cF)) (au (aD ah))))),?_⟩
  refine⟨bv _,λl hl=>?_⟩
  have s0:ak H (upd H l (.lst [])):=bF hl
  refine br aZ λv H1 s1 hv=>?_
  cases hv
  refine⟨_,aM (ae 0 (d:=de K (tv t)) rfl ⟨a,rfl,.of (s1 _ _ (s0 _ _ ht))⟩) a0,λvs H2 s2 z=>?_⟩
  obtain⟨v,rfl,a',rfl,ha⟩:=cM z
  refine⟨a',tv t,rfl,ha,No (K:=K) (a:=a') (xs:=tv t) (λi σ H'=> ∃(st:Nat) (v4 v5:Option V) (as:List aa) (ps:List (List Nat)),σ=[some (.ref a),some (.int (c:Nat)),some (.ref l),some (.int (st:Nat)),v4,v5]/\ak H H'/\bE K H' a' (tv t)/\H' l=some (.lst (as.map V.ref))/\ba H' as ps /\
    st<=i/\as.length<=i/\nU c (t.take i)=ps++[(t.take i).drop st]) ?_ ?_ ?_ ?_⟩
  ·refine⟨0,none,none,[],[],rfl,(s0.trans s1).trans s2,ha,s2 _ _ (s1 _ _ aK),.nil,aW _,bv _,?_⟩
   rw[iV];rfl
  ·rintro i σ H' _ ⟨_,_,_,_,_,_,_,h,_⟩
   exact h
  ·rintro i x σ H' T hx ⟨st,v4,v5,as,ps,rfl,s3,ha3,hl3,htx,hst,has,hsp⟩ hT
   obtain⟨n,hn,rfl⟩:=o9 hx
   have hi:i<t.length:=(List.getElem?_eq_some_iff.mp hn).1
   have sT:ak H' (upd H' T (.tup [.int (i:Nat),.int (n:Nat)])):=bF hT
   refine⟨T,_,rfl,.of aK,rfl,_,_,rfl,_,_,rfl,rfl,?_⟩
   obtain⟨q1,q2⟩:=Dm.Mh (c:=c) hn hst hsp
   refine bc (rQ (ae 5 rfl rfl) (ae 1 rfl rfl)) (λhc H4 s4=>?_) (λhc H4 s4=>?_)
   ·have hc':n=c:=by have:=of_decide_eq_true hc;omega
    have s5:ak H' H4:=sT.trans s4
    refine g8 (l:=l) (ae 2 rfl rfl) (s5 _ _ hl3) (by rw[aC];exact f_ (m:=5000) (by omega)) (aM (eK (o1:=some (st:Nat)) (o2:=some (i:Nat)) (ae 0 rfl ⟨a,rfl,s5 _ _ (s3 _ _ ht)⟩) (show EE _ _ _ _ _ from ae 3 rfl rfl) (show EE _ _ _ _ _ from ae 4 rfl rfl)) a0) λv H5 s6 hv=>?_
    obtain⟨p,rfl,hp⟩:=hv
    refine br (gU (ae 4 rfl rfl) aZ) λv H6 s7 hv=>?_
    cases hv
    rw[oZ,g0,jc] at hp
    have e1:(t.drop st).take (i-st)=(t.take i).drop st:=by rw[List.drop_take]
    rw[e1] at hp
    have hl5:H5 l=some (.lst (as.map V.ref)):=s6 _ _ (s5 _ _ hl3)
    refine⟨i+1,_,_,as++[p],ps++[(t.take i).drop st],rfl,(ff hl ((s3.trans s5).trans s6)).trans s7,?_,?_,?_,aW _,?_,q1 hc'⟩
    ·refine ak.kx s7 ?_
     have:=ak.kx (s5.trans s6) ha3
     rcases this with (q|⟨o,q⟩)|q
     ·exact .inl (.inl (by rw[az (bg q hl5 (by intro z;cases z))];exact q))
     ·exact .inl (.inr ⟨o,by rw[az (bg q hl5 (by intro z;cases z))];exact q⟩)
     ·exact .inr q
    ·rw[dh];exact s7 _ _ aK
    ·refine ba.grow s7 (ba.snoc (xI hl5 (htx.grow (s5.trans s6))) ?_)
     rw[az (bg hp hl5 (by intro z;cases z))];exact hp
    ·rw[bx];simp;omega
   ·have hc':n≠c:=λz=>by rw[z] at hc;simp at hc
    refine⟨st,_,_,as,ps,rfl,(s3.trans sT).trans s4,ak.kx (sT.trans s4) ha3,s4 _ _ (sT _ _ hl3),htx.grow (sT.trans s4),by omega,by omega,q2 hc'⟩
  ·rintro σ H' ⟨st,v4,v5,as,ps,rfl,s3,ha3,hl3,htx,hst,has,hsp⟩
   rw[bD] at hst has hsp
   rw[fq] at hsp
   refine g8 (l:=l) (ae 2 rfl rfl) hl3 (by rw[aC];exact f_ (m:=5000) (by omega)) (aM (eK (o1:=some (st:Nat)) (o2:=none) (ae 0 rfl ⟨a,rfl,s3 _ _ ht⟩) (show EE _ _ _ _ _ from ae 3 rfl rfl) trivial) a0) λv H5 s6 hv=>?_
   obtain⟨p,rfl,hp⟩:=hv
   rw[mL,g0] at hp
   have hl5:H5 l=some (.lst (as.map V.ref)):=s6 _ _ hl3
   refine aQ (ae 2 (d:=ax (.ref l)) rfl rfl) λv H6 s7 hv=>k v H6 ((ff hl (s3.trans s6)).trans s7) ?_
   cases hv
   refine⟨l,as++[p],rfl,?_,?_⟩
   ·rw[dh];exact s7 _ _ aK
   ·rw[hsp]
    refine ba.grow s7 (ba.snoc (xI hl5 (htx.grow s6)) ?_)
    rw[az (bg hp hl5 (by intro z;cases z))];exact hp
end
theorem fh {H:Hp}: ∀{as:List aa} {ts:List (List Nat)},ba H as ts-> ∀{i:Nat} {x:V},(as.map V.ref)[i]?=some x-> ∃a t,as[i]?=some a/\ts[i]?=some t/\x= .ref a/\H a=some (.tup (tv t))
 |_,_,.nil,i,x,h=>by simp at h
 |_,_,.cons (a:=a) (b:=t) q r,0,x,h=>by
  simp at h
  exact⟨a,t,rfl,rfl,h.symm,q⟩
 |_,_,.cons q r,i+1,x,h=>by
  obtain⟨a,t,h1,h2,h3,h4⟩:=fh r (i:=i) (x:=x) (by simpa using h)
  exact⟨a,t,by simpa using h1,by simpa using h2,h3,h4⟩
theorem cQ {H:Hp} {as:List aa} {ts:List (List Nat)} (h:ba H as ts):as.length=ts.length:=dR h
theorem split_len (c:Nat): ∀t:List Nat,(nU c t).length<=t.length+1
 | []=>by simp [nU]
 |x::r=>by
  have ih:=split_len c r
  unfold nU
  split
  ·simp;exact ih
  ·split
   ·simp
   ·rename_i h;rw[h] at ih;simp at ih ⊢;omega
section
variable {P:aI} {w:aE} {K:aA} {mg:Str->Option ac} {base:aF}
theorem DO:a6 ["text","parts","part"] ["text"] (aV wC):=⟨rfl,rfl,rfl,by decide +kernel,rfl,by decide +kernel,by decide +kernel⟩
theorem Op {f:aa} {fd:aS} (F:aX K "is_path" "is_path" wC f fd) (h1:GI mg "PATH_BYTES" 96) (h2:GI mg "SLASH" 47) (h3:GI mg "PATH_PARTS" 8) (hl:mg "len"=none) (ha:mg "all"=none)
  (N1:aq P w K mg base 2 "is_part" ["text"] (am (b_ λt=> .bl (qj t)))) (N2:aq P w K mg base 1 "parts_between" ["text","byte"] (am xJ)):aN P w K mg base aR 3 f fd ["text"] (am (b_ λt=> .bl (j8 t))):=by
 refine F.ok DO (λvs H Q E h=>?_) (λcdv A outer s H vs Q E hr h=>?_)
 ·obtain⟨d,⟨a,t,rfl,_⟩,_⟩:=h
  rfl
 ·obtain⟨d,⟨a,t,rfl,ht,rfl⟩,k⟩:=h
  have nd:=DO.nd
  refine⟨_,ap (a_ aY (au (aD ah)) bh) (ap (a5 (i:=1) nd rfl (aT rfl) ah) (au (aD ah))),?_⟩
  refine bc (iC (dm rfl hl (ae 0 rfl ⟨a,rfl,.of ht⟩)) (a4 h1)) (λhc H2 s2=>?_) (λhc H2 s2=>?_)
  ·refine aQ f8 λv H3 s3 hv=>k v H3 (s2.trans s3) ?_
   cases hv
   show V.bl _=V.bl _
   have:=of_decide_eq_true hc
   rw[bD] at this
   unfold j8
   rw[decide_eq_false (by omega)];rfl
  ·have hlen:t.length<=96:=by
    have:=of_decide_eq_false hc
    rw[bD] at this;omega
   have ht2:=s2 _ _ ht
   refine br (o8 N2 (hr.mono (by decide)) (ae 0 (d:=aw (tv t)) rfl ⟨a,rfl,ht2⟩) (a4 h2) (d:=bz (nU 47 t)) λv u H1 ⟨p,ep,hp⟩ hu=>⟨p,t,47,by rw[ep,hu];rfl,hp,by omega,rfl⟩) λv H3 s3 hv=>?_
   obtain⟨q,as,rfl,hq,htx⟩:=hv
   have hal:=cQ htx
   have hsl:=split_len 47 t
   refine aQ (mI (MA (dW rfl hl (ae 1 rfl ⟨q,rfl,.of hq⟩)) (a4 h3)) λhk=>jK (mP (bs:=(nU 47 t).map qj) rfl rfl ha (lH (j:=2) (xs:=as.map V.ref) rfl nd (ae 1 rfl ⟨q,rfl,.of hq⟩) (dI rfl) rfl rfl ?_ ?_ ?_))) λv H4 s4 hv=>k v H4 ((s2.trans s3).trans s4) ?_
   ·simp [hal]
   ·rw[aC];exact cV (m:=5000) (by omega)
   ·intro i x z hx hz s0 H0 C cl fp
    obtain⟨b,u,hb,hu,rfl,hbt⟩:=fh htx hx
    rw[bC,bC,hu] at hz
    cases hz
    exact cn N1 hr (ae 2 (d:=aw (tv u)) rfl ⟨b,rfl,hbt⟩) λv H1 ⟨p,ep,hp⟩=>⟨p,u,by rw[ep],hp,rfl⟩
   ·cases hv
    show V.bl _=V.bl _
    unfold j8
    rw[decide_eq_true hlen,uc,aC,hal,l6]
    congr 2
    exact decide_eq_decide.mpr (by show _<=(8:Int)↔_;rw[show Vabldg.SLASH=47 from rfl];omega)
theorem Oq:a6 ["text"] ["text"] (aV wD):=⟨rfl,rfl,rfl,by decide +kernel,rfl,by decide +kernel,by decide +kernel⟩
theorem len0 (t:List Nat):decide (((tv t).length:Int)=0)=t.isEmpty:=by
 rw[bD]
 cases t with
 |nil=>rfl
 |cons a r=>exact decide_eq_false (by simp only[bm];omega)
theorem Ot {f:aa} {fd:aS} (F:aX K "is_package" "is_package" wD f fd) (hl:mg "len"=none) (N1:aq P w K mg base 3 "is_path" ["text"] (am (b_ λt=> .bl (j8 t)))) :
  aN P w K mg base aR 4 f fd ["text"] (am (b_ λt=> .bl (qk t))):=by
 refine F.ok Oq (λvs H Q E h=>?_) (λcdv A outer s H vs Q E hr h=>?_)
 ·obtain⟨d,⟨a,t,rfl,_⟩,_⟩:=h
  rfl
 ·obtain⟨d,⟨a,t,rfl,ht,rfl⟩,k⟩:=h
  refine⟨_,au (aD ah),?_⟩
  refine aQ (oV (rM (dm rfl hl (ae 0 rfl ⟨a,rfl,.of ht⟩)) aZ) λ_=>jK (cn N1 hr (ae 0 (d:=aw (tv t)) rfl ⟨a,rfl,ht⟩) (d:=bo (j8 t)) λv H1 ⟨p,ep,hp⟩=>⟨p,t,by rw[ep],hp,rfl⟩)) λv H4 s4 hv=>k v H4 s4 ?_
  cases hv
  show V.bl _=V.bl _
  rw[len0];rfl
theorem DP:a6 ["text","colon"] ["text"] (aV ss):=⟨rfl,rfl,rfl,by decide +kernel,rfl,by decide +kernel,by decide +kernel⟩
theorem Ou {t:List Nat} {c:Nat} (h:c∈t): ∃j:Nat,t[j]?=some c/\ ∀m:Nat,m<j->t[m]?≠some c:=by
 refine⟨t.findIdx (· == c),?_,λm hm e=>?_⟩
 ·have hlt:t.findIdx (· == c)<t.length:=TF ⟨c,h,by simp⟩
  have q:=TH (w:=hlt) (p:=(· == c))
  rw[b8 hlt,eq_of_beq q]
 ·obtain⟨w,hv⟩:=List.getElem?_eq_some_iff.mp e
  have:=TJ hm
  simp [hv] at this
theorem Ov {f:aa} {fd:aS} (F:aX K "is_label" "is_label" ss f fd) (h1:GT K mg "ROOT" [47,47]) (h2:GI mg "COLON" 58) (hl:mg "len"=none) (N1:aq P w K mg base 3 "is_path" ["text"] (am (b_ λt=> .bl (j8 t))))
  (N2:aq P w K mg base 4 "is_package" ["text"] (am (b_ λt=> .bl (qk t)))):aN P w K mg base aR 5 f fd ["text"] (am (b_ λt=> .bl (a8 t))):=by
 refine F.ok DP (λvs H Q E h=>?_) (λcdv A outer s H vs Q E hr h=>?_)
 ·obtain⟨d,⟨a,t,rfl,_⟩,_⟩:=h
  rfl
 ·obtain⟨d,⟨a,t,rfl,ht,rfl⟩,k⟩:=h
  have nd:=DP.nd
  refine⟨_,ap (a_ aY (au (aD ah)) bh) (ap (a5 (i:=1) nd rfl (aT rfl) ah) (au (aD ah))),?_⟩
  have hx: ∀{p:Pos} {H2:Hp},ak H H2->EE (lv aR P w K mg base ["text","colon"] "is_label" (aV ss) f cdv A outer s H E).oh (.Name "text" p) (start ["text","colon"] [V.ref a]) H2 (aw (tv t)):=λs2=>ae 0 rfl ⟨a,rfl,s2 _ _ ht⟩
  have e0:b7 (tv t) none (some ((tv [47,47]).length:Nat))=tv (t.take 2):=by rw[mK,jc,bD];rfl
  refine bc (EW.et (gX (k:=!decide (t.take 2=[47,47])) (o0 hr.units (t:=t.take 2) (u:=[47,47]) (by rw[←e0];exact EE.T (eK (hx (ak.refl _)) trivial (show EE _ _ _ _ _ from dm rfl hl (dB h1)))) (dB h1)) λ_=>gW (MX (i:=58) (a4 h2) (hx (ak.refl _)).T))) (λhc H2 s2=>?_) (λhc H2 s2=>?_)
  ·refine aQ f8 λv H3 s3 hv=>k v H3 (s2.trans s3) ?_
   cases hv
   show V.bl _=V.bl _
   congr 1
   simp only[gL,cx,decide_eq_false_iff_not] at hc
   rcases hc with hc|hc
   ·exact(Dm.BZ hc).symm
   ·exact(Dm.B0 (by simpa using hc)).symm
  ·simp only[jx,cN,decide_eq_true_eq] at hc
   obtain⟨c1,c2⟩:=hc
   obtain⟨j,hj,hno⟩:=Ou (show (58:Nat)∈t by simpa using c2)
   obtain⟨j2,_,eL⟩:=Dm.rD c1 hj hno
   have ht2:=s2 _ _ ht
   refine br (Cw (i:=58) (j:=j) (ae 0 rfl ⟨a,rfl,ht2⟩) (a4 h2) hj hno) λv H3 s3 hv=>?_
   cases hv
   have ht3:=s3 _ _ ht2
   have e1:b7 (tv t) (some ((tv [47,47]).length:Nat)) (some (j:Nat))=tv ((t.drop 2).take (j-2)):=by rw[oZ,g0,jc,bD];rfl
   have e2:b7 (tv t) (some ((j:Nat)+1)) none=tv (t.drop (j+1)):=by
    rw[show ((j:Nat):Int)+1=((j+1:Nat):Int) by omega,mL,g0]
   refine aQ (mI (k:=qk ((t.drop 2).take (j-2))) (l:=j8 (t.drop (j+1))) (cn N2 hr (d0:=aw (tv ((t.drop 2).take (j-2)))) (by rw[←e1];exact eK (ae 0 rfl ⟨a,rfl,ht3⟩) (show EE _ _ _ _ _ from dm rfl hl (dB h1)) (show EE _ _ _ _ _ from ae 1 rfl rfl)) λv H1 ⟨p,ep,hp⟩=>⟨p,_,by rw[ep],hp,rfl⟩)
    λ_=>jK (cn N1 (hr.mono (by decide)) (d0:=aw (tv (t.drop (j+1)))) (by rw[←e2];exact eK (ae 0 rfl ⟨a,rfl,ht3⟩) (show EE _ _ _ _ _ from gU (ae 1 rfl rfl) aZ) trivial) λv H1 ⟨p,ep,hp⟩=>⟨p,_,by rw[ep],hp,rfl⟩)) λv H4 s4 hv=>k v H4 ((s2.trans s3).trans s4) ?_
   cases hv
   show V.bl _=V.bl _
   rw[eL]
end
section
variable {P:aI} {w:aE} {K:aA} {mg:Str->Option ac} {base:aF}
def mV:List V->Hp->Den->Prop:=λvs H d=> ∃a t,vs=[.ref a]/\H a=some (.tup (tv t))/\a8 t=true/\d=aw (tv (bf t))
theorem Ow:a6 ["label"] ["label"] (aV wE):=⟨rfl,rfl,rfl,by decide +kernel,rfl,by decide +kernel,by decide +kernel⟩
theorem Ox {f:aa} {fd:aS} (F:aX K "package_of" "package_of" wE f fd) (h1:GT K mg "ROOT" [47,47]) (h2:GI mg "COLON" 58) (hl:mg "len"=none):aN P w K mg base aR 1 f fd ["label"] (am mV):=by
 refine F.ok Ow (λvs H Q E h=>?_) (λcdv A outer s H vs Q E hr h=>?_)
 ·obtain⟨d,⟨a,t,rfl,_⟩,_⟩:=h
  rfl
 ·obtain⟨d,⟨a,t,rfl,ht,hL,rfl⟩,k⟩:=h
  obtain⟨c1,j,hj,hno⟩:=Dm.vy hL
  obtain⟨j2,ep,_⟩:=Dm.rD c1 hj hno
  have e1:b7 (tv t) (some ((tv [47,47]).length:Nat)) (some (j:Nat))=tv (bf t):=by rw[oZ,g0,jc,bD,ep];rfl
  refine⟨_,au (aD ah),?_⟩
  refine aQ (d:=aw (tv (bf t))) ?_ λv H4 s4 hv=>k v H4 s4 hv
  rw[←e1]
  exact eK (ae 0 rfl ⟨a,rfl,ht⟩) (show EE _ _ _ _ _ from dm rfl hl (dB h1)) (show EE _ _ _ _ _ from Cw (i:=58) (j:=j) (ae 0 rfl ⟨a,rfl,ht⟩) (a4 h2) hj hno)
def lM (f:List Nat->List Nat->V):List V->Hp->Den->Prop:=λvs H d=> ∃a b t u,vs=[.ref a,.ref b]/\H a=some (.tup (tv t))/\H b=some (.tup (tv u))/\t.length<=5000/\u.length<=5000/\d=ax (f t u)
theorem Oy:a6 ["inner","outer"] ["inner","outer"] (aV wF):=⟨rfl,rfl,rfl,by decide +kernel,rfl,by decide +kernel,by decide +kernel⟩
theorem xK {t u:List Nat}:decide (t=u)=(t == u):=by
 by_cases e:t=u
 ·subst e;simp
 ·rw[decide_eq_false e,beq_eq_false_iff_ne.mpr e]
theorem Oz {f:aa} {fd:aS} (F:aX K "is_within" "is_within" wF f fd) (h1:GI mg "SLASH" 47) (hl:mg "len"=none):aN P w K mg base aR 1 f fd ["inner","outer"] (am (lM λt u=> .bl (qm t u))):=by
 refine F.ok Oy (λvs H Q E h=>?_) (λcdv A outer s H vs Q E hr h=>?_)
 ·obtain⟨d,⟨a,b,t,u,rfl,_⟩,_⟩:=h
  rfl
 ·obtain⟨d,⟨a,b,t,u,rfl,ht,hu,l1,l2,rfl⟩,k⟩:=h
  refine⟨_,ap (a_ aY (au (aD ah)) bh) (au (aD ah)),?_⟩
  refine bc (EW.et (gX (rQ (dm rfl hl (ae 1 rfl ⟨b,rfl,.of hu⟩)) aZ) λ_=>gW (lG hr.gB (ae 0 rfl ⟨a,rfl,.of ht⟩) (ae 1 rfl ⟨b,rfl,.of hu⟩)))) (λhc H2 s2=>?_) (λhc H2 s2=>?_)
  ·refine aQ f8 λv H3 s3 hv=>k v H3 (s2.trans s3) ?_
   cases hv
   show V.bl _=V.bl _
   congr 1
   rw[len0,xK] at hc
   unfold qm
   rw[gL] at hc
   rcases hc with hc|hc <;> simp [hc]
  ·rw[len0,xK,jx] at hc
   have hne:u≠[]:=λe=>by rw[e] at hc;simp at hc
   have e1:b7 (tv t) none (some (((tv u).length:Nat)+1))=tv (t.take (u.length+1)):=by
    rw[bD,show ((u.length:Nat):Int)+1=((u.length+1:Nat):Int) by omega,mK,jc]
   refine aQ (rN hr.gB (t:=t.take (u.length+1)) (u:=u++[47]) ?_ ?_) λv H3 s3 hv=>k v H3 (s2.trans s3) ?_
   ·rw[←e1]
    exact EE.T (eK (ae 0 rfl ⟨a,rfl,s2 _ _ ht⟩) trivial (show EE _ _ _ _ _ from gU (dm rfl hl (ae 1 rfl ⟨b,rfl,.of (s2 _ _ hu)⟩)) aZ))
   ·rw[mJ]
    exact EE.T (Ct (xs:=tv u) (ys:=tv [47]) (λe=>hne (oX e)) (by rw[bD,bD];exact cV (m:=5001) (by simp;omega)) (ae 1 rfl ⟨b,rfl,s2 _ _ hu⟩) (CB (xs:=tv [47]) (aM (a4 h1) a0) (by decide)))
   ·cases hv
    show V.bl _=V.bl _
    congr 1
    unfold qm
    rw[hc.1,hc.2,xK];rfl
theorem DQ:a6 ["text","byte"] ["text"] (aV wG):=⟨rfl,rfl,rfl,by decide +kernel,rfl,by decide +kernel,by decide +kernel⟩
theorem OA {f:aa} {fd:aS} (F:aX K "is_group_name" "is_group_name" wG f fd) (h1:GI mg "NAME_BYTES" 32) (hl:mg "len"=none) (ha:mg "all"=none) (N:aq P w K mg base 1 "is_name_byte" ["byte"] (am sv)) :
  aN P w K mg base aR 2 f fd ["text"] (am (b_ λt=> .bl (ic t))):=by
 refine F.ok DQ (λvs H Q E h=>?_) (λcdv A outer s H vs Q E hr h=>?_)
 ·obtain⟨d,⟨a,t,rfl,_⟩,_⟩:=h
  rfl
 ·obtain⟨d,⟨a,t,rfl,ht,rfl⟩,k⟩:=h
  refine⟨_,au (aD ah),?_⟩
  refine aQ (mI (vL aZ (dm rfl hl (ae 0 rfl ⟨a,rfl,.of ht⟩)) (a4 h1)) λhk=>jK (mP (bs:=t.map j7) rfl rfl ha (vY (j:=1) (xs:=tv t) rfl DQ.nd (ae 0 rfl ⟨a,rfl,.of ht⟩) (dI rfl) rfl rfl ?_ ?_ ?_))) λv H4 s4 hv=>k v H4 s4 ?_
  ·simp [bD]
  ·rw[bY,decide_eq_true_eq,decide_eq_true_eq,bD] at hk
   rw[bD];exact cV (m:=32) (by omega)
  ·intro i x z hx hz s0 H0 C cl fp
   obtain⟨n,hn,rfl⟩:=o9 hx
   rw[bC,bC,hn] at hz
   cases hz
   exact cn N hr (ae 1 (d:=aH n) rfl rfl) λv H1 hv=>⟨n,by rw[hv],rfl⟩
  ·cases hv
   show V.bl _=V.bl _
   unfold ic
   rw[bD,l6,←Bool.and_assoc]
   congr 3
   ·exact decide_eq_decide.mpr (by omega)
   ·exact decide_eq_decide.mpr (by omega)
theorem OB:a6 ["text"] ["text"] (aV wH):=⟨rfl,rfl,rfl,by decide +kernel,rfl,by decide +kernel,by decide +kernel⟩
theorem OC {f:aa} {fd:aS} (F:aX K "is_group_spec" "is_group_spec" wH f fd) (h1:GT K mg "GROUP" Dm.c_) (hl:mg "len"=none) (N:aq P w K mg base 2 "is_group_name" ["text"] (am (b_ λt=> .bl (ic t)))) :
  aN P w K mg base aR 3 f fd ["text"] (am (b_ λt=> .bl (decide (t.take 6=Dm.c_) && ic (t.drop 6)))):=by
 refine F.ok OB (λvs H Q E h=>?_) (λcdv A outer s H vs Q E hr h=>?_)
 ·obtain⟨d,⟨a,t,rfl,_⟩,_⟩:=h
  rfl
 ·obtain⟨d,⟨a,t,rfl,ht,rfl⟩,k⟩:=h
  have e0:b7 (tv t) none (some ((tv Dm.c_).length:Nat))=tv (t.take 6):=by rw[mK,jc,bD];rfl
  have e1:b7 (tv t) (some ((tv Dm.c_).length:Nat)) none=tv (t.drop 6):=by rw[mL,g0,bD];rfl
  refine⟨_,au (aD ah),?_⟩
  refine aQ (mI (k:=decide (t.take 6=Dm.c_)) (l:=ic (t.drop 6)) (rN hr.gB (by rw[←e0];exact EE.T (eK (ae 0 rfl ⟨a,rfl,ht⟩) trivial (show EE _ _ _ _ _ from dm rfl hl (dB h1)))) (dB h1))
   λ_=>jK (cn N hr (d0:=aw (tv (t.drop 6))) (by rw[←e1];exact eK (ae 0 rfl ⟨a,rfl,ht⟩) (show EE _ _ _ _ _ from dm rfl hl (dB h1)) trivial) λv H1 ⟨p,ep,hp⟩=>⟨p,_,by rw[ep],hp,rfl⟩)) λv H4 s4 hv=>k v H4 s4 hv
theorem OD:a6 ["spec"] ["spec"] (aV wI):=⟨rfl,rfl,rfl,by decide +kernel,rfl,by decide +kernel,by decide +kernel⟩
theorem OE {f:aa} {fd:aS} (F:aX K "ends_below" "ends_below" wI f fd) (h1:GT K mg "BELOW" Dm.cB) (hl:mg "len"=none):aN P w K mg base aR 1 f fd ["spec"] (am (b_ λt=> .bl (Dm.fH t))):=by
 refine F.ok OD (λvs H Q E h=>?_) (λcdv A outer s H vs Q E hr h=>?_)
 ·obtain⟨d,⟨a,t,rfl,_⟩,_⟩:=h
  rfl
 ·obtain⟨d,⟨a,t,rfl,ht,rfl⟩,k⟩:=h
  have e0:b7 (tv t) (some (-((tv Dm.cB).length:Nat))) none=tv (t.drop (t.length-4)):=by rw[MQ _ _ (by decide),g0,bD,bD];rfl
  refine⟨_,au (aD ah),?_⟩
  exact aQ (rN hr.gB (by rw[←e0];exact EE.T (eK (ae 0 rfl ⟨a,rfl,ht⟩) (show EE _ _ _ _ _ from rL (dm rfl hl (dB h1))) trivial)) (dB h1)) λv H4 s4 hv=>k v H4 s4 hv
theorem OF:a6 ["text"] ["text"] (aV wJ):=⟨rfl,rfl,rfl,by decide +kernel,rfl,by decide +kernel,by decide +kernel⟩
theorem OG {f:aa} {fd:aS} (F:aX K "is_plain_spec" "is_plain_spec" wJ f fd) (h1:GT K mg "PUBLIC" Dm.eV) (h2:GT K mg "EVERYWHERE" Dm.iz) (h3:GT K mg "ROOT" [47,47]) (h4:GT K mg "BELOW" Dm.cB) (hl:mg "len"=none)
  (N1:aq P w K mg base 3 "is_path" ["text"] (am (b_ λt=> .bl (j8 t)))) (N2:aq P w K mg base 4 "is_package" ["text"] (am (b_ λt=> .bl (qk t)))) (N3:aq P w K mg base 1 "ends_below" ["spec"] (am (b_ λt=> .bl (Dm.fH t)))) :
  aN P w K mg base aR 5 f fd ["text"] (am (b_ λt=> .bl (Dm.f7 t))):=by
 refine F.ok OF (λvs H Q E h=>?_) (λcdv A outer s H vs Q E hr h=>?_)
 ·obtain⟨d,⟨a,t,rfl,_⟩,_⟩:=h
  rfl
 ·obtain⟨d,⟨a,t,rfl,ht,rfl⟩,k⟩:=h
  have e0:b7 (tv t) none (some ((tv [47,47]).length:Nat))=tv (t.take 2):=by rw[mK,jc,bD];rfl
  have e1:b7 (tv t) (some ((tv [47,47]).length:Nat)) (some (-((tv Dm.cB).length:Nat)))=tv (Dm.f6 t):=by
   rw[Cq _ _ _ (by decide),g0,jc,bD,bD,bD]
   show tv ((t.drop 2).take (t.length-4-2))=tv ((t.drop 2).take (t.length-6))
   congr 2
  have e2:b7 (tv t) (some ((tv [47,47]).length:Nat)) none=tv (t.drop 2):=by rw[mL,g0,bD];rfl
  refine⟨_,ap (a_ aY (au (aD ah)) bh) (ap (a_ aY (au (aD ah)) bh) (ap (a_ aY (au (aD ah)) bh) (au (aD ah)))),?_⟩
  refine bc (EW.et (gX (lG hr.gB (ae 0 rfl ⟨a,rfl,.of ht⟩) (dB h1)) λ_=>gW (lG hr.gB (ae 0 rfl ⟨a,rfl,.of ht⟩) (dB h2)))) (λhc H2 s2=>?_) (λhc H2 s2=>?_)
  ·refine aQ f8 λv H3 s3 hv=>k v H3 (s2.trans s3) ?_
   cases hv
   show V.bl _=V.bl _
   congr 1
   unfold Dm.f7
   rw[if_pos (by simpa using hc)]
  ·have hc1: ¬(t=Dm.eV∨t=Dm.iz):=by simpa using hc
   have ht2:=s2 _ _ ht
   refine bc (o0 hr.units (t:=t.take 2) (u:=[47,47]) (by rw[←e0];exact EE.T (eK (ae 0 rfl ⟨a,rfl,ht2⟩) trivial (show EE _ _ _ _ _ from dm rfl hl (dB h3)))) (dB h3)) (λhc H3 s3=>?_) (λhc H3 s3=>?_)
   ·refine aQ f8 λv H4 s4 hv=>k v H4 ((s2.trans s3).trans s4) ?_
    cases hv
    show V.bl _=V.bl _
    congr 1
    unfold Dm.f7
    rw[if_neg hc1,if_pos (by simpa using hc)]
   ·have hc2: ¬(t.take 2≠[47,47]):=by simpa using hc
    have ht3:=s3 _ _ ht2
    refine bc (cP (cn N3 (hr.mono (by decide)) (ae 0 (d:=aw (tv t)) rfl ⟨a,rfl,ht3⟩) (d:=bo (Dm.fH t)) λv H1 ⟨p,ep,hp⟩=>⟨p,t,by rw[ep],hp,rfl⟩)) (λhc H4 s4=>?_) (λhc H4 s4=>?_)
    ·refine aQ (cn N1 (hr.mono (by decide)) (d0:=aw (tv (Dm.f6 t))) (d:=bo (j8 (Dm.f6 t))) (by rw[←e1];exact eK (ae 0 rfl ⟨a,rfl,s4 _ _ ht3⟩) (show EE _ _ _ _ _ from dm rfl hl (dB h3)) (show EE _ _ _ _ _ from rL (dm rfl hl (dB h4)))) λv H1 ⟨p,ep,hp⟩=>⟨p,_,by rw[ep],hp,rfl⟩) λv H5 s5 hv=>k v H5 (((s2.trans s3).trans s4).trans s5) ?_
     cases hv
     show V.bl _=V.bl _
     congr 1
     unfold Dm.f7
     rw[if_neg hc1,if_neg hc2,if_pos hc]
    ·refine aQ (cn N2 hr (d0:=aw (tv (t.drop 2))) (d:=bo (qk (t.drop 2))) (by rw[←e2];exact eK (ae 0 rfl ⟨a,rfl,s4 _ _ ht3⟩) (show EE _ _ _ _ _ from dm rfl hl (dB h3)) trivial) λv H1 ⟨p,ep,hp⟩=>⟨p,_,by rw[ep],hp,rfl⟩) λv H5 s5 hv=>k v H5 (((s2.trans s3).trans s4).trans s5) ?_
     cases hv
     show V.bl _=V.bl _
     congr 1
     unfold Dm.f7
     rw[if_neg hc1,if_neg hc2,if_neg (by rw[hc];simp)]
theorem OH:a6 ["text"] ["text"] (aV wK):=⟨rfl,rfl,rfl,by decide +kernel,rfl,by decide +kernel,by decide +kernel⟩
theorem OI {f:aa} {fd:aS} (F:aX K "is_spec" "is_spec" wK f fd) (N1:aq P w K mg base 5 "is_plain_spec" ["text"] (am (b_ λt=> .bl (Dm.f7 t))))
  (N2:aq P w K mg base 3 "is_group_spec" ["text"] (am (b_ λt=> .bl (decide (t.take 6=Dm.c_) && ic (t.drop 6))))):aN P w K mg base aR 6 f fd ["text"] (am (b_ λt=> .bl ((gp t).isSome))):=by
 refine F.ok OH (λvs H Q E h=>?_) (λcdv A outer s H vs Q E hr h=>?_)
 ·obtain⟨d,⟨a,t,rfl,_⟩,_⟩:=h
  rfl
 ·obtain⟨d,⟨a,t,rfl,ht,rfl⟩,k⟩:=h
  refine⟨_,au (aD ah),?_⟩
  refine aQ (oV (k:=Dm.f7 t) (l:=decide (t.take 6=Dm.c_) && ic (t.drop 6)) (cn N1 hr (ae 0 (d:=aw (tv t)) rfl ⟨a,rfl,ht⟩) λv H1 ⟨p,ep,hp⟩=>⟨p,t,by rw[ep],hp,rfl⟩)
   λ_=>jK (cn N2 (hr.mono (by decide)) (ae 0 (d:=aw (tv t)) rfl ⟨a,rfl,ht⟩) λv H1 ⟨p,ep,hp⟩=>⟨p,t,by rw[ep],hp,rfl⟩)) λv H4 s4 hv=>k v H4 s4 ?_
  rw[Dm.Mq] at hv
  exact hv
end
def mW (H:Hp) (gkvs:List (List Key×V)) (look:List Nat->List (List Nat)):Prop:=
 ∀n,(bO gkvs (keyOf n)=none/\look n=[])∨ ∃l as,bO gkvs (keyOf n)=some (.ref l)/\H l=some (.lst (as.map V.ref))/\ba H as (look n)/\(look n).length<=8/\ ∀u∈look n,u.length<=5000
theorem mW.grow {H H':Hp} {gkvs:List (List Key×V)} {look:List Nat->List (List Nat)} (s:ak H H') (h:mW H gkvs look):mW H' gkvs look:=λn=>by
 rcases h n with q|⟨l,as,h1,h2,h3,h4⟩
 ·exact .inl q
 ·exact .inr ⟨l,as,h1,s _ _ h2,h3.grow s,h4⟩
section
variable {P:aI} {w:aE} {K:aA} {mg:Str->Option ac} {base:aF}
theorem OJ:a6 ["spec","package"] ["spec","package"] (aV wL):=⟨rfl,rfl,rfl,by decide +kernel,rfl,by decide +kernel,by decide +kernel⟩
theorem OK {f:aa} {fd:aS} (F:aX K "plain_spec_admits" "plain_spec_admits" wL f fd) (h1:GT K mg "PUBLIC" Dm.eV) (h2:GT K mg "EVERYWHERE" Dm.iz) (h3:GT K mg "ROOT" [47,47]) (h4:GT K mg "BELOW" Dm.cB) (hl:mg "len"=none)
  (N1:aq P w K mg base 1 "is_within" ["inner","outer"] (am (lM λt u=> .bl (qm t u)))) (N3:aq P w K mg base 1 "ends_below" ["spec"] (am (b_ λt=> .bl (Dm.fH t)))) :
  aN P w K mg base aR 2 f fd ["spec","package"] (am (lM λt p=> .bl (Dm.fI t p))):=by
 refine F.ok OJ (λvs H Q E h=>?_) (λcdv A outer s H vs Q E hr h=>?_)
 ·obtain⟨d,⟨a,b,t,u,rfl,_⟩,_⟩:=h
  rfl
 ·obtain⟨d,⟨a,b,t,u,rfl,ht,hu,l1,l2,rfl⟩,k⟩:=h
  have e1:b7 (tv t) (some ((tv [47,47]).length:Nat)) (some (-((tv Dm.cB).length:Nat)))=tv (Dm.f6 t):=by
   rw[Cq _ _ _ (by decide),g0,jc,bD,bD,bD]
   show tv ((t.drop 2).take (t.length-4-2))=tv ((t.drop 2).take (t.length-6))
   congr 2
  have e2:b7 (tv t) (some ((tv [47,47]).length:Nat)) none=tv (t.drop 2):=by rw[mL,g0,bD];rfl
  have lm:(Dm.f6 t).length<=5000:=by unfold Dm.f6;rw[dL,d5];omega
  refine⟨_,ap (a_ aY (au (aD ah)) bh) (ap (a_ aY (au (aD ah)) bh) (au (aD ah))),?_⟩
  refine bc (EW.et (gX (lG hr.gB (ae 0 rfl ⟨a,rfl,.of ht⟩) (dB h1)) λ_=>gW (lG hr.gB (ae 0 rfl ⟨a,rfl,.of ht⟩) (dB h2)))) (λhc H2 s2=>?_) (λhc H2 s2=>?_)
  ·refine aQ f8 λv H3 s3 hv=>k v H3 (s2.trans s3) ?_
   cases hv
   show V.bl _=V.bl _
   congr 1
   unfold Dm.fI
   rw[if_pos (by simpa using hc)]
  ·have hc1: ¬(t=Dm.eV∨t=Dm.iz):=by simpa using hc
   have ht2:=s2 _ _ ht
   have hu2:=s2 _ _ hu
   refine bc (cP (cn N3 hr (ae 0 (d:=aw (tv t)) rfl ⟨a,rfl,ht2⟩) (d:=bo (Dm.fH t)) λv H1 ⟨p,ep,hp⟩=>⟨p,t,by rw[ep],hp,rfl⟩)) (λhc H4 s4=>?_) (λhc H4 s4=>?_)
   ·refine aQ (o8 N1 hr (ae 1 (d:=aw (tv u)) rfl ⟨b,rfl,s4 _ _ hu2⟩) (d1:=aw (tv (Dm.f6 t))) (d:=bo (qm u (Dm.f6 t))) (by rw[←e1];exact eK (ae 0 rfl ⟨a,rfl,s4 _ _ ht2⟩) (show EE _ _ _ _ _ from dm rfl hl (dB h3)) (show EE _ _ _ _ _ from rL (dm rfl hl (dB h4))))
     λv z H1 ⟨p,ep,hp⟩ ⟨q,eq,hq⟩=>⟨p,q,u,_,by rw[ep,eq],hp,hq,l2,lm,rfl⟩) λv H5 s5 hv=>k v H5 ((s2.trans s4).trans s5) ?_
    cases hv
    show V.bl _=V.bl _
    congr 1
    unfold Dm.fI
    rw[if_neg hc1,if_pos hc]
   ·refine aQ (rN hr.gB (t:=t.drop 2) (u:=u) (by rw[←e2];exact EE.T (eK (ae 0 rfl ⟨a,rfl,s4 _ _ ht2⟩) (show EE _ _ _ _ _ from dm rfl hl (dB h3)) trivial)) (ae 1 rfl ⟨b,rfl,.of (s4 _ _ hu2)⟩)) λv H5 s5 hv=>k v H5 ((s2.trans s4).trans s5) ?_
    cases hv
    show V.bl _=V.bl _
    congr 1
    unfold Dm.fI
    rw[if_neg hc1,if_neg (by rw[hc];simp)]
def sw:List V->Hp->Den->Prop:=λvs H d=> ∃a b g t u gkvs look,vs=[.ref a,.ref b,.ref g]/\H a=some (.tup (tv t))/\H b=some (.tup (tv u))/\t.length<=5000/\u.length<=5000/\H g=some (.dT gkvs)/\mW H gkvs look/\d=bo (Dm.iA look t u)
theorem DR:a6 ["spec","package","groups","members","member"] ["spec","package","groups"] (aV wM):=⟨rfl,rfl,rfl,by decide +kernel,rfl,by decide +kernel,by decide +kernel⟩
theorem OL {f:aa} {fd:aS} (F:aX K "spec_admits" "spec_admits" wM f fd) (h1:GT K mg "GROUP" Dm.c_) (hl:mg "len"=none) (ha:mg "any"=none)
  (N1:aq P w K mg base 2 "plain_spec_admits" ["spec","package"] (am (lM λt p=> .bl (Dm.fI t p)))):aN P w K mg base aR 3 f fd ["spec","package","groups"] (am sw):=by
 refine F.ok DR (λvs H Q E h=>?_) (λcdv A outer s H vs Q E hr h=>?_)
 ·obtain⟨d,⟨a,b,g,t,u,gkvs,look,rfl,_⟩,_⟩:=h
  rfl
 ·obtain⟨d,⟨a,b,g,t,u,gkvs,look,rfl,ht,hu,l1,l2,hg,hG,rfl⟩,k⟩:=h
  have nd:=DR.nd
  have e0:b7 (tv t) none (some ((tv Dm.c_).length:Nat))=tv (t.take 6):=by rw[mK,jc,bD];rfl
  have e1:b7 (tv t) (some ((tv Dm.c_).length:Nat)) none=tv (t.drop 6):=by rw[mL,g0,bD];rfl
  refine⟨_,ap (a_ aY (au (aD ah)) bh) (ap (a5 (i:=3) nd rfl (aT rfl) ah) (au (aD ah))),?_⟩
  refine bc (o0 hr.units (t:=t.take 6) (u:=Dm.c_) (by rw[←e0];exact EE.T (eK (ae 0 rfl ⟨a,rfl,ht⟩) trivial (show EE _ _ _ _ _ from dm rfl hl (dB h1)))) (dB h1)) (λhc H2 s2=>?_) (λhc H2 s2=>?_)
  ·refine aQ (o8 N1 hr (ae 0 (d:=aw (tv t)) rfl ⟨a,rfl,s2 _ _ ht⟩) (ae 1 (d:=aw (tv u)) rfl ⟨b,rfl,s2 _ _ hu⟩) (d:=bo (Dm.fI t u)) λv z H1 ⟨p,ep,hp⟩ ⟨q,eq,hq⟩=>⟨p,q,t,u,by rw[ep,eq],hp,hq,l1,l2,rfl⟩) λv H5 s5 hv=>k v H5 (s2.trans s5) ?_
   cases hv
   show V.bl _=V.bl _
   congr 1
   unfold Dm.iA
   rw[if_pos (by simpa using hc)]
  ·have hc1: ¬(t.take 6≠Dm.c_):=by simpa using hc
   refine br (d:=bz (look (t.drop 6))) (Nt (b9 hr) (kvs:=gkvs) (t:=t.drop 6) (dx:=cC []) (ae 2 rfl rfl) (by rw[←e1];exact eK (ae 0 rfl ⟨a,rfl,s2 _ _ ht⟩) (show EE _ _ _ _ _ from dm rfl hl (dB h1)) trivial) (mQ a0 (by decide)) (s2 _ _ hg) (λz H1 s1 hz=>?_) ⟨rfl,rfl,rfl,rfl⟩) λv H3 s3 hv=>?_
   ·rcases(hG.grow s2).grow s1 (t.drop 6) with ⟨q1,q2⟩|⟨l,as,q1,q2,q3,q4⟩
    ·rw[q1,q2]
     obtain⟨p,ep,hp⟩:=hz
     exact⟨p,[],ep,hp,.nil⟩
    ·rw[q1]
     exact⟨l,as,rfl,q2,q3⟩
   ·obtain⟨q,as,rfl,hq,htx⟩:=hv
    have hal:=cQ htx
    have hlk:(look (t.drop 6)).length<=8/\ ∀x∈look (t.drop 6),x.length<=5000:=by
     rcases hG (t.drop 6) with ⟨_,q2⟩|⟨_,_,_,_,_,q4⟩
     ·rw[q2];exact⟨by simp,λx hx=>(by cases hx)⟩
     ·exact q4
    refine aQ (vZ (bs:=(look (t.drop 6)).map λm=>Dm.fI m u) rfl rfl ha (lH (j:=4) (xs:=as.map V.ref) rfl nd (ae 3 rfl ⟨q,rfl,.of hq⟩) (dI rfl) rfl rfl ?_ ?_ ?_)) λv H4 s4 hv=>k v H4 ((s2.trans s3).trans s4) ?_
    ·simp [hal]
    ·rw[aC];exact cV (m:=8) (by omega)
    ·intro i x z hx hz s0 H0 C cl fp
     obtain⟨b2,u2,hb,hu2,rfl,hbt⟩:=fh htx hx
     rw[bC,bC,hu2] at hz
     cases hz
     exact o8 N1 hr (ae 4 (d:=aw (tv u2)) rfl ⟨b2,rfl,hbt⟩) (ae 1 (d:=aw (tv u)) rfl ⟨b,rfl,s3 _ _ (s2 _ _ hu)⟩) λv z H1 ⟨p,ep,hp⟩ ⟨q,eq,hq⟩=>⟨p,q,u2,u,by rw[ep,eq],hp,hq,hlk.2 _ (dg hu2),l2,rfl⟩
    ·cases hv
     show V.bl _=V.bl _
     congr 1
     unfold Dm.iA
     rw[if_neg hc1,zE];rfl
end
theorem OM {t:List Int} {i:Nat} {x:V} (h:(rv t)[i]?=some x): ∃n,t[i]?=some n/\x= .int n:=by
 unfold rv at h
 rw[bC] at h
 cases e:t[i]? with
 |none=>rw[e] at h;cases h
 |some n=>rw[e] at h;exact⟨n,rfl,(cJ h).symm⟩
theorem ON {l:List Int} (h:l.all Dm.ja=true):rv l=tv (l.map λb=>b.toNat):=by
 unfold rv tv
 rw[eR]
 refine um λb hb=>?_
 have:=dG.mp h b hb
 unfold Dm.ja at this
 rw[bY,decide_eq_true_eq] at this
 show V.int b=V.int ((b.toNat:Nat):Int)
 rw[IE this.1]
def cq:Option (List (List Nat))->Den
 |none=>Cf
 |some ts=>bz ts
section
variable {P:aI} {w:aE} {K:aA} {mg:Str->Option ac} {base:aF}
def jQ (f:List Int->Den):List V->Hp->Den->Prop:=λvs H d=> ∃a t,vs=[.ref a]/\H a=some (.tup (rv t))/\t.length<=20000/\d=f t
theorem DS:a6 ["numbers","number"] ["numbers"] (aV ww):=⟨rfl,rfl,rfl,by decide +kernel,rfl,by decide +kernel,by decide +kernel⟩
theorem OO {f:aa} {fd:aS} (F:aX K "are_bytes" "are_bytes" ww f fd) (ha:mg "all"=none):aN P w K mg base aR 1 f fd ["numbers"] (am (jQ λl=>bo (l.all Dm.ja))):=by
 refine F.ok DS (λvs H Q E h=>?_) (λcdv A outer s H vs Q E hr h=>?_)
 ·obtain⟨d,⟨a,t,rfl,_⟩,_⟩:=h
  rfl
 ·obtain⟨d,⟨a,t,rfl,ht,hz,rfl⟩,k⟩:=h
  refine⟨_,au (aD ah),?_⟩
  refine aQ (mP (bs:=t.map Dm.ja) rfl rfl ha (vY (j:=1) (xs:=rv t) rfl DS.nd (ae 0 rfl ⟨a,rfl,.of ht⟩) (dI rfl) rfl rfl ?_ ?_ ?_)) λv H4 s4 hv=>k v H4 s4 ?_
  ·simp [gZ]
  ·rw[gZ];exact cV hz
  ·intro i x z hx hz s0 H0 C cl fp
   obtain⟨n,hn,rfl⟩:=OM hx
   rw[bC,bC,hn] at hz
   cases hz
   exact vL aZ (ae 1 rfl rfl) aZ
  ·rw[l6] at hv
   exact hv
theorem DU:a6 ["row","texts","place","length","start","text"] ["row"] (aV wx):=⟨rfl,rfl,rfl,by decide +kernel,rfl,by decide +kernel,by decide +kernel⟩
def OP (n i:Nat) (σ:St):Nat:=match σ[i]? with
 |some (some (.int p))=>n-p.toNat
 |_=>0
theorem OQ {f:aa} {fd:aS} (F:aX K "texts_of" "texts_of" wx f fd) (hl:mg "len"=none) (N:aq P w K mg base 1 "are_bytes" ["numbers"] (am (jQ λl=>bo (l.all Dm.ja)))) :
  aN P w K mg base aR 2 f fd ["row"] (am (jQ λl=>cq (aO l))):=by
 refine F.ok DU (λvs H Q E h=>?_) (λcdv A outer s H vs Q E hr h=>?_)
 ·obtain⟨d,⟨a,t,rfl,_⟩,_⟩:=h
  rfl
 ·obtain⟨d,⟨a,row,rfl,ht,hz,rfl⟩,k⟩:=h
  have nd:=DU.nd
  refine⟨_,ap (a5 (i:=1) nd rfl (aT rfl) (fF gP)) (ap (a5 (i:=2) nd rfl (aT rfl) ah)
   (ap (mr fz aY
    (ap (a5 (i:=3) nd rfl (aT rfl) ah) (ap (a5 (i:=4) nd rfl (aT rfl) ah)
    (ap (a_ aY (au (aD ah)) bh) (ap (a5 (i:=5) nd rfl (aT rfl) ah)
    (ap (a_ aY (au (aD ah)) bh)
    (ap (fe (fG fT iY iZ gQ ah cF)) (au (a5 (i:=2) nd rfl (aT rfl) ah))))))))) (au (aD ah)))),?_⟩
  refine⟨bv _,λl hl0=>?_⟩
  have s0:ak H (upd H l (.lst [])):=bF hl0
  refine br aZ λv H1 s1 hv=>?_
  cases hv
  refine Nq (λσ H'=> ∃(p:Nat) (v3 v4 v5:Option V) (as:List aa) (ts:List (List Nat)),σ=[some (.ref a),some (.ref l),some (.int (p:Nat)),v3,v4,v5]/\ak H H'/\H' l=some (.lst (as.map V.ref))/\ba H' as ts/\as.length<=p/\p<=row.length/\aO row=(aO (row.drop p)).map λr=>ts++r)
   (λσ _=>OP row.length 2 σ) ?_ ?_
  ·refine⟨0,none,none,none,[],[],rfl,s0.trans s1,s1 _ _ aK,.nil,aW _,bv _,?_⟩
   rw[p5]
   cases aO row <;> rfl
  ·rintro σ H2 ⟨p,v3,v4,v5,as,ts,rfl,s2,hl2,htx,has,hp,hT⟩
   have ht2:=s2 _ _ ht
   refine⟨_,mM (ae 2 rfl rfl) (dm (xs:=rv row) rfl hl (ae 0 rfl ⟨a,rfl,.of ht2⟩)),λH3 s3=>⟨λhc=>?_,λhc=>?_⟩⟩
   ·have hlt:p<row.length:=by have:=of_decide_eq_true hc;rw[gZ] at this;omega
    have ht3:=s3 _ _ ht2
    obtain⟨n,hn⟩: ∃n,row[p]?=some n:=⟨_,b8 hlt⟩
    have hat:fX (rv row) (p:Int)=some (.int n):=qI (by unfold rv;rw[bC,hn];rfl)
    obtain⟨t1,t2⟩:=Dm.Ms hn hT
    refine br (jd (ae 0 rfl ⟨a,rfl,.of ht3⟩) (ae 2 rfl rfl) hat) λv H4 s4 hv=>?_
    cases hv
    refine br (gU (ae 2 rfl rfl) aZ) λv H5 s5 hv=>?_
    cases hv
    have s35:=(s3.trans s4).trans s5
    have ht5:=s35 _ _ ht2
    refine bc (EW.et (gX (mM (ae 3 rfl rfl) aZ) λ_=>gW (iC (ae 3 rfl rfl) (Mz (dm (xs:=rv row) rfl hl (ae 0 rfl ⟨a,rfl,.of ht5⟩)) (ae 4 rfl rfl))))) (λhc H6 s6=>?_) (λhc H6 s6=>?_)
    ·refine aQ Cg λv H7 s7 hv=>k v H7 (((s2.trans s35).trans s6).trans s7) ?_
     have:aO row=none:=t1 λz=>by
      rw[gL,decide_eq_true_eq,decide_eq_true_eq,gZ] at hc
      omega
     show (cq (aO row)).p v H7
     rw[this];exact hv
    ·rw[jx,decide_eq_false_iff_not,decide_eq_false_iff_not,gZ] at hc
     have n0:0<=n:=by omega
     have n1:n<=((row.length-(p+1):Nat):Int):=by omega
     obtain⟨t3,t4⟩:=t2 n0 n1
     have ht6:=s6 _ _ ht5
     have e1:b7 (rv row) (some ((p:Nat)+1)) (some ((p:Nat)+1+n))=rv ((row.drop (p+1)).take n.toNat):=by
      rw[show ((p:Nat):Int)+1=((p+1:Nat):Int) by omega,show (((p+1:Nat):Int)+n)=((p+1+n.toNat:Nat):Int) by omega,oZ,Ck,Cm]
      congr 2;omega
     refine br (d:=aw (rv ((row.drop (p+1)).take n.toNat))) (by rw[←e1];exact eK (ae 0 rfl ⟨a,rfl,ht6⟩) (show EE _ _ _ _ _ from ae 4 rfl rfl) (show EE _ _ _ _ _ from gU (ae 4 rfl rfl) (ae 3 rfl rfl))) λv H7 s7 hv=>?_
     obtain⟨b,rfl,hb⟩:=hv
     have lpc:((row.drop (p+1)).take n.toNat).length<=20000:=by rw[dL,d5];omega
     refine bc (eW (cP (cn N hr (ae 5 (d:=aw (rv ((row.drop (p+1)).take n.toNat))) rfl ⟨b,rfl,hb⟩) (d:=bo (((row.drop (p+1)).take n.toNat).all Dm.ja)) λv H1 ⟨q,eq,hq⟩=>⟨q,_,by rw[eq],hq,lpc,rfl⟩))) (λhc H8 s8=>?_) (λhc H8 s8=>?_)
     ·refine aQ Cg λv H9 s9 hv=>k v H9 (((((s2.trans s35).trans s6).trans s7).trans s8).trans s9) ?_
      rw[cx] at hc
      show (cq (aO row)).p v H9
      rw[t3 hc];exact hv
     ·rw[cN] at hc
      have s28:ak H2 H8:=((s35.trans s6).trans s7).trans s8
      refine g8 (l:=l) (d:=ax (.ref b)) (ae 1 rfl rfl) (s28 _ _ hl2) (by rw[aC];exact f_ (m:=20000) (by omega)) (aM (ae 5 rfl rfl) a0) λv H9 s9 hv=>?_
      cases hv
      refine br (gU (ae 4 rfl rfl) (ae 3 rfl rfl)) λv H10 s10 hv=>?_
      cases hv
      have hl9:=s9 _ _ (s28 _ _ hl2)
      have hb9:=s9 _ _ (s8 _ _ hb)
      have ep:(p:Int)+1+n=((p+1+n.toNat:Nat):Int):=by omega
      refine⟨⟨p+1+n.toNat,_,_,_,as++[b],ts++[((row.drop (p+1)).take n.toNat).map λb=>b.toNat],by show [_,_,some (V.int ((p:Int)+1+n)),_,_,_]=_;rw[ep],(ff hl0 ((s2.trans s28).trans s9)).trans s10,?_,?_,?_,?_,t4 hc⟩,?_⟩
      ·rw[dh];exact s10 _ _ aK
      ·refine ba.grow s10 (ba.snoc (xI hl9 (htx.grow (s28.trans s9))) ?_)
       rw[az (bg hb9 hl9 (by intro z;cases z)),←ON hc];exact hb9
      ·rw[bx];simp;omega
      ·omega
      ·show row.length-((p:Int)+1+n).toNat<row.length-((p:Nat):Int).toNat
       omega
   ·have hge:p=row.length:=by have:=of_decide_eq_false hc;rw[gZ] at this;omega
    refine aQ (ae 1 (d:=ax (.ref l)) rfl rfl) λv H7 s7 hv=>k v H7 ((s2.trans s3).trans s7) ?_
    cases hv
    show (cq (aO row)).p _ H7
    rw[hT,hge,TR]
    exact⟨l,as,rfl,s7 _ _ (s3 _ _ hl2),by show ba _ _ (ts++[]);rw[fQ];exact htx.grow (s3.trans s7)⟩
def sy:List V->Hp->Den->Prop:=λvs H d=> ∃q as ts,vs=[.ref q]/\H q=some (.lst (as.map V.ref))/\ba H as ts/\(cK ts).length<=100000/\d=cC (tv (cK ts))
theorem DW:a6 ["texts","lines","text"] ["texts"] (aV wy):=⟨rfl,rfl,rfl,by decide +kernel,rfl,by decide +kernel,by decide +kernel⟩
theorem OR (ts:List (List Nat)) (i:Nat):(cK (ts.take i)).length<=(cK ts).length:=by
 conv=>rhs;rw[←zX i ts,Dm.vI,bx]
 omega
theorem OS {f:aa} {fd:aS} (F:aX K "lines_of" "lines_of" wy f fd) (h1:GI mg "LINE_END" 10):aN P w K mg base aR 1 f fd ["texts"] (am sy):=by
 refine F.ok DW (λvs H Q E h=>?_) (λcdv A outer s H vs Q E hr h=>?_)
 ·obtain⟨d,⟨q,as,ts,rfl,_⟩,_⟩:=h
  rfl
 ·obtain⟨d,⟨q,as,ts,rfl,hq,htx,hz,rfl⟩,k⟩:=h
  have nd:=DW.nd
  have hal:=cQ htx
  refine⟨_,ap (a5 (i:=1) nd rfl (aT rfl) (fF gP))
   (ap (im fz rfl (gy ah) (d9 (i:=2) nd rfl (aT rfl))
    (ap (fe (fG fT UN UO Nc ah cF)) (au (fe (fG fT iY iZ gQ ah cF)))))
   (au (aD ah))),?_⟩
  refine⟨bv _,λl hl0=>?_⟩
  have s0:ak H (upd H l (.lst [])):=bF hl0
  refine⟨_,ae 0 (d:=ax (.ref q)) rfl rfl,λv H1 s1 hv=>?_⟩
  cases hv
  refine⟨q,rfl,⟨_,.of (s1 _ _ (s0 _ _ hq))⟩,jG (K:=K) (a:=q) (xs:=as.map V.ref) (λi σ H'=> ∃v2:Option V,σ=[some (.ref q),some (.ref l),v2]/\ak H H'/\H' l=some (.lst (tv (cK (ts.take i)))))
   ⟨none,rfl,s0.trans s1,s1 _ _ aK⟩ (λi σ H' _ ⟨_,_,s2,_⟩=> .of (s2 _ _ hq)) ?_ ?_⟩
  ·rintro i x σ H' hx ⟨v2,rfl,s2,hl2⟩
   obtain⟨b,u,hb,hu,rfl,hbt⟩:=fh htx hx
   have hlt:=OR ts (i+1)
   rw[Dm.iy hu,Dm.vI,Dm.B8,bx,bx] at hlt
   simp only[bm,cZ] at hlt
   refine Nn (l:=l) (zs:=tv u) (ae 1 rfl rfl) hl2 (by rw[bD,bD];exact cV (m:=100000) (by omega)) (aM (ae 2 rfl ⟨b,rfl,s2 _ _ hbt⟩) a0) λH3 s3=>?_
   refine g8 (l:=l) (d:=aH 10) (ae 1 rfl rfl) aK (by rw[bx,bD,bD];exact f_ (m:=100000) (by omega)) (aM (a4 h1) a0) λv H4 s4 hv=>?_
   cases hv
   refine⟨_,rfl,ff hl0 ((ff hl0 (s2.trans s3)).trans s4),?_⟩
   rw[aK,Dm.iy hu,Dm.vI,Dm.B8,mJ,mJ,←j6]
   rfl
  ·rintro σ H' ⟨v2,rfl,s2,hl2⟩
   refine aQ (ae 1 (d:=ax (.ref l)) rfl rfl) λv H7 s7 hv=>k v H7 (s2.trans s7) ?_
   cases hv
   refine⟨l,rfl,?_⟩
   rw[s7 _ _ hl2,aC,hal,fq]
end
structure Cs where
 G:aa
 T:aa
def cr (H:Hp) (l:aa) (ts:List (List Nat)):Prop:= ∃as:List aa,H l=some (.lst (as.map V.ref))/\ba H as ts
theorem cr.grow {H H':Hp} {l:aa} {ts:List (List Nat)} (s:ak H H') (h:cr H l ts):cr H' l ts:=by
 obtain⟨as,h1,h2⟩:=h
 exact⟨as,s _ _ h1,h2.grow s⟩
def Kept (H H':Hp):Prop:=(∀a xs,H a=some (.lst xs)->H' a=some (.lst xs))/\ ∀a xs,H a=some (.tup xs)->H' a=some (.tup xs)
theorem Kept.trans {H H' H'':Hp} (a:Kept H H') (b:Kept H' H''):Kept H H'':=⟨λx xs h=>b.1 x xs (a.1 x xs h),λx xs h=>b.2 x xs (a.2 x xs h)⟩
theorem ak.kept {H H':Hp} (s:ak H H'):Kept H H':=⟨λa _ h=>s a _ h,λa _ h=>s a _ h⟩
theorem cr.kept {H H':Hp} {l:aa} {ts:List (List Nat)} (s:Kept H H') (h:cr H l ts):cr H' l ts:=by
 obtain⟨as,h1,h2⟩:=h
 exact⟨as,s.1 _ _ h1,Paired.b6 h2 λ_ _ q=>s.2 _ _ q⟩
def eM (C:aa) (H:Hp) (r:aa) (deps specs:List (List Nat)):Prop:= ∃(dx:aa) (fs:List (Str×V)) (dl sl:aa),H r=some (.ins C dx fs)/\fs.lookup ("dependencies":Str)=some (.ref dl)/\fs.lookup ("specs":Str)=some (.ref sl)/\cr H dl deps/\cr H sl specs
theorem eM.grow {C:aa} {H H':Hp} {r:aa} {ds us:List (List Nat)} (s:ak H H') (h:eM C H r ds us):eM C H' r ds us:=by
 obtain⟨dx,fs,dl,sl,h1,h2,h3,h4,h5⟩:=h
 exact⟨dx,fs,dl,sl,s _ _ h1,h2,h3,h4.grow s,h5.grow s⟩
theorem eM.kept {C:aa} {H H':Hp} {r:aa} {ds us:List (List Nat)} (s:Kept H H') (si: ∀dx fs,H r=some (.ins C dx fs)->H' r=some (.ins C dx fs)) (h:eM C H r ds us):eM C H' r ds us:=by
 obtain⟨dx,fs,dl,sl,h1,h2,h3,h4,h5⟩:=h
 exact⟨dx,fs,dl,sl,si _ _ h1,h2,h3,h4.kept s,h5.kept s⟩
def dO (C:aa) (H:Hp) (td:aa) (ts:List eF):Prop:= ∃(kvs:List (List Key×V)) (us:List eF),H td=some (.dT kvs)/\us.Perm ts/\cb (λ(kv:List Key×V) (t:eF)=>kv.1=keyOf t.label/\ ∃r,kv.2= .ref r/\eM C H r t.deps t.specs) kvs us
theorem dO.grow {C:aa} {H H':Hp} {td:aa} {ts:List eF} (s:ak H H') (h:dO C H td ts):dO C H' td ts:=by
 obtain⟨kvs,us,h1,h2,h3⟩:=h
 exact⟨kvs,us,s _ _ h1,h2,Paired.b6 h3 λ_ _ ⟨e,r,e2,q⟩=>⟨e,r,e2,q.grow s⟩⟩
def eN (H:Hp) (gd:aa) (gs:List fA):Prop:= ∃(kvs:List (List Key×V)) (us:List fA),H gd=some (.dT kvs)/\us.Perm gs/\cb (λ(kv:List Key×V) (g:fA)=>kv.1=keyOf g.name/\ ∃l,kv.2= .ref l/\cr H l g.specs) kvs us
theorem eN.grow {H H':Hp} {gd:aa} {gs:List fA} (s:ak H H') (h:eN H gd gs):eN H' gd gs:=by
 obtain⟨kvs,us,h1,h2,h3⟩:=h
 exact⟨kvs,us,s _ _ h1,h2,Paired.b6 h3 λ_ _ ⟨e,r,e2,q⟩=>⟨e,r,e2,q.grow s⟩⟩
structure ck (C:Cs) (H:Hp) (g:aa) (s:bR) where
 ex: ∃(dx:aa) (fs:List (Str×V)) (td gd ld:aa),H g=some (.ins C.G dx fs)/\fs.lookup ("targets":Str)=some (.ref td)/\fs.lookup ("groups":Str)=some (.ref gd)/\fs.lookup ("layers":Str)=some (.ref ld)/\fs.length<=3/\td≠gd/\dO C.T H td s.targets/\eN H gd s.groups/\cr H ld s.layers
theorem ck.grow {C:Cs} {H H':Hp} {g:aa} {s:bR} (e:ak H H') (h:ck C H g s):ck C H' g s:=by
 obtain⟨dx,fs,td,gd,ld,h1,h2,h3,h4,h5,h6,h7,h8,h9⟩:=h.ex
 exact⟨dx,fs,td,gd,ld,e _ _ h1,h2,h3,h4,h5,h6,h7.grow e,h8.grow e,h9.grow e⟩
structure bu (s:bR):Prop where
 asc:Dm.cE (Dm.aG s)
 ci:s.targets.length<=64
 dP: ∀t∈s.targets,a8 t.label=true
 deps: ∀t∈s.targets,t.deps.length<=16/\t.deps.Nodup/\ ∀d∈t.deps,a8 d=true
 specs: ∀t∈s.targets,t.specs.length<=8/\ ∀u∈t.specs,(gp u).isSome=true/\u.length<=5000
 mX:(s.groups.map λg=>g.name).Nodup
 o_:s.groups.length<=16
 kG: ∀g∈s.groups,g.specs.length<=8/\ ∀u∈g.specs,((gp u).isSome && !uo u)=true/\u.length<=5000
 lay:s.layers.length<=8/\ ∀u∈s.layers,((gp u).isSome && !uo u)=true/\u.length<=5000
theorem sC {α:Type} {F:List Key×V->α->Prop} {key:α->List Nat} (hF: ∀kv u,F kv u->kv.1=keyOf (key u)): ∀{kvs:List (List Key×V)} {us:List α},cb F kvs us-> ∀l:List Nat,
  (bO kvs (keyOf l)=none/\us.find? (λu=>key u == l)=none)∨ ∃v u k,bO kvs (keyOf l)=some v/\us.find? (λu=>key u == l)=some u/\F (k,v) u
 |_,_,.nil,l=> .inl ⟨rfl,rfl⟩
 |_,_,.cons (a:=kv) (b:=u) h t,l=>by
  by_cases e:key u=l
  ·refine .inr ⟨kv.2,u,kv.1,oI (by rw[hF _ _ h,e]),?_,h⟩
   rw[hZ,beq_iff_eq.mpr e]
  ·have e2: ¬kv.1=keyOf l:=λz=>e (kE (by rw[←hF _ _ h,z]))
   rw[oJ e2,hZ,beq_eq_false_iff_ne.mpr e]
   exact sC hF t l
theorem find_perm {α:Type} {key:α->List Nat} {us ts:List α} (p:us.Perm ts) (nd:(ts.map key).Nodup) (l:List Nat):us.find? (λu=>key u == l)=ts.find? (λu=>key u == l):=by
 have nd2:(us.map key).Nodup:=(p.map key).nodup_iff.mpr nd
 have uni: ∀{vs:List α},(vs.map key).Nodup-> ∀{u:α},u∈vs->key u=l->vs.find? (λu=>key u == l)=some u:=by
  intro vs
  induction vs with
  |nil=>intro _ u h;cases h
  |cons v vs ih=>
   intro nd u hu e
   rw[aU,fc] at nd
   rw[hZ]
   rcases be.mp hu with z|z
   ·rw[←z,beq_iff_eq.mpr e]
   ·have:key v≠l:=λq=>nd.1 (by rw[q,←e];exact bp.mpr ⟨u,z,rfl⟩)
    rw[beq_eq_false_iff_ne.mpr this]
    exact ih nd.2 z e
 cases h:ts.find? (λu=>key u == l) with
 |some t=>
  have h1:=kZ h
  have h2:=p6 h
  exact uni nd2 (p.mem_iff.mpr h1) (eq_of_beq h2)
 |none=>
  rw[ug] at h ⊢
  exact λx hx=>h x (p.mem_iff.mp hx)
theorem dO.at {C:aa} {H:Hp} {td:aa} {s:bR} (ok:Dm.cE (Dm.aG s)) (h:dO C H td s.targets): ∃kvs,H td=some (.dT kvs)/\kvs.length=s.targets.length/\(∃ls:List (List Nat),ls.Perm (Dm.aG s)/\kvs.map (·.1)=ls.map keyOf) /\
  ∀l,(bO kvs (keyOf l)=none/\bj s l=none)∨ ∃r t,bO kvs (keyOf l)=some (.ref r)/\bj s l=some t/\eM C H r t.deps t.specs:=by
 obtain⟨kvs,us,h1,h2,h3⟩:=h
 refine⟨kvs,h1,by rw[dR h3,h2.length_eq],⟨us.map λt=>t.label,h2.map _,?_⟩,λl=>?_⟩
 ·have: ∀{kvs:List (List Key×V)} {us:List eF},cb (λ(kv:List Key×V) (t:eF)=>kv.1=keyOf t.label/\ ∃r,kv.2= .ref r/\eM C H r t.deps t.specs) kvs us->kvs.map (·.1)=(us.map λt=>t.label).map keyOf:=by
   intro kvs us h
   induction h with
   |nil=>rfl
   |cons q _ ih=>rw[aU,aU,aU,ih,q.1]
  exact this h3
 ·have e:bj s l=us.find? (λu=>u.label == l):=(find_perm (key:=λt:eF=>t.label) h2 ok.nodup l).symm
  rw[e]
  rcases sC (key:=λt:eF=>t.label) (λkv u q=>q.1) h3 l with ⟨q1,q2⟩|⟨v,u,k,q1,q2,_,r,q3,q4⟩
  ·exact .inl ⟨q1,q2⟩
  ·exact .inr ⟨r,u,by rw[q1];exact congrArg some q3,q2,q4⟩
def look (s:bR) (n:List Nat):List (List Nat):=((s.groups.find? λg=>g.name == n).map λg=>g.specs).getD []
theorem eN.at {H:Hp} {gd:aa} {s:bR} (ok:bu s) (h:eN H gd s.groups): ∃kvs,H gd=some (.dT kvs)/\kvs.length=s.groups.length/\mW H kvs (look s) /\
  ∀l,(bO kvs (keyOf l)).isSome=s.groups.any λg=>g.name == l:=by
 obtain⟨kvs,us,h1,h2,h3⟩:=h
 have key: ∀l,s.groups.find? (λu=>u.name == l)=us.find? (λu=>u.name == l):=λl=>(find_perm (key:=λt:fA=>t.name) h2 ok.mX l).symm
 refine⟨kvs,h1,by rw[dR h3,h2.length_eq],λl=>?_,λl=>?_⟩
 ·unfold look
  rw[key]
  rcases sC (key:=λt:fA=>t.name) (λkv u q=>q.1) h3 l with ⟨q1,q2⟩|⟨v,u,k,q1,q2,_,r,q3,as,q4,q5⟩
  ·exact .inl ⟨q1,by rw[q2];rfl⟩
  ·have hm:u∈s.groups:=h2.mem_iff.mp (kZ q2)
   refine .inr ⟨r,as,by rw[q1];exact congrArg some q3,q4,by rw[q2];exact q5,by rw[q2];exact(ok.kG u hm).1,λx hx=>?_⟩
   have hx':x∈u.specs:=by simpa [q2] using hx
   exact((ok.kG u hm).2 x hx').2
 ·have e:(s.groups.any λg=>g.name == l)=(s.groups.find? λg=>g.name == l).isSome:=by rw[jX,TL,zU]
  rw[e,key]
  rcases sC (key:=λt:fA=>t.name) (λkv u q=>q.1) h3 l with ⟨q1,q2⟩|⟨v,u,k,q1,q2,_⟩ <;> rw[q1,q2] <;> rfl
structure KC (K:aA) (C:Cs):Prop where
 cG:ip K C.G
 cT:ip K C.T
 cW:fW K C.G "targets"
 lN:fW K C.G "groups"
 xL:fW K C.G "layers"
 kH:fW K C.T "dependencies"
 xM:fW K C.T "specs"
 ne:C.G≠C.T
theorem fi {X:Cx} {σ:St} {H:Hp} {pos:Pos} {k:Nat} {ps:List Str} {Pr:List V->Hp->Den->Prop} {x:Str} {p:Pos} {e e2 e3:ao} {d0 d1 d2 d:Den} (F:aq X.prog X.w X.K X.mg X.base k x ps (am Pr)) (hr:bJ k X.A)
  (ha:EE X e σ H d0) (hb:EE X e2 σ H d1) (hc:EE X e3 σ H d2) (h: ∀v u z H1,ak H H1->d0.p v H1->d1.p u H1->d2.p z H1->Pr [v,u,z] H1 d)
  (hg:Gl X x:=by rfl) (hdb:(x == ("__debug__":Str))=false:=by decide) (he:starEach [e,e2,e3] X.env=(false,eval e X.env)::starEach [e2,e3] X.env:=by rfl) (he2:starEach [e2,e3] X.env=(false,eval e2 X.env)::starEach [e3] X.env:=by rfl) (he3:starEach [e3] X.env=[(false,eval e3 X.env)]:=by rfl) (hpl:(backTo pos (starEach [e2,e3] X.env)).any (·.1)=false:=by rfl):EE X (.Call (.Name x p) [e,e2,e3] [] pos) σ H d:=
 jP F hr (aM ha (aM hb (aM hc a0 he3) he2) he) (λvs H1 s1 z Q q=>by
  obtain⟨v,u,y,rfl,hv,hu,hy⟩:=vN z
  exact⟨d,h v u y H1 s1 hv hu hy,q⟩) hg hdb he hpl
theorem fL {X:Cx} {σ:St} {H:Hp} {pos:Pos} {k:Nat} {ps:List Str} {Pr:List V->Hp->Den->Prop} {x:Str} {p:Pos} {e:ao} {d0 d:Den} (F:aq X.prog X.w X.K X.mg X.base k x ps (am Pr)) (hr:bJ k X.A)
  (ha:EE X e σ H d0) (h: ∀v H1,ak H H1->d0.p v H1->Pr [v] H1 d)
  (hg:Gl X x:=by rfl) (hdb:(x == ("__debug__":Str))=false:=by decide) (he:starEach [e] X.env=[(false,eval e X.env)]:=by rfl):EE X (.Call (.Name x p) [e] [] pos) σ H d:=
 jP F hr (aM ha a0 he) (λvs H1 s1 z Q q=>by
  obtain⟨v,rfl,hv⟩:=cM z
  exact⟨d,h v H1 s1 hv,q⟩) hg hdb he rfl
theorem g9 {X:Cx} {σ:St} {H:Hp} {pos:Pos} {k:Nat} {ps:List Str} {Pr:List V->Hp->Den->Prop} {x:Str} {p:Pos} {e e2:ao} {d0 d1 d:Den} (F:aq X.prog X.w X.K X.mg X.base k x ps (am Pr)) (hr:bJ k X.A)
  (ha:EE X e σ H d0) (hb:EE X e2 σ H d1) (h: ∀v u H1,ak H H1->d0.p v H1->d1.p u H1->Pr [v,u] H1 d)
  (hg:Gl X x:=by rfl) (hdb:(x == ("__debug__":Str))=false:=by decide) (he:starEach [e,e2] X.env=(false,eval e X.env)::starEach [e2] X.env:=by rfl) (he2:starEach [e2] X.env=[(false,eval e2 X.env)]:=by rfl) (hpl:(backTo pos (starEach [e2] X.env)).any (·.1)=false:=by rfl):EE X (.Call (.Name x p) [e,e2] [] pos) σ H d:=
 jP F hr (aM ha (aM hb a0 he2) he) (λvs H1 s1 z Q q=>by
  obtain⟨v,u,rfl,hv,hu⟩:=lF z
  exact⟨d,h v u H1 s1 hv hu,q⟩) hg hdb he hpl
section
variable {P:aI} {w:aE} {K:aA} {mg:Str->Option ac} {base:aF} {C:Cs}
def pc (C:Cs):List V->Hp->Den->Prop:=λvs H d=> ∃g a b s ta tb t,vs=[.ref g,.ref a,.ref b]/\ck C H g s/\bu s/\H a=some (.tup (tv ta))/\H b=some (.tup (tv tb))/\a8 ta=true/\a8 tb=true/\bj s tb=some t/\d=bo (ie s (bf ta) t)
theorem DX:a6 ["graph","a","b","package","spec"] ["graph","a","b"] (aV wN):=⟨rfl,rfl,rfl,by decide +kernel,rfl,by decide +kernel,by decide +kernel⟩
theorem OT {f:aa} {fd:aS} (F:aX K "sees" "sees" wN f fd) (kc:KC K C) (ha:mg "any"=none) (N1:aq P w K mg base 1 "package_of" ["label"] (am mV)) (N2:aq P w K mg base 3 "spec_admits" ["spec","package","groups"] (am sw)) :
  aN P w K mg base aR 4 f fd ["graph","a","b"] (am (pc C)):=by
 refine F.ok DX (λvs H Q E h=>?_) (λcdv A outer s H vs Q E hr h=>?_)
 ·obtain⟨d,⟨g,a,b,st,ta,tb,t,rfl,_⟩,_⟩:=h
  rfl
 ·obtain⟨d,⟨g,a,b,st,ta,tb,t,rfl,hG,ok,hta,htb,la,lb,hf,rfl⟩,k⟩:=h
  have nd:=DX.nd
  have hr1:bJ 1 _:=hr.mono (by decide:1<=3)
  have hpa:=Dm.oR la
  obtain⟨hm,hlab⟩:=Dm.find_some hf
  refine⟨_,ap (a5 (i:=3) nd rfl (nN rfl) ah) (ap (a_ aY (au (aD ah)) bh) (au (aD ah))),?_⟩
  refine br (cn N1 hr1 (ae 1 (d:=aw (tv ta)) rfl ⟨a,rfl,hta⟩) (d:=aw (tv (bf ta))) λv H1 ⟨p,ep,hp⟩=>⟨p,ta,by rw[ep],hp,la,rfl⟩) λv H1 s1 hv=>?_
  obtain⟨pk,rfl,hpk⟩:=hv
  refine bc (lG hr.gB (ae 3 rfl ⟨pk,rfl,.of hpk⟩) (EE.T (cn N1 hr1 (ae 2 (d:=aw (tv tb)) rfl ⟨b,rfl,s1 _ _ htb⟩) (d:=aw (tv (bf tb))) λv H1 ⟨p,ep,hp⟩=>⟨p,tb,by rw[ep],hp,lb,rfl⟩))) (λhc H2 s2=>?_) (λhc H2 s2=>?_)
  ·refine aQ f8 λv H3 s3 hv=>k v H3 ((s1.trans s2).trans s3) ?_
   cases hv
   show V.bl _=V.bl _
   congr 1
   unfold ie
   rw[hlab,beq_iff_eq.mpr (of_decide_eq_true hc)];rfl
  ·have s12:=s1.trans s2
   obtain⟨dx,fs,td,gd,ld,h1,h2,h3,h4,h5,h6,h7,h8,h9⟩:=(hG.grow s12).ex
   obtain⟨kvs,q1,_,_,q2⟩:=h7.at ok.asc
   obtain⟨gkvs,g1,_,g2,_⟩:=h8.at ok
   rcases q2 tb with ⟨_,z⟩|⟨r,t',q3,q4,dx2,fs2,dl,sl,q5,q6,q7,q8,as,q9,q10⟩
   ·rw[hf] at z;cases z
   ·rw[hf] at q4
    cases q4
    have hal:=cQ q10
    refine aQ (vZ (bs:=t.specs.map λm=>Dm.iA (look st) m (bf ta)) rfl rfl ha (lH (j:=4) (xs:=as.map V.ref) rfl nd ?_ (dI rfl) rfl rfl ?_ ?_ ?_)) λv H4 s4 hv=>k v H4 (s12.trans s4) ?_
    ·refine EE.R (xs:=as.map V.ref) (EE.imp (d:=ax (.ref sl)) ?_ λv H2 s hv=>⟨sl,hv,s _ _ q9⟩)
     exact bS (kF (b9 hr) (t:=tb) (bS (ae 0 rfl rfl) h1 kc.cG kc.cW h2) (ae 2 rfl ⟨b,rfl,s12 _ _ htb⟩) q1 q3) q5 kc.cT kc.xM q7
    ·simp [hal]
    ·rw[aC];exact cV (m:=8) (by have:=(ok.specs t hm).1;omega)
    ·intro i x z hx hz s0 H0 C0 cl fp
     obtain⟨b2,u2,hb,hu2,rfl,hbt⟩:=fh q10 hx
     rw[bC,bC,hu2] at hz
     cases hz
     exact fi N2 hr (ae 4 (d:=aw (tv u2)) rfl ⟨b2,rfl,hbt⟩) (ae 3 (d:=aw (tv (bf ta))) rfl ⟨pk,rfl,s2 _ _ hpk⟩) (bS (ae 0 rfl rfl) h1 kc.cG kc.lN h3) λv u y H1 s1' ⟨p,ep,hp⟩ ⟨q,eq,hq⟩ ey=>by
      cases ey
      exact⟨p,q,gd,u2,_,gkvs,look st,by rw[ep,eq],hp,hq,((ok.specs t hm).2 u2 (dg hu2)).2,by omega,s1' _ _ g1,g2.grow s1',rfl⟩
    ·cases hv
     show V.bl _=V.bl _
     congr 1
     unfold ie
     rw[hlab,beq_eq_false_iff_ne.mpr (of_decide_eq_false hc),tV,zE]
     have: ∀us:List (List Nat),(∀u∈us,(gp u).isSome=true)->us.any (id ∘ λm=>Dm.iA (look st) m (bf ta))=us.any λu=>Vabldg.admits st u (bf ta):=by
      intro us
      induction us with
      |nil=>intro _;rfl
      |cons u us ih=>
       intro h
       rw[gm,gm,ih λx hx=>h x (bq _ hx)]
       congr 1
       exact Dm.B6 _ (h u bB) (λn=>rfl) λg hg u hu=>((ok.kG g hg).2 u hu).1
     exact this _ λu hu=>((ok.specs t hm).2 u hu).1
end
section
variable {P:aI} {w:aE} {K:aA} {mg:Str->Option ac} {base:aF} {C:Cs}
def sD (C:Cs):List V->Hp->Den->Prop:=λvs H d=> ∃g a s p,vs=[.ref g,.ref a]/\ck C H g s/\bu s/\H a=some (.tup (tv p))/\p.length<=5000/\d=aH (j9 s p:Nat)
theorem DY:a6 ["graph","package","number","spec"] ["graph","package"] (aV wO):=⟨rfl,rfl,rfl,by decide +kernel,rfl,by decide +kernel,by decide +kernel⟩
theorem OU {f:aa} {fd:aS} (F:aX K "layer_of" "layer_of" wO f fd) (kc:KC K C) (he:mg "enumerate"=none) (h8:GI mg "NO_LAYER" 8) (N1:aq P w K mg base 2 "plain_spec_admits" ["spec","package"] (am (lM λt p=> .bl (Dm.fI t p)))) :
  aN P w K mg base aR 3 f fd ["graph","package"] (am (sD C)):=by
 refine F.ok DY (λvs H Q E h=>?_) (λcdv A outer s H vs Q E hr h=>?_)
 ·obtain⟨d,⟨g,a,st,p,rfl,_⟩,_⟩:=h
  rfl
 ·obtain⟨d,⟨g,a,st,p,rfl,hG,ok,hp,hpl,rfl⟩,k⟩:=h
  have nd:=DY.nd
  obtain⟨dx,fs,td,gd,ld,h1,h2,h3,h4,h5,h6,h7,_,as,h9,h10⟩:=hG.ex
  have hal:=cQ h10
  refine⟨_,ap (im fz rfl (L1 rfl he cF) (AA rfl (qB (d9 (i:=2) nd rfl (aT rfl)) (qB (d9 (i:=3) nd rfl (aT rfl)) Az)))
    (au (a_ aY (au (aD ah)) bh))) (au (aD ah)),?_⟩
  refine⟨_,aM (d:=ax (.ref ld)) (bS (ae 0 rfl rfl) h1 kc.cG kc.xL h4) a0,λvs H2 s2 z=>?_⟩
  obtain⟨v,rfl,rfl⟩:=cM z
  have hadm: ∀i u,st.layers[i]?=some u->Dm.fI u p=uq u p:=λi u hu=>Dm.vH p (ok.lay.2 u (dg hu)).1
  refine⟨ld,as.map V.ref,rfl,.of (s2 _ _ h9),Np (K:=K) (a:=ld) (xs:=as.map V.ref) (λi σ H'=> ∃(v2 v3:Option V),σ=[some (.ref g),some (.ref a),v2,v3]/\ak H H'/\ ∀(j:Nat) u,j<i->st.layers[j]?=some u->uq u p=false) ?_ ?_ ?_ ?_⟩
  ·exact⟨none,none,rfl,s2,λj u hj=>absurd hj (k7 _)⟩
  ·rintro i σ H' _ ⟨_,_,_,s3,_⟩
   exact .of (s3 _ _ h9)
  ·rintro i x σ H' T hx ⟨v2,v3,rfl,s3,hno⟩ hT
   obtain⟨b,u,hb,hu,rfl,hbt⟩:=fh h10 hx
   have sT:ak H' (upd H' T (.tup [.int (i:Nat),.ref b])):=bF hT
   refine⟨T,_,rfl,.of aK,rfl,_,_,rfl,_,_,rfl,rfl,?_⟩
   refine bc (cP (o8 N1 hr (ae 3 (d:=aw (tv u)) rfl ⟨b,rfl,sT _ _ (s3 _ _ hbt)⟩) (ae 1 (d:=aw (tv p)) rfl ⟨a,rfl,sT _ _ (s3 _ _ hp)⟩) (d:=bo (Dm.fI u p)) λv z H1 ⟨x,ex,hx⟩ ⟨y,ey,hy⟩=>⟨x,y,u,p,by rw[ex,ey],hx,hy,(ok.lay.2 u (dg hu)).2,hpl,rfl⟩)) (λhc H4 s4=>?_) (λhc H4 s4=>?_)
   ·refine aQ (ae 2 (d:=aH (i:Nat)) rfl rfl) λv H5 s5 hv=>k v H5 (((s3.trans sT).trans s4).trans s5) ?_
    cases hv
    show V.int _=V.int _
    congr 2
    unfold j9
    have:st.layers.findIdx? (λt=>uq t p)=some i:=by
     rw[UP]
     obtain⟨hi,e⟩:=List.getElem?_eq_some_iff.mp hu
     refine⟨hi,by rw[e,←hadm i u hu,hc],λj hj=>?_⟩
     rw[hno j _ hj (b8 (by omega))];simp
    rw[this];rfl
   ·refine⟨_,_,rfl,(s3.trans sT).trans s4,λj u' hj hu'=>?_⟩
    by_cases e:j<i
    ·exact hno j u' e hu'
    ·have:j=i:=by omega
     subst this
     rw[hu] at hu'
     cases hu'
     rw[←hadm j u hu];exact hc
  ·rintro σ H' ⟨v2,v3,rfl,s3,hno⟩
   refine aQ (a4 h8) λv H5 s5 hv=>k v H5 (s3.trans s5) ?_
   cases hv
   show V.int _=V.int _
   unfold j9
   have:st.layers.findIdx? (λt=>uq t p)=none:=by
    rw[List.findIdx?_eq_none_iff]
    intro x hx
    obtain⟨i,hi,e⟩:=List.mem_iff_getElem.mp hx
    exact hno i x (by rw[aC,hal];exact hi) (by rw[b8 hi,e])
   rw[this];rfl
def sE (C:Cs):List V->Hp->Den->Prop:=λvs H d=> ∃g a b s ta tb,vs=[.ref g,.ref a,.ref b]/\ck C H g s/\bu s/\H a=some (.tup (tv ta))/\H b=some (.tup (tv tb))/\a8 ta=true/\a8 tb=true/\d=bo (j_ s (bf ta) (bf tb))
theorem DZ {s:bR} (ok:bu s) (p:List Nat):j9 s p<=8:=by
 unfold j9
 cases h:s.layers.findIdx? (λt=>uq t p) with
 |none=>exact aW _
 |some i=>
  have:=(UP.mp h).1
  have:=ok.lay.1
  show i<=8
  omega
theorem D0:a6 ["graph","a","b","lower","upper"] ["graph","a","b"] (aV wP):=⟨rfl,rfl,rfl,by decide +kernel,rfl,by decide +kernel,by decide +kernel⟩
theorem OV {f:aa} {fd:aS} (F:aX K "goes_up" "goes_up" wP f fd) (h8:GI mg "NO_LAYER" 8) (N1:aq P w K mg base 1 "package_of" ["label"] (am mV)) (N2:aq P w K mg base 3 "layer_of" ["graph","package"] (am (sD C))) :
  aN P w K mg base aR 4 f fd ["graph","a","b"] (am (sE C)):=by
 refine F.ok D0 (λvs H Q E h=>?_) (λcdv A outer s H vs Q E hr h=>?_)
 ·obtain⟨d,⟨g,a,b,st,ta,tb,rfl,_⟩,_⟩:=h
  rfl
 ·obtain⟨d,⟨g,a,b,st,ta,tb,rfl,hG,ok,hta,htb,la,lb,rfl⟩,k⟩:=h
  have nd:=D0.nd
  have hr1:bJ 1 _:=hr.mono (by decide:1<=3)
  have hpa:=Dm.oR la
  have hpb:=Dm.oR lb
  have l1:=DZ ok (bf ta)
  have l2:=DZ ok (bf tb)
  refine⟨_,ap (a5 (i:=3) nd rfl (aT rfl) ah) (ap (a5 (i:=4) nd rfl (aT rfl) ah) (au (aD ah))),?_⟩
  refine br (g9 N2 hr (ae 0 (d:=ax (.ref g)) rfl rfl) (cn N1 hr1 (ae 1 (d:=aw (tv ta)) rfl ⟨a,rfl,hta⟩) (d:=aw (tv (bf ta))) λv H1 ⟨p,ep,hp⟩=>⟨p,ta,by rw[ep],hp,la,rfl⟩) (d:=aH (j9 st (bf ta):Nat)) λv u H1 s1 ev ⟨p,ep,hp⟩=>⟨g,p,st,_,by rw[ev,ep],hG.grow s1,ok,hp,by omega,rfl⟩) λv H1 s1 hv=>?_
  cases hv
  refine br (g9 N2 hr (ae 0 (d:=ax (.ref g)) rfl rfl) (cn N1 hr1 (ae 2 (d:=aw (tv tb)) rfl ⟨b,rfl,s1 _ _ htb⟩) (d:=aw (tv (bf tb))) λv H1 ⟨p,ep,hp⟩=>⟨p,tb,by rw[ep],hp,lb,rfl⟩) (d:=aH (j9 st (bf tb):Nat)) λv u H2 s2 ev ⟨p,ep,hp⟩=>⟨g,p,st,_,by rw[ev,ep],hG.grow (s1.trans s2),ok,hp,by omega,rfl⟩) λv H2 s2 hv=>?_
  cases hv
  refine aQ (mI (Ci (ae 3 rfl rfl) (a4 h8)) λ_=>mI (Ci (ae 4 rfl rfl) (a4 h8)) λ_=>jK (MB (ae 4 rfl rfl) (ae 3 rfl rfl))) λv H3 s3 hv=>k v H3 ((s1.trans s2).trans s3) ?_
  cases hv
  show V.bl _=V.bl _
  congr 1
  unfold j_
  rw[jX]
  simp only[bY,cx,decide_eq_false_iff_not,decide_eq_true_eq]
  omega
end
def SX (L:aa) (H H':Hp):Prop:= ∀b u,b≠L->H b=some u->H' b=some u
theorem SX.refl (L:aa) (H:Hp):SX L H H:=λ_ _ _ h=>h
theorem ak.sx {H H':Hp} (s:ak H H') (L:aa):SX L H H':=λb u _ h=>s b u h
theorem SX.trans {L:aa} {H H1 H2:Hp} (a:SX L H H1) (b:SX L H1 H2):SX L H H2:=λc u n h=>b c u n (a c u n h)
theorem SX.upd (L:aa) (H:Hp) (o:HO):SX L H (upd H L o):=λb u n h=>by rw[az n];exact h
theorem pd {X:Cx} {σ:St} {H:Hp} {pos:Pos} {k:Nat} {ps:List Str} {Pr:List V->Hp->Den->Prop} {x:Str} {p:Pos} {e e2 e3:ao} {d0 d1 d2 d:Den} (F:aq X.prog X.w X.K X.mg X.base k x ps (am Pr)) (hr:bJ k X.A)
  (ha:EE X e σ H d0) (hb:EE X e2 σ H d1) (hc:EE X e3 σ H d2) (h: ∀v u z H1,ak H H1->d0.p v H1->d1.p u H1->d2.p z H1->Pr [v,u,z] H1 (fr H1 d))
  (hg:Gl X x:=by rfl) (hdb:(x == ("__debug__":Str))=false:=by decide) (he:starEach [e,e2,e3] X.env=(false,eval e X.env)::starEach [e2,e3] X.env:=by rfl) (he2:starEach [e2,e3] X.env=(false,eval e2 X.env)::starEach [e3] X.env:=by rfl) (he3:starEach [e3] X.env=[(false,eval e3 X.env)]:=by rfl) (hpl:(backTo pos (starEach [e2,e3] X.env)).any (·.1)=false:=by rfl):EE X (.Call (.Name x p) [e,e2,e3] [] pos) σ H (fr H d):=
 jP F hr (aM ha (aM hb (aM hc a0 he3) he2) he) (λvs H1 s1 z Q q=>by
  obtain⟨v,u,y,rfl,hv,hu,hy⟩:=vN z
  exact⟨fr H1 d,h v u y H1 s1 hv hu hy,λv H2 s2 hv=>q v H2 s2 ⟨hv.1,λq e=>s1.free (hv.2 q e)⟩⟩) hg hdb he hpl
theorem sF {X:Cx} {σ:St} {H:Hp} {pos:Pos} {k:Nat} {ps:List Str} {Pr:List V->Hp->Den->Prop} {x:Str} {p:Pos} {e e2:ao} {d0 d1 d:Den} (F:aq X.prog X.w X.K X.mg X.base k x ps (am Pr)) (hr:bJ k X.A)
  (ha:EE X e σ H d0) (hb:EE X e2 σ H d1) (h: ∀v u H1,ak H H1->d0.p v H1->d1.p u H1->Pr [v,u] H1 (fr H1 d))
  (hg:Gl X x:=by rfl) (hdb:(x == ("__debug__":Str))=false:=by decide) (he:starEach [e,e2] X.env=(false,eval e X.env)::starEach [e2] X.env:=by rfl) (he2:starEach [e2] X.env=[(false,eval e2 X.env)]:=by rfl) (hpl:(backTo pos (starEach [e2] X.env)).any (·.1)=false:=by rfl):EE X (.Call (.Name x p) [e,e2] [] pos) σ H (fr H d):=
 jP F hr (aM ha (aM hb a0 he2) he) (λvs H1 s1 z Q q=>by
  obtain⟨v,u,rfl,hv,hu⟩:=lF z
  exact⟨fr H1 d,h v u H1 s1 hv hu,λv H2 s2 hv=>q v H2 s2 ⟨hv.1,λq e=>s1.free (hv.2 q e)⟩⟩) hg hdb he hpl
theorem pf {X:Cx} {σ:St} {H:Hp} {pos:Pos} {k:Nat} {ps:List Str} {Pr:List V->Hp->Den->Prop} {x:Str} {p:Pos} {e:ao} {d0 d:Den} (F:aq X.prog X.w X.K X.mg X.base k x ps (am Pr)) (hr:bJ k X.A)
  (ha:EE X e σ H d0) (h: ∀v H1,ak H H1->d0.p v H1->Pr [v] H1 (fr H1 d))
  (hg:Gl X x:=by rfl) (hdb:(x == ("__debug__":Str))=false:=by decide) (he:starEach [e] X.env=[(false,eval e X.env)]:=by rfl):EE X (.Call (.Name x p) [e] [] pos) σ H (fr H d):=
 jP F hr (aM ha a0 he) (λvs H1 s1 z Q q=>by
  obtain⟨v,rfl,hv⟩:=cM z
  exact⟨fr H1 d,h v H1 s1 hv,λv H2 s2 hv=>q v H2 s2 ⟨hv.1,λq e=>s1.free (hv.2 q e)⟩⟩) hg hdb he rfl
def kinds (s:bR) (a b:List Nat):List Nat:=
 (match bj s b with
  |none=>[1]
  |some t=>if ie s (bf a) t=false then [2] else [])++(if j_ s (bf a) (bf b)=true then [3] else [])
theorem sG (s:bR) (a b:List Nat):k9 s a b=(kinds s a b).map λk=>{kind:=k,source:=a,goal:=b}:=by
 unfold k9 kinds
 rw[dh]
 congr 1
 ·cases bj s b with
  |none=>rfl
  |some t=>dsimp only;split <;> rfl
 ·split <;> rfl
theorem xN (s:bR) (a b:List Nat):(kinds s a b).length<=2:=by
 unfold kinds
 rw[bx]
 have h1:(match bj s b with
  |none=>[1]
  |some t=>if ie s (bf a) t=false then [2] else []).length<=1:=by
  cases bj s b with
  |none=>exact aW _
  |some t=>dsimp only;split <;> simp
 have h2:(if j_ s (bf a) (bf b)=true then [3] else ([]:List Nat)).length<=1:=by split <;> simp
 omega
def lO (H:Hp) (v:V) (b:k_):Prop:= ∃r x y,v= .ref r/\H r=some (.tup [.ref x,.ref y,.int (b.kind:Nat)])/\H x=some (.tup (tv b.source))/\H y=some (.tup (tv b.goal))
theorem lO.grow {H H':Hp} (s:ak H H') {v:V} {b:k_} (h:lO H v b):lO H' v b:=by
 obtain⟨r,x,y,e,h1,h2,h3⟩:=h
 exact⟨r,x,y,e,s _ _ h1,s _ _ h2,s _ _ h3⟩
abbrev fj (H:Hp):List V->List k_->Prop:=cb (lO H)
theorem fj.grow {H H':Hp} (s:ak H H') {vs:List V} {bs:List k_} (h:fj H vs bs):fj H' vs bs:=Paired.b6 h λ_ _ q=>q.grow s
theorem fj.upd {H:Hp} {l:aa} {xs ys:List V} (hl:H l=some (.lst xs)) {vs:List V} {bs:List k_} (h:fj H vs bs):fj (upd H l (.lst ys)) vs bs:=Paired.b6 h λ_ _ ⟨r,x,y,e,h1,h2,h3⟩=>
 ⟨r,x,y,e,by rw[az (bg h1 hl (by intro z;cases z))];exact h1,by rw[az (bg h2 hl (by intro z;cases z))];exact h2,by rw[az (bg h3 hl (by intro z;cases z))];exact h3⟩
theorem sH {α β:Type} {F:α->β->Prop} {l:List α} {m:List β} {a:α} {b:β} (h:cb F l m) (hb:F a b):cb F (l++[a]) (m++[b]):=by
 induction h with
 |nil=>exact .cons hb .nil
 |cons h _ ih=>exact .cons h ih
def xO (bs:List k_):Den:=⟨λv H=> ∃(q:aa) (vs:List V),v= .ref q/\H q=some (.lst vs)/\fj H vs bs,λv H H' s ⟨q,vs,e,h,z⟩=>⟨q,vs,e,s _ _ h,fj.grow s z⟩⟩
section
variable {P:aI} {w:aE} {K:aA} {mg:Str->Option ac} {base:aF} {C:Cs}
def xP (C:Cs):List V->Hp->Den->Prop:=λvs H d=> ∃g a b s ta tb,vs=[.ref g,.ref a,.ref b]/\ck C H g s/\bu s/\H a=some (.tup (tv ta))/\H b=some (.tup (tv tb))/\a8 ta=true/\a8 tb=true/\d=fr H (cC (tv (kinds s ta tb)))
theorem D_:a6 ["graph","a","b","numbers"] ["graph","a","b"] (aV wQ):=⟨rfl,rfl,rfl,by decide +kernel,rfl,by decide +kernel,by decide +kernel⟩
set_option hygiene false in
local macro_rules| `(tactic|get_elem_tactic_extensible)=> `(tactic|(
 refine bc (cP (fi N2 hr (ae 0 (d:=ax (.ref g)) rfl rfl) (ae 1 (d:=aw (tv ta)) rfl ⟨a,rfl,sA _ _ hta⟩) (ae 2 (d:=aw (tv tb)) rfl ⟨b,rfl,sA _ _ htb⟩) (d:=bo (j_ st (bf ta) (bf tb))) λv u y H1 s1 ev ⟨p,ep,hp⟩ ⟨q,eq,hq⟩=>⟨g,p,q,st,ta,tb,by rw[ev,ep,eq],(hG.grow sA).grow s1,ok,hp,hq,la,lb,rfl⟩)) (λhcU HU sU=>?_) (λhcU HU sU=>?_)
 ·refine g8 (l:=l) (d:=aH 3) (ae 3 rfl rfl) (sU _ _ hlA) (by decide) (aM (a4 m3) a0) λv HV sV hv=>?_
  cases hv
  refine aQ (ae 3 (d:=ax (.ref l)) rfl rfl) λv HW sW hv=>k v HW ((ff hl0 ((sA.trans sU).trans sV)).trans sW) ?_
  cases hv
  refine⟨⟨l,rfl,?_⟩,λq e=>by cases e;exact hl0⟩
  rw[sW _ _ aK,hK,hcU]
  rfl
 ·refine aQ (ae 3 (d:=ax (.ref l)) rfl rfl) λv HW sW hv=>k v HW ((sA.trans sU).trans sW) ?_
  cases hv
  refine⟨⟨l,rfl,?_⟩,λq e=>by cases e;exact hl0⟩
  rw[sW _ _ (sU _ _ hlA),hK,hcU]
  rfl))
theorem OW {f:aa} {fd:aS} (F:aX K "breach_numbers" "breach_numbers" wQ f fd) (kc:KC K C) (m1:GI mg "MISSING_breaches" 1) (m2:GI mg "HIDDEN" 2) (m3:GI mg "LAYER" 3)
  (N1:aq P w K mg base 4 "sees" ["graph","a","b"] (am (pc C))) (N2:aq P w K mg base 4 "goes_up" ["graph","a","b"] (am (sE C))):aN P w K mg base aR 5 f fd ["graph","a","b"] (am (xP C)):=by
 refine F.ok D_ (λvs H Q E h=>?_) (λcdv A outer s H vs Q E hr h=>?_)
 ·obtain⟨d,⟨g,a,b,st,ta,tb,rfl,_⟩,_⟩:=h
  rfl
 ·obtain⟨d,⟨g,a,b,st,ta,tb,rfl,hG,ok,hta,htb,la,lb,rfl⟩,k⟩:=h
  have nd:=D_.nd
  refine⟨_,ap (a5 (i:=3) nd rfl (aT rfl) (fF gP))
   (ap (a_ aY (au (fe (fG fT iY iZ gQ ah cF))) (au (a_ aY (au (fe (fG fT iY iZ gQ ah cF))) bh)))
   (ap (a_ aY (au (fe (fG fT iY iZ gQ ah cF))) bh) (au (aD ah)))),?_⟩
  refine⟨bv _,λl hl0=>?_⟩
  have s0:ak H (upd H l (.lst [])):=bF hl0
  have hG0:=hG.grow s0
  obtain⟨dx,fs,td,gd,ld,h1,h2,h3,h4,h5,h6,h7,h8,h9⟩:=hG0.ex
  obtain⟨kvs,q1,_,_,q2⟩:=h7.at ok.asc
  have hdin:(!(bO kvs (keyOf tb)).isSome)=(bj st tb).isNone:=by
   rcases q2 tb with ⟨e1,e2⟩|⟨r,t',e1,e2,_⟩ <;> rw[e1,e2] <;> rfl
  refine bc (jM (b9 hr) (ae 2 rfl ⟨b,rfl,s0 _ _ htb⟩) (bS (ae 0 rfl rfl) h1 kc.cG kc.cW h2) q1) (λhc H2 s2=>?_) (λhc H2 s2=>?_)
  ·rw[hdin] at hc
   have hf:bj st tb=none:=by simpa using hc
   refine g8 (l:=l) (d:=aH 1) (ae 3 rfl rfl) (s2 _ _ aK) (by decide) (aM (a4 m1) a0) λv H3 s3 hv=>?_
   cases hv
   have sA:ak H (upd H3 l (.lst (tv [1]))):=ff hl0 ((s0.trans s2).trans s3)
   have hlA:(upd H3 l (.lst (tv [1]))) l=some (.lst (tv [1])):=aK
   have hK:kinds st ta tb=[1]++(if j_ st (bf ta) (bf tb)=true then [3] else []):=by unfold kinds;rw[hf]
   get_elem_tactic_extensible
  ·rw[hdin] at hc
   obtain⟨t,hf⟩: ∃t,bj st tb=some t:=Option.isSome_iff_exists.mp (by cases h:bj st tb with|none=>rw[h] at hc;cases hc|some _=>rfl)
   refine bc (eW (cP (fi N1 hr (ae 0 (d:=ax (.ref g)) rfl rfl) (ae 1 (d:=aw (tv ta)) rfl ⟨a,rfl,s2 _ _ (s0 _ _ hta)⟩) (ae 2 (d:=aw (tv tb)) rfl ⟨b,rfl,s2 _ _ (s0 _ _ htb)⟩) (d:=bo (ie st (bf ta) t)) λv u y H1 s1 ev ⟨p,ep,hp⟩ ⟨q,eq,hq⟩=>⟨g,p,q,st,ta,tb,t,by rw[ev,ep,eq],(hG0.grow s2).grow s1,ok,hp,hq,la,lb,hf,rfl⟩))) (λhc2 H3 s3=>?_) (λhc2 H3 s3=>?_)
   ·rw[cx] at hc2
    refine g8 (l:=l) (d:=aH 2) (ae 3 rfl rfl) (s3 _ _ (s2 _ _ aK)) (by decide) (aM (a4 m2) a0) λv H4 s4 hv=>?_
    cases hv
    have sA:ak H (upd H4 l (.lst (tv [2]))):=ff hl0 (((s0.trans s2).trans s3).trans s4)
    have hlA:(upd H4 l (.lst (tv [2]))) l=some (.lst (tv [2])):=aK
    have hK:kinds st ta tb=[2]++(if j_ st (bf ta) (bf tb)=true then [3] else []):=by unfold kinds;rw[hf];simp only[hc2,if_true]
    get_elem_tactic_extensible
   ·rw[cN] at hc2
    have sA:ak H H3:=(s0.trans s2).trans s3
    have hlA:H3 l=some (.lst (tv [])):=s3 _ _ (s2 _ _ aK)
    have hK:kinds st ta tb=[]++(if j_ st (bf ta) (bf tb)=true then [3] else []):=by unfold kinds;rw[hf];simp only[hc2,Bool.true_eq_false,if_false]
    get_elem_tactic_extensible
end
theorem Ea {α β:Type} {l:List α} {i:Nat} {x:α} (f:α->List β) (h:l[i]?=some x):(l.take (i+1)).flatMap f=(l.take i).flatMap f++f x:=by
 rw[pZ,h,TK]
 simp
theorem mY {α β:Type} (f:α->List β) (m:Nat): ∀l:List α,(∀x∈l,(f x).length<=m)->(l.flatMap f).length<=l.length*m
 | [],_=>by simp
 |x::l,h=>by
  rw[Ic,bx,bm]
  have h1:=h x bB
  have h2:=mY f m l λy hy=>h y (bq _ hy)
  rw[UQ];omega
section
variable {P:aI} {w:aE} {K:aA} {mg:Str->Option ac} {base:aF} {C:Cs}
abbrev kJ (s:bR) (t:eF):List k_:=(cf t.deps).flatMap (k9 s t.label)
theorem Eb {s:bR} (ok:bu s) {t:eF} (ht:t∈s.targets):(kJ s t).length<=32:=by
 have h1:=mY (k9 s t.label) 2 (cf t.deps) λd _=>by rw[sG,aC];exact xN _ _ _
 have h2:=Dm.mF t.deps
 have h3:=(ok.deps t ht).1
 have h4:(cf t.deps).length*2<=16*2:=fB _ (by omega)
 exact bM h1 h4
theorem OX {s:bR} (ok:bu s):(d6 s).length<=2048:=by
 have h1:=mY (kJ s) 32 s.targets λt ht=>Eb ok ht
 have h2:s.targets.length*32<=64*32:=fB _ ok.ci
 exact bM h1 h2
def sI (C:Cs):List V->Hp->Den->Prop:=λvs H d=> ∃g s,vs=[.ref g]/\ck C H g s/\bu s/\d=fr H (xO (d6 s))
theorem Ec:a6 ["graph","found","a","b","number"] ["graph"] (aV wR):=⟨rfl,rfl,rfl,by decide +kernel,rfl,by decide +kernel,by decide +kernel⟩
theorem OY {f:aa} {fd:aS} (F:aX K "all_breaches" "all_breaches" wR f fd) (kc:KC K C) (hs:mg "sorted"=none)
  (N:aq P w K mg base 5 "breach_numbers" ["graph","a","b"] (am (xP C))):aN P w K mg base aR 6 f fd ["graph"] (am (sI C)):=by
 refine F.ok Ec (λvs H Q E h=>?_) (λcdv A outer s H vs Q E hr h=>?_)
 ·obtain⟨d,⟨g,st,rfl,_⟩,_⟩:=h
  rfl
 ·obtain⟨d,⟨g,st,rfl,hG,ok,rfl⟩,k⟩:=h
  have nd:=Ec.nd
  refine⟨_,ap (a5 (i:=1) nd rfl (aT rfl) (fF gP))
   (ap (im fz rfl (gy ah) (d9 (i:=2) nd rfl (aT rfl))
    (au (im fz rfl (gy ah) (d9 (i:=3) nd rfl (aT rfl))
     (au (im fz rfl (gy ah) (d9 (i:=4) nd rfl (aT rfl))
      (au (fe (fG fT iY iZ gQ ah cF)))))))) (au (aD ah))),?_⟩
  refine⟨bv _,λl hl0=>?_⟩
  have s0:ak H (upd H l (.lst [])):=bF hl0
  obtain⟨dx,fs,td,gd,ld,h1,h2,h3,h4,h5,h6,h7,h8,h9⟩:=(hG.grow s0).ex
  obtain⟨kvs,q1,_,⟨ls,p1,p2⟩,q2⟩:=h7.at ok.asc
  have eo:cf ls=Dm.aG st:=Dm.mE ok.asc λx=>p1.mem_iff.symm
  have hbl:=OX ok
  refine⟨_,rZ (ts:=ls) rfl rfl hs (λt ht=>?_) (p1.nodup_iff.mpr ok.asc.nodup) q1 p2 (bS (ae 0 rfl rfl) h1 kc.cG kc.cW h2),λv H1 s1 hv=>?_⟩
  ·obtain⟨u,hu,e⟩:=bp.mp (p1.mem_iff.mp ht)
   rw[←e];exact Dm.lC (ok.dP u hu)
  rw[eo] at hv
  obtain⟨⟨qa,as,rfl,ha,hat⟩,hfr⟩:=hv
  have na:qa≠l:=λe=>by have:=hfr _ rfl;rw[e,aK] at this;cases this
  refine⟨qa,rfl,⟨_,.of ha⟩,jG (K:=K) (a:=qa) (xs:=as.map V.ref) (λi σ H'=> ∃(v2 v3 v4:Option V) (vs:List V),σ=[some (.ref g),some (.ref l),v2,v3,v4]/\ak H H'/\SX l H1 H'/\H' l=some (.lst vs)/\fj H' vs ((st.targets.take i).flatMap (kJ st)))
   ⟨none,none,none,[],rfl,s0.trans s1,SX.refl _ _,s1 _ _ aK,.nil⟩ (λi σ H' _ ⟨_,_,_,_,_,_,s2,_⟩=> .of (s2 _ _ na ha)) ?_ ?_⟩
  ·rintro i x σ H' hx ⟨v2,v3,v4,vs,rfl,s2,x2,hl2,hb⟩
   obtain⟨a,ta,ea,eta,rfl,hta⟩:=fh hat hx
   have hta':H' a=some (.tup (tv ta)):=by
    refine x2 _ _ (λe=>?_) hta
    have:=s1 l _ aK
    rw[e,this] at hta;cases hta
   obtain⟨t,et,elt⟩: ∃t,st.targets[i]?=some t/\t.label=ta:=by
    rw[bC] at eta
    cases h:st.targets[i]? with
    |none=>rw[h] at eta;cases eta
    |some t=>rw[h] at eta;exact⟨t,rfl,cJ eta⟩
   have htm:=dg et
   have hla:a8 ta=true:=by rw[←elt];exact ok.dP t htm
   have hft:bj st ta=some t:=by rw[←elt];exact Dm.vJ ok.asc htm
   obtain⟨dx',fs',td',gd',ld',h1',h2',h3',h4',h5',h6',h7',h8',h9'⟩:=(hG.grow s2).ex
   obtain⟨kvs',q1',_,_,q2'⟩:=h7'.at ok.asc
   rcases q2' ta with ⟨_,z⟩|⟨r,t',q3,q4,dx2,fs2,dl,sl,q5,q6,q7,⟨das,q8,q9⟩,_⟩
   ·rw[hft] at z;cases z
   rw[hft] at q4
   cases q4
   obtain⟨d1,d2,d3⟩:=ok.deps t htm
   refine⟨_,CP (ts:=t.deps) rfl hs (λx hx=>Dm.lC (d3 x hx)) d2 (EE.imp (d:=ax (.ref dl)) (bS (kF (b9 hr) (t:=ta) (bS (ae 0 rfl rfl) h1' kc.cG kc.cW h2') (ae 2 rfl ⟨a,rfl,hta'⟩) q1' q3) q5 kc.cT kc.kH q6) λv H2 s hv=>⟨dl,das,hv,s _ _ q8,q9.grow s⟩),λv H3 s3 hv=>?_⟩
   obtain⟨⟨qb,bs,rfl,hb3,hbt⟩,hfr2⟩:=hv
   have nb:qb≠l:=λe=>by have:=hfr2 _ rfl;rw[e,hl2] at this;cases this
   refine⟨qb,rfl,⟨_,.of hb3⟩,jG (K:=K) (a:=qb) (xs:=bs.map V.ref) (λj σ H'=> ∃(v3 v4:Option V) (vs:List V),σ=[some (.ref g),some (.ref l),some (.ref a),v3,v4]/\ak H H'/\SX l H1 H'/\SX l H3 H'/\H' l=some (.lst vs)/\fj H' vs ((st.targets.take i).flatMap (kJ st)++((cf t.deps).take j).flatMap (k9 st ta)))
    ⟨_,_,vs,rfl,s2.trans s3,x2.trans (s3.sx l),SX.refl _ _,s3 _ _ hl2,by rw[iV,List.flatMap_nil,fQ];exact fj.grow s3 hb⟩ (λj σ H' _ ⟨_,_,_,_,_,_,s4,_⟩=> .of (s4 _ _ nb hb3)) ?_ ?_⟩
   ·rintro j x σ H4 hx ⟨v3,v4,vs4,rfl,s4,x4,y4,hl4,hb4⟩
    obtain⟨b,tb,eb,etb,rfl,htb⟩:=fh hbt hx
    have hta4:H4 a=some (.tup (tv ta)):=x4 _ _ (bg hta (s1 _ _ aK) (by intro z;cases z)) hta
    have htb4:H4 b=some (.tup (tv tb)):=y4 _ _ (bg htb (s3 _ _ hl2) (by intro z;cases z)) htb
    have hlb:a8 tb=true:=d3 tb (Dm.dJ.mp (dg etb))
    refine⟨_,pd N hr (ae 0 (d:=ax (.ref g)) rfl rfl) (ae 2 (d:=aw (tv ta)) rfl ⟨a,rfl,hta4⟩) (ae 3 (d:=aw (tv tb)) rfl ⟨b,rfl,htb4⟩) (d:=cC (tv (kinds st ta tb))) λv u y H5 s5 ev ⟨p,ep,hp⟩ ⟨q,eq,hq⟩=>⟨g,p,q,st,ta,tb,by rw[ev,ep,eq],(hG.grow s4).grow s5,ok,hp,hq,hla,hlb,rfl⟩,λv H5 s5 hv=>?_⟩
    obtain⟨⟨qc,rfl,hc5⟩,hfr3⟩:=hv
    have nc:qc≠l:=λe=>by have:=hfr3 _ rfl;rw[e,hl4] at this;cases this
    have hpre:((st.targets.take i).flatMap (kJ st)++((cf t.deps).take j).flatMap (k9 st ta)).length+2<=4096:=by
     have e1:((st.targets.take i).flatMap (kJ st)).length<=64*32:=by
      refine bM (mY (kJ st) 32 (st.targets.take i) λt ht=>Eb ok (mh ht)) (fB _ ?_)
      rw[dL];have:=ok.ci;omega
     have e2:(((cf t.deps).take j).flatMap (k9 st ta)).length<=16*2:=by
      refine bM (mY (k9 st ta) 2 _ λd _=>by rw[sG,aC];exact xN _ _ _) (fB _ ?_)
      rw[dL];have:=Dm.mF t.deps;omega
     rw[bx];omega
    refine⟨qc,rfl,⟨_,.of hc5⟩,jG (K:=K) (a:=qc) (xs:=tv (kinds st ta tb)) (λm σ H'=> ∃(v4:Option V) (vs:List V),σ=[some (.ref g),some (.ref l),some (.ref a),some (.ref b),v4]/\ak H H'/\SX l H4 H'/\SX l H5 H'/\H' l=some (.lst vs)/\fj H' vs (((st.targets.take i).flatMap (kJ st)++((cf t.deps).take j).flatMap (k9 st ta))++((kinds st ta tb).take m).map λk=>{kind:=k,source:=ta,goal:=tb}))
     ⟨_,vs4,rfl,s4.trans s5,s5.sx l,SX.refl _ _,s5 _ _ hl4,by rw[iV,iU,fQ];exact fj.grow s5 hb4⟩ (λm σ H' _ ⟨_,_,_,_,_,s6,_⟩=> .of (s6 _ _ nc hc5)) ?_ ?_⟩
    ·rintro m x σ H6 hx ⟨v4,vs6,rfl,s6,x6,y6,hl6,hb6⟩
     obtain⟨n,hn,rfl⟩:=o9 hx
     have hta6:H6 a=some (.tup (tv ta)):=x6 _ _ (bg hta4 hl4 (by intro z;cases z)) hta4
     have htb6:H6 b=some (.tup (tv tb)):=x6 _ _ (bg htb4 hl4 (by intro z;cases z)) htb4
     have hlen:vs6.length<sizeLine:=by
      rw[dR hb6,bx,aC,dL]
      have:=xN st ta tb
      exact f_ (m:=5000) (by omega)
     refine g8 (l:=l) (d:=aw [.ref a,.ref b,.int (n:Nat)]) (ae 1 rfl rfl) hl6 hlen (aM (CB (xs:=[.ref a,.ref b,.int (n:Nat)]) (aM (ae 2 rfl rfl) (aM (ae 3 rfl rfl) (aM (ae 4 rfl rfl) a0))) (by show 3<=sizeLine;decide)) a0) λv H7 s7 hv=>?_
     obtain⟨r7,rfl,hr7⟩:=hv
     have hl7:=s7 _ _ hl6
     refine⟨_,vs6++[.ref r7],rfl,ff hl0 (s6.trans s7),(x6.trans (s7.sx l)).trans (SX.upd l _ _),(y6.trans (s7.sx l)).trans (SX.upd l _ _),aK,?_⟩
     rw[Dm.iy hn,dh,←j6]
     refine sH (fj.upd hl7 (fj.grow s7 hb6)) ⟨r7,a,b,rfl,?_,?_,?_⟩
     ·rw[az (bg hr7 hl7 (by intro z;cases z))];exact hr7
     ·rw[az (bg (s7 _ _ hta6) hl7 (by intro z;cases z))];exact s7 _ _ hta6
     ·rw[az (bg (s7 _ _ htb6) hl7 (by intro z;cases z))];exact s7 _ _ htb6
    ·rintro σ H6 ⟨v4,vs6,rfl,s6,x6,y6,hl6,hb6⟩
     rw[bD,fq,←sG] at hb6
     refine⟨_,_,vs6,rfl,s6,x4.trans x6,y4.trans x6,hl6,?_⟩
     rw[Ea _ etb,←j6]
     exact hb6
   ·rintro σ H4 ⟨v3,v4,vs4,rfl,s4,x4,y4,hl4,hb4⟩
    refine⟨_,_,_,vs4,rfl,s4,x4,hl4,?_⟩
    rw[aC,cQ hbt,fq,←elt] at hb4
    rw[Ea _ et]
    exact hb4
  ·rintro σ H' ⟨v2,v3,v4,vs,rfl,s2,x2,hl2,hb⟩
   refine aQ (ae 1 (d:=ax (.ref l)) rfl rfl) λv HW sW hv=>k v HW (s2.trans sW) ?_
   cases hv
   have e:(as.map V.ref).length=st.targets.length:=by rw[aC,cQ hat,aC]
   rw[e,fq] at hb
   exact⟨⟨l,vs,rfl,sW _ _ hl2,fj.grow sW hb⟩,λq e=>by cases e;exact hl0⟩
end
section
variable {X:Cx} {k v:ao} {pos:Pos} {σ:St} {H:Hp}
def OZ (tk tv':TE):TE:=λσ H Q=> ∀p,H p=none->tk σ (upd H p (.dT [])) λx H1=>tv' σ H1 λy H2=> ∃b t,x= .ref b/\H2 b=some (.tup (tv t))/\H2 p=some (.dT [])/\Q (.ref p) (upd H2 p (.dT [(keyOf t,y)]))
theorem O0 {tk tv':TE} (hu:X.A.units<cLine) (hk:PE X k tk) (hv:PE X v tv'):PE X (.Dict [some k] [v] pos) (OZ tk tv'):=by
 intro pins s σ H Q I q
 have hn:=I.aB.fresh (aW s.heap.objs.size)
 have I1:=I.laid (a:=s.heap.objs.size) (o:= .dT []) (h':=s.heap.push {cls:= .type "dict",data:= .dict #[]}) (t':=s.toks) (λ_ _ q=>b4 _ q) (aW _) (BB s.heap I.big)
 refine wpAny_Dict_any rfl rfl (by simp) (by show 1<=15;decide) (pairTrees_cons_walk (aJ (hk pins _ σ _ _ I1 (q _ hn)) λu s1 ⟨x,H1,I2,rx,q1⟩=>aJ (hv pins s1 σ H1 _ I2 q1) λw2 s2 ⟨y,H2,I3,ry,b,t,ex,hb,hp,q2⟩=>pairTrees_nil_walk ?_))
 subst ex
 cases (show u=aP b from rx)
 unfold storeAll
 rw[zG]
 refine aj (aj ?_)
 obtain⟨z,hd,xs,rel,dd⟩:=ve I3.aB hp
 have hz:xs.length<=sizeLine:=by rw[←dR rel];exact z
 refine wpAny_dictSet_heap (hsz:=hz) (knd:=tupleKind (cu X.prog X.w)) hu (i9 I3.aB (ks:=keyOf t) (by rw[gF];exact hb)) dd λh' dd' hs=>?_
 refine ay ?_
 dsimp only
 rw[tS]
 refine ay ⟨.ref s.heap.objs.size,_,?_,rfl,q2⟩
 obtain⟨o,es,ep,hq,h2,h3,h4,_,h5⟩:=dd'
 refine qR I3 (by rw[hp];exact fb) hs ⟨o,hq⟩ ⟨by show 1<=sizeLine;decide,hd,_,(rel.put (keyOf t) (by rw[gF];exact hb) ry).keeps λc ys ec=>?_,o,es,ep,hq,h2,h3,h4,h5⟩
 rw[az (bg ec hp (λz=>nomatch z))]
 exact ec
end
theorem O1 {α β:Type} {F:α->β->Prop} {l l':List α} {m m':List β} (h:cb F l m) (h2:cb F l' m'):cb F (l++l') (m++m'):=by
 induction h with
 |nil=>exact h2
 |cons h _ ih=>exact .cons h ih
section
variable {X:Cx} {a b c e:ao} {pos p2:Pos} {σ:St} {H:Hp}
theorem ph {tb:TS} {D:Ends} (Pv:Nat->St->Hp->Prop) (n:Nat) (h0:Pv n σ H)
  (hb: ∀m σ H,Pv m σ H-> ∃b,ET X c σ H b/\ ∀H1,ak H H1->if b=true then tb {D with nx:=λσ' H'=> ∃m',m'<m/\Pv m' σ' H',ct:=λσ' H'=> ∃m',m'<m/\Pv m' σ' H',bk:=D.nx} σ H1 else D.nx σ H1):qC (tT X c) tb D σ H:=
 ⟨Pv,⟨n,h0⟩,λm σ H hp=>by
  obtain⟨b,h1,h2⟩:=hb m σ H hp
  refine⟨b,h1,λH1 s1=>?_⟩
  have:=h2 H1 s1
  cases b with
  |true=>exact⟨_,λσ' H' h=>h,this⟩
  |false=>exact this⟩
theorem xQ {t:List Nat} (h:EE X e σ H (aw (tv t))) (he:starEach [e] X.env=[(false,eval e X.env)]:=by rfl):EE X (.List [e] pos) σ H (fr H (bz [t])):=
 EE.of (fF cF) λH1 s1 Q q=>⟨_,(aM h a0 he).grow s1,λvs H2 s2 z=>by
  obtain⟨v,rfl,a,rfl,ha⟩:=cM z
  exact⟨by show 1<=sizeLine;decide,λp hp=>q _ _ (s2.trans (bF hp)) ⟨⟨p,[a],rfl,aK,.cons (bF hp _ _ ha) .nil⟩,λq e=>by cases e;exact(s1.trans s2).free hp⟩⟩⟩
theorem O3 {xs ys:List (List Nat)} (hz:xs.length+ys.length<=sizeLine) (ha:EE X a σ H (bz xs)) (hb:EE X b σ H (bz ys)):EE X (.BinOp a .Add b pos) σ H (fr H (bz (xs++ys))):=
 mH uU ha hb λx y H1 s1 ⟨p,as,hp,h1,t1⟩ ⟨q,bs,hq,h2,t2⟩ Q k=>⟨p,q,_,_,hp,hq,h1,h2,by rw[aC,aC,cQ t1,cQ t2];exact hz,λr hr=>k _ _ (bF hr) ⟨⟨r,as++bs,rfl,by rw[aK,dh],O1 (ba.grow (bF hr) t1) (ba.grow (bF hr) t2)⟩,λq e=>by cases e;exact s1.free hr⟩⟩
theorem xR {α β:Type} {F:α->β->Prop}: ∀{ws:List β} {t:β} {as:List α},cb F as (ws++[t])-> ∃bs b,as=bs++[b]/\F b t/\cb F bs ws
 | [],_,_,.cons h .nil=>⟨[],_,rfl,h,.nil⟩
 |_::_,_,_,.cons h r=>by
  obtain⟨bs,b,e,h1,h2⟩:=xR r
  exact⟨_::bs,b,by rw[e];rfl,h1,.cons h h2⟩
theorem O4 {ws:List (List Nat)} {t:List Nat} (ha:EE X a σ H (bz (ws++[t]))) (hb:EE X b σ H (aH (-1))) (hs:oA b:=by intro _ _;rfl):EE X (.Subscript a b pos) σ H (aw (tv t)):=
 EE.of (qK uQ ah ah hs) λH1 s1 Q q=>⟨_,ha.grow s1,λw H2 s2 ⟨p,as,ep,hp,ht⟩=>⟨_,hb.grow (s1.trans s2),λy H3 s3 hy=>by
  obtain⟨bs,b,rfl,h1,_⟩:=xR ht
  exact⟨p,_,-1,.ref b,ep,hy,.of (s3 _ _ hp),by rw[dh];exact K1 _ _,q _ _ (s2.trans s3) ⟨b,rfl,s3 _ _ h1⟩⟩⟩⟩
end
def b0 (ks:List (List Nat)):List (List Key×V):=ks.map λt=>(keyOf t,V.bl true)
def jj (ks:List (List Nat)) (t:List Nat):List (List Nat):=if ks.contains t=true then ks else ks++[t]
theorem O5 (ks:List (List Nat)):(b0 ks).length=ks.length:=aC _
theorem Ed (ks:List (List Nat)):(b0 ks).map (·.1)=ks.map keyOf:=by unfold b0;rw[eR];rfl
theorem kL (t:List Nat): ∀ks:List (List Nat),(bO (b0 ks) (keyOf t)).isSome=ks.contains t
 | []=>rfl
 |k::ks=>by
  rw[p7]
  by_cases e:k=t
  ·subst e
   show (bO ((keyOf k,V.bl true)::b0 ks) (keyOf k)).isSome=_
   rw[oI rfl]
   simp
  ·show (bO ((keyOf k,V.bl true)::b0 ks) (keyOf t)).isSome=_
   rw[oJ (λz=>e (kE z)),kL t ks,beq_eq_false_iff_ne.mpr (dw e),tV]
theorem O6 (ks:List (List Nat)) (t:List Nat):putK (b0 ks) (keyOf t) (.bl true)=b0 (jj ks t):=by
 unfold putK jj
 rw[qQ,kL]
 cases h:ks.contains t with
 |false=>simp [b0]
 |true=>
  simp only[if_true]
  unfold b0
  rw[eR]
  refine um λx hx=>?_
  by_cases e:keyOf x=keyOf t
  ·simp [e]
  ·simp [e]
theorem O7 {ks:List (List Nat)} {t x:List Nat}:x∈jj ks t↔x∈ks∨x=t:=by
 unfold jj
 split
 ·rename_i h
  have:t∈ks:=by simpa using h
  exact⟨.inl,λq=>q.elim id λe=>e▸this⟩
 ·simp
theorem O8 {ks:List (List Nat)} {t:List Nat} (h:ks.Nodup):(jj ks t).Nodup:=by
 unfold jj
 split
 ·exact h
 ·rename_i h2
  refine List.nodup_append.mpr ⟨h,by simp,λa ha b hb e=>h2 ?_⟩
  have:b=t:=by simpa using hb
  rw[←this,←e];simpa using ha
theorem xS {ks:List (List Nat)} {t:List Nat} (h:ks.contains t=false):jj ks t=ks++[t]:=by unfold jj;rw[h];rfl
section
variable {X:Cx} {a b c e o i v:ao} {es:List ao} {pos p2:Pos} {σ:St} {H:Hp} {D:Ends}
theorem sJ {d:aa} {ks:List (List Nat)} {t:List Nat} (hv:EE X v σ H (bo true)) (hd:EE X o σ H (ax (.ref d))) (hk:EE X i σ H (aw (tv t))) (h:H d=some (.dT (b0 ks))) (hz:ks.length<sizeLine) (q: ∀H2,ak H H2->D.nx σ (upd H2 d (.dT (b0 (jj ks t))))) :
  By (tE X o) (tE X i) (tE X v) D σ H:=
 ⟨_,hv,λy H1 s1 ey=>⟨_,hd.grow s1,λx H2 s2 ex=>⟨_,hk.grow (s1.trans s2),λz H3 s3 hz3=>by
  obtain⟨b,rfl,hb⟩:=hz3
  cases ey
  have e1:=lA.t (v:= .bl true) (k:=keyOf t) (s3 _ _ (s2 _ _ (s1 _ _ h))) (by rw[gF];exact hb) (by rw[O5];exact hz)
  rw[O6] at e1
  exact⟨d,_,ex,e1,q H3 ((s1.trans s2).trans s3)⟩⟩⟩⟩
theorem O9 {ds:List Den} (h:EA X es σ H ds) (hz:ds.length<=sizeLine):EE X (.List es pos) σ H (fr H (iJ ds)):=
 EE.of (fF cF) λH1 s1 Q q=>⟨_,h.grow s1,λvs H2 s2 z=>⟨by rw[z.len];exact hz,λp hp=>q _ _ (s2.trans (bF hp)) ⟨⟨p,vs,rfl,aK,z.mono (bF hp)⟩,λq e=>by cases e;exact(s1.trans s2).free hp⟩⟩⟩
end
theorem SX.same {H B H':Hp} {L:aa} (s:ak H B) (x:SX L B H') (n:H L=none):ak H H':=λb u h=>x b u (cA h n) (s b u h)
theorem SX.O_ {L l:aa} {B H':Hp} {o:HO} (x:SX L B H') (n:B l=none):SX L B (L2.upd H' l o):=λb u h hb=>by rw[az (cA hb n)];exact x b u h hb
theorem SX.sK {L:aa} {B H':Hp} {o:HO} (x:SX L B H'):SX L B (L2.upd H' L o):=λb u h hb=>by rw[az h];exact x b u h hb
theorem SX.kept {L:aa} {B H':Hp} (x:SX L B H') (n1: ∀xs,B L≠some (.lst xs)) (n2: ∀xs,B L≠some (.tup xs)):Kept B H':=
 ⟨λa xs h=>x a _ (λe=>n1 xs (e▸h)) h,λa xs h=>x a _ (λe=>n2 xs (e▸h)) h⟩
def S2 (a b:aa) (H H':Hp):Prop:= ∀c u,c≠a->c≠b->H c=some u->H' c=some u
theorem S2.refl (a b:aa) (H:Hp):S2 a b H H:=λ_ _ _ _ h=>h
theorem ak.s2 {H H':Hp} (s:ak H H') (a b:aa):S2 a b H H':=λc u _ _ h=>s c u h
theorem S2.trans {a b:aa} {H H1 H2:Hp} (x:S2 a b H H1) (y:S2 a b H1 H2):S2 a b H H2:=λc u n m h=>y c u n m (x c u n m h)
theorem S2.xT {a b:aa} {H H':Hp} {o:HO} (x:S2 a b H H'):S2 a b H (L2.upd H' a o):=λc u n m h=>by rw[az n];exact x c u n m h
theorem S2.Ee {a b:aa} {H H':Hp} {o:HO} (x:S2 a b H H'):S2 a b H (L2.upd H' b o):=λc u n m h=>by rw[az m];exact x c u n m h
theorem cr.s2 {rd la p:aa} {H H':Hp} {kvs:List (List Key×V)} {xs:List V} {ts:List (List Nat)} (s:S2 rd la H H') (hr:H rd=some (.dT kvs)) (hl:H la=some (.lst xs)) (n:p≠la) (h:cr H p ts):cr H' p ts:=by
 obtain⟨as,h1,h2⟩:=h
 exact⟨as,s _ _ (bg h1 hr (by intro z;cases z)) n h1,Paired.b6 h2 λa t q=>s _ _ (bg q hr (by intro z;cases z)) (bg q hl (by intro z;cases z)) q⟩
theorem Pa {rd la:aa} {H H':Hp} {kvs:List (List Key×V)} {xs:List V} {as:List aa} {ts:List (List Nat)} (s:S2 rd la H H') (hr:H rd=some (.dT kvs)) (hl:H la=some (.lst xs)) (h:ba H as ts):ba H' as ts:=
 Paired.b6 h λa t q=>s _ _ (bg q hr (by intro z;cases z)) (bg q hl (by intro z;cases z)) q
def lP (na:aa) (H:Hp):List aa->List (List (List Nat))->Prop:=cb λp w=>p≠na/\cr H p w
theorem lP.s2 {rd la:aa} {H H':Hp} {kvs:List (List Key×V)} {xs:List V} {ps:List aa} {ws:List (List (List Nat))} (s:S2 rd la H H') (hr:H rd=some (.dT kvs)) (hl:H la=some (.lst xs)) (h:lP la H ps ws):lP la H' ps ws:=
 Paired.b6 h λp w ⟨n,q⟩=>⟨n,q.s2 s hr hl n⟩
theorem sM {α β:Type} {F:α->β->Prop}: ∀{l:List α} {m:List β},cb F l m-> ∀{i:Nat} {a:α},l[i]?=some a-> ∃b,m[i]?=some b/\F a b
 |_,_,.nil,i,a,h=>by simp at h
 |_,_,.cons q r,0,a,h=>by simp at h;subst h;exact⟨_,rfl,q⟩
 |_,_,.cons q r,i+1,a,h=>by simp at h;simpa using sM r h
theorem xU (a b:List (List Nat)) (x:List Nat):(a++b).contains x=(a.contains x || b.contains x):=by
 rw[jX];simp
theorem sm {α:Type} {p:α->Bool}: ∀{l:List α} {i:Nat} {x:α},l[i]?=some x->p x=true->(∀y∈l.take i,p y=false)->l.find? p=some x
 | [],i,x,h,_,_=>by simp at h
 |a::l,0,x,h,hp,_=>by simp at h;subst h;rw[hZ,hp]
 |a::l,i+1,x,h,hp,hn=>by
  have ha:p a=false:=hn a (by simp)
  rw[hZ,ha]
  exact sm (by simpa using h) hp λy hy=>hn y (by simp [hy])
section
variable {P:aI} {w:aE} {K:aA} {mg:Str->Option ac} {base:aF} {C:Cs}
def xV (C:Cs):List V->Hp->Den->Prop:=λvs H d=> ∃td a s first,vs=[.ref td,.ref a]/\dO C.T H td s.targets/\bu s/\H a=some (.tup (tv first))/\first∈Dm.aG s/\d=bz (Dm.fK s first)
theorem Ef:a6 ["targets","first","paths","reached","longer","path","dependencies","label"] ["targets","first"] (aV wZ):=⟨rfl,rfl,rfl,by decide +kernel,rfl,by decide +kernel,by decide +kernel⟩
theorem Pb {f:aa} {fd:aS} (F:aX K "least_circle_from" "least_circle_from" wZ f fd) (kc:KC K C) (hs:mg "sorted"=none) (hlen:mg "len"=none):aN P w K mg base aR 1 f fd ["targets","first"] (am (xV C)):=by
 refine F.ok Ef (λvs H Q E h=>?_) (λcdv A outer s H vs Q E hr h=>?_)
 ·obtain⟨d,⟨td,a,st,first,rfl,_⟩,_⟩:=h
  rfl
 ·obtain⟨d,⟨td,a,st,first,rfl,hT,ok,ha,hf,rfl⟩,k⟩:=h
  have nd:=Ef.nd
  have ci:(Dm.aG st).length<=64:=by unfold Dm.aG;rw[aC];exact ok.ci
  refine⟨_,ap (a5 (i:=2) nd rfl (aT rfl) ah) (ap (a5 (i:=3) nd rfl (aT rfl) (O0 hr.gB ah ah))
   (ap (mr fz aY (ap (a5 (i:=4) nd rfl (aT rfl) (fF gP))
    (ap (im fz rfl (gy ah) (d9 (i:=5) nd rfl (aT rfl))
     (ap (a5 (i:=6) nd rfl (aT rfl) ah) (ap (a_ aY (au (aD ah)) bh)
      (au (im fz rfl (gy ah) (d9 (i:=7) nd rfl (aT rfl))
       (au (a_ aY (ap (mC (b9 hr) ah ah ah rfl) (au (fe (fG fT iY iZ gQ ah cF)))) bh)))))))
     (au (a5 (i:=2) nd rfl (aT rfl) ah))))) (au (aD (fF gP))))),?_⟩
  refine br (O9 (aM (xQ (ae 1 (d:=aw (tv first)) rfl ⟨a,rfl,ha⟩)) a0) (by show 1<=sizeLine;decide)) λv H1 s1 hv=>?_
  obtain⟨⟨pa0,vs,rfl,hpa0,hD⟩,_⟩:=hv
  obtain⟨v1,rfl,⟨p1,as1,rfl,hp1,ht1⟩,_⟩:=cM hD
  refine λrd hrd1=>⟨_,ae 1 (d:=aw (tv first)) rfl ⟨a,rfl,bF hrd1 _ _ (s1 _ _ ha)⟩,λx H2 s2 hx=>⟨_,f8,λy H3 s3 hy=>?_⟩⟩
  obtain⟨b3,rfl,hb3⟩:=hx
  cases hy
  have hrd0:H rd=none:=s1.free hrd1
  have hrd3:H3 rd=some (.dT []):=s3 _ _ (s2 _ _ aK)
  refine⟨b3,first,rfl,s3 _ _ hb3,hrd3,?_⟩
  have s13:ak H1 H3:=(bF hrd1).trans (s2.trans s3)
  have x1:SX rd H1 (upd H3 rd (.dT (b0 [first]))):=(s13.sx rd).sK
  have k1:Kept H1 (upd H3 rd (.dT (b0 [first]))):=x1.kept (λxs e=>by rw[hrd1] at e;cases e) (λxs e=>by rw[hrd1] at e;cases e)
  refine ph (λm σ H'=> ∃(pa:aa) (ps:List aa) (met:List (List Nat)) (ws:List (List (List Nat))) (n:Nat) (v4 v5 v6 v7:Option V),σ=[some (.ref td),some (.ref a),some (.ref pa),some (.ref rd),v4,v5,v6,v7]/\ak H H'/\H' rd=some (.dT (b0 met))/\H' pa=some (.lst (ps.map V.ref)) /\
    cb (cr H') ps (ws.map ur)/\Dm.Round st first n met ws/\(∀w∈ws,w≠[]/\Dm.hd w∈Dm.aG st/\w.length<=met.length)/\m=2*(64-met.length)+(if ws=[] then 0 else 1)) _
   ⟨pa0,[p1],[first],[[first]],65,none,none,none,none,rfl,x1.same s1 hrd0,aK,k1.1 _ _ hpa0,.cons (cr.kept k1 ⟨as1,hp1,ht1⟩) .nil,Dm.Mw ci hf,λw hw=>?_,rfl⟩ ?_
  ·have:w=[first]:=by simpa using hw
   subst this
   exact⟨by simp,hf,aW _⟩
  rintro m σ HB0 ⟨pa,ps,met,ws,n,v4,v5,v6,v7,rfl,sB0,hrdB0,hpaB0,hpsB0,R,hw,rfl⟩
  have hlp:ps.length=ws.length:=by rw[dR hpsB0,aC]
  refine⟨_,iC (dW rfl hlen (ae 2 (d:=bt K (ps.map V.ref)) rfl ⟨pa,rfl,.of hpaB0⟩)) aZ,λB sB=>?_⟩
  have hrdB:=sB _ _ hrdB0
  have hpaB:=sB _ _ hpaB0
  have hpsB:cb (cr B) ps (ws.map ur):=Paired.b6 hpsB0 λ_ _ q=>q.grow sB
  have sHB:ak H B:=sB0.trans sB
  rw[aC,hlp]
  by_cases hw0:ws=[]
  ·subst hw0
   rw[if_neg (by simp)]
   refine⟨bv _,λp hp=>k _ _ (sHB.trans (bF hp)) ⟨p,[],rfl,aK,?_⟩⟩
   unfold Dm.fK
   rw[R.gone]
   exact .nil
  have hwl:0<ws.length:=List.length_pos_iff.mpr hw0
  rw[if_pos (by simpa using hwl)]
  refine⟨bv _,λla hla=>?_⟩
  refine⟨_,ae 2 (d:=ax (.ref pa)) rfl rfl,λv H5 s5 hv=>?_⟩
  cases hv
  have sB5:ak B H5:=(bF hla).trans s5
  have n1: ∀xs,B rd≠some (.lst xs):=λxs e=>by rw[hrdB] at e;cases e
  have n2: ∀xs,B rd≠some (.tup xs):=λxs e=>by rw[hrdB] at e;cases e
  have npa:pa≠rd:=bg hpaB hrdB (by intro z;cases z)
  have hmet:=R.len
  refine⟨pa,rfl,⟨_,.of (sB5 _ _ hpaB)⟩,jG (K:=K) (a:=pa) (xs:=ps.map V.ref) (λi σ H'=> ∃(v5 v6 v7:Option V) (ps':List aa) (l:List (List (List Nat))),σ=[some (.ref td),some (.ref a),some (.ref pa),some (.ref rd),some (.ref la),v5,v6,v7]/\SX rd B H' /\
    H' rd=some (.dT (b0 (met++l.map Dm.hd)))/\H' la=some (.lst (ps'.map V.ref))/\lP la H' ps' (l.map ur)/\l=(ws.take i).foldl (Dm.rH st first met) []/\ ∀w∈ws.take i,(eS st (w.headD [])).contains first=false)
   ⟨_,_,_,[],[],rfl,sB5.sx rd,by rw[iU,fQ];exact sB5 _ _ hrdB,s5 _ _ aK,.nil,by rw[iV];rfl,λw hw=>by rw[iV] at hw;cases hw⟩ (λi σ H' _ ⟨_,_,_,_,_,_,x,_⟩=> .of (x _ _ npa hpaB)) ?_ ?_⟩
  ·rintro i x σ H' hx ⟨v5,v6,v7,ps',l,rfl,x6,hrd6,hla6,hps6,hl,hno⟩
   obtain⟨p,hp,rfl⟩: ∃p,ps[i]?=some p/\x= .ref p:=by
    rw[bC] at hx
    cases h:ps[i]? with
    |none=>rw[h] at hx;cases hx
    |some p=>rw[h] at hx;exact⟨p,rfl,(cJ hx).symm⟩
   obtain⟨wr,hwr,hLp⟩:=sM hpsB hp
   obtain⟨wk,hwk,rfl⟩: ∃wk,ws[i]?=some wk/\wr=wk.reverse:=by
    rw[bC] at hwr
    cases h:ws[i]? with
    |none=>rw[h] at hwr;cases hwr
    |some p=>rw[h] at hwr;exact⟨p,rfl,(cJ hwr).symm⟩
   have hwm:=dg hwk
   obtain⟨w1,w2,w3⟩:=hw wk hwm
   obtain⟨d0,w0,rfl⟩:=Ig w1
   have hLp6:cr H' p (d0::w0).reverse:=hLp.kept (x6.kept n1 n2)
   have sH6:ak H H':=x6.same sHB hrd0
   obtain⟨pas,hpl6,hpt6⟩:=hLp6
   obtain⟨kvs,q1,_,_,q2⟩:=(hT.grow sH6).at ok.asc
   rcases q2 d0 with ⟨_,z⟩|⟨r,t,q3,q4,dx2,fs2,dl,sl,q5,q6,q7,⟨das,q8,q9⟩,_⟩
   ·have:(bj st d0).isSome=true:=Dm.dk.mpr w2
    rw[z] at this;cases this
   have hdep:eS st d0=t.deps:=by unfold eS;rw[q4];rfl
   have htm:=(Dm.find_some q4).1
   obtain⟨d1,d2,d3⟩:=ok.deps t htm
   refine br (bS (kF (b9 hr) (t:=d0) (ae 0 (d:=ax (.ref td)) rfl rfl) (O4 (ws:=w0.reverse) (ae 5 (d:=bz (w0.reverse++[d0])) rfl ⟨p,pas,rfl,hpl6,by rw[←zB];exact hpt6⟩) (rL aZ)) q1 q3) q5 kc.cT kc.kH q6) λv H7 s7 hv=>?_
   cases hv
   refine bc (rT (b9 hr) (EE.T (ae 1 (d:=aw (tv first)) rfl ⟨a,rfl,(sH6.trans s7) _ _ ha⟩)) (EE.Ts (ae 6 (d:=bz t.deps) rfl ⟨dl,das,rfl,s7 _ _ q8,q9.grow s7⟩))) (λhc H8 s8=>?_) (λhc H8 s8=>?_)
   ·refine aQ (ae 5 (d:=ax (.ref p)) rfl rfl) λv H9 s9 hv=>k v H9 (((sH6.trans s7).trans s8).trans s9) ?_
    cases hv
    have hfd:UR st first=some (d0::w0).reverse:=R.found (sm hwk (by show (eS st d0).contains first=true;rw[hdep];exact hc) hno)
    unfold Dm.fK
    rw[show UR st first=some (d0::w0).reverse from hfd]
    exact⟨p,pas,rfl,s9 _ _ (s8 _ _ (s7 _ _ hpl6)),hpt6.grow ((s7.trans s8).trans s9)⟩
   have s68:=s7.trans s8
   refine⟨_,CP (ts:=t.deps) rfl hs (λx hx=>Dm.lC (d3 x hx)) d2 (ae 6 (d:=bz t.deps) rfl ⟨dl,das,rfl,s68 _ _ q8,q9.grow s68⟩),λv H9 s9 hv=>?_⟩
   obtain⟨⟨qb,bs,rfl,hb9,hbt⟩,hfr2⟩:=hv
   have s69:=s68.trans s9
   have hrd9:=s69 _ _ hrd6
   have hla9:=s69 _ _ hla6
   have nb1:qb≠la:=λe=>by have:=hfr2 _ rfl;rw[e,s68 _ _ hla6] at this;cases this
   have nb2:qb≠rd:=bg hb9 hrd9 (by intro z;cases z)
   have nla:la≠rd:=bg hla6 hrd6 (by intro z;cases z)
   have npl:p≠la:=by
    obtain⟨pas2,e2,_⟩:=hLp
    exact cA e2 hla
   refine⟨qb,rfl,⟨_,.of hb9⟩,jG (K:=K) (a:=qb) (xs:=bs.map V.ref) (λj σ H'=> ∃(v7:Option V) (ps':List aa) (l2:List (List (List Nat))),σ=[some (.ref td),some (.ref a),some (.ref pa),some (.ref rd),some (.ref la),some (.ref p),some (.ref dl),v7]/\SX rd B H'/\S2 rd la H9 H' /\
     H' rd=some (.dT (b0 (met++l2.map Dm.hd)))/\H' la=some (.lst (ps'.map V.ref))/\lP la H' ps' (l2.map ur)/\l2=((cf t.deps).take j).foldl (Dm.fJ st first met (d0::w0)) l)
    ⟨_,ps',l,rfl,x6.trans (s69.sx rd),S2.refl _ _ _,hrd9,hla9,lP.s2 (s69.s2 _ _) hrd6 hla6 hps6,by rw[iV];rfl⟩ (λj σ H' _ ⟨_,_,_,_,_,y,_⟩=> .of (y _ _ nb2 nb1 hb9)) ?_ ?_⟩
   ·rintro j x σ HA hx ⟨v7,psA,l2,rfl,xA,yA,hrdA,hlaA,hpsA,hl2⟩
    obtain⟨b,tb,eb,etb,rfl,htb⟩:=fh hbt hx
    have htbA:HA b=some (.tup (tv tb)):=yA _ _ (bg htb hrd9 (by intro z;cases z)) (bg htb hla9 (by intro z;cases z)) htb
    have sHA:ak H HA:=xA.same sHB hrd0
    obtain⟨kvs,q1,_,_,q2⟩:=(hT.grow sHA).at ok.asc
    have hin:(bO kvs (keyOf tb)).isSome=(bj st tb).isSome:=by rcases q2 tb with ⟨e1,e2⟩|⟨_,_,e1,e2,_⟩ <;> rw[e1,e2] <;> rfl
    have L2:Dm.ed st met ws l2:=by
     rw[hl2,hl]
     exact Dm.ed.inner hwm _ (Dm.ed.outer _ (λv hv=>mh hv) .nil)
    have hnd2:(met++l2.map Dm.hd).Nodup:=List.nodup_append.mpr ⟨R.nd,L2.nd,λa ha b hb e=>L2.out b hb (e▸ha)⟩
    have hsz:(met++l2.map Dm.hd).length<=64:=bM (Dm.fZ hnd2 λx hx=>(bP.mp hx).elim (R.sub x) (L2.oT x)) ci
    have hsz2:psA.length<=64:=by rw[dR hpsA,aC];rw[bx,aC] at hsz;omega
    have etk:((cf t.deps).take (j+1)).foldl (Dm.fJ st first met (d0::w0)) l=Dm.fJ st first met (d0::w0) l2 tb:=by rw[Dm.iy etb,zY,←hl2];rfl
    refine bc (EW.et (kC (MV hr.gB (EE.T (ae 7 (d:=aw (tv tb)) rfl ⟨b,rfl,htbA⟩)) (EE.T (ae 1 (d:=aw (tv first)) rfl ⟨a,rfl,sHA _ _ ha⟩))) λ_=>kC (CC (b9 hr) (ae 7 rfl ⟨b,rfl,htbA⟩) (ae 0 (d:=ax (.ref td)) rfl rfl) q1) λ_=>lE (jM (b9 hr) (ae 7 rfl ⟨b,rfl,htbA⟩) (ae 3 (d:=ax (.ref rd)) rfl rfl) hrdA))) (λhc H10 s10=>?_) (λhc H10 s10=>?_)
    ·rw[hin,kL,xU] at hc
     have hcn:(met++l2.map Dm.hd).contains tb=false:=by
      rw[xU]
      simp only[bY,cx] at hc
      exact hc.2.2
     have eg:Dm.fJ st first met (d0::w0) l2 tb=l2++[tb::d0::w0]:=by unfold Dm.fJ;rw[if_pos hc]
     have hrd10:=s10 _ _ hrdA
     have hla10:=s10 _ _ hlaA
     have hps10:lP la H10 psA (l2.map ur):=hpsA.s2 (s10.s2 _ _) hrdA hlaA
     have nla':la≠rd:=nla
     refine sJ (d:=rd) (t:=tb) f8 (ae 3 rfl rfl) (ae 7 rfl ⟨b,rfl,s10 _ _ htbA⟩) hrd10 (f_ (m:=64) hsz (by decide)) λH11 s11=>?_
     rw[xS hcn]
     have hla11:(upd H11 rd (.dT (b0 (met++l2.map Dm.hd++[tb])))) la=some (.lst (psA.map V.ref)):=by rw[az nla];exact s11 _ _ hla10
     have y11:S2 rd la H9 (upd H11 rd (.dT (b0 (met++l2.map Dm.hd++[tb])))):=((yA.trans (s10.s2 _ _)).trans (s11.s2 _ _)).xT
     have hLp9:cr H9 p (d0::w0).reverse:=⟨pas,s69 _ _ hpl6,hpt6.grow s69⟩
     obtain⟨pasE,hE1,hE2⟩:=hLp9.s2 y11 hrd9 hla9 npl
     have htb11:(upd H11 rd (.dT (b0 (met++l2.map Dm.hd++[tb])))) b=some (.tup (tv tb)):=y11 _ _ (bg htb hrd9 (by intro z;cases z)) (bg htb hla9 (by intro z;cases z)) htb
     refine g8 (l:=la) (d:=fr (upd H11 rd (.dT (b0 (met++l2.map Dm.hd++[tb])))) (bz ((d0::w0).reverse++[tb]))) (ae 4 rfl rfl) hla11 (by rw[aC];exact f_ (m:=64) hsz2 (by decide)) (aM (O3 (by rw[TM];exact cV (m:=100) (by have:=w3;simp only[bm,cZ] at this ⊢;omega)) (ae 5 (d:=bz (d0::w0).reverse) rfl ⟨p,pasE,rfl,hE1,hE2⟩) (EE.jN (xQ (ae 7 (d:=aw (tv tb)) rfl ⟨b,rfl,htb11⟩)))) a0) λv H12 s12 hv=>?_
     obtain⟨⟨pn,asn,rfl,hpn,htn⟩,hfn⟩:=hv
     have hla12:=s12 _ _ hla11
     have npn:pn≠la:=λe=>by have:=hfn _ rfl;rw[e,hla11] at this;cases this
     have hrd12:H12 rd=some (.dT (b0 (met++l2.map Dm.hd++[tb]))):=s12 _ _ aK
     have yN:S2 rd la HA (upd H12 la (.lst (psA.map V.ref++[.ref pn]))):=((((s10.s2 rd la).trans (s11.s2 rd la)).xT).trans (s12.s2 rd la)).Ee
     refine⟨_,psA++[pn],l2++[tb::d0::w0],rfl,(((xA.trans ((s10.trans s11).sx rd)).sK).trans (s12.sx rd)).O_ hla,yA.trans yN,?_,by rw[aK,dh];rfl,?_,by rw[etk,eg]⟩
     ·rw[az (dw nla),hrd12,dh,←j6];rfl
     ·rw[dh]
      refine sH (hpsA.s2 yN hrdA hlaA) ⟨npn,asn,by rw[az npn];exact hpn,?_⟩
      rw[zB]
      exact Paired.b6 htn λc u q=>by rw[az (bg q hla12 (by intro z;cases z))];exact q
    ·rw[hin,kL,xU] at hc
     have eg:Dm.fJ st first met (d0::w0) l2 tb=l2:=by unfold Dm.fJ;rw[if_neg (by rw[hc];decide)]
     exact⟨_,psA,l2,rfl,xA.trans (s10.sx rd),yA.trans (s10.s2 _ _),s10 _ _ hrdA,s10 _ _ hlaA,hpsA.s2 (s10.s2 _ _) hrdA hlaA,by rw[etk,eg]⟩
   ·rintro σ HA ⟨v7,psA,l2,rfl,xA,yA,hrdA,hlaA,hpsA,hl2⟩
    refine⟨_,_,_,psA,l2,rfl,xA,hrdA,hlaA,hpsA,?_,?_⟩
    ·rw[Dm.iy hwk,zY,←hl]
     rw[aC,cQ hbt,fq] at hl2
     rw[hl2]
     show _=(cf (eS st d0)).foldl _ l
     rw[hdep]
    ·intro w hw'
     rw[Dm.iy hwk] at hw'
     rcases bP.mp hw' with q|q
     ·exact hno w q
     ·have:w=d0::w0:=by simpa using q
      rw[this]
      show (eS st d0).contains first=false
      rw[hdep];exact hc
  ·rintro σ H' ⟨v5,v6,v7,ps',l,rfl,x6,hrd6,hla6,hps6,hl,hno⟩
   have e1:(ps.map V.ref).length=ws.length:=by rw[aC,hlp]
   rw[e1,fq] at hl hno
   have hll:l=Vabldg.longer st first met ws:=by rw[Dm.Cb R.has,hl]
   have hnone:ws.find? (λw=>(eS st (w.headD [])).contains first)=none:=ug.mpr λw hw=>by rw[hno w hw];decide
   obtain⟨n',R'⟩:=R.next hnone
   rw[←hll] at R'
   have L:=Dm.vK R.has ws (s:=st)
   rw[←hll] at L
   refine br (ae 4 (d:=ax (.ref la)) rfl rfl) λv H7 s7 hv=>?_
   cases hv
   refine⟨_,?_,la,ps',met++l.map Dm.hd,l,n',_,_,_,_,rfl,(x6.same sHB hrd0).trans s7,s7 _ _ hrd6,s7 _ _ hla6,Paired.b6 hps6 λ_ _ q=>q.2.grow s7,R',λw hw'=>?_,rfl⟩
   ·rw[if_neg hw0,bx,aC]
    by_cases e:l=[]
    ·rw[if_pos e,e,cZ];omega
    ·rw[if_neg e]
     have h1:=R'.len
     rw[bx,aC] at h1
     have h2:0<l.length:=List.length_pos_iff.mpr e
     omega
   ·obtain⟨d,w',rfl,hm⟩:=L.mem w hw'
    refine⟨by simp,L.oT d (bp.mpr ⟨_,hw',rfl⟩),?_⟩
    rw[bx,aC,bm]
    have h1:=(hw w' hm).2.2
    have h2:0<l.length:=List.length_pos_iff.mpr (List.ne_nil_of_mem hw')
    omega
end
def x_ (p:List Nat->Prop):Den:=⟨λv H=> ∃(q:aa) (ks:List (List Nat)),v= .ref q/\H q=some (.dT (b0 ks))/\ks.Nodup/\ ∀x,x∈ks↔p x,λv H H' s ⟨q,ks,e,h,r⟩=>⟨q,ks,e,s _ _ h,r⟩⟩
section
variable {X:Cx} {a b c e o i v:ao} {es:List ao} {pos p2:Pos} {σ:St} {H:Hp} {D:Ends}
theorem Pn {x:Str} {p:Pos} {ts:List (List Nat)} (hx:x="list") (hm:X.mg x=none) (ha:EE X a σ H (bz ts)) (hg:Gl X x:=by rfl) (hs:starEach [a] X.env=[(false,eval a X.env)]:=by rfl):EE X (.Call (.Name x p) [a] [] pos) σ H (fr H (bz ts)):=by
 subst hx
 exact oW Bf hm boot_list (aM ha a0 hs) (λvs H1 s1 z Q q=>by
  obtain⟨v,rfl,l,as,rfl,h,ht⟩:=cM z
  exact⟨l,_,rfl,.inl (.of h),λr hr=>q _ _ (bF hr) ⟨⟨r,as,rfl,aK,ht.grow (bF hr)⟩,λq e=>by cases e;exact s1.free hr⟩⟩) hg (by decide) (by decide) hs
theorem Po (hu:X.A.units+1<cLine) {t:List Nat} {p:List Nat->Prop} {k:Bool} (hk:k=true↔p t) (ha:EE X a σ H (aw (tv t))) (hb:EE X b σ H (x_ p)) (hm:behindInMarks .In b=false:=by with_unfolding_all rfl):EE X (.Compare a [.In] [b] pos) σ H (bo k):=
 EE.of (uF (vf hu ah ah) hm) λH1 s1 Q q=>⟨_,ha.grow s1,λv H2 s2 ⟨p,ev,hv⟩=>⟨_,hb.grow (s1.trans s2),λw H3 s3 ⟨d,ks,hd,h2,_,h3⟩=>by
  subst ev hd
  refine⟨d,_,rfl,lI h2 (s3 _ _ hv),q _ _ (s2.trans s3) ?_⟩
  show V.bl _=V.bl _
  congr 1
  rw[kL,jX,Ie,h3,hk]⟩⟩
theorem Pp {i:Nat} {l:aa} {xs:List V} {y:V} (ho:EE X o σ H (ax (.ref l))) (hl:H l=some (.lst (xs++[y]))) (q: ∀H2,ak H H2->D.nx (σ.set i (some y)) (upd H2 l (.lst xs))) :
  lr (Bh X.K "list" Bl (tE X o)) (d8 i) D σ H:=
 ⟨_,ho,λv H2 s2 hv=>by
  cases hv
  refine⟨.inl ⟨rfl,_,.of (s2 _ _ hl)⟩,l,xs++[y],y,rfl,rfl,s2 _ _ hl,by simp,?_⟩
  rw[List.dropLast_concat]
  exact q H2 s2⟩
theorem En {α:Type} {x:α} {xs:List α}:fX (x::xs) 0=some x:=by
 unfold fX jH
 simp
theorem ya {ws:List (List Nat)} {t:List Nat} (ha:EE X a σ H (bz (t::ws))) (hb:EE X b σ H (aH 0)) (hs:oA b:=by intro _ _;rfl):EE X (.Subscript a b pos) σ H (aw (tv t)):=
 EE.of (qK uQ ah ah hs) λH1 s1 Q q=>⟨_,ha.grow s1,λw H2 s2 ⟨p,as,ep,hp,ht⟩=>⟨_,hb.grow (s1.trans s2),λy H3 s3 hy=>by
  cases ht with
  |cons h1 _=>exact⟨p,_,0,.ref _,ep,hy,.of (s3 _ _ hp),En,q _ _ (s2.trans s3) ⟨_,rfl,s3 _ _ h1⟩⟩⟩⟩
theorem EE.TD {ts:List (List Nat)} (h:EE X e σ H (bz ts)):EE X e σ H (iJ (ts.map λt=>aw (tv t))):=h.imp λv H2 _ ⟨q,as,ev,hv,z⟩=>⟨q,as.map V.ref,ev,hv,Dz z⟩
theorem yb {α:Type} {di:α->Den} {H:Hp}: ∀{ys:List α} {vs:List V},bZ (ys.map di) vs H-> ∀{i:Nat} {x:V} {y:α},vs[i]?=some x->ys[i]?=some y->(di y).p x H
 | [],_,h,i,x,y,_,hy=>by simp at hy
 |z::ys,_,h,0,x,y,hx,hy=>by
  rw[aU] at h
  cases h with
  |cons h _=>simp at hx hy;subst hx hy;exact h
 |z::ys,_,h,i+1,x,y,hx,hy=>by
  rw[aU] at h
  cases h with
  |cons _ r=>exact yb r (by simpa using hx) (by simpa using hy)
theorem Eo {α:Type} {scope:bX} {iter elt cnd:ao} {j:Nat} (ys:List α) (di:α->Den) (ct:α->Bool) (dn:α->Den) (hi:EE X iter σ H (iJ (ys.map di))) (hz:ys.length<=sizeLine) (hst: ∀y∈ys,jg (dn y))
  (ht: ∀z∈ys,∀v H',ak H H'->(di z).p v H'-> ∀(s:af) (H0:Hp) (C:aa) (cl:List (Str×aa)) (fp:List aa),ET (df X scope s H0 C cl fp) cnd (σ.set j (some v)) H' (ct z))
  (he: ∀z∈ys,ct z=true-> ∀v H',ak H H'->(di z).p v H'-> ∀(s:af) (H0:Hp) (C:aa) (cl:List (Str×aa)) (fp:List aa),EE (df X scope s H0 C cl fp) elt (σ.set j (some v)) H' (dn z))
  {H1:Hp} (s1:ak H H1) {Q:VK} (q: ∀v H2,ak H1 H2->(iJ ((ys.filter ct).map dn)).p v H2->Q v H2):i8 (AE X.K (tE X iter)) (d8 j) (mS X scope cnd) (iD X scope elt) [j] σ H1 Q:=
 ⟨_,hi.grow s1,λv H2 s2 hv=>by
   obtain⟨a,vs,rfl,ha,hd⟩:=hv
   have hl:vs.length=ys.length:=by rw[hd.len,aC]
   refine⟨a,rfl,⟨_,.of ha⟩,λD hD=>?_⟩
   exact DC (X:=X) (xs:=vs) (ys:=ys) (ct:=ct) (dn:=dn) (tt:=mS X scope cnd) hD (λPv h1 h2 h3 h4=>vb Pv h2 (λi H' hle hp=> .of (h1 i H' hle hp _ _ ha)) h3 h4) hl.symm (by omega) hst
    (λi x z H' hx hz2 s3 Q hq=>⟨_,ht z (dg hz2) x H' ((s1.trans s2).trans s3) ((di z).mono _ _ _ s3 (yb hd hx hz2)),hq⟩) (λi x z hx hz2 hb=>he z (dg hz2) hb x H2 (s1.trans s2) (yb hd hx hz2))
    λH' s3 hd=>q _ _ (s2.trans s3) hd⟩
theorem yc {α:Type} {scope:bX} {y:Str} {py:Pos} {iter elt cnd:ao} {j:Nat} (ys:List α) (di:α->Den) (ct:α->Bool) (dn:α->Den) (hc:X.calm=true) (hN:X.N.Nodup) (hi:EE X iter σ H (iJ (ys.map di))) (ok:gC X.N X.env.scope scope [(y,j)]) (hj:X.N[j]?=some y) (hy:scope.names.lookup y=some .local)
  (hz:ys.length<=sizeLine) (hst: ∀y∈ys,jg (dn y))
  (ht: ∀z∈ys,∀v H',ak H H'->(di z).p v H'-> ∀(s:af) (H0:Hp) (C:aa) (cl:List (Str×aa)) (fp:List aa),ET (df X scope s H0 C cl fp) cnd (σ.set j (some v)) H' (ct z))
  (he: ∀z∈ys,ct z=true-> ∀v H',ak H H'->(di z).p v H'-> ∀(s:af) (H0:Hp) (C:aa) (cl:List (Str×aa)) (fp:List aa),EE (df X scope s H0 C cl fp) elt (σ.set j (some v)) H' (dn z))
  (hs: ∀x,foldedSetIterable iter X.env x=pure x:=by intro _;rfl):EE X (.ListComp elt [⟨.Name y py,iter,[cnd],0⟩] scope pos) σ H (iJ ((ys.filter ct).map dn)):=
 EE.of (oH hc hN (gy ah) ok (λs H0 C cl fp=>d9 (X:=df X scope s H0 C cl fp) hN hj (.inl (iW hy)) (.inr (iW hy))) (λs H0 C cl fp=>Bq (DA s H0 C cl fp)) (λs H0 C cl fp=>mO s H0 C cl fp) hs)
  λH1 s1 Q q=>Eo ys di ct dn hi hz hst ht he s1 q
theorem Ep {scope:bX} {x y:Str} {px py:Pos} {iter elt cnd:ao} {i j:Nat} {wi:TI} {spos:Pos} (hc:X.calm=true) (hN:X.N.Nodup) (hx:X.N[i]?=some x) (hxl:X.env.scope.names.lookup x=some .local) (hsw:swapsWith (.ListComp elt [⟨.Name y py,iter,[cnd],0⟩] scope pos) (some (.Name x px)) spos.line X.env=pure true) (hi:PI X (.Name y py) iter wi) (ok:gC X.N X.env.scope scope [(y,j)]) (hj:X.N[j]?=some y) (hy:scope.names.lookup y=some .local)
  (hs: ∀x,foldedSetIterable iter X.env x=pure x:=by intro _;rfl):PS X (.Assign [.Name x px] (.ListComp elt [⟨.Name y py,iter,[cnd],0⟩] scope pos) spos) (lr (i8 wi (d8 j) (mS X scope cnd) (iD X scope elt) [j]) (d8 i)):=
 Ly hc hN hx hxl hsw hi ok (λs H0 C cl fp=>d9 (X:=df X scope s H0 C cl fp) hN hj (.inl (iW hy)) (.inr (iW hy))) (λs H0 C cl fp=>Bq (DA s H0 C cl fp)) (λs H0 C cl fp=>mO s H0 C cl fp) hs
theorem Pq {wi:TI} {g:TG} {tt:TT} {te:TE} {vs:List Nat} {i:Nat} (h:i8 wi g tt te vs σ H λv H2=>D.nx (σ.set i (some v)) H2):lr (i8 wi g tt te vs) (d8 i) D σ H:=h
end
theorem Ps {α:Type} (l:List α):l=[]∨ ∃m x,l=m++[x]:=by
 rcases List.eq_nil_or_concat l with h|⟨m,x,h⟩
 ·exact .inl h
 ·exact .inr ⟨m,x,by rw[h,List.concat_eq_append]⟩
theorem bu.lf {s:bR} (ok:bu s):(Dm.aG s).length<=64:=by unfold Dm.aG;rw[aC];exact ok.ci
section
variable {P:aI} {w:aE} {K:aA} {mg:Str->Option ac} {base:aF} {C:Cs}
def sQ (C:Cs):List V->Hp->Den->Prop:=λvs H d=> ∃g l s ls,vs=[.ref g,.ref l]/\ck C H g s/\bu s/\cr H l ls/\ls.length<=5000/\(∀x∈ls,x∈Dm.aG s)/\d=fr H (x_ (Dm.dX s ls))
theorem Er:a6 ["graph","labels","found","waiting","label","dependency"] ["graph","labels"] (aV wS):=⟨rfl,rfl,rfl,by decide +kernel,rfl,by decide +kernel,by decide +kernel⟩
theorem Pt {f:aa} {fd:aS} (F:aX K "rested_on" "rested_on" wS f fd) (kc:KC K C) (hlist:mg "list"=none) (hlen:mg "len"=none):aN P w K mg base aR 1 f fd ["graph","labels"] (am (sQ C)):=by
 refine F.ok Er (λvs H Q E h=>?_) (λcdv A outer s H vs Q E hr h=>?_)
 ·obtain⟨d,⟨g,l,st,ls,rfl,_⟩,_⟩:=h
  rfl
 ·obtain⟨d,⟨g,l,st,ls,rfl,hG,ok,⟨las,hl,hlt⟩,hll,hlab,rfl⟩,k⟩:=h
  have nd:=Er.nd
  have ci:=ok.lf
  refine⟨_,ap (a5 (i:=2) nd rfl (aT rfl) qS) (ap (a5 (i:=3) nd rfl (aT rfl) ah)
   (ap (mr fz aY (ap (a5 (i:=4) nd rfl (aT rfl) (Lc fT PySem.F.slot_list_pop PySem.F.type_list_pop Lg ah))
    (au (im fz rfl (gy ah) (d9 (i:=5) nd rfl (aT rfl))
     (au (a_ aY (ap (mC (b9 hr) ah ah ah rfl) (au (fe (fG fT iY iZ gQ ah cF)))) bh))))))
    (au (aD ah)))),?_⟩
  refine λfdc hf0=>?_
  have s0:ak H (upd H fdc (.dT (b0 []))):=bF hf0
  refine br (Pn rfl hlist (ae 1 (d:=bz ls) rfl ⟨l,las,rfl,s0 _ _ hl,hlt.grow s0⟩)) λv H1 s1 hv=>?_
  obtain⟨⟨wl,was,rfl,hw1,hwt1⟩,hfr⟩:=hv
  have hwl0:H wl=none:=s0.free (hfr _ rfl)
  have hf1:H1 fdc=some (.dT (b0 [])):=s1 _ _ aK
  refine ph (λm σ H'=> ∃(W ks:List (List Nat)) (as:List aa) (v4 v5:Option V),σ=[some (.ref g),some (.ref l),some (.ref fdc),some (.ref wl),v4,v5]/\ak H H'/\H' fdc=some (.dT (b0 ks))/\H' wl=some (.lst (as.map V.ref))/\ba H' as W/\Dm.RO st ls W ks/\W.length<=5000+ks.length/\m=W.length+2*(64-ks.length)) _
   ⟨ls,[],was,none,none,rfl,s0.trans s1,hf1,hw1,hwt1,Dm.RO.start hlab,by omega,rfl⟩ ?_
  rintro m σ HB0 ⟨W,ks,as,v4,v5,rfl,sB0,hfB0,hwB0,hwt0,R,hW,rfl⟩
  have hlp:as.length=W.length:=cQ hwt0
  refine⟨_,iC (dW rfl hlen (ae 3 (d:=bt K (as.map V.ref)) rfl ⟨wl,rfl,.of hwB0⟩)) aZ,λB sB=>?_⟩
  have hfB:=sB _ _ hfB0
  have hwB:=sB _ _ hwB0
  have hwtB:=hwt0.grow sB
  have sHB:ak H B:=sB0.trans sB
  rw[aC,hlp]
  rcases Ps W with rfl|⟨W,lb,rfl⟩
  ·rw[if_neg (by simp)]
   refine aQ (ae 2 (d:=ax (.ref fdc)) rfl rfl) λv H2 s2 hv=>k v H2 (sHB.trans s2) ?_
   cases hv
   exact⟨⟨fdc,ks,rfl,s2 _ _ hfB,R.nd,R.done⟩,λq e=>by cases e;exact hf0⟩
  rw[if_pos (by simp)]
  obtain⟨hlb,I0⟩:=R.pop
  obtain⟨bs,b,rfl,hb,hwt⟩:=xR hwtB
  rw[dh] at hwB
  refine Pp (l:=wl) (ae 3 rfl rfl) hwB λH2 s2=>?_
  have hw2:=s2 _ _ hwB
  have hf2:=s2 _ _ hfB
  have nwf:wl≠fdc:=bg hw2 hf2 (by intro z;cases z)
  have sH2:ak H (upd H2 wl (.lst (bs.map V.ref))):=ff hwl0 (sHB.trans s2)
  have hb2:(upd H2 wl (.lst (bs.map V.ref))) b=some (.tup (tv lb)):=by rw[az (bg (s2 _ _ hb) hw2 (by intro z;cases z))];exact s2 _ _ hb
  obtain⟨dx,fs,td,gd,ld,h1,h2,h3,h4,h5,h6,h7,h8,h9⟩:=(hG.grow sH2).ex
  obtain⟨kvs,q1,_,_,q2⟩:=h7.at ok.asc
  rcases q2 lb with ⟨_,z⟩|⟨r,t,q3,q4,dx2,fs2,dl,sl,q5,q6,q7,⟨das,q8,q9⟩,_⟩
  ·have:=Dm.dk.mpr hlb
   rw[z] at this;cases this
  have hdep:eS st lb=t.deps:=Dm.lD q4
  refine⟨_,bS (kF (b9 hr) (t:=lb) (bS (ae 0 rfl rfl) h1 kc.cG kc.cW h2) (ae 4 rfl ⟨b,rfl,hb2⟩) q1 q3) q5 kc.cT kc.kH q6,λv H3 s3 hv=>?_⟩
  cases hv
  have hdl3:=s3 _ _ q8
  have hdt3:=q9.grow s3
  have hw3:H3 wl=some (.lst (bs.map V.ref)):=s3 _ _ aK
  have hf3:H3 fdc=some (.dT (b0 ks)):=s3 _ _ (by rw[az (dw nwf)];exact hf2)
  have ndl:dl≠wl:=by
   obtain⟨dx',fs',td',gd',ld',h1',h2',h3',h4',h5',h6',h7',h8',h9'⟩:=hG.ex
   have e1:dx'=dx/\fs'=fs:=by
    have:=sH2 _ _ h1'
    rw[h1] at this
    cases this;exact⟨rfl,rfl⟩
   rw[e1.2,h2] at h2'
   cases h2'
   obtain⟨kvs',q1',_,_,q2'⟩:=h7'.at ok.asc
   have e2:kvs'=kvs:=by
    have:=sH2 _ _ q1'
    rw[q1] at this
    cases this;rfl
   subst e2
   rcases q2' lb with ⟨z,_⟩|⟨r',t',q3',q4',dx2',fs2',dl',sl',q5',q6',q7',⟨das',q8',q9'⟩,_⟩
   ·rw[q3] at z;cases z
   rw[q3] at q3'
   cases q3'
   have:=sH2 _ _ q5'
   rw[q5] at this
   cases this
   rw[q6] at q6'
   cases q6'
   exact cA q8' hwl0
  have hwtm:ba (upd H2 wl (.lst (bs.map V.ref))) bs W:=Paired.b6 (ba.grow s2 hwt) λc u q=>by rw[az (bg q hw2 (by intro z;cases z))];exact q
  have hwt3:ba H3 bs W:=ba.grow s3 hwtm
  refine⟨dl,rfl,⟨_,.of hdl3⟩,jG (K:=K) (a:=dl) (xs:=das.map V.ref) (λj σ H'=> ∃(W' ks':List (List Nat)) (as':List aa) (v5:Option V),σ=[some (.ref g),some (.ref l),some (.ref fdc),some (.ref wl),some (.ref b),v5]/\ak H H'/\S2 fdc wl H3 H'/\H' fdc=some (.dT (b0 ks'))/\H' wl=some (.lst (as'.map V.ref))/\ba H' as' W'/\Dm.RI st ls W' ks' lb (t.deps.take j)/\W'.length<=5000+ks'.length/\W'.length+2*(64-ks'.length)<(W++[lb]).length+2*(64-ks.length))
   ⟨W,ks,bs,_,rfl,sH2.trans s3,S2.refl _ _ _,hf3,hw3,hwt3,by rw[iV];exact I0,by rw[bx] at hW;omega,by rw[bx];simp⟩ (λj σ H' _ ⟨_,_,_,_,_,_,y,_⟩=> .of (y _ _ (bg hdl3 hf3 (by intro z;cases z)) ndl hdl3)) ?_ ?_⟩
  ·rintro j x σ HA hx ⟨W',ks',as',v5,rfl,sA,yA,hfA,hwA,hwtA,I,hWA,hmA⟩
   obtain⟨c,tc,ec,etc,rfl,htc⟩:=fh hdt3 hx
   have htcA:HA c=some (.tup (tv tc)):=yA _ _ (bg htc hf3 (by intro z;cases z)) (bg htc hw3 (by intro z;cases z)) htc
   obtain⟨dx',fs',td',gd',ld',h1',h2',h3',h4',h5',h6',h7',h8',h9'⟩:=(hG.grow sA).ex
   obtain⟨kvs',q1',_,_,q2'⟩:=h7'.at ok.asc
   have hin:(bO kvs' (keyOf tc)).isSome=(bj st tc).isSome:=by rcases q2' tc with ⟨e1,e2⟩|⟨_,_,e1,e2,_⟩ <;> rw[e1,e2] <;> rfl
   have etk:=Dm.iy etc
   have hks:=bM I.ci ci
   refine bc (EW.et (kC (CC (b9 hr) (ae 5 rfl ⟨c,rfl,htcA⟩) (bS (ae 0 rfl rfl) h1' kc.cG kc.cW h2') q1') λ_=>lE (jM (b9 hr) (ae 5 rfl ⟨c,rfl,htcA⟩) (ae 2 (d:=ax (.ref fdc)) rfl rfl) hfA))) (λhc H4 s4=>?_) (λhc H4 s4=>?_)
   ·rw[hin,kL,bY,cx] at hc
    have hcl:tc∈Dm.aG st:=Dm.dk.mp hc.1
    have hcn:tc∉ks':=by simpa using hc.2
    have I2:=I.add hcl hcn (by rw[hdep];exact dg etc)
    have hks2:=bM I2.ci ci
    rw[bx,j4] at hks2
    refine sJ (d:=fdc) (t:=tc) f8 (ae 2 rfl rfl) (ae 5 rfl ⟨c,rfl,s4 _ _ htcA⟩) (s4 _ _ hfA) (f_ (m:=64) hks (by decide)) λH5 s5=>?_
    rw[xS hc.2]
    have hw5:(upd H5 fdc (.dT (b0 (ks'++[tc])))) wl=some (.lst (as'.map V.ref)):=by rw[az nwf];exact s5 _ _ (s4 _ _ hwA)
    have htc5:(upd H5 fdc (.dT (b0 (ks'++[tc])))) c=some (.tup (tv tc)):=by rw[az (bg htcA hfA (by intro z;cases z))];exact s5 _ _ (s4 _ _ htcA)
    refine g8 (l:=wl) (d:=ax (.ref c)) (ae 3 rfl rfl) hw5 (by rw[aC,cQ hwtA];exact f_ (m:=6000) (by omega) (by decide)) (aM (ae 5 rfl rfl) a0) λv H6 s6 hv=>?_
    cases hv
    have yN:S2 fdc wl HA (upd H6 wl (.lst (as'.map V.ref++[.ref c]))):=((((s4.s2 fdc wl).trans (s5.s2 fdc wl)).xT).trans (s6.s2 fdc wl)).Ee
    refine⟨W'++[tc],ks'++[tc],as'++[c],_,rfl,?_,yA.trans yN,?_,by rw[aK,dh];rfl,?_,by rw[etk];exact I2,by rw[bx,bx,j4];omega,?_⟩
    ·exact ff hwl0 ((ff hf0 ((sA.trans s4).trans s5)).trans s6)
    ·rw[az (dw nwf)];exact s6 _ _ aK
    ·exact ba.snoc (Pa yN hfA hwA hwtA) (yN _ _ (bg htcA hfA (by intro z;cases z)) (bg htcA hwA (by intro z;cases z)) htcA)
    ·rw[bx,j4] at hmA
     rw[bx,bx,bx,j4,j4]
     omega
   ·have hskip:tc∈Dm.aG st->tc∈ks':=λhcl=>by
     rw[hin,kL,Dm.dk.mpr hcl,uc,cN] at hc
     simpa using hc
    exact⟨W',ks',as',_,rfl,sA.trans s4,yA.trans (s4.s2 _ _),s4 _ _ hfA,s4 _ _ hwA,hwtA.grow s4,by rw[etk];exact I.skip hskip,hWA,hmA⟩
  ·rintro σ HA ⟨W',ks',as',v5,rfl,sA,yA,hfA,hwA,hwtA,I,hWA,hmA⟩
   rw[aC,cQ hdt3,fq,←hdep] at I
   exact⟨_,hmA,W',ks',as',_,_,rfl,sA,hfA,hwA,hwtA,I.close,hWA,rfl⟩
end
section
variable {P:aI} {w:aE} {K:aA} {mg:Str->Option ac} {base:aF} {C:Cs}
def pi (C:Cs):List V->Hp->Den->Prop:=λvs H d=> ∃g a b s ta tb,vs=[.ref g,.ref a,.ref b]/\ck C H g s/\bu s/\H a=some (.tup (tv ta))/\H b=some (.tup (tv tb))/\ta∈Dm.aG s/\tb∈Dm.aG s/\d=bo ((mj s ta).contains tb)
theorem Pu:a6 ["graph","a","b"] ["graph","a","b"] (aV wT):=⟨rfl,rfl,rfl,by decide +kernel,rfl,by decide +kernel,by decide +kernel⟩
theorem Pw {f:aa} {fd:aS} (F:aX K "rests_on" "rests_on" wT f fd) (N:aq P w K mg base 1 "rested_on" ["graph","labels"] (am (sQ C))):aN P w K mg base aR 2 f fd ["graph","a","b"] (am (pi C)):=by
 refine F.ok Pu (λvs H Q E h=>?_) (λcdv A outer s H vs Q E hr h=>?_)
 ·obtain⟨d,⟨g,a,b,st,ta,tb,rfl,_⟩,_⟩:=h
  rfl
 ·obtain⟨d,⟨g,a,b,st,ta,tb,rfl,hG,ok,hta,htb,la,lb,rfl⟩,k⟩:=h
  have hone: ∀x∈[ta],x∈Dm.aG st:=λx hx=>by
   have e:x=ta:=by simpa using hx
   rw[e];exact la
  refine⟨_,au (aD ah),?_⟩
  refine aQ (Po (b9 hr) (t:=tb) (p:=Dm.dX st [ta]) (k:=(mj st ta).contains tb) (by rw[Dm.Pc ok.lf lb];simp) (ae 2 rfl ⟨b,rfl,htb⟩) (EE.jN (sF N hr (ae 0 (d:=ax (.ref g)) rfl rfl) (EE.jN (xQ (ae 1 (d:=aw (tv ta)) rfl ⟨a,rfl,hta⟩))) λv u H1 s1 ev ⟨q,as,eq,hq,ht⟩=>?_))) λv H2 s2 hv=>k v H2 s2 hv
  exact⟨g,q,st,[ta],by rw[ev,eq],hG.grow s1,ok,⟨as,hq,ht⟩,by show 1<=5000;decide,hone,rfl⟩
def sS (C:Cs):List V->Hp->Den->Prop:=λvs H d=> ∃g a s ta,vs=[.ref g,.ref a]/\ck C H g s/\bu s/\H a=some (.tup (tv ta))/\ta∈Dm.aG s/\d=bz (i0 s ta)
theorem Es:a6 ["graph","label","other"] ["graph","label"] (aV wU):=⟨rfl,rfl,rfl,by decide +kernel,rfl,by decide +kernel,by decide +kernel⟩
theorem Px {f:aa} {fd:aS} (F:aX K "resting_on" "resting_on" wU f fd) (kc:KC K C) (hs:mg "sorted"=none) (N:aq P w K mg base 2 "rests_on" ["graph","a","b"] (am (pi C))):aN P w K mg base aR 3 f fd ["graph","label"] (am (sS C)):=by
 refine F.ok Es (λvs H Q E h=>?_) (λcdv A outer s H vs Q E hr h=>?_)
 ·obtain⟨d,⟨g,a,st,ta,rfl,_⟩,_⟩:=h
  rfl
 ·obtain⟨d,⟨g,a,st,ta,rfl,hG,ok,hta,la,rfl⟩,k⟩:=h
  have nd:=Es.nd
  obtain⟨dx,fs,td,gd,ld,h1,h2,h3,h4,h5,h6,h7,h8,h9⟩:=hG.ex
  obtain⟨kvs,q1,_,⟨ls,p1,p2⟩,q2⟩:=h7.at ok.asc
  have eo:cf ls=Dm.aG st:=Dm.mE ok.asc λx=>p1.mem_iff.symm
  refine⟨_,au (aD ah),?_⟩
  have hll: ∀t∈Dm.aG st,t≠[]:=λt ht=>by
   obtain⟨u,hu,e⟩:=bp.mp ht
   rw[←e];exact Dm.lC (ok.dP u hu)
  refine aQ (EE.DT (ts:=i0 st ta) (yc (j:=2) (Dm.aG st) (λt=>aw (tv t)) (λt=>t != ta && (mj st t).contains ta) (λt=>aw (tv t)) rfl nd (EE.TD (ts:=Dm.aG st) (EE.jN (H0:=H) (by rw[←eo];exact rZ (ts:=ls) rfl rfl hs (λt ht=>hll t (p1.mem_iff.mp ht)) (p1.nodup_iff.mpr ok.asc.nodup) q1 p2 (bS (ae 0 rfl rfl) h1 kc.cG kc.cW h2)))) (dI rfl) rfl rfl (cV (m:=64) ok.lf) (λt _=>mR _) ?_ ?_)) λv H2 s2 hv=>k v H2 s2 hv
  ·rintro t ht v H' s' ⟨q,rfl,hq⟩ s0 H0 C0 cl fp
   have e:(t != ta && (mj st t).contains ta)=(!decide (t=ta) && (mj st t).contains ta):=by
    congr 1
    show (!(t == ta))=_
    by_cases h:t=ta <;> simp [h]
   rw[e]
   exact EW.et (kC (o0 hr.units (EE.T (ae 2 (d:=aw (tv t)) rfl ⟨q,rfl,hq⟩)) (EE.T (ae 1 (d:=aw (tv ta)) rfl ⟨a,rfl,s' _ _ hta⟩))) λ_=>lE (cP (fi N hr (ae 0 (d:=ax (.ref g)) rfl rfl) (ae 2 (d:=aw (tv t)) rfl ⟨q,rfl,hq⟩) (ae 1 (d:=aw (tv ta)) rfl ⟨a,rfl,s' _ _ hta⟩) λv u y H1 s1 ev ⟨p,ep,hp⟩ ⟨q2,eq2,hq2⟩=>⟨g,p,q2,st,t,ta,by rw[ev,ep,eq2],(hG.grow s').grow s1,ok,hp,hq2,ht,la,rfl⟩)))
  ·rintro t ht _ v H' s' ⟨q,rfl,hq⟩ s0 H0 C0 cl fp
   exact ae 2 rfl ⟨q,rfl,hq⟩
def sX:List V->Hp->Den->Prop:=λvs H d=> ∃l q ls kvs,vs=[.ref l,.ref q]/\cr H l ls/\ls.length<=100000/\H q=some (.dT kvs)/\d=bo (ls.all λx=>(bO kvs (keyOf x)).isSome)
theorem Et:a6 ["labels","known","label"] ["labels","known"] (aV wW):=⟨rfl,rfl,rfl,by decide +kernel,rfl,by decide +kernel,by decide +kernel⟩
theorem Py {f:aa} {fd:aS} (F:aX K "all_among" "all_among" wW f fd) (ha:mg "all"=none):aN P w K mg base aR 1 f fd ["labels","known"] (am sX):=by
 refine F.ok Et (λvs H Q E h=>?_) (λcdv A outer s H vs Q E hr h=>?_)
 ·obtain⟨d,⟨l,q,ls,kvs,rfl,_⟩,_⟩:=h
  rfl
 ·obtain⟨d,⟨l,q,ls,kvs,rfl,⟨as,hl,ht⟩,hz,hq,rfl⟩,k⟩:=h
  have nd:=Et.nd
  have hal:=cQ ht
  refine⟨_,au (aD ah),?_⟩
  refine aQ (mP (bs:=ls.map λx=>(bO kvs (keyOf x)).isSome) rfl rfl ha (lH (j:=2) (xs:=as.map V.ref) rfl nd (ae 0 (d:=bt K (as.map V.ref)) rfl ⟨l,rfl,.of hl⟩) (dI rfl) rfl rfl ?_ ?_ ?_)) λv H4 s4 hv=>k v H4 s4 ?_
  ·simp [hal]
  ·rw[aC,hal];exact cV (m:=100000) hz
  ·intro i x z hx hz2 s0 H0 C0 cl fp
   obtain⟨b2,u2,hb,hu2,rfl,hbt⟩:=fh ht hx
   rw[bC,bC,hu2] at hz2
   cases hz2
   exact Nr (b9 hr) (ae 2 rfl ⟨b2,rfl,hbt⟩) (ae 1 (d:=ax (.ref q)) rfl rfl) hq
  ·cases hv
   show V.bl _=V.bl _
   rw[l6];rfl
def sY (C:Cs):List V->Hp->Den->Prop:=λvs H d=> ∃g l s ls,vs=[.ref g,.ref l]/\ck C H g s/\bu s/\cr H l ls/\ls.length<=5000/\(∀x∈ls,x∈Dm.aG s)/\d=fr H (bz (Dm.gc s ls))
theorem Eu:a6 ["graph","goals","found","goal"] ["graph","goals"] (aV wV):=⟨rfl,rfl,rfl,by decide +kernel,rfl,by decide +kernel,by decide +kernel⟩
theorem Pz {f:aa} {fd:aS} (F:aX K "goals_and_below" "goals_and_below" wV f fd) (hs:mg "sorted"=none) (N:aq P w K mg base 1 "rested_on" ["graph","labels"] (am (sQ C))):aN P w K mg base aR 2 f fd ["graph","goals"] (am (sY C)):=by
 refine F.ok Eu (λvs H Q E h=>?_) (λcdv A outer s H vs Q E hr h=>?_)
 ·obtain⟨d,⟨g,l,st,ls,rfl,_⟩,_⟩:=h
  rfl
 ·obtain⟨d,⟨g,l,st,ls,rfl,hG,ok,hL,hll,hlab,rfl⟩,k⟩:=h
  have nd:=Eu.nd
  refine⟨_,ap (a5 (i:=2) nd rfl (aT rfl) ah) (ap (im fz rfl (gy ah) (d9 (i:=3) nd rfl (aT rfl)) (au (mC (b9 hr) ah ah ah rfl))) (au (aD ah))),?_⟩
  refine br (sF N hr (ae 0 (d:=ax (.ref g)) rfl rfl) (ae 1 (d:=ax (.ref l)) rfl rfl) (d:=x_ (Dm.dX st ls)) λv u H1 s1 ev eu=>⟨g,l,st,ls,by rw[ev,eu],hG.grow s1,ok,hL.grow s1,hll,hlab,rfl⟩) λv H1 s1 hv=>?_
  obtain⟨⟨fdc,ks0,rfl,hf1,hnd0,hks0⟩,hfr⟩:=hv
  have hf0:H fdc=none:=hfr _ rfl
  obtain⟨las,hl,hlt⟩:=hL
  refine⟨_,ae 1 (d:=ax (.ref l)) rfl rfl,λv H2 s2 hv=>?_⟩
  cases hv
  refine⟨l,rfl,⟨_,.of (s2 _ _ (s1 _ _ hl))⟩,jG (K:=K) (a:=l) (xs:=las.map V.ref) (λj σ H'=> ∃(v3:Option V) (ks:List (List Nat)),σ=[some (.ref g),some (.ref l),some (.ref fdc),v3]/\ak H H'/\H' fdc=some (.dT (b0 ks))/\ks.Nodup/\ ∀x,x∈ks↔x∈ls.take j∨Dm.dX st ls x)
   ⟨_,ks0,rfl,s1.trans s2,s2 _ _ hf1,hnd0,λx=>by rw[hks0,iV];simp⟩ (λj σ H' _ ⟨_,_,_,s,_⟩=> .of (s _ _ hl)) ?_ ?_⟩
  ·rintro j x σ HA hx ⟨v3,ks,rfl,sA,hfA,hnA,hkA⟩
   obtain⟨c,tc,ec,etc,rfl,htc⟩:=fh hlt hx
   have hsz:ks.length<=64:=bM (Dm.fZ hnA λx hx=>((hkA x).mp hx).elim (λq=>hlab x (mh q)) λq=>q.dP) ok.lf
   refine sJ (d:=fdc) (t:=tc) f8 (ae 2 rfl rfl) (ae 3 rfl ⟨c,rfl,sA _ _ htc⟩) hfA (f_ (m:=64) hsz (by decide)) λH5 s5=>?_
   refine⟨_,jj ks tc,rfl,ff hf0 (sA.trans s5),aK,O8 hnA,λx=>?_⟩
   rw[O7,hkA,Dm.iy etc,bP,ul]
   constructor
   ·rintro((q|q)|q)
    ·exact .inl (.inl q)
    ·exact .inr q
    ·exact .inl (.inr q)
   ·rintro((q|q)|q)
    ·exact .inl (.inl q)
    ·exact .inr q
    ·exact .inl (.inr q)
  ·rintro σ HA ⟨v3,ks,rfl,sA,hfA,hnA,hkA⟩
   rw[aC,cQ hlt,fq] at hkA
   have hin: ∀x∈ks,x∈Dm.aG st:=λx hx=>((hkA x).mp hx).elim (hlab x) λq=>q.dP
   refine aQ (rZ (ts:=ks) rfl rfl hs (λt ht=>?_) hnA hfA (Ed ks) (ae 2 rfl rfl)) λv HB sB hv=>k v HB (sA.trans sB) ?_
   ·obtain⟨u,hu,e⟩:=bp.mp (hin t ht)
    rw[←e];exact Dm.lC (ok.dP u hu)
   ·rw[Dm.Pk ok.lf hlab hkA] at hv
    exact⟨hv.1,λq e=>sA.free (hv.2 q e)⟩
end
end L2
namespace HT
open PySem PySem.Spec PyProof.Rows PySem.SeqAt PySem.MeetsSeq PySem.MeetsSeq2 PySem.MeetsSeq3
theorem PB (l:aa) (its:Array ac) (n:Nat) (x:ac) (e:ac->Bool) (j:Nat) (hj:j<its.size) (fnd:e its[j]=true) (ci:its.size<=sizeLine) :
  ∀(k i:Nat),j-i=k->i<=j->(∀m (hm:m<its.size),i<=m->m<j->e its[m]=false) ->
  pQ (eC.«list.remove.loop» ⟨[.ref l,x,rawInt i],[]⟩)
   (λA R s=>s.heap.get? l=some {cls:= .type "list",data:= .seq its n}/\(∀y,y∈its->EqAt A.in1 s y x (e y))/\R (.ok (.ret .none)) {s with heap:=s.heap.update l (pU λxs=>xs.eraseIdxIfInBounds j)}):=by
 intro k
 induction k with
 |zero=>
  intro i hk hij _ prog w A R s h
  have e0:i=j:=by omega
  subst e0
  obtain⟨hp,gs,dr,tk,os⟩:=s
  obtain⟨hl,eqs,h⟩:=h
  wp_walk using iQ hl
  rw[show its[((i:Nat):Int).toNat]?=some its[i] by simp [hj]]
  refine aj (eqs _ (z0 hj) prog w _ _ ?_)
  rw[fnd]
  wp_walk using (wpAny_updateSeq hl rfl (hz:=ci) (_hz':=bM (size_erased its _) (Nat.le_succ_of_le ci))),iQ hl
  simpa using h
 |succ k ih=>
  intro i hk hij hno prog w A R s h
  obtain⟨hp,gs,dr,tk,os⟩:=s
  obtain⟨hl,eqs,h⟩:=h
  have hlt:i<its.size:=by omega
  wp_walk using iQ hl
  rw[show its[((i:Nat):Int).toNat]?=some its[i] by simp [hlt]]
  refine aj (eqs _ (z0 hlt) prog w _ _ ?_)
  rw[hno i hlt (aW _) (by omega)]
  wp_walk
  rw[show ((i:Int)+1)=((i+1:Nat):Int) by push_cast;rfl]
  refine⟨uk plain_remove_loop _,qh entry_remove_loop ?_⟩
  rw[uj plain_remove_loop _]
  exact ih (i+1) (by omega) (by omega) (λm hm h1 h2=>hno m hm (by omega) h2) prog w A R _ ⟨hl,eqs,h⟩
theorem PD (l:aa) (its:Array ac) (n:Nat) (x:ac) (e:ac->Bool) (j:Nat) (hj:j<its.size) (fnd:e its[j]=true) (hno: ∀m (hm:m<its.size),m<j->e its[m]=false) (ci:its.size<=sizeLine) :
  pQ (eC.«list.remove» ⟨[.ref l,x],[]⟩)
   (λA R s=>s.heap.get? l=some {cls:= .type "list",data:= .seq its n}/\(∀y,y∈its->EqAt A.in1 s y x (e y))/\R (.ok (.ret .none)) {s with heap:=s.heap.update l (pU λxs=>xs.eraseIdxIfInBounds j)}):=by
 intro prog w A R s h
 obtain⟨hp,gs,dr,tk,os⟩:=s
 obtain⟨hl,eqs,h⟩:=h
 wp_walk using iQ hl
 refine⟨uk plain_remove_loop _,qh entry_remove_loop ?_⟩
 rw[uj plain_remove_loop _]
 exact PB l its n x e j hj fnd ci _ 0 rfl (bv _) (λm hm _ h2=>hno m hm h2) prog w A R _ ⟨hl,eqs,h⟩
end HT
namespace L2
open PySem PySem.Spec PyProof.Rows Dr
section
variable {X:Cx} {a b c e o i v:ao} {es:List ao} {pos p2 apos cpos:Pos} {σ:St} {H:Hp} {D:Ends}
def Ev:V->List V->Hp->VK->Prop:=λx vs H Q=> ∃l p t as ts j,x= .ref l/\vs=[.ref p]/\H l=some (.lst (as.map V.ref))/\ba H as ts/\H p=some (.tup (tv t))/\ts[j]?=some t/\(∀m,m<j->ts[m]?≠some t)/\Q .a9 (upd H l (.lst ((as.eraseIdx j).map V.ref)))
theorem PF (hu:X.A.units+1<cLine):oC X "list.remove" Ev:=by
 intro pins s σ H x vs v us Q I rx rv h
 obtain⟨l,p,t,as,ts,j,rfl,rfl,hH,hts,hp,hj,hno,q⟩:=h
 cases rx
 obtain⟨u,rfl,ru⟩:=rv.one
 cases ru
 obtain⟨z,its,n,r,hl,e⟩:=I.kq hH
 have e1:=mN r
 subst e1
 have hal:=cQ hts
 have hjt:j<ts.length:=(List.getElem?_eq_some_iff.mp hj).1
 have hev: ∀(m:Nat) (hm:m<(as.map aP).toArray.size),g7 X.K H t (as.map aP).toArray[m]=decide (ts[m]?=some t):=λm hm=>by
  have hm':m<as.length:=by simpa using hm
  obtain⟨b,u,hb,hu',eb,hbt⟩:=fh hts (i:=m) (x:= .ref as[m]) (by rw[bC,b8 hm'];rfl)
  have e2:(as.map aP).toArray[m]=aP b:=by
   cases eb
   simp
  rw[e2,vR I (.of hbt),hu']
  by_cases h:u=t <;> simp [h]
 have hjs:j<(as.map aP).toArray.size:=by rw[bQ,aC];omega
 refine nF F.slot_list_remove ⟨_,e,rfl⟩ F.entry_list_remove (F.args_list_remove_2 _ _) (HT.PD l (as.map aP).toArray n (.ref p) (g7 X.K H t) j hjs ?_ ?_ (by rw[bQ,aC];rw[aC] at z;omega)) ⟨e,λy hy=>rS I (.of hp) (in1_units hu) hts.eJ y (by simpa using hy),?_⟩
 ·rw[hev j hjs];exact decide_eq_true hj
 ·intro m hm hmj
  rw[hev m hm];exact decide_eq_false (hno m hmj)
 ·refine⟨.a9,_,I.oE (its':=(as.map aP).eraseIdx j) hH e ?_ ?_ ?_,rfl,q⟩
  ·show (as.map aP).toArray.eraseIdxIfInBounds j=((as.map aP).eraseIdx j).toArray
   rw[SM]
  ·rw[←r_ (f:=aP)]
   exact rY _
  ·rw[aC]
   have:=uT as j
   rw[aC] at z
   omega
theorem PH {l:aa} {t:List Nat} {as:List aa} {ts:List (List Nat)} {j:Nat} (ho:EE X o σ H (ax (.ref l))) (hl:H l=some (.lst (as.map V.ref))) (ht:ba H as ts) (he:EE X e σ H (aw (tv t))) (hj:ts[j]?=some t) (hno: ∀m,m<j->ts[m]?≠some t) (q: ∀H2,ak H H2->D.nx σ (upd H2 l (.lst ((as.eraseIdx j).map V.ref)))) (hs:starEach [e] X.env=[(false,eval e X.env)]:=by rfl) :
  ol (oB X.K "list" Ev (tE X o) (tA X [e])) D σ H:=
 ⟨_,ho,λv H2 s2 hv=>by
  cases hv
  refine⟨.inl ⟨rfl,_,.of (s2 _ _ hl)⟩,_,(aM he a0 hs).grow s2,λvs H3 s3 z=>?_⟩
  obtain⟨w,rfl,p,rfl,hp⟩:=cM z
  exact⟨l,p,t,as,ts,j,rfl,rfl,s3 _ _ (s2 _ _ hl),ht.grow (s2.trans s3),hp,hj,hno,q H3 (s2.trans s3)⟩⟩
theorem PJ {x:Str} {p:Pos} {d:aa} {kvs:List (List Key×V)} {ts:List (List Nat)} (hx:x="list") (hc:X.calm=true) (hm:X.mg x=none) (hd:H d=some (.dT kvs)) (hk:kvs.map (·.1)=ts.map keyOf) (ha:EE X a σ H (ax (.ref d))) (hg:Gl X x:=by rfl) (hs:starEach [a] X.env=[(false,eval a X.env)]:=by rfl) :
  EE X (.Call (.Name x p) [a] [] pos) σ H (fr H (bz ts)):=by
 subst hx
 refine oW (r:=λvs H Q=>vs=[.ref d]/\H d=some (.dT kvs)/\ ∀p as',H p=none->ba H as' ts->Q (.ref p) (upd H p (.lst (as'.map V.ref)))) ?_ hm boot_list (aM ha a0 hs) (λvs H1 s1 z Q q=>?_) hg (by decide) (by decide) hs
 ·intro pins s σ H xs us Q I r h
  obtain⟨rfl,hd,k⟩:=h
  obtain⟨u,rfl,hu⟩:=vals1 r
  cases hu
  obtain⟨hz,lo,xs,kt,o,es,ep,ho,hx,hdt,he,hn⟩:=I.dT hd
  have htx:=CS kt hk
  have hsz:es.size=xs.length:=tZ he
  have hkl:kvs.length=xs.length:=dR kt
  refine PySem.W.kdl_call (CQ lo hx hdt) (I.ok.hd hc) ho (by omega) λh' tk acc c kp hS hacc=>?_
  have e1:acc=((xs.map λx=>x.2.1).map aP).toArray:=by
   apply Array.ext_getElem?
   intro j
   have e0: ∀l:List ac,l.toArray[j]?=l[j]?:=λl=>by simp
   refine Eq.trans ?_ (e0 _).symm
   rw[bC,bC]
   by_cases hj:j<es.size
   ·have hja:j<acc.size:=by rw[hacc.1];exact hj
    obtain⟨en,hen,hv⟩:=hacc.2 j acc[j] (by simp [hja])
    rw[l_ hja,hv]
    rw[zN he j] at hen
    cases hxj:xs[j]? with
    |none=>rw[hxj] at hen;cases hen
    |some y=>rw[hxj] at hen;cases hen;rfl
   ·rw[l9 (by rw[hacc.1];omega),zJ (by omega)];rfl
  subst e1
  have hfree:H s.heap.objs.size=none:=I.aB.fresh (aW _)
  exact⟨.ref s.heap.objs.size,_,I.laid (t':=tk) kp (aW _) (show cz X.prog X.w _ h' _ (.lst ((xs.map λx=>x.2.1).map V.ref)) from ⟨by rw[aC,aC];omega,_,c,rY _,hS⟩),rfl,k _ _ hfree htx⟩
 ·obtain⟨v,rfl,hv⟩:=cM z
  cases hv
  exact⟨rfl,s1 _ _ hd,λp as' hp ht'=>q _ _ (bF hp) ⟨⟨p,as',rfl,aK,ht'.grow (bF hp)⟩,λz ez=>by cases ez;exact s1.free hp⟩⟩
end
theorem PL {H:Hp} {as:List aa} {ts:List (List Nat)} (j:Nat) (h:ba H as ts):ba H (as.eraseIdx j) (ts.eraseIdx j):=v8 j h
theorem PM {ts:List (List Nat)}: ∀{j:Nat} {t:List Nat},ts.Nodup->ts[j]?=some t->ts.eraseIdx j=ts.filter λx=>x != t:=by
 induction ts with
 |nil=>intro j t _ h;simp at h
 |cons a r ih=>
  intro j t nd h
  obtain⟨h1,h2⟩:=fc.mp nd
  cases j with
  |zero=>
   simp at h
   subst h
   rw[List.eraseIdx_zero,List.tail_cons,ib]
   simp
   exact(List.filter_eq_self.mpr λx hx=>by
    have:x≠a:=λe=>h1 (e▸hx)
    simpa using this).symm
  |succ j=>
   have hm:t∈r:=dg (by simpa using h)
   rw[pT,ib,if_pos (by simp;intro e;exact h1 (e▸hm)),ih h2 (by simpa using h)]
theorem PN {ts:List (List Nat)} {j:Nat} {t:List Nat} (nd:ts.Nodup) (h:ts[j]?=some t): ∀m,m<j->ts[m]?≠some t:=λm hm e=>by
 have h1:=(List.getElem?_eq_some_iff.mp h)
 have h2:=(List.getElem?_eq_some_iff.mp e)
 obtain⟨l1,e1⟩:=h1
 obtain⟨l2,e2⟩:=h2
 have:=(Iu.mp (k8.mp nd)) m j l2 l1 hm
 exact this (by rw[e2,e1])
section
variable {P:aI} {w:aE} {K:aA} {mg:Str->Option ac} {base:aF} {C:Cs}
def yd (C:Cs):List V->Hp->Den->Prop:=λvs H d=> ∃g l s ls,vs=[.ref g,.ref l]/\ck C H g s/\bu s/\cr H l ls/\ls.length<=5000/\(∀x∈ls,x∈Dm.aG s)/\(ig s ls).all (λl=>(bj s l).isSome)=true/\(∀x∈ig s ls,x∉mj s x)/\d=bz (fC s ls)
theorem Ew:a6 ["graph","goals","waiting","told","ready","label"] ["graph","goals"] (aV wX):=⟨rfl,rfl,rfl,by decide +kernel,rfl,by decide +kernel,by decide +kernel⟩
theorem PP {f:aa} {fd:aS} (F:aX K "order_of" "order_of" wX f fd) (kc:KC K C) (hlist:mg "list"=none) (hlen:mg "len"=none) (N1:aq P w K mg base 2 "goals_and_below" ["graph","goals"] (am (sY C))) (N2:aq P w K mg base 1 "all_among" ["labels","known"] (am sX)) :
  aN P w K mg base aR 3 f fd ["graph","goals"] (am (yd C)):=by
 refine F.ok Ew (λvs H Q E h=>?_) (λcdv A outer s H vs Q E hr h=>?_)
 ·obtain⟨d,⟨g,l,st,ls,rfl,_⟩,_⟩:=h
  rfl
 ·obtain⟨d,⟨g,l,st,ls,rfl,hG,ok,hL,hll,hlab,hall,hno,rfl⟩,k⟩:=h
  have nd:=Ew.nd
  have hr1:bJ 1 _:=hr.mono (by decide:1<=2)
  refine⟨_,ap (a5 (i:=2) nd rfl (aT rfl) ah) (ap (a5 (i:=3) nd rfl (nN rfl) qS)
   (ap (mr fz aY (ap (Ep (i:=4) (j:=5) rfl nd rfl rfl (Bs rfl rfl rfl rfl) (gy ah) (dI rfl) rfl rfl) (ap (mC (b9 hr) ah ah ah rfl)
    (au (fe (fG fT PySem.F.slot_list_remove PySem.F.type_list_remove (PF (b9 hr)) ah cF)))))) (au (aD ah)))),?_⟩
  refine br (sF N1 hr (ae 0 (d:=ax (.ref g)) rfl rfl) (ae 1 (d:=ax (.ref l)) rfl rfl) (d:=bz (Dm.gc st ls)) λv u H1 s1 ev eu=>⟨g,l,st,ls,by rw[ev,eu],hG.grow s1,ok,hL.grow s1,hll,hlab,rfl⟩) λv H1 s1 hv=>?_
  rw[Dm.Eh hall] at hv
  obtain⟨⟨wl,was,rfl,hw1,hwt1⟩,hfr⟩:=hv
  have hwl0:H wl=none:=hfr _ rfl
  refine λtdc ht1=>?_
  have ht0:H tdc=none:=s1.free ht1
  have sN:ak H1 (upd H1 tdc (.dT (b0 []))):=bF ht1
  have hcl:=Dm.sP ok.lf hall
  have nc:=(Dm.mZ st ls).nodup
  have hcc: ∀x∈ig st ls,∀d∈eS st x,d∈ig st ls:=λx hx d hd=>Dm.m9 ok.lf hx hd
  refine ph (λm σ H'=> ∃(left done:List (List Nat)) (as:List aa) (v4 v5:Option V) (n:Nat),σ=[some (.ref g),some (.ref l),some (.ref wl),some (.ref tdc),v4,v5]/\ak H H'/\H' tdc=some (.dT (b0 done))/\H' wl=some (.lst (as.map V.ref))/\ba H' as left/\Dm.eX st (ig st ls) left done/\Vabldg.told st n left done=fC st ls/\left.length<=n/\m=left.length) _
   ⟨_,[],was,none,none,65,rfl,s1.trans sN,aK,sN _ _ hw1,hwt1.grow sN,Dm.eX.start st nc,rfl,by omega,rfl⟩ ?_
  rintro m σ HB0 ⟨left,done,as,v4,v5,n,rfl,sB0,htB0,hwB0,hwt0,O,ho,hn,rfl⟩
  have hlp:as.length=left.length:=cQ hwt0
  have hol:=O.len nc
  refine⟨_,iC (dW rfl hlen (ae 2 (d:=bt K (as.map V.ref)) rfl ⟨wl,rfl,.of hwB0⟩)) aZ,λB sB=>?_⟩
  have htB:=sB _ _ htB0
  have hwB:=sB _ _ hwB0
  have hwtB:=hwt0.grow sB
  have sHB:ak H B:=sB0.trans sB
  rw[aC,hlp]
  by_cases he:left=[]
  ·subst he
   rw[if_neg (by simp)]
   rw[Dm.x9 (by rfl)] at ho
   refine aQ (EE.jN (PJ (ts:=done) rfl rfl hlist htB (Ed done) (ae 3 rfl rfl))) λv H2 s2 hv=>k v H2 (sHB.trans s2) ?_
   rw[←ho];exact hv
  have hpos:0<left.length:=List.length_pos_iff.mpr he
  rw[if_pos (by simpa using hpos)]
  obtain⟨lb,hfd⟩:=O.there ok.lf hcc hno he
  obtain⟨n,rfl⟩: ∃m,n=m+1:=⟨n-1,by omega⟩
  rw[Dm.x8 hfd] at ho
  have hlm:=kZ hfd
  have hlr:=p6 hfd
  have O2:=O.next hlm hlr
  have hlt:=Dm.Ek hlm
  obtain⟨rest,hrest⟩: ∃rest,left.filter (Dm.ready st done)=lb::rest:=by
   have:=List.head?_filter (p:=Dm.ready st done) (l:=left)
   rw[hfd] at this
   cases h:left.filter (Dm.ready st done) with
   |nil=>rw[h] at this;cases this
   |cons x r=>rw[h] at this;cases this;exact⟨r,rfl⟩
  have hleft: ∀x∈left,x∈Dm.aG st:=λx hx=>Dm.dk.mp (dG.mp hall x ((O.all x).mpr (.inl hx)))
  have ndl:=(List.nodup_append.mp O.nd).1
  refine Pq (Eo left (λt=>aw (tv t)) (Dm.ready st done) (λt=>aw (tv t)) (EE.TD (ae 2 (d:=bz left) rfl ⟨wl,as,rfl,hwB,hwtB⟩)) (cV (m:=64) (by omega)) (λt _=>mR _) ?_ ?_ (ak.refl B) λv H2 s2 hv0=>?_)
  ·rintro t ht v H' s' ⟨q,rfl,hq⟩ s0 H0 C0 cl fp
   obtain⟨dx,fs,td,gd,ld,h1,h2,h3,h4,h5,h6,h7,h8,h9⟩:=(hG.grow (sHB.trans s')).ex
   obtain⟨kvs,q1,_,_,q2⟩:=h7.at ok.asc
   rcases q2 t with ⟨_,z⟩|⟨r,u,q3,q4,dx2,fs2,dl,sl,q5,q6,q7,⟨das,q8,q9⟩,_⟩
   ·have:=Dm.dk.mpr (hleft t ht)
    rw[z] at this;cases this
   have hu:=(ok.deps u (Dm.find_some q4).1).1
   refine cP (g9 N2 hr1 (bS (kF (b9 hr) (t:=t) (bS (ae 0 rfl rfl) h1 kc.cG kc.cW h2) (ae 5 rfl ⟨q,rfl,hq⟩) q1 q3) q5 kc.cT kc.kH q6) (ae 3 (d:=ax (.ref tdc)) rfl rfl) λv u' H1 s1 ev eu=>?_)
   refine⟨dl,tdc,u.deps,b0 done,by rw[ev,eu],⟨das,s1 _ _ q8,q9.grow s1⟩,by omega,s1 _ _ (s' _ _ htB),?_⟩
   unfold Dm.ready
   rw[Dm.lD q4]
   simp only[kL]
  ·rintro t ht _ v H' s' ⟨q,rfl,hq⟩ s0 H0 C0 cl fp
   exact ae 5 rfl ⟨q,rfl,hq⟩
  ·obtain⟨rl,rvs,rfl,hr2,hdn⟩:=hv0
   obtain⟨ras,rfl,hrt2⟩:=so hdn
   rw[hrest] at hrt2
   have ht2:=s2 _ _ htB
   have hdl:done.length<=64:=by omega
   refine sJ (d:=tdc) (t:=lb) f8 (ae 3 rfl rfl) (ya (ws:=rest) (ae 4 rfl ⟨rl,ras,rfl,hr2,hrt2⟩) aZ) ht2 (f_ (m:=64) hdl (by decide)) λH3 s3=>?_
   have hnin:done.contains lb=false:=by
    have:=(List.nodup_append.mp O.nd).2.2 lb hlm
    cases h:done.contains lb with
    |false=>rfl
    |true=>exact(this lb (by simpa using h) rfl).elim
   rw[xS hnin]
   have hw3:(upd H3 tdc (.dT (b0 (done++[lb])))) wl=some (.lst (as.map V.ref)):=by rw[az (bg hwB htB (by intro z;cases z))];exact s3 _ _ (s2 _ _ hwB)
   have kp: ∀{c:aa} {xs:List V},H3 c=some (.tup xs)->(upd H3 tdc (.dT (b0 (done++[lb])))) c=some (.tup xs):=λ{c xs} h=>by rw[az (bg h (s3 _ _ ht2) (by intro z;cases z))];exact h
   have hr3:(upd H3 tdc (.dT (b0 (done++[lb])))) rl=some (.lst (ras.map V.ref)):=by rw[az (bg (s3 _ _ hr2) (s3 _ _ ht2) (by intro z;cases z))];exact s3 _ _ hr2
   have hwt3:ba (upd H3 tdc (.dT (b0 (done++[lb])))) as left:=Paired.b6 (hwtB.grow (s2.trans s3)) λ_ _ q=>kp q
   have hrt3:ba (upd H3 tdc (.dT (b0 (done++[lb])))) ras (lb::rest):=Paired.b6 (hrt2.grow s3) λ_ _ q=>kp q
   obtain⟨j,hjl,hj⟩:=List.mem_iff_getElem.mp hlm
   have hj':left[j]?=some lb:=by rw[b8 hjl,hj]
   refine PH (l:=wl) (t:=lb) (ae 2 rfl rfl) hw3 hwt3 (ya (ws:=rest) (ae 4 rfl ⟨rl,ras,rfl,hr3,hrt3⟩) aZ) hj' (PN ndl hj') λH4 s4=>?_
   have hw4:=s4 _ _ hw3
   refine⟨_,hlt,_,done++[lb],as.eraseIdx j,_,_,n,rfl,ff hwl0 ((ff ht0 ((sHB.trans s2).trans s3)).trans s4),?_,aK,?_,O2,ho,by omega,rfl⟩
   ·rw[az (dw (bg hwB htB (by intro z;cases z)))];exact s4 _ _ aK
   ·rw[←PM ndl hj']
    exact Paired.b6 (PL j (hwt3.grow s4)) λ_ _ q=>by rw[az (bg q hw4 (by intro z;cases z))];exact q
end
section
variable {X:Cx} {a b c e o i v:ao} {es:List ao} {pos p2 apos cpos:Pos} {σ:St} {H:Hp} {D:Ends}
theorem eY {xs:List V} (h:EA X es σ H (xs.map ax)) (hz:xs.length<=sizeLine):EE X (.List es pos) σ H (fr H (cC xs)):=
 EE.of (fF cF) λH1 s1 Q q=>⟨_,h.grow s1,λvs H2 s2 z=>by
  have e:=rX z
  subst e
  exact⟨hz,λp hp=>q _ _ (s2.trans (bF hp)) ⟨⟨p,rfl,aK⟩,λr er=>by cases er;exact(s1.trans s2).free hp⟩⟩⟩
theorem sZ {xs ys:List V} (hz:xs.length+ys.length<=sizeLine) (ha:EE X a σ H (cC xs)) (hb:EE X b σ H (cC ys)):EE X (.BinOp a .Add b pos) σ H (fr H (cC (xs++ys))):=
 mH uU ha hb λx y H1 s1 ⟨p,hp,h1⟩ ⟨q,hq,h2⟩ Q k=>⟨p,q,xs,ys,hp,hq,h1,h2,hz,λr hr=>k _ _ (bF hr) ⟨⟨r,rfl,aK⟩,λt et=>by cases et;exact s1.free hr⟩⟩
theorem eO {H0 H1 H2:Hp} {d:Den} {v:V} (s:ak H0 H1) (h:(fr H1 d).p v H2):(fr H0 d).p v H2:=⟨h.1,λq e=>s.free (h.2 q e)⟩
theorem s_ {H:Hp} {a q:aa} {o:HO} (h:upd H a o q=none):H q=none:=by
 by_cases e:q=a
 ·rw[e,aK] at h;cases h
 ·rwa[az e] at h
theorem PQ {d:aa} {vs:List (Key×ac)} {n:Int} {x:Str} {t:Tok} (ha:EE X a σ H (ax (.ref d))) (hb:EE X b σ H (aH n)) (hk: ∀h,X.K.In h->h.DictOf (cu X.prog X.w) d vs) (hv:valueAt vs (dF n)=some (.str x t)) (hs:oM b:=by intro _ _;rfl):EE X (.Subscript a b pos) σ H (ax (.str x)):=by
 have pe:PE X (.Subscript a b pos) (λσ H Q=>tE X a σ H λu H1=>tE X b σ H1 λy H2=>u= .ref d/\y= .int n/\Q (.str x) H2):=by
  intro pins s σ H Q I h
  refine Bx PySem.F.slot_dict_getitem.lookup hs (aJ (ah pins s σ H _ I h) λu s1 ⟨z,H1,I1,rx,q1⟩=>aJ (ah pins s1 σ H1 _ I1 q1) λiv s2 ⟨y,H2,I2,ry,ex,ey,q2⟩=>?_)
  subst ex ey
  obtain rfl:u=aP d:=rx
  have dd:=hk s2.heap I2.fV
  exact⟨dd.typeIs,SU (lx (k:=dF n) ry) dd.mapOf hv ⟨.str x,H2,I2.tok _,⟨t,rfl⟩,q2⟩⟩
 exact EE.of pe λH1 s1 Q q=>⟨_,ha.grow s1,λu H2 s2 eu=>⟨_,hb.grow (s1.trans s2),λy H3 s3 ey=>⟨eu,ey,q _ _ (s2.trans s3) rfl⟩⟩⟩
end
section
variable {P:aI} {w:aE} {K:aA} {mg:Str->Option ac} {base:aF} {C:Cs}
def ye (C:Cs):List V->Hp->Den->Prop:=λvs H d=> ∃g a b s ta tb,vs=[.ref g,.ref a,.ref b]/\ck C H g s/\bu s/\H a=some (.tup (tv ta))/\H b=some (.tup (tv tb))/\a8 ta=true/\a8 tb=true/\ta∈Dm.aG s/\d=aH (jA s ta tb:Nat)
theorem PR:a6 ["graph","a","b"] ["graph","a","b"] (aV wY):=⟨rfl,rfl,rfl,by decide +kernel,rfl,by decide +kernel,by decide +kernel⟩
theorem PU {f:aa} {fd:aS} (F:aX K "first_broken" "first_broken" wY f fd) (kc:KC K C) (m0:GI mg "NOTHING" 0) (m1:GI mg "NO_TARGET" 1) (m2:GI mg "CLOSES_CIRCLE" 2) (m3:GI mg "NOT_SEEN" 3) (m4:GI mg "GOES_UP" 4) (m5:GI mg "DEPENDS_ALREADY" 5)
  (N1:aq P w K mg base 2 "rests_on" ["graph","a","b"] (am (pi C))) (N2:aq P w K mg base 4 "sees" ["graph","a","b"] (am (pc C))) (N3:aq P w K mg base 4 "goes_up" ["graph","a","b"] (am (sE C))):aN P w K mg base aR 5 f fd ["graph","a","b"] (am (ye C)):=by
 refine F.ok PR (λvs H Q E h=>?_) (λcdv A outer s H vs Q E hr h=>?_)
 ·obtain⟨d,⟨g,a,b,st,ta,tb,rfl,_⟩,_⟩:=h
  rfl
 ·obtain⟨d,⟨g,a,b,st,ta,tb,rfl,hG,ok,hta,htb,la,lb,hal,rfl⟩,k⟩:=h
  refine⟨_,ap (a_ aY (au (aD ah)) bh) (ap (a_ aY (au (aD ah)) bh) (ap (a_ aY (au (aD ah)) bh) (ap (a_ aY (au (aD ah)) bh) (ap (a_ aY (au (aD ah)) bh) (au (aD ah)))))),?_⟩
  have fin: ∀{n:Nat} {x:Str} {pos:Pos} {H2:Hp} {X:Cx} {σ:St} {D:Ends},ak H H2->EE X (.Name x pos) σ H2 (aH (n:Nat))->jA st ta tb=n->(∀v H3,ak H H3->(aH (jA st ta tb:Nat)).p v H3->D.rt v H3)->qy (tE X (.Name x pos)) D σ H2:=λs2 he hn q=>aQ he λv H3 s3 hv=>q v H3 (s2.trans s3) (by rw[hn];exact hv)
  obtain⟨dx,fs,td,gd,ld,h1,h2,h3,h4,h5,h6,h7,h8,h9⟩:=hG.ex
  obtain⟨kvs,q1,_,_,q2⟩:=h7.at ok.asc
  have hin:(bO kvs (keyOf tb)).isSome=(bj st tb).isSome:=by rcases q2 tb with ⟨e1,e2⟩|⟨_,_,e1,e2,_⟩ <;> rw[e1,e2] <;> rfl
  rcases q2 ta with ⟨_,z⟩|⟨r,t,q3,q4,dx2,fs2,dl,sl,q5,q6,q7,⟨das,q8,q9⟩,_⟩
  ·have:=Dm.dk.mpr hal
   rw[z] at this;cases this
  have hdep:eS st ta=t.deps:=Dm.lD q4
  refine bc (rT (b9 hr) (EE.T (ae 2 (d:=aw (tv tb)) rfl ⟨b,rfl,htb⟩)) (EE.Ts (EE.imp (d:=ax (.ref dl)) (bS (kF (b9 hr) (t:=ta) (bS (ae 0 rfl rfl) h1 kc.cG kc.cW h2) (ae 1 rfl ⟨a,rfl,hta⟩) q1 q3) q5 kc.cT kc.kH q6) λv H2 s hv=>⟨dl,das,hv,s _ _ q8,q9.grow s⟩))) (λhc H2 s2=>?_) (λhc H2 s2=>?_)
  ·exact fin (n:=5) s2 (a4 m5) (by unfold jA;rw[if_pos (by rw[hdep];exact hc)]) k
  have e5: ¬(eS st ta).contains tb=true:=by rw[hdep,hc];decide
  refine bc (jM (b9 hr) (ae 2 rfl ⟨b,rfl,s2 _ _ htb⟩) (bS (ae 0 rfl rfl) (s2 _ _ h1) kc.cG kc.cW h2) (s2 _ _ q1)) (λhc2 H3 s3=>?_) (λhc2 H3 s3=>?_)
  ·rw[hin] at hc2
   have hf:bj st tb=none:=by simpa using hc2
   exact fin (n:=1) (s2.trans s3) (a4 m1) (by unfold jA;rw[if_neg e5,hf]) k
  rw[hin,cN] at hc2
  obtain⟨t2,hf⟩:=Option.isSome_iff_exists.mp hc2
  have hbl:tb∈Dm.aG st:=Dm.dk.mp hc2
  have sH3:=s2.trans s3
  refine bc (EW.et (gX (lG hr.gB (EE.T (ae 2 (d:=aw (tv tb)) rfl ⟨b,rfl,sH3 _ _ htb⟩)) (EE.T (ae 1 (d:=aw (tv ta)) rfl ⟨a,rfl,sH3 _ _ hta⟩))) λ_=>gW (cP (fi N1 (hr.mono (by decide)) (ae 0 (d:=ax (.ref g)) rfl rfl) (ae 2 (d:=aw (tv tb)) rfl ⟨b,rfl,sH3 _ _ htb⟩) (ae 1 (d:=aw (tv ta)) rfl ⟨a,rfl,sH3 _ _ hta⟩) λv u y H1 s1 ev ⟨p,ep,hp⟩ ⟨q,eq,hq⟩=>⟨g,p,q,st,tb,ta,by rw[ev,ep,eq],(hG.grow sH3).grow s1,ok,hp,hq,hbl,hal,rfl⟩)))) (λhc3 H4 s4=>?_) (λhc3 H4 s4=>?_)
  ·refine fin (n:=2) (sH3.trans s4) (a4 m2) ?_ k
   unfold jA uu
   rw[if_neg e5,hf]
   rw[gL,decide_eq_true_eq] at hc3
   exact if_pos hc3
  have e2: ¬(tb=ta∨uu st tb ta=true):=by
   rw[jx,decide_eq_false_iff_not] at hc3
   rintro(q|q)
   ·exact hc3.1 q
   ·unfold uu at q;rw[hc3.2] at q;cases q
  have sH4:=sH3.trans s4
  refine bc (eW (cP (fi N2 hr (ae 0 (d:=ax (.ref g)) rfl rfl) (ae 1 (d:=aw (tv ta)) rfl ⟨a,rfl,sH4 _ _ hta⟩) (ae 2 (d:=aw (tv tb)) rfl ⟨b,rfl,sH4 _ _ htb⟩) (d:=bo (ie st (bf ta) t2)) λv u y H1 s1 ev ⟨p,ep,hp⟩ ⟨q,eq,hq⟩=>⟨g,p,q,st,ta,tb,t2,by rw[ev,ep,eq],(hG.grow sH4).grow s1,ok,hp,hq,la,lb,hf,rfl⟩))) (λhc4 H5 s5=>?_) (λhc4 H5 s5=>?_)
  ·rw[cx] at hc4
   refine fin (n:=3) (sH4.trans s5) (a4 m3) ?_ k
   unfold jA
   rw[if_neg e5,hf]
   show (if tb=ta∨uu st tb ta=true then 2 else _)=3
   rw[if_neg e2,if_pos hc4]
  rw[cN] at hc4
  have sH5:=sH4.trans s5
  have e3: ∀n:Nat,(if j_ st (bf ta) (bf tb)=true then 4 else 0)=n->jA st ta tb=n:=λn hn=>by
   unfold jA
   rw[if_neg e5,hf]
   show (if tb=ta∨uu st tb ta=true then 2 else if ie st (bf ta) t2=false then 3 else _)=n
   rw[if_neg e2,if_neg (by rw[hc4];decide)]
   exact hn
  refine bc (cP (fi N3 hr (ae 0 (d:=ax (.ref g)) rfl rfl) (ae 1 (d:=aw (tv ta)) rfl ⟨a,rfl,sH5 _ _ hta⟩) (ae 2 (d:=aw (tv tb)) rfl ⟨b,rfl,sH5 _ _ htb⟩) (d:=bo (j_ st (bf ta) (bf tb))) λv u y H1 s1 ev ⟨p,ep,hp⟩ ⟨q,eq,hq⟩=>⟨g,p,q,st,ta,tb,by rw[ev,ep,eq],(hG.grow sH5).grow s1,ok,hp,hq,la,lb,rfl⟩)) (λhc5 H6 s6=>?_) (λhc5 H6 s6=>?_)
  ·exact fin (n:=4) (sH5.trans s6) (a4 m4) (e3 4 (by rw[if_pos hc5])) k
  ·exact fin (n:=0) (sH5.trans s6) (a4 m0) (e3 0 (by rw[if_neg (by rw[hc5];decide)])) k
def yf:List V->Hp->Den->Prop:=λvs H d=> ∃x:Str,vs=[.str x]/\x.cps.size<=100/\d=aw (tv x.cps.toList)
theorem Ex:a6 ["words","sign"] ["words"] (aV wv):=⟨rfl,rfl,rfl,by decide +kernel,rfl,by decide +kernel,by decide +kernel⟩
theorem boot_ord:bootBuiltins "ord"=some (.builtin "ord"):=by decide +kernel
theorem PV {f:aa} {fd:aS} (F:aX K "text_of" "text_of" wv f fd) (ht:mg "tuple"=none) (ho:mg "ord"=none):aN P w K mg base aR 1 f fd ["words"] (am yf):=by
 refine F.ok Ex (λvs H Q E h=>?_) (λcdv A outer s H vs Q E hr h=>?_)
 ·obtain⟨d,⟨x,rfl,_⟩,_⟩:=h
  rfl
 ·obtain⟨d,⟨x,rfl,hz,rfl⟩,k⟩:=h
  have nd:=Ex.nd
  refine⟨_,au (aD ah),?_⟩
  refine aQ (CY rfl ht (EE.R (NE (j:=1) (x:=x) (ys:=tv x.cps.toList) rfl nd (ae 0 rfl rfl) (dI rfl) rfl rfl (by rw[bD];simp) (cV (m:=100) hz) ?_))) λv H2 s2 hv=>k v H2 s2 hv
  intro i ch z hch hz2 s0 H0 C0 cl fp
  obtain⟨n,hn,rfl⟩:=o9 hz2
  rw[ju,hch] at hn
  cases hn
  exact iB Kb ho boot_ord (aM (ae 1 (d:=ax (.str ⟨#[ch]⟩)) rfl rfl) a0) (λvs H1 s1 z Q q=>by
   obtain⟨v,rfl,hv⟩:=cM z
   cases hv
   exact⟨_,rfl,rfl,q _ _ (ak.refl _) rfl⟩)
theorem PX:a6 ["text"] ["text"] (aV xp):=⟨rfl,rfl,rfl,by decide +kernel,rfl,by decide +kernel,by decide +kernel⟩
def yg:List V->Hp->Den->Prop:=λvs H d=> ∃a t,vs=[.ref a]/\H a=some (.tup (tv t))/\t.length<=5000/\d=cC (tv (eI t))
theorem PY {f:aa} {fd:aS} (F:aX K "with_length" "with_length" xp f fd) (hl:mg "len"=none) (ht:mg "list"=none):aN P w K mg base aR 1 f fd ["text"] (am yg):=by
 refine F.ok PX (λvs H Q E h=>?_) (λcdv A outer s H vs Q E hr h=>?_)
 ·obtain⟨d,⟨a,t,rfl,_⟩,_⟩:=h
  rfl
 ·obtain⟨d,⟨a,t,rfl,hta,hz,rfl⟩,k⟩:=h
  have hx: ∀{X:Cx} {pos:Pos},True:=trivial
  refine⟨_,au (aD ah),?_⟩
  refine aQ (CZ (xs:=[.int ((tv t).length:Nat)]) (ys:=tv t) (by rw[bD];exact cV (m:=5001) (by simp only[bm,cZ];omega)) (mQ (xs:=[.int ((tv t).length:Nat)]) (aM (dm rfl hl (EE.T (ae 0 (d:=aw (tv t)) rfl ⟨a,rfl,hta⟩))) a0) (by show 1<=sizeLine;decide)) (NF rfl ht (EE.T (ae 0 (d:=aw (tv t)) rfl ⟨a,rfl,hta⟩)))) λv H2 s2 hv=>k v H2 s2 ?_
  rw[bD] at hv
  exact hv
theorem PZ:a6 ["texts"] ["texts"] (aV xw):=⟨rfl,rfl,rfl,by decide +kernel,rfl,by decide +kernel,by decide +kernel⟩
def pj:List V->Hp->Den->Prop:=λvs H d=> ∃q ts,vs=[.ref q]/\cr H q ts/\(cK ts).length<=100000/\d=fr H (cC (tv (ts.length::cK ts)))
theorem P0 {f:aa} {fd:aS} (F:aX K "counted_lines" "counted_lines" xw f fd) (hl:mg "len"=none) (N:aq P w K mg base 1 "lines_of" ["texts"] (am sy)):aN P w K mg base aR 2 f fd ["texts"] (am pj):=by
 refine F.ok PZ (λvs H Q E h=>?_) (λcdv A outer s H vs Q E hr h=>?_)
 ·obtain⟨d,⟨q,ts,rfl,_⟩,_⟩:=h
  rfl
 ·obtain⟨d,⟨q,ts,rfl,⟨as,hq,ht⟩,hz,rfl⟩,k⟩:=h
  have hal:=cQ ht
  refine⟨_,au (aD ah),?_⟩
  refine aQ (sZ (xs:=[.int ((as.map V.ref).length:Nat)]) (ys:=tv (cK ts)) (by rw[bD];exact cV (m:=100001) (by simp only[bm,cZ];omega)) (mQ (xs:=[.int ((as.map V.ref).length:Nat)]) (aM (dW rfl hl (ae 0 (d:=bt K (as.map V.ref)) rfl ⟨q,rfl,.of hq⟩)) a0) (by show 1<=sizeLine;decide)) (fL N hr (ae 0 (d:=ax (.ref q)) rfl rfl) λv H1 s1 ev=>⟨q,as,ts,by rw[ev],s1 _ _ hq,ht.grow s1,hz,rfl⟩)) λv H2 s2 hv=>k v H2 s2 ?_
  rw[aC,hal] at hv
  exact hv
end
def ni (k:Nat):List Nat:=if k=Vabldg.MISSING then jB "missing" else if k=Vabldg.HIDDEN then jB "hidden" else jB "layer"
structure BW (P:aI) (w:aE) (K:aA) (mg:Str->Option ac):Prop where
 ex: ∃d vs,mg "BREACH_WORDS"=some (.ref d)/\(∀h,K.In h->h.DictOf (cu P w) d vs)/\ ∀k:Nat,1<=k->k<=3-> ∃(x:Str) (t:Tok),valueAt vs (dF (k:Int))=some (.str x t)/\x.cps.toList=ni k
section
variable {P:aI} {w:aE} {K:aA} {mg:Str->Option ac} {base:aF} {C:Cs}
def yh:List V->Hp->Den->Prop:=λvs H d=> ∃v b,vs=[v]/\lO H v b/\b.source≠[]/\b.source.length<=200/\b.goal.length<=200/\1<=b.kind/\b.kind<=3/\d=aw (tv (gq b))
theorem P1:a6 ["breach"] ["breach"] (aV xt):=⟨rfl,rfl,rfl,by decide +kernel,rfl,by decide +kernel,by decide +kernel⟩
theorem Ey (k:Nat):(ni k).length<=10:=by
 unfold ni
 split
 ·decide
 ·split <;> decide
theorem P2 {f:aa} {fd:aS} (F:aX K "breach_line" "breach_line" xt f fd) (hB:BW P w K mg) (N:aq P w K mg base 1 "text_of" ["words"] (am yf)):aN P w K mg base aR 2 f fd ["breach"] (am yh):=by
 refine F.ok P1 (λvs H Q E h=>?_) (λcdv A outer s H vs Q E hr h=>?_)
 ·obtain⟨d,⟨v,b,rfl,_⟩,_⟩:=h
  rfl
 ·obtain⟨d,⟨v,b,rfl,⟨r,x,y,rfl,hr0,hx,hy⟩,hn,hl1,hl2,hk1,hk3,rfl⟩,k⟩:=h
  obtain⟨bd,bvs,hm,hK,hall⟩:=hB.ex
  obtain⟨wd,tk,hw1,hw2⟩:=hall b.kind hk1 hk3
  have hwl:=Ey b.kind
  have hws:wd.cps.size<=100:=by rw[←e_,hw2];omega
  refine⟨_,au (aD ah),?_⟩
  have hpos:=List.length_pos_iff.mpr hn
  have l1:(jB " -> ").length=4:=by decide
  have l2:(jB ": ").length=2:=by decide
  have ne: ∀u:List Nat,tv (b.source++u)≠[]:=λu z=>by
   have:=congrArg lZ z
   rw[bD,bx,cZ] at this
   omega
  have cat: ∀{X:Cx} {e1 e2:ao} {pos:Pos} {σ:St} {H:Hp} {t u:List Nat},EE X e1 σ H (aw (tv (b.source++t)))->EE X e2 σ H (aw (tv u))->t.length+u.length<=1000->EE X (.BinOp e1 .Add e2 pos) σ H (aw (tv (b.source++(t++u)))):=λ{X e1 e2 pos σ H t u} h1 h2 hz=>by
   rw[←j6,mJ (b.source++t)]
   exact Ct (ne t) (by rw[bD,bD,bx];exact cV (m:=2000) (by omega)) h1 h2
  have eb:gq b=b.source++((([]++jB " -> ")++b.goal)++jB ": "++ni b.kind):=by
   unfold gq ni
   simp only[HX,j6]
  rw[eb] at k
  refine aQ (cat (cat (cat (cat (t:=[]) ?_ ?_ ?_) ?_ ?_) ?_ ?_) ?_ ?_) λv H2 s2 hv=>k v H2 s2 hv
  ·rw[fQ]
   exact EE.imp (jd (v:= .ref x) (ae 0 (d:=de K [.ref x,.ref y,.int (b.kind:Nat)]) rfl ⟨r,rfl,.of hr0⟩) aZ rfl) λv H2 s hv=>⟨x,hv,s _ _ hx⟩
  ·exact cn N hr Ch λv H1 ev=>⟨" -> ",by rw[ev],by decide,by rw[show (" -> ":Str).cps.toList=jB " -> " from by decide]⟩
  ·simp only[cZ];omega
  ·exact EE.imp (jd (v:= .ref y) (ae 0 (d:=de K [.ref x,.ref y,.int (b.kind:Nat)]) rfl ⟨r,rfl,.of hr0⟩) aZ rfl) λv H2 s hv=>⟨y,hv,s _ _ hy⟩
  ·simp only[bx,cZ];omega
  ·exact cn N hr Ch λv H1 ev=>⟨": ",by rw[ev],by decide,by rw[show (": ":Str).cps.toList=jB ": " from by decide]⟩
  ·simp only[bx,cZ];omega
  ·exact cn N hr (PQ (kz (v:= .ref bd) (d:=ax (.ref bd)) hm rfl rfl) (jd (v:= .int (b.kind:Nat)) (ae 0 (d:=de K [.ref x,.ref y,.int (b.kind:Nat)]) rfl ⟨r,rfl,.of hr0⟩) aZ rfl) hK hw1) λv H1 ev=>⟨wd,by rw[ev],hws,by rw[hw2]⟩
  ·simp only[bx,cZ];omega
def tj (C:Cs):List V->Hp->Den->Prop:=λvs H d=> ∃td s,vs=[.ref td]/\dO C.T H td s.targets/\bu s/\d=bz (ii s)
theorem Ez:a6 ["targets","least","first","circle"] ["targets"] (aV w6):=⟨rfl,rfl,rfl,by decide +kernel,rfl,by decide +kernel,by decide +kernel⟩
theorem P4 {f:aa} {fd:aS} (F:aX K "least_circle" "least_circle" w6 f fd) (hs:mg "sorted"=none) (hlen:mg "len"=none) (N:aq P w K mg base 1 "least_circle_from" ["targets","first"] (am (xV C))):aN P w K mg base aR 2 f fd ["targets"] (am (tj C)):=by
 refine F.ok Ez (λvs H Q E h=>?_) (λcdv A outer s H vs Q E hr h=>?_)
 ·obtain⟨d,⟨td,st,rfl,_⟩,_⟩:=h
  rfl
 ·obtain⟨d,⟨td,st,rfl,hT,ok,rfl⟩,k⟩:=h
  have nd:=Ez.nd
  refine⟨_,ap (a5 (i:=1) nd rfl (aT rfl) (fF gP)) (ap (im fz rfl (gy ah) (d9 (i:=2) nd rfl (aT rfl))
   (ap (a5 (i:=3) nd rfl (aT rfl) ah) (au (a_ aY (au (a5 (i:=1) nd rfl (aT rfl) ah)) bh)))) (au (aD ah))),?_⟩
  refine⟨bv _,λl0 hl0=>?_⟩
  have s0:ak H (upd H l0 (.lst [])):=bF hl0
  obtain⟨kvs,q1,_,⟨ls,p1,p2⟩,q2⟩:=(hT.grow s0).at ok.asc
  have eo:cf ls=Dm.aG st:=Dm.mE ok.asc λx=>p1.mem_iff.symm
  have hll: ∀t∈Dm.aG st,t≠[]:=λt ht=>by
   obtain⟨u,hu,e⟩:=bp.mp ht
   rw[←e];exact Dm.lC (ok.dP u hu)
  refine⟨_,rZ (ts:=ls) rfl rfl hs (λt ht=>hll t (p1.mem_iff.mp ht)) (p1.nodup_iff.mpr ok.asc.nodup) q1 p2 (ae 0 rfl rfl),λv H1 s1 hv=>?_⟩
  rw[eo] at hv
  obtain⟨⟨qa,as,rfl,ha,hat⟩,_⟩:=hv
  refine⟨qa,rfl,⟨_,.of ha⟩,jG (K:=K) (a:=qa) (xs:=as.map V.ref) (λj σ H'=> ∃(v2 v3:Option V) (la:aa),σ=[some (.ref td),some (.ref la),v2,v3]/\ak H H'/\ak H1 H'/\cr H' la (((Dm.aG st).take j).foldl (λa l=>Dm.dc a (Dm.fK st l)) []))
   ⟨none,none,l0,rfl,s0.trans s1,ak.refl _,[],s1 _ _ aK,.nil⟩ (λj σ H' _ ⟨_,_,_,_,_,s,_⟩=> .of (s _ _ ha)) ?_ ?_⟩
  ·rintro j x σ HA hx ⟨v2,v3,la,rfl,sA,xA,las,hla,hlt⟩
   obtain⟨b,tb,eb,etb,rfl,htb⟩:=fh hat hx
   have htm:=dg etb
   refine br (g9 N hr (ae 0 (d:=ax (.ref td)) rfl rfl) (ae 2 (d:=aw (tv tb)) rfl ⟨b,rfl,xA _ _ htb⟩) (d:=bz (Dm.fK st tb)) λv u H2 s2 ev ⟨p,ep,hp⟩=>⟨td,p,st,tb,by rw[ev,ep],(hT.grow sA).grow s2,ok,hp,htm,rfl⟩) λv H2 s2 hv=>?_
   obtain⟨cl,cas,rfl,hcl,hct⟩:=hv
   have hcl':=cQ hct
   have hll':=cQ hlt
   have etk:((Dm.aG st).take (j+1)).foldl (λa l=>Dm.dc a (Dm.fK st l)) []=Dm.dc (((Dm.aG st).take j).foldl (λa l=>Dm.dc a (Dm.fK st l)) []) (Dm.fK st tb):=by rw[Dm.iy etb,zY];rfl
   generalize ((Dm.aG st).take j).foldl (λa l=>Dm.dc a (Dm.fK st l)) []=acc at hlt hll' etk
   refine bc (EW.et (kC (iC (dW rfl hlen (ae 3 (d:=bt K (cas.map V.ref)) rfl ⟨cl,rfl,.of hcl⟩)) aZ) λ_=>lE (EW.et (gX (rQ (dW rfl hlen (ae 1 (d:=bt K (las.map V.ref)) rfl ⟨la,rfl,.of (s2 _ _ hla)⟩)) aZ) λ_=>gW (mM (dW rfl hlen (ae 3 (d:=bt K (cas.map V.ref)) rfl ⟨cl,rfl,.of hcl⟩)) (dW rfl hlen (ae 1 (d:=bt K (las.map V.ref)) rfl ⟨la,rfl,.of (s2 _ _ hla)⟩))))))) (λhc H3 s3=>?_) (λhc H3 s3=>?_)
   ·rw[aC,aC,hcl',hll'] at hc
    simp only[bY,gL,decide_eq_true_eq] at hc
    refine br (ae 3 (d:=ax (.ref cl)) rfl rfl) λv H4 s4 hv=>?_
    cases hv
    refine⟨_,_,cl,rfl,((sA.trans s2).trans s3).trans s4,((xA.trans s2).trans s3).trans s4,?_⟩
    have e:Dm.dc acc (Dm.fK st tb)=Dm.fK st tb:=by
     unfold Dm.dc
     rw[if_neg (by omega)]
     split
     ·rfl
     ·rw[if_pos (by omega)]
    rw[etk,e]
    exact⟨cas,s4 _ _ (s3 _ _ hcl),hct.grow (s3.trans s4)⟩
   ·rw[aC,aC,hcl',hll'] at hc
    refine⟨_,_,la,rfl,(sA.trans s2).trans s3,(xA.trans s2).trans s3,?_⟩
    have e:Dm.dc acc (Dm.fK st tb)=acc:=by
     simp only[UM,jx,decide_eq_false_iff_not] at hc
     unfold Dm.dc
     split
     ·rfl
     ·rw[if_neg (by omega),if_neg (by omega)]
    rw[etk,e]
    exact⟨las,s3 _ _ (s2 _ _ hla),hlt.grow (s2.trans s3)⟩
  ·rintro σ HA ⟨v2,v3,la,rfl,sA,xA,las,hla,hlt⟩
   have e:(as.map V.ref).length=(Dm.aG st).length:=by rw[aC,cQ hat]
   rw[e,fq,Dm.My ok.asc] at hlt
   refine aQ (ae 1 (d:=ax (.ref la)) rfl rfl) λv HW sW hv=>k v HW (sA.trans sW) ?_
   cases hv
   exact⟨la,las,rfl,sW _ _ hla,hlt.grow sW⟩
end
section
variable {X:Cx} {a b c e o i v:ao} {es:List ao} {pos p2 apos cpos:Pos} {σ:St} {H:Hp} {D:Ends}
theorem pz {x:Str} {p:Pos} {scope:bX} {y:Str} {py:Pos} {iter elt:ao} {j:Nat} {l:aa} {ls:List (List Nat)} (pr:List Nat->Bool) (hx:x="all") (hc:X.calm=true) (hm:X.mg x=none) (hN:X.N.Nodup) (hl:cr H l ls) (hi:EE X iter σ H (ax (.ref l))) (ok:gC X.N X.env.scope scope [(y,j)]) (hj:X.N[j]?=some y) (hy:scope.names.lookup y=some .local) (hz:ls.length<=100000)
  (he: ∀t∈ls,∀q,H q=some (.tup (tv t))-> ∀(s:af) (H0:Hp) (C:aa) (cl:List (Str×aa)) (fp:List aa),EE (df X scope s H0 C cl fp) elt (σ.set j (some (.ref q))) H (bo (pr t)))
  (hg:Gl X x:=by rfl) (hs: ∀x,foldedSetIterable iter X.env x=pure x:=by intro _;rfl) (hs2:starEach [.ListComp elt [⟨.Name y py,iter,[],0⟩] scope pos] X.env=[(false,eval (.ListComp elt [⟨.Name y py,iter,[],0⟩] scope pos) X.env)]:=by rfl) :
  EE X (.Call (.Name x p) [.ListComp elt [⟨.Name y py,iter,[],0⟩] scope pos] [] p2) σ H (bo (ls.all pr)):=by
 obtain⟨as,hl1,ht⟩:=hl
 have hal:=cQ ht
 have e1:(ls.map pr).all id=ls.all pr:=by rw[l6];rfl
 rw[←e1]
 refine mP hx hc hm (lH (j:=j) (xs:=as.map V.ref) hc hN (EE.imp hi λv H2 s hv=>⟨l,hv,.of (s _ _ hl1)⟩) ok hj hy (by simp [hal]) (by rw[aC,hal];exact cV hz) ?_ hs) hg hs2
 intro k u z hu hz2 s0 H0 C0 cl fp
 obtain⟨q,t,_,hk,rfl,hq⟩:=fh ht hu
 rw[bC,bC,hk] at hz2
 cases hz2
 exact he t (dg hk) q hq s0 H0 C0 cl fp
theorem EB {x:Str} {p:Pos} {scope:bX} {y:Str} {py:Pos} {iter elt:ao} {j:Nat} {l:aa} {ls:List (List Nat)} (pr:List Nat->Bool) (hx:x="any") (hc:X.calm=true) (hm:X.mg x=none) (hN:X.N.Nodup) (hl:cr H l ls) (hi:EE X iter σ H (ax (.ref l))) (ok:gC X.N X.env.scope scope [(y,j)]) (hj:X.N[j]?=some y) (hy:scope.names.lookup y=some .local) (hz:ls.length<=100000)
  (he: ∀t∈ls,∀q,H q=some (.tup (tv t))-> ∀(s:af) (H0:Hp) (C:aa) (cl:List (Str×aa)) (fp:List aa),EE (df X scope s H0 C cl fp) elt (σ.set j (some (.ref q))) H (bo (pr t)))
  (hg:Gl X x:=by rfl) (hs: ∀x,foldedSetIterable iter X.env x=pure x:=by intro _;rfl) (hs2:starEach [.ListComp elt [⟨.Name y py,iter,[],0⟩] scope pos] X.env=[(false,eval (.ListComp elt [⟨.Name y py,iter,[],0⟩] scope pos) X.env)]:=by rfl) :
  EE X (.Call (.Name x p) [.ListComp elt [⟨.Name y py,iter,[],0⟩] scope pos] [] p2) σ H (bo (ls.any pr)):=by
 obtain⟨as,hl1,ht⟩:=hl
 have hal:=cQ ht
 have e1:(ls.map pr).any id=ls.any pr:=by rw[zE];rfl
 rw[←e1]
 refine vZ hx hc hm (lH (j:=j) (xs:=as.map V.ref) hc hN (EE.imp hi λv H2 s hv=>⟨l,hv,.of (s _ _ hl1)⟩) ok hj hy (by simp [hal]) (by rw[aC,hal];exact cV hz) ?_ hs) hg hs2
 intro k u z hu hz2 s0 H0 C0 cl fp
 obtain⟨q,t,_,hk,rfl,hq⟩:=fh ht hu
 rw[bC,bC,hk] at hz2
 cases hz2
 exact he t (dg hk) q hq s0 H0 C0 cl fp
end
def cR (s:bR) (l:List Nat):Int:=if a8 l=false then -1 else if (bj s l).isNone=true then -7 else 0
def dv:Option (List (List Nat))->Int
 |none=> -2
 |some u=>if 8<u.length then -3 else if u.all (λt=>(gp t).isSome && !uo t)=false then -5 else 0
def fM (s:bR) (n:List Nat) (u:Option (List (List Nat))):Int:=
 if ic n=false then -10 else if dv u≠0 then dv u else if (s.groups.any λg=>g.name == n)=false/\16<=s.groups.length then -6 else 0
def dY (s:bR) (l:List Nat) (od ou:Option (List (List Nat))):Int:=
 if a8 l=false then -1 else match od,ou with
  |some d,some u=>if 16<d.length∨8<u.length then -3 else if d.all a8=false then -1 else if qi d=false then -4 else if u.all (λt=>(gp t).isSome)=false then -5 else if (bj s l).isNone=true/\64<=s.targets.length then -6 else 0
  |_,_=> -2
def fN (s:bR):Option (List (List Nat))->Int
 |none=> -2
 |some g=>if g.all a8=false then -1 else if g.all (λl=>(bj s l).isSome)=false then -7 else if (ig s g).all (λl=>(bj s l).isSome)=false then -9 else if (fC s g).length≠(ig s g).length then -8 else 0
def eP (s:bR) (a b:List Nat):Int:=if a8 a=false∨a8 b=false then -1 else if (bj s a).isNone=true then -7 else 0
def jR (s:bR) (a b:List Nat):Int:=if eP s a b=0/\(bj s b).isNone=true then -7 else eP s a b
structure RN (mg:Str->Option ac):Prop where
 r0:GI mg "ACCEPTED" 0
 r1:GI mg "LABEL" (-1)
 r2:GI mg "LIST" (-2)
 r3:GI mg "LIMIT" (-3)
 r4:GI mg "TWICE" (-4)
 r5:GI mg "SPEC" (-5)
 r6:GI mg "FULL" (-6)
 r7:GI mg "ABSENT" (-7)
 r8:GI mg "CIRCLE" (-8)
 r9:GI mg "MISSING_refusals" (-9)
 u_:GI mg "NAME" (-10)
 yi:GI mg "MOST_DEPENDENCIES" 16
 m8:GI mg "MOST_SPECS" 8
 P5:GI mg "MOST_TARGETS" 64
 P6:GI mg "MOST_GROUPS" 16
theorem cH {X:Cx} {e:ao} {σ:St} {H H2:Hp} {D:Ends} {m n:Int} (k: ∀v H3,ak H H3->(aH m).p v H3->D.rt v H3) (s2:ak H H2) (he:EE X e σ H2 (aH n)) (hn:m=n):qy (tE X e) D σ H2:=aQ he λv H3 s3 hv=>k v H3 (s2.trans s3) (by rw[hn];exact hv)
section
variable {P:aI} {w:aE} {K:aA} {mg:Str->Option ac} {base:aF} {C:Cs}
def tm (C:Cs):List V->Hp->Den->Prop:=λvs H d=> ∃g l s tl,vs=[.ref g,.ref l]/\ck C H g s/\bu s/\H l=some (.tup (tv tl))/\d=aH (cR s tl)
theorem P7:a6 ["graph","label"] ["graph","label"] (aV xa):=⟨rfl,rfl,rfl,by decide +kernel,rfl,by decide +kernel,by decide +kernel⟩
theorem jk {C:aa} {H:Hp} {kvs:List (List Key×V)} {s:bR} {l:List Nat} (q2: ∀l,(bO kvs (keyOf l)=none/\bj s l=none)∨ ∃r t,bO kvs (keyOf l)=some (.ref r)/\bj s l=some t/\eM C H r t.deps t.specs):(bO kvs (keyOf l)).isSome=(bj s l).isSome:=by
 rcases q2 l with ⟨e1,e2⟩|⟨_,_,e1,e2,_⟩ <;> rw[e1,e2] <;> rfl
theorem kN {α:Type} (o:Option α):(!o.isSome)=o.isNone:=by cases o <;> rfl
theorem P8 {f:aa} {fd:aS} (F:aX K "known_target_refusal" "known_target_refusal" xa f fd) (kc:KC K C) (rn:RN mg) (N1:aq P w K mg base 5 "is_label" ["text"] (am (b_ λt=> .bl (a8 t)))):aN P w K mg base aR 6 f fd ["graph","label"] (am (tm C)):=by
 refine F.ok P7 (λvs H Q E h=>?_) (λcdv A outer s H vs Q E hr h=>?_)
 ·obtain⟨d,⟨g,l,st,tl,rfl,_⟩,_⟩:=h
  rfl
 ·obtain⟨d,⟨g,l,st,tl,rfl,hG,ok,hl,rfl⟩,k⟩:=h
  refine⟨_,ap (a_ aY (au (aD ah)) bh) (ap (a_ aY (au (aD ah)) bh) (au (aD ah))),?_⟩
  obtain⟨dx,fs,td,gd,ld,h1,h2,h3,h4,h5,h6,h7,h8,h9⟩:=hG.ex
  obtain⟨kvs,q1,_,_,q2⟩:=h7.at ok.asc
  refine bc (eW (cP (cn N1 hr (ae 1 (d:=aw (tv tl)) rfl ⟨l,rfl,hl⟩) (d:=bo (a8 tl)) λv H1 ⟨p,ep,hp⟩=>⟨p,tl,by rw[ep],hp,rfl⟩))) (λhc H2 s2=>?_) (λhc H2 s2=>?_)
  ·rw[cx] at hc
   exact cH k s2 (a4 rn.r1) (by unfold cR;rw[if_pos hc])
  rw[cN] at hc
  refine bc (jM (b9 hr) (ae 1 rfl ⟨l,rfl,s2 _ _ hl⟩) (bS (ae 0 rfl rfl) (s2 _ _ h1) kc.cG kc.cW h2) (s2 _ _ q1)) (λhc2 H3 s3=>?_) (λhc2 H3 s3=>?_)
  ·rw[jk q2,kN] at hc2
   exact cH k (s2.trans s3) (a4 rn.r7) (by unfold cR;rw[if_neg (by rw[hc];decide),if_pos hc2])
  ·rw[jk q2,kN] at hc2
   exact cH k (s2.trans s3) (a4 rn.r0) (by unfold cR;rw[if_neg (by rw[hc];decide),if_neg (by rw[hc2];decide)])
def tp (C:Cs):List V->Hp->Den->Prop:=λvs H d=> ∃g a b s ta tb,vs=[.ref g,.ref a,.ref b]/\ck C H g s/\bu s/\H a=some (.tup (tv ta))/\H b=some (.tup (tv tb))/\d=aH (eP s ta tb)
theorem P9:a6 ["graph","a","b"] ["graph","a","b"] (aV xg):=⟨rfl,rfl,rfl,by decide +kernel,rfl,by decide +kernel,by decide +kernel⟩
theorem P_ {f:aa} {fd:aS} (F:aX K "may_refusal" "may_refusal" xg f fd) (kc:KC K C) (rn:RN mg) (N1:aq P w K mg base 5 "is_label" ["text"] (am (b_ λt=> .bl (a8 t)))):aN P w K mg base aR 6 f fd ["graph","a","b"] (am (tp C)):=by
 refine F.ok P9 (λvs H Q E h=>?_) (λcdv A outer s H vs Q E hr h=>?_)
 ·obtain⟨d,⟨g,a,b,st,ta,tb,rfl,_⟩,_⟩:=h
  rfl
 ·obtain⟨d,⟨g,a,b,st,ta,tb,rfl,hG,ok,hta,htb,rfl⟩,k⟩:=h
  refine⟨_,ap (a_ aY (au (aD ah)) bh) (ap (a_ aY (au (aD ah)) bh) (au (aD ah))),?_⟩
  obtain⟨dx,fs,td,gd,ld,h1,h2,h3,h4,h5,h6,h7,h8,h9⟩:=hG.ex
  obtain⟨kvs,q1,_,_,q2⟩:=h7.at ok.asc
  refine bc (EW.et (gX (eW (cP (cn N1 hr (ae 1 (d:=aw (tv ta)) rfl ⟨a,rfl,hta⟩) (d:=bo (a8 ta)) λv H1 ⟨p,ep,hp⟩=>⟨p,ta,by rw[ep],hp,rfl⟩))) λ_=>gW (eW (cP (cn N1 hr (ae 2 (d:=aw (tv tb)) rfl ⟨b,rfl,htb⟩) (d:=bo (a8 tb)) λv H1 ⟨p,ep,hp⟩=>⟨p,tb,by rw[ep],hp,rfl⟩))))) (λhc H2 s2=>?_) (λhc H2 s2=>?_)
  ·rw[gL,cx,cx] at hc
   exact cH k s2 (a4 rn.r1) (by unfold eP;rw[if_pos hc])
  have hc': ¬(a8 ta=false∨a8 tb=false):=by
   rw[jx,cN,cN] at hc
   rintro(q|q)
   ·rw[hc.1] at q;cases q
   ·rw[hc.2] at q;cases q
  refine bc (jM (b9 hr) (ae 1 rfl ⟨a,rfl,s2 _ _ hta⟩) (bS (ae 0 rfl rfl) (s2 _ _ h1) kc.cG kc.cW h2) (s2 _ _ q1)) (λhc2 H3 s3=>?_) (λhc2 H3 s3=>?_)
  ·rw[jk q2,kN] at hc2
   exact cH k (s2.trans s3) (a4 rn.r7) (by unfold eP;rw[if_neg hc',if_pos hc2])
  ·rw[jk q2,kN] at hc2
   exact cH k (s2.trans s3) (a4 rn.r0) (by unfold eP;rw[if_neg hc',if_neg (by rw[hc2];decide)])
def yj (C:Cs):List V->Hp->Den->Prop:=λvs H d=> ∃g a b s ta tb,vs=[.ref g,.ref a,.ref b]/\ck C H g s/\bu s/\H a=some (.tup (tv ta))/\H b=some (.tup (tv tb))/\d=aH (jR s ta tb)
theorem EC:a6 ["graph","a","b","refusal"] ["graph","a","b"] (aV xh):=⟨rfl,rfl,rfl,by decide +kernel,rfl,by decide +kernel,by decide +kernel⟩
theorem Qa {f:aa} {fd:aS} (F:aX K "sees_refusal" "sees_refusal" xh f fd) (kc:KC K C) (rn:RN mg) (N1:aq P w K mg base 6 "may_refusal" ["graph","a","b"] (am (tp C))):aN P w K mg base aR 7 f fd ["graph","a","b"] (am (yj C)):=by
 refine F.ok EC (λvs H Q E h=>?_) (λcdv A outer s H vs Q E hr h=>?_)
 ·obtain⟨d,⟨g,a,b,st,ta,tb,rfl,_⟩,_⟩:=h
  rfl
 ·obtain⟨d,⟨g,a,b,st,ta,tb,rfl,hG,ok,hta,htb,rfl⟩,k⟩:=h
  have nd:=EC.nd
  refine⟨_,ap (a5 (i:=3) nd rfl (aT rfl) ah) (ap (a_ aY (au (aD ah)) bh) (au (aD ah))),?_⟩
  obtain⟨dx,fs,td,gd,ld,h1,h2,h3,h4,h5,h6,h7,h8,h9⟩:=hG.ex
  obtain⟨kvs,q1,_,_,q2⟩:=h7.at ok.asc
  refine br (fi N1 hr (ae 0 (d:=ax (.ref g)) rfl rfl) (ae 1 (d:=aw (tv ta)) rfl ⟨a,rfl,hta⟩) (ae 2 (d:=aw (tv tb)) rfl ⟨b,rfl,htb⟩) (d:=aH (eP st ta tb)) λv u y H1 s1 ev ⟨p,ep,hp⟩ ⟨q,eq,hq⟩=>⟨g,p,q,st,ta,tb,by rw[ev,ep,eq],hG.grow s1,ok,hp,hq,rfl⟩) λv H1 s1 hv=>?_
  cases hv
  refine bc (EW.et (kC (rQ (ae 3 (d:=aH (eP st ta tb)) rfl rfl) (a4 rn.r0)) λ_=>lE (jM (b9 hr) (ae 2 rfl ⟨b,rfl,s1 _ _ htb⟩) (bS (ae 0 rfl rfl) (s1 _ _ h1) kc.cG kc.cW h2) (s1 _ _ q1)))) (λhc H2 s2=>?_) (λhc H2 s2=>?_)
  ·rw[jk q2,kN,bY,decide_eq_true_eq] at hc
   exact cH k (s1.trans s2) (a4 rn.r7) (by unfold jR;rw[if_pos hc])
  ·rw[jk q2,kN] at hc
   refine cH k (s1.trans s2) (ae 3 (d:=aH (eP st ta tb)) rfl rfl) ?_
   unfold jR
   refine if_neg ?_
   rintro⟨z1,z2⟩
   rw[decide_eq_true z1,z2] at hc
   cases hc
def tq:List V->Hp->Den->Prop:=λvs H d=> ∃v ou,vs=[v]/\(cq ou).p v H/\(∀u,ou=some u->u.length<=5001)/\d=aH (dv ou)
theorem ED:a6 ["specs","spec"] ["specs"] (aV xb):=⟨rfl,rfl,rfl,by decide +kernel,rfl,by decide +kernel,by decide +kernel⟩
theorem tu {ou:Option (List (List Nat))}: ∀v H1,(cq ou).p v H1->decide (v= .a9)=ou.isNone:=λv H1 h=>by
 cases ou with
 |none=>cases h;rfl
 |some u=>obtain⟨q,as,rfl,_⟩:=h;rfl
theorem Qb {f:aa} {fd:aS} (F:aX K "plain_specs_refusal" "plain_specs_refusal" xb f fd) (rn:RN mg) (hlen:mg "len"=none) (hall:mg "all"=none) (N1:aq P w K mg base 5 "is_plain_spec" ["text"] (am (b_ λt=> .bl (Dm.f7 t)))):aN P w K mg base aR 6 f fd ["specs"] (am tq):=by
 refine F.ok ED (λvs H Q E h=>?_) (λcdv A outer s H vs Q E hr h=>?_)
 ·obtain⟨d,⟨v,ou,rfl,_⟩,_⟩:=h
  rfl
 ·obtain⟨d,⟨v,ou,rfl,hv,hz,rfl⟩,k⟩:=h
  have nd:=ED.nd
  refine⟨_,ap (a_ aY (au (aD ah)) bh) (ap (a_ aY (au (aD ah)) bh) (ap (a_ aY (au (aD ah)) bh) (au (aD ah)))),?_⟩
  refine bc (rR (ae 0 (d:=cq ou) rfl hv) tu) (λhc H2 s2=>?_) (λhc H2 s2=>?_)
  ·have e:ou=none:=by simpa using hc
   exact cH k s2 (a4 rn.r2) (by rw[e];rfl)
  obtain⟨u,rfl⟩: ∃u,ou=some u:=by cases ou with|none=>cases hc|some u=>exact⟨u,rfl⟩
  obtain⟨q,as,rfl,hq,ht⟩:=hv
  have hal:=cQ ht
  have hz':=hz u rfl
  refine bc (iC (dW rfl hlen (ae 0 (d:=bt K (as.map V.ref)) rfl ⟨q,rfl,.of (s2 _ _ hq)⟩)) (a4 rn.m8)) (λhc2 H3 s3=>?_) (λhc2 H3 s3=>?_)
  ·rw[aC,hal,decide_eq_true_eq] at hc2
   exact cH k (s2.trans s3) (a4 rn.r3) (by unfold dv;dsimp only;rw[if_pos (by omega)])
  rw[aC,hal,decide_eq_false_iff_not] at hc2
  have s23:=s2.trans s3
  refine bc (eW (cP (pz (j:=1) (l:=q) (ls:=u) Dm.f7 rfl rfl hall nd ⟨as,s23 _ _ hq,ht.grow s23⟩ (ae 0 rfl rfl) (dI rfl) rfl rfl (by omega) λt htm q' hq' s0 H0 C0 cl fp=>cn N1 hr (ae 1 (d:=aw (tv t)) rfl ⟨q',rfl,hq'⟩) λv H1 ⟨p,ep,hp⟩=>⟨p,t,by rw[ep],hp,rfl⟩))) (λhc3 H4 s4=>?_) (λhc3 H4 s4=>?_)
  all_goals
   have e:u.all Dm.f7=u.all (λt=>(gp t).isSome && !uo t):=by congr 1;funext t;exact Dm.B5 t
   rw[e] at hc3
  ·rw[cx] at hc3
   exact cH k (s23.trans s4) (a4 rn.r5) (by unfold dv;dsimp only;rw[if_neg (by omega),if_pos hc3])
  ·rw[cN] at hc3
   exact cH k (s23.trans s4) (a4 rn.r0) (by unfold dv;dsimp only;rw[if_neg (by omega),if_neg (by rw[hc3];decide)])
def yk (C:Cs):List V->Hp->Den->Prop:=λvs H d=> ∃g n v s tn ou,vs=[.ref g,.ref n,v]/\ck C H g s/\bu s/\H n=some (.tup (tv tn))/\(cq ou).p v H/\(∀u,ou=some u->u.length<=5001)/\d=aH (fM s tn ou)
theorem EF:a6 ["graph","name","specs","refusal"] ["graph","name","specs"] (aV xc):=⟨rfl,rfl,rfl,by decide +kernel,rfl,by decide +kernel,by decide +kernel⟩
theorem Qc {f:aa} {fd:aS} (F:aX K "group_refusal" "group_refusal" xc f fd) (kc:KC K C) (rn:RN mg) (hlen:mg "len"=none) (N1:aq P w K mg base 2 "is_group_name" ["text"] (am (b_ λt=> .bl (ic t)))) (N2:aq P w K mg base 6 "plain_specs_refusal" ["specs"] (am tq)):aN P w K mg base aR 7 f fd ["graph","name","specs"] (am (yk C)):=by
 refine F.ok EF (λvs H Q E h=>?_) (λcdv A outer s H vs Q E hr h=>?_)
 ·obtain⟨d,⟨g,n,v,st,tn,ou,rfl,_⟩,_⟩:=h
  rfl
 ·obtain⟨d,⟨g,n,v,st,tn,ou,rfl,hG,ok,hn,hv,hz,rfl⟩,k⟩:=h
  have nd:=EF.nd
  refine⟨_,ap (a_ aY (au (aD ah)) bh) (ap (a5 (i:=3) nd rfl (aT rfl) ah) (ap (a_ aY (au (aD ah)) bh) (ap (a_ aY (au (aD ah)) bh) (au (aD ah))))),?_⟩
  obtain⟨dx,fs,td,gd,ld,h1,h2,h3,h4,h5,h6,h7,h8,h9⟩:=hG.ex
  obtain⟨kvs,q1,q0,_,q2⟩:=h8.at ok
  refine bc (eW (cP (cn N1 (hr.mono (by decide)) (ae 1 (d:=aw (tv tn)) rfl ⟨n,rfl,hn⟩) (d:=bo (ic tn)) λv H1 ⟨p,ep,hp⟩=>⟨p,tn,by rw[ep],hp,rfl⟩))) (λhc H2 s2=>?_) (λhc H2 s2=>?_)
  ·rw[cx] at hc
   exact cH k s2 (a4 rn.u_) (by unfold fM;rw[if_pos hc])
  rw[cN] at hc
  have e1: ¬ic tn=false:=by rw[hc];decide
  refine br (fL N2 hr (ae 2 (d:=cq ou) rfl ((cq ou).mono _ _ _ s2 hv)) (d:=aH (dv ou)) λu H1 s1 hu=>⟨u,ou,rfl,hu,hz,rfl⟩) λu H3 s3 hu=>?_
  cases hu
  refine bc (jL (ae 3 (d:=aH (dv ou)) rfl rfl) (a4 rn.r0)) (λhc2 H4 s4=>?_) (λhc2 H4 s4=>?_)
  ·rw[cx,decide_eq_false_iff_not] at hc2
   exact cH k ((s2.trans s3).trans s4) (ae 3 (d:=aH (dv ou)) rfl rfl) (by unfold fM;rw[if_neg e1,if_pos hc2])
  rw[cN,decide_eq_true_eq] at hc2
  have s24:=(s2.trans s3).trans s4
  refine bc (EW.et (kC (jM (b9 hr) (ae 1 rfl ⟨n,rfl,s24 _ _ hn⟩) (bS (ae 0 rfl rfl) (s24 _ _ h1) kc.cG kc.lN h3) (s24 _ _ q1)) λ_=>lE (Cu (CU rfl hlen (s24 _ _ q1) (bS (ae 0 rfl rfl) (s24 _ _ h1) kc.cG kc.lN h3)) (a4 rn.P6)))) (λhc3 H5 s5=>?_) (λhc3 H5 s5=>?_)
  all_goals rw[q2,q0] at hc3
  ·rw[bY,cx,decide_eq_true_eq] at hc3
   exact cH k (s24.trans s5) (a4 rn.r6) (by unfold fM;rw[if_neg e1,if_neg (by rw[hc2];decide),if_pos ⟨hc3.1,by omega⟩])
  ·refine cH k (s24.trans s5) (a4 rn.r0) ?_
   unfold fM
   rw[if_neg e1,if_neg (by rw[hc2];decide)]
   refine if_neg ?_
   rintro⟨z1,z2⟩
   rw[z1,decide_eq_true (by omega)] at hc3
   cases hc3
end
section
variable {P:aI} {w:aE} {K:aA} {mg:Str->Option ac} {base:aF} {C:Cs}
def yl (C:Cs):List V->Hp->Den->Prop:=λvs H d=> ∃g l v u s tl od ou,vs=[.ref g,.ref l,v,u]/\ck C H g s/\bu s/\H l=some (.tup (tv tl))/\(cq od).p v H/\(cq ou).p u H/\(∀x,od=some x->x.length<=5001)/\(∀x,ou=some x->x.length<=5001)/\d=aH (dY s tl od ou)
theorem EG:a6 ["graph","label","dependencies","specs","dependency","spec"] ["graph","label","dependencies","specs"] (aV w_):=⟨rfl,rfl,rfl,by decide +kernel,rfl,by decide +kernel,by decide +kernel⟩
theorem Qe {f:aa} {fd:aS} (F:aX K "target_refusal" "target_refusal" w_ f fd) (kc:KC K C) (rn:RN mg) (hlen:mg "len"=none) (hall:mg "all"=none) (hset:mg "set"=none) (N1:aq P w K mg base 5 "is_label" ["text"] (am (b_ λt=> .bl (a8 t)))) (N2:aq P w K mg base 6 "is_spec" ["text"] (am (b_ λt=> .bl ((gp t).isSome)))):aN P w K mg base aR 7 f fd ["graph","label","dependencies","specs"] (am (yl C)):=by
 refine F.ok EG (λvs H Q E h=>?_) (λcdv A outer s H vs Q E hr h=>?_)
 ·obtain⟨d,⟨g,l,v,u,st,tl,od,ou,rfl,_⟩,_⟩:=h
  rfl
 ·obtain⟨d,⟨g,l,v,u,st,tl,od,ou,rfl,hG,ok,hl,hv,hu,hz1,hz2,rfl⟩,k⟩:=h
  have nd:=EG.nd
  have hr5:bJ 5 _:=hr.mono (by decide:5<=6)
  refine⟨_,ap (a_ aY (au (aD ah)) bh) (ap (a_ aY (au (aD ah)) bh) (ap (a_ aY (au (aD ah)) bh) (ap (a_ aY (au (aD ah)) bh) (ap (a_ aY (au (aD ah)) bh) (ap (a_ aY (au (aD ah)) bh) (ap (a_ aY (au (aD ah)) bh) (au (aD ah)))))))),?_⟩
  obtain⟨dx,fs,td,gd,ld,h1,h2,h3,h4,h5,h6,h7,h8,h9⟩:=hG.ex
  obtain⟨kvs,q1,q0,_,q2⟩:=h7.at ok.asc
  refine bc (eW (cP (cn N1 hr5 (ae 1 (d:=aw (tv tl)) rfl ⟨l,rfl,hl⟩) (d:=bo (a8 tl)) λv H1 ⟨p,ep,hp⟩=>⟨p,tl,by rw[ep],hp,rfl⟩))) (λhc H2 s2=>?_) (λhc H2 s2=>?_)
  ·rw[cx] at hc
   exact cH k s2 (a4 rn.r1) (by unfold dY;rw[if_pos hc])
  rw[cN] at hc
  have e1: ¬a8 tl=false:=by rw[hc];decide
  refine bc (EW.et (gX (rR (ae 2 (d:=cq od) rfl ((cq od).mono _ _ _ s2 hv)) tu) λ_=>gW (rR (ae 3 (d:=cq ou) rfl ((cq ou).mono _ _ _ s2 hu)) tu))) (λhc2 H3 s3=>?_) (λhc2 H3 s3=>?_)
  ·refine cH k (s2.trans s3) (a4 rn.r2) ?_
   unfold dY
   rw[if_neg e1]
   cases od with
   |none=>rfl
   |some x=>
    cases ou with
    |none=>rfl
    |some y=>cases hc2
  obtain⟨ds,rfl⟩: ∃x,od=some x:=by cases od with|none=>cases hc2|some u=>exact⟨u,rfl⟩
  obtain⟨us,rfl⟩: ∃x,ou=some x:=by cases ou with|none=>cases hc2|some u=>exact⟨u,rfl⟩
  obtain⟨qd,das,rfl,hqd,hdt⟩:=hv
  obtain⟨qu,uas,rfl,hqu,hut⟩:=hu
  have hdl:=cQ hdt
  have hul:=cQ hut
  have hz1:=hz1 ds rfl
  have hz2:=hz2 us rfl
  have s23:=s2.trans s3
  refine bc (EW.et (gX (iC (dW rfl hlen (ae 2 (d:=bt K (das.map V.ref)) rfl ⟨qd,rfl,.of (s23 _ _ hqd)⟩)) (a4 rn.yi)) λ_=>gW (iC (dW rfl hlen (ae 3 (d:=bt K (uas.map V.ref)) rfl ⟨qu,rfl,.of (s23 _ _ hqu)⟩)) (a4 rn.m8)))) (λhc3 H4 s4=>?_) (λhc3 H4 s4=>?_)
  all_goals rw[aC,aC,hdl,hul] at hc3
  ·rw[gL,decide_eq_true_eq,decide_eq_true_eq] at hc3
   exact cH k (s23.trans s4) (a4 rn.r3) (by unfold dY;rw[if_neg e1];dsimp only;rw[if_pos (by omega)])
  rw[jx,decide_eq_false_iff_not,decide_eq_false_iff_not] at hc3
  have e3: ¬(16<ds.length∨8<us.length):=by omega
  have s24:=s23.trans s4
  refine bc (eW (cP (pz (j:=4) (l:=qd) (ls:=ds) a8 rfl rfl hall nd ⟨das,s24 _ _ hqd,hdt.grow s24⟩ (ae 2 rfl rfl) (dI rfl) rfl rfl (by omega) λt htm q' hq' s0 H0 C0 cl fp=>cn N1 hr5 (ae 4 (d:=aw (tv t)) rfl ⟨q',rfl,hq'⟩) λv H1 ⟨p,ep,hp⟩=>⟨p,t,by rw[ep],hp,rfl⟩))) (λhc4 H5 s5=>?_) (λhc4 H5 s5=>?_)
  ·rw[cx] at hc4
   exact cH k (s24.trans s5) (a4 rn.r1) (by unfold dY;rw[if_neg e1];dsimp only;rw[if_neg e3,if_pos hc4])
  rw[cN] at hc4
  have e4: ¬ds.all a8=false:=by rw[hc4];decide
  have s25:=s24.trans s5
  refine bc (mM (Od (ts:=ds) rfl hlen (Dx rfl rfl hset hr.units (by omega) (ae 2 (d:=bz ds) rfl ⟨qd,das,rfl,s25 _ _ hqd,hdt.grow s25⟩))) (dW rfl hlen (ae 2 (d:=bt K (das.map V.ref)) rfl ⟨qd,rfl,.of (s25 _ _ hqd)⟩))) (λhc5 H6 s6=>?_) (λhc5 H6 s6=>?_)
  all_goals rw[aC,hdl,Oc] at hc5
  ·rw[cx] at hc5
   exact cH k (s25.trans s6) (a4 rn.r4) (by unfold dY;rw[if_neg e1];dsimp only;rw[if_neg e3,if_neg e4,if_pos hc5])
  rw[cN] at hc5
  have e5: ¬qi ds=false:=by rw[hc5];decide
  have s26:=s25.trans s6
  refine bc (eW (cP (pz (j:=5) (l:=qu) (ls:=us) (λt=>(gp t).isSome) rfl rfl hall nd ⟨uas,s26 _ _ hqu,hut.grow s26⟩ (ae 3 rfl rfl) (dI rfl) rfl rfl (by omega) λt htm q' hq' s0 H0 C0 cl fp=>cn N2 hr (ae 5 (d:=aw (tv t)) rfl ⟨q',rfl,hq'⟩) λv H1 ⟨p,ep,hp⟩=>⟨p,t,by rw[ep],hp,rfl⟩))) (λhc6 H7 s7=>?_) (λhc6 H7 s7=>?_)
  ·rw[cx] at hc6
   exact cH k (s26.trans s7) (a4 rn.r5) (by unfold dY;rw[if_neg e1];dsimp only;rw[if_neg e3,if_neg e4,if_neg e5,if_pos hc6])
  rw[cN] at hc6
  have e6: ¬us.all (λt=>(gp t).isSome)=false:=by rw[hc6];decide
  have s27:=s26.trans s7
  refine bc (EW.et (kC (jM (b9 hr) (ae 1 rfl ⟨l,rfl,s27 _ _ hl⟩) (bS (ae 0 rfl rfl) (s27 _ _ h1) kc.cG kc.cW h2) (s27 _ _ q1)) λ_=>lE (Cu (CU rfl hlen (s27 _ _ q1) (bS (ae 0 rfl rfl) (s27 _ _ h1) kc.cG kc.cW h2)) (a4 rn.P5)))) (λhc7 H8 s8=>?_) (λhc7 H8 s8=>?_)
  all_goals rw[jk q2,kN,q0] at hc7
  ·rw[bY,decide_eq_true_eq] at hc7
   exact cH k (s27.trans s8) (a4 rn.r6) (by unfold dY;rw[if_neg e1];dsimp only;rw[if_neg e3,if_neg e4,if_neg e5,if_neg e6,if_pos ⟨hc7.1,by omega⟩])
  ·refine cH k (s27.trans s8) (a4 rn.r0) ?_
   unfold dY
   rw[if_neg e1]
   dsimp only
   rw[if_neg e3,if_neg e4,if_neg e5,if_neg e6]
   refine if_neg ?_
   rintro⟨z1,z2⟩
   rw[z1,decide_eq_true (by omega)] at hc7
   cases hc7
def ym (C:Cs):List V->Hp->Den->Prop:=λvs H d=> ∃g v s og,vs=[.ref g,v]/\ck C H g s/\bu s/\(cq og).p v H/\(∀x,og=some x->x.length<=5000)/\d=aH (fN s og)
theorem EH:a6 ["graph","goals","needed","goal","label"] ["graph","goals"] (aV xf):=⟨rfl,rfl,rfl,by decide +kernel,rfl,by decide +kernel,by decide +kernel⟩
theorem Qg {f:aa} {fd:aS} (F:aX K "order_refusal" "order_refusal" xf f fd) (kc:KC K C) (rn:RN mg) (hall:mg "all"=none) (hany:mg "any"=none) (N1:aq P w K mg base 5 "is_label" ["text"] (am (b_ λt=> .bl (a8 t)))) (N2:aq P w K mg base 1 "all_among" ["labels","known"] (am sX)) (N3:aq P w K mg base 2 "goals_and_below" ["graph","goals"] (am (sY C))) (N4:aq P w K mg base 2 "rests_on" ["graph","a","b"] (am (pi C))):aN P w K mg base aR 6 f fd ["graph","goals"] (am (ym C)):=by
 refine F.ok EH (λvs H Q E h=>?_) (λcdv A outer s H vs Q E hr h=>?_)
 ·obtain⟨d,⟨g,v,st,og,rfl,_⟩,_⟩:=h
  rfl
 ·obtain⟨d,⟨g,v,st,og,rfl,hG,ok,hv,hz,rfl⟩,k⟩:=h
  have nd:=EH.nd
  have hr1:bJ 1 _:=hr.mono (by decide:1<=5)
  have hr2:bJ 2 _:=hr.mono (by decide:2<=5)
  refine⟨_,ap (a_ aY (au (aD ah)) bh) (ap (a_ aY (au (aD ah)) bh) (ap (a_ aY (au (aD ah)) bh) (ap (a5 (i:=2) nd rfl (aT rfl) ah) (ap (a_ aY (au (aD ah)) bh) (ap (a_ aY (au (aD ah)) bh) (au (aD ah))))))),?_⟩
  obtain⟨dx,fs,td,gd,ld,h1,h2,h3,h4,h5,h6,h7,h8,h9⟩:=hG.ex
  obtain⟨kvs,q1,_,_,q2⟩:=h7.at ok.asc
  refine bc (rR (ae 1 (d:=cq og) rfl hv) tu) (λhc H2 s2=>?_) (λhc H2 s2=>?_)
  ·have e:og=none:=by simpa using hc
   exact cH k s2 (a4 rn.r2) (by rw[e];rfl)
  obtain⟨gs,rfl⟩: ∃x,og=some x:=by cases og with|none=>cases hc|some u=>exact⟨u,rfl⟩
  obtain⟨ql,gas,rfl,hql,hgt⟩:=hv
  have hz:=hz gs rfl
  have hL:cr H ql gs:=⟨gas,hql,hgt⟩
  refine bc (eW (cP (pz (j:=3) (l:=ql) (ls:=gs) a8 rfl rfl hall nd (hL.grow s2) (ae 1 rfl rfl) (dI rfl) rfl rfl (by omega) λt htm q' hq' s0 H0 C0 cl fp=>cn N1 hr (ae 3 (d:=aw (tv t)) rfl ⟨q',rfl,hq'⟩) λv H1 ⟨p,ep,hp⟩=>⟨p,t,by rw[ep],hp,rfl⟩))) (λhc2 H3 s3=>?_) (λhc2 H3 s3=>?_)
  ·rw[cx] at hc2
   exact cH k (s2.trans s3) (a4 rn.r1) (by unfold fN;dsimp only;rw[if_pos hc2])
  rw[cN] at hc2
  have e2: ¬gs.all a8=false:=by rw[hc2];decide
  have s23:=s2.trans s3
  refine bc (eW (cP (g9 N2 hr1 (ae 1 (d:=ax (.ref ql)) rfl rfl) (bS (ae 0 rfl rfl) (s23 _ _ h1) kc.cG kc.cW h2) (d:=bo (gs.all λl=>(bj st l).isSome)) λv u H1 s1 ev eu=>⟨ql,td,gs,kvs,by rw[ev,eu],hL.grow (s23.trans s1),by omega,s1 _ _ (s23 _ _ q1),by congr 2;funext x;exact(jk q2).symm⟩))) (λhc3 H4 s4=>?_) (λhc3 H4 s4=>?_)
  ·rw[cx] at hc3
   exact cH k (s23.trans s4) (a4 rn.r7) (by unfold fN;dsimp only;rw[if_neg e2,if_pos hc3])
  rw[cN] at hc3
  have e3: ¬gs.all (λl=>(bj st l).isSome)=false:=by rw[hc3];decide
  have hlab: ∀x∈gs,x∈Dm.aG st:=λx hx=>Dm.dk.mp (dG.mp hc3 x hx)
  have s24:=s23.trans s4
  refine br (EE.jN (sF N3 hr2 (ae 0 (d:=ax (.ref g)) rfl rfl) (ae 1 (d:=ax (.ref ql)) rfl rfl) (d:=bz (Dm.gc st gs)) λv u H1 s1 ev eu=>⟨g,ql,st,gs,by rw[ev,eu],(hG.grow s24).grow s1,ok,hL.grow (s24.trans s1),hz,hlab,rfl⟩)) λv H5 s5 hv=>?_
  obtain⟨qn,nas,rfl,hqn,hnt⟩:=hv
  have hN:cr H5 qn (Dm.gc st gs):=⟨nas,hqn,hnt⟩
  have s25:=s24.trans s5
  have hnin: ∀x∈Dm.gc st gs,x∈Dm.aG st:=λx hx=>Dm.dk.mp (cU.mp hx).2
  have hnl:(Dm.gc st gs).length<=64:=bM (Dm.fZ (Dm.Eg st gs).nodup hnin) ok.lf
  refine bc (eW (cP (pz (j:=4) (l:=qn) (ls:=Dm.gc st gs) (λl=>(eS st l).all λd=>(bj st d).isSome) rfl rfl hall nd hN (ae 2 rfl rfl) (dI rfl) rfl rfl (by omega) λt htm q' hq' s0 H0 C0 cl fp=>?_))) (λhc4 H6 s6=>?_) (λhc4 H6 s6=>?_)
  ·obtain⟨dx',fs',td',gd',ld',h1',h2',h3',h4',h5',h6',h7',h8',h9'⟩:=(hG.grow s25).ex
   obtain⟨kvs',q1',_,_,q2'⟩:=h7'.at ok.asc
   rcases q2' t with ⟨_,z⟩|⟨r,u,q3,q4,dx2,fs2,dl,sl,q5,q6,q7,⟨das,q8,q9⟩,_⟩
   ·have:=Dm.dk.mpr (hnin t htm)
    rw[z] at this;cases this
   have hu:=(ok.deps u (Dm.find_some q4).1).1
   refine g9 N2 hr1 (bS (kF (b9 hr) (t:=t) (bS (ae 0 rfl rfl) h1' kc.cG kc.cW h2') (ae 4 rfl ⟨q',rfl,hq'⟩) q1' q3) q5 kc.cT kc.kH q6) (bS (ae 0 rfl rfl) h1' kc.cG kc.cW h2') λv u' H1 s1 ev eu=>?_
   refine⟨dl,td',u.deps,kvs',by rw[ev,eu],⟨das,s1 _ _ q8,q9.grow s1⟩,by omega,s1 _ _ q1',?_⟩
   rw[Dm.lD q4]
   congr 2;funext x;exact(jk q2').symm
  all_goals rw[Dm.Pe ok.lf hlab] at hc4
  ·rw[cx] at hc4
   exact cH k (s25.trans s6) (a4 rn.r9) (by unfold fN;dsimp only;rw[if_neg e2,if_neg e3,if_pos hc4])
  rw[cN] at hc4
  have e4: ¬(ig st gs).all (λl=>(bj st l).isSome)=false:=by rw[hc4];decide
  have s26:=s25.trans s6
  refine bc (cP (EB (j:=4) (l:=qn) (ls:=Dm.gc st gs) (λl=>(mj st l).contains l) rfl rfl hany nd (hN.grow s6) (ae 2 rfl rfl) (dI rfl) rfl rfl (by omega) λt htm q' hq' s0 H0 C0 cl fp=>fi N4 hr2 (ae 0 (d:=ax (.ref g)) rfl rfl) (ae 4 (d:=aw (tv t)) rfl ⟨q',rfl,hq'⟩) (ae 4 (d:=aw (tv t)) rfl ⟨q',rfl,hq'⟩) λv u y H1 s1 ev ⟨p,ep,hp⟩ ⟨q3,eq3,hq3⟩=>⟨g,p,q3,st,t,t,by rw[ev,ep,eq3],(hG.grow s26).grow s1,ok,hp,hq3,hnin t htm,hnin t htm,rfl⟩)) (λhc5 H7 s7=>?_) (λhc5 H7 s7=>?_)
  all_goals rw[Dm.Eh hc4,Dm.Em ok.lf hc4] at hc5
  ·rw[decide_eq_true_eq] at hc5
   exact cH k (s26.trans s7) (a4 rn.r8) (by unfold fN;dsimp only;rw[if_neg e2,if_neg e3,if_neg e4,if_pos hc5])
  ·rw[decide_eq_false_iff_not] at hc5
   exact cH k (s26.trans s7) (a4 rn.r0) (by unfold fN;dsimp only;rw[if_neg e2,if_neg e3,if_neg e4,if_neg hc5])
end
section
variable {X:Cx} {a b c e o i v:ao} {es:List ao} {pos p2 apos cpos:Pos} {σ:St} {H:Hp} {D:Ends}
theorem Qh {H:Hp} {a b:aa} {u:HO} (h:H a=none) (hb:H b=some u):a≠b:=λe=>by rw[e,hb] at h;cases h
theorem Qi {scope:bX} {iter elt cnd:ao} {j:Nat} {d:aa} {kvs:List (List Key×V)} {ts:List (List Nat)} (ct:List Nat->Bool) (dn:List Nat->Den) (hd:H d=some (.dT kvs)) (hk:kvs.map (·.1)=ts.map keyOf)
  (hi: ∀od,EE X iter σ (upd H d (.bi od (.dT kvs))) (ax (.ref d)))
  (hz:ts.length<=sizeLine) (hst: ∀t∈ts,jg (dn t)) (hun: ∀t∈ts,∀v H' o u,H' d=some (.bi o u)->(dn t).p v H'->(dn t).p v (upd H' d u))
  (ht: ∀t∈ts,∀od q H',ak (upd H d (.bi od (.dT kvs))) H'->H' q=some (.tup (tv t))-> ∀(s:af) (H0:Hp) (C:aa) (cl:List (Str×aa)) (fp:List aa),ET (df X scope s H0 C cl fp) cnd (σ.set j (some (.ref q))) H' (ct t))
  (he: ∀t∈ts,ct t=true-> ∀od q H',ak (upd H d (.bi od (.dT kvs))) H'->H' q=some (.tup (tv t))-> ∀(s:af) (H0:Hp) (C:aa) (cl:List (Str×aa)) (fp:List aa),EE (df X scope s H0 C cl fp) elt (σ.set j (some (.ref q))) H' (dn t))
  {H1:Hp} (s1:ak H H1) {Q:VK} (q: ∀v H2,ak H1 H2->(iJ ((ts.filter ct).map dn)).p v H2->Q v H2) (od:Obj):i8 (vm (tE X iter)) (d8 j) (mS X scope cnd) (iD X scope elt) [j] σ (upd H1 d (.bi od (.dT kvs))) (λv H'=>H' d=some (.bi od (.dT kvs))/\Q v (upd H' d (.dT kvs))):=by
 have hd1:=s1 _ _ hd
 have sL:ak (upd H d (.bi od (.dT kvs))) (upd H1 d (.bi od (.dT kvs))):=λb u eb=>by
  by_cases e:b=d
  ·subst e;rw[aK] at eb ⊢;exact eb
  ·rw[az e] at eb ⊢;exact s1 _ _ eb
 have hlen:kvs.length=ts.length:=by
  have:=congrArg lZ hk
  rwa[aC,aC] at this
 refine⟨_,(hi od).grow sL,λv H2 s2 hv=>⟨d,od,hv,.inr ⟨kvs,s2 _ _ aK,λDl hD=>?_⟩⟩⟩
 have hd2:H2 d=some (.bi od (.dT kvs)):=s2 _ _ aK
 have sLD:=sL.trans s2
 let Pv:Nat->Hp->Prop:=λi H'=>ak H2 H'/\ ∃vs,H' Dl=some (.lst vs)/\bZ (((ts.take i).filter ct).map dn) vs H'
 refine⟨λi m H'=>m=ts.length-i/\i<=ts.length/\Pv i H',⟨_,rfl,bv _,bF hD,[],by rw[aK],by rw[iV];exact .nil⟩,?_⟩
 rintro i m H3 ⟨rfl,hi3,s3,vs,hD3,hv3⟩
 have hd3:=s3 _ _ hd2
 have hst': ∀dd∈((ts.take i).filter ct).map dn,jg dd:=λdd hdd=>by
  obtain⟨z,hz,rfl⟩:=bp.mp hdd
  exact hst z (mh (cU.mp hz).1)
 by_cases hlt:i<ts.length
 ·refine .inr ⟨⟨hd3,by omega⟩,λH'=>Pv (i+1) H',λH' hp=>⟨ts.length-(i+1),by omega,rfl,hlt,hp⟩,?_⟩
  rintro x H' ⟨rfl,kk,kv,qq,hkk,rfl,hqq⟩
  obtain⟨t,htt⟩: ∃t,ts[i]?=some t:=⟨_,b8 hlt⟩
  have hkt:kk=keyOf t:=by
   have:=congrArg (λl=>l[i]?) hk
   simp only[bC,hkk,htt,UA] at this
   exact cJ this
  rw[hkt,gF] at hqq
  have htm:=dg htt
  refine⟨vU σ j _,?_⟩
  rw[vV]
  refine⟨_,λs H0 C cl fp=>ht t htm od qq H' (sLD.trans s3) hqq s H0 C cl fp,λH4 s4=>?_⟩
  have etk:=DB ct htt
  cases hb:ct t with
  |false=>
   rw[hb] at etk
   simp only[dy,if_false,fQ] at etk ⊢
   refine⟨s3.trans s4,vs,s4 _ _ hD3,?_⟩
   rw[etk]
   exact hv3.mono s4
  |true=>
   rw[hb] at etk
   simp only[if_true] at etk ⊢
   refine⟨dn t,λs H0 C cl fp=>(he t htm hb od qq H' (sLD.trans s3) hqq s H0 C cl fp).grow s4,λv H5 s5 hv5=>?_⟩
   have hD5:=s5 _ _ (s4 _ _ hD3)
   refine⟨vs,hD5,?_,vW hD ((s3.trans s4).trans s5) _,vs++[v],aK,?_⟩
   ·rw[hv3.len,aC]
    have h1:=iX ct (ts.take i)
    rw[dL] at h1
    omega
   ·rw[etk,dh]
    exact bZ.snoc (bZ.Dy hD5 hst' (hv3.mono (s4.trans s5))) (hst t htm _ _ _ _ _ hD5 hv5)
 ·refine .inl ⟨⟨hd3,by omega⟩,hd3,?_⟩
  have hfull:ts.take i=ts:=l5 (by omega)
  rw[hfull] at hv3
  have nD:Dl≠d:=Qh hD hd2
  refine q _ _ (λb u eb=>?_) ⟨Dl,vs,rfl,by rw[az nD];exact hD3,?_⟩
  ·by_cases e:b=d
   ·subst e;rw[aK,←hd1,eb]
   ·rw[az e]
    exact s3 _ _ (s2 _ _ (by rw[az e];exact eb))
  ·have: ∀{ds:List (List Nat)} {vs:List V},(∀t∈ds,t∈ts)->bZ (ds.map dn) vs H3->bZ (ds.map dn) vs (upd H3 d (.dT kvs)):=by
    intro ds
    induction ds with
    |nil=>intro vs _ h;cases h;exact .nil
    |cons t ds ih=>
     intro vs hm h
     rw[aU] at h
     cases h with
     |cons h r=>exact .cons (hun t (hm t bB) _ _ _ _ hd3 h) (ih (λx hx=>hm x (bq _ hx)) r)
   exact this (λt ht=>(cU.mp ht).1) hv3
theorem Qj (hu:X.A.units+1<cLine) {d:aa} {kvs:List (List Key×V)} {t:List Nat} {v:V} (ha:EE X a σ H (ax (.ref d))) (hb:EE X b σ H (aw (tv t))) (hd:Rd H d (.dT kvs)) (hv:bO kvs (keyOf t)=some v) (hs:oM b:=by intro _ _;rfl):EE X (.Subscript a b pos) σ H (ax v):=
 EE.of (Bz hu ah ah hs) λH1 s1 Q q=>⟨_,ha.grow s1,λx H2 s2 hx=>⟨_,hb.grow (s1.trans s2),λy H3 s3 ⟨p,ey,hp⟩=>by
  cases hx
  subst ey
  refine⟨d,v,rfl,.inr ⟨kvs,keyOf t,p,?_,rfl,by rw[gF];exact hp,hv.symm⟩,q _ _ (s2.trans s3) rfl⟩
  have sA:=s1.trans (s2.trans s3)
  exact hd.imp (λh=>sA _ _ h) λ⟨o,h⟩=>⟨o,sA _ _ h⟩⟩⟩
theorem Qk {scope:bX} {iter elt cnd:ao} {i j:Nat} {d:aa} {kvs:List (List Key×V)} {ts:List (List Nat)} (ct:List Nat->Bool) (dn:List Nat->Den) (hd:H d=some (.dT kvs)) (hk:kvs.map (·.1)=ts.map keyOf)
  (hi: ∀od,EE X iter σ (upd H d (.bi od (.dT kvs))) (ax (.ref d)))
  (hz:ts.length<=sizeLine) (hst: ∀t∈ts,jg (dn t)) (hun: ∀t∈ts,∀v H' o u,H' d=some (.bi o u)->(dn t).p v H'->(dn t).p v (upd H' d u))
  (ht: ∀t∈ts,∀od q H',ak (upd H d (.bi od (.dT kvs))) H'->H' q=some (.tup (tv t))-> ∀(s:af) (H0:Hp) (C:aa) (cl:List (Str×aa)) (fp:List aa),ET (df X scope s H0 C cl fp) cnd (σ.set j (some (.ref q))) H' (ct t))
  (he: ∀t∈ts,ct t=true-> ∀od q H',ak (upd H d (.bi od (.dT kvs))) H'->H' q=some (.tup (tv t))-> ∀(s:af) (H0:Hp) (C:aa) (cl:List (Str×aa)) (fp:List aa),EE (df X scope s H0 C cl fp) elt (σ.set j (some (.ref q))) H' (dn t))
  (q: ∀v H2,ak H H2->(iJ ((ts.filter ct).map dn)).p v H2->D.nx (σ.set i (some v)) H2):BE (lr (i8 (vm (tE X iter)) (d8 j) (mS X scope cnd) (iD X scope elt) [j]) (d8 i)) D σ H:=
 ⟨d,.dT kvs,hd,fb,λod=>Qi ct dn hd hk hi hz hst hun ht he (ak.refl H) q od⟩
end
def KF (H H':Hp):Prop:=Kept H H'/\ ∀a o u,H a=some (.bi o u)->H' a=some (.bi o u)
theorem KF.trans {H H' H'':Hp} (a:KF H H') (b:KF H' H''):KF H H'':=⟨a.1.trans b.1,λx o u h=>b.2 x o u (a.2 x o u h)⟩
theorem ak.kf {H H':Hp} (s:ak H H'):KF H H':=⟨s.kept,λa o u h=>s a _ h⟩
theorem yp {H:Hp} {td:aa} {kvs kvs':List (List Key×V)} (h:H td=some (.dT kvs)):KF H (upd H td (.dT kvs')):=
 ⟨⟨λb xs hb=>by rw[az (bg hb h (by intro z;cases z))];exact hb,λb xs hb=>by rw[az (bg hb h (by intro z;cases z))];exact hb⟩,λb o u hb=>by rw[az (bg hb h (by intro z;cases z))];exact hb⟩
theorem bN.kf {K:aA} {H H':Hp} {a:aa} {xs:List V} (s:KF H H') (h:bN K H a xs):bN K H' a xs:=by
 rcases h with (h|⟨o,h⟩)|h
 ·exact .inl (.inl (s.1.1 _ _ h))
 ·exact .inl (.inr ⟨o,s.2 _ _ _ h⟩)
 ·exact .inr h
def kP (H H':Hp):Prop:=Kept H H'/\ ∀a C dx fs,H a=some (.ins C dx fs)->H' a=some (.ins C dx fs)
theorem eM.nj {C:aa} {H H':Hp} {r:aa} {ds us:List (List Nat)} (s:kP H H') (h:eM C H r ds us):eM C H' r ds us:=h.kept s.1 λdx fs e=>s.2 _ _ _ _ e
theorem EK {α:Type} {F:List Key×V->α->Prop} {key:α->List Nat} (hF: ∀kv u,F kv u->kv.1=keyOf (key u)) (l:List Nat) {kvs:List (List Key×V)} {us:List α} (h:cb F kvs us):(kvs.any λkv=>decide (kv.1=keyOf l))=true↔l∈us.map key:=by
 induction h with
 |nil=>simp
 | @cons kv u kvs us q r ih=>
  rw[gm,gL,ih,aU,be,decide_eq_true_eq,hF _ _ q]
  exact or_congr ⟨λe=>(kE e).symm,λe=>by rw[e]⟩ Iff.rfl
theorem EL {α:Type} {F G:List Key×V->α->Prop} {key:α->List Nat} {v:V} {t:α} (hF: ∀kv u,F kv u->kv.1=keyOf (key u)) (hG: ∀kv u,F kv u->G kv u) (ht:G (keyOf (key t),v) t) {kvs:List (List Key×V)} {us:List α} (h:cb F kvs us) :
  ∃us',cb G (putK kvs (keyOf (key t)) v) us'/\(key t∈us.map key->us'=us.map λu=>if key u=key t then t else u)/\(key t∉us.map key->us'=us++[t]):=by
 unfold putK
 by_cases hk:key t∈us.map key
 ·rw[if_pos ((EK hF (key t) h).mpr hk)]
  refine⟨_,?_,λ_=>rfl,λq=>(q hk).elim⟩
  clear hk
  induction h with
  |nil=>exact .nil
  | @cons kv u kvs us q r ih=>
   rw[aU,aU]
   refine .cons ?_ ih
   have e:=hF _ _ q
   by_cases z:key u=key t
   ·rw[if_pos z,if_pos (by rw[e,z]),e,z]
    exact ht
   ·rw[if_neg z,if_neg (λy=>z (kE (by rw[←e,y])))]
    exact hG _ _ q
 ·rw[if_neg (λz=>hk ((EK hF (key t) h).mp z))]
  exact⟨us++[t],sH (Paired.b6 h hG) ht,λq=>(hk q).elim,λ_=>rfl⟩
theorem Qm {α:Type} {F:List Key×V->α->Prop} {key:α->List Nat} (hF: ∀kv u,F kv u->kv.1=keyOf (key u)) (l:List Nat) {kvs:List (List Key×V)} {us:List α} (h:cb F kvs us):cb F (kr kvs (keyOf l)) (us.filter λu=>key u != l):=by
 unfold kr
 induction h with
 |nil=>exact .nil
 | @cons kv u kvs us q r ih=>
  have e:=hF _ _ q
  rw[ib,ib]
  by_cases z:key u=l
  ·rw[if_neg (by simp [e,z]),if_neg (by simp [z])]
   exact ih
  ·have h1:decide (kv.1≠keyOf l)=true:=by
    rw[decide_eq_true_eq]
    exact λy=>z (kE (by rw[←e,y]))
   rw[if_pos h1,if_pos (by simp [z])]
   exact .cons q ih
theorem dO.put {C:aa} {H H':Hp} {td x:aa} {ts:List eF} {t:eF} {kvs:List (List Key×V)} (ha:Dm.cE (ts.map λu=>u.label)) (h:dO C H td ts) (hk:H td=some (.dT kvs)) (hk':H' td=some (.dT (putK kvs (keyOf t.label) (.ref x)))) (kp:kP H H') (hx:eM C H' x t.deps t.specs):dO C H' td (nV t ts):=by
 obtain⟨kvs2,us,h1,h2,h3⟩:=h
 rw[hk] at h1
 cases h1
 obtain⟨us',p1,p2,p3⟩:=EL (key:=λt:eF=>t.label) (G:=λkv t=>kv.1=keyOf t.label/\ ∃r,kv.2= .ref r/\eM C H' r t.deps t.specs) (v:= .ref x) (t:=t) (λ_ _ q=>q.1) (λ_ _ ⟨e,r,e2,q⟩=>⟨e,r,e2,q.nj kp⟩) ⟨rfl,x,rfl,hx⟩ h3
 refine⟨_,us',hk',?_,p1⟩
 by_cases hm:t.label∈ts.map λu=>u.label
 ·rw[p2 ((h2.map _).mem_iff.mpr hm),Dm.yo ha hm]
  exact h2.map _
 ·rw[p3 (λz=>hm ((h2.map _).mem_iff.mp z))]
  exact((List.perm_append_comm.trans (qo _)).trans (h2.cons t)).trans (Dm.yn hm).symm
theorem dO.drop {C:aa} {H H':Hp} {td:aa} {ts:List eF} {l:List Nat} {kvs:List (List Key×V)} (h:dO C H td ts) (hk:H td=some (.dT kvs)) (hk':H' td=some (.dT (kr kvs (keyOf l)))) (kp:kP H H'):dO C H' td (ts.filter λt=>t.label != l):=by
 obtain⟨kvs2,us,h1,h2,h3⟩:=h
 rw[hk] at h1
 cases h1
 exact⟨_,_,hk',h2.filter _,Paired.b6 (Qm (key:=λt:eF=>t.label) (λ_ _ q=>q.1) l h3) λ_ _ ⟨e,r,e2,q⟩=>⟨e,r,e2,q.nj kp⟩⟩
theorem dO.nj {C:aa} {H H':Hp} {td:aa} {ts:List eF} {kvs:List (List Key×V)} (h:dO C H td ts) (hk:H td=some (.dT kvs)) (hk':H' td=some (.dT kvs)) (kp:kP H H'):dO C H' td ts:=by
 obtain⟨kvs2,us,h1,h2,h3⟩:=h
 rw[hk] at h1
 cases h1
 exact⟨_,us,hk',h2,Paired.b6 h3 λ_ _ ⟨e,r,e2,q⟩=>⟨e,r,e2,q.nj kp⟩⟩
theorem eN.kept {H H':Hp} {gd:aa} {gs:List fA} {kvs:List (List Key×V)} (h:eN H gd gs) (hk:H gd=some (.dT kvs)) (hk':H' gd=some (.dT kvs)) (kp:Kept H H'):eN H' gd gs:=by
 obtain⟨kvs2,us,h1,h2,h3⟩:=h
 rw[hk] at h1
 cases h1
 exact⟨_,us,hk',h2,Paired.b6 h3 λ_ _ ⟨e,r,e2,q⟩=>⟨e,r,e2,q.kept kp⟩⟩
theorem EM {g:fA}: ∀{gs:List fA},(gs.map λu=>u.name).Nodup->g.name∈gs.map (λu=>u.name)->(gs.map λu=>if u.name=g.name then g else u).Perm (g::gs.filter λu=>u.name != g.name)
 | [],_,h=>by cases h
 |v::r,nd,h=>by
  rw[aU] at nd h
  obtain⟨n1,n2⟩:=fc.mp nd
  rw[aU,ib]
  by_cases e:v.name=g.name
  ·rw[if_pos e,if_neg (by simp [e])]
   have no: ∀u∈r,u.name≠g.name:=λu hu z=>n1 (by rw[e,←z];exact bp.mpr ⟨u,hu,rfl⟩)
   have e1:(r.map λu=>if u.name=g.name then g else u)=r:=(um λu hu=>if_neg (no u hu)).trans (Af r)
   have e2:(r.filter λu=>u.name != g.name)=r:=List.filter_eq_self.mpr λu hu=>by simp [no u hu]
   rw[e1,e2]
  ·rw[if_neg e,if_pos (by simp [e])]
   have hm:g.name∈r.map λu=>u.name:=(be.mp h).resolve_left (dw e)
   exact((EM n2 hm).cons v).trans (IG g v _)
theorem eN.put {H H':Hp} {gd l:aa} {gs:List fA} {g:fA} {kvs:List (List Key×V)} (nd:(gs.map λu=>u.name).Nodup) (h:eN H gd gs) (hk:H gd=some (.dT kvs)) (hk':H' gd=some (.dT (putK kvs (keyOf g.name) (.ref l)))) (kp:Kept H H') (hl:cr H' l g.specs):eN H' gd (g::gs.filter λu=>u.name != g.name):=by
 obtain⟨kvs2,us,h1,h2,h3⟩:=h
 rw[hk] at h1
 cases h1
 obtain⟨us',p1,p2,p3⟩:=EL (key:=λt:fA=>t.name) (G:=λkv t=>kv.1=keyOf t.name/\ ∃l,kv.2= .ref l/\cr H' l t.specs) (v:= .ref l) (t:=g) (λ_ _ q=>q.1) (λ_ _ ⟨e,r,e2,q⟩=>⟨e,r,e2,q.kept kp⟩) ⟨rfl,l,rfl,hl⟩ h3
 refine⟨_,us',hk',?_,p1⟩
 by_cases hm:g.name∈gs.map λu=>u.name
 ·rw[p2 ((h2.map _).mem_iff.mpr hm)]
  exact(h2.map _).trans (EM nd hm)
 ·rw[p3 (λz=>hm ((h2.map _).mem_iff.mp z))]
  have e2:(gs.filter λu=>u.name != g.name)=gs:=List.filter_eq_self.mpr λu hu=>by
   have:u.name≠g.name:=λz=>hm (by rw[←z];exact bp.mpr ⟨u,hu,rfl⟩)
   simp [this]
  rw[e2]
  exact List.perm_append_comm.trans (h2.cons g)
theorem bu.start:bu Ah:=⟨.nil,by decide,λt h=>(nomatch h),λt h=>(nomatch h),λt h=>(nomatch h),.nil,by decide,λt h=>(nomatch h),by decide,λt h=>(nomatch h)⟩
theorem bu.put {s:bR} (ok:bu s) {l:List Nat} {d u:List (List Nat)} (h:dY s l (some d) (some u)=0) (hu: ∀t∈u,t.length<=5000):bu {s with targets:=nV {label:=l,deps:=d,specs:=u} s.targets}:=by
 unfold dY at h
 split at h
 ·cases h
 rename_i h1
 dsimp only at h
 split at h
 ·cases h
 rename_i h2
 split at h
 ·cases h
 rename_i h3
 split at h
 ·cases h
 rename_i h4
 split at h
 ·cases h
 rename_i h5
 split at h
 ·cases h
 rename_i h6
 have hl:a8 l=true:=by simpa using h1
 have hd:d.all a8=true:=by simpa using h3
 have hdi:qi d=true:=by simpa using h4
 have hsp:u.all (λt=>(gp t).isSome)=true:=by
  cases q:u.all (λt=>(gp t).isSome) with
  |true=>rfl
  |false=>exact(h5 q).elim
 have mem:= @Dm.EI {label:=l,deps:=d,specs:=u}
 refine⟨?_,?_,λt ht=>?_,λt ht=>?_,λt ht=>?_,ok.mX,ok.o_,ok.kG,ok.lay⟩
 ·show Dm.cE ((nV _ s.targets).map λt=>t.label)
  rw[Dm.B9]
  exact Dm.vv ok.asc
 ·show (nV _ s.targets).length<=64
  rw[Dm.Ql ok.asc]
  split
  ·exact ok.ci
  ·rename_i hn
   have:(bj s l).isNone=true:=by
    cases hf:bj s l with
    |none=>rfl
    |some t=>exact(hn (Dm.dk.mp (by rw[hf];rfl))).elim
   have h7: ¬64<=s.targets.length:=λz=>h6 ⟨this,z⟩
   omega
 ·rcases mem ht with e|ht
  ·rw[e];exact hl
  ·exact ok.dP t ht
 ·rcases mem ht with e|ht
  ·rw[e]
   exact⟨by show d.length<=16;omega,(Dm.rA d).mp hdi,dG.mp hd⟩
  ·exact ok.deps t ht
 ·rcases mem ht with e|ht
  ·rw[e]
   exact⟨by show u.length<=8;omega,λx hx=>⟨dG.mp hsp x hx,hu x hx⟩⟩
  ·exact ok.specs t ht
theorem bu.drop {s:bR} (ok:bu s) (l:List Nat):bu {s with targets:=s.targets.filter λt=>t.label != l}:=by
 have sub: ∀t,t∈s.targets.filter (λt=>t.label != l)->t∈s.targets:=λt ht=>(cU.mp ht).1
 refine⟨?_,bM (iX _ _) ok.ci,λt ht=>ok.dP t (sub t ht),λt ht=>ok.deps t (sub t ht),λt ht=>ok.specs t (sub t ht),ok.mX,ok.o_,ok.kG,ok.lay⟩
 show Dm.cE ((s.targets.filter λt=>t.label != l).map λt=>t.label)
 rw[Dm.Mt]
 exact Dm.xZ _ ok.asc
theorem EN {u:List (List Nat)} (h:dv (some u)=0):u.length<=8/\ ∀t∈u,((gp t).isSome && !uo t)=true:=by
 unfold dv at h
 dsimp only at h
 split at h
 ·cases h
 rename_i h1
 split at h
 ·cases h
 rename_i h2
 exact⟨by omega,dG.mp (by simpa using h2)⟩
theorem bu.group {s:bR} (ok:bu s) {n:List Nat} {u:List (List Nat)} (h:fM s n (some u)=0) (hu: ∀t∈u,t.length<=5000):bu {s with groups:={name:=n,specs:=u}::s.groups.filter λg=>g.name != n}:=by
  unfold fM at h
  split at h
  · cases h
  rename_i h1
  split at h
  · rename_i h2;exact(h2 h).elim
  rename_i h2
  split at h
  · cases h
  rename_i h3
  have hs:dv (some u)=0:=by
    rcases zW (dv (some u)=0) with q|q
    · exact q
    · exact(h2 q).elim
  obtain⟨hs1,hs2⟩:=EN hs
  have hg: ∀g∈({name:=n,specs:=u}:fA)::s.groups.filter (λg=>g.name != n),g={name:=n,specs:=u}∨g∈s.groups:=λg hg=>(be.mp hg).imp id λq=>(cU.mp q).1
  refine⟨ok.asc,ok.ci,ok.dP,ok.deps,ok.specs,?_,?_,λg hm=>?_,ok.lay⟩
  · show ((({name:=n,specs:=u}:fA)::s.groups.filter λg=>g.name != n).map λg=>g.name).Nodup
    rw[aU,fc]
    refine⟨λz=>?_,(List.filter_sublist.map _).nodup ok.mX⟩
    obtain⟨g,hg,e⟩:=bp.mp z
    have:=(cU.mp hg).2
    rw[e] at this
    simp at this
  · show (({name:=n,specs:=u}:fA)::s.groups.filter λg=>g.name != n).length<=16
    rw[bm]
    have hle:=iX (λg:fA=>g.name != n) s.groups
    cases hb:(s.groups.any λg=>g.name == n) with
    |false=>
      have h4: ¬16<=s.groups.length:=λz=>h3 ⟨hb,z⟩
      omega
    |true=>
      obtain⟨g,hg,e⟩:=zU.mp hb
      have hlt:(s.groups.filter λg=>g.name != n).length<s.groups.length:=by
        rcases IF (s.groups.filter λg=>g.name != n).length s.groups.length with q|q
        · exact q
        · have e2:=List.filter_eq_self.mp (List.filter_sublist.eq_of_length_le q) g hg
          have e3:g.name=n:=eq_of_beq e
          simp [e3] at e2
      have:=ok.o_
      omega
  · rcases hg g hm with e|hm
    · rw[e];exact⟨hs1,λt ht=>⟨hs2 t ht,hu t ht⟩⟩
    · exact ok.kG g hm
theorem bu.Qn {s:bR} (ok:bu s) {u:List (List Nat)} (h:dv (some u)=0) (hu: ∀t∈u,t.length<=5000):bu {s with layers:=u}:=by
 obtain⟨hs1,hs2⟩:=EN h
 exact⟨ok.asc,ok.ci,ok.dP,ok.deps,ok.specs,ok.mX,ok.o_,ok.kG,hs1,λt ht=>⟨hs2 t ht,hu t ht⟩⟩
section
variable {P:aI} {w:aE} {K:aA} {mg:Str->Option ac} {base:aF} {C:Cs}
def pA (C:Cs):List V->Hp->Den->Prop:=λvs H d=> ∃g l s tl,vs=[.ref g,.ref l]/\ck C H g s/\bu s/\H l=some (.tup (tv tl))/\a8 tl=true/\d=bz (gM s tl)
def yq:List V->Hp->Den->Prop:=λvs H d=> ∃a l g t ps gkvs lk,vs=[.ref a,.ref l,.ref g]/\H a=some (.tup (tv t))/\t.length<=5000/\cr H l ps/\ps.length<=64/\(∀p∈ps,p.length<=5000)/\H g=some (.dT gkvs)/\mW H gkvs lk/\d=bo (ps.any λp=>Dm.iA lk t p)
theorem EQ:a6 ["spec","packages","groups","package"] ["spec","packages","groups"] (aV xj):=⟨rfl,rfl,rfl,by decide +kernel,rfl,by decide +kernel,by decide +kernel⟩
theorem Qo {f:aa} {fd:aS} (F:aX K "admits_one_of" "admits_one_of" xj f fd) (hany:mg "any"=none) (N:aq P w K mg base 3 "spec_admits" ["spec","package","groups"] (am sw)):aN P w K mg base aR 4 f fd ["spec","packages","groups"] (am yq):=by
 refine F.ok EQ (λvs H Q E h=>?_) (λcdv A outer s H vs Q E hr h=>?_)
 ·obtain⟨d,⟨a,l,g,t,ps,gkvs,lk,rfl,_⟩,_⟩:=h
  rfl
 ·obtain⟨d,⟨a,l,g,t,ps,gkvs,lk,rfl,ha,hz,hL,hpl,hpz,hg,hgo,rfl⟩,k⟩:=h
  have nd:=EQ.nd
  refine⟨_,au (aD ah),?_⟩
  refine aQ (EB (j:=3) (l:=l) (ls:=ps) (λp=>Dm.iA lk t p) rfl rfl hany nd hL (ae 1 rfl rfl) (dI rfl) rfl rfl (by omega) λu hum q' hq' s0 H0 C0 cl fp=>fi N hr (ae 0 (d:=aw (tv t)) rfl ⟨a,rfl,ha⟩) (ae 3 (d:=aw (tv u)) rfl ⟨q',rfl,hq'⟩) (ae 2 (d:=ax (.ref g)) rfl rfl) λv x y H1 s1 ⟨p,ep,hp⟩ ⟨q,eq,hq⟩ ey=>⟨p,q,g,t,u,gkvs,lk,by rw[ep,eq,ey],hp,hq,hz,hpz u hum,s1 _ _ hg,hgo.grow s1,rfl⟩) λv H2 s2 hv=>k v H2 s2 hv
def tw (C:Cs):List V->Hp->Den->Prop:=λvs H d=> ∃g l s tl t,vs=[.ref g,.ref l]/\ck C H g s/\bu s/\H l=some (.tup (tv tl))/\bj s tl=some t/\d=bz (fD s t)
theorem ER:a6 ["graph","label","packages","spec"] ["graph","label"] (aV xk):=⟨rfl,rfl,rfl,by decide +kernel,rfl,by decide +kernel,by decide +kernel⟩
theorem yr {s:bR} (ok:bu s) (l:List Nat):(gM s l).length<=64/\ ∀p∈gM s l,p.length<=96:=by
 refine⟨?_,λp hp=>?_⟩
 ·refine bM (Dm.mF _) (bM (iX _ _) ?_)
  rw[aC]
  exact bM (iX _ _) ok.ci
 ·obtain⟨t,ht,e⟩:=bp.mp (cU.mp (Dm.dJ.mp hp)).1
  rw[←e]
  exact Dm.oR (ok.dP t (cU.mp ht).1)
theorem Qp {f:aa} {fd:aS} (F:aX K "idle_specs" "idle_specs" xk f fd) (kc:KC K C) (N1:aq P w K mg base 2 "wanted_packages" ["graph","label"] (am (pA C))) (N2:aq P w K mg base 4 "admits_one_of" ["spec","packages","groups"] (am yq)):aN P w K mg base aR 5 f fd ["graph","label"] (am (tw C)):=by
 refine F.ok ER (λvs H Q E h=>?_) (λcdv A outer s H vs Q E hr h=>?_)
 ·obtain⟨d,⟨g,l,st,tl,t,rfl,_⟩,_⟩:=h
  rfl
 ·obtain⟨d,⟨g,l,st,tl,t,rfl,hG,ok,hl,hf,rfl⟩,k⟩:=h
  have nd:=ER.nd
  obtain⟨htm,hlab⟩:=Dm.find_some hf
  have ll:a8 tl=true:=by rw[←hlab];exact ok.dP t htm
  obtain⟨hw1,hw2⟩:=yr ok tl
  refine⟨_,ap (a5 (i:=2) nd rfl (nN rfl) ah) (au (aD ah)),?_⟩
  refine br (g9 N1 (hr.mono (by decide)) (ae 0 (d:=ax (.ref g)) rfl rfl) (ae 1 (d:=aw (tv tl)) rfl ⟨l,rfl,hl⟩) (d:=bz (gM st tl)) λv u H1 s1 ev ⟨p,ep,hp⟩=>⟨g,p,st,tl,by rw[ev,ep],hG.grow s1,ok,hp,ll,rfl⟩) λv H1 s1 hv=>?_
  obtain⟨pl,pas,rfl,hpl,hpt⟩:=hv
  obtain⟨dx,fs,td,gd,ld,h1,h2,h3,h4,h5,h6,h7,h8,h9⟩:=(hG.grow s1).ex
  obtain⟨kvs,q1,_,_,q2⟩:=h7.at ok.asc
  obtain⟨gkvs,g1,_,g2,_⟩:=h8.at ok
  rcases q2 tl with ⟨_,z⟩|⟨r,t',q3,q4,dx2,fs2,dl,sl,q5,q6,q7,_,as,q9,q10⟩
  ·rw[hf] at z;cases z
  rw[hf] at q4
  cases q4
  have hsp:=ok.specs t htm
  have e1:fD st t=t.specs.filter λu=>!(gM st tl).any λp=>Dm.iA (look st) u p:=by
   unfold fD
   rw[hlab]
   refine List.filter_congr λu hu=>?_
   rw[List.all_eq_not_any_not]
   congr 1
   congr 1
   funext p
   rw[Bool.not_not]
   exact(Dm.B6 _ (hsp.2 u hu).1 (λn=>rfl) λg hg u hu=>((ok.kG g hg).2 u hu).1).symm
  refine aQ (EE.DT (ts:=fD st t) (by
   rw[e1]
   refine yc (j:=3) t.specs (λt=>aw (tv t)) (λu=>!(gM st tl).any λp=>Dm.iA (look st) u p) (λt=>aw (tv t)) rfl nd (EE.TD (EE.imp (d:=ax (.ref sl)) (bS (kF (b9 hr) (t:=tl) (bS (ae 0 rfl rfl) h1 kc.cG kc.cW h2) (ae 1 rfl ⟨l,rfl,s1 _ _ hl⟩) q1 q3) q5 kc.cT kc.xM q7) λv H2 s hv=>⟨sl,as,hv,s _ _ q9,q10.grow s⟩)) (dI rfl) rfl rfl (cV (m:=8) hsp.1) (λt _=>mR _) ?_ ?_
   ·rintro u hum v H' s' ⟨q,rfl,hq⟩ s0 H0 C0 cl fp
    exact eW (cP (fi N2 hr (ae 3 (d:=aw (tv u)) rfl ⟨q,rfl,hq⟩) (ae 2 (d:=ax (.ref pl)) rfl rfl) (bS (ae 0 rfl rfl) (s' _ _ h1) kc.cG kc.lN h3) λv x y H3 s3 ⟨p,ep,hp⟩ ex ey=>⟨p,pl,gd,u,_,gkvs,look st,by rw[ep,ex,ey],hp,(hsp.2 u hum).2,⟨pas,s3 _ _ (s' _ _ hpl),hpt.grow (s'.trans s3)⟩,hw1,λp hp=>by have:=hw2 p hp;omega,s3 _ _ (s' _ _ g1),g2.grow (s'.trans s3),rfl⟩))
   ·rintro t ht _ v H' s' ⟨q,rfl,hq⟩ s0 H0 C0 cl fp
    exact ae 3 rfl ⟨q,rfl,hq⟩)) λv H3 s3 hv=>k v H3 (s1.trans s3) hv
end
def up (t:List Nat):List Int:=t.map λn=>((n:Nat):Int)
def pB:nW->Nat
 | .target .. =>0| .remove .. =>1| .group .. =>2| .layers .. =>3| .check=>4| .breaches=>5| .circle=>6
 | .order .. =>7| .may .. =>8| .sees .. =>9| .layer .. =>10| .wanted .. =>11| .idle .. =>12| .above .. =>13
def g_:nW->List (List Int)
 | .target l d u=>[up l,d,u]| .remove l=>[up l]| .group n u=>[up n,u]| .layers u=>[u]| .check=>[]| .breaches=>[]| .circle=>[]
 | .order g=>[g]| .may a b=>[up a,up b]| .sees a b=>[up a,up b]| .layer l=>[up l]| .wanted l=>[up l]| .idle l=>[up l]| .above l=>[up l]
theorem jS (t:List Nat):rv (up t)=tv t:=(gY t).symm
def gI (H:Hp) (rl:aa) (rows:List (List Int)):Prop:= ∃as:List aa,H rl=some (.lst (as.map V.ref))/\cb (λa r=>H a=some (.tup (rv r))) as rows
theorem gI.grow {H H':Hp} {rl:aa} {rows:List (List Int)} (s:ak H H') (h:gI H rl rows):gI H' rl rows:=by
 obtain⟨as,h1,h2⟩:=h
 exact⟨as,s _ _ h1,Paired.b6 h2 λ_ _ q=>s _ _ q⟩
theorem gI.kept {H H':Hp} {rl:aa} {rows:List (List Int)} (s:Kept H H') (h:gI H rl rows):gI H' rl rows:=by
 obtain⟨as,h1,h2⟩:=h
 exact⟨as,s.1 _ _ h1,Paired.b6 h2 λ_ _ q=>s.2 _ _ q⟩
def cI (C:Cs) (n:Nat):Sp:=λvs H Q _=> ∃g rl s c,vs=[.ref g,.ref rl]/\pB c=n/\ck C H g s/\bu s/\gI H rl (g_ c)/\(∀r∈g_ c,r.length<=5000) /\
 ∀v H',KF H H'->ck C H' g (dz s c).1->bu (dz s c).1->(fr H (cC (rv (i4 (dz s c).2)))).p v H'->Q v H'
theorem fO (n:Nat) (l:List Nat):rv (i4 (d7 n l))=tv (n::l):=by
 rw[gY];rfl
theorem hU {ts:List (List Nat)} {m:Nat} (h: ∀t∈ts,t.length<=m):(cK ts).length<=ts.length*(m+1):=by
 unfold cK
 exact mY _ (m+1) ts λt ht=>by rw[bx,j4];have:=h t ht;omega
theorem kQ {s:bR} (ok:bu s) {x:List Nat} (h:x∈Dm.aG s):x.length<=195:=by
 obtain⟨t,ht,e⟩:=bp.mp h
 rw[←e]
 exact Dm.vA (ok.dP t ht)
section
variable {P:aI} {w:aE} {K:aA} {mg:Str->Option ac} {base:aF} {C:Cs}
theorem Qq:a6 ["graph","rows"] ["graph","rows"] (aV xx):=⟨rfl,rfl,rfl,by decide +kernel,rfl,by decide +kernel,by decide +kernel⟩
theorem Qr {f:aa} {fd:aS} (F:aX K "answer_circle" "answer_circle" xx f fd) (kc:KC K C) (N1:aq P w K mg base 2 "counted_lines" ["texts"] (am pj)) (N2:aq P w K mg base 2 "least_circle" ["targets"] (am (tj C))):aN P w K mg base aR 8 f fd ["graph","rows"] (cI C 6):=by
 refine F.ok Qq (λvs H Q E h=>?_) (λcdv A outer s H vs Q E hr h=>?_)
 ·obtain⟨g,rl,st,c,rfl,_⟩:=h
  rfl
 ·obtain⟨g,rl,st,c,rfl,hn,hG,ok,hR,hz,k⟩:=h
  cases c <;> first|cases hn|skip
  obtain⟨dx,fs,td,gd,ld,h1,h2,h3,h4,h5,h6,h7,h8,h9⟩:=hG.ex
  obtain⟨hc1,hc2⟩:=Dm.rK ok.asc
  refine⟨_,au (aD ah),?_⟩
  refine aQ (pf N1 (hr.mono (by decide)) (fL N2 (hr.mono (by decide)) (bS (ae 0 rfl rfl) h1 kc.cG kc.cW h2) (d:=bz (ii st)) λv H1 s1 ev=>⟨td,st,by rw[ev],h7.grow s1,ok,rfl⟩) (d:=cC (tv ((ii st).length::cK (ii st)))) λv H1 s1 ⟨q,as,ev,hq,ht⟩=>⟨q,_,by rw[ev],⟨as,hq,ht⟩,?_,rfl⟩) λv H2 s2 hv=>k v H2 s2.kf (hG.grow s2) ok ?_
  ·have:=hU (m:=195) λt ht=>kQ ok (hc2 t ht)
   have h2:(ii st).length*(195+1)<=66*(195+1):=fB _ hc1
   omega
  ·rw[show (dz st Wo).2=d7 (ii st).length (cK (ii st)) from rfl,fO]
   exact hv
theorem lQ {H:Hp} {rl:aa} {r0:List Int} (h:gI H rl [r0]): ∃a,H rl=some (.lst [.ref a])/\H a=some (.tup (rv r0)):=by
 obtain⟨as,h1,h2⟩:=h
 cases h2 with
 |cons q r=>cases r;exact⟨_,h1,q⟩
theorem yt {H:Hp} {rl:aa} {r0 r1:List Int} (h:gI H rl [r0,r1]): ∃a b,H rl=some (.lst [.ref a,.ref b])/\H a=some (.tup (rv r0))/\H b=some (.tup (rv r1)):=by
 obtain⟨as,h1,h2⟩:=h
 cases h2 with
 |cons q r=>
  cases r with
  |cons q2 r2=>cases r2;exact⟨_,_,h1,q,q2⟩
theorem Qs {H:Hp} {rl:aa} {r0 r1 r2:List Int} (h:gI H rl [r0,r1,r2]): ∃a b c,H rl=some (.lst [.ref a,.ref b,.ref c])/\H a=some (.tup (rv r0))/\H b=some (.tup (rv r1))/\H c=some (.tup (rv r2)):=by
 obtain⟨as,h1,h2⟩:=h
 cases h2 with
 |cons q r=>
  cases r with
  |cons q2 r2=>
   cases r2 with
   |cons q3 r3=>cases r3;exact⟨_,_,_,h1,q,q2,q3⟩
theorem ES:a6 ["graph","rows","label"] ["graph","rows"] (aV xC):=⟨rfl,rfl,rfl,by decide +kernel,rfl,by decide +kernel,by decide +kernel⟩
theorem Qt {f:aa} {fd:aS} (F:aX K "answer_layer" "answer_layer" xC f fd) (rn:RN mg) (N1:aq P w K mg base 5 "is_label" ["text"] (am (b_ λt=> .bl (a8 t)))) (N2:aq P w K mg base 3 "layer_of" ["graph","package"] (am (sD C))) (N3:aq P w K mg base 1 "package_of" ["label"] (am mV)):aN P w K mg base aR 8 f fd ["graph","rows"] (cI C 10):=by
 refine F.ok ES (λvs H Q E h=>?_) (λcdv A outer s H vs Q E hr h=>?_)
 ·obtain⟨g,rl,st,c,rfl,_⟩:=h
  rfl
 ·obtain⟨g,rl,st,c,rfl,hn,hG,ok,hR,hz,k⟩:=h
  cases c <;> first|cases hn|skip
  rename_i tl
  have nd:=ES.nd
  obtain⟨a,hrl,ha⟩:=lQ hR
  rw[jS] at ha
  refine⟨_,ap (a5 (i:=2) nd rfl (aT rfl) ah) (ap (a_ aY (au (aD ah)) bh) (au (aD ah))),?_⟩
  refine br (dE (v:= .ref a) (ae 1 (d:=bt K [.ref a]) rfl ⟨rl,rfl,.of hrl⟩) aZ rfl) λv H1 s1 hv=>?_
  cases hv
  refine bc (eW (cP (cn N1 (hr.mono (by decide)) (ae 2 (d:=aw (tv tl)) rfl ⟨a,rfl,s1 _ _ ha⟩) (d:=bo (a8 tl)) λv H1 ⟨p,ep,hp⟩=>⟨p,tl,by rw[ep],hp,rfl⟩))) (λhc H2 s2=>?_) (λhc H2 s2=>?_)
  ·rw[cx] at hc
   refine aQ (eY (xs:=[.int (-1)]) (aM (a4 rn.r1) a0) (by show 1<=sizeLine;decide)) λv H3 s3 hv=>k v H3 ((s1.trans s2).trans s3).kf (hG.grow ((s1.trans s2).trans s3)) ok ?_
   rw[show (dz st (US tl)).2=ij UT from if_pos hc]
   exact eO (s1.trans s2) hv
  ·rw[cN] at hc
   have hpl:=Dm.oR hc
   have s12:=s1.trans s2
   refine aQ (eY (xs:=[.int (j9 st (bf tl):Nat)]) (aM (g9 N2 (hr.mono (by decide)) (ae 0 (d:=ax (.ref g)) rfl rfl) (cn N3 (hr.mono (by decide)) (ae 2 (d:=aw (tv tl)) rfl ⟨a,rfl,s12 _ _ ha⟩) (d:=aw (tv (bf tl))) λv H1 ⟨p,ep,hp⟩=>⟨p,tl,by rw[ep],hp,hc,rfl⟩) λv u H1 s1' ev ⟨p,ep,hp⟩=>⟨g,p,st,_,by rw[ev,ep],(hG.grow s12).grow s1',ok,hp,by omega,rfl⟩) a0) (by show 1<=sizeLine;decide)) λv H3 s3 hv=>k v H3 (s12.trans s3).kf (hG.grow (s12.trans s3)) ok ?_
   rw[show (dz st (US tl)).2=d7 (j9 st (bf tl)) [] from if_neg (by rw[hc];decide),fO]
   exact eO s12 hv
theorem EU:a6 ["graph","rows","refusal"] ["graph","rows"] (aV xz):=⟨rfl,rfl,rfl,by decide +kernel,rfl,by decide +kernel,by decide +kernel⟩
theorem Qu {f:aa} {fd:aS} (F:aX K "answer_may" "answer_may" xz f fd) (rn:RN mg) (N1:aq P w K mg base 6 "may_refusal" ["graph","a","b"] (am (tp C))) (N2:aq P w K mg base 5 "first_broken" ["graph","a","b"] (am (ye C))):aN P w K mg base aR 8 f fd ["graph","rows"] (cI C 8):=by
 refine F.ok EU (λvs H Q E h=>?_) (λcdv A outer s H vs Q E hr h=>?_)
 ·obtain⟨g,rl,st,c,rfl,_⟩:=h
  rfl
 ·obtain⟨g,rl,st,c,rfl,hn,hG,ok,hR,hz,k⟩:=h
  cases c <;> first|cases hn|skip
  rename_i ta tb
  have nd:=EU.nd
  obtain⟨a,b,hrl,ha,hb⟩:=yt hR
  rw[jS] at ha hb
  have e0: ∀{X:Cx} {σ:St} {H2:Hp} {pos p2:Pos},True:=trivial
  refine⟨_,ap (a5 (i:=2) nd rfl (aT rfl) ah) (ap (a_ aY (au (aD ah)) bh) (au (aD ah))),?_⟩
  refine br (fi N1 (hr.mono (by decide)) (ae 0 (d:=ax (.ref g)) rfl rfl) (dE (v:= .ref a) (ae 1 (d:=bt K [.ref a,.ref b]) rfl ⟨rl,rfl,.of hrl⟩) aZ rfl) (dE (v:= .ref b) (ae 1 (d:=bt K [.ref a,.ref b]) rfl ⟨rl,rfl,.of hrl⟩) aZ rfl) (d:=aH (eP st ta tb)) λv u y H1 s1 ev eu ey=>⟨g,a,b,st,ta,tb,by rw[ev,eu,ey],hG.grow s1,ok,s1 _ _ ha,s1 _ _ hb,rfl⟩) λv H1 s1 hv=>?_
  cases hv
  have hst:(dz st (Wp ta tb)).2=if eP st ta tb≠0 then ij (eP st ta tb) else d7 (jA st ta tb) []:=by
   show Ai st ta tb=_
   unfold Ai eP
   split
   ·rfl
   ·split <;> rfl
  refine bc (jL (ae 2 (d:=aH (eP st ta tb)) rfl rfl) (a4 rn.r0)) (λhc H2 s2=>?_) (λhc H2 s2=>?_)
  ·rw[cx,decide_eq_false_iff_not] at hc
   refine aQ (eY (xs:=[.int (eP st ta tb)]) (aM (ae 2 rfl rfl) a0) (by show 1<=sizeLine;decide)) λv H3 s3 hv=>k v H3 ((s1.trans s2).trans s3).kf (hG.grow ((s1.trans s2).trans s3)) ok ?_
   rw[hst,if_pos hc]
   exact eO (s1.trans s2) hv
  ·rw[cN,decide_eq_true_eq] at hc
   have s12:=s1.trans s2
   have hl:a8 ta=true/\a8 tb=true/\ta∈Dm.aG st:=by
    unfold eP at hc
    split at hc
    ·cases hc
    ·rename_i z
     split at hc
     ·cases hc
     ·rename_i z2
      refine⟨by cases q:a8 ta with|true=>rfl|false=>exact(z (.inl q)).elim,by cases q:a8 tb with|true=>rfl|false=>exact(z (.inr q)).elim,Dm.dk.mp ?_⟩
      cases q:bj st ta with
      |none=>rw[q] at z2;exact(z2 rfl).elim
      |some _=>rfl
   refine aQ (eY (xs:=[.int (jA st ta tb:Nat)]) (aM (fi N2 (hr.mono (by decide)) (ae 0 (d:=ax (.ref g)) rfl rfl) (dE (v:= .ref a) (ae 1 (d:=bt K [.ref a,.ref b]) rfl ⟨rl,rfl,.of (s12 _ _ hrl)⟩) aZ rfl) (dE (v:= .ref b) (ae 1 (d:=bt K [.ref a,.ref b]) rfl ⟨rl,rfl,.of (s12 _ _ hrl)⟩) aZ rfl) λv u y H1 s1' ev eu ey=>⟨g,a,b,st,ta,tb,by rw[ev,eu,ey],(hG.grow s12).grow s1',ok,s1' _ _ (s12 _ _ ha),s1' _ _ (s12 _ _ hb),hl.1,hl.2.1,hl.2.2,rfl⟩) a0) (by show 1<=sizeLine;decide)) λv H3 s3 hv=>k v H3 (s12.trans s3).kf (hG.grow (s12.trans s3)) ok ?_
   rw[hst,if_neg (by rw[hc];decide),fO]
   exact eO s12 hv
theorem EV:a6 ["graph","rows","refusal"] ["graph","rows"] (aV xB):=⟨rfl,rfl,rfl,by decide +kernel,rfl,by decide +kernel,by decide +kernel⟩
theorem Qv {f:aa} {fd:aS} (F:aX K "answer_sees" "answer_sees" xB f fd) (rn:RN mg) (N1:aq P w K mg base 7 "sees_refusal" ["graph","a","b"] (am (yj C))) (N2:aq P w K mg base 4 "sees" ["graph","a","b"] (am (pc C))):aN P w K mg base aR 8 f fd ["graph","rows"] (cI C 9):=by
 refine F.ok EV (λvs H Q E h=>?_) (λcdv A outer s H vs Q E hr h=>?_)
 ·obtain⟨g,rl,st,c,rfl,_⟩:=h
  rfl
 ·obtain⟨g,rl,st,c,rfl,hn,hG,ok,hR,hz,k⟩:=h
  cases c <;> first|cases hn|skip
  rename_i ta tb
  have nd:=EV.nd
  obtain⟨a,b,hrl,ha,hb⟩:=yt hR
  rw[jS] at ha hb
  refine⟨_,ap (a5 (i:=2) nd rfl (aT rfl) ah) (ap (a_ aY (au (aD ah)) bh) (au (aD ah))),?_⟩
  refine br (fi N1 hr (ae 0 (d:=ax (.ref g)) rfl rfl) (dE (v:= .ref a) (ae 1 (d:=bt K [.ref a,.ref b]) rfl ⟨rl,rfl,.of hrl⟩) aZ rfl) (dE (v:= .ref b) (ae 1 (d:=bt K [.ref a,.ref b]) rfl ⟨rl,rfl,.of hrl⟩) aZ rfl) (d:=aH (jR st ta tb)) λv u y H1 s1 ev eu ey=>⟨g,a,b,st,ta,tb,by rw[ev,eu,ey],hG.grow s1,ok,s1 _ _ ha,s1 _ _ hb,rfl⟩) λv H1 s1 hv=>?_
  cases hv
  have hst:(dz st (Wq ta tb)).2=nX st ta tb:=rfl
  refine bc (jL (ae 2 (d:=aH (jR st ta tb)) rfl rfl) (a4 rn.r0)) (λhc H2 s2=>?_) (λhc H2 s2=>?_)
  ·rw[cx,decide_eq_false_iff_not] at hc
   refine aQ (eY (xs:=[.int (jR st ta tb)]) (aM (ae 2 rfl rfl) a0) (by show 1<=sizeLine;decide)) λv H3 s3 hv=>k v H3 ((s1.trans s2).trans s3).kf (hG.grow ((s1.trans s2).trans s3)) ok ?_
   have e:nX st ta tb=ij (jR st ta tb):=by
    unfold nX
    unfold jR eP at hc ⊢
    by_cases z:a8 ta=false∨a8 tb=false
    ·rw[if_pos z]
     simp only[if_pos z]
     rfl
    ·rw[if_neg z]
     simp only[if_neg z] at hc ⊢
     cases q1:bj st ta with
     |none=>simp [q1];rfl
     |some t1=>
      cases q2:bj st tb with
      |none=>simp [q1,q2];rfl
      |some t2=>simp [q1,q2] at hc
   rw[hst,e]
   exact eO (s1.trans s2) hv
  ·rw[cN,decide_eq_true_eq] at hc
   have s12:=s1.trans s2
   have hl:a8 ta=true/\a8 tb=true/\ ∃t1 t2,bj st ta=some t1/\bj st tb=some t2:=by
    unfold jR eP at hc
    by_cases z:a8 ta=false∨a8 tb=false
    ·simp only[if_pos z] at hc
     simp at hc
    ·simp only[if_neg z] at hc
     refine⟨by cases q:a8 ta with|true=>rfl|false=>exact(z (.inl q)).elim,by cases q:a8 tb with|true=>rfl|false=>exact(z (.inr q)).elim,?_⟩
     cases q1:bj st ta with
     |none=>simp [q1] at hc
     |some t1=>
      cases q2:bj st tb with
      |none=>simp [q1,q2] at hc
      |some t2=>exact⟨t1,t2,rfl,rfl⟩
   obtain⟨la,lb,t1,t2,f1,f2⟩:=hl
   refine aQ (eY (xs:=[.int (if ie st (bf ta) t2=true then 1 else 0)]) (aM (vM (cP (fi N2 (hr.mono (by decide)) (ae 0 (d:=ax (.ref g)) rfl rfl) (dE (v:= .ref a) (ae 1 (d:=bt K [.ref a,.ref b]) rfl ⟨rl,rfl,.of (s12 _ _ hrl)⟩) aZ rfl) (dE (v:= .ref b) (ae 1 (d:=bt K [.ref a,.ref b]) rfl ⟨rl,rfl,.of (s12 _ _ hrl)⟩) aZ rfl) (d:=bo (ie st (bf ta) t2)) λv u y H1 s1' ev eu ey=>⟨g,a,b,st,ta,tb,t2,by rw[ev,eu,ey],(hG.grow s12).grow s1',ok,s1' _ _ (s12 _ _ ha),s1' _ _ (s12 _ _ hb),la,lb,f2,rfl⟩)) (λq=>by rw[if_pos q];exact aZ) (λq=>by rw[if_neg (by rw[q];decide)];exact aZ)) a0) (by show 1<=sizeLine;decide)) λv H3 s3 hv=>k v H3 (s12.trans s3).kf (hG.grow (s12.trans s3)) ok ?_
   have e:nX st ta tb=d7 (if ie st (bf ta) t2=true then 1 else 0) []:=by
    unfold nX
    rw[if_neg (by rw[la,lb];decide),f1,f2]
   rw[hst,e,fO]
   have e2:tv ((if ie st (bf ta) t2=true then 1 else 0)::([]:List Nat))=[V.int (if ie st (bf ta) t2=true then 1 else 0)]:=by split <;> rfl
   rw[e2]
   exact eO s12 hv
theorem four {α:Type} {b1 b2 b3:Bool} {p:Prop} [Decidable p] (f:Int->α) (x:α):(if b1=false then f (-1) else if b2=false then f (-7) else if b3=false then f (-9) else if p then f (-8) else x)=if (if b1=false then (-1:Int) else if b2=false then -7 else if b3=false then -9 else if p then -8 else 0)≠0 then f (if b1=false then (-1:Int) else if b2=false then -7 else if b3=false then -9 else if p then -8 else 0) else x:=by
 cases b1 with
 |false=>rfl
 |true=>
  cases b2 with
  |false=>rfl
  |true=>
   cases b3 with
   |false=>rfl
   |true=>
    by_cases h:p
    ·simp [h]
    ·simp [h]
theorem Qw {b1 b2 b3:Bool} {p:Prop} [Decidable p] (h:(if b1=false then (-1:Int) else if b2=false then -7 else if b3=false then -9 else if p then -8 else 0)=0):b2=true/\b3=true/\ ¬p:=by
 cases b1 with
 |false=>simp at h
 |true=>
  cases b2 with
  |false=>simp at h
  |true=>
   cases b3 with
   |false=>simp at h
   |true=>
    by_cases hp:p
    ·simp [hp] at h
    ·exact⟨rfl,rfl,hp⟩
theorem EX {s:bR} {g:List (List Nat)} (h:fN s (some g)=0):g.all (λl=>(bj s l).isSome)=true/\(ig s g).all (λl=>(bj s l).isSome)=true/\ ¬(fC s g).length≠(ig s g).length:=Qw h
theorem yu (s:bR) (l:List Int):qp s l=if fN s (aO l)≠0 then ij (fN s (aO l)) else d7 (fC s ((aO l).getD [])).length (cK (fC s ((aO l).getD []))):=by
 unfold qp
 cases aO l with
 |none=>rfl
 |some g=>exact four ij _
theorem EY:a6 ["graph","rows","goals","refusal"] ["graph","rows"] (aV xy):=⟨rfl,rfl,rfl,by decide +kernel,rfl,by decide +kernel,by decide +kernel⟩
theorem Qx {f:aa} {fd:aS} (F:aX K "answer_order" "answer_order" xy f fd) (rn:RN mg) (N0:aq P w K mg base 2 "texts_of" ["row"] (am (jQ λl=>cq (aO l)))) (N1:aq P w K mg base 6 "order_refusal" ["graph","goals"] (am (ym C))) (N2:aq P w K mg base 3 "order_of" ["graph","goals"] (am (yd C))) (N3:aq P w K mg base 2 "counted_lines" ["texts"] (am pj)):aN P w K mg base aR 8 f fd ["graph","rows"] (cI C 7):=by
 refine F.ok EY (λvs H Q E h=>?_) (λcdv A outer s H vs Q E hr h=>?_)
 ·obtain⟨g,rl,st,c,rfl,_⟩:=h
  rfl
 ·obtain⟨g,rl,st,c,rfl,hn,hG,ok,hR,hz,k⟩:=h
  cases c <;> first|cases hn|skip
  rename_i gr
  have nd:=EY.nd
  obtain⟨a,hrl,ha⟩:=lQ hR
  have hgl:gr.length<=5000:=hz gr (by simp [g_])
  have hsm: ∀x,aO gr=some x->x.length<=5000:=λx hx=>bM (Dm.kO hx).1 hgl
  refine⟨_,ap (a5 (i:=2) nd rfl (aT rfl) ah) (ap (a5 (i:=3) nd rfl (aT rfl) ah) (ap (a_ aY (au (aD ah)) bh) (au (aD ah)))),?_⟩
  refine br (fL N0 (hr.mono (by decide)) (dE (v:= .ref a) (ae 1 (d:=bt K [.ref a]) rfl ⟨rl,rfl,.of hrl⟩) aZ rfl) (d:=cq (aO gr)) λv H1 s1 ev=>⟨a,gr,by rw[ev],s1 _ _ ha,by omega,rfl⟩) λv H1 s1 hv=>?_
  refine br (g9 N1 (hr.mono (by decide)) (ae 0 (d:=ax (.ref g)) rfl rfl) (ae 2 (d:=cq (aO gr)) rfl hv) (d:=aH (fN st (aO gr))) λv u H2 s2 ev hu=>⟨g,u,st,_,by rw[ev],(hG.grow s1).grow s2,ok,hu,hsm,rfl⟩) λu H2 s2 hu=>?_
  cases hu
  have s12:=s1.trans s2
  have hst:(dz st (Wr gr)).2=qp st gr:=rfl
  refine bc (jL (ae 3 (d:=aH (fN st (aO gr))) rfl rfl) (a4 rn.r0)) (λhc H3 s3=>?_) (λhc H3 s3=>?_)
  ·rw[cx,decide_eq_false_iff_not] at hc
   refine aQ (eY (xs:=[.int (fN st (aO gr))]) (aM (ae 3 rfl rfl) a0) (by show 1<=sizeLine;decide)) λv H4 s4 hv=>k v H4 ((s12.trans s3).trans s4).kf (hG.grow ((s12.trans s3).trans s4)) ok ?_
   have e:qp st gr=ij (fN st (aO gr)):=by rw[yu,if_pos hc]
   rw[hst,e]
   exact eO (s12.trans s3) hv
  ·rw[cN,decide_eq_true_eq] at hc
   have s13:=s12.trans s3
   cases hg:aO gr with
   |none=>rw[hg] at hc;cases hc
   |some gs=>
    rw[hg] at hc hv
    have hv3:=(bz gs).mono _ _ _ (s2.trans s3) hv
    obtain⟨ql,gas,rfl,hql,hgt⟩:=hv3
    have hgl':=hsm gs hg
    obtain⟨g2,hall,g4⟩:=EX hc
    have hlab: ∀x∈gs,x∈Dm.aG st:=λx hx=>Dm.dk.mp (dG.mp g2 x hx)
    have hcir:=Dm.Em ok.lf hall
    rw[decide_eq_false g4,Hh] at hcir
    have hno: ∀x∈ig st gs,x∉mj st x:=λx hx hb=>hcir x hx (by simpa using hb)
    have nc:=(Dm.mZ st gs).nodup
    obtain⟨_,t2,t3⟩:=Dm.sO 65 (ig st gs) [] (Dm.eX.start st nc) λx hx=>nomatch hx
    have hol:(fC st gs).length<=64:=bM (Dm.fZ t3 t2) (Dm.sP ok.lf hall)
    refine aQ (pf N3 (hr.mono (by decide)) (g9 N2 (hr.mono (by decide)) (ae 0 (d:=ax (.ref g)) rfl rfl) (ae 2 (d:=ax (.ref ql)) rfl rfl) (d:=bz (fC st gs)) λv u H4 s4 ev eu=>⟨g,ql,st,gs,by rw[ev,eu],(hG.grow s13).grow s4,ok,⟨gas,s4 _ _ hql,hgt.grow s4⟩,hgl',hlab,hall,hno,rfl⟩) (d:=cC (tv ((fC st gs).length::cK (fC st gs)))) λv H4 s4 ⟨q,as,ev,hq,ht⟩=>⟨q,_,by rw[ev],⟨as,hq,ht⟩,?_,rfl⟩) λv H4 s4 hv=>k v H4 (s13.trans s4).kf (hG.grow (s13.trans s4)) ok ?_
    ·have:=hU (ts:=fC st gs) (m:=195) λt ht=>kQ ok (Dm.dk.mp (dG.mp hall t (t2 t ht)))
     have h2:(fC st gs).length*(195+1)<=64*(195+1):=fB _ hol
     omega
    ·have e:qp st gr=d7 (fC st gs).length (cK (fC st gs)):=by rw[yu,hg,if_neg (by rw[hc];decide)];rfl
     rw[hst,e,fO]
     exact eO s13 hv
end
section
variable {X:Cx} {a b c e o i v func:ao} {es:List ao} {pos p2 apos cpos:Pos} {σ:St} {H:Hp} {D:Ends}
theorem Qy {f:aa} {fd:aS} {ps:List Str} {pr:List V->Hp->Den->Prop} {k:Nat} {ds:List Den} {d:Den} (F:aN X.prog X.w X.K X.mg X.base aR k f fd ps (am pr)) (hr:bJ k X.A) (hk:fo X.K (.ref f)=true) (hb:Binds X.K fd ps [])
  (hf:EE X func σ H (ax (.ref f))) (ha:EA X (e::es) σ H ds) (h: ∀vs H1,ak H H1->bZ ds vs H1->pr vs H1 d)
  (hev:eval (.Call func (e::es) [] pos) X.env=(do callWith pos (←eval func X.env) [] (backTo pos (starEach (e::es) X.env)) (backToKw pos (keywordEach [] X.env))):=by rfl)
  (he:starEach (e::es) X.env=(false,eval e X.env)::starEach es X.env:=by rfl) (hpl:(backTo pos (starEach es X.env)).any (·.1)=false:=by rfl):EE X (.Call func (e::es) [] pos) σ H d:=
 EE.of (CW ah cF hev he hpl) λH1 s1 Q q=>⟨_,hf.grow s1,λx H2 s2 ex=>⟨f,fd,ps,am pr,k,ex,F,hr,hk,hb,_,ha.grow (s1.trans s2),λvs H3 s3 z=>⟨d,h vs H3 (s1.trans (s2.trans s3)) z,λv H4 s4 hv=>q v H4 ((s2.trans s3).trans s4) hv⟩⟩⟩
end
theorem kR {s:bR} {l:List Nat} (h:cR s l=0):a8 l=true/\ ∃t,bj s l=some t:=by
 unfold cR at h
 split at h
 ·cases h
 rename_i h1
 split at h
 ·cases h
 rename_i h2
 refine⟨by simpa using h1,?_⟩
 cases hf:bj s l with
 |none=>rw[hf] at h2;exact(h2 rfl).elim
 |some t=>exact⟨t,rfl⟩
theorem tz {s:bR} {l:List Nat} {t:eF} (f:eF->Aj) (hl:a8 l=true) (hf:bj s l=some t):ml s l f=f t:=by
 unfold ml
 rw[if_neg (by rw[hl];decide),hf]
theorem tD {s:bR} {l:List Nat} (f:eF->Aj) (h:cR s l≠0):ml s l f=ij (cR s l):=by
 unfold ml
 unfold cR at h ⊢
 by_cases hl:a8 l=false
 ·rw[if_pos hl,if_pos hl];rfl
 ·rw[if_neg hl] at h ⊢
  rw[if_neg hl]
  cases hf:bj s l with
  |none=>rfl
  |some t=>rw[hf] at h;exact(h rfl).elim
section
variable {P:aI} {w:aE} {K:aA} {mg:Str->Option ac} {base:aF} {C:Cs}
def pC (P:aI) (w:aE) (K:aA) (mg:Str->Option ac) (base:aF) (C:Cs):List V->Hp->Den->Prop:=λvs H d=> ∃g l f fd k pr s tl res,vs=[.ref g,.ref l,.ref f]/\ck C H g s/\bu s/\H l=some (.tup (tv tl))/\aN P w K mg base aR k f fd ["graph","label"] (am pr)/\k<=5/\fo K (.ref f)=true/\Binds K fd ["graph","label"] [] /\
 (cR s tl=0->(∀H1,ak H H1->pr [.ref g,.ref l] H1 (bz res))/\(cK res).length<=100000)/\d=fr H (cC (if cR s tl≠0 then [.int (cR s tl)] else tv (res.length::cK res)))
theorem EZ:a6 ["graph","label","tell","refusal"] ["graph","label","tell"] (aV xD):=⟨rfl,rfl,rfl,by decide +kernel,rfl,by decide +kernel,by decide +kernel⟩
theorem Qz {f:aa} {fd:aS} (F:aX K "lines_about" "lines_about" xD f fd) (rn:RN mg) (N1:aq P w K mg base 6 "known_target_refusal" ["graph","label"] (am (tm C))) (N2:aq P w K mg base 2 "counted_lines" ["texts"] (am pj)):aN P w K mg base aR 7 f fd ["graph","label","tell"] (am (pC P w K mg base C)):=by
 refine F.ok EZ (λvs H Q E h=>?_) (λcdv A outer s H vs Q E hr h=>?_)
 ·obtain⟨d,⟨g,l,f1,fd1,k1,pr,st,tl,res,rfl,_⟩,_⟩:=h
  rfl
 ·obtain⟨d,⟨g,l,f1,fd1,k1,pr,st,tl,res,rfl,hG,ok,hl,F1,hk5,hkp,hb,hres,rfl⟩,k⟩:=h
  have nd:=EZ.nd
  refine⟨_,ap (a5 (i:=3) nd rfl (aT rfl) ah) (ap (a_ aY (au (aD ah)) bh) (au (aD ah))),?_⟩
  refine br (g9 N1 hr (ae 0 (d:=ax (.ref g)) rfl rfl) (ae 1 (d:=aw (tv tl)) rfl ⟨l,rfl,hl⟩) (d:=aH (cR st tl)) λv u H1 s1 ev ⟨p,ep,hp⟩=>⟨g,p,st,tl,by rw[ev,ep],hG.grow s1,ok,hp,rfl⟩) λv H1 s1 hv=>?_
  cases hv
  refine bc (jL (ae 3 (d:=aH (cR st tl)) rfl rfl) (a4 rn.r0)) (λhc H2 s2=>?_) (λhc H2 s2=>?_)
  ·rw[cx,decide_eq_false_iff_not] at hc
   refine aQ (eY (xs:=[.int (cR st tl)]) (aM (ae 3 rfl rfl) a0) (by show 1<=sizeLine;decide)) λv H3 s3 hv=>k v H3 ((s1.trans s2).trans s3) ?_
   rw[if_pos hc]
   exact eO (s1.trans s2) hv
  ·rw[cN,decide_eq_true_eq] at hc
   obtain⟨hr1,hr2⟩:=hres hc
   have s12:=s1.trans s2
   refine aQ (pf N2 (hr.mono (by decide)) (Qy (ds:=[ax (.ref g),ax (.ref l)]) F1 (hr.mono (by omega)) hkp hb (ae 2 rfl rfl) (aM (ae 0 rfl rfl) (aM (ae 1 rfl rfl) a0)) (d:=bz res) λvs H3 s3 z=>?_) (d:=cC (tv (res.length::cK res))) λv H3 s3 ⟨q,as,ev,hq,ht⟩=>⟨q,_,by rw[ev],⟨as,hq,ht⟩,hr2,rfl⟩) λv H3 s3 hv=>k v H3 (s12.trans s3) ?_
   ·obtain⟨v,u,rfl,ev,eu⟩:=lF z
    cases ev;cases eu
    exact hr1 H3 (s12.trans s3)
   ·rw[if_neg (by rw[hc];decide)]
    exact eO s12 hv
theorem QA:a6 ["graph","rows"] ["graph","rows"] (aV xE):=⟨rfl,rfl,rfl,by decide +kernel,rfl,by decide +kernel,by decide +kernel⟩
theorem QB:a6 ["graph","rows"] ["graph","rows"] (aV xF):=⟨rfl,rfl,rfl,by decide +kernel,rfl,by decide +kernel,by decide +kernel⟩
theorem QC:a6 ["graph","rows"] ["graph","rows"] (aV xG):=⟨rfl,rfl,rfl,by decide +kernel,rfl,by decide +kernel,by decide +kernel⟩
theorem QD {f:aa} {fd:aS} (F:aX K "answer_wanted" "answer_wanted" xE f fd) (N1:aq P w K mg base 7 "lines_about" ["graph","label","tell"] (am (pC P w K mg base C))) (N2:aq P w K mg base 2 "wanted_packages" ["graph","label"] (am (pA C))):aN P w K mg base aR 8 f fd ["graph","rows"] (cI C 11):=by
 refine F.ok QA (λvs H Q E h=>?_) (λcdv A outer s H vs Q E hr h=>?_)
 ·obtain⟨g,rl,st,c,rfl,_⟩:=h
  rfl
 ·obtain⟨g,rl,st,c,rfl,hn,hG,ok,hR,hz,k⟩:=h
  cases c <;> first|cases hn|skip
  rename_i tl
  obtain⟨a,hrl,ha⟩:=lQ hR
  rw[jS] at ha
  obtain⟨f1,fd1,hm1,hk1,hb1,F1⟩:=N2
  obtain⟨hw1,hw2⟩:=yr ok tl
  refine⟨_,au (aD ah),?_⟩
  refine aQ (pd N1 hr (ae 0 (d:=ax (.ref g)) rfl rfl) (dE (v:= .ref a) (ae 1 (d:=bt K [.ref a]) rfl ⟨rl,rfl,.of hrl⟩) aZ rfl) (kz (v:= .ref f1) (d:=ax (.ref f1)) hm1 rfl rfl) λv u y H1 s1 ev eu ey=>⟨g,a,f1,fd1,2,pA C,st,tl,gM st tl,by rw[ev,eu,ey],hG.grow s1,ok,s1 _ _ ha,F1,by decide,hk1,hb1,λhk=>⟨λH2 s2=>⟨g,a,st,tl,rfl,(hG.grow s1).grow s2,ok,s2 _ _ (s1 _ _ ha),(kR hk).1,rfl⟩,?_⟩,rfl⟩) λv H2 s2 hv=>k v H2 s2.kf (hG.grow s2) ok ?_
  ·have:=hU (m:=96) hw2
   have h2:(gM st tl).length*(96+1)<=64*(96+1):=fB _ hw1
   omega
  ·show (fr H (cC (rv (i4 (ml st tl _))))).p v H2
   by_cases hk:cR st tl=0
   ·obtain⟨h1,t,h2⟩:=kR hk
    rw[if_neg (by rw[hk];decide)] at hv
    rw[tz _ h1 h2,fO]
    exact hv
   ·rw[if_pos hk] at hv
    rw[tD _ hk]
    exact hv
theorem QE {f:aa} {fd:aS} (F:aX K "answer_idle" "answer_idle" xF f fd) (N1:aq P w K mg base 7 "lines_about" ["graph","label","tell"] (am (pC P w K mg base C))) (N2:aq P w K mg base 5 "idle_specs" ["graph","label"] (am (tw C))):aN P w K mg base aR 8 f fd ["graph","rows"] (cI C 12):=by
 refine F.ok QB (λvs H Q E h=>?_) (λcdv A outer s H vs Q E hr h=>?_)
 ·obtain⟨g,rl,st,c,rfl,_⟩:=h
  rfl
 ·obtain⟨g,rl,st,c,rfl,hn,hG,ok,hR,hz,k⟩:=h
  cases c <;> first|cases hn|skip
  rename_i tl
  obtain⟨a,hrl,ha⟩:=lQ hR
  rw[jS] at ha
  obtain⟨f1,fd1,hm1,hk1,hb1,F1⟩:=N2
  refine⟨_,au (aD ah),?_⟩
  refine aQ (pd N1 hr (ae 0 (d:=ax (.ref g)) rfl rfl) (dE (v:= .ref a) (ae 1 (d:=bt K [.ref a]) rfl ⟨rl,rfl,.of hrl⟩) aZ rfl) (kz (v:= .ref f1) (d:=ax (.ref f1)) hm1 rfl rfl) (d:=cC (if cR st tl≠0 then [.int (cR st tl)] else tv ((((bj st tl).map (fD st)).getD []).length::cK (((bj st tl).map (fD st)).getD [])))) λv u y H1 s1 ev eu ey=>⟨g,a,f1,fd1,5,tw C,st,tl,((bj st tl).map (fD st)).getD [],by rw[ev,eu,ey],hG.grow s1,ok,s1 _ _ ha,F1,aW _,hk1,hb1,λhk=>?_,rfl⟩) λv H2 s2 hv=>k v H2 s2.kf (hG.grow s2) ok ?_
  ·obtain⟨h1,t,h2⟩:=kR hk
   rw[h2]
   obtain⟨htm,_⟩:=Dm.find_some h2
   obtain⟨sp1,sp2⟩:=ok.specs t htm
   refine⟨λH2 s2=>⟨g,a,st,tl,t,rfl,(hG.grow s1).grow s2,ok,s2 _ _ (s1 _ _ ha),h2,rfl⟩,?_⟩
   have e:=hU (ts:=fD st t) (m:=5000) λx hx=>(sp2 x (cU.mp hx).1).2
   have h3:(fD st t).length<=8:=bM (iX _ _) sp1
   have h4:(fD st t).length*(5000+1)<=8*(5000+1):=fB _ h3
   show (cK (fD st t)).length<=100000
   omega
  ·show (fr H (cC (rv (i4 (ml st tl _))))).p v H2
   by_cases hk:cR st tl=0
   ·obtain⟨h1,t,h2⟩:=kR hk
    rw[if_neg (by rw[hk];decide),h2] at hv
    rw[tz _ h1 h2,fO]
    exact hv
   ·rw[if_pos hk] at hv
    rw[tD _ hk]
    exact hv
theorem QF {f:aa} {fd:aS} (F:aX K "answer_above" "answer_above" xG f fd) (N1:aq P w K mg base 7 "lines_about" ["graph","label","tell"] (am (pC P w K mg base C))) (N2:aq P w K mg base 3 "resting_on" ["graph","label"] (am (sS C))):aN P w K mg base aR 8 f fd ["graph","rows"] (cI C 13):=by
 refine F.ok QC (λvs H Q E h=>?_) (λcdv A outer s H vs Q E hr h=>?_)
 ·obtain⟨g,rl,st,c,rfl,_⟩:=h
  rfl
 ·obtain⟨g,rl,st,c,rfl,hn,hG,ok,hR,hz,k⟩:=h
  cases c <;> first|cases hn|skip
  rename_i tl
  obtain⟨a,hrl,ha⟩:=lQ hR
  rw[jS] at ha
  obtain⟨f1,fd1,hm1,hk1,hb1,F1⟩:=N2
  refine⟨_,au (aD ah),?_⟩
  refine aQ (pd N1 hr (ae 0 (d:=ax (.ref g)) rfl rfl) (dE (v:= .ref a) (ae 1 (d:=bt K [.ref a]) rfl ⟨rl,rfl,.of hrl⟩) aZ rfl) (kz (v:= .ref f1) (d:=ax (.ref f1)) hm1 rfl rfl) λv u y H1 s1 ev eu ey=>⟨g,a,f1,fd1,3,sS C,st,tl,i0 st tl,by rw[ev,eu,ey],hG.grow s1,ok,s1 _ _ ha,F1,by decide,hk1,hb1,λhk=>⟨λH2 s2=>⟨g,a,st,tl,rfl,(hG.grow s1).grow s2,ok,s2 _ _ (s1 _ _ ha),?_,rfl⟩,?_⟩,rfl⟩) λv H2 s2 hv=>k v H2 s2.kf (hG.grow s2) ok ?_
  ·obtain⟨h1,t,h2⟩:=kR hk
   exact Dm.dk.mp (by rw[h2];rfl)
  ·have e:=hU (ts:=i0 st tl) (m:=195) λx hx=>kQ ok (cU.mp hx).1
   have h3:(i0 st tl).length<=64:=bM (iX _ _) ok.lf
   have h4:(i0 st tl).length*(195+1)<=64*(195+1):=fB _ h3
   omega
  ·show (fr H (cC (rv (i4 (ml st tl _))))).p v H2
   by_cases hk:cR st tl=0
   ·obtain⟨h1,t,h2⟩:=kR hk
    rw[if_neg (by rw[hk];decide)] at hv
    rw[tz _ h1 h2,fO]
    exact hv
   ·rw[if_pos hk] at hv
    rw[tD _ hk]
    exact hv
end
theorem QG {s:bR} {a b:List Nat} {k:Nat} (h:k∈kinds s a b):1<=k/\k<=3:=by
  unfold kinds at h
  rcases bP.mp h with q|q
  · cases hf:bj s b with
    | none => rw[hf] at q;have:k=1:=by simpa using q
              omega
    |some t=>
      rw[hf] at q
      dsimp only at q
      split at q
      · have:k=2:=by simpa using q
        omega
      · cases q
  · split at q
    · have:k=3:=by simpa using q
      omega
    · cases q
theorem pD {s:bR} (ok:bu s) {b:k_} (h:b∈d6 s):b.source≠[]/\b.source.length<=195/\b.goal.length<=195/\1<=b.kind/\b.kind<=3:=by
 obtain⟨t,ht,h⟩:=Ae.mp h
 obtain⟨d,hd,h⟩:=Ae.mp h
 rw[sG] at h
 obtain⟨k,hk,e⟩:=bp.mp h
 subst e
 have hl:=ok.dP t ht
 have hdl:=(ok.deps t ht).2.2 d (Dm.dJ.mp hd)
 exact⟨Dm.lC hl,Dm.vA hl,Dm.vA hdl,QG hk⟩
section
variable {P:aI} {w:aE} {K:aA} {mg:Str->Option ac} {base:aF} {C:Cs}
theorem E_:a6 ["graph","rows","found","first","circle"] ["graph","rows"] (aV xq):=⟨rfl,rfl,rfl,by decide +kernel,rfl,by decide +kernel,by decide +kernel⟩
theorem QH {f:aa} {fd:aS} (F:aX K "answer_check" "answer_check" xq f fd) (kc:KC K C) (hlen:mg "len"=none) (m4:GI mg "CIRCLE_TOLD" 4) (N1:aq P w K mg base 6 "all_breaches" ["graph"] (am (sI C))) (N2:aq P w K mg base 2 "least_circle" ["targets"] (am (tj C))) (N3:aq P w K mg base 1 "with_length" ["text"] (am yg)):aN P w K mg base aR 8 f fd ["graph","rows"] (cI C 4):=by
 refine F.ok E_ (λvs H Q E h=>?_) (λcdv A outer s H vs Q E hr h=>?_)
 ·obtain⟨g,rl,st,c,rfl,_⟩:=h
  rfl
 ·obtain⟨g,rl,st,c,rfl,hn,hG,ok,hR,hz,k⟩:=h
  cases c <;> first|cases hn|skip
  have nd:=E_.nd
  have hr1:bJ 1 _:=hr.mono (by decide:1<=7)
  have hst:(dz st Ws).2=lg st:=rfl
  refine⟨_,ap (a5 (i:=2) nd rfl (aT rfl) ah) (ap (a_ aY (ap (a5 (i:=3) nd rfl (aT rfl) ah) (au (aD ah))) bh) (ap (a5 (i:=4) nd rfl (aT rfl) ah) (ap (a_ aY (au (aD ah)) bh) (au (aD ah))))),?_⟩
  refine br (EE.jN (pf N1 (hr.mono (by decide)) (ae 0 (d:=ax (.ref g)) rfl rfl) (d:=xO (d6 st)) λv H1 s1 ev=>⟨g,st,by rw[ev],hG.grow s1,ok,rfl⟩)) λv H1 s1 hv=>?_
  obtain⟨ql,bvs,rfl,hq,hbs⟩:=hv
  have hbl:bvs.length=(d6 st).length:=dR hbs
  refine bc (iC (dW rfl hlen (ae 2 (d:=bt K bvs) rfl ⟨ql,rfl,.of hq⟩)) aZ) (λhc H2 s2=>?_) (λhc H2 s2=>?_)
  ·rw[decide_eq_true_eq] at hc
   cases hB:d6 st with
   |nil=>rw[hbl,hB] at hc;simp at hc
   |cons b rest=>
    have hbf:=pD ok (b:=b) (by rw[hB];exact bB)
    rw[hB] at hbs
    cases hbs with
    | @cons v _ bvr _ hb _=>
     have s12:=s1.trans s2
     refine br (dE (v:=v) (ae 2 (d:=bt K (v::bvr)) rfl ⟨ql,rfl,.of (s2 _ _ hq)⟩) aZ En) λv' H3 s3 hv'=>?_
     cases hv'
     obtain⟨r,x,y,rfl,hr0,hx,hy⟩:=lO.grow (s2.trans s3) hb
     refine aQ (sZ (xs:=[.int 1,.int (b.kind:Nat)]++tv (eI b.source)) (ys:=tv (eI b.goal)) ?_ (CZ (xs:=[.int 1,.int (b.kind:Nat)]) (ys:=tv (eI b.source)) ?_ (mQ (xs:=[.int 1,.int (b.kind:Nat)]) (aM aZ (aM (jd (v:= .int (b.kind:Nat)) (ae 3 (d:=de K [.ref x,.ref y,.int (b.kind:Nat)]) rfl ⟨r,rfl,.of hr0⟩) aZ rfl) a0)) (by show 2<=sizeLine;decide)) (fL N3 hr1 (jd (v:= .ref x) (ae 3 (d:=de K [.ref x,.ref y,.int (b.kind:Nat)]) rfl ⟨r,rfl,.of hr0⟩) aZ rfl) λv H4 s4 ev=>⟨x,b.source,by rw[ev],s4 _ _ hx,by omega,rfl⟩)) (fL N3 hr1 (jd (v:= .ref y) (ae 3 (d:=de K [.ref x,.ref y,.int (b.kind:Nat)]) rfl ⟨r,rfl,.of hr0⟩) aZ rfl) λv H4 s4 ev=>⟨y,b.goal,by rw[ev],s4 _ _ hy,by omega,rfl⟩)) λv H4 s4 hv=>k v H4 ((s12.trans s3).trans s4).kf (hG.grow ((s12.trans s3).trans s4)) ok ?_
     ·rw[bx,bD,bD]
      unfold eI
      exact cV (m:=1000) (by simp only[bm,cZ];omega)
     ·rw[bD]
      unfold eI
      exact cV (m:=1000) (by simp only[bm,cZ];omega)
     ·have e:lg st=d7 1 (b.kind::(eI b.source++eI b.goal)):=by unfold lg;rw[hB]
      rw[hst,e,fO,show (1::b.kind::(eI b.source++eI b.goal))=([1,b.kind]++eI b.source)++eI b.goal by simp,mJ,mJ]
      exact eO (s12.trans s3) hv
  rw[decide_eq_false_iff_not] at hc
  have hB:d6 st=[]:=List.length_eq_zero_iff.mp (by omega)
  have s12:=s1.trans s2
  obtain⟨dx,fs,td,gd,ld,h1,h2,h3,h4,h5,h6,h7,h8,h9⟩:=(hG.grow s12).ex
  obtain⟨hc1,hc2⟩:=Dm.rK ok.asc
  refine br (fL N2 (hr.mono (by decide)) (bS (ae 0 rfl rfl) h1 kc.cG kc.cW h2) (d:=bz (ii st)) λv H3 s3 ev=>⟨td,st,by rw[ev],h7.grow s3,ok,rfl⟩) λv H3 s3 hv=>?_
  obtain⟨cl,cas,rfl,hcl,hct⟩:=hv
  have hcl':=cQ hct
  have s13:=s12.trans s3
  refine bc (iC (dW rfl hlen (ae 4 (d:=bt K (cas.map V.ref)) rfl ⟨cl,rfl,.of hcl⟩)) aZ) (λhc3 H4 s4=>?_) (λhc3 H4 s4=>?_)
  ·rw[aC,hcl',decide_eq_true_eq] at hc3
   cases hC:ii st with
   |nil=>rw[hC] at hc3;simp at hc3
   |cons l rest=>
    have hll:l.length<=195:=kQ ok (hc2 l (by rw[hC];exact bB))
    rw[hC] at hct
    refine aQ (sZ (xs:=[.int 1,.int 4]) (ys:=tv (eI l)) ?_ (mQ (xs:=[.int 1,.int 4]) (aM aZ (aM (a4 m4) a0)) (by show 2<=sizeLine;decide)) (fL N3 hr1 (ya (ws:=rest) (ae 4 (d:=bz (l::rest)) rfl ⟨cl,cas,rfl,s4 _ _ hcl,hct.grow s4⟩) aZ) λv H5 s5 ⟨p,ep,hp⟩=>⟨p,l,by rw[ep],hp,by omega,rfl⟩)) λv H5 s5 hv=>k v H5 ((s13.trans s4).trans s5).kf (hG.grow ((s13.trans s4).trans s5)) ok ?_
    ·rw[bD]
     unfold eI
     exact cV (m:=1000) (by simp only[bm,cZ];omega)
    ·have e:lg st=d7 1 (4::eI l):=by unfold lg;rw[hB,hC]
     rw[hst,e,fO]
     exact eO (s13.trans s4) hv
  ·rw[aC,hcl',decide_eq_false_iff_not] at hc3
   have hC:ii st=[]:=List.length_eq_zero_iff.mp (by omega)
   refine aQ (eY (xs:=[.int 0]) (aM aZ a0) (by show 1<=sizeLine;decide)) λv H5 s5 hv=>k v H5 ((s13.trans s4).trans s5).kf (hG.grow ((s13.trans s4).trans s5)) ok ?_
   have e:lg st=d7 0 []:=by unfold lg;rw[hB,hC]
   rw[hst,e,fO]
   exact eO (s13.trans s4) hv
theorem Fa:a6 ["graph","rows","found","breach"] ["graph","rows"] (aV xu):=⟨rfl,rfl,rfl,by decide +kernel,rfl,by decide +kernel,by decide +kernel⟩
theorem Fb {b:k_} (h1:b.source.length<=195) (h2:b.goal.length<=195):(gq b).length<=500:=by
 unfold gq
 rw[bx,bx,bx,bx]
 have l1:(jB " -> ").length=4:=by decide
 have l2:(jB ": ").length=2:=by decide
 have l3:=Ey b.kind
 unfold ni at l3
 omega
theorem QI {f:aa} {fd:aS} (F:aX K "answer_breaches" "answer_breaches" xu f fd) (hlen:mg "len"=none) (yi:GI mg "MOST_BREACH_LINES" 16) (N1:aq P w K mg base 6 "all_breaches" ["graph"] (am (sI C))) (N2:aq P w K mg base 2 "breach_line" ["breach"] (am yh)) (N3:aq P w K mg base 1 "lines_of" ["texts"] (am sy)):aN P w K mg base aR 8 f fd ["graph","rows"] (cI C 5):=by
 refine F.ok Fa (λvs H Q E h=>?_) (λcdv A outer s H vs Q E hr h=>?_)
 ·obtain⟨g,rl,st,c,rfl,_⟩:=h
  rfl
 ·obtain⟨g,rl,st,c,rfl,hn,hG,ok,hR,hz,k⟩:=h
  cases c <;> first|cases hn|skip
  have nd:=Fa.nd
  refine⟨_,ap (a5 (i:=2) nd rfl (aT rfl) ah) (au (aD ah)),?_⟩
  refine br (EE.jN (pf N1 (hr.mono (by decide)) (ae 0 (d:=ax (.ref g)) rfl rfl) (d:=xO (d6 st)) λv H1 s1 ev=>⟨g,st,by rw[ev],hG.grow s1,ok,rfl⟩)) λv H1 s1 hv=>?_
  obtain⟨ql,bvs,rfl,hq,hbs⟩:=hv
  have hbl:bvs.length=(d6 st).length:=dR hbs
  have hll:(cK (((d6 st).take 16).map gq)).length<=100000:=by
   have:=hU (ts:=((d6 st).take 16).map gq) (m:=500) λt ht=>by
    obtain⟨b,hb,rfl⟩:=bp.mp ht
    obtain⟨_,f1,f2,_⟩:=pD ok (mh hb)
    exact Fb f1 f2
   have h2:(((d6 st).take 16).map gq).length*(500+1)<=16*(500+1):=fB _ (by rw[aC,dL];omega)
   omega
  refine aQ (sZ (xs:=[.int (bvs.length:Nat)]) (ys:=tv (cK (((d6 st).take 16).map gq))) (by rw[bD];exact cV (m:=100001) (by simp only[bm,cZ];omega)) (mQ (xs:=[.int (bvs.length:Nat)]) (aM (dW rfl hlen (ae 2 (d:=bt K bvs) rfl ⟨ql,rfl,.of hq⟩)) a0) (by show 1<=sizeLine;decide)) (fL N3 (hr.mono (by decide)) (EE.DT (ts:=((d6 st).take 16).map gq) (by
   rw[eR]
   refine Oe (j:=3) (xs:=bvs.take 16) ((d6 st).take 16) (λb=>aw (tv (gq b))) rfl nd (EE.R (xs:=bvs.take 16) (by rw[←mK bvs 16];exact C1 (ae 2 (d:=bt K bvs) rfl ⟨ql,rfl,.of hq⟩) trivial (show EE _ _ _ _ _ from a4 yi))) (dI rfl) rfl rfl (by rw[dL,dL,hbl]) (by rw[dL];exact cV (m:=16) (by omega)) (λ_ _=>mR _) ?_
   intro i x z hx hz2 s0 H0 C0 cl fp
   have hi:i<16:=by
    have:=(List.getElem?_eq_some_iff.mp hx).1
    rw[dL] at this;omega
   rw[Sf hi] at hx hz2
   obtain⟨b,hb1,hb2⟩:=sM hbs hx
   rw[hz2] at hb1
   cases hb1
   obtain⟨f0,f1,f2,f3,f4⟩:=pD ok (dg hz2)
   exact fL N2 (hr.mono (by decide)) (ae 3 (d:=ax x) rfl rfl) λv H2 s2 ev=>⟨v,z,rfl,by rw[ev];exact lO.grow s2 hb2,f0,by omega,by omega,f3,f4,rfl⟩)) λv H2 s2 ⟨q,as,ev,hq2,ht⟩=>⟨q,as,_,by rw[ev],hq2,ht,hll,rfl⟩)) λv H2 s2 hv=>k v H2 (s1.trans s2).kf (hG.grow (s1.trans s2)) ok ?_
  rw[show (dz st Wt).2=d7 (d6 st).length (cK (((d6 st).take 16).map gq)) from rfl,fO]
  rw[hbl] at hv
  exact eO s1 hv
end
section
variable {X:Cx} {a b c e o i v func:ao} {es:List ao} {pos p2 apos cpos:Pos} {σ:St} {H:Hp} {D:Ends}
theorem yw {g C dx:aa} {fs:List (Str×V)} {fn:Str} {d:Den} (hv:EE X v σ H d) (ho:EE X o σ H (ax (.ref g))) (hg:H g=some (.ins C dx fs)) (cl:ip X.K C) (na:fW X.K C fn) (hl:fs.length<1000) (q: ∀u H2,ak H H2->d.p u H2->D.nx σ (upd H2 g (.ins C dx (dH fn u fs)))):AS X.K (tE X o) (tE X v) fn D σ H:=
 ⟨_,hv,λy H1 s1 hy=>⟨_,ho.grow s1,λx H2 s2 hx=>⟨g,C,dx,fs,hx,s2 _ _ (s1 _ _ hg),cl,na,hl,q y H2 (s1.trans s2) (d.mono _ _ _ s2 hy)⟩⟩⟩
theorem QJ {σ:St} {H:Hp} {pos:Pos} {k:Nat} {ps:List Str} {Pr:List V->Hp->Den->Prop} {x:Str} {p:Pos} {e e2 e3 e4:ao} {d0 d1 d2 d3 d:Den} (F:aq X.prog X.w X.K X.mg X.base k x ps (am Pr)) (hr:bJ k X.A)
  (ha:EE X e σ H d0) (hb:EE X e2 σ H d1) (hc:EE X e3 σ H d2) (hd:EE X e4 σ H d3) (h: ∀v u z y H1,ak H H1->d0.p v H1->d1.p u H1->d2.p z H1->d3.p y H1->Pr [v,u,z,y] H1 d)
  (hg:Gl X x:=by rfl) (hdb:(x == ("__debug__":Str))=false:=by decide) (he:starEach [e,e2,e3,e4] X.env=(false,eval e X.env)::starEach [e2,e3,e4] X.env:=by rfl) (he2:starEach [e2,e3,e4] X.env=(false,eval e2 X.env)::starEach [e3,e4] X.env:=by rfl) (he3:starEach [e3,e4] X.env=(false,eval e3 X.env)::starEach [e4] X.env:=by rfl) (he4:starEach [e4] X.env=[(false,eval e4 X.env)]:=by rfl) (hpl:(backTo pos (starEach [e2,e3,e4] X.env)).any (·.1)=false:=by rfl):EE X (.Call (.Name x p) [e,e2,e3,e4] [] pos) σ H d:=
 jP F hr (aM ha (aM hb (aM hc (aM hd a0 he4) he3) he2) he) (λvs H1 s1 z Q q=>by
  obtain⟨v,u,y,x,rfl,hv,hu,hy,hx⟩:=MD z
  exact⟨d,h v u y x H1 s1 hv hu hy hx,q⟩) hg hdb he hpl
end
section
variable {P:aI} {w:aE} {K:aA} {mg:Str->Option ac} {base:aF} {C:Cs}
def Fc (C:Cs):Sp:=λvs H Q _=> ∃x v u dx,vs=[.ref x,v,u]/\H x=some (.ins C.T dx [])/\ ∀H',SX x H H'->H' x=some (.ins C.T dx [("dependencies",v),("specs",u)])->Q .a9 H'
theorem QK:a6 ["self","dependencies","specs"] ["self","dependencies","specs"] (aV w8):=⟨rfl,rfl,rfl,by decide +kernel,rfl,by decide +kernel,by decide +kernel⟩
theorem QL {f:aa} {fd:aS} (F:aX K "__init__" "Target.__init__" w8 f fd) (kc:KC K C):aN P w K mg base aR 1 f fd ["self","dependencies","specs"] (Fc C):=by
 refine F.ok QK (λvs H Q E h=>?_) (λcdv A outer s H vs Q E hr h=>?_)
 ·obtain⟨x,v,u,dx,rfl,_⟩:=h
  rfl
 ·obtain⟨x,v,u,dx,rfl,hx,k⟩:=h
  refine⟨_,ap (my ah ah rfl) (au (my ah ah rfl)),?_⟩
  refine yw (d:=ax v) (ae 1 rfl rfl) (ae 0 rfl rfl) hx kc.cT kc.kH (by decide) λy H1 s1 ey=>?_
  cases ey
  refine yw (d:=ax u) (ae 2 rfl rfl) (ae 0 rfl rfl) aK kc.cT kc.xM (by show 1<1000;decide) λy H2 s2 ey=>?_
  cases ey
  refine k _ (((s1.sx x).sK.trans (s2.sx x)).sK) ?_
  rw[aK]
  rfl
def Fd (C:Cs):Sp:=λvs H Q _=> ∃x dx,vs=[.ref x]/\H x=some (.ins C.G dx [])/\ ∀H',SX x H H'->ck C H' x Ah->Q .a9 H'
theorem QM:a6 ["self"] ["self"] (aV w9):=⟨rfl,rfl,rfl,by decide +kernel,rfl,by decide +kernel,by decide +kernel⟩
theorem QN {f:aa} {fd:aS} (F:aX K "__init__" "Graph.__init__" w9 f fd) (kc:KC K C):aN P w K mg base aR 1 f fd ["self"] (Fd C):=by
 refine F.ok QM (λvs H Q E h=>?_) (λcdv A outer s H vs Q E hr h=>?_)
 ·obtain⟨x,dx,rfl,_⟩:=h
  rfl
 ·obtain⟨x,dx,rfl,hx,k⟩:=h
  refine⟨_,ap (my ah qS rfl) (ap (my ah qS rfl) (au (my ah (fF gP) rfl))),?_⟩
  refine λtd htd=>⟨_,ae 0 (d:=ax (.ref x)) rfl rfl,λy H1 s1 ey=>?_⟩
  cases ey
  have nt:td≠x:=λe=>by rw[e,hx] at htd;cases htd
  refine⟨x,C.G,dx,[],rfl,s1 _ _ (by rw[az (dw nt)];exact hx),kc.cG,kc.cW,by decide,?_⟩
  refine λgd hgd=>⟨_,ae 0 (d:=ax (.ref x)) rfl rfl,λy H2 s2 ey=>?_⟩
  cases ey
  have ng:gd≠x:=λe=>by rw[e,aK] at hgd;cases hgd
  have hgd1:H1 gd=none:=by rwa[az ng] at hgd
  have ht1:H1 td=some (.dT []):=s1 _ _ aK
  have ngt:gd≠td:=λe=>by rw[e,ht1] at hgd1;cases hgd1
  refine⟨x,C.G,dx,_,rfl,s2 _ _ (by rw[az (dw ng)];exact aK),kc.cG,kc.lN,by show 1<1000;decide,?_⟩
  refine⟨bv _,λld hld=>⟨_,ae 0 (d:=ax (.ref x)) rfl rfl,λy H3 s3 ey=>?_⟩⟩
  cases ey
  have nl:ld≠x:=λe=>by rw[e,aK] at hld;cases hld
  have hld2:H2 ld=none:=by rwa[az nl] at hld
  have ht2:H2 td=some (.dT []):=s2 _ _ (by rw[az (dw ngt),az nt];exact ht1)
  have hg2:H2 gd=some (.dT []):=s2 _ _ aK
  have n1:td≠ld:=λe=>by rw[←e,ht2] at hld2;cases hld2
  have n2:gd≠ld:=λe=>by rw[←e,hg2] at hld2;cases hld2
  have hx3:H3 x=some (.ins C.G dx [("targets",.ref td),("groups",.ref gd)]):=s3 _ _ (by rw[az (dw nl)];exact aK)
  refine⟨x,C.G,dx,_,rfl,hx3,kc.cG,kc.xL,by show 2<1000;decide,k _ ?_ ⟨dx,[("targets",.ref td),("groups",.ref gd),("layers",.ref ld)],td,gd,ld,by rw[aK];rfl,rfl,rfl,rfl,aW _,dw ngt,⟨[],[],by rw[az nt];exact s3 _ _ (by rw[az n1,az nt];exact ht2),.nil,.nil⟩,⟨[],[],by rw[az ng];exact s3 _ _ (by rw[az n2,az ng];exact hg2),.nil,.nil⟩,[],by rw[az nl];exact s3 _ _ aK,.nil⟩⟩
  intro b u hb he
  rw[az hb]
  refine s3 _ _ ?_
  rw[az (cA (s2 _ _ ?_:H2 b=some u) hld2),az hb]
  ·refine s2 _ _ ?_
   rw[az (cA (s1 _ _ (by rw[az (cA he htd)];exact he)) hgd1),az hb]
   exact s1 _ _ (by rw[az (cA he htd)];exact he)
  ·rw[az (cA (s1 _ _ (by rw[az (cA he htd)];exact he)) hgd1),az hb]
   exact s1 _ _ (by rw[az (cA he htd)];exact he)
theorem yx (s:bR) (l:List Nat) (ds us:List Int):dz s (.target l ds us)=if dY s l (aO ds) (aO us)≠0 then (s,ij (dY s l (aO ds) (aO us))) else
  ({s with targets:=nV {label:=l,deps:=(aO ds).getD [],specs:=(aO us).getD []} s.targets},d7 (if (bj s l).isNone=true then 1 else 0) []):=by
 show UU s l ds us=_
 unfold UU dY
 cases hd:aO ds with
 |none=>
  dsimp only
  split <;> rfl
 |some d=>
  cases hu:aO us with
  |none=>
   dsimp only
   split <;> rfl
  |some u=>
   dsimp only[IA]
   split
   ·rfl
   split
   ·rfl
   split
   ·rfl
   split
   ·rfl
   split
   ·rfl
   split <;> rfl
theorem Fe:a6 ["graph","rows","label","dependencies","specs","refusal","is_new"] ["graph","rows"] (aV xl):=⟨rfl,rfl,rfl,by decide +kernel,rfl,by decide +kernel,by decide +kernel⟩
theorem QO {f ft:aa} {fd fdt:aS} (F:aX K "answer_target" "answer_target" xl f fd) (kc:KC K C) (rn:RN mg) (M:Mk K C.T ft) (FT:aN P w K mg base aR 1 ft fdt ["self","dependencies","specs"] (Fc C)) (hmT:mg "Target"=some (.ref C.T)) (hbT:Binds K fdt ["self","dependencies","specs"] [])
  (N0:aq P w K mg base 2 "texts_of" ["row"] (am (jQ λl=>cq (aO l)))) (N1:aq P w K mg base 7 "target_refusal" ["graph","label","dependencies","specs"] (am (yl C))):aN P w K mg base aR 8 f fd ["graph","rows"] (cI C 0):=by
 refine F.ok Fe (λvs H Q E h=>?_) (λcdv A outer s H vs Q E hr h=>?_)
 ·obtain⟨g,rl,st,c,rfl,_⟩:=h
  rfl
 ·obtain⟨g,rl,st,c,rfl,hn,hG,ok,hR,hz,k⟩:=h
  cases c <;> first|cases hn|skip
  rename_i tl rd ru
  have nd:=Fe.nd
  obtain⟨a,b,c,hrl,ha,hb,hc⟩:=Qs hR
  rw[jS] at ha
  have hdl:rd.length<=5000:=hz rd (by simp [g_])
  have hul:ru.length<=5000:=hz ru (by simp [g_])
  have hsd: ∀x,aO rd=some x->x.length<=5001:=λx hx=>by have:=(Dm.kO hx).1;omega
  have hsu: ∀x,aO ru=some x->x.length<=5001:=λx hx=>by have:=(Dm.kO hx).1;omega
  refine⟨_,ap (a5 (i:=2) nd rfl (aT rfl) ah) (ap (a5 (i:=3) nd rfl (aT rfl) ah) (ap (a5 (i:=4) nd rfl (aT rfl) ah) (ap (a5 (i:=5) nd rfl (aT rfl) ah) (ap (a_ aY (au (aD ah)) bh)
   (ap (a5 (i:=6) nd rfl (aT rfl) ah) (ap (mC (b9 hr) ah ah (Kv M FT (hr.mono (by decide)) rfl hmT hbT .nil rf cF) rfl) (au (aD ah)))))))),?_⟩
  have ixe: ∀{X:Cx},True:=trivial
  refine br (dE (v:= .ref a) (ae 1 (d:=bt K [.ref a,.ref b,.ref c]) rfl ⟨rl,rfl,.of hrl⟩) aZ rfl) λv H1 s1 hv=>?_
  cases hv
  refine br (fL N0 (hr.mono (by decide)) (dE (v:= .ref b) (ae 1 (d:=bt K [.ref a,.ref b,.ref c]) rfl ⟨rl,rfl,.of (s1 _ _ hrl)⟩) aZ rfl) (d:=cq (aO rd)) λv H2 s2 ev=>⟨b,rd,by rw[ev],s2 _ _ (s1 _ _ hb),by omega,rfl⟩) λvd H2 s2 hvd=>?_
  have s12:=s1.trans s2
  refine br (fL N0 (hr.mono (by decide)) (dE (v:= .ref c) (ae 1 (d:=bt K [.ref a,.ref b,.ref c]) rfl ⟨rl,rfl,.of (s12 _ _ hrl)⟩) aZ rfl) (d:=cq (aO ru)) λv H3 s3 ev=>⟨c,ru,by rw[ev],s3 _ _ (s12 _ _ hc),by omega,rfl⟩) λvu H3 s3 hvu=>?_
  have s13:=s12.trans s3
  have hvd3:=(cq (aO rd)).mono _ _ _ s3 hvd
  refine br (QJ N1 hr (ae 0 (d:=ax (.ref g)) rfl rfl) (ae 2 (d:=aw (tv tl)) rfl ⟨a,rfl,s13 _ _ ha⟩) (ae 3 (d:=cq (aO rd)) rfl hvd3) (ae 4 (d:=cq (aO ru)) rfl hvu) (d:=aH (dY st tl (aO rd) (aO ru))) λv u z y H4 s4 ev ⟨p,ep,hp⟩ hz' hy=>⟨g,p,z,y,st,tl,_,_,by rw[ev,ep],(hG.grow s13).grow s4,ok,hp,hz',hy,hsd,hsu,rfl⟩) λv H4 s4 hv=>?_
  cases hv
  have s14:=s13.trans s4
  refine bc (jL (ae 5 (d:=aH (dY st tl (aO rd) (aO ru))) rfl rfl) (a4 rn.r0)) (λhc5 H5 s5=>?_) (λhc5 H5 s5=>?_)
  ·rw[cx,decide_eq_false_iff_not] at hc5
   have s15:=s14.trans s5
   rw[yx,if_pos hc5] at k
   exact aQ (eY (xs:=[.int (dY st tl (aO rd) (aO ru))]) (aM (ae 5 rfl rfl) a0) (by show 1<=sizeLine;decide)) λv H6 s6 hv=>k v H6 (s15.trans s6).kf (hG.grow (s15.trans s6)) ok (eO s15 hv)
  rw[cN,decide_eq_true_eq] at hc5
  rw[yx,if_neg (by rw[hc5];decide)] at k
  have s15:=s14.trans s5
  obtain⟨d,hd⟩: ∃d,aO rd=some d:=by
   cases h:aO rd with
   |some d=>exact⟨d,rfl⟩
   |none=>rw[h] at hc5;unfold dY at hc5;split at hc5 <;> cases hc5
  obtain⟨u,hu⟩: ∃d,aO ru=some d:=by
   cases h:aO ru with
   |some d=>exact⟨d,rfl⟩
   |none=>rw[h,hd] at hc5;unfold dY at hc5;split at hc5 <;> cases hc5
  rw[hd] at hvd3 hc5 k
  rw[hu] at hvu hc5 k
  obtain⟨qd,das,rfl,hqd,hdt⟩:=(bz d).mono _ _ _ (s4.trans s5) hvd3
  obtain⟨qu,uas,rfl,hqu,hut⟩:=(bz u).mono _ _ _ (s4.trans s5) hvu
  obtain⟨dx,fs,td,gd,ld,h1,h2,h3,h4,h5,h6,h7,h8,h9⟩:=(hG.grow s15).ex
  obtain⟨kvs,q1,q0,_,q2⟩:=h7.at ok.asc
  refine br (CD (b9 hr) (ae 2 rfl ⟨a,rfl,s15 _ _ ha⟩) (bS (ae 0 rfl rfl) h1 kc.cG kc.cW h2) q1) λv H6 s6 hv=>?_
  rw[jk q2,kN] at hv
  cases hv
  refine⟨[ax (.ref qd),ax (.ref qu)],aM (ae 3 rfl rfl) (aM (ae 4 rfl rfl) a0),λvs H7 s7 z=>λx dxx hx hdx ne=>?_⟩
  obtain⟨_,_,rfl,e1,e2⟩:=lF z
  cases e1;cases e2
  refine⟨x,.ref qd,.ref qu,dxx,rfl,aK,λH8 sx8 hx8=>⟨rfl,?_⟩⟩
  have s78:ak H7 H8:=λb o hb=>sx8 _ _ (cA hb hx) (by rw[az (cA hb hx),az (cA hb hdx)];exact hb)
  have s58:ak H5 H8:=(s6.trans s7).trans s78
  refine⟨_,bS (ae 0 (d:=ax (.ref g)) rfl rfl) (s58 _ _ h1) kc.cG kc.cW h2,λy H9 s9 ey=>⟨_,ae 2 (d:=aw (tv tl)) rfl ⟨a,rfl,s9 _ _ (s58 _ _ (s15 _ _ ha))⟩,λy2 HA sA hy2=>?_⟩⟩
  cases ey
  obtain⟨pk,rfl,hpk⟩:=hy2
  have s8A:=s9.trans sA
  have s5A:=s58.trans s8A
  refine⟨td,_,rfl,lA.t (k:=keyOf tl) (s5A _ _ q1) (by rw[gF];exact hpk) (by rw[q0];exact f_ (m:=64) ok.ci),?_⟩
  have sHA:ak H HA:=s15.trans s5A
  have kI:kP HA (upd HA td (.dT (putK kvs (keyOf tl) (.ref x)))):=⟨⟨λb xs hb=>by rw[az (bg hb (s5A _ _ q1) (by intro z;cases z))];exact hb,λb xs hb=>by rw[az (bg hb (s5A _ _ q1) (by intro z;cases z))];exact hb⟩,λb C' dx' fs' hb=>by rw[az (bg hb (s5A _ _ q1) (by intro z;cases z))];exact hb⟩
  have hT0:eM C.T HA x d u:=⟨dxx,_,qd,qu,s8A _ _ hx8,rfl,rfl,⟨das,s5A _ _ hqd,hdt.grow s5A⟩,⟨uas,s5A _ _ hqu,hut.grow s5A⟩⟩
  have hTx:eM C.T (upd HA td (.dT (putK kvs (keyOf tl) (.ref x)))) x d u:=eM.nj kI hT0
  have hGA:ck C (upd HA td (.dT (putK kvs (keyOf tl) (.ref x)))) g {st with targets:=nV {label:=tl,deps:=d,specs:=u} st.targets}:=by
   obtain⟨gkvs,gus,gk1,gk2,gk3⟩:=h8
   exact⟨dx,fs,td,gd,ld,kI.2 _ _ _ _ (s5A _ _ h1),h2,h3,h4,h5,h6,dO.put (t:={label:=tl,deps:=d,specs:=u}) ok.asc (h7.grow s5A) (s5A _ _ q1) aK kI hTx,eN.kept (eN.grow s5A ⟨gkvs,gus,gk1,gk2,gk3⟩) (s5A _ _ gk1) (by rw[az (dw h6)];exact s5A _ _ gk1) kI.1,(h9.grow s5A).kept kI.1⟩
  have aB:bu {st with targets:=nV {label:=tl,deps:=d,specs:=u} st.targets}:=ok.put hc5 λt ht=>by have:=(Dm.kO hu).2 t ht;omega
  refine aQ (eY (xs:=[.int (if (bj st tl).isNone=true then 1 else 0)]) (aM (vM (cP (ae 6 (d:=bo (bj st tl).isNone) rfl rfl)) (λq=>by rw[if_pos q];exact aZ) (λq=>by rw[if_neg (by rw[q];decide)];exact aZ)) a0) (by show 1<=sizeLine;decide)) λv HB sB hv=>k v HB ((sHA.kf.trans (yp (s5A _ _ q1))).trans sB.kf) (hGA.grow sB) aB ?_
  rw[fO]
  have e2:tv ((if (bj st tl).isNone=true then 1 else 0)::([]:List Nat))=[V.int (if (bj st tl).isNone=true then 1 else 0)]:=by split <;> rfl
  rw[e2]
  exact⟨hv.1,λq e=>sHA.free (s_ (hv.2 q e))⟩
end
section
variable {P:aI} {w:aE} {K:aA} {mg:Str->Option ac} {base:aF} {C:Cs}
theorem Ff {H:Hp} {td:aa} {kvs kvs':List (List Key×V)} (h:H td=some (.dT kvs)):kP H (upd H td (.dT kvs')):=
 ⟨⟨λb xs hb=>by rw[az (bg hb h (by intro z;cases z))];exact hb,λb xs hb=>by rw[az (bg hb h (by intro z;cases z))];exact hb⟩,λb C' dx' fs' hb=>by rw[az (bg hb h (by intro z;cases z))];exact hb⟩
theorem yy (s:bR) (l:List Nat):dz s (.remove l)=if cR s l≠0 then (s,ij (cR s l)) else ({s with targets:=s.targets.filter λt=>t.label != l},d7 0 []):=by
 show (if a8 l=false then _ else _)=_
 unfold cR
 split
 ·rfl
 split <;> rfl
theorem Fg:a6 ["graph","rows","label","refusal"] ["graph","rows"] (aV xm):=⟨rfl,rfl,rfl,by decide +kernel,rfl,by decide +kernel,by decide +kernel⟩
theorem QP {f:aa} {fd:aS} (F:aX K "answer_remove" "answer_remove" xm f fd) (kc:KC K C) (rn:RN mg) (N1:aq P w K mg base 6 "known_target_refusal" ["graph","label"] (am (tm C))):aN P w K mg base aR 8 f fd ["graph","rows"] (cI C 1):=by
 refine F.ok Fg (λvs H Q E h=>?_) (λcdv A outer s H vs Q E hr h=>?_)
 ·obtain⟨g,rl,st,c,rfl,_⟩:=h
  rfl
 ·obtain⟨g,rl,st,c,rfl,hn,hG,ok,hR,hz,k⟩:=h
  cases c <;> first|cases hn|skip
  rename_i tl
  have nd:=Fg.nd
  obtain⟨a,hrl,ha⟩:=lQ hR
  rw[jS] at ha
  refine⟨_,ap (a5 (i:=2) nd rfl (aT rfl) ah) (ap (a5 (i:=3) nd rfl (aT rfl) ah) (ap (a_ aY (au (aD ah)) bh) (ap (fe (NB (b9 hr) ah ah ⟨rfl,rfl,rfl,rfl⟩)) (au (aD ah))))),?_⟩
  refine br (dE (v:= .ref a) (ae 1 (d:=bt K [.ref a]) rfl ⟨rl,rfl,.of hrl⟩) aZ rfl) λv H1 s1 hv=>?_
  cases hv
  refine br (g9 N1 (hr.mono (by decide)) (ae 0 (d:=ax (.ref g)) rfl rfl) (ae 2 (d:=aw (tv tl)) rfl ⟨a,rfl,s1 _ _ ha⟩) (d:=aH (cR st tl)) λv u H2 s2 ev ⟨p,ep,hp⟩=>⟨g,p,st,tl,by rw[ev,ep],(hG.grow s1).grow s2,ok,hp,rfl⟩) λv H2 s2 hv=>?_
  cases hv
  have s12:=s1.trans s2
  refine bc (jL (ae 3 (d:=aH (cR st tl)) rfl rfl) (a4 rn.r0)) (λhc H3 s3=>?_) (λhc H3 s3=>?_)
  ·rw[cx,decide_eq_false_iff_not] at hc
   rw[yy,if_pos hc] at k
   exact aQ (eY (xs:=[.int (cR st tl)]) (aM (ae 3 rfl rfl) a0) (by show 1<=sizeLine;decide)) λv H4 s4 hv=>k v H4 ((s12.trans s3).trans s4).kf (hG.grow ((s12.trans s3).trans s4)) ok (eO (s12.trans s3) hv)
  rw[cN,decide_eq_true_eq] at hc
  rw[yy,if_neg (by rw[hc];decide)] at k
  have s13:=s12.trans s3
  obtain⟨hl,t,hf⟩:=kR hc
  obtain⟨dx,fs,td,gd,ld,h1,h2,h3,h4,h5,h6,h7,h8,h9⟩:=(hG.grow s13).ex
  obtain⟨kvs,q1,q0,_,q2⟩:=h7.at ok.asc
  rcases q2 tl with ⟨_,z⟩|⟨r,t',q3,q4,_⟩
  ·rw[hf] at z;cases z
  refine⟨_,bS (ae 0 (d:=ax (.ref g)) rfl rfl) h1 kc.cG kc.cW h2,λy H4 s4 ey=>⟨td,ey,.inr ⟨kvs,.inl (s4 _ _ q1)⟩,_,ae 2 (d:=aw (tv tl)) rfl ⟨a,rfl,s4 _ _ (s13 _ _ ha)⟩,λy2 H5 s5 hy2=>?_⟩⟩
  obtain⟨pk,rfl,hpk⟩:=hy2
  have s35:=s4.trans s5
  refine⟨kvs,tl,pk,_,s35 _ _ q1,rfl,hpk,q3,?_⟩
  have kI:kP H5 (upd H5 td (.dT (kr kvs (keyOf tl)))):=Ff (s35 _ _ q1)
  have hGA:ck C (upd H5 td (.dT (kr kvs (keyOf tl)))) g {st with targets:=st.targets.filter λt=>t.label != tl}:=by
   obtain⟨gkvs,gus,gk1,gk2,gk3⟩:=h8
   exact⟨dx,fs,td,gd,ld,kI.2 _ _ _ _ (s35 _ _ h1),h2,h3,h4,h5,h6,dO.drop (h7.grow s35) (s35 _ _ q1) aK kI,eN.kept (eN.grow s35 ⟨gkvs,gus,gk1,gk2,gk3⟩) (s35 _ _ gk1) (by rw[az (dw h6)];exact s35 _ _ gk1) kI.1,(h9.grow s35).kept kI.1⟩
  exact aQ (eY (xs:=[.int 0]) (aM aZ a0) (by show 1<=sizeLine;decide)) λv HB sB hv=>k v HB (((s13.trans s35).kf.trans (yp (s35 _ _ q1))).trans sB.kf) (hGA.grow sB) (ok.drop tl) ⟨hv.1,λq e=>(s13.trans s35).free (s_ (hv.2 q e))⟩
theorem Fh (l:List Int):IH l=if dv (aO l)≠0 then .error (dv (aO l)) else .ok ((aO l).getD []):=by
 unfold IH dv
 cases aO l with
 |none=>rfl
 |some u=>
  dsimp only[IA]
  split
  ·rfl
  split <;> rfl
theorem yz (s:bR) (n:List Nat) (us:List Int):dz s (.group n us)=if fM s n (aO us)≠0 then (s,ij (fM s n (aO us))) else
  ({s with groups:={name:=n,specs:=(aO us).getD []}::s.groups.filter λg=>g.name != n},d7 (if (s.groups.any λg=>g.name == n)=true then 0 else 1) []):=by
 show UV s n us=_
 unfold UV fM
 dsimp only
 split
 ·rfl
 rw[Fh]
 by_cases h:dv (aO us)≠0
 ·rw[if_pos h,if_pos h,if_pos h]
 ·rw[if_neg h,if_neg h]
  dsimp only
  split <;> rfl
theorem Fi:a6 ["graph","rows","name","specs","refusal","is_new"] ["graph","rows"] (aV xn):=⟨rfl,rfl,rfl,by decide +kernel,rfl,by decide +kernel,by decide +kernel⟩
theorem QQ {f:aa} {fd:aS} (F:aX K "answer_group" "answer_group" xn f fd) (kc:KC K C) (rn:RN mg) (N0:aq P w K mg base 2 "texts_of" ["row"] (am (jQ λl=>cq (aO l)))) (N1:aq P w K mg base 7 "group_refusal" ["graph","name","specs"] (am (yk C))):aN P w K mg base aR 8 f fd ["graph","rows"] (cI C 2):=by
 refine F.ok Fi (λvs H Q E h=>?_) (λcdv A outer s H vs Q E hr h=>?_)
 ·obtain⟨g,rl,st,c,rfl,_⟩:=h
  rfl
 ·obtain⟨g,rl,st,c,rfl,hn,hG,ok,hR,hz,k⟩:=h
  cases c <;> first|cases hn|skip
  rename_i tn ru
  have nd:=Fi.nd
  obtain⟨a,b,hrl,ha,hb⟩:=yt hR
  rw[jS] at ha
  have hul:ru.length<=5000:=hz ru (by simp [g_])
  have hsu: ∀x,aO ru=some x->x.length<=5001:=λx hx=>by have:=(Dm.kO hx).1;omega
  refine⟨_,ap (a5 (i:=2) nd rfl (aT rfl) ah) (ap (a5 (i:=3) nd rfl (aT rfl) ah) (ap (a5 (i:=4) nd rfl (aT rfl) ah) (ap (a_ aY (au (aD ah)) bh)
   (ap (a5 (i:=5) nd rfl (aT rfl) ah) (ap (mC (b9 hr) ah ah ah rfl) (au (aD ah))))))),?_⟩
  refine br (dE (v:= .ref a) (ae 1 (d:=bt K [.ref a,.ref b]) rfl ⟨rl,rfl,.of hrl⟩) aZ rfl) λv H1 s1 hv=>?_
  cases hv
  refine br (fL N0 (hr.mono (by decide)) (dE (v:= .ref b) (ae 1 (d:=bt K [.ref a,.ref b]) rfl ⟨rl,rfl,.of (s1 _ _ hrl)⟩) aZ rfl) (d:=cq (aO ru)) λv H2 s2 ev=>⟨b,ru,by rw[ev],s2 _ _ (s1 _ _ hb),by omega,rfl⟩) λvu H2 s2 hvu=>?_
  have s12:=s1.trans s2
  refine br (fi N1 hr (ae 0 (d:=ax (.ref g)) rfl rfl) (ae 2 (d:=aw (tv tn)) rfl ⟨a,rfl,s12 _ _ ha⟩) (ae 3 (d:=cq (aO ru)) rfl hvu) (d:=aH (fM st tn (aO ru))) λv u z H3 s3 ev ⟨p,ep,hp⟩ hz'=>⟨g,p,z,st,tn,_,by rw[ev,ep],(hG.grow s12).grow s3,ok,hp,hz',hsu,rfl⟩) λv H3 s3 hv=>?_
  cases hv
  have s13:=s12.trans s3
  refine bc (jL (ae 4 (d:=aH (fM st tn (aO ru))) rfl rfl) (a4 rn.r0)) (λhc H4 s4=>?_) (λhc H4 s4=>?_)
  ·rw[cx,decide_eq_false_iff_not] at hc
   rw[yz,if_pos hc] at k
   exact aQ (eY (xs:=[.int (fM st tn (aO ru))]) (aM (ae 4 rfl rfl) a0) (by show 1<=sizeLine;decide)) λv H5 s5 hv=>k v H5 ((s13.trans s4).trans s5).kf (hG.grow ((s13.trans s4).trans s5)) ok (eO (s13.trans s4) hv)
  rw[cN,decide_eq_true_eq] at hc
  rw[yz,if_neg (by rw[hc];decide)] at k
  have s14:=s13.trans s4
  obtain⟨u,hu⟩: ∃d,aO ru=some d:=by
   cases h:aO ru with
   |some d=>exact⟨d,rfl⟩
   |none=>
    rw[h] at hc
    unfold fM at hc
    split at hc
    ·cases hc
    ·rw[if_pos (by decide)] at hc;cases hc
  rw[hu] at hvu hc k
  obtain⟨qu,uas,rfl,hqu,hut⟩:=(bz u).mono _ _ _ (s3.trans s4) hvu
  obtain⟨dx,fs,td,gd,ld,h1,h2,h3,h4,h5,h6,h7,h8,h9⟩:=(hG.grow s14).ex
  obtain⟨kvs,q1,q0,_,q2⟩:=h8.at ok
  refine br (CD (b9 hr) (ae 2 rfl ⟨a,rfl,s14 _ _ ha⟩) (bS (ae 0 rfl rfl) h1 kc.cG kc.lN h3) q1) λv H5 s5 hv=>?_
  rw[q2] at hv
  cases hv
  refine⟨_,ae 3 (d:=ax (.ref qu)) rfl rfl,λy0 H6 s6 ey0=>⟨_,bS (ae 0 (d:=ax (.ref g)) rfl rfl) (s6 _ _ (s5 _ _ h1)) kc.cG kc.lN h3,λy H7 s7 ey=>⟨_,ae 2 (d:=aw (tv tn)) rfl ⟨a,rfl,s7 _ _ (s6 _ _ (s5 _ _ (s14 _ _ ha)))⟩,λy2 H8 s8 hy2=>?_⟩⟩⟩
  cases ey0;cases ey
  obtain⟨pk,rfl,hpk⟩:=hy2
  have s48:=((s5.trans s6).trans s7).trans s8
  refine⟨gd,_,rfl,lA.t (k:=keyOf tn) (s48 _ _ q1) (by rw[gF];exact hpk) (by rw[q0];exact f_ (m:=16) ok.o_),?_⟩
  have kI:kP H8 (upd H8 gd (.dT (putK kvs (keyOf tn) (.ref qu)))):=Ff (s48 _ _ q1)
  have hGA:ck C (upd H8 gd (.dT (putK kvs (keyOf tn) (.ref qu)))) g {st with groups:={name:=tn,specs:=u}::st.groups.filter λg=>g.name != tn}:=by
   obtain⟨tkvs,tus,tk1,tk2,tk3⟩:=h7
   exact⟨dx,fs,td,gd,ld,kI.2 _ _ _ _ (s48 _ _ h1),h2,h3,h4,h5,h6,dO.nj (dO.grow s48 ⟨tkvs,tus,tk1,tk2,tk3⟩) (s48 _ _ tk1) (by rw[az h6];exact s48 _ _ tk1) kI,eN.put (g:={name:=tn,specs:=u}) ok.mX (h8.grow s48) (s48 _ _ q1) aK kI.1 (cr.kept kI.1 ⟨uas,s48 _ _ hqu,hut.grow s48⟩),(h9.grow s48).kept kI.1⟩
  have aB:bu {st with groups:={name:=tn,specs:=u}::st.groups.filter λg=>g.name != tn}:=ok.group hc λt ht=>by have:=(Dm.kO hu).2 t ht;omega
  refine aQ (eY (xs:=[.int (if (st.groups.any λg=>g.name == tn)=true then 0 else 1)]) (aM (vM (cP (ae 5 (d:=bo (!st.groups.any λg=>g.name == tn)) rfl rfl)) (λq=>by rw[cx] at q;rw[if_neg (by rw[q];decide)];exact aZ) (λq=>by rw[cN] at q;rw[if_pos q];exact aZ)) a0) (by show 1<=sizeLine;decide)) λv HB sB hv=>k v HB (((s14.trans s48).kf.trans (yp (s48 _ _ q1))).trans sB.kf) (hGA.grow sB) aB ?_
  rw[fO]
  have e2:tv ((if (st.groups.any λg=>g.name == tn)=true then 0 else 1)::([]:List Nat))=[V.int (if (st.groups.any λg=>g.name == tn)=true then 0 else 1)]:=by split <;> rfl
  rw[e2]
  exact⟨hv.1,λq e=>(s14.trans s48).free (s_ (hv.2 q e))⟩
theorem yB (s:bR) (us:List Int):dz s (.layers us)=if dv (aO us)≠0 then (s,ij (dv (aO us))) else ({s with layers:=(aO us).getD []},d7 ((aO us).getD []).length []):=by
 show (match IH us with| .error k=>(s,ij k)| .ok l=>({s with layers:=l},d7 l.length []))=_
 rw[Fh]
 by_cases h:dv (aO us)≠0
 ·rw[if_pos h,if_pos h]
 ·rw[if_neg h,if_neg h]
theorem Fj:a6 ["graph","rows","specs","refusal"] ["graph","rows"] (aV xo):=⟨rfl,rfl,rfl,by decide +kernel,rfl,by decide +kernel,by decide +kernel⟩
theorem Fk (f:Str) (v:V): ∀fs:List (Str×V),(fs.lookup f).isSome=true->(dH f v fs).length=fs.length
 | [],h=>by cases h
 |(g,x)::r,h=>by
  unfold dH
  by_cases e:g=f
  ·rw[if_pos e];rfl
  ·rw[if_neg e,bm,bm]
   congr 1
   refine Fk f v r ?_
   rwa[l8,beq_eq_false_iff_ne.mpr (dw e)] at h
theorem QR {f:aa} {fd:aS} (F:aX K "answer_layers" "answer_layers" xo f fd) (kc:KC K C) (rn:RN mg) (hlen:mg "len"=none) (N0:aq P w K mg base 2 "texts_of" ["row"] (am (jQ λl=>cq (aO l)))) (N1:aq P w K mg base 6 "plain_specs_refusal" ["specs"] (am tq)):aN P w K mg base aR 8 f fd ["graph","rows"] (cI C 3):=by
 refine F.ok Fj (λvs H Q E h=>?_) (λcdv A outer s H vs Q E hr h=>?_)
 ·obtain⟨g,rl,st,c,rfl,_⟩:=h
  rfl
 ·obtain⟨g,rl,st,c,rfl,hn,hG,ok,hR,hz,k⟩:=h
  cases c <;> first|cases hn|skip
  rename_i ru
  have nd:=Fj.nd
  obtain⟨a,hrl,ha⟩:=lQ hR
  have hul:ru.length<=5000:=hz ru (by simp [g_])
  have hsu: ∀x,aO ru=some x->x.length<=5001:=λx hx=>by have:=(Dm.kO hx).1;omega
  refine⟨_,ap (a5 (i:=2) nd rfl (aT rfl) ah) (ap (a5 (i:=3) nd rfl (aT rfl) ah) (ap (a_ aY (au (aD ah)) bh) (ap (my ah ah rfl) (au (aD ah))))),?_⟩
  refine br (fL N0 (hr.mono (by decide)) (dE (v:= .ref a) (ae 1 (d:=bt K [.ref a]) rfl ⟨rl,rfl,.of hrl⟩) aZ rfl) (d:=cq (aO ru)) λv H2 s2 ev=>⟨a,ru,by rw[ev],s2 _ _ ha,by omega,rfl⟩) λvu H1 s1 hvu=>?_
  refine br (fL N1 (hr.mono (by decide)) (ae 2 (d:=cq (aO ru)) rfl hvu) (d:=aH (dv (aO ru))) λv H2 s2 hv=>⟨v,_,rfl,hv,hsu,rfl⟩) λv H2 s2 hv=>?_
  cases hv
  have s12:=s1.trans s2
  refine bc (jL (ae 3 (d:=aH (dv (aO ru))) rfl rfl) (a4 rn.r0)) (λhc H3 s3=>?_) (λhc H3 s3=>?_)
  ·rw[cx,decide_eq_false_iff_not] at hc
   rw[yB,if_pos hc] at k
   exact aQ (eY (xs:=[.int (dv (aO ru))]) (aM (ae 3 rfl rfl) a0) (by show 1<=sizeLine;decide)) λv H4 s4 hv=>k v H4 ((s12.trans s3).trans s4).kf (hG.grow ((s12.trans s3).trans s4)) ok (eO (s12.trans s3) hv)
  rw[cN,decide_eq_true_eq] at hc
  rw[yB,if_neg (by rw[hc];decide)] at k
  have s13:=s12.trans s3
  obtain⟨u,hu⟩: ∃d,aO ru=some d:=by
   cases h:aO ru with
   |some d=>exact⟨d,rfl⟩
   |none=>rw[h] at hc;cases hc
  rw[hu] at hvu hc k
  obtain⟨qu,uas,rfl,hqu,hut⟩:=(bz u).mono _ _ _ (s2.trans s3) hvu
  obtain⟨dx,fs,td,gd,ld,h1,h2,h3,h4,h5,h6,h7,h8,h9⟩:=(hG.grow s13).ex
  refine yw (d:=ax (.ref qu)) (ae 2 rfl rfl) (ae 0 rfl rfl) h1 kc.cG kc.xL (by omega) λy H4 s4 ey=>?_
  cases ey
  have hg4:=s4 _ _ h1
  have kp: ∀{b:aa} {o:HO},H4 b=some o->(∀C' dx' fs',o≠ .ins C' dx' fs')->(upd H4 g (.ins C.G dx (dH "layers" (.ref qu) fs))) b=some o:=λ{b o} hb ho=>by rw[az (λe=>ho _ _ _ (by rw[e,hg4] at hb;exact(cJ hb).symm))];exact hb
  have kK:Kept H4 (upd H4 g (.ins C.G dx (dH "layers" (.ref qu) fs))):=⟨λb xs hb=>kp hb (λ_ _ _ z=>nomatch z),λb xs hb=>kp hb (λ_ _ _ z=>nomatch z)⟩
  have hGA:ck C (upd H4 g (.ins C.G dx (dH "layers" (.ref qu) fs))) g {st with layers:=u}:=by
   obtain⟨tkvs,tus,tk1,tk2,tk3⟩:=h7.grow s4
   obtain⟨gkvs,gus,gk1,gk2,gk3⟩:=h8.grow s4
   refine⟨dx,_,td,gd,qu,aK,?_,?_,?_,?_,h6,⟨tkvs,tus,kp tk1 (λ_ _ _ z=>nomatch z),tk2,Paired.b6 tk3 λkv t ⟨e,r,e2,q⟩=>⟨e,r,e2,?_⟩⟩,eN.kept ⟨gkvs,gus,gk1,gk2,gk3⟩ gk1 (kp gk1 (λ_ _ _ z=>nomatch z)) kK,cr.kept kK ⟨uas,s4 _ _ hqu,hut.grow s4⟩⟩
   ·rw[oy,if_neg (by decide)];exact h2
   ·rw[oy,if_neg (by decide)];exact h3
   ·rw[oy,if_pos rfl]
   ·rw[Fk _ _ _ (by rw[h4];rfl)];exact h5
   ·refine q.kept kK λdx' fs' hb=>?_
    by_cases e:r=g
    ·subst e
     rw[hg4] at hb
     have e3:C.G=C.T:=by
      injection hb with hb
      injection hb with hb1
     exact(kc.ne e3).elim
    ·rw[az e];exact hb
  have aB:bu {st with layers:=u}:=ok.Qn hc λt ht=>by have:=(Dm.kO hu).2 t ht;omega
  refine aQ (eY (xs:=[.int ((uas.map V.ref).length:Nat)]) (aM (dW rfl hlen (ae 2 (d:=bt K (uas.map V.ref)) rfl ⟨qu,rfl,.of (kK.1 _ _ (s4 _ _ hqu))⟩)) a0) (by show 1<=sizeLine;decide)) λv HB sB hv=>k v HB (((s13.trans s4).kf.trans ⟨kK,λb o u hb=>kp hb (λ_ _ _ z=>nomatch z)⟩).trans sB.kf) (hGA.grow sB) aB ?_
  rw[fO]
  rw[aC,cQ hut] at hv
  exact⟨hv.1,λq e=>(s13.trans s4).free (s_ (hv.2 q e))⟩
end
def Fn (rs:List (List Int)):Den:=⟨λv H=> ∃q,v= .ref q/\gI H q rs,λv H H' s ⟨q,e,h⟩=>⟨q,e,h.grow s⟩⟩
theorem drop_cons {l:List Int} {p:Nat} {n:Int} {r:List Int} (h:l.drop p=n::r):l[p]?=some n/\l.drop (p+1)=r/\p<l.length:=by
 have h1:p<l.length:=by
  rcases IF p l.length with q|q
  ·exact q
  ·rw[HZ q] at h;cases h
 rw[Ib h1] at h
 injection h with h2 h3
 exact⟨by rw[b8 h1,h2],h3,h1⟩
section
variable {P:aI} {w:aE} {K:aA} {mg:Str->Option ac} {base:aF} {C:Cs}
def yD (K:aA):List V->Hp->Den->Prop:=λvs H d=> ∃cl l p n rs t,vs=[.ref cl,.int ((p:Nat):Int),.int ((n:Nat):Int)]/\bN K H cl (rv l)/\l.length<=20000/\n<=10/\UW n (l.drop p)=some (rs,t)/\d=fr H (Fn rs)
theorem Fo:a6 ["calls","start","how_many","rows","place","end"] ["calls","start","how_many"] (aV xH):=⟨rfl,rfl,rfl,by decide +kernel,rfl,by decide +kernel,by decide +kernel⟩
theorem QX {f:aa} {fd:aS} (F:aX K "rows_from" "rows_from" xH f fd) (hlen:mg "len"=none) (htup:mg "tuple"=none):aN P w K mg base aR 1 f fd ["calls","start","how_many"] (am (yD K)):=by
 refine F.ok Fo (λvs H Q E h=>?_) (λcdv A outer s H vs Q E hr h=>?_)
 ·obtain⟨d,⟨cl,l,p,n,rs,t,rfl,_⟩,_⟩:=h
  rfl
 ·obtain⟨d,⟨cl,l,p,n,rs,t,rfl,hS,hz,hn,hrs,rfl⟩,k⟩:=h
  have nd:=Fo.nd
  have hrl:=(Dm.yC n hrs).1
  refine⟨_,ap (a5 (i:=3) nd rfl (aT rfl) (fF gP)) (ap (a5 (i:=4) nd rfl (aT rfl) ah)
   (ap (mr fz aY (ap (a5 (i:=5) nd rfl (aT rfl) ah) (ap (fe (fG fT iY iZ gQ ah cF)) (au (a5 (i:=4) nd rfl (aT rfl) ah))))) (au (aD ah)))),?_⟩
  refine⟨bv _,λrl hrl0=>?_⟩
  have s0:ak H (upd H rl (.lst [])):=bF hrl0
  refine br (ae 1 (d:=aH (p:Nat)) rfl rfl) λv H1 s1 hv=>?_
  cases hv
  refine ph (λm σ H'=> ∃(i p':Nat) (as:List aa) (v5:Option V),σ=[some (.ref cl),some (.int ((p:Nat):Int)),some (.int ((n:Nat):Int)),some (.ref rl),some (.int ((p':Nat):Int)),v5]/\ak H H'/\H' rl=some (.lst (as.map V.ref))/\cb (λa r=>H' a=some (.tup (rv r))) as (rs.take i)/\i<=n/\UW (n-i) (l.drop p')=some (rs.drop i,t)/\m=n-i) _
   ⟨0,p,[],none,rfl,s0.trans s1,s1 _ _ aK,by rw[iV];exact .nil,bv _,hrs,rfl⟩ ?_
  rintro m σ HB0 ⟨i,p',as,v5,rfl,sB0,hrB0,hpB0,hi,hri,rfl⟩
  have hal:as.length=i:=by rw[dR hpB0,dL];omega
  refine⟨_,mM (dW rfl hlen (ae 3 (d:=bt K (as.map V.ref)) rfl ⟨rl,rfl,.of hrB0⟩)) (ae 2 (d:=aH (n:Nat)) rfl rfl),λB sB=>?_⟩
  have hrB:=sB _ _ hrB0
  have sHB:=sB0.trans sB
  have hpB:cb (λa r=>B a=some (.tup (rv r))) as (rs.take i):=Paired.b6 hpB0 λ_ _ q=>sB _ _ q
  rw[aC,hal]
  by_cases hlt:i<n
  ·rw[if_pos (decide_eq_true (by omega))]
   obtain⟨m,hm⟩: ∃m,n-i=m+1:=⟨n-i-1,by omega⟩
   rw[hm] at hri
   obtain⟨x,s',ys,e1,e2,e3⟩:=Dm.Fm hri
   obtain⟨n0,r',e4,h0,hle,rfl,rfl⟩:=Dm.Fl e1
   obtain⟨d1,d2,d3⟩:=drop_cons e4
   have hix:fX (rv l) ((p':Nat):Int)=some (.int n0):=qI (by unfold rv;rw[bC,d1];rfl)
   have hn0:((n0.toNat:Nat):Int)=n0:=IE h0
   have hSB:=sHB.seq hS
   refine br (gU (gU (ae 4 (d:=aH (p':Nat)) rfl rfl) aZ) (EE.imp (d:=ax (.int n0)) (dE (ae 0 (d:=bt K (rv l)) rfl ⟨cl,rfl,hSB⟩) (ae 4 (d:=aH (p':Nat)) rfl rfl) hix) λv H2 s hv=>hv)) λv H2 s2 hv=>?_
   cases hv
   have hrx:rs.drop i=r'.take n0.toNat::ys:=e3
   have hrg:rs[i]?=some (r'.take n0.toNat):=by
    have:=congrArg (λl=>l[0]?) hrx
    simpa using this
   have e5:((p':Nat):Int)+1+n0=((p'+1+n0.toNat:Nat):Int):=by omega
   have hcut:b7 (rv l) (some (((p':Nat):Int)+1)) (some (((p':Nat):Int)+1+n0))=rv (r'.take n0.toNat):=by
    rw[e5,show ((p':Nat):Int)+1=((p'+1:Nat):Int) by omega,oZ,Ck,d2,Cm]
    congr 2
    omega
   refine g8 (l:=rl) (d:=aw (rv (r'.take n0.toNat))) (ae 3 rfl rfl) (s2 _ _ hrB) (by rw[aC];exact f_ (m:=10) (by omega)) (aM (CY rfl htup (EE.R (by rw[←hcut];exact C1 (ae 0 (d:=bt K (rv l)) rfl ⟨cl,rfl,s2.seq hSB⟩) (show EE _ _ _ _ _ from gU (ae 4 (d:=aH (p':Nat)) rfl rfl) aZ) (show EE _ _ _ _ _ from ae 5 (d:=aH (((p':Nat):Int)+1+n0)) rfl rfl)))) a0) λv H3 s3 hv=>?_
   obtain⟨xr,rfl,hxr⟩:=hv
   have hr3:=s3 _ _ (s2 _ _ hrB)
   refine br (ae 5 (d:=aH (((p':Nat):Int)+1+n0)) rfl rfl) λv H4 s4 hv=>?_
   cases hv
   refine⟨_,?_,i+1,p'+1+n0.toNat,as++[xr],some (.int (((p':Nat):Int)+1+n0)),?_,(ff hrl0 ((sHB.trans s2).trans s3)).trans s4,s4 _ _ (by rw[aK,dh];rfl),?_,hlt,?_,rfl⟩
   ·omega
   ·rw[←e5];rfl
   ·rw[Dm.iy hrg]
    refine sH (Paired.b6 hpB λa r q=>?_) ?_
    ·exact s4 _ _ (by rw[az (bg (s3 _ _ (s2 _ _ q)) hr3 (by intro z;cases z))];exact s3 _ _ (s2 _ _ q))
    ·exact s4 _ _ (by rw[az (bg hxr hr3 (by intro z;cases z))];exact hxr)
   ·have e6:rs.drop (i+1)=ys:=by rw[←ub,hrx];rfl
    rw[show n-(i+1)=m by omega,e6,←e2,←ub,d2]
  ·rw[if_neg (by rw[decide_eq_false (by omega)];decide)]
   have:i=n:=by omega
   subst this
   rw[←hrl,fq] at hpB
   refine aQ (ae 3 (d:=ax (.ref rl)) rfl rfl) λv H2 s2 hv=>k v H2 (sHB.trans s2) ?_
   cases hv
   exact⟨⟨rl,rfl,as,s2 _ _ hrB,Paired.b6 hpB λ_ _ q=>s2 _ _ q⟩,λq e=>by cases e;exact hrl0⟩
end
theorem pE {a:List Int} (h:(a.all λz=>nY z 8)=true):nZ a=some (a.map λb=>b.toNat)/\up (a.map λb=>b.toNat)=a:=by
 have h1: ∀z∈a,0<=z/\z<=255:=λz hz=>by
  have:=dG.mp h z hz
  unfold nY at this
  rw[bY,decide_eq_true_eq,decide_eq_true_eq] at this
  have h2:=this.2
  have e:(2:Int) ^ 8=256:=by decide
  rw[e] at h2
  exact⟨this.1,by omega⟩
 refine⟨?_,?_⟩
 ·unfold nZ
  refine if_pos ?_
  unfold NeutralIO.bytes
  rw[dG]
  intro z hz
  rw[bY,decide_eq_true_eq,decide_eq_true_eq]
  exact h1 z hz
 ·unfold up
  rw[eR]
  have: ∀z∈a,((λn:Nat=>(n:Int)) ∘ λb:Int=>b.toNat) z=z:=λz hz=>IE (h1 z hz).1
  exact(um this).trans (Af a)
theorem yE {a r:List Int} (h:r∈[a]) (ha:a.length<=5000):r.length<=5000:=by
 have e:r=a:=by simpa using h
 rw[e];exact ha
theorem yF {a b r:List Int} (h:r∈[a,b]) (ha:a.length<=5000) (hb:b.length<=5000):r.length<=5000:=(be.mp h).elim (λe=>e▸ha) λq=>yE q hb
theorem QY {a b c r:List Int} (h:r∈[a,b,c]) (ha:a.length<=5000) (hb:b.length<=5000) (hc:c.length<=5000):r.length<=5000:=(be.mp h).elim (λe=>e▸ha) λq=>yF q hb hc
theorem yG {xs:List (List Int)} (h:xs.length=0):xs=[]:=List.length_eq_zero_iff.mp h
theorem lR {xs:List (List Int)} (h:xs.length=1): ∃a,xs=[a]:=List.length_eq_one_iff.mp h
theorem yH {xs:List (List Int)} (h:xs.length=2): ∃a b,xs=[a,b]:=by
 match xs,h with
 | [a,b],_=>exact⟨a,b,rfl⟩
theorem QZ {xs:List (List Int)} (h:xs.length=3): ∃a b c,xs=[a,b,c]:=by
 match xs,h with
 | [a,b,c],_=>exact⟨a,b,c,rfl⟩
def tF (n:Nat) (xs:List (List Int)):Prop:= ∃k,uw ([(n:Int)]::xs)=some k/\pB k=n/\g_ k=xs/\ ∀r∈xs,r.length<=5000
theorem pF {n:Nat} {a:List Int} (mk:List Nat->nW) (hc: ∀a,uw [[(n:Int)],a]=(nZ a).map mk) (hn: ∀t,pB (mk t)=n) (hr: ∀t,g_ (mk t)=[up t]) (h:(a.all (λ(z:Int)=>nY z 8) && decide (a.length<=2000))=true):tF n [a]:=by
 rw[bY,decide_eq_true_eq] at h
 obtain⟨b1,b2⟩:=pE h.1
 exact⟨mk (a.map λb=>b.toNat),by rw[hc,b1];rfl,hn _,by rw[hr,b2],λr q=>yE q (by omega)⟩
theorem Fp {n:Nat} {a b:List Int} (mk:List Nat->List Nat->nW) (hc: ∀a b,uw [[(n:Int)],a,b]=(nZ a).bind λx=>(nZ b).map (mk x)) (hn: ∀t u,pB (mk t u)=n) (hr: ∀t u,g_ (mk t u)=[up t,up u])
  (h:((a.all (λ(z:Int)=>nY z 8) && decide (a.length<=2000)) && (b.all (λ(z:Int)=>nY z 8) && decide (b.length<=2000)))=true):tF n [a,b]:=by
 rw[bY,bY,bY,decide_eq_true_eq,decide_eq_true_eq] at h
 obtain⟨b1,b2⟩:=pE h.1.1
 obtain⟨c1,c2⟩:=pE h.2.1
 exact⟨mk (a.map λb=>b.toNat) (b.map λb=>b.toNat),by rw[hc,b1,c1];rfl,hn _ _,by rw[hr,b2,c2],λr q=>yF q (by omega) (by omega)⟩
theorem Fq {n:Nat} {a:List Int} (mk:List Int->nW) (hc: ∀a,uw [[(n:Int)],a]=some (mk a)) (hn: ∀t,pB (mk t)=n) (hr: ∀t,g_ (mk t)=[t]) (h:(a.all (λ(z:Int)=>Al z) && decide (a.length<=5000))=true):tF n [a]:=by
 rw[bY,decide_eq_true_eq] at h
 exact⟨mk a,hc a,hn a,hr a,λr q=>yE q h.2⟩
theorem Q0 {n:Nat} {xs:List (List Int)} (hn:n<14) (hl:xs.length=Dm.cnt n) (h:IJ ([(n:Int)]::xs)=true):tF n xs:=by
 match n,hn with
 |0,_=>
  obtain⟨a,b,c,rfl⟩:=QZ hl
  have h':((a.all (λ(z:Int)=>nY z 8) && decide (a.length<=2000)) && ((b.all (λ(z:Int)=>Al z) && decide (b.length<=5000)) && (c.all (λ(z:Int)=>Al z) && decide (c.length<=5000))))=true:=h
  simp only[bY,decide_eq_true_eq] at h'
  obtain⟨⟨ha,la⟩,⟨_,lb⟩,_,lc⟩:=h'
  obtain⟨b1,b2⟩:=pE ha
  exact⟨.target (a.map λb=>b.toNat) b c,by show (nZ a).map _=_;rw[b1];rfl,rfl,by show [up _,b,c]=_;rw[b2],λr q=>QY q (by omega) lb lc⟩
 |1,_=>obtain⟨a,rfl⟩:=lR hl;exact pF .remove (λ_=>rfl) (λ_=>rfl) (λ_=>rfl) h
 |2,_=>
  obtain⟨a,b,rfl⟩:=yH hl
  have h':((a.all (λ(z:Int)=>nY z 8) && decide (a.length<=2000)) && (b.all (λ(z:Int)=>Al z) && decide (b.length<=5000)))=true:=h
  simp only[bY,decide_eq_true_eq] at h'
  obtain⟨⟨ha,la⟩,_,lb⟩:=h'
  obtain⟨b1,b2⟩:=pE ha
  exact⟨.group (a.map λb=>b.toNat) b,by show (nZ a).map _=_;rw[b1];rfl,rfl,by show [up _,b]=_;rw[b2],λr q=>yF q (by omega) lb⟩
 |3,_=>obtain⟨a,rfl⟩:=lR hl;exact Fq .layers (λ_=>rfl) (λ_=>rfl) (λ_=>rfl) h
 |4,_=>cases yG hl;exact⟨.check,rfl,rfl,rfl,λr q=>nomatch q⟩
 |5,_=>cases yG hl;exact⟨.breaches,rfl,rfl,rfl,λr q=>nomatch q⟩
 |6,_=>cases yG hl;exact⟨.circle,rfl,rfl,rfl,λr q=>nomatch q⟩
 |7,_=>obtain⟨a,rfl⟩:=lR hl;exact Fq .order (λ_=>rfl) (λ_=>rfl) (λ_=>rfl) h
 |8,_=>obtain⟨a,b,rfl⟩:=yH hl;exact Fp .may (λ_ _=>rfl) (λ_ _=>rfl) (λ_ _=>rfl) h
 |9,_=>obtain⟨a,b,rfl⟩:=yH hl;exact Fp .sees (λ_ _=>rfl) (λ_ _=>rfl) (λ_ _=>rfl) h
 |10,_=>obtain⟨a,rfl⟩:=lR hl;exact pF .layer (λ_=>rfl) (λ_=>rfl) (λ_=>rfl) h
 |11,_=>obtain⟨a,rfl⟩:=lR hl;exact pF .wanted (λ_=>rfl) (λ_=>rfl) (λ_=>rfl) h
 |12,_=>obtain⟨a,rfl⟩:=lR hl;exact pF .idle (λ_=>rfl) (λ_=>rfl) (λ_=>rfl) h
 |13,_=>obtain⟨a,rfl⟩:=lR hl;exact pF .above (λ_=>rfl) (λ_=>rfl) (λ_=>rfl) h
 |n+14,h=>omega
theorem yI {s:bR} {l:List Nat} {f:eF->Aj} {m:Nat} (h: ∀t,bj s l=some t->(f t).list.length<=m):(ml s l f).list.length<=m:=by
 by_cases hk:cR s l=0
 ·obtain⟨h1,t,h2⟩:=kR hk
  rw[tz f h1 h2]
  exact h t h2
 ·rw[tD f hk]
  exact bv _
theorem Q3 (n:Nat) (l:List Nat):(d7 n l).list=l:=rfl
theorem getD_some {α:Type} (a b:α):(some a).getD b=a:=rfl
theorem Q4 {s:bR} (ok:bu s) (c:nW) (hz: ∀r∈g_ c,r.length<=5000):(dz s c).2.list.length<=100000:=by
 cases c with
 |target l d u=>
  rw[yx]
  by_cases h:dY s l (aO d) (aO u)≠0
  ·rw[if_pos h];exact bv _
  ·rw[if_neg h];exact bv _
 |remove l=>
  rw[yy]
  by_cases h:cR s l≠0
  ·rw[if_pos h];exact bv _
  ·rw[if_neg h];exact bv _
 |group n u=>
  rw[yz]
  by_cases h:fM s n (aO u)≠0
  ·rw[if_pos h];exact bv _
  ·rw[if_neg h];exact bv _
 |layers u=>
  rw[yB]
  by_cases h:dv (aO u)≠0
  ·rw[if_pos h];exact bv _
  ·rw[if_neg h];exact bv _
 |check=>
  show (lg s).list.length<=_
  unfold lg
  cases hB:d6 s with
  |cons b r=>
   obtain⟨_,f1,f2,_⟩:=pD ok (b:=b) (by rw[hB];exact bB)
   show (b.kind::(eI b.source++eI b.goal)).length<=_
   unfold eI
   simp only[bm,bx]
   omega
  |nil=>
   dsimp only
   cases hC:ii s with
   |nil=>exact bv _
   |cons l r=>
    have:=kQ ok ((Dm.rK ok.asc).2 l (by rw[hC];exact bB))
    show (4::eI l).length<=_
    unfold eI
    simp only[bm]
    omega
 |breaches=>
  show (cK (((d6 s).take 16).map gq)).length<=100000
  have:=hU (ts:=((d6 s).take 16).map gq) (m:=500) λt ht=>by
   obtain⟨b,hb,rfl⟩:=bp.mp ht
   obtain⟨_,f1,f2,_⟩:=pD ok (mh hb)
   exact Fb f1 f2
  have h2:(((d6 s).take 16).map gq).length*(500+1)<=16*(500+1):=fB _ (by rw[aC,dL];omega)
  omega
 |circle=>
  show (cK (ii s)).length<=100000
  obtain⟨hc1,hc2⟩:=Dm.rK ok.asc
  have:=hU (m:=195) λt ht=>kQ ok (hc2 t ht)
  have h2:(ii s).length*(195+1)<=66*(195+1):=fB _ hc1
  omega
 |order g=>
  show (qp s g).list.length<=100000
  rw[yu]
  by_cases h:fN s (aO g)≠0
  ·rw[if_pos h];exact bv _
  ·rw[if_neg h]
   have h0:fN s (aO g)=0:=UX h
   cases hg:aO g with
   |none=>rw[hg] at h0;exact absurd h0 (by show ¬(-2:Int)=0;decide)
   |some gs=>
    rw[hg] at h0
    obtain⟨_,hall,_⟩:=EX h0
    have nc:=(Dm.mZ s gs).nodup
    obtain⟨_,t2,t3⟩:=Dm.sO 65 (ig s gs) [] (Dm.eX.start s nc) λx hx=>nomatch hx
    have hol:(fC s gs).length<=64:=bM (Dm.fZ t3 t2) (Dm.sP ok.lf hall)
    have:=hU (ts:=fC s gs) (m:=195) λt ht=>kQ ok (Dm.dk.mp (dG.mp hall t (t2 t ht)))
    have h2:(fC s gs).length*(195+1)<=64*(195+1):=fB _ hol
    rw[Q3,getD_some]
    omega
 |may a b=>
  show (Ai s a b).list.length<=_
  unfold Ai
  by_cases h:a8 a=false∨a8 b=false
  ·rw[if_pos h];exact bv _
  ·rw[if_neg h]
   by_cases h2:(bj s a).isNone=true
   ·rw[if_pos h2];exact bv _
   ·rw[if_neg h2];exact bv _
 |sees a b=>
  show (nX s a b).list.length<=_
  unfold nX
  by_cases h:a8 a=false∨a8 b=false
  ·rw[if_pos h];exact bv _
  ·rw[if_neg h]
   cases bj s a with
   |none=>exact bv _
   |some t=>cases bj s b with
    |none=>exact bv _
    |some u=>exact bv _
 |layer l=>
  show (if a8 l=false then ij UT else d7 (j9 s (bf l)) []).list.length<=_
  by_cases h:a8 l=false
  ·rw[if_pos h];exact bv _
  ·rw[if_neg h];exact bv _
 |wanted l=>
  refine yI (f:=λ_=>d7 (gM s l).length (cK (gM s l))) λt _=>?_
  obtain⟨hw1,hw2⟩:=yr ok l
  have:=hU (m:=96) hw2
  have h2:(gM s l).length*(96+1)<=64*(96+1):=fB _ hw1
  show (cK (gM s l)).length<=100000
  omega
 |idle l=>
  refine yI (f:=λt=>d7 (fD s t).length (cK (fD s t))) λt h2=>?_
  obtain⟨htm,_⟩:=Dm.find_some h2
  obtain⟨sp1,sp2⟩:=ok.specs t htm
  have e:=hU (ts:=fD s t) (m:=5000) λx hx=>(sp2 x (cU.mp hx).1).2
  have h3:(fD s t).length<=8:=bM (iX _ _) sp1
  have h4:(fD s t).length*(5000+1)<=8*(5000+1):=fB _ h3
  show (cK (fD s t)).length<=100000
  omega
 |above l=>
  refine yI (f:=λ_=>d7 (i0 s l).length (cK (i0 s l))) λt _=>?_
  have e:=hU (ts:=i0 s l) (m:=195) λx hx=>kQ ok (cU.mp hx).1
  have h3:(i0 s l).length<=64:=bM (iX _ _) ok.lf
  have h4:(i0 s l).length*(195+1)<=64*(195+1):=fB _ h3
  show (cK (i0 s l)).length<=100000
  omega
section
variable {X:Cx} {a b c e o i v func:ao} {es:List ao} {pos p2 apos cpos:Pos} {σ:St} {H:Hp} {D:Ends}
theorem Q5 {l b:aa} {xs zs:List V} (ho:EE X o σ H (ax (.ref l))) (hl:H l=some (.lst xs)) (hb:H b=some (.lst zs)) (hz:xs.length+zs.length<=sizeLine) (he:EA X [e] σ H [ax (.ref b)]) (q: ∀H2,ak H H2->D.nx σ (upd H2 l (.lst (xs++zs)))) :
  ol (oB X.K "list" Bk (tE X o) (tA X [e])) D σ H:=
 ⟨_,ho,λv H2 s2 hv=>by
  cases hv
  refine⟨.inl ⟨rfl,_,.of (s2 _ _ hl)⟩,_,he.grow s2,λvs H3 s3 z=>?_⟩
  obtain⟨w,rfl,hw⟩:=cM z
  exact⟨l,b,xs,zs,rfl,by rw[hw],s3 _ _ (s2 _ _ hl),s3 _ _ (s2 _ _ hb),hz,q H3 (s2.trans s3)⟩⟩
theorem boot_sum:bootBuiltins "sum"=some (.builtin "sum"):=by decide +kernel
theorem Q6 {x:Str} {p:Pos} {ns:List Int} (hx:x="sum") (hc:X.calm=true) (hm:X.mg x=none) (ha:EE X a σ H (bt X.K (ns.map V.int))) (hg:Gl X x:=by rfl) (hs:starEach [a] X.env=[(false,eval a X.env)]:=by rfl):EE X (.Call (.Name x p) [a] [] pos) σ H (aH ns.sum):=by
 subst hx
 exact iB (Lk hc) hm boot_sum (aM ha a0 hs) (λvs H1 s1 z Q q=>by
  obtain⟨v,rfl,a,rfl,h⟩:=cM z
  exact⟨a,ns,rfl,h,q _ _ (ak.refl _) rfl⟩) hg (by decide) (by decide) hs
theorem Q7 {i:Nat} {x n:Int} {op:Int->Int->Int} (hx:σ[i]?=some (some (.int x))) (he:EE X e σ H (aH n)) (q: ∀H2,ak H H2->D.nx (σ.set i (some (.int (op x n)))) H2):AB i (tE X e) (AC op) D σ H:=
 ⟨.int x,hx,_,he,λy H1 s1 hy=>⟨x,n,rfl,hy,q H1 s1⟩⟩
end
def rm (H:Hp) (a:aa):Hp:=λb=>if b=a then none else H b
theorem iK {H:Hp} {a b:aa} (h:b≠a):rm H a b=H b:=if_neg h
theorem nk {H:Hp} {a b:aa} {o:HO} (h:rm H a b=some o):b≠a/\H b=some o:=by
 by_cases e:b=a
 ·have:rm H a b=none:=if_pos e
  rw[this] at h;cases h
 ·exact⟨e,by rwa[iK e] at h⟩
theorem Fs {H:Hp} {a:aa}:ak (rm H a) H:=λb o h=>(nk h).2
theorem pG {H H':Hp} {a:aa} (s:ak H H'):ak (rm H a) (rm H' a):=λb o h=>by
 obtain⟨h1,h2⟩:=nk h
 rw[iK h1];exact s _ _ h2
theorem Ft {H:Hp} {a:aa} {o:HO}:rm (upd H a o) a=rm H a:=by
 funext b
 by_cases e:b=a
 ·rw[show rm (upd H a o) a b=none from if_pos e,show rm H a b=none from if_pos e]
 ·rw[iK e,iK e,az e]
theorem Fu {H:Hp} {a:aa} {o:HO}:ak (rm H a) (upd H a o):=λb u h=>by
 obtain⟨h1,h2⟩:=nk h
 rw[az h1];exact h2
theorem ck.rm {C:Cs} {H:Hp} {g a:aa} {s:bR} {o:Obj} {u:HO} (h:ck C H g s) (ha:H a=some (.bi o u)):ck C (L2.rm H a) g s:=by
 have keep: ∀{b:aa} {x:HO},H b=some x->(∀o' u',x≠ .bi o' u')->L2.rm H a b=some x:=λ{b x} hb hx=>by
  rw[iK (λe=>hx o u (by rw[e,ha] at hb;exact(cJ hb).symm))];exact hb
 have kp:Kept H (L2.rm H a):=⟨λb xs hb=>keep hb (λ_ _ z=>nomatch z),λb xs hb=>keep hb (λ_ _ z=>nomatch z)⟩
 obtain⟨dx,fs,td,gd,ld,h1,h2,h3,h4,h5,h6,⟨kvs,us,t1,t2,t3⟩,⟨gkvs,gus,g1,g2,g3⟩,h9⟩:=h.ex
 exact⟨dx,fs,td,gd,ld,keep h1 (λ_ _ z=>nomatch z),h2,h3,h4,h5,h6,⟨kvs,us,keep t1 (λ_ _ z=>nomatch z),t2,Paired.b6 t3 λkv t ⟨e,r,e2,q⟩=>⟨e,r,e2,q.kept kp λdx fs hb=>keep hb (λ_ _ z=>nomatch z)⟩⟩,⟨gkvs,gus,keep g1 (λ_ _ z=>nomatch z),g2,Paired.b6 g3 λkv t ⟨e,r,e2,q⟩=>⟨e,r,e2,q.kept kp⟩⟩,h9.kept kp⟩
def pH (s:bR) (cs:List (List (List Int))):List Int:=UY (UZ IK s cs)
theorem tail_cons {s:bR} {c:List (List Int)} {cs:List (List (List Int))} {k:nW} (h:uw c=some k):pH s (c::cs)=((i4 (dz s k).2).length:Int)::i4 (dz s k).2++pH (dz s k).1 cs:=by
 have e:IK s c=((dz s k).1,i4 (dz s k).2):=by unfold IK;rw[h]
 unfold pH UY
 rw[UZ,e,Ic]
theorem Q8 (a:Aj):(i4 a).length=a.list.length+1:=by unfold i4;rw[bm,aC]
theorem Q9 (a b:List Int):rv (a++b)=rv a++rv b:=by unfold rv;rw[dh]
section
variable {P:aI} {w:aE} {K:aA} {mg:Str->Option ac} {base:aF} {C:Cs}
structure CT (P:aI) (w:aE) (K:aA) (mg:Str->Option ac) (base:aF) (C:Cs):Prop where
 ex: ∃(ct:aa) (ts:List aa),mg "CALLS"=some (.ref ct)/\(∀H,bE K H ct (ts.map V.ref))/\ ∀n,n<14-> ∃(t f:aa) (fd:aS),ts[n]?=some t/\(∀H,bE K H t [.ref f,.int (Dm.cnt n:Nat)])/\aN P w K mg base aR 8 f fd ["graph","rows"] (cI C n)/\fo K (.ref f)=true/\Binds K fd ["graph","rows"] []
def tG (K:aA):Sp:=λvs H Q _=> ∃cl l,vs=[.ref cl]/\bN K H cl (rv l)/\l.length<=20000/\IL l=true/\ ∀H' q,H' q=some (.lst (rv (ux l)))->Q (.ref q) H'
theorem Fv:a6 ["calls","graph","answered","place","call","rows","answer","row"] ["calls"] (aV mU):=⟨rfl,rfl,rfl,by decide +kernel,rfl,by decide +kernel,by decide +kernel⟩
theorem Q_ {f fg:aa} {fd fdg:aS} (F:aX K "answers" "answers" mU f fd) (hlen:mg "len"=none) (hsum:mg "sum"=none) (MG:Mk K C.G fg) (FG:aN P w K mg base aR 1 fg fdg ["self"] (Fd C)) (hmG:mg "Graph"=some (.ref C.G)) (hbG:Binds K fdg ["self"] []) (T:CT P w K mg base C)
  (N:aq P w K mg base 1 "rows_from" ["calls","start","how_many"] (am (yD K))):aN P w K mg base aR 9 f fd ["calls"] (tG K):=by
 refine F.ok Fv (λvs H Q E h=>?_) (λcdv A outer s H vs Q E hr h=>?_)
 ·obtain⟨cl,l,rfl,_⟩:=h
  rfl
 ·obtain⟨cl,l,rfl,hS,hz,hask,k⟩:=h
  have nd:=Fv.nd
  have hcn: ∀n,n<14->Dm.cnt n<=10:=by decide
  obtain⟨ct,ts,hmC,hct,hcalls⟩:=T.ex
  obtain⟨cs0,hc0⟩: ∃cs,Ak l=some cs:=by
   unfold IL at hask
   cases h:Ak l with
   |none=>rw[h] at hask;cases hask
   |some cs=>exact⟨cs,rfl⟩
  have hask0:U0 cs0=true:=by
   unfold IL at hask
   rw[hc0] at hask
   exact(bY _ _▸hask:_/\_).2
  obtain⟨hall0,hlen0⟩:(∀c∈cs0,IJ c=true)/\cs0.length<=70:=by
   unfold U0 at hask0
   rw[bY,bY,decide_eq_true_eq,decide_eq_true_eq] at hask0
   exact⟨dG.mp hask0.1,hask0.2.2⟩
  have hans:ux l=pH Ah cs0:=by
   unfold ux
   rw[hc0]
   rfl
  refine⟨_,ap (a5 (i:=1) nd rfl (aT rfl) (Kw MG FG (hr.mono (by decide)) rfl hmG hbG .nil rf)) (ap (a5 (i:=2) nd rfl (aT rfl) (fF gP)) (ap (a5 (i:=3) nd rfl (aT rfl) ah)
   (ap (mr fz aY (ap (a5 (i:=4) nd rfl (aT rfl) ah) (ap (a5 (i:=5) nd rfl (aT rfl) ah) (ap (BF (a5 (i:=6) nd rfl (aT rfl) (CW ah cF)))
    (ap (fe (fG fT iY iZ gQ ah cF)) (ap (fe (fG fT UN UO Lf ah cF)) (au (JO (i:=3) nd rfl (aT rfl) ah JP)))))))) (au (aD ah))))),?_⟩
  refine λg dx hg0 hdx0 ne0=>⟨g,dx,rfl,aK,λH1 sx1 hG1=>⟨rfl,?_⟩⟩
  have sH1:ak H H1:=λb o hb=>sx1 _ _ (cA hb hg0) (by rw[az (cA hb hg0),az (cA hb hdx0)];exact hb)
  refine⟨bv _,λan han=>?_⟩
  have sN:ak H1 (upd H1 an (.lst [])):=bF han
  refine br aZ λv H2 s2 hv=>?_
  cases hv
  have sR:ak H1 (rm H2 an):=λb o hb=>by rw[iK (cA hb han)];exact s2 _ _ (sN _ _ hb)
  refine ph (λm σ H'=> ∃(p:Nat) (st:bR) (cs:List (List (List Int))) (ans:List Int) (fu:Nat) (v4 v5 v6 v7:Option V),σ=[some (.ref cl),some (.ref g),some (.ref an),some (.int ((p:Nat):Int)),v4,v5,v6,v7]/\ck C (rm H' an) g st/\bu st/\bN K (rm H' an) cl (rv l)/\H' an=some (.lst (rv ans))/\p<=l.length /\
    U1 ke fu (l.drop p)=some cs/\(∀c∈cs,IJ c=true)/\ux l=ans++pH st cs/\ans.length+cs.length*100002<=70*100002/\m=l.length-p) _
   ⟨0,Ah,cs0,[],l.length,none,none,none,none,rfl,hG1.grow sR,bu.start,(sH1.trans sR).seq hS,s2 _ _ aK,bv _,Dm.QW hc0,hall0,by rw[hans];rfl,by rw[cZ,Us];exact fB _ hlen0,rfl⟩ ?_
  rintro m σ HB0 ⟨p,st,cs,ans,fu,v4,v5,v6,v7,rfl,hG0,ok,hS0,hA0,hp,hcs,hall,hsp,hbd,rfl⟩
  refine⟨_,mM (ae 3 (d:=aH (p:Nat)) rfl rfl) (dW rfl hlen (ae 0 (d:=bt K (rv l)) rfl ⟨cl,rfl,Fs.seq hS0⟩)),λB sB=>?_⟩
  have sBr:ak (rm HB0 an) (rm B an):=pG sB
  have hGB:=hG0.grow sBr
  have hSB:=sBr.seq hS0
  have hSBB:=Fs.seq hSB
  have hAB:=sB _ _ hA0
  rw[gZ]
  by_cases hge: ¬p<l.length
  ·rw[if_neg (by rw[decide_eq_false (by omega)];decide)]
   have e:l.drop p=[]:=HZ (by omega)
   rw[e] at hcs
   have e2:cs=[]:=by
    cases fu <;> (unfold U1 at hcs;cases hcs;rfl)
   subst e2
   have e3:ux l=ans:=by rw[hsp];show ans++[]=ans;rw[fQ]
   refine aQ (ae 2 (d:=ax (.ref an)) rfl rfl) λv H3 s3 hv=>?_
   cases hv
   exact k H3 an (by rw[e3];exact s3 _ _ hAB)
  have hlt:p<l.length:=UX hge
  rw[if_pos (decide_eq_true (by omega))]
  rw[Ib hlt] at hcs
  obtain⟨fu',n,xs,t,cs',rfl,hn,hpn,hrw,hcs',rfl⟩:=Dm.QU hcs
  obtain⟨f1,f2,f3⟩:=Dm.yC _ hrw
  obtain⟨kc,hk1,hk2,hk3,hk4⟩:=Q0 hn f1 (hall _ bB)
  obtain⟨tt,fn,fdn,ht1,ht2,hF,hkp,hbn⟩:=hcalls n hn
  have hl0:l[p]?=some ((n:Nat):Int):=by rw[b8 hlt,hpn]
  refine br (jd (v:= .ref tt) (kz (v:= .ref ct) (d:=de K (ts.map V.ref)) hmC rfl ⟨ct,rfl,hct _⟩) (EE.imp (d:=ax (.int ((n:Nat):Int))) (dE (ae 0 (d:=bt K (rv l)) rfl ⟨cl,rfl,hSBB⟩) (ae 3 (d:=aH (p:Nat)) rfl rfl) (qI (by unfold rv;rw[bC,hl0];rfl))) λv H2 s hv=>hv) (qI (by rw[bC,ht1];rfl))) λv H3 s3 hv=>?_
  cases hv
  refine br (pd N (hr.mono (by decide)) (ae 0 (d:=ax (.ref cl)) rfl rfl) (gU (ae 3 (d:=aH (p:Nat)) rfl rfl) aZ) (jd (v:= .int (Dm.cnt n:Nat)) (ae 4 (d:=de K [.ref fn,.int (Dm.cnt n:Nat)]) rfl ⟨tt,rfl,ht2 _⟩) aZ rfl) (d:=Fn xs) λv u y H4 s4 ev eu ey=>⟨cl,l,p+1,Dm.cnt n,xs,t,by rw[ev,eu,ey];rfl,s4.seq (s3.seq hSBB),hz,?_,hrw,rfl⟩) λv H4 s4 hv=>?_
  ·exact hcn n hn
  obtain⟨⟨rl,rfl,hRl⟩,hfr⟩:=hv
  have sB4:=s3.trans s4
  have hA4:=sB4 _ _ hAB
  have nrl:rl≠an:=λe=>by
   have:=hfr _ rfl
   rw[e,s3 _ _ hAB] at this
   cases this
  have hR4:gI (rm H4 an) rl xs:=by
   obtain⟨as,r1,r2⟩:=hRl
   exact⟨as,by rw[iK nrl];exact r1,Paired.b6 r2 λa r q=>by rw[iK (bg q hA4 (by intro z;cases z))];exact q⟩
  have sB4r:ak (rm B an) (rm H4 an):=pG sB4
  refine⟨an,.lst (rv ans),hA4,fb,λod=>?_⟩
  have sL:ak (rm H4 an) (upd H4 an (.bi od (.lst (rv ans)))):=Fu
  refine⟨_,jd (v:= .ref fn) (ae 4 (d:=de K [.ref fn,.int (Dm.cnt n:Nat)]) rfl ⟨tt,rfl,ht2 _⟩) aZ rfl,λx H5 s5 ex=>⟨fn,fdn,["graph","rows"],cI C n,8,ex,hF,hr,hkp,hbn,[ax (.ref g),ax (.ref rl)],aM (ae 1 rfl rfl) (aM (ae 5 rfl rfl) a0),λvs H6 s6 z=>?_⟩⟩
  obtain⟨_,_,rfl,e1,e2⟩:=lF z
  cases e1;cases e2
  have sL6:ak (upd H4 an (.bi od (.lst (rv ans)))) H6:=s5.trans s6
  have s46:=sL.trans sL6
  refine⟨g,rl,st,kc,rfl,hk2,(hGB.grow sB4r).grow s46,ok,by rw[hk3];exact hR4.grow s46,by rw[hk3];exact hk4,λva H7 kf hG7 ok7 hva=>?_⟩
  obtain⟨⟨al,rfl,hal⟩,_⟩:=hva
  have hF7:H7 an=some (.bi od (.lst (rv ans))):=kf.2 _ _ _ (sL6 _ _ aK)
  refine⟨hF7,?_⟩
  have kfr:KF (rm H4 an) (rm H7 an):=⟨⟨λb xs' hb=>by
    obtain⟨n1,n2⟩:=nk hb
    rw[iK n1];exact kf.1.1 _ _ (s46 _ _ hb),λb xs' hb=>by
    obtain⟨n1,n2⟩:=nk hb
    rw[iK n1];exact kf.1.2 _ _ (s46 _ _ hb)⟩,λb o' u' hb=>by
    obtain⟨n1,n2⟩:=nk hb
    rw[iK n1];exact kf.2 _ _ _ (s46 _ _ hb)⟩
  have hR7:gI (rm H7 an) rl xs:=hR4.kept kfr.1
  have hS7:bN K (rm H7 an) cl (rv l):=(sB4r.seq hSB).kf kfr
  have hG7r:ck C (rm H7 an) g (dz st kc).1:=hG7.rm hF7
  have nal:al≠an:=bg hal hF7 (by intro z;cases z)
  have hal7:(upd H7 an (.lst (rv ans))) al=some (.lst (rv (i4 (dz st kc).2))):=by rw[az nal];exact hal
  have hlen7:=Q4 ok kc (by rw[hk3];exact hk4)
  have hel:=Q8 (dz st kc).2
  generalize hE:i4 (dz st kc).2=enc at hal7 hel
  rw[tail_cons hk1,hE] at hsp
  have hbd2:ans.length+(enc.length+1)+cs'.length*100002<=70*100002:=by
   rw[bm,UQ] at hbd
   omega
  have hsl:sizeLine=16777216:=jY
  refine g8 (l:=an) (d:=aH ((rv enc).length:Nat)) (ae 2 rfl rfl) aK (by rw[gZ,hsl];omega) (aM (dW rfl hlen (ae 6 (d:=bt K (rv enc)) rfl ⟨al,rfl,.of hal7⟩)) a0) λv H8 s8 hv=>?_
  cases hv
  have hal8:(upd H8 an (.lst (rv ans++[V.int ((rv enc).length:Nat)]))) al=some (.lst (rv enc)):=by rw[az nal];exact s8 _ _ hal7
  refine Q5 (l:=an) (b:=al) (ae 2 rfl rfl) aK hal8 (by rw[bx,gZ,gZ,hsl];simp only[bm,cZ];omega) (aM (ae 6 rfl rfl) a0) λH9 s9=>?_
  have s79:ak (rm H7 an) (rm H9 an):=by
   have e1:=pG (a:=an) s8
   have e2:=pG (a:=an) s9
   rw[Ft] at e1 e2
   exact e1.trans e2
  have s7x:ak (rm H7 an) (upd H9 an (.lst ((rv ans++[V.int ((rv enc).length:Nat)])++rv enc))):=s79.trans Fu
  obtain⟨ras,hr1,hr2⟩:=hR7.grow s7x
  refine Q7 (x:=((p:Nat):Int)) (n:=1+(xs.map λx=>(1:Int)+(x.length:Int)).sum) rfl (gU aZ (Q6 rfl rfl hsum (EE.R (lH (j:=7) (xs:=ras.map V.ref) rfl nd (ae 5 (d:=bt K (ras.map V.ref)) rfl ⟨rl,rfl,.of hr1⟩) (dI rfl) rfl rfl ?_ ?_ ?_)))) λHA sA=>?_
  ·rw[aC,aC,aC,dR hr2]
  ·rw[aC,dR hr2,f1]
   exact cV (m:=10) (hcn n hn)
  ·intro i x z hx hz2 s0 H0 C0 cl' fp
   rw[bC] at hx
   cases ha:ras[i]? with
   |none=>rw[ha] at hx;cases hx
   |some a=>
    rw[ha] at hx
    cases hx
    obtain⟨r,hr3,hr4⟩:=sM hr2 ha
    rw[bC,bC,hr3] at hz2
    cases hz2
    show EE _ _ _ _ (aH (1+(r.length:Int)))
    rw[show r.length=(rv r).length from (gZ r).symm]
    exact gU aZ (dm rfl hlen (EE.T (ae 7 (d:=aw (rv r)) rfl ⟨a,rfl,hr4⟩)))
  ·rw[Dm.QS]
   have eL:(rv ans++[V.int ((rv enc).length:Nat)])++rv enc=rv (ans++(((enc.length:Nat):Int)::enc)):=by
    rw[gZ,Q9,j6];rfl
   have eD:l.drop (p+1+Dm.used xs)=t:=by rw[f3,ub]
   rw[d5] at f2
   have s9A:ak (rm H7 an) (rm HA an):=by
    have e1:=pG (a:=an) sA
    rw[Ft] at e1
    exact s79.trans e1
   refine⟨_,?_,p+1+Dm.used xs,(dz st kc).1,cs',ans++(((enc.length:Nat):Int)::enc),fu',some (.ref tt),some (.ref rl),some (.ref al),v7,?_,hG7r.grow s9A,ok7,s9A.seq hS7,?_,by omega,by rw[eD];exact hcs',λc hc=>hall c (bq _ hc),?_,?_,rfl⟩
   ·omega
   ·rw[show ((p+1+Dm.used xs:Nat):Int)=((p:Nat):Int)+(1+(Dm.used xs:Int)) by omega]
    rfl
   ·rw[←eL];exact sA _ _ aK
   ·rw[hsp,j6]
   ·rw[bx,bm];omega
end
theorem nu:Slot "set_iterator" "__next__" "set_iterator.__next__":= .of (owner:="set_iterator") (n:="__next__") (by rw[U6,U7];kernel_rfl) (by decide +kernel) (by decide +kernel) (by decide +kernel) (by first|exact .inl (by decide +kernel)|exact .inr (by decide +kernel)) (by rw[IP];kernel_rfl)
theorem FE:entryFor table "set_iterator.__next__"=some eC.«set_iterator.__next__»:=entryFor_of_tree (by kernel_rfl)
theorem FF:Manifest.owners.lookup (String.ofList ['r','o','t','a','r','e','t','i','_','t','e','s'].reverse)=some Manifest.sig_set_iterator:=by kernel_rfl
theorem FH (a:ac):argsOk "set_iterator.__next__" ⟨[a],[]⟩:=by
 unfold argsOk;rw[U8 (id:="set_iterator.__next__") (n:=['_','_','t','x','e','n','_','_']) (o:=['r','o','t','a','r','e','t','i','_','t','e','s']) (by kernel_rfl) FF];kernel_rfl
theorem FI:Slot "set_iterator" "__iter__" "set_iterator.__iter__":= .of (owner:="set_iterator") (n:="__iter__") (by rw[U6,U7];kernel_rfl) (by decide +kernel) (by decide +kernel) (by decide +kernel) (by first|exact .inl (by decide +kernel)|exact .inr (by decide +kernel)) (by rw[IP];kernel_rfl)
theorem Rn (a:ac):argsOk "set_iterator.__iter__" ⟨[a],[]⟩:=by
 unfold argsOk;rw[U8 (id:="set_iterator.__iter__") (n:=['_','_','r','e','t','i','_','_']) (o:=['r','o','t','a','r','e','t','i','_','t','e','s']) (by kernel_rfl) FF];kernel_rfl
theorem Ro:entryFor table "set.__iter__"=some eC.«frozenset.__iter__»:=U9 (id':="frozenset.__iter__") (by kernel_rfl) rfl (by decide +kernel) (by kernel_rfl)
theorem Rp:entryFor table "set_iterator.__iter__"=some eC.«dict_keyiterator.__iter__»:=U9 (id':="dict_keyiterator.__iter__") (by kernel_rfl) rfl (by decide +kernel) (by kernel_rfl)
section
variable {P:aI} {w:aE} {A:a7} {E:ac->af->Prop} {s:af} {a:aa} {o:Obj} {es:Array (Int×ac)} {ep:Nat} {t:bU}
def lT (a:aa) (slot i n ep:Nat):Obj:={cls:= .type "set_iterator",data:= .fields #[rawInt slot,rawInt i,.ref a,rawInt n,rawInt ep]}
theorem y3 {Q:Bool->af->Prop} (h:Q (w.params.followText "set-order") s):wpAny (model P w) A setsByText Q E s:=by
 unfold setsByText
 exact aj (ID (ay h))
theorem Rq {Q:ac->af->Prop} (ho:s.heap.get? a=some o) (hx:o.ExactSet) (hd:o.data= .set es ep t) (hf:t.fits es.size=true) (hp:t.plain=true)
  (h:Q (.ref s.heap.objs.size) {s with heap:=s.heap.push (lT a 0 0 es.size ep)}):wpAny (model P w) A (pyIter (.ref a)) Q E s:=by
 have hT:s.TypeIs (.ref a) "set":=⟨o,ho,hx.1⟩
 refine tX hT U_ (fS U_ hT Ro ?_ (PySem.F.args_set_iter_1 _))
 unfold eC.«frozenset.__iter__»
 refine aj (m:=Wv "__iter__" ⟨[.ref a],[]⟩) (nL (a:=a) rfl ?_)
 refine aj (m:=Ww a) (aj (aj (jz ho hd hf (ay (ay ?_)))))
 refine aj (m:=setDrawn a) (aj (jz ho hd hf (aj (y3 (ay ?_)))))
 show wpAny _ _ (if (!w.params.followText "set-order" && (!t.plain && decide (es.size > 1)))=true then _ else _) _ _ _
 rw[if_neg (by rw[hp];simp)]
 refine aj (ay ?_)
 refine aj (m:=setEpoch a) (aj (jz ho hd hf (ay ?_)))
 refine aj (m:=newFields "set_iterator" _) (hX (ay ⟨_,rfl,"set_iterator",_,⟨_,cw _ rfl,rfl⟩,nu.lookup,?_⟩))
 exact h
def d4 (w:aE) (t:bU) (i:Nat):Nat:=if w.params.followText "set-order"=true then 0 else if i=0 then 0 else t.place.getD (i-1) 0+1
def fk (w:aE) (a:aa) (ep:Nat) (es:Array (Int×ac)):Array (Int×ac):=if w.params.followText "set-order"=true then pickOrder (w.params.setOrder a ep) es else es
theorem Rr {zs:List (Nat×Int)} (T:Sm.dq t zs) (hb:w.params.followText "set-order"=false) {i:Nat} (hi:i<=t.place.size):qg t.place (d4 w t i)=i:=by
 unfold d4
 rw[hb]
 simp only[dy,if_false]
 obtain⟨b1,b2,b3⟩:=Sm.v_ (xs:=t.place) (if i=0 then 0 else t.place.getD (i-1) 0+1) T.Up
 by_cases h0:i=0
 ·subst h0
  simp only[if_true] at *
  rcases Nat.eq_zero_or_pos (qg t.place 0) with q|q
  ·exact q
  ·exact absurd (b2 0 q) (k7 _)
 ·simp only[if_neg h0] at *
  generalize hB:qg t.place (t.place.getD (i-1) 0+1)=B at *
  rcases z7 B i with q|q|q
  ·have:=b3 (i-1) (by omega) (by omega)
   omega
  ·exact q
  ·have h1:=b2 i q
   have h2:t.place.getD (i-1) 0<t.place.getD i 0:=T.Up (i-1) i (by omega) (by omega)
   omega
theorem Rs {zs:List (Nat×Int)} {i:Nat} {Q:Option (ac×Nat)->af->Prop} (ho:s.heap.get? a=some o) (hd:o.data= .set es ep t) (hf:t.fits es.size=true) (hp:t.plain=true) (hl:t.led=!w.params.followText "set-order") (T:Sm.dq t zs) (hsz:t.place.size=es.size) (hi:i<=es.size)
  (h:Q (((fk w a ep es)[i]?).map λx=>(x.2,d4 w t (i+1))) s):wpAny (model P w) A (setNext a (d4 w t i) i ep) Q E s:=by
 unfold setNext
 refine aj (jz ho hd hf ?_)
 dsimp only
 refine aj (y3 ?_)
 cases hb:w.params.followText "set-order" with
 |true=>
  simp only[if_true]
  rw[if_neg (by simp)]
  refine aj ?_
  unfold setWalk
  refine aj (jz ho hd hf ?_)
  dsimp only
  refine aj (y3 ?_)
  rw[hb]
  simp only[if_true]
  refine aj (ID (ay (ay ?_)))
  have e1:d4 w t (i+1)=d4 w t i:=by unfold d4;rw[hb];rfl
  have e2:fk w a ep es=pickOrder (w.params.setOrder a ep) es:=by unfold fk;rw[hb];rfl
  rw[e1,e2] at h
  exact h
 |false=>
  simp only[dy,if_false]
  rw[hb] at hl
  show wpAny _ _ (if (!t.plain && decide (es.size > 1))=true then _ else _) _ _ _
  rw[if_neg (by rw[hp];simp)]
  refine aj (m:=if (!t.led && !es.isEmpty)=true then unsupported "set:maker-not-led" else pure ()) ?_
  rw[if_neg (by rw[hl];simp)]
  refine ay (ay ?_)
  rw[Rr T hb (by omega)]
  have e2:fk w a ep es=es:=by unfold fk;rw[hb];rfl
  rw[e2] at h
  by_cases hlt:i<es.size
  ·have e3:es[i]?=some es[i]:=l_ hlt
   have e4:t.place[i]?=some (t.place.getD i 0):=by simp [eE,hsz,hlt]
   have e5:d4 w t (i+1)=t.place.getD i 0+1:=by unfold d4;rw[hb];simp
   rw[e3,e4]
   rw[e3,e5] at h
   exact h
  ·have e3:es[i]?=none:=l9 (by omega)
   rw[e3] at h ⊢
   exact h
end
section
variable {P:aI} {w:aE} {A:a7} {E:ac->af->Prop} {s:af} {a it:aa} {o:Obj} {es:Array (Int×ac)} {ep:Nat} {t:bU} {zs:List (Nat×Int)}
theorem FJ {i:Nat} {Q:z5->af->Prop} (hit:s.heap.get? it=some (lT a (d4 w t i) i es.size ep)) (ho:s.heap.get? a=some o) (hd:o.data= .set es ep t) (hf:t.fits es.size=true) (hp:t.plain=true) (hl:t.led=!w.params.followText "set-order") (T:Sm.dq t zs) (hsz:t.place.size=es.size) (hi:i<=es.size)
  (h:match (fk w a ep es)[i]? with
   |some x=>Q (.done (.ret x.2)) {s with heap:=(s.heap.update it (pX (·.setIfInBounds 0 (rawInt (d4 w t (i+1)))))).update it (pX (·.setIfInBounds 1 (rawInt ((i:Int)+1))))}
   |none=>wpAny (model P w) A (do setField (.ref it) 2 .none;raiseNew (←newExc (.type "StopIteration") [])) Q E s) :
  wpAny (model P w) A (eC.«set_iterator.__next__» ⟨[.ref it],[]⟩) Q E s:=by
 unfold eC.«set_iterator.__next__»
 refine aj (m:=slotArgs "__next__" 0 ⟨[.ref it],[]⟩) (nL (a:=(.ref it,[])) rfl ?_)
 refine aj (HL hit rfl ?_)
 show wpAny _ _ (setEntries a >>= _) _ _ s
 refine aj (m:=setEntries a) (aj (jz ho hd hf (ay ?_)))
 dsimp only
 rw[if_neg (by simp)]
 have e1:((d4 w t i:Nat):Int).toNat=d4 w t i:=nB _
 show wpAny _ _ (setNext a ((d4 w t i:Nat):Int).toNat ((i:Nat):Int).toNat ((ep:Nat):Int).toNat >>= _) _ _ s
 rw[nB,nB,nB]
 refine aj (Rs ho hd hf hp hl T hsz hi ?_)
 cases hx:(fk w a ep es)[i]? with
 |none=>
  rw[hx] at h
  exact h
 |some x=>
  rw[hx] at h
  dsimp only[Option.map]
  refine aj (nJ hit rfl (by simp) ?_)
  refine aj (nJ (ma _ hit (tY (kX rfl _))) (kX rfl _) (by simp) ?_)
  exact ay h
theorem lU {slot i n:Nat} (hit:s.heap.get? it=some (lT a slot i n ep)):s.TypeIs (.ref it) "set_iterator":=⟨_,hit,rfl⟩
theorem Rt {i:Nat} {x:Int×ac} {Q:Option ac->af->Prop} (hit:s.heap.get? it=some (lT a (d4 w t i) i es.size ep)) (ho:s.heap.get? a=some o) (hd:o.data= .set es ep t) (hf:t.fits es.size=true) (hp:t.plain=true) (hl:t.led=!w.params.followText "set-order") (T:Sm.dq t zs) (hsz:t.place.size=es.size) (hi:i<es.size) (hx:(fk w a ep es)[i]?=some x)
  (hQ: ∀h',h'.get? it=some (lT a (d4 w t (i+1)) (i+1) es.size ep)->kU it s.heap h'->Q (some x.2) {s with heap:=h'}):wpAny (model P w) A (pyNext (.ref it)) Q E s:=by
 unfold pyNext
 refine aj (zK (l4 (name:=iS "__next__") (lU hit) nu (fS nu (lU hit) FE (FJ hit ho hd hf hp hl T hsz (tM hi) ?_) (FH _))))
 rw[hx]
 refine⟨_,rfl,ay (hQ _ ?_ ((jw ..).trans (jw ..)))⟩
 have g1:=ma (pX (·.setIfInBounds 0 (rawInt (d4 w t (i+1))))) hit (tY (kX rfl _))
 have g2:=ma (pX (·.setIfInBounds 1 (rawInt ((i:Int)+1)))) g1 (tY (kX (kX rfl _) _))
 rw[g2]
 rfl
theorem Ru {i:Nat} {Q:Option ac->af->Prop} (hh:A.handled=none) (hit:s.heap.get? it=some (lT a (d4 w t i) i es.size ep)) (ho:s.heap.get? a=some o) (hd:o.data= .set es ep t) (hf:t.fits es.size=true) (hp:t.plain=true) (hl:t.led=!w.params.followText "set-order") (T:Sm.dq t zs) (hsz:t.place.size=es.size) (hi:i<=es.size) (hx:(fk w a ep es)[i]?=none)
  (hQ: ∀h',HM it s.heap h'->Q none {s with heap:=h'}):wpAny (model P w) A (pyNext (.ref it)) Q E s:=by
 unfold pyNext
 refine aj (zK (l4 (name:=iS "__next__") (lU hit) nu (fS nu (lU hit) FE (FJ hit ho hd hf hp hl T hsz hi ?_) (FH _))))
 rw[hx]
 refine aj (nJ hit rfl (by simp) ?_)
 refine aj (m:=newExc (.type "StopIteration") []) ?_
 simp only[newExc,newTuple]
 refine aj (hX (aj (m:=firstArgMember _ _) (nL (a:=iN) (by first|rfl|(simp only[firstArgMember];rfl)) (hX ?_ (by size_fits)))) (by size_fits))
 simp only[raiseNew]
 refine aj (HN ?_)
 rw[show A.in1.handled=none from hh]
 refine aj (ay (HP ?_))
 refine aj (HQ (T:="StopIteration") (b:=true) ⟨_,cw _ rfl,rfl⟩ Td ?_)
 exact ay (hQ _ (((jw ..).extBut.push _).push _))
theorem Rv {zs:List (Nat×Int)} (hx:o.ExactSet) (hd:o.data= .set es ep t) (hf:t.fits es.size=true) (hp:t.plain=true) (hl:t.led=!w.params.followText "set-order") (T:Sm.dq t zs) (hsz:t.place.size=es.size) (hos:(fk w a ep es).size=es.size) :
  Uj P w "set" a a es.size (λi v=> ∃x,(fk w a ep es)[i]?=some x/\v=x.2) (λh=>h.get? a=some o) where
 type:=λ_ hm=>⟨o,hm,hx.1⟩
 there:=λ_ hm=>⟨bL hm,bL hm⟩
 keep:=λ_ _ hm hk=>hk a (.inl rfl) o hm
 notList:=by decide
 notTuple:=by decide
 hint:=λA E s Q hm hq=>by
  have hT:s.TypeIs (.ref a) "set":=⟨o,hm,hx.1⟩
  unfold Wx
  refine aj (HH hT PySem.F.slot_set_len.lookup ?_)
  generalize hid:("set.__len__":String)=id0
  wp_delta
  rw[show splitId id0=some ("set","__len__") from by subst hid;decide +kernel]
  subst hid
  refine aj (HQ (T:="set") (b:=true) hT (by rw[IP];kernel_rfl) (Aq (λhab=>absurd hab (by decide)) (λ_=>Aq (λ_=>aj (nE hT (ay hq))) (λhab=>absurd (by decide +kernel) hab))))
 iter:=λA s hh hm=>⟨_,λi h=>h.get? s.heap.objs.size=some (lT a (d4 w t i) i es.size ep)/\h.get? a=some o,(λ_ _ hq=>Rq hm hx hd hf hp hq),{
   sub:=λb hb=>by simp at hb ⊢;exact .inl hb
   frame:=λi h h' st hk=>⟨hk _ (by simp) _ st.1,hk a (by simp) o st.2⟩
   item:=λi s' Q E hi st hQ=>by
    have hxi:(fk w a ep es)[i]?=some (fk w a ep es)[i]:=l_ (by omega)
    have hne:a≠s.heap.objs.size:=cX (bL hm)
    exact Rt st.1 st.2 hd hf hp hl T hsz hi hxi λh' st' sb=>hQ _ h' s'.toks ⟨_,hxi,rfl⟩ ⟨st',(sb.2 a hne).trans st.2⟩ λb o' hb e=>(sb.2 b (by simpa using hb)).trans e
   done:=λs' Q E st hQ=>Ru hh st.1 st.2 hd hf hp hl T hsz (aW _) (l9 (by omega)) λh' eb=>hQ h' s'.toks λb o' hb e=>eb b o' (by simpa using hb) e
   self:=λi s' Q E st h=>by
    refine tX (lU st.1) FI (fS FI (lU st.1) Rp ?_ (Rn _))
    show wpAny _ _ (ret (.ref _)) _ _ s'
    exact ay ⟨_,rfl,"set_iterator",_,lU st.1,nu.lookup,h⟩},
   ⟨by rw[cw _ rfl];unfold d4;split <;> rfl,b4 _ hm⟩⟩
end
theorem FK {α:Type}: ∀{l:List α} {i:Nat} {x:α},l[i]?=some x->(x::l.eraseIdx i).Perm l
 | [],i,x,h=>by simp at h
 |a::l,0,x,h=>by simp at h;subst h;exact qo _
 |a::l,i+1,x,h=>by
  rw[pT]
  exact(IG a x _).trans ((FK (by simpa using h)).cons a)
theorem FL {α:Type} (next:Nat->Nat): ∀(n k:Nat) (left:List α) (out:Array α),left.length=n->(Va next n k left out).toList.Perm (out.toList++left)
 |0,k,left,out,h=>by
  have:left=[]:=List.length_eq_zero_iff.mp h
  subst this
  rw[fQ]
  exact qo _
 |n+1,k,left,out,h=>by
  have hlt:next k % left.length<left.length:=z8 _ (by omega)
  unfold Va
  rw[b8 hlt]
  dsimp only
  have hl:(left.eraseIdx (next k % left.length)).length=n:=by rw[List.length_eraseIdx,if_pos hlt];omega
  refine(FL next n (k+1) _ _ hl).trans ?_
  rw[Array.toList_push,j6]
  exact(FK (b8 hlt)).append_left out.toList
theorem FM (w:aE) (a:aa) (ep:Nat) (es:Array (Int×ac)):(fk w a ep es).toList.Perm es.toList:=by
 unfold fk
 split
 ·unfold pickOrder
  have:=FL (w.params.setOrder a ep) es.size 0 es.toList #[] (by simp)
  simpa using this
 ·exact qo _
theorem Rw (w:aE) (a:aa) (ep:Nat) (es:Array (Int×ac)):(fk w a ep es).size=es.size:=by
 have:=(FM w a ep es).length_eq
 rwa[e_,e_] at this
theorem tJ: ∀{us:List ac} {l:List (Int ⊕ List Nat)} (i:Nat),Ir dA i us=some l-> ∃ns:List Int,eB us ns/\l=ns.map dF
 | [],l,i,h=>by
  have e:some ([]:List (Int ⊕ List Nat))=some l:=h
  cases e
  exact⟨[],.nil,rfl⟩
 |u::us,l,i,h=>by
  obtain⟨n,t,l',rfl,rfl,h'⟩:=Wy rfl h
  obtain⟨ns,q,rfl⟩:=tJ (i+1) h'
  exact⟨n::ns,.cons n t q,rfl⟩
theorem FN: ∀ns ms:List Int,p8 p9 (ns.map dF) (ms.map dF)=HT.lexLt ns ms
 | [],[]=>rfl
 | [],_::_=>rfl
 |_::_,[]=>rfl
 |a::ns,b::ms=>by
  rw[HT.qG,aU,aU]
  by_cases e:a=b
  ·subst e
   rw[if_pos rfl,Ud,FN]
  ·rw[if_neg e,Ue (by intro z;injection z with z;exact e z)]
   rfl
theorem FO: ∀{us:List ac} {ns:List Int},eB us ns-> ∀x∈us,∃n t,x=iM n t
 |_,_,.nil,x,h=>nomatch h
 |_,_,.cons n t q,x,h=>by
  rcases be.mp h with rfl|h
  ·exact⟨n,t,rfl⟩
  ·exact FO q x h
section
variable {prog:aI} {w:aE} {A:a7} {E:ac->af->Prop} {s:af}
theorem Rx {Q:Bool->af->Prop} {h:aF} (kd:gu) (hu:A.units<cLine) (k:uA h s.heap) {x y:ac} {as bs:List (Int ⊕ List Nat)} (hx:k5 h dA x=some as) (hy:k5 h dA y=some bs)
  (hq:Q (p8 p9 as bs) s):wpAny (model prog w) A (keyLt' kd x y) Q E s:=by
 have gen: ∀o:Bool,wpAny (model prog w) A (oneLt' o x y) Q E s:=by
  obtain⟨a1,⟨c1,d1,q1,s1⟩,xs,n,rfl,o1,t1,r1,i1⟩:=IQ hx
  obtain⟨a2,⟨c2,d2,q2,s2⟩,ys,m,rfl,o2,t2,r2,i2⟩:=IQ hy
  obtain⟨ns,j1,rfl⟩:=tJ 0 i1
  obtain⟨ms,j2,rfl⟩:=tJ 0 i2
  have g1:=k _ _ o1 t1
  have g2:=k _ _ o2 t2
  simp only at t1 t2 r1 r2
  subst t1 t2 r1 r2
  rw[FN] at hq
  have me:=HT.KG a1 a2 xs ys n m d1 d2 s1 s2 ns ms j1 j2
  intro o
  rw[oneLt'_eq]
  cases o with
  |false=>
   simp only[dy,if_false]
   refine aj (TQ (op:= .Lt) ⟨_,g1,rfl⟩ ⟨_,g2,rfl⟩ IS Vb (Vc _ _) me ⟨g1,g2,?_⟩ hu)
   exact⟨(λx=>nomatch x),jt hq⟩
  |true=>
   simp only[if_true]
   refine aj (wpAny_cRoomFor hu (aj (wpAny_callSpecialIfBound?_slot ⟨_,g1,rfl⟩ IS (nF IS ⟨_,g1,rfl⟩ Vb (Vc _ _) me ⟨g1,g2,?_⟩))))
   exact jt hq
 cases kd with
 |general=>exact gen false
 |oneType=>exact gen true
 |tuples b=>exact IT b k A E x y as bs hx hy hq
theorem Ry {h:aF} {Γ:jC} (hg:Γ.In A) (hu:A.units<cLine) (k:uA h s.heap) (kd:gu):Alike (model prog w) Γ s (tuples' true) kd (λx=> ∃l,k5 h dA x.1=some l):=by
 rintro x y ⟨as,hx⟩ ⟨bs,hy⟩
 refine⟨p8 p9 as bs,λp=>?_,λp=>?_⟩
 ·exact IT (prog:=prog) (w:=w) (s:=s) true k A (λ_ _=>False) x.1 y.1 as bs (Q:=λb s'=>b=_/\s'=s) hx hy ⟨rfl,rfl⟩ Γ p hg
 ·exact Rx (prog:=prog) (w:=w) (E:=λ_ _=>False) (Q:=λb s'=>b=_/\s'=s) kd hu k hx hy ⟨rfl,rfl⟩ Γ p hg
theorem Rz {h:aF} {vs:List ac} (hu:A.units<cLine) (k:uA h s.heap) (keys:KeysOf (k6 h dA) (pairsOf vs)) (h2:2<=vs.length) (kd:gu) :
  wpS (model prog w) A E s sortRuns' (λ_ st=>(arrOf st).Perm (pairsOf vs)/\failedOf st=none/\nQ (k6 h dA) (arrOf st) (pairsOf vs).size) (qr kd (pairsOf vs) #[] 7 none):=by
 intro Γ p hg
 have r:=Wz (prog:=prog) (w:=w) (A:=A) (E:=E) (s:=s) (κ:=k6 h dA) (kd:=tuples' true) (a₀:=pairsOf vs) (st:=qr (tuples' true) (pairsOf vs) #[] 7 none) (Q:=λ_ st=>(arrOf st).Perm (pairsOf vs)/\failedOf st=none/\nQ (k6 h dA) (arrOf st) (pairsOf vs).size)
  (IT true k) keys ⟨Vd _,rfl,rfl⟩ rfl (Stable.refl _) (by rw[Ar];exact h2) (λst' a1 a2 a3 _=>⟨a1,a2,a3⟩) Γ p hg
 have z:=Rk (Ry hg hu k kd) (qr (tuples' true) (pairsOf vs) #[] 7 none) p p (λa st' _ s'=>s'=s/\(arrOf st').Perm (pairsOf vs)/\failedOf st'=none/\nQ (k6 h dA) (arrOf st') (pairsOf vs).size) (λe _ s'=>E e s') (λ_ st'=>(arrOf st').Perm (pairsOf vs)/\failedOf st'=none/\nQ (k6 h dA) (arrOf st') (pairsOf vs).size)
  ⟨rfl,λx hx=>keys x (pN.mpr hx)⟩ (λa st' p' _ _ q=>q.2) r
 exact uz _ Γ _ (λr p' s' q=>q) (λe _ _ q=>q.elim) p s z
theorem sortedK {d:ac} {vs:List ac} {Q:ac->af->Prop} (hu:A.units+4<cLine)
  (hcol: ∀(A':a7) (Q':List ac->af->Prop) (E':ac->af->Prop),A'.handled=A.handled->A'.units<=A.units+1->(∀h1 tk,(∀b o,s.heap.get? b=some o->h1.get? b=some o)->Q' vs {s with heap:=h1,toks:=tk})->wpAny (model prog w) A' (collect d) Q' E' s)
  (keys: ∀v,v∈vs-> ∃l,k5 s.heap dA v=some l) (ci:vs.length<=sizeLine):CL prog w A E Q s d vs:=by
 intro h
 refine Ip kind_sorted plain_sorted entry_sorted (args_sorted1 _) (aj (m:=checkCount "sorted" 1 1 _) (ay (aj (hcol _ _ _ rfl (aW _) λh1 tk k1=>aj (Iq ?_)))))
 have hoL:(h1.push (seqObj "list" vs.toArray 0)).get? h1.objs.size=some (seqObj "list" vs.toArray 0):=cw _ rfl
 have k0:uA s.heap (h1.push (seqObj "list" vs.toArray 0)):=λb o e _=>b4 _ (k1 b o e)
 have kA:uA s.heap (nr (h1.push (seqObj "list" vs.toArray 0)) h1.objs.size vs):=k0.trans (WA (vs:=vs) hoL)
 refine aj (iR (fS T9 ⟨_,hoL,rfl⟩ T_ (Rm (R:=λst=>(arrOf st).Perm (pairsOf vs)/\failedOf st=none/\nQ (k6 s.heap dA) (arrOf st) (pairsOf vs).size) hoL ci ?one ?kinds ?runs ?good λst' a=>⟨_,rfl,?ret⟩) (Ua _)))
 case one=>
  intro h2
  refine⟨Vd _,rfl,λi j hij hj=>?_⟩
  have:i=j:=by rw[Ar] at hj;omega
  subst this
  exact KeyOrd.kle_refl _
 case kinds=>
  intro h2 Q' hq
  refine kind_any (λv hv=>?_) hq
  obtain⟨l,hl⟩:=keys v hv
  obtain⟨a,o,xs,n,rfl,ho,hc,hd,hi⟩:=IQ hl
  obtain⟨ns,hn,_⟩:=tJ 0 hi
  refine⟨a,o,xs,n,rfl,kA a o ho hc,hc,hd,λx hx=>?_⟩
  obtain⟨m,t,rfl⟩:=FO hn x (pN.mpr hx)
  exact⟨"int",typeIs_int _ _ _⟩
 case runs=>exact λh2 kd=>Rz (by show A.units+1+1<cLine;omega) kA (WB keys) h2 kd
 case good=>exact λst a=>⟨a.2.1,by rw[a.1.size_eq,Ar]⟩
 case ret=>
  obtain⟨e,he⟩:=Ub (vs:=vs) (out:=(arrOf st').map (·.2)) hoL
  refine ay ⟨_,rfl,h st' h1 _ e tk a.1 a.2.2 k1 (λb o hb1=>?_) he⟩
  have hlt:b<h1.objs.size:=bL hb1
  rw[Uc (cX hlt) (by rw[size_push'];exact nG hlt)]
  exact b4 _ hb1
end
section
variable {X:Cx} {a:ao} {pos:Pos} {σ:St} {H:Hp}
theorem RA {x:Str} {p:Pos} {ts:List (List Nat)} (hx:x="sorted") (hc:X.calm=true) (hm:X.mg x=none) (hu:X.A.units+64<cLine) (ha:EE X a σ H (wq X.prog X.w ts)) (hg:Gl X x:=by rfl) (hs:starEach [a] X.env=[(false,eval a X.env)]:=by rfl):EE X (.Call (.Name x p) [a] [] pos) σ H (fr H (bz (cf ts))):=by
 subst hx
 refine iB (r:=λvs H Q=> ∃q ps,vs=[.ref q]/\H q=some (.ext λh=>ef X.prog X.w h q ps)/\(ps.map mi).Nodup/\(∀x,x∈ps.map mi↔x∈ts.map keyOf)/\(∀p∈ps,∃t,p.1=keyOf t/\H p.2=some (.tup (tv t)))/\ ∀p as',H p=none->ba H as' (cf ts)->Q (.ref p) (upd H p (.lst (as'.map V.ref)))) ?_ hm boot_sorted (aM ha a0 hs) (λvs H1 s1 z Q q=>?_) hg (by decide) (by decide) hs
 ·intro pins s σ H xs us Q I r h
  obtain⟨q,ps,rfl,hq,nd,hx,hps,k⟩:=h
  obtain⟨u,rfl,hu'⟩:=vals1 r
  cases hu'
  obtain⟨⟨o,es,ep,t,zs,ps',S,pm⟩,_⟩:=(show cz X.prog X.w H s.heap q (.ext λh=>ef X.prog X.w h q ps) from I.aB q _ hq)
  have op:=FM X.w q ep es
  rw[S.ents] at op
  obtain⟨qs,pq,eq⟩:=CF op rfl
  have pall:qs.Perm ps:=pq.trans pm
  obtain⟨us,eu⟩: ∃us:List (List Nat),qs.map mi=us.map keyOf:=by
   have: ∀l:List (List Key×aa),(∀p∈l,p∈ps)-> ∃us:List (List Nat),l.map mi=us.map keyOf:=by
    intro l
    induction l with
    |nil=>exact λ_=>⟨[],rfl⟩
    |cons y l ih=>
     intro hl
     obtain⟨us,e⟩:=ih λp hp=>hl p (bq _ hp)
     obtain⟨t,e1,_⟩:=hps y (hl y bB)
     exact⟨t::us,by rw[aU,aU,e,e1]⟩
   exact this qs λp hp=>pall.mem_iff.mp hp
  have htx:ba H (qs.map IU) us:=by
   have: ∀(l:List (List Key×aa)) (us:List (List Nat)),(∀p∈l,p∈ps)->l.map mi=us.map keyOf->ba H (l.map IU) us:=by
    intro l
    induction l with
    |nil=>
     intro us _ e
     cases us with
     |nil=>exact .nil
     |cons _ _=>cases e
    |cons y l ih=>
     intro us hl e
     cases us with
     |nil=>cases e
     |cons u us=>
      rw[aU,aU] at e
      injection e with e1 e2
      obtain⟨t,f1,f2⟩:=hps y (hl y bB)
      rw[kE (f1.symm.trans e1)] at f2
      exact .cons f2 (ih us (λp hp=>hl p (bq _ hp)) e2)
   exact this qs us (λp hp=>pall.mem_iff.mp hp) eu
  have ndu:us.Nodup:=by
   have:(us.map keyOf).Nodup:=by rw[←eu];exact(pall.map _).nodup_iff.mpr nd
   rw[k8,nT] at this
   exact k8.mpr (this.imp λh e=>h (by rw[e]))
  have kj: ∀(l:List (List Nat)) (x:List Nat),keyOf x∈l.map keyOf↔x∈l:=λl x=>by
   rw[bp]
   exact⟨λ⟨y,hy,e⟩=>by rw[←kE e];exact hy,λh=>⟨x,h,rfl⟩⟩
  have eo:cf ts=cf us:=Dm.mE (Dm.iw us) λx=>by
   rw[Dm.dJ,←kj us x,←eu,(pall.map mi).mem_iff,hx,kj]
  have ci:ps'.length<=1000:=by
   have:=S.room
   rcases S.tab.lK with e|e|e <;> rw[e] at this <;> omega
  have zq:qs.length=ps'.length:=pq.length_eq
  have hz:es.size=ps'.length:=S.len.2
  have line:(1000:Nat)<=sizeLine:=by decide
  refine CM I htx ndu (by rw[aC];omega) (sortedK (by have:=hu;show X.A.units+4<cLine;omega) (λA' Q' E' hh _ h=>?_) (CN I htx) (by rw[aC,aC];omega)) λp as' s' hp I' ht'=>⟨.ref p,_,I',rfl,k p as' hp (by rw[eo];exact ht')⟩
  refine Uk (Rv S.ex S.data S.fits S.sn S.led S.tab (by rw[S.tab.size];have:=S.len;omega) (Rw _ _ _ _)) (hh.trans (I.ok.hd hc)) S.get (by omega) λh' tk acc hk' hacc=>?_
  have:acc.toList=(qs.map IU).map aP:=by
   apply Iv
   intro j
   rw[bC,bC,ju]
   by_cases hj:j<es.size
   ·have hja:j<acc.size:=by rw[hacc.1];exact hj
    obtain⟨en,hen,hv⟩:=hacc.2 j acc[j] (by simp [hja])
    rw[l_ hja,hv]
    rw[←ju,eq,bC] at hen
    cases hxj:qs[j]? with
    |none=>rw[hxj] at hen;cases hen
    |some y=>rw[hxj] at hen;cases hen;rfl
   ·rw[l9 (by rw[hacc.1];omega),zJ (by omega)];rfl
  rw[this]
  exact h h' tk hk'
 ·obtain⟨v,rfl,qa,ps,rfl,hq,nd,hx,hps⟩:=cM z
  exact⟨qa,ps,rfl,hq,nd,hx,hps,λp as' hp ht'=>q _ _ (bF hp) ⟨⟨p,as',rfl,aK,ht'.grow (bF hp)⟩,λz ez=>by cases ez;exact s1.free hp⟩⟩
end
section
variable {P:aI} {w:aE} {K:aA} {mg:Str->Option ac} {base:aF} {C:Cs}
theorem FP:a6 ["graph","label","own","packages","other","package"] ["graph","label"] (aV xi):=⟨rfl,rfl,rfl,by decide +kernel,rfl,by decide +kernel,by decide +kernel⟩
theorem RB {f:aa} {fd:aS} (F:aX K "wanted_packages" "wanted_packages" xi f fd) (kc:KC K C) (hs:mg "sorted"=none) (hset:mg "set"=none) (N1:aq P w K mg base 1 "package_of" ["label"] (am mV)):aN P w K mg base aR 2 f fd ["graph","label"] (am (pA C)):=by
 refine F.ok FP (λvs H Q E h=>?_) (λcdv A outer s H vs Q E hr h=>?_)
 ·obtain⟨d,⟨g,l,st,tl,rfl,_⟩,_⟩:=h
  rfl
 ·obtain⟨d,⟨g,l,st,tl,rfl,hG,ok,hl,ll,rfl⟩,k⟩:=h
  have nd:=FP.nd
  refine⟨_,ap (a5 (i:=2) nd rfl (nN rfl) ah) (ap (BF (Ep (i:=3) (j:=4) rfl nd rfl rfl (Bs rfl rfl rfl rfl) (LY ah) (dI rfl) rfl rfl)) (au (aD ah))),?_⟩
  refine br (cn N1 hr (ae 1 (d:=aw (tv tl)) rfl ⟨l,rfl,hl⟩) (d:=aw (tv (bf tl))) λv H1 ⟨p,ep,hp⟩=>⟨p,tl,by rw[ep],hp,ll,rfl⟩) λv H1 s1 hv=>?_
  obtain⟨ow,rfl,how⟩:=hv
  obtain⟨dx,fs,td,gd,ld,h1,h2,h3,h4,h5,h6,h7,h8,h9⟩:=(hG.grow s1).ex
  obtain⟨kvs,q1,_,⟨ls,p1,p2⟩,q2⟩:=h7.at ok.asc
  have hll:ls.length<=64:=by rw[p1.length_eq];exact ok.lf
  have inl: ∀t∈ls,t∈Dm.aG st:=λt ht=>p1.mem_iff.mp ht
  have dP: ∀t∈ls,a8 t=true:=λt ht=>by
   obtain⟨u,hu,e⟩:=bp.mp (inl t ht)
   rw[←e];exact ok.dP u hu
  have kpt: ∀{od:Obj} {H':Hp},ak (upd H1 td (.bi od (.dT kvs))) H'-> ∀{b:aa} {u:HO},H1 b=some u->u≠ .dT kvs->H' b=some u:=λ{od H'} s' {b u} hb hu=>s' _ _ (by rw[az (λe=>hu (by rw[e,q1] at hb;exact(cJ hb).symm))];exact hb)
  refine Qk (i:=3) (j:=4) (ts:=ls) (λt=>(eS st t).contains tl) (λt=>aw (tv (bf t))) q1 p2 (λod=>bS (ae 0 rfl rfl) (kpt (ak.refl _) h1 (λz=>nomatch z)) kc.cG kc.cW h2) (cV (m:=64) hll) (λt _=>mR _) (λt _ v H' o u hf ⟨a,e,h⟩=>⟨a,e,by rw[az (bg h hf (by intro z;cases z))];exact h⟩) ?_ ?_ λv H2 s2 hv=>?_
  ·intro t htm od q H' s' hq s0 H0 C0 cl fp
   rcases q2 t with ⟨_,z⟩|⟨r,u,q3,q4,dx2,fs2,dl,sl,q5,q6,q7,⟨das,q8,q9⟩,_⟩
   ·have:=Dm.dk.mpr (inl t htm)
    rw[z] at this;cases this
   rw[Dm.lD q4]
   have q8':=kpt s' q8 (λz=>nomatch z)
   have q9':ba H' das u.deps:=Paired.b6 q9 λ_ _ q=>kpt s' q (λz=>nomatch z)
   exact rT (b9 hr) (EE.T (ae 1 (d:=aw (tv tl)) rfl ⟨l,rfl,kpt s' (s1 _ _ hl) (λz=>nomatch z)⟩)) (EE.Ts (EE.imp (d:=ax (.ref dl)) (bS (Qj (b9 hr) (t:=t) (bS (ae 0 rfl rfl) (kpt s' h1 (λz=>nomatch z)) kc.cG kc.cW h2) (ae 4 rfl ⟨q,rfl,hq⟩) (.inr ⟨od,s' _ _ aK⟩) q3) (kpt s' q5 (λz=>nomatch z)) kc.cT kc.kH q6) λv H2 s hv=>⟨dl,das,hv,s _ _ q8',q9'.grow s⟩))
  ·intro t htm _ od q H' s' hq s0 H0 C0 cl fp
   exact cn N1 hr (ae 4 (d:=aw (tv t)) rfl ⟨q,rfl,hq⟩) λv H1 ⟨p,ep,hp⟩=>⟨p,t,by rw[ep],hp,dP t htm,rfl⟩
  ·obtain⟨pl,vs,rfl,hpl,hden⟩:=hv
   have hmap:(ls.filter λt=>(eS st t).contains tl).map (λt=>aw (tv (bf t)))=((ls.filter λt=>(eS st t).contains tl).map bf).map λt=>aw (tv t):=by rw[eR];rfl
   rw[hmap] at hden
   obtain⟨pas,rfl,hpt⟩:=so hden
   have hpz:((ls.filter λt=>(eS st t).contains tl).map bf).length<=64:=by
    rw[aC];exact bM (iX _ _) hll
   have hwe:(cf ((ls.filter λt=>(eS st t).contains tl).map bf)).filter (λp=>p != bf tl)=gM st tl:=by
    refine Dm.Pl λx=>?_
    rw[bp,bp]
    constructor
    ·rintro⟨t,ht,rfl⟩
     obtain⟨ht1,ht2⟩:=cU.mp ht
     obtain⟨u,hu,e⟩:=bp.mp (inl t ht1)
     refine⟨u,cU.mpr ⟨hu,?_⟩,by rw[e]⟩
     have:=Dm.vJ ok.asc hu
     rw[e] at this
     rwa[Dm.lD this] at ht2
    ·rintro⟨u,hu,rfl⟩
     obtain⟨hu1,hu2⟩:=cU.mp hu
     refine⟨u.label,cU.mpr ⟨p1.mem_iff.mpr (bp.mpr ⟨u,hu1,rfl⟩),?_⟩,rfl⟩
     rw[Dm.lD (Dm.vJ ok.asc hu1)]
     exact hu2
   have how2:=s2 _ _ how
   refine aQ (EE.DT (ts:=gM st tl) (by
    rw[←hwe]
    refine yc (j:=5) (cf ((ls.filter λt=>(eS st t).contains tl).map bf)) (λt=>aw (tv t)) (λp=>p != bf tl) (λt=>aw (tv t)) rfl nd (EE.TD (EE.jN (RA rfl rfl hs hr.units (Dx rfl rfl hset hr.units (by omega) (ae 3 (d:=bz ((ls.filter λt=>(eS st t).contains tl).map bf)) rfl ⟨pl,pas,rfl,hpl,hpt⟩))))) (dI rfl) rfl rfl (cV (m:=64) (bM (Dm.mF _) hpz)) (λt _=>mR _) ?_ ?_
    ·rintro t ht v H' s' ⟨q,rfl,hq⟩ s0 H0 C0 cl fp
     have e:(t != bf tl)=!decide (t=bf tl):=by
      show (!(t == bf tl))=_
      by_cases h:t=bf tl <;> simp [h]
     rw[e]
     exact o0 hr.units (EE.T (ae 5 (d:=aw (tv t)) rfl ⟨q,rfl,hq⟩)) (EE.T (ae 2 (d:=aw (tv (bf tl))) rfl ⟨ow,rfl,s' _ _ how2⟩))
    ·rintro t ht _ v H' s' ⟨q,rfl,hq⟩ s0 H0 C0 cl fp
     exact ae 5 rfl ⟨q,rfl,hq⟩)) λv H3 s3 hv=>k v H3 ((s1.trans s2).trans s3) hv
end
def DF (K:aA) (mg:Str->Option ac) (x:Str) (st:aL):Prop:= ∃f fd,mg x=some (.ref f)/\aX K x x st f fd
def CA (K:aA) (t:aa) (x:Str) (st:aL) (n:Int):Prop:= ∃f fd,ji K t [.ref f,.int n]/\aX K x x st f fd
def MI (K:aA) (q:Str) (st:aL) (c:aa):Prop:= ∃f fd,Mk K c f/\aX K "__init__" q st f fd
structure FQ (P:aI) (w:aE) (K:aA) (mg:Str->Option ac) (C:Cs):Prop where
 kc:KC K C
 rn:RN mg
 bw:BW P w K mg
 np:su K mg "NO_PARTS" [[46],[46,46]]
 iT:MI K "Target.__init__" w8 C.T
 iG:MI K "Graph.__init__" w9 C.G
 mT:mg "Target"=some (.ref C.T)
 mG:mg "Graph"=some (.ref C.G)
 cS:mg "len"=none
 jT:mg "all"=none
 pJ:mg "any"=none
 lV:mg "sorted"=none
 tK:mg "list"=none
 y8:mg "tuple"=none
 FR:mg "ord"=none
 y9:mg "set"=none
 y_:mg "enumerate"=none
 FU:mg "sum"=none
 FV:GI mg "LINE_END" 10
 za:GI mg "SLASH" 47
 zb:GI mg "COLON" 58
 FW:GI mg "DOT" 46
 FX:GI mg "UNDERSCORE" 95
 FY:GI mg "MINUS" 45
 FZ:GI mg "PART_BYTES" 32
 F0:GI mg "PATH_PARTS" 8
 F2:GI mg "PATH_BYTES" 96
 F3:GI mg "NAME_BYTES" 32
 F4:GI mg "MISSING_breaches" 1
 F5:GI mg "HIDDEN" 2
 F6:GI mg "LAYER" 3
 zc:GI mg "NO_LAYER" 8
 F7:GI mg "NOTHING" 0
 F8:GI mg "NO_TARGET" 1
 F9:GI mg "CLOSES_CIRCLE" 2
 F_:GI mg "NOT_SEEN" 3
 Ga:GI mg "GOES_UP" 4
 Gb:GI mg "DEPENDS_ALREADY" 5
 Gc:GI mg "MOST_BREACH_LINES" 16
 Gd:GI mg "CIRCLE_TOLD" 4
 pK:GT K mg "ROOT" [47,47]
 zd:GT K mg "PUBLIC" Dm.eV
 ze:GT K mg "EVERYWHERE" Dm.iz
 tL:GT K mg "BELOW" Dm.cB
 zf:GT K mg "GROUP" Dm.c_
 Ge:DF K mg "text_of" wv
 Gf:DF K mg "are_bytes" ww
 Gg:DF K mg "texts_of" wx
 Gh:DF K mg "lines_of" wy
 Gi:DF K mg "parts_between" wz
 Gj:DF K mg "is_name_byte" wA
 Gk:DF K mg "is_part" wB
 Gm:DF K mg "is_path" wC
 Gn:DF K mg "is_package" wD
 Go:DF K mg "is_label" ss
 Gp:DF K mg "package_of" wE
 Gq:DF K mg "is_within" wF
 Gr:DF K mg "is_group_name" wG
 Gs:DF K mg "is_group_spec" wH
 Gu:DF K mg "ends_below" wI
 Gv:DF K mg "is_plain_spec" wJ
 Gw:DF K mg "is_spec" wK
 Gx:DF K mg "plain_spec_admits" wL
 Gy:DF K mg "spec_admits" wM
 Gz:DF K mg "sees" wN
 GA:DF K mg "layer_of" wO
 GB:DF K mg "goes_up" wP
 GC:DF K mg "breach_numbers" wQ
 GD:DF K mg "all_breaches" wR
 GF:DF K mg "rested_on" wS
 GG:DF K mg "rests_on" wT
 GH:DF K mg "resting_on" wU
 GJ:DF K mg "goals_and_below" wV
 GK:DF K mg "all_among" wW
 GL:DF K mg "order_of" wX
 GN:DF K mg "first_broken" wY
 GO:DF K mg "least_circle_from" wZ
 GP:DF K mg "least_circle" w6
 GQ:DF K mg "target_refusal" w_
 GR:DF K mg "known_target_refusal" xa
 GS:DF K mg "plain_specs_refusal" xb
 GU:DF K mg "group_refusal" xc
 GV:DF K mg "order_refusal" xf
 GW:DF K mg "may_refusal" xg
 GX:DF K mg "sees_refusal" xh
 GY:DF K mg "wanted_packages" xi
 GZ:DF K mg "admits_one_of" xj
 G0:DF K mg "idle_specs" xk
 G3:DF K mg "with_length" xp
 G4:DF K mg "breach_line" xt
 G5:DF K mg "counted_lines" xw
 G6:DF K mg "lines_about" xD
 G7:DF K mg "rows_from" xH
 calls: ∃ct t0 t1 t2 t3 t4 t5 t6 t7 t8 t9 t10 t11 t12 t13,mg "CALLS"=some (.ref ct)/\ji K ct [.ref t0,.ref t1,.ref t2,.ref t3,.ref t4,.ref t5,.ref t6,.ref t7,.ref t8,.ref t9,.ref t10,.ref t11,.ref t12,.ref t13]/\CA K t0 "answer_target" xl 3/\CA K t1 "answer_remove" xm 1/\CA K t2 "answer_group" xn 2/\CA K t3 "answer_layers" xo 1/\CA K t4 "answer_check" xq 0/\CA K t5 "answer_breaches" xu 0/\CA K t6 "answer_circle" xx 0/\CA K t7 "answer_order" xy 1/\CA K t8 "answer_may" xz 2/\CA K t9 "answer_sees" xB 2/\CA K t10 "answer_layer" xC 1/\CA K t11 "answer_wanted" xE 1/\CA K t12 "answer_idle" xF 1/\CA K t13 "answer_above" xG 1
section
variable {P:aI} {w:aE} {K:aA} {mg:Str->Option ac} {base:aF} {C:Cs}
theorem DF.bH {x:Str} {st:aL} {ps:List Str} {k:Nat} {sp:Sp} (d:DF K mg x st) (h: ∀(kV doc pm:ac) (an:Option aa) (cdv ct:ac) (us:List ac),us.length=ps.length->bindArgs (iP x x (i_ st) (iu st) (aV st) .none kV doc pm an cdv ct) ⟨us,[]⟩=pure (ps.zip us))
  (ok: ∀f fd,aX K x x st f fd->aN P w K mg base aR k f fd ps sp):aq P w K mg base k x ps sp:=by
 obtain⟨f,fd,m,F⟩:=d
 exact⟨f,fd,m,F.kp,F.binds h,ok f fd F⟩
theorem CA.at_ {t:aa} {x:Str} {st:aL} {n:Nat} {i:Int} {sp:Sp} (d:CA K t x st i) (hi:i=(Dm.cnt n:Nat)) (h: ∀(kV doc pm:ac) (an:Option aa) (cdv ct:ac) (us:List ac),us.length=2->bindArgs (iP x x (i_ st) (iu st) (aV st) .none kV doc pm an cdv ct) ⟨us,[]⟩=pure ((["graph","rows"]:List Str).zip us))
  (ok: ∀f fd,aX K x x st f fd->aN P w K mg base aR 8 f fd ["graph","rows"] sp): ∃(f:aa) (fd:aS),(∀H,bE K H t [.ref f,.int (Dm.cnt n:Nat)])/\aN P w K mg base aR 8 f fd ["graph","rows"] sp/\fo K (.ref f)=true/\Binds K fd ["graph","rows"] []:=by
 obtain⟨f,fd,m,F⟩:=d
 subst hi
 exact⟨f,fd,λH=> .inr m,ok f fd F,F.kp,F.binds h⟩
theorem RC (T:FQ P w K mg C) {f:aa} {fd:aS} (F:aX K "answers" "answers" mU f fd):aN P w K mg base aR 9 f fd ["calls"] (tG K):=by
 have n_text_of:aq P w K mg base 1 "text_of" ["words"] (am yf):=T.Ge.bH (λ_ _ _ _ _ _ us hl=>match us,hl with| [_],_=>rfl) λ_ _ F=>PV F T.y8 T.FR
 have n_are_bytes:aq P w K mg base 1 "are_bytes" ["numbers"] (am (jQ λl=>bo (l.all Dm.ja))):=T.Gf.bH (λ_ _ _ _ _ _ us hl=>match us,hl with| [_],_=>rfl) λ_ _ F=>OO F T.jT
 have n_texts_of:aq P w K mg base 2 "texts_of" ["row"] (am (jQ λl=>cq (aO l))):=T.Gg.bH (λ_ _ _ _ _ _ us hl=>match us,hl with| [_],_=>rfl) λ_ _ F=>OQ F T.cS n_are_bytes
 have n_lines_of:aq P w K mg base 1 "lines_of" ["texts"] (am sy):=T.Gh.bH (λ_ _ _ _ _ _ us hl=>match us,hl with| [_],_=>rfl) λ_ _ F=>OS F T.FV
 have n_parts_between:aq P w K mg base 1 "parts_between" ["text","byte"] (am xJ):=T.Gi.bH (λ_ _ _ _ _ _ us hl=>match us,hl with| [_,_],_=>rfl) λ_ _ F=>Oo F T.y_
 have n_is_name_byte:aq P w K mg base 1 "is_name_byte" ["byte"] (am sv):=T.Gj.bH (λ_ _ _ _ _ _ us hl=>match us,hl with| [_],_=>rfl) λ_ _ F=>Ol F T.FX T.FY
 have n_is_part:aq P w K mg base 2 "is_part" ["text"] (am (b_ λt=> .bl (qj t))):=T.Gk.bH (λ_ _ _ _ _ _ us hl=>match us,hl with| [_],_=>rfl) λ_ _ F=>Om F T.FZ T.np T.FW T.cS T.jT n_is_name_byte
 have n_is_path:aq P w K mg base 3 "is_path" ["text"] (am (b_ λt=> .bl (j8 t))):=T.Gm.bH (λ_ _ _ _ _ _ us hl=>match us,hl with| [_],_=>rfl) λ_ _ F=>Op F T.F2 T.za T.F0 T.cS T.jT n_is_part n_parts_between
 have n_is_package:aq P w K mg base 4 "is_package" ["text"] (am (b_ λt=> .bl (qk t))):=T.Gn.bH (λ_ _ _ _ _ _ us hl=>match us,hl with| [_],_=>rfl) λ_ _ F=>Ot F T.cS n_is_path
 have n_is_label:aq P w K mg base 5 "is_label" ["text"] (am (b_ λt=> .bl (a8 t))):=T.Go.bH (λ_ _ _ _ _ _ us hl=>match us,hl with| [_],_=>rfl) λ_ _ F=>Ov F T.pK T.zb T.cS n_is_path n_is_package
 have n_package_of:aq P w K mg base 1 "package_of" ["label"] (am mV):=T.Gp.bH (λ_ _ _ _ _ _ us hl=>match us,hl with| [_],_=>rfl) λ_ _ F=>Ox F T.pK T.zb T.cS
 have n_is_within:aq P w K mg base 1 "is_within" ["inner","outer"] (am (lM λt u=> .bl (qm t u))):=T.Gq.bH (λ_ _ _ _ _ _ us hl=>match us,hl with| [_,_],_=>rfl) λ_ _ F=>Oz F T.za T.cS
 have n_is_group_name:aq P w K mg base 2 "is_group_name" ["text"] (am (b_ λt=> .bl (ic t))):=T.Gr.bH (λ_ _ _ _ _ _ us hl=>match us,hl with| [_],_=>rfl) λ_ _ F=>OA F T.F3 T.cS T.jT n_is_name_byte
 have n_is_group_spec:aq P w K mg base 3 "is_group_spec" ["text"] (am (b_ λt=> .bl (decide (t.take 6=Dm.c_) && ic (t.drop 6)))):=T.Gs.bH (λ_ _ _ _ _ _ us hl=>match us,hl with| [_],_=>rfl) λ_ _ F=>OC F T.zf T.cS n_is_group_name
 have n_ends_below:aq P w K mg base 1 "ends_below" ["spec"] (am (b_ λt=> .bl (Dm.fH t))):=T.Gu.bH (λ_ _ _ _ _ _ us hl=>match us,hl with| [_],_=>rfl) λ_ _ F=>OE F T.tL T.cS
 have n_is_plain_spec:aq P w K mg base 5 "is_plain_spec" ["text"] (am (b_ λt=> .bl (Dm.f7 t))):=T.Gv.bH (λ_ _ _ _ _ _ us hl=>match us,hl with| [_],_=>rfl) λ_ _ F=>OG F T.zd T.ze T.pK T.tL T.cS n_is_path n_is_package n_ends_below
 have n_is_spec:aq P w K mg base 6 "is_spec" ["text"] (am (b_ λt=> .bl ((gp t).isSome))):=T.Gw.bH (λ_ _ _ _ _ _ us hl=>match us,hl with| [_],_=>rfl) λ_ _ F=>OI F n_is_plain_spec n_is_group_spec
 have n_plain_spec_admits:aq P w K mg base 2 "plain_spec_admits" ["spec","package"] (am (lM λt p=> .bl (Dm.fI t p))):=T.Gx.bH (λ_ _ _ _ _ _ us hl=>match us,hl with| [_,_],_=>rfl) λ_ _ F=>OK F T.zd T.ze T.pK T.tL T.cS n_is_within n_ends_below
 have n_spec_admits:aq P w K mg base 3 "spec_admits" ["spec","package","groups"] (am sw):=T.Gy.bH (λ_ _ _ _ _ _ us hl=>match us,hl with| [_,_,_],_=>rfl) λ_ _ F=>OL F T.zf T.cS T.pJ n_plain_spec_admits
 have n_sees:aq P w K mg base 4 "sees" ["graph","a","b"] (am (pc C)):=T.Gz.bH (λ_ _ _ _ _ _ us hl=>match us,hl with| [_,_,_],_=>rfl) λ_ _ F=>OT F T.kc T.pJ n_package_of n_spec_admits
 have n_layer_of:aq P w K mg base 3 "layer_of" ["graph","package"] (am (sD C)):=T.GA.bH (λ_ _ _ _ _ _ us hl=>match us,hl with| [_,_],_=>rfl) λ_ _ F=>OU F T.kc T.y_ T.zc n_plain_spec_admits
 have n_goes_up:aq P w K mg base 4 "goes_up" ["graph","a","b"] (am (sE C)):=T.GB.bH (λ_ _ _ _ _ _ us hl=>match us,hl with| [_,_,_],_=>rfl) λ_ _ F=>OV F T.zc n_package_of n_layer_of
 have n_breach_numbers:aq P w K mg base 5 "breach_numbers" ["graph","a","b"] (am (xP C)):=T.GC.bH (λ_ _ _ _ _ _ us hl=>match us,hl with| [_,_,_],_=>rfl) λ_ _ F=>OW F T.kc T.F4 T.F5 T.F6 n_sees n_goes_up
 have n_all_breaches:aq P w K mg base 6 "all_breaches" ["graph"] (am (sI C)):=T.GD.bH (λ_ _ _ _ _ _ us hl=>match us,hl with| [_],_=>rfl) λ_ _ F=>OY F T.kc T.lV n_breach_numbers
 have n_rested_on:aq P w K mg base 1 "rested_on" ["graph","labels"] (am (sQ C)):=T.GF.bH (λ_ _ _ _ _ _ us hl=>match us,hl with| [_,_],_=>rfl) λ_ _ F=>Pt F T.kc T.tK T.cS
 have n_rests_on:aq P w K mg base 2 "rests_on" ["graph","a","b"] (am (pi C)):=T.GG.bH (λ_ _ _ _ _ _ us hl=>match us,hl with| [_,_,_],_=>rfl) λ_ _ F=>Pw F n_rested_on
 have n_resting_on:aq P w K mg base 3 "resting_on" ["graph","label"] (am (sS C)):=T.GH.bH (λ_ _ _ _ _ _ us hl=>match us,hl with| [_,_],_=>rfl) λ_ _ F=>Px F T.kc T.lV n_rests_on
 have n_goals_and_below:aq P w K mg base 2 "goals_and_below" ["graph","goals"] (am (sY C)):=T.GJ.bH (λ_ _ _ _ _ _ us hl=>match us,hl with| [_,_],_=>rfl) λ_ _ F=>Pz F T.lV n_rested_on
 have n_all_among:aq P w K mg base 1 "all_among" ["labels","known"] (am sX):=T.GK.bH (λ_ _ _ _ _ _ us hl=>match us,hl with| [_,_],_=>rfl) λ_ _ F=>Py F T.jT
 have n_order_of:aq P w K mg base 3 "order_of" ["graph","goals"] (am (yd C)):=T.GL.bH (λ_ _ _ _ _ _ us hl=>match us,hl with| [_,_],_=>rfl) λ_ _ F=>PP F T.kc T.tK T.cS n_goals_and_below n_all_among
 have n_first_broken:aq P w K mg base 5 "first_broken" ["graph","a","b"] (am (ye C)):=T.GN.bH (λ_ _ _ _ _ _ us hl=>match us,hl with| [_,_,_],_=>rfl) λ_ _ F=>PU F T.kc T.F7 T.F8 T.F9 T.F_ T.Ga T.Gb n_rests_on n_sees n_goes_up
 have n_least_circle_from:aq P w K mg base 1 "least_circle_from" ["targets","first"] (am (xV C)):=T.GO.bH (λ_ _ _ _ _ _ us hl=>match us,hl with| [_,_],_=>rfl) λ_ _ F=>Pb F T.kc T.lV T.cS
 have n_least_circle:aq P w K mg base 2 "least_circle" ["targets"] (am (tj C)):=T.GP.bH (λ_ _ _ _ _ _ us hl=>match us,hl with| [_],_=>rfl) λ_ _ F=>P4 F T.lV T.cS n_least_circle_from
 have n_target_refusal:aq P w K mg base 7 "target_refusal" ["graph","label","dependencies","specs"] (am (yl C)):=T.GQ.bH (λ_ _ _ _ _ _ us hl=>match us,hl with| [_,_,_,_],_=>rfl) λ_ _ F=>Qe F T.kc T.rn T.cS T.jT T.y9 n_is_label n_is_spec
 have n_known_target_refusal:aq P w K mg base 6 "known_target_refusal" ["graph","label"] (am (tm C)):=T.GR.bH (λ_ _ _ _ _ _ us hl=>match us,hl with| [_,_],_=>rfl) λ_ _ F=>P8 F T.kc T.rn n_is_label
 have n_plain_specs_refusal:aq P w K mg base 6 "plain_specs_refusal" ["specs"] (am tq):=T.GS.bH (λ_ _ _ _ _ _ us hl=>match us,hl with| [_],_=>rfl) λ_ _ F=>Qb F T.rn T.cS T.jT n_is_plain_spec
 have n_group_refusal:aq P w K mg base 7 "group_refusal" ["graph","name","specs"] (am (yk C)):=T.GU.bH (λ_ _ _ _ _ _ us hl=>match us,hl with| [_,_,_],_=>rfl) λ_ _ F=>Qc F T.kc T.rn T.cS n_is_group_name n_plain_specs_refusal
 have n_order_refusal:aq P w K mg base 6 "order_refusal" ["graph","goals"] (am (ym C)):=T.GV.bH (λ_ _ _ _ _ _ us hl=>match us,hl with| [_,_],_=>rfl) λ_ _ F=>Qg F T.kc T.rn T.jT T.pJ n_is_label n_all_among n_goals_and_below n_rests_on
 have n_may_refusal:aq P w K mg base 6 "may_refusal" ["graph","a","b"] (am (tp C)):=T.GW.bH (λ_ _ _ _ _ _ us hl=>match us,hl with| [_,_,_],_=>rfl) λ_ _ F=>P_ F T.kc T.rn n_is_label
 have n_sees_refusal:aq P w K mg base 7 "sees_refusal" ["graph","a","b"] (am (yj C)):=T.GX.bH (λ_ _ _ _ _ _ us hl=>match us,hl with| [_,_,_],_=>rfl) λ_ _ F=>Qa F T.kc T.rn n_may_refusal
 have n_wanted_packages:aq P w K mg base 2 "wanted_packages" ["graph","label"] (am (pA C)):=T.GY.bH (λ_ _ _ _ _ _ us hl=>match us,hl with| [_,_],_=>rfl) λ_ _ F=>RB F T.kc T.lV T.y9 n_package_of
 have n_admits_one_of:aq P w K mg base 4 "admits_one_of" ["spec","packages","groups"] (am yq):=T.GZ.bH (λ_ _ _ _ _ _ us hl=>match us,hl with| [_,_,_],_=>rfl) λ_ _ F=>Qo F T.pJ n_spec_admits
 have n_idle_specs:aq P w K mg base 5 "idle_specs" ["graph","label"] (am (tw C)):=T.G0.bH (λ_ _ _ _ _ _ us hl=>match us,hl with| [_,_],_=>rfl) λ_ _ F=>Qp F T.kc n_wanted_packages n_admits_one_of
 have n_with_length:aq P w K mg base 1 "with_length" ["text"] (am yg):=T.G3.bH (λ_ _ _ _ _ _ us hl=>match us,hl with| [_],_=>rfl) λ_ _ F=>PY F T.cS T.tK
 have n_breach_line:aq P w K mg base 2 "breach_line" ["breach"] (am yh):=T.G4.bH (λ_ _ _ _ _ _ us hl=>match us,hl with| [_],_=>rfl) λ_ _ F=>P2 F T.bw n_text_of
 have n_counted_lines:aq P w K mg base 2 "counted_lines" ["texts"] (am pj):=T.G5.bH (λ_ _ _ _ _ _ us hl=>match us,hl with| [_],_=>rfl) λ_ _ F=>P0 F T.cS n_lines_of
 have n_lines_about:aq P w K mg base 7 "lines_about" ["graph","label","tell"] (am (pC P w K mg base C)):=T.G6.bH (λ_ _ _ _ _ _ us hl=>match us,hl with| [_,_,_],_=>rfl) λ_ _ F=>Qz F T.rn n_known_target_refusal n_counted_lines
 have n_rows_from:aq P w K mg base 1 "rows_from" ["calls","start","how_many"] (am (yD K)):=T.G7.bH (λ_ _ _ _ _ _ us hl=>match us,hl with| [_,_,_],_=>rfl) λ_ _ F=>QX F T.cS T.y8
 obtain⟨ft,fdt,MT,FT⟩:=T.iT
 obtain⟨fg,fdg,MG,FG⟩:=T.iG
 have bT:Binds K fdt ["self","dependencies","specs"] []:=FT.binds (λ_ _ _ _ _ _ us hl=>match us,hl with| [_,_,_],_=>rfl)
 have bG:Binds K fdg ["self"] []:=FG.binds (λ_ _ _ _ _ _ us hl=>match us,hl with| [_],_=>rfl)
 obtain⟨ct,t0,t1,t2,t3,t4,t5,t6,t7,t8,t9,t10,t11,t12,t13,mc,kt,c0,c1,c2,c3,c4,c5,c6,c7,c8,c9,c10,c11,c12,c13⟩:=T.calls
 refine Q_ F T.cS T.FU MG (QN FG T.kc) T.mG bG ⟨ct,[t0,t1,t2,t3,t4,t5,t6,t7,t8,t9,t10,t11,t12,t13],mc,λH=> .inr kt,λn hn=>?_⟩ n_rows_from
 match n,hn with
 |0,_=>obtain⟨f,fd,h⟩:=CA.at_ (c0) (P:=P) (w:=w) (mg:=mg) (base:=base) (n:=0) (sp:=cI C 0) rfl (λ_ _ _ _ _ _ us hl=>match us,hl with| [_,_],_=>rfl) λ_ _ F=>QO F T.kc T.rn MT (QL FT T.kc) T.mT bT n_texts_of n_target_refusal;exact⟨t0,f,fd,rfl,h⟩
 |1,_=>obtain⟨f,fd,h⟩:=CA.at_ (c1) (P:=P) (w:=w) (mg:=mg) (base:=base) (n:=1) (sp:=cI C 1) rfl (λ_ _ _ _ _ _ us hl=>match us,hl with| [_,_],_=>rfl) λ_ _ F=>QP F T.kc T.rn n_known_target_refusal;exact⟨t1,f,fd,rfl,h⟩
 |2,_=>obtain⟨f,fd,h⟩:=CA.at_ (c2) (P:=P) (w:=w) (mg:=mg) (base:=base) (n:=2) (sp:=cI C 2) rfl (λ_ _ _ _ _ _ us hl=>match us,hl with| [_,_],_=>rfl) λ_ _ F=>QQ F T.kc T.rn n_texts_of n_group_refusal;exact⟨t2,f,fd,rfl,h⟩
 |3,_=>obtain⟨f,fd,h⟩:=CA.at_ (c3) (P:=P) (w:=w) (mg:=mg) (base:=base) (n:=3) (sp:=cI C 3) rfl (λ_ _ _ _ _ _ us hl=>match us,hl with| [_,_],_=>rfl) λ_ _ F=>QR F T.kc T.rn T.cS n_texts_of n_plain_specs_refusal;exact⟨t3,f,fd,rfl,h⟩
 |4,_=>obtain⟨f,fd,h⟩:=CA.at_ (c4) (P:=P) (w:=w) (mg:=mg) (base:=base) (n:=4) (sp:=cI C 4) rfl (λ_ _ _ _ _ _ us hl=>match us,hl with| [_,_],_=>rfl) λ_ _ F=>QH F T.kc T.cS T.Gd n_all_breaches n_least_circle n_with_length;exact⟨t4,f,fd,rfl,h⟩
 |5,_=>obtain⟨f,fd,h⟩:=CA.at_ (c5) (P:=P) (w:=w) (mg:=mg) (base:=base) (n:=5) (sp:=cI C 5) rfl (λ_ _ _ _ _ _ us hl=>match us,hl with| [_,_],_=>rfl) λ_ _ F=>QI F T.cS T.Gc n_all_breaches n_breach_line n_lines_of;exact⟨t5,f,fd,rfl,h⟩
 |6,_=>obtain⟨f,fd,h⟩:=CA.at_ (c6) (P:=P) (w:=w) (mg:=mg) (base:=base) (n:=6) (sp:=cI C 6) rfl (λ_ _ _ _ _ _ us hl=>match us,hl with| [_,_],_=>rfl) λ_ _ F=>Qr F T.kc n_counted_lines n_least_circle;exact⟨t6,f,fd,rfl,h⟩
 |7,_=>obtain⟨f,fd,h⟩:=CA.at_ (c7) (P:=P) (w:=w) (mg:=mg) (base:=base) (n:=7) (sp:=cI C 7) rfl (λ_ _ _ _ _ _ us hl=>match us,hl with| [_,_],_=>rfl) λ_ _ F=>Qx F T.rn n_texts_of n_order_refusal n_order_of n_counted_lines;exact⟨t7,f,fd,rfl,h⟩
 |8,_=>obtain⟨f,fd,h⟩:=CA.at_ (c8) (P:=P) (w:=w) (mg:=mg) (base:=base) (n:=8) (sp:=cI C 8) rfl (λ_ _ _ _ _ _ us hl=>match us,hl with| [_,_],_=>rfl) λ_ _ F=>Qu F T.rn n_may_refusal n_first_broken;exact⟨t8,f,fd,rfl,h⟩
 |9,_=>obtain⟨f,fd,h⟩:=CA.at_ (c9) (P:=P) (w:=w) (mg:=mg) (base:=base) (n:=9) (sp:=cI C 9) rfl (λ_ _ _ _ _ _ us hl=>match us,hl with| [_,_],_=>rfl) λ_ _ F=>Qv F T.rn n_sees_refusal n_sees;exact⟨t9,f,fd,rfl,h⟩
 |10,_=>obtain⟨f,fd,h⟩:=CA.at_ (c10) (P:=P) (w:=w) (mg:=mg) (base:=base) (n:=10) (sp:=cI C 10) rfl (λ_ _ _ _ _ _ us hl=>match us,hl with| [_,_],_=>rfl) λ_ _ F=>Qt F T.rn n_is_label n_layer_of n_package_of;exact⟨t10,f,fd,rfl,h⟩
 |11,_=>obtain⟨f,fd,h⟩:=CA.at_ (c11) (P:=P) (w:=w) (mg:=mg) (base:=base) (n:=11) (sp:=cI C 11) rfl (λ_ _ _ _ _ _ us hl=>match us,hl with| [_,_],_=>rfl) λ_ _ F=>QD F n_lines_about n_wanted_packages;exact⟨t11,f,fd,rfl,h⟩
 |12,_=>obtain⟨f,fd,h⟩:=CA.at_ (c12) (P:=P) (w:=w) (mg:=mg) (base:=base) (n:=12) (sp:=cI C 12) rfl (λ_ _ _ _ _ _ us hl=>match us,hl with| [_,_],_=>rfl) λ_ _ F=>QE F n_lines_about n_idle_specs;exact⟨t12,f,fd,rfl,h⟩
 |13,_=>obtain⟨f,fd,h⟩:=CA.at_ (c13) (P:=P) (w:=w) (mg:=mg) (base:=base) (n:=13) (sp:=cI C 13) rfl (λ_ _ _ _ _ _ us hl=>match us,hl with| [_,_],_=>rfl) λ_ _ F=>QF F n_lines_about n_resting_on;exact⟨t13,f,fd,rfl,h⟩
 |n+14,h=>omega
end
section
variable {P:aI} {w:aE} {K:aA} {mg:Str->Option ac} {h:aF}
theorem bI {x:Str} {st:aL} {f:aa} {oc:ac} {od an:Option aa} {osl:Array (Option ac)} {kV doc pm cdv ct:ac} (X:K.In h) (G:h.Ns mainGlobals mg) (a:mn K mainGlobals x=some (some (.ref f))) (l:K.lookup f=some ⟨oc,od,.func (iP x x (i_ st) (iu st) (aV st) .none kV doc pm an cdv ct),osl⟩)
  (c:nA K cdv x=true) (k:fo K (.ref f)=true):DF K mg x st:=⟨f,_,mo X G a,rg l c k⟩
theorem gh {x:Str} {st:aL} {t f:aa} {i:Int} {tok:Tok} {oc:ac} {od od2 an:Option aa} {osl osl2:Array (Option ac)} {kV doc pm cdv ct:ac} {n:Nat} (m:K.lookup t=some ⟨.type "tuple",od2,.seq #[.ref f,.int i tok] n,osl2⟩) (l:K.lookup f=some ⟨oc,od,.func (iP x x (i_ st) (iu st) (aV st) .none kV doc pm an cdv ct),osl⟩)
  (c:nA K cdv x=true) (k:fo K (.ref f)=true):CA K t x st i:=⟨f,_,⟨_,_,_,m,rfl,rfl,(show 2<=sizeLine by decide),.cons rfl (.cons ⟨tok,rfl⟩ .nil)⟩,rg l c k⟩
theorem G8 {q:Str} {st:aL} {c f:aa} {oc:ac} {od an:Option aa} {osl:Array (Option ac)} {kV doc pm cdv ct:ac} (mk:Hk K c=true) (i:iO K (.ref c) "__init__"=some (some (.ref f))) (fn:Hl K (.ref f)=true) (kp:fo K (.ref c)=true) (l:K.lookup f=some ⟨oc,od,.func (iP "__init__" q (i_ st) (iu st) (aV st) .none kV doc pm an cdv ct),osl⟩)
  (cd:nA K cdv q=true) (k:fo K (.ref f)=true):MI K q st c:=⟨f,_,⟨mk,i,fn,kp⟩,rg l cd k⟩
theorem ca {x:Str} {i:Int} {t:Tok} (X:K.In h) (G:h.Ns mainGlobals mg) (a:mn K mainGlobals x=some (some (.int i t))):GI mg x i:=⟨t,mo X G a⟩
theorem jU {b:aa} {od:Option aa} {its:List ac} {n:Nat} {sl:Array (Option ac)} {xs:List V} (l:K.lookup b=some ⟨.type "tuple",od,.seq its.toArray n,sl⟩) (z:its.length<=100) (v:Vals xs its):ji K b xs:=⟨_,_,_,l,rfl,rfl,by rw[bQ];exact cV (m:=100) z,v⟩
theorem pL {x:Str} {t:List Nat} {b:aa} (X:K.In h) (G:h.Ns mainGlobals mg) (a:mn K mainGlobals x=some (some (.ref b))) (k:ji K b (tv t)):GT K mg x t:=⟨b,mo X G a,k⟩
theorem RD {b c d:aa} (X:K.In h) (G:h.Ns mainGlobals mg) (a:mn K mainGlobals "NO_PARTS"=some (some (.ref b))) (k:ji K b [.ref c,.ref d]) (k1:ji K c (tv [46])) (k2:ji K d (tv [46,46])):su K mg "NO_PARTS" [[46],[46,46]]:=⟨b,[c,d],mo X G a,k,.cons k1 (.cons k2 .nil)⟩
theorem G9 {c:aa} (pg:zm K c Sb=true) (hd:zn K c=true) (po:Hi K c=true) (sa:iO K (.ref c) "__setattr__"=some (some (.builtin "object.__setattr__"))):ip K c:=⟨pg,hd,po,sa⟩
theorem pM {c:aa} {x:Str} (e:iO K (.ref c) x=some none):fW K c x:=e
theorem RE {b:aa} {t1 t2 t3 u1 u2 u3:Tok} {n:Nat} (X:K.In h) (G:h.Ns mainGlobals mg) (a:mn K mainGlobals "BREACH_WORDS"=some (some (.ref b)))
  (l:K.lookup b=some {cls:= .type "dict",data:= .dict #[⟨1,.int 1 t1,.str "missing" u1⟩,⟨2,.int 2 t2,.str "hidden" u2⟩,⟨3,.int 3 t3,.str "layer" u3⟩] n}):BW P w K mg:=by
 refine⟨b,[(dF 1,.str "missing" u1),(dF 2,.str "hidden" u2),(dF 3,.str "layer" u3)],mo X G a,λh hk=>⟨_,_,_,hk _ _ l,⟨rfl,rfl,rfl⟩,rfl,?_,.cons (lh P w 1 t1) rfl (.cons (lh P w 2 t2) rfl (.cons (lh P w 3 t3) rfl .nil)),show ([dF 1,dF 2,dF 3]:List Key).Nodup by decide⟩,λk h1 h3=>?_⟩
 ·intro e he
  have:e=⟨1,.int 1 t1,.str "missing" u1⟩∨e=⟨2,.int 2 t2,.str "hidden" u2⟩∨e=⟨3,.int 3 t3,.str "layer" u3⟩:=by simpa using he
  rcases this with rfl|rfl|rfl
  ·exact⟨.inl 1,lh P w 1 t1,rfl⟩
  ·exact⟨.inl 2,lh P w 2 t2,rfl⟩
  ·exact⟨.inl 3,lh P w 3 t3,rfl⟩
 ·match k,h1,h3 with
  |1,_,_=>exact⟨_,u1,rfl,by decide⟩
  |2,_,_=>exact⟨_,u2,rfl,by decide⟩
  |3,_,_=>exact⟨_,u3,rfl,by decide⟩
theorem RF {f fa g t:aa} {oc:ac} {od an:Option aa} {osl:Array (Option ac)} {kV doc pm cdv ct:ac} (X:K.In h) (G:h.Ns mainGlobals mg) (hfa:mg "answers"=some (.ref fa)) (a:mn K mainGlobals "answers"=some (some (.ref f)))
  (l:K.lookup f=some ⟨oc,od,.func (iP "answers" "answers" (i_ mU) (iu mU) (aV mU) .none kV doc pm an cdv ct),osl⟩) (c:nA K cdv "answers"=true) (k:fo K (.ref f)=true) (eG:mn K mainGlobals "Graph"=some (some (.ref g))) (eT:mn K mainGlobals "Target"=some (some (.ref t)))
  (T:mg "Graph"=some (.ref g)->mg "Target"=some (.ref t)->FQ P w K mg ⟨g,t⟩): ∃fd:aS,(∀(s:af) (us:List ac),us.length=(["calls"]:List Str).length->pO s fd ⟨us,[]⟩ ((["calls"]:List Str).zip us))/\ ∀base:aF,K.In base->base.Ns mainGlobals mg->aN P w K mg base aR 9 fa fd ["calls"] (tG K):=by
 have e:=hfa.symm.trans (mo X G a)
 cases e
 exact⟨_,λs us hu=>match us,hu with| [_],_=> .of_eq rfl,λbase _ _=>RC (T (mo X G eG) (mo X G eT)) (rg l c k)⟩
end
end L2
open PySem PySem.W PyProof.Rows
set_option Elab.async false
set_option maxRecDepth 100000 in
set_option maxHeartbeats 0 in
theorem PySem.Challenge.cw_dependrules_s01_answers_holds : PySem.Challenge.rw_dependrules_s01_answers.Holds := by
  w_on; k_headS; (case hw => exact ⟨[.list [.int 4]], by decide +kernel, by decide +kernel⟩)
  k_fillS
  refine L2.Mf (r := PySem.Challenge.rw_dependrules_s01_answers) (k := 9) (CX := L2.aR) (ps := ["calls"]) (sp := L2.tG) (by decide +kernel) rfl rfl ⟨rfl, by decide, by decide⟩ (fun w h Y => PySem.W.kIn_of Y) ?F ?S (fun _ _ _ _ z => z)
  case F =>
    intro w mg fa h Y KX G hmg
    refine L2.RF KX G hmg (by k_is) (by k_is) (by k_is) (by k_is) (by k_is) (by k_is) fun mG mT => ?_
    clear hmg Y
    have rn : L2.RN mg := ⟨L2.ca KX G (by k_is), L2.ca KX G (by k_is), L2.ca KX G (by k_is), L2.ca KX G (by k_is), L2.ca KX G (by k_is), L2.ca KX G (by k_is), L2.ca KX G (by k_is), L2.ca KX G (by k_is), L2.ca KX G (by k_is), L2.ca KX G (by k_is), L2.ca KX G (by k_is), L2.ca KX G (by k_is), L2.ca KX G (by k_is), L2.ca KX G (by k_is), L2.ca KX G (by k_is)⟩
    exact {
      kc := ⟨L2.G9 (by k_is) (by k_is) (by k_is) (by k_is), L2.G9 (by k_is) (by k_is) (by k_is) (by k_is), L2.pM (by k_is), L2.pM (by k_is), L2.pM (by k_is), L2.pM (by k_is), L2.pM (by k_is), by decide⟩
      rn := rn
      bw := L2.RE KX G (by k_is) (by k_is)
      np := L2.RD KX G (by k_is) (L2.jU (by k_is) (by exact Nat.le_of_ble_eq_true rfl) (.cons rfl (.cons rfl (.nil)))) (L2.jU (by k_is) (by exact Nat.le_of_ble_eq_true rfl) (.cons ⟨_, rfl⟩ (.nil))) (L2.jU (by k_is) (by exact Nat.le_of_ble_eq_true rfl) (.cons ⟨_, rfl⟩ (.cons ⟨_, rfl⟩ (.nil))))
      iT := L2.G8 (by k_is) (by k_is) (by k_is) (by k_is) (by k_is) (by k_is) (by k_is)
      iG := L2.G8 (by k_is) (by k_is) (by k_is) (by k_is) (by k_is) (by k_is) (by k_is)
      mT := mT
      mG := mG
      cS := PySem.W.mg_none_of KX G (by k_is)
      jT := PySem.W.mg_none_of KX G (by k_is)
      pJ := PySem.W.mg_none_of KX G (by k_is)
      lV := PySem.W.mg_none_of KX G (by k_is)
      tK := PySem.W.mg_none_of KX G (by k_is)
      y8 := PySem.W.mg_none_of KX G (by k_is)
      FR := PySem.W.mg_none_of KX G (by k_is)
      y9 := PySem.W.mg_none_of KX G (by k_is)
      y_ := PySem.W.mg_none_of KX G (by k_is)
      FU := PySem.W.mg_none_of KX G (by k_is)
      FV := L2.ca KX G (by k_is)
      za := L2.ca KX G (by k_is)
      zb := L2.ca KX G (by k_is)
      FW := L2.ca KX G (by k_is)
      FX := L2.ca KX G (by k_is)
      FY := L2.ca KX G (by k_is)
      FZ := L2.ca KX G (by k_is)
      F0 := L2.ca KX G (by k_is)
      F2 := L2.ca KX G (by k_is)
      F3 := L2.ca KX G (by k_is)
      F4 := L2.ca KX G (by k_is)
      F5 := L2.ca KX G (by k_is)
      F6 := L2.ca KX G (by k_is)
      zc := L2.ca KX G (by k_is)
      F7 := L2.ca KX G (by k_is)
      F8 := L2.ca KX G (by k_is)
      F9 := L2.ca KX G (by k_is)
      F_ := L2.ca KX G (by k_is)
      Ga := L2.ca KX G (by k_is)
      Gb := L2.ca KX G (by k_is)
      Gc := L2.ca KX G (by k_is)
      Gd := L2.ca KX G (by k_is)
      pK := L2.pL KX G (by k_is) (L2.jU (by k_is) (by exact Nat.le_of_ble_eq_true rfl) (.cons ⟨_, rfl⟩ (.cons ⟨_, rfl⟩ (.nil))))
      zd := L2.pL KX G (by k_is) (L2.jU (by k_is) (by exact Nat.le_of_ble_eq_true rfl) (.cons ⟨_, rfl⟩ (.cons ⟨_, rfl⟩ (.cons ⟨_, rfl⟩ (.cons ⟨_, rfl⟩ (.cons ⟨_, rfl⟩ (.cons ⟨_, rfl⟩ (.nil))))))))
      ze := L2.pL KX G (by k_is) (L2.jU (by k_is) (by exact Nat.le_of_ble_eq_true rfl) (.cons ⟨_, rfl⟩ (.cons ⟨_, rfl⟩ (.cons ⟨_, rfl⟩ (.cons ⟨_, rfl⟩ (.cons ⟨_, rfl⟩ (.nil)))))))
      tL := L2.pL KX G (by k_is) (L2.jU (by k_is) (by exact Nat.le_of_ble_eq_true rfl) (.cons ⟨_, rfl⟩ (.cons ⟨_, rfl⟩ (.cons ⟨_, rfl⟩ (.cons ⟨_, rfl⟩ (.nil))))))
      zf := L2.pL KX G (by k_is) (L2.jU (by k_is) (by exact Nat.le_of_ble_eq_true rfl) (.cons ⟨_, rfl⟩ (.cons ⟨_, rfl⟩ (.cons ⟨_, rfl⟩ (.cons ⟨_, rfl⟩ (.cons ⟨_, rfl⟩ (.cons ⟨_, rfl⟩ (.nil))))))))
      Ge := L2.bI KX G (by k_is) (by k_is) (by k_is) (by k_is)
      Gf := L2.bI KX G (by k_is) (by k_is) (by k_is) (by k_is)
      Gg := L2.bI KX G (by k_is) (by k_is) (by k_is) (by k_is)
      Gh := L2.bI KX G (by k_is) (by k_is) (by k_is) (by k_is)
      Gi := L2.bI KX G (by k_is) (by k_is) (by k_is) (by k_is)
      Gj := L2.bI KX G (by k_is) (by k_is) (by k_is) (by k_is)
      Gk := L2.bI KX G (by k_is) (by k_is) (by k_is) (by k_is)
      Gm := L2.bI KX G (by k_is) (by k_is) (by k_is) (by k_is)
      Gn := L2.bI KX G (by k_is) (by k_is) (by k_is) (by k_is)
      Go := L2.bI KX G (by k_is) (by k_is) (by k_is) (by k_is)
      Gp := L2.bI KX G (by k_is) (by k_is) (by k_is) (by k_is)
      Gq := L2.bI KX G (by k_is) (by k_is) (by k_is) (by k_is)
      Gr := L2.bI KX G (by k_is) (by k_is) (by k_is) (by k_is)
      Gs := L2.bI KX G (by k_is) (by k_is) (by k_is) (by k_is)
      Gu := L2.bI KX G (by k_is) (by k_is) (by k_is) (by k_is)
      Gv := L2.bI KX G (by k_is) (by k_is) (by k_is) (by k_is)
      Gw := L2.bI KX G (by k_is) (by k_is) (by k_is) (by k_is)
      Gx := L2.bI KX G (by k_is) (by k_is) (by k_is) (by k_is)
      Gy := L2.bI KX G (by k_is) (by k_is) (by k_is) (by k_is)
      Gz := L2.bI KX G (by k_is) (by k_is) (by k_is) (by k_is)
      GA := L2.bI KX G (by k_is) (by k_is) (by k_is) (by k_is)
      GB := L2.bI KX G (by k_is) (by k_is) (by k_is) (by k_is)
      GC := L2.bI KX G (by k_is) (by k_is) (by k_is) (by k_is)
      GD := L2.bI KX G (by k_is) (by k_is) (by k_is) (by k_is)
      GF := L2.bI KX G (by k_is) (by k_is) (by k_is) (by k_is)
      GG := L2.bI KX G (by k_is) (by k_is) (by k_is) (by k_is)
      GH := L2.bI KX G (by k_is) (by k_is) (by k_is) (by k_is)
      GJ := L2.bI KX G (by k_is) (by k_is) (by k_is) (by k_is)
      GK := L2.bI KX G (by k_is) (by k_is) (by k_is) (by k_is)
      GL := L2.bI KX G (by k_is) (by k_is) (by k_is) (by k_is)
      GN := L2.bI KX G (by k_is) (by k_is) (by k_is) (by k_is)
      GO := L2.bI KX G (by k_is) (by k_is) (by k_is) (by k_is)
      GP := L2.bI KX G (by k_is) (by k_is) (by k_is) (by k_is)
      GQ := L2.bI KX G (by k_is) (by k_is) (by k_is) (by k_is)
      GR := L2.bI KX G (by k_is) (by k_is) (by k_is) (by k_is)
      GS := L2.bI KX G (by k_is) (by k_is) (by k_is) (by k_is)
      GU := L2.bI KX G (by k_is) (by k_is) (by k_is) (by k_is)
      GV := L2.bI KX G (by k_is) (by k_is) (by k_is) (by k_is)
      GW := L2.bI KX G (by k_is) (by k_is) (by k_is) (by k_is)
      GX := L2.bI KX G (by k_is) (by k_is) (by k_is) (by k_is)
      GY := L2.bI KX G (by k_is) (by k_is) (by k_is) (by k_is)
      GZ := L2.bI KX G (by k_is) (by k_is) (by k_is) (by k_is)
      G0 := L2.bI KX G (by k_is) (by k_is) (by k_is) (by k_is)
      G3 := L2.bI KX G (by k_is) (by k_is) (by k_is) (by k_is)
      G4 := L2.bI KX G (by k_is) (by k_is) (by k_is) (by k_is)
      G5 := L2.bI KX G (by k_is) (by k_is) (by k_is) (by k_is)
      G6 := L2.bI KX G (by k_is) (by k_is) (by k_is) (by k_is)
      G7 := L2.bI KX G (by k_is) (by k_is) (by k_is) (by k_is)
      calls := ⟨_, _, _, _, _, _, _, _, _, _, _, _, _, _, _, PySem.W.mg_of KX G (by k_is), L2.jU (by k_is) (by exact Nat.le_of_ble_eq_true rfl) (.cons rfl (.cons rfl (.cons rfl (.cons rfl (.cons rfl (.cons rfl (.cons rfl (.cons rfl (.cons rfl (.cons rfl (.cons rfl (.cons rfl (.cons rfl (.cons rfl (.nil))))))))))))))), L2.gh (by k_is) (by k_is) (by k_is) (by k_is), L2.gh (by k_is) (by k_is) (by k_is) (by k_is), L2.gh (by k_is) (by k_is) (by k_is) (by k_is), L2.gh (by k_is) (by k_is) (by k_is) (by k_is), L2.gh (by k_is) (by k_is) (by k_is) (by k_is), L2.gh (by k_is) (by k_is) (by k_is) (by k_is), L2.gh (by k_is) (by k_is) (by k_is) (by k_is), L2.gh (by k_is) (by k_is) (by k_is) (by k_is), L2.gh (by k_is) (by k_is) (by k_is) (by k_is), L2.gh (by k_is) (by k_is) (by k_is) (by k_is), L2.gh (by k_is) (by k_is) (by k_is) (by k_is), L2.gh (by k_is) (by k_is) (by k_is) (by k_is), L2.gh (by k_is) (by k_is) (by k_is) (by k_is), L2.gh (by k_is) (by k_is) (by k_is) (by k_is)⟩ }
  case S =>
    intro K H xs a hO hwi hask hx
    cases hx with
    | cons h1 h2 =>
      cases h2
      cases h1 with
      | lst hs ha =>
        have e := L2.BL a.1 _ ha
        subst e
        have q : ((Codec.inLen 0 17000 a.1 && a.1.all (Codec.inInt (-1000000000000000000) 1000000000000000000)) && true) = true := hwi
        rw [Bool.and_eq_true, Bool.and_eq_true] at q
        exact ⟨_, a.1, rfl, hs, Nat.le_trans (Codec.inNat_iff.mp q.1.1).2 (by decide), hask, fun H' p hp => .lst (L2.bN.of hp) (L2.BK _)⟩
#print axioms PySem.Challenge.cw_dependrules_s01_answers_holds
