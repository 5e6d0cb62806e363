import PyProof.Rows.All
import Wide.All
import OpenK.AllK
import Wide.FinOn
import Lean
import PyProof.EqAt
import PyProof.EqKinds
import PyProof.TupleCall
import PyProof.SetNew
import PySem.Challenge.RW_leafhouse_k06_texts_with_checks_anew
set_option Elab.async false
set_option linter.all false
set_option maxRecDepth 100000
set_option maxHeartbeats 8000000
set_option autoImplicit true
set_option relaxedAutoImplicit true
set_option genSizeOf false
set_option compiler.extract_closed false
set_option bootstrap.genMatcherCode false
set_option tactic.hygienic false
noncomputable section
open PySem renaming Str->t6,Obj->tu
local macro_rules|`(tactic|let $x:ident:=$e)=>`(tactic|have $x:ident:=$e)|`(tactic|let $x:ident $t:typeSpec:=$e)=>`(tactic|have $x:ident $t:typeSpec:=$e)
abbrev lg:=List
abbrev o9:=Option
def dg:=@of_decide_eq_true
def dh:=@decide_eq_true_eq
def di:=@if_pos
def dj:=@decide_eq_true
def dm:=@if_neg
def dq:=@decide_eq_false
local macro_rules|`(tactic|rfl')=>`(tactic|kernel_rfl)
theorem zq1(h:True:=by rfl'):True:=h
theorem zq2(h:True:=by rfl):True:=h
theorem zq3(h:True:=by decide):True:=h
theorem zq4(h:True:=by intro _;rfl):True:=h
theorem zq5(h:True:=by with_unfolding_all rfl):True:=h
theorem zq6(h:True:=by decide +kernel):True:=h
def p8:Nat->Lean.Term->Array Lean.Term->Lean.MacroM Lean.Term
|0,_,_=>Lean.Macro.throwUnsupported
|n+1,s,a=>match s with
 |`($f[$x])=>p8 n f (#[x]++a)
 |_=>pure (Lean.Syntax.mkApp s a)
local macro_rules|`($f[$x])=>p8 99 f #[x]
open Unit renaming unit->u9
open Prod renaming mk->u6
def u5:Nat->Lean.Syntax->Lean.MacroM (Lean.TSyntax `rcasesPat)
|0,_=>Lean.Macro.throwUnsupported
|n+1,s=>match s with
 |`(($a,$b,*))=>do `(rcasesPat|⟨$[$(←(#[a]++b.getElems).mapM λx=>do `(Lean.Parser.Tactic.rcasesPatLo|$(←u5 n x):rcasesPat))],*⟩)
 |`(_)=>`(rcasesPat|_)
 |`($i:ident)=>`(rcasesPat|$i:ident)
 |_=>Lean.Macro.throwUnsupported
local macro_rules|`(tactic|let ($a,$b,*):=$e)=>do `(tactic|obtain $(←u5 9 (←`(($a,$b,*)))):rcasesPat :=$e)
local macro_rules|`(($a,$b,*))=>`(⟨$a,$b,*⟩)|`(())=>`(by first|decide +kernel|omega)
local macro_rules|`(def $i:declId $s:optDeclSig :=$v)=>if v.raw.isOfKind ``Lean.Parser.Term.byTactic||v.raw.isOfKind ``Lean.Parser.Term.paren then do `(theorem $i $(Lean.mkNode ``Lean.Parser.Command.declSig #[s.raw.getArg 0,(s.raw.getArg 1).getArg 0]) :=$v) else `(noncomputable def $i:declId $s:optDeclSig :=$v)
local macro_rules|`(def $i:declId $s:optDeclSig $v:declValEqns)=>`(noncomputable def $i:declId $s:optDeclSig $v:declValEqns)
open Option renaming some->sr,none->sy
open Bool renaming true->t8,false->t7
open PySem renaming wpAny_bind->aA,Value->aH,wpAny_pure->aJ,Addr->aM,Shared->aN,Program->cJ,Expr->cL,wpAny_callSpecial?_slot->dC,wpAny_call_entry->dH,Stmt->dI,wpAny_field->dM,strKind->dW,wpAny_mono->dX,World->dZ,Heap->eE,FuncData->eX,wpAny_newObj_type->eY,wpAny_holding->fB,wpAny_loadPart_at->fO,Around->fX,wpAny_setField->gA,wpAny_Call_Name_kw->gG,codeAny_call_builtin->gH,wpAny_truthy_bool->gP,wpAny_seqItems->iB,codeAny_builtin->iG,Keyword->iQ,wpAny_standAt->iR,codeAny_mono->iT,mem_of_lookup->jA,wpAny_setField_rec->jH,wpAny_passesOwn->jP,Builtin->jV,wpAny_setState_of->jX,Scope->kJ,wpAny_setEntries_of->kO,wpAny_askSetting->lE,wpAny_execs_nil->lR,NameKind->mK,wpAny_call->mO,wpAny_isInstance->mU,wpAny_attempt->nA,wpAny_ite_split->nM,tupleKind_room_in1->nO,PyData->nQ,wpAny_pyIter_list->nY,wpAny_typeOf->nZ,plainObj_wpAny_Assign_Attribute->oM,wpAny_rule->oZ,IsPair->pA,plainId_quiet->pI,wpAny_updateSeq_pair->pL,codeAny_of_tree->pP,wpAny_isSubtype_exc->pX,Paired->qK,wpAny_pyIter_tuple->qM,wpAny_fieldsOf->qU,sizeLine_eq->rJ,wpAny_sequenceKey->rO,wpAny_of_eq->rR,fits_of_scanBound->rW,wpAny_onRaise->sO,PassesOwn->sZ,IsPart->uD,codeAny_handlers_test->uV,weight_type_call_type->uW,GenState->vD,wpAny_throw->vH,IsZip->vI,isSubtype_stop->vJ,SetTable->vM,isSubtype_type->vN,wpAny_handleBy_cons->wC,wpAny_handled->wR,call_meets->wZ,Within->xQ,BindsTo->xW,wpAny_pyIter_strU->xY,wpAny_pyIter_enum->yE,wpAny_storeSet_of->yG,wpAny_pyIter_slot->yI,wpAny_setEpoch_of->yJ,ExcBaseFacts->yL,CmpOp->yM,slot_dict_getitem->yN,wpAny_execs_cons->yX,wpAny_lookBehind->yZ,pastItsLine_dict->zE,noFill_tuple_add->zF,wpAny_Try_except->zH,take_succ_filter->zK,wpAny_pyIter_zip->zO,entryFor_of_tree->zP,wpAny_letGo->zX,wpAny_updateSeq->aAg,OwnTail->aAn,wpAny_Name->aAp,wpAny_load->aAq,wpAny_loadPart->aAr,typeIs_str->aAw,typeIs_int->aAy,fitsIndex_both->aAz,call->aBb,wpAny_newTuple->aBd,entryFor_alias->aBi,wpAny_runValue->aBj,arm_exec_Raise->aBk,intBits_le_64->aBu,seq_tuple_add->aBv,call_list_seq->aBw,evalPart_none->aCa,wpAny_newList->aCd,Drawn->aCl,wpAny_nsSet1->aCr,concat_meets->aCs,seqIndex_neg->aCt,OsState->aCu,ElemsOf->aDa,sub_set_self->aDb,Operator->aDx,Walks->aFb,Meets->aFc
open Bool renaming and_eq_true->aB,and_eq_true_iff->bY,false_ne_true->cC,not_eq_true'->dF,or_eq_true->eV,true_and->jE,false_eq_true->jK,eq_false_iff->jW,or_true->lM,or_eq_true_iff->mW,not_true->pH,or_false->sU,and_true->sX,not_eq_true->tU,eq_iff_iff->uQ,false_and->vG,false_or->aCb,not_and->aDl
open List renaming length_map->aC,getElem?_eq_some_iff->aK,append_assoc->aL,prefix_refl->aP,all_eq_true->aQ,mem_singleton->aR,length_append->aU,getElem?_append_left->aX,mem_cons->aY,getElem?_eq_getElem->aZ,getElem?_append_right->bB,append_nil->bC,mem_cons_of_mem->bD,mem_cons_self->bJ,map_cons->bL,length_drop->bM,length_cons->bN,length_range->bO,mem_map->bU,map_map->bW,replicate->cA,prefix_append->cF,size_toArray->cG,getElem?_map->cH,mem_append_right->cM,all_cons->cP,not_mem_nil->cR,mem_append->cU,getElem?_set_ne->cX,getElem?_set_self->dJ,getD_eq_getElem?_getD->dN,length_take->dO,length_singleton->dU,map_append->dY,lookup_cons->eF,eq_nil_of_length_eq_zero->eN,filter_eq_self->eQ,range->eZ,length_replicate->fG,drop_eq_nil_of_le->fW,forall_mem_cons->gJ,drop_eq_getElem_cons->gO,mem_filterMap->gV,length_set->iH,getElem?_eq_none->iJ,take_of_length_le->jC,pairwise_cons->jJ,getElem?_eq_none_iff->jO,nodup_cons->jQ,mem_append_left->jR,lookup->jT,mem_of_getElem?->jU,getElem?_replicate->kZ,map_nil->lK,nil_append->lU,length_filter_le->lX,nodup_append->mG,mem_range->mJ,mem_of_mem_drop->mQ,any_cons->mZ,sum_cons->nF,length->nU,drop_zero->oJ,take_append_drop->oU,getElem_inj->oX,getElem_mem->pD,length_eraseIdx->pM,mem_filter->pN,length_nil->pO,filterMap_cons->pU,takeWhile_cons->pZ,length_eraseIdx_of_lt->qR,contains_cons->qW,not_lt->rT,ext_getElem?->rY,mem_of_mem_eraseIdx->sY,take_length->tG,pairwise_mergeSort->tK,cons_append->tO,filter_cons->tV,eraseIdx_cons_succ->tW,length_eq_zero_iff->tX,of_mem_zip->uM,forIn_cons->uO,length_zip->uT,getElem?_zipWith->uY,eraseIdx_sublist->vA,eq_nil_or_concat->vB,concat_eq_append->vC,drop_eq_nil_iff->vP,getLast?_append->vQ,mem_of_mem_take->vR,drop_drop->vU,take_left->vV,replicate_succ->wA,mergeSort_perm->wD,map_eq_nil_iff->wF,getElem_of_mem->wH,getElem?_range->wI,length_zipWith->wJ,map_congr_left->wK,length_take_le->wL,take_add->wV,mem_replicate->xM,any_eq_false->xR,zipIdx_cons->zM,any_eq_true->zT,zipIdx_nil->aAd,find?_cons->aAj,all_append->aAk,forIn_nil->aBc,nodup_nil->aBn,drop_left->aBq,findIdx?->aCf,map_drop->aCj,take_nil->aCk,all_map->aDi,map_id'->aDm,map->aEd,foldl->aEq,zip->aFo
open Nat renaming le_trans->aD,le_refl->aO,lt_of_lt_of_le->bH,ne_of_lt->cB,zero_le->cY,add_le_add_right->cZ,add_le_add_left->eU,le_of_lt->fH,lt_irrefl->fM,sub_self->fV,add_assoc->gR,lt_succ_self->gY,le_succ->gZ,mul_le_mul_right->iY,succ_le_succ->lC,le_of_eq->lG,eq_zero_or_pos->lO,ne_of_gt->nW,lt_or_ge->oF,le_add_right->pB,min_le_right->tE,succ_ne_self->tH,add_sub_cancel_left->tY,min_le_left->uR,lt_of_le_of_lt->xJ,pos_of_ne_zero->xK,sub_le->xO,lt_add_right->zR,min_eq_right->zU,min_eq_left->aAl,add_le_add->aBo,sub_zero->aDe,zero_add->aDk,mod_lt->aEv,not_lt->aEx
open PySem.W renaming Frag->aF,nsIn->bG,mg_of->bR,mg_none_of->bV,findIn->cD,hideAll->cN,keepIn->dD,fnOf->dR,hideAll_get->eO,kia_one->fZ,typeIn->iV,exmOne->iW,kitOne->kY,codeIn->lA,of_hideAll->lF,callWith_K->lH,instObj->lQ,mroIn->lW,hasDictIn->lY,emptyDict->lZ,hideAll_none->mH,callWith_K0->mX,makesIn->nG,funFrames_hide->oA,plainGet->oY,plainGet_of->pW,lookIn->qN,plainOver->rK,specialIn->rM,clsIn->sJ,isFn->uA,cellsFrom_some->uB,takerIn->uL,OpenLaw->uN,findObj_own->vY,excIn->wN,isNs_of_in->xF,tail_of_in->xG,kitx_list->xU,kitx_dict->xV,exm_one->aAb,readsIn->aAh,findCls->aAi,WalkO->aBx,Looks->aBy
open PySem.Heap renaming get?_push_of_some->aG,get?_push_size->aW,lt_size->bA,get?_update_other->bT,get?_update_self->bZ,size_push->fY,SameBut->gM,get?_none_of_le->gW,FlyingW->jB,MadeExcOf->mL,get?_update_ne->wG,NotedW->zW,ExtBut->aDv,update->aDw,HeldW->aEr
open Array renaming length_toList->aV,getElem?_eq_some_iff->fJ,getElem?_toList->iK,append_empty->nP,getElem?_setIfInBounds_ne->oO,eq_empty_of_size_eq_zero->pF,toList_append->pY,getD_eq_getD_getElem?->qI,append_assoc->qL,getElem?_eq_none_iff->qQ,getElem?_eq_getElem->rE,size_append->rZ,toList_replicate->uK,replicate->uU,size_eq_one_iff->uX,toList_push->yH,toList->aCq,getD->aEw
open Option renaming map_eq_some_iff->bF,isNone->fP,isSome_iff_exists->mY,isSome_map->rP,bind_eq_some_iff->tL,getD_none->zG,getD_some->zQ,map->aEy
open Option.some renaming inj->bK,injEq->gQ
open PySem.Value renaming ref->bQ,none->gF,builtin->iU,type->oV,isStrOf->sE,bool->tZ,isStrOf_shape->vX,int->yV,str->yW,isInt->aDo,float->aDp
open Int renaming toNat_of_nonneg->cO,toNat_natCast->dG,emod_nonneg->gK,emod_lt_of_pos->jN,zero_add->oK,fdiv_eq_ediv_of_nonneg->qX,natCast_nonneg->qY,pow_succ->uI,ediv_one->uJ,mul_ediv_add_emod->uZ,emod_eq_of_lt->yO,mul_comm->yP,pow_zero->yQ,lt_trans->yR,ne_of_gt->aDg,le_of_lt->aDh,add_mul->aEb
open PySem.Builtin.Str renaming occurrences->cQ,strSliceIndices->fC
open PySem.Obj renaming data_mapFields->cV,mapFields->gB,isFreed_of_fields->gD,cls_mapFields->mF,mapSeq->uF,putSet->aBg
open Ne renaming symm->eG
open PyProof.Rows renaming slot_tuple_getitem->fD,callWith_type1->mC,StrsAre->nJ,AllBare->qC,IntsAre->qD,subscriptTail_builtinR->uE,entry_list_sort->uP,slot_list_sort->vK,args_list_sort->vL,entry_tuple_getitem->vZ,sortedHeap_at->wU,args_tuple_getitem->wY,slice_closes_from_neg->xN,slice_closes_to_neg->yS,callWith_builtin1->zL,slice_closes_toL->zY,list_sort_treeK->aAe,IsTup->aAo,slicePart_none->aAt,tail_any->aAv,sortedHeap_old->aBe,sorted_out_str->aBf,slice_closesL->aBp,printed_star->aBt,sortedAll_old->aCc,strKind_oneLt->aCe,Constant_none->aCi,sortedAll_at->aCv,plain_sorted->aCw,entry_sorted->aCx,args_sorted1->aCy,keyKind_strs->aCz,mul_one_list->aDj
open PySem.F renaming excBase_ValueError->fK,plainAttrs_str->iC,slot_tuple_iterator_next->jG,called_set->lL,attr_ValueError->oE,typeOf_object_class->oR,args_tuple_iterator_next_1->pQ,slot_zip_next->pR,entry_tuple_iterator_next->qF,called_enumerate->qP,plain_extend_loop->rF,slot_dict_getitem->rG,args_tuple_add_2->sG,store_ValueError->sV,entry_tuple_add->tD,plain_list_iadd->tM,plainAttrs_list->tR,slot_tuple_add->uC,slot_gs_get->wQ,entry_type_call->xX,args_zip_next_1->yF,entry_zip_next->zN,slot_int_rmul->aAa,entry_bexc_ga->aAc,plain_set_new->aAf
open PySem.Txt renaming slice->fQ,stripChars->jM,mul->kW,ljustF->rA,join->aBm,rfind->aCp,find->aDy,stripBy->aEc
open PySem.NameKind renaming free->gC,cell->wO
open False renaming elim->gU
open PySem.Heap.SameBut renaming update->iD,refl->aFe
open True renaming intro->iM
open PySem.PyData renaming str->iZ,tuple->oG,strOk->oH,eqv->qZ,canLayAll0->yU,depthAll->aAm,int->aBr
open List.cons renaming inj->jD,injEq->aFl
open PySem.Calls renaming Name_function_global->jF,loadGlobal_global->nR,evalArgs_plain->pK,call_function_entry->rD,callWith_builtin->uG
open PySem.SetTable renaming below->jL,grown->lD
open PySem.Around renaming under_plainId->jY,under_plain->xH
open PySem.Builtin.Tuple renaming tupleExact->jZ,tupleItemsOf->qO,tupleIsExact->aBl
open PySem.Code renaming quiet_builtin->lJ
open PySem.SeqAt renaming shaped->lN,EqAt->aAx
open ForInStep renaming yield->lV
open PySem.Str renaming ofString->mR,empty->aFh,mk->aFn
open PySem.Builtin.Slice renaming slicePlaces->mV,sliceAdjust->rB,slicePartIndex->zZ,sliceApplied->aAu
open Sum renaming inr->pG,inl->rH
open Prod.mk renaming inj->pJ
open PySem.Builtin.List renaming listLengthHint->qG,listExtendWith->qH,listTooLong->sH,listSameRef->sS,listFitsIndex->aBa
open PyProof.Rows.KTD.Dat renaming flat->qJ
open Nat.succ renaming inj->uH
open PySem.Data renaming cell->vW,fields->zV,seq->aDu
open PySem.EntryCells renaming newEntry->wB
open PySem.Paired renaming length->wM,snoc->aDt
open PySem.SeqAt.EqAt renaming int_str->wW,str_int->wX,tuple_none->aDn,none_bool->aDq,bool_none->aDr,bool_bool->aDs,none_int->aEe,none_str->aEf,bool_int->aEg,bool_str->aEh,int_none->aEi,int_bool->aEj,str_none->aEk,str_bool->aEm,int_int->aEo,str_str->aEp,same->aFj
open PySem.AutoListH renaming list___mul___list_int_3->xP
open PySem.Heap.Ns1 renaming of_empty->xT
open PySem.WalksT renaming enumerateD->xZ
open PySem.SetTable.below renaming go->yK
open PySem.W.Looks renaming ld->zJ,here->aEn
open Prod renaming ext->aAs
open PySem.Builtin.Frozenset renaming newClass->aBh,sizeOf->aCh,slot0->aCo
open Classical renaming byContradiction->aBs
open PySem.Value.ref renaming inj->aBz
open PySem.Shared renaming TypeIs->aCg
open PySem.Builtin.Range renaming rangeSize->aCm
open PyProof.Rows.IsTup renaming new->aCn
open PySem.Manifest.Receiver renaming self->aDc,none->aDd
open PyProof.Rows.KTD renaming datLooks->aDf,datumAt->aDz,tabLook->aEa
open PySem.Heap.IsSliceOf renaming new->aEs
open List.Perm renaming cons_inv->aEt,swap->aFm
open PySem.Walks renaming list->aEu
open PySem.Within renaming cons->aEz
open List.Pairwise renaming nil->aFa
open PySem.Heap.IsTuple renaming push->aFd
open PySem.PassesOwn renaming leaving->aFf
open PySem.DictEntry renaming refKey->aFg
open PySem.IsL renaming update->aFi
open PySem.Heap.DictOf renaming new->aFk
open Int.ofNat renaming inj->aFp
namespace PySem.W.Fast
def tw16179684408279555144:=0
def tw17164379458622944013:=0
def tw5264986569960145864:=0
def tw10160786505865626568:=0
def tw17500193622591146667:=0
def tw10841244440307896528:=0
def tw23405104929461138:=0
def tw1221593463427151216:=0
def tw4423082713270172309:=0
def tw7396924957190642264:=0
def tw3278763639823254734:=0
def tw8134155730365080343:=0
def tw9206590333957091942:=0
def tw7091983177118840069:=0
def tw11552491579664244600:=0
def tw518981049194494915:=0
def tw12404338043113042621:=0
def tw3796947406174926851:=0
def tw15855048694655879024:=0
def tw11137495459193809542:=0
def tw16693250520037503873:=0
def tw14629968806160841302:=0
def tw8813779838062779263:=0
def tw15182357933090287466:=0
def tw5346609199735892918:=0
def tw16910068515826192913:=0
def tw180213918801947786:=0
def tw10288849448862545114:=0
def tw8531902526652310797:=0
def tw15500135183298774107:=0
def tw8367699629041693693:=0
def tw11104349452093202694:=0
def tw2660746992675530219:=0
def tw2023743604138076022:=0
def tw14057450022822906267:=0
def tw6716700197043293051:=0
def tw152341334408480449:=0
def tw5355756511589282065:=0
def tw16752546169859810040:=0
def tw6742588236253275540:=0
def tw12379783458933104267:=0
def tw12720563231706783640:=0
def tw13088050497960474022:=0
def tw12191410345741866466:=0
def tw11628577030972663247:=0
def tw8141619003891169577:=0
def tw5782470487411031785:=0
def tw13133449561980154192:=0
def tw1905181576295453039:=0
def tw9748895170697604746:=0
def tw7198461712830702782:=0
def tw14315880573301985517:=0
def tw2275516583889630667:=0
def tw120442449389827645:=0
def tw8573412701355874181:=0
def tw11559950670053140416:=0
def tw13573412291210643545:=0
def tw5546491279803449597:=0
def tw7932375634275933728:=0
def tw11832952523992565105:=0
def tw9264785519546394099:=0
def tw14154099135353352566:=0
def tw9510085411792580559:=0
def tw11041103733239684855:=0
def tw3223747999530767879:=0
def tw17124082088054125696:=0
def tw17610362119124953987:=0
def tw14241063718037624182:=0
def tw16510344181376524502:=0
def tw7393615092528961522:=0
def tw14483335524624035307:=0
def tw8920655189159380422:=0
def tw10220981452391142835:=0
def tw285256023195492236:=0
def tw10520395326905040770:=0
def tw15899945124971167992:=0
def tw15079014490610634890:=0
def tw11820178658767988347:=0
def tw2910563599658197357:=0
def tw9505494249845591953:=0
def tw2374212212333280986:=0
def tw5279458185665952613:=0
def tw8192590020766484424:=0
def tw18027135490579632711:=0
def tw11536724492386083289:=0
def tw1306397398953684356:=0
def tw4767379398365106612:=0
def tw15088125062615802136:=0
def tw10001350275751756926:=0
def tw7765279212590093554:=0
def tw12411509621257830315:=0
def tw18242815429704233973:=0
def tw7311109466622919381:=0
def tw14697147162750671185:=0
def tw16967895733414366482:=0
def tw6882051529676284666:=0
def tw2385448645521525473:=0
def tw5293141501077799314:=0
def tw16655544126636375206:=0
def tw16702255548210580930:=0
def tw9510385763454125932:=0
def tw7508775025667722918:=0
def tw14339330365475076817:=0
def tw2906594453941159408:=0
def tw6304029127866666316:=0
def tw18109405423968866155:=0
def tw11482940265504814301:=0
def tw17063117156545841661:=0
def tw1311489078214004858:=0
def tw2450551841197651081:=0
def tw5479439043944734950:=0
def tw9241693617914059530:=0
def tw11652177366192699441:=0
def tw8826499215450964748:=0
def tw10841065293572883992:=0
def tw15791576284325349370:=0
def tw1149567667717210858:=0
def tw15162738538739681199:=0
def tw1524843281770153830:=0
def tw10084881693854737289:=0
def tw831807332103435947:=0
def tw4919491123476057906:=0
def tw5152813282493107000:=0
def tw14667540858675317464:=0
def tw15245639329705901201:=0
def tw4556886601889453218:=0
def tw6600191329082991404:=0
def tw4218880154314030485:=0
def tw15868820264750276108:=0
def tw2713038941729075761:=0
def tw2856844000815994794:=0
def tw7304313374491767148:=0
def tw10459957686504337997:=0
def tw1349889812061858555:=0
def tw11249729653164844781:=0
def tw15319499162604619254:=0
def tw12685981856723486831:=0
def tw6545189322465547405:=0
def tw5627397851462250256:=0
def tw14831333552308171734:=0
def tw11016293240670348520:=0
def tw16171316849056402550:=0
def tw12091718937499245913:=0
def tw18263883721170941554:=0
def tw4527276701221823105:=0
def tw16659935943506760669:=0
def tw18134808910265829415:=0
def tw6343609098046725976:=0
def tw13325163371465819769:=0
def tw9557897215507600021:=0
def tw17604935082515371892:=0
def tw10691479414641503283:=0
def tw10143093096283575253:=0
def tw16427509027164628504:=0
def tw1206017735594573788:=0
def tw9707848444340183594:=0
def tw16834471063336031475:=0
def tw12269395302844285995:=0
def tw902426932973298302:=0
def tw17846049976765871987:=0
def tw13189841066483295389:=0
def tw11803050044322953058:=0
def tw10792646508412643833:=0
def tw7520654203140529124:=0
def tw11805214649401890936:=0
def tw1483769285654618256:=0
def tw12267872532554778593:=0
def tw15002290907845358629:=0
def tw13542426820104786643:=0
def tw367380456598509409:=0
def tw4645837234294724070:=0
def tw13332914580839610425:=0
def tw7266621261599360744:=0
def tw7214124801686605405:=0
def tw16863977059474607268:=0
def tw10890597980391248199:=0
def tw8313361751845700628:=0
def tw10349651985404624265:=0
def tw8241557260905441148:=0
def tw4991260881185363277:=0
def tw4467529336932766985:=0
def tw5696928215567042060:=0
def tw8251809706467860520:=0
def tw7518481555789700158:=0
def tw14655511679250606777:=0
def tw14391171296694548857:=0
def tw4709242920125646336:=0
def tw943186103127861542:=0
def tw10939630812372628859:=0
def tw50385622085937462:=0
def tw18231554966478004401:=0
def tw13682825335211371898:=0
def tw2596790477110154223:=0
def tw242443550474250665:=0
def tw4986918041441349324:=0
def tw16793267784476942070:=0
def tw531569326156905284:=0
def tw15162073855544431536:=0
def tw4418392554630930669:=0
def tw3466321922656532760:=0
def tw5334810021904312527:=0
def tw12409995325491583154:=0
def tw13935442311328467374:=0
def tw8874502724527413422:=0
def tw7606254760916650789:=0
def tw1826579309920912278:=0
def tw5725881406948975390:=0
def tw11583226210002798424:=0
def tw2791465881559277368:=0
def tw4591606026876862807:=0
def tw7827005111266295776:=0
def tw2132045250240153087:=0
def tw8207822065884014273:=0
def tw4725338780597985883:=0
def tw17362337398455234771:=0
def tw11832102265294542384:=0
def tw11460327793674756994:=0
def tw12741063219990746868:=0
def tw485959222264359698:=0
def tw16840749509123435882:=0
def tw833959366657150742:=0
def tw15589274758842189910:=0
def tw2629301185209523444:=0
def tw22435900703851559:=0
def tw12540432481737108179:=0
def tw15872717207180313892:=0
def tw10677829670315490732:=0
def tw5699862675956201941:=0
def tw12751372148938549952:=0
def tw3009379239846439495:=0
def tw9136904302554388275:=0
def tw8146568952090795851:=0
def tw13006698643925284102:=0
def tw13410497070542614751:=0
def tw1122043422079388775:=0
def tw16263994142407496383:=0
def tw7259444879492947606:=0
def tw13716401397124592362:=0
def tw5156278894558877023:=0
def tw1932167296897241745:=0
def tw17742868895653315851:=0
def tw10182417007776093959:=0
def tw1311596604615001949:=0
def tw3111888941116409800:=0
def tw2360333869290403695:=0
def tw2167707503099432047:=0
def tw16451176219515812988:=0
def tw5564480264771266017:=0
def tw14261570537805304264:=0
def tw15299031940862365889:=0
def tw3346569709070327498:=0
def tw17041332282235215610:=0
def tw1810184590100939610:=0
def tw3131923864956105418:=0
def tw10542209496983038112:=0
def tw18089067701049390297:=0
def tw10370055695076772458:=0
def tw10245460837487849356:=0
def tw168292710531963810:=0
def tw16333735564265073213:=0
def tw17556809115993099268:=0
def tw12731520990474594357:=0
def tw12698055472430106141:=0
def tw7148077019997012238:=0
def tw2384420723133265289:=0
def tw13934405905261489973:=0
def tw17233648311398281301:=0
def tw5830737511913270263:=0
def tw1220439215075008415:=0
def tw7121605777095700516:=0
def tw5590069481137768693:=0
def tw16586360610450106060:=0
def tw3731126500438595136:=0
def tw11290699190694917886:=0
def tw2193759782098244047:=0
def tw16616364907619054520:=0
def tw17073245103339188383:=0
def tw8848764475554352618:=0
def tw931403794484958175:=0
def tw15186000417052955654:=0
def tw17983010211657253305:=0
def tw9535755774608429908:=0
def tw3080363134793535886:=0
def tw12981027945024257027:=0
def tw4513154530185069659:=0
def tw15062867335968429261:=0
def tw6364131900850557649:=0
def tw14633242162031538462:=0
def tw12891694149223679754:=0
def tw15519193237848838156:=0
def tw8968756795620970765:=0
def tw7679259664279650383:=0
def tw3286944937337360279:=0
def tw13648597089232516918:=0
def tw1746171382881349134:=0
def tw3124633951835594796:=0
def tw11067728096423154406:=0
def tw12228122376741497025:=0
def tw5648319694451441632:=0
def tw10021957363329036430:=0
def tw12508392188569751152:=0
def tw11145159789618949422:=0
def tw6461161203707812896:=0
def tw13690209661843558849:=0
def tw10923270295686065483:=0
def tw9851490265285822745:=0
def tw13699473074514103243:=0
def tw14828422067307218819:=0
def tw6802144682802529704:=0
def tw11036756743112041883:=0
def tw14351904144910349196:=0
def tw9160873830849274433:=0
def tw10293521627838273891:=0
def tw7634342507363467917:=0
def tw4737860482240037697:=0
def tw8330314059740646823:=0
def tw18095017473211239690:=0
def tw1280377738153884262:=0
def tw14602865564296491781:=0
def tw17512124399934209763:=0
def tw8705021595693957782:=0
def tw1945968090855736000:=0
def tw14184246188479848897:=0
def tw17377212885419989905:=0
def tw707704593997565405:=0
def tw12409925536226995947:=0
def tw11713229316924111515:=0
def tw12806802665647591791:=0
def tw16664411659214761501:=0
def tw2124362212201148647:=0
def tw4900992373215860704:=0
def tw6240345276535416769:=0
def tw7669709268774408319:=0
def tw15122442262219645131:=0
def tw2269796634013714271:=0
def tw13940343410494236027:=0
def tw5869609004800049128:=0
def tw2842213174623609032:=0
def tw10950627580861398493:=0
def tw12971487826081005819:=0
def tw3593406159183130387:=0
def tw12936891372836587905:=0
def tw15220173893536220575:=0
def tw17801393766131461081:=0
def tw11832009143576041816:=0
def tw202746934969787940:=0
def tw14103353346833657406:=0
def tw13254678930134785072:=0
def tw13574771759269101402:=0
def tw16508055678290474337:=0
def tw3878628560523621241:=0
def tw11009182496776544990:=0
def tw16993761068113699881:=0
def tw11010703005358329741:=0
def tw7297778001528675581:=0
def tw13951178418285680000:=0
def tw3558263575325208588:=0
def tw15513837273314134648:=0
def tw14466681634149538621:=0
def tw11818140678594933191:=0
def tw11080312343884969720:=0
def tw1339318520731390725:=0
def tw6474127276480931642:=0
def tw16526832059735163758:=0
def tw13821369410920120574:=0
def tw6100853218139337705:=0
def tw16693031815641155269:=0
def tw7171666566852482129:=0
def tw2515493683088809316:=0
def tw14652917858702877357:=0
end PySem.W.Fast
namespace L2
open PySem PySem.Spec PyProof.Rows
abbrev Key:=Sum Int t6
def Aaf:Key->aH->Bool
 |.inl k,v=>aDo k v
 |.inr x,v=>sE x v
def Boh(w:dZ):Key->Int
 |.inl k=>hashInt k
 |.inr x=>hashStr w x
theorem Er:∀{k:Key} {v:aH},Aaf k v=t8->(∃i t,k=rH i/\v=yV i t)\/(∃x t,k=pG x/\v=yW x t)
 |.inl i,v,h=>by
  let(t,e):=Value.isInt_shape h;exact .inl (i,t,rfl,e)
 |.inr x,v,h=>by
  let(t,e):=vX h;exact .inr (x,t,rfl,e)
def Au3(i:Int)(t:Tok):Aaf[.inl i][.int i t]=t8:=by simp[Aaf,aDo]
def Au4(x:t6)(t:Tok):Aaf[.inr x][.str x t]=t8:=by simp[Aaf,sE]
def Bhg(a b:Int):decide[(rH a:Key)=rH b]=(a==b):=by
 by_cases e:a=b
 .simp_all
 simp_all
def Bhh(a b:t6):decide[(pG a:Key)=pG b]=decide[a=b]:=by simp
def Bhi(a:Int)(b:t6):decide[(rH a:Key)=pG b]=t7:=rfl
def Bhj(a:t6)(b:Int):decide[(pG a:Key)=rH b]=t7:=rfl
def Ia(prog:cJ)(w:dZ):PySem.KeyKind prog w Key where
 is:=Aaf
 hash:=Boh w
 inj:=λv a b ha hb=>by
  rcases Er ha with ⟨i,t,rfl,rfl⟩|⟨x,t,rfl,rfl⟩
  .rcases Er hb with ⟨j,u,rfl,e⟩|⟨y,u,rfl,e⟩
   .injection e with e1 _;rw[e1]
   .exact nomatch e
  .rcases Er hb with ⟨j,u,rfl,e⟩|⟨y,u,rfl,e⟩
   .exact nomatch e
   .injection e with e1 _;rw[e1]
 byValue:=λk v h=>by
  rcases Er h with ⟨i,t,rfl,rfl⟩|⟨x,t,rfl,rfl⟩ <;> rfl
 pyHash:=λhv h=>by
  rcases Er hv with ⟨i,t,rfl,rfl⟩|⟨x,t,rfl,rfl⟩
  .exact wpAny_pyHash_int h
  .exact wpAny_pyHash_str h
 eqBool:=λhu hv h=>by
  rcases Er hu with ⟨i,t,rfl,rfl⟩|⟨x,t,rfl,rfl⟩
  .rcases Er hv with ⟨j,u,rfl,rfl⟩|⟨y,u,rfl,rfl⟩
   .rw[Bhg] at h;exact wpAny_eqBool_int h
   .rw[Bhi] at h;exact wW i t y u _ _ _ _ h
  .rcases Er hv with ⟨j,u,rfl,rfl⟩|⟨y,u,rfl,rfl⟩
   .rw[Bhj] at h;exact wX x t j u _ _ _ _ h
   .rw[Bhh] at h;exact wpAny_eqBool_str h
 «strs»:=λk x t v h=>by
  rcases Er h with ⟨i,u,rfl,e⟩|⟨y,u,rfl,e⟩
  .exact nomatch e
  .injection e with e1 _
   subst e1;cases v <;> rfl
inductive V where
 |non|bl (b:Bool)|int (i:Int)|str (x:t6)|byt (b:Array UInt8)|flt (b:UInt64)|ref (a:aM)|ty (n:String)
 deriving DecidableEq
def RelV:V->aH->Prop
 |.non,u=>u=gF
 |.bl b,u=>u=tZ b
 |.int i,u=>∃t,u=yV i t
 |.str x,u=>∃t,u=yW x t
 |.byt b,u=>∃t,u=Value.bytes b t
 |.flt b,u=>∃t,u=aDp b t
 |.ref a,u=>u=bQ a
 |.ty n,u=>u=oV n
abbrev Vals:lg V->lg aH->Prop:=qK RelV
def Vals.length{xs:lg V}{us:lg aH}(r:Vals xs us):xs.length=us.length:=wM r
theorem Vals.get:∀{b:lg V} {c:lg aH} {i:Nat} {x:V},Vals b c->b[i]?=sr x->∃u,c[i]?=sr u/\RelV x u
 |_,_,_,_,.nil,e=>by trivial
 |_,_,0,_,.cons r _,e=>by simp at e;subst e;exact(_,rfl,r)
 |_,_,i+1,x,.cons _ t,e=>by
  let(u,g,d):=Vals.get t (by trivial)
  exact(u,by trivial,d)
theorem Vals.set(r:RelV x u):∀{b:lg V} {c:lg aH} (i:Nat),Vals b c->Vals (b.set i x) (c.set i u)
 |_,_,_,.nil=>.nil
 |_,_,0,.cons _ t=>.cons r t
 |_,_,i+1,.cons q t=>.cons q (Vals.set r i t)
theorem Vals.append:∀{c b:lg V} {e d:lg aH},Vals c e->Vals b d->Vals (c ++ b) (e ++ d)
 |_,_,_,_,.nil,s=>s
 |_,_,_,_,.cons r t,s=>.cons r (Vals.append t s)
theorem Vals.take:∀{b:lg V} {c:lg aH} (n:Nat),Vals b c->Vals b.take[n] c.take[n]
 |_,_,0,_=>.nil
 |_,_,_+1,.nil=>.nil
 |_,_,n+1,.cons r t=>.cons r (Vals.take n t)
theorem Vals.drop:∀{b:lg V} {c:lg aH} (n:Nat),Vals b c->Vals b.drop[n] c.drop[n]
 |_,_,0,r=>r
 |_,_,_+1,.nil=>.nil
 |_,_,n+1,.cons _ t=>Vals.drop n t
def W5:o9 V->o9 aH->Prop
 |some v,sr u=>RelV v u
 |none,sy=>True
 |_,_=>False
def KV{κ:Type}:lg[κ×V]->lg[κ×aH]->Prop:=qK λ(p:κ×V) (q:κ×aH)=>p.1=q.1/\RelV p.2 q.2
def kV:Key->V
 |.inl i=>.int i
 |.inr x=>.str x
inductive HO where
 |lst (xs:List V)
 |tup (xs:List V)
 |dK (kvs:List (Key×V))|dT (kvs:List (List Key×V))
 |set (S:Int->Bool) (n:Nat)
 |ins (C dx:aM) (fs:List (t6×V))
 |own (x:aM)
 |xd (fs:List (t6×V))
 |met (f x:aM)
 |rng (lo hi:Int)
 |frz (o:tu) (u:HO)
 |tbl (ps:Array aH)
 |ext (φ:eE->Prop)
abbrev Hp:=aM->o9 HO
def upd(H:Hp)(a:aM)(o:HO):Hp:=λb=>if b=a then sr o else H b
def Bd:upd H a o a=sr o:=by unfold upd;simp
def Ax(h:b≠a):upd H a o b=H b:=by unfold upd;simp_all
def Bch:upd (upd H a o) a u=upd H a u:=by
 unfold upd;simp_all
def Ca{H:Hp}{a b:aM}{o:HO}(h:H a=sr o)(c:H b=sy):a≠b:=by
 intro e;simp_all
section
variable(P:cJ)(w:dZ)
def Eh(H:Hp)(h:eE)(a:aM):HO->Prop
 |.lst xs=>xs.length<=sizeLine/\∃(its:lg aH)(n:Nat),Vals xs its/\h.get? a=sr { cls:=.type "list",data:=.seq its.toArray n }
 |.tup xs=>xs.length<=sizeLine/\∃its:lg aH,Vals xs its/\aAo h a its.toArray
 |.dK kvs=>kvs.length<=sizeLine/\(a==sysModules)=t7/\∃vs,KV kvs vs/\h.DictOf (Ia P w) a vs
 |.dT kvs=>kvs.length<=sizeLine/\(a==sysModules)=t7/\∃xs:lg[lg Key×aM×aH],
   qK (λ(p:lg Key×V) (q:lg Key×aM×aH)=>p.1=q.1/\H q.2.1=sr .tup[p.1.map[kV]]/\RelV p.2 q.2.2) kvs xs/\
   ∃o es ep,h.get? a=sr o/\o.ExactDict/\o.data=.dict es ep/\es.toList=xs.map entryOfKey[tupleKind[Ia P w]]/\(xs.map (·.1)).Nodup
 |.set S n=>h.SetOf (intKind P w) a S n
 |.ins C dx fs=>H dx=sr .own[a]/\fs.length<=1000/\dx≠a/\h.get? a=sr[lQ C dx]/\
   ∃mA,h.Ns1 dx mA/\(∀f,W5 fs.lookup[f] mA[f])/\xQ mA (fs.map (·.1))
 |.own _=>∃o,h.get? a=sr o
 |.xd fs=>∃mA,h.Ns1 a mA/\∀f,W5 fs.lookup[f] mA[f]
 |.rng lo hi=>∃t u v,h.get? a=sr { cls:=.type "range",data:=.fields #[.int lo t,.int hi u,.int 1 v] }
 |.frz o u=>h.get? a=sr o/\Eh H h a u
 |.tbl ps=>h.get? a=sr { cls:=.none,data:=.fields ps }
 |.met f x=>h.get? a=sr (PySem.W.methodObj .ref[f] .ref[x])
 |.ext φ=>φ h/\(∃o,h.get? a=sr o)/\∀h1 h2:eE,φ h1->(∀o,h1.get? a=sr o->h2.get? a=sr o)->φ h2
def HOk(H:Hp)(h:eE):Prop:=∀a o,H a=sr o->Eh P w H h a o
end
section
def Eh.lt(x:Eh P w H h a o):a < h.objs.size:=by
 cases o with
 |lst c=>let(_,_,_,_,e):=x;exact bA e
 |tup c=>let(_,_,_,p):=x;exact p.lt
 |dK b=>let(_,_,_,_,o,_,_,e,_):=x;exact bA e
 |dT b=>let(_,_,_,_,o,_,_,e,_):=x;exact bA e
 |set S n=>let(o,_,_,_,e,_):=x;exact bA e
 |ins C g fs=>let(_,_,_,e,_):=x;exact bA e
 |own y=>let(_,e):=x;exact bA e
 |xd fs=>let(_,(_,_,_,e,_),_):=x;exact bA e
 |rng lo hi=>let(_,_,_,e):=x;exact bA e
 |frz ob u=>let(e,_):=x;exact bA e
 |tbl ps=>exact bA (x)
 |met f y=>exact bA (x)
 |ext d=>let(_,(_,e),_):=x;exact bA e
theorem Paired.mapP{h g:Type}{F G:h->g->Prop}:∀{d:lg h} {c:lg g},qK F d c->(∀a b,F a b->G a b)->qK G d c
 |_,_,.nil,_=>.nil
 |_,_,.cons r t,f=>.cons[f _ _ r][Paired.mapP t f]
def Eh.stay(x:Eh P w H h a o)(k:∀b u,(b=a\/H b=sr .own[a])->h.get? b=sr u->I.get? b=sr u)(G:∀b,H b=sr .own[a]->H' b=sr .own[a])(F:∀b l,H b=sr .tup[l]->H' b=sr .tup[l]):Eh P w H' I a o:=by
 induction o with
 |lst l=>let(z,j,n,r,e):=x;exact(z,j,n,r,k _ _ .inl[rfl] e)
 |tup l=>let(z,j,r,ob,e,c):=x;exact(z,j,r,ob,k _ _ .inl[rfl] e,c)
 |dK A=>let(z,y,D,r,ob,g,i,e,c):=x;exact(z,y,D,r,ob,g,i,k _ _ .inl[rfl] e,c)
 |dT A=>
  let(z,y,l,r,ob,g,i,e,c):=x;exact(z,y,l,Paired.mapP r λp q z=>(z.1,F _ _ z.2.1,z.2.2),ob,g,i,k _ _ .inl[rfl] e,c)
 |set S n=>let(ob,g,i,t,e,c):=x;exact(ob,g,i,t,k _ _ .inl[rfl] e,c)
 |ins C N fs=>
  let(d,z,ne,e,s,(m,g,i,J,c),r):=x;exact(G _ d,z,ne,k _ _ .inl[rfl] e,s,(m,g,i,k _ _ .inr[d] J,c),r)
 |own y=>let(ob,e):=x;exact(ob,k _ _ .inl[rfl] e)
 |xd fs=>let(s,(m,g,i,e,c),r):=x;exact(s,(m,g,i,k _ _ .inl[rfl] e,c),r)
 |rng lo hi=>let(t,u,v,e):=x;exact(t,u,v,k _ _ .inl[rfl] e)
 |frz ob u E=>let(e,q):=x;exact(k _ _ .inl[rfl] e,E q)
 |tbl ps=>
  let e:=x;exact k a _ .inl[rfl] e
 |met f y=>
  let e:=x;exact k a _ .inl[rfl] e
 |ext L=>let(p,(o,e),st):=x;exact(st _ _ p λo q=>k _ _ .inl[rfl] q,(o,k _ _ .inl[rfl] e),st)
def HOk.lt(x:HOk P w H h)(e:H a=sr o):a < h.objs.size:=(x a o e).lt
def HOk.fresh(x:HOk P w H h)(e:h.objs.size<=a):H a=sy:=by
 cases q:H a with
 |none=>rfl
 |some u=>exact absurd[bH x.lt[q] e][fM _]
def HOk.kept(x:HOk P w H h)(k:∀b u,h.get? b=sr u->d.get? b=sr u):HOk P w H d:=(λa o e=>
 (x a o e).stay (λb u c q=>k b u q) (λc q=>q) λc c q=>q)
def HOk.laid(x:HOk P w H h)(k:∀b u,h.get? b=sr u->g.get? b=sr u)(hp:h.objs.size<=a)(new:Eh P w (upd H a o) g a o):HOk P w (upd H a o) g:=(λb u e=>by
 let d:=x.fresh hp;by_cases f:b=a
 .subst f;rw[Bd] at e;simp_all
 .rw[Ax f] at e;exact(x b u e).stay (λc v j q=>k c v q) (λc q=>by rw[Ax[Ca q d]];omega) λc i q=>by rw[Ax[Ca q d]];omega)
end
def Rd(H:Hp)(a:aM)(u:HO):Prop:=H a=sr u\/∃o,H a=sr[.frz o u]
def Rd.of(h:H a=sr u):Rd H a u:=.inl h
def Rd.ok(r:Rd H a u)(x:HOk P w H h):Eh P w H h a u:=by
 rcases r with r|⟨o,r⟩
 .exact x a u r
 .let(_,q):=x a _ r;omega
def Mut:o9 HO->Prop
 |some (.lst _)=>True
 |some (.dK _)=>True
 |some (.dT _)=>True
 |some (.set _ _)=>True
 |some (.ins _ _ _)=>True
 |some (.ext _)=>True
 |_=>False
section
def HOk.write(ok:HOk P w H h)(i:Mut H[x])(s:e=x\/H e=sr .own[x])(k:∀b u,b≠e->h.get? b=sr u->m.get? b=sr u)(j:∃u,m.get? e=sr u)(new:Eh P w (upd H x o) m x o):HOk P w (upd H x o) m:=(λb u q=>by
 let f:∀c y,H c=sr .own[y]->c≠x:=λc y r z=>by subst z;rw[r] at i;exact i
 let d:∀c g,H c=sr .tup[g]->c≠x:=λc g r z=>by subst z;rw[r] at i;exact i
 by_cases l:b=x
 .subst l;rw[Bd] at q;simp_all
 .rw[Ax l] at q;by_cases a:b=e
  .let n:H b=sr .own[x]:=by
    rcases s with z|z
    .exact absurd a.trans[z] l
    .rw[a];exact z
   rw[q] at n;cases n;let(v,p):=j;exact(v,by rw[a];exact p)
  .refine(ok b u q).stay (λc v t r=>k c v ?_ r) (λc r=>by rw[Ax[f c b r]];exact r) λc g r=>by rw[Ax[d c g r]];exact r
   grind)
end
structure Un(fs ex:List aM)(H H':Hp)(h h':eE):Prop where
 keep:∀b o,h.get? b=sr o->H b=sy->b∉fs->b∉ex->h'.get? b=sr o
 slot:∀b o,h.get? b=sr o->H b=sy->b∈fs->b∉ex->∃sl,h'.get? b=sr { o with slots:=sl }
 free:∀b o,h.get? b=sr o->H b=sy->b∉ex->H' b=sy
 there:∀b o,h.get? b=sr o->b∉ex->∃o',h'.get? b=sr o'
 tups:∀b xs,H b=sr (.tup xs)->H' b=sr (.tup xs)
 frzs:∀b o u,H b=sr (.frz o u)->H' b=sr (.frz o u)
 tbls:∀b ps,H b=sr (.tbl ps)->∃more,H' b=sr (.tbl (ps ++ more))
section
def Un.any(u:Un fs ex H H1 h e)(q:h.get? b=sr ob)(n:H b=sy)(a:b∉ex):∃d,e.get? b=sr { ob with slots:=d }:=by
 by_cases c:b∈fs
 .exact u.slot b ob q n c a
 .exact(ob.slots,u.keep b ob q n c a)
def Un.kept(k:∀b u,h.get? b=sr u->c.get? b=sr u):Un fs ex H H h c:=(
 (λb ob q a a a=>k b ob q,λb ob q a a a=>(ob.slots,k b ob q),λa a a n a=>n,λb ob q a=>(ob,k b ob q),λa a q=>q,λa a a q=>q,λa ps q=>(#[],by trivial)))
def Un.refl:Un fs ex H H h h:=Un.kept λuu uu q=>q
theorem Un.laid(k:∀b u,h.get? b=sr u->f.get? b=sr u)(hp:h.objs.size<=a)(d:H a=sy):Un fs ex H (upd H a o) h f where
 keep:=λb u q c c c=>k b u q
 slot:=λb u q c c c=>(u.slots,k b u q)
 free:=λb u q n c=>by rw[Ax cB[bH bA[q] hp]];exact n
 there:=λb u q c=>(u,k b u q)
 tups:=λb e q=>by rw[Ax[Ca q d]];exact q
 frzs:=λb u e q=>by rw[Ax[Ca q d]];exact q
 tbls:=λb ps q=>(#[],by rw[Ax[Ca q d],q];simp)
def Un.write(f:Mut H[x])(r:e=x\/H e=sr .own[x])(k:∀b u,b≠e->h.get? b=sr u->i.get? b=sr u)(m:∃u,i.get? e=sr u):Un fs ex H (upd H x o) h i:=by
 let l:∀b,H b=sy->b≠x:=λb n z=>by subst z;rw[n] at f;exact f
 let g:∀b,H b=sy->b≠e:=λb n z=>by
  simp_all
 let c:∀b u,H b=sr u->¬ Mut sr[u]->b≠x:=λb u q p z=>by simp_all
 refine(λb u q n a a=>k b u (g b n) q,λb u q n a a=>(u.slots,k b u (g b n) q),λb u q n a=>by rw[Ax[l b n]];exact n,λb u q a=>?_,
  λb j q=>by rw[Ax[c b _ q λz=>z]];exact q,λb u j q=>by rw[Ax[c b _ q λz=>z]];exact q,λb ps q=>(#[],by rw[Ax[c b _ q λz=>z],q];simp))
 by_cases d:b=e
 .simp_all
 .exact(u,k b u d q)
end
def trk(h:eE)(H:Hp):lg aM:=(eZ h.objs.size).filter λa=>(H a).isSome
def Am7(h:eE)(H:Hp):eE:=cN h (trk h H)
def Axm(e:h.get? b=sr o)(n:H b=sy):(Am7 h H).get? b=sr o:=(
 eO _ e λa=>by
  let q:=(pN.mp a).2;simp_all)
def Bci(e:(Am7 h H).get? b=sr o):h.get? b=sr o/\H b=sy:=by
 let a:=lF _ e;refine(a,?_);cases q:H b with
 |none=>rfl
 |some x=>
  let z:(Am7 h H).get? b=sy:=mH _ (pN.mpr (mJ.mpr bA[a],by simp[q]))
  simp_all
def Bcj(g h:eE)(L:aM):lg[aM×tu]:=(eZ h.objs.size).filterMap λa=>if a=L\/(g.get? a).isSome=t8 then sy else (h.get? a).map λo=>(u6 a o)
def rest(g h:eE)(L d:aM):lg[aM×tu]:=(Bcj g h L).filter λp=>decide[p.1≠d]
structure Mod(K:aF)(mg:t6->Option aH)(base:eE):Prop where
 kin:K.In base
 glob:base.Ns mainGlobals mg
 blt:∃mb,base.Ns builtinsNs mb/\∀x:t6,x≠"__name__"->mb x=bootBuiltins x
 nolimit:base.NoLimit
structure Cx where
 prog:cJ
 w:dZ
 K:aF
 mg:t6->Option aH
 base:eE
 A:fX
 N:List t6
 s₀:aN
 H₀:Hp
 env:Env
 outer:List Env
 stack:List Env
 ex:List aM
 fn:t6->Bool
 calm:Bool
 pn:List (aM×tu)
 xe:aH->aN->Prop
def frs(l:lg Env):lg aM:=l.filterMap (·.frame)
abbrev Cx.fs(X:Cx):lg aM:=frs X.outer
def Vis(sc:kJ)(x:t6):Prop:=sc.names.lookup x=sr .local\/sc.names.lookup x=sr .cell\/sc.names.lookup x=sr .free
def Loc(sc:kJ)(x:t6):Prop:=sc.names.lookup x=sr .local\/sc.names.lookup x=sr .cell
def Look(env:Env)(h:eE)(m:t6->o9 aH)(x:t6)(u:aH):Prop:=
 (env.kindOf x=sr .local/\m x=sr u)\/((env.kindOf x=sr .cell\/env.kindOf x=sr .free)/\∃c,env.cells.lookup x=sr c/\h.IsCell c sr[u])
structure Cx.Ok(X:Cx):Prop where
 mod:Mod X.K X.mg X.base
 kind:X.env.scope.kind=.function
 glob:X.env.globals=mainGlobals
 blt:X.env.builtins=builtinsNs
 above:X.s₀.heap.objs.size<=X.env.locals
 inj:∀x y c,X.env.cells.lookup x=sr c->X.env.cells.lookup y=sr c->x=y
 has:∀x,(X.env.kindOf x=sr .cell\/X.env.kindOf x=sr .free)->∃c,X.env.cells.lookup x=sr c
 cab:∀x c,X.fn x=t8->X.env.cells.lookup x=sr c->X.s₀.heap.objs.size<=c
 hd:X.calm=t8->X.A.handled=sy
 frames:X.A.frames=sr X.stack
 stk:X.stack=X.outer\/(X.stack=X.env::X.outer/\X.env.frame=sr X.env.locals)
 exf:∀b∈X.ex,b≠X.env.locals/\∀x c,X.env.cells.lookup x=sr c->c≠b
 bs:∀b o,X.base.get? b=sr o->X.s₀.heap.get? b=sr o/\X.H₀ b=sy
 bsz:X.base.objs.size<=X.s₀.heap.objs.size
 noex:∀b o,X.base.get? b=sr o->b∉X.ex
 exfs:∀b∈X.ex,b∉X.fs
 funs:X.s₀.heap.FunFrames X.base X.outer
 frf:∀b∈X.fs,X.H₀ b=sy
structure Inv(X:Cx)(aa:List (aM×tu))(σ:List (Option V))(H:Hp)(s:aN):Prop where
 ok:X.Ok
 os:s.os=X.s₀.os
 bare:qC s.gens
 base:Un X.fs X.ex X.H₀ H X.s₀.heap s.heap
 loc:∃m,s.heap.Ns X.env.locals m/\∀(i:Nat)(x:t6)(v:V),X.N[i]?=sr x->σ[i]?=sr (sr v)->Vis X.env.scope x->∃u,RelV v u/\Look X.env s.heap m x u
 cell:∀x c,X.env.cells.lookup x=sr c->∃v,s.heap.IsCell c v
 free:H X.env.locals=sy
 freeC:∀x c,X.env.cells.lookup x=sr c->H c=sy
 pin:∀p∈X.pn ++ aa,s.heap.get? p.1=sr p.2/\H p.1=sy/\p.1≠X.env.locals/\p.1∉X.fs/\∀v,p.2.data≠.cell v
 hok:HOk X.prog X.w H s.heap
 len:σ.length=X.N.length
section
def Inv.bs(I:Inv X d c H s):∀b o,X.base.get? b=sr o->s.heap.get? b=sr o/\H b=sy:=(λb o e=>
 (I.base.keep b o (I.ok.bs b o e).1 (I.ok.bs b o e).2 (by
   intro a;have:=(I.ok.funs.mem a).1;rw[e] at this;cases this) (I.ok.noex b o e),I.base.free b o (I.ok.bs b o e).1 (I.ok.bs b o e).2 (I.ok.noex b o e)))
def Inv.bk(I:Inv X aa σ H s):∀b o,X.base.get? b=sr o->s.heap.get? b=sr o:=λb o e=>(I.bs b o e).1
def Inv.mod(I:Inv X aa σ H s):Mod X.K X.mg X.base:=I.ok.mod
def Inv.kIn(I:Inv X aa σ H s):X.K.In s.heap:=I.ok.mod.kin.keeps I.bk
def Inv.lt(I:Inv X c b H s):X.env.locals < s.heap.objs.size:=(let ⟨_,a,_⟩:=I.loc;a.lt)
def Inv.sz(I:Inv X aa σ H s):X.s₀.heap.objs.size<=s.heap.objs.size:=aD I.ok.above fH[I.lt]
def Inv.nofs(I:Inv X e d H s)(h:s.heap.objs.size<=a):a∉X.fs:=(λc=>by
 let(_,o,b,_):=I.ok.funs.mem c;exact absurd bH[bA b][aD I.sz h] fM[_])
def Inv.cne(I:Inv X j d H s):∀x c,X.env.cells.lookup x=sr c->c≠X.env.locals:=(λx c e z=>by
 let(v,o,g,hd):=I.cell x c e;let(m,(f,h,i,a,b,_),_):=I.loc
 grind)
def Inv.funs(I:Inv X q m H s):s.heap.FunFrames X.base X.outer:=by
 let all:∀(l:_),(∀b∈frs l,b∈X.fs)->X.s₀.heap.FunFrames X.base l->s.heap.FunFrames X.base l:=by
  intro l;induction l with
  |nil=>intro _ _;trivial
  |cons env r f=>
   intro d j;let(k,(L,o,hf,i,h,hd),g):=j;let c:=d L (by unfold frs;rw[pU,hf];exact bJ)
   let(p,e):=I.base.slot L o h (I.ok.frf L c) c λz=>I.ok.exfs L z c
   exact(k,(L,_,hf,i,e,hd),f (λb a=>d b (by unfold frs;rw[pU,hf];exact bD _ a)) g)
 exact all X.outer (λn a=>a) I.ok.funs
def Inv.stack(I:Inv X c b H s):s.heap.FunFrames X.base X.stack:=by
 rcases I.ok.stk with e|⟨e,hf⟩
 .rw[e];exact I.funs
 .rw[e];let(m,a,_):=I.loc;exact .cons (by rw[I.ok.kind];simp) hf a gW[aD I.ok.bsz I.ok.above] I.funs
def Inv.stkSub(I:Inv X d c H s):∀b∈frs X.stack,b∈X.env.locals::X.fs:=(λb a=>by
 rcases I.ok.stk with e|⟨e,hf⟩
 .rw[e] at a;exact bD _ a
 .rw[e] at a;unfold frs at a;rw[pU,hf] at a;trivial)
def Inv.stkFree(I:Inv X d c H s):∀b∈frs X.stack,H b=sy:=(λb hb=>by
 rcases aY.mp[I.stkSub b hb] with e|hb
 .rw[e];exact I.free
 .let(_,o,a,_):=I.ok.funs.mem hb;exact I.base.free b o a (I.ok.frf b hb) λz=>I.ok.exfs b z hb)
def Inv.step{g':Array vD}{t':Nat}{d':aCl}{ch:lg aM}(I:Inv X N P H s)(g:∀b∈ch,(b∈X.ex\/X.s₀.heap.objs.size<=b)/\b≠X.env.locals/\(∀x c,X.env.cells.lookup x=sr c->c≠b)/\∀p∈X.pn ++ N,p.1≠b)(keep:∀b o,b≠X.env.locals->b∉X.fs->b∉ch->s.heap.get? b=sr o->H b=sy->h'.get? b=sr o)(slot:∀b o,b≠X.env.locals->b∈X.fs->b∉ch->s.heap.get? b=sr o->H b=sy->∃G,h'.get? b=sr { o with slots:=G })(free:∀b o,b∉ch->s.heap.get? b=sr o->H b=sy->H' b=sy)(there:∀b o,b∉ch->s.heap.get? b=sr o->∃B,h'.get? b=sr B)(tups:∀b t,H b=sr .tup[t]->H' b=sr .tup[t])(frzs:∀b o u,H b=sr[.frz o u]->H' b=sr[.frz o u])(tbls:∀b ps,H b=sr .tbl[ps]->∃more,H' b=sr .tbl[ps ++ more])(ns:∀m,s.heap.Ns X.env.locals m->h'.Ns X.env.locals m)(hok:HOk X.prog X.w H' h')(Z:qC g'):
  Inv X N P H' { s with heap:=h',gens:=g',drawn:=d',toks:=t' }:=by
 let C:∀b o,X.s₀.heap.get? b=sr o->b≠X.env.locals:=λb o e=>cB[bH bA[e] I.ok.above];let h:∀b o,X.s₀.heap.get? b=sr o->b∉X.ex->b∉ch:=λb o e a y=>by
  rcases(g b y).1 with z|z
  .exact a z
  .exact absurd[bH bA[e] z][fM _]
 let cellK:∀x c,X.env.cells.lookup x=sr c->∀v,s.heap.IsCell c v->h'.IsCell c v:=λx c e v Q=>by
  let(o,A,hd):=Q;let f:c∉ch:=λz=>(g c z).2.2.1 x c e rfl;by_cases L:c∈X.fs
  .let(G,q):=slot c o (I.cne x c e) L f A (I.freeC x c e);exact(_,q,hd)
  .exact(o,keep c o (I.cne x c e) L f A (I.freeC x c e),hd)
 refine(I.ok,I.os,Z,(λb o e n y a=>?_,λb o e n y a=>?_,λb o e n a=>?_,λb o e a=>?_,λb t e=>tups b t (I.base.tups b t e),λb o t e=>frzs b o t (I.base.frzs b o t e),λb ps e=>?_),?_,λx c e=>?_,?_,λx c e=>?_,λp hp=>?_,hok,I.len)
 .exact keep[b][o][C b o e][y][h b o e a][I.base.keep b o e n y a][I.base.free b o e n a]
 .let(G,j):=I.base.slot b o e n y a;let(F,D):=slot b _ (C b o e) y (h b o e a) j (I.base.free b o e n a);exact(F,D)
 .let(B,j):=I.base.there b o e a;exact free b B (h b o e a) j (I.base.free b o e n a)
 .let(B,j):=I.base.there b o e a;exact there b B (h b o e a) j
 .let(T,j):=I.base.tbls b ps e;let(S,D):=tbls b _ j;exact(T ++ S,by rw[D,qL])
 .let(m,U,Y):=I.loc;refine(m,ns m U,λi x v j D e3=>?_);let(u,r,l):=Y i x v j D e3;refine(u,r,?_);rcases l with l|⟨k,c,e,z⟩
  .exact .inl l
  .exact .inr (k,c,e,cellK x c e _ z)
 .let(v,z):=I.cell x c e;exact(v,cellK x c e v z)
 .let(m,(o,_,_,A,_),_):=I.loc;exact free _ o (λz=>(g _ z).2.1 rfl) A I.free
 .let(v,o,A,hd):=I.cell x c e;exact free c o (λz=>(g c z).2.2.1 x c e rfl) A (I.freeC x c e)
 .let(e,n,ne,J,d):=I.pin p hp;let f:p.1∉ch:=λz=>(g p.1 z).2.2.2 p hp rfl;exact(keep p.1 p.2 ne J f e n,free p.1 p.2 f e n,ne,J,d)
def Inv.un{l:Nat}(I:Inv X v k H s)(u:Un X.fs [] H H' s.heap i)(hok:HOk X.prog X.w H' i):Inv X v k H' { s with heap:=i,toks:=l }:=by
 let(m,(o,C,D,h,r),_):=id I.loc;let(y,t):=u.any h I.free (by simp)
 exact I.step (ch:=[]) (λa z=>nomatch z) (λb o a d a e n=>u.keep b o e n d (by simp)) (λb o a d a e n=>u.slot b o e n d (by simp)) (λb o a e n=>u.free b o e n (by simp)) (λb o a e=>u.there b o e (by simp)) u.tups u.frzs u.tbls (λB q=>by
  let(A,f,g,c,p):=q;rw[h] at c;cases c;exact(_,f,g,t,p)) hok I.bare
def Inv.call{l:Array vD}{C:Nat}{J:aCl}{q:lg aM}(I:Inv X t A H s)(u:Un frs[X.stack] q H H' s.heap k)(hok:HOk X.prog X.w H' k)(F:qC l)(f:∀b∈q,(b∈X.ex\/X.s₀.heap.objs.size<=b)/\b≠X.env.locals/\(∀x c,X.env.cells.lookup x=sr c->c≠b)/\∀p∈X.pn ++ t,p.1≠b):
  Inv X t A H' { s with heap:=k,gens:=l,drawn:=J,toks:=C }:=by
 let(m,(o,Q,S,j,r),_):=id I.loc;let(N,g):=u.any j I.free λz=>(f _ z).2.1 rfl
 exact I.step f (λb o g G a e n=>u.keep b o e n (λz=>(aY.mp[I.stkSub b z]).elim g G) a) (λb o B B a e n=>u.any e n a) (λb o a e n=>u.free b o e n a) (λb o a e=>u.there b o e a) u.tups u.frzs u.tbls (λP E=>by
  let(O,h,i,d,D):=E;rw[j] at d;cases d;exact(_,h,i,g,D)) hok F
def Inv.turned{t':Nat}{d:aM}(I:Inv X h i H s)(k:∀b o,b≠d->s.heap.get? b=sr o->y.get? b=sr o)(D:H d=sy)(w:d≠X.env.locals)(G:d∈X.ex\/X.s₀.heap.objs.size<=d)(F:∀x c,X.env.cells.lookup x=sr c->c≠d)(E:∀p∈X.pn ++ h,p.1≠d):Inv X h i H { s with heap:=y,toks:=t' }:=by
 let g:∀b u,H b=sr u->b≠d:=λb u e z=>by simp_all
 refine I.step (g':=s.gens) (d':=s.drawn) (ch:=[d]) (λb t=>?_) (λb o a a f e a=>k b o (λz=>f[by simp[z]]) e) (λb o a a f e a=>(o.slots,k b o (λz=>f[by simp[z]]) e)) (λa a a a n=>n)
  (λb o f e=>(o,k b o (λz=>f[by simp[z]]) e)) (λa a e=>e) (λa a a e=>e) (λb ps e=>(#[],by rw[e];simp)) (λm l=>?_) (λb u e=>?_) I.bare
 .let e:b=d:=by simpa using t
  subst e;trivial
 .let(o,A,B,j,r):=l;exact(o,A,B,k _ o eG[w] j,r)
 .refine(I.hok b u e).stay (λc v f q=>k c v ?_ q) (λa q=>q) λa a q=>q;rcases f with z|z
  .rw[z];exact g b u e
  .exact g c _ z
def Inv.tok(I:Inv X aa σ H s)(t:Nat):Inv X aa σ H { s with toks:=t }:=I.un Un.refl I.hok
def Inv.kept{t':Nat}(I:Inv X aa σ H s)(k:∀b u,s.heap.get? b=sr u->h'.get? b=sr u):Inv X aa σ H { s with heap:=h',toks:=t' }:=I.un Un.kept[k] I.hok.kept[k]
def Inv.laid{t':Nat}(I:Inv X e d H s)(k:∀b u,s.heap.get? b=sr u->c.get? b=sr u)(hp:s.heap.objs.size<=a)(new:Eh X.prog X.w (upd H a o) c a o):
  Inv X e d (upd H a o) { s with heap:=c,toks:=t' }:=(I.un[Un.laid k hp I.hok.fresh[hp]][I.hok.laid k hp new])
def Inv.write{t':Nat}(I:Inv X aa σ H s)(mu:Mut H[x])(he:e=x\/H e=sr .own[x])(k:∀b u,b≠e->s.heap.get? b=sr u->h'.get? b=sr u)(heo:∃u,h'.get? e=sr u)(new:Eh X.prog X.w (upd H x o) h' x o):Inv X aa σ (upd H x o) { s with heap:=h',toks:=t' }:=I.un[Un.write mu he k heo][I.hok.write mu he k heo new]
def Inv.pins_of(I:Inv X c b H s)(h:∀p∈pins',s.heap.get? p.1=sr p.2/\H p.1=sy/\p.1≠X.env.locals/\p.1∉X.fs/\∀v,p.2.data≠.cell v):Inv X pins' b H s:=(
 (I.ok,I.os,I.bare,I.base,I.loc,I.cell,I.free,I.freeC,λp hp=>(cU.mp hp).elim (λz=>I.pin p (jR _ z)) h[p],I.hok,I.len))
def Afa{N:lg t6}(e:N.Nodup){i j:Nat}{x:t6}(a:N[i]?=sr x)(b:N[j]?=sr x):i=j:=by
 let(l,g):=aK.mp a;let(k,f):=aK.mp b;exact(oX e).mp g.trans[f.symm]
def Au5{M:Model}{A:fX}{E:aH->aN->Prop}{i:Nat}{x:t6}{v:V}{u:aH}{Q:Unit->aN->Prop}(I:Inv X aa σ H s)(hN:X.N.Nodup)(hi:X.N[i]?=sr x)(l:Loc X.env.scope x)(r:RelV v u)(h:∀s',Inv X aa (σ.set i sr[v]) H s'->(∃a,gM a s.heap s'.heap/\(a=X.env.locals\/X.env.cells.lookup x=sr a))->Q u9 s')(hf:X.fn x=t8\/X.env.scope.names.lookup x=sr .local:=by first|exact .inl rfl|exact .inr rfl|assumption):wpAny M A (storeName X.env x u) Q E s:=by
 let(m,hn,hl):=id I.loc;let O:(X.env.scope.kind==.class||(X.env.scope.kind==.module&&X.env.locals != X.env.globals))=t7:=by rw[I.ok.kind];rfl
 let B:i < σ.length:=by rw[I.len];exact(aK.mp hi).1
 let cne:=I.cne;let tracked:∀{a:aM} {G:eE},(∃o,s.heap.get? a=sr o/\H a=sy)->gM a s.heap G->HOk X.prog X.w H G:=λ{a G} ha f b ob e=>by
  let(_,_,bc):=ha;refine(I.hok b ob e).stay (λc T hc q=>(f.2 c ?_).trans q) (λuu q=>q) λuu uu q=>q;rintro rfl;rcases hc with rfl|hc
  .rw[bc] at e;cases e
  .rw[bc] at hc;cases hc
 rcases l with hk|hk
 .refine wpAny_storeName_local hk hn (λG hn' f=>?_) O;let(oL,_,_,hoL,_):=id hn;refine h _ (I.ok,I.os,I.bare,(λb o e n F l=>?_,λb o e n F l=>?_,I.base.free,λb o e l=>?_,I.base.tups,I.base.frzs,I.base.tbls),(_,hn',λj y Y g t e3=>?_),λy c e=>?_,I.free,I.freeC,λp hp=>?_,tracked (oL,hoL,I.free) f,by simpa using I.len) (_,f,.inl rfl)
  .exact(f.2 b cB[bH bA[e] I.ok.above]).trans (I.base.keep b o e n F l)
  .let(sl,g):=I.base.slot b o e n F l;exact(sl,(f.2 b cB[bH bA[e] I.ok.above]).trans g)
  .let(o',g):=I.base.there b o e l;exact(o',(f.2 b cB[bH bA[e] I.ok.above]).trans g)
  .by_cases C:j=i
   .subst C;rw[hi] at g;cases g;rw[dJ B] at t;cases t;exact(u,r,.inl (hk,by simp))
   .rw[cX eG[C]] at t;let(Z,r',q):=hl j y Y g t e3;refine(Z,r',?_);rcases q with ⟨k,e⟩|⟨k,c,e,z⟩
    .refine .inl (k,?_);have:y≠x:=λe=>C Afa[hN][g][e ▸ hi];simp[this,e]
    .exact .inr (k,c,e,z.sameBut f (cne y c e))
  .let(T,z):=I.cell y c e;exact(T,z.sameBut f (cne y c e))
  .let(e,n,ne,nf,d):=I.pin p hp;exact((f.2 p.1 ne).trans e,n,ne,nf,d)
 .let D:X.fn x=t8:=by
   rcases hf with z|z
   .exact z
   .rw[z] at hk;cases hk
  let(c,hc):=I.ok.has x .inl[hk];let(T,z):=I.cell x c hc;refine wpAny_storeName_cell I.ok.kind hk hc z (λG S f=>?_);let(oc,L,J):=id z;refine h { s with heap:=G } (I.ok,I.os,I.bare,(λb o e n F l=>?_,λb o e n F l=>?_,I.base.free,λb o e l=>?_,I.base.tups,I.base.frzs,I.base.tbls),(m,hn.sameBut f eG[cne x c hc],λj y Y g t e3=>?_),λy U e=>?_,I.free,I.freeC,λp hp=>?_,tracked (oc,L,I.freeC x c hc) f,by simpa using I.len) (c,f,.inr hc)
  .exact(f.2 b cB[bH[bA e][I.ok.cab x c D hc]]).trans (I.base.keep b o e n F l)
  .let(sl,g):=I.base.slot b o e n F l;exact(sl,(f.2 b cB[bH[bA e][I.ok.cab x c D hc]]).trans g)
  .let(o',g):=I.base.there b o e l;exact(o',(f.2 b cB[bH[bA e][I.ok.cab x c D hc]]).trans g)
  .by_cases C:j=i
   .subst C;rw[hi] at g;cases g;rw[dJ B] at t;cases t;exact(u,r,.inr (.inl hk,c,hc,S))
   .rw[cX eG[C]] at t;let(Z,r',q):=hl j y Y g t e3;refine(Z,r',?_);rcases q with q|⟨k,U,e,z'⟩
    .exact .inl q
    .refine .inr (k,U,e,z'.sameBut f ?_);rintro rfl;exact C Afa[hN][g][I.ok.inj _ _ _ e hc ▸ hi]
  .by_cases P:U=c
   .subst P;exact(_,S)
   .let(w2,z2):=I.cell y U e;exact(w2,z2.sameBut f P)
  .let(e,n,ne,nf,d):=I.pin p hp;refine((f.2 p.1 ?_).trans e,n,ne,nf,d);intro q;rw[q,L] at e;let q':oc=p.2:=bK e;exact d T (by rw[<-q'];exact J)
def Afb{i:Nat}(I:Inv X e b H s)(d:X.N.Nodup)(hi:X.N[i]?=sr x)(c:Loc X.env.scope x)(r:RelV v u)(h:∀a,Inv X e (b.set i sr[v]) H a->Q u9 a)(hf:X.fn x=t8\/X.env.scope.names.lookup x=sr .local:=by first|exact .inl rfl|exact .inr rfl|assumption):wpAny M A (storeName X.env x u) Q E s:=(
 Au5 I d hi c r (λa g j=>h a g) hf)
def Inv.call'(I:Inv X d f H s)(g:s'.os=s.os)(u:Un frs[X.stack] ch H H' s.heap s'.heap)(hok:HOk X.prog X.w H' s'.heap)(h:qC s'.gens)(a:∀b∈ch,(b∈X.ex\/X.s₀.heap.objs.size<=b)/\b≠X.env.locals/\(∀x c,X.env.cells.lookup x=sr c->c≠b)/\∀p∈X.pn ++ d,p.1≠b):Inv X d f H' s':=by
 let(k,l,m,i,j):=s';subst g;exact I.call u hok h a
end
abbrev XK:=aH->o9[Nat×o9 aM]->Hp->Prop
abbrev St:=lg o9[V]
abbrev VK:=V->Hp->Prop
abbrev TE:=St->Hp->VK->Prop
abbrev TT:=St->Hp->(Bool->Hp->Prop)->Prop
abbrev TA:=St->Hp->(lg V->Hp->Prop)->Prop
structure Ends where
 nx:St->Hp->Prop
 rt:VK
 bk:St->Hp->Prop:=λuu uu=>False
 ct:St->Hp->Prop:=λuu uu=>False
abbrev TS:=Ends->St->Hp->Prop
inductive EP(X:Cx)(aa:List (aM×tu))(σ:St)(Q:VK)(u:aH)(s':aN):Prop
 |mk (v:V) (H':Hp) (I:Inv X aa σ H' s') (r:RelV v u) (q:Q v H'):EP X aa σ Q u s'
inductive TP(X:Cx)(aa:List (aM×tu))(σ:St)(Q:Bool->Hp->Prop)(b:Bool)(s':aN):Prop
 |mk (H':Hp) (I:Inv X aa σ H' s') (q:Q b H'):TP X aa σ Q b s'
inductive AP(X:Cx)(aa:List (aM×tu))(σ:St)(Q:List V->Hp->Prop)(us:List aH)(s':aN):Prop
 |mk (vs:List V) (H':Hp) (I:Inv X aa σ H' s') (r:Vals vs us) (q:Q vs H'):AP X aa σ Q us s'
inductive NP(X:Cx)(aa:List (aM×tu))(K:St->Hp->Prop)(s':aN):Prop
 |mk (σ':St) (H':Hp) (I:Inv X aa σ' H' s') (q:K σ' H'):NP X aa K s'
inductive RP(X:Cx)(aa:List (aM×tu))(Q:VK)(u:aH)(s':aN):Prop
 |mk (v:V) (σ':St) (H':Hp) (I:Inv X aa σ' H' s') (r:RelV v u) (q:Q v H'):RP X aa Q u s'
def SP(X:Cx)(aa:lg[aM×tu])(D:Ends)(f:Flow)(s':aN):Prop:=
 match f with
 |.next=>NP X aa D.nx s'
 |.brk=>NP X aa D.bk s'
 |.cont=>NP X aa D.ct s'
 |.ret u=>RP X aa D.rt u s'
def PE(X:Cx)(e:cL)(t:TE):Prop:=
 ∀(aa:lg[aM×tu])(s:aN)(σ:St)(H:Hp)(Q:VK),Inv X aa σ H s->t σ H Q->wpAny (model X.prog X.w) X.A (eval e X.env) (EP X aa σ Q) X.xe s
def PT(X:Cx)(e:cL)(t:TT):Prop:=
 ∀(aa:lg[aM×tu])(s:aN)(σ:St)(H:Hp)(Q:Bool->Hp->Prop),Inv X aa σ H s->t σ H Q->wpAny (model X.prog X.w) X.A isTrue[e][X.env][eval e X.env] (TP X aa σ Q) X.xe s
def PW(X:Cx)(e:cL)(t:TT):Prop:=
 ∀(whole:Sem aH)(aa:lg[aM×tu])(s:aN)(σ:St)(H:Hp)(Q:Bool->Hp->Prop),Inv X aa σ H s->t σ H Q->wpAny (model X.prog X.w) X.A (isTrue e X.env whole) (TP X aa σ Q) X.xe s
def PA(X:Cx)(es:lg cL)(t:TA):Prop:=
 ∀(pos:Pos)(aa:lg[aM×tu])(s:aN)(σ:St)(H:Hp)(Q:lg V->Hp->Prop),Inv X aa σ H s->t σ H Q->wpAny (model X.prog X.w) X.A spliced[backTo[pos][starEach es X.env]] (AP X aa σ Q) X.xe s
def PS(X:Cx)(st:dI)(t:TS):Prop:=
 ∀(aa:lg[aM×tu])(s:aN)(σ:St)(H:Hp)(D:Ends),Inv X aa σ H s->t D σ H->wpAny (model X.prog X.w) X.A (exec st X.env) (SP X aa D) X.xe s
def PSs(X:Cx)(st:lg dI)(t:TS):Prop:=
 ∀(aa:lg[aM×tu])(s:aN)(σ:St)(H:Hp)(D:Ends),Inv X aa σ H s->t D σ H->wpAny (model X.prog X.w) X.A (execs st X.env) (SP X aa D) X.xe s
def thn{α:Type}{t:Sem α}{Q Q':α->aN->Prop}(h:wpAny M A t Q E s)(hQ:∀a s,Q a s->Q' a s):wpAny M A t Q' E s:=dX h hQ λuu uu x=>x
section
def Bhk(i:Nat):TE:=λσ H Q=>∃v,σ[i]?=sr sr[v]/\Q v H
def tC(v:V):TE:=λuu H Q=>Q v H
def Afc{i:Nat}(t:X.N[i]?=sr x)(n:Vis X.env.scope x)(hd:autoParam ((x==("__debug__":t6))=t7) zq3._auto_1)(b:autoParam ((x==("__classdict__":t6))=t7) zq3._auto_1):PE X (.Name x pos) Bhk[i]:=by
 intro w s j H Q I h;let(v,e,h):=h;let(m,o,q):=I.loc;let(u,r,l):=q i x v t e n;let a:EP X w j Q u s:=(v,H,I,r,h);rcases l with ⟨hk,p⟩|⟨hk,c,f,g⟩
 .exact aAp (wpAny_loadName_local I.ok.kind hk o p a) hd
 .rcases hk with hk|hk
  .exact aAp (wpAny_loadName_cell I.ok.kind hk f g a) hd
  .exact aAp (wpAny_loadName_free I.ok.kind hk f g a b) hd
def Axn{i j pos}:PE X (.Constant .int[i] j pos) tC[.int[i]]:=λuu uu uu H uu I h=>wpAny_Constant_int (.int i,H,I.tok _,(_,rfl),h)
def Bll{b j pos}:PE X (.Constant .bool[b] j pos) tC[.bl[b]]:=λuu uu uu H uu I h=>Constant_bool (.bl b,H,I,rfl,h)
def Bhl{x j pos}:PE X (.Constant .str[x] j pos) tC[.str[x]]:=λuu uu uu H uu I h=>Calls.Constant_str (.str x,H,I.tok _,(_,rfl),h)
def Gl(X:Cx)(x:t6):Prop:=X.env.kindOf x=sr .globalImplicit
def Lz(I:Inv X g f H s)(d:Gl X x)(c:X.mg x=sr u)(h:Q u s)(hd:autoParam ((x==("__debug__":t6))=t7) zq3._auto_1):wpAny (model X.prog X.w) X.A eval[.Name x pos][X.env] Q E s:=(
 jF I.ok.kind d (nR (by rw[I.ok.glob];exact I.mod.glob.keeps I.bk) c h) hd)
def Abr(I:Inv X l k H s)(f:Gl X x)(e:X.mg x=sy)(c:bootBuiltins x=sr u)(h:Q u s)(d:autoParam (x≠"__name__") zq3._auto_1)(hd:autoParam ((x==("__debug__":t6))=t7) zq3._auto_1):wpAny (model X.prog X.w) X.A eval[.Name x pos][X.env] Q E s:=by
 let(mb,i,g):=I.mod.blt;exact jF I.ok.kind f (Calls.loadGlobal_builtin (by rw[I.ok.glob];exact I.mod.glob.keeps I.bk) e (by rw[I.ok.blt];exact i.keeps I.bk) ((g x d).trans c) h) hd
def tB(t:TE):TT:=λσ H Q=>t σ H λx H1=>∃c,x=.bl c/\Q c H1
def Boi(t u:TT):TT:=λσ H Q=>t σ H λc H1=>if c=t8 then u σ H1 Q else Q t7 H1
def tOr(t u:TT):TT:=λσ H Q=>t σ H λc H1=>if c=t8 then Q t8 H1 else u σ H1 Q
def Blm(ta tb:TE):TE:=λσ H Q=>ta σ H λx H1=>∃c,x=.bl c/\if c=t8 then tb σ H1 Q else Q .bl[t7] H1
def Boj(ta tb:TE):TE:=λσ H Q=>ta σ H λx H1=>∃c,x=.bl c/\if c=t8 then Q .bl[t8] H1 else tb σ H1 Q
def Bln(ta:TE):TE:=λσ H Q=>ta σ H λx H1=>∃c,x=.bl c/\Q .bl[!c] H1
def tIf(t:TT)(ta tb:TE):TE:=λσ H Q=>t σ H λc H1=>if c=t8 then ta σ H1 Q else tb σ H1 Q
end
def SqL(K:aF)(H:Hp)(a:aM)(xs:lg V):Prop:=
 Rd H a .lst[xs]\/
  ∃(o:tu)(its:Array aH)(n:Nat),K.lookup a=sr o/\o.cls=.type "list"/\o.dict=sy/\o.data=.seq its n/\its.size<=sizeLine/\Vals xs its.toList
def SqT(K:aF)(H:Hp)(a:aM)(xs:lg V):Prop:=
 Rd H a .tup[xs]\/
  ∃(o:tu)(its:Array aH)(n:Nat),K.lookup a=sr o/\o.cls=.type "tuple"/\o.data=.seq its n/\its.size<=sizeLine/\Vals xs its.toList
def Bok:aH->o9 V
 |.none=>sr .non
 |.bool b=>sr .bl[b]
 |.int i _=>sr .int[i]
 |.str x _=>sr .str[x]
 |.bytes b _=>sr .byt[b]
 |.float b _=>sr .flt[b]
 |.ref a=>sr .ref[a]
 |.type n=>sr .ty[n]
 |_=>sy
def RelV.abs(r:RelV x u):Bok u=sr x:=by
 cases x with
 |non=>cases r;rfl
 |bl _=>cases r;rfl
 |int _=>let(t,rfl):=r;rfl
 |str _=>let(t,rfl):=r;rfl
 |byt _=>let(t,rfl):=r;rfl
 |flt _=>let(t,rfl):=r;rfl
 |ref _=>cases r;rfl
 |ty _=>cases r;rfl
def RelV.inj(r:RelV x u)(q:RelV y u):x=y:=bK r.abs.symm.trans[q.abs]
theorem Vals.inj:∀{c b:lg V} {d:lg aH},Vals c d->Vals b d->c=b
 |_,_,_,.nil,.nil=>rfl
 |_,_,_,.cons r t,.cons f e=>by rw[r.inj f,Vals.inj t e]
section
def SqT.of{K:aF}(h:H a=sr .tup[xs]):SqT K H a xs:=.inl .inl[h]
def Inv.list(I:Inv X l i H s)(h:SqL X.K H a c):∃b:lg aH,Vals c b/\PlainL s.heap a b.toArray/\c.length<=sizeLine:=by
 rcases h with h|⟨o,b,n,f,g,hd,k,j,r⟩
 .let(z,b,n,r,e):=h.ok I.hok;exact(b,r,(_,n,e,rfl,rfl,rfl),z)
 .refine(b.toList,r,(o,n,I.kIn a o f,g,hd,()),?_)
  let e:=r.length;simp_all
def Inv.tuple(I:Inv X l i H s)(h:SqT X.K H a c):∃b:lg aH,Vals c b/\aAo s.heap a b.toArray/\c.length<=sizeLine:=by
 rcases h with h|⟨o,b,n,f,g,k,j,r⟩
 .let(z,b,r,p):=h.ok I.hok;exact(b,r,p,z)
 .refine(b.toList,r,(o,I.kIn a o f,g,n,()),?_)
  let e:=r.length;simp_all
def Inv.list_inj(I:Inv X u p H s)(h:SqL X.K H a i)(l:SqL X.K H a g):i=g:=by
 let(k,r,(o,n,e,_,_,d),_):=I.list h;let(b,j,(q,t,c,_,_,f),_):=I.list l;rw[e] at c;cases c;rw[d] at f;injection f with d1 _
 have:=by simpa using congrArg aCq d1
 subst this;exact r.inj j
def Inv.tuple_inj(I:Inv X u p H s)(h:SqT X.K H a i)(l:SqT X.K H a g):i=g:=by
 let(k,r,(o,e,_,n,d),_):=I.tuple h;let(b,j,(q,c,_,t,f),_):=I.tuple l;rw[e] at c;cases c;rw[d] at f;injection f with d1 _
 have:=by simpa using congrArg aCq d1
 subst this;exact r.inj j
end
abbrev Cx.wish(X:Cx)(E:aH->aN->Prop):Cx:={ X with xe:=E }
abbrev Cx.nox(X:Cx):Cx:=X.wish λuu uu=>False
def Cx.Ok.wish{X:Cx}(ok:X.Ok)(E:aH->aN->Prop):(X.wish E).Ok:=(
 (ok.mod,ok.kind,ok.glob,ok.blt,ok.above,ok.inj,ok.has,ok.cab,ok.hd,ok.frames,ok.stk,ok.exf,ok.bs,ok.bsz,ok.noex,ok.exfs,ok.funs,ok.frf))
def Cx.Ok.unwish{X:Cx}{E:aH->aN->Prop}(ok:(X.wish E).Ok):X.Ok:=(
 (ok.mod,ok.kind,ok.glob,ok.blt,ok.above,ok.inj,ok.has,ok.cab,ok.hd,ok.frames,ok.stk,ok.exf,ok.bs,ok.bsz,ok.noex,ok.exfs,ok.funs,ok.frf))
section
def Inv.wish(I:Inv X aa σ H s)(E:aH->aN->Prop):Inv X.wish[E] aa σ H s:=(I.ok.wish E,I.os,I.bare,I.base,I.loc,I.cell,I.free,I.freeC,I.pin,I.hok,I.len)
def Inv.unwish(I:Inv X.wish[E] aa σ H s):Inv X aa σ H s:=(I.ok.unwish,I.os,I.bare,I.base,I.loc,I.cell,I.free,I.freeC,I.pin,I.hok,I.len)
def PE.nox(h:PE X.nox e t):PE X e t:=(λd s a H Q I c=>
 dX[h d s a H Q I.wish[_] c][λ_ _ ⟨v,H',I',r,q⟩=>(v,H',I'.unwish,r,q)] λb b z=>gU z)
end
section
def Bol(t u:TS):TS:=λD σ H=>t { D with nx:=u D } σ H
def Am8{X:Cx}{st:dI}{rest:lg dI}{t u:TS}(i:PS X st t)(g:PSs X rest u):PSs X (st::rest) (Bol t u):=by
 intro b s d H D I h;refine yX (thn (i b s d H { D with nx:=u D } I h) λf e q=>?_)
 cases f with
 |next=>
  let(a,k,j,q):=q;exact g b e a k D j q
 |ret v=>exact q
 |brk=>exact q
 |cont=>exact q
def Asw{X:Cx}{st:dI}{t:TS}(b:PS X st t):PSs X [st] t:=by
 intro c s a H D I h;refine yX[thn[b c s a H D I h] λf d q=>?_];cases f with
 |next=>exact lR q
 |ret v=>omega
 |brk=>omega
 |cont=>omega
def Inv.quiet(I:Inv X b a H s):interactive X.env=t7:=by simp[interactive,I.ok.kind]
def Blo(te:TE):TS:=λD σ H=>te σ H λuu H1=>D.nx σ H1
def Asx(he:PE X e te)(hs:autoParam (swapsWith e sy pos.line X.env=pure t7) zq2._auto_1):PS X (.Expr e pos) Blo[te]:=λaa s σ H D I h=>wpAny_Expr_any (thn[he aa s σ H _ I h] λv s1 ⟨x,H1,I1,r1,q1⟩=>(σ,H1,I1,q1)) I.quiet hs
def Bom(te:TE):TS:=λD σ H=>te σ H D.rt
def Bhm(he:PE X e te):PS X (.Return sr[e] pos) Bom[te]:=λaa s σ H D I h=>wpAny_Return_some[thn[he aa s σ H _ I h] λv s1 ⟨x,H1,I1,r1,q1⟩=>(x,σ,H1,I1,r1,q1)]
def Bon(c:TT)(t u:TS):TS:=λD σ H=>c σ H λb H1=>if b=t8 then t D σ H1 else u D σ H1
end
abbrev TG:=V->St->Hp->(St->Hp->Prop)->Prop
abbrev TGs:=lg V->St->Hp->(St->Hp->Prop)->Prop
def PG(X:Cx)(target:cL)(t:TG):Prop:=
 ∀(aa:lg[aM×tu])(s:aN)(σ:St)(H:Hp)(v:V)(u:aH)(Q:St->Hp->Prop),Inv X aa σ H s->RelV v u->t v σ H Q->
  wpAny (model X.prog X.w) X.A (assign target X.env u) (λuu s'=>NP X aa Q s') X.xe s
def PGs(X:Cx)(ts:lg cL)(t:TGs):Prop:=
 ∀(aa:lg[aM×tu])(s:aN)(σ:St)(H:Hp)(vs:lg V)(us:lg aH)(Q:St->Hp->Prop),Inv X aa σ H s->Vals vs us->t vs σ H Q->
  wpAny (model X.prog X.w) X.A (assignInOrder ((assignEach ts X.env).map (·.2)) us) (λuu s'=>NP X aa Q s') X.xe s
section
def Aag(i:Nat):TG:=λv σ H Q=>Q (σ.set i sr[v]) H
def Boo:TGs:=λvs σ H Q=>vs=[]/\Q σ H
def Bgt(t:TG)(u:TGs):TGs:=λvs σ H Q=>∃v r,vs=v::r/\t v σ H λσ' H'=>u r σ' H' Q
def Axo(l:PG X e t)(k:PGs X b u)(j:autoParam ((assignEach (e::b) X.env).map (·.2)=assign e X.env::(assignEach b X.env).map (·.2)) zq2._auto_1):PGs X (e::b) (Bgt t u):=by
 intro c s d H p w Q I r h;let(v,q,m,h):=h;subst m;cases r with
 |cons r g=>
  rw[j];exact assignInOrder_cons[thn[l c s d H _ _ _ I r h] λ_ f ⟨σ1,H1,I1,q1⟩=>k c f σ1 H1 _ _ Q I1 g q1]
def Blp(K:aF)(n:Nat)(t:TGs):TG:=λv σ H Q=>∃a xs,v=.ref a/\SqT K H a xs/\xs.length=n/\t xs σ H Q
def Bhn(te:TE)(g:TG):TS:=λD σ H=>te σ H λx H1=>g x σ H1 D.nx
def Bho(o:PE X e f)(n:PG X a g)(m:autoParam (swapsWithSole [a] e b.line X.env=pure t7) zq2._auto_1)(l:autoParam (swappedStores [a] e X.env=pure sy) zq2._auto_1)(p:autoParam ((assignEach [a] X.env).map (·.2)=[assign a X.env]) zq2._auto_1):PS[X][.Assign [a] e b][Bhn f g]:=by
 intro d s c H D I h;refine wpAny_Assign_stores (thn[o d s c H _ I h] λv i ⟨x,H1,I1,r1,q1⟩=>?_) m l;rw[p];exact thn[n d i c H1 x v _ I1 r1 q1] λu w q=>q
end
section
def Bhp(c:TT)(tb:TS):TS:=λD σ H=>∃W:Nat->St->Hp->Prop,(∃m,W m σ H)/\∀m σ H,W m σ H->
 c σ H λb H1=>if b=t8 then ∃N:St->Hp->Prop,(∀σ' H',N σ' H'->∃m',m' < m/\W m' σ' H')/\tb { D with nx:=N,ct:=N,bk:=D.nx } σ H1 else D.nx σ H1
def Axp(hp:sZ (model X.prog X.w) X.A X.env X.xe)(T:PT X c G)(U:PSs X body J):PS[X][.While c body [] Q][Bhp G J]:=by
 intro q s B H D I h;let(W,(S,F),g):=h;refine wpAny_While[codeAny_whileLoop (λn P=>∃e z,Inv X q e z P/\W n e z) ?_ S (B,H,I,F)];rintro n O ⟨d,y,Y,E⟩;refine jP hp (thn[T q O d y _ Y (g n d y E)] λb L C=>?_);let(x,u,j):=C;cases b with
 |true=>
  let(N,t,j):=j;refine jP hp (thn[U q L d x _ u j] λf Z l=>?_);cases f with
  |next=>
   let(a,i,r,m):=l;let(o,p,k):=t a i m;exact(o,p,a,i,r,k)
  |cont=>
   let(a,i,r,m):=l;let(o,p,k):=t a i m;exact(o,p,a,i,r,k)
  |brk=>trivial
  |ret v=>exact l
 |false=>
  exact lR (d,x,u,j)
end
structure It where
 go:Nat->Hp->Prop
 yld:Nat->Hp->V->Hp->Prop
 stop:Nat->Hp->Prop
def Ah7(X:Cx)(aa:lg[aM×tu])(H:Hp)(b:aM):Prop:=
 H b=sy/\b≠X.env.locals/\b∉X.fs/\(b∈X.ex\/X.s₀.heap.objs.size<=b)/\(∀x c,X.env.cells.lookup x=sr c->c≠b)/\∀p∈X.pn ++ aa,p.1≠b
def Inv.fpOk(I:Inv X f h H s)(a:s.heap.objs.size<=b)(d:H' b=sy):Ah7 X f H' b:=by
 refine(d,nW[bH I.lt a],I.nofs a,.inr[aD I.sz a],λx c e z=>?_,λp hp z=>absurd bH[bA (I.pin p hp).1][by simp_all] fM[_])
 .let(v,q):=I.cell x c e;exact absurd bH[q.lt][by simp_all] fM[_]
structure Turn(P:cJ)(w:dZ)(K:aF)(tg:cL)(J:It)(fp:List aM)(it:aM)(tn:Nat->eE->Prop):Prop where
 mem:it∈fp
 obj:∀i h,tn i h->∀b∈fp,∃o,h.get? b=sr o/\∀v,o.data≠.cell v
 keep:∀i h h',tn i h->(∀b∈fp,∀o,h.get? b=sr o->h'.get? b=sr o)->tn i h'
 item:∀(X:Cx),X.prog=P->X.w=w->X.K=K->X.calm=t8->∀(i:Nat)(aa:List (aM×tu))(s:aN)(σ:St)(H:Hp)(E:aH->aN->Prop),Inv X aa σ H s->(∀b∈fp,Ah7 X aa H b)->tn i s.heap->J.go i H->
  wpAny (model P w) X.A (pyNext (.ref it)) (λr s1=>∃u,r=sr u/\
   wpAny (model P w) X.A (letOwnedTupleGo tg (.ref it) u) (λuu s2=>∃x H',Inv X aa σ H' s2/\RelV x u/\J.yld i H x H'/\tn (i+1) s2.heap/\∀b∈fp,H' b=sy) E s1) E s
 done:∀(X:Cx),X.prog=P->X.w=w->X.K=K->X.calm=t8->∀(i:Nat)(aa:List (aM×tu))(s:aN)(σ:St)(H:Hp)(E:aH->aN->Prop),Inv X aa σ H s->(∀b∈fp,Ah7 X aa H b)->tn i s.heap->J.stop i H->
  wpAny (model P w) X.A (pyNext (.ref it)) (λr s1=>r=sy/\Inv X aa σ H s1) E s
 self:∀(A:fX)(i:Nat)(s:aN)(Q:aH->aN->Prop)(E:aH->aN->Prop),tn i s.heap->Q (.ref it) s->wpAny (model P w) A (pyIter (.ref it)) Q E s
abbrev TI:=St->Hp->(It->Hp->Prop)->Prop
inductive PIE(X:Cx)(aa:List (aM×tu))(σ:St)(tg:cL)(R:It->Hp->Prop)(itv:aH)(s2:aN):Prop
 |mk (it:aM) (fp:List aM) (tn:Nat->eE->Prop) (J:It) (H':Hp) (e:itv=.ref it) (I:Inv X aa σ H' s2) (T:Turn X.prog X.w X.K tg J fp it tn) (t:tn 0 s2.heap) (f:∀b∈fp,Ah7 X aa H' b) (r:R J H'):PIE X aa σ tg R itv s2
def PI(X:Cx)(tg iter:cL)(wi:TI):Prop:=
 ∀(aa:lg[aM×tu])(s:aN)(σ:St)(H:Hp)(R:It->Hp->Prop),Inv X aa σ H s->wi σ H R->
  wpAny (model X.prog X.w) X.A (eval iter X.env) (λv s1=>wpAny (model X.prog X.w) X.A pyIter[v] (PIE X aa σ tg R) X.xe s1) X.xe s
def Asy(d:s.heap.get? c=sr o)(f:o.cls=.type n)(hd:o.data=.fields g)(e:["enumerate","zip","dict_itemiterator","dict_reverseitemiterator","odict_iterator","itertools.zip_longest","itertools.pairwise"].contains n=t7)(a:Q u9 s):wpAny M A (letOwnedTupleGo b .ref[c] u) Q E s:=by
 cases b <;> first
  |exact aJ a
  |(cases u <;> first
    |exact aJ a
    |(refine aA[aAq d ?_];rw[f,hd];show wpAny M A (if _ then _ else _) Q E s;rw[dm (by intro h;rw[e,vG] at h;cases h)];exact aJ a))
def Itl(K:aF)(a:aM):It:=
 (λi H=>∃xs x,SqL K H a xs/\xs[i]?=sr x,λi H x H'=>H'=H/\∀xs,SqL K H a xs->xs[i]?=sr x,λi H=>∃xs,SqL K H a xs/\xs.length<=i)
def Itt(K:aF)(a:aM):It:=
 (λi H=>∃xs x,SqT K H a xs/\xs[i]?=sr x,λi H x H'=>H'=H/\∀xs,SqT K H a xs->xs[i]?=sr x,λi H=>∃xs,SqT K H a xs/\xs.length<=i)
def Itr(lo:Int)(n:Nat):It:=(λi uu=>i < n,λi H x H'=>H'=H/\x=.int[lo+i],λi uu=>n<=i)
theorem Au6{P:cJ}{w:dZ}{K:aF}{S:cL}(a f:aM):Turn P w K S (Itl K a) [f] f (λi h=>h.IsListIter f a i) where
 mem:=by simp
 obj:=λi h st b g=>by
  let e:b=f:=by simpa using g
  subst e;let(o,e,c,d):=st;exact(o,e,λv z=>by rw[d] at z;cases z)
 keep:=λi h n st k=>st.at λo e=>k f (by simp) o e
 item:=by
  intro X B y hK N i O s L H E I hf st A;subst B y hK;let(Q,x,m,t):=A;let(r,q,p,Y):=I.list m;let(u,hu,U):=q.get t;let(J,G,f2,F,D,C):=hf f (by simp)
  refine wpAny_pyNext_list_item st p.isList (x:=u) (by simpa using hu) λn j T=>?_
  let I1:Inv X O L H { s with heap:=n }:=I.turned (t':=s.toks) (λb o g e=>(T.2 b g).trans e) J G F D C
  let(o,e,c,d):=id j;exact(u,rfl,Asy (s:={ s with heap:=n }) e c d () (x,H,I1,U,(rfl,λys Z=>by rw[I.list_inj Z m];exact t),j,λb g=>(hf b g).1))
 done:=by
  intro X B y hK N i O s L H E I hf st A;subst B y hK;let(Q,m,t):=A;let(r,q,p,Y):=I.list m;let(J,G,f2,F,D,C):=hf f (by simp)
  let hl:=q.length;exact wpAny_pyNext_list_end I.ok.hd[N] st p.isList (by simp;omega) λn eb=>(rfl,I.turned (t':=s.toks) (λb o g e=>eb b o g e) J G F D C)
 self:=λl l l l l st h=>wpAny_pyIter_listiter st h
theorem Aqh{P:cJ}{w:dZ}{K:aF}{S:cL}(a g:aM):Turn P w K S (Itt K a) [g] g (λi h=>h.IsTupleIter g a i) where
 mem:=by simp
 obj:=λi h st b j=>by
  let e:b=g:=by simpa using j
  subst e;let(o,e,c,d):=st;exact(o,e,λv z=>by rw[d] at z;cases z)
 keep:=λi h q st k=>st.at λo e=>k g (by simp) o e
 item:=by
  intro X B y hK N i O s L H E I hf st A;subst B y hK;let(Q,x,n,t):=A;let(f,r,p,Y):=I.tuple n;let(u,hu,U):=r.get t;let(J,G,f2,F,D,C):=hf g (by simp)
  refine wpAny_pyNext_tuple_item st (show s.heap.IsTuple a f.toArray from p) (x:=u) (by simpa using hu) λq l T=>?_
  let I1:Inv X O L H { s with heap:=q }:=I.turned (t':=s.toks) (λb o j e=>(T.2 b j).trans e) J G F D C
  let(o,e,c,d):=id l;exact(u,rfl,Asy (s:={ s with heap:=q }) e c d () (x,H,I1,U,(rfl,λys Z=>by rw[I.tuple_inj Z n];exact t),l,λb j=>(hf b j).1))
 done:=by
  intro X B y hK N i O s L H E I hf st A;subst B y hK;let(Q,n,t):=A;let(f,r,p,Y):=I.tuple n;let(J,G,f2,F,D,C):=hf g (by simp)
  let hl:=r.length;exact wpAny_pyNext_tuple_end I.ok.hd[N] st (show s.heap.IsTuple a f.toArray from p) (by simp;omega) λq eb=>(rfl,I.turned (t':=s.toks) (λb o j e=>eb b o j e) J G F D C)
 self:=λm m m m m st h=>wpAny_pyIter_tupleiter st h
theorem Aqi{P:cJ}{w:dZ}{K:aF}{G:cL}(a:aM)(lo:Int)(n:Nat):Turn P w K G (Itr lo n) [a] a (λi h=>IsRangeIter h a (lo+(i:Nat) * 1) ((n:Int) - (i:Nat)) 1) where
 mem:=by simp
 obj:=λi h st b c=>by
  let e:b=a:=by simpa using c
  subst e;exact(_,st,λv z=>by
   let F:zV _=vW v:=z;cases F)
 keep:=λi h l st k=>k a (by simp) _ st
 item:=by
  intro X r m hK q i D s C H E I hf st p;subst r m hK;let(B,A,N,y,x,u):=hf a (by simp)
  let W:=Walks.range (prog:=X.prog) (w:=X.w) I.ok.hd[q] a lo 1 n;refine W.item i s _ _ p st λv l tk L d J=>?_;let(t,rfl):=L;let Q:Inv X D C H { s with heap:=l,toks:=tk }:=I.turned (λb o c e=>J b o (by simpa using c) e) B A y x u
  refine(_,rfl,Asy (s:={ s with heap:=l,toks:=tk }) (n:="range_iterator") d rfl rfl () (.int[lo+i],H,Q,(t,?_),(rfl,rfl),d,λb c=>(hf b c).1))
  rw[Int.mul_one]
 done:=by
  intro X r m hK q i D s C H E I hf st p;subst r m hK;let(B,A,N,y,x,u):=hf a (by simp)
  exact wpAny_pyNext_range_end I.ok.hd[q] st (by have:n<=i:=p;omega) λl O=>(rfl,I.turned (t':=s.toks) (λb o c e=>O b o c e) B A y x u)
 self:=λj j j j j st h=>wpAny_pyIter_rangeiter st h
section
def Blq(K:aF)(tl:TE):TI:=λσ H R=>tl σ H λx H1=>∃a,x=.ref a/\(∃xs,SqL K H1 a xs)/\R (Itl K a) H1
def Boq(K:aF)(tl:TE):TI:=λσ H R=>tl σ H λx H1=>∃a,x=.ref a/\(∃xs,SqT K H1 a xs)/\R (Itt K a) H1
def Bck{l:cL}{tl:TE}(n:PE X l tl):PI X y l (Blq X.K tl):=by
 intro t s d H R I h;refine thn[n t s d H _ I h] λv g f=>?_;let(x,u,c,i,j):=f;let(a,e,(w,m),q):=j;subst e;cases i;let(k,z,p,A):=c.list m;refine nY p.isList ?_;refine(g.heap.objs.size,_,_,_,u,rfl,c.kept λb o e=>aG _ e,Au6 a _,(_,aW _ rfl,rfl,rfl),λb r=>?_,q);let e:=by simpa using r
 subst e;exact c.fpOk aO[_] c.hok.fresh[aO[_]]
def Bhq{l:cL}{tl:TE}(n:PE X l tl):PI X y l (Boq X.K tl):=by
 intro t s d H R I h;refine thn[n t s d H _ I h] λv g f=>?_;let(x,u,c,i,j):=f;let(a,e,(w,m),q):=j;subst e;cases i;let(k,z,p,A):=c.tuple m;refine qM (p) ?_;refine(g.heap.objs.size,_,_,_,u,rfl,c.kept λb o e=>aG _ e,Aqh a _,(_,aW _ rfl,rfl,rfl),λb r=>?_,q);let e:=by simpa using r
 subst e;exact c.fpOk aO[_] c.hok.fresh[aO[_]]
def Axq{lo hi:Int}{t u v:Tok}{tk:Nat}(I:Inv X g f H s)(l:-(2 ^ 62)<=lo)(k:lo < 2 ^ 62)(j:-(2 ^ 62)<=hi)(i:hi < 2 ^ 62)(q:R (Itr lo (hi - lo).toNat) H):wpAny (model X.prog X.w) X.A pyIter[.ref[s.heap.objs.size]] (PIE X g f r R) E { s with heap:=s.heap.push { cls:=.type "range",data:=.fields #[.int lo t,.int hi u,.int 1 v] },toks:=tk }:=by
 refine wpAny_pyIter_range[IsRange.new ..][small_one l k j i][?_];let d:Inv X g f H { s with heap:=s.heap.push { cls:=.type "range",data:=.fields #[.int lo t,.int hi u,.int 1 v] },toks:=tk }:=I.kept λb o e=>aG _ e
 refine(_,_,_,_,H,rfl,
  d.kept λb o e=>aG _ e,Aqi _ lo _,?_,λb h=>?_,q)
 .let n:lo+(0:Nat) * 1=lo:=by simp
  let m:((hi - lo).toNat:Nat) - ((0:Nat):Int)=aCm lo hi 1:=by rw[rangeSize_one];split <;> omega
  rw[n,m];exact aW _ rfl
 .let e:b=(s.heap.push { cls:=.type "range",data:=.fields #[.int lo t,.int hi u,.int 1 v] }).objs.size:=by simpa using h
  subst e;exact d.fpOk aO[_] d.hok.fresh[aO[_]]
def Blr(ta:TA):TI:=λσ H R=>ta σ H λvs H1=>∃j:Int,vs=[.int j]/\-(2 ^ 62)<=j/\j < 2 ^ 62/\R (Itr 0 j.toNat) H1
def Bor(wi:TI)(g:TG)(tb:TS):TS:=λD σ H=>wi σ H λJ H1=>∃W:Nat->Nat->St->Hp->Prop,(∃m,W 0 m σ H1)/\∀i m σ H,W i m σ H->
 (J.stop i H/\D.nx σ H)\/(J.go i H/\∃N:St->Hp->Prop,(∀σ' H',N σ' H'->∃m',m' < m/\W (i+1) m' σ' H')/\∀x H',J.yld i H x H'->g x σ H' λσ2 H2=>tb { D with nx:=N,ct:=N,bk:=D.nx } σ2 H2)
def Afd(fp:lg aM)(h:eE):lg[aM×tu]:=fp.filterMap λb=>(h.get? b).map λo=>(u6 b o)
def Ms(a:b∈c)(e:h.get? b=sr o):(u6 b o)∈Afd c h:=(gV.mpr (b,a,by simp_all))
def Au7(hp:p∈Afd a h):p.1∈a/\h.get? p.1=sr p.2:=by
 let(b,d,e):=gV.mp hp;cases q:h.get? b with
 |none=>simp_all
 |some o=>
  rw[q] at e;let c:=bK e;subst c;trivial
def Inv.pinned(I:Inv X c f H s)(hf:∀b∈fp,Ah7 X c H b)(g:∀b∈fp,∃o,s.heap.get? b=sr o/\∀v,o.data≠.cell v):Inv X (c ++ Afd fp s.heap) f H s:=(
 I.pins_of λp hp=>(cU.mp hp).elim (λz=>I.pin p (cM _ z)) λz=>by
  let(a,e):=Au7 z;let(j,i,h,_):=hf p.1 a;let(o,k,d):=g p.1 a;simp_all)
def Inv.unpinned(I:Inv X (aa ++ pl) σ H s):Inv X aa σ H s:=I.pins_of λp hp=>I.pin p cM[_][jR _ hp]
def Bhr(hp:sZ (model X.prog X.w) X.A X.env X.xe)(hc:X.calm=t8)(hi:PI X tg z wi)(hg:PG X tg g)(l:PSs X body tb)(hs:autoParam (∀x,foldedSetIterable z X.env x=pure x) zq4._auto_1):PS[X][.For tg z body [] pos][Bor wi g tb]:=by
 intro E s σ H D I h;refine wpAny_For (thn[hi E s σ H _ I h] λv s1 h1=>thn h1 λitv s2 h2=>?_) hs;let(it,P,tn,J,H2,e,I2,T,U,f2,W,(m0,w0),F):=h2;subst e;let k:∀{t:Hp},(∀b∈P,t b=sy)->∀b∈P,Ah7 X E t b:=λhn b l=>(hn b l,(f2 b l).2);refine codeAny_forLoop_any (λn s'=>∃i j t,Inv X E j t s'/\tn i s'.heap/\(∀b∈P,t b=sy)/\W i n j t) ?_ m0 (0,σ,H2,I2,U,λb l=>(f2 b l).1,w0);rintro n s3 ⟨i,c,Q,I3,G,O,w3⟩;rcases F i n c Q w3 with ⟨stop,qn⟩|⟨go,N,hN,step⟩
 .refine jP hp (thn[T.done X rfl rfl rfl hc i E s3 c Q X.xe I3 k[O] G stop] λr s4 B=>?_);let(Z,I4):=B;subst Z;exact lR (c,Q,I4,qn)
 .refine jP hp (thn[T.item X rfl rfl rfl hc i E s3 c Q X.xe I3 k[O] G go] λr s4 B=>?_);let(u,Z,h4):=B;subst Z;refine jP hp (thn h4 λuu s5 B=>?_);let(x,H5,I5,r5,y5,C,fr5):=B;let I5':=I5.pinned[k fr5][T.obj _ _ C];refine jP hp (thn[hg _ s5 c H5 x u _ I5' r5 (step x H5 y5)] λuu s6 B=>?_);let(S,H6,I6,q6):=B;refine jP hp (thn[l _ s6 S H6 _ I6 q6] λf Y y=>?_);let again:∀{a:St} {q:Hp},Inv X (E ++ Afd P s5.heap) a q Y->N a q->∃m,m < n/\∃i j t,Inv X E j t Y/\tn i Y.heap/\(∀b∈P,t b=sy)/\W i m j t:=λ{a q} p L=>by
   let(m',hm,w7):=hN a q L;refine(m',hm,i+1,a,q,p.unpinned,T.keep _ _ _ C λb l o e=>(p.pin[u6 b o][cM _ cM[_][Ms l e]]).1,λb l=>?_,w7);let(o,e,d):=T.obj _ _ C b l;exact(p.pin[u6 b o][cM _ cM[_][Ms l e]]).2.1
  cases f with
  |next=>let(a,q,p,L):=y;exact again p L
  |cont=>let(a,q,p,L):=y;exact again p L
  |brk=>let(a,q,p,y):=y;exact(a,q,p.unpinned,y)
  |ret v=>let(x7,a,q,p,r7,y):=y;exact(x7,a,q,p.unpinned,r7,y)
end
abbrev R2:=V->V->Hp->VK->Prop
def OpR(X:Cx)(f:aH->aH->Sem aH)(r:R2):Prop:=
 ∀(aa:lg[aM×tu])(s:aN)(σ:St)(H:Hp)(x y:V)(v u:aH)(Q:VK),Inv X aa σ H s->RelV x v->RelV y u->r x y H Q->
  wpAny (model X.prog X.w) X.A (f v u) (EP X aa σ Q) X.xe s
def UnR(X:Cx)(f:aH->Sem aH)(r:V->Hp->VK->Prop):Prop:=
 ∀(aa:lg[aM×tu])(s:aN)(σ:St)(H:Hp)(x:V)(v:aH)(Q:VK),Inv X aa σ H s->RelV x v->r x H Q->
  wpAny (model X.prog X.w) X.A f[v] (EP X aa σ Q) X.xe s
def Le(X:Cx)(f:aH)(r:lg V->Hp->VK->Prop):Prop:=
 ∀(aa:lg[aM×tu])(s:aN)(σ:St)(H:Hp)(xs:lg V)(us:lg aH)(Q:VK),Inv X aa σ H s->Vals xs us->r xs H Q->
  wpAny (model X.prog X.w) X.A (call f us) (EP X aa σ Q) X.xe s
def tOp(r:R2)(ta tb:TE):TE:=λσ H Q=>ta σ H λx H1=>tb σ H1 λy H2=>r x y H2 Q
def rI(C:Int->Int->Prop)(g:Int->Int->V):R2:=λx y H Q=>∃i j,x=.int i/\y=.int j/\C i j/\Q (g i j) H
def rI0(g:Int->Int->V):R2:=λx y H Q=>∃i j,x=.int i/\y=.int j/\Q (g i j) H
def rU(g:Int->V):V->Hp->VK->Prop:=λx H Q=>∃i,x=.int i/\Q g[i] H
section
def Bhs(C:PE X a o)(B:PE X b n){k:lg[aM×tu]}{s:aN}{c:St}{H:Hp}{R:V->V->Hp->Prop}(I:Inv X k c H s)(h:o c H λx l=>n c l λy d=>R x y d){Q:aH->aN->Prop}{f:aH->aH->Sem aH}(hf:∀v u j x y d,Inv X k c d j->RelV x v->RelV y u->R x y d->wpAny (model X.prog X.w) X.A (f v u) Q X.xe j):
  wpAny (model X.prog X.w) X.A (eval a X.env) (λv g=>wpAny (model X.prog X.w) X.A (eval b X.env) (λu e=>wpAny (model X.prog X.w) X.A (f v u) Q X.xe e) X.xe g) X.xe s:=(thn[C k s c H _ I h] λv p ⟨x,l,I1,r1,q1⟩=>thn[B k p c l _ I1 q1] λu j ⟨y,d,I2,r2,q2⟩=>hf v u j x y d I2 r1 r2 q2)
def opI{C:Int->Int->Prop}{g:Int->Int->Int}(b:∀(i j:Int)(t u:Tok)(s:aN)(Q:aH->aN->Prop)(E:aH->aN->Prop),C i j->Q .int[g i j][s.toks] { s with toks:=s.toks+1 }->wpAny (model X.prog X.w) X.A f[.int i t][.int j u] Q E s):
  OpR X f (rI C λi j=>.int[g i j]):=by
 intro n s m H x y v u Q I e d h;let(i,j,rfl,rfl,k,q):=h;let(t,rfl):=e;let(c,rfl):=d;exact b i j t c s _ _ k (.int _,H,I.tok _,(_,rfl),q)
def Bht{g:Int->Int->Int}(b:∀(i j:Int)(t u:Tok)(s:aN)(Q:aH->aN->Prop)(E:aH->aN->Prop),Q .int[g i j][s.toks] { s with toks:=s.toks+1 }->wpAny (model X.prog X.w) X.A f[.int i t][.int j u] Q E s):
  OpR X f (rI0 λi j=>.int[g i j]):=by
 intro m s l H x y v u Q I e d h;let(i,j,rfl,rfl,q):=h;let(t,rfl):=e;let(c,rfl):=d;exact b i j t c s _ _ (.int _,H,I.tok _,(_,rfl),q)
def Bcl{g:Int->Int->Bool}(a:∀(i j:Int)(t u:Tok)(s:aN)(Q:aH->aN->Prop)(E:aH->aN->Prop),Q .bool[g i j] s->wpAny (model X.prog X.w) X.A f[.int i t][.int j u] Q E s):
  OpR X f (rI0 λi j=>.bl[g i j]):=by
 intro n s m H x y v u Q I k e h;let(i,j,rfl,rfl,q):=h;let(t,rfl):=k;let(d,rfl):=e;exact a i j t d s _ _ (.bl _,H,I,rfl,q)
def Bos(i j:Int):Prop:=0 < j/\j < 1073741824
def Bot(i j:Int):Prop:=0<=j/\j<=1000000/\i.natAbs < 2 ^ 64
def Bcm(i j:Int):Prop:=(-(2 ^ 64) < i/\i < 2 ^ 64)\/(-(2 ^ 64) < j/\j < 2 ^ 64)
def Bcm.ok{i j:Int}(h:Bcm i j):IntMulOk i j:=by
 rcases h with ⟨b,a⟩|⟨b,a⟩
 .exact .of_left[aBu b a]
 .exact .of_right[aBu b a]
def Bhu:OpR X binaryOp[.Add] (rI0 λi j=>.int[i+j]):=Bht λuu uu uu uu uu uu uu q=>add_int q
def Bhv:OpR X binaryOp[.Sub] (rI0 λi j=>.int[i - j]):=Bht λuu uu uu uu uu uu uu q=>sub_int q
def Bhw:OpR X binaryOp[.Mult] (rI Bcm λi j=>.int[i * j]):=opI λuu uu uu uu uu uu uu hc q=>mul_int q hc.ok
def unI{g:Int->Int}(a:∀(i:Int)(t:Tok)(s:aN)(Q:aH->aN->Prop)(E:aH->aN->Prop),Q (.int g[i] s.toks) { s with toks:=s.toks+1 }->wpAny (model X.prog X.w) X.A f[.int i t] Q E s):
  UnR X f (rU λi=>.int g[i]):=by
 intro j s e H x v Q I c h;let(i,rfl,q):=h;let(t,rfl):=c;exact a i t s _ _ (.int _,H,I.tok _,(_,rfl),q)
end
section
def Kv(I:Inv X c a H s)(q:Q .bl[k] H)(e:k=b):EP X c a Q .bool[b] s:=by
 subst e;exact(.bl k,H,I,rfl,q)
def Bls:OpR X compareOp[.Lt] (rI0 λi j=>.bl decide[i < j]):=Bcl λuu uu uu uu uu uu uu q=>lt_int q
def Blt:OpR X compareOp[.LtE] (rI0 λi j=>.bl decide[i<=j]):=Bcl λuu uu uu uu uu uu uu q=>le_int q
def Blu:OpR X compareOp[.Gt] (rI0 λi j=>.bl decide[j < i]):=Bcl λuu uu uu uu uu uu uu q=>gt_int q
def Blv:OpR X compareOp[.GtE] (rI0 λi j=>.bl decide[j<=i]):=Bcl λuu uu uu uu uu uu uu q=>ge_int q
def Au8:OpR X compareOp[.In] (λx y H Q=>∃i j,x=.str i/\y=.str j/\Q .bl[!(cQ j i 0 j.length 1).isEmpty] H):=by
 intro e s c H x y v u Q I b a h;let(i,j,rfl,rfl,q):=h;let(t,rfl):=b;let(d,rfl):=a;exact in_str[Kv I q rfl]
def Bhx:OpR X compareOp[.Is] (λx y H Q=>y=.non/\Q .bl[decide[x=.non]] H):=by
 intro d s c H x y v u Q I b a h;let(rfl,q):=h;cases a;refine is_none_gen[Kv I q ?_];cases x <;> first
  |rfl
  |(let(t,rfl):=b;rfl)
def Bcn:OpR X compareOp[.IsNot] (λx y H Q=>y=.non/\Q .bl[!decide (x=.non)] H):=by
 intro d s c H x y v u Q I b a h;let(rfl,q):=h;cases a;refine isnot_none_gen[Kv I q ?_];cases x <;> first
  |rfl
  |(let(t,rfl):=b;rfl)
def isObj:HO->Bool
 |.lst _=>t8
 |.ins _ _ _=>t8
 |_=>t7
def Wg{f:lg[aM×tu]}{s:aN}{c:St}{H:Hp}{a:aM}{o:HO}(I:Inv X f c H s)(h:H a=sr o)(p:isObj o=t8):∃ob,s.heap.get? a=sr ob/\ob.cls≠.type "tuple":=by
 cases o with
 |lst i=>
  obtain⟨_,d,n,_,e⟩:_:=I.hok a _ h;exact(_,e,(by show oV "list"≠_;trivial))
 |ins C j fs=>
  let(_,_,_,e,_):=I.hok a _ h;exact(_,e,(by simp))
 |_=>exact absurd (show t7=t8 from p) cC
def OpR.or(h:OpR X f r)(g:OpR X f e):OpR X f (λx y H Q=>r x y H Q\/e x y H Q):=by
 intro d s a H x y v u Q I c b q;rcases q with q|q
 .exact h d s a H x y v u Q I c b q
 .exact g d s a H x y v u Q I c b q
def Blw(t:TE):TT:=λσ H Q=>t σ H λx H'=>∃k,x=.bl k/\Q k H'
def Aqj(r r':R2)(ta tb tc:TE):TE:=λσ H Q=>ta σ H λx H1=>tb σ H1 λy H2=>r x y H2 λz H3=>∃k,z=.bl k/\
 (if k=t8 then tc σ H3 λw' H4=>r' y w' H4 Q else Q .bl[t7] H3)
def Axr(U:OpR X compareOp[n] r)(j:OpR X compareOp[g] N)(ha:PE X a B)(hb:PE X b A)(Z:PE X c w)(Y:autoParam (lastMarks [n,g] [b,c]=t7) zq5._auto_1):PE[X][.Compare a [n,g] [b,c] pos][Aqj r N B A w]:=by
 intro i s f H Q I h;refine Compare_chain (thn[ha i s f H _ I h] λv F ⟨x,H1,I1,r1,q1⟩=>chain_link (thn[hb i F f H1 _ I1 q1] λu E ⟨y,H2,I2,r2,q2⟩=>
  thn[U i E f H2 x y v u _ I2 r1 r2 q2] λd D ⟨z,H3,I3,r3,k,e,q3⟩=>?_)) Y
 subst e;cases r3;refine gP ?_;cases k with
 |false=>exact ite_ff (.bl t7,H3,I3,rfl,q3)
 |true=>exact ite_tt chain_last[thn[Z i D f H3 _ I3 q3] λt C ⟨z',H4,I4,r4,q4⟩=>j i C f H4 y z' u t Q I4 r2 r4 q4]
def Axs(ho:OpR X compareOp[n] r)(j:OpR X compareOp[g] P)(ha:PE X a C)(hb:PE X b B)(hc:PE X c A)(hm:autoParam (lastMarks [n,g] [b,c]=t7) zq5._auto_1):PT X (.Compare a [n,g] [b,c] pos) Blw[Aqj r P C B A]:=by
 intro i s f H Q I h;refine isTrue_chain (thn[ha i s f H _ I h] λv G ⟨x,H1,I1,r1,q1⟩=>test_link (thn[hb i G f H1 _ I1 q1] λu F ⟨y,H2,I2,r2,q2⟩=>
  thn[ho i F f H2 x y v u _ I2 r1 r2 q2] λd E ⟨z,H3,I3,r3,k,e,q3⟩=>?_)) hm
 subst e;cases r3;refine gP ?_;cases k with
 |false=>
  let(k',e',Z):=q3;cases e';exact ite_ff (H3,I3,Z)
 |true=>
  refine ite_tt test_last[thn[hc i E f H3 _ I3 q3] λw D ⟨z',H4,I4,r4,q4⟩=>thn[j i D f H4 y z' u w _ I4 r2 r4 q4] λd' s5 q=>?_];let(z2,H5,I5,J,k2,e2,S):=q;subst e2;cases J;exact gP (H5,I5,S)
def Afe:(sizeLine:Nat) < 2 ^ 63:=by decide
def Aqk:OpR X binaryOp[.Add] (λx y H Q=>∃i j,x=.str i/\y=.str j/\i.length+j.length<=sizeLine/\Q .str[i ++ j] H):=by
 intro f s e H x y v u Q I c b h;let(i,j,rfl,rfl,d,q):=h;let(t,rfl):=c;let(a,rfl):=b;exact add_str (λa tk=>(.str _,H,I.tok _,(_,rfl),q)) d
def vals1(r:Vals [x] a):∃u,a=[u]/\RelV x u:=by
 cases r with
 |cons c b=>cases b;exact(_,rfl,c)
def vals2(r:Vals [x,y] b):∃u a,b=[u,a]/\RelV x u/\RelV y a:=by
 cases r with
 |cons f e=>
  cases e with
  |cons d c=>cases c;exact(_,_,rfl,f,d)
def Bou(K:aF)(x:V)(H:Hp)(n:Nat):Prop:=
 match x with
 |.str y=>y.length<=sizeLine/\n=y.length
 |.byt y=>y.size<=sizeLine/\n=y.size
 |.ref p=>(∃xs,SqL K H p xs/\n=xs.length)\/∃xs,SqT K H p xs/\n=xs.length
 |_=>False
def Axt:Le X .builtin["len"] (λc H Q=>∃x n,c=[x]/\Bou X.K x H n/\Q .int[n] H):=by
 intro w s l H c m Q I r h;let(x,n,rfl,e,q):=h;let(u,rfl,d):=vals1 r;let v:=Afe;let o:sizeLine=16777216:=rJ;cases x with
 |str y=>
  let(t,rfl):=d;obtain⟨k,b⟩:_:=e;subst b;exact len_str () (.int _,H,I.tok _,(_,rfl),q)
 |byt y=>
  let(t,rfl):=d;obtain⟨k,b⟩:_:=e;subst b;exact PySem.W.len_bytes () (.int _,H,I.tok _,(_,rfl),q)
 |ref p=>
  cases d;let b:=e;rcases b with ⟨c,i,b⟩|⟨c,i,b⟩
  .subst b;let(g,f,pl,j):=I.list i;let a:=f.length;exact Calls.call_len_list pl.isList (by simp only[cG];omega) (.int c.length,H,I.tok _,(_,by simp only[cG];rw[a]),q)
  .subst b;let(g,f,pl,j):=I.tuple i;let a:=f.length;exact len_tuple pl (by simp only[cG];omega) (.int c.length,H,I.tok _,(_,by simp only[cG];rw[a]),q)
 |_=>exact(show False from e).elim
end
structure Au9(h:eE)(x dx C:aM)(mA:t6->Option aH):Prop where
 obj:h.get? x=sr (lQ C dx)
 ns:h.Ns1 dx mA
 ne:dx≠x
set_option tactic.hygienic true in
def Aim{h:eE}{g:aM}{d:t6->o9 aH}(n:h.Ns1 g d):∃c,h.get? g=sr c/\∀name,qN name c=sr d[name]:=by
 let(o,f,r,j,hd,l,_,k):=n;refine(o,j,λname=>?_);let e:=k name;unfold nsFind findBy at e;rw[<-Array.find?_toList] at e;unfold qN;rw[hd];dsimp only;split
 .rename_i y q;rw[q] at e;exact congrArg sr e
 .rename_i q;rw[q] at e;let a:f.toList.any (·.refKey)=t7:=by
   rw[xR];intro y i;let(z,t,b):=l y Array.mem_toList_iff.mp[i];simp[aFg,b]
  let m:¬ f.toList.any (·.refKey)=t8:=by rw[a];simp
  rw[dm m];exact congrArg sr e
def Au9.look(I:Au9 h x e C b):∃a,PySem.W.InstAt h x (lQ C e) C sr[a]/\∀name,qN name a=sr b[name]:=(
 let ⟨a,c,d⟩:=Aim I.ns
 (a,(I.obj,rfl,rfl,c),d))
section
def Axu{prog:cJ}{w:dZ}{A:fX}{E:aH->aN->Prop}{s:aN}{K:aF}{x g C f:aM}{b:t6->o9 aH}{name:t6}(X:K.In s.heap)(I:Au9 s.heap x g C b)(c:oY K C name=t8)(hf:cD K .ref[C] name=sr sr[.ref[f]])(e:uA K .ref[f]=t8)(i:b name=sy)(h:Q (u6 .ref[f] [.ref x]) s):
  wpAny (model prog w) A (getMethod .ref[x] name pl) Q E s:=by
 let(d,J,j):=I.look;exact PySem.W.method_fn X J (pW c).1 (pW c).2 hf beq_iff_eq.mp[e] (by show (qN name d).map _=_;simp_all) h
def Bco{prog:cJ}{w:dZ}{A:fX}{E:aH->aN->Prop}{s:aN}{K:aF}{x f C:aM}{g:t6->o9 aH}{name:t6}{v:aH}(X:K.In s.heap)(I:Au9 s.heap x f C g)(q:cD K .ref[C] "__setattr__"=sr sr[.builtin["object.__setattr__"]])(hp:rK K C=t8)(o:uL K C name=sr sy)(t:lY K C=t8)(n:xQ g ns)(p:ns.length<=sizeLine)(h:∀e,Au9 e x f C (λy=>if y=name then sr v else g y)->gM f s.heap e->Q u9 { s with heap:=e,toks:=s.toks+2 }):
  wpAny (model prog w) A (setAttr .ref[x] name v) Q E s:=by
 let(D,J,G):=I.look;refine PySem.W.set_plain X J q (PySem.W.osa_open (r:=sy) X J hp o λb=>?_);let(H,u,k):=PySem.W.any_some t;refine aA aJ[aA[aA[aAr I.obj aA[aEn[PySem.W.looks_clsIn X u][?_]]]]];rw[k];refine aJ (a:=sr f) aA[aJ[aA[?_]]];refine aCr I.ns λe d c=>?_;let(F,z,B,i,j,l):=d.count[aEz name v n];refine aA[yZ i (by rw[j];exact zE[aD l (by rw[bN];omega)]) ?_]
 exact aJ[h _ ((c.2 _ eG[I.ne]).trans I.obj,d,I.ne) c]
def Axv{prog:cJ}{w:dZ}{A:fX}{s:aN}{K:aF}{C f:aM}(X:K.In s.heap)(c:nG K C=t8)(hi:cD K .ref[C] "__init__"=sr sr[.ref[f]])(hf:iV K .ref[f]=sr .type["function"])(h:codeAny (model prog w) A.under[.builtin "type.__call__" (.ref C::a,b)] (.call .ref[f] (.ref[s.heap.objs.size+1]::a,b)) PySem.W.InitBack[s.heap.objs.size+1][R]
   { s with heap:=(s.heap.push lZ).push (lQ C s.heap.objs.size) }):
  codeAny (model prog w) A (.call .ref[C] (a,b)) R s:=(PySem.W.make_core[PySem.W.makes_of X c][PySem.W.looks_findIn X hi][λself=>PySem.W.bind_fn X self hf][.inl rfl][h])
end
def W6(f:t6)(v:V):lg[t6×V]->lg (t6×V)
 |[]=>[(f,v)]
 |(g,x)::r=>if g=f then (u6 g v)::r else (u6 g x)::W6 f v r
theorem Ac3(f g:t6)(v:V):∀fs:lg[t6×V],(W6 f v fs).lookup g=if g=f then sr v else fs.lookup g
 |[]=>by
  show jT g [(f,v)]=_;by_cases h:g=f
  .let a:(g==f)=t8:=beq_iff_eq.mpr h;simp only[jT,a,di h]
  .let a:(g==f)=t7:=beq_eq_false_iff_ne.mpr h;simp only[jT,a,dm h]
 |(k,x)::r=>by
  rw[show W6 f v ((u6 k x)::r)=(if k=f then (u6 k v)::r else _) from rfl]
  by_cases b:k=f
  .rw[di b];by_cases h:g=k
   .let a:(g==k)=t8:=beq_iff_eq.mpr h;simp only[jT,a,di h.trans[b]]
   .let a:(g==k)=t7:=beq_eq_false_iff_ne.mpr h;simp only[jT,a,dm (λe:g=f=>h e.trans[b.symm])]
  .rw[dm b];by_cases h:g=k
   .let a:(g==k)=t8:=beq_iff_eq.mpr h;simp only[jT,a,dm (λe:g=f=>b h.symm.trans[e])]
   .let a:(g==k)=t7:=beq_eq_false_iff_ne.mpr h;simp only[jT,a];exact Ac3 f g v r
theorem Abs(f:t6)(v:V):∀fs:lg[t6×V],f∈(W6 f v fs).map (·.1)/\∀g,g∈fs.map (·.1)->g∈(W6 f v fs).map (·.1)
 |[]=>(by simp[W6],λg h=>by simp_all)
 |(k,x)::r=>by
  let(d,c):=Abs f v r;rw[show W6 f v _=(if k=f then _ else _) from rfl]
  grind
theorem Ac4(f:t6)(v:V):∀fs:lg[t6×V],(W6 f v fs).length<=fs.length+1
 |[]=>by simp[W6]
 |(k,x)::r=>by
  let c:=Ac4 f v r;rw[show W6 f v _=(if k=f then _ else _) from rfl]
  grind
def W5.some_of(r:W5 sr[v] o):∃u,o=sr u/\RelV v u:=by
 cases o with
 |none=>trivial
 |some u=>exact(u,rfl,r)
def W5.none_of(r:W5 sy o):o=sy:=by
 cases o with
 |none=>rfl
 |some u=>trivial
def Ain(r:RelV v u):PySem.W.handedIn u=t8:=by
 cases v with
 |non=>cases (r);rfl
 |bl b=>cases (r);rfl
 |int i=>let(t,e):=(r);cases e;rfl
 |str x=>let(t,e):=(r);cases e;rfl
 |byt b=>let(t,e):=(r);cases e;rfl
 |flt b=>let(t,e):=(r);cases e;rfl
 |ref a=>cases (r);rfl
 |ty n=>cases (r);rfl
section
def Aej(hok:HOk P w H h)(e:H a=sr[.ins C c fs]):∃b,Au9 h a c C b/\(∀f,W5 fs.lookup[f] b[f])/\xQ b (fs.map (·.1))/\fs.length<=1000/\H c=sr .own[a]:=by
 let(d,z,ne,ob,b,n,r,q):=(hok a _ e);exact(b,(ob,n,ne),r,q,z,d)
end
structure Cls(K:aF)(C:aM):Prop where
 pg:oY K C aFh=t8
 hd:lY K C=t8
 po:rK K C=t8
 sa:cD K (.ref C) "__setattr__"=sr (sr (.builtin "object.__setattr__"))
def Cls.get{K:aF}{C:aM}(c:Cls K C)(f:t6):oY K C f=t8:=c.pg
def Q7(K:aF)(C:aM)(f:t6):Prop:=cD K .ref[C] f=sr sy
def Q7.taker{K:aF}{C:aM}{f:t6}(n:Q7 K C f):uL K C f=sr sy:=by
 unfold uL;rw[n];rfl
structure Meth(K:aF)(C:aM)(m:t6)(f:aM):Prop where
 at_:cD K (.ref C) m=sr (sr (.ref f))
 fn:uA K (.ref f)=t8
 kp:dD K (.ref f)=t8
section
def Aql(I:Inv X m i H s)(e:H a=sr[.ins C q fs])(c:Cls X.K C)(n:Q7 X.K C f)(l:fs.lookup f=sr v)(h:∀u d,Inv X m i H d->RelV v u->Q u d):wpAny (model X.prog X.w) A (getAttr .ref[a] f b) Q E s:=by
 let(j,O,r,_,_,_):=Aej I.hok e;let(u,hu,g):=W5.some_of (v:=v) (o:=j f) (by rw[<-l];exact r f)
 let(p,J,k):=O.look;exact PySem.W.get_value I.kIn J (pW c.get[f]).1 (vY c.hd n rfl (by rw[k,hu])) Ain[g] (h u _ I.tok[_] g)
def Afg(I:Inv X i b H s)(e:H a=sr[.ins C f fs])(c:Cls X.K C)(k:Meth X.K C m g)(l:fs.lookup m=sy)(h:Q (u6 .ref[g] [.ref a]) s):wpAny (model X.prog X.w) A (getMethod .ref[a] m pl) Q E s:=by
 let(d,O,r,_,_,_):=Aej I.hok e;exact Axu I.kIn O c.get[m] k.at_ k.fn (W5.none_of (by rw[<-l];simp_all)) h
def Aqm(I:Inv X J m H s)(e:H a=sr[.ins C d fs])(c:Cls X.K C)(n:Q7 X.K C f)(N:fs.length < 1000)(t:RelV y u)(h:∀k,Inv X J m (upd H a .ins[C][d][W6 f y fs]) k->Q u9 k):wpAny (model X.prog X.w) A (setAttr .ref[a] f u) Q E s:=by
 let(L,O,r,j,_,l):=Aej I.hok e;let v:(fs.map (·.1)).length<=sizeLine:=by rw[aC,rJ];omega
 refine Bco I.kIn O c.sa c.po n.taker c.hd j v λF i p=>h _ ?_;let hd:∃o,F.get? d=sr o:=let ⟨o,_,_,G,_⟩:=i.ns;(o,G);refine I.write (x:=a) (e:=d) (by rw[e];exact iM) .inr[l] (λb q D z=>(p.2 b D).trans z) hd ?_
 refine(by rw[Ax O.ne];exact l,?_,O.ne,i.obj,_,i.ns,λg=>?_,λg B=>?_)
 .have:=Ac4 f y fs;omega
 .rw[Ac3];by_cases q:g=f
  .rw[di q,di q];exact t
  simp_all
 .by_cases q:g=f
  .rw[q];exact(Abs f y fs).1
  .refine(Abs f y fs).2 g (j g λz=>B ?_);simp_all
def Inv.made(I:Inv X j f H s):Inv X j f upd[upd H s.heap.objs.size .own[s.heap.objs.size+1]][s.heap.objs.size+1][.ins C s.heap.objs.size []]
  { s with heap:=(s.heap.push lZ).push (lQ C s.heap.objs.size) }:=by
 let d:_=sr lZ:=aW s.heap rfl;let i:=by
  have:=aW s.heap.push[lZ] (o:=lQ C s.heap.objs.size) rfl
  rwa [fY] at this
 let k:=I.laid (a:=s.heap.objs.size) (o:=.own[s.heap.objs.size+1]) (t':=s.toks) (λb u q=>aG _ q) aO[_] (_,d);refine k.laid (λb u q=>aG _ q) lG[fY _ _] ?_;let ne:s.heap.objs.size≠s.heap.objs.size+1:=cB gY[_];refine(by rw[Ax ne,Bd],cY _,ne,i,λc=>sy,(xT (lZ,#[],_,d,rfl,(λe h=>absurd h (by simp)),λc=>rfl)).at λo q=>aG _ q,λc=>iM,λy g=>absurd rfl g)
end
def Bov(K:aF)(ta tv:TE)(f:t6):TS:=λD σ H=>tv σ H λy H1=>ta σ H1 λx H2=>∃a C dx fs,x=.ref a/\H2 a=sr[.ins C dx fs]/\Cls K C/\Q7 K C f/\fs.length < 1000/\
 D.nx σ (upd H2 a .ins[C][dx][W6 f y fs])
section
def Bhy(w:PE X o j)(t:PE X value i)(v:swapsWith value sr[.Attribute o f b] e.line X.env=pure t7):PS[X][.Assign [.Attribute o f b] value e][Bov X.K j i f]:=by
 intro g s d H D I h;refine oM (thn[t g s d H _ I h] λu k ⟨y,H1,I1,ry,q⟩=>thn[w g k d H1 _ I1 q] λL J ⟨x,H2,I2,rx,a,C,dx,fs,ex,ea,c,n,l,q2⟩=>?_) v;subst ex;obtain rfl:_:=rx;exact Aqm I2 ea c n l ry λG A=>(d,_,A,q2)
def Blx:V->V->Hp->VK->Prop:=λx y H Q=>∃i j,x=.int i/\y=.int j/\Q .int[i+j] H
def Bly:V->V->Hp->VK->Prop:=λx y H Q=>∃i j,x=.int i/\y=.int j/\Q .int[i - j] H
end
section
inductive Abt(K:aF)(H:Hp):V->aH->Prop where
 |non:Abt K H .non (.type "NoneType")
 |bl (x:Bool):Abt K H (.bl x) (.type "bool")
 |int (i:Int):Abt K H (.int i) (.type "int")
 |str (x:t6):Abt K H (.str x) (.type "str")
 |flt (x:UInt64):Abt K H (.flt x) (.type "float")
 |lst {a:aM} {xs:List V} (e:H a=sr (.lst xs)):Abt K H (.ref a) (.type "list")
 |frz {a:aM} {o:tu} {xs:List V} (e:H a=sr (.frz o (.lst xs))):Abt K H (.ref a) (.type "list")
 |tup {a:aM} {xs:List V} (e:H a=sr (.tup xs)):Abt K H (.ref a) (.type "tuple")
 |dK {a:aM} {kvs:List (Key×V)} (e:H a=sr (.dK kvs)):Abt K H (.ref a) (.type "dict")
 |dT {a:aM} {kvs:List (List Key×V)} (e:H a=sr (.dT kvs)):Abt K H (.ref a) (.type "dict")
 |ins {a C dx:aM} {fs:List (t6×V)} (e:H a=sr (.ins C dx fs)) (cl:Cls K C) (ha:cD K (.ref C) "__class__"=sr (sr (.builtin "object.__class__")))
   (hn:rM K (.builtin "object.__class__") "__get__"=sr (sr (.builtin "getset_descriptor.__get__"))) (htk:PySem.W.takesIn K (.builtin "object.__class__")=sr t8)
   (hm:lW K C (.type "object")=sr t8):Abt K H (.ref a) (.ref C)
def Ava(I:Inv X T G H s)(d:RelV x u)(ty:Abt X.K H x t)(e:kY X.K t c=sr b)(h:∀tk,Q .bool[b] { s with toks:=tk }):
  wpAny (model X.prog X.w) A (call .builtin["isinstance"] [u,c]) Q E s:=by
 cases ty with
 |non=>cases (show u=gF from d);exact fZ PySem.W.kitx_none I.kIn iM e (λz=>nomatch z) h
 |bl y=>cases (show u=tZ y from d);exact fZ PySem.W.kitx_bool I.kIn iM e (λz=>nomatch z) h
 |int i=>let(t,q):=(show ∃t,u=yV i t from d);cases q;exact fZ PySem.W.kitx_int I.kIn iM e (λz=>nomatch z) h
 |str y=>let(t,q):=(show ∃t,u=yW y t from d);cases q;exact fZ PySem.W.kitx_str I.kIn iM e (λz=>nomatch z) h
 |flt y=>let(t,q):=(show ∃t,u=aDp y t from d);cases q;exact fZ PySem.W.kitx_float I.kIn iM e (λz=>nomatch z) h
 |@lst a l f=>
  cases (show u=bQ a from d);let(_,_,n,_,g):=(I.hok a _ f);exact fZ xU I.kIn (_,g,rfl) e (λz=>nomatch z) h
 |@frz a ob l f=>
  cases (show u=bQ a from d);let(_,_,_,n,_,g):=(I.hok a _ f);exact fZ xU I.kIn (_,g,rfl) e (λz=>nomatch z) h
 |@tup a l f=>
  cases (show u=bQ a from d);let(_,_,_,p):=(show Eh X.prog X.w H s.heap a .tup[l] from I.hok a _ f);let(o,g,k,_):=p;exact fZ PySem.W.kitx_tuple I.kIn (o,g,k) e (λz=>nomatch z) h
 |@dK a j f=>
  cases (show u=bQ a from d);let(_,_,L,_,p):=(show Eh X.prog X.w H s.heap a .dK[j] from I.hok a _ f);let(o,D,F,g,k,_):=p;exact fZ xV I.kIn (o,g,k.1) e (λz=>nomatch z) h
 |@dT a j f=>
  cases (show u=bQ a from d);let(_,_,l,_,o,D,F,g,k,_):=(show Eh X.prog X.w H s.heap a .dT[j] from I.hok a _ f);exact fZ xV I.kIn (o,g,k.1) e (λz=>nomatch z) h
 |@ins a C S fs f cl B r m v=>
  cases (show u=bQ a from d);let(P,O,_):=Aej I.hok f;let(N,J,_):=O.look;exact fZ (PySem.W.kitx_own cl.get[_] cl.hd B r m v) I.kIn J e (λz=>nomatch z) h
end
structure Ho(k:Nat)(A:fX)(cm:Bool:=true):Prop where
 hd:cm=t8->A.handled=sy
 dp:A.depth+3 * k+5 < recursionLimit
 un:A.units+16 * k+200 < cLine
theorem Ho.mono{j k:Nat}(r:Ho k A a)(h:j<=k):Ho j A a:=(r.hd,by have:=r.dp;omega,by have:=r.un;omega)
def Ho.deeper{k:Nat}(r:Ho (k+1) A a)(env:Env):Ho k A.deeper[env] a:=(
 (r.hd,by have:=r.dp;show A.depth+1+3 * k+5 < _;omega,by have:=r.un;show A.units+3+_+200 < _;omega))
def Aqn{A:fX}{C:aM}{b:lg aH}{c:lg[t6×aH]}:(A.under[.builtin "type.__call__" (.ref C::b,c)]).depth=A.depth+1:=by rfl
def Aqo{A:fX}{C:aM}{us:lg aH}{kw:lg[t6×aH]}:(A.under[.builtin "type.__call__" (.ref C::us,kw)]).units=A.units+1:=rfl
def Ho.make{k:Nat}(r:Ho (k+1) A d)(C:aM)(b:lg aH)(c:lg[t6×aH]):Ho k A.under[.builtin "type.__call__" (.ref C::b,c)] d:=(
 (r.hd,by have:=r.dp;rw[Aqn];omega,by have:=r.un;rw[Aqo];omega))
def Ho.depth{k:Nat}(r:Ho k A b):A.depth < recursionLimit:=by have:=r.dp;omega
def Bhz:TA:=λuu H Q=>Q [] H
def Asz(ta:TE)(tr:TA):TA:=λσ H Q=>ta σ H λx H1=>tr σ H1 λxs H2=>Q (x::xs) H2
section
def Aj7:PA X [] Bhz:=λuu uu uu uu H Q I h=>Calls.spliced_nil ([],H,I,.nil,h)
def Aah(p:PE X e g)(o:PA X c t)(n:autoParam (starEach (e::c) X.env=(u6 t7 (eval e X.env))::starEach c X.env) zq2._auto_1):PA X (e::c) (Asz g t):=by
 intro a f s d H Q I h;rw[n];show wpAny _ _ (spliced ((u6 t7 (eval e X.env))::backTo a _)) _ _ s;exact Calls.spliced_cons[thn[p f s d H _ I h] λu i ⟨x,H1,I1,r1,q1⟩=>thn[o a f i d H1 _ I1 q1] λz A ⟨xs,H2,I2,r2,q2⟩=>(_,H2,I2,.cons r1 r2,q2)]
def Bow(t:TA):TE:=λσ H Q=>t σ H λxs H1=>xs.length<=sizeLine/\∀p,H1 p=sy->Q[.ref p][upd H1 p .tup[xs]]
def Box(t:TA):TE:=λσ H Q=>t σ H λxs H1=>xs.length<=sizeLine/\∀p,H1 p=sy->Q[.ref p][upd H1 p .lst[xs]]
end
abbrev Sp:=lg V->Hp->VK->XK->Prop
abbrev CXT:=lg Env->Hp->aN->XK->aH->aN->Prop
structure Aqp(P:cJ)(w:dZ)(K:aF)(mg:t6->Option aH)(base:eE)(A:fX)(outer:List Env)(s:aN)(H:Hp):Prop where
 frames:A.frames=sr outer
 mod:Mod K mg base
 bs:∀b o,base.get? b=sr o->s.heap.get? b=sr o/\H b=sy
 bsz:base.objs.size<=s.heap.objs.size
 funs:s.heap.FunFrames base outer
 frf:∀b∈frs outer,H b=sy
 hok:HOk P w H s.heap
 bare:qC s.gens
inductive CE(outer:List Env)(P:cJ)(w:dZ)(H:Hp)(s:aN)(Q:VK)(u:aH)(s':aN):Prop
 |mk (v:V) (H':Hp) (os:s'.os=s.os) (b:qC s'.gens) (un:Un (frs outer) [] H H' s.heap s'.heap) (ok:HOk P w H' s'.heap) (r:RelV v u) (q:Q v H'):CE outer P w H s Q u s'
def CR(CX:CXT)(outer:lg Env)(P:cJ)(w:dZ)(H:Hp)(s:aN)(Q:VK)(E:XK)(r:Result)(s':aN):Prop:=
 match r with
 |.ok (.ret u)=>CE outer P w H s Q u s'
 |.ok _=>False
 |.error e=>CX outer H s E e s'
structure Ib(P:cJ)(w:dZ)(K:aF)(mg:t6->Option aH)(base:eE)(CX:CXT)(k:Nat)(f:aM)(fd:eX)(ps:List t6)(sp:Sp)(cm:Bool:=true):Prop where
 len:∀vs H Q E,sp vs H Q E->vs.length=ps.length
 run:∀(A:fX)(outer:List Env)(s:aN)(H:Hp)(args:Args)(us:List aH)(vs:List V)(Q:VK)(E:XK),Ho k A cm->Aqp P w K mg base A outer s H->xW s fd args (ps.zip us)->Vals vs us->sp vs H Q E->
  codeAny (model P w) A (.call (.ref f) args) (CR CX outer P w H s Q E) s
theorem Ib.mono{P:cJ}{w:dZ}{K:aF}{mg:t6->o9 aH}{base:eE}{g:CXT}{j k:Nat}{f:aM}{fd:eX}{ps:lg t6}{c:Sp}{d:Bool}(F:Ib P w K mg base g j f fd ps c d)(h:j<=k):
  Ib P w K mg base g k f fd ps c d:=(F.len,λA outer s H a m l Q E n=>F.run A outer s H a m l Q E n.mono[h])
theorem Aqp.make{P:cJ}{w:dZ}{K:aF}{mg:t6->o9 aH}{base:eE}{A:fX}{outer:lg Env}{s:aN}{H:Hp}(e:Aqp P w K mg base A outer s H)(C:aM)(c:lg aH)(d:lg[t6×aH]):
  Aqp P w K mg base A.under[.builtin "type.__call__" (.ref C::c,d)] outer s H:=(by first|exact e.frames|rfl,e.mod,e.bs,e.bsz,e.funs,e.frf,e.hok,e.bare)
section
def Inv.env0(I:Inv X b a H s):Aqp X.prog X.w X.K X.mg X.base X.A X.stack s H:=(
 (I.ok.frames,I.ok.mod,I.bs,aD I.ok.bsz I.sz,I.stack,I.stkFree,I.hok,I.bare))
def Inv.after(I:Inv X f c H s)(h:CE X.stack X.prog X.w H s Q u a):EP X f c Q u a:=by
 let(v,i,os,bare,un,hok,r,q):=h;let(j,g,d,t,e):=a;obtain rfl:_:=os;exact(v,i,I.call un hok bare (λb z=>absurd z (by simp)),r,q)
end
def Binds(K:aF)(fd:eX)(ps:lg t6)(ds:lg aH):Prop:=
 ∀(s:aN)(us:lg aH),K.In s.heap->(us ++ ds).length=ps.length->xW s fd (us,[]) ps.zip[us ++ ds]
def Binds.all{K:aF}{fd:eX}{ps:lg t6}(h:∀a:lg aH,a.length=ps.length->bindArgs fd (a,[])=pure ps.zip[a]):Binds K fd ps []:=(λs a e c=>by
 rw[bC] at c ⊢
 exact .of_eq[h a c])
section
variable{k:Nat}
structure Mk(K:aF)(C f:aM):Prop where
 makes:nG K C=t8
 init:cD K (.ref C) "__init__"=sr (sr (.ref f))
 fn:uA K (.ref f)=t8
 kp:dD K (.ref C)=t8
end
def PK(X:Cx)(kws:lg iQ)(t:TA):Prop:=
 ∀(pos:Pos)(aa:lg[aM×tu])(s:aN)(σ:St)(H:Hp)(Q:lg V->Hp->Prop),Inv X aa σ H s->t σ H Q->wpAny (model X.prog X.w) X.A (evalAll ((backToKw pos (keywordEach kws X.env)).map (·.2))) (AP X aa σ Q) X.xe s
section
variable{k:Nat}
def Bcp(ha:PE X e te)(hr:PK X kws t):PK X ((nm,e,kpos)::kws) (Asz te t):=λpos aa s σ H Q I h=>wpAny_evalAll_cons aA[thn[ha aa s σ H _ I h] λu s1 ⟨x,H1,I1,r1,q1⟩=>aA iR[aJ[thn[hr pos aa s1 σ H1 _ I1 q1] λus s2 ⟨xs,H2,I2,r2,q2⟩=>(_,H2,I2,.cons r1 r2,q2)]]]
end
structure Gs(N P:List t6)(sc:kJ):Prop where
 kind:sc.kind=.function
 co:sc.isCoroutine=t7
 gen:sc.isGenerator=t7
 nd:N.Nodup
 pre:N.take P.length=P
 par:∀x∈P,sc.names.lookup x=sr .local\/sc.names.lookup x=sr .cell
 nofree:∀y∈sc.names,y.2≠.free
theorem Aio{kindOf:t6->o9 mK}{x:t6}:∀{binds:lg[t6×aH]} {m:t6->o9 aH},(∀v,(u6 x v)∉binds)->bindL kindOf binds m x=m x
 |[],_,_=>rfl
 |(n,v)::r,m,h=>by
  unfold bindL;rw[Aio λw c=>h w (bD _ c)];split
  .have:x≠n:=by rintro rfl;exact h v bJ
   simp_all
  rfl
theorem Aip{kindOf:t6->o9 mK}{x:t6}:∀{binds:lg[t6×aH]} {m:t6->o9 aH},(∀v,(u6 x v)∉binds)->bindC kindOf binds m x=m x
 |[],_,_=>rfl
 |(n,v)::r,m,h=>by
  unfold bindC;rw[Aip λw c=>h w (bD _ c)];split
  .rfl
  .have:x≠n:=by rintro rfl;exact h v bJ
   simp_all
theorem Aiq{kindOf:t6->o9 mK}{x:t6}{v:aH}:∀{P:lg t6} {b:lg aH} {i:Nat} {m:t6->o9 aH},P.Nodup->P[i]?=sr x->b[i]?=sr v->kindOf x=sr .local->
  bindL kindOf P.zip[b] m x=sr v
 |[],_,_,_,_,h,_,_=>by trivial
 |_,[],_,_,_,_,h,_=>by trivial
 |p::P,w::b,0,m,nd,f,e,d=>by
  simp at f e;subst f;subst e;show bindL kindOf ((u6 p w)::P.zip b) m p=_;unfold bindL;rw[Aio λv g=>(jQ.mp nd).1 (uM g).1,di d];simp
 |p::P,w::b,i+1,m,nd,f,e,d=>by
  unfold bindL;exact Aiq (jQ.mp nd).2 (by trivial) (by trivial) d
theorem Air{kindOf:t6->o9 mK}{x:t6}{v:aH}:∀{P:lg t6} {b:lg aH} {i:Nat} {m:t6->o9 aH},P.Nodup->P[i]?=sr x->b[i]?=sr v->kindOf x≠sr .local->
  bindC kindOf P.zip[b] m x=sr v
 |[],_,_,_,_,h,_,_=>by trivial
 |_,[],_,_,_,_,h,_=>by trivial
 |p::P,w::b,0,m,nd,f,e,d=>by
  simp at f e;subst f;subst e;show bindC kindOf ((u6 p w)::P.zip b) m p=_;unfold bindC;rw[Aip λv g=>(jQ.mp nd).1 (uM g).1,dm d];simp
 |p::P,w::b,i+1,m,nd,f,e,d=>by
  unfold bindC;exact Air (jQ.mp nd).2 (by trivial) (by trivial) d
def start(N:lg t6)(vs:lg V):St:=vs.map sr ++ cA (N.length - vs.length) sy
def Abu(CX:CXT)(P:cJ)(w:dZ)(K:aF)(mg:t6->o9 aH)(base:eE)(N:lg t6)(aj:t6)(scope:kJ)(f:aM)(cd:aH)(A:fX)(outer:lg Env)(s:aN)(H:Hp)(E:XK)(cm:Bool:=true):Cx where
 prog:=P
 w:=w
 K:=K
 mg:=mg
 base:=base
 A:=A.deeper (envOfC aj scope s.heap.objs.size f cd)
 N:=N
 s₀:=s
 H₀:=H
 env:=envOfC aj scope s.heap.objs.size f cd
 outer:=outer
 stack:=envOfC aj scope s.heap.objs.size f cd::outer
 ex:=[]
 calm:=cm
 fn:=λuu=>t8
 pn:=[]
 xe:=λe s'=>wpAny (model P w) A.deeper[envOfC aj scope s.heap.objs.size f cd] leaving[envOfC aj scope s.heap.objs.size f cd][e] (λuu s''=>CX outer H s E e s'') (λe' s''=>CX outer H s E e' s'') s'
def Am9{sc:kJ}{n:Nat}{x:t6}(h:sc.names.lookup x=sr .cell):∃c,(cellsFrom n sc.names []).lookup x=sr c:=mY.mp[uB sc.names n [] .inl[h]]
def Avb{I:Bool}{O:CXT}{P:cJ}{w:dZ}{K:aF}{mg:t6->o9 aH}{base:eE}{N ps:lg t6}{F:t6}{scope:kJ}{f:aM}{D:aH}{A:fX}{outer:lg Env}{s J:aN}{H:Hp}{E:XK}{G:lg aH}{l:lg V}(S:Gs N ps scope)(hd:I=t8->A.handled=sy)(j:Aqp P w K mg base A outer s H)(hl:l.length=ps.length)(r:Vals l G)(x:InCallC s s.heap.objs.size (bindL (envOfC F scope s.heap.objs.size f D).kindOf ps.zip[G] λB=>sy) cellsFrom[s.heap.objs.size+1][scope.names][[]] (bindC (envOfC F scope s.heap.objs.size f D).kindOf ps.zip[G] λB=>sy) J):
  Inv (Abu O P w K mg base N F scope f D A outer s H E I) [] (start N l) H J:=by
 let U:ps.length<=N.length:=by have:=congrArg nU S.pre;rw[dO] at this;omega
 let(C,tk,rfl,L):=x.done;let m:∀b:aM,b∉(Abu O P w K mg base N F scope f D A outer s H E I).ex:=λb z=>absurd (show b∈([]:lg aM) from z) (by simp)
 refine((j.mod,S.kind,rfl,rfl,aO _,λy z c C g=>?_,λy hy=>?_,λy c B h=>?_,hd,Around.frames_deeper j.frames,.inr (rfl,rfl),λb z=>absurd z m[b],j.bs,j.bsz,λb B B=>m b,λb z=>absurd z m[b],j.funs,j.frf),
  rfl,j.bare,Un.kept L,(_,x.toInCall.ns,λi y v C g h3=>?_),λy c h=>(_,x.cell y c h),j.hok.fresh aO[_],λy c h=>?_,λp hp=>absurd (show p∈([]:lg[aM×tu]) from hp) (by simp),j.hok.kept L,?_)
 .exact name_of_addr x.apart jA[C] jA[g]
 .let hy:scope.names.lookup y=sr .cell\/scope.names.lookup y=sr .free:=hy;rcases hy with hy|hy
  .exact Am9 hy
  .exact absurd rfl (S.nofree _ jA[hy])
 .exact fH[x.above y c jA[h]]
 .let hi:i < l.length:=by
   unfold start at g;by_cases hi:i < l.length
   .exact hi
   .rw[bB[by simpa using hi]] at g
    rw[kZ] at g;split at g <;> cases g
  let X:l[i]?=sr v:=by
   unfold start at g;rw[aX[by simpa using hi],cH] at g
   cases e:l[i]? with
   |none=>rw[e] at g;cases g
   |some a=>rw[e] at g;cases g;rfl
  let(u,hu,T):=r.get X;let hp:ps[i]?=sr y:=by
   rw[<-S.pre,List.getElem?_take_of_lt ()];exact C
  let o:ps.Nodup:=by rw[<-S.pre];exact S.nd.sublist[List.take_sublist _ _]
  refine(u,T,?_);rcases S.par y jU[hp] with k|k
  .exact .inl (k,Aiq o hp hu k)
  .let(c,e):=Am9 (n:=s.heap.objs.size+1) k;refine .inr (.inl k,c,e,?_);let q:=x.cell y c e;rw[Air o hp hu (by show scope.names.lookup y≠_;rw[k];decide)] at q
   exact q
 .exact j.hok.fresh fH[x.above y c jA[h]]
 .unfold start;show _=N.length;rw[aU,aC,fG];omega
def Blz{C:Bool}{U:CXT}{P:cJ}{w:dZ}{K:aF}{mg:t6->o9 aH}{base:eE}{k:Nat}{f:aM}{name j:t6}{params:Arguments}{body:lg dI}{scope:kJ}{Y kV z X a ct oc:aH}{an od:o9 aM}{I:Array o9[aH]}{N ps:lg t6}{D:Sp}(lk:K.lookup f=sr (oc,od,.func[dR name j params body scope Y kV z X an a ct],I))(T:lA K a j=t8)(S:Gs N ps scope)(len:∀g H Q E,D g H Q E->g.length=ps.length)(hbody:∀(A:fX)(outer:lg Env)(s:aN)(H:Hp)(g:lg V)(Q:VK)(E:XK),Ho k A.deeper[envOfC j scope s.heap.objs.size f a] C->D g H Q E->
   ∃t,PSs (Abu U P w K mg base N j scope f a A outer s H E C) body t/\t { nx:=λuu h=>Q .non h,rt:=Q } (start N g) H):
  Ib P w K mg base U (k+1) f (dR name j params body scope Y kV z X an a ct) ps D C:=by
 refine(len,λA outer s H Z us g Q E O p hb r l=>?_);let hl:=len _ _ _ _ l;let KX:K.In s.heap:=p.mod.kin.keeps λb o e=>(p.bs b o e).1;let L:s.heap.NoLimit:=p.mod.nolimit.keeps λb o e=>(p.bs b o e).1;let az:∀y∈ps.zip us,scope.names.lookup y.1=sr .local\/(scope.names.lookup y.1=sr .cell/\((cellsFrom (s.heap.objs.size+1) scope.names []).lookup y.1).isSome=t8):=λzz hy=>by
  let(n,v):=zz;rcases S.par n (uM hy).1 with q|q
  .exact .inl q
  .exact .inr (q,uB _ _ _ .inl[q])
 refine codeAny_call_function O.depth (KX _ _ lk) rfl S.co S.gen rfl (PySem.W.codeRec_of KX T) (hb _ _ _ _ ?_);refine wpAny_newFunctionEnv_cells S.kind az λenv he s1 x=>?_;subst he;refine(L.keeps x.toInCall.keep,codeAny_func ?_);let(t,ht,hq):=hbody A outer s H g Q E O.deeper[_] l;refine dX[ht [] s1 (start N g) H _ (Avb S O.hd p hl r x) hq][λfl F i=>?_] λe F i=>i;let m:∀{d:St} {h:Hp} {v:V} {u:aH},Inv (Abu U P w K mg base N j scope f a A outer s H E C) [] d h F->RelV v u->Q v h->CE outer P w H s Q u F:=
  λ{d h v u} J G q=>(v,h,J.os,J.bare,J.base,J.hok,G,q)
 cases fl with
 |ret u=>
  let(v,d,h,J,G,q):=i;exact m J G q
 |next=>
  let(d,h,J,q):=i;exact m (v:=V.non) (u:=gF) J rfl q
 |brk=>
  let(_,_,_,q):=i;exact gU q
 |cont=>
  let(_,_,_,q):=i;exact gU q
section
def tCB(r:lg V->Hp->VK->Prop)(t:TA):TE:=λσ H Q=>t σ H λvs H1=>r vs H1 Q
def Ais(y:Le X .type[T] r)(v:Gl X x)(u:X.mg x=sy)(o:bootBuiltins x=sr .type[T])(z:PA X (e::b) t)(q:autoParam (x≠"__name__") zq3._auto_1)(d:autoParam ((x==("__debug__":t6))=t7) zq3._auto_1)(w:autoParam (starEach (e::b) X.env=(u6 t7 (eval e X.env))::starEach b X.env) zq2._auto_1)(c:autoParam ((backTo pos (starEach b X.env)).any (·.1)=t7) zq2._auto_1):PE[X][.Call (.Name x p) (e::b) [] pos][tCB r t]:=by
 intro i s f H Q I h;exact gG[Abr I v u o mC[thn[z pos i s f H _ I h] λk l ⟨vs,H1,I1,r1,q1⟩=>y i l f H1 vs k Q I1 r1 q1][w][c] q d]
end
end L2
namespace HT
open PySem PyProof.Rows
section
open PySem.SeqAt
open PySem.AutoSeq1 (wpAny_loadPart')
open PySem.MeetsSeq PySem.MeetsSeq2 PySem.MeetsSeq3
end
section
def cat_tup(u:aAo s.heap t d.toArray)(x:aAo s.heap b a.toArray)(o:d≠[])(z:a=[]->Q .ref[t] s)(y:a≠[]->Q .ref[s.heap.objs.size] { s with heap:=s.heap.push { cls:=.type "tuple",data:=.seq (d ++ a).toArray } })(v:d.length+a.length<=sizeLine):wpAny (model prog w) A (binaryOp .Add .ref[t] .ref[b]) Q E s:=by
 let((cls,q,data,k),j,p,n,hd):=id u;let((r,i,data2,f),c,h,l,g):=id x;simp at p hd h g;subst p hd h g;let e:d.toArray ++ a.toArray=(d ++ a).toArray:=by simp
 by_cases m:a=[]
 .exact aCs (_,j,rfl) (_,c,rfl) zF aBv uC tD (sG _ _)
   (tuple_addW1 t b d.toArray a.toArray n l q i k f (by simpa using o) (by simp_all)) (j,c,z m)
 .refine aCs (_,j,rfl) (_,c,rfl) zF aBv uC tD (sG _ _)
   (tuple_addW2 t b d.toArray a.toArray n l q i k f (by simpa using o) (by simp_all) ()) (j,c,?_)
  rw[e];exact y m
def sIx(n d:Nat):o9 Int->Nat
 |none=>d
 |some v=>if v < 0 then (v+(n:Int)).toNat else min v.toNat n
def As0(v:Int)(n d:Nat):(if v < 0 then max (v+(n:Int)) 0 else min v (n:Int))=((sIx n d sr[v]:Nat):Int):=by
 show _=(((if v < 0 then _ else _):Nat):Int)
 grind
def Aqq(lo hi:o9 Int)(n:Nat):rB lo hi 1 (n:Int)=(u6 ((sIx n 0 lo:Nat):Int) ((sIx n n hi:Nat):Int)):=by
 refine aAs ?_ ?_
 .cases lo with
  |none=>rfl
  |some v=>exact As0 v n 0
 .cases hi with
  |none=>rfl
  |some v=>exact As0 v n n
def Aqr(i j:Nat):mV (i:Int) (j:Int) 1=j - i:=by
 unfold mV
 grind
def Afh{o:o9 Int}{Q:o9 Int->aN->Prop}(p:uD v o)(h:Q o s):wpAny (model prog w) A zZ[v] Q E s:=by
 cases p with
 |none=>exact aAt h
 |int i t=>exact slicePart_int h
def Qi{lo hi:o9 Int}{n:Nat}{Q:Int×Int×Nat->aN->Prop}(j:s.heap.IsSliceOf g f e .none)(pl:uD f lo)(i:uD e hi)(h:Q (u6 ((sIx n 0 lo:Nat):Int) u6[1][sIx n n hi - sIx n 0 lo]) s):wpAny (model prog w) A aAu[.ref g][pure (n:Int)] Q E s:=by
 let(os,b,k,c):=id j;refine aA (aA (dM b c (x:=f) rfl (aA (dM b c (x:=e) rfl (aA (dM b c (x:=.none) rfl aJ[?_]))))));refine aA aAt[?_];refine aA[Afh pl aA[Afh i aA[aJ[?_]]]];show wpAny _ _ (match rB lo hi 1 n with|(lo,hi)=>pure[u6 lo u6[_][mV lo hi 1]]) _ _ s
 rw[Aqq lo hi n];show wpAny _ _ pure[u6[_][u6 1 _]] _ _ s;rw[Aqr];exact aJ h
def Axw(b:Array aH)(i k:Nat):((eZ k).filterMap λ(m:Nat)=>b[((i:Int)+(m:Int) * 1).toNat]?).toArray=((b.toList.drop i).take k).toArray:=by
 let e:(λ(m:Nat)=>b[((i:Int)+(m:Int) * 1).toNat]?)=λm=>b[i+m]?:=by
  funext m;have:((i:Int)+(m:Int) * 1).toNat=i+m:=by omega
  rw[this]
 rw[e];have:=pick_run b i k;rw[List.filterMap_map] at this;let f:((λx=>b[x]?) ∘ λx=>i+x)=λm=>b[i+m]?:=rfl;rw[f] at this;rw[this]
def getItem_tuple_cut{lo hi:o9 Int}(d:aAo s.heap t items)(l:s.heap.IsSliceOf j o n .none)(pl:uD o lo)(p:uD n hi)(r:¬ (sIx items.size 0 lo=0/\sIx items.size items.size hi=items.size))(h:Q .ref[s.heap.objs.size] { s with heap:=s.heap.push { cls:=.type "tuple",data:=.seq ((items.toList.drop[sIx items.size 0 lo]).take (sIx items.size items.size hi - sIx items.size 0 lo)).toArray } })(u:items.size<=sizeLine):wpAny (model prog w) A (getItem .ref[t] .ref[j]) Q E s:=by
 let a:sizeOk .seq[((items.toList.drop[sIx items.size 0 lo]).take (sIx items.size items.size hi - sIx items.size 0 lo)).toArray]:=by
  show ((items.toList.drop[sIx items.size 0 lo]).take (sIx items.size items.size hi - sIx items.size 0 lo)).toArray.size<=sizeLine;rw[cG,dO,bM,aV];omega
 let B:sIx items.size items.size hi<=items.size:=by
   cases hi with
   |none=>exact(aO _)
   |some v=>
    show (if v < 0 then (v+(_:Int)).toNat else min v.toNat _)<=_
    by_cases k:v < 0
    .rw[di k];omega
    .rw[dm k];exact tE _ _
 let(os,e,g,x):=id l;let i:s.TypeIs .ref[j] "slice":=(os,e,g);unfold getItem
 try with_reducible refine fB ?_
 first|refine aA aJ[?_]|skip
 refine aA[rO d.typeIs () ?_]
 refine aA (dC (name:=mR "__getitem__") d.typeIs fD
  (dH fD d.typeIs vZ ?_ (wY _ _)))
 show wpAny _ _ (qO .ref[t] >>= _) _ _ s;refine aA[tupleItemsOf_ d ?_];refine aA[nZ i ?_];rw[di ()]
 refine aA[Qi l pl p ?_];let f:¬ ((((sIx items.size 0 lo:Nat):Int)==0&&(1:Int)==1&&(sIx items.size items.size hi - sIx items.size 0 lo)==items.size)=t8):=by
  intro q;rw[aB,aB] at q;let z:((sIx items.size 0 lo:Nat):Int)=0:=eq_of_beq q.1.1;let y:sIx items.size items.size hi - sIx items.size 0 lo=items.size:=eq_of_beq q.2;exact r ((),())
 show wpAny _ _ (if (((sIx items.size 0 lo:Nat):Int)==0&&(1:Int)==1&&(sIx items.size items.size hi - sIx items.size 0 lo)==items.size)=t8 then _ else _) _ _ s
 rw[dm f,Axw]
 first
  |exact aA (m:=jZ _) eY[aJ (_,rfl,aJ h)][a]
  |exact aA (m:=jZ _) (eY aA[aJ[aJ (_,rfl,aJ h)]] a)
  |exact aA (aA (m:=jZ _) (eY aJ[aJ (_,rfl,aJ h)] a))
  |exact aA (aA (m:=jZ _) eY[aJ (_,rfl,aJ h)][a])
end
end HT
namespace L2
open PySem PySem.Spec PyProof.Rows
abbrev TO:=St->Hp->(o9 Int->Hp->Prop)->Prop
def PO(X:Cx)(e:o9 cL)(t:TO):Prop:=
 ∀(aa:lg[aM×tu])(s:aN)(σ:St)(H:Hp)(Q:o9 Int->Hp->Prop),Inv X aa σ H s->t σ H Q->
  wpAny (model X.prog X.w) X.A (evalPart e X.env) (λu s'=>∃o H',Inv X aa σ H' s'/\uD u o/\Q o H') X.xe s
def Bl0(t:TE):TO:=λσ H Q=>t σ H λx H1=>∃i,x=.int i/\Q sr[i] H1
def intsAre_of{ns:lg Int}:∀{b:lg aH},Vals ns.map[V.int] b->qD b ns:=by
 induction ns with
 |nil=>intro b r;cases r;exact .nil
 |cons n ns f=>
  intro b r;cases r with
  |cons d c=>
   let(t,e):=d;subst e;exact .cons n t f[c]
section
def SlR(X:Cx)(r:V->o9 Int->o9 Int->Hp->VK->Prop):Prop:=
 ∀(aa:lg[aM×tu])(s:aN)(σ:St)(H:Hp)(x:V)(v vl vu:aH)(lo hi:o9 Int)(sl:aM)(Q:VK),Inv X aa σ H s->RelV x v->s.heap.IsSliceOf sl vl vu .none->uD vl lo->uD vu hi->r x lo hi H Q->
  ∃T id,typeLookup .type[T] "__getitem__"=pure sr[.builtin[id]]/\s.TypeIs v T/\wpAny (model X.prog X.w) X.A (getItem v .ref[sl]) (EP X aa σ Q) X.xe s
def SlR.or{r g:V->o9 Int->o9 Int->Hp->VK->Prop}(h:SlR X r)(l:SlR X g):SlR X (λx lo hi H Q=>r x lo hi H Q\/g x lo hi H Q):=by
 intro k s b H x v d c lo hi e Q I f j pl i q;rcases q with q|q
 .exact h k s b H x v d c lo hi e Q I f j pl i q
 .exact l k s b H x v d c lo hi e Q I f j pl i q
def tSl(r:V->o9 Int->o9 Int->Hp->VK->Prop)(te:TE)(tl th:TO):TE:=λσ H Q=>te σ H λx H1=>tl σ H1 λl H2=>th σ H2 λu H3=>r x l u H3 Q
def Aqs(xs:lg V)(lo hi:o9 Int):lg V:=(xs.drop[HT.sIx xs.length 0 lo]).take (HT.sIx xs.length xs.length hi - HT.sIx xs.length 0 lo)
def Ac5(a:lg V)(lo hi:o9 Int):(Aqs a lo hi).length<=a.length:=by
 unfold Aqs;rw[dO,bM];omega
def Bl1(K:aF):V->o9 Int->o9 Int->Hp->VK->Prop:=λx lo hi H Q=>∃a xs,x=.ref a/\SqT K H a xs/\
 ¬ (HT.sIx xs.length 0 lo=0/\HT.sIx xs.length xs.length hi=xs.length)/\∀p,H p=sy->Q[.ref p][upd H p .tup[Aqs xs lo hi]]
def Bh0:SlR X Bl1[X.K]:=by
 intro u s m H x v o n lo hi p Q I g l pl i h;let(a,e,rfl,k,t,q):=h;cases g;let(d,r,f,j):=I.tuple k;let c:d.toArray.size=e.length:=r.length.symm;refine("tuple",_,fD.lookup,f.typeIs,?_);refine HT.getItem_tuple_cut f l pl i (by rw[c];omega) ?_ (by rw[c];omega)
 rw[c];refine(.ref s.heap.objs.size,_,I.laid (λb ob q=>aG _ q) aO[_] ?_,rfl,q _ I.hok.fresh[aO[_]]);exact(aD (Ac5 e lo hi) j,_,(r.drop _).take _,aCn _ _)
def Bgu(K:aF):R2:=λx y H Q=>∃a b xs ys,x=.ref a/\y=.ref b/\SqT K H a xs/\SqT K H b ys/\xs≠[]/\xs.length+ys.length<=sizeLine/\
 (ys=[]->Q .ref[a] H)/\(ys≠[]->∀p,H p=sy->Q[.ref p][upd H p .tup[xs ++ ys]])
def Vals.nil_iff(r:Vals a b):b=[] ↔ a=[]:=by
 cases r with
 |nil=>simp
 |cons _ _=>simp
def Bcq:OpR X binaryOp[.Add] Bgu[X.K]:=by
 intro C s r H x y v u Q I g f h;let(a,b,A,t,rfl,rfl,p,o,n,B,j,i):=h;cases g;cases f;let(m,d,l,_):=I.tuple p;let(e,c,k,_):=I.tuple o;refine HT.cat_tup l k (λz=>n d.nil_iff.mp[z]) (λz=>(.ref a,H,I,rfl,j c.nil_iff.mp[z])) (λz=>?_) (by rw[<-d.length,<-c.length];omega)
 refine(.ref s.heap.objs.size,_,I.laid (λb ob q=>aG _ q) aO[_] ?_,rfl,i (λw=>z c.nil_iff.mpr[w]) _ I.hok.fresh[aO[_]]);exact(by simp_all,_,d.append c,aCn _ _)
end
def ixN(n:Nat)(i:Int):o9 Nat:=if 0<=i then (if i < n then sr i.toNat else sy) else if -(n:Int)<=i then sr (i+n).toNat else sy
def atI{α:Type}(xs:lg α)(i:Int):o9 α:=(ixN xs.length i).bind λj=>xs[j]?
def As1{n:Nat}{i:Int}{j:Nat}(h:ixN n i=sr j):seqIndex? i n=sr j/\j < n/\-(n:Int)<=i/\i < n:=by
 unfold ixN at h;by_cases b:0<=i
 .rw[di b] at h;by_cases a:i < n
  .rw[di a] at h;let e:=bK h;exact(by rw[seqIndex_of b a,e],(),(),a)
  simp_all
 .rw[dm b] at h;by_cases a:-n<=i
  .rw[di a] at h;let e:=bK h;exact(by rw[aCt () a,e],(),a,())
  simp_all
def Aj8{c:Type}{a:lg c}{i:Int}{v:c}(h:atI a i=sr v):∃j,seqIndex? i a.length=sr j/\a[j]?=sr v/\j < a.length/\-(a.length:Int)<=i/\i < a.length:=by
 unfold atI at h;cases e:ixN a.length i with
 |none=>simp_all
 |some j=>
  rw[e] at h;let(l,k,g,f):=As1 e;exact(j,l,h,k,g,f)
def Aek(b:cL):Prop:=∀o i,subscripted b t7 o i=operate [o,i] (getItem o i)
def IxR(X:Cx)(r:R2):Prop:=
 ∀(value slice:cL)(aa:lg[aM×tu])(s:aN)(σ:St)(H:Hp)(x y:V)(v u:aH)(Q:VK),Inv X aa σ H s->RelV x v->RelV y u->r x y H Q->
  subscripted slice t7 v u=operate [v,u] (getItem v u)->wpAny (model X.prog X.w) X.A (subscriptTail value slice v u) (EP X aa σ Q) X.xe s
def MtR(X:Cx)(id:String)(r:V->lg V->Hp->VK->Prop):Prop:=
 ∀(aa:lg[aM×tu])(s:aN)(σ:St)(H:Hp)(x:V)(xs:lg V)(v:aH)(us:lg aH)(Q:VK),Inv X aa σ H s->RelV x v->Vals xs us->r x xs H Q->
  wpAny (model X.prog X.w) X.A (call .builtin[id] (v::us)) (EP X aa σ Q) X.xe s
section
def IxR.or(h:IxR X r)(g:IxR X f):IxR X (λx y H Q=>r x y H Q\/f x y H Q):=by
 intro value slice e s a H x y v u Q I c b q d;rcases q with q|q
 .exact h value slice e s a H x y v u Q I c b q d
 .exact g value slice e s a H x y v u Q I c b q d
def Bl2(K:aF):R2:=λx y H Q=>∃p xs i v,x=.ref p/\y=.int i/\SqL K H p xs/\atI xs i=sr v/\Q v H
def Bl3(K:aF):R2:=λx y H Q=>∃p xs i v,x=.ref p/\y=.int i/\SqT K H p xs/\atI xs i=sr v/\Q v H
def Bl4:R2:=λx y H Q=>∃z i c,x=.str z/\y=.int i/\z.length<=sizeLine/\atI z.cps.toList i=sr c/\Q .str[⟨#[c]⟩] H
def Bcr:IxR X Bl2[X.K]:=by
 intro value slice F s l H x y v u Q I n m h f;let(p,J,i,z,rfl,rfl,o,B,q):=h;cases n;let(t,rfl):=m;let(d,r,pl,L):=I.list o;let(j,b,E,O,D,C):=Aj8 B;let(w,k,c):=r.get E;let A:=r.length;let N:=Afe;let a:EP X F l Q w s:=(z,H,I,c,q);by_cases g:0<=i
 .let e:i.toNat=j:=by
   rw[seqIndex_of g C] at b;exact bK b
  exact item_listR pl.isList g () (by rw[e];simpa using k) a f
 .let e:(i+(d.toArray.size:Int)).toNat=j:=by
   rw[aCt () D] at b
   rw[cG,<-A];exact bK b
  exact uE (x:=w) pl.isList.typeIs slot_list_getitem.lookup
   (wpAny_getItem_list_neg pl.isList () (by rw[cG] <;> omega) () (by rw[e];simpa using k) (rfl,a)) f
def Az:IxR X Bl3[X.K]:=by
 intro value slice F s l H x y v u Q I c b h e;let(p,m,i,z,rfl,rfl,f,g,q):=h;cases c;let(t,rfl):=b;let(d,r,pl,n):=I.tuple f;let(j,D,k,C,B,A):=Aj8 g;let(w,E,a):=r.get k;let o:=Afe;exact uE pl.typeIs slot_tuple_getitem.lookup
  (getItem_tuple pl () () (by rw[cG,<-r.length];omega) (by simp_all) (rfl,(z,H,I,a,q))) e
def Xk:IxR X Bl4:=by
 intro value slice A s n H x y v u Q I d b h e;let(z,i,c,rfl,rfl,p,g,q):=h;let(t,rfl):=d;let(o,rfl):=b;let(j,a,m,w,l,k):=Aj8 g;let f:z.cps.toList.length=z.length:=by rfl
 rw[f] at a l k;let r:=Afe;exact aAv (aAw s z t) slot_str_getitem.lookup (getItem_str (by
  grind) (by rw[a];simpa using m) (.str _,H,I.tok _,(_,rfl),q)) e
def rIx(K:aF):R2:=λx y H Q=>Bl2 K x y H Q\/Bl3 K x y H Q\/Bl4 x y H Q
def Bh1:IxR X rIx[X.K]:=Bcr.or Az.or[Xk]
def Aj9(lo hi:o9 Int)(n:Nat):(sliceBounds lo hi sy n).1=((HT.sIx n 0 lo:Nat):Int)/\(sliceBounds lo hi sy n).2.1=((HT.sIx n n hi:Nat):Int)/\(sliceBounds lo hi sy n).2.2=1:=by
 refine(?_,?_,rfl)
 .cases lo with
  |none=>rfl
  |some i=>
   simp[sliceBounds,HT.sIx,zG,if_true];by_cases h:i < 0
   .simp only[h,if_true] <;> omega
   .simp only[h,if_false] <;> omega
 .cases hi with
  |none=>rfl
  |some i=>
   simp[sliceBounds,HT.sIx,zG,show (1) > 0 by decide,if_true]
   by_cases h:i < 0
   .simp only[h,if_true] <;> omega
   .simp only[h,if_false] <;> omega
def Ah8(a:lg aH)(lo hi:o9 Int):slicePick a.toArray lo hi sy=((a.drop[HT.sIx a.length 0 lo]).take (HT.sIx a.length a.length hi - HT.sIx a.length 0 lo)).toArray:=by
 let(f,e,d):=Aj9 lo hi a.toArray.size;unfold slicePick;rw[f,e,d];simp only[sliceRange_one,pick_run] <;> rfl
def Bl5(K:aF):V->o9 Int->o9 Int->Hp->VK->Prop:=λx lo hi H Q=>∃a xs,x=.ref a/\SqL K H a xs/\∀p,H p=sy->Q[.ref p][upd H p .lst[Aqs xs lo hi]]
def Bcs:SlR X Bl5[X.K]:=by
 intro t s m H x v o n lo hi p Q I f l pl g h;let(a,e,rfl,k,q):=h;cases f;let(i,r,d,j):=I.list k;let c:=r.length;refine("list",_,slot_list_getitem.lookup,d.isList.typeIs,?_);refine wpAny_getItem_list_slice d.isList l pl g .none (by simp) ?_ (by simp_all)
 rw[Ah8,<-c];refine(.ref s.heap.objs.size,_,I.laid (λb ob q=>aG _ q) aO[_] ?_,rfl,q _ I.hok.fresh[aO[_]]);exact(aD (Ac5 e lo hi) j,_,0,(r.drop _).take _,aW _ rfl)
def G8:V->Bool
 |.non=>t8
 |.bl _=>t8
 |.int _=>t8
 |.str _=>t8
 |_=>t7
def eqV:V->V->Bool
 |.non,.non=>t8
 |.bl a,.bl b=>a==b
 |.bl a,.int b=>(if a then 1 else 0)==b
 |.int a,.bl b=>a==(if b then 1 else 0)
 |.int a,.int b=>a==b
 |.str a,.str b=>a==b
 |_,_=>t7
def Bh2(e:RelV y u)(c:RelV x v)(g:G8 y=t8)(f:G8 x=t8):aAx A s u v (eqV y x):=by
 cases y with
 |non=>
  cases e;cases x with
  |non=>cases c;exact aFj _
  |bl b=>cases c;exact aDq b
  |int b=>let(t,rfl):=c;exact aEe b t
  |str b=>let(t,rfl):=c;exact aEf b t
  |_=>exact absurd (show t7=t8 from f) cC
 |bl a=>
  cases e;cases x with
  |non=>cases c;exact aDr a
  |bl b=>cases c;exact aDs a b
  |int b=>let(t,rfl):=c;exact aEg a b t
  |str b=>let(t,rfl):=c;exact aEh a b t
  |_=>exact absurd (show t7=t8 from f) cC
 |int a=>
  let(d,rfl):=e;cases x with
  |non=>cases c;exact aEi a d
  |bl b=>cases c;exact aEj a d b
  |int b=>let(t,rfl):=c;exact aEo a d b t
  |str b=>let(t,rfl):=c;exact wW a d b t
  |_=>exact absurd (show t7=t8 from f) cC
 |str a=>
  let(d,rfl):=e;cases x with
  |non=>cases c;exact aEk a d
  |bl b=>cases c;exact aEm a d b
  |int b=>let(t,rfl):=c;exact wX a d b t
  |str b=>let(t,rfl):=c;exact aEp a d b t
  |_=>exact absurd (show t7=t8 from f) cC
 |_=>exact absurd (show t7=t8 from g) cC
def eqU(x:V)(u:aH):Bool:=match u with
 |.none=>eqV .non x
 |.bool b=>eqV .bl[b] x
 |.int i _=>eqV .int[i] x
 |.str z _=>eqV .str[z] x
 |_=>t7
def Bh3(r:RelV y u)(f:G8 y=t8):eqU x u=eqV y x:=by
 cases y with
 |non=>cases r;rfl
 |bl b=>cases r;rfl
 |int i=>let(t,rfl):=r;rfl
 |str z=>let(t,rfl):=r;rfl
 |_=>trivial
def inV(x:V)(xs:lg V):Bool:=xs.any λy=>eqV y x
def Aka:OpR X compareOp[.NotIn] (λx y H Q=>∃i j,x=.str i/\y=.str j/\Q .bl[!(!(cQ j i 0 j.length 1).isEmpty)] H):=by
 intro e s c H x y v u Q I b a h;let(i,j,rfl,rfl,q):=h;let(t,rfl):=b;let(d,rfl):=a;exact notIn_str (.bl _,H,I,rfl,q)
def Le.or(h:Le X f r)(g:Le X f e):Le X f (λa H Q=>r a H Q\/e a H Q):=by
 intro d s b H a c Q I rs q;rcases q with q|q
 .exact h d s b H a c Q I rs q
 .exact g d s b H a c Q I rs q
def Akb:Le X .type["list"] (λt H Q=>∃p f,t=[.ref p]/\(SqL X.K H p f\/SqT X.K H p f)/\∀l,H l=sy->Q[.ref l][upd H l .lst[f]]):=by
 intro y s v H t A Q I r h;let(p,f,rfl,hq,q):=h;let(u,rfl,x):=vals1 r;cases x;let j:∀(a:_),_->_->∀(c:eE)(d:Nat),_->
   _->EP X y v Q _ { s with heap:=c }:=λa b g c d kp e=>
  (.ref s.heap.objs.size,_,I.laid kp aO[_] (show Eh X.prog X.w _ c _ .lst[f] from (g,a,d,b,e)),rfl,q _ I.hok.fresh[aO[_]])
 rcases hq with hq|hq
 .let(a,b,pl,g):=I.list hq;let i:=b.length;let(o,k,m,n,hd):=pl.isList;exact aBw p .inl[rfl] k m hd (λc d kp e=>j a b g c d kp e) (by simp[cG] <;> omega)
 .let(a,b,pl,g):=I.tuple hq;let i:=b.length;let(o,k,m,n,hd):=pl;exact aBw p .inr[rfl] k m hd (λc d kp e=>j a b g c d kp e) (by simp[cG] <;> omega)
def Ah9:Le X .type["tuple"] (λg H Q=>∃p a,g=[.ref p]/\((SqL X.K H p a/\∀l,H l=sy->Q[.ref l][upd H l .tup[a]])\/(SqT X.K H p a/\Q .ref[p] H))):=by
 intro y s v H g x Q I r h;let(p,a,rfl,h):=h;let(u,rfl,m):=vals1 r;cases m;rcases h with ⟨f,q⟩|⟨f,q⟩
 .let(c,d,pl,i):=I.list f;let j:=d.length;refine call_tuple_list[pl.isList][λn kp=>?_][by simp_all]
  let k:=I.kept (t':=s.toks) kp;let t:=
   k.laid (t':=s.toks) (λb o e=>aG _ e) aO[_] (show Eh X.prog X.w _ _ _ .tup[a] from (i,c,d,aCn _ _))
  exact(.ref n.objs.size,_,t,rfl,q _ k.hok.fresh[aO[_]])
 .let(c,d,pl,i):=I.tuple f;exact call_tuple_same pl (.ref p,H,I,rfl,q)
def tyV(K:aF)(T:String)(x:V)(H:Hp):Prop:=match x with
 |.str _=>T="str"
 |.int _=>T="int"
 |.ref p=>(T="list"/\∃xs,SqL K H p xs)\/(T="tuple"/\∃o,K.lookup p=sr o/\o.cls=.type "tuple"/\o.dict=sy)\/
   (T="dict"/\((∃kvs,H p=sr .dK[kvs])\/∃kvs,H p=sr .dT[kvs]))\/(T="set"/\∃S n,H p=sr[.set S n])
 |_=>False
def Bh4(I:Inv X q l H s)(r:RelV x v)(ty:tyV X.K T x H):
  s.TypeIs v T/\∀a,v=.ref a->∃ob,s.heap.get? a=sr ob/\ob.dict=sy:=by
 cases x with
 |str z=>
  let(t,rfl):=r;cases (ty);exact(aAw s z t,λg e=>nomatch e)
 |int i=>
  let(t,rfl):=r;cases (ty);exact(aAy s i t,λg e=>nomatch e)
 |ref p=>
  cases r;rcases ty with ⟨rfl,m,j⟩|⟨rfl,o,b,k,hd⟩|⟨rfl,b⟩|⟨rfl,S,n,b⟩
  .let(h,_,pl,_):=I.list j;refine(pl.isList.typeIs,λa e=>?_);cases e;let(o,n,e,c,hd,_):=pl;exact(o,e,hd)
  .refine((o,I.kIn p o b,k),λa e=>?_);cases e;exact(o,I.kIn _ o b,hd)
  .let z:∃o,s.heap.get? p=sr o/\o.ExactDict:=by
    rcases b with ⟨d,b⟩|⟨d,b⟩
    .let(_,_,_,_,o,_,_,e,ex,_):=I.hok p _ b;exact(o,e,ex)
    .let(_,_,_,_,o,_,_,e,ex,_):=I.hok p _ b;exact(o,e,ex)
   let(o,e,ex):=z;refine((o,e,ex.1),λa f=>?_);cases f;exact(o,e,ex.2.1)
  .let(o,_,_,_,e,ex,_):=I.hok p _ b;refine((o,e,ex.1),λa f=>?_);cases f;exact(o,e,ex.2.1)
 |_=>exact gU ty
def tBM(K:aF)(T:String)(r:V->lg V->Hp->VK->Prop)(to:TE)(t:TA):TE:=λσ H Q=>to σ H λx H1=>tyV K T x H1/\t σ H1 λxs H2=>r x xs H2 Q
end
def MtM(X:Cx)(id:String)(r:V->lg V->Hp->VK->Prop):Prop:=
 ∀(aa:lg[aM×tu])(s:aN)(σ:St)(H:Hp)(x:V)(xs:lg V)(v:aH)(us:lg aH)(Q:VK),Inv X aa σ H s->RelV x v->Vals xs us->r x xs H Q->
  wpAny (model X.prog X.w) X.A (call .builtin[id] (v::us)) (EP X aa σ Q) X.xe s
def Vals.one{x:V}{a:lg aH}(h:Vals [x] a):∃u,a=[u]/\RelV x u:=by
 cases h with|cons r h=>
 cases h;exact(_,rfl,r)
def Vals.two{x y:V}{a:lg aH}(h:Vals [x,y] a):∃u v,a=[u,v]/\RelV x u/\RelV y v:=by
 cases h with|cons r h=>
 cases h with|cons q h=>
 cases h;exact(_,_,rfl,r,q)
theorem Vals.zero:∀{a:lg aH},Vals [] a->a=[]
 |_,.nil=>rfl
def Vals.dropLast(h:Vals a b):Vals a.dropLast b.dropLast:=by
 induction h with
 |nil=>exact .nil
 |cons r t c=>
  cases t with
  |nil=>trivial
  |cons q d=>exact .cons r c
theorem Vals.eraseIdx:∀{b:lg V} {c:lg aH} (i:Nat),Vals b c->Vals b.eraseIdx[i] c.eraseIdx[i]
 |_,_,_,.nil=>.nil
 |_,_,0,.cons _ t=>t
 |_,_,i+1,.cons r t=>.cons r (Vals.eraseIdx i t)
theorem Vals.rep(h:Vals a b):∀k:Nat,Vals (cA k a).flatten (cA k b).flatten
 |0=>.nil
 |k+1=>Vals.append h (Vals.rep h k)
theorem Ait{b:Type}:∀(l:lg b)(i:Nat),(l.eraseIdx i).length<=l.length
 |[],_=>aO _
 |_::_,0=>gZ _
 |_::r,i+1=>lC[Ait r i]
theorem foldl_rep(a:lg aH):∀(k:Nat)(b:lg aH),
  aEq[λf d=>f ++ d][b.toArray][cA k a.toArray]=(b ++ (cA k a).flatten).toArray
 |0,b=>by simp
 |k+1,b=>by
  let e:b.toArray ++ a.toArray=(b ++ a).toArray:=by simp
  let g:(b ++ a) ++ (cA k a).flatten=b ++ (cA (k+1) a).flatten:=by
   rw[wA,List.flatten_cons,aL]
  rw[<-g,<-foldl_rep a k _,<-e,wA,List.foldl_cons]
section
def Inv.lset{a its':lg aH}{n:Nat}{f:Array aH->Array aH}{h:Nat}(I:Inv X o g H s)(m:H l=sr .lst[p])(e:s.heap.get? l=sr { cls:=.type "list",data:=.seq a.toArray n })(hf:f a.toArray=its'.toArray)(j:Vals ys its')(i:ys.length<=sizeLine):
  Inv X o g (upd H l .lst[ys]) { s with heap:=s.heap.update l uF[f],toks:=h }:=by
 let q:=aFi e f;rw[hf] at q;refine I.write (by rw[m];trivial) .inl[rfl] (λr u k hu=>(bT s.heap _ eG[k]).trans hu) (_,q) ?_
 exact(i,its',_,j,q)
def Inv.lnew{t':Nat}(I:Inv X e a H s)(d:Vals ys its)(c:ys.length<=sizeLine):
  Inv X e a (upd H s.heap.objs.size .lst[ys]) { s with heap:=s.heap.push { cls:=.type "list",data:=.seq its.toArray },toks:=t' }:=(
 I.laid (λb b q=>aG _ q) aO[_] (c,its,0,d,aW _ rfl))
def Inv.fresh(I:Inv X aa σ H s):H s.heap.objs.size=sy:=I.hok.fresh aO[_]
def Inv.lstM(I:Inv X h g H s)(d:H l=sr .lst[b]):b.length<=sizeLine/\∃(a:lg aH)(n:Nat),Vals b a/\b.length=a.length/\s.heap.get? l=sr { cls:=.type "list",data:=.seq a.toArray n }:=by
 let(z,a,n,r,e):=I.hok l _ d;exact(z,a,n,r,r.length,e)
def Axx{n:Nat}(h:n<=sizeLine):sH n=t7:=(dq ())
end
section
def Bct:V->lg V->Hp->VK->Prop:=λx vs H Q=>∃l xs y,x=.ref l/\vs=[y]/\H l=sr .lst[xs]/\xs.length < sizeLine/\Q .non (upd H l .lst[xs ++ [y]])
def Aiu:MtM X "list.append" Bct:=by
 intro p s g H x j v k Q I c d h;let(l,i,y,rfl,rfl,b,m,q):=h;cases c;let(u,rfl,f):=d.one;let(z,a,n,r,o,e):=I.lstM b;refine wZ F.slot_list_append (_,e,rfl) F.entry_list_append (F.args_list_append_2 _ _) (PySem.list_append l a.toArray n u (by rw[cG];omega)) (e,?_)
 refine(.non,_,I.lset (its':=a ++ [u]) b e (by simp) r.append[.cons f .nil] ?_,rfl,q)
 rw[aU,dU];omega
def Axy:V->lg V->Hp->VK->Prop:=λx vs H Q=>∃l xs i k y,x=.ref l/\vs=[.int i]/\H l=sr .lst[xs]/\-(2 ^ 63)<=i/\i < 2 ^ 63/\seqIndex? i xs.length=sr k/\xs[k]?=sr y/\Q y (upd H l .lst[xs.eraseIdx[k]])
def Axz:MtM X "list.pop" Axy:=by
 intro J s A H x B v C Q I f g h;let(l,d,i,k,y,rfl,rfl,c,p,o,G,m,q):=h;cases f;let(u,rfl,j):=g.one;let(t,rfl):=j;let(z,b,n,r,E,e):=I.lstM c;let(w,D,a):=r.get m;refine wZ F.slot_list_pop (_,e,rfl) F.entry_list_pop (F.args_list_pop_2 _ _)
  (MeetsSeq.list_pop_at l b.toArray n i t k w (aAz p o) (by simp_all) (by simp_all) (by simp_all)) (e,?_)
 refine(y,_,I.lset c e ?_ r.eraseIdx[k] ?_,a,q)
 .simp
 .have:=Ait d k;omega
def Bl6:R2:=λx y H Q=>∃l b xs zs,x=.ref l/\y=.ref b/\H l=sr .lst[xs]/\H b=sr .lst[zs]/\xs.length+zs.length<=sizeLine/\∀p,H p=sy->Q[.ref p][upd H p .lst[xs ++ zs]]
def Bh5:OpR X binaryOp[.Add] Bl6:=by
 intro E s p H x y v u Q I f d h;let(l,b,A,t,rfl,rfl,j,k,C,q):=h;cases f;cases d;let(z,c,n,r,D,e):=I.lstM j;let(w,a,B,g,i,o):=I.lstM k;refine PySem.P.add_list e o ?_ (by simp_all)
 let m:c.toArray ++ a.toArray=(c ++ a).toArray:=by simp
 rw[m];exact(.ref _,_,I.lnew r.append[g] (by rw[aU];omega),rfl,q _ I.fresh)
def Bl7:R2:=λx y H Q=>∃l k xs,x=.ref l/\y=.int k/\H l=sr .lst[xs]/\-(2 ^ 63)<=k/\k < 2 ^ 63/\xs.length * k.toNat<=sizeLine/\
 ∀p,H p=sy->Q[.ref p][upd H p .lst[(cA k.toNat xs).flatten]]
def len_rep{c:Type}(a:lg c)(k:Nat):(cA k a).flatten.length=k * a.length:=by simp
def Bh6:OpR X binaryOp[.Mult] Bl7:=by
 intro S s N H x y v u Q I C B h;let(l,k,O,rfl,rfl,E,J,G,o,q):=h;cases C;let(t,rfl):=B;let(z,b,n,r,D,e):=I.lstM E;let f:b.toArray.size * k.toNat<=sizeLine:=by rw[cG,<-D];exact o
 let i:¬ b.toArray.size * k.toNat > (2 ^ 63 - 1) / 8:=by
  have:(sizeLine:Nat)<=(2 ^ 63 - 1) / 8:=by decide
  omega
 let g:¬ (!aBa k)=t8:=by
  rw[aAz J G];exact cC
 let c:¬ sH[b.toArray.size * k.toNat]=t8:=by
  rw[Axx f];exact cC
 let d:aEq[λw p=>w ++ p][#[]][cA (if b.toArray.isEmpty=t8 then 0 else k.toNat) b.toArray]=(cA k.toNat b).flatten.toArray:=by
  let L:=λm=>by
   have:=foldl_rep b m [];rw[lU] at this;exact this
  rw[L];cases b with
  |nil=>simp
  |cons a P=>rw[dm[by simp]]
 refine wpAny_binaryOp_repeat_ref (T:="list") (U:="int") () (_,e,rfl) (λA=>aAy A k t) noFill_list_mul F.fills_int_mul aAa repeat_list F.slot_int_index.lookup
  (wZ aAa (aAy s k t) F.entry_int_rmul (F.args_int_rmul_2 _ _) (int___rmul___int_list k t l b.toArray n)
   (e,rfl,(_,e,rfl),wZ F.slot_list_mul (_,e,rfl) F.entry_list_mul (F.args_list_mul_2 _ _) (xP l b.toArray n k t g i c) (e,?_)))
 rw[d];exact(.ref _,_,I.lnew (t':=s.toks) r.rep[k.toNat] (by rw[len_rep,Nat.mul_comm];exact o),rfl,q _ I.fresh)
end
section
variable{κ:Type}[DecidableEq κ]
def Xl(kvs:lg[κ×V])(k:κ):o9 V:=(kvs.find? λkv=>decide[kv.1=k]).map (·.2)
def putK(kvs:lg[κ×V])(k:κ)(v:V):lg[κ×V]:=
 if (kvs.any λkv=>decide[kv.1=k])=t8 then kvs.map[λkv=>if kv.1=k then (u6 kv.1 v) else kv] else kvs ++ [(k,v)]
def Afi{p:κ×V}{r:lg[κ×V]}{k:κ}(e:p.1=k):Xl (p::r) k=sr p.2:=by simp[Xl,e]
def Afj{p:κ×V}{r:lg[κ×V]}{k:κ}(e:¬ p.1=k):Xl (p::r) k=Xl r k:=by simp[Xl,e]
theorem Ana(k:κ):∀a:lg[κ×V],(a.any λkv=>decide[kv.1=k])=(Xl a k).isSome
 |[]=>rfl
 |p::r=>by
  rw[mZ];by_cases e:p.1=k
  .simp[Afi e,dj e]
  .rw[Afj e,dq e];exact Ana k r
def Tj(a:lg[κ×V])(k:κ)(v:V):(putK a k v).length<=a.length+1:=by
 unfold putK;split
 .simp
 simp
def W5.isSome_eq(r:W5 o u):o.isSome=u.isSome:=by
 cases o with
 |none=>cases u with
  |none=>rfl
  |some _=>trivial
 |some _=>cases u with
  |none=>trivial
  |some _=>rfl
def KV.val{a:lg[κ×V]}{g:lg[κ×aH]}(r:KV a g)(k:κ):W5[Xl a k][valueAt g k]:=by
 induction r with
 |nil=>trivial
 |@cons p q ps d h t j=>
  let(i,l):=h;by_cases e:p.1=k
  .let f:=i.symm.trans e;let b:valueAt (q::d) k=sr q.2:=by simp[valueAt,f]
   rw[Afi e,b];trivial
  .let f:¬ _:=λz=>e i.trans[z];let b:valueAt (q::d) k=valueAt d k:=by simp[valueAt,f]
   rw[Afj e,b];omega
def KV.any(r:KV a b)(k:κ):(a.any λkv=>decide[kv.1=k])=b.any λkv=>decide[kv.1=k]:=by
 induction r with
 |nil=>rfl
 |cons h t c=>simp_all
def KV.repl(r:KV a c)(k:κ)(f:RelV y u):
  KV[a.map λkv=>if kv.1=k then (u6 kv.1 y) else kv][c.map λkv=>if kv.1=k then (u6 kv.1 u) else kv]:=by
 induction r with
 |nil=>exact .nil
 |@cons p q ps g h t d=>
  rw[bL,bL];refine .cons ?_ d;let(b,i):=h;by_cases e:p.1=k
  .rw[di e,di b.symm.trans[e]];trivial
  .rw[dm e,dm[λz=>e b.trans[z]]];trivial
def KV.put(r:KV a b)(k:κ)(c:RelV y u):KV[putK a k y][stored b k u]:=by
 unfold putK stored;rw[r.any k];by_cases e:(b.any λkv=>decide[kv.1=k])=t8
 .rw[di e,di e];exact r.repl k c
 .rw[dm e,dm e];exact aDt r (rfl,c)
def KV.length(r:KV kvs vs):kvs.length=vs.length:=wM r
end
def Aiv(r:RelV kV[k] u):(Ia P w).is k u=t8:=by
 cases k with
 |inl i=>let(t,e):=(show ∃t,u=yV i t from r);subst e;exact Au3 i t
 |inr x=>let(t,e):=(show ∃t,u=yW x t from r);subst e;exact Au4 x t
theorem Aiw:∀{b:lg Key} {c:lg aH},Vals b.map[kV] c->ItemsAre (Ia P w) b c
 |[],_,r=>by cases r;exact .nil
 |k::b,_,r=>by
  cases r with
  |cons h t=>exact .cons Aiv[h] Aiw[t]
abbrev KT(H:Hp):lg[lg Key×V]->lg[lg Key×aM×aH]->Prop:=qK λp q=>p.1=q.1/\H q.2.1=sr .tup[p.1.map[kV]]/\RelV p.2 q.2.2
def KT.val{H:Hp}{c:lg[lg Key×V]}{g:lg[lg Key×aM×aH]}(r:KT H c g)(k:lg Key):W5 (Xl c k) ((atKey g k).map (·.2)):=by
 induction r with
 |nil=>trivial
 |@cons p q ps d h t j=>
  let(i,_,l):=h;by_cases e:p.1=k
  .let f:=i.symm.trans e;let b:atKey (q::d) k=sr q.2:=by simp[atKey,f]
   rw[Afi e,b];trivial
  .let f:¬ _:=λz=>e i.trans[z];let b:atKey (q::d) k=atKey d k:=by simp[atKey,f]
   rw[Afj e,b];omega
def KT.repl(r:KT H a d)(k:lg Key)(g:RelV y u):
  KT H (a.map λkv=>if kv.1=k then (u6 kv.1 y) else kv) d.map[putAt k u]:=by
 induction r with
 |nil=>exact .nil
 |@cons p q ps i h t f=>
  rw[bL];refine .cons ?_ f;let(b,l,j):=h;unfold putAt;by_cases e:p.1=k
  .rw[di e,di b.symm.trans[e]];trivial
  .rw[dm e,dm[λz=>e b.trans[z]]];trivial
def KT.put(r:KT H a c)(k:lg Key)(g:H b=sr .tup[k.map[kV]])(d:RelV y u):
  KT[H][putK a k y][storedH c k b u]:=by
 let e:(a.any λkv=>decide[kv.1=k])=(atKey c k).isSome:=by
  rw[Ana,(r.val k).isSome_eq,rP]
 unfold putK storedH;rw[e];by_cases q:(atKey c k).isSome=t8
 .rw[di q,di q];exact r.repl k d
 .rw[dm q,dm q];exact aDt r (rfl,g,d)
def KT.keeps(r:KT H a d)(f:∀b c,H b=sr .tup[c]->H' b=sr .tup[c]):KT H' a d:=(
 Paired.mapP r λe e z=>(z.1,f _ _ z.2.1,z.2.2))
section
def Qj(ok:HOk P w H h)(e:Rd H a u):Eh P w H h a u:=e.ok ok
def Aix(ok:HOk P w H h)(e:Rd H a .dK[b]):b.length<=sizeLine/\(a==sysModules)=t7/\∃c,KV b c/\h.DictOf (Ia P w) a c:=(
 Qj ok e)
def Bgv(ok:HOk P w H h)(e:H a=sr .dK[kvs]):kvs.length<=sizeLine/\(a==sysModules)=t7/\∃vs,KV kvs vs/\h.DictOf (Ia P w) a vs:=Aix ok .inl[e]
def Tn(ok:HOk P w H h)(e:H a=sr .tup[c.map[kV]]):(tupleKind[Ia P w]).is h c a:=by
 let(_,b,r,o,g,f,n,d):=(ok a _ e);exact(o,b.toArray,n,g,f,d,by simpa using Aiw r)
def Anb(ok:HOk P w H h)(e:Rd H a .dT[b]):b.length<=sizeLine/\(a==sysModules)=t7/\
  ∃c,KT H b c/\h.DictOfH tupleKind[Ia P w] a c:=by
 let(z,y,c,r,o,n,s,k,j,i,g,f):=(Qj ok e);refine(z,y,c,r,o,n,s,k,j,i,g,λx hx=>?_,f);let all:∀{l:_} {m:_},KT H l m->∀x∈m,(tupleKind[Ia P w]).is h x.1 x.2.1:=by
  intro l m q;induction q with
  |nil=>simp
  |@cons p q ps u v t d=>
   intro x hx;rcases aY.mp hx with e|hx
   .exact Tn ok (by simp_all)
   .exact d x hx
 exact all r x hx
end
def Afk(H:Hp)(a:aM)(y:V)(r:o9 V):Prop:=
 (∃kvs k,Rd H a .dK[kvs]/\y=kV k/\r=Xl kvs k)\/∃kvs k b,Rd H a .dT[kvs]/\y=.ref b/\H b=sr .tup[k.map[kV]]/\r=Xl kvs k
def Avc(H:Hp)(a:aM)(y v:V)(H':Hp):Prop:=
 (∃kvs k,H a=sr .dK[kvs]/\y=kV k/\kvs.length < sizeLine/\H'=upd H a .dK[putK kvs k v])\/
 ∃kvs k b,H a=sr .dT[kvs]/\y=.ref b/\H b=sr .tup[k.map[kV]]/\kvs.length < sizeLine/\H'=upd H a .dT[putK kvs k v]
def Afk.k{H:Hp}{a:aM}{kvs:lg[Key×V]}{k:Key}(e:H a=sr .dK[kvs]):Afk H a kV[k] (Xl kvs k):=.inl (kvs,k,.inl e,rfl,rfl)
def Avc.k{H:Hp}{a:aM}{kvs:lg[Key×V]}{k:Key}{v:V}(e:H a=sr .dK[kvs])(hl:kvs.length < sizeLine):Avc H a kV[k] v (upd H a .dK[putK kvs k v]):=.inl (kvs,k,e,rfl,hl,rfl)
section
def Inv.big(I:Inv X c b H s):sysModules < s.heap.objs.size:=(Nat.lt_trans () (I.mod.glob.keeps I.bk).lt)
def Avd(hu:A.units+1 < cLine)(I:Inv X B t H s)(g:Afk H a y sr[v])(r:RelV y u)(h:∀f q,Inv X B t H q->RelV v f->Q f q):
  wpAny (model X.prog X.w) A (getItem .ref[a] u) Q E s:=by
 rcases g with ⟨i,k,e,n,l⟩|⟨i,k,b,e,n,x,l⟩
 .subst n;let(z,hd,D,d,o):=Aix I.hok e;let(f,j,c):=W5.some_of (by rw[l];exact d.val k)
  exact wpAny_getItem_of Aiv[r] o.mapOf j (h f _ I.tok[_] c)
 .subst n;cases (r);let(z,hd,C,d,o):=Anb I.hok e;let(f,j,c):=W5.some_of (by rw[l];exact d.val k)
  let(p,hp,m):=bF.mp j;refine wpAny_getItem_heap nO[hu] (Tn I.hok x) o hp ?_;rw[m];exact h f _ I.tok[_] c
def Boy(hu:A.units+1 < cLine)(I:Inv X r n H s)(g:Afk H a y o)(m:RelV y u)(h:∀j,Inv X r n H j->Q .bool[o.isSome] j):
  wpAny (model X.prog X.w) A (compareOp .In u .ref[a]) Q E s:=by
 rcases g with ⟨d,k,e,f,l⟩|⟨d,k,b,e,f,p,l⟩
 .subst f;let(z,hd,v,c,i):=Aix I.hok e;refine wpAny_in_of Aiv[m] hd i.mapOf ?_;rw[<-(c.val k).isSome_eq,<-l];exact h _ I.tok[_]
 .subst f;cases (m);let(z,hd,t,c,i):=Anb I.hok e;refine wpAny_in_heap nO[hu] (Tn I.hok p) hd i ?_;let q:=(c.val k).isSome_eq;rw[rP] at q;rw[<-q,<-l];exact h _ I.tok[_]
def Bcu(hu:A.units+1 < cLine)(I:Inv X r n H s)(g:Afk H a y o)(m:RelV y u)(h:∀j,Inv X r n H j->Q .bool[!o.isSome] j):
  wpAny (model X.prog X.w) A (compareOp .NotIn u .ref[a]) Q E s:=by
 rcases g with ⟨d,k,e,f,l⟩|⟨d,k,b,e,f,p,l⟩
 .subst f;let(z,hd,v,c,i):=Aix I.hok e;refine wpAny_notIn_of Aiv[m] hd i.mapOf ?_;rw[<-(c.val k).isSome_eq,<-l];exact h _ I.tok[_]
 .subst f;cases (m);let(z,hd,t,c,i):=Anb I.hok e;refine wpAny_notIn_heap nO[hu] (Tn I.hok p) hd i ?_;let q:=(c.val k).isSome_eq;rw[rP] at q;rw[<-q,<-l];exact h _ I.tok[_]
def Akc{e:Nat}(I:Inv X j d H s)(f:Mut H[a])(g:gM a s.heap c)(h:∃q,c.get? a=sr q)(new:Eh X.prog X.w (upd H a ob) c a ob):
  Inv X j d (upd H a ob) { s with heap:=c,toks:=e }:=(
 I.write f .inl[rfl] (λb q i z=>(g.2 b i).trans z) h new)
theorem Ax0(z:b.length<=sizeLine)(hd:(a==sysModules)=t7)(c:KV b d)(f:e.DictOf (Ia P w) a d):
  Eh P w H' e a .dK[b]:=(z,hd,d,c,f)
def Ave(hu:A.units+1 < cLine)(I:Inv X aa L H s)(g:Avc H a y v H')(C:RelV y u)(D:RelV v r)(h:∀B,Inv X aa L H' B->Q u9 B):
  wpAny (model X.prog X.w) A (setItem .ref[a] u r) Q E s:=by
 rcases g with ⟨f,k,e,p,l,t⟩|⟨f,k,b,e,p,J,l,t⟩
 .subst p t;let(z,hd,O,d,x):=Bgv I.hok e;let m:O.length<=sizeLine:=by rw[<-d.length];exact z
  let o:(putK f k v).length<=sizeLine:=by have:=Tj f k v;omega
  refine wpAny_setItem_pairs (hsz:=m) Aiv[C] x λF i n=>h _ ?_;let P:∃q,F.get? a=sr q:=let ⟨q,_,_,j,_⟩:=i;(q,j);exact Akc I (by rw[e];exact iM) n P (Ax0 o hd (d.put k D) i)
 .subst p t;cases (show u=bQ b from C);let(z,hd,N,d,x):=Anb I.hok .inl[e];let m:N.length<=sizeLine:=by rw[<-wM d];exact z
  let o:(putK f k v).length<=sizeLine:=by have:=Tj f k v;omega
  refine wpAny_setItem_heap (hsz:=m) nO[hu] (Tn I.hok J) x λF i n=>h _ ?_;let(q,Z,ep,j,Y,U,T,_,S):=i;refine Akc I (by rw[e];exact iM) n (q,j) (o,hd,_,(d.put k J D).keeps λc ys G=>?_,q,Z,ep,j,Y,U,T,S)
  rw[Ax (by
    intro e;subst e;rw[G] at e;exact(λz=>nomatch z) bK[e])]
  exact G
end
section
def Bl8(I:Inv X i f H s)(e:Rd H a .dK[c])(h:∀t d,Inv X i f H d->Q (.int c.length t) d):wpAny (model X.prog X.w) A (call .builtin["len"] [.ref a]) Q E s:=by
 let(z,hd,j,b,g):=Aix I.hok e;refine call_len_dict hd g (by rw[<-b.length];rw[rJ] at z;omega) ?_
 rw[<-b.length];exact h _ _ I.tok[_]
end
def Bl9(td ty tv:TE):TS:=λD σ H=>tv σ H λv H1=>td σ H1 λx H2=>ty σ H2 λy H3=>∃a H4,x=.ref a/\Avc H3 a y v H4/\D.nx σ H4
section
def Bcv(hu:X.A.units+1 < cLine)(C:PE X o j)(hi:PE X i ty)(z:PE X value f)(B:swapsWith value sr[.Subscript o i b] d.line X.env=pure t7):
  PS[X][.Assign [.Subscript o i b] value d][Bl9 j ty f]:=by
 intro e s c H D I h;refine wpAny_Assign_Subscript (thn[z e s c H _ I h] λr l ⟨v,H1,I1,rv,q1⟩=>thn[C e l c H1 _ I1 q1] λu k ⟨x,H2,I2,rx,q2⟩=>thn[hi e k c H2 _ I2 q2] λS Q ⟨y,H3,I3,ry,a,H4,ex,g,q3⟩=>?_) B;subst ex;obtain rfl:_:=rx;exact Ave hu I3 g ry rv λP E=>(c,H4,E,q3)
end
def Anc(h:eE)(a:sysModules < h.objs.size):Eh P w H (h.push { cls:=.type "dict",data:=.dict #[] }) h.objs.size .dK[[]]:=(
 (cY _,beq_eq_false_iff_ne.mpr eG[cB[a]],[],.nil,aFk h))
def Bh7:TE:=λuu H Q=>∀p,H p=sy->Q[.ref p][upd H p .dK[[]]]
section
def Ax1:PE X (.Dict [] [] b) Bh7:=(λd s c H Q I h=>
 wpAny_Dict_empty (.ref s.heap.objs.size,_,I.laid[λa a q=>aG _ q][aO _][Anc s.heap I.big],rfl,h _ I.hok.fresh[aO[_]]))
end
def Akd:lg[TE×TE]->St->Hp->(lg[V×V]->Hp->Prop)->Prop
 |[],_,H,Q=>Q [] H
 |(tk,tv)::r,σ,H,Q=>tk σ H λx H1=>tv σ H1 λy H2=>Akd r σ H2 λps H3=>Q ((u6 x y)::ps) H3
abbrev VV:lg[V×V]->lg[aH×aH]->Prop:=qK λp q=>RelV p.1 q.1/\RelV p.2 q.2
def PPs(X:Cx)(pos:Pos)(keys:lg o9[cL])(values:lg cL)(trs:lg[TE×TE]):Prop:=
 ∀(aa:lg[aM×tu])(s:aN)(σ:St)(H:Hp)(Q:lg[V×V]->Hp->Prop),Inv X aa σ H s->Akd trs σ H Q->
  wpAny (model X.prog X.w) X.A evalPairs[pairTrees keys values X.env pos] (λvs s'=>∃ps H',Inv X aa σ H' s'/\VV ps vs/\Q ps H') X.xe s
def Q8(kvs more:lg[Key×V]):lg[Key×V]:=more.foldl (λacc kv=>putK acc kv.1 kv.2) kvs
def KV.merge:∀{more:lg[Key×V]} {rs:lg[Key×aH]} {kvs:lg[Key×V]} {vs:lg[Key×aH]},KV more rs->KV kvs vs->KV[Q8 kvs more][merged vs rs]:=by
 intro more rs kvs vs r;induction r generalizing kvs vs with
 |nil=>intro q;exact q
 |@cons p q ps d h t c=>
  intro b;let e:KV[putK kvs p.1 p.2][stored vs q.1 q.2]:=by
   have:=b.put p.1 h.2;rw[<-h.1];omega
  exact c e
theorem W9:∀(more a:lg[Key×V]),(Q8 a more).length<=a.length+more.length
 |[],a=>by show a.length<=_;simp
 |p::r,a=>by
  let d:=W9 r (putK a p.1 p.2);let c:=Tj a p.1 p.2;show (Q8 (putK a p.1 p.2) r).length<=_;rw[bN];omega
theorem Afl:∀{d:lg[Key×V]} {f:lg[aH×aH]},VV (d.map λkv=>(u6 kV[kv.1] kv.2)) f->∃rs,Carries (Ia P w) f rs/\KV d rs
 |[],_,r=>by cases r;exact([],iM,.nil)
 |p::d,_,r=>by
  cases r with
  |@cons a b g bs h t=>
   let(rs,c,q):=Afl (P:=P) (w:=w) t;let(b1,b2):=b;exact((u6 p.1 b2)::rs,(Aiv h.1,rfl,c),.cons (rfl,h.2) q)
def Bma(trs:lg[TE×TE]):TE:=λσ H Q=>∀p,H p=sy->Akd trs σ (upd H p .dK[[]]) λps H2=>H2 p=sr .dK[[]]/\∃kvs:lg[Key×V],ps=kvs.map[λkv=>(u6 kV[kv.1] kv.2)]/\kvs.length<=15/\Q[.ref p][upd H2 p .dK[Q8 [] kvs]]
def Bcw(h:PPs X k b values i)(f:b.all (·.isSome)=t8)(C:b.length=values.length)(E:b≠[])(l:b.length<=15):PE X (.Dict b values k) Bma[i]:=by
 intro J s n H Q I q;let B:=I.hok.fresh aO[s.heap.objs.size];let L:=I.laid (a:=s.heap.objs.size) (t':=s.toks) (λr r q=>aG _ q) aO[_] (Anc s.heap I.big);refine wpAny_Dict_walk (knd:=Ia X.prog X.w) f C E l (thn[h J _ n _ _ L (q _ B)] λN O o=>?_);let(ps,U,m,j,e,d,F,S,v):=o;subst F;let(rs,c,t):=Afl (P:=X.prog) (w:=X.w) j;let(z,hd,p,u,G):=Bgv m.hok e;cases u;refine(rs,c,G,λT g y=>(.ref s.heap.objs.size,_,?_,rfl,v));let x:(Q8 [] d).length<=sizeLine:=by
  let D:=W9 d [];rw[pO] at D;rw[rJ];omega
 exact Akc m (by rw[e];exact iM) y (let ⟨q,_,_,A,_⟩:=g;(q,A)) (Ax0 x hd t.merge[.nil] g)
structure M1(X:Cx)(o:cL)(m:t6)(ak:Pos)(e:cL)(cpos:Pos):Prop where
 base:attributeBase o m X.env (eval o X.env)=eval o X.env
 few:((backTo cpos (starEach [e] X.env)).all (λx=>!x.1)&&(backToKw cpos (keywordEach [] X.env)).all (λx=>x.1.isSome)
  &&decide (([e]:List cL).length+([]:List iQ).length+(if ([]:List iQ).isEmpty then 0 else 1) < 30))=t8
 line:(ak.endLine==cpos.line)=t8
 trees:backTo cpos (starEach [e] X.env)=[(t7,eval e X.env)]
structure M2(X:Cx)(o:cL)(m:t6)(ak:Pos)(e f:cL)(cpos:Pos):Prop where
 base:attributeBase o m X.env (eval o X.env)=eval o X.env
 few:((backTo cpos (starEach [e,f] X.env)).all (λx=>!x.1)&&(backToKw cpos (keywordEach [] X.env)).all (λx=>x.1.isSome)
  &&decide (([e,f]:List cL).length+([]:List iQ).length+(if ([]:List iQ).isEmpty then 0 else 1) < 30))=t8
 line:(ak.endLine==cpos.line)=t8
 trees:backTo cpos (starEach [e,f] X.env)=[(t7,eval e X.env),(t7,eval f X.env)]
end L2
namespace Att
open PySem PySem.W PySem.Calls PyProof.Rows
def Ad0:∀(ns:lg Int)(d:lg aH),WellAll P h d ns.map[WData.int]->qD d ns:=by
 intro ns;induction ns with
 |nil=>
  intro d w;cases w;exact .nil
 |cons n ns e=>
  intro d w;cases w with
  |cons a b=>
   cases a;exact .cons _ _ (e _ b)
def Avf{l:OpenLaw}{n:Nat}(s:l.most=sr n){P:Params}{h:eE}{args:lg WData}{vals:lg aH}(b:l.row.toRowW.claim.pre args=t8)(i:WellAll P h vals args):
  ∃a m ns,vals=[bQ a]/\args=[WData.list ns.map[WData.int]]/\h.get? a=sr { cls:=.type "list",data:=.seq m.toArray }/\qD m ns/\ns.length<=n:=by
 let j:WShape.hasAll [] args [.list .int]=t8:=(pre_splitW b).1;let t:l.pre.holds [] { args:=args }=t8:=(pre_splitW b).2;let(d,r,rfl,w,v):=hasAllW_cons j;obtain rfl:=hasAllW_nil v;let(y,rfl,u):=hasW_list w;let(ns,rfl):=items_int u;let c:ns.length<=n:=by
  let g:=by
   let g:=(holds_andW t).1;rw[s] at g;exact g
  let z:=condW_of g w_not[w_lt w_lit w_len_list[w_arg[rfl]]];simp_all
 cases i with
 |cons p o=>
  cases o;cases p with
  |list q e=>exact(_,_,ns,rfl,rfl,q,Ad0 ns _ e,c)
def Avg(l:OpenLaw)(a:lg WData):l.row.toRowW.claim.post a .bool[t8] a=t8:=(
 postW_of
  (by rfl)
  (w_eq_bool w_res[rfl] w_lit) rfl)
def attach_call{l:OpenLaw}{n:Nat}{q:cJ}{loose:lg t6}{XP:(t6->o9 aH)->eE->Prop}{D:dZ->eE->Prop}{d:DefRec}(L:l.most=sr n)(x:d.params.defaults=[])(call:∀(w:dZ)(s₀ b:aN)(mg mb:t6->o9 aH)(k:aM)(o:tu)(t s e:aH)(a:aM)(g:lg aH)(ns:lg Int),
   Ground q loose [] XP w s₀ mg mb b.heap->D w b.heap->
   b.heap.get? k=sr o->o.data=.func[docDef d.name d.params d.body d.scope t s e]->b.heap.CodeRec s d.name->mg d.name=sr .ref[k]->
   b.heap.get? a=sr { cls:=.type "list",data:=.seq g.toArray }->qD g ns->ns.length<=n->b.gens=#[]->
   codeAny[model l.prog w][callerA][.call .ref[k] ([.ref a],[])][λr p=>r=.ok .ret[.bool[t8]]/\OldK b.heap p.heap/\p.os=b.os/\qC p.gens][b]):
  WalkO q loose XP D l.row.toRowW d [] (λf g=>aBb f g):=by
 intro w s₀ b mg mb G F k o t s e Z kV J hd y B v P C vals as h A H u O;obtain rfl:_:=Dflts.none B x;obtain rfl:kV=.none:=Dflts.noKw B;let(a,g,ns,rfl,rfl,i,hints,j):=Avf L h u;refine enter_call[iT[call w s₀ b mg mb k o t s e a g ns G F J fd_plain[hd] y v i hints j P] λr p I=>?_];let(rfl,T,S,Q):=I;exact(.inl (_,_,[],rfl,λz=>rfl,.bool t8,Avg l _,λz=>(aFa,λz N=>(nomatch N))),T,S,Q)
end Att
namespace L2
open PySem PySem.Spec PyProof.Rows
theorem Aiy:∀{b:lg aH} {ns:lg Int},qD b ns->Vals ns.map[V.int] b
 |_,_,.nil=>.nil
 |_,_,.cons n t h=>.cons (t,rfl) Aiy[h]
def Only(H:Hp):Prop:=∀b,H b=sy\/∃o xs,H b=sr[.frz o .lst[xs]]
def Ax2{P:cJ}{w:dZ}{K:aF}{mg mb:t6->o9 aH}{CX:CXT}{k:Nat}{Y a:aM}{fd:eX}{x:t6}{sp:Sp}{c:aN}{A:lg aH}{ns:lg Int}(KX:K.In c.heap)(G:c.heap.Ns mainGlobals mg)(g:c.heap.Ns builtinsNs mb)(U:∀x:t6,x≠"__name__"->mb x=bootBuiltins x)(I:c.heap.NoLimit)(hg:c.gens=#[])(O:c.heap.get? a=sr { cls:=.type "list",data:=.seq A.toArray })(hi:qD A ns)(hl:ns.length<=sizeLine)(hr:Ho k callerA)(F:∀base:eE,K.In base->base.Ns mainGlobals mg->Ib P w K mg base CX k Y fd [x] sp)(hbind:∀(s:aN)(u:aH),xW s fd ([u],[]) [(x,u)])(S:∀H:Hp,Only H->SqL K H a ns.map[V.int]->sp [.ref a] H (λv l=>v=.bl t8) λl l l=>False)(X:∀H e i,CX [] H c (λl l l=>False) e i->False):
  codeAny[model P w][callerA][.call .ref[Y] ([.ref a],[])][λr i=>r=.ok .ret[.bool[t8]]/\OldK c.heap i.heap/\i.os=c.os/\qC i.gens][c]:=by
 let rv:=Aiy hi;let D:=hi.length;let t:∀H:Hp,Only H->SqL K H a ns.map[V.int]->HOk P w H c.heap->(∀b,H b≠sy->b=a)->(H a≠sy->K.lookup a=sy)->
   codeAny[model P w][callerA][.call .ref[Y] ([.ref a],[])][λr i=>r=.ok .ret[.bool[t8]]/\OldK c.heap i.heap/\i.os=c.os/\qC i.gens][c]:=by
  intro H hO hS hok hA hK;let f:∀{b:aM} {o:tu},c.heap.get? b=sr o->H b=sy->(Am7 c.heap H).get? b=sr o:=λe n=>Axm e n;let Q:∀{b:aM} {o:tu} {L:Array DictEntry} {N:Nat},c.heap.get? b=sr o->o.data=.dict L N->H b=sy:=λ{b o L N} e d=>by
   cases q:H b with
   |none=>rfl
   |some u=>
    let Z:b=a:=hA b (by rw[q];simp)
    subst Z;rw[O] at e;cases e;let d':aDu A.toArray _=Data.dict L N:=d;cases d'
  let p:∀{b:aM} {m:t6->o9 aH},c.heap.Ns b m->(Am7 c.heap H).Ns b m:=λ{b m} ⟨o,L,N,e,d,r⟩=>(o,L,N,f e (Q e d),d,r);let J:K.In[Am7 c.heap H]:=λb o e=>f (KX b o e) (by
   cases q:H b with
   |none=>rfl
   |some u=>
    let Z:b=a:=hA b (by rw[q];simp)
    subst Z;rw[hK (by rw[q];simp)] at e;cases e)
  let hM:Mod K mg (Am7 c.heap H):=(J,p G,(mb,p g,U),let ⟨mc,h1,h2⟩:=I;(mc,p h1,h2));let e0:Aqp P w K mg (Am7 c.heap H) callerA [] c H:=(rfl,hM,λb o e=>Bci e,lG[PySem.W.hideAll_size _ _],trivial,λb g=>absurd (show b∈([]:lg aM) from g) (by simp),hok,.of_eq hg)
  refine iT[(F _ J p[G]).run callerA [] c H ([.ref a],[]) [.ref a] [.ref a] _ _ hr e0 (hbind c .ref[a]) (.cons rfl .nil) (S H hO hS)] λr i h=>?_;cases r with
  |error e=>exact(X H e i h).elim
  |ok fl=>
   cases fl with
   |next=>exact gU h
   |brk=>exact gU h
   |cont=>exact gU h
   |ret u=>
    let(v,H',os,bare,un,E,r',q):=h;let q':v=.bl t8:=q;subst q';obtain rfl:u=tZ t8:=r';refine(rfl,OldK.of_keep λb o e=>?_,os,bare);cases q:H b with
    |none=>exact un.keep b o e q (by intro z;exact absurd (show b∈([]:lg aM) from z) (by simp)) (by simp)
    |some u=>
     rcases hO b with z|⟨ob,xs,z⟩
     .rw[q] at z;cases z
     .let z2:=un.frzs b ob _ z;let(e1,_):=hok b _ z;let(e2,_):=E b _ z2;rw[e] at e1;cases e1;exact e2
 cases T:K.lookup a with
 |some o=>
  let e:=KX a o T;rw[O] at e;cases e;refine t (λl=>sy) (λl=>.inl rfl) (.inr (_,A.toArray,_,T,rfl,rfl,rfl,by rw[cG,D];exact hl,by simpa using rv)) (λb u z=>by let C:(sy:o9 HO)=sr u:=z;cases C) (λb z=>absurd rfl z) λz=>absurd rfl z
 |none=>
  refine t (λb=>if b=a then sr (.frz { cls:=.type "list",data:=.seq A.toArray } (.lst ns.map[V.int])) else sy) (λb=>?_) (.inl (.inr ({ cls:=.type "list",data:=.seq A.toArray },di rfl))) (λb u z=>?_) (λb z=>?_) λl=>T
  .by_cases g:b=a
   .exact .inr (_,_,di g)
   .exact .inl dm[g]
  .by_cases g:b=a
   .let C:=(di g).symm.trans z;cases C;subst g;exact(O,by rw[aC];exact hl,A,_,rv,O)
   .let C:=(dm g).symm.trans z;cases C
  .by_cases g:b=a
   .exact g
   .exact absurd dm[g] z
def Bcx{l:uN}{n k:Nat}{q:cJ}{loose:lg t6}{XP:(t6->o9 aH)->eE->Prop}{J:dZ->eE->Prop}{d:DefRec}{K:Params->aF}{N:dZ->CXT}{I:dZ->Sp}{x:t6}(Q:l.most=sr n)(A:n<=sizeLine)(C:d.params.defaults=[])(P:Ho k callerA)(Y:∀(w:dZ)(h:eE),J w h->(K w.params).In h)(F:∀(w:dZ)(mg:t6->o9 aH)(t:aM)(h:eE),(K w.params).In h->h.Ns mainGlobals mg->mg d.name=sr .ref[t]->
   ∃fd:eX,(∀(s:aN)(u:aH),xW s fd ([u],[]) [(x,u)])/\
    ∀base:eE,(K w.params).In base->base.Ns mainGlobals mg->Ib l.prog w K[w.params] mg base N[w] k t fd [x] I[w])(z:∀(w:dZ)(H:Hp)(a:aM)(ns:lg Int),ns.length<=n->Only H->SqL K[w.params] H a ns.map[V.int]->I w [.ref a] H (λv j=>v=.bl t8) λj j j=>False)(D:∀(w:dZ)(H:Hp)(s:aN)(e:aH)(y:aN),N w [] H s (λj j j=>False) e y->False):
  aBx q loose XP J l.row.toRowW d [] (λf E=>aBb f E):=by
 refine Att.attach_call Q C λw s₀ m mg mb t o pm cd doc a E ns G O ho hd U B p hints c S=>?_;let L:=Y w _ O;let(fd,X,hF):=F w mg t _ L G.T.g B;exact Ax2 L G.T.g G.T.b G.T.builtins G.T.nolimit S p hints (aD c A) P hF X (λH hO Z=>z w H a ns c hO Z) λH e y=>D w H m e y
def inClass(s:dI)(j:Nat):dI:=match s with
 |.ClassDef _ _ _ body _ _ _ _ _ _ _=>body.getD j (.Pass (0,0,0,0))
 |_=>.Pass (0,0,0,0)
def Fb(s:dI):Arguments:=match s with
 |.FunctionDef _ a _ _ _ _ _ _ _ _=>a
 |_=>{ posonlyargs:=[],args:=[],vararg:=sy,kwonlyargs:=[],kw_defaults:=[],kwarg:=sy,defaults:=[] }
def Ao(s:dI):lg dI:=match s with
 |.FunctionDef _ _ b _ _ _ _ _ _ _=>b
 |_=>[]
def Ak(s:dI):kJ:=match s with
 |.FunctionDef _ _ _ _ _ _ sc _ _ _=>sc
 |_=>{ kind:=.function,names:=[],isGenerator:=false,isCoroutine:=false }
abbrev E0:XK:=λuu uu uu=>False
structure Fun(K:aF)(x aj:t6)(st:dI)(f:aM)(fd:eX):Prop where
 ex:∃(oc:aH)(od:Option aM)(dV kV doc pm:aH)(an:Option aM)(cdv ct:aH)(osl:Array (Option aH)),
  fd=dR x aj (Fb st) (Ao st) (Ak st) dV kV doc pm an cdv ct/\K.lookup f=sr (oc,od,.func fd,osl)/\lA K cdv aj=t8
 kp:dD K (.ref f)=t8
section
def Afm{K:aF}{x aj:t6}{st:dI}{ps:lg t6}{an:o9 aM}{kV doc pm cdv ct:aH}(h:∀us:lg aH,us.length=ps.length->bindArgs (dR x aj Fb[st] Ao[st] Ak[st] .none kV doc pm an cdv ct) (us,[])=pure ps.zip[us]):Binds K (dR x aj Fb[st] Ao[st] Ak[st] .none kV doc pm an cdv ct) ps []:=.all h
def Ake{K:aF}{x aj:t6}{st:dI}{f:aM}{oc:aH}{od an:o9 aM}{osl:Array o9[aH]}{dV kV doc pm cdv ct:aH}(l:K.lookup f=sr (oc,od,.func[dR x aj Fb[st] Ao[st] Ak[st] dV kV doc pm an cdv ct],osl))(c:lA K cdv aj=t8)(k:dD K .ref[f]=t8):Fun K x aj st f (dR x aj Fb[st] Ao[st] Ak[st] dV kV doc pm an cdv ct):=((oc,od,dV,kV,doc,pm,an,cdv,ct,osl,rfl,l,c),k)
end
section
def Avh:Le X .builtin["len"] (λc H Q=>∃a b,c=[V.ref a]/\H a=sr .dK[b]/\Q .int[b.length] H):=by
 intro k s g H c i Q I r h;let(a,b,rfl,e,q):=h;let(u,rfl,d):=vals1 r;cases d;exact Bl8 I .inl[e] λt j f=>(.int b.length,H,f,(t,rfl),q)
end
def Ane{A B:Prop}(h:B):if t7=t8 then A else B:=by trivial
def Akf{A B:Prop}(h:A):if t8=t8 then A else B:=by trivial
def Tp(n:Nat)(h:eE)(e:aM)(od:o9 aM):Prop:=∃oe vs,h.get? e=sr oe/\oe.data=.fields vs/\(n=0->vs[2]?=sr .none)/\oe.dict=od
section
variable{M:Model}{A:fX}{E:aH->aN->Prop}{s:aN}{n:Nat}{od:o9 aM}
def Ax3(J:A.frames=sr (env::outer))(r:s.heap.FunFrames B (env::outer))(N:env.frame=sr L)(at_:s.heap.get? e=sr ob)(kB:B.StaysIn s.heap)(I:B.get? e=sy)(i:ob.data=.fields j)(sz:1 < j.size)(F:j[0]?=sr O)(D:n=0->j[2]?=sr .none)(k:∀g,zW B (env::outer) e ob.cls O rawInt[L] s.heap g->Tp n g e ob.dict->Q u9 { s with heap:=g }):
  wpAny M A (do let a<-frameOf env;let pl<-entryPlaceOf L nx;let b<-wB hd a .none rawInt[L] .none pl;setField .ref[e] 1 b) Q E s:=by
 let off:e∉(env::outer).filterMap (·.frame):=λz=>by
  let(_,o,q,n):=r.mem z;rw[at_] at q;exact n j (by rw[<-bK q];exact i)
 refine aA[wpAny_frameOf_fun J r N λf only=>?_];refine aA[wpAny_entryPlaceOf λpl p=>?_];unfold wB newFields;refine aA eY[?_][p.sizeOk5 _ _ _ _ _];generalize C:({ cls:=.type "traceback",dict:=sy,data:=.fields ([hd,.ref L,.none,rawInt L,.none] ++ (if pl.isEmpty then cA 6 gF else pl)).toArray }:tu)=tb
 let y:f.get? e=sr ob:=(only.2.1 e off).trans at_;let m:B.StaysIn f:=λb o z=>(only.2.1 b λw=>by rw[(r.mem w).1] at z;cases z).trans (kB b o z)
 let x:(f.push tb).get? e=sr ob:=aG tb y;refine gA x i sz ?_;let ne:f.objs.size≠e:=nW bA[y];let u:=cV i (·.setIfInBounds 1 bQ[f.objs.size]);let v:=bZ (gB (·.setIfInBounds 1 bQ[f.objs.size])) x gD[u];let H:=(bT f.push[tb] (gB (·.setIfInBounds 1 bQ[f.objs.size])) eG[ne]).trans (aW f (by rw[<-C];rfl))
 let stay:∀b o,b≠e->f.get? b=sr o->((f.push tb).update e (gB (·.setIfInBounds 1 bQ[f.objs.size]))).get? b=sr o:=λb o n z=>(bT _ _ eG[n]).trans (aG tb z);let h:∀b o,s.heap.get? b=sr o->(∀G,o.data≠.fields G)->b≠e:=λb o z n w=>by
  subst w;rw[at_] at z;exact n j (by rw[<-bK z];exact i)
 refine k _ (λb o z=>stay b o (λw=>by rw[w,I] at z;cases z) (m b o z),r.of_keeps λb o z n=>?_,?_,λb o z n=>?_) (_,_,v,u,λz=>by rw[oO ()];exact D z,by
   let(c,d,i,t):=ob;cases i <;> rfl)
 .let(t,w):=only.2.2 b o z;exact(_,stay b _ (h b o z n) w,rfl)
 .refine(_,_,f.objs.size,_,_,v,(mF _ _,by rw[oO ()];exact F),u,by simp[sz],m.fresh,ne,H,by rw[<-C],?_)
  first
   |(simp;done)
   |(rcases p with rfl|⟨_,_,_,_,_,_,_,rfl⟩ <;> simp)
 .let(t,w):=only.2.2 b o z;exact(t,stay b _ (h b o z n) w)
def Aqt(kB:B.StaysIn s.heap)(H:s.heap.FunFrames B l)(tr:s.heap.TracedAtW B e cls N P)(I:Tp n s.heap e od)(k:∀g,B.StaysIn g->g.FunFrames B l->g.TracedW B e cls N->Tp n g e od->s.heap.UpToSlots g->Q u9 { s with heap:=g }):wpAny M A (setFlight .ref[e] sy) Q E s:=by
 let(D,j,T,O,x,i,G,f,m,F,d,q,dT,y):=tr;let(C,h,u,t,L,J):=I;rw[i] at u;obtain rfl:=bK u;rw[f] at t;obtain rfl:j=h:=by injection t
 let p:3 < x.size:=(fJ.mp y).1;let a:∀b,b≠T->(s.heap.update T (gB (·.setIfInBounds 3 .none))).get? b=s.heap.get? b:=λb n=>bT _ _ eG[n];let c:∀b o,s.heap.get? b=sr o->(∀v,o.data≠.fields v)->b≠T:=λb o z n w=>by
  simp_all
 let r:=(a e eG[d]).trans i;refine wpAny_setFlight_none i f m q dT p (k _ (λb o z=>(a b λw=>by simp_all).trans (kB b o z)) (H.of_keeps λb o z n=>(o,(a b (c b o z n)).trans z,rfl)) ?_ (_,_,r,f,L,J) λb o z n=>(o.slots,(a b (c b o z n)).trans z))
 exact(D,j,T,_,_,r,G,f,m,F,d,bZ _ q gD[cV dT _],cV dT _,by simp[p])
def Ax4(j:A.frames=sr (env::outer))(l:s.heap.FunFrames B (env::outer))(c:env.frame=sr L)(at_:s.heap.get? e=sr ob)(kB:B.StaysIn s.heap)(i:B.get? e=sy)(d:ob.data=.fields a)(b:a[1]?=sr .none)(h:a[0]?=sr m)(f:n=0->a[2]?=sr .none)(k:∀g,zW B (env::outer) e ob.cls m rawInt[L] s.heap g->Tp n g e ob.dict->Q u9 { s with heap:=g }):wpAny M A (noteFrame .ref[e] env) Q E s:=by
 unfold noteFrame;simp only[c];exact aA[dM at_ d b (Ax3 j l c at_ kB i d (fJ.mp b).1 h f k)]
def Ax5(G:A.frames=sr (env::outer))(H:s.heap.FunFrames B (env::outer))(q:env.frame=sr L)(tr:s.heap.TracedW B e cls O)(kB:B.StaysIn s.heap)(D:B.get? e=sy)(j:Tp n s.heap e od)(k:∀g,zW B (env::outer) e cls O rawInt[L] s.heap g->Tp n g e od->Q u9 { s with heap:=g }):wpAny M A (noteFrame .ref[e] env) Q E s:=by
 let(S,u,T,U,P,f,(F,v),i,l,C,h,p,dT,m):=tr;let(y,d,t,r,J,I):=j;rw[f] at t;obtain rfl:=bK t;rw[i] at r;obtain rfl:u=d:=by injection r
 subst F;subst I;unfold noteFrame;simp only[q];refine aA[dM f i l ?_];refine aA[dM p dT m ?_];refine aA[gA p dT (fJ.mp m).1 ?_];let a:∀b,b≠T->(s.heap.update T (gB (·.setIfInBounds 3 gF))).get? b=s.heap.get? b:=λb n=>bT _ _ eG[n];let c:∀b o,s.heap.get? b=sr o->(∀x,o.data≠.fields x)->b≠T:=λb o z n w=>by
  simp_all
 refine Ax3 G (H.of_keeps λb o z n=>(o,(a b (c b o z n)).trans z,rfl)) q ((a e eG[h]).trans f) (λb o z=>(a b λw=>by rw[w,C] at z;cases z).trans (kB b o z)) D i (fJ.mp l).1 v J λg N j=>k g (N.1,N.2.1,N.2.2.1,λb o z n=>N.2.2.2 b o ((a b (c b o z n)).trans z) n) j
def As2(u:A.frames=sr (env::outer))(v:s.heap.FunFrames B (env::outer))(x:env.frame=sr L)(at_:s.heap.get? e=sr ob)(kB:B.StaysIn s.heap)(r:B.get? e=sy)(y:ob.data=.fields a)(p:a[1]?=sr .none)(q:a[0]?=sr a0)(m:n=0->a[2]?=sr .none)(k:∀g,Heap.LeftW B (env::outer) e ob.cls a0 s.heap g->Tp n g e ob.dict->Q u9 { s with heap:=g }):wpAny M A (leaving env .ref[e]) Q E s:=(aA (Ax4 u v x at_ kB r y p q m λg N C=>Aqt N.1 N.2.1 N.2.2.1 C λt j i h f d=>k t (j,i,h,λb o z n=>by
  let(D,w):=N.2.2.2 b o z n;let(c,l):=d b _ w n;exact(c,l)) f))
def Bcy(r:A.frames=sr (env::outer))(u:env.frame=sr L)(t:jB B (env::outer) e cls D s.heap)(C:Tp n s.heap e od)(k:∀g,jB B outer e cls D g->Tp n g e od->s.heap.UpToSlots g->Q u9 { s with heap:=g }):wpAny M A (leaving env .ref[e]) Q E s:=by
 let(y,f,x,v):=t;exact aA (Ax5 r x u v y f C λg N d=>Aqt N.1 N.2.1 N.2.2.1 d λq m l j i h=>by
  let(_,_,a):=l;exact k q (m,f,a,j) i λb o z n=>by
   let(F,w):=N.2.2.2 b o z n;let(c,p):=h b _ w n;exact(c,p))
def okX(o:o9[Nat×o9 aM])(h:eE)(e:aM):Prop:=∀n od,o=sr[u6 n od]->Tp n h e od
def Tp.ok{n:Nat}(c:Tp 0 h e od):okX sr[u6 n od] h e:=(λa a z=>by
 cases z;let(d,b,j,i,g,f):=c;exact(d,b,j,i,λa=>g rfl,f))
def okX.none:okX sy h e:=(λa a z=>nomatch z)
def Tp.okS{n:Nat}(c:Tp n h e od):okX sr[u6 n od] h e:=(λa a z=>by simp_all)
def Bh8{o:o9[Nat×o9 aM]}(a:A.frames=sr (env::outer))(c:env.frame=sr L)(b:jB B (env::outer) e cls i s.heap)(d:okX o s.heap e)(k:∀g,jB B outer e cls i g->okX o g e->s.heap.UpToSlots g->Q u9 { s with heap:=g }):wpAny M A (leaving env .ref[e]) Q E s:=by
 cases o with
 |none=>exact wpAny_leaves_onW a c b λg f sm=>k g f okX.none sm
 |some p=>exact Bcy a c b (d p.1 p.2 rfl) λg f h sm=>k g f h.okS sm
def Ax6{o:o9[Nat×o9 aM]}(b:A.frames=sr (env::outer))(c:env.frame=sr L)(l:jB B (env::outer) e cls q s.heap)(j:okX o s.heap e)(k:∀g,aEr B (env::outer) e cls q L g->okX o g e->s.heap.UpToSlots g->Q u9 { s with heap:=g }):wpAny M A (noteFrame .ref[e] env) Q E s:=by
 let(i,a,h,d):=l;cases o with
 |none=>exact wpAny_looks_onW b c (i,a,h,d) λg f sm=>k g f okX.none sm
 |some p=>exact Ax5 b h c d i a (j p.1 p.2 rfl) λg N m=>k g (N.1,a,N.2.1,N.2.2.1) m.okS N.2.2.2
def Afn{o:o9[Nat×o9 aM]}(kB:B.StaysIn s.heap)(f:B.get? e=sy)(h:s.heap.FunFrames B l)(tr:s.heap.TracedAtW B e cls t v)(j:okX o s.heap e)(k:∀g,jB B l e cls t g->okX o g e->s.heap.UpToSlots g->Q u9 { s with heap:=g }):wpAny M A (setFlight .ref[e] sy) Q E s:=by
 cases o with
 |none=>exact wpAny_setFlight_noneW kB h tr λg d c a i=>k g (d,f,c,a) okX.none λb ob q m=>(ob.slots,i b ob q m)
 |some p=>exact Aqt kB h tr (j p.1 p.2 rfl) λg d c a r sm=>k g (d,f,c,a) r.okS sm
def Bh9(r:A.frames=sr (env::outer))(v:env.frame=sr L)(kB:B.StaysIn h)(u:h.FunFrames B (env::outer))(a:mL h s.heap e cls d)(k:∀g t,jB B outer e cls .ref[t] g->Tp 0 g e sy->s.heap.UpToSlots g->Q u9 { s with heap:=g }):wpAny M A (leaving env .ref[e]) Q E s:=by
 let(t,i,_,_):=a.there;let c:B.get? e=sy:=by
  cases z:B.get? e with
  |none=>rfl
  |some o=>
   let w:=kB e o z;rw[a.new] at w;cases w
 refine As2 (n:=0) (a0:=.ref t) r (u.of_keeps λb o z f=>(o,a.keeps b o z,rfl)) v i (λb o z=>a.keeps b o (kB b o z)) c rfl rfl rfl (λf=>rfl) λg q x=>?_;let(p,(_,_,m),l,j):=q;exact k g t (p,c,m,l) x j
end
def Eh.there(x:Eh P w H h a o):∃ob,h.get? a=sr ob:=by
 cases o with
 |lst c=>let(_,_,_,_,e):=x;exact(_,e)
 |tup c=>let(_,_,_,ob,e,_):=x;exact(_,e)
 |dK b=>let(_,_,_,_,o,_,_,e,_):=x;exact(_,e)
 |dT b=>let(_,_,_,_,o,_,_,e,_):=x;exact(_,e)
 |set S n=>let(o,_,_,_,e,_):=x;exact(_,e)
 |ins C g fs=>let(_,_,_,e,_):=x;exact(_,e)
 |own y=>exact x
 |xd fs=>let(_,(_,_,_,e,_),_):=x;exact(_,e)
 |rng lo hi=>let(_,_,_,e):=x;exact(_,e)
 |frz ob u=>let(e,_):=x;exact(_,e)
 |tbl ps=>exact(_,(x))
 |met f y=>exact(_,(x))
 |ext d=>let(_,z,_):=x;omega
structure Fly(P:cJ)(w:dZ)(outer:List Env)(H:Hp)(s:aN)(H':Hp)(e:aM)(cls:aH)(s':aN):Prop where
 os:s'.os=s.os
 bare:qC s'.gens
 un:Un (frs outer) [] H H' s.heap s'.heap
 hok:HOk P w H' s'.heap
 new:s.heap.get? e=sy
 fre:H' e=sy
 fly:∃(B:eE)(a0:aH),jB B outer e cls a0 s'.heap/\(∀b o,s.heap.get? b=sr o->H b=sy->b∉frs outer->B.get? b=sr o)/\
  (∀b o,s.heap.get? b=sr o->b∉frs outer->∃o',B.get? b=sr o')/\∀a u o,H' a=sr u->s'.heap.get? a=sr o->B.get? a=sr o
def CXo(P:cJ)(w:dZ):CXT:=λouter H s E e s'=>∃(ea:aM)(cls:aH)(H':Hp)(o:o9[Nat×o9 aM]),e=bQ ea/\Fly P w outer H s H' ea cls s'/\okX o s'.heap ea/\E cls o H'
section
def Inv.notStk(I:Inv X d a H s)(e:X.s₀.heap.get? b=sr o)(c:b∉X.fs):b∉frs X.stack:=(λz=>by
 rcases aY.mp[I.stkSub b z] with q|q
 .exact absurd (bH bA[e] (by rw[q];exact I.ok.above)) fM[_]
 trivial)
def Inv.fsStk(I:Inv X f e H s)(a:X.stack=X.env::X.outer):∀b∈X.fs,b∈frs X.stack:=(λb d=>by
 rw[a];let(env,c,hf):=gV.mp d;exact gV.mpr (env,aY.mpr .inr[c],hf))
def Inv.locStk(I:Inv X c b H s)(a:X.stack=X.env::X.outer)(hf:X.env.frame=sr X.env.locals):X.env.locals∈frs X.stack:=by
 rw[a];exact gV.mpr (X.env,aY.mpr .inl[rfl],hf)
def Inv.fly_made(I:Inv X aa σ H s)(N:X.stack=X.env::X.outer)(F:X.env.frame=sr X.env.locals)(G:X.ex=[])(p:mL s.heap J e cls P)(k:∀c:eE,Fly X.prog X.w X.outer X.H₀ X.s₀ H e cls { s with heap:=c }->Tp 0 c e sy->Q u9 { s with heap:=c }):wpAny M X.A (leaving X.env .ref[e]) Q E { s with heap:=J }:=by
 let D:∀env∈X.stack,∀a,env.frame=sr a->a∈frs X.stack:=λenv U a Y=>gV.mpr (env,U,Y);let st:(cN s.heap frs[X.stack]).StaysIn s.heap:=λb o q=>lF _ q;let L:s.heap.FunFrames (cN s.heap frs[X.stack]) X.stack:=oA I.stack D;let noex:∀b,b∉X.ex:=λb z=>by rw[G] at z;exact absurd z (by simp)
 let L:s.heap.FunFrames (cN s.heap frs[X.stack]) (X.env::X.outer):=by rw[<-N];exact L
 refine Bh9 (s:={ s with heap:=J }) (B:=cN s.heap frs[X.stack]) (h:=s.heap) (by rw[I.ok.frames,N]) F st L p λc t x Z r=>k c ?_ Z
 let r:J.UpToSlots c:=r;let d:∀b o,s.heap.get? b=sr o->b∉frs X.stack->c.get? b=sr o:=λb o q n=>x.1 b o (eO _ q n);let l:∀b o,s.heap.get? b=sr o->b∈frs X.stack->∃C,c.get? b=sr { o with slots:=C }:=λb o q hb=>by
  let(_,g,O,T):=I.stack.mem hb;rw[q] at O;cases O;exact r b o (p.keeps b o q) T
 refine(I.os,I.bare,(λb o q n hb i=>?_,λb o q n hb i=>?_,λb o q n i=>I.base.free b o q n noex[b],λb o q i=>?_,I.base.tups,I.base.frzs,I.base.tbls),λa u q=>?_,?_,?_,?_)
 .exact d b o (I.base.keep b o q n hb noex[b]) (I.notStk q hb)
 .let(C,f):=I.base.slot b o q n hb noex[b];let(y,j):=l b _ f (I.fsStk N b hb);exact(y,j)
 .let(g,f):=I.base.there b o q noex[b];by_cases hb:b∈frs X.stack
  .let(C,j):=l b g f hb;exact(_,j)
  .exact(g,d b g f hb)
 .refine(I.hok a u q).stay (λb v hb z=>d b v z λm=>?_) (λi z=>z) λi i z=>z;let n:=I.stkFree b m;rcases hb with rfl|hb
  .rw[n] at q;cases q
  .rw[n] at hb;cases hb
 .cases q:X.s₀.heap.get? e with
  |none=>rfl
  |some o=>
   let(g,f):=I.base.there e o q noex[e];rw[p.new] at f;cases f
 .cases q:H e with
  |none=>rfl
  |some u=>
   let(g,f):=(I.hok e u q).there;rw[p.new] at f;cases f
 .refine(_,_,x,λb o q n hb=>eO[_][I.base.keep b o q n hb noex[b]][I.notStk q hb],λb o q hb=>?_,λa u o q z=>?_)
  .let(g,f):=I.base.there b o q noex[b];exact(g,eO _ f (I.notStk q hb))
  .let(ob,f):=(I.hok a u q).there;let j:=eO frs[X.stack] f λm=>by
    let n:=I.stkFree a m;rw[n] at q;cases q
   let S:=x.1 a ob j;let z:c.get? a=sr o:=z;rw[S] at z;cases z;exact j
def Inv.fly_on(I:Inv X aa σ H s)(N:X.stack=X.env::X.outer)(G:X.env.frame=sr X.env.locals)(J:X.ex=[])(F:Fly X.prog X.w X.stack H s H' e cls m){o:o9[Nat×o9 aM]}(Z:okX o m.heap e)(k:∀c:eE,Fly X.prog X.w X.outer X.H₀ X.s₀ H' e cls { m with heap:=c }->okX o c e->Q u9 { m with heap:=c }):wpAny M X.A (leaving X.env .ref[e]) Q E m:=by
 let(B,a0,L,T,S,D):=F.fly;let noex:∀b,b∉X.ex:=λb z=>by rw[J] at z;exact absurd z (by simp)
 let x:=L;rw[N] at x;refine Bh8 (by rw[I.ok.frames,N]) G x Z λc i C U=>k c ?_ C
 let t:∀b o,m.heap.get? b=sr o->b∈frs X.stack->∃y,c.get? b=sr { o with slots:=y }:=λb o q hb=>by
  let(_,h,P,nf):=L.2.2.1.mem hb;rw[q] at P;cases P;exact U b o q nf
 refine(F.os.trans I.os,F.bare,(λb o q n hb j=>?_,λb o q n hb j=>?_,λb o q n j=>?_,λb o q j=>?_,λb O q=>F.un.tups b O (I.base.tups b O q),λb o u q=>F.un.frzs b o u (I.base.frzs b o u q),λb ps q=>?_),λa u q=>?_,?_,F.fre,?_)
 .exact i.1 b o T[b][o][I.base.keep b o q n hb noex[b]][I.base.free b o q n noex[b]][I.notStk q hb]
 .let(y,d):=I.base.slot b o q n hb noex[b];let r:=I.fsStk N b hb;let(Y,g):=F.un.slot b _ d (I.base.free b o q n noex[b]) r (by simp)
  let(l,p):=t b _ g r;exact(l,p)
 .let(h,d):=I.base.there b o q noex[b];exact F.un.free b h d (I.base.free b o q n noex[b]) (by simp)
 .let(h,d):=I.base.there b o q noex[b];by_cases hb:b∈frs X.stack
  .let(_,f,g,_):=L.2.2.1.mem hb;let(y,p):=t b f g hb;exact(_,p)
  .let(f,g):=S b h d hb;exact(f,i.1 b f g)
 .let(m1,e1):=I.base.tbls b ps q;let(m2,e2):=F.un.tbls b _ e1;exact(m1 ++ m2,by rw[e2,qL])
 .refine(F.hok a u q).stay (λb v hb z=>?_) (λj z=>z) λj j z=>z;rcases hb with rfl|hb
  .exact i.1 b v (D b u v q z)
  .exact i.1 b v (D b _ v hb z)
 .cases q:X.s₀.heap.get? e with
  |none=>rfl
  |some o=>
   let(h,d):=I.base.there e o q noex[e];rw[F.new] at d;cases d
 .refine(B,a0,i,λb o q n hb=>T[b][o][I.base.keep b o q n hb noex[b]][I.base.free b o q n noex[b]][I.notStk q hb],λb o q hb=>?_,λa u o q z=>?_)
  .let(h,d):=I.base.there b o q noex[b];exact S b h d (I.notStk q hb)
  .let(ob,d):=(F.hok a u q).there;let g:=D a u ob q d;let p:=i.1 a ob g;let z:c.get? a=sr o:=z;rw[p] at z;cases z;exact g
end
def Raises(X:Cx)(E:XK):Prop:=∀(aa:lg[aM×tu])(σ:St)(H:Hp)(s:aN)(e:aM)(cls:aH)(args:lg aH)(h':eE)(n:Nat),
 Inv X aa σ H s->mL s.heap h' e cls args->E cls sr[u6 n sy] H->X.xe .ref[e] { s with heap:=h' }
set_option tactic.hygienic true in
def Bcz{K:aF}{h:eE}{C:aM}{e:lg aH}{newId:String}(X:K.In h)(q:wN K C e newId=t8):
  ∃m N r p bs d o sub u b t k j i g f w,h.get? C=sr[excClassObj r p C N bs m d o sub u b t k j i g f newId]/\h.Ns N w/\w "__init__"=sy/\aAn h e m:=by
 unfold wN at q;split at q
 .rename_i t F v D;split at q
  .rename_i G m k j i g n f y x;simp only[aB,beq_iff_eq,dF] at q;let(((((rfl,rfl),a),B),hok),c):=q;let(r,bs,A,ns,p,hd,o,sub,u,b,E):=F;dsimp only at y a hok c;subst y a;let s:v=#[k,j,i,g,sr .builtin[n],f]:=by
    obtain⟨l⟩:=v;simp only at x;rw[x]
   subst s;exact(m,ns,r,p,bs,hd,o,sub,u,b,t,k,j,i,g,f,_,X _ _ D,.of_isNs[xF X hok],PySem.W.nsMap_none_of_in X hok c,xG X B)
  .cases q
 .cases q
def Bia(ta:TA)(C:aM)(E:XK):TS:=λuu σ H=>ta σ H λvs H1=>vs.length<=sizeLine/\∃n,E .ref[C] sr[u6 n sy] H1
abbrev Afo:lg aH:=[.type "ValueError",.type "Exception",.type "BaseException",.type "object"]
abbrev Anf(K:aF)(C:aM):Prop:=wN K C Afo "ValueError.__new__"=t8
def Dv(CX:CXT)(X:Cx)(E:St->XK):Prop:=∀(aa:lg[aM×tu])(σ:St)(H:Hp)(s:aN)(e:aH)(s':aN),Inv X aa σ H s->CX X.stack H s E[σ] e s'->X.xe e s'
def Bib(sp:Sp)(dvs:lg V)(E:St->XK)(t:TA):TE:=λσ H Q=>t σ H λvs H1=>sp (vs ++ dvs) H1 Q E[σ]
def Ang{k:Nat}(F:Ib X.prog X.w X.K X.mg X.base CX k f fd ps C Z)(J:Ho k X.A Z)(P:Gl X x)(L:X.mg x=sr .ref[f])(O:dD X.K .ref[f]=t8)(T:Binds X.K fd ps y)(hd:Vals j y)(G:Dv CX X E)(U:PA X (e::c) t)(i:autoParam ((x==("__debug__":t6))=t7) zq3._auto_1)(S:autoParam (starEach (e::c) X.env=(u6 t7 (eval e X.env))::starEach c X.env) zq2._auto_1)(g:autoParam ((backTo pos (starEach c X.env)).any (·.1)=t7) zq2._auto_1):
  PE[X][.Call (.Name x p) (e::c) [] pos][Bib C j E t]:=by
 intro z s l H Q I h;refine gG[Lz I P L ?_ i];refine lH I.ok.mod.kin O (thn[U pos z s l H _ I h] λm d ⟨vs,H1,I1,r,q⟩=>(I1.kIn,?_)) S g;let n:=r.append hd;let N:(m ++ y).length=ps.length:=by rw[<-n.length];exact F.len _ _ _ _ q
 refine mO[iT[F.run X.A X.stack d H1 _ _ _ Q _ J I1.env0 (T d m I1.kIn N) n q] λr D o=>?_];cases r with
 |error e=>exact G z l H1 d e D I1 o
 |ok Y=>
  cases Y with
  |ret u=>exact I1.after o
  |next=>trivial
  |brk=>trivial
  |cont=>trivial
def Sw(a:aM)(cls:aH)(o:o9[Nat×o9 aM]):HO:=.ext λh=>(∃o vs,h.get? a=sr o/\o.cls=cls/\o.data=.fields vs)/\okX o h a
abbrev Cx.tryB(X:Cx)(pn:lg[aM×tu])(xe:aH->aN->Prop):Cx:={ X with pn:=pn,xe:=xe }
abbrev Cx.suite(X:Cx)(e:aM):Cx:={ X with A:=X.A.mark sr[.ref[e]],calm:=false,xe:=λuu uu=>False }
theorem Ho.mark{k:Nat}(r:Ho k A b):Ho k A.mark[v] t7:=(λz=>absurd z (by simp),r.dp,r.un)
section
def Inv.tryIn(I:Inv X b a H s):Inv X.tryB[X.pn ++ b][xe] [] a H s:=(
 ((I.ok.mod,I.ok.kind,I.ok.glob,I.ok.blt,I.ok.above,I.ok.inj,I.ok.has,I.ok.cab,I.ok.hd,I.ok.frames,I.ok.stk,I.ok.exf,I.ok.bs,I.ok.bsz,I.ok.noex,I.ok.exfs,I.ok.funs,I.ok.frf),
 I.os,I.bare,I.base,I.loc,I.cell,I.free,I.freeC,λp hp=>I.pin p (by simp_all),I.hok,I.len))
def Inv.tryOut(I:Inv X.tryB[X.pn ++ c][xe] pins' b H s):Inv X c b H s:=(
 ((I.ok.mod,I.ok.kind,I.ok.glob,I.ok.blt,I.ok.above,I.ok.inj,I.ok.has,I.ok.cab,I.ok.hd,I.ok.frames,I.ok.stk,I.ok.exf,I.ok.bs,I.ok.bsz,I.ok.noex,I.ok.exfs,I.ok.funs,I.ok.frf),
 I.os,I.bare,I.base,I.loc,I.cell,I.free,I.freeC,λp hp=>I.pin p (jR _ hp),I.hok,I.len))
def Inv.suiteIn(I:Inv X c b H s)(e:aM):Inv X.suite[e] c b H s:=(
 ((I.ok.mod,I.ok.kind,I.ok.glob,I.ok.blt,I.ok.above,I.ok.inj,I.ok.has,I.ok.cab,λz=>Bool.noConfusion[z],I.ok.frames,I.ok.stk,I.ok.exf,I.ok.bs,I.ok.bsz,I.ok.noex,I.ok.exfs,I.ok.funs,I.ok.frf),
 I.os,I.bare,I.base,I.loc,I.cell,I.free,I.freeC,I.pin,I.hok,I.len))
def Inv.suiteOut(hd:X.calm=t8->X.A.handled=sy)(I:Inv X.suite[e] b a H s):Inv X b a H s:=(
 ((I.ok.mod,I.ok.kind,I.ok.glob,I.ok.blt,I.ok.above,I.ok.inj,I.ok.has,I.ok.cab,hd,I.ok.frames,I.ok.stk,I.ok.exf,I.ok.bs,I.ok.bsz,I.ok.noex,I.ok.exfs,I.ok.funs,I.ok.frf),
 I.os,I.bare,I.base,I.loc,I.cell,I.free,I.freeC,I.pin,I.hok,I.len))
def Inv.goes{i:Nat}{P:Nat}(I:Inv X aa t H s)(hN:X.N.Nodup)(hi:X.N[i]?=sr x)(Z:s.heap.Ns X.env.locals m)(hl:∀(j:Nat)(y:t6)(v:V),X.N[j]?=sr y->t[j]?=sr sr[v]->Vis X.env.scope y->∃u,RelV v u/\Look X.env s.heap m y u)(A:E.Ns X.env.locals (λy=>if y=x then v else m y))(f:gM X.env.locals s.heap E):Inv X aa (t.set i sy) H { s with heap:=E,toks:=P }:=by
 let cne:=I.cne;let(oL,_,_,Y,_):=id Z;let tracked:HOk X.prog X.w H E:=λb ob e=>by
  refine(I.hok b ob e).stay (λc F hc q=>(f.2 c ?_).trans q) (λG q=>q) λG G q=>q;rintro rfl;rcases hc with rfl|hc
  .rw[I.free] at e;cases e
  .rw[I.free] at hc;cases hc
 let a:∀{b:aM} {o:tu},X.s₀.heap.get? b=sr o->b≠X.env.locals:=λe=>cB[bH bA[e] I.ok.above];refine(I.ok,I.os,I.bare,(λb o e n D l=>?_,λb o e n D l=>?_,I.base.free,λb o e l=>?_,I.base.tups,I.base.frzs,I.base.tbls),(_,A,λj y L h g e3=>?_),λy c e=>?_,I.free,I.freeC,λp hp=>?_,tracked,by simpa using I.len)
 .exact(f.2 b a[e]).trans (I.base.keep b o e n D l)
 .let(Q,h):=I.base.slot b o e n D l;exact(Q,(f.2 b a[e]).trans h)
 .let(T,h):=I.base.there b o e l;exact(T,(f.2 b a[e]).trans h)
 .by_cases C:j=i
  .subst C;let B:j < t.length:=by
    by_cases J:j < t.length
    .exact J
    .rw[iJ[by simpa using J]] at g;cases g
   rw[dJ B] at g;cases g
  .rw[cX eG[C]] at g;let(O,S,q):=hl j y L h g e3;refine(O,S,?_);rcases q with ⟨k,e⟩|⟨k,c,e,z⟩
   .refine .inl (k,?_);have:y≠x:=λe=>C Afa[hN][h][e ▸ hi];simp[this,e]
   .exact .inr (k,c,e,z.sameBut f (cne y c e))
 .let(F,z):=I.cell y c e;exact(F,z.sameBut f (cne y c e))
 .let(e,n,ne,U,d):=I.pin p hp;exact((f.2 p.1 ne).trans e,n,ne,U,d)
def Inv.caught{o:o9[Nat×o9 aM]}(I:Inv X aa σ H s)(bh:X.stack=X.env::X.outer)(S:X.env.frame=sr X.env.locals)(F:Fly X.prog X.w X.stack H s H' e cls A)(fl:jB B X.stack e cls a0 A.heap)(k1:∀b o,s.heap.get? b=sr o->H b=sy->b∉frs X.stack->B.get? b=sr o)(kE:∀b o,s.heap.get? b=sr o->b∉frs X.stack->∃j,B.get? b=sr j)(Z:∀a u o,H' a=sr u->A.heap.get? a=sr o->B.get? a=sr o)(c:jB B X.stack e cls a0 D)(sm:A.heap.UpToSlots D)(ox:okX o D e):
  Inv X aa σ upd[H'][e][Sw e cls o] { A with heap:=D }:=by
 let(hh,g,d,t,Q):=A;obtain rfl:Q=s.os:=F.os;let i:∀b o,hh.get? b=sr o->b∈frs X.stack->∃E,D.get? b=sr { o with slots:=E }:=λb o q hb=>by
  let(_,j,G,nf):=fl.2.2.1.mem hb;let G:hh.get? b=sr j:=G;rw[q] at G;cases G;exact sm b o q nf
 let C:∀b,b≠X.env.locals->b∉X.fs->b∉frs X.stack:=λb L l z=>(aY.mp[I.stkSub b z]).elim L l;let ne:∀{b:aM} {u:HO},H' b=sr u->b≠e:=λq=>Ca q F.fre;refine I.step (s:=s) (g':=g) (d':=d) (t':=t) (h':=D) (ch:=[]) (λx z=>nomatch z) (λb o L l x q n=>c.1 b o (k1 b o q n (C b L l))) (λb o x l x q n=>?_) (λb o x q n=>?_) (λb o x q=>?_)
  (λb U q=>by let z:=F.un.tups b U q;rw[Ax ne[z]];exact z) (λb o u q=>by let z:=F.un.frzs b o u q;rw[Ax ne[z]];exact z) (λb ps q=>?_) (λm hm=>?_) (λa u q=>?_) F.bare
 .let hb:=I.fsStk bh b l;let(E,P):=F.un.slot b o q n hb (by simp)
  let(y,h):=i b _ P hb;exact(y,h)
 .rw[Ax (by rintro rfl;rw[F.new] at q;cases q)]
  exact F.un.free b o q n (by simp)
 .by_cases hb:b∈frs X.stack
  .let(_,f,h,_):=fl.2.2.1.mem hb;let(E,q3):=i b f h hb;exact(_,q3)
  .let(f,h):=kE b o q hb;exact(f,c.1 b f h)
 .let(m,z):=F.un.tbls b ps q;exact(m,by rw[Ax ne[z]];exact z)
 .let(o,es,ep,J,r):=hm;let hb:=I.locStk bh S;let(E,P):=F.un.slot X.env.locals o J I.free hb (by simp)
  let(y,h):=i X.env.locals _ P hb;exact(_,es,ep,h,r)
 .by_cases ha:a=e
  .subst ha;rw[Bd] at q;cases q;let(Y,vs,J,hc,hd,_):=c.first;refine(((Y,vs,J,hc,hd),ox),(Y,J),λL l p k=>?_);let((o,O,p1,p2,p3),p4):=p;refine((o,O,k o p1,p2,p3),λn od z=>?_);let(j,N,z1,z2):=p4 n od z;exact(j,N,k j z1,z2)
  .rw[Ax ha] at q;refine(F.hok a u q).stay (λb v hb z=>?_) (λb z=>by rw[Ax ne[z]];exact z) λb U z=>by rw[Ax ne[z]];exact z
   rcases hb with rfl|hb
   .exact c.1 b v (Z b u v q z)
   .exact c.1 b v (Z b _ v hb z)
end
def Boz(K:aF)(C:aM)(i:Nat)(tb:(St->XK)->TS)(th:TS):TS:=λD σ H=>
 tb (λσ' cls o H'=>iW K cls .ref[C]=sr t8/\∀ea,H' ea=sy->th { nx:=λσ2 H2=>D.nx (σ2.set i sy) H2,rt:=D.rt,bk:=λσ2 H2=>D.bk (σ2.set i sy) H2,ct:=λσ2 H2=>D.ct (σ2.set i sy) H2 }
  (σ'.set i sr[.ref[ea]]) upd[H'][ea][Sw ea cls o]) D σ H
def Bic{i:Nat}(bh:X.stack=X.env::X.outer)(S:X.env.frame=sr X.env.locals)(hN:X.N.Nodup)(hi:X.N[i]?=sr n)(hn:X.env.scope.names.lookup n=sr .local)(hg:Gl X x)(hm:X.mg x=sr .ref[C])(hd:autoParam ((x==("__debug__":t6))=t7) zq3._auto_1)(hb:∀(pn:lg[aM×tu])(xe:aH->aN->Prop)(E:St->XK),Dv[CXo X.prog X.w][X.tryB pn xe][E]->PSs (X.tryB pn xe) body tb[E])(hs:∀e,PSs X.suite[e] (Y::suite) th):
  PS[X][.Try body [.ExceptHandler sr[.Name x np] sr[n] (Y::suite) hpos] [] [] pos][Boz X.K C i tb th]:=by
 intro l s σ H D I h;let hkL:X.env.kindOf n=sr .local:=hn;let T:(X.env.scope.kind==.class||(X.env.scope.kind==.module&&X.env.locals != X.env.globals))=t7:=by rw[I.ok.kind];rfl
 refine zH[dX[hb (X.pn ++ l) _ _ ?pass [] s σ H D I.tryIn h][λf s1 q=>?_] λe s1 q=>q]
 case pass=>
  intro pins' L H1 s1 e s2 p hcx;let(y,cls,H2,o,rfl,F,ox,hx,q):=hcx;let p:Inv X l L H1 s1:=p.tryOut;let(B,a0,fl,k1,kE,k2):=F.fly;let U:=fl;rw[bh] at U;refine Ax6 (by rw[p.ok.frames,bh]) S U ox λh4 g ox4 sm4=>?_
  refine Afn g.1 g.2.1 g.2.2.1 g.2.2.2 ox4 λh5 j ox5 sm5=>?_;let Z:∀b o,X.base.get? b=sr o->h5.get? b=sr o:=λb o e=>j.1 b o (k1 b o (p.bs b o e).1 (p.bs b o e).2 λm=>by
   let z:=(p.stack.mem m).1;rw[e] at z;cases z)
  let K5:X.K.In h5:=p.ok.mod.kin.keeps Z;let LT:aBy (model X.prog X.w) h5 typeOf[.ref[y]] cls:=by
   let(ob,ho,hc):=j.there;exact hc ▸ (zJ ho).andThen .now
  refine wC uV[?_] (by intro q;cases q)
  refine jF p.ok.kind hg (nR (by rw[p.ok.glob];exact p.mod.glob.keeps Z) hm ?_) hd
  refine(aAb K5 LT hx) _ _ _ _ (λuu uu e=>e) ?_;show codeAny _ _ _ _ _;refine codeAny_handlers_suite_as[Afn j.1 j.2.1 j.2.2.1 j.2.2.2.at ox5 λh6 fl6 ox6 sm6=>?_];let t:=fl6;rw[<-bh] at t;let I6:Inv X l L upd[H2][y][Sw y cls o] { s2 with heap:=h6 }:=p.caught bh S F fl k1 kE k2 t sm4.trans[sm5.trans[sm6]] ox6
  refine Afb I6 hN hi .inl[hn] (v:=.ref y) rfl (λs7 I7=>?_) .inr[hn];refine dX[hs y l s7 _ _ _ I7.suiteIn[y] (q y F.fre)][λf s8 q8=>?_] λuu uu z=>z.elim;let out:∀{a:St} {c:Hp},Inv X.suite[y] l a c s8->∀{Q':Flow->aN->Prop},(∀r,Inv X l (a.set i sy) c r->Q' f r)->
    wpAny (model X.prog X.w) X.A (do bindName X.env n .none;unbindBehindTheSuite X.env n hpos) (λuu r=>Q' f r) X.xe s8:=λ{a c} J {Q'} k=>by
   let J:Inv X l a c s8:=J.suiteOut I.ok.hd;let(m,Q,hl):=id J.loc;exact wpAny_nameGoes_keeps hkL Q T λh' v hn' hs'=>k _ (J.goes hN hi Q hl hn' hs')
  cases f with
  |next=>let(a,c,d,z):=q8;exact out d (Q':=SP X l D) λr G=>(_,c,G,z)
  |brk=>let(a,c,d,z):=q8;exact out d (Q':=SP X l D) λr G=>(_,c,G,z)
  |cont=>let(a,c,d,z):=q8;exact out d (Q':=SP X l D) λr G=>(_,c,G,z)
  |ret u=>let(v,a,c,d,r8,z):=q8;exact out d (Q':=SP X l D) λr G=>(v,_,c,G,r8,z)
 .cases f with
  |next=>let(a,c,d,z):=q;exact lR (a,c,d.tryOut,z)
  |brk=>let(a,c,d,z):=q;exact(a,c,d.tryOut,z)
  |cont=>let(a,c,d,z):=q;exact(a,c,d.tryOut,z)
  |ret u=>let(v,a,c,d,r8,z):=q;exact(v,a,c,d.tryOut,r8,z)
section
def Akg(h:env'.frame=env.frame)(e:aH):noteFrame e env'=noteFrame e env:=by
 unfold noteFrame PySem.frameOf;rw[h]
def As3{o:o9[Nat×o9 aM]}(f:o9 aM)(kB:B.StaysIn s.heap)(L:s.heap.FunFrames B l)(tr:s.heap.TracedAtW B e cls P X)(G:okX o s.heap e)(k:∀g,B.StaysIn g->g.FunFrames B l->g.TracedAtW B e cls P (f.elim .none λf=>rawInt f)->okX o g e->s.heap.UpToSlots g->Q u9 { s with heap:=g }):wpAny M A (setFlight .ref[e] f) Q E s:=by
 let(H,x,T,U,C,q,J,u,j,r,d,p,dT,D):=tr;let m:3 < C.size:=(fJ.mp D).1;generalize t:(f.elim .none λf=>rawInt f:aH)=v;let a:∀b,b≠T->(s.heap.update T (gB (·.setIfInBounds 3 v))).get? b=s.heap.get? b:=λb n=>bT _ _ eG[n];let c:∀b o,s.heap.get? b=sr o->(∀y,o.data≠.fields y)->b≠T:=λb o z n w=>by
  simp_all
 let F:=(a e eG[d]).trans q;unfold setFlight;refine aA[dM q u j ?_];rw[t];refine gA p dT m (k[_][λb o z=>(a b λw=>by rw[w,r] at z;cases z).trans (kB b o z)][L.of_keeps λb o z n=>(o,(a b (c b o z n)).trans z,rfl)][?_][λn I z=>?_] λb o z n=>(o.slots,(a b (c b o z n)).trans z))
 .exact(H,x,T,_,_,F,J,u,j,r,d,bZ _ p gD[cV dT _],cV dT _,by simp[m];exact t.symm)
 .let(i,h,O,N):=G n I z;exact(i,h,(a e eG[d]).trans O,N)
def Bgw{o:o9[Nat×o9 aM]}(O:A.frames=sr (env::outer))(y:env.frame=sr L)(kB:B.StaysIn s.heap)(l:B.get? e=sy)(x:s.heap.FunFrames B (env::outer))(tr:s.heap.TracedAtW B e cls X v)(h:okX o s.heap e)(k:∀g,aEr B (env::outer) e cls X L g->okX o g e->s.heap.UpToSlots g->Q u9 { s with heap:=g }):wpAny M A (noteFrame .ref[e] env) Q E s:=by
 let(oe,D,T,oT,ts,f,(J,F),C,r,I,j,u,dT,t):=id tr;subst J;unfold noteFrame;simp only[y];refine aA[dM f C r ?_];refine aA[dM u dT t ?_];by_cases hf:(v==rawInt L)=t8
 .rw[di hf];obtain rfl:v=rawInt L:=by simpa using hf
  exact aJ[k s.heap (kB,l,x,tr) h λb ob z Z=>(ob.slots,z)]
 rw[dm hf];refine aA[gA u dT (fJ.mp t).1 ?_];let a:∀b,b≠T->(s.heap.update T (gB (·.setIfInBounds 3 gF))).get? b=s.heap.get? b:=λb n=>bT _ _ eG[n];let c:∀b o,s.heap.get? b=sr o->(∀G,o.data≠.fields G)->b≠T:=λb o z n w=>by
  simp_all
 let m:(match o with|none=>1|some p=>p.1)=0->D[2]?=sr .none:=λz=>by
  cases o with
  |none=>cases z
  |some p=>
   let(i,d,q,U,m,_):=h p.1 p.2 rfl;simp_all
 refine Ax3 O (x.of_keeps λb o z n=>(o,(a b (c b o z n)).trans z,rfl)) y ((a e eG[j]).trans f) (λb o z=>(a b λw=>by rw[w,I] at z;cases z).trans (kB b o z)) l C (fJ.mp r).1 F m λg N P=>k g (N.1,l,N.2.1,N.2.2.1) (λn H z=>?_) λb o z n=>N.2.2.2 b o ((a b (c b o z n)).trans z) n
 subst z;let(i,d,q,U,m,S):=h n H rfl;rw[f] at q;cases q;rw[<-S];exact P
end
inductive Bmb(X:Cx)(H:Hp)(e:aM)(cls:aH)(h:eE):Prop
 |mk (B:eE) (a0 fl:aH) (st:B.StaysIn h) (ne:B.get? e=sy) (fu:h.FunFrames B X.stack) (tr:h.TracedAtW B e cls a0 fl)
 (k1:∀b o,X.s₀.heap.get? b=sr o->X.H₀ b=sy->b∉X.fs->B.get? b=sr o) (k2:∀b o,X.s₀.heap.get? b=sr o->b∉X.fs->∃o',B.get? b=sr o') (k3:∀a u o,H a=sr u->h.get? a=sr o->B.get? a=sr o):Bmb X H e cls h
def Aai(X:Cx)(E:St->XK):Prop:=∀(aa:lg[aM×tu])(σ:St)(H:Hp)(s:aN)(e:aM)(cls:aH)(o:o9[Nat×o9 aM]),Inv X aa σ H s->H e=sy->X.s₀.heap.get? e=sy->Bmb X H e cls s.heap->okX o s.heap e->E σ cls o H->X.xe .ref[e] s
section
def Ax7{P:cJ}{w:dZ}{K:aF}{mg:t6->o9 aH}{base:eE}{N:lg t6}{Y:t6}{sc:kJ}{f:aM}{X:aH}{A:fX}{outer:lg Env}{s₀:aN}{H₀:Hp}{E:XK}{U:Bool}:Aai[Abu (CXo P w) P w K mg base N Y sc f X A outer s₀ H₀ E U] λg=>E:=(λaa σ H s e cls o I l k J ox q=>by
 let(B,a0,fl,kB,nB,T,tr,S,Q,G):=J;let noex:∀b,b∉(Abu (CXo P w) P w K mg base N Y sc f X A outer s₀ H₀ E U).ex:=λb z=>nomatch z;show wpAny _ _ (leaving _ _) _ _ s;unfold leaving;refine aA[Bgw I.ok.frames rfl kB nB T tr ox λh1 d F x=>?_];refine Afn (s:={ s with heap:=h1 }) d.1 d.2.1 d.2.2.1 d.2.2.2 F λL c D t=>?_
 let sm:s.heap.UpToSlots L:=x.trans t;let m:∀b o,s.heap.get? b=sr o->b∈frs outer->∃C,L.get? b=sr { o with slots:=C }:=λb o q hb=>by
  let(_,j,O,nf):=T.2.2.mem hb;rw[q] at O;cases O;exact sm b o q nf
 refine(e,cls,H,o,rfl,(I.os,I.bare,(λb o q n hb g=>c.1 b o (S b o q n hb),λb o q n hb g=>?_,λb o q n g=>I.base.free b o q n noex[b],λb o q g=>?_,I.base.tups,I.base.frzs,I.base.tbls),λa u q=>?_,k,l,B,a0,(c.1,c.2.1,c.2.2.1.2.2,c.2.2.2),λb o q n hb=>S b o q n hb,λb o q hb=>Q b o q hb,λa u o q z=>?_),D,q)
 .let(C,h):=I.base.slot b o q n hb noex[b];let(y,i):=m b _ h hb;exact(y,i)
 .by_cases hb:b∈frs outer
  .let(j,h):=I.base.there b o q noex[b];let(C,i):=m b j h hb;exact(_,i)
  .let(j,h):=Q b o q hb;exact(j,c.1 b j h)
 .refine(I.hok a u q).stay (λb v hb z=>?_) (λg z=>z) λg g z=>z;rcases hb with rfl|hb
  .exact c.1 b v (G b u v q z)
  .exact c.1 b v (G b _ v hb z)
 .let(ob,h):=(I.hok a u q).there;let i:=G a u ob q h;let q3:=c.1 a ob i;let z:L.get? a=sr o:=z;rw[q3] at z;cases z;exact i)
end
def Km(cells:lg[t6×aM]):lg[t6×mK]->lg[t6×aM]->lg (t6×aM)
 |[],acc=>acc
 |(n,k)::r,acc=>if (k==.free)=t8 then Km cells r ((u6 n ((cells.lookup n).getD 0))::acc) else Km cells r acc
def Aqu(h:∀x∈scope.names,x.2=.free->∃c,env.cells.lookup x.1=sr c):closureFor scope env=pure[Km env.cells scope.names []]:=by
 let all:∀(l:lg[t6×mK])(b:lg[t6×aM]),(∀x∈l,x.2=.free->∃c,env.cells.lookup x.1=sr c)->
   (forIn l b λ(x:t6×mK) (r:lg (t6×aM))=>match x with
    |(name,kind)=>if (kind==gC)=t8 then do let a<-cellOf env name;pure[lV ((u6 name a)::r)] else pure lV[r])=pure[Km env.cells l b]:=by
  intro l;induction l with
  |nil=>intro b _;rfl
  |cons y r m=>
   intro b i;let(n,k):=y;rw[uO];dsimp only;by_cases f:(k==gC)=t8
   .let(c,o):=i (u6 n k) bJ beq_iff_eq.mp[f];let j:cellOf env n=pure c:=by unfold cellOf;rw[o]
    rw[di f,j];simp only[pure_bind];rw[m _ λx g=>i x (bD _ g)]
    conv=>rhs;unfold Km
    rw[di f,o];rfl
   .rw[dm f];simp only[pure_bind];rw[m _ λx g=>i x (bD _ g)]
    conv=>rhs;unfold Km
    rw[dm f]
 let q:=all scope.names [] h;unfold closureFor;dsimp only;rw[q];rfl
theorem Afp:∀(l:lg[t6×mK])(a:lg[t6×aM])(x:t6)(c:aM),(∀y∈l,y.2=.free->∃c,cells.lookup y.1=sr c)->(Km cells l a).lookup x=sr c->
  a.lookup x=sr c\/cells.lookup x=sr c
 |[],a,x,c,_,h=>.inl h
 |(n,k)::r,a,x,c,i,h=>by
  unfold Km at h;by_cases j:(k==gC)=t8
  .rw[di j] at h;let(d,hd):=i (u6 n k) bJ beq_iff_eq.mp[j];rcases Afp r _ x c (λy g=>i y (bD _ g)) h with q|q
   .rw[eF] at q;cases e:x==n with
    |true=>
     simp_all
    |false=>rw[e] at q;exact .inl q
   .exact .inr q
  .rw[dm j] at h;exact Afp r a x c (λy g=>i y (bD _ g)) h
theorem Xm:∀(l:lg[t6×mK])(a:lg[t6×aM])(x:t6),(∃c,a.lookup x=sr c)->∃c,(Km cells l a).lookup x=sr c
 |[],a,x,h=>h
 |(n,k)::r,a,x,h=>by
  unfold Km;by_cases f:(k==gC)=t8
  .rw[di f];refine Xm r _ x ?_;rw[eF];cases e:x==n with
   |true=>exact(_,rfl)
   |false=>omega
  .rw[dm f];exact Xm r a x h
theorem Wh:∀(l:lg[t6×mK])(a:lg[t6×aM])(x:t6),(u6 x gC)∈l->∃c,(Km cells l a).lookup x=sr c
 |(n,k)::r,a,x,h=>by
  unfold Km;rcases aY.mp h with e|e
  .let(i,g):=pJ e;subst i;subst g;refine Xm r _ x ((cells.lookup x).getD 0,?_);simp
  .by_cases f:(k==gC)=t8
   .rw[di f];exact Wh r _ x e
   .rw[dm f];exact Wh r a x e
def Akh(i:∀y∈scope.names,y.2≠.cell)(h:(relabel scope env).names.lookup x=sr .cell\/(relabel scope env).names.lookup x=sr .free):(u6 x gC)∈scope.names:=by
 let go:∀(l:lg[t6×mK])(k:mK),(∀y∈l,y.2≠.cell)->k=.cell\/k=.free->
   (l.map λ(n,k)=>if (k==gC&&env.scope.kind==.function&&env.kindOf n==sr .cell) then (u6 n wO) else (u6 n k)).lookup x=sr k->(u6 x gC)∈l:=by
  intro l;induction l with
  |nil=>intro k _ _ h;simp at h
  |cons y r g=>
   intro k f hk h;let(n,a):=y;let d:a≠.cell:=f (u6 n a) bJ;rw[bL,eF] at h;dsimp only at h;by_cases b:(a==gC&&env.scope.kind==.function&&env.kindOf n==sr .cell)=t8
   .rw[di b] at h;dsimp only at h;cases e:x==n with
    |true=>
     let z:x=n:=beq_iff_eq.mp e;subst z;simp only[aB,beq_iff_eq] at b;rw[<-b.1.1];exact bJ
    |false=>
     rw[e] at h;exact bD _ (g k (λy c=>f y (bD _ c)) hk h)
   .rw[dm b] at h;dsimp only at h;cases e:x==n with
    |true=>
     let z:x=n:=beq_iff_eq.mp e;subst z;rw[e] at h;let h:a=k:=bK h;subst h;rcases hk with hk|hk
     .exact absurd hk d
     .rw[hk];exact bJ
    |false=>
     rw[e] at h;exact bD _ (g k (λy c=>f y (bD _ c)) hk h)
 rcases h with h|h
 .exact go scope.names .cell i .inl[rfl] h
 .exact go scope.names .free i .inr[rfl] h
def Aki(h:scope.names.lookup x=sr .free):(relabel scope env).names.lookup x=sr .cell\/(relabel scope env).names.lookup x=sr .free:=by
 show jT x (scope.names.map λ(n,k)=>if (k==gC&&env.scope.kind==.function&&env.kindOf n==sr .cell) then (u6 n wO) else (u6 n k))=sr .cell\/jT x (scope.names.map λ(n,k)=>if (k==gC&&env.scope.kind==.function&&env.kindOf n==sr .cell) then (u6 n wO) else (u6 n k))=sr .free
 revert h;generalize scope.names=l;intro h;induction l with
 |nil=>simp at h
 |cons y r a=>
  let(n,c):=y;rw[bL,eF];dsimp only;rw[eF] at h;by_cases b:(c==gC&&env.scope.kind==.function&&env.kindOf n==sr .cell)=t8
  .rw[di b];cases e:x==n with
   |true=>exact .inl rfl
   |false=>rw[e] at h;exact a h
  .rw[dm b];cases e:x==n with
   |true=>rw[e] at h;exact .inr h
   |false=>rw[e] at h;exact a h
def Cx.comp(X:Cx)(scope:kJ)(own:lg t6)(cap:lg Nat)(C:aM)(s:aN)(H:Hp)(ex:lg aM):Cx where
 prog:=X.prog
 w:=X.w
 K:=X.K
 mg:=X.mg
 base:=X.base
 A:=X.A
 N:=own ++ cap.map λj=>X.N.getD j ""
 s₀:=s
 H₀:=H
 env:=compEnvC scope (Km X.env.cells scope.names []) C X.env
 outer:=X.stack
 stack:=X.stack
 ex:=ex
 fn:=λuu=>t7
 calm:=X.calm
 pn:=[]
 xe:=λuu uu=>False
abbrev Cx.compX(X:Cx)(scope:kJ)(own:lg t6)(cap:lg Nat)(C:aM)(s:aN)(H:Hp)(ex:lg aM)(xe:aH->aN->Prop):Cx:=(X.comp scope own cap C s H ex).wish xe
def PG.nox(h:PG X.nox d g):PG X d g:=(λf s b H v u Q I r q=>
 dX[h f s b H v u Q I.wish[_] r q][λ_ _ ⟨σ',H',I',q'⟩=>(σ',H',I'.unwish,q')] λc c z=>z.elim)
def Avi(own:lg t6)(cap:lg Nat)(σ:St):St:=cA own.length sy ++ cap.map λj=>σ.getD j sy
def PTs(X:Cx)(ifs:lg cL)(t:TT):Prop:=
 ∀(aa:lg[aM×tu])(s:aN)(σ:St)(H:Hp)(Q:Bool->Hp->Prop),Inv X aa σ H s->t σ H Q->
  wpAny (model X.prog X.w) X.A (forIn ifs t8 λc r=>if r=t8 then do let ok<-isTrue c X.env (eval c X.env);pure lV[ok] else pure lV[r]) (TP X aa σ Q) X.xe s
def PTs.nox(h:PTs X.nox a t):PTs X a t:=(λe s b H Q I q=>
 dX[h e s b H Q I.wish[_] q][λ_ _ ⟨H',I',q'⟩=>(H',I'.unwish,q')] λc c z=>z.elim)
def Akj:TT:=λuu H Q=>Q t8 H
section
def Akk(I:Nat->aN->Prop)(O:∀e s,N e s->notedBy (model prog w) A env (λx J=>R .error[x] J) e s)(p:∀n s,I n s->wpAny (model prog w) A pyNext[H] (λr f=>match r with
   |none=>R .ok[.next] f
   |some v=>wpAny (model prog w) A (letOwnedTupleGo target H v) (λa d=>wpAny (model prog w) A (assign target env v) (λa j=>
     wpAny (model prog w) A (forIn C t8 λc r=>if r=t8 then do let ok<-isTrue c env (eval c env);pure lV[ok] else pure lV[r]) (λok b=>
      if ok=t8 then wpAny (model prog w) A (eval D env) (λx i=>
       wpAny (model prog w) A (call .builtin["list.append"] [E,x]) (λa g=>∃m,m < n/\I m g) N i) N b
      else ∃m,m < n/\I m b) N j) N d) N f) N s)(n:Nat)(h:I n s):codeAny (model prog w) A (.compLoop (.ListComp D [(target,G,C,0)] scope L) 0 H E env) R s:=by
 refine codeAny_loop rfl I (λn s P=>?_) n h;show wpAny _ A _ _ _ s;refine wpAny_noted dX[?_][λa a q=>q][O];rw[compTurn_list];refine aA iR[aA[dX[p n s P][λr f l=>?_] λa a z=>z]];cases r with
 |none=>exact aJ l
 |some v=>
  refine aA[dX l (λa d o=>?_) λa a z=>z];refine aA[dX o (λa j y=>aA[dX y (λok b k=>?_) λa a z=>z]) λa a z=>z];cases ok with
  |false=>exact aJ (rfl,k)
  |true=>
   exact aA aA[dX k (λx i u=>aA[dX u (λa g t=>aJ[aJ (rfl,t)]) λa a z=>z]) λa a z=>z]
end
def Aiz(J:It)(g:TG)(tt:TT)(te:TE)(D:aM)(σ0:St)(H1:Hp)(Q:VK):Prop:=
 ∃W:Nat->Nat->lg V->St->Hp->Prop,(∃m,W 0 m [] σ0 (upd H1 D .lst[[]]))/\∀i m acc σ' H',W i m acc σ' H'->H' D=sr .lst[acc]->
  (J.stop i H'/\Q .ref[D] H')\/(J.go i H'/\∀x H'',J.yld i H' x H''->g x σ' H'' λσ2 H2=>tt σ2 H2 λb H3=>if b=t8 then te σ2 H3 λy H4=>
   H4 D=sr .lst[acc]/\acc.length < sizeLine/\∃m',m' < m/\W[i+1][m'][acc ++ [y]][σ2][upd H4 D .lst[acc ++ [y]]]
   else H3 D=sr .lst[acc]/\∃m',m' < m/\W (i+1) m' acc σ2 H3)
def As4(wi:TI)(g:TG)(tt:TT)(te:TE)(own:lg t6)(cap:lg Nat):TE:=λσ H Q=>wi σ H λJ H1=>∀D,H1 D=sy->Aiz J g tt te D (Avi own cap σ) H1 Q
theorem Afq{h f B i:eE}(k:∀L o,B.get? L=sy->h.get? L=sr o->i.get? L=sy/\f.get? L=sr o):∀{l:lg Env},h.FunFrames B l->f.FunFrames i l
 |[],_=>trivial
 |_::_,⟨a,⟨L,o,b,c,d,e⟩,r⟩=>(a,(L,o,b,(k L o c d).1,(k L o c d).2,e),Afq k r)
def Aqv{X:Cx}{use:o9[aH->Sem Unit]}{Q':aH->aN->Prop}{aa Y:lg[aM×tu]}{s3 s1 Q:aN}{σ σ1:St}{H3 H1:Hp}{E:St->XK}{scope:kJ}{own:lg t6}{cap:lg Nat}{C D:aM}{fp:lg aM}{xe:aH->aN->Prop}{e:aH}(bh:X.stack=X.env::X.outer)(hfs:X.env.frame=sr X.env.locals)(hex:X.ex=[])(hp:Aai X E)(P:Inv X aa σ H3 s3)(i:Inv (X.compX scope own cap C s3 H3 fp xe) Y σ1 H1 s1)(hcx:CXo X.prog X.w X.stack H1 s1 E[σ] e Q)(hch:∀b∈fp,(b∈X.ex\/X.s₀.heap.objs.size<=b)/\b≠X.env.locals/\(∀x c,X.env.cells.lookup x=sr c->c≠b)/\∀p∈X.pn ++ aa,p.1≠b)(l:∀b o,s3.heap.get? b=sr o->b≠C)(hxe:xe=notedBy[model X.prog X.w][X.A][compEnvC scope (Km X.env.cells scope.names []) C X.env] λx s'=>compPost (model X.prog X.w) X.A X.xe use Q' .ref[D] C .error[x] s'):xe e Q:=by
 let(t,cls,H5,o,rfl,F,ox,q):=hcx;let(B,a0,fl,k1,kE,k2):=F.fly;rw[hxe];show wpAny _ _ (noteFrame .ref[t] _) _ _ Q;rw[Akg (env':=compEnvC scope (Km X.env.cells scope.names []) C X.env) (env:=X.env) rfl];let r:=fl;rw[bh] at r;let frC:H1 C=sy:=i.free;let(m,(oC,es,ep,O,rC),_):=i.loc;let O:s1.heap.get? C=sr oC:=O;let hCs:C∉frs X.stack:=λz=>by
  let(_,o',f,_):=P.stack.mem z;exact l C o' f rfl
 let CB:B.get? C=sr oC:=k1 C oC O frC hCs;let nC:∀{b:aM},B.get? b=sy->b≠C:=λz w=>by rw[w,CB] at z;cases z
 let H5C:H5 C=sy:=F.un.free C oC O frC (by simp)
 refine Bgw (by rw[P.ok.frames,bh]) hfs r.1 r.2.1 r.2.2.1 r.2.2.2.at ox λh4 d ox4 sm4=>?_
 let post:∃m,h4.Ns C m/\∀S,gM C h4 S->∀j:Env,j.locals=C->wpAny (model X.prog X.w) X.A (passOn "comprehension.variables-let-go" .ref[t] j:Sem aH) (λuu uu=>False) X.xe { Q with heap:=S }:=by
  refine(m,(oC,es,ep,d.1 C oC CB,rC),λS hsb j uu=>?_);let st:∀b,b≠C->S.get? b=h4.get? b:=λb n=>hsb.2 b n;let Z:∀{b:aM} {ob:tu},(cN B [C]).get? b=sr ob->B.get? b=sr ob/\b≠C:=λ{b ob} z=>(lF _ z,λw=>by
   rw[w,mH [C] (by simp)] at z;cases z)
  let nh:∀{b:aM},B.get? b=sy->(cN B [C]).get? b=sy:=λ{b} z=>by
   cases w:(cN B [C]).get? b with
   |none=>rfl
   |some ob=>rw[(Z w).1] at z;cases z
  let put:∀{b:aM} {ob:tu},B.get? b=sr ob->b≠C->(cN B [C]).get? b=sr ob:=λz n=>eO _ z (by simpa using n)
  let(oe,vs,T,oT,ts,q1,hc,dt,v1,nT,nTe,qT,dT,t3):=d.2.2.2;let tr':S.TracedAtW (cN B [C]) t cls a0 rawInt[X.env.locals]:=(oe,vs,T,oT,ts,(st t nC[d.2.1]).trans q1,hc,dt,v1,nh nT,nTe,(st T nC[nT]).trans qT,dT,t3);let ff':S.FunFrames (cN B [C]) X.stack:=by
   rw[bh];exact Afq (λL ob f h=>(nh f,(st L nC[f]).trans h)) d.2.2.1
  unfold PySem.passOn;refine aA (dM (s:={ Q with heap:=S }) ((st t nC[d.2.1]).trans q1) dt v1 ?_)
  rw[dm (show ¬ ((bQ T==gF)=t8) from by simp)]
  refine aA (As3 (s:={ Q with heap:=S }) (o:=o) j.frame (λb ob z=>(st b (Z z).2).trans (d.1 b ob (Z z).1)) ff' tr' (λn od z=>?_) λg kg fg tg og smg=>vH ?_)
  .let(oe',vs',c1,c2):=ox4 n od z;exact(oe',vs',(st t nC[d.2.1]).trans c1,c2)
  let k:∀{b:aM} {ob:tu},B.get? b=sr ob->b≠C->g.get? b=sr ob:=λz n=>kg _ _ (put z n);let frm:∀{b:aM} {ob:tu},Q.heap.get? b=sr ob->b∈frs X.stack->∃sl,g.get? b=sr { ob with slots:=sl }:=λ{b ob} z hb=>by
   let(_,o',z',nf):=fl.2.2.1.mem hb;rw[z] at z';cases z';let(sl,f):=sm4 b ob z nf;let h:=(st b nC[(fl.2.2.1.mem hb).1]).trans f;let(sl',U):=smg b _ h nf;exact(sl',U)
  let I:∀{b:aM} {ob:tu},X.s₀.heap.get? b=sr ob->b∉fp:=λ{b ob} z hb=>by
   rcases(hch b hb).1 with w|w
   .rw[hex] at w;cases w
   .exact absurd[bH bA[z] w][fM _]
  let N:∀b,b∉X.ex:=λb z=>by rw[hex] at z;cases z
  let J:Inv X aa σ H5 { Q with heap:=g }:=by
   refine P.call' (ch:=fp) F.os.trans[i.os] (λb ob z n hb H=>?_,λb ob z n hb H=>?_,λb ob z n H=>?_,λb ob z H=>?_,λb xs z=>F.un.tups b xs (i.base.tups b xs z),λb ob u z=>F.un.frzs b ob u (i.base.frzs b ob u z),λb ps z=>?_) (λa u z=>?_) F.bare hch
   .exact k[k1 b ob (i.base.keep b ob z n hb H) (i.base.free b ob z n H) hb][l b ob z]
   .let(sl,f):=i.base.slot b ob z n hb H;let(sl2,h):=F.un.slot b _ f (i.base.free b ob z n H) hb (by simp)
    let(sl3,U):=frm h hb;exact(sl3,U)
   .let(o',f):=i.base.there b ob z H;exact F.un.free b o' f (i.base.free b ob z n H) (by simp)
   .by_cases hb:b∈frs X.stack
    .let(_,o'',h,_):=fl.2.2.1.mem hb;let(sl,U):=frm h hb;exact(_,U)
    .let(o',f):=i.base.there b ob z H;let(o'',h):=kE b o' f hb;exact(o'',k h (l b ob z))
   .let(m1,e1):=i.base.tbls b ps z;let(m2,e2):=F.un.tbls b _ e1;exact(m1 ++ m2,by rw[e2,qL])
   .refine(F.hok a u z).stay (λb v hb w=>?_) (λuu w=>w) λuu uu w=>w;rcases hb with rfl|hb
    .exact k (k2 b u v z w) (by rintro rfl;rw[H5C] at z;cases z)
    .exact k (k2 b _ v hb w) (by rintro rfl;rw[H5C] at hb;cases hb)
  refine hp aa σ H5 _ t cls o J F.fre ?_ (_,a0,_,kg,nh d.2.1,fg,tg,λb ob z n hb=>?_,λb ob z hb=>?_,λa u ob z w=>?_) og q
  .cases z:X.s₀.heap.get? t with
   |none=>rfl
   |some ob=>
    let(o1,f):=P.base.there t ob z N[t];let(o2,h):=i.base.there t o1 f I[z];rw[F.new] at h;cases h
  .let f:=P.base.keep b ob z n hb N[b];let n1:=P.base.free b ob z n N[b];let hb':=P.notStk z hb;exact put[k1 b ob (i.base.keep b ob f n1 hb' I[z]) (i.base.free b ob f n1 I[z]) hb'][l b ob f]
  .let(o1,f):=P.base.there b ob z N[b];let(o2,h):=i.base.there b o1 f I[z];let(o3,U):=kE b o2 h (P.notStk z hb);exact(o3,put U (l b o1 f))
  .let(o1,f):=(F.hok a u z).there;let h:=k2 a u o1 z f;let na:a≠C:=by rintro rfl;rw[H5C] at z;cases z
   let w:g.get? a=sr ob:=w;rw[k h na] at w;cases w;exact put h na
 cases use <;> exact post
def Abv{f:lg Nat}(hX:(∀c o H,¬ E σ c o H)\/(X.stack=X.env::X.outer/\X.env.frame=sr X.env.locals/\X.ex=[]/\Aai X E))(hc:X.calm=t8)(hE:X.env.scope=es)(hi:PI X tg Y wi)(hg:∀C s H ex,PG (X.comp scope own f C s H ex) tg g)(ht:∀C s H ex,PTs (X.comp scope own f C s H ex) ifs tt)(he:∀C s H ex xe,Dv[CXo X.prog X.w][X.compX scope own f C s H ex xe][λuu=>E σ]->PE (X.compX scope own f C s H ex xe) elt te)(hcap:∀j∈f,∃x,X.N[j]?=sr x/\scope.names.lookup x=sr .free)(az:autoParam (scope.kind=.function) zq2._auto_1)(ao:autoParam (∀y∈scope.names,y.2≠.cell) zq3._auto_1)(au:autoParam (∀y∈scope.names,y.2=.local->scope.names.lookup y.1=sr .local) zq3._auto_1)(hfree':autoParam (∀y∈scope.names,y.2=.free->(es.names.lookup y.1=sr .cell\/es.names.lookup y.1=sr .free)) zq6._auto_1)(hs:autoParam (∀x,foldedSetIterable Y X.env x=pure x) zq4._auto_1)(I:Inv X aa σ H s)(h:As4 wi g tt te own f σ H Q)(fin:∀(D C:aM)(s6:aN)(H5:Hp)(m:t6->o9 aH),(∀h',gM C s6.heap h'->Inv X aa σ H5 { s6 with heap:=h' })->s6.heap.Ns C m->Ah7 X aa H5 C->Q .ref[D] H5->
   compPost (model X.prog X.w) X.A X.xe use Q' .ref[D] C .ok[.next] s6):
  wpAny (model X.prog X.w) X.A (comprehension (.ListComp elt [(tg,Y,ifs,0)] scope pos) scope X.env p0 newList[[]] t7 (eval Y X.env) use) Q' X.xe s:=by
 subst hE;let bc:∀y∈scope.names,y.2=.free->(X.env.kindOf y.1=sr .cell\/X.env.kindOf y.1=sr .free):=hfree';let hfr:∀x∈scope.names,x.2=.free->∃c,X.env.cells.lookup x.1=sr c:=λx hx hk=>I.ok.has x.1 (bc x hx hk);refine wpAny_comprehension_free (use:=use) rfl hs Aqu[hfr] az au (thn[hi aa s σ H _ I h] λv s1 h1=>thn h1 λitv l h2=>?_);let(it,P,tn,J,H2,rfl,I2,T,st2,f2,q):=h2;let hD2:H2 l.heap.objs.size=sy:=I2.hok.fresh aO[_];let(W,(m0,w0),turn):=q l.heap.objs.size hD2;refine eY ?_;let t:=I2.lnew (ys:=[]) (its:=[]) (t':=l.toks) .nil cY[_];generalize hs3:({ l with heap:=l.heap.push { cls:=.type "list",data:=.seq ([]:lg aH).toArray } }:aN)=F at t ⊢
 let fp3:∀b∈P,∃o,F.heap.get? b=sr o/\∀v,o.data≠.cell v:=λb hb=>by
  let(o,e,d):=T.obj _ _ st2 b hb;exact(o,by rw[<-hs3];exact aG _ e,d)
 let st3:tn 0 F.heap:=T.keep _ _ _ st2 λb uu o e=>by rw[<-hs3];exact aG _ e
 let hDl:l.heap.objs.size < F.heap.objs.size:=by rw[<-hs3];simp[fY]
 let fpD:∀b∈P,b≠l.heap.objs.size:=λb hb z=>by
  let(o,e,_):=T.obj _ _ st2 b hb;exact absurd bA[e] (by rw[z];exact fM _)
 refine wpAny_newFunctionEnv ao (by intro y hy;simp at hy) (λh₁ hns₁ Z=>?_) az
 generalize hC:F.heap.objs.size=C at hns₁ Z hDl ⊢
 let old:∀b o,F.heap.get? b=sr o->h₁.get? b=sr o:=λb o e=>Z.extBut b o (by rw[<-hC];exact cB bA[e]) (aG _ e)
 let ltC:∀{b:aM} {o:tu},F.heap.get? b=sr o->b≠C:=λe=>by rw[<-hC];exact cB bA[e]
 let cellIn:∀x c,(Km X.env.cells scope.names []).lookup x=sr c->X.env.cells.lookup x=sr c:=λx c e=>by
  rcases Afp scope.names [] x c hfr e with z|z
  .simp at z
  .exact z
 obtain⟨xe,hxe⟩:∃xe,xe=notedBy[model X.prog X.w][X.A][compEnvC scope (Km X.env.cells scope.names []) C X.env] λx s'=>compPost (model X.prog X.w) X.A X.xe use Q' .ref[l.heap.objs.size] C .error[x] s':=(_,rfl)
 let k:∀b∈P,Ah7 X aa (upd H2 l.heap.objs.size .lst[[]]) b:=λb hb=>(by rw[Ax[fpD b hb]];exact(f2 b hb).1,(f2 b hb).2)
 let I4:Inv (X.compX scope own f C F (upd H2 l.heap.objs.size .lst[[]]) P xe) [] (Avi own f σ) (upd H2 l.heap.objs.size .lst[[]]) { F with heap:=h₁,toks:=F.toks+([]:lg[t6×aH]).length }:=by
  refine((I.ok.mod,az,I.ok.glob,I.ok.blt,lG hC,λx y c h1 h2=>I.ok.inj x y c (cellIn x c h1) (cellIn y c h2),λx hx=>Wh _ _ x (Akh ao hx),λx c z=>absurd z (by show ¬ (t7=t8);decide),
   I.ok.hd,I.ok.frames,.inl rfl,λb hb=>(?_,λx c e=>(k b hb).2.2.2.2.1 x c (cellIn x c e)),t.bs,aD t.ok.bsz t.sz,λb o e hb=>?_,λb hb z=>?_,t.stack,t.stkFree),
   rfl,t.bare,Un.kept old,(_,hns₁,λi x v S U e3=>?_),λx c e=>?_,?_,λx c e=>t.freeC x c (cellIn x c e),λp hp=>absurd (show p∈([]:lg[aM×tu]) ++ [] from hp) (by simp),t.hok.kept old,?_)
  .let(o,e,_):=fp3 b hb;exact ltC e
  .rcases(k b hb).2.2.2.1 with z|z
   .exact I.ok.noex b o e z
   .exact absurd bH[bA e][aD I.ok.bsz z] fM[_]
  .exact(aY.mp[t.stkSub b z]).elim (k b hb).2.1 (k b hb).2.2.1
  .
   let hlen:(cA own.length (sy:o9 V)).length=own.length:=fG;by_cases hi:i < own.length
   .let U:(cA own.length (sy:o9 V) ++ f.map λj=>σ.getD j sy)[i]?=sr sr[v]:=U;rw[aX (by rw[hlen];exact hi),kZ] at U
    split at U <;> cases U
   .let U:(cA own.length (sy:o9 V) ++ f.map λj=>σ.getD j sy)[i]?=sr sr[v]:=U;let S:(own ++ f.map λj=>X.N.getD j "")[i]?=sr x:=S;rw[bB (by rw[hlen];omega),cH,hlen] at U
    rw[bB (),cH] at S
    cases ej:f[i - own.length]? with
    |none=>rw[ej] at S;cases S
    |some j=>
     rw[ej] at S U;let(y,hy,hf):=hcap j jU[ej];let S:X.N.getD j ""=x:=bK S;let U:σ.getD j sy=sr v:=bK U;rw[dN,hy] at S;let S:y=x:=S;subst S;let e2':σ[j]?=sr sr[v]:=by
      rw[dN] at U;cases z:σ[j]? with
      |none=>rw[z] at U;cases U
      |some o=>rw[z] at U;exact congrArg sr U
     let hmem:(u6 y gC)∈scope.names:=by
      exact jA hf
     let(m,hn,hl):=t.loc;let hv:Vis X.env.scope y:=.inr[bc _ hmem rfl];let(u,ru,lk):=hl j y v hy e2' hv;refine(u,ru,.inr (Aki hf,?_));rcases lk with ⟨k1,_⟩|⟨_,c,hcc,hz⟩
     .rcases bc _ hmem rfl with k2|k2 <;> (let k2:X.env.kindOf y=_:=k2;rw[k1] at k2;cases k2)
     .let(c',hc'):=Wh (cells:=X.env.cells) scope.names [] y hmem;let ec:c=c':=bK hcc.symm.trans[cellIn y c' hc'];rw[<-ec] at hc';let(oc,ho,hd):=hz;exact(c,hc',oc,old c oc ho,hd)
  .let(v,o,ho,hd):=t.cell x c (cellIn x c e);exact(v,o,old c o ho,hd)
  .show upd H2 l.heap.objs.size .lst[[]] C=sy;rw[<-hC];exact t.hok.fresh aO[_]
  .show (cA own.length (sy:o9 V) ++ f.map λj=>σ.getD j sy).length=(own ++ f.map λj=>X.N.getD j "").length;simp
 let fpC:∀{L:Hp},(∀b∈P,L b=sy)->∀b∈P,Ah7 (X.compX scope own f C F (upd H2 l.heap.objs.size .lst[[]]) P xe) [] L b:=λhn b hb=>
  (hn b hb,(by let(o,e,_):=fp3 b hb;exact ltC e),λz=>(aY.mp[t.stkSub b z]).elim (k b hb).2.1 (k b hb).2.2.1,.inl hb,λx c e=>(k b hb).2.2.2.2.1 x c (cellIn x c e),λp hp=>absurd (show p∈([]:lg[aM×tu]) ++ [] from hp) (by simp))
 let hps:Dv[CXo X.prog X.w][X.compX scope own f C F (upd H2 l.heap.objs.size .lst[[]]) P xe] λuu=>E σ:=by
  intro pins1 σ1 H1 s1 e s5 I1 hcx;rcases hX with hX|⟨bh,hfs,hex,hp⟩
  .let(_,_,_,_,_,_,_,q):=hcx;exact(hX _ _ _ q).elim
  exact Aqv bh hfs hex hp t I1 hcx (λb hb=>((k b hb).2.2.2.1,(k b hb).2.1,(k b hb).2.2.2.2.1,(k b hb).2.2.2.2.2)) (λb o e=>ltC e) hxe
 let loop:codeAny (model X.prog X.w) X.A .compLoop[.ListComp elt [(tg,Y,ifs,0)] scope pos][0][.ref it][.ref l.heap.objs.size][compEnvC scope (Km X.env.cells scope.names []) C X.env]
   (compPost (model X.prog X.w) X.A X.xe use Q' .ref[l.heap.objs.size] C) { F with heap:=h₁,toks:=F.toks+([]:lg[t6×aH]).length }:=by
  refine Akk (N:=xe) (λn s'=>∃i O σ' L,Inv (X.compX scope own f C F (upd H2 l.heap.objs.size .lst[[]]) P xe) [] σ' L s'/\tn i s'.heap/\(∀b∈P,L b=sy)/\L l.heap.objs.size=sr .lst[O]/\W i n O σ' L) (λe s h=>by rw[hxe] at h;exact h) ?_ m0
   (0,[],_,_,I4,T.keep _ _ _ st3 λb uu o e=>old b o e,λb hb=>(k b hb).1,Bd,w0)
  rintro n s5 ⟨i,O,σ5,H5,I5,st5,fr5,hD5,w5⟩;rcases turn i n O σ5 H5 w5 hD5 with ⟨stop,qn⟩|⟨go,step⟩
  .refine thn[T.done (X.compX scope own f C F (upd H2 l.heap.objs.size .lst[[]]) P xe) rfl rfl rfl hc i [] s5 σ5 H5 _ I5 fpC[fr5] st5 stop] λr s6 zz=>?_;let(hr,I6):=zz;subst hr;let(m,hn,_):=id I6.loc;let hCs:X.s₀.heap.objs.size<=C:=by rw[<-hC];exact t.sz
   let ltS:∀{b:aM} {o:tu},F.heap.get? b=sr o->b≠C:=ltC;refine fin _ C s6 H5 m (λh' hsb=>?_) hn (I6.free,?_,?_,.inr hCs,?_,?_) qn
   rotate_left
   .let(_,(o,_,_,ho,_),_):=t.loc;exact(ltS ho).symm
   .intro z;let(o',S):=t.base.there C _ (t.ok.funs.mem z).2.choose_spec.1 (λw=>t.ok.exfs C w z)
    exact ltS S rfl
   .intro x c e;let(_,o,ho,_):=t.cell x c e;exact ltS ho
   .intro p hp;exact ltS (t.pin p hp).1
   let neC:∀{b:aM} {o:tu},F.heap.get? b=sr o->b≠C:=ltC;let B:=I6.base;refine t.call' (s':={ s6 with heap:=h' }) (ch:=P) I6.os (λb o e n hb hx=>?_,λb o e n hb hx=>?_,B.free,λb o e hx=>?_,B.tups,B.frzs,B.tbls) (λa u e=>?_) I6.bare λb hb=>((k b hb).2.2.2.1,(k b hb).2.1,(k b hb).2.2.2.2.1,(k b hb).2.2.2.2.2)
   .exact(hsb.2 b neC[e]).trans (B.keep b o e n hb hx)
   .let(sl,S):=B.slot b o e n hb hx;exact(sl,(hsb.2 b neC[e]).trans S)
   .let(o',S):=B.there b o e hx;exact(o',(hsb.2 b neC[e]).trans S)
   .refine(I6.hok a u e).stay (λb v hb z=>(hsb.2 b ?_).trans z) (λuu z=>z) λuu uu z=>z;rintro rfl;let f0:H5 b=sy:=I6.free;rcases hb with rfl|hb
    .rw[f0] at e;cases e
    .rw[f0] at hb;cases hb
  .refine thn[T.item (X.compX scope own f C F (upd H2 l.heap.objs.size .lst[[]]) P xe) rfl rfl rfl hc i [] s5 σ5 H5 _ I5 fpC[fr5] st5 go] λr s6 zz=>?_;let(u,hr,h6):=zz;subst hr;refine thn h6 λuu s7 zz=>?_;let(x,H7,I7,r7,y7,st7,fr7):=zz;let I7':=I7.pinned[fpC fr7][T.obj _ _ st7];refine thn[PG.nox (hg _ _ _ _) _ s7 σ5 H7 x u _ I7' r7 (step x H7 y7)] λuu s8 zz=>?_;let(σ8,H8,I8,q8):=zz;refine thn[PTs.nox (ht _ _ _ _) _ s8 σ8 H8 _ I8 q8] λb s9 zz=>?_;let(H9,I9,q9):=zz;let again:∀{s':aN} {L:Hp} {acc':lg V} {m':Nat},Inv (X.compX scope own f C F (upd H2 l.heap.objs.size .lst[[]]) P xe) ([] ++ Afd P s7.heap) σ8 L s'->L l.heap.objs.size=sr .lst[acc']->m' < n->W (i+1) m' acc' σ8 L->
     ∃m,m < n/\∃i O σ' L,Inv (X.compX scope own f C F (upd H2 l.heap.objs.size .lst[[]]) P xe) [] σ' L s'/\tn i s'.heap/\(∀b∈P,L b=sy)/\L l.heap.objs.size=sr .lst[O]/\W i m O σ' L:=λ{s' L acc' m'} J hD hm hw=>by
    refine(m',hm,i+1,acc',σ8,L,J.unpinned,T.keep _ _ _ st7 λb hb o e=>(J.pin[u6 b o][cM _ cM[_][Ms hb e]]).1,λb hb=>?_,hD,hw);let(o,e,d):=T.obj _ _ st7 b hb;exact(J.pin[u6 b o][cM _ cM[_][Ms hb e]]).2.1
   cases b with
   |false=>
    rw[dm cC] at q9 ⊢
    let(hD9,m',hm,hw):=q9;exact again I9 hD9 hm hw
   |true=>
    rw[di rfl] at q9 ⊢
    refine thn[he _ _ _ _ _ hps _ s9 σ8 H9 _ I9 q9] λuy s10 zz=>?_;let(y,H10,I10,r10,hD10,hl10,m',hm,hw):=zz;refine thn (Aiu (X:=X.compX scope own f C F (upd H2 l.heap.objs.size .lst[[]]) P xe) _ s10 σ8 H10 .ref[l.heap.objs.size] [y] .ref[l.heap.objs.size] [uy]
     (λuu L=>L=upd H10 l.heap.objs.size .lst[O ++ [y]]) I10 rfl (.cons r10 .nil) (_,O,y,rfl,rfl,hD10,hl10,rfl)) λ_ s11 ⟨_,H11,I11,_,e11⟩=>?_
    subst e11;exact again I11 Bd hm hw
 exact codeAny_compStart_list loop (T.self _ 0 _ _ _ (T.keep _ _ _ st3 λb uu o e=>old b o e) loop)
def Bid(wi:TI)(g:TG)(tt:TT)(te:(St->XK)->TE)(E:St->XK)(own:lg t6)(cap:lg Nat):TE:=λσ H Q=>wi σ H λJ H1=>∀D,H1 D=sy->Aiz J g tt (te λuu=>E σ) D (Avi own cap σ) H1 Q
def Bc0{a:lg Nat}(G:X.calm=t8)(L:X.env.scope=n)(hi:PI X l d p)(B:∀C s H ex,PG (X.comp scope own a C s H ex) l g)(v:∀C s H ex,PTs (X.comp scope own a C s H ex) f q)(F:∀C s H ex,PE (X.comp scope own a C s H ex) k r)(e:∀j∈a,∃x,X.N[j]?=sr x/\scope.names.lookup x=sr .free)(P:autoParam (scope.kind=.function) zq2._auto_1)(T:autoParam (∀y∈scope.names,y.2≠.cell) zq3._auto_1)(S:autoParam (∀y∈scope.names,y.2=.local->scope.names.lookup y.1=sr .local) zq3._auto_1)(b:autoParam (∀y∈scope.names,y.2=.free->(n.names.lookup y.1=sr .cell\/n.names.lookup y.1=sr .free)) zq6._auto_1)(w:autoParam (∀x,foldedSetIterable d X.env x=pure x) zq4._auto_1):
  PE[X][.ListComp k [(l,d,f,0)] scope pos][As4 p g q r own a]:=(λaa s Z H Q I h=>Abv (E:=λc c c c=>False) (.inl λc c c z=>z) G L hi B v (λC s H ex xe c=>PE.nox[F C s H ex]) e P T S b w I h λD C s6 Y m J A c t=>(m,A,λO i=>(.ref D,Y,J O i,rfl,t)))
def Bc1{i:Nat}{f:lg Nat}(hc:X.calm=t8)(hE:X.env.scope=es)(hi:PI X P d wi)(hg:∀C s H ex,PG (X.comp scope own f C s H ex) P g)(ht:∀C s H ex,PTs (X.comp scope own f C s H ex) A tt)(he:∀C s H ex,PE (X.comp scope own f C s H ex) L te)(G:∀j∈f,∃x,X.N[j]?=sr x/\scope.names.lookup x=sr .free)(az:scope.kind=.function)(ao:∀y∈scope.names,y.2≠.cell)(au:∀y∈scope.names,y.2=.local->scope.names.lookup y.1=sr .local)(k:∀y∈scope.names,y.2=.free->(es.names.lookup y.1=sr .cell\/es.names.lookup y.1=sr .free))(hs:∀x,foldedSetIterable d X.env x=pure x)(hy:PG X (.Name y py) Aag[i])(T:swapsWith (.ListComp L [(P,d,A,0)] scope S) sr[.Name y py] n.line X.env=pure t8):
  PS X .Assign[[.Name y py]][.ListComp L [(P,d,A,0)] scope S][n] Bhn[As4 wi g tt te own f][Aag i]:=by
 intro aa s σ H D I h;rw[exec_Assign_Name_used _ _ _ _ T];refine aA iR[aA[?_]];refine aA (dX (Abv (Q':=λc s'=>SP X aa D .next s') (E:=λc c c c=>False) (.inl λc c c z=>z) hc hE hi hg ht (λC s H ex xe c=>PE.nox[he C s H ex]) G az ao au k hs I h λD' C Q H5 m J hn fp qn=>?_) (λc s' q=>aJ aJ[q]) λc c z=>z);let I6:Inv X aa σ H5 Q:=J Q.heap (rfl,λc c=>rfl);let(t,Y,Z,B,F,rC):=id hn;let nc:∀v,t.data≠.cell v:=λv z=>by rw[F] at z;cases z
 let I6p:=I6.pinned (fp:=[C]) (λb hb=>by obtain rfl:=aR.mp hb;exact fp) (λb hb=>by obtain rfl:=aR.mp hb;exact(t,B,nc))
 refine thn[hy _ Q σ H5 .ref[D'] .ref[D'] _ I6p rfl qn] λc p zz=>?_;let(O,H7,l,q7):=zz;let pC:=l.pin[u6 C t][cM _ cM[_][Ms aR.mpr[rfl] B]];let U:p.heap.get? C=sr t:=pC.1;let l:=l.unpinned;refine(m,(t,Y,Z,U,F,rC),λh' e=>(O,H7,?_,q7));let w:∀{b:aM} {u:HO},H7 b=sr u->b≠C:=λq=>Ca q pC.2.1;refine l.step (s:=p) (g':=p.gens) (d':=p.drawn) (t':=p.toks) (h':=h') (ch:=[C]) (λb hb=>by obtain rfl:=aR.mp hb;exact(fp.2.2.2.1,fp.2.1,fp.2.2.2.2.1,fp.2.2.2.2.2))
  (λb o c c hb q c=>(e.2 b (λz=>hb aR.mpr[z])).trans q) (λb o c c hb q c=>(o.slots,(e.2 b (λz=>hb aR.mpr[z])).trans q)) (λc c c c q=>q)
  (λb o hb q=>(o,(e.2 b (λz=>hb aR.mpr[z])).trans q)) (λc c q=>q) (λc c c q=>q) (λb ps q=>(#[],by rw[nP];exact q)) (λm' hm=>?_) (λa u q=>?_) l.bare
 .let(o,e1,e2,ho,r):=hm;exact(o,e1,e2,(e.2 _ (λz=>fp.2.1 z.symm)).trans ho,r)
 .refine(l.hok a u q).stay (λb v hb z=>(e.2 b ?_).trans z) (λc z=>z) λc c z=>z;rcases hb with rfl|hb
  .exact w q
  .exact w hb
mutual
inductive DV(H:Hp):V->nQ->Prop
 |non:DV H .non .none
 |bl (b:Bool):DV H (.bl b) (.bool b)
 |int (i:Int):DV H (.int i) (.int i)
 |str (x:t6):DV H (.str x) (.str x)
 |lst {a:aM} {vs:List V} {ds:List nQ}:H a=sr (.lst vs)->DVs H vs ds->DV H (.ref a) (.list ds)
 |tup {a:aM} {vs:List V} {ds:List nQ}:H a=sr (.tup vs)->DVs H vs ds->DV H (.ref a) (.tuple ds)
 |dct {a:aM}:H a=sr (.dK [])->DV H (.ref a) (.dict [])
inductive DVs(H:Hp):List V->List nQ->Prop
 |nil:DVs H [] []
 |cons {v:V} {d:nQ} {vs:List V} {ds:List nQ}:DV H v d->DVs H vs ds->DVs H (v::vs) (d::ds)
end
section
variable{X:Cx}{aa:lg (aM×tu)}{σ:St}{H:Hp}{s:aN}
mutual
theorem DV.reads(I:Inv X aa σ H s):∀{v:V} {d:nQ} {u:aH},DV H v d->RelV v u->∃j,Reads s.heap u d j
 |_,_,_,.non,r=>by cases r;exact(_,.none)
 |_,_,_,.bl b,r=>by cases r;exact(_,.bool b)
 |_,_,_,.int i,r=>by let(t,rfl):=r;exact(_,.int i t)
 |_,_,_,.str x,r=>by let(t,rfl):=r;exact(_,.str x t)
 |_,_,_,.lst h q,r=>by
  cases r;let(_,g,n,a,e):=I.hok _ _ h;let(j,f):=DVs.reads I q a;exact(_,.list e rfl rfl (by simpa using f))
 |_,_,_,.tup h q,r=>by
  cases r;let(_,g,a,o,e,c,n,d):=I.hok _ _ h;let(j,f):=DVs.reads I q a;exact(_,.tuple e c d (by simpa using f))
 |_,_,_,.dct h,r=>by
  cases r;let(_,_,m,a,o,k,w,e,x,d,_,p,_):=I.hok _ _ h;cases a;let z:k.toList=[]:=by
   revert p;generalize k.toList=l;intro p;cases p;rfl
  exact(_,.dict e x.1 d (by rw[z];exact .nil) (by rw[z];exact .nil))
theorem DVs.reads(I:Inv X aa σ H s):∀{b:lg V} {d:lg nQ} {c:lg aH},DVs H b d->Vals b c->∃e,ReadsAll s.heap c d e
 |_,_,_,.nil,.nil=>(_,.nil)
 |_,_,_,.cons h q,.cons r t=>by
  let(e,g):=DV.reads I h r;let(bs,f):=DVs.reads I q t;exact(_,.cons g f)
end
end
structure Ad1(K:aF)(C:aM):Prop where
 cls:(sJ K C).isSome=t8
 ga:cD K (.ref C) "__getattribute__"=sr (sr (.builtin "BaseException.__getattribute__"))
 gn:cD K (.ref C) "__getattr__"=sr sy
 cl:cD K (.ref C) "__class__"=sr (sr (.builtin "object.__class__"))
 mb:lW K C (.type "BaseException")=sr t8
 mo:lW K C (.type "object")=sr t8
section
variable{prog:cJ}{w:dZ}{A:fX}{E:aH->aN->Prop}{h:eE}{g:Array vD}{d:aCl}{t:Nat}{os:aCu}{a C:aM}{o:tu}{K:aF}
open PySem.W in
def Aqw(i:K.In h)(j:Ad1 K C)(c:h.get? a=sr o)(e:o.cls=.ref C)(k:R .ok[.ret[.ref[C]]] (h,g,d,t,os)):
  codeAny (model prog w) A (.call .builtin["getset_descriptor.__get__"] ([.builtin "object.__class__",.ref a,.ref C],[])) R (h,g,d,t,os):=by
 let b:((h,g,d,t,os):aN).TypeIs .builtin["object.__class__"] "getset_descriptor":=oR;let f:Looks (model prog w) h (isSubtype .ref[C] .type[".".intercalate ("object.__class__".cutAt '.').dropLast]) t8:=by rw[F.owner_object_class];exact looks_mroIn i j.mo
 refine gH wQ.plain F.entry_gs_get (wQ.check _ _ _ _ _ _ _ _ b (F.args_gs_get _ _ _) ?_)
 repeat (any_goals (first|assumption|(with_reducible refine fO c ?_;rw[e])|with_reducible refine f.at ?_|wp_step))
 refine(lJ _ (),iG F.entry_object_class ?_)
 repeat (any_goals (first|assumption|(with_reducible refine fO c ?_;rw[e])|wp_step))
open PySem.W in
def Aaj(j:K.In h)(k:Ad1 K C)(b:h.get? a=sr o)(f:o.cls=.ref C)(c:Q u9 (h,g,d,t,os)):
  wpAny M A (checkBuiltinCall "BaseException.__getattribute__" ([.ref a,nameV],[])) Q E (h,g,d,t,os):=by
 let e:builtinKind "BaseException.__getattribute__"=sr .slot:=by decide +kernel
 let hsplit:splitId "BaseException.__getattribute__"=sr[u6 "BaseException" "__getattribute__"]:=by decide +kernel
 let i:Looks M h (isSubtype .ref[C] .type["BaseException"]) t8:=looks_mroIn j k.mb;let l:=F.args_bexc_ga .ref[a] nameV;simp only[checkBuiltinCall,e,hsplit];refine aA ?_
 .unfold isInstance
  repeat (first|(with_reducible refine fO b ?_;rw[f])|with_reducible refine i.at ?_|wp_step)
  exact c
open PySem.W in
def Akl{tk:Tok}(e:K.In h)(f:Ad1 K C)(b:h.get? a=sr o)(c:o.cls=.ref C)(l:Q .done[.ret .ref[C]] (h,g,d,t,os)):
  wpAny (model prog w) A (jV.«object.__getattribute__» ([.ref a,.str "__class__" tk],[])) Q E (h,g,d,t,os):=by
 let i:((h,g,d,t,os):aN).TypeIs .builtin["object.__class__"] "getset_descriptor":=oR;let k:Looks[model prog w][h][typeLookup .ref[C] "__class__"][sr .builtin["object.__class__"]]:=looks_findIn e f.cl;let p:=oR;let n:=wQ.lookup;let m:=F.slot_gs_set.lookup
 repeat (any_goals (first|assumption|(with_reducible refine fO b ?_;rw[c])|with_reducible refine k.at ?_|wp_step))
 refine Aqw e f b c ?_
 repeat (any_goals (first|assumption|wp_step))
open PySem.W in
def Avj{tk:Tok}{c b:Bool}{Q:aH->aN->Prop}(e:K.In h)(f:Ad1 K C)(j:h.get? a=sr o)(k:o.cls=.ref C)(s:Q .ref[C] (h,g,d,t,os)):
  wpAny (model prog w) A (getAttrBy .ref[a] (.str "__class__" tk) c b) Q E (h,g,d,t,os):=by
 let u:=oE.ga.bind .ref[a];let n:(b&&onTheHeap iU["BaseException.__getattribute__"])=t7:=by cases b <;> rfl
 let i:(iU "BaseException.__getattribute__"==iU "object.__getattribute__")=t7:=by decide +kernel
 let m:(onTheHeap bQ[C]&&iU "BaseException.__getattribute__"==iU "object.__getattribute__")=t7:=by rw[i];rfl
 let r:Looks[model prog w][h][typeLookup .ref[C] "__getattribute__"][sr .builtin["BaseException.__getattribute__"]]:=looks_findIn e f.ga;let q:Looks (model prog w) h (typeLookup .ref[C] "__getattr__") sy:=looks_findIn e f.gn
 repeat (any_goals (first|assumption|(with_reducible refine fO j ?_;rw[k])|with_reducible refine r.at ?_|with_reducible refine q.at ?_|wp_step))
 refine gH oE.ga.plain aAc (Aaj e f j k (Akl e f j k ?_))
 repeat (any_goals (first|assumption|wp_step))
open PySem.W in
def Anh{Q:o9 aH->aN->Prop}(e:K.In h)(f:Ad1 K C)(b:h.get? a=sr o)(c:o.cls=.ref C)(i:Q sr[.ref[C]] (h,g,d,t+1,os)):
  wpAny (model prog w) A (getAttr? .ref[a] "__class__") Q E (h,g,d,t,os):=by
 unfold getAttr? getAttrBy?
 repeat (any_goals (first|assumption|with_reducible apply Avj e f b c|wp_step))
open PySem.W in
set_option tactic.hygienic true in
theorem Ax8(r:Ad1 K C):KitX K .ref[a] .ref[C] (λh=>∃o x,h.get? a=sr o/\o.cls=.ref C/\o.data=.fields x) where
 ty:=λ_ _ _ ⟨o,_,h1,h2,_⟩=>h2 ▸ (Looks.ld h1).andThen .now
 it:=λu u X u=>by
  let(m,b):=mY.mp r.cls;unfold clsIn at b;split at b
  .rename_i F D p c i;intro N J L H k q;unfold isType loadHead;exact aA[aAr k[_][_][X _ _ i] aJ[q]]
  .cases b
 ne:=λh y I B n G X f=>by
  let(m,b):=mY.mp r.cls;refine jW.mpr λq=>?_;let e:C=y:=aBz beq_iff_eq.mp[q];subst e;unfold clsIn at b;split at b
  .rename_i F D p c i;let z:=(X _ _ i).symm.trans f;cases z
  .cases b
 ca:=λ{_ _ _ _ _ s} X ⟨o,_,h1,h2,_⟩ k=>by let(h,g,d,t,os):=s;exact Anh X r h1 h2 k
end
inductive TyX(K:aF)(H:Hp):V->aH->Prop
 |of {x:V} {t:aH}:Abt K H x t->TyX K H x t
 |exc {a C:aM} {o:Option (Nat×Option aM)}:H a=sr (Sw a (.ref C) o)->Ad1 K C->TyX K H (.ref a) (.ref C)
section
variable{X:Cx}{aa:lg (aM×tu)}{σ:St}{H:Hp}{s:aN}
def Bc2{o:o9[Nat×o9 aM]}(I:Inv X aa σ H s)(e:H a=sr[Sw a .ref[C] o]):∃o b,s.heap.get? a=sr o/\o.cls=.ref C/\o.data=.fields b:=by
 let(p,_,_):=(I.hok a _ e);exact p.1
def Bc3:V->o9 aH
 |.ty n=>sr .type[n]
 |.ref a=>sr .ref[a]
 |_=>sy
def Ax9(h:Bc3 c=sr a)(r:RelV c u):u=a:=by
 cases c <;> simp[Bc3] at h <;> subst h <;> exact r
end
def Its(x:t6):It:=(λi uu=>i < x.cps.size,λi H v H'=>H'=H/\∃c,x.cps[i]?=sr c/\v=.str ⟨#[c]⟩,λi uu=>i=x.cps.size)
theorem Ani{P:cJ}{w:dZ}{K:aF}{O:cL}(a:aM)(ty:String)(x:t6)(t:Tok)(p:["enumerate","zip","dict_itemiterator","dict_reverseitemiterator","odict_iterator","itertools.zip_longest","itertools.pairwise"].contains ty=t7)(W:∀A:fX,A.handled=sy->aFb P w A a [a] [a] x.cps.size SignAt[x] (λi h=>h.IsStrIter a ty x t i))(hself:∀(A:fX)(i:Nat)(s:aN)(Q:aH->aN->Prop)(E:aH->aN->Prop),s.heap.IsStrIter a ty x t i->Q .ref[a] s->wpAny (model P w) A pyIter[.ref[a]] Q E s):
  Turn P w K O Its[x] [a] a (λi h=>h.IsStrIter a ty x t i) where
 mem:=by simp
 obj:=λi h st b f=>by
  let e:b=a:=by simpa using f
  subst e;let(o,e,c,d):=st;exact(o,e,λv z=>by rw[d] at z;cases z)
 keep:=λi h l st k=>let ⟨o,e,r⟩:=st;(o,k a (by simp) o e,r)
 item:=by
  intro X B n hK y i N s L H E I hf st j;subst B n hK;let(J,G,U,F,D,C):=hf a (by simp)
  refine(W X.A I.ok.hd[y]).item i s _ _ j st λv l tk T g m=>?_;let(c,u,q,rfl):=T;let I1:Inv X N L H { s with heap:=l,toks:=tk }:=I.turned (λb o f e=>m b o (by simpa using f) e) J G F D C
  let(o,e,S,d):=id g;exact(_,rfl,Asy (s:={ s with heap:=l,toks:=tk }) e S d p (.str ⟨#[c]⟩,H,I1,(u,rfl),(rfl,c,q,rfl),g,λb f=>(hf b f).1))
 done:=by
  intro X B n hK y i N s L H E I hf st j;subst B n hK;let j:i=x.cps.size:=j;subst j;let(J,G,U,F,D,C):=hf a (by simp)
  refine(W X.A I.ok.hd[y]).done s _ _ st λl tk m=>(rfl,I.turned (λb o f e=>m b o (by simpa using f) e) J G F D C)
 self:=hself
def Bo0(ts:TE):TI:=λσ H R=>ts σ H λv H1=>∃x,v=.str x/\R Its[x] H1
def Bie{X:Cx}{r e:cL}{j:TE}(B:PE X e j):PI X r e Bo0[j]:=by
 intro m s i H R I h;refine thn[B m s i H _ I h] λv c p=>?_;let(z,g,f,w,y):=p;let(x,rfl,q):=y;let(t,rfl):=w;let n:∀o,Inv X m i g { c with heap:=c.heap.push o }:=λo=>f.kept (t':=c.toks) λb u e=>aG _ e
 let l:∀b∈[c.heap.objs.size],_:=λb C=>by
  let e:b=c.heap.objs.size:=by simpa using C
  subst e;exact f.fpOk aO[_] f.hok.fresh[aO[_]]
 cases k:x.cps.all (· < 128)
 .refine wpAny_pyIter_wide k (c.heap.objs.size,[c.heap.objs.size],_,_,g,rfl,n _,Ani _ "str_iterator" x t () (λA d=>Walks.strWide d _ x t) (λa a a a a st h=>wpAny_pyIter_striter_wide st h),(_,aW _ rfl,rfl,rfl),l,q)
 .refine wpAny_pyIter_ascii k (c.heap.objs.size,[c.heap.objs.size],_,_,g,rfl,n _,Ani _ "str_ascii_iterator" x t () (λA d=>Walks.strAscii d _ x t) (λa a a a a st h=>wpAny_pyIter_striter_ascii st h),(_,aW _ rfl,rfl,rfl),l,q)
structure Aya(J:It)(xs:List V)(ok:Hp->Prop):Prop where
 go:∀i H,i < xs.length->ok H->J.go i H
 yld:∀i H x H',i < xs.length->J.yld i H x H'->ok H->H'=H/\xs[i]?=sr x
 stop:∀H,ok H->J.stop xs.length H
def Anj(S:Aya J d ok)(T:H1 D=sy)(n:St->Prop)(I:n q)(p:V->Bool)(f:V->V)(P:d.length<=sizeLine)(hok:∀c,ok[upd H1 D .lst[c]])(F:∀(i:Nat)(x:V)(k:St)(c:lg V)(A:St->V->Hp->Prop)(B:St->Hp->Prop),d[i]?=sr x->n k->(∀a,n a->p x=t8->A a f[x] (upd H1 D .lst[c]))->(∀a,n a->p x=t7->B a (upd H1 D .lst[c]))->
   g x k (upd H1 D .lst[c]) λa O=>z a O λb v=>if b=t8 then C a v λy N=>A a y N else B a v)(G:Q[.ref D][upd H1 D .lst[(d.filter p).map f]]):
  Aiz J g z C D q H1 Q:=by
 refine(λi m c k H=>m=d.length - i/\i<=d.length/\n k/\c=((d.take i).filter p).map f/\H=upd H1 D .lst[c],(d.length,by simp,cY _,I,by simp,rfl),?_)
 rintro i m c k H ⟨rfl,hi,E,o,rfl⟩ _;by_cases h:i < d.length
 .refine .inr (S.go i _ h hok[_],λx t y=>?_);let(rfl,s):=S.yld i _ x t h y hok[_];let l:c.length < sizeLine:=by
   grind
  refine F i x k c _ _ s E (λa r hp=>(Bd,l,d.length - (i+1),(),rfl,h,r,?_,?_)) (λa r hp=>(Bd,d.length - (i+1),(),rfl,h,r,?_,rfl))
  .rw[o,zK p d i x s,di hp,dY];rfl
  .rw[Bch]
  .rw[o,zK p d i x s,hp];simp
 .let e:i=d.length:=by omega
  subst e;rw[tG] at o;subst o;exact .inl (S.stop _ hok[_],G)
def Bif(h:R t8 H):Akj σ H R:=h
def Ank(S:Aya J k ok)(u:H1 D=sy)(e:St->Prop)(w:e j)(f:V->V)(r:k.length<=sizeLine)(hok:∀b,ok[upd H1 D .lst[b]])(t:∀(i:Nat)(x:V)(d:St)(b:lg V)(A:St->V->Hp->Prop)(R:St->Hp->Prop),k[i]?=sr x->e d->(∀a,e a->A a f[x] (upd H1 D .lst[b]))->(∀a m,p a m (λy C=>A a y C)->R a m)->g x d (upd H1 D .lst[b]) R)(E:Q[.ref D][upd H1 D .lst[k.map[f]]]):Aiz J g Akj p D j H1 Q:=by
 refine Anj S u e w _ f r hok (λi x d b A B s l v n=>t i x d b A _ s l (λa q=>v a q rfl) λa m h=>Bif Akf[h]) ?_
 .rw[eQ.mpr[λn n=>rfl]];omega
section
variable{X:Cx}
theorem Ael:∀{b:lg t6} {c:lg aH},Vals b.map[V.str] c->nJ c b
 |[],_,h=>by cases h;exact .nil
 |y::r,_,h=>by
  cases h with
  |cons e d=>
   let(t,rfl):=e;exact .cons y t Ael[d]
end
structure Xa(K:aF)(mg:t6->Option aH)(x:t6)(st:dI)(ps:List t6)(f:aM)(fd:eX):Prop where
 fn:Fun K x x st f fd
 gl:mg x=sr (.ref f)
 bd:Binds K fd ps []
section
def Fun.okX{P:cJ}{w:dZ}{K:aF}{mg:t6->o9 aH}{base:eE}{i:Bool}{x j:t6}{st:dI}{f:aM}{fd:eX}{N ps:lg t6}{k:Nat}{e:Sp}(F:Fun K x j st f fd)(S:Gs N ps Ak[st])(len:∀c H Q E,e c H Q E->c.length=ps.length)(hbody:∀(a:aH)(A:fX)(outer:lg Env)(s:aN)(H:Hp)(c:lg V)(Q:VK)(E:XK),Ho k A.deeper[envOfC j Ak[st] s.heap.objs.size f a] i->e c H Q E->
   ∃t,PSs (Abu (CXo P w) P w K mg base N j Ak[st] f a A outer s H E i) Ao[st] t/\t { nx:=λv r=>Q .non r,rt:=Q } (start N c) H):Ib P w K mg base (CXo P w) (k+1) f fd ps e i:=by
 let(B,z,C,kV,p,y,D,a,ct,m,rfl,n,h):=F.ex;exact Blz n h S len λA outer s H c Q E o g=>hbody a A outer s H c Q E o g
def As5:Dv[CXo P w][X][λuu=>E0]:=λ_ _ _ _ _ _ _ ⟨_,_,_,_,_,_,_,z⟩=>z.elim
end
section
variable{prog:cJ}{w:dZ}{A:fX}{E:aH->aN->Prop}{s:aN}
def Bc4{T newId initId:String}{o p:jV}{a:lg aH}{k:lg[t6×aH]}{S:PySem.Spec}{Q Q₁:aH->aN->Prop}(i:TypeCalled T newId initId)(N:checkTypeCall T (a,k)=pure u9)(B:checkBuiltinCall newId (.type T::a,k)=pure u9)(z:entryFor table newId=sr o)(y:entryFor table initId=sr p)(g:aFc (o (.type T::a,k)) S)(h:S A.in1 (wants Q₁ E) s)(nx:∀obj b,Q₁ obj b->b.TypeIs obj T/\argsOk initId (obj::a,k)/\∃n,aFc (p (obj::a,k)) n/\n A.in1 wants[λr j=>r=.none/\Q obj j][E] b):
  wpAny (model prog w) A (call .type[T] a k) Q E s:=by
 let(c,tl,L):=i.mro;let J:=i.made;let I:=i.sub;let H:=i.notType;let G:=i.canCreate;refine mO[pP (show wpAny _ _ (callAny .type[T] _) _ _ _ from aJ (lJ _ (),iG xX ?_))]
 rw[xH[uW T a k][units_type_call_type T a k]]
 repeat (any_goals (first|assumption|wp_step))
 refine iT[gH i.plain z rR[B][g prog w A.in1 _ s h]] λr b d=>?_
 match r,d with
 |.error e,d=>exact d
 |.ok .next,d=>exact d.elim
 |.ok .brk,d=>exact d.elim
 |.ok .cont,d=>exact d.elim
 |.ok (.ret obj),d=>
  let(x,v,n,u,t):=nx _ _ d;let F:=i.init.lookup;let D:=i.init.bind obj
  repeat (any_goals (first|assumption|wp_step))
  refine iT gH[i.init.plain][y][i.init.check _ _ _ _ _ _ _ _ x v (u prog w A.in1 _ b t)] λl j f=>?_
  match l,f with
  |.error e,f=>exact f
  |.ok .next,f=>exact f.elim
  |.ok .brk,f=>exact f.elim
  |.ok .cont,f=>exact f.elim
  |.ok (.ret r),f=>
   let(rfl,q):=f
   repeat (any_goals (first|assumption|wp_step))
def Big{T newId:String}{self a b:aH}(i:typeLookup .type[T] "__init__"=pure sr[.builtin["object.__init__"]])(h:Bind.madeBy .type[T]=pure sr[newId])(f:(sr newId != sr "object.__new__")=t8):
  aFc[jV.«object.__init__» ([self,a],[("start",b)])][λg R s=>s.TypeIs self T/\R .ok[.ret[.none]] s]:=by
 refine Meets.of_wp λprog w A R s d=>?_;let(j,e):=d
 repeat (any_goals (first|rfl|wp_step))
 exact(_,rfl,e)
end
set_option tactic.hygienic true in
def Ayb(x:t6)(t u:Tok):
  aFc (jV.«enumerate.__new__» ([.type "enumerate",.str x t],[("start",.int 1 u)])) (λe R s=>
   R (.ok (.ret (.ref (s.heap.push { cls:=.type strIterType[x],data:=.fields #[.str x t,.int 0 0] }).objs.size))) { s with heap:=(s.heap.push { cls:=.type strIterType[x],data:=.fields #[.str x t,.int 0 0] }).push { cls:=.type "enumerate",data:=.fields #[.none,.bool t7,.ref s.heap.objs.size,rawInt 1,.none,.none] } }):=(
 .of_wp λprog w A R s h=>by
  let(hp,g,d,tk,os):=s;let f:=sub_enumerate
  wp_walk
  refine wpAny_stack_any λst=>aJ ?_;split
  .rename_i c _ _ _ _ _;cases (c==oV "enumerate") <;> (wp_walk using xY;exact(_,rfl,h))
  .wp_walk using xY
   exact(_,rfl,h))
section
variable{prog:cJ}{w:dZ}{A:fX}{E:aH->aN->Prop}{s:aN}
def Bc5{x:t6}{t u:Tok}{Q:aH->aN->Prop}(h:∀a:eE,IsEnum a (s.heap.objs.size+1) s.heap.objs.size 1 .none->a.IsStrIter s.heap.objs.size strIterType[x] x t 0->(∀b o,s.heap.get? b=sr o->a.get? b=sr o)->Q .ref[s.heap.objs.size+1] { s with heap:=a }):
  wpAny (model prog w) A (call .type["enumerate"] [.str x t] [("start",.int 1 u)]) Q E s:=by
 refine Bc4 (Q₁:=λobj c=>c.TypeIs obj "enumerate"/\Q obj c) qP (by rfl') (by rfl') F.entry_enumerate_new F.entry_object_init (Ayb x t u) ?_
  λobj c d=>(d.1,by rfl',_,Big qP.init.lookup qP.made (),d.1,rfl,d.2)
 let f:(s.heap.push { cls:=.type strIterType[x],data:=.fields #[.str x t,.int 0 0] }).objs.size=s.heap.objs.size+1:=fY ..
 let e:=aW (s.heap.push { cls:=.type strIterType[x],data:=.fields #[.str x t,.int 0 0] }) (o:={ cls:=.type "enumerate",data:=.fields #[.none,.bool t7,.ref s.heap.objs.size,rawInt 1,.none,.none] }) rfl;rw[f] at e;show _/\_;rw[f];exact((_,e,rfl),h _ e (_,aG _ (aW _ rfl),rfl,rfl) λb o q=>aG _ (aG _ q))
def Bc6{M:Model}{g:Pos}{T:String}{x:Sem aH}{rest:lg[Bool×Sem aH]}{kws:lg[o9 t6×Sem aH]}{Q:aH->aN->Prop}(b:kws.all (·.1.isSome)=t8)(i:(((u6 t7 x)::rest).any (·.1)||kws.any (·.1.isNone))=t7)(h:wpAny M A (spliced ((u6 t7 x)::rest)) (λm j=>wpAny M A (evalAll (kws.map (·.2))) (λl e=>wpAny M A (call .type[T] m ((kws.filterMap (·.1)).zip l)) Q E e) E j) E s):
  wpAny M A (callWith g .type[T] [] ((u6 t7 x)::rest) kws) Q E s:=by
 unfold callWith;refine aA (fB (dX (evalArgs_kw (Q:=λa e=>wpAny M A (call .type[T] a.pos a.kw) Q E e) b h) (λa j q=>aA iR[?_]) λf f q=>q));simp only[i];refine aA aJ[?_];exact aA[dX q (λr e n=>aA fB[wpAny_point[aJ[n]]]) λf f q=>q]
end
theorem Ayc{prog:cJ}{w:dZ}{A:fX}{b:aM}{d:lg aM}{n:Nat}{P:Nat->aH->Prop}{St:Nat->eE->Prop}(D:Draws prog w A b d n P St):
  Draws prog w A b d (n+1) (λi v=>P (i - 1) v) (λi h=>1<=i/\St (i - 1) h) where
 live:=λi h st=>D.live _ _ st.2
 frame:=λi h c st k=>(st.1,D.frame _ _ _ st.2 k)
 item:=λi s Q E hi st j=>by
  let(o,st):=st;refine D.item (i - 1) s Q E () st λx c tk l g f=>j x c tk l ((),?_) f
  rw[show i+1 - 1=i - 1+1 by omega]
  exact g
 done:=λs Q E st m=>D.done s Q E (by simpa using st.2) m
def Ite(x:t6):It:=(λi uu=>i < x.cps.size,λi H v H'=>∃c T,x.cps[i]?=sr c/\H T=sy/\v=.ref T/\H'=upd H T .tup[[.int[(i:Int)+1],.str ⟨#[c]⟩]],λi uu=>i=x.cps.size)
theorem Ai0{P:cJ}{w:dZ}{K:aF}{L:lg cL}{kt:Nat}{J:Pos}(e g:aM)(ty:String)(x:t6)(t:Tok)(F:e≠g)(D:∀A:fX,A.handled=sy->Draws P w A g [g] x.cps.size (λi v=>∃c u,x.cps[i]?=sr c/\v=.str ⟨#[c]⟩ u) (λi h=>h.IsStrIter g ty x t i)):
  Turn P w K (.Tuple L kt J) Ite[x] [e,g] e (λi h=>(∃l,IsEnum h e g ((i+1:Nat):Int) l)/\h.IsStrIter g ty x t i) where
 mem:=by simp
 obj:=λi h st b hb=>by
  let((l,G),o,C,p,hd):=st;rcases aY.mp hb with rfl|hb
  .exact(_,G,λv z=>by
    let z':zV _=vW v:=z;cases z')
  .obtain rfl:b=g:=by simpa using hb
   exact(o,C,λv z=>by rw[hd] at z;cases z)
 keep:=λi h h' st k=>by
  let((l,G),o,C,r):=st;exact((l,k e (by simp) _ G),o,k g (by simp) o C,r)
 item:=by
  intro X hP hw hK p i aa s σ H E I hf st hg;subst hP hw hK;let W:=xZ (A:=X.A) Ayc[D X.A.in1 (show X.A.in1.handled=sy from I.ok.hd p)] e F (by simpa using F) (by simp)
  let((l,G),hs):=st;let f:=hf e (by simp)
  let a:=hf g (by simp)
  refine W.item (i+1) s _ _ Nat.succ_lt_succ[hg] ((l,G),lC cY[_],by simpa using hs) λT vals h' tk hv hT hIs hM N=>?_
  let(U,xv,(c,u,O,rfl),rfl):=hv;let hTw:=W.apart _ _ _ hM;refine(_,rfl,W.go L kt J (i+1) T { s with heap:=h',toks:=tk } _ _ hM λh2 Y hk2=>?_)
  let O:x.cps[i]?=sr c:=by simpa using O
  let B:∀b o,b∉[e,g]->s.heap.get? b=sr o->h2.get? b=sr o:=λb o hb q=>hk2 b o hb (N b o hb q);let y:H T=sy:=I.hok.fresh hT;let hT2:aAo h2 T #[.int ((i+1:Nat):Int) U,.str ⟨#[c]⟩ u]:=by
   let(o,C,r):=hIs;exact(o,hk2 T o hTw C,r)
  let Z:∀b u,H b=sr u->b∉[e,g]:=λb u q hb=>by
   rcases aY.mp hb with rfl|hb
   .rw[f.1] at q;cases q
   .obtain rfl:b=g:=by simpa using hb
    rw[a.1] at q;cases q
  let ltT:∀{b:aM} {o:tu},s.heap.get? b=sr o->b≠T:=λq=>cB[bH bA[q] hT];refine(.ref T,upd H T .tup[[.int[(i:Int)+1],.str ⟨#[c]⟩]],?_,rfl,(c,T,O,y,rfl,rfl),(Y.1,by simpa using Y.2.2),λb hb=>?_)
  .show Inv X aa σ (upd H T .tup[[.int[(i:Int)+1],.str ⟨#[c]⟩]]) { s with heap:=h2,gens:=s.gens,drawn:=s.drawn,toks:=tk }
   refine I.step (s:=s) (g':=s.gens) (d':=s.drawn) (ch:=[e,g]) (λb hb=>?_) (λb o j j p q j=>B b o p q) (λb o j j p q j=>(o.slots,B b o p q)) (λb o j q n=>by rw[Ax ltT[q]];exact n)
    (λb o p q=>(o,B b o p q)) (λb xs q=>by rw[Ax[Ca q y]];exact q) (λb o u q=>by rw[Ax[Ca q y]];exact q) (λb ps q=>(#[],by rw[Ax[Ca q y],q];simp)) (λm hm=>?_) (λb u q=>?_) I.bare
   .rcases aY.mp hb with rfl|hb
    .exact(f.2.2.2.1,f.2.1,f.2.2.2.2.1,f.2.2.2.2.2)
    .obtain rfl:b=g:=by simpa using hb
     exact(a.2.2.2.1,a.2.1,a.2.2.2.2.1,a.2.2.2.2.2)
   .let(o,es,ep,C,r):=hm;refine(o,es,ep,B _ o (λhb=>?_) C,r);rcases aY.mp hb with q|hb
    .exact f.2.1 q.symm
    .exact a.2.1 (show X.env.locals=g by simpa using hb).symm
   .by_cases hb:b=T
    .subst hb;rw[Bd] at q;cases q;exact((show 2<=sizeLine by decide),_,.cons (U,rfl) (.cons (u,rfl) .nil),hT2)
    .rw[Ax hb] at q;refine(I.hok b u q).stay (λd v hd z=>B d v ?_ z) (λd z=>by rw[Ax[Ca z y]];exact z) λd xs z=>by rw[Ax[Ca z y]];exact z
     rcases hd with rfl|hd
     .exact Z d u q
     .exact Z d _ hd
  .let hbT:b≠T:=λq=>hTw[q ▸ hb];rw[Ax hbT];exact(hf b hb).1
 done:=by
  intro X hP hw hK p i aa s σ H E I hf st hg;subst hP hw hK;let hg:i=x.cps.size:=hg;subst hg;let W:=xZ (A:=X.A) Ayc[D X.A.in1 (show X.A.in1.handled=sy from I.ok.hd p)] e F (by simpa using F) (by simp)
  let((l,G),hs):=st;let f:=hf e (by simp)
  let a:=hf g (by simp)
  refine W.done s _ _ ((l,G),lC cY[_],by simpa using hs) λh' tk N=>(rfl,?_)
  let Z:∀b u,H b=sr u->b∉[e,g]:=λb u q hb=>by
   rcases aY.mp hb with rfl|hb
   .rw[f.1] at q;cases q
   .obtain rfl:b=g:=by simpa using hb
    rw[a.1] at q;cases q
  refine I.step (g':=s.gens) (d':=s.drawn) (ch:=[e,g]) (λb hb=>?_) (λb o j j p q j=>N b o p q) (λb o j j p q j=>(o.slots,N b o p q)) (λb o j q n=>n)
   (λb o p q=>(o,N b o p q)) (λb xs q=>q) (λb o u q=>q) (λb ps q=>(#[],by rw[q];simp)) (λm hm=>?_) (λb u q=>?_) I.bare
  .rcases aY.mp hb with rfl|hb
   .exact(f.2.2.2.1,f.2.1,f.2.2.2.2.1,f.2.2.2.2.2)
   .obtain rfl:b=g:=by simpa using hb
    exact(a.2.2.2.1,a.2.1,a.2.2.2.2.1,a.2.2.2.2.2)
  .let(o,es,ep,C,r):=hm;refine(o,es,ep,N _ o (λhb=>?_) C,r);rcases aY.mp hb with q|hb
   .exact f.2.1 q.symm
   .exact a.2.1 (show X.env.locals=g by simpa using hb).symm
  .refine(I.hok b u q).stay (λd v hd z=>N d v ?_ z) (λj z=>z) λj j z=>z;rcases hd with rfl|hd
   .exact Z d u q
   .exact Z d _ hd
 self:=λj j j j j st h=>by
  let((l,G),_):=st;exact yE G h
def Bmc(ts:TE):TI:=λσ H R=>ts σ H λv H1=>∃x,v=.str x/\R Ite[x] H1
def Bc7{X:Cx}{m:lg cL}{kt j:Nat}{i p f d c:Pos}{e:cL}{G:TE}(hg:Gl X "enumerate")(hm:X.mg "enumerate"=sy)(he:PE X e G)(O:autoParam (starEach [e] X.env=[(t7,eval e X.env)]) zq2._auto_1):
  PI[X][.Tuple m kt i][.Call (.Name "enumerate" p) [e] [(sr "start",.Constant .int[1] j d,c)] f][Bmc G]:=by
 intro B s D H R I h;let w:PA X [e] (Asz G Bhz):=Aah he Aj7 O;let hk:PK X [(sr "start",.Constant .int[1] j d,c)] (Asz tC[.int[1]] Bhz):=Bcp Axn λF F F F H Q I h=>wpAny_evalAll_nil ([],H,I,.nil,h);refine gG[Abr I hg hm boot_enumerate ?_];let l:=w f B s D H (λE C=>match E with|[v]=>(∃x,v=.str x/\R Ite[x] C)|_=>False) I h
 rw[O] at l ⊢
 refine Bc6 rfl rfl (thn l λus Z ⟨E,C,I1,r,q⟩=>thn[hk f B Z D C (λN g=>N=[.int 1]/\g=C) I1 (rfl,rfl)] λws a Y=>?_);let(N,g,L,rz,n,e2):=Y;subst n e2;let(z,rfl,u,rfl):=vals1 rz
 match E,q,r with
 |[v],⟨x,hx,q⟩,r=>
  subst hx;let(y,rfl,t,rfl):=vals1 r;refine Bc5 λh' n o k1=>yE n ?_;let U:Inv X B D g { a with heap:=h' }:=L.kept (t':=a.toks) k1
  let P:∀b∈[a.heap.objs.size+1,a.heap.objs.size],Ah7 X B g b:=λb hb=>by
   let k:a.heap.objs.size<=b:=by
    rcases aY.mp hb with rfl|hb
    .exact gZ _
    .obtain rfl:b=_:=by simpa using hb
     exact aO _
   exact L.fpOk k L.hok.fresh[k]
  cases w:x.cps.all (· < 128)
  .rw[show strIterType x="str_iterator" from by unfold strIterType;rw[w];rfl] at o
   exact(_,[a.heap.objs.size+1,a.heap.objs.size],_,_,g,rfl,U,Ai0 _ _ "str_iterator" x t tH[_] (λA J=>Draws.strWide J _ x t),((_,n),o),P,q)
  .rw[show strIterType x="str_ascii_iterator" from by unfold strIterType;rw[w];rfl] at o
   exact(_,[a.heap.objs.size+1,a.heap.objs.size],_,_,g,rfl,U,Ai0 _ _ "str_ascii_iterator" x t tH[_] (λA J=>Draws.strAscii J _ x t),((_,n),o),P,q)
section
variable{X:Cx}
def Bih:SlR X (λx lo hi H Q=>∃z,x=.str z/\z.length<=sizeLine/\Q .str[fQ z lo hi] H):=by
 intro y s e H x v g f lo hi n Q I o r pl d h;let(z,rfl,p,q):=h;let(t,rfl):=o;refine("str",_,PySem.F.slot_str_getitem.lookup,aAw _ _ _,?_);let a:∀(l u:o9[Int×Tok]),g=partValue l->f=partValue u->lo=l.map (·.1)->hi=u.map (·.1)->wpAny (model X.prog X.w) X.A getItem[.str z t][.ref n] (EP X y e Q) X.xe s:=by
  rintro l u rfl rfl rfl rfl;exact wpAny_getItem_str_slice (l:=l) (u:=u) (st:=sy) r rfl (post_val_or_str (aD (Txt.slice_le z (l.map (·.1)) (u.map (·.1))) p,λm k=>(.str _,H,I.tok k,(m,rfl),q)))
 cases pl with
 |none=>cases d with
  |none=>exact a sy sy rfl rfl rfl rfl
  |int j b=>exact a sy sr[u6 j b] rfl rfl rfl rfl
 |int i c=>cases d with
  |none=>exact a sr[u6 i c] sy rfl rfl rfl rfl
  |int j b=>exact a sr[u6 i c] sr[u6 j b] rfl rfl rfl rfl
end
def Aqx(sc:kJ)(x:t6):Bool:=match sc.names.lookup x with
 |some .local=>t8
 |some .cell=>t8
 |some .free=>t8
 |_=>t7
def Aqy(sc:kJ)(x:t6):Bool:=match sc.names.lookup x with
 |some .local=>t8
 |some .cell=>t8
 |_=>t7
def Afr(h:Aqx sc x=t8):Vis sc x:=by
 unfold Aqx at h;split at h
 .exact .inl ‹_›
 .exact .inr[.inl ‹_›]
 .exact .inr[.inr ‹_›]
 .cases h
def Ayd(h:Aqy sc x=t8):Loc sc x:=by
 unfold Aqy at h;split at h
 .exact .inl ‹_›
 .exact .inr ‹_›
 .cases h
section
def Avk(f:aF)(hK:X.K=f):Le X .builtin["isinstance"] (λg H Q=>∃x c d t b,g=[x,c]/\TyX f H x t/\Bc3 c=sr d/\kY f t d=sr b/\Q .bl[b] H):=by
 subst hK;intro o s l H g p Q I r h;let(x,c,d,t,b,rfl,ty,n,j,q):=h;let(u,v,rfl,i,m):=vals2 r;obtain rfl:=Ax9 n m;let a:∀tk,EP X o l Q .bool[b] { s with toks:=tk }:=λtk=>(.bl b,H,I.tok tk,rfl,q)
 cases ty with
 |of ty=>exact Ava I i ty j a
 |exc e k=>
  cases i;exact fZ Ax8[k] I.kIn (Bc2 I e) j (λz=>nomatch z) a
end
structure WE(X:Cx)(e:cL)(t:TE):Prop where
 un:PE X e t
structure WT(X:Cx)(e:cL)(t:TT):Prop where
 un:PT X e t
structure WW(X:Cx)(e:cL)(t:TT):Prop where
 un:PW X e t
structure WA(X:Cx)(es:List cL)(t:TA):Prop where
 un:PA X es t
structure WS(X:Cx)(st:dI)(t:TS):Prop where
 un:PS X st t
structure WSs(X:Cx)(sts:List dI)(t:TS):Prop where
 un:PSs X sts t
structure WG(X:Cx)(e:cL)(t:TG):Prop where
 un:PG X e t
structure WI(X:Cx)(tg e:cL)(t:TI):Prop where
 un:PI X tg e t
structure WTs(X:Cx)(es:List cL)(t:TT):Prop where
 un:PTs X es t
structure WO(X:Cx)(e:Option cL)(t:TO):Prop where
 un:PO X e t
structure WPs(X:Cx)(pos:Pos)(ks:List (Option cL))(vs:List cL)(trs:List (TE×TE)):Prop where
 un:PPs X pos ks vs trs
section
variable{X:Cx}{x:t6}{pos pos' p ak cpos:Pos}{a b c e o k v:cL}{es rest:lg cL}{sts:lg dI}{st:dI}{ta tb tc te to tl:TE}{t:TA}{tA tB':TT}{u u':TS}
def kv(i:Nat)(h:autoParam (X.N[i]?=sr x) zq1._auto_1)(g:autoParam (Aqx X.env.scope x=t8) zq1._auto_1)(hd:autoParam ((x==("__debug__":t6))=t7) zq1._auto_1)(d:autoParam ((x==("__classdict__":t6))=t7) zq1._auto_1):
  WE X (.Name x pos) Bhk[i]:=(⟨Afc h Afr[g] hd d⟩)
def Bgx{v:V}{u:aH}(hm:X.mg x=sr u)(r:RelV v u)(hg:autoParam (X.env.kindOf x=sr .globalImplicit) zq1._auto_1)(hd:autoParam ((x==("__debug__":t6))=t7) zq1._auto_1):WE X (.Name x pos) tC[v]:=⟨λuu uu uu H uu I h=>Lz I hg hm (v,H,I,r,h) hd⟩
def kop(l:OpR X binaryOp[j] r)(n:WE X a ta)(m:WE X b tb):WE[X][.BinOp a j b pos][tOp r ta tb]:=(⟨by
  intro w s d H Q I h;exact wpAny_BinOp[Bhs n.un m.un I h λv u f x y A z i g q=>l w f d A x y v u Q z i g q]⟩)
def Bo1(r:WE X a ta)(q:WE X (.BoolOp .And (b::rest) pos) tb):WE[X][.BoolOp .And (a::b::rest) pos][Blm ta tb]:=(⟨by
  intro g s f H Q I h;refine BoolOp_and[thn[r.un g s f H _ I h] λv m l=>?_];let(x,j,i,n,d):=l;let(c,rfl,d):=d;cases n;refine gP ?_;cases c with
  |true=>exact q.un g m f j Q i d
  |false=>exact(.bl t7,j,i,rfl,d)⟩)
def kor(r:WE X a ta)(q:WE X (.BoolOp .Or (b::rest) pos) tb):WE[X][.BoolOp .Or (a::b::rest) pos][Boj ta tb]:=(⟨by
  intro g s f H Q I h;refine BoolOp_or[thn[r.un g s f H _ I h] λv m l=>?_];let(x,j,i,n,d):=l;let(c,rfl,d):=d;cases n;refine gP ?_;cases c with
  |false=>exact q.un g m f j Q i d
  |true=>exact(.bl t8,j,i,rfl,d)⟩)
def Bmd(ha:WE X a ta):WE X (.BoolOp op [a] pos) ta:=⟨λaa s σ H Q I hw=>BoolOp_one[ha.un aa s σ H Q I hw]⟩
def knot(j:WE X a ta):WE X (.UnaryOp .Not a pos) Bln[ta]:=(⟨by
  intro l s f H Q I h;refine UnaryOp_[thn[j.un l s f H _ I h] λv q g=>?_];let(x,n,m,i,d):=g;let(c,rfl,d):=d;cases i;exact not_of[gP (.bl[!c],n,m,rfl,d)]⟩)
def kif(q:WT X c tA)(w:WE X a ta)(r:WE X b tb):WE[X][.IfExp c a b pos][tIf tA ta tb]:=(⟨by
  intro g s f H Q I h;refine wpAny_IfExp[thn[q.un g s f H _ I h] λd i n=>?_];let(m,l,j):=n;cases d with
  |true=>exact w.un g i f m Q l j
  |false=>exact r.un g i f m Q l j⟩)
def kix(m:IxR X r)(w:WE X a ta)(n:WE X b tb)(l:Aek b:=by exact λf f=>rfl):WE[X][.Subscript a b pos][tOp r ta tb]:=(⟨by
  intro z s d H Q I h;exact Subscript_[Bhs w.un n.un I h λv u g x y B A j i q=>m a b z g d B x y v u Q A j i q (l _ _)]⟩)
def Bo2(h:WA X es t):WE X (.List es pos) Box[t]:=(⟨by
  intro n s i H Q I m;refine wpAny_List_spliced[thn[h.un pos n s i H _ I m] λl d ⟨xs,H1,I1,r,z,q⟩=>(by rw[<-r.length];exact z,?_)]
  let hf:H1 d.heap.objs.size=sy:=I1.hok.fresh aO[_];refine(.ref d.heap.objs.size,upd H1 d.heap.objs.size .lst[xs],I1.laid (t':=d.toks) (λb u e=>aG _ e) aO[_] ?_,rfl,q _ hf);exact(z,l,0,r,aW _ rfl)⟩)
def Bo3{j:Nat}(h:WA X es t):WE X (.Tuple es j pos) Bow[t]:=(⟨by
  intro w s i H Q I n;refine wpAny_Tuple_spliced[thn[h.un pos w s i H _ I n] λm d ⟨xs,H1,I1,r,z,q⟩=>(by rw[<-r.length];exact z,?_)]
  let hf:H1 d.heap.objs.size=sy:=I1.hok.fresh aO[_];refine(.ref d.heap.objs.size,upd H1 d.heap.objs.size .tup[xs],I1.laid (t':=d.toks) (λb u e=>aG _ e) aO[_] ?_,rfl,q _ hf);exact(z,m,r,(_,aW _ rfl,rfl,_,rfl))⟩)
def kbm{T:String}{name:t6}{id:String}{r:V->lg V->Hp->VK->Prop}(pa:PlainAttrs T)(slot:Slot T name id)(j:typeOf .builtin[id]=pure .type["method_descriptor"])(L:MtR X id r)(J:WE X o to)(O:WA X (e::es) t)(U:autoParam (attributeBase o name X.env (eval o X.env)=eval o X.env) zq1._auto_1)(g:autoParam (((backTo cpos (starEach (e::es) X.env)).all (λx=>!x.1)&&(backToKw cpos (keywordEach [] X.env)).all (λx=>x.1.isSome)&&decide[(e::es).length+([]:lg iQ).length+(if ([]:lg iQ).isEmpty then 0 else 1) < 30])=t8) zq1._auto_1)(Y:autoParam ((ak.endLine==cpos.line)=t8) zq1._auto_1)(N:autoParam (starEach (e::es) X.env=(u6 t7 (eval e X.env))::starEach es X.env) zq1._auto_1)(l:autoParam ((backTo cpos (starEach es X.env)).any (·.1)=t7) zq1._auto_1):WE[X][.Call (.Attribute o name ak) (e::es) [] cpos][tBM X.K T r to t]:=by
 exact⟨by
   intro m s i H Q I h;refine wpAny_Call_method_late U g Y rfl (thn[J.un m s i H _ I h] λv D z=>?_);let(x,H1,y,n,ty,G):=z;let(S,P):=Bh4 y n ty;refine(T,id,pa,slot,j,S,P,?_);let q:=O.un cpos m D i H1 _ y G;rw[N] at q ⊢
   refine uG (by show (t7||(backTo cpos (starEach es X.env)).any (·.1))=t7;rw[l] <;> rfl) pK[?_]
   exact thn q λB C ⟨vs,H2,I2,r2,q2⟩=>L m C i H2 x vs v B Q I2 n r2 q2⟩
def Bc8(h:WE X e te):WO X sr[e] Bl0[te]:=(⟨by
  intro m s d H Q I l;rw[evalPart_some];refine thn[h.un m s d H _ I l] λu w f=>?_;let(x,r,n,g,j):=f;let(i,rfl,q):=j;let(t,rfl):=g;exact(sr i,r,n,.int i t,q)⟩)
def Bii{r:V->o9 Int->o9 Int->Hp->VK->Prop}{lo hi:o9 cL}{tl y:TO}{z:Pos}(O:SlR X r)(U:WE X e te)(P:WO X lo tl)(hu:WO X hi y):WE X .Subscript[e][.Slice lo hi sy z][pos] (tSl r te tl y):=(⟨by
  intro g s f H Q I h;refine Subscript_[thn[U.un g s f H _ I h] λv D m=>?_];let(x,H1,I1,E,J):=m;refine wpAny_Slice[thn[P.un g D f H1 _ I1 J] λj C ⟨l,H2,I2,pl,q2⟩=>thn[hu.un g C f H2 _ I2 q2] λi d m=>?_];let(u,B,I3,L,F):=m;rw[aCa];refine aJ ?_;let I4:Inv X g f B { d with heap:=d.heap.push { cls:=.type "slice",data:=.fields #[j,i,.none] } }:=I3.kept (t':=d.toks) λb ob q=>aG _ q
  let(T,id,Y,N,S):=O g { d with heap:=d.heap.push { cls:=.type "slice",data:=.fields #[j,i,.none] } } f B x v j i l u d.heap.objs.size Q I4 E (aEs ..) pl L F;show wpAny (model X.prog X.w) X.A (subscriptTail e (.Slice lo hi sy z) v .ref[d.heap.objs.size]) (EP X g f Q) X.xe { d with heap:=d.heap.push { cls:=.type "slice",data:=.fields #[j,i,.none] } }
  exact aAv (ops:=[.ref d.heap.objs.size,v]) N Y S (by with_unfolding_all rfl)⟩)
def Bc9(D:WE X k ta)(B:WE X v tb)(C:WPs X pos A j f):WPs X pos (sr k::A) (v::j) ((u6 ta tb)::f):=(⟨λi s d H Q I h=>pairTrees_cons_walk (thn[D.un i s d H _ I h] λu m ⟨x,H1,I1,rx,q1⟩=>thn[B.un i m d H1 _ I1 q1] λP l ⟨y,H2,I2,ry,q2⟩=>
  thn[C.un i l d H2 _ I2 q2] λO S ⟨ps,H3,I3,rel,q3⟩=>((u6 x y)::ps,H3,I3,.cons (rx,ry) rel,q3))⟩)
def Bo4(r:WT X a tA)(q:WW X (.BoolOp .And (b::rest) pos) tB'):WW[X][.BoolOp .And (a::b::rest) pos][Boi tA tB']:=(⟨by
  intro m g s d H Q I h;refine isTrue_and[thn[r.un g s d H _ I h] λc n l=>?_];let(j,i,f):=l;cases c with
  |true=>exact q.un m g n d j Q i f
  |false=>exact(j,i,f)⟩)
def tor(r:WT X a tA)(q:WW X (.BoolOp .Or (b::rest) pos) tB'):WW[X][.BoolOp .Or (a::b::rest) pos][tOr tA tB']:=(⟨by
  intro m g s d H Q I h;refine isTrue_or[thn[r.un g s d H _ I h] λc n l=>?_];let(j,i,f):=l;cases c with
  |true=>exact(j,i,f)
  |false=>exact q.un m g n d j Q i f⟩)
def Bme(f:WT X a tA):WW X (.BoolOp .And [a] pos) tA:=(⟨by
  intro i g s d H Q I h;refine isTrue_and[thn[f.un g s d H Q I h] λc j e=>?_];cases c with
  |true=>exact isTrue_and_nil e
  |false=>exact e⟩)
def Bo5(f:WT X a tA):WW X (.BoolOp .Or [a] pos) tA:=(⟨by
  intro i g s d H Q I h;refine isTrue_or[thn[f.un g s d H Q I h] λc j e=>?_];cases c with
  |false=>exact isTrue_or_nil e
  |true=>exact e⟩)
def tw(h:WW X a tA):WT X a tA:=⟨h.un _⟩
def kbi{id:String}{r:lg V->Hp->VK->Prop}(F:Le X .builtin[id] r)(C:X.mg x=sy)(A:bootBuiltins x=sr .builtin[id])(G:WA X (e::es) t)(D:autoParam (X.env.kindOf x=sr .globalImplicit) zq1._auto_1)(B:autoParam (decide[x=("__name__":t6)]=t7) zq1._auto_1)(f:autoParam ((x==("__debug__":t6))=t7) zq1._auto_1)(E:autoParam (starEach (e::es) X.env=(u6 t7 (eval e X.env))::starEach es X.env) zq1._auto_1)(d:autoParam ((backTo pos (starEach es X.env)).any (·.1)=t7) zq1._auto_1):
  WE[X][.Call (.Name x p) (e::es) [] pos][tCB r t]:=(⟨by
    intro l s i H Q I h;refine gG[Abr I D C A ?_ of_decide_eq_false[B] f];exact zL (thn[G.un pos l s i H _ I h] λq w ⟨vs,H1,I1,r1,q1⟩=>F l w i H1 vs q Q I1 r1 q1) E d⟩)
def Aye{i:Nat}(nd:autoParam (decide X.N.Nodup=t8) zq1._auto_1)(hi:autoParam (X.N[i]?=sr x) zq1._auto_1)(d:autoParam (Aqy X.env.scope x=t8) zq1._auto_1)(hf:autoParam ((X.fn x||decide[X.env.scope.names.lookup x=sr .local])=t8) zq1._auto_1):
  WG X (.Name x pos) Aag[i]:=(⟨by
    intro m s j H v u Q I r h;exact wpAny_assign_Name (Afb I dg[nd] hi Ayd[d] r (λl g=>(_,H,g,h)) (by
 rcases mW.mp hf with h|h
 .exact .inl h
 .exact .inr dg[h]))⟩)
def Bda(w:X.mg "range"=sy)(z:WA X [a] t)(y:autoParam (X.env.kindOf "range"=sr .globalImplicit) zq1._auto_1)(n:autoParam (starEach [a] X.env=[(t7,eval a X.env)]) zq1._auto_1):WI X tg (.Call (.Name "range" p) [a] [] pos) Blr[t]:=(⟨by
  intro A s g H R I h;refine Call_[Abr I y w boot_range mC[thn[z.un pos A s g H _ I h] λD F ⟨vs,H1,I1,r1,d⟩=>?_][n][rfl]];let(j,e,d,m,q):=d;subst e;cases r1 with
  |cons r i=>
   cases i;let(t,rfl):=r;exact call_range_1[Axq I1 () () d m (by simpa using q)]⟩)
def Bdb:WTs X [] Akj:=⟨λuu uu uu H uu I h=>wpAny_tests_nil (H,I,h)⟩
def Bij{z f B:cL}{l:lg cL}{scope:kJ}{L:TI}{g:TG}{O:TT}{te:(St->XK)->TE}{E:St->XK}{own:lg t6}{d:lg Nat}{sc:kJ}(hX:X.stack=X.env::X.outer/\X.env.frame=sr X.env.locals/\X.ex=[]/\Aai X E)(hc:X.calm=t8)(hE:X.env.scope=sc)(hi:WI X B f L)(hg:∀C s H ex,WG (X.comp scope own d C s H ex) B g)(U:∀C s H ex,WTs (X.comp scope own d C s H ex) l O)(he:∀C s H ex xe A,Dv[CXo X.prog X.w][X.compX scope own d C s H ex xe][A]->WE (X.compX scope own d C s H ex xe) z te[A])(r:d.all[λj=>match X.N[j]? with|some x=>decide[scope.names.lookup x=sr .free]|none=>t7]=t8)(az:scope.kind=.function)(ao:scope.names.all[λy=>decide[y.2≠.cell]]=t8)(au:scope.names.all[λy=>!decide (y.2=.local)||decide[scope.names.lookup y.1=sr .local]]=t8)(bc:scope.names.all[λy=>!decide (y.2=.free)||(decide[sc.names.lookup y.1=sr .cell]||decide[sc.names.lookup y.1=sr .free])]=t8)(Y:∀x,foldedSetIterable f X.env x=pure x):
  WE[X][.ListComp z [(B,f,l,0)] scope pos][Bid L g O te E own d]:=(
 ⟨by
   intro aa s P H Q I h;rw[eval_ListComp];exact Abv (use:=sy) (te:=te λS=>E P) .inr[hX] hc hE hi.un (λC s H ex=>(hg C s H ex).un) (λC s H ex=>(U C s H ex).un) (λC s H ex xe p=>(λC s H ex xe A p=>(he C s H ex xe A p).un) C s H ex xe _ p) (by
     intro j hj;let q:=aQ.mp r j hj;cases e:X.N[j]? with
     |none=>rw[e] at q;cases q
     |some x=>rw[e] at q;exact(x,rfl,dg q)) az (λy n=>dg[aQ.mp ao y n]) (by
       intro y n G;let q:=aQ.mp au y n;rw[dj G] at q;exact dg q) (by
         intro y n G;let q:=aQ.mp bc y n;rw[dj G,pH,aCb,eV] at q;exact q.imp dg dg) Y I h λD C s6 H5 m J Z S T=>(m,Z,λh' F=>(.ref D,H5,J h' F,rfl,T))⟩)
def Bo6{i:Nat}(m:WE X e te)(nd:autoParam (decide X.N.Nodup=t8) zq1._auto_1)(hi:autoParam (X.N[i]?=sr x) zq1._auto_1)(l:autoParam (Aqy X.env.scope x=t8) zq1._auto_1)(j:autoParam (swapsWith e sr[.Name x pos'] pos.line X.env=pure t7) zq1._auto_1)(hf:autoParam (X.fn x=t8) zq1._auto_1):WS[X][.Assign [.Name x pos'] e pos][Bhn te Aag[i]]:=(⟨by
    intro n s d H D I h;refine wpAny_Assign_Name (thn[m.un n s d H _ I h] λv B ⟨y,H1,I1,r1,q1⟩=>?_) j;exact Afb I1 dg[nd] hi Ayd[l] r1 (λA r=>(_,H1,r,q1)) .inl[hf]⟩)
def sif{tc:TT}{A B:lg dI}(r:WT X c tc)(y:WSs X A u)(w:WSs X B u'):WS[X][.If c A B pos][Bon tc u u']:=(⟨by
  intro g s f H D I h;refine wpAny_If[thn[r.un g s f H _ I h] λd i q=>?_];let(n,m,j):=q;cases d with
  |true=>exact y.un g i f n D m j
  |false=>exact w.un g i f n D m j⟩)
def Bik(F:Anf X.K C)(G:X.mg x=sr .ref[C])(O:X.calm=t8)(Q:Raises X E)(P:WA X (e::es) t)(L:autoParam (X.env.kindOf x=sr .globalImplicit) zq1._auto_1)(hd:autoParam ((x==("__debug__":t6))=t7) zq1._auto_1)(l:autoParam (starEach (e::es) X.env=(u6 t7 (eval e X.env))::starEach es X.env) zq1._auto_1)(g:autoParam ((backTo cpos (starEach es X.env)).any (·.1)=t7) zq1._auto_1):
  WS[X][.Raise sr[.Call (.Name x p) (e::es) [] cpos] sy pos][Bia t C E]:=(⟨by
    intro n s j H D I h;let(tl,N,nm,q,bs,hdct,sn,sub,ab,col,dd,k0,k1,k2,k3,k5,mN,U,S,i,T):=Bcz I.ok.mod.kin F;refine wpAny_Raise_call_subT (C:=C) (nm:=nm) (q:=q) (N:=N) (bs:=bs) (bm:=tl) (hdct:=hdct) (sn:=sn) (sub:=sub) (ab:=ab) (col:=col) (dd:=dd) (k0:=k0) (k1:=k1) (k2:=k2) (k3:=k3) (k5:=k5)
     fK (mN:=mN) T.hasType[fK.hasBase] I.ok.hd[O] (by rw[l];show (t7||(backTo cpos (starEach es X.env)).any (·.1))=t7;rw[g];rfl) i (Lz I L G (rfl,?_) hd)
    let d:=P.un cpos n s j H _ I h;rw[l] at d ⊢
    refine pK[dX d (λz A Y=>?_) λw w y=>y];let(vs,H2,f,r,J,o,B):=Y;exact(rfl,by rw[<-r.length];exact J,f.bk _ _ U,S.keeps f.bk,T.keeps f.bk,λZ e hmade=>Q n j H2 A e .ref[C] z Z o f hmade B)⟩)
end
section
variable{P:cJ}{w:dZ}{K:aF}{mg:t6->o9 aH}{base:eE}
def Fun.okW{g:Bool}{x h:t6}{st:dI}{f:aM}{fd:eX}{N ps:lg t6}{k:Nat}{d:Sp}(F:Fun K x h st f fd)(S:Gs N ps Ak[st])(len:∀c H Q E,d c H Q E->c.length=ps.length)(hbody:∀(a:aH)(A:fX)(outer:lg Env)(s:aN)(H:Hp)(c:lg V)(Q:VK)(E:XK),Ho k A.deeper[envOfC h Ak[st] s.heap.objs.size f a] g->d c H Q E->
   ∃t,WSs (Abu (CXo P w) P w K mg base N h Ak[st] f a A outer s H E g) Ao[st] t/\t { nx:=λr o=>Q .non o,rt:=Q } (start N c) H):Ib P w K mg base (CXo P w) (k+1) f fd ps d g:=(
 F.okX S len λa A outer s H c Q E m e=>by
  let(t,l,q):=hbody a A outer s H c Q E m e;exact(t,l.un,q))
end
open PySem.Builtin.SmallTypes in
structure Nx(P:cJ)(w:dZ)(i l:aM)(St:Nat->eE->Prop)(Sc:Array aH->eE->Prop):Prop where
 live:∀k h,St k h->∃o,h.get? i=sr o/\∀v,o.data≠.cell v
 keep:∀k h h',St k h->(∀o,h.get? i=sr o->h'.get? i=sr o)->St k h'
 src:∀xs h h',Sc xs h->(∀o,h.get? l=sr o->h'.get? l=sr o)->Sc xs h'
 item:∀(A:fX)(k:Nat)(s:aN)(xs:Array aH)(x:aH)(Q:aH->aN->Prop)(E:aH->aN->Prop),St k s.heap->Sc xs s.heap->xs[k]?=sr x->(∀h',St (k+1) h'->gM i s.heap h'->Q x { s with heap:=h' })->
  wpAny (model P w) A (nextOf (.ref i)) Q E s
 done:∀(A:fX)(k:Nat)(s:aN)(xs:Array aH)(Q:aH->aN->Prop)(E:aH->aN->Prop),A.handled=sy->St k s.heap->Sc xs s.heap->xs[k]?=sy->
  (∀h' e,aDv i s.heap h'->(∃o,h'.get? e=sr o/\o.cls=.type "StopIteration")->E (.ref e) { s with heap:=h' })->wpAny (model P w) A (nextOf (.ref i)) Q E s
section
variable{prog:cJ}{w:dZ}{A:fX}{E:aH->aN->Prop}{s:aN}
open PySem.Builtin.SmallTypes in
def Bdc{k:Nat}(st:s.heap.IsTupleIter a l k)(h:s.heap.IsTuple l d)(f:d[k]?=sr x)(go:∀c,c.IsTupleIter a l (k+1)->gM a s.heap c->Q x { s with heap:=c }):wpAny (model prog w) A nextOf[.ref[a]] Q E s:=by
 let(q,hi,j,b):=id st;let(p,g,_,n,i):=h;unfold nextOf;refine aA (dC (name:=mR "__next__") st.typeIs jG (dH jG st.typeIs qF ?_ pQ[_]));refine aA (m:=field .ref[a] 0) (dM hi b (x:=.ref l) rfl ?_);let e:¬ ((bQ l==gF)=t8):=cC;show wpAny _ _ (if (bQ l==gF)=t8 then _ else _) _ _ s
 rw[dm e];refine aA (m:=field .ref[a] 1) (dM hi b (x:=.int k 0) rfl (aA (m:=seqItems? .ref[l]) (iB g i ?_)));simp only[dG,f];refine aA gA[hi][b][by simp][aJ (x,rfl,aJ[go _ (_,bZ _ hi gD[cV b _],(mF ..).trans j,?_) (iD ..)])]
 rw[cV b];simp[rawInt]
open PySem.Builtin.SmallTypes in
def Bdd{k:Nat}(p:A.handled=sy)(st:s.heap.IsTupleIter b l k)(j:s.heap.IsTuple l f)(h:f[k]?=sy)(go:∀c e,aDv b s.heap c->(∃o,c.get? e=sr o/\o.cls=.type "StopIteration")->E .ref[e] { s with heap:=c }):wpAny (model prog w) A nextOf[.ref[b]] Q E s:=by
 let(u,hi,v,d):=id st;let(t,i,_,n,q):=j;unfold nextOf;refine aA (dC (name:=mR "__next__") st.typeIs jG (dH jG st.typeIs qF ?_ pQ[_]));refine aA (m:=field .ref[b] 0) (dM hi d (x:=.ref l) rfl ?_);let g:¬ ((bQ l==gF)=t8):=cC;show wpAny _ _ (if (bQ l==gF)=t8 then _ else _) _ _ s
 rw[dm g];refine aA (m:=field .ref[b] 1) (dM hi d (x:=.int k 0) rfl (aA (m:=seqItems? .ref[l]) (iB i q ?_)));simp only[dG,h];refine aA oZ[aA[gA hi d (by simp) ?_]]
 refine aA (m:=newExc .type["StopIteration"] []) ?_;simp only[newExc,newTuple];refine aA eY[?_][by size_fits]
 refine aA (m:=firstArgMember _ _) (rR (a:=gF) (by first|rfl|(simp only[firstArgMember];rfl)) eY[?_][by size_fits])
 simp only[raiseNew];refine aA wR[?_];rw[show A.in1.handled=sy from p];exact aA aJ[vH[go _ _ (((iD ..).extBut.push _).push _) (_,aW _ rfl,rfl)]]
theorem Ayf(i l:aM):Nx P w i l (λk h=>h.IsTupleIter i l k) (λa h=>h.IsTuple l a) where
 live:=λk h st=>by let(o,c,_,hd):=st;exact(o,c,λv z=>by rw[hd] at z;cases z)
 keep:=λk h g st e=>st.at e
 src:=λa h g st d=>let ⟨o,c,r⟩:=st;(o,d o c,r)
 item:=λA k s a x Q E st sc b go=>Bdc st sc b go
 done:=λA k s a Q E f st sc b go=>Bdd f st sc b go
theorem Bde(i l:aM):Nx P w i l (λk h=>h.IsListIter i l k) (λa h=>h.IsList l a) where
 live:=λk h st=>by let(o,e,_,hd):=st;exact(o,e,λv z=>by rw[hd] at z;cases z)
 keep:=λk h g st d=>st.at d
 src:=λa h g st c=>st.at c
 item:=λA k s a x Q E st sc b go=>wpAny_nextOf_list_item st sc b go
 done:=λA k s a Q E f st sc b go=>wpAny_nextOf_list_end f st sc b go
structure ZA(z TI TO i1 i2 l1 l2:aM):Prop where
 a:[z,TI,TO,i1,i2].Nodup
 b1:l1∉[z,TI,TO,i1,i2]
 b2:l2∉[z,TI,TO,i1,i2]
section
variable{St1 St2:Nat->eE->Prop}{Sc1 Sc2:Array aH->eE->Prop}{z TI TO i1 i2 l1 l2:aM}{k:Nat}{xs ys:Array aH}{x y a b:aH}
def ZA.ne(D:ZA z TI TO i1 i2 l1 l2):z≠TI/\z≠TO/\z≠i1/\z≠i2/\TI≠TO/\TI≠i1/\TI≠i2/\TO≠i1/\TO≠i2/\i1≠i2:=by
 let h:=D.a;simp_all
open PySem.Builtin PySem.Builtin.SmallTypes in
def Ayg(B:Nx prog w i1 l1 St1 Sc1)(u:Nx prog w i2 l2 St2 Sc2)(D:ZA z TI TO i1 i2 l1 l2){Q:aH->aN->Prop}(j:vI s.heap z TI TO .none)(O:pA s.heap TI .ref[i1] .ref[i2])(N:pA s.heap TO a b)(s1:St1 k s.heap)(s2:St2 k s.heap)(c1:Sc1 xs s.heap)(c2:Sc2 ys s.heap)(hx:xs[k]?=sr x)(hy:ys[k]?=sr y)(go:∀i,vI i z TI TO rawInt[s.heap.objs.size]->pA i TO x y->St1 (k+1) i->St2 (k+1) i->pA i s.heap.objs.size x y->(∀c o,c∉[z,TO,i1,i2]->s.heap.get? c=sr o->i.get? c=sr o)->Q .ref[s.heap.objs.size] { s with heap:=i }):
  wpAny (model prog w) A («zip.__next__» ([.ref z],[])) (λP s'=>∃v,P=.done (.ret v)/\Q v s') E s:=by
 let(d1,H,X,U,d5,d6,d7,T,S,p):=D.ne;let b1:=D.b1;let b2:=D.b2;simp only[aY,cR,or_false,not_or] at b1 b2;refine aA (m:=field .ref[z] 2) (dM j rfl (x:=.bool t7) rfl (aA (m:=field .ref[z] 3) (dM j rfl (x:=.ref TI) rfl aA[iB O rfl ?_])));refine aA (m:=ownedTupleIsFree .ref[z]) ?_;unfold ownedTupleIsFree;refine aA (dM j rfl (x:=.none) rfl aJ[?_]);simp only[if_true];refine aA (oZ (aA (dM j rfl (x:=.ref TO) rfl aA[jH j (by simp) λh1 J e1=>aA ?_])))
 let J:vI h1 z TI TO .ellipsis:=J;simp only[zM,aAd,uO,aBc];refine aA (aA (sO (aA (m:=nextOf .ref[i1]) ?_)));let d:∀c o,c≠z->s.heap.get? c=sr o->h1.get? c=sr o:=λc o f q=>e1.extBut _ _ f q;refine B.item _ k _ xs x _ _ (B.keep _ _ _ s1 λo q=>d _ o X.symm q) (B.src _ _ _ c1 λo q=>d _ o b1.1 q) hx λh2 t2 G=>aJ ?_;let o2:pA h2 TO a b:=G.extBut _ _ T (d _ _ H.symm N);refine aA[iB o2 rfl aA[pL o2 λh3 L F=>aA zX[aJ[?_]]]];let L:pA h3 TO x b:=L;refine aA (aA (sO (aA (m:=nextOf .ref[i2]) ?_)));let e:∀c o,c≠z->c≠TO->c≠i1->s.heap.get? c=sr o->h3.get? c=sr o:=λc o q1 q2 q3 q=>F.extBut _ _ q2 (G.extBut _ _ q3 (d c o q1 q));refine u.item _ k _ ys y _ _ (u.keep _ _ _ s2 λo q=>e _ o U.symm S.symm p.symm q) (u.src _ _ _ c2 λo q=>e _ o b2.1 b2.2.2.1 b2.2.2.2.1 q) hy λh4 t4 n=>aJ ?_;let Z:pA h4 TO x b:=n.extBut _ _ S L;refine aA[iB Z rfl aA[pL Z λg t l=>aA zX[aJ[aJ[?_]]]]];let t:pA g TO x y:=t;refine aA[iB t rfl aA[aBd[?_]]];let sz:g.objs.size=s.heap.objs.size:=by rw[l.1,n.1,F.1,G.1,e1.1]
 let Y:vI g z TI TO .ellipsis:=l.extBut _ _ H (n.extBut _ _ U (F.extBut _ _ H (G.extBut _ _ X J)));let h:∀c o,c∉[z,TO,i1,i2]->s.heap.get? c=sr o->g.get? c=sr o:=λc o f q=>by
  simp only[aY,cR,or_false,not_or] at f;exact l.extBut _ _ f.2.1 (n.extBut _ _ f.2.2.2 (e c o f.1 f.2.1 f.2.2.1 q))
 let zl:z < g.objs.size:=bA Y;refine aA (m:=ownedTupleHandOut .ref[z] .ref[g.objs.size]) ?_;unfold ownedTupleHandOut;let z6:vI (g.push { cls:=.type "tuple",data:=.seq #[x,y] }) z TI TO .ellipsis:=aG _ Y;refine aA[jH z6 (by simp) λh7 I e7=>?_]
 let I:vI h7 z TI TO rawInt[g.objs.size]:=I;refine jH I (by simp) λC r e8=>aJ (_,rfl,?_)
 let r:vI C z TI TO rawInt[g.objs.size]:=r;let up:∀c o,c≠z->g.get? c=sr o->C.get? c=sr o:=λc o f q=>e8.extBut _ _ f (e7.extBut _ _ f (aG _ q));let new:pA C g.objs.size x y:=e8.extBut _ _ nW[zl] (e7.extBut _ _ nW[zl] (aW _ rfl));show Q .ref[g.objs.size] _;rw[sz] at r new ⊢
 refine go C r (up _ _ H.symm t) (B.keep _ _ _ t2 λo q=>up _ o X.symm (l.extBut _ _ T.symm (n.extBut _ _ p (F.extBut _ _ T.symm q)))) (u.keep _ _ _ t4 λo q=>up _ o U.symm (l.extBut _ _ S.symm q)) new λc o f q=>?_;exact up c o (λw=>f[by simp[w]]) (h c o f q)
open PySem.Builtin PySem.Builtin.SmallTypes in
def Ayh(t:Nx prog w i1 l1 St1 Sc1)(v:Nx prog w i2 l2 St2 Sc2)(D:ZA z TI TO i1 i2 l1 l2)(X:A.handled=sy)(n:vI s.heap z TI TO .none)(F:pA s.heap TI .ref[i1] .ref[i2])(C:pA s.heap TO a b)(s1:St1 k s.heap)(s2:St2 k s.heap)(c1:Sc1 xs s.heap)(c2:Sc2 ys s.heap)(he:xs[k]?=sy\/ys[k]?=sy)(go:∀I e,(∀c o,c∉[z,TO,i1,i2]->s.heap.get? c=sr o->I.get? c=sr o)->(∃o,I.get? e=sr o/\o.cls=.type "StopIteration")->E .ref[e] { s with heap:=I }):
  wpAny (model prog w) A («zip.__next__» ([.ref z],[])) Q E s:=by
 let(d1,d2,L,d4,d5,d6,d7,d8,d9,N):=D.ne;let b1:=D.b1;let b2:=D.b2;simp only[aY,cR,or_false,not_or] at b1 b2;refine aA (m:=field .ref[z] 2) (dM n rfl (x:=.bool t7) rfl (aA (m:=field .ref[z] 3) (dM n rfl (x:=.ref TI) rfl aA[iB F rfl ?_])));refine aA (m:=ownedTupleIsFree .ref[z]) ?_;unfold ownedTupleIsFree;refine aA (dM n rfl (x:=.none) rfl aJ[?_]);simp only[if_true];refine aA (oZ (aA (dM n rfl (x:=.ref TO) rfl aA[jH n (by simp) λY r e1=>aA ?_])))
 let r:vI Y z TI TO .ellipsis:=r;simp only[zM,aAd,uO,aBc];refine aA (aA (sO (aA (m:=nextOf .ref[i1]) ?_)));let d:∀c o,c≠z->s.heap.get? c=sr o->Y.get? c=sr o:=λc o g q=>e1.extBut _ _ g q;let S:=t.keep _ _ _ s1 λo q=>d _ o L.symm q;let T:=t.src _ _ _ c1 λo q=>d _ o b1.1 q;cases B:xs[k]? with
 |none=>
  refine t.done _ k _ xs _ _ X S T B λH e l j=>?_;let(u,h,i):=j;let P:vI H z TI TO .ellipsis:=l _ _ L r;let J:e≠z:=λw=>by subst w;rw[P] at h;cases h;simp at i
  refine jH P (by simp) λG uu p=>go G e (λc o g q=>?_) (u,p.extBut _ _ J h,i)
  simp only[aY,cR,or_false,not_or] at g;exact p.extBut _ _ g.1 (l _ _ g.2.2.1 (d c o g.1 q))
 |some x=>
  let hy:ys[k]?=sy:=by
   rcases he with q|q
   .rw[B] at q;cases q
   .exact q
  refine t.item _ k _ xs x _ _ S T B λH t2 l=>aJ ?_;let U:pA H TO a b:=l.extBut _ _ d8 (d _ _ d2.symm C);refine aA[iB U rfl aA[pL U λG o3 p=>aA zX[aJ[?_]]]];refine aA (aA (sO (aA (m:=nextOf .ref[i2]) ?_)));let f:∀c o,c≠z->c≠TO->c≠i1->s.heap.get? c=sr o->G.get? c=sr o:=λc o h i q3 q=>p.extBut _ _ i (l.extBut _ _ q3 (d c o h q));refine v.done _ k _ ys _ _ X (v.keep _ _ _ s2 λo q=>f _ o d4.symm d9.symm N.symm q) (v.src _ _ _ c2 λo q=>f _ o b2.1 b2.2.2.1 b2.2.2.2.1 q) hy λh4 e e4 j=>?_;let(u,h,i):=j;let O:vI h4 z TI TO .ellipsis:=e4 _ _ d4 (p.extBut _ _ d2 (l.extBut _ _ L r));let J:e≠z:=λw=>by subst w;rw[O] at h;cases h;simp at i
  refine jH O (by simp) λh5 uu Z=>go h5 e (λc o g q=>?_) (u,Z.extBut _ _ J h,i)
  simp only[aY,cR,or_false,not_or] at g;exact Z.extBut _ _ g.1 (e4 _ _ g.2.2.2 (f c o g.1 g.2.1 g.2.2.1 q))
end
end
def Sq2(K:aF)(T:Bool)(H:Hp)(a:aM)(xs:lg V):Prop:=match T with
 |true=>SqT K H a xs
 |false=>SqL K H a xs
def St2(T:Bool)(i l:aM)(k:Nat)(h:eE):Prop:=match T with
 |true=>h.IsTupleIter i l k
 |false=>h.IsListIter i l k
def Sc2(T:Bool)(l:aM)(xs:Array aH)(h:eE):Prop:=match T with
 |true=>h.IsTuple l xs
 |false=>h.IsList l xs
def nx2(T:Bool)(i l:aM):Nx P w i l (St2 T i l) (Sc2 T l):=by
 cases T
 .exact Bde i l
 .exact Ayf i l
section
def Inv.sq2(I:Inv X f e H s)(h:Sq2 X.K T H a d):∃b:lg aH,Vals d b/\Sc2 T a b.toArray s.heap:=by
 cases T
 .let(b,r,p,_):=I.list h;exact(b,r,p.isList)
 .let(b,r,p,_):=I.tuple h;exact(b,r,p)
def Inv.sq2_inj(I:Inv X f e H s)(h:Sq2 X.K T H a d)(b:Sq2 X.K T H a c):d=c:=by
 cases T
 .exact I.list_inj h b
 .exact I.tuple_inj h b
end
def Itz(K:aF)(T:Bool)(a b:aM):It:=(λi H=>∃xs ys x y,Sq2 K T H a xs/\Sq2 K T H b ys/\xs[i]?=sr x/\ys[i]?=sr y,
 λi H v H'=>∃p x y,(∀xs,Sq2 K T H a xs->xs[i]?=sr x)/\(∀ys,Sq2 K T H b ys->ys[i]?=sr y)/\H p=sy/\v=.ref p/\H'=upd H p .tup[[x,y]],
 λi H=>∃xs ys,Sq2 K T H a xs/\Sq2 K T H b ys/\(xs.length<=i\/ys.length<=i))
def zSt(T:Bool)(z TI TO i1 i2 a b:aM)(i:Nat)(h:eE):Prop:=vI h z TI TO .none/\pA h TI .ref[i1] .ref[i2]/\(∃u v,pA h TO u v)/\St2 T i1 a i h/\St2 T i2 b i h
theorem Ayi{P:cJ}{w:dZ}{K:aF}{Z:lg cL}{kt:Nat}{O:Pos}(T:Bool)(z TI TO t p a b:aM)(D:ZA z TI TO t p a b):
  Turn P w K (.Tuple Z kt O) (Itz K T a b) [z,TI,TO,t,p] z (zSt T z TI TO t p a b) where
 mem:=by simp
 obj:=λi h st c f=>by
  let(F,j,(u,v,l),L,J):=st;simp only[aY,cR,or_false] at f;rcases f with rfl|rfl|rfl|rfl|rfl
  .exact(_,F,λv q=>by let q:zV _=vW v:=q;cases q)
  .exact(_,j,λv q=>by let q:aDu _ _=vW v:=q;cases q)
  .exact(_,l,λv q=>by let q:aDu _ _=vW v:=q;cases q)
  .exact(nx2 (P:=P) (w:=w) T _ a).live _ _ L
  .exact(nx2 (P:=P) (w:=w) T _ b).live _ _ J
 keep:=λi h h' st k=>by
  let(F,j,(u,v,l),L,J):=st;exact(k z (by simp) _ F,k TI (by simp) _ j,(u,v,k TO (by simp) _ l),(nx2 (P:=P) (w:=w) T t a).keep _ _ _ L k[t][by simp],(nx2 (P:=P) (w:=w) T p b).keep _ _ _ J k[p][by simp])
 item:=by
  intro X hP hw hK f i aa s σ H E I hf st hg;subst hP hw hK;let(F,j,(u,v,l),L,J):=st;let(xs,ys,x,y,qx,qy,ex,ey):=hg;let(U,rx,cx):=I.sq2 qx;let(S,ry,cy):=I.sq2 qy;let(ux,hux,rux):=rx.get ex;let(uy,huy,ruy):=ry.get ey;let Y:s.TypeIs .ref[z] "zip":=(_,F,rfl);let lt:∀{c:aM} {o:tu},s.heap.get? c=sr o->c≠s.heap.objs.size:=λe=>cB bA[e];unfold pyNext;refine aA (nA (dC (name:=mR "__next__") Y pR (dH pR Y zN
   (Ayg (nx2 T t a) (nx2 T p b) D F j l L J cx cy (x:=ux) (y:=uy) (by simpa using hux) (by simpa using huy) λh' a1 a2 a3 a4 a5 hk=>aJ (_,rfl,?_)) yF[_])))
  refine wpAny_letOwnedTupleGo_zip (s:={ s with heap:=h' }) a1 λh2 z2 N=>?_
  let(d1,d2,d3,d4,d5,d6,d7,d8,d9,d10):=D.ne;let C:∀c o,c∉[z,TI,TO,t,p]->s.heap.get? c=sr o->h2.get? c=sr o:=λc o f q=>by
   simp only[aY,cR,or_false,not_or] at f;exact N.extBut _ _ f.1 (hk c o (by simp[f]) q)
  let B:H s.heap.objs.size=sy:=I.hok.fresh aO[_];let Q:∀c u,H c=sr u->c∉[z,TI,TO,t,p]:=λc u q f=>by rw[(hf c f).1] at q;cases q
  let nz:s.heap.objs.size≠z:=(lt F).symm;let hp2:aAo h2 s.heap.objs.size #[ux,uy]:=(_,N.extBut _ _ nz a5,rfl,_,rfl);refine(.ref s.heap.objs.size,upd H s.heap.objs.size .tup[[x,y]],?_,rfl,(_,x,y,λxs' q=>by rw[I.sq2_inj q qx];exact ex,λys' q=>by rw[I.sq2_inj q qy];exact ey,B,rfl,rfl),
   (z2,N.extBut _ _ d1.symm (hk _ _ (by simp[d1.symm,d5,d6,d7]) j),(_,_,N.extBut _ _ d2.symm a2),(nx2 (P:=X.prog) (w:=X.w) T t a).keep _ _ _ a3 (λo q=>N.extBut _ _ d3.symm q),(nx2 (P:=X.prog) (w:=X.w) T p b).keep _ _ _ a4 (λo q=>N.extBut _ _ d4.symm q)),λc f=>?_)
  .show Inv X aa σ (upd H s.heap.objs.size .tup[[x,y]]) { s with heap:=h2,gens:=s.gens,drawn:=s.drawn,toks:=s.toks }
   refine I.step (s:=s) (g':=s.gens) (d':=s.drawn) (ch:=[z,TI,TO,t,p]) (λc f=>?_) (λc o g g f q g=>C c o f q) (λc o g g f q g=>(o.slots,C c o f q)) (λc o g q n=>by rw[Ax lt[q]];exact n)
    (λc o f q=>(o,C c o f q)) (λc xs q=>by rw[Ax[Ca q B]];exact q) (λc o u q=>by rw[Ax[Ca q B]];exact q) (λc ps q=>(#[],by rw[Ax[Ca q B],q];simp)) (λm hm=>?_) (λc u q=>?_) I.bare
   .let(f0,f1,f2,f3,f4,f5):=hf c f;exact(f3,f1,f4,f5)
   .let(o,es,ep,G,r):=hm;exact(o,es,ep,C _ o (λf=>(hf _ f).2.1 rfl) G,r)
   .by_cases hb:c=s.heap.objs.size
    .subst hb;rw[Bd] at q;cases q;exact((show 2<=sizeLine by decide),_,.cons rux (.cons ruy .nil),hp2)
    .rw[Ax hb] at q;refine(I.hok c u q).stay (λd v hd z=>C d v ?_ z) (λd z=>by rw[Ax[Ca z B]];exact z) λd xs z=>by rw[Ax[Ca z B]];exact z
     rcases hd with rfl|hd
     .exact Q d u q
     .exact Q d _ hd
  .obtain⟨o,G,_⟩:∃o,s.heap.get? c=sr o/\True:=by
    simp only[aY,cR,or_false] at f;rcases f with rfl|rfl|rfl|rfl|rfl
    .exact(_,F,trivial)
    .exact(_,j,trivial)
    .exact(_,l,trivial)
    .let(o,G,_):=(nx2 (P:=X.prog) (w:=X.w) T _ a).live _ _ L;exact(o,G,trivial)
    .let(o,G,_):=(nx2 (P:=X.prog) (w:=X.w) T _ b).live _ _ J;exact(o,G,trivial)
   rw[Ax lt[G]];exact(hf c f).1
 done:=by
  intro X hP hw hK f i aa s σ H E I hf st hg;subst hP hw hK;let(F,j,(u,v,l),L,J):=st;let(xs,ys,qx,qy,he):=hg;let(U,rx,cx):=I.sq2 qx;let(S,ry,cy):=I.sq2 qy;let Y:s.TypeIs .ref[z] "zip":=(_,F,rfl);let he':U.toArray[i]?=sy\/S.toArray[i]?=sy:=by
   rcases he with q|q
   .exact .inl (by rw[qQ,cG,<-rx.length];exact q)
   .exact .inr (by rw[qQ,cG,<-ry.length];exact q)
  let Q:∀c u,H c=sr u->c∉[z,TI,TO,t,p]:=λc u q f=>by rw[(hf c f).1] at q;cases q
  unfold pyNext;refine aA (nA (dC (name:=mR "__next__") Y pR (dH pR Y zN
   (Ayh (nx2 T t a) (nx2 T p b) D (show X.A.in1.handled=sy from I.ok.hd f) F j l L J cx cy he' λh' e hk q=>?_) yF[_])))
  let(o,G,hcl):=q;refine aA (mU (T:="StopIteration") (b:=true) (o,G,hcl) vJ (aJ (rfl,?_)));let C:∀c o,c∉[z,TI,TO,t,p]->s.heap.get? c=sr o->h'.get? c=sr o:=λc o f q=>hk c o (λm=>f (by simp only[aY,cR,or_false] at m ⊢;rcases m with m|m|m|m <;> simp[m])) q
  refine I.step (s:=s) (g':=s.gens) (d':=s.drawn) (t':=s.toks) (h':=h') (ch:=[z,TI,TO,t,p]) (λc f=>?_) (λc o g g f q g=>C c o f q) (λc o g g f q g=>(o.slots,C c o f q)) (λc o g q n=>n)
   (λc o f q=>(o,C c o f q)) (λc xs q=>q) (λc o u q=>q) (λc ps q=>(#[],by rw[q];simp)) (λm hm=>?_) (λc u q=>?_) I.bare
  .let(f0,f1,f2,f3,f4,f5):=hf c f;exact(f3,f1,f4,f5)
  .let(o,es,ep,G,r):=hm;exact(o,es,ep,C _ o (λf=>(hf _ f).2.1 rfl) G,r)
  .refine(I.hok c u q).stay (λd v hd z=>C d v ?_ z) (λg z=>z) λg g z=>z;rcases hd with rfl|hd
   .exact Q d u q
   .exact Q d _ hd
 self:=λg g g g g st h=>zO st.1 h
abbrev itT(a:aM):tu:={ cls:=.type "tuple_iterator",data:=.fields #[.ref a,.int 0 0] }
abbrev As6(u v:aH):tu:={ cls:=.type "tuple",data:=.seq #[u,v] }
abbrev Bmf(TI TO:aM):tu:={ cls:=.type "zip",data:=.fields #[.none,.bool t7,.bool t7,.ref TI,.ref TO] }
def zT2(h:eE)(a b:aM):eE:=(h.push itT[a]).push itT[b]
def zT3(h:eE)(a b:aM):eE:=(zT2 h a b).push (As6 .ref[h.objs.size] .ref[(h.push itT[a]).objs.size])
def zT4(h:eE)(a b:aM):eE:=(zT3 h a b).push (As6 .none .none)
def zT5(h:eE)(a b:aM):eE:=(zT4 h a b).push (Bmf (zT2 h a b).objs.size (zT3 h a b).objs.size)
def Aqz(a b:aM)(d c:Array aH):
  aFc (jV.«zip.__new__» ([.type "zip",.ref a,.ref b],[])) (λg R s=>s.heap.IsTuple a d/\s.heap.IsTuple b c/\R .ok[.ret[.ref[(zT4 s.heap a b).objs.size]]] { s with heap:=zT5 s.heap a b }):=(
 .of_wp λprog w A R s h=>by
  let(f,e,h):=h;let i:=sub_zip
  wp_walk using qM f,qM[aFd e _]
  exact(_,rfl,h))
section
def Avl(u:Sc2 T a B s.heap)(t:Sc2 T b z s.heap)(go:∀e,zSt T (s.heap.objs.size+4) (s.heap.objs.size+2) (s.heap.objs.size+3) s.heap.objs.size (s.heap.objs.size+1) a b 0 e->(∀c o,s.heap.get? c=sr o->e.get? c=sr o)->Q .ref[s.heap.objs.size+4] { s with heap:=e }):
  wpAny (model prog w) A (call .type["zip"] [.ref a,.ref b]) Q E s:=by
 cases T
 .exact call_zip_2 u t λe j i h g f D k=>go e (j,i,(_,_,h),g,f) k
 .refine callType_new F.called_zip () (F.typeCall_zip_2 _ _) (F.newCall_zip_2 _ _) (λobj=>F.args_object_init_3 obj _ _) F.entry_zip_new (Aqz a b B z) (u,t,?_)
  let n:(s.heap.push itT[a]).objs.size=s.heap.objs.size+1:=fY ..
  let m:(zT2 s.heap a b).objs.size=s.heap.objs.size+2:=by unfold zT2;rw[fY,n]
  let l:(zT3 s.heap a b).objs.size=s.heap.objs.size+3:=by unfold zT3;rw[fY,m]
  let r:(zT4 s.heap a b).objs.size=s.heap.objs.size+4:=by unfold zT4;rw[fY,l]
  let d:∀c o,(zT2 s.heap a b).get? c=sr o->(zT5 s.heap a b).get? c=sr o:=λc o q=>by unfold zT5 zT4 zT3;exact aG _ aG[_][aG _ q]
  let p:(zT5 s.heap a b).get? (zT4 s.heap a b).objs.size=sr[Bmf (zT2 s.heap a b).objs.size (zT3 s.heap a b).objs.size]:=by unfold zT5;exact aW _ rfl
  let v:(zT5 s.heap a b).get? (zT3 s.heap a b).objs.size=sr[As6 .none .none]:=by unfold zT5 zT4;exact aG _ (aW _ rfl)
  let x:(zT5 s.heap a b).get? (zT2 s.heap a b).objs.size=sr[As6 .ref[s.heap.objs.size] .ref[(s.heap.push itT[a]).objs.size]]:=by unfold zT5 zT4 zT3;exact aG _ aG[_][aW _ rfl]
  let y:(zT5 s.heap a b).get? (s.heap.push itT[a]).objs.size=sr itT[b]:=d _ _ (by unfold zT2;exact aW _ rfl)
  let C:(zT5 s.heap a b).get? s.heap.objs.size=sr itT[a]:=d _ _ (by unfold zT2;exact aG _ (aW _ rfl))
  show _/\_;rw[m,l,r] at p;rw[l] at v;rw[n,m] at x;rw[n] at y;rw[r];exact((_,p,rfl),(λe j i h g f k=>go e (j,i,(_,_,h),g,f) k) _ p x v (_,C,rfl,rfl) (_,y,rfl,rfl) λc o q=>d _ _ (by unfold zT2;exact aG _ (aG _ q)))
end
def boot_zip:bootBuiltins "zip"=sr .type["zip"]:=by decide +kernel
def Bo7(K:aF)(ta:TA):TI:=λσ H R=>ta σ H λvs H1=>∃T a b xs ys,vs=[.ref a,.ref b]/\Sq2 K T H1 a xs/\Sq2 K T H1 b ys/\R (Itz K T a b) H1
def Bil{O:Nat}(Y:Gl X "zip")(U:X.mg "zip"=sy)(Z:PA X (e::l) C)(S:starEach (e::l) X.env=(u6 t7 (eval e X.env))::starEach l X.env)(r:(backTo f (starEach l X.env)).any (·.1)=t7):
  PI[X][.Tuple y O w][.Call (.Name "zip" p) (e::l) [] f][Bo7 X.K C]:=by
 intro aa s B H R I h;refine Call_[Abr I Y U boot_zip mC[thn[Z f aa s B H _ I h] λn d ⟨vs,H1,I1,r1,q1⟩=>?_][S][r]];let(T,a,b,xs,ys,rfl,J,G,q):=q1;let(u,v,rfl,E,D):=r1.two;obtain rfl:u=bQ a:=E;obtain rfl:v=bQ b:=D;let(Q,rx,A):=I1.sq2 J;let(P,ry,z):=I1.sq2 G;let there:∀{c:aM} {n:Array aH},Sc2 T c n d.heap->c < d.heap.objs.size:=λ{c n} q=>by
  cases T
  .let(o,t,_):=q;exact bA t
  .let(o,t,_):=q;exact bA t
 let N:=there z;let j:∀c∈[d.heap.objs.size+4,d.heap.objs.size+2,d.heap.objs.size+3,d.heap.objs.size,d.heap.objs.size+1],d.heap.objs.size<=c:=λc g=>by
  simp only[aY,cR,or_false] at g;rcases g with rfl|rfl|rfl|rfl|rfl
  .exact pB _ _
  .exact pB _ _
  .exact pB _ _
  .exact aO _
  .exact pB _ _
 refine Avl A z λh' st k=>zO st.1 ?_;refine(_,_,_,_,H1,rfl,I1.kept (t':=d.toks) k,Ayi T _ _ _ _ _ a b (by simp,λm=>absurd bH[there A][j a m] fM[_],λm=>absurd bH[N][j b m] fM[_]),st,λc g=>I1.fpOk (j c g) I1.hok.fresh[j c g],q)
def leS(a b:t6):Bool:=!decide (b.cps.toList < a.cps.toList)
def Mt(ss:lg t6):lg t6:=ss.mergeSort leS
def Akm(ns:lg Int):lg Int:=ns.mergeSort[λa b=>decide[a<=b]]
theorem Qk{f:Type}{r:f->f->Prop}(i:∀a b,r a b->r b a->a=b):∀{d c:lg f},d.Perm c->d.Pairwise r->c.Pairwise r->d=c
 |[],c,p,_,_=>p.nil_eq
 |_,[],p,_,_=>by simp_all
 |a::d,b::c,p,h,g=>by
  rw[jJ] at h g;let e:a=b:=by
   rcases aY.mp p.mem_iff.mp[bJ] with q|q
   .omega
   .rcases aY.mp p.mem_iff.mpr[bJ] with z|z
    .exact z.symm
    .exact i a b (h.1 b z) (g.1 a q)
  subst e;rw[Qk i aEt[p] h.2 g.2]
def Wi(a b:t6):(leS a b||leS b a)=t8:=by
 unfold leS
 grind
def Abw(a b c:t6)(f:leS a b=t8)(e:leS b c=t8):leS a c=t8:=by
 unfold leS at *
 rw[dF,decide_eq_false_iff_not] at *
 exact rT.mpr[List.le_trans rT.mp[f] rT.mp[e]]
def Aak(a b:t6)(f:leS a b=t8)(d:leS b a=t8):a=b:=by
 unfold leS at *
 rw[dF,decide_eq_false_iff_not] at *
 let e:=List.le_antisymm rT.mp[f] rT.mp[d];obtain⟨⟨x⟩⟩:=a;simp_all
def Ft(ss:lg t6):(Mt ss).Perm ss:=wD ss leS
def Lg(ss:lg t6):(Mt ss).Pairwise (λa b=>leS a b=t8):=tK Abw Wi ss
def Abx(ns:lg Int):(Akm ns).Perm ns:=wD ns _
theorem Afs:∀(p:t6)(l:lg t6),risingS p l=t8->(p::l).Pairwise (λa b=>leS a b=t8)
 |p,[],_=>by simp
 |p,x::r,h=>by
  let h:(!_&&_)=t8:=h;rw[aB,ltCps_eq] at h;let d:=Afs x r h.2;rw[jJ];refine(λy hy=>?_,d);rcases aY.mp hy with rfl|hy
  .exact h.1
  .exact Abw p x y h.1 ((jJ.mp d).1 y hy)
def Akn(p:a.Perm b)(h:sortedS a=t8):a=Mt b:=by
 refine Qk Aak p.trans[(Ft b).symm] ?_ Lg[b];cases a with
 |nil=>simp
 |cons x r=>exact Afs x r h
def As7{ns d:lg Int}(p:d.Perm ns)(h:d.Pairwise (·<=·)):d=Akm ns:=(Qk (λa b g f=>Int.le_antisymm g f) p.trans[(Abx ns).symm] h (by
  let h:=tK (le:=λa b:Int=>decide[a<=b]) (λa b c g f=>by simp only[dh] at *;omega) (λa b=>by simp only[eV,dh];omega) ns
  exact h.imp λh=>by simpa using h))
section
variable{tk:Nat}
def Inv.newO(I:Inv X p j H s)(f:∀b ob,s.heap.get? b=sr ob->i.get? b=sr ob)(t:s.heap.get? e=sy)(g:Eh X.prog X.w (upd H e o) i e o):Inv X p j (upd H e o) { s with heap:=i,toks:=tk }:=by
 let ne:∀{b:aM} {o:tu},s.heap.get? b=sr o->b≠e:=λq z=>by simp_all
 let d:∀{b:aM} {u:HO},H b=sr u->b≠e:=λq=>by
  let(o,g):=(I.hok _ _ q).there;exact ne g
 refine I.step (ch:=[]) (λc z=>nomatch z) (λb o c c c q c=>f b o q) (λb o c c c q c=>(o.slots,f b o q)) (λb o c q n=>by rw[Ax ne[q]];exact n)
  (λb o c q=>(o,f b o q)) (λb k q=>by rw[Ax d[q]];exact q) (λb o u q=>by rw[Ax d[q]];exact q) (λb ps q=>(#[],by rw[Ax d[q],nP];exact q)) (λm l=>l.keeps f) (λa u q=>?_) I.bare
 by_cases h:a=e
 .subst h;rw[Bd] at q;cases q;exact g
 .rw[Ax h] at q;exact(I.hok a u q).stay (λb v c z=>f b v z) (λb z=>by rw[Ax d[z]];exact z) λb k z=>by rw[Ax d[z]];exact z
theorem Wj:∀{b:lg aH} {c:lg t6},nJ b c->Vals c.map[V.str] b
 |_,_,.nil=>.nil
 |_,_,.cons x t h=>.cons (t,rfl) Wj[h]
theorem Xn:∀{b:lg aH} {ns:lg Int},qD b ns->Vals ns.map[V.int] b
 |_,_,.nil=>.nil
 |_,_,.cons n t h=>.cons (t,rfl) Xn[h]
end
section
def Ako:Le X .builtin["sorted"] (λg H Q=>∃p,∃a:lg t6,g=[.ref p]/\H p=sr .lst[a.map[V.str]]/\a.length < 64/\∀q,H q=sy->Q[.ref q][upd H q .lst[(Mt a).map V.str]]):=by
 intro E s B H g C Q I r h;let(p,a,rfl,hp,v,q):=h;let(u,rfl,m):=vals1 r;cases m;let(_,c,n,i,e):=(I.hok p _ hp);let t:=Ael i;let D:c.length=a.length:=by rw[<-i.length,aC]
 refine sorted_strs (l:=p) (_,e,rfl,_,rfl) t () λout k y x w=>?_
 obtain rfl:=Akn x w;let(z,f):=aCv s.heap c out;let d:s.heap.get?[s.heap.objs.size+1]=sy:=gW gZ[_];refine(.ref[s.heap.objs.size+1],_,I.newO (o:=.lst[(Mt a).map V.str]) (tk:=s.toks) (λb o q=>aCc q) d (?_,out.toList,z,Wj y,f),rfl,q _ I.hok.fresh[gZ[_]]);rw[aC,(Ft a).length_eq];simp_all
def Aq0{d:lg t6}{a:lg[Key×aH]}(f:a.map (·.1)=d.map pG){b:lg aH}(i:b.length=a.length)(h:∀(j:Nat)(v:aH),b[j]?=sr v->∃k x,a[j]?=sr[u6 k x]/\Aaf k v=t8):nJ b d:=by
 induction d generalizing a b with
 |nil=>
  cases a with
  |nil=>cases b with
   |nil=>exact .nil
   |cons u b=>trivial
  |cons p a=>simp at f
 |cons s d l=>
  cases a with
  |nil=>simp at f
  |cons p a=>
   cases b with
   |nil=>simp at i
   |cons u b=>
    let(n,m):=jD f;let(k,x,e,q):=h 0 u rfl;let e:=by simpa using e
    subst e;subst n;rcases Er q with ⟨_,_,g,_⟩|⟨y,tk,g,rfl⟩
    .cases g
    cases g;exact .cons _ _ (l m (by simpa using i) λj v z=>by simpa using h[j+1][v][by simpa using z])
def Aq1{ns:lg Int}{a:lg[Key×aH]}(f:a.map (·.1)=ns.map rH){b:lg aH}(d:b.length=a.length)(h:∀(j:Nat)(v:aH),b[j]?=sr v->∃k x,a[j]?=sr[u6 k x]/\Aaf k v=t8):qD b ns:=by
 induction ns generalizing a b with
 |nil=>
  cases a with
  |nil=>cases b with
   |nil=>exact .nil
   |cons u b=>simp at d
  |cons p a=>simp at f
 |cons s r i=>
  cases a with
  |nil=>simp at f
  |cons p a=>
   cases b with
   |nil=>simp at d
   |cons u b=>
    let(m,l):=jD f;let(k,x,e,q):=h 0 u rfl;let e:=by simpa using e
    subst e;subst m;rcases Er q with ⟨y,tk,g,rfl⟩|⟨_,_,g,_⟩
    case inr=>cases g
    cases g;exact .cons _ _ (i l (by simpa using d) λj v z=>by simpa using h[j+1][v][by simpa using z])
def Bdf:∀{a:lg[Key×V]} {c:lg[Key×aH]},KV a c->c.map (·.1)=a.map (·.1):=(λ{a c} r=>by
 induction r with
 |nil=>rfl
 |cons h _ d=>simp_all)
def Akp(hc:X.calm=t8):Le X .builtin["sorted"] (λT H Q=>∃p kvs,T=[.ref p]/\H p=sr .dK[kvs]/\kvs.length < 64/\
  ((∃g:lg t6,kvs.map (·.1)=g.map pG/\∀q,H q=sy->Q[.ref q][upd H q .lst[(Mt g).map V.str]])\/(∃ns:lg Int,kvs.map (·.1)=ns.map rH/\∀q,H q=sy->Q[.ref q][upd H q .lst[(Akm ns).map V.int]]))):=by
 intro aa s σ H T us Q I r h;let(p,kvs,rfl,hp,D,q):=h;let(u,rfl,ru):=vals1 r;cases ru;let(_,lo,F,rk,hd):=(show Eh X.prog X.w H s.heap p .dK[kvs] from I.hok p _ hp);let(ep,N):=hd.dictAt;let O:=Bdf rk;let U:F.length=kvs.length:=by simpa using congrArg nU O
 refine rD kind_sorted aCw aCx aCy[_] ?_;unfold jV.«sorted»
 refine aA (m:=checkCount "sorted" 1 1 _) (aJ (aA (PySem.W.kdu_collect (A:=X.A.in1) (PySem.W.kdl_dict (knd:=Ia X.prog X.w) (kvs:=F) (ep:=ep) lo) (show X.A.in1.handled=sy from I.ok.hd hc) N (by rw[U];exact aD fH[D] ()) λf tk a Z i=>?_)))
 let L:a.toList.length=F.length:=by rw[aV];exact i.1
 refine aA[aCd ?_ (by rw[L,U];exact aD fH[D] ())]
 let items:∀(j:Nat)(v:aH),a.toList[j]?=sr v->∃k x,F[j]?=sr[u6 k x]/\Aaf k v=t8:=λj v z=>i.2 j v (by rw[<-iK];exact z)
 generalize P:f.push[seqObj "list" a.toList.toArray 0]=h2;let n:h2.get? f.objs.size=sr[seqObj "list" a.toList.toArray 0]:=by rw[<-P];exact aW _ rfl
 let z2:h2.objs.size=f.objs.size+1:=by rw[<-P];exact size_push' ..
 let Y:∀b ob,s.heap.get? b=sr ob->h2.get? b=sr ob:=λb ob z=>by rw[<-P];exact aG _ (Z b ob z)
 let c:s.heap.get? f.objs.size=sy:=by
  cases z:s.heap.get? f.objs.size with
  |none=>rfl
  |some o=>exact absurd bA[Z _ _ z] fM[_]
 let bc:H f.objs.size=sy:=by
  cases z:H f.objs.size with
  |none=>rfl
  |some o=>
   let(ob,B):=(I.hok _ o z).there;rw[c] at B;cases B
 let t:∀(out:Array aH) b ob,s.heap.get? b=sr ob->(sortedHeap h2 f.objs.size a.toList out).get? b=sr ob:=λout b ob z=>by
  rw[aBe (λw=>by rw[w,c] at z;cases z) bA[Y b ob z]]
  exact Y b ob z
 rcases q with ⟨g,y,q⟩|⟨ns,y,q⟩
 .let C:nJ a.toList g:=Aq0 O.trans[y] L items;refine aA fB[dH vK (_,n,rfl) uP (aAe aCe n C.keysOf (λv1 v2 rest e=>aCz (by rw[<-e];exact C)) () λJ a1 a2=>(_,rfl,?_)) vL[_]]
  let(ss',b1,b2,S):=aBf C a1 a2;obtain rfl:=Akn b2 S;let(l,d):=wU (out:=(arrOf J).map (·.2)) n;refine aJ (_,rfl,.ref f.objs.size,_,I.newO (o:=.lst[(Mt g).map V.str]) (tk:=tk) t[_] c (?_,_,l,Wj b1,d),rfl,q _ ?_)
  .rw[aC,(Ft g).length_eq];have:g.length=kvs.length:=by simpa using (congrArg nU y).symm
   exact aD (by omega:g.length<=64) ()
  .exact bc
 .let C:qD a.toList ns:=Aq1 O.trans[y] L items;refine aA fB[dH vK (_,n,rfl) uP (list_sort_tree n C () λout ns' b1 b2 S=>(_,rfl,?_)) vL[_]]
  obtain rfl:=As7 b2 S;let(l,d):=wU (out:=out) n;refine aJ (_,rfl,.ref f.objs.size,_,I.newO (o:=.lst[(Akm ns).map V.int]) (tk:=tk) t[_] c (?_,_,l,Xn b1,d),rfl,q _ ?_)
  .rw[aC,(Abx ns).length_eq];have:ns.length=kvs.length:=by simpa using (congrArg nU y).symm
   exact aD (by omega:ns.length<=64) ()
  .exact bc
end
section
def Avm(t:vM)(n:Nat):(t.orStandIn n).led=t.led/\(t.plain=t7->(t.orStandIn n).plain=t7):=by
 unfold SetTable.orStandIn;split
 .exact(rfl,id)
 .exact(rfl,λb=>rfl)
def Avn(t:vM)(b:Array[Int×aH])(h:Int)(x:aH):(layNew t b h x).2.1.led=t.led/\(t.plain=t7->(layNew t b h x).2.1.plain=t7):=by
 unfold layNew;split
 .exact Avm _ _
 .exact(rfl,λc=>rfl)
set_option tactic.hygienic true in
def Avo(t:vM)(a:Array[Int×aH])(n:Nat)(e:t.plain=t7):(relayAll t a n).2.1.led=t.led/\(relayAll t a n).2.1.plain=t7:=by
 unfold relayAll;split
 .rename_i f order h;dsimp only;split
  .unfold SetTable.relaid SetTable.laid at h;simp only[Option.bind_eq_bind,tL,Option.pure_def,gQ,Prod.mk.injEq] at h;let(_,_,rfl,_):=h;trivial
  trivial
 trivial
def kvS(e:Int×aH):t6:=match e.2 with
 |.str x _=>x
 |_=>""
def Akq{c:lg[Int×aH]}(h:aDa (dW P w) c){e:Int×aH}(f:e∈c):(∃tk,e.2=.str kvS[e] tk)/\(dW P w).is kvS[e] e.2=t8:=by
 let((k,b,_),_):=h e f;let(tk,z):=vX b;have:kvS e=k:=by unfold kvS;rw[z]
 rw[this];exact((tk,z),b)
def SetT(P:cJ)(w:dZ)(h:eE)(a:aM)(ks:lg t6)(led:Bool):Prop:=∃o es ep t,h.get? a=sr o/\o.ExactSet/\o.data=.set es ep t/\aDa (dW P w) es.toList/\es.toList.map kvS=ks/\t.fits es.size=t8/\es.size < scanBound/\t.led=led/\(ks≠[]->t.plain=t7)
def Anl{c:lg[Int×aH]}(h:aDa (dW P w) c):(c.findIdx? λe=>(dW P w).is y e.2)=sy ↔ y∉c.map kvS:=by
 rw[List.findIdx?_eq_none_iff,bU];constructor
 .rintro q ⟨e,a,rfl⟩;have:=q e a;rw[(Akq h a).2] at this;trivial
 .intro q e a;cases z:(dW P w).is y e.2 with
  |false=>rfl
  |true=>exact absurd (e,a,(dW P w).inj _ _ _ (Akq h a).2 z) q
def Bmg{h:eE}{a:aM}{o:tu}{d es':Array[Int×aH]}{b:Nat}{t t':vM}(c:h.get? a=sr o)(hd:o.data=.set d b t):(h.update a (aBg es' t')).get? a=sr { o with data:=.set es' (b+1) t' }:=by
 have:=bZ (aBg es' t') c (by rw[putSet_of es' t' hd];rfl)
 rw[putSet_of es' t' hd] at this;omega
def Bgy{g:Bool->Sem Unit}(G:∀(b:Bool)(e:aN)(B:Unit->aN->Prop),B u9 e->wpAny (model P w) A g[b] B E e){a:aM}{o:tu}{H c:Array[Int×aH]}{I:Nat}{t t2:vM}{f C:Bool}{R:o9 Bool->aN->Prop}(v:s.heap.get? a=sr o)(i:o.ExactSet)(hd:o.data=.set H I t)(z:aDa (dW P w) c.toList)(p:c.size < scanBound)(hf:t2.fits c.size=t8)(x:t2.led=f)(hp:t2.plain=t7)(k:∀q h,gM a s.heap q->SetT P w q a h f->h.Perm c.toList.map[kvS]->R sr[t8] { s with heap:=q }):
  wpAny (model P w) A (do
   storeSet a c t2
   if (!C&&t2.tooFull)=t8 then do
    g (relayAll t2 c lD[c.size]).2.2
    storeSet a (relayAll t2 c lD[c.size]).1 (relayAll t2 c lD[c.size]).2.1
    pure sr[t8]
   else pure sr[t8]) R E s:=by
 refine aA[yG v hd ?_ rW[p]];let n:=Bmg (es':=c) (t':=t2) v hd;let u:=iD s.heap a (aBg c t2);split
 .let m:=relayAll_perm t2 c lD[c.size];let y:=relayAll_fits t2 c lD[c.size];let r:=Avo t2 c lD[c.size] hp;generalize relayAll t2 c lD[c.size]=L at m y r ⊢
  let(j,F,S):=L;let b2:j.size < scanBound:=by rw[<-aV,m.length_eq,aV];exact p
  exact aA[G _ _ _ aA[yG n rfl aJ[k _ _ u.trans[iD _ a _] (_,j,_,F,Bmg n rfl,i,rfl,z.perm m,rfl,y,b2,r.1.trans x,λD=>r.2) m.map[kvS]] rW[b2]]]
 .exact aJ[k _ _ u (_,c,_,t2,n,i,rfl,z,rfl,hf,p,x,λD=>hp) .rfl]
def Bo8{a:aM}{d:lg t6}{n:Bool}{y:t6}{tk:Tok}{Q:Bool->aN->Prop}(U:SetT P w s.heap a d n)(hr:d.length+1 < scanBound)(k:∀l b c,gM a s.heap l->SetT P w l a c n->c.Perm (if y∈d then d else d ++ [y])->Q b { s with heap:=l }):
  wpAny (model P w) A setAddHashed[a][.str y tk][(dW P w).hash y] Q E s:=by
 let(o,u,ep,t,C,x,hd,g,i,hf,hb,T,hp):=id U;let m:(dW P w).is y (.str y tk)=t8:=by simp[dW,sE]
 let v:u.size=d.length:=by rw[<-i,aC,aV]
 unfold setAddHashed setAddHashedIn;refine fB aA[jX C hd hf ?_];dsimp only;rw[byScan_of rfl hb g];simp only[↓reduceIte];unfold setAddByScan;refine aA aA[oZ[aA[wpAny_setScan_of m C hd hf g ?_]]];cases p:aCf (λe=>(dW P w).is y e.2) u.toList with
 |some j=>
  dsimp only;let H:y∈d:=by
   rw[<-i];exact aBs λz=>by rw[(Anl g).mpr z] at p;cases p
  refine aJ aJ[?_];have:=k s.heap t7 d (aFe a s.heap) U (by rw[di H])
  exact this
 |none=>
  dsimp only;let H:y∉d:=by rw[<-i];exact(Anl g).mp p
  let r:=layNew_perm t u ((dW P w).hash y) (.str y tk);let D:=layNew_fits t u ((dW P w).hash y) (.str y tk);let F:=Avn t u ((dW P w).hash y) (.str y tk);generalize layNew t u ((dW P w).hash y) (.str y tk)=L at r D F ⊢
  let(q,t1,wd,gv):=L;dsimp only at r D F ⊢
  rw[yH] at r;let X:=(g.push m rfl).perm r;let b1:q.size < scanBound:=by rw[<-aV,r.length_eq,aU,aV,v];exact hr
  let pk:(q.toList.map kvS).Perm (if y∈d then d else d ++ [y]):=by
   rw[dm H];let z:=r.map kvS;rw[dY,i] at z;exact z
  let I:∀(b:Bool)(f:aN)(N:Unit->aN->Prop),N u9 f->wpAny (model P w) A (match b with|true=>rule "set.scan.the-table-gave-way"|false=>pure u9) N E f:=λb f N S=>by cases b <;> first|exact aJ S|exact oZ S
  refine aA[I _ _ _ ?_];let B:∀l c,gM a s.heap l->SetT P w l a c n->c.Perm q.toList.map[kvS]->wpAny (model P w) A (match (sr t8:o9 Bool) with|some added=>pure added|none=>setAddHashedIn a (.str y tk) ((dW P w).hash y) 99999) Q E { s with heap:=l }:=λl c sb S' p'=>aJ[k l t8 c sb S' p'.trans[pk]]
  split
  .refine aA ?_;rw[hashByValue_scannable 8 rfl];refine aJ (Bgy (t2:={ t1 with plain:=false }) I C x hd X b1 SetTable.fits_plain_off[D] F.1.trans[T] rfl B)
  .rename_i G;refine aA aJ[?_];simp only[↓reduceIte];exact Bgy I C x hd X b1 D F.1.trans[T] (by simpa using G) B
def Ai1:entryFor table "set.update.loop"=sr jV.«set.update.loop»:=(zP[by rfl])
def Aby:plainId "set.update.loop"=t8:=by decide +kernel
def InS(ss:lg t6)(i:Nat)(ks:lg t6):Prop:=ks.Nodup/\(∀x,x∈ks ↔ x∈ss.take i)/\ks.length<=i
def InS.step{i:Nat}(h:InS c i d)(l:c[i]?=sr y)(p:e.Perm (if y∈d then d else d ++ [y])):InS c (i+1) e:=by
 let(j,g,q):=h;let tk:c.take[i+1]=c.take i ++ [y]:=by rw[List.take_succ,l];rfl
 by_cases f:y∈d
 .rw[di f] at p;refine(p.nodup_iff.mpr j,λx=>?_,by rw[p.length_eq];omega)
  rw[p.mem_iff,g,tk,cU,aR];simp_all
 .rw[dm f] at p;refine(p.nodup_iff.mpr ?_,λx=>?_,by rw[p.length_eq,aU,dU];omega)
  .rw[mG];exact(j,by simp,λa o b m=>by rw[aR.mp m];rintro rfl;trivial)
  .rw[p.mem_iff,tk,cU,cU,g]
def Bmh{n:Nat}{J:Nat->aH->Prop}{St:Nat->eE->Prop}(W:aFb P w A.in1 I fp wr n J St)(H:a∉fp)(hn:ss.length=n)(hz:n < 4000)(hP:∀i v,J i v->∃x tk,ss[i]?=sr x/\v=.str x tk):
  ∀(k i:Nat)(s:aN)(f:lg t6),n - i=k->i<=n->St i s.heap->SetT P w s.heap a f led->InS ss i f->
  (∀g tk c,(∀b o,b∉wr->b≠a->s.heap.get? b=sr o->g.get? b=sr o)->SetT P w g a c led->InS ss n c->R .ok[.ret[.none]] { s with heap:=g,toks:=tk })->
  codeAny (model P w) A (.builtin "set.update.loop" ([.ref a,.ref I],[])) R s:=by
 let aw:a∉wr:=λh=>H[W.sub _ h];let keep:∀{h g:eE} {f:lg t6},SetT P w h a f led->(∀b o,b∉wr->h.get? b=sr o->g.get? b=sr o)->SetT P w g a f led:=λ⟨o,es,ep,t,Y,r⟩ q=>(o,es,ep,t,q a o aw Y,r);intro k;induction k with
 |zero=>
  intro i s f Z hi st S d C;obtain rfl:i=n:=by omega
  refine iG Ai1 ?_;rw[jY Aby _];show wpAny _ A.in1 (pyNext .ref[I] >>= _) _ _ s;refine aA[W.done s _ _ st λg tk q=>?_];exact aJ (C g tk f (λb o n uu e=>q b o n e) (keep S q) d)
 |succ k Q=>
  intro i s f Z hi st S d C;let m:i < n:=by omega
  refine iG Ai1 ?_;rw[jY Aby _];show wpAny _ A.in1 (pyNext .ref[I] >>= _) _ _ s;refine aA[W.item i s _ _ m st λv h1 tk X y F=>?_];let(x,E,U,rfl):=hP i v X;show wpAny _ A.in1 (holding [.str x E] setAdd[a][.str x E] >>= _) _ _ _;unfold setAdd;refine aA (fB (fB (aA ((dW P w).pyHash (k:=x) (by simp[dW,sE]) ?_))))
  refine Bo8[keep S F][xJ (cZ d.2.2 1) (by show i+1 < 4096;omega)] λh2 b c L S2 O=>?_
  let l:∀b o,b≠a->h1.get? b=sr o->h2.get? b=sr o:=λb o n e=>(L.2 b n).trans e;refine aJ (pI Aby _,Q (i+1) _ c () m (W.frame _ _ _ y λb hb o e=>l b o (λz=>H[z ▸ hb]) e) S2 (d.step U O) λh3 u B N S3 T=>?_)
  exact C h3 u B (λb o n G e=>N b o n G (l b o G (F b o n e))) S3 T
end
abbrev byT(w:dZ):Bool:=w.params.followText "set-order"
abbrev Aq2(w:dZ):tu:={ cls:=.type "set",dict:=sy,data:=.set #[] 0 .fresh[0][0][!byT w] }
section
def tc1:checkTypeCall "set" ([v],[])=pure u9:=by rfl'
def nc1:checkBuiltinCall "set.__new__" ([.type "set",v],[])=pure u9:=by rfl'
def Ayj(h:Q₁ .ref[s.heap.objs.size] { s with heap:=s.heap.push Aq2[w] }):codeAny[model P w][A][.call .builtin["set.__new__"] ([.type "set",v],[])][wants Q₁ E][s]:=by
 refine pP ?_;refine aA rR[nc1][aJ (pI aAf _,iG F.entry_set_new ?_)];rw[jY aAf _];unfold jV.«set.__new__» aBh;let a:=aDb;dsimp only
 wp_walk
 refine lE aJ[?_];dsimp only;simp only[newObj];exact aA wpAny_alloc[aJ[aJ[h]]]
def Anm(b:s.TypeIs self "set")(e:Q u9 s):wpAny M A (checkBuiltinCall "set.__init__" ([self,v],[])) Q E s:=by
 simp only[checkBuiltinCall,kind_set_init,split_set_init,sig_set_init];refine aA[mU b aDb ?_];simp only[pH,jK,if_false];unfold Bind.checkArgs;dsimp only;refine aA (m:=Bind.printed "*" t7 _ _) (aBt (self:=self) rfl b λshort=>?_);let c:(if (aDc==aDd)=t8 then [self,v].length else [self,v].length - 1)=1:=by
  rw[dm ()];rfl
 rw[c];simp only[lK];let d:Bind.check (.positional,"set","*",.self,[("iterable",.posOnly,t7)]) "set" short 1 []=pure u9:=by
  rfl
 rw[d];exact aJ e
def Akr:isSubtype .type["list"] .type["set"]=pure t7:=by rw[vN];rfl
def Aks:isSubtype .type["list"] .type["frozenset"]=pure t7:=by rw[vN];rfl
def Ayk(h:nJ a b):∀(i:Nat)(v:aH),a[i]?=sr v->∃x tk,b[i]?=sr x/\v=.str x tk:=by
 induction h with
 |nil=>intro i v e;trivial
 |cons y tk _ c=>
  intro i v e;cases i with
  |zero=>cases e;exact(y,tk,rfl,rfl)
  |succ i=>exact c i v e
def Tq(h:nJ a b):a.length=b.length:=by
 induction h with
 |nil=>rfl
 |cons _ _ _ c=>exact congrArg _ c
def Avp(u:A.handled=sy)(h:s.heap.get? a=sr Aq2[w])(j:s.heap.IsList l items)(g:nJ items.toList ss)(t:ss.length < 4000)(k:∀c tk f,(∀b o,b≠a->s.heap.get? b=sr o->c.get? b=sr o)->SetT P w c a f (!byT w)->InS ss ss.length f->Q .done[.ret .none] { s with heap:=c,toks:=tk }):
  wpAny (model P w) A (jV.«set.__init__» ([.ref a,.ref l],[])) Q E s:=by
 let D:s.TypeIs .ref[a] "set":=(_,h,rfl);let m:=j.typeIs;let C:=Akr;let B:=Aks;unfold jV.«set.__init__» noKeywords
 repeat (first|(with_reducible refine aA[nY j ?_])|(with_reducible refine nY j ?_)|wp_step)
 let r:l≠a:=λz=>by
  let(o,d,p):=m;rw[z,h] at d;cases d;exact absurd p (by simp)
 let y:a≠s.heap.objs.size:=cB bA[h];let ls:l≠s.heap.objs.size:=by
  let(o,d,_):=m;exact cB bA[d]
 refine Bmh (aEu (A:=A.in1) u s.heap.objs.size l ls items) (led:=!byT w) (ss:=ss) (by simp[y,r.symm]) (by rw[<-Tq g,aV]) (by rw[<-aV,Tq g];exact t) (λi v e=>Ayk g i v (by rw[iK];exact e)) items.size 0 _ [] aDe[_] cY[_] ((_,aW _ rfl,rfl,rfl),j.push _) ?_ (by simp,by simp,aO _) λc tk f q S i=>?_
 .exact(_,#[],0,_,aG _ h,(rfl,rfl,rfl),rfl,λe x=>by simp at x,rfl,rfl,(),rfl,λz=>absurd rfl z)
 .let e:items.size=ss.length:=by rw[<-Tq g,aV]
  rw[e] at i;exact aJ aJ[k c tk f (λb o n z=>q b o (by simp only[aR];exact cB bA[z]) n (aG _ z)) S i]
def Avq(G:A.handled=sy)(D:s.heap.IsList l items)(B:nJ items.toList n)(y:n.length < 4000)(k:∀j tk m,(∀b o,s.heap.get? b=sr o->j.get? b=sr o)->SetT P w j s.heap.objs.size m (!byT w)->InS n n.length m->Q .ref[s.heap.objs.size] { s with heap:=j,toks:=tk }):
  wpAny (model P w) A (call .type["set"] [.ref l]) Q E s:=by
 let(c,tl,u):=lL.mro;let hmade:=lL.made;let t:=lL.sub;refine mO pP[?_];show wpAny _ _ (callAny .type["set"] _) _ _ _;refine aJ (lJ _ (),iG xX ?_)
 rw[xH (uW "set" [.ref l] []) rfl];let T:=lL.notType;let O:=lL.canCreate;let H:=tc1 (v:=.ref l)
 repeat (any_goals (first|assumption|wp_step))
 refine iT (Ayj (E:=E) (Q₁:=λobj f=>obj=.ref s.heap.objs.size/\f={ s with heap:=s.heap.push Aq2[w] }) (rfl,rfl)) λr f p=>?_
 cases r with
 |error e=>exact p
 |ok L=>
  cases L with
  |ret obj=>
   let(rfl,rfl):=p;let x:(s.heap.push Aq2[w]).get? s.heap.objs.size=sr Aq2[w]:=aW _ rfl;let J:aCg { s with heap:=s.heap.push Aq2[w] } (.ref s.heap.objs.size) "set":=(_,x,rfl)
   let C:=lL.init.lookup;let I:=lL.init.bind .ref[s.heap.objs.size]
   repeat (any_goals (first|assumption|wp_step))
   refine iT (gH (R:=wants (λr d=>r=.none/\Q .ref[s.heap.objs.size] d) E) lL.init.plain F.entry_set_init (Anm J ?_)) λh d a=>?_
   .refine Avp (s:={ s with heap:=s.heap.push Aq2[w] }) G x D.push[_] B y λj tk m q S i=>(rfl,k j tk m (λb o z=>q b o cB[bA[z]] (aG _ z)) S i)
   .cases h with
    |error e=>exact a
    |ok g=>
     cases g with
     |ret r=>
      let(rfl,N):=a
      repeat (any_goals (first|assumption|wp_step))
     |_=>exact a.elim
  |_=>exact p.elim
end
section
def Bdg{n:Nat}{Q:Nat->aN->Prop}(hn:n≠0)(h:∀i d,i < n->Q i { s with drawn:=d }):wpAny M A (choose src n) Q E s:=λΓ p uu=>(hn,h _ _ (aEv _ xK[hn]))
theorem Xo{c:Type}:∀(a:lg c)(i:Nat)(h:i < a.length),((getElem[a][i][by get_elem_tactic])::a.eraseIdx i).Perm a
 |_::_,0,_=>.rfl
 |x::a,i+1,h=>(aFm ..).trans ((Xo a i _).cons x)
theorem Bgz{f:Type}:∀(n:Nat)(a:lg f)(s:aN)(Q:lg f->aN->Prop),a.length=n->(∀e d,e.Perm a->Q e { s with drawn:=d })->wpAny M A (drawOrder n a) Q E s
 |0,a,s,Q,hn,h=>by
  obtain rfl:=eN hn;exact aJ (h [] s.drawn .rfl)
 |n+1,[],s,Q,hn,h=>by trivial
 |n+1,x::a,s,Q,hn,h=>by
  refine aA[Bdg[by simp] λi d hi=>?_]
  rw[aZ hi];exact aA[Bgz n _ _ _ (by rw[qR hi,hn];rfl) λe g p=>aJ h[_][g][(p.cons _).trans (Xo _ i hi)]]
end
def slot_set_iter:Slot "set" "__iter__" "set.__iter__":=(
 .of (owner:="set") (n:="__iter__") (by rfl) (by rfl) (by rfl) (by rfl) (by trivial) (by rfl))
def Aft:entryFor table "set.__iter__"=sr jV.«frozenset.__iter__»:=(
 aBi (id':="frozenset.__iter__") (by rfl') rfl () (by rfl))
def Aia(a:aH):argsOk "set.__iter__" ([a],[]):=by rfl'
def Cy:Slot "set_iterator" "__next__" "set_iterator.__next__":=(
 .of (owner:="set_iterator") (n:="__next__") (by rfl) (by rfl) (by rfl) (by rfl) (by trivial) (by rfl))
def Ie:entryFor table "set_iterator.__next__"=sr jV.«set_iterator.__next__»:=(zP[by rfl])
def Jc(a:aH):argsOk "set_iterator.__next__" ([a],[]):=by rfl'
section
variable{es:Array (Int×aH)}{ep i:Nat}
abbrev itF(first:aH)(i:Nat)(a:aM)(n ep:Nat):Data:=.fields #[first,.int i 0,.ref a,.int n 0,.int ep 0]
def stops{d:Type}{R:d->aN->Prop}(f:A.handled=sy)(k:∀c (e:aM),(∀b o,s.heap.get? b=sr o->c.get? b=sr o)->(∃o,c.get? e=sr o/\o.cls=.type "StopIteration")->E' .ref[e] { s with heap:=c }):
  wpAny (model P w) A (do let e<-newExc .type["StopIteration"] [];raiseNew e:Sem d) R E' s:=by
 refine aA ?_;refine aA (m:=firstArgMember _ _) (rR (a:=gF) (by rfl) ?_)
 refine eY ?_ (by size_fits)
 refine aA wR[?_];rw[f];refine aA aJ[vH[k _ _ (λb o z=>aG _ (aG _ z)) (_,aW _ rfl,rfl)]]
def Bmi{j nx:Nat}(c:s.heap.get? I=sr k)(l:k.cls=.type "set_iterator")(hd:k.data=itF (.int j 0) i a es.size ep)(p:s.heap.get? a=sr o)(d:o.data=.set es ep t)(hf:t.fits es.size=t8)(r:∀(u:aH->aN->Prop)(n:o9[aH×Nat]->aN->Prop),n sr[u6 x nx] s->wpAny (model P w) A.in1 (setNext a j i ep) n u s)(q:∀e b,gM I s.heap e->e.get? I=sr b->b.cls=.type "set_iterator"->b.data=itF (.int nx 0) (i+1) a es.size ep->Q sr[x] { s with heap:=e }):
  wpAny (model P w) A pyNext[.ref[I]] Q E s:=by
 let m:s.TypeIs .ref[I] "set_iterator":=(_,c,l);unfold pyNext;refine aA nA[dC[m][Cy][dH Cy m Ie ?_ Jc[_]]];refine aA aJ[aA[qU c hd ?_]];dsimp only;refine aA[kO p d hf ?_];rw[dm[by simp]]
 refine aA[r _ _ ?_];dsimp only;let h:=bZ (gB (·.setIfInBounds 0 rawInt[nx])) c gD[cV hd _];let f:=cV hd (·.setIfInBounds 0 rawInt[nx]);refine aA[gA c hd (by simp) aA[gA[h][f][by simp][aJ (x,rfl,aJ q[_][_][(iD ..).trans (iD ..)][bZ _ h gD[cV f _]][(mF ..).trans ((mF ..).trans l)][?_])]]]
 rw[cV f];simp[rawInt]
def Bmj{h:Nat}(m:A.handled=sy)(f:s.heap.get? I=sr j)(p:j.cls=.type "set_iterator")(hd:j.data=itF (.int h 0) i a es.size ep)(r:s.heap.get? a=sr o)(d:o.data=.set es ep t)(hf:t.fits es.size=t8)(v:∀(x:aH->aN->Prop)(l:o9[aH×Nat]->aN->Prop),l sy s->wpAny (model P w) A.in1 (setNext a h i ep) l x s)(u:∀c,(∀b o,b≠I->s.heap.get? b=sr o->c.get? b=sr o)->Q sy { s with heap:=c }):
  wpAny (model P w) A pyNext[.ref[I]] Q E s:=by
 let k:s.TypeIs .ref[I] "set_iterator":=(_,f,p);unfold pyNext;refine aA nA[dC[k][Cy][dH Cy k Ie ?_ Jc[_]]];refine aA aJ[aA[qU f hd ?_]];dsimp only;refine aA[kO r d hf ?_];rw[dm[by simp]]
 refine aA[v _ _ ?_];dsimp only;refine aA gA[f][hd][by simp][stops m λc e q ty=>?_]
 exact aA (mU (b:=true) ty vJ aJ[u c λb o n z=>q b o ((bT _ _ eG[n]).trans z)])
def Bmk{q pl:Nat}{h0:Int}(e:s.heap.get? I=sr h)(j:h.cls=.type "set_iterator")(hd:h.data=itF .ref[T] i a es.size ep)(k:s.heap.get? a=sr o)(c:o.data=.set es ep t)(hf:t.fits es.size=t8)(n:s.heap.get? T=sr l)(f:l.data=.seq ps q)(hp:ps[i]?=sr rawInt[pl])(m:es[pl]?=sr[u6 h0 x])(p:∀g b,gM I s.heap g->g.get? I=sr b->b.cls=.type "set_iterator"->b.data=itF .ref[T] (i+1) a es.size ep->Q sr[x] { s with heap:=g }):
  wpAny (model P w) A pyNext[.ref[I]] Q E s:=by
 let d:s.TypeIs .ref[I] "set_iterator":=(_,e,j);refine aA nA[dC[d][Cy][dH Cy d Ie ?_ Jc[_]]];refine aA aJ[aA[qU e hd ?_]];dsimp only;refine aA[kO k c hf ?_];rw[dm[by simp]]
 simp only[dG];refine aA[iB n f ?_];simp only[hp,rawInt];unfold setNextDrawn;refine aA aA[jX k c hf ?_];simp only[bne_self_eq_false,jK,if_false,dG,m];refine aJ aA[gA[e][hd][by simp][aJ (x,rfl,aJ p[_][_][iD ..][bZ _ e gD[cV hd _]][(mF ..).trans j][?_])]]
 rw[cV hd];simp
def Bml{x:Nat}(m:A.handled=sy)(d:s.heap.get? I=sr j)(p:j.cls=.type "set_iterator")(hd:j.data=itF .ref[T] i a es.size ep)(r:s.heap.get? a=sr o)(g:o.data=.set es ep t)(hf:t.fits es.size=t8)(u:s.heap.get? T=sr l)(h:l.data=.seq ps x)(hp:ps[i]?=sy)(v:∀f,(∀b o,b≠I->s.heap.get? b=sr o->f.get? b=sr o)->Q sy { s with heap:=f }):
  wpAny (model P w) A pyNext[.ref[I]] Q E s:=by
 let c:s.TypeIs .ref[I] "set_iterator":=(_,d,p);unfold pyNext;refine aA nA[dC[c][Cy][dH Cy c Ie ?_ Jc[_]]];refine aA aJ[aA[qU d hd ?_]];dsimp only;refine aA[kO r g hf ?_];rw[dm[by simp]]
 simp only[dG];refine aA[iB u h ?_];simp only[hp];let k:=bZ (gB (·.setIfInBounds 0 rawInt[0])) d gD[cV hd _];refine aA[gA d hd (by simp) aA[gA[k][cV hd _][by simp][stops m λf e q ty=>?_]]]
 exact aA (mU (b:=true) ty vJ aJ[v f λb o n z=>q b o ((bT _ _ eG[n]).trans ((bT _ _ eG[n]).trans z))])
end
def R8:Slot "set_iterator" "__iter__" "set_iterator.__iter__":=(
 .of (owner:="set_iterator") (n:="__iter__") (by rfl) (by rfl) (by rfl) (by rfl) (by trivial) (by rfl))
def Abz:entryFor table "set_iterator.__iter__"=sr jV.«dict_keyiterator.__iter__»:=(
 aBi (id':="dict_keyiterator.__iter__") (by rfl') rfl () (by rfl))
section
variable{P:cJ}{w:dZ}{A:fX}{E:aH->aN->Prop}{s:aN}{I a:aM}{oI o:tu}{es:Array (Int×aH)}{ep i:Nat}{t:vM}{first:aH}{vs:lg aH}
def Bg0{Q:aH->aN->Prop}(b:s.TypeIs .ref[I] "set_iterator")(h:Q .ref[I] s):wpAny (model P w) A pyIter[.ref[I]] Q E s:=(yI b R8 (dH R8 b Abz (aJ (_,rfl,"set_iterator",_,b,Cy.lookup,h)) (by
   rfl')))
theorem Bmm{f:Nat->Nat}(G:A.handled=sy)(N:a≠I)(j:o.data=.set es ep t)(hf:t.fits es.size=t8)(F:∀i (s:aN),s.heap.get? a=sr o->∀(r:aH->aN->Prop)(g:o9[aH×Nat]->aN->Prop),g ((vs[i]?).map λx=>(u6 x f[i+1])) s->wpAny (model P w) A.in1 (setNext a f[i] i ep) g r s):
  aFb P w A I [I,a] [I] vs.length (λi v=>vs[i]?=sr v) (λi h=>h.get? a=sr o/\∃oI,h.get? I=sr oI/\oI.cls=.type "set_iterator"/\oI.data=itF (.int f[i] 0) i a es.size ep) where
 sub:=λb c=>by simp at c;simp[c]
 frame:=λi h u st D=>(D a (by simp) _ st.1,st.2.imp λoI z=>(D I (by simp) _ z.1,z.2))
 item:=λi s Q E hi st l=>by
  let(d,oI,n,m,B):=st;refine Bmi (x:=(getElem[vs][i][by get_elem_tactic])) (nx:=f[i+1]) n m B d j hf (λr g q=>F i s d r g (by rw[aZ hi];exact q)) λu y C L J H=>?_
  exact l _ u s.toks aZ[hi] ((C.2 a N).trans d,y,L,J,H) λb o c e=>(C.2 b (by simpa using c)).trans e
 done:=λs Q E st l=>by
  let(d,oI,n,m,B):=st;exact Bmj G n m B d j hf (λr g q=>F _ s d r g (by rw[iJ aO[_]];exact q)) λu k=>l u s.toks λb o c e=>k b o (by simpa using c) e
 self:=λi s Q E st l=>by
  let(_,oI,n,m,_):=st;exact Bg0 (_,n,m) l
def Bmn{T:aM}{J:tu}{ps:lg Nat}{Y:Nat}(O:A.handled=sy)(Z:a≠I)(TI:T≠I)(l:o.data=.set es ep t)(hf:t.fits es.size=t8)(m:J.data=.seq (ps.map λ(i:Nat)=>rawInt i).toArray Y)(j:∀p∈ps,p < es.size):
  aFb P w A I [I,a,T] [I] (ps.filterMap λp=>es[p]?.map (·.2)).length (λi v=>(ps.filterMap λp=>es[p]?.map (·.2))[i]?=sr v) (λi h=>h.get? a=sr o/\h.get? T=sr J/\∃oI,h.get? I=sr oI/\oI.cls=.type "set_iterator"/\oI.data=itF .ref[T] i a es.size ep):=by
 let len:∀g:lg Nat,(∀p∈g,p < es.size)->(g.filterMap λp=>es[p]?.map (·.2))=g.map λp=>(es.getD p (u6 0 .none)).2:=λg L=>by
  induction g with
  |nil=>rfl
  |cons p ps N=>
   let hp:=L p bJ;rw[List.filterMap_cons_some (b:=(es.getD p (u6 0 .none)).2) (by simp[aEw,hp]),bL,N[λq z=>L q (bD _ z)]]
 rw[len ps j];exact {
  sub:=λb f=>by simp at f;simp[f]
  frame:=λi h C st G=>(G a (by simp) _ st.1,G T (by simp) _ st.2.1,st.2.2.imp λoI z=>(G I (by simp) _ z.1,z.2))
  item:=λi s Q E hi st n=>by
   let(y,B,oI,u,r,H):=st;rw[aC] at hi;let hp:=j _ pD[hi];refine Bmk (pl:=(getElem[ps][i][by get_elem_tactic])) (h0:=(getElem[es][(getElem[ps][i][by get_elem_tactic])][by get_elem_tactic]).1) (x:=(getElem[es][(getElem[ps][i][by get_elem_tactic])][by get_elem_tactic]).2) u r H y l hf B m (by simp[hi]) (by simp[hp]) λC F D X U S=>?_
   exact n _ C s.toks (by simp[hi,aEw,hp]) ((D.2 a Z).trans y,(D.2 T TI).trans B,F,X,U,S) λb o f e=>(D.2 b (by simpa using f)).trans e
  done:=λs Q E st n=>by
   let(y,B,oI,u,r,H):=st;exact Bml O u r H y l hf B m (by simp) λC k=>n C s.toks λb o f e=>k b o (by simpa using f) e
  self:=λi s Q E st n=>by
   let(_,_,oI,u,r,_):=st;exact Bg0 (_,u,r) n }
end
theorem As8{b:Type}(nx:Nat->Nat):∀(n k:Nat)(l:lg b)(out:Array b),l.length=n->(pickOrder.go nx n k l out).toList.Perm (out.toList ++ l)
 |0,k,l,out,h=>by
  obtain rfl:=eN h;simp[pickOrder.go]
 |n+1,k,l,out,h=>by
  let hi:nx k % l.length < l.length:=aEv _ ()
  unfold pickOrder.go;rw[aZ hi];refine(As8 nx n _ _ _ (by rw[qR hi,h];rfl)).trans ?_
  rw[yH,aL];exact(Xo l _ hi).append_left _
def Avr{c:Type}(nx:Nat->Nat)(a:Array c):(pickOrder nx a).toList.Perm a.toList:=by
 have:=As8 nx a.size 0 a.toList #[] (by rfl)
 trivial
section
variable{es:Array (Int×aH)}{ep i sl:Nat}
def Ayl{Q:o9[aH×Nat]->aN->Prop}(c:byT w=t8)(d:s.heap.get? a=sr o)(b:o.data=.set es ep t)(hf:t.fits es.size=t8)(q:Q (((pickOrder (w.params.setOrder a ep) es)[i]?).map λe=>(u6 e.2 sl)) s):wpAny (model P w) A (setNext a sl i ep) Q E s:=by
 refine aA[jX d b hf aA[aA[lE[aJ[?_]]]]];rw[di (show (model P w).w.params.followText "set-order"=t8 from c),dm[by simp]]
 unfold setWalk;refine aA aA[jX d b hf aA[aA[lE[aJ[?_]]]]];rw[di (show (model P w).w.params.followText "set-order"=t8 from c)];exact aA lE[aJ[aJ[q]]]
def Aym{Q:o9[aH×Nat]->aN->Prop}(c:byT w=t7)(f:s.heap.get? a=sr o)(b:o.data=.set es ep t)(hf:t.fits es.size=t8)(d:t.led=t8)(k:es.size<=1)(q:Q (match es[jL t.place sl]?,t.place[jL t.place sl]? with|some e,sr j=>sr u6[e.2][j+1]|_,_=>sy) s):wpAny (model P w) A (setNext a sl i ep) Q E s:=by
 unfold setNext setsByText;refine aA[jX f b hf aA[aA[lE[aJ[?_]]]]];rw[dm (by rw[show (model P w).w.params.followText "set-order"=t7 from c];decide)]
 dsimp only;refine nM[λz=>?_] λh=>?_
 .let z:(!t.plain&&decide[es.size > 1])=t8:=z;simp at z;omega
 .refine aA (m:=(do if (!t.led&&!es.isEmpty)=t8 then unsupported "set:maker-not-led")) ?_
  rw[d];refine aJ aJ[?_];revert q;cases es[jL t.place sl]? with
  |none=>exact id
  |some e=>cases t.place[jL t.place sl]? <;> exact id
def Bmo(hh:A.handled=sy)(hS:SetT P w s.heap a Z (!byT w))(k:∀(I:aM)(y:lg aH)(fp:lg aM)(St:Nat->eE->Prop)(X:eE)(d:aCl),(∀b o,s.heap.get? b=sr o->X.get? b=sr o)->s.heap.objs.size<=I->I < X.objs.size->(∀u:fX,u.handled=sy->aFb P w u I fp [I] y.length (λi v=>y[i]?=sr v) St)->
   St 0 X->(∀b∈fp,b=a\/s.heap.objs.size<=b)->(∃B,nJ y B/\B.Perm Z)->Q .ref[I] { s with heap:=X,drawn:=d }):
  wpAny (model P w) A pyIter[.ref[a]] Q E s:=by
 let(o,es,ep,t,C,hex,m,O,F,hf,G,N,hp):=hS;let hT:s.TypeIs .ref[a] "set":=(_,C,hex.1);let L:=bA C;let tS:∀l:lg[Int×aH],(∀e∈l,e∈es.toList)->nJ (l.map (·.2)) l.map[kvS]:=λl N=>by
  induction l with
  |nil=>exact .nil
  |cons e l ih=>
   let((tk,z),_):=Akq O (N e bJ);rw[bL,bL,z];exact .cons _ tk (ih λx hx=>N x (bD _ hx))
 let r:∀l:lg[Int×aH],l.Perm es.toList->∃B,nJ (l.map (·.2)) B/\B.Perm Z:=λl p=>(l.map kvS,tS l λe he=>p.mem_iff.mp he,by rw[<-F];exact p.map kvS)
 refine yI hT slot_set_iter (dH slot_set_iter hT Aft ?_ Aia[_]);unfold jV.«frozenset.__iter__» aCo slotArgs aCh setDrawn setsByText;simp only[List.isEmpty_nil,pH,jK,if_false,pO,bne_self_eq_false];refine aA aA[aJ[aJ[aA[aA[kO C m hf aJ[?_]]]]]];refine aA aA[jX C m hf aA[aA[lE[aJ[aJ[?_]]]]]];let nz:a≠s.heap.objs.size:=cB L;refine nM[λz=>?_] λz=>?_
 .refine aA[Bgz es.size eZ[es.size] s _ bO λD d p=>?_];let ly:D.length=es.size:=by rw[p.length_eq,bO]
  refine aA[aBd ?_ (by rw[aC,ly];exact rW G)]
  let hps:∀q∈D,q < es.size:=λq hq=>mJ.mp p.mem_iff.mp[hq];let H:=aG { cls:=.type "tuple",data:=.seq (D.map λ(i:Nat)=>rawInt i).toArray } C;refine aA (yJ (s:={ s with heap:=s.heap.push _,drawn:=d }) H m hf ?_)
  generalize hg:s.heap.push { cls:=.type "tuple",data:=.seq (D.map λ(i:Nat)=>rawInt i).toArray }=J at H ⊢
  let hT1:J.get? s.heap.objs.size=sr { cls:=.type "tuple",data:=.seq (D.map λ(i:Nat)=>rawInt i).toArray }:=by rw[<-hg];exact aW _ rfl
  let S:J.objs.size=s.heap.objs.size+1:=by rw[<-hg];exact fY ..
  refine aA eY[aJ (_,rfl,"set_iterator",_,(_,aW _ rfl,rfl),Cy.lookup,?_)];refine k J.objs.size _ _ _ _ d (λb o e=>aG _ (by rw[<-hg];exact aG _ e)) (by rw[S];exact gZ _) (by rw[fY];exact gY _)
   (λu hA=>Bmn (T:=s.heap.objs.size) (a:=a) hA (by rw[S];exact cB Nat.lt_succ_of_lt[L]) (by rw[S];exact cB gY[_]) m hf rfl hps) (aG _ H,aG _ hT1,_,aW _ rfl,rfl,rfl) (λb G=>?_) ?_
  .simp only[aY,cR,or_false] at G;rcases G with rfl|rfl|rfl
   .exact .inr (by rw[S];exact gZ _)
   .exact .inl rfl
   .exact .inr aO[_]
  .let e1:(D.filterMap λp=>es[p]?.map (·.2))=(D.filterMap λp=>es[p]?).map (·.2):=by rw[List.map_filterMap]
   rw[e1];exact r _ ((p.filterMap _).trans (by rw[filterMap_getElem?_range]))
 .refine aA aJ[aA[yJ C m hf ?_]];refine aA eY[aJ (_,rfl,"set_iterator",_,(_,aW _ rfl,rfl),Cy.lookup,?_)];let go:∀(y:lg aH)(f:Nat->Nat),f 0=0->(∃B,nJ y B/\B.Perm Z)->(∀(u:fX) i (s:aN),s.heap.get? a=sr o->∀(E':aH->aN->Prop)(Y:o9[aH×Nat]->aN->Prop),Y ((y[i]?).map λx=>(u6 x f[i+1])) s->wpAny (model P w) u (setNext a f[i] i ep) Y E' s)->
    Q .ref[s.heap.objs.size] { s with heap:=s.heap.push { cls:=.type "set_iterator",dict:=sy,data:=.fields [rawInt 0,rawInt 0,.ref a,rawInt es.size,rawInt ep].toArray } }:=λy f f0 hv hN=>by
   refine k s.heap.objs.size y _ _ _ s.drawn (λb o e=>aG _ e) aO[_] (by rw[fY];exact gY _) (λu hA=>Bmm hA nz m hf hN[u.in1]) (aG _ C,_,aW _ rfl,rfl,?_) (λb G=>?_) hv
   .rw[f0];rfl
   .simp only[aY,cR,or_false] at G;rcases G with rfl|rfl
    .exact .inr aO[_]
    .exact .inl rfl
  cases U:byT w with
  |true=>
   refine go ((pickOrder (w.params.setOrder a ep) es).toList.map (·.2)) (λuu=>0) rfl r[_][Avr _ _] λu i s' n E' Y q=>Ayl U n m hf ?_;let e:((pickOrder (w.params.setOrder a ep) es)[i]?).map (λe=>(u6 e.2 0))=(((pickOrder (w.params.setOrder a ep) es).toList.map (·.2))[i]?).map λx=>(u6 x 0):=by
    rw[cH,iK,Option.map_map];rfl
   rw[e];exact q
  |false=>
   let J:es.size<=1:=Nat.le_of_not_lt λh=>z (by
    show (!byT w&&(!t.plain&&decide[es.size > 1]))=t8;rw[U,hp (λe=>by rw[<-F,wF] at e;rw[<-aV,e] at h;cases h)]
    simp[h])
   let pz:t.place.size=es.size:=by
    have:=hf;unfold SetTable.fits at this;simp only[aB,beq_iff_eq] at this;exact this.1
   refine go (es.toList.map (·.2)) (λi=>if i=0 then 0 else t.place.getD 0 0+1) rfl (r _ .rfl) λu i s' n E' Y q=>Aym U n m hf (by rw[N,U];rfl) J ?_
   clear N hp z go r tS O F k m hf C n;rcases oF 0 es.size with h2|h2
   .let(e,rfl):=uX.mp[Nat.le_antisymm J h2];let(j,hj):=uX.mp pz;rw[hj] at q ⊢
    cases i with
    |zero=>
     let b0:jL #[j] 0=0:=by simp[jL,yK]
     simp only[↓reduceIte,b0];exact q
    |succ i=>
     let b1:jL #[j] (j+1)=1:=by simp[jL,yK]
     let e1:(#[j]:Array Nat).getD 0 0=j:=rfl;simp only[e1,Nat.add_eq_zero_iff,tH,and_false,if_false,b1] at q ⊢
     exact q
   .obtain rfl:es=#[]:=Array.size_eq_zero_iff.mp Nat.le_zero.mp[h2];simpa using q
end
section
def Bmp(e:s.TypeIs .ref[a] "set")(h:Q t7 s):wpAny (model P w) A qG[.ref[a]] Q E s:=by
 unfold qG;refine aA[wpAny_specialOf e PySem.F.slot_set_len.lookup ?_];generalize d:("set.__len__":String)=id0;wp_delta;subst d;refine aA (mU (T:="set") (b:=true) e (by rw[vN];rfl') ?_)
 refine nM[λc=>absurd c ()][λf=>?_]
 refine nM[λf=>?_][λc=>absurd () c]
 refine aA[nZ e ?_];exact aJ h
def Ayn(h:ItemsOf (λi v=>b[i]?=sr v) a b.length):a.toList=b:=by
 refine rY λi=>?_;by_cases hi:i < a.size
 .let e:a.toList[i]?=sr getElem[a][i][by get_elem_tactic]:=by simp
  rw[e];exact(h.2 i _ rE[hi]).symm
 .rw[iJ[by simp_all],iJ (by rw[<-h.1];omega)]
def Ayo(Q:A.handled=sy)(hS:SetT P w s.heap a L (!byT w))(hz:L.length<=1000)(k:∀h' tk d i,(∀b o,s.heap.get? b=sr o->h'.get? b=sr o)->(∃J,nJ i J/\J.Perm L)->R i { s with heap:=h',toks:=tk,drawn:=d }):wpAny (model P w) A collect[.ref[a]] R E s:=by
 let(o,_,_,_,Y,y,_):=id hS;let x:=bA Y;unfold collect;refine aA aBj[iG PySem.F.entry_proto_collect ?_];rw[jY PySem.F.plain_proto_collect _];show wpAny _ A.in1 (newList [] >>= λl=>again[.builtin "list.__iadd__" ([l,.ref a],[])]) _ _ s;refine aA eY[?_];refine aJ (pI tM _,iG PySem.F.entry_list_iadd ?_);rw[jY tM _];generalize S:s.heap.push { cls:=.type "list",data:=.seq ([]:lg aH).toArray }=f;let hL:f.get? s.heap.objs.size=sr { cls:=.type "list",data:=.seq #[] }:=by rw[<-S];exact aW _ rfl
 let G:∀b o,s.heap.get? b=sr o->f.get? b=sr o:=λb o e=>by rw[<-S];exact aG _ e
 let z1:f.objs.size=s.heap.objs.size+1:=by rw[<-S];exact fY ..
 let S1:SetT P w f a L (!byT w):=by
  let(o,es,ep,t,ho,r):=hS;exact(o,es,ep,t,G a o ho,r)
 let hT:aCg { s with heap:=f } (.ref a) "set":=(_,G a o Y,y.1)
 show wpAny _ A.in1 (qH .ref[s.heap.objs.size] .ref[a] .ref[s.heap.objs.size]) _ _ _;unfold qH;refine aA (nZ (T:="set") hT ?_);let e1:sS .ref[s.heap.objs.size] .ref[a]=t7:=by simp[sS,nW x]
 simp only[e1,show (oV "set"==oV "list")=t7 by decide,show (oV "set"==oV "tuple")=t7 by decide,sU,jK,if_false]
 refine aA (Bmo (s:={ s with heap:=f }) (show A.in1.handled=sy from Q) S1 λI i fp St m d N O i2 W st U hv=>?_)
 let LI:s.heap.objs.size≠I:=λz=>by rw[<-z] at O;exact absurd (show f.objs.size<=s.heap.objs.size from O) ()
 let Lf:s.heap.objs.size∉fp:=λz=>by
  rcases U _ z with q|q
  .exact absurd q nW[x]
  .exact absurd (show f.objs.size<=s.heap.objs.size from q) ()
 let g:=N _ _ hL;let vl:i.length<=1000:=by
  let(J,f,m):=hv;rw[Tq f,m.length_eq];exact hz
 refine aA (fB (Bmp (s:={ s with heap:=m,drawn:=d }) (_,N _ _ (G a o Y),y.1) ?_))
 let u:∀(h:eE)(c:Nat),St 0 h->(∀b o,s.heap.get? b=sr o->h.get? b=sr o)->h.get? s.heap.objs.size=sr { cls:=.type "list",data:=.seq #[] c }->
   codeAny (model P w) A (.builtin "list.extend.loop" ([.ref s.heap.objs.size,.ref I,.ref s.heap.objs.size],[])) (λr j=>match r with|.ok (.ret v)=>wpAny (model P w) A (match v with|.ref a=>(do match (<-load a).data with|.seq xs _=>pure xs.toList|_=>unsupported "internal:collect")|_=>unsupported "internal:collect") R E j|.ok _=>False|.error e=>E e j) { s with heap:=h,drawn:=d }:=λh c H D hL'=>by
  refine codeAny_extend_loopS (W A.in1 Q).toS (aD vl ()) s.heap.objs.size Lf _ i.length 0 _ #[] c rfl cY[_] H hL' ItemsOf.nil[_] λj acc c' hm Z B=>?_
  rw[Moved.eq_with hm];refine aA[aAq (show j.heap.get? _=sr _ from Z) aJ[?_]];rw[Ayn B];refine k j.heap j.toks d i (λb o e=>hm.heap b o (λX=>?_) (D b o e)) hv;rcases aY.mp X with z|z
  .exact absurd bA[e] (by rw[z];exact fM _)
  .rw[aR.mp z] at e;exact absurd bA[e] aEx.mpr[aD[aD gZ[_] lG[z1.symm]][O]]
 let D:∀b o,s.heap.get? b=sr o->m.get? b=sr o:=λb o e=>N b o (G b o e);refine nM[λuu=>?_][λuu=>aJ (pI rF _,u _ _ st D g)];refine aA oZ[aA[?_]];show wpAny _ _ (updateSeq s.heap.objs.size (·.push .none) >>= λuu=>updateSeq s.heap.objs.size (·.pop)) _ _ _;refine aA[aAg g rfl ?_];let C:=bZ (uF (·.push gF)) g rfl;refine aAg (hz:=by seq_fits) C rfl ?_
 let hL4:=bZ (uF (·.pop)) C rfl;let p:∀b o,b≠s.heap.objs.size->m.get? b=sr o->((m.update s.heap.objs.size (uF (·.push gF))).update s.heap.objs.size (uF (·.pop))).get? b=sr o:=λb o n e=>(bT _ _ eG[n]).trans ((bT _ _ eG[n]).trans e);exact aJ (pI rF _,u _ _ ((W A.in1 Q).frame 0 _ _ st λb X o e=>p b o (λz=>Lf[z ▸ X]) e) (λb o e=>p b o cB[bA[e]] (D b o e)) hL4)
end
def Bim(P:cJ)(w:dZ)(a:aM)(ks:lg t6):HO:=.ext λh=>SetT P w h a ks (!byT w)
section
def Inv.draw(I:Inv X aa σ H s):Inv X aa σ H { s with drawn:=d }:=(I.ok,I.os,I.bare,I.base,I.loc,I.cell,I.free,I.freeC,I.pin,I.hok,I.len)
def Ayp(v:X.calm=t8):Le X .type["set"] (λd H Q=>∃p,∃a:lg t6,d=[.ref p]/\H p=sr .lst[a.map[V.str]]/\a.length < 4000/\∀q b,H q=sy->InS a a.length b->Q .ref[q] upd[H][q][Bim X.prog X.w q b]):=by
 intro _ s B H d C Q I r h;let(p,a,rfl,hp,m,q):=h;let(u,rfl,j):=vals1 r;cases j;let(_,l,n,g,e):=(I.hok p _ hp);refine Avq I.ok.hd[v] (_,e,rfl,_,rfl) Ael[g] m λF tk b keep S i=>(.ref _,_,I.newO (o:=Bim _ X.w _ b) keep gW[aO[_]] (S,?_,?_),rfl,q _ b I.hok.fresh[aO[_]] i)
 .let(o,_,_,_,c,_):=S;exact(o,c)
 .rintro E D ⟨o,x,y,t,c,z⟩ k;exact(o,x,y,t,k o c,z)
def Akt(O:X.calm=t8):Le X .builtin["sorted"] (λC H Q=>∃p c,C=[.ref p]/\H p=sr[Bim X.prog X.w p c]/\c.length < 64/\∀q,H q=sy->Q[.ref q][upd H q .lst[(Mt c).map V.str]]):=by
 intro aa s Z H C us Q I r h;let(p,c,rfl,hp,g,q):=h;let(u,rfl,J):=vals1 r;cases J;let S:SetT X.prog X.w s.heap p c (!byT X.w):=(I.hok p _ hp).1;refine rD kind_sorted aCw aCx aCy[_] ?_;unfold jV.«sorted»
 refine aA (m:=checkCount "sorted" 1 1 _) (aJ (aA (Ayo (A:=X.A.in1) (show X.A.in1.handled=sy from I.ok.hd O) S (aD fH[g] ()) λf tk d k F N=>?_)))
 let(ss,l,D):=N;let L:k.length=c.length:=by rw[Tq l,D.length_eq]
 refine aA[aCd ?_ (by rw[L];exact aD fH[g] ())]
 generalize G:f.push[seqObj "list" k.toArray 0]=h2;let x:h2.get? f.objs.size=sr[seqObj "list" k.toArray 0]:=by rw[<-G];exact aW _ rfl
 let E:∀b ob,s.heap.get? b=sr ob->h2.get? b=sr ob:=λb ob z=>by rw[<-G];exact aG _ (F b ob z)
 let a:s.heap.get? f.objs.size=sy:=by
  cases z:s.heap.get? f.objs.size with
  |none=>rfl
  |some o=>exact absurd bA[F _ _ z] fM[_]
 let P:H f.objs.size=sy:=by
  cases z:H f.objs.size with
  |none=>rfl
  |some o=>
   let(ob,i):=(I.hok _ o z).there;rw[a] at i;cases i
 let v:∀(out:Array aH) b ob,s.heap.get? b=sr ob->(sortedHeap h2 f.objs.size k out).get? b=sr ob:=λout b ob z=>by
  rw[aBe (λw=>by rw[w,a] at z;cases z) bA[E b ob z]]
  exact E b ob z
 refine aA fB[dH vK (_,x,rfl) uP (aAe aCe x l.keysOf (λv1 v2 rest e=>aCz (by rw[<-e];exact l)) () λn Y U=>(_,rfl,?_)) vL[_]]
 let(t,b1,b2,T):=aBf l Y U;obtain rfl:t=Mt c:=Akn b2.trans[D] T;let(B,j):=wU (out:=(arrOf n).map (·.2)) x;refine aJ (_,rfl,.ref f.objs.size,_,(I.draw (d:=d)).newO (o:=.lst[(Mt c).map V.str]) (tk:=tk) v[_] a (?_,_,B,Wj b1,j),rfl,q _ P);rw[aC,(Ft c).length_eq];exact aD fH[g] ()
end
section
variable{prog:cJ}{w:dZ}{A:fX}{E:aH->aN->Prop}{h:eE}{g:Array vD}{d:aCl}{t:Nat}{os:aCu}
variable{nm q:t6}{C N fI:aM}{bs tl bmB:lg aH}{hdct:Bool}{sn:lg t6}{sub:lg aH}{ab:Bool}{col:o9 Bool}{dd:o9 aM}{k0 k1 k2 k3 k5:o9 aH}{B newId initId:String}{oI:tu}{mN:t6->o9 aH}{rest:lg aH}
def Bdh(F:yL B newId initId bmB)(T:aAn h bmB tl)(c:h.get? C=sr[excClassObj nm q C N bs tl hdct sn sub ab col dd k0 k1 k2 k3 k5 newId])(x:h.Ns N mN)(hi:mN "__init__"=sr .ref[fI])(hf:h.get? fI=sr oI)(f:oI.cls=.type "function")(y:rest.length<=sizeLine)(go:∀n e,mL h n e .ref[C] rest->wpAny (model prog w) A (call .ref[fI] (.ref e::rest)) (λr l=>r=.none/\Q .done[.ret .ref[e]] l) E (n,g,d,t,os)):
  wpAny (model prog w) A (jV.«type.__call__» (.ref C::rest,[])) Q E (h,g,d,t,os):=by
 repeat (first|(with_reducible refine fO c ?_)|(with_reducible refine wpAny_madeBy_exc c ?_)|wp_step)
 refine codeAny_call_builtin_code[lJ _ F.quiet][wpAny_check_new_subT F T c (codeAny_exc_new_subT F T c ?_ y)];generalize k:h.push { cls:=.type "tuple",data:=.seq rest.toArray }=h1;generalize j:h1.push { cls:=.ref C,data:=.fields #[.ref h.objs.size,.none,.none,.none,.bool t7,.none] }=h2;let p:h1.objs.size=h.objs.size+1:=by rw[<-k];exact fY ..
 let keep:∀b o,h.get? b=sr o->h2.get? b=sr o:=λb o z=>by rw[<-j];exact aG _ (by rw[<-k];exact aG _ z)
 let made:h2.get?[h.objs.size+1]=sr { cls:=.ref C,data:=.fields #[.ref h.objs.size,.none,.none,.none,.bool t7,.none] }:=by
  rw[<-j,<-p];exact aW _ rfl
 let a:=keep _ _ c;show wpAny _ _ _ _ _ _;let own:(bQ C::tl).contains .ref[C]=t8:=by simp
 unfold isInstance
 repeat (first|(with_reducible refine fO made ?_)|(with_reducible refine pX a ?_;rw[own])|wp_step)
 show wpAny _ _ (typeLookup .ref[C] _) _ _ _;refine wpAny_typeLookup_tail a x.keeps[keep] T.keeps[keep] F.mroIs F.init.lookup ?_;rw[hi];refine fB aA[?_];unfold bindSpecial;refine aA (nZ (T:="function") (_,keep _ _ hf,f) ?_);rw[di ()]
 refine aJ aA[dX[go h2 (h.objs.size+1) (keep,gW gZ[_],h.objs.size,made,gW aO[_],?_)][λr l u=>?_] λs s z=>z]
 .rw[<-j];exact aG _ (by rw[<-k];exact aW _ rfl)
 .let(rfl,v):=u
  wp_walk
  exact v
def As9(F:yL B newId initId bmB)(T:aAn h bmB tl)(c:h.get? C=sr[excClassObj nm q C N bs tl hdct sn sub ab col dd k0 k1 k2 k3 k5 newId])(i:h.Ns N mN)(hi:mN "__init__"=sr .ref[fI])(hf:h.get? fI=sr oI)(b:oI.cls=.type "function")(k:rest.length<=sizeLine)(go:∀a e,mL h a e .ref[C] rest->wpAny (model prog w) A.under[.builtin "type.__call__" (.ref C::rest,[])] (call .ref[fI] (.ref e::rest)) (λr f=>r=.none/\Q .ref[e] f) E (a,g,d,t,os)):
  wpAny (model prog w) A (call .ref[C] rest) Q E (h,g,d,t,os):=by
 let m:=tc_lookup;let l:=tc_bind .ref[C];let ty:((h,g,d,t,os):aN).TypeIs .ref[C] "type":=(_,c,rfl);refine mO pP[?_]
 repeat (any_goals (first|assumption|rfl|wp_step))
 exact(rfl,codeAny_call_builtin_at (lJ _ ()) entry_typeCall wpAny_check_type_call_sub[c][Bdh F T c i hi hf b k λa e j=>go a e j])
end
section
open PySem.W PySem.Builtin PySem.Builtin.ObjectAttr in
theorem Ai2(self:aH):∀{own:lg aH},(own.all λa=>match a with|.ref _=>t8|_=>t7)=t8->refuseLoop self "__setattr__" (own ++ Afo)=pure u9
 |[],_=>sV.passes self
 |.ref a::r,h=>by
  rw[tO,refuseLoop_ref];exact Ai2 self (by simpa using h)
open PySem.W PySem.Builtin PySem.Builtin.ObjectAttr in
set_option tactic.hygienic true in
def Bin{prog:cJ}{w:dZ}{A:fX}{E:aH->aN->Prop}{s:aN}{K:aF}{x C:aM}{o:tu}{name:t6}{v:aH}{u:ClassData}{own:lg aH}(X:K.In s.heap)(k:s.heap.get? x=sr o)(O:o.cls=.ref C)(r:o.dict=sy)(F:∀c,o.data≠.cls c)(j:clsIn K C=sr u)(hm:u.mro=own ++ Afo)(ho:(own.all λa=>match a with|.ref _=>t8|_=>t7)=t8)(hd:u.hasDict=t8)(hs:findIn K .ref[C] "__setattr__"=sr sr[.builtin["object.__setattr__"]])(hn:findIn K .ref[C] name=sr sy)(J:mroIn K C .type["object"]=sr t8)(h:∀d l tk,s.heap.get? d=sy->d≠x->l.get? x=sr { o with dict:=sr d }->l.Ns1 d (λy=>if y=name then sr v else sy)->(∀b ob,b≠x->s.heap.get? b=sr ob->l.get? b=sr ob)->Q u9 { s with heap:=l,toks:=tk }):
  wpAny (model prog w) A (setAttr .ref[x] name v) Q E s:=by
 let I:InstAt s.heap x o C sy:=(k,O,by unfold notCls;split <;> first|(rename_i z;exact absurd z F[_])|rfl,by rw[r];exact iM)
 refine set_plain X I hs ?_;let(f,g,dr,i,os):=s;dsimp only at X k I h ⊢
 let t:=sV;let sub:Looks (model prog w) f (isInstance .ref[x] .type["object"]) t8:=I.type.andThen[looks_mroIn X J];refine gH t.slot.plain t.entry (@check_slot (model prog w) _ _ (f,g,dr,i+1,os) "object.__setattr__" "object" "__setattr__" .ref[x] [.str name i,v] [] _ t.kind t.split sub t.args[.ref[x]][.str name i][v] ?_);let lm:Looks (model prog w) f mroOf[.ref[C]] u.mro:=(looks_clsIn X j).andThen .now;rw[osa_eq,refuse_eq];refine aA aA[I.type.here[aA[lm.here[?_]]]];rw[hm,Ai2 _ ho];refine aJ aA[I.type.here[aA[(looks_findIn X hn).here aA[aJ[?_]]]]];show wpAny _ _ (storeInOwnDict .ref[x] .ref[C] (.str name i) name v t7) _ _ _;unfold storeInOwnDict
 repeat (first|(with_reducible refine fO k ?_;rw[O])|wp_step)
 unfold clsIn at j;split at j
 .rename_i c0 dd cd0 Y hK;cases j;refine aAq[X _ _ hK][aJ ?_];let U:typeHasDict bQ[C]=t8:=by simp[typeHasDict]
  simp only[hd,r,U,pH,jK,if_false,sU]
  .let m:(f.push { cls:=.type "dict",data:=.dict #[] }).get? x=sr o:=aG _ k;let ne:x≠f.objs.size:=cB bA[k];refine aA wpAny_alloc'[?_];refine aA[wpAny_update' m ?_];refine aJ ?_;generalize N:((f.push { cls:=.type "dict",data:=.dict #[] }).update x λo=>{ cls:=o.cls,dict:=sr f.objs.size,data:=o.data,slots:=o.slots })=h2;let g2:h2.get? f.objs.size=sr { cls:=.type "dict",data:=.dict #[] }:=by
    rw[<-N,wG _ _ _ _ ne.symm];exact aW _ rfl
   let S:h2.get? x=sr { o with dict:=sr f.objs.size }:=by
    rw[<-N];refine bZ _ m ?_;let fr:=(Heap.get?_some_iff.mp k).2;let(oc,od,B,Z):=o;cases B <;> first|rfl|exact fr
   let n2:h2.Ns f.objs.size (λT=>sy):=(_,#[],_,g2,rfl,λe he=>absurd he (by simp),λT=>rfl)
   show wpAny _ _ (storeInDict f.objs.size (.str name i) name v) _ _ _;unfold storeInDict newKeyGuard;refine aA aJ[aA[aCr xT[n2] λl p n=>?_]];let(oD,esD,epD,D,G,H):=p.count[Within.cons name v Within.nil];refine aA (yZ D (by rw[G];exact zE[aD H (by rw[bN,pO,rJ];omega)]) ?_)
   wp_walk
   refine h f.objs.size l _ gW[aO[_]] ne.symm ((n.2 x ne).trans S) p λb ob J q=>?_;refine(n.2 b cB[bA[q]]).trans ?_;rw[<-N,wG _ _ _ _ J];exact aG _ q
 .cases j
end
abbrev Ab0(C:aM)(od:o9 aM)(t:aM):tu:={ cls:=.ref C,dict:=od,data:=.fields #[.ref t,.none,.none,.none,.bool t7,.none] }
section
variable{t:Nat}
def Bdi{prog:cJ}{w:dZ}{A:fX}{E:aH->aN->Prop}{h:eE}{g:Array vD}{d:aCl}{os:aCu}{s q:t6}{C N e o:aM}{bs tl i:lg aH}{f:Bool}{r:lg t6}{sub:lg aH}{I:Bool}{l:o9 Bool}{H n:o9 aM}{z y x v u:o9 aH}{B newId initId:String}{rest:lg aH}(F:yL B newId initId i)(T:aAn h i tl)(G:h.get? C=sr[excClassObj s q C N bs tl f r sub I l H z y x v u newId])(j:h.get? e=sr[Ab0 C n o])(J:rest.length<=sizeLine)(go:∀k p,k.get? e=sr[Ab0 C n p]->(∀b ob,b≠e->h.get? b=sr ob->k.get? b=sr ob)->Q .none (k,g,d,t,os)):
  wpAny (model prog w) A (call .builtin[initId] (.ref e::rest)) Q E (h,g,d,t,os):=by
 refine mO gH[F.init.plain][F.initEntry][wpAny_check_init_subT F T G j rfl ?_];let ne:e≠h.objs.size:=cB bA[j]
 wp_walk
 refine go _ h.objs.size ?_ λb ob D q=>?_
 .rw[bZ _ (aG _ j) rfl];rfl
 .rw[bT _ _ D.symm];exact aG _ q
end
def Afu(K:aF)(C fI:aM):Bool:=match K.lookup C with
 |some ⟨.type "type",_,.cls cd,sl⟩=>(match cd.mro,sl.toList with
  |.ref C'::tl,[_,_,_,_,sr (.builtin n),_]=>(C'==C&&n=="ValueError.__new__"&&!cd.hasDel)&&(PySem.W.tailIn K Afo tl&&PySem.W.nsOkIn K cd.ns)&&bG K cd.ns "__init__"==sr sr[.ref[fI]]
  |_,_=>t7)
 |_=>t7
def Aq3{K:aF}{h:eE}{N:aM}{m:t6->o9 aH}{n:t6}{v:aH}(X:K.In h)(G:h.Ns N m)(e:bG K N n=sr sr[v]):m n=sr v:=by
 let(o,c,d,b,hd,_,hf):=G;unfold bG at e;split at e
 .rename_i q;let z:=X _ _ q;rw[b] at z;split at e
  .rw[<-hf];unfold nsFind findBy;simp_all
  simp_all
 trivial
set_option tactic.hygienic true in
def Aq4{K:aF}{h:eE}{C w:aM}(X:K.In h)(q:Afu K C w=t8):
  ∃tl N i g bs e f sub s b r p o m k j t,h.get? C=sr[excClassObj i g C N bs tl e f sub s b r p o m k j "ValueError.__new__"]/\h.Ns N t/\t "__init__"=sr .ref[w]/\aAn h Afo tl:=by
 unfold Afu at q;split at q
 .rename_i r D x A;split at q
  .rename_i E tl p o m k n j v u;simp only[aB,beq_iff_eq,dF] at q;let((((rfl,rfl),a),z,hok),d):=q;let(i,bs,y,ns,g,hd,f,sub,s,b,B):=D;dsimp only at v a hok d;subst v a;obtain⟨l⟩:=x;dsimp only at u;subst u;let c:h.Ns ns h.nsMap[ns]:=.of_isNs[xF X hok];exact(tl,ns,i,g,bs,hd,f,sub,s,b,r,p,o,m,k,j,_,X _ _ A,c,Aq3 X c d,xG X z)
  .cases q
 .cases q
structure XsK(K:aF)(C:aM)(f:t6):Prop where
 cls:∃cd own,sJ K C=sr cd/\cd.mro=own ++ Afo/\(own.all λa=>match a with|.ref _=>t8|_=>t7)=t8/\cd.hasDict=t8
 sa:cD K (.ref C) "__setattr__"=sr (sr (.builtin "object.__setattr__"))
 no:cD K (.ref C) f=sr sy
 ob:lW K C (.type "object")=sr t8
structure XbK(K:aF)(B:aM):Prop where
 g:rM K (.ref B) "__getattribute__"=sr (sr (.builtin "type.__getattribute__"))
 r:aAh K B (.type "type")=t8
 f:aAi K (.ref B) (.type "type") "__init__"=sr (.val (.builtin "ValueError.__init__"))
def Jx(e C:aM)(od:o9 aM):HO:=.ext λh=>∃t,h.get? e=sr[Ab0 C od t]
def Aku(q:h.get? e=sr[Ab0 C b t]):Eh P w H h e (Jx e C b):=(
 ((t,q),(_,q),λ_ _ ⟨t',p⟩ k=>(t',k _ p)))
def Avs(h:attributeBase o name env (eval o env)=eval o env)(few:methodCallForm b.length backTo[a][starEach b env] backToKw[a][keywordEach [] env]=t8)(i:(g.endLine==a.line)=t8):
  eval (.Call (.Attribute o name g) b [] a) env=(do
   let d<-eval o env
   standAt g.atName
   let (f,first)<-holding [d] (getMethod d name (do return (<-importBound o env).getD t8))
   callWith a f first (backTo a (starEach b env)) backToKw[a][keywordEach [] env]):=by
 let e:eval (.Call (.Attribute o name g) b [] a) env=(do
   let d<-_
   _
   methodCall o name g a env d b.length _ _):=rfl
 rw[e,h];unfold methodCall methodCallPos;rw[few,i];rfl
def Bio(K:aF)(ta:TA):TE:=λσ H Q=>ta σ H λvs H1=>∃e C fI od rest,vs=.ref e::rest/\H1 e=sr[Jx e C od]/\Afu K C fI=t8/\rest.length<=sizeLine/\Q .non H1
def Bmq(K:aF)(ta tv:TE)(f:t6):TS:=λD σ H=>tv σ H λy H1=>ta σ H1 λx H2=>∃e C,x=.ref e/\H2 e=sr[Jx e C sy]/\XsK K C f/\∀d,H2 d=sy->D.nx σ (upd upd[H2][e][Jx e C sr[d]] d .xd[[(f,y)]])
section
def Ayq(hg:Gl X x)(Y:X.mg x=sr .ref[B])(b:XbK X.K B)(ha:PA X (a::d) D)(hd:(x==("__debug__":t6))=t7)(i:starEach (a::d) X.env=(u6 t7 (eval a X.env))::starEach d X.env)(S:(backTo c (starEach d X.env)).any (·.1)=t7)(few:methodCallForm (a::d).length backTo[c][starEach (a::d) X.env] backToKw[c][keywordEach [] X.env]=t8)(aq:(ak.endLine==c.line)=t8):
  PE[X][.Call .Attribute[.Name x np]["__init__"][ak] (a::d) [] c][Bio X.K D]:=by
 intro aa s z H Q I h;refine PySem.W.methodCall_KW[Lz I hg Y ?_ hd][Avs rfl few aq];refine PySem.W.method_cls I.kIn b.g (PySem.W.cls_value I.kIn b.r b.f rfl ?_);let I0:=I.tok[s.toks+1];let v:=ha c aa _ z H _ I0 h;rw[i] at v ⊢
 refine uG[by trivial][pK ?_]
 refine thn v λus E A=>?_;let(vs,m,l,J,e,C,fI,O,rest,ev,j,P,Z,q):=A;subst ev;cases J with
 |@cons _ u _ ur F G=>
  obtain rfl:u=bQ e:=F;let((t,L),_,_):=(l.hok e _ j);let(hh,g,dr,tk,os):=E;let(tl,N,nm,qn,bs,o,sn,sub,ab,col,dd,k0,k1,k2,k3,k5,mN,hC,hN,U,T):=Aq4 l.kIn P;refine Bdi fK T hC L (by rw[<-G.length];exact Z) λh' t' n k=>?_
  let y:=l.write (x:=e) (e:=e) (t':=tk) (by rw[j];exact iM) .inl[rfl] k (_,n) Aku[n]
  let eH:upd m e (Jx e C O)=m:=funext λb=>by
   by_cases p:b=e
   .subst p;rw[Bd,j]
   .rw[Ax p]
  rw[eH] at y;exact(.non,m,y,rfl,q)
def Bdj(ho:PE X o Y)(hv:PE X value T)(hs:swapsWith value sr[.Attribute o f p] G.line X.env=pure t7):PS[X][.Assign [.Attribute o f p] value G][Bmq X.K Y T f]:=by
 intro O s E H D I h;refine oM (thn[hv O s E H _ I h] λu Z ⟨y,H1,I1,ry,q⟩=>thn[ho O Z E H1 _ I1 q] λov F ⟨x,H2,I2,rx,e,C,ex,he,k,q2⟩=>?_) hs;subst ex;obtain rfl:ov=bQ e:=rx;let((t,q1),_,_):=(show Eh X.prog X.w H2 F.heap e (Jx e C sy) from I2.hok e _ he);let(cd,own,c1,c2,c3,c4):=k.cls;refine Bin I2.kIn q1 rfl rfl (λc z=>by cases z) c1 c2 c3 c4 k.sa k.no k.ob λd h' tk hd ne P J kp=>?_
 let Q:H2 d=sy:=by
  cases z:H2 d with
  |none=>rfl
  |some o=>
   let(ob,r):=(I2.hok d o z).there;rw[hd] at r;cases r
 let N:∀b,H2 b=sy->b≠e:=λb z w=>by rw[w,he] at z;cases z
 let bd:∀b o,F.heap.get? b=sr o->b≠d:=λb o z w=>by rw[w,hd] at z;cases z
 let U:∀b o,H2 b=sr o->b≠d:=λb o z w=>by rw[w,Q] at z;cases z
 let a:∀b o,H2 b=sr o->b≠e->upd upd[H2][e][Jx e C sr[d]] d .xd[[(f,y)]] b=sr o:=λb o z w=>by rw[Ax[U b o z],Ax w,z]
 let I3:Inv X O E (upd upd[H2][e][Jx e C sr[d]] d .xd[[(f,y)]]) { F with heap:=h',toks:=tk }:=by
  refine I2.un (λb o q n m m=>kp b o (N b n) q,λb o q n m m=>(o.slots,kp b o (N b n) q),λb o q n m=>by rw[Ax[bd b o q],Ax[N b n]];exact n,λb o q m=>?_,λb S q=>a b _ q λw=>by (rw[w,he] at q;cases q),λb o v q=>a b _ q λw=>by (rw[w,he] at q;cases q),λb ps q=>(#[],by (rw[nP];exact a b _ q λw=>by rw[w,he] at q;cases q))) λb o q=>?_
  .by_cases A:b=e
   .exact(_,by rw[A];exact P)
   .exact(o,kp b o A q)
  .by_cases A:b=d
   .subst A;rw[Bd] at q;cases q;refine(_,J,λg=>?_);rw[eF];by_cases L:g=f
    .subst L;rw[beq_self_eq_true,di rfl];exact ry
    .rw[dm L,beq_eq_false_iff_ne.mpr L];exact iM
   .rw[Ax A] at q;by_cases l:b=e
    .subst l;rw[Bd] at q;cases q;exact Aku (t:=t) P
    .rw[Ax l] at q;refine(I2.hok b o q).stay (λc v hc z=>kp c v (λw=>?_) z) (λc z=>a c _ z λw=>by rw[w,he] at z;cases z) λc S z=>a c _ z λw=>by rw[w,he] at z;cases z
     rcases hc with rfl|hc
     .exact l w
     .rw[w,he] at hc;cases hc
 exact(E,_,I3,q2 d Q)
end
def Akv(C:aM)(f:t6):Sp:=λvs H Q uu=>∃e n u,vs=[.ref e,n,u]/\H e=sr[Jx e C sy]/\∀d,H d=sy->Q .non (upd upd[H][e][Jx e C sr[d]] d .xd[[(f,n)]])
section
def Bmr{P:cJ}{w:dZ}{K:aF}{mg:t6->o9 aH}{base:eE}{cm:Bool}{x aj B fld a b c:t6}{st:dI}{f C l p:aM}{fd:eX}{k:Nat}{np v p1 p2 t L Z Y X j:Pos}(F:Fun K x aj st f fd)(Sc:Gs [a,b,c] [a,b,c] Ak[st])(hb:Ao st=[.Expr (.Call .Attribute[.Name B np]["__init__"][v] [.Name a p1,.Name c p2] [] t) L,.Assign [.Attribute (.Name a Z) fld Y] (.Name b X) j])(hm:mg B=sr .ref[l])(O:XbK K l)(J:XsK K C fld)(N:Afu K C p=t8)(hg:(Ak st).names.lookup B=sr .globalImplicit)(m:Aqx Ak[st] a=t8)(U:Aqx Ak[st] b=t8)(T:Aqx Ak[st] c=t8)(dB:(B==("__debug__":t6))=t7)(r:([a,b,c].all λy=>!(y==("__debug__":t6))&&!(y==("__classdict__":t6)))=t8)(hl:(v.endLine==t.line)=t8):Ib P w K mg base (CXo P w) (k+1) f fd [a,b,c] (Akv C fld) cm:=by
 simp only[cP,List.all_nil,sX,aB,dF] at r;let((D,z),(b1,b2),c1,c2):=r;refine Fun.okX F Sc (λS H Q E h=>?_) λcdv A outer s H S Q E rm h=>?_
 .let(e,n,u,rfl,_):=h;rfl
 .let(e,n,u,rfl,o,q):=h;rw[hb];refine(_,Am8 (Asx (Ayq (x:=B) (B:=l) hg hm O (Aah (Afc (i:=0) rfl Afr[m] D z) (Aah (Afc (i:=2) rfl Afr[T] c1 c2) Aj7 rfl) rfl) dB rfl rfl rfl hl) rfl)
   (Asw (Bdj (Afc (i:=0) rfl Afr[m] D z) (Afc (i:=1) rfl Afr[U] b1 b2) rfl)),?_)
  refine(_,rfl,_,rfl,e,C,p,sy,[u],rfl,o,N,(by show 1<=sizeLine;decide),?_)
  refine(_,rfl,_,rfl,e,C,rfl,o,J,λd dn=>q d dn)
end
section
def Inv.madeX(I:Inv X w i H s)(d:mL s.heap r e .ref[C] h):Inv X w i upd[H][e][Jx e C sy] { s with heap:=r }:=by
 let ne:∀{b:aM} {o:tu},s.heap.get? b=sr o->b≠e:=λq z=>by rw[z,d.new] at q;cases q
 let f:∀{b:aM} {u:HO},H b=sr u->b≠e:=λq=>by
  let(o,k):=(I.hok _ _ q).there;exact ne k
 let(t,p,_,_):=d.there;refine I.step (ch:=[]) (λc z=>nomatch z) (λb o c c c q c=>d.keeps b o q) (λb o c c c q c=>(o.slots,d.keeps b o q)) (λb o c q n=>by rw[Ax ne[q]];exact n)
  (λb o c q=>(o,d.keeps b o q)) (λb j q=>by rw[Ax f[q]];exact q) (λb o u q=>by rw[Ax f[q]];exact q) (λb ps q=>(#[],by rw[Ax f[q]];exact q)) (λm l=>l.keeps d.keeps) (λa u q=>?_) I.bare
 by_cases g:a=e
 .subst g;rw[Bd] at q;cases q;exact Aku p
 .rw[Ax g] at q;exact(I.hok a u q).stay (λb v c z=>d.keeps b v z) (λb z=>by rw[Ax f[z]];exact z) λb j z=>by rw[Ax f[z]];exact z
end
section
def Ayr(f:tl.contains .type["BaseException"]=t8)(d:A.handled=sy)(h:wpAny M A x (λv a=>∃e b t,v=.ref e/\a.heap.get? C=sr[excClassObj nm q C N bs tl hdct sn sub ab col dd k0 k1 k2 k3 k5 newId]/\a.heap.get? e=sr[Ab0 C b t]/\E .ref[e] a) E s):
  wpAny M A (raiseStmt env sr[x] sy) Q E s:=by
 let has:(bQ C::tl).contains .type["BaseException"]=t8:=by rw[qW,f,lM]
 unfold raiseStmt;refine aA[dX h (λv a z=>?_) λc c z=>z];let(e,b,t,rfl,i,j,g):=z
 repeat (first|rfl|rfl|(with_reducible refine pX i ?_;rw[has])|wp_step)
 exact wpAny_raiseNew_none d g
end
def Akw(X:Cx)(E:XK):Prop:=∀(aa:lg[aM×tu])(σ:St)(H:Hp)(s:aN)(e C:aM)(od:o9 aM),Inv X aa σ H s->X.s₀.heap.get? e=sy->H e=sr[Jx e C od]->(∀H',(∀b,b≠e->H' b=H b)->H' e=sy->E .ref[C] sr[u6 1 od] H')->X.xe .ref[e] s
def Bdk(ta:TA)(C:aM)(f:t6)(dvs:lg V)(E:XK):TS:=λuu σ H=>ta σ H λvs H1=>vs.length<=sizeLine/\∃n u,vs ++ dvs=[n,u]/\∀d,H1 d=sy->E .ref[C] sr[u6 1 sr[d]] (upd H1 d .xd[[(f,n)]])
def Avt{k:Nat}(hx:Afu X.K C S=t8)(hk:dD X.K .ref[C]=t8)(a:iV X.K .ref[S]=sr .type["function"])(hex:X.ex=[])(hg:Gl X x)(hm:X.mg x=sr .ref[C])(hc:X.calm=t8)(hR:Akw X E)(F:Ib X.prog X.w X.K X.mg X.base (CXo X.prog X.w) k S fd ps (Akv C f) t8)(hr:Ho (k+1) X.A t8)(hb:Binds X.K fd ps Y)(hd:Vals y Y)(ha:PA X (c::U) ta)(hdb:(x==("__debug__":t6))=t7)(he:starEach (c::U) X.env=(u6 t7 (eval c X.env))::starEach U X.env)(hpl:(backTo j (starEach U X.env)).any (·.1)=t7):
  PS[X][.Raise sr[.Call (.Name x np) (c::U) [] j] sy pos][Bdk ta C f y E]:=by
 intro aa s σ H D I h;let(tl,N,nm,qn,bs,hdct,sn,sub,ab,col,dd,k0,k1,k2,k3,k5,mN,hC,hN,hni,T):=Aq4 I.ok.mod.kin hx;rw[aBk];refine aA (iR (Ayr (C:=C) (nm:=nm) (q:=qn) (N:=N) (bs:=bs) (tl:=tl) (hdct:=hdct) (sn:=sn) (sub:=sub) (ab:=ab) (col:=col) (dd:=dd) (k0:=k0) (k1:=k1) (k2:=k2) (k3:=k3) (k5:=k5) (newId:="ValueError.__new__") T.hasType[fK.hasBase] I.ok.hd[hc] ?_));refine aA gG[Lz I hg hm ?_ hdb];refine lH (h₀:=X.base) I.ok.mod.kin hk (thn[ha j aa s σ H _ I h] λm s1 ⟨vs,H1,I1,r,hz,n,u,hnu,q⟩=>(I1.kIn,?_)) he hpl;obtain⟨Z,lI,cI⟩:∃Z,X.K.lookup S=sr Z/\Z.cls=.type "function":=by
  let a:aEy[λo:tu=>o.cls][X.K.lookup S]=sr .type["function"]:=a;cases z:X.K.lookup S with
  |none=>rw[z] at a;cases a
  |some o=>rw[z] at a;exact(o,rfl,bK a)
 let(hh,g,dr,tk,os):=s1;refine As9 fK T.keeps[I1.bk] (I1.bk _ _ hC) hN.keeps[I1.bk] hni (I1.kIn _ _ lI) cI (by simp only[lU];rw[<-r.length];exact hz) λh' e hmade=>?_
 let I2:=I1.madeX hmade;let r2:Vals (V.ref e::(vs ++ y)) (bQ e::(m ++ Y)):=.cons rfl r.append[hd];let J:Akv C f (V.ref e::(vs ++ y)) upd[H1][e][Jx e C sy] (λv H2=>v=.non/\∃d,upd H1 e (Jx e C sy) d=sy/\H2=upd upd[upd[H1][e][Jx e C sy]][e][Jx e C sr[d]] d .xd[[(f,n)]]) (λuu uu uu=>False):=(e,n,u,by rw[hnu],Bd,λd B=>(rfl,d,B,rfl))
 let P:(bQ e::m ++ Y).length=ps.length:=by
  let z:=r2.length;rw[F.len _ _ _ _ J] at z;exact z.symm
 refine mO[iT[F.run _ X.stack _ _ (bQ e::m,[]) (bQ e::(m ++ Y)) _ _ _ (hr.make C m []) (I2.env0.make C m []) (hb _ (bQ e::m) I2.kIn P) r2 J] λrr s' L=>?_]
 match rr,L with
 |.error e',L=>let(_,_,_,_,_,_,_,z):=L;exact z.elim
 |.ok (.ret v),L=>
  let(v',H',I3,rv,ev,d,B,eH):=I2.after L;subst ev;refine(rv,aA iR[aJ[?_]]);let de:d≠e:=λz=>by rw[z,Bd] at B;cases B
  rw[Ax de] at B;let Q:H' e=sr[Jx e C sr[d]]:=by rw[eH,Ax de.symm,Bd]
  let((t,q1),_,_):=(show Eh X.prog X.w H' s'.heap e (Jx e C sr[d]) from I3.hok e _ Q);let h1e:H1 e=sy:=by
   cases z:H1 e with
   |none=>rfl
   |some o=>
    let(ob,O):=(I1.hok e o z).there;rw[hmade.new] at O;cases O
  refine(e,sr d,t,rfl,I3.bk _ _ hC,q1,hR aa σ H' s' e C sr[d] I3 ?_ Q λH'' hk' hn=>?_)
  .cases z:X.s₀.heap.get? e with
   |none=>rfl
   |some o=>
    let(o',z1):=I1.base.there e o z (by rw[hex];simp)
    rw[hmade.new] at z1;cases z1
  .let eq:H''=upd H1 d .xd[[(f,n)]]:=funext λb=>by
    by_cases i:b=e
    .rw[i,hn,Ax de.symm,h1e]
    .rw[hk' b i,eH];by_cases p:b=d
     .rw[p,Bd,Bd]
     .rw[Ax p,Ax i,Ax i,Ax p]
   rw[eq];exact q d B
section
def Aal(H:Hp)(e:aM):Hp:=λb=>if b=e then sy else H b
def Fg(h:b≠e):Aal H e b=H b:=dm h
def Mu:Aal H e e=sy:=di rfl
def Q9(h:Aal H e b=sr u):b≠e/\H b=sr u:=by
 by_cases a:b=e
 .rw[a,Mu] at h;cases h
 .rw[Fg a] at h;trivial
def Inv.fly_held(I:Inv X aa σ H s)(N:X.stack=X.env::X.outer)(J:X.env.frame=sr X.env.locals)(L:X.ex=[])(T:X.s₀.heap.get? e=sy)(h:H e=sr[Jx e C S])(k:∀c:eE,Fly X.prog X.w X.outer X.H₀ X.s₀ (Aal H e) e .ref[C] { s with heap:=c }->Tp 0 c e S->Q u9 { s with heap:=c }):wpAny M X.A (leaving X.env .ref[e]) Q E s:=by
 let((t,ho),_,_):=(show Eh X.prog X.w H s.heap e (Jx e C S) from I.hok e _ h);let G:∀env∈X.stack,∀a,env.frame=sr a->a∈e::frs X.stack:=λenv z a p=>bD _ (gV.mpr (env,z,p));let ff:s.heap.FunFrames (cN s.heap (e::frs X.stack)) (X.env::X.outer):=by rw[<-N];exact oA I.stack G
 let noex:∀b,b∉X.ex:=λb z=>by rw[L] at z;exact absurd z (by simp)
 let U:e∉frs X.stack:=λz=>by
  let n:=I.stkFree e z;rw[h] at n;cases n
 let l:(cN s.heap (e::frs X.stack)).get? e=sy:=mH _ bJ;refine As2 (n:=0) (B:=cN s.heap (e::frs X.stack)) (a0:=.ref t) (by rw[I.ok.frames,N]) ff J ho (λb o z=>lF _ z) l rfl rfl rfl (λx=>rfl) λc hL cx=>k c ?_ cx
 let(y,(_,_,x2),Z,Y):=hL;let d:∀b o,s.heap.get? b=sr o->b∉frs X.stack->b≠e->c.get? b=sr o:=λb o q n z=>y b o eO[_][q][by simp[n,z]]
 let r:∀b o,s.heap.get? b=sr o->b∈frs X.stack->∃F,c.get? b=sr { o with slots:=F }:=λb o q hb=>by
  let(_,j,P,nf):=I.stack.mem hb;rw[q] at P;cases P;exact Y b o q nf
 let f:∀{b:aM} {o:tu},X.s₀.heap.get? b=sr o->b≠e:=λq z=>by rw[z,T] at q;cases q
 refine(I.os,I.bare,(λb o q n hb x=>?_,λb o q n hb x=>?_,λb o q n x=>?_,λb o q x=>?_,λb O q=>?_,λb o u q=>?_,λb ps q=>?_),λa u q=>?_,T,Mu,?_)
 .exact d b o (I.base.keep b o q n hb noex[b]) (I.notStk q hb) f[q]
 .let(F,g):=I.base.slot b o q n hb noex[b];let(D,i):=r b _ g (I.fsStk N b hb);exact(D,i)
 .rw[Fg f[q]];exact I.base.free b o q n noex[b]
 .let(j,g):=I.base.there b o q noex[b];by_cases hb:b∈frs X.stack
  .let(F,i):=r b j g hb;exact(_,i)
  .exact(j,d b j g hb f[q])
 .let z:=I.base.tups b O q;rw[Fg (λw=>by rw[w,h] at z;cases z)];exact z
 .let z:=I.base.frzs b o u q;rw[Fg (λw=>by rw[w,h] at z;cases z)];exact z
 .let(m,z):=I.base.tbls b ps q;exact(m,by rw[Fg (λw=>by rw[w,h] at z;cases z)];exact z)
 .let(p,q):=Q9 q;refine(I.hok a u q).stay (λb v hb z=>d b v z (λm=>?_) ?_) (λb z=>?_) λb O z=>?_
  .let n:=I.stkFree b m;rcases hb with rfl|hb
   .rw[n] at q;cases q
   .rw[n] at hb;cases hb
  .rcases hb with rfl|hb
   .exact p
   .rintro rfl;rw[h] at hb;cases hb
  .rw[Fg (λw=>by rw[w,h] at z;cases z)];exact z
  .rw[Fg (λw=>by rw[w,h] at z;cases z)];exact z
 .refine(_,_,(y,l,x2,Z),λb o q n hb=>eO[_][I.base.keep b o q n hb noex[b]][by simp[I.notStk q hb,f q]],λb o q hb=>?_,λa u o q z=>?_)
  .let(j,g):=I.base.there b o q noex[b];exact(j,eO _ g (by simp[I.notStk q hb,f q]))
  .let(p,q):=Q9 q;let(ob,g):=(I.hok a u q).there;let i:=eO (e::frs X.stack) g (by
    let n:a∉frs X.stack:=λm=>by
     let n:=I.stkFree a m;rw[n] at q;cases q
    simp[n,p])
   let q3:=y a ob i;let z:c.get? a=sr o:=z;rw[q3] at z;cases z;exact i
end
structure XfK(K:aF)(C:aM)(f:t6):Prop where
 k:Ad1 K C
 hd:lY K C=t8
 no:cD K (.ref C) f=sr sy
section
variable{prog:cJ}{w:dZ}{A:fX}{E:aH->aN->Prop}{h:eE}{g:Array vD}{d:aCl}{t:Nat}{os:aCu}{a C:aM}{o:tu}{od:o9 tu}{K:aF}{f:t6}{v:aH}
open PySem.W in
def Ays{tk:Tok}(j:K.In h)(I:InstAt h a o C od)(hf:findObj K C od f=sr .value[v])(b:Q .done[.ret v] (h,g,d,t,os)):
  wpAny (model prog w) A (jV.«object.__getattribute__» ([.ref a,.str f tk],[])) Q E (h,g,d,t,os):=by
 let i:=I.type (M:=model prog w);let e:=looks_find (M:=model prog w) j I hf;refine aA aJ[aA[aJ[aA[i.at[aA[e.at[?_]]]]]]];exact aJ b
open PySem.W in
def Bip(c:K.In h)(i:Ad1 K C)(I:InstAt h a o C od)(hf:findObj K C od f=sr .value[v])(p:handedIn v=t8)(n:Q v (h,g,d,t+1,os)):
  wpAny (model prog w) A (getAttr .ref[a] f b) Q E (h,g,d,t,os):=by
 let j:=I.at_;let k:=I.cls;let s:=oE.ga.bind .ref[a];let m:(b&&onTheHeap iU["BaseException.__getattribute__"])=t7:=by cases b <;> rfl
 let e:(iU "BaseException.__getattribute__"==iU "object.__getattribute__")=t7:=by decide +kernel
 let l:(onTheHeap bQ[C]&&iU "BaseException.__getattribute__"==iU "object.__getattribute__")=t7:=by rw[e];rfl
 let r:Looks[model prog w][h][typeLookup .ref[C] "__getattribute__"][sr .builtin["BaseException.__getattribute__"]]:=looks_findIn c i.ga;let q:Looks (model prog w) h (typeLookup .ref[C] "__getattr__") sy:=looks_findIn c i.gn;unfold getAttr getAttrBy;refine aA wpAny_mkText[?_]
 repeat (any_goals (first|assumption|(with_reducible refine fO j ?_;rw[k])|with_reducible refine r.at ?_|with_reducible refine q.at ?_|wp_step))
 refine gH oE.ga.plain aAc (Aaj c i j k (Ays c I hf ?_));show wpAny _ _ handedOut[v] _ _ _;rw[handedOut_of p];exact aJ n
end
def Bms(K:aF)(ta:TE)(f:t6):TE:=λσ H Q=>ta σ H λx H1=>(∃a C dx fs v,x=.ref a/\H1 a=sr[.ins C dx fs]/\Cls K C/\Q7 K C f/\fs.lookup f=sr v/\Q v H1)\/
 ∃a C n d v,x=.ref a/\H1 a=sr[Sw a .ref[C] sr[u6 n sr[d]]]/\H1 d=sr .xd[[(f,v)]]/\XfK K C f/\Q v H1
def Bdl(Z:PE X e G)(hb:attributeBase e f X.env (eval e X.env)=eval e X.env):PE[X][.Attribute e f L][Bms X.K G f]:=by
 intro aa s B H Q I h;refine Attribute_any_[thn[Z aa s B H _ I h] λu J ⟨x,H1,I1,rx,z⟩=>?_][by rw[arm_eval_Attribute,hb]]
 rcases z with ⟨a,C,dx,fs,v,ex,r,c,n,l,q⟩|⟨a,C,n,d,v,ex,r,ed,m,q⟩
 .subst ex;obtain rfl:u=bQ a:=rx;exact Aql I1 r c n l λF s2 I2 j=>(v,H1,I2,j,q)
 .subst ex;obtain rfl:u=bQ a:=rx;let(((ob,vs,y,O,N),ok),_,_):=(I1.hok a _ r);let(P,E,t,z2,_,D):=ok n sr[d] rfl;rw[y] at t;cases t;let(S,p,T):=(I1.hok d _ ed);let(od,U,Y):=Aim p;let(F,hu,j):=W5.some_of (v:=v) (o:=S f) (by
   let z:=T f;rw[eF,beq_self_eq_true] at z;exact z)
  let(hh,g,dr,tk,os):=J;refine Bip I1.kIn m.k (y,O,by unfold PySem.W.notCls;rw[N],by rw[D];exact U) (vY m.hd m.no rfl (by rw[Y,hu])) Ain[j] (v,H1,I1.tok _,j,q)
section
def Aib:entryFor table "proto.unchain"=sr jV.«proto.unchain»:=by rfl'
def Aq5(g:s.heap.get? a=sr c)(f:c.data=.fields b)(d:b[2]?=sr .none)(k:Q .none s):
  wpAny (model prog w) A runValue[.builtin "proto.unchain" ([.ref e,.ref a,.ref a,.bool t7],[])] Q E s:=(aBj[iG Aib aA[dM g f d aJ[k]]])
def Avu(L:tl.contains .type["BaseException"]=t8)(I:A.handled=sr .ref[f])(J:∀s (Q:aH->aN->Prop),Q .none s->wpAny (model prog w) A c Q E s)(h:wpAny (model prog w) A x (λv a=>∃e o t,v=.ref e/\e≠f/\e≠C/\a.heap.get? C=sr[excClassObj nm q C N bs tl hdct sn sub ab col dd k0 k1 k2 k3 k5 newId]/\a.heap.get? e=sr[Ab0 C o t]/\
   (∃p l,a.heap.get? f=sr p/\p.data=.fields l/\l[2]?=sr .none)/\
   ∀(y:eE)(ob:tu)(k:Array aH),y.get? e=sr ob->ob.cls=.ref C->ob.dict=o->ob.data=.fields k->k[0]?=sr .ref[t]->k[1]?=sr .none->(∀b,b≠e->y.get? b=a.heap.get? b)->E .ref[e] { a with heap:=y }) E s):
  wpAny (model prog w) A (raiseStmt env sr[x] sr[c]) Q E s:=by
 let has:(bQ C::tl).contains .type["BaseException"]=t8:=by rw[qW,L,lM]
 unfold raiseStmt;refine aA[dX h (λv a z=>?_) λF F z=>z];let(e,o,t,rfl,ne,X,D,B,(p,l,T,S,P),O):=z;let(hp,g,d,tk,os):=a;refine aA fB[J _ _ aA[aJ[?_]]];show wpAny _ _ (do let _<-holding _ (excFromValue _ _);_) _ _ _
 repeat (first|(with_reducible refine fO B ?_)|(with_reducible refine fO D ?_)|(with_reducible refine pX D ?_;rw[has])|wp_step)
 let H:=bZ[gB λx=>x.setIfInBounds 3 gF][B][by rfl]
 let m:=bZ[gB λx=>x.setIfInBounds 4 tZ[t8]][H][by rfl]
 generalize r:aDw aDw[hp][e][gB λx=>x.setIfInBounds 3 gF] e (gB λx=>x.setIfInBounds 4 tZ[t8])=u at m ⊢
 let j:∀b,b≠e->u.get? b=hp.get? b:=λb n=>by
  rw[<-r,bT _ _ eG[n],bT _ _ eG[n]]
 unfold raiseNew;refine aA wR[?_];rw[I];dsimp only;rw[di (show (bQ f != bQ e)=t8 by simpa using eG ne)]
 refine aA (fB (Aq5 (s:=(u,g,d,tk,os)) ((j f eG[ne]).trans T) S P aA[?_]));show wpAny _ _ (setField .ref[e] 2 .ref[f]) _ _ _;refine gA (s:=(u,g,d,tk,os)) (x:=.ref f) (i:=2) m rfl (by show 2 < 6;decide) vH[?_]
 let G:=bZ[gB λx=>x.setIfInBounds 2 bQ[f]][m][by rfl]
 exact O _ _ _ G rfl rfl rfl rfl rfl λb n=>(bT _ _ eG[n]).trans (j b n)
end
section
theorem Inv.fly_suite(I:Inv X aa Y H s)(Q:X.stack=X.env::X.outer)(L:X.env.frame=sr X.env.locals)(hex:X.ex=[])(hp:Aai X E)(h0:X.s₀.heap.get? e=sy)(f:H e=sr[Jx e C U])
(ho:h'.get? e=sr ob) (hc:ob.cls=.ref C) (hd:ob.dict=U) (dt:ob.data=.fields vs) (v0:vs[0]?=sr a0) (v1:vs[1]?=sr .none) (h:∀b,b≠e->h'.get? b=s.heap.get? b)
(hA:A'.frames=X.A.frames) (q:E Y .ref[C] sr[u6 1 U] (Aal H e)):notedBy (model X.prog X.w) A' X.env (cameBackBy (model X.prog X.w) X.A X.env X.xe) .ref[e] { s with heap:=h' }:=by
 let((t,F),_,_):=(show Eh X.prog X.w H s.heap e (Jx e C U) from I.hok e _ f);let hin:∀env∈X.stack,∀a,env.frame=sr a->a∈e::frs X.stack:=λenv z a k=>bD _ (gV.mpr (env,z,k));let fr0:h'.FunFrames X.base X.stack:=I.stack.of_keeps λb o z n=>by
  by_cases hb:b=e
  .subst hb;rw[F] at z;cases z;exact absurd rfl n[_]
  .exact(o,(h b hb).trans z,rfl)
 let ff:h'.FunFrames (cN h' (e::frs X.stack)) (X.env::X.outer):=by rw[<-Q];exact oA fr0 hin
 let noex:∀b,b∉X.ex:=λb z=>by rw[hex] at z;exact absurd z (by simp)
 let G:(cN h' (e::frs X.stack)).get? e=sy:=mH _ bJ;show wpAny _ _ (noteFrame .ref[e] X.env) _ _ _;refine Ax4 (n:=1) (s:={ s with heap:=h' }) (B:=cN h' (e::frs X.stack)) (by rw[hA,I.ok.frames,Q]) ff L ho (λb o z=>lF _ z) G dt v1 v0 (λz=>absurd z ()) λg N cx=>?_
 let(oe,ws,T,oT,ts,q1,hc1,dt1,w1,nT,nTe,qT,dT,t3):=id N.2.2.1;unfold cameBackBy;refine aA (dM (s:={ s with heap:=g }) q1 dt1 w1 ?_)
 rw[dm (show ¬ ((bQ T==gF)=t8) from by simp)]
 refine As3 (s:={ s with heap:=g }) (o:=sr[u6 1 ob.dict]) X.env.frame N.1 N.2.1 N.2.2.1 cx.okS λl kg fg tg og smg=>?_
 rw[hc] at tg;rw[hd] at og;let up:∀{b:aM} {o:tu},s.heap.get? b=sr o->b∉frs X.stack->b≠e->(cN h' (e::frs X.stack)).get? b=sr o:=λ{b o} z n w=>eO[_][(h b w).trans z][by simp[n,w]]
 let c:∀{b:aM} {o:tu},s.heap.get? b=sr o->b∉frs X.stack->b≠e->l.get? b=sr o:=λz n w=>kg _ _ (up z n w);let i:∀{b:aM} {o:tu},s.heap.get? b=sr o->b∈frs X.stack->∃S,l.get? b=sr { o with slots:=S }:=λ{b o} z hb=>by
  let(_,o',z',nf):=I.stack.mem hb;rw[z] at z';cases z';let be:b≠e:=λw=>by
   rw[w,F] at z;cases z;exact nf _ rfl
  let(S,d):=N.2.2.2 b o ((h b be).trans z) nf;let(sl',z2):=smg b _ d nf;exact(sl',z2)
 let D:∀{b:aM} {o:tu},X.s₀.heap.get? b=sr o->b≠e:=λz w=>by rw[w,h0] at z;cases z
 let y:∀{b:aM},H b=sy->b≠e:=λz w=>by rw[w,f] at z;cases z
 let x:∀b,b≠X.env.locals->b∉X.fs->b∉frs X.stack:=λb h1 P z=>(aY.mp[I.stkSub b z]).elim h1 P;let J:Inv X aa Y (Aal H e) { s with heap:=l }:=by
  refine I.step (s:=s) (g':=s.gens) (d':=s.drawn) (t':=s.toks) (h':=l) (ch:=[]) (λp z=>nomatch z) (λb o h1 P p z n=>c z (x b h1 P) y[n]) (λb o p P p z n=>i z (I.fsStk Q b P)) (λb o p z n=>by rw[Fg y[n]];exact n) (λb o p z=>?_)
   (λb xs z=>by rw[Fg (λw=>by rw[w,f] at z;cases z)];exact z) (λb o u z=>by rw[Fg (λw=>by rw[w,f] at z;cases z)];exact z) (λb ps z=>(#[],by rw[Fg (λw=>by rw[w,f] at z;cases z),nP];exact z)) (λm hm=>?_) (λa u z=>?_) I.bare
  .by_cases hb:b∈frs X.stack
   .let(S,d):=i z hb;exact(_,d)
   .by_cases O:b=e
    .let(oe',_,_,_,_,d,_):=tg;rw[O];exact(oe',d)
    .exact(o,c z hb O)
  .let(o,es,ep,hoL,r):=hm;let(S,d):=i hoL (I.locStk Q L);exact(_,es,ep,d,r)
  .let(k,z):=Q9 z;refine(I.hok a u z).stay (λb v hb w=>c w (λm=>?_) ?_) (λb w=>?_) λb xs w=>?_
   .let n:=I.stkFree b m;rcases hb with rfl|hb
    .rw[n] at z;cases z
    .rw[n] at hb;cases hb
   .rcases hb with rfl|hb
    .exact k
    .rintro rfl;rw[f] at hb;cases hb
   .rw[Fg (λZ=>by rw[Z,f] at w;cases w)];exact w
   .rw[Fg (λZ=>by rw[Z,f] at w;cases w)];exact w
 let fg':l.FunFrames (cN h' (e::frs X.stack)) X.stack:=by
  generalize cN h' (e::frs X.stack)=B at fg ⊢
  rw[Q];exact fg
 refine hp aa Y _ _ e .ref[C] sr[u6 1 U] J Mu h0 (_,a0,_,kg,G,fg',tg,λb o z n hb=>up[I.base.keep b o z n hb noex[b]][I.notStk z hb][D z],λb o z hb=>?_,λa u o z w=>?_) og q
 .let(o',d):=I.base.there b o z noex[b];exact(o',up d (I.notStk z hb) D[z])
 .let(k,z):=Q9 z;let(o',d):=(I.hok a u z).there;let n:a∉frs X.stack:=λm=>by
   let n:=I.stkFree a m;rw[n] at z;cases z
  let w:l.get? a=sr o:=w;rw[c d n k] at w;cases w;exact up d n k
end
def Bdm(X:Cx)(E:St->XK):Prop:=∀(aa:lg[aM×tu])(σ:St)(H:Hp)(s:aN)(e C:aM)(od:o9 aM)(h':eE)(ob:tu)(vs:Array aH)(a0:aH),Inv X aa σ H s->X.s₀.heap.get? e=sy->H e=sr[Jx e C od]->
 h'.get? e=sr ob->ob.cls=.ref C->ob.dict=od->ob.data=.fields vs->vs[0]?=sr a0->vs[1]?=sr .none->(∀b,b≠e->h'.get? b=s.heap.get? b)->E σ .ref[C] sr[u6 1 od] (Aal H e)->X.xe .ref[e] { s with heap:=h' }
def Ata(ta:TA)(C:aM)(f:t6)(dvs:lg V)(ea:aM)(E:St->XK):TS:=λuu σ H=>ta σ H λvs H1=>vs.length<=sizeLine/\(∃cls od,H1 ea=sr[Sw ea cls sr[u6 0 od]])/\∃n u,vs ++ dvs=[n,u]/\∀d,H1 d=sy->E σ .ref[C] sr[u6 1 sr[d]] (upd H1 d .xd[[(f,n)]])
def Avv{k j:Nat}(hx:Afu X.K C fI=t8)(hk:dD X.K .ref[C]=t8)(a:iV X.K .ref[fI]=sr .type["function"])(hex:X.ex=[])(hg:Gl X x)(hm:X.mg x=sr .ref[C])(hh:X.A.handled=sr .ref[ea])(hR:Bdm X E)(F:Ib X.prog X.w X.K X.mg X.base (CXo X.prog X.w) k fI fd ps (Akv C f) cm)(hr:Ho (k+1) X.A cm)(hb:Binds X.K fd ps ds)(hd:Vals J ds)(ha:PA X (i::es) ta)(hdb:(x==("__debug__":t6))=t7)(he:starEach (i::es) X.env=(u6 t7 (eval i X.env))::starEach es X.env)(hpl:(backTo cpos (starEach es X.env)).any (·.1)=t7):
  PS[X][.Raise sr[.Call (.Name x np) (i::es) [] cpos] sr[.Constant .none j kpos] pos][Ata ta C f J ea E]:=by
 intro aa s σ H D I h;let(tl,N,nm,qn,bs,hdct,sn,sub,ab,col,dd,k0,k1,k2,k3,k5,mN,hC,hN,hni,T):=Aq4 I.ok.mod.kin hx;rw[aBk];refine aA (iR (Avu (C:=C) (nm:=nm) (q:=qn) (N:=N) (bs:=bs) (tl:=tl) (hdct:=hdct) (sn:=sn) (sub:=sub) (ab:=ab) (col:=col) (dd:=dd) (k0:=k0) (k1:=k1) (k2:=k2) (k3:=k3) (k5:=k5) (newId:="ValueError.__new__") T.hasType[fK.hasBase] hh (λs Q q=>?_) ?_))
 .exact aA aCi[aA[iR[aJ[q]]]]
 refine aA gG[Lz I hg hm ?_ hdb];refine lH (h₀:=X.base) I.ok.mod.kin hk (thn[ha cpos aa s σ H _ I h] λp s1 ⟨vs,H1,I1,r,hz,⟨cls,odA,hea⟩,n,u,hnu,q⟩=>(I1.kIn,?_)) he hpl;obtain⟨oI,lI,cI⟩:∃oI,X.K.lookup fI=sr oI/\oI.cls=.type "function":=by
  let a:aEy[λo:tu=>o.cls][X.K.lookup fI]=sr .type["function"]:=a;cases z:X.K.lookup fI with
  |none=>rw[z] at a;cases a
  |some o=>rw[z] at a;exact(o,rfl,bK a)
 let(hh',g,dr,tk,os):=s1;refine As9 fK T.keeps[I1.bk] (I1.bk _ _ hC) hN.keeps[I1.bk] hni (I1.kIn _ _ lI) cI (by simp only[lU];rw[<-r.length];exact hz) λh' e hmade=>?_
 let I2:=I1.madeX hmade;let r2:Vals (V.ref e::(vs ++ J)) (bQ e::(p ++ ds)):=.cons rfl r.append[hd];let S:Akv C f (V.ref e::(vs ++ J)) upd[H1][e][Jx e C sy] (λv H2=>v=.non/\∃d,upd H1 e (Jx e C sy) d=sy/\H2=upd upd[upd[H1][e][Jx e C sy]][e][Jx e C sr[d]] d .xd[[(f,n)]]) (λuu uu uu=>False):=(e,n,u,by rw[hnu],Bd,λd L=>(rfl,d,L,rfl))
 let Z:(bQ e::p ++ ds).length=ps.length:=by
  let z:=r2.length;rw[F.len _ _ _ _ S] at z;exact z.symm
 refine mO[iT[F.run _ X.stack _ _ (bQ e::p,[]) (bQ e::(p ++ ds)) _ _ _ (hr.make C p []) (I2.env0.make C p []) (hb _ (bQ e::p) I2.kIn Z) r2 S] λrr s' U=>?_]
 match rr,U with
 |.error e',U=>let(_,_,_,_,_,_,_,z):=U;exact z.elim
 |.ok (.ret v),U=>
  let(v',P,I3,rv,ev,d,L,eH):=I2.after U;subst ev;refine(rv,aA iR[aJ[?_]]);let de:d≠e:=λz=>by rw[z,Bd] at L;cases L
  rw[Ax de] at L;let he3:P e=sr[Jx e C sr[d]]:=by rw[eH,Ax de.symm,Bd]
  let((t,q1),_,_):=(show Eh X.prog X.w P s'.heap e (Jx e C sr[d]) from I3.hok e _ he3);let h1e:H1 e=sy:=by
   cases z:H1 e with
   |none=>rfl
   |some o=>
    let(ob,Y):=(I1.hok e o z).there;rw[hmade.new] at Y;cases Y
  let G:ea≠e:=λz=>by rw[z,h1e] at hea;cases hea
  let ead:ea≠d:=λz=>by rw[z,L] at hea;cases hea
  let hea3:P ea=sr[Sw ea cls sr[u6 0 odA]]:=by rw[eH,Ax ead,Ax G,Ax G];exact hea
  let((_,oka),_,_):=(show Eh X.prog X.w P s'.heap ea (Sw ea cls sr[u6 0 odA]) from I3.hok ea _ hea3);let(oa,va,w1,w2,w3,_):=oka 0 odA rfl;refine(e,sr d,t,rfl,G.symm,λz=>?_,I3.bk _ _ hC,q1,(oa,va,w1,w2,w3 rfl),λh2 ob vs2 z1 z2 z3 z4 z5 z6 z7=>hR aa σ P s' e C sr[d] h2 ob vs2 _ I3 ?_ he3 z1 z2 z3 z4 z5 z6 z7 ?_)
  .let n1:=hmade.new;rw[z,show hh'.get? C=sr _ from I1.bk _ _ hC] at n1;cases n1
  .cases z:X.s₀.heap.get? e with
   |none=>rfl
   |some o=>
    let(o',z1):=I1.base.there e o z (by rw[hex];simp)
    rw[hmade.new] at z1;cases z1
  .let eq:Aal P e=upd H1 d .xd[[(f,n)]]:=funext λb=>by
    by_cases l:b=e
    .rw[l,Mu,Ax de.symm,h1e]
    .rw[Fg l,eH];by_cases B:b=d
     .rw[B,Bd,Bd]
     .rw[Ax B,Ax l,Ax l,Ax B]
   rw[eq];exact q d L
def PA.nox(h:PA X.nox g t):PA X g t:=(λa i s b H Q I q=>
 dX[h a i s b H Q I.wish[_] q][λ_ _ ⟨vs,H',I',r',q'⟩=>(vs,H',I'.unwish,r',q')] λd d z=>z.elim)
def Bmt(K:aF)(C C2:aM)(f:t6)(dvs:lg V)(E:St->XK)(tb:(St->XK)->TS)(ta:TA):TS:=λD σ H=>
 tb (λσ' cls o H'=>iW K cls .ref[C]=sr t8/\∀ea,H' ea=sy->Ata ta C2 f dvs ea E D σ' upd[H'][ea][Sw ea cls o]) D σ H
def Bdn{k j:Nat}(S:X.stack=X.env::X.outer)(p:X.env.frame=sr X.env.locals)(O:X.ex=[])(hP:Aai X E)(hg:Gl X x)(hm:X.mg x=sr .ref[C])(hd:(x==("__debug__":t6))=t7)(hb:∀(pn:lg[aM×tu])(xe:aH->aN->Prop)(E:St->XK),Dv[CXo X.prog X.w][X.tryB pn xe][E]->PSs (X.tryB pn xe) body tb[E])(hx:Afu X.K C2 fI=t8)(hk:dD X.K .ref[C2]=t8)(hft:iV X.K .ref[fI]=sr .type["function"])(hg2:Gl X y)(hm2:X.mg y=sr .ref[C2])(F:Ib X.prog X.w X.K X.mg X.base (CXo X.prog X.w) k fI fd ps (Akv C2 f) t7)(hr:Ho (k+1) X.A t7)(hbi:Binds X.K fd ps ds)(hdv:Vals dvs ds)(ha:∀e,PA X.suite[e] (g::U) ta)(hdb:(y==("__debug__":t6))=t7)(he:starEach (g::U) X.env=(u6 t7 (eval g X.env))::starEach U X.env)(hpl:(backTo cpos (starEach U X.env)).any (·.1)=t7):
  PS[X][.Try body [.ExceptHandler sr[.Name x np] sy [.Raise sr[.Call (.Name y yp) (g::U) [] cpos] sr[.Constant .none j kpos] L] hpos] [] [] pos][Bmt X.K C C2 f dvs E tb ta]:=by
 intro Y s σ H D I h;refine zH[dX[hb (X.pn ++ Y) _ _ ?pass [] s σ H D I.tryIn h][λf s1 q=>?_] λe s1 q=>q]
 case pass=>
  intro pins' G H1 s1 e s2 i hcx;let(ea,cls,H2,o,rfl,F2,ox,hx2,q):=hcx;let i:Inv X Y G H1 s1:=i.tryOut;let(B,a0,fl,k1,kE,k2):=F2.fly;let P:=fl;rw[S] at P;refine Ax6 (by rw[i.ok.frames,S]) p P ox λh4 c ox4 sm4=>?_
  refine Afn c.1 c.2.1 c.2.2.1 c.2.2.2 ox4 λh5 d ox5 sm5=>?_;let Q:∀b o,X.base.get? b=sr o->h5.get? b=sr o:=λb o e=>d.1 b o (k1 b o (i.bs b o e).1 (i.bs b o e).2 λm=>by
   let z:=(i.stack.mem m).1;rw[e] at z;cases z)
  let K5:X.K.In h5:=i.ok.mod.kin.keeps Q;let LT:aBy (model X.prog X.w) h5 typeOf[.ref[ea]] cls:=by
   let(ob,ho,hc):=d.there;exact hc ▸ (zJ ho).andThen .now
  refine wC uV[?_] (by intro q;cases q)
  refine jF i.ok.kind hg (nR (by rw[i.ok.glob];exact i.mod.glob.keeps Q) hm ?_) hd
  refine(aAb K5 LT hx2) _ _ _ _ (λn n e=>e) ?_;show codeAny _ _ _ _ _;refine codeAny_handlers_suite[Afn d.1 d.2.1 d.2.2.1 d.2.2.2.at ox5 λh6 fl6 ox6 sm6=>?_];let l:=fl6;rw[<-S] at l;let I6:=i.caught S p F2 fl k1 kE k2 l sm4.trans[sm5.trans[sm6]] ox6;let step:=Asw (Avv (X:=(X.suite ea).wish notedBy[model X.prog X.w][X.A.mark sr[.ref[ea]]][X.env][cameBackBy (model X.prog X.w) X.A X.env X.xe]) (ea:=ea) (np:=yp) (cpos:=cpos) (kpos:=kpos) (pos:=L) (j:=j) hx hk hft O hg2 hm2 rfl (λY σ H s e C od h' ob vs a0 J h0 he' z1 z2 z3 z4 z5 z6 z7 z8=>
   Inv.fly_suite J.unwish.suiteOut[I.ok.hd] S p O hP h0 he' z1 z2 z3 z4 z5 z6 z7 rfl z8) F hr.mark hbi hdv PA.nox[ha[ea]] hdb he hpl)
  refine dX (step Y { s2 with heap:=h6 } G _ { nx:=λn n=>False,rt:=λn n=>False } ((I6.suiteIn ea).wish _) (q ea F2.fre)) (λf s8 T=>?_) λn n z=>z
  cases f with
  |next=>let(_,_,_,z):=T;exact z.elim
  |brk=>let(_,_,_,z):=T;exact z.elim
  |cont=>let(_,_,_,z):=T;exact z.elim
  |ret u=>let(_,_,_,_,_,z):=T;exact z.elim
 .cases f with
  |next=>let(a,t,r,z):=q;exact lR (a,t,r.tryOut,z)
  |brk=>let(a,t,r,z):=q;exact(a,t,r.tryOut,z)
  |cont=>let(a,t,r,z):=q;exact(a,t,r.tryOut,z)
  |ret u=>let(v,a,t,r,r8,z):=q;exact(v,a,t,r.tryOut,r8,z)
end L2
namespace D
open PySem PySem.Spec PyProof.Rows L2
inductive W where
 |non
 |bl (b:Bool)
 |int (i:Int)
 |str (x:t6)
 |tup (ws:List W)
 |ref (n:Nat)
 |scr (ns:List Int)
 |ty (n:String)
 |cls (c:Nat)
 |exn (c:Nat) (w:W)
inductive Cell where
 |lst (ws:List W)
 |dct (kvs:List (Key×W))
 |ins (c:Nat) (fs:List (t6×W))
abbrev Store:=lg Cell
inductive R(α:Type) where
 |ok (a:α) (S:Store)
 |exc (c:Nat×W) (S:Store)
 |bad
abbrev M(α:Type):=Store->R α
@[inline] def M.ret {α:Type} (a:α):M α:=λS=>.ok a S
def M.bind{α β:Type}(m:M α)(f:α->M β):M β:=λS=>match m S with
 |.ok a S1=>f a S1
 |.exc c S1=>.exc c S1
 |.bad=>.bad
instance:Monad M where
 pure:=M.ret
 bind:=M.bind
def bad{α:Type}:M α:=λuu=>.bad
structure Th where
 K:aF
 cl:Nat->aM
 xf:Nat->Option t6
 pl:Nat->Bool
def Scr(Θ:Th)(H:Hp)(l:aM)(ns:lg Int):Prop:=(∃o,H l=sr[.frz o .lst[ns.map[V.int]]])\/
 ∃(o:tu)(its:Array aH)(n:Nat),Θ.K.lookup l=sr o/\o.cls=.type "list"/\o.dict=sy/\o.data=.seq its n/\its.size<=sizeLine/\Vals ns.map[V.int] its.toList
def Scr.sq(h:Scr a H l ns):SqL a.K H l ns.map[V.int]:=by
 rcases h with ⟨o,h⟩|h
 .exact .inl[.inr (o,h)]
 .exact .inr h
mutual
inductive RV(Θ:Th)(Y:List aM)(H:Hp):W->V->Prop
 |non:RV Θ Y H .non .non
 |bl (b:Bool):RV Θ Y H (.bl b) (.bl b)
 |int (i:Int):RV Θ Y H (.int i) (.int i)
 |str (x:t6):RV Θ Y H (.str x) (.str x)
 |tup {a:aM} {ws:List W} {vs:List V}:H a=sr (.tup vs)->RVs Θ Y H ws vs->RV Θ Y H (.tup ws) (.ref a)
 |ref {n:Nat} {a:aM}:Y[n]?=sr a->RV Θ Y H (.ref n) (.ref a)
 |scr {l:aM} {ns:List Int}:Scr Θ H l ns->RV Θ Y H (.scr ns) (.ref l)
 |ty (n:String):RV Θ Y H (.ty n) (.ty n)
 |cls (c:Nat):RV Θ Y H (.cls c) (.ref (Θ.cl c))
 |exn {c:Nat} {w:W} {a:aM} {o:Option (Nat×Option aM)}:Θ.xf c=sy->a∉Y->H a=sr (Sw a (.ref (Θ.cl c)) o)->RV Θ Y H (.exn c w) (.ref a)
 |exf {c:Nat} {w:W} {v:V} {a d:aM} {n:t6}:Θ.xf c=sr n->a∉Y->d∉Y->H a=sr (Sw a (.ref (Θ.cl c)) (sr (u6 1 (sr d))))->H d=sr (.xd [(n,v)])->RV Θ Y H w v->RV Θ Y H (.exn c w) (.ref a)
inductive RVs(Θ:Th)(Y:List aM)(H:Hp):List W->List V->Prop
 |nil:RVs Θ Y H [] []
 |cons {w:W} {v:V} {ws:List W} {vs:List V}:RV Θ Y H w v->RVs Θ Y H ws vs->RVs Θ Y H (w::ws) (v::vs)
end
structure Dd(Y Y':List aM)(H H':Hp):Prop where
 t:∀b xs,H b=sr (.tup xs)->H' b=sr (.tup xs)
 f:∀b o u,H b=sr (.frz o u)->H' b=sr (.frz o u)
 k:∀b o,H b=sr o->b∉Y->H' b=sr o
 n:∀b,b∈Y'->b∈Y\/H b=sy
def Dd.refl(Y:lg aM)(H:Hp):Dd Y Y H H:=(λuu uu q=>q,λuu uu uu q=>q,λuu uu q uu=>q,λuu q=>.inl q)
theorem Dd.trans(a:Dd Y Y1 H H1)(b:Dd Y1 Y2 H1 H2):Dd Y Y2 H H2 where
 t:=λc d q=>b.t c d (a.t c d q)
 f:=λc o u q=>b.f c o u (a.f c o u q)
 k:=λc o q m=>b.k c o (a.k c o q m) λz=>by
  rcases a.n c z with z|z
  .exact m z
  .rw[q] at z;cases z
 n:=λc m=>by
  rcases b.n c m with z|z
  .exact a.n c z
  .by_cases g:c∈Y
   .exact .inl g
   .refine .inr ?_;cases e:H c with
    |none=>rfl
    |some o=>rw[a.k c o e g] at z;cases z
def Dd.out(t:Dd Y Y' H H')(h:H a=sr o)(m:a∉Y):a∉Y':=(λz=>by
 rcases t.n a z with q|q
 .trivial
 simp_all)
def Scr.mono(t:Dd Y Y' H H')(h:Scr a H l ns):Scr a H' l ns:=by
 rcases h with ⟨o,h⟩|h
 .exact .inl (o,t.f _ _ _ h)
 .exact .inr h
mutual
theorem RV.mono{d:Th}{Y a:lg aM}{H l:Hp}(p:Y <+: a)(t:Dd Y a H l):∀{w:W} {v:V},RV d Y H w v->RV d a l w v
 |_,_,.non=>.non
 |_,_,.bl b=>.bl b
 |_,_,.int i=>.int i
 |_,_,.str x=>.str x
 |_,_,.tup h r=>.tup (t.t _ _ h) (RVs.mono p t r)
 |_,_,.scr h=>.scr h.mono[t]
 |_,_,.ty n=>.ty n
 |_,_,.cls c=>.cls c
 |_,_,.exn x m h=>.exn x (t.out h m) (t.k _ _ h m)
 |_,_,.exf x m f h g r=>.exf x (t.out h m) (t.out g f) (t.k _ _ h m) (t.k _ _ g f) (RV.mono p t r)
 |_,_,.ref h=>.ref (by
  let(r,rfl):=p;let(o,e):=aK.mp h;rw[aX o];exact h)
theorem RVs.mono{c:Th}{Y b:lg aM}{H f:Hp}(p:Y <+: b)(t:Dd Y b H f):∀{d:lg W} {e:lg V},RVs c Y H d e->RVs c b f d e
 |_,_,.nil=>.nil
 |_,_,.cons h r=>.cons[RV.mono p t h][RVs.mono p t r]
end
def RV.tI(h:RV c Y H .tup[d] v):∃a b,v=.ref a/\H a=sr .tup[b]/\RVs c Y H d b:=by
 cases h;exact(_,_,rfl,‹_›,‹_›)
def RV.rI{n:Nat}(h:RV c Y H .ref[n] v):∃a,v=.ref a/\Y[n]?=sr a:=by
 cases h;exact(_,rfl,‹_›)
def RV.cI(h:RV a Y H .scr[ns] v):∃l,v=.ref l/\Scr a H l ns:=by
 cases h;exact(_,rfl,‹_›)
def RV.iI{i:Int}(h:RV b Y H .int[i] v):v=.int i:=by cases h;rfl
def RV.sI(h:RV a Y H .str[x] v):v=.str x:=by cases h;rfl
def RV.bI(h:RV a Y H .bl[b] v):v=.bl b:=by cases h;rfl
def RV.nI(h:RV a Y H .non v):v=.non:=by cases h;rfl
theorem RVs.length:∀{b:lg W} {c:lg V},RVs d Y H b c->b.length=c.length
 |_,_,.nil=>rfl
 |_,_,.cons _ r=>by rw[bN,bN,RVs.length r]
theorem RVs.get:∀{b:lg W} {c:lg V} {i:Nat} {w:W},RVs d Y H b c->b[i]?=sr w->∃v,c[i]?=sr v/\RV d Y H w v
 |_,_,_,_,.nil,e=>by trivial
 |_,_,0,_,.cons h _,e=>by simp at e;subst e;exact(_,rfl,h)
 |_,_,i+1,w,.cons _ r,e=>by
  let(v,j,f):=RVs.get r (by trivial)
  exact(v,by trivial,f)
theorem RVs.append:∀{d f:lg W} {e c:lg V},RVs b Y H d e->RVs b Y H f c->RVs b Y H (d ++ f) (e ++ c)
 |_,_,_,_,.nil,s=>s
 |_,_,_,_,.cons h r,s=>.cons h (RVs.append r s)
def RKV(Θ:Th)(Y:lg aM)(H:Hp):lg[Key×W]->lg[Key×V]->Prop:=qK λp q=>p.1=q.1/\RV Θ Y H p.2 q.2
def RFs(Θ:Th)(Y:lg aM)(H:Hp):lg[t6×W]->lg[t6×V]->Prop:=qK λp q=>p.1=q.1/\RV Θ Y H p.2 q.2
def Nv(Θ:Th)(Y:lg aM)(H:Hp)(a:aM):Cell->Prop
 |.lst ws=>∃vs,H a=sr .lst[vs]/\RVs Θ Y H ws vs
 |.dct kvs=>∃vs,H a=sr .dK[vs]/\RKV Θ Y H kvs vs
 |.ins c fs=>∃dx vs,H a=sr[.ins Θ.cl[c] dx vs]/\RFs Θ Y H fs vs
structure Rep(Θ:Th)(Y:List aM)(S:Store)(H:Hp):Prop where
 len:Y.length=S.length
 nd:Y.Nodup
 at_:∀(n:Nat)(a:aM)(c:Cell),Y[n]?=sr a->S[n]?=sr c->Nv Θ Y H a c
def RSl(Θ:Th)(Y:lg aM)(H:Hp):lg o9[W]->lg o9[V]->Prop:=λZ σ=>∀(i:Nat)(w:W),Z[i]?=sr sr[w]->∃v,σ[i]?=sr sr[v]/\RV Θ Y H w v
def RSl.mono(p:Y <+: Y')(t:Dd Y Y' H H')(h:RSl c Y H Z b):RSl c Y' H' Z b:=(λi w e=>by
 let(v,f,d):=h i w e;exact(v,f,d.mono p t))
abbrev De:=lg o9[W]
section
variable(Θ:Th)
def XP(Y:lg aM)(H:Hp)(c:Nat×W)(E:XK):Prop:=match Θ.xf c.1 with
 |none=>E .ref[Θ.cl[c.1]] sr[u6 (if Θ.pl c.1 then 0 else 1) sy] H
 |some n=>∀d v,d∉Y->H d=sr .xd[[(n,v)]]->RV Θ Y H c.2 v->E .ref[Θ.cl[c.1]] sr[u6 1 sr[d]] H
def Bb{α β:Type}(Rel:lg aM->Hp->α->β->Prop)(Y:lg aM)(H:Hp)(r:R α)(Q:β->Hp->Prop)(E:XK):Prop:=match r with
 |.ok w S'=>∀Y' H' v,Y <+: Y'->Dd Y Y' H H'->Rep Θ Y' S' H'->Rel Y' H' w v->Q v H'
 |.exc c S'=>∀Y' H',Y <+: Y'->Dd Y Y' H H'->Rep Θ Y' S' H'->XP Θ Y' H' c E
 |.bad=>False
inductive TF{α β:Type}(Rel:List aM->Hp->α->β->Prop)(f:De->M α)(σ:L2.St)(H:Hp)(Q:β->Hp->Prop)(E:XK):Prop
 |mk (Y:List aM) (S:Store) (Z:De) (R:Rep Θ Y S H) (sl:RSl Θ Y H Z σ) (q:Bb Θ Rel Y H (f Z S) Q E):TF Rel f σ H Q E
inductive SqP{α β γ Z':Type}(Rel:List aM->Hp->α->β->Prop)(Rel2:List aM->Hp->γ->Z'->Prop)(Y:List aM)(H:Hp)(f:α->M γ)(Q:Z'->Hp->Prop)(E:XK)(v:β)(H1:Hp):Prop
 |mk (Y1:List aM) (S1:Store) (w:α) (p:Y <+: Y1) (t:Dd Y Y1 H H1) (R:Rep Θ Y1 S1 H1) (r:Rel Y1 H1 w v) (q:Bb Θ Rel2 Y1 H1 (f w S1) Q E):SqP Rel Rel2 Y H f Q E v H1
inductive SqQ{α β γ Z':Type}(Rel:List aM->Hp->α->β->Prop)(Rel2:List aM->Hp->γ->Z'->Prop)(Y:List aM)(H:Hp)(Y0:List aM)(H0:Hp)(f:α->M γ)(Q:Z'->Hp->Prop)(E:XK)(v:β)(H1:Hp):Prop
 |mk (Y1:List aM) (S1:Store) (w:α) (p:Y <+: Y1) (t:Dd Y Y1 H H1) (R:Rep Θ Y1 S1 H1) (r:Rel Y1 H1 w v) (q:Bb Θ Rel2 Y0 H0 (f w S1) Q E):SqQ Rel Rel2 Y H Y0 H0 f Q E v H1
def tF(E:L2.St->XK)(f:De->M W):TE:=λσ H Q=>TF Θ RV[Θ] f σ H Q E[σ]
def tFs(E:L2.St->XK)(f:De->M lg[W]):TA:=λσ H Q=>TF Θ RVs[Θ] f σ H Q E[σ]
def tFb(E:L2.St->XK)(f:De->M Bool):TT:=λσ H Q=>TF Θ (λuu uu a b=>a=b) f σ H Q E[σ]
def spF(g:lg W->M W):Sp:=λvs H Q E=>∃Y S ws,Rep Θ Y S H/\RVs Θ Y H ws vs/\Bb Θ RV[Θ] Y H (g ws S) Q E
end
section
def WE.weak(h:WE X e t)(k:∀σ H Q,t' σ H Q->t σ H Q):WE X e t':=⟨λaa s σ H Q I q=>h.un aa s σ H Q I (k σ H Q q)⟩
def WA.weak(h:WA X es t)(k:∀σ H Q,t' σ H Q->t σ H Q):WA X es t':=⟨λpos aa s σ H Q I q=>h.un pos aa s σ H Q I (k σ H Q q)⟩
def WT.weak(h:WT X e t)(k:∀σ H Q,t' σ H Q->t σ H Q):WT X e t':=⟨λaa s σ H Q I q=>h.un aa s σ H Q I (k σ H Q q)⟩
theorem Bb.shift{i g:Type}{a:lg aM->Hp->i->g->Prop}{Q:g->Hp->Prop}:∀{r:R i},Bb l a Y H r Q E->Y <+: Y1->Dd Y Y1 H H1->Bb l a Y1 H1 r Q E
 |.ok _ _,h,p,t=>λe f v d b c m=>h e f v p.trans[d] t.trans[b] c m
 |.exc _ _,h,p,t=>λe f d b c=>h e f p.trans[d] t.trans[b] c
 |.bad,h,_,_=>h
def Bb.seq{d n j k:Type}{Rel:lg aM->Hp->d->n->Prop}{a:lg aM->Hp->j->k->Prop}{Y:lg aM}{H:Hp}{m:M d}{f:d->M j}{S:Store}{Q:k->Hp->Prop}{E:XK}(h:Bb g a Y H ((m >>= f) S) Q E):
  Bb g Rel Y H m[S] (SqP g Rel a Y H f Q E) E:=by
 let h:Bb g a Y H (M.bind m f S) Q E:=h;unfold M.bind at h;cases e:m S with
 |bad=>rw[e] at h;exact h
 |exc c l=>rw[e] at h;exact h
 |ok w l=>
  rw[e] at h;exact λo q v p t r i=>(o,l,w,p,t,r,i,Bb.shift h p t)
def Bb.now{b a:Type}{Rel:lg aM->Hp->b->a->Prop}{w:b}{v:a}{Q:a->Hp->Prop}(h:Bb d Rel Y H ((pure w:M b) S) Q E)(r:Rep d Y S H)(q:Rel Y H w v):Q v H:=(
 h Y H v aP[Y] (Dd.refl Y H) r q)
def Bb.mono{e d:Type}{a:lg aM->Hp->e->d->Prop}{r:R e}{Q f:d->Hp->Prop}(h:Bb i a Y H r Q E)(k:∀v b,Q v b->f v b):Bb i a Y H r f E:=by
 cases r with
 |ok w l=>exact λj b v p t r q=>k v b (h j b v p t r q)
 |exc c l=>exact h
 |bad=>exact h
def Tr{E:L2.St->XK}{f g:De->M W}{j:W->W->M W}{r:R2}(e:∀Y S H x y c b Q E,Rep a Y S H->RV a Y H x c->RV a Y H y b->Bb a RV[a] Y H (j x y S) Q E->r c b H Q):
  ∀d H Q,tF a E (λZ=>do let x<-f Z;let y<-g Z;j x y) d H Q->tOp r (tF a E f) (tF a E g) d H Q:=by
 rintro d H Q ⟨Y,S,Z,R,i,h⟩;refine(Y,S,Z,R,i,(Bb.seq h).mono ?_);rintro c C ⟨u,w,x,p,l,z,n,s⟩;refine(u,w,Z,z,i.mono p l,(Bb.seq s).mono ?_);rintro b A ⟨t,v,y,o,k,R2,m,q⟩;exact e t v A x y c b Q _ R2 (n.mono o k) m q
end
section
def Nv.there(h:Nv e Y H a c):∃o,H a=sr o:=by
 cases c with
 |lst b=>let(d,h,_):=h;exact(_,h)
 |dct b=>let(d,h,_):=h;exact(_,h)
 |ins c b=>let(f,d,h,_):=h;exact(_,h)
def Rep.get(R:Rep d Y S H){n:Nat}(h:S[n]?=sr c):∃a,Y[n]?=sr a/\Nv d Y H a c:=by
 let b:n < Y.length:=by rw[R.len];exact(aK.mp h).1
 exact(_,aZ b,R.at_ n _ c aZ[b] h)
def Rep.tracked(R:Rep d Y S H)(h:a∈Y):∃o,H a=sr o:=by
 let(n,c,rfl):=wH h;let b:n < S.length:=by rw[<-R.len];omega
 exact(R.at_ n _ _ aZ[c] aZ[b]).there
def Paired.imp2{α β:Type}{F G:α->β->Prop}(f:∀a b,F a b->G a b){l:lg α}{m:lg β}(r:qK F l m):qK G l m:=L2.Paired.mapP r f
def Nv.mono(p:Y <+: Y')(t:Dd Y Y' H H')(k:H' a=H a)(h:Nv i Y H a c):Nv i Y' H' a c:=by
 cases c with
 |lst e=>let(b,h,r):=h;exact(b,k.trans h,r.mono p t)
 |dct e=>let(b,h,r):=h;exact(b,k.trans h,Paired.imp2 (λd d z=>(z.1,z.2.mono p t)) r)
 |ins c e=>let(j,b,h,r):=h;exact(j,b,k.trans h,Paired.imp2 (λd d z=>(z.1,z.2.mono p t)) r)
theorem Bu(h:H p=sy)(q:∀b,b∈Y'->b∈Y\/b=p:=by intro b a;first|exact .inl a|(rcases cU.mp a with z|z;exact .inl z;exact .inr aR.mp[z])):Dd Y Y' H (upd H p o) where
 t:=λb d q=>by rw[Ax[Ca q h]];exact q
 f:=λb o u q=>by rw[Ax[Ca q h]];exact q
 k:=λb o q e=>by rw[Ax[Ca q h]];exact q
 n:=λb m=>by
  rcases q b m with z|z
  .exact .inl z
  .subst z;exact .inr h
theorem Rep.beside(R:Rep b Y S H)(h:H p=sy):Rep b Y S (upd H p o) where
 len:=R.len
 nd:=R.nd
 at_:=λn a c e d=>by
  let q:=R.at_ n a c e d;let(u,hu):=q.there;exact q.mono aP[Y] Bu[h] Ax[Ca hu h]
theorem Rep.alloc(R:Rep g Y S H)(h:H p=sy)(q:Nv g (Y ++ [p]) (upd H p o) p c):Rep[g][Y ++ [p]][S ++ [c]][upd H p o] where
 len:=by rw[aU,aU,R.len];rfl
 nd:=by
  rw[mG];refine(R.nd,by simp,λa l b k=>?_)
  obtain rfl:b=p:=by simpa using k
  let(u,hu):=R.tracked l;exact Ca hu h
 at_:=λn a d e f=>by
  by_cases i:n < Y.length
  .rw[aX i] at e;rw[aX (by rw[<-R.len];exact i)] at f
   let z:=R.at_ n a d e f;let(u,hu):=z.there;exact z.mono (cF _ _) Bu[h] Ax[Ca hu h]
  .let j:=(aK.mp e).1;rw[aU,dU] at j;obtain rfl:n=Y.length:=by omega
   rw[bB aO[_],fV] at e;rw[R.len,bB aO[_],fV] at f;obtain rfl:p=a:=by simpa using e
   obtain rfl:c=d:=by simpa using f
   exact q
def Ma:(Y ++ [p])[Y.length]?=sr p:=by simp
theorem Rep.write{n:Nat}(R:Rep k Y S H)(g:Y[n]?=sr a)(t:Dd Y Y H (upd H a o))(q:Nv k Y (upd H a o) a c):Rep k Y (S.set n c) (upd H a o) where
 len:=by rw[iH];exact R.len
 nd:=R.nd
 at_:=λm b d f e=>by
  by_cases h:m=n
  .subst h;rw[g] at f;cases f;let l:m < S.length:=by rw[<-R.len];exact(aK.mp g).1
   rw[dJ l] at e;cases e;exact q
  .rw[cX eG[h]] at e;let ne:b≠a:=by
    rintro rfl;let(s,j):=aK.mp f;let(r,i):=aK.mp g;exact h[(oX R.nd).mp j.trans[i.symm]]
   exact(R.at_ m b d f e).mono aP[Y] t Ax[ne]
theorem Xp{n:Nat}(g:Y[n]?=sr a)(h:H a=sr u)(e:∀c,u≠.tup c)(d:∀ob x,u≠.frz ob x):Dd Y Y H (upd H a o) where
 k:=λb o q m=>by
  rw[Ax (by rintro rfl;exact m jU[g])]
  exact q
 n:=λb m=>.inl m
 t:=λb c q=>by
  rw[Ax (by rintro rfl;rw[h] at q;exact e c bK[q])]
  exact q
 f:=λb ob x q=>by
  rw[Ax (by rintro rfl;rw[h] at q;exact d ob x bK[q])]
  exact q
end
def big:Nat:=1000000
def Jy{n:Nat}(h:n<=big):n<=sizeLine:=(aD h ())
def Ck(ws:lg W):M W:=λS=>if ws.length<=big then .ok[.ref S.length][S ++ [.lst ws]] else .bad
def Akx(ws:lg W):M W:=if ws.length<=big then pure .tup[ws] else bad
def addW:W->W->M W
 |.int i,.int j=>pure .int[i+j]
 |.str x,.str y=>if x.length+y.length<=big then pure .str[x ++ y] else bad
 |.tup xs,.tup ys=>if !xs.isEmpty&&decide[xs.length+ys.length<=big] then pure .tup[xs ++ ys] else bad
 |.ref n,.ref m=>λS=>match S[n]?,S[m]? with
  |some (.lst xs),sr (.lst ys)=>if xs.length+ys.length<=big then .ok[.ref S.length][S ++ [.lst[xs ++ ys]]] else .bad
  |_,_=>.bad
 |_,_=>bad
def small(i:Int):Bool:=decide[-(2 ^ 64) < i]&&decide[i < 2 ^ 64]
def onI(f:Int->Int->M W):W->W->M W
 |.int i,.int j=>f i j
 |_,_=>bad
def Ab1(e:RV a Y H x c)(d:RV a Y H y b)(h:Bb a RV[a] Y H (onI f x y S) Q E):∃i j,c=.int i/\b=.int j/\Bb a RV[a] Y H (f i j S) Q E:=by
 unfold onI at h;split at h
 .obtain rfl:=e.iI;obtain rfl:=d.iI;exact(_,_,rfl,rfl,h)
 .exact(show False from h).elim
def Bmu:W->W->M W:=onI λi j=>pure .int[i - j]
def Biq:W->W->M W
 |.int i,.int j=>if small i||small j then pure .int[i * j] else bad
 |.str z,.int n=>if decide[z.length<=16]&&decide[-1048576<=n]&&decide[n<=1048576] then pure .str[kW z n] else bad
 |.ref n,.int k=>λS=>match S[n]? with
  |some (.lst xs)=>if decide[-(2 ^ 63)<=k]&&decide[k < 2 ^ 63]&&decide[xs.length * k.toNat<=big] then .ok[.ref S.length][S ++ [.lst (cA k.toNat xs).flatten]] else .bad
  |_=>.bad
 |_,_=>bad
def Bo9:W->W->M W:=onI λi j=>if 0 < j then pure .int[i % j] else bad
section
set_option tactic.hygienic true in
def Blx(R:Rep k Y S H)(t:RV k Y H x q)(s:RV k Y H y n)(h:Bb k RV[k] Y H (addW x y S) Q E):
  (rI0 (λi j=>V.int[i+j]) q n H Q\/(∃i j,q=.str i/\n=.str j/\i.length+j.length<=sizeLine/\Q .str[i ++ j] H))\/(Bgu k.K q n H Q\/Bl6 q n H Q):=by
 unfold addW at h;split at h
 .obtain rfl:=t.iI;obtain rfl:=s.iI;exact .inl[.inl (_,_,rfl,rfl,h.now R .int[_])]
 .obtain rfl:=t.sI;obtain rfl:=s.sI;split at h
  .rename_i l;exact .inl[.inr (_,_,rfl,rfl,Jy l,h.now R .str[_])]
  .exact(h).elim
 .rename_i A P;let(a,r,rfl,u,d):=t.tI;let(b,m,rfl,z,g):=s.tI;split at h
  .rename_i l;let(v,f):=bY.mp l;let F:=d.length;let D:=g.length;let f:=dg f;refine .inr (.inl (a,b,r,m,rfl,rfl,SqT.of u,SqT.of z,?_,Jy (by rw[<-F,<-D];exact f),λe=>?_,λO p hp=>?_))
   .rintro rfl;cases A with
    |nil=>cases v
    |cons w A=>cases d
   .subst e;cases g;rw[bC] at h;exact h.now R (.tup u d)
   .exact h Y _ _ aP[Y] Bu[hp] R.beside[hp] .tup[Bd][(d.append g).mono aP[Y] Bu[hp]]
  .exact(show False from h).elim
 .let(a,rfl,G):=t.rI;let(b,rfl,I):=s.rI;split at h
  .rename_i C B L J;split at h
   .rename_i l;let(r,u,d):=R.at_ _ _ _ G L;let(m,z,g):=R.at_ _ _ _ I J;refine .inr[.inr (a,b,r,m,rfl,rfl,u,z,Jy (by rw[<-d.length,<-g.length];exact l),λp hp=>?_)]
    let N:=R.alloc (o:=.lst[r ++ m]) (c:=.lst[C ++ B]) hp (_,Bd,(d.append g).mono (cF _ _) Bu[hp]);refine h (Y ++ [p]) _ _ (cF _ _) Bu[hp] N .ref[?_];rw[<-R.len];exact Ma
   .exact h.elim
  .exact h.elim
 .exact(show False from h).elim
end
def Bg1:W->W->M W:=onI λi j=>if decide[0 < j]&&decide[j < 1073741824] then pure .int[i / j] else bad
def Bpa:W->W->M W:=onI λi j=>if 0<=j then pure .int[i / 2 ^ j.toNat] else bad
def Bmv:W->W->M W:=onI λi j=>if decide[0<=j]&&decide[j<=1000000]&&decide[i.natAbs < 2 ^ 64] then pure .int[i * 2 ^ j.toNat] else bad
def Bpb:W->W->M W:=onI λi j=>pure .int[Builtin.bitAnd i j]
def Avw(p:Int->Int->Bool)(q:t6->t6->Bool):W->W->M W
 |.int i,.int j=>pure .bl[p i j]
 |.str i,.str j=>pure .bl[q i j]
 |_,_=>bad
def Iw(i j:t6):Bool:=decide[i.cps.toList < j.cps.toList]
section
def Hd{b:Type}[Decidable c]{m:M b}{a:lg aM->Hp->b->f->Prop}{Q:f->Hp->Prop}(h:Bb g a Y H ((if c then m else bad) S) Q E):c/\Bb g a Y H m[S] Q E:=by
 by_cases d:c
 .rw[di d] at h;trivial
 .rw[dm d] at h;trivial
def Bly(R:Rep a Y S H)(e:RV a Y H x c)(d:RV a Y H y b)(h:Bb a RV[a] Y H (Bmu x y S) Q E):rI0 (λi j=>V.int[i - j]) c b H Q:=by
 let(i,j,rfl,rfl,h):=Ab1 e d h;exact(_,_,rfl,rfl,h.now R .int[_])
theorem RVs.rep(r:RVs a Y H b c):∀k:Nat,RVs a Y H (cA k b).flatten (cA k c).flatten
 |0=>.nil
 |k+1=>r.append[RVs.rep r k]
set_option tactic.hygienic true in
def Bpc(R:Rep d Y S H)(l:RV d Y H x f)(g:RV d Y H y e)(h:Bb d RV[d] Y H (Biq x y S) Q E):
  (rI Bcm (λi j=>V.int[i * j]) f e H Q\/(∃z n,f=.str z/\e=.int n/\z.length<=16/\-1048576<=n/\n<=1048576/\Q .str[kW z n] H))\/Bl7 f e H Q:=by
 unfold Biq at h;split at h
 .cases l;obtain rfl:=g.iI;let(b,h):=Hd h;refine .inl[.inl (_,_,rfl,rfl,?_,h.now R .int[_])];rcases mW.mp b with q|q
  .exact .inl (dg (bY.mp q).1,dg (bY.mp q).2)
  .exact .inr (dg (bY.mp q).1,dg (bY.mp q).2)
 .obtain rfl:=l.sI;obtain rfl:=g.iI;let(b,h):=Hd h;let(b,m):=bY.mp b;let(s,r):=bY.mp b;exact .inl[.inr (_,_,rfl,rfl,dg s,dg r,dg m,h.now R .str[_])]
 .rename_i n k;let(a,rfl,w):=l.rI;obtain rfl:=g.iI;split at h
  .rename_i v B;split at h
   .rename_i b;let(b,m):=bY.mp b;let(s,r):=bY.mp b;let(t,A,u):=R.at_ _ _ _ w B;refine .inr (a,k,t,rfl,rfl,A,dg s,dg r,Jy (by rw[<-u.length];exact dg m),λp hp=>?_)
    let C:=R.alloc (o:=.lst (cA k.toNat t).flatten) (c:=.lst (cA k.toNat v).flatten) hp (_,Bd,(u.rep _).mono (cF _ _) Bu[hp]);refine h (Y ++ [p]) _ _ (cF _ _) Bu[hp] C .ref[?_];rw[<-R.len];exact Ma
   .exact(show False from h).elim
  .exact(show False from h).elim
 .exact(show False from h).elim
def Bmw(R:Rep a Y S H)(f:RV a Y H x d)(e:RV a Y H y c)(h:Bb a RV[a] Y H (Bg1 x y S) Q E):rI Bos (λi j=>V.int[i / j]) d c H Q:=by
 let(i,j,rfl,rfl,h):=Ab1 f e h;let(b,h):=Hd h;exact(_,_,rfl,rfl,(dg (bY.mp b).1,dg (bY.mp b).2),h.now R .int[_])
def Bpd(R:Rep a Y S H)(f:RV a Y H x d)(e:RV a Y H y c)(h:Bb a RV[a] Y H (Bmv x y S) Q E):rI Bot (λi j=>V.int[i * 2 ^ j.toNat]) d c H Q:=by
 let(i,j,rfl,rfl,h):=Ab1 f e h;let(b,h):=Hd h;let(b,g):=bY.mp b;let(l,k):=bY.mp b;exact(_,_,rfl,rfl,(dg l,dg k,dg g),h.now R .int[_])
def Bdo{p:Int->Int->Bool}(R:Rep a Y S H)(f:RV a Y H x d)(e:RV a Y H y c)(h:Bb a RV[a] Y H (Avw p q x y S) Q E):
  rI0 (λi j=>V.bl[p i j]) d c H Q\/∃i j,d=.str i/\c=.str j/\Q .bl[q i j] H:=by
 unfold Avw at h;split at h
 .obtain rfl:=f.iI;obtain rfl:=e.iI;exact .inl (_,_,rfl,rfl,h.now R .bl[_])
 .obtain rfl:=f.sI;obtain rfl:=e.sI;exact .inr (_,_,rfl,rfl,h.now R .bl[_])
 .exact(show False from h).elim
end
inductive Bop where
 |add|sub|mul|fdiv|mod|shl|shr|and
inductive Cop where
 |lt|le|gt|ge
def Bop.fn:Bop->W->W->M W
 |.add=>addW
 |.sub=>Bmu
 |.mul=>Biq
 |.fdiv=>Bg1
 |.mod=>Bo9
 |.shl=>Bmv
 |.shr=>Bpa
 |.and=>Bpb
def Bop.of:aDx->o9 Bop
 |.Add=>sr .add
 |.Sub=>sr .sub
 |.Mult=>sr .mul
 |.FloorDiv=>sr .fdiv
 |.Mod=>sr .mod
 |.LShift=>sr .shl
 |.RShift=>sr .shr
 |.BitAnd=>sr .and
 |_=>sy
section
def Al(o:Bop)(f g:De->M W):De->M W:=λZ=>do let x<-f Z;let y<-g Z;o.fn x y
def Bmx(hK:X.K=B.K)(h:Bop.of D=sr o)(p:WE X a (tF B E f))(m:WE X b (tF B E g)):WE X (.BinOp a D b L) tF[B][E][Al o f g]:=by
 cases D <;> simp only[Bop.of,gQ,reduceCtorEq] at h <;> subst h
 .refine WE.weak[kop ((Bhu.or Aqk).or Bcq.or[Bh5]) p m][Tr λY S H x y w r Q E R e d h=>?_];rw[hK];exact Blx R e d h
 .exact WE.weak[kop Bhv p m][Tr λY S H x y w r Q E R e d h=>Bly R e d h]
 .exact WE.weak (kop ((Bhw.or (by
   intro T s O H x y v u Q I J G h;let(z,n,rfl,rfl,C,N,P,q):=h;let(t,rfl):=J;let(F,rfl):=G;exact SB.mul[mulOk_of 16 1048576 C () () () ()] λF k=>(.str _,H,I.tok _,(_,rfl),q))).or Bh6) p m) (Tr λY S H x y w r Q E R e d h=>Bpc R e d h)
 .exact WE.weak (kop (opI λi j c c c c c l q=>by
 let C:(0:Int) < j:=l;exact mod_int' () (by rw[Int.fmod_eq_emod_of_nonneg i ()];exact q)) p m) (Tr λY S H x y w r Q E R e d h=>by
   let(i,j,rfl,rfl,h):=Ab1 e d h;let(l,h):=Hd h;exact(_,_,rfl,rfl,l,h.now R .int[_]))
 .exact WE.weak[kop (opI λc c c c c c c l q=>lshift_int_small l.1 l.2.1 l.2.2 q) p m][Tr λY S H x y w r Q E R e d h=>Bpd R e d h]
 .exact WE.weak (kop (opI λi j c c c c c l q=>
 rshift_int l (by rw[qX i (by
   rw[two_pow_cast];exact qY _)];exact q)) p m) (Tr λY S H x y w r Q E R e d h=>by
     let(i,j,rfl,rfl,h):=Ab1 e d h;let(l,h):=Hd h;exact(_,_,rfl,rfl,l,h.now R .int[_]))
 .exact WE.weak kop[Bht λc c c c c c c q=>and_int q][p][m] (Tr λY S H x y w r Q E R e d h=>by
   let(i,j,rfl,rfl,h):=Ab1 e d h;exact(_,_,rfl,rfl,h.now R .int[_]))
 .exact WE.weak (kop (opI λi j c c c c c l q=>by
 let C:(0:Int) < j:=l.1;let N:j < 1073741824:=l.2;exact floordiv_int () (by rw[qX i ()];exact q) .inl[PyProof.noPylong_small ()]) p m) (Tr λY S H x y w r Q E R e d h=>Bmw R e d h)
end
section
def kF(w:W):De->M W:=λuu=>pure w
def Ab(i:Nat):De->M W:=λZ=>match Z[i]? with
 |some (sr w)=>pure w
 |_=>bad
def G8:W->o9 V
 |.non=>sr .non
 |.bl b=>sr .bl[b]
 |.int i=>sr .int[i]
 |.str x=>sr .str[x]
 |_=>sy
def Atb(h:D.G8 w=sr v):RV a Y H w v:=by
 cases w <;> simp[D.G8] at h <;> subst h
 .exact .non
 .exact .bl _
 .exact .int _
 .exact .str _
def Aky(a:D.G8 w=sr v)(h:WE X e tC[v]):WE X e (tF c E kF[w]):=(WE.weak h λb H Q q=>by
 let(Y,S,Z,R,d,q):=q;exact q.now R Atb[a])
def Bmy{i:Nat}(c:WE X e Bhk[i]):WE X e (tF j E Ab[i]):=(WE.weak c λh H Q q=>by
 let(Y,S,Z,R,b,q):=q;simp[Ab] at q;cases a:Z[i]? with
 |none=>rw[a] at q;trivial
 |some o=>
  rw[a] at q;cases o with
  |none=>trivial
  |some w=>
   let(v,f,d):=b i w a;exact(v,f,q.now R d))
def asB{α:Type}(w:W)(k:Bool->M α):M α:=match w with
 |.bl b=>k b
 |_=>bad
def Jk(f g:De->M W):De->M W:=λZ=>do let x<-f Z;asB x λb=>if b then g Z else pure .bl[t7]
def orF(f g:De->M W):De->M W:=λZ=>do let x<-f Z;asB x λb=>if b then pure .bl[t8] else g Z
def Bmz(f:De->M W):De->M W:=λZ=>do let x<-f Z;asB x λb=>pure .bl[!b]
def Dp(f:De->M W):De->M Bool:=λZ=>do let x<-f Z;asB x λb=>pure b
def Jz(c:De->M Bool)(f g:De->M W):De->M W:=λZ=>do let b<-c Z;if b then f Z else g Z
def Afv{e d:Type}{a:lg aM->Hp->e->d->Prop}{Y:lg aM}{H:Hp}{S:Store}{w:W}{v:V}{k:Bool->M e}{Q:d->Hp->Prop}{E:XK}(h:RV f Y H w v)(q:Bb f a Y H (asB w k S) Q E):∃b,v=.bl b/\Bb f a Y H (k b S) Q E:=by
 cases h <;> first|exact(q).elim|exact(_,rfl,q)
def Aq6(k:∀a H Q,tF c E f a H Q->t a H Q)(h:WT X e tB[t]):WT X e (tFb c E Dp[f]):=(WT.weak h λa H Q d=>by
 let(Y,S,Z,R,g,q):=d;refine k a H _ (Y,S,Z,R,g,(Bb.seq q).mono ?_);rintro v s ⟨p,r,w,o,n,m,i,l⟩;let(b,rfl,j):=Afv i l;exact(b,rfl,j.now m rfl))
def Bpe(p:WT X c (tFb d E t))(s:WE X a (tF d E f))(r:WE X b (tF d E g)):WE X (.IfExp c a b o) tF[d][E][Jz t f g]:=(WE.weak[kif p s r] λx H Q n=>by
 let(Y,S,Z,R,e,q):=n;refine(Y,S,Z,R,e,(Bb.seq q).mono ?_);rintro v y ⟨k,l,w,j,h,m,rfl,i⟩;cases w with
 |true=>exact L2.Akf (k,l,Z,m,e.mono j h,i)
 |false=>exact L2.Ane (k,l,Z,m,e.mono j h,i))
def Cop.fn:Cop->W->W->M W
 |.lt=>Avw (λi j=>decide[i < j]) Iw
 |.le=>Avw (λi j=>decide[i<=j]) (λi j=>!Iw j i)
 |.gt=>Avw (λi j=>decide[j < i]) (λi j=>Iw j i)
 |.ge=>Avw[λi j=>decide[j<=i]][λi j=>!Iw i j]
def nilF:De->M lg[W]:=λuu=>pure []
def Eu(f:De->M W)(g:De->M lg[W]):De->M lg[W]:=λZ=>do let x<-f Z;let xs<-g Z;pure (x::xs)
def Df(g:De->M lg[W]):De->M W:=λZ=>do let xs<-g Z;Akx xs
def Hf(g:De->M lg[W]):De->M W:=λZ=>do let xs<-g Z;Ck xs
def Bir(s:WE X a (tF b E f))(r:WA X d (tFs b E t))(p:starEach (a::d) X.env=(u6 t7 (eval a X.env))::starEach d X.env):WA X (a::d) tFs[b][E][Eu f t]:=(WA.weak[⟨Aah s.un r.un p⟩] λz H Q h=>by
 let(Y,S,Z,R,e,q):=h;refine(Y,S,Z,R,e,(Bb.seq (Rel:=RV b) q).mono ?_);rintro v G ⟨u,x,w,o,j,y,k,m⟩;refine(u,x,Z,y,e.mono o j,(Bb.seq (Rel:=RVs b) m).mono ?_);rintro B F ⟨C,D,A,n,i,R2,c,l⟩;exact l.now R2 .cons[k.mono n i][c])
def Bm0{j:Nat}(h:WA X i (tFs c E g)):WE[X][.Tuple i j f][tF c E Df[g]]:=(WE.weak Bo3[h] λn H Q d=>by
 let(Y,S,Z,R,e,q):=d;refine(Y,S,Z,R,e,(Bb.seq q).mono ?_);rintro r w ⟨k,v,o,t,s,l,a,b⟩;let(u,b):=Hd[by trivial]
 exact(Jy (by rw[<-a.length];omega),λp hp=>b k _ _ aP[_] Bu[hp] l.beside[hp] .tup[Bd][a.mono aP[_] Bu[hp]]))
def Bm1(h:WA X l (tFs e E k)):WE[X][.List l j][tF e E Hf[k]]:=(WE.weak Bo2[h] λm H Q f=>by
 let(Y,S,Z,R,i,q):=f;refine(Y,S,Z,R,i,(Bb.seq q).mono ?_);rintro n u ⟨s,t,g,r,o,d,a,b⟩;simp[Ck] at b;by_cases c:g.length<=big
 .rw[di c] at b;refine(Jy (by rw[<-a.length];omega),λp hp=>b _ _ _ (cF _ _) Bu[hp] (d.alloc hp (_,Bd,a.mono[cF _ _][Bu hp])) .ref[?_])
  rw[<-d.len];exact Ma
 .rw[dm c] at b;trivial)
def Dm(s:lg W->M W)(g:De->M lg[W]):De->M W:=λZ=>do let ws<-g Z;s ws
def Bis{n:Nat}(D:Xa X.K X.mg x U ps y fd)(F:Ib X.prog X.w X.K X.mg X.base CX n y fd ps (spF c s) z)(o:Ho n X.A z)(m:Dv CX X E)(u:WA X (a::b) (tFs c E v))(r:X.env.kindOf x=sr .globalImplicit)(g:(x==("__debug__":t6))=t7)(t:starEach (a::b) X.env=(u6 t7 (eval a X.env))::starEach b X.env)(f:(backTo e (starEach b X.env)).any (·.1)=t7):
  WE X (.Call (.Name x p) (a::b) [] e) tF[c][E][Dm s v]:=(WE.weak[⟨Ang F o r D.gl D.fn.kp D.bd .nil m u.un g t f⟩] λN H Q i=>by
 let(Y,S,Z,R,k,q):=i;refine(Y,S,Z,R,k,(Bb.seq (Rel:=RVs c) q).mono ?_);rintro O H1 ⟨B,G,j,T,P,I,d,l⟩;exact(B,G,j,I,by rw[bC];exact d,l))
end
def Ayt(K:aF)(H:Hp)(x y:V):Prop:=L2.G8 y=t8\/x=.non/\∃a ys,y=.ref a/\SqT K H a ys
def Bit(K:aF)(neg:Bool):R2:=λx y H Q=>∃p xs,y=.ref p/\(SqL K H p xs\/SqT K H p xs)/\L2.G8 x=t8/\(∀y∈xs,Ayt K H x y)/\Q (.bl (if neg then !inV x xs else inV x xs)) H
section
theorem Aam(I:L2.Inv X B p H s)(hu:A.units < cLine)(g:RelV x v)(i:L2.G8 x=t8):∀{c:lg V} {d:lg aH},Vals c d->(∀y∈c,Ayt X.K H x y)->(∀u∈d,aAx A s u v (eqU x u))/\d.any eqU[x]=inV x c
 |_,_,.nil,_=>(λu hu=>(by trivial),rfl)
 |y::c,u::d,.cons r t,f=>by
  let(e,o):=gJ.mp f;let(m,l):=Aam I hu g i t o;let k:aAx A s u v (eqU x u)/\eqU x u=L2.eqV y x:=by
   rcases e with e|⟨rfl,a,q,rfl,h⟩
   .rw[Bh3 r e];exact(Bh2 r g e i,rfl)
   .cases r;cases g;let(n,w,pl,z):=I.tuple h;exact(aDn pl hu,rfl)
  refine(gJ.mpr (k.1,m),?_);unfold inV at l ⊢
  simp_all
def Biu(hu:X.A.in1.units < cLine):OpR X compareOp[.In] (Bit X.K t7):=by
 intro j s g H x y v u Q I b e h;let(p,i,rfl,hq,d,fs,q):=h;cases e;rcases hq with hq|hq
 .let(a,r,pl,f):=I.list hq;let z:=Aam I hu b d r fs;refine SeqAt.in_listAt _ pl.isList (λw c=>z.1 w (by simp_all)) (.bl _,H,I,rfl,?_)
  rw[show a.toArray.any _=a.any eqU[x] by simp,z.2]
  exact q
 .let(a,r,pl,f):=I.tuple hq;let z:=Aam I hu b d r fs;refine SeqAt.in_tupleAt _ pl (λw c=>z.1 w (by simpa using c)) (.bl _,H,I,rfl,?_)
  rw[show a.toArray.any _=a.any eqU[x] by simp,z.2]
  exact q
def Avx(hu:X.A.in1.units < cLine):OpR X compareOp[.NotIn] (Bit X.K t8):=by
 intro j s g H x y v u Q I b e h;let(p,i,rfl,hq,d,fs,q):=h;cases e;rcases hq with hq|hq
 .let(a,r,pl,f):=I.list hq;let z:=Aam I hu b d r fs;refine SeqAt.notIn_listAt _ pl.isList (λw c=>z.1 w (by simp_all)) (.bl _,H,I,rfl,?_)
  rw[show a.toArray.any _=a.any eqU[x] by simp,z.2]
  exact q
 .let(a,r,pl,f):=I.tuple hq;let z:=Aam I hu b d r fs;refine SeqAt.notIn_tupleAt _ pl (λw c=>z.1 w (by simpa using c)) (.bl _,H,I,rfl,?_)
  rw[show a.toArray.any _=a.any eqU[x] by simp,z.2]
  exact q
end
def Ds{α β:Type}(f:α->o9 β):lg α->o9 lg[β]
 |[]=>sr []
 |a::as=>(f a).bind λb=>(Ds f as).map (b::·)
def Fd(S:Store):Nat->W->o9 nQ
 |0,.non=>sr .none
 |0,.bl b=>sr .bool[b]
 |0,.int i=>sr .int[i]
 |0,.str x=>sr .str[x]
 |0,_=>sy
 |_+1,.non=>sr .none
 |_+1,.bl b=>sr .bool[b]
 |_+1,.int i=>sr .int[i]
 |_+1,.str x=>sr .str[x]
 |n+1,.tup ws=>(Ds (Fd S n) ws).map oG
 |n+1,.ref k=>match S[k]? with
  |some (.lst ws)=>(Ds (Fd S n) ws).map PyData.list
  |some (.dct [])=>sr .dict[[]]
  |_=>sy
 |_+1,.scr _=>sy
 |_+1,.ty _=>sy
 |_+1,.cls _=>sy
 |_+1,.exn _ _=>sy
section
theorem Akz(hf:∀w v d,RV k Y H w v->f w=sr d->DV H v d):∀{b:lg W} {g:lg V} {c:lg nQ},RVs k Y H b g->Ds f b=sr c->DVs H g c
 |_,_,_,.nil,e=>by cases e;exact .nil
 |w::b,_,c,.cons h r,e=>by
  rw[Ds] at e;cases j:f w with
  |none=>simp_all
  |some d=>
   rw[j] at e;cases i:Ds f b with
   |none=>simp_all
   |some l=>
    rw[i] at e;cases e;exact .cons[hf _ _ _ h j][Akz hf r i]
theorem Aan(R:Rep t Y S H):∀(n:Nat)(w:W)(v:V)(d:nQ),RV t Y H w v->Fd S n w=sr d->DV H v d
 |0,w,v,d,h,e=>by
  cases h <;> simp only[Fd,gQ,reduceCtorEq] at e <;> subst e
  .exact .non
  .exact .bl _
  .exact .int _
  .exact .str _
 |n+1,w,v,d,h,e=>by
  cases h with
  |non=>cases e;exact .non
  |bl b=>cases e;exact .bl _
  |int i=>cases e;exact .int _
  |str x=>cases e;exact .str _
  |scr _=>cases e
  |ty _=>cases e
  |cls _=>cases e
  |exn _ _ _=>cases e
  |exf _ _ _ _ _ _=>cases e
  |@tup a o s m g=>
   rw[Fd] at e;cases f:Ds (Fd S n) o with
   |none=>rw[f] at e;cases e
   |some y=>
    rw[f] at e;cases e;exact .tup m Akz[Aan R n][g][f]
  |@ref k a u=>
   rw[Fd] at e;cases r:S[k]? with
   |none=>rw[r] at e;cases e
   |some c=>
    rw[r] at e;let(A,l,q):=R.get r;rw[u] at l;cases l;cases c with
    |lst o=>
     let(s,m,g):=q;cases f:Ds (Fd S n) o with
     |none=>simp_all
     |some y=>
      simp only[f] at e;cases e;exact .lst m Akz[Aan R n][g][f]
    |dct j=>
     cases j with
     |nil=>
      cases e;let(s,m,g):=q;cases g;exact .dct m
     |cons p j=>cases e
    |ins c fs=>cases e
end
def eqD(neg:Bool)(x y:W):M W:=λS=>match Fd S 16 x,Fd S 16 y with
 |some d,sr e=>if lN d&&lN e then .ok (.bl (if neg then !qZ d e else qZ d e)) S else .bad
 |_,_=>.bad
def eqW(neg:Bool)(x y:W):M W:=match x,y with
 |.str a,.str b=>pure (.bl (if neg then !(a==b) else a==b))
 |x,y=>eqD neg x y
def Ann:W->Bool
 |.non=>t8
 |_=>t7
def Biv:Cell->Bool
 |.dct _=>t7
 |_=>t8
def isW(neg:Bool):W->W->M W
 |x,.non=>pure (.bl (if neg then !Ann x else Ann x))
 |.ref n,.ref m=>λS=>match S[n]?,S[m]? with
  |some c,sr d=>if Biv c&&Biv d then .ok (.bl (if neg then !decide (n=m) else decide[n=m])) S else .bad
  |_,_=>.bad
 |_,_=>bad
def Ac6:W->Bool
 |.non=>t8
 |.bl _=>t8
 |.int _=>t8
 |.str _=>t8
 |_=>t7
def eqF:W->W->Bool
 |.non,.non=>t8
 |.bl a,.bl b=>a==b
 |.bl a,.int b=>(if a then 1 else 0)==b
 |.int a,.bl b=>a==(if b then 1 else 0)
 |.int a,.int b=>a==b
 |.str a,.str b=>a==b
 |_,_=>t7
def Afw:W->o9 Key
 |.int i=>sr .inl[i]
 |.str x=>sr .inr[x]
 |_=>sy
def Ak0(kvs:lg[Key×W])(k:Key):o9 W:=(kvs.find? λp=>decide[p.1=k]).map (·.2)
def Bm2:W->Bool
 |.tup _=>t8
 |_=>t7
def Ak1(x u:W):Bool:=Ac6 u||Ann x&&Bm2 u
def Avy(neg:Bool)(x:W)(ws:lg W):M W:=if Ac6 x&&ws.all Ak1[x] then pure (.bl (if neg then !ws.any (eqF · x) else ws.any (eqF · x))) else bad
def inW(neg:Bool)(x y:W):M W:=match y with
 |.str j=>match x with
  |.str i=>pure (.bl (if neg then !(!(cQ j i 0 j.length 1).isEmpty) else !(cQ j i 0 j.length 1).isEmpty))
  |_=>bad
 |.tup ws=>Avy neg x ws
 |.ref n=>λS=>match S[n]? with
  |some (.lst ws)=>Avy neg x ws S
  |some (.dct kvs)=>match Afw x with
   |some k=>.ok (.bl (if neg then !(Ak0 kvs k).isSome else (Ak0 kvs k).isSome)) S
   |none=>.bad
  |_=>.bad
 |_=>bad
section
def Aem(b:RV c Y H x a)(h:Afw x=sr k):a=kV k:=by
 cases b <;> simp only[Afw,gQ,reduceCtorEq] at h <;> subst h <;> rfl
def Atc(r:RKV d Y H a c)(k:Key):(∃w v,Ak0 a k=sr w/\Xl c k=sr v/\RV d Y H w v)\/(Ak0 a k=sy/\Xl c k=sy):=by
 induction r with
 |nil=>exact .inr (rfl,rfl)
 |@cons p q _ _ h r f=>
  unfold Ak0 Xl at f ⊢
  rw[aAj,aAj];by_cases e:p.1=k
  .let b:=h.1.symm.trans e;rw[dj e,dj b];exact .inl (_,_,rfl,rfl,h.2)
  .let b:=λz=>e h.1.trans[z];rw[dq e,dq b];omega
def Jd{b a:Type}{Rel:lg aM->Hp->b->a->Prop}{w:b}{v:a}{Q:a->Hp->Prop}(h:Bb d Rel Y H (.ok w S) Q E)(r:Rep d Y S H)(q:Rel Y H w v):Q v H:=(
 h Y H v aP[Y] (Dd.refl Y H) r q)
set_option tactic.hygienic true in
def Bm3(R:Rep b Y S H)(k:RV b Y H x f)(g:RV b Y H y c)(h:Bb b RV[b] Y H (eqW a x y S) Q E):
  (∃i j,f=.str i/\c=.str j/\Q (.bl (if a then !(i==j) else i==j)) H)\/∃d e,DV H f d/\DV H c e/\lN d=t8/\lN e=t8/\Q (.bl (if a then !qZ d e else qZ d e)) H:=by
 unfold eqW at h;split at h
 .obtain rfl:=k.sI;obtain rfl:=g.sI;exact .inl (_,_,rfl,rfl,Jd h R .bl[_])
 .exact .inr (by
   simp only[eqD] at h;split at h
   .rename_i d e p o;split at h
    .rename_i n;let(m,l):=bY.mp n;exact(d,e,Aan R 16 _ _ _ k p,Aan R 16 _ _ _ g o,m,l,Jd h R .bl[_])
    .exact(show False from h).elim
   .exact(show False from h).elim)
def Ayu(b:RV c Y H x a):Ann x=decide[a=.non]:=by
 cases b <;> simp[Ann]
def Atd(h:Nv e Y H a c)(f:Biv c=t8):∃o,H a=sr o/\isObj o=t8:=by
 cases c with
 |lst b=>let(d,h,_):=h;exact(_,h,rfl)
 |dct b=>trivial
 |ins c b=>let(g,d,h,_):=h;exact(_,h,rfl)
def Rep.inj(R:Rep i Y S H){n m:Nat}(g:Y[n]?=sr a)(f:Y[m]?=sr b):decide[n=m]=decide[a=b]:=by
 let(k,d):=aK.mp g;let(j,c):=aK.mp f;refine decide_eq_decide.mpr (λe=>?_,λe=>(oX R.nd).mp d.trans[e.trans[c.symm]])
 .subst e;exact d.symm.trans c
set_option tactic.hygienic true in
def Bm4(R:Rep f Y S H)(k:RV f Y H x i)(A:RV f Y H y j)(h:Bb f RV[f] Y H (isW e x y S) Q E):
  (j=.non/\Q (.bl (if e then !decide (i=.non) else decide[i=.non])) H)\/(∃a b g ob,i=.ref a/\j=.ref b/\H a=sr g/\isObj g=t8/\H b=sr ob/\isObj ob=t8/\Q (.bl (if e then !decide (a=b) else decide[a=b])) H):=by
 cases A with
 |non=>
  rw[<-Ayu k];refine .inl (rfl,?_);exact h.now R .bl[_]
 |@ref m b o=>
  cases k <;> try exact(show False from h).elim
  rename_i n a l;simp only[isW] at h;split at h
  .rename_i c d C B;split at h
   .rename_i z;let(q,p):=bY.mp z;let s:=R.at_ _ _ _ l C;let r:=R.at_ _ _ _ o B;let(g,w,v):=Atd s q;let(ob,u,t):=Atd r p;rw[R.inj l o] at h;exact .inr (a,b,g,ob,rfl,rfl,w,v,u,t,Jd h R .bl[_])
   .exact(show False from h).elim
  .exact(show False from h).elim
 |_=>trivial
def Ayv(b:RV c Y H x a)(h:Ac6 x=t8):L2.G8 a=t8:=by
 cases b <;> first|rfl|trivial
def Biw(hu:RV a Y H u c)(d:RV a Y H x b)(f:Ak1 x u=t8)(g:Ac6 x=t8):eqF u x=L2.eqV c b:=by
 cases x <;> first|(cases g;done)|(cases d;cases hu <;> rfl)
def Bdp(hu:RV a Y H u c)(d:RV a Y H x b)(f:Ak1 x u=t8):Ayt a.K H b c:=by
 cases hu with
 |tup e g=>
  cases d <;> first|exact .inr (rfl,_,_,rfl,SqT.of e)|trivial
 |_=>first|exact .inl rfl|(simp[Ak1,Ac6,Bm2] at f)
theorem Ano(d:RV f Y H x i)(g:Ac6 x=t8):∀{b:lg W} {c:lg V},RVs f Y H b c->b.all Ak1[x]=t8->(∀y∈c,Ayt f.K H i y)/\b.any (eqF · x)=inV i c
 |_,_,.nil,_=>(λj h=>(nomatch h),rfl)
 |_,_,.cons h r,e=>by
  rw[cP,aB] at e;let z:=Ano d g r e.2;refine(gJ.mpr (Bdp h d e.1,z.1),?_);let z:=z.2;unfold inV at z ⊢
  rw[mZ,mZ,Biw h d e.1 g,z]
def Ate(R:Rep a Y S H)(f:RV a Y H x b)(r:RVs a Y H i c)(h:Bb a RV[a] Y H (Avy d x i S) Q E):
  L2.G8 b=t8/\(∀y∈c,Ayt a.K H b y)/\Q (.bl (if d then !inV b c else inV b c)) H:=by
 let(j,h):=Hd h;let(e,g):=bY.mp j;let z:=Ano f e r g;rw[z.2] at h;exact(Ayv f e,z.1,h.now R .bl[_])
set_option tactic.hygienic true in
def Bm5(R:Rep d Y S H)(g:RV d Y H x n)(C:RV d Y H y l)(h:Bb d RV[d] Y H (inW c x y S) Q E):
  (∃i j,n=.str i/\l=.str j/\Q (.bl (if c then !(!(cQ j i 0 j.length 1).isEmpty) else !(cQ j i 0 j.length 1).isEmpty)) H)\/Bit d.K c n l H Q\/∃a o,l=.ref a/\Afk H a n o/\Q (.bl (if c then !o.isSome else o.isSome)) H:=by
 cases C with
 |str j=>
  cases g <;> try exact(show False from h).elim
  exact .inl (_,_,rfl,rfl,h.now R .bl[_])
 |tup f e=>
  let(r,p,q):=Ate R g e h;exact .inr (.inl (_,_,rfl,.inr SqT.of[f],r,p,q))
 |@ref m b u=>
  simp only[inW] at h;split at h
  .rename_i F s;let(t,f,e):=R.at_ _ _ _ u s;let(r,p,q):=Ate R g e h;exact .inr[.inl (_,_,rfl,.inl .inl[.inl[f]],r,p,q)]
  .rename_i B s;let(t,f,e):=R.at_ _ _ _ u s;split at h
   .rename_i k D;rw[Aem g D];refine .inr[.inr (b,Xl t k,rfl,Afk.k f,?_)];rcases Atc e k with ⟨w,v,A,z,_⟩|⟨A,z⟩ <;> rw[A] at h <;> rw[z] <;> exact Jd h R .bl[_]
   .exact(show False from h).elim
  .exact(show False from h).elim
 |_=>exact(show False from h).elim
end
section
def Aq7(hu:X.A.units+1 < cLine):OpR X compareOp[.In] (λx y H Q=>∃a o,y=.ref a/\Afk H a x o/\Q .bl[o.isSome] H):=by
 intro i s e H x y v u Q I c b h;let(a,o,rfl,g,q):=h;obtain rfl:_:=b;exact L2.Boy hu I g c λf d=>(.bl o.isSome,H,d,rfl,q)
def Aic(hu:X.A.units+1 < cLine):OpR X compareOp[.NotIn] (λx y H Q=>∃a o,y=.ref a/\Afk H a x o/\Q .bl[!o.isSome] H):=by
 intro i s e H x y v u Q I c b h;let(a,o,rfl,g,q):=h;obtain rfl:_:=b;exact L2.Bcu hu I g c λf d=>(.bl _,H,d,rfl,q)
def Bix:OpR X compareOp[.Eq] (λx y H Q=>∃i j,x=.str i/\y=.str j/\Q .bl[i==j] H):=by
 intro e s c H x y v u Q I b a h;let(i,j,rfl,rfl,q):=h;let(t,rfl):=b;let(d,rfl):=a;exact eq_str[Kv I q rfl]
def Biy:OpR X compareOp[.NotEq] (λx y H Q=>∃i j,x=.str i/\y=.str j/\Q .bl[!(i==j)] H):=by
 intro e s c H x y v u Q I b a h;let(i,j,rfl,rfl,q):=h;let(t,rfl):=b;let(d,rfl):=a;exact ne_str[Kv I q rfl]
end
def El:yM->W->W->M W
 |.Lt=>Cop.fn .lt
 |.LtE=>Cop.fn .le
 |.Gt=>Cop.fn .gt
 |.GtE=>Cop.fn .ge
 |.Eq=>eqW t7
 |.NotEq=>eqW t8
 |.In=>inW t7
 |.NotIn=>inW t8
 |.Is=>isW t7
 |.IsNot=>isW t8
def Dz(op:yM)(f g:De->M W):De->M W:=λZ=>do let x<-f Z;let y<-g Z;El op x y
structure Biz(Θ:Th)(X:Cx)(op:yM):Type where
 r:R2
 ok:OpR X (compareOp op) r
 by_:∀Y S H x y vx vy Q E,Rep Θ Y S H->RV Θ Y H x vx->RV Θ Y H y vy->Bb Θ (RV Θ) Y H (El op x y S) Q E->r vx vy H Q
theorem Avz(T:Th)(X:Cx)(hK:X.K=T.K)(hu:X.A.units+64 < cLine):∀U:yM,Nonempty (Biz T X U)
 |.Lt=>⟨(_,Bls.or (by
   intro o s n H x y v u Q I k g h;let(i,j,rfl,rfl,q):=h;let(t,rfl):=k;let(p,rfl):=g;exact lt_str[Kv I q rfl]),λY S H x y m l Q E R f c h=>Bdo R f c h)⟩
 |.LtE=>⟨(_,Blt.or (by
   intro o s n H x y v u Q I k g h;let(i,j,rfl,rfl,q):=h;let(t,rfl):=k;let(p,rfl):=g;exact PySem.P.le_str[Kv I q rfl]),λY S H x y m l Q E R f c h=>Bdo R f c h)⟩
 |.Gt=>⟨(_,Blu.or (by
   intro o s n H x y v u Q I k g h;let(i,j,rfl,rfl,q):=h;let(t,rfl):=k;let(p,rfl):=g;exact PySem.P.gt_str[Kv I q rfl]),λY S H x y m l Q E R f c h=>Bdo R f c h)⟩
 |.GtE=>⟨(_,Blv.or (by
   intro o s n H x y v u Q I k g h;let(i,j,rfl,rfl,q):=h;let(t,rfl):=k;let(p,rfl):=g;exact PySem.P.ge_str[Kv I q rfl]),λY S H x y m l Q E R f c h=>Bdo R f c h)⟩
 |.Eq=>⟨(_,Bix.or (by
   intro o s n H x y v u Q I k g h;let(d,e,hd,G,w,r,q):=h;let(as,C):=hd.reads I k;let(bs,B):=G.reads I g;exact eq_dataH C B w r hu (.bl _,H,I,rfl,q)),λY S H x y m l Q E R f c h=>Bm3 R f c h)⟩
 |.NotEq=>⟨(_,Biy.or (by
   intro o s n H x y v u Q I k g h;let(d,e,hd,G,w,r,q):=h;let(as,C):=hd.reads I k;let(bs,B):=G.reads I g;exact ne_dataH C B w r hu (.bl _,H,I,rfl,q)),λY S H x y m l Q E R f c h=>Bm3 R f c h)⟩
 |.In=>⟨(_,Au8.or[(Biu (show X.A.units+1 < cLine by omega)).or (Aq7 ())],λY S H x y m l Q E R f c h=>by rw[hK];exact Bm5 R f c h)⟩
 |.NotIn=>⟨(_,Aka.or[(Avx (show X.A.units+1 < cLine by omega)).or (Aic ())],λY S H x y m l Q E R f c h=>by rw[hK];exact Bm5 R f c h)⟩
 |.Is=>⟨(_,Bhx.or (by
   intro o s n H x y v u Q I k g h;let(a,b,Z,ob,rfl,rfl,L,pa,J,D,q):=h;cases k;cases g;let(o1,O,F):=Wg I L pa;let(o2,N,_):=Wg I J D;by_cases z:a=b
   .subst z;exact wpAny_is_ref_self Kv[I][q][by simp]
   .exact wpAny_is_ref_other z O N F Kv[I][q][by simp[z]]),λY S H x y m l Q E R f c h=>Bm4 R f c h)⟩
 |.IsNot=>⟨(_,Bcn.or (by
   intro o s n H x y v u Q I k g h;let(a,b,Z,ob,rfl,rfl,L,pa,J,D,q):=h;cases k;cases g;let(o1,O,F):=Wg I L pa;let(o2,N,_):=Wg I J D;by_cases z:a=b
   .subst z;exact wpAny_isNot_ref_self Kv[I][q][by simp]
   .exact wpAny_isNot_ref_other z O N F Kv[I][q][by simp[z]]),λY S H x y m l Q E R f c h=>Bm4 R f c h)⟩
def Aid{α:Type}:o9 α->M α
 |some a=>pure a
 |none=>bad
def ixW(x y:W):M W:=match x with
 |.str z=>match y with
  |.int i=>if z.length<=big then Aid[(atI z.cps.toList i).map λc=>W.str ⟨#[c]⟩] else bad
  |_=>bad
 |.tup ws=>match y with
  |.int i=>Aid (atI ws i)
  |_=>bad
 |.scr ns=>match y with
  |.int i=>Aid ((atI ns i).map W.int)
  |_=>bad
 |.ref n=>λS=>match S[n]? with
  |some (.lst ws)=>match y with
   |.int i=>Aid (atI ws i) S
   |_=>.bad
  |some (.dct kvs)=>match Afw y with
   |some k=>Aid (Ak0 kvs k) S
   |none=>.bad
  |_=>.bad
 |_=>bad
def ixF(f g:De->M W):De->M W:=λZ=>do let x<-f Z;let y<-g Z;ixW x y
section
def Bdq(hu:X.A.units+1 < cLine):IxR X (λx y H Q=>∃a v,x=.ref a/\Afk H a y sr[v]/\Q v H):=by
 intro value slice z s n H x y v u Q I j i h l;let(a,w,rfl,g,q):=h;obtain rfl:v=bQ a:=j;exact aAv (by
   rcases g with ⟨d,k,e,_,_⟩|⟨d,k,b,e,_,_,_⟩
   .let(_,_,r,_,f):=Aix I.hok e;exact f.typeIs
   .let(_,_,o,_,f):=Anb I.hok e;exact f.typeIs) rG.lookup (Avd hu I g i λp t m c=>(w,H,m,c,q)) l
end
section
def Wk{b c:Type}{a:lg aM->Hp->b->c->Prop}{Q:c->Hp->Prop}{o:o9 b}(h:Bb e a Y H (Aid o S) Q E):∃w,o=sr w/\Bb e a Y H ((pure w:M b) S) Q E:=by
 cases o with
 |none=>trivial
 |some w=>exact(w,rfl,h)
def RVs.at{i:Int}(r:RVs b Y H a vs)(h:atI a i=sr w):∃v,atI vs i=sr v/\RV b Y H w v:=by
 unfold atI at h ⊢
 rw[<-r.length];cases e:ixN a.length i with
 |none=>simp_all
 |some j=>
  rw[e] at h;exact r.get h
def Bdr{b d:Type}(f:b->d)(a:lg b)(i:Int):atI a.map[f] i=(atI a i).map f:=by
 unfold atI;rw[aC];cases ixN a.length i with
 |none=>rfl
 |some j=>exact cH
end
section
def Bpf(hK:X.K=p.K)(hu:X.A.units+64 < cLine)(G:WE X a (tF p E f))(F:WE X b (tF p E g))(q:Aek b):WE X (.Subscript a b u) tF[p][E][ixF f g]:=(
 WE.weak (kix Bh1.or[Bdq ()] G F q) (Tr λY S H x y O N Q E R D l h=>by rw[hK];exact(by
   cases D with
   |str z=>
    simp only[ixW] at h;split at h <;> try exact(show False from h).elim
    obtain rfl:=l.iI;let(C,h):=Hd h;let(w,e,h):=Wk h;let(c,d,rfl):=bF.mp e;exact .inl .inr[.inr (_,_,c,rfl,rfl,Jy C,d,h.now R .str[_])]
   |tup m j=>
    simp only[ixW] at h;split at h <;> try exact(show False from h).elim
    obtain rfl:=l.iI;let(w,e,h):=Wk h;let(v,d,i):=j.at e;exact .inl .inr[.inl (_,_,_,v,rfl,rfl,SqT.of m,d,h.now R i)]
   |scr q=>
    simp only[ixW] at h;split at h <;> try exact(show False from h).elim
    obtain rfl:=l.iI;let(w,e,h):=Wk h;let(c,d,rfl):=bF.mp e;exact .inl (.inl (_,_,_,.int c,rfl,rfl,q.sq,by rw[Bdr,d];rfl,h.now R .int[_]))
   |@ref n a r=>
    simp only[ixW] at h;split at h
    .rename_i J d;let(t,m,j):=R.at_ _ _ _ r d;split at h <;> try exact(show False from h).elim
     obtain rfl:=l.iI;let(w,e,h):=Wk h;let(v,d,i):=j.at e;exact .inl[.inl (_,_,_,v,rfl,rfl,.inl .inl[m],d,h.now R i)]
    .rename_i B d;let(t,m,j):=R.at_ _ _ _ r d;split at h
     .rename_i k I;rw[Aem l I];let(w,e,h):=Wk h;rcases Atc j k with ⟨L,v,o,s,i⟩|⟨o,s⟩
      .rw[e] at o;cases o;exact .inr (a,v,rfl,s ▸ Afk.k m,h.now R i)
      .rw[e] at o;cases o
     .exact(show False from h).elim
    .exact(show False from h).elim
   |_=>exact(show False from h).elim)))
end
section
open HT in
def Av0{lo hi:o9 Int}(b:aAo s.heap t a)(j:s.heap.IsSliceOf g l k .none)(pl:uD l lo)(m:uD k hi)(i:sIx a.size 0 lo=0/\sIx a.size a.size hi=a.size)(h:Q .ref[t] s):wpAny (model prog w) A (getItem .ref[t] .ref[g]) Q E s:=by
 let(os,d,e,n):=id j;let f:s.TypeIs .ref[g] "slice":=(os,d,e);unfold getItem
 try with_reducible refine fB ?_
 first|refine aA aJ[?_]|skip
 refine aA[rO b.typeIs () ?_]
 refine aA (dC (name:=mR "__getitem__") b.typeIs fD
  (dH fD b.typeIs vZ ?_ (wY _ _)))
 show wpAny _ _ (qO .ref[t] >>= _) _ _ s;refine aA[tupleItemsOf_ b ?_];refine aA[nZ f ?_];rw[di ()]
 refine aA[Qi j pl m ?_];show wpAny _ _ (if (((sIx a.size 0 lo:Nat):Int)==0&&(1:Int)==1&&(sIx a.size a.size hi - sIx a.size 0 lo)==a.size)=t8 then _ else _) _ _ s
 rw[di (by rw[i.1,i.2];simp)]
 unfold aBl;refine aA aA[nZ b.typeIs aJ[?_]];rw[di ()]
 first
  |exact aA oZ[aJ (_,rfl,aJ h)]
  |exact aA aJ[aJ (_,rfl,aJ h)]
  |exact aJ (_,rfl,aJ h)
def Bg2(K:aF):V->o9 Int->o9 Int->Hp->VK->Prop:=λx lo hi H Q=>∃a xs,x=.ref a/\SqT K H a xs/\HT.sIx xs.length 0 lo=0/\HT.sIx xs.length xs.length hi=xs.length/\Q .ref[a] H
def Bds:SlR X Bg2[X.K]:=by
 intro u s k H x v m l lo hi n Q I f j pl g h;let(a,e,rfl,i,t,p,q):=h;cases f;let(c,r,d,o):=I.tuple i;let b:c.toArray.size=e.length:=r.length.symm;refine("tuple",_,fD.lookup,d.typeIs,Av0 d j pl g (by rw[b];trivial) (.ref a,H,I,rfl,q))
end
def Anp(ws:lg W)(lo hi:o9 Int):lg W:=(ws.drop[HT.sIx ws.length 0 lo]).take (HT.sIx ws.length ws.length hi - HT.sIx ws.length 0 lo)
def slW(x:W)(lo hi:o9 Int):M W:=match x with
 |.str z=>if z.length<=big then pure .str[fQ z lo hi] else bad
 |.tup ws=>pure .tup[Anp ws lo hi]
 |.scr ns=>Ck (Anp ns.map[W.int] lo hi)
 |.ref n=>λS=>match S[n]? with
  |some (.lst ws)=>Ck (Anp ws lo hi) S
  |_=>.bad
 |_=>bad
def Bx(f:De->M W):De->M o9[Int]:=λZ=>do let x<-f Z;match x with
 |.int i=>pure sr[i]
 |_=>bad
def Ci:De->M o9[Int]:=λuu=>pure sy
def slF(f:De->M W)(l h:De->M o9[Int]):De->M W:=λZ=>do let x<-f Z;let lo<-l Z;let hi<-h Z;slW x lo hi
def tFo(Θ:Th)(E:L2.St->XK)(f:De->M o9[Int]):TO:=λσ H Q=>TF Θ (λuu uu a b=>a=b) f σ H Q E[σ]
section
theorem RVs.drop(r:RVs a Y H b c):∀n,RVs a Y H b.drop[n] c.drop[n]
 |0=>r
 |n+1=>by
  cases r with
  |nil=>exact .nil
  |cons h r=>exact r.drop n
theorem RVs.take(r:RVs a Y H b c):∀n,RVs a Y H b.take[n] c.take[n]
 |0=>.nil
 |n+1=>by
  cases r with
  |nil=>exact .nil
  |cons h r=>exact .cons h r.take[n]
def RVs.cut(r:RVs a Y H b c)(lo hi:o9 Int):RVs a Y H (Anp b lo hi) (Aqs c lo hi):=by
 unfold Anp;rw[r.length];exact(r.drop _).take _
theorem Ql:∀ns:lg Int,RVs c Y H ns.map[W.int] ns.map[V.int]
 |[]=>.nil
 |n::ns=>.cons .int[n] Ql[ns]
def Gf(R:Rep a Y S H)(r:RVs a Y H b c)(h:Bb a RV[a] Y H (Ck b S) Q E):c.length<=big/\∀p,H p=sy->Q[.ref p][upd H p .lst[c]]:=by
 simp[Ck] at h;by_cases d:b.length<=big
 .rw[di d] at h;refine(by rw[<-r.length];omega,λp hp=>h _ _ _ (cF _ _) Bu[hp] (R.alloc hp (_,Bd,r.mono[cF _ _][Bu hp])) .ref[?_])
  rw[<-R.len];exact Ma
 .rw[dm d] at h;trivial
def Ab2(R:Rep a Y S H)(r:RVs a Y H b c)(h:Bb a RV[a] Y H ((pure .tup[b]:M W) S) Q E):∀p,H p=sy->Q[.ref p][upd H p .tup[c]]:=(λp hp=>
 h Y _ _ aP[_] Bu[hp] R.beside[hp] .tup[Bd][r.mono aP[_] Bu[hp]])
def Bdt{lo hi:o9 Int}(e:HT.sIx a.length 0 lo=0)(d:HT.sIx a.length a.length hi=a.length):Aqs a lo hi=a:=by
 unfold Aqs;simp_all
set_option tactic.hygienic true in
def Bpg{lo hi:o9 Int}(R:Rep c Y S H)(m:RV c Y H x f)(h:Bb c RV[c] Y H (slW x lo hi S) Q E):
  (Bl1 c.K f lo hi H Q\/Bg2 c.K f lo hi H Q)\/(Bl5 c.K f lo hi H Q\/∃z,f=.str z/\z.length<=sizeLine/\Q .str[fQ z lo hi] H):=by
 cases m with
 |str z=>
  let(l,h):=Hd h;exact .inr (.inr (z,rfl,Jy l,h.now R .str[_]))
 |@tup a k b d g=>
  let j:=g.cut lo hi;by_cases e:HT.sIx b.length 0 lo=0/\HT.sIx b.length b.length hi=b.length
  .refine .inl[.inr (a,b,rfl,SqT.of d,e.1,e.2,h.now R (.tup d ?_))];let i:=j;rw[Bdt e.1 e.2] at i;exact i
  .exact .inl (.inl (a,b,rfl,SqT.of d,e,Ab2 R j h))
 |scr o=>exact .inr (.inl (_,_,rfl,o.sq,(Gf R ((Ql _).cut lo hi) h).2))
 |@ref n a p=>
  simp only[slW] at h;split at h
  .rename_i k q;let(b,d,g):=R.at_ _ _ _ p q;exact .inr (.inl (_,_,rfl,.inl .inl[d],(Gf R (g.cut lo hi) h).2))
  trivial
 |_=>exact(show False from h).elim
end
section
def WO.weak(h:WO X o t)(k:∀σ H Q,t' σ H Q->t σ H Q):WO X o t':=⟨λaa s σ H Q I q=>h.un aa s σ H Q I (k σ H Q q)⟩
def Ayw:WO X sy (tFo b E Ci):=(WO.weak ⟨by
  intro d s a H Q I h;rw[aCa];exact aJ (sy,H,I,.none,h)⟩ λa H Q ⟨Y,S,Z,R,sl,q⟩=>q.now R rfl)
def Bi0(h:WE X a (tF b E f)):WO X sr[a] (tFo b E Bx[f]):=(WO.weak Bc8[h] λj H Q d=>by
 let(Y,S,Z,R,e,q):=d;refine(Y,S,Z,R,e,(Bb.seq (Rel:=RV b) q).mono ?_);rintro v o ⟨m,n,w,l,k,i,g,c⟩;cases g <;> first|exact(show False from c).elim|skip
 exact(_,rfl,Bb.now c i rfl))
def Bdu{lo hi:o9 cL}{l u:De->M o9[Int]}{c:Pos}(hK:X.K=b.K)(y:WE X a (tF b E f))(t:WO X lo (tFo b E l))(hu:WO X hi (tFo b E u)):WE X .Subscript[a][.Slice lo hi sy c][p] tF[b][E][slF f l u]:=(
 WE.weak[Bii ((Bh0.or Bds).or Bcs.or[Bih]) y t hu] λJ H Q i=>by
  let(Y,S,Z,R,d,q):=i;refine(Y,S,Z,R,d,(Bb.seq q).mono ?_);rintro v T ⟨A,C,w,h,g,F,k,o⟩;refine(A,C,Z,F,d.mono h g,(Bb.seq o).mono ?_);rintro s P ⟨z,B,_,c,e,R2,rfl,n⟩;refine(z,B,Z,R2,(d.mono h g).mono c e,(Bb.seq n).mono ?_);rintro x O ⟨L,N,_,r,j,D,rfl,m⟩;rw[hK];exact Bpg D ((k.mono c e).mono r j) m)
end
def Cq:lg W->M W
 |[.str z]=>if z.length<=big then pure .int[z.length] else bad
 |[.tup ws]=>pure .int[ws.length]
 |[.scr ns]=>pure .int[ns.length]
 |[.ref n]=>λS=>match S[n]? with
  |some (.lst ws)=>.ok .int[ws.length] S
  |some (.dct kvs)=>.ok .int[kvs.length] S
  |_=>.bad
 |_=>bad
def Av1:lg W->M W
 |[.str x]=>if x.length=1 then pure[.int (x.cps.getD 0 0:Nat)] else bad
 |_=>bad
def Anq:lg W->M W
 |[.int i,.int j]=>pure (.int (if j > i then j else i))
 |_=>bad
def Av2:lg W->M W
 |[.int i,.int j]=>pure (.int (if j < i then j else i))
 |_=>bad
def asInt:W->o9 Int
 |.int i=>sr i
 |_=>sy
def Bi1:W->o9 Bool
 |.bl i=>sr i
 |_=>sy
def asStr:W->o9 t6
 |.str i=>sr i
 |_=>sy
def Ak2:lg W->M W
 |[.ref n]=>λS=>match S[n]? with
  |some (.lst ws)=>match Ds asInt ws with
   |some is=>.ok .int[is.sum] S
   |none=>.bad
  |_=>.bad
 |_=>bad
def Aao:lg W->M W
 |[.ref n]=>λS=>match S[n]? with
  |some (.lst ws)=>match Ds Bi1 ws with
   |some is=>.ok .bl[is.all[id]] S
   |none=>.bad
  |_=>.bad
 |_=>bad
def Ed:lg W->M W
 |[.tup ws]=>pure .tup[ws]
 |[.scr ns]=>pure .tup[ns.map[W.int]]
 |[.ref n]=>λS=>match S[n]? with
  |some (.lst ws)=>.ok .tup[ws] S
  |_=>.bad
 |_=>bad
def chars(z:t6):lg W:=z.cps.toList.map λc=>W.str ⟨#[c]⟩
def Atf:lg W->M W
 |[.tup ws]=>Ck ws
 |[.str z]=>if z.length<=big then Ck chars[z] else bad
 |[.scr ns]=>Ck ns.map[W.int]
 |[.ref n]=>λS=>match S[n]? with
  |some (.lst ws)=>Ck ws S
  |_=>.bad
 |_=>bad
def Ak3:Key×W->o9 t6
 |(.inr s,_)=>sr s
 |_=>sy
def Aq8:Key×W->o9 Int
 |(.inl i,_)=>sr i
 |_=>sy
def Wl:lg W->M W
 |[.ref n]=>λS=>match S[n]? with
  |some (.lst ws)=>if ws.length < 64 then match Ds asStr ws with
    |some ss=>Ck ((Mt ss).map W.str) S
    |none=>match Ds asInt ws with
     |some is=>Ck ((Akm is).map W.int) S
     |none=>.bad
   else .bad
  |some (.dct kvs)=>if kvs.length < 64 then match Ds Ak3 kvs with
    |some ss=>Ck ((Mt ss).map W.str) S
    |none=>match Ds Aq8 kvs with
     |some is=>Ck ((Akm is).map W.int) S
     |none=>.bad
   else .bad
  |_=>.bad
 |_=>bad
section
theorem G9{g:Type}{f:W->o9 g}{k:g->V}(hf:∀w v a,RV m Y H w v->f w=sr a->v=k a):∀{c:lg W} {i:lg V} {is:lg g},RVs m Y H c i->Ds f c=sr is->i=is.map k
 |_,_,_,.nil,e=>by cases e;rfl
 |w::c,_,is,.cons h r,e=>by
  rw[Ds] at e;cases l:f w with
  |none=>simp_all
  |some d=>
   rw[l] at e;cases j:Ds f c with
   |none=>simp_all
   |some n=>
    rw[j] at e;cases e;rw[hf _ _ _ h l,G9 hf r j];rfl
def Anr(w:W)(v:V)(i:Int)(h:RV b Y H w v)(e:asInt w=sr i):v=.int i:=by
 cases h <;> simp only[asInt,gQ,reduceCtorEq] at e
 subst e;rfl
def Afx(w:W)(v:V)(i:t6)(h:RV b Y H w v)(e:asStr w=sr i):v=.str i:=by
 cases h <;> simp only[asStr,gQ,reduceCtorEq] at e
 subst e;rfl
def paired_len{c b:Type}{F:c->b->Prop}{l:lg c}{m:lg b}(r:qK F l m):l.length=m.length:=by
 induction r with
 |nil=>rfl
 |cons _ _ d=>simp_all
def rv1(r:RVs a Y H [w] b):∃v,b=[v]/\RV a Y H w v:=by
 cases r with|cons h r=>
 cases r;exact(_,rfl,h)
def Bph(R:Rep a Y S H)(r:RVs a Y H b c)(h:Bb a RV[a] Y H (Av1 b S) Q E):∃x,c=[.str x]/\x.length=1/\Q (.int (x.cps.getD 0 0:Nat)) H:=by
 unfold Av1 at h;split at h
 .let(v,rfl,e):=rv1 r;obtain rfl:=e.sI;let(d,h):=Hd h;exact(_,rfl,d,h.now R .int[_])
 .exact(show False from h).elim
def Bpi(R:Rep a Y S H)(r:RVs a Y H b c)(h:Bb a RV[a] Y H (Anq b S) Q E):∃i j,c=[.int i,.int j]/\Q (.int (if j > i then j else i)) H:=by
 unfold Anq at h;split at h
 .cases r with|cons e r=>
  cases r with|cons d r=>
  cases r;obtain rfl:=e.iI;obtain rfl:=d.iI;exact(_,_,rfl,h.now R .int[_])
 .exact(show False from h).elim
def Bpj(R:Rep a Y S H)(r:RVs a Y H b c)(h:Bb a RV[a] Y H (Av2 b S) Q E):∃i j,c=[.int i,.int j]/\Q (.int (if j < i then j else i)) H:=by
 unfold Av2 at h;split at h
 .cases r with|cons e r=>
  cases r with|cons d r=>
  cases r;obtain rfl:=e.iI;obtain rfl:=d.iI;exact(_,_,rfl,h.now R .int[_])
 .exact(show False from h).elim
set_option tactic.hygienic true in
def Bpk(R:Rep b Y S H)(r:RVs b Y H e f)(h:Bb b RV[b] Y H (Ak2 e S) Q E):∃p,∃ns:lg Int,f=[.ref p]/\H p=sr .lst[ns.map[V.int]]/\Q .int[ns.sum] H:=by
 unfold Ak2 at h;split at h
 .rename_i n;let(v,rfl,j):=rv1 r;let(a,rfl,i):=j.rI;split at h
  .rename_i q l;split at h
   .rename_i is k;let(o,c,g):=R.at_ _ _ _ i l;rw[G9 Anr g k] at c;exact(_,is,rfl,c,Jd h R .int[_])
   trivial
  trivial
 .exact(show False from h).elim
set_option tactic.hygienic true in
def Bpl(R:Rep b Y S H)(r:RVs b Y H g j)(h:Bb b RV[b] Y H (Aao g S) Q E):∃p,∃bs:lg Bool,j=[.ref p]/\H p=sr .lst[bs.map[V.bl]]/\Q .bl[bs.all[id]] H:=by
 unfold Aao at h;split at h
 .rename_i n;let(v,rfl,m):=rv1 r;let(a,rfl,l):=m.rI;split at h
  .rename_i t q;split at h
   .rename_i is o;let(s,c,k):=R.at_ _ _ _ l q;rw[G9 (by
      intro w v i h e;cases h <;> simp only[Bi1,gQ,reduceCtorEq] at e
      subst e;rfl) k o] at c
    exact(_,is,rfl,c,Jd h R .bl[_])
   .exact(show False from h).elim
  .exact(show False from h).elim
 .exact(show False from h).elim
theorem Tt:∀a:lg t6,RVs Θ Y H a.map[W.str] a.map[V.str]
 |[]=>.nil
 |s::a=>.cons .str[s] Tt[a]
theorem Aap{c b:Type}{f:c->o9 b}:∀{l:lg c} {m:lg b},Ds f l=sr m->m.length=l.length
 |[],m,h=>by cases h;rfl
 |x::l,m,h=>by
  unfold Ds at h;cases e:f x with
  |none=>simp_all
  |some y=>
   cases d:Ds f l with
   |none=>simp_all
   |some g=>rw[e,d] at h;cases h;simp[Aap d]
def keys_str:∀{d:lg[Key×W]} {g:lg[Key×V]} {f:lg t6},RKV p Y H d g->Ds Ak3 d=sr f->g.map (·.1)=f.map pG:=by
 intro d g f r;induction r generalizing f with
 |nil=>intro h;cases h;rfl
 |@cons a b l m h _ n=>
  intro e;unfold Ds at e;let(k,w):=a;cases k with
  |inl i=>cases e
  |inr s=>
   cases j:Ds Ak3 l with
   |none=>rw[j] at e;cases e
   |some q=>
    rw[j] at e;cases e;simp[n j,<-h.1]
def Ayx:∀{d:lg[Key×W]} {g:lg[Key×V]} {f:lg Int},RKV p Y H d g->Ds Aq8 d=sr f->g.map (·.1)=f.map rH:=by
 intro d g f r;induction r generalizing f with
 |nil=>intro h;cases h;rfl
 |@cons a b l m h _ n=>
  intro e;unfold Ds at e;let(k,w):=a;cases k with
  |inr i=>cases e
  |inl s=>
   cases j:Ds Aq8 l with
   |none=>rw[j] at e;cases e
   |some q=>
    rw[j] at e;cases e;simp[n j,<-h.1]
set_option tactic.hygienic true in
def Bdv(R:Rep i Y S H)(r:RVs i Y H x k)(h:Bb i RV[i] Y H (Wl x S) Q E):
  ((∃p,∃f:lg t6,k=[.ref p]/\H p=sr .lst[f.map[V.str]]/\f.length < 64/\∀q,H q=sy->Q[.ref q][upd H q .lst[(Mt f).map V.str]])\/
  (∃p,∃ns:lg Int,k=[.ref p]/\H p=sr .lst[ns.map[V.int]]/\ns.length < 64/\∀q,H q=sy->Q[.ref q][upd H q .lst[(Akm ns).map V.int]]))\/
  (∃p c,k=[.ref p]/\H p=sr .dK[c]/\c.length < 64/\
  ((∃f:lg t6,c.map (·.1)=f.map pG/\∀q,H q=sy->Q[.ref q][upd H q .lst[(Mt f).map V.str]])\/(∃ns:lg Int,c.map (·.1)=ns.map rH/\∀q,H q=sy->Q[.ref q][upd H q .lst[(Akm ns).map V.int]]))):=by
 unfold Wl at h;split at h
 .rename_i n;let(v,rfl,y):=rv1 r;let(a,rfl,w):=y.rI;split at h
  .rename_i t m;let(j,e,g):=R.at_ _ _ _ w m;split at h
   .rename_i l;split at h
    .rename_i is d;rw[G9 Afx g d] at e;exact .inl[.inl (_,is,rfl,e,by rw[Aap d];exact l,(Gf R Tt[_] h).2)]
    .split at h
     .rename_i is d;rw[G9 Anr g d] at e;exact .inl[.inr (_,is,rfl,e,by rw[Aap d];exact l,(Gf R Ql[_] h).2)]
     .exact(show False from h).elim
   .exact(show False from h).elim
  .rename_i t m;let(j,e,g):=R.at_ _ _ _ w m;split at h
   .rename_i l;let u:j.length < 64:=by have:t.length=j.length:=paired_len g;omega
    split at h
    .rename_i is d;exact .inr (_,_,rfl,e,u,.inl (is,keys_str g d,(Gf R Tt[_] h).2))
    .split at h
     .rename_i is d;exact .inr (_,_,rfl,e,u,.inr (is,Ayx g d,(Gf R Ql[_] h).2))
     .exact(show False from h).elim
   .exact(show False from h).elim
  .exact(show False from h).elim
 .exact(show False from h).elim
end
theorem Ans:∀{b:lg V} {c:lg aH},b.length=c.length->(∀(j:Nat)(v:aH),c[j]?=sr v->∃x,b[j]?=sr x/\RelV x v)->Vals b c
 |[],[],_,_=>.nil
 |x::b,u::c,d,h=>by
  let(y,e,r):=h 0 u rfl;cases (e);exact .cons r (Ans uH[d] λj v q=>h (j+1) v q)
 |[],_::_,d,_=>by trivial
 |_::_,[],d,_=>by trivial
def Aq9(f:X.calm=t8):Le X .type["list"] (λb H Q=>∃z:t6,b=[.str z]/\z.length<=sizeLine/\∀l,H l=sy->Q[.ref l][upd H l .lst[z.cps.toList.map λc=>V.str ⟨#[c]⟩]]):=by
 intro y s o H b p Q I r h;let(z,rfl,d,q):=h;let(u,rfl,g):=vals1 r;let(t,rfl):=g;refine call_list_str I.ok.hd[f] z t (hn:=d) λk tk a m kp e hi=>?_;let i:Vals (z.cps.toList.map λc=>V.str ⟨#[c]⟩) a.toList:=by
  refine Ans[by rw[aC,aV,aV,hi.1]] λj v x=>?_
  let(c,u,f,rfl):=hi.2 j v (by simp_all)
  exact(.str _,by simp_all,u,rfl)
 exact(.ref s.heap.objs.size,_,I.laid kp aO[_] (show Eh X.prog X.w _ k _ .lst[_] from (by rw[aC,aV];exact d,a.toList,m,i,())),rfl,q _ I.hok.fresh[aO[_]])
def Bdw(x:t6):o9[lg W->M W]:=
 if x="len" then sr Cq else if x="ord" then sr Av1 else if x="max" then sr Anq else if x="min" then sr Av2
 else if x="sum" then sr Ak2 else if x="all" then sr Aao else if x="sorted" then sr Wl else sy
def Bdx(x:t6):o9[lg W->M W]:=if x="tuple" then sr Ed else if x="list" then sr Atf else sy
structure Ayy(Θ:Th)(X:Cx)(v:aH)(g:List W->M W) where
 r:List V->Hp->VK->Prop
 ok:Le X v r
 by_:∀Y S H ws vs Q E,Rep Θ Y S H->RVs Θ Y H ws vs->Bb Θ (RV Θ) Y H (g ws S) Q E->r vs H Q
set_option tactic.hygienic true in
def Bdy(hK:X.K=Θ.K)(P:X.calm=t8)(h:Bdw x=sr g):∃id,bootBuiltins x=sr .builtin[id]/\Nonempty[Ayy Θ X .builtin[id] g]:=by
 unfold Bdw at h;split at h
 .rename_i e;subst e;cases h;exact("len",by rfl',⟨(_,Axt.or Avh,λY S H D F Q E R r h=>by rw[hK];exact(by
    unfold Cq at h;split at h
    .let(v,rfl,f):=rv1 r;obtain rfl:=f.sI;let(hz,h):=Hd h;exact .inl (_,_,rfl,(Jy hz,rfl),h.now R .int[_])
    .let(v,rfl,f):=rv1 r;let(_,_,rfl,f,r1):=f.tI;refine .inl (_,_,rfl,.inr (_,SqT.of f,rfl),?_);rw[<-r1.length];exact h.now R .int[_]
    .let(v,rfl,f):=rv1 r;let(_,rfl,hs):=f.cI;refine .inl (_,_,rfl,.inl (_,hs.sq,rfl),?_);rw[aC];exact h.now R .int[_]
    .let(v,rfl,f):=rv1 r;let(a,rfl,hn):=f.rI;split at h
     .rename_i G U;let(L,T,r2):=R.at_ _ _ _ hn U;refine .inl (_,_,rfl,.inl (_,.inl .inl[T],rfl),?_);rw[<-r2.length];exact Jd h R .int[_]
     .rename_i kvs U;let(L,T,r2):=R.at_ _ _ _ hn U;refine .inr (_,_,rfl,T,?_);let e:kvs.length=L.length:=paired_len r2;rw[<-e];exact Jd h R .int[_]
     .exact(show False from h).elim
    .exact(show False from h).elim))⟩)
 split at h
 .rename_i e;subst e;cases h;exact("ord",by rfl',⟨(_,by
    intro Z s J H N G Q I r h;let(x,rfl,hz,q):=h;let(u,rfl,t,rfl):=vals1 r;exact ord_of_one hz (.int _,H,I.tok _,(_,rfl),q),λY S H D F Q E R r h=>Bph R r h)⟩)
 split at h
 .rename_i e;subst e;cases h;exact("max",by rfl',⟨(_,by
    intro Z s J H N G Q I r h;let(i,j,rfl,q):=h;let(u,w',rfl,(t,rfl),(t',rfl)):=vals2 r;refine max_two_ints I.ok.hd[P] λh' tk k=>(_,H,I.kept k,?_,q);by_cases y:j > i
    .rw[di y,di y];exact(_,rfl)
    .rw[dm y,dm y];exact(_,rfl),λY S H D F Q E R r h=>Bpi R r h)⟩)
 split at h
 .rename_i e;subst e;cases h;exact("min",by rfl',⟨(_,by
    intro Z s J H N G Q I r h;let(i,j,rfl,q):=h;let(u,w',rfl,(t,rfl),(t',rfl)):=vals2 r;refine min_two_ints I.ok.hd[P] λh' tk k=>(_,H,I.kept k,?_,q);by_cases y:j < i
    .rw[di y,di y];exact(_,rfl)
    .rw[dm y,dm y];exact(_,rfl),λY S H D F Q E R r h=>Bpj R r h)⟩)
 split at h
 .rename_i e;subst e;cases h;exact("sum",by rfl',⟨(_,by
    intro Z s J H N G Q I r h;let(p,ns,rfl,hp,q):=h;let(u,rfl,C):=vals1 r;cases C;let(_,c,n,B,e):=(show Eh X.prog X.w H s.heap p .lst[ns.map[V.int]] from I.hok p _ hp);let hi:qD c ns:=intsAre_of B;let(L,hx):=hi.allInts.items;let hl:s.heap.IsList p intItems[L]:=hx ▸ ((_,e,rfl,_,rfl):s.heap.IsList p c.toArray);refine sum_intListG I.ok.hd[P] hl λh' tk t' hk=>(.int ns.sum,H,I.kept (t':=tk) hk,(t',?_),q);let U:ns=L.toList.map (·.1):=by
     rw[<-nums_intItems,<-hx];exact(show numsOf c.toArray.toList=ns from hi.numsOf).symm
    rw[preSum_eq,jC[by simp],U],λY S H D F Q E R r h=>Bpk R r h)⟩)
 split at h
 .rename_i e;subst e;cases h;exact("all",by rfl',⟨(_,by
    intro Z s J H N G Q I r h;let(p,bs,rfl,hp,q):=h;let(u,rfl,C):=vals1 r;cases C;let(_,c,n,B,e):=(show Eh X.prog X.w H s.heap p .lst[bs.map[V.bl]] from I.hok p _ hp);let hl:s.heap.IsList p c.toArray:=(_,e,rfl,_,rfl);let O:c.length=bs.length:=by rw[<-B.length,aC]
    refine call_all_walk[nY hl ?_];let hne:p≠s.heap.objs.size:=cB bA[e];let d:∀o b u,s.heap.get? b=sr u->(s.heap.push o).get? b=sr u:=λo b u z=>aG _ z;refine(s.heap.objs.size,[s.heap.objs.size,p],[s.heap.objs.size],c.toArray.size,_,_,λi=>bs.getD i t7,rfl,aEu (A:=X.A.in1) (show X.A.in1.handled=sy from I.ok.hd P) _ p hne c.toArray,((_,aW _ rfl,rfl,rfl),?_),λi v s' Q' E' hv hq=>?_,λh' tk k=>?_)
    .exact(_,d _ _ _ e,rfl,_,rfl)
    .let hv:c[i]?=sr v:=by simpa using hv
     cases eb:bs[i]? with
     |none=>
      have:=jO.mp eb;have:=(aK.mp hv).1;omega
     |some b=>
      let(u,hu,C):=B.get (i:=i) (x:=.bl b) (by rw[cH,eb];rfl)
      rw[hv] at hu;cases hu;cases C;let z:bs.getD i t7=b:=by rw[dN,eb];rfl
      let hq:Q' (bs.getD i t7) s':=hq;rw[z] at hq;exact gP hq
    .refine(.bl _,H,I.kept (t':=tk) λb u z=>k b u (λm=>?_) (d _ _ _ z),rfl,?_)
     .have:b=s.heap.objs.size:=by simpa using m
      subst this;exact absurd bA[z] fM[_]
     .let z:(eZ c.toArray.size).all (λi=>bs.getD i t7)=bs.all id:=by
       rw[cG,O];rw[uQ,aQ,aQ];constructor
       .intro h x hx;let(i,hi,rfl):=wH hx;have:=h i mJ.mpr[hi];rw[dN,aZ hi] at this;exact this
       .intro h i hi;let hi:=mJ.mp hi;rw[dN,aZ hi];exact h _ pD[hi]
      rw[z];exact q,λY S H D F Q E R r h=>Bpl R r h)⟩)
 split at h
 .rename_i e;subst e;cases h;exact("sorted",by rfl',⟨(_,(Ako.or (by
    intro Z s J H N G Q I r h;let(p,ss,rfl,hp,h64,q):=h;let(u,rfl,C):=vals1 r;cases C;let(_,c,n,B,e):=(show Eh X.prog X.w H s.heap p .lst[ss.map[V.int]] from I.hok p _ hp);let hS:=intsAre_of B;let hl:c.length=ss.length:=by rw[<-B.length,aC]
    refine sorted_ints (l:=p) (_,e,rfl,_,rfl) hS () λout ss' f T h3=>?_
    obtain rfl:=As7 T h3;let(ep,hat):=aCv s.heap c out;let d:s.heap.get?[s.heap.objs.size+1]=sy:=gW gZ[_];refine(.ref[s.heap.objs.size+1],_,I.newO (o:=.lst[(Akm ss).map V.int]) (tk:=s.toks) (λb o q=>aCc q) d (?_,out.toList,ep,Xn f,hat),rfl,q _ I.hok.fresh[gZ[_]]);rw[aC,(Abx ss).length_eq];exact aD fH[h64] ())).or Akp[P],λY S H D F Q E R r h=>Bdv R r h)⟩)
 .cases h
set_option tactic.hygienic true in
def Bdz(hK:X.K=Θ.K)(s:X.calm=t8)(h:Bdx x=sr g):∃T,bootBuiltins x=sr .type[T]/\Nonempty[Ayy Θ X .type[T] g]:=by
 unfold Bdx at h;split at h
 .rename_i e;subst e;cases h;exact("tuple",by rfl',⟨(_,Ah9,λY S H n o Q E R r h=>by rw[hK];exact(by
    unfold Ed at h;split at h
    .let(v,rfl,b):=rv1 r;let(_,_,rfl,b,f):=b.tI;exact(_,_,rfl,.inr (SqT.of b,h.now R (.tup b f)))
    .let(v,rfl,b):=rv1 r;let(_,rfl,i):=b.cI;exact(_,_,rfl,.inl (i.sq,Ab2 R Ql[_] h))
    .let(v,rfl,b):=rv1 r;let(a,rfl,j):=b.rI;split at h
     .rename_i p l;let(m,k,d):=R.at_ _ _ _ j l;exact(_,_,rfl,.inl (.inl .inl[k],Ab2 R d h))
     .exact(show False from h).elim
    .exact(show False from h).elim))⟩)
 split at h
 .rename_i e;subst e;cases h;exact("list",by rfl',⟨(_,Akb.or Aq9[s],λY S H n o Q E R r h=>by rw[hK];exact(by
    unfold Atf at h;split at h
    .let(v,rfl,b):=rv1 r;let(_,_,rfl,b,f):=b.tI;exact .inl (_,_,rfl,.inr SqT.of[b],(Gf R f h).2)
    .rename_i z;let(v,rfl,b):=rv1 r;obtain rfl:=b.sI;let(q,h):=Hd h;exact .inr ((z,rfl,Jy q,(Gf R (by
      let h:=Tt (Θ:=Θ) (Y:=Y) (H:=H) (z.cps.toList.map λc=>(⟨#[c]⟩:t6));rw[bW,bW] at h;exact h) h).2))
    .let(v,rfl,b):=rv1 r;let(_,rfl,i):=b.cI;exact .inl (_,_,rfl,.inl i.sq,(Gf R Ql[_] h).2)
    .let(v,rfl,b):=rv1 r;let(a,rfl,j):=b.rI;split at h
     .rename_i p l;let(m,k,d):=R.at_ _ _ _ j l;exact .inl (_,_,rfl,.inl .inl[.inl[k]],(Gf R d h).2)
     .exact(show False from h).elim
    .exact(show False from h).elim))⟩)
 .cases h
section
def Bpm(hK:X.K=h.K)(y:X.calm=t8)(r:Bdw x=sr fn)(u:X.mg x=sy)(z:WA X (e::a) (tFs h E A))(v:X.env.kindOf x=sr .globalImplicit)(t:decide[x=("__name__":t6)]=t7)(f:(x==("__debug__":t6))=t7)(w:starEach (e::a) X.env=(u6 t7 (eval e X.env))::starEach a X.env)(d:(backTo c (starEach a X.env)).any (·.1)=t7):WE X (.Call (.Name x p) (e::a) [] c) tF[h][E][Dm fn A]:=by
 obtain⟨id,s,⟨o⟩⟩:=Bdy hK y r;refine WE.weak[kbi o.ok u s z v t f w d] λG H Q j=>?_;let(Y,S,Z,R,m,q):=j;refine(Y,S,Z,R,m,(Bb.seq q).mono ?_);rintro l F ⟨B,C,k,J,I,D,b,n⟩;exact o.by_ B C F k l Q _ D b n
def Bpn(hK:X.K=h.K)(y:X.calm=t8)(r:Bdx x=sr fn)(u:X.mg x=sy)(z:WA X (e::a) (tFs h E A))(v:X.env.kindOf x=sr .globalImplicit)(t:decide[x=("__name__":t6)]=t7)(f:(x==("__debug__":t6))=t7)(w:starEach (e::a) X.env=(u6 t7 (eval e X.env))::starEach a X.env)(d:(backTo c (starEach a X.env)).any (·.1)=t7):WE X (.Call (.Name x p) (e::a) [] c) tF[h][E][Dm fn A]:=by
 obtain⟨T,s,⟨o⟩⟩:=Bdz hK y r;refine WE.weak ⟨Ais o.ok v u s z.un of_decide_eq_false[t] f w d⟩ λG H Q j=>?_;let(Y,S,Z,R,m,q):=j;refine(Y,S,Z,R,m,(Bb.seq q).mono ?_);rintro l F ⟨B,C,k,J,I,D,b,n⟩;exact o.by_ B C F k l Q _ D b n
end
inductive RS where
 |nx (Z:De) (S:Store)
 |rt (w:W) (S:Store)
 |bk (Z:De) (S:Store)
 |ct (Z:De) (S:Store)
 |ex (c:Nat×W) (Z:De) (S:Store)
 |bad
abbrev MS:=De->Store->RS
def Ez{α:Type}(m:M α)(k:α->MS):MS:=λZ S=>match m S with
 |.ok a S1=>k a Z S1
 |.exc c S1=>.ex c Z S1
 |.bad=>.bad
def Ay:MS:=.nx
def Am(a b:MS):MS:=λZ S=>match a Z S with
 |.nx Z1 S1=>b Z1 S1
 |r=>r
def Bg(i:Nat)(f:De->M W):MS:=λZ=>Ez f[Z] (λw Z S=>.nx (Z.set i sr[w]) S) Z
def retS(f:De->M W):MS:=λZ=>Ez f[Z] (λw uu S=>.rt w S) Z
def Tu(f:De->M W):MS:=λZ=>Ez f[Z] (λuu Z S=>.nx Z S) Z
def ifS(c:De->M Bool)(a b:MS):MS:=λZ=>Ez c[Z] (λt=>if t then a else b) Z
def Mv(c:De->M Bool)(b:MS):Nat->MS
 |0=>λuu uu=>.bad
 |n+1=>λZ=>Ez c[Z] (λt=>if t then λZ S=>match b Z S with
  |.nx Z1 S1=>Mv c b n Z1 S1
  |.ct Z1 S1=>Mv c b n Z1 S1
  |.bk Z1 S1=>.nx Z1 S1
  |r=>r else .nx) Z
section
variable(Θ:Th)
def RSs(Y:lg aM)(H:Hp)(Z:De)(σ:L2.St):Prop:=Z.length=σ.length/\RSl Θ Y H Z σ
def Dr(Y:lg aM)(H:Hp)(r:RS)(D:Ends)(E:L2.St->XK):Prop:=match r with
 |.nx Z S=>∀Y' H' σ',Y <+: Y'->Dd Y Y' H H'->Rep Θ Y' S H'->RSs Θ Y' H' Z σ'->D.nx σ' H'
 |.bk Z S=>∀Y' H' σ',Y <+: Y'->Dd Y Y' H H'->Rep Θ Y' S H'->RSs Θ Y' H' Z σ'->D.bk σ' H'
 |.ct Z S=>∀Y' H' σ',Y <+: Y'->Dd Y Y' H H'->Rep Θ Y' S H'->RSs Θ Y' H' Z σ'->D.ct σ' H'
 |.rt w S=>∀Y' H' v,Y <+: Y'->Dd Y Y' H H'->Rep Θ Y' S H'->RV Θ Y' H' w v->D.rt v H'
 |.ex c Z S=>∀Y' H' σ',Y <+: Y'->Dd Y Y' H H'->Rep Θ Y' S H'->RSs Θ Y' H' Z σ'->XP Θ Y' H' c E[σ']
 |.bad=>False
inductive TSx(E:L2.St->XK)(f:MS)(D:Ends)(σ:L2.St)(H:Hp):Prop
 |mk (Y:List aM) (S:Store) (Z:De) (R:Rep Θ Y S H) (sl:RSs Θ Y H Z σ) (q:Dr Θ Y H (f Z S) D E):TSx E f D σ H
inductive LfS{α β:Type}(Rel:List aM->Hp->α->β->Prop)(Y:List aM)(H:Hp)(k:α->MS)(Z:De)(σ:L2.St)(D:Ends)(E:L2.St->XK)(v:β)(H1:Hp):Prop
 |mk (Y1:List aM) (S1:Store) (w:α) (p:Y <+: Y1) (t:Dd Y Y1 H H1) (R:Rep Θ Y1 S1 H1) (sl:RSs Θ Y1 H1 Z σ) (r:Rel Y1 H1 w v) (q:Dr Θ Y1 H1 (k w Z S1) D E):LfS Rel Y H k Z σ D E v H1
def tS(E:L2.St->XK)(f:MS):TS:=λD σ H=>TSx Θ E f D σ H
end
section
variable{Θ:Th}{X:Cx}{st:dI}{sts:lg dI}{e c:cL}{pos pos':Pos}{E:L2.St->XK}{f:De->M W}{cf:De->M Bool}{a b:MS}{x:t6}
def RSs.mono(p:Y <+: Y')(t:Dd Y Y' H H')(h:RSs Θ Y H Z σ):RSs Θ Y' H' Z σ:=(h.1,h.2.mono p t)
def RSs.set{i:Nat}(h:RSs Θ Y H Z k)(r:RV Θ Y H w v):RSs Θ Y H (Z.set i sr[w]) (k.set i sr[v]):=by
 refine(by rw[iH,iH];exact h.1,λj u e=>?_)
 by_cases d:j=i
 .subst d;let g:=by
   let z:=(aK.mp e).1
   rwa [iH] at z
  rw[dJ g] at e;cases e;exact(v,dJ (by rw[<-h.1];exact g),r)
 .rw[cX eG[d]] at e;let(z,m,l):=h.2 j u e;exact(z,by rw[cX eG[d]];exact m,l)
def Dr.shift(h:Dr Θ Y H r D E)(p:Y <+: Y1)(t:Dd Y Y1 H H1):Dr Θ Y1 H1 r D E:=by
 cases r with
 |bad=>exact h
 |_=>exact λl m v k g i j=>h l m v p.trans[k] t.trans[g] i j
def Dr.nxt(h:Dr Θ Y H (.nx Z S) D E)(R:Rep Θ Y S H)(sl:RSs Θ Y H Z σ):D.nx σ H:=h Y H σ aP[Y] (Dd.refl Y H) R sl
def Dr.ret(h:Dr Θ Y H (.rt w S) D E)(R:Rep Θ Y S H)(rv:RV Θ Y H w v):D.rt v H:=h Y H v aP[Y] (Dd.refl Y H) R rv
def Dr.lift{g s:Type}{Rel:lg aM->Hp->g->s->Prop}{m:M g}{k:g->MS}(l:RSs Θ Y H Z d)(h:Dr Θ Y H (Ez m k Z S) D E):
  Bb Θ Rel Y H m[S] (LfS Θ Rel Y H k Z d D E) E[d]:=by
 unfold Ez at h;cases e:m S with
 |bad=>rw[e] at h;exact h
 |exc c n=>rw[e] at h;exact λj q p t r=>h j q d p t r (l.mono p t)
 |ok w n=>
  rw[e] at h;exact λj q v p t r i=>(j,n,w,p,t,r,l.mono p t,i,Dr.shift h p t)
def WS.weak(h:WS X st t)(k:∀D σ H,t' D σ H->t D σ H):WS X st t':=⟨λaa s σ H D I q=>h.un aa s σ H D I (k D σ H q)⟩
def WSs.weak(h:WSs X sts t)(k:∀D σ H,t' D σ H->t D σ H):WSs X sts t':=⟨λaa s σ H D I q=>h.un aa s σ H D I (k D σ H q)⟩
def Bi2:WSs X [] (tS Θ E Ay):=WSs.weak ⟨λuu uu σ H uu I h=>lR (σ,H,I,h)⟩ λD σ H ⟨Y,S,Z,R,sl,q⟩=>q.nxt R sl
def Bd0(m:WS X st (tS Θ E a))(l:WSs X sts (tS Θ E b)):WSs X (st::sts) tS[Θ][E][Am a b]:=(WSs.weak[⟨Am8 m.un l.un⟩] λD s H h=>by
 let(Y,S,Z,R,j,q):=h;refine(Y,S,Z,R,j,?_);unfold Am at q;cases e:a Z S with
 |nx n p=>
  rw[e] at q;exact λo t g k i r d=>(o,p,n,r,d,Dr.shift q k i)
 |_=>rw[e] at q;exact q)
def Ayz{i:Nat}(n:WE X e (tF Θ E f))(nd:decide X.N.Nodup=t8)(hi:X.N[i]?=sr x)(m:Aqy X.env.scope x=t8)(l:swapsWith e sr[.Name x pos'] pos.line X.env=pure t7)(hf:X.fn x=t8):
  WS X (.Assign [.Name x pos'] e pos) tS[Θ][E][Bg i f]:=(WS.weak[Bo6 n nd hi m l hf] λD r H h=>by
 let(Y,S,Z,R,g,q):=h;refine(Y,S,Z,R,g.2,(Dr.lift g q).mono ?_);rintro v z ⟨u,y,w,t,s,o,d,j,k⟩;exact k.nxt o d.set[j])
def Bi3(k:WE X e (tF Θ E f)):WS[X][.Return sr[e] pos][tS Θ E retS[f]]:=(WS.weak[⟨Bhm k.un⟩] λD m H g=>by
 let(Y,S,Z,R,d,q):=g;refine(Y,S,Z,R,d.2,(Dr.lift (Rel:=RV Θ) d q).mono ?_);rintro v s ⟨p,r,w,o,n,l,h,i,j⟩;exact j.ret l i)
def Bd1(k:WE X e (tF Θ E f))(j:swapsWith e sy pos.line X.env=pure t7):WS[X][.Expr e pos][tS Θ E Tu[f]]:=(WS.weak[⟨Asx k.un j⟩] λD m H h=>by
 let(Y,S,Z,R,g,q):=h;refine(Y,S,Z,R,g.2,(Dr.lift (Rel:=RV Θ) g q).mono ?_);rintro v t ⟨r,s,w,p,n,l,d,o,i⟩;exact i.nxt l d)
def Bm6(m:WT X c (tFb Θ E cf))(o:WSs X A (tS Θ E a))(n:WSs X B (tS Θ E b)):WS X (.If c A B pos) tS[Θ][E][ifS cf a b]:=(WS.weak[sif m o n] λD r H l=>by
 let(Y,S,Z,R,g,q):=l;refine(Y,S,Z,R,g.2,(Dr.lift g q).mono ?_);rintro v u ⟨i,j,w,t,s,k,d,rfl,h⟩;cases w with
 |true=>exact L2.Akf (i,j,Z,k,d,h)
 |false=>exact L2.Ane (i,j,Z,k,d,h))
def Ay0(n:Nat)(hp:sZ (model X.prog X.w) X.A X.env X.xe)(C:WT X c (tFb Θ E cf))(F:WSs X body (tS Θ E b)):WS X (.While c body [] pos) tS[Θ][E][Mv cf b n]:=(
 WS.weak ⟨Axp hp C.un F.un⟩ λD p H B=>by
  let(Y,S,Z,R,j,q):=B;refine(λm p H=>∃Y S Z,Rep Θ Y S H/\RSs Θ Y H Z p/\Dr Θ Y H (Mv cf b m Z S) D E,(n,Y,S,Z,R,j,q),?_);rintro m p H ⟨Y,S,Z,R,j,q⟩;cases m with
  |zero=>exact q.elim
  |succ m=>
   refine(Y,S,Z,R,j.2,(Dr.lift j q).mono ?_);rintro v P ⟨G,u,w,O,N,y,i,rfl,d⟩;cases w with
   |false=>exact L2.Ane (d.nxt y i)
   |true=>
    refine L2.Akf (_,λz Q h=>(m,gY m,h),G,u,Z,y,i,?_);simp only[if_true] at d;cases e:b Z u with
    |nx k l=>
     rw[e] at d;exact λt L o s r R2 g=>(t,l,k,R2,g,Dr.shift d s r)
    |ct k l=>
     rw[e] at d;exact λt L o s r R2 g=>(t,l,k,R2,g,Dr.shift d s r)
    |bk k l=>
     rw[e] at d;trivial
    |_=>rw[e] at d;exact d)
end
abbrev Tg:=W->De->o9 De
def By(i:Nat):Tg:=λw Z=>sr[Z.set i sr[w]]
def Mw(is:lg Nat):Tg:=λw Z=>match w with
 |.tup ws=>if ws.length=is.length then sr[(is.zip ws).foldl (λZ p=>Z.set p.1 sr[p.2]) Z] else sy
 |_=>sy
def GOk(Θ:Th)(s:Tg)(g:TG):Prop:=∀Y S H w v Z Z' σ Q,Rep Θ Y S H->RSs Θ Y H Z σ->RV Θ Y H w v->s w Z=sr Z'->(∀σ',RSs Θ Y H Z' σ'->Q σ' H)->g v σ H Q
def Ant(i:Nat):GOk f By[i] Aag[i]:=(λY S H w v Z g d Q R a b e k=>by
 cases e;exact k _ a.set[b])
def Afy:lg Nat->TGs
 |[]=>Boo
 |i::is=>Bgt Aag[i] Afy[is]
theorem Ai3:∀(is:lg Nat) {c:lg W} {j:lg V} {Z:De} {f:L2.St} {Q:L2.St->Hp->Prop},RVs g Y H c j->RSs g Y H Z f->c.length=is.length->
  (∀b,RSs g Y H ((is.zip c).foldl (λZ p=>Z.set p.1 sr[p.2]) Z) b->Q b H)->Afy is j f H Q
 |[],_,_,_,_,_,.nil,d,_,k=>(rfl,k _ d)
 |[],_,_,_,_,_,.cons _ _,_,e,_=>by trivial
 |i::is,_,_,_,_,_,.nil,_,e,_=>by trivial
 |i::is,_,_,_,_,_,.cons h r,d,e,k=>(_,_,rfl,Ai3 is r d.set[h] (by simpa using e) k)
set_option tactic.hygienic true in
def Atg{g:Th}{K:aF}(is:lg Nat){n:Nat}(j:n=is.length):GOk g Mw[is] (Blp K n Afy[is]):=(λY S H w v Z q m Q R h i e k=>by
 cases i <;> try trivial
 rename_i a o p l c;simp only[Mw] at e;split at e
 .rename_i d;cases e;exact(_,_,rfl,SqT.of l,by rw[<-c.length,d,j],Ai3 is c h d k)
 trivial)
def Nk(s:Tg)(b:MS):lg W->MS
 |[]=>.nx
 |w::ws=>λZ S=>match s w Z with
  |none=>.bad
  |some Z1=>match b Z1 S with
   |.nx Z2 S2=>Nk s b ws Z2 S2
   |.ct Z2 S2=>Nk s b ws Z2 S2
   |.bk Z2 S2=>.nx Z2 S2
   |r=>r
def liG(n:Nat):Store->Nat->o9 o9[W]:=λS i=>match S[n]? with
 |some (.lst ws)=>sr ws[i]?
 |_=>sy
def Av3(s:Tg)(b:MS)(gt:Store->Nat->o9 o9[W]):Nat->Nat->MS
 |0,_=>λuu uu=>.bad
 |m+1,i=>λZ S=>match gt S i with
  |none=>.bad
  |some sy=>.nx Z S
  |some (sr w)=>match s w Z with
   |none=>.bad
   |some Z1=>match b Z1 S with
    |.nx Z2 S2=>Av3 s b gt m (i+1) Z2 S2
    |.ct Z2 S2=>Av3 s b gt m (i+1) Z2 S2
    |.bk Z2 S2=>.nx Z2 S2
    |r=>r
structure JOk(Θ:Th)(J:It)(all:List W)(Y0:List aM)(H0:Hp):Prop where
 go:∀Y H i,Y0 <+: Y->Dd Y0 Y H0 H->i < all.length->J.go i H/\∀x H',J.yld i H x H'->Dd Y Y H H'/\(∀S,Rep Θ Y S H->Rep Θ Y S H')/\∃w,all[i]?=sr w/\RV Θ Y H' w x
 stop:∀Y H i,Dd Y0 Y H0 H->i=all.length->J.stop i H
section
def Bd2(gk:GOk d s g)(jk:JOk d J all Y H)(R:Rep d Y S H)(sl:RSs d Y H Z o)(q:Dr d Y H (Nk s b all Z S) D E):
  ∃W:Nat->Nat->L2.St->Hp->Prop,(∃m,W 0 m o H)/\∀i m o H,W i m o H->(J.stop i H/\D.nx o H)\/(J.go i H/\∃N:L2.St->Hp->Prop,(∀B l,N B l->∃m',m' < m/\W (i+1) m' B l)/\∀x l,J.yld i H x l->g x o l λc v=>tS d E b { D with nx:=N,ct:=N,bk:=D.nx } c v):=by
 refine(λi m o y=>∃h A C,i<=all.length/\Y <+: h/\Dd Y h H y/\Rep d h A y/\RSs d h y C o/\m=(all.drop i).length/\Dr d h y (Nk s b all.drop[i] C A) D E,(_,Y,S,Z,cY _,aP _,Dd.refl _ _,R,sl,rfl,q),?_);rintro i m Q y ⟨h,A,C,li,T,z,I,j,rfl,a⟩;by_cases hi:i < all.length
 .let(go,yl):=jk.go h y i T z hi;refine .inr (go,λc v=>∃u P k,Y <+: u/\Dd Y u H v/\Rep d u P v/\RSs d u v k c/\Dr d u v (Nk s b all.drop[i+1] k P) D E,?_,λx l hy=>?_)
  .rintro c v ⟨u,P,k,p2,t2,R2,r,q2⟩;exact((all.drop[i+1]).length,by rw[bM,bM];omega,u,P,k,hi,p2,t2,R2,r,rfl,q2)
  .let(ty,Ry,w,ew,rv):=yl x l hy;let I:=Ry _ I;let j:=j.mono aP[_] ty;let z:=z.trans ty;let a:=Dr.shift a aP[_] ty;let ed:all.drop i=w::all.drop[i+1]:=by
    let(hl,e):=aK.mp ew;rw[<-e];exact gO hl
   rw[ed] at a;unfold Nk at a;cases U:s w C with
   |none=>simp only[U] at a;exact a.elim
   |some k=>
    simp only[U] at a;refine gk h A l w x C k Q _ I j rv U λc r=>(h,A,k,I,r,?_);cases e:b k A with
    |nx L O=>
     rw[e] at a;exact λF H3 n t p G f=>(F,O,L,T.trans t,z.trans p,G,f,Dr.shift a t p)
    |ct L O=>
     rw[e] at a;exact λF H3 n t p G f=>(F,O,L,T.trans t,z.trans p,G,f,Dr.shift a t p)
    |bk L O=>
     rw[e] at a;exact λF H3 n t p G f=>a F H3 n t p G f
    |_=>rw[e] at a;exact a
 .rw[fW ()] at a
  exact .inl (jk.stop h y i z (),a.nxt I j)
structure JLv(Θ:Th)(J:It)(gt:Store->Nat->Option (Option W))(Y0:List aM):Prop where
 stop:∀Y S H i,Y0 <+: Y->Rep Θ Y S H->gt S i=sr sy->J.stop i H
 go:∀Y S H i w,Y0 <+: Y->Rep Θ Y S H->gt S i=sr (sr w)->J.go i H/\∀x H',J.yld i H x H'->Dd Y Y H H'/\(∀S,Rep Θ Y S H->Rep Θ Y S H')/\RV Θ Y H' w x
def Bi4{a Y:lg aM}{k:Nat}{c:aM}(p:a <+: Y)(h:a[k]?=sr c):Y[k]?=sr c:=by
 let(r,rfl):=p;rw[aX (aK.mp h).1];exact h
set_option tactic.hygienic true in
def Bg3{n:Nat}(p:Y0 <+: Y)(h:Y0[n]?=sr a)(R:Rep f Y S H)(e:liG n S i=sr o):∃c d,H a=sr .lst[d]/\RVs f Y H c d/\c[i]?=o:=by
 unfold liG at e;split at e
 .rename_i c k;let(q,b,d,j,g):=R.get k;rw[Bi4 p h] at b;cases b;exact(c,d,j,g,bK e)
 .cases e
theorem Ay1{n:Nat}(f:Y0[n]?=sr a):JLv h (Itl h.K a) liG[n] Y0:=(λY S H i p R e=>by
  let(j,b,c,d,z):=Bg3 p f R e;exact(b,.inl .inl[c],by rw[<-d.length];exact jO.mp z),λY S H i w p R e=>by
  let(j,b,c,d,z):=Bg3 p f R e;let(v,ev,k):=d.get z;refine((b,v,.inl .inl[c],ev),?_);rintro x s ⟨rfl,l⟩;let g:=l b .inl[.inl[c]];rw[ev] at g;cases g;exact(Dd.refl _ _,λq r=>r,k))
def Bd3{gt:Store->Nat->o9 o9[W]}{f:Nat}{Y:lg aM}{S:Store}{H:Hp}{Z:De}{l:L2.St}(gk:GOk n s g)(jk:JLv n J gt Y)(R:Rep n Y S H)(sl:RSs n Y H Z l)(q:Dr n Y H (Av3 s b gt f 0 Z S) D E):
  ∃W:Nat->Nat->L2.St->Hp->Prop,(∃m,W 0 m l H)/\∀i m l H,W i m l H->(J.stop i H/\D.nx l H)\/(J.go i H/\∃N:L2.St->Hp->Prop,(∀A p,N A p->∃m',m' < m/\W (i+1) m' A p)/\∀x p,J.yld i H x p->g x l p λt H2=>tS n E b { D with nx:=N,ct:=N,bk:=D.nx } t H2):=by
 refine(λi m l z=>∃j k F,Y <+: j/\Rep n j k z/\RSs n j z F l/\Dr n j z (Av3 s b gt m i F k) D E,(f,Y,S,Z,aP _,R,sl,q),?_);rintro i m Q z ⟨j,k,F,L,v,d,a⟩;cases m with
 |zero=>exact a.elim
 |succ m=>
  unfold Av3 at a;cases C:gt k i with
  |none=>simp only[C] at a;exact a.elim
  |some o=>
   cases o with
   |none=>simp only[C] at a;exact .inl (jk.stop j k z i L v C,a.nxt v d)
   |some w=>
    simp only[C] at a;let(go,yl):=jk.go j k z i w L v C;refine .inr (go,_,λt H2 h=>(m,gY m,h),λx p hy=>?_);let(ty,Ry,rv):=yl x p hy;let v:=Ry _ v;let d:=d.mono aP[_] ty;let a:=Dr.shift a aP[_] ty;cases U:s w F with
    |none=>simp only[U] at a;exact a.elim
    |some X=>
     simp only[U] at a;refine gk j k p w x F X Q _ v d rv U λt T=>(j,k,X,v,T,?_);cases e:b X k with
     |nx O P=>
      rw[e] at a;exact λG H3 r u B I c=>(G,P,O,L.trans u,I,c,Dr.shift a u B)
     |ct O P=>
      rw[e] at a;exact λG H3 r u B I c=>(G,P,O,L.trans u,I,c,Dr.shift a u B)
     |bk O P=>
      rw[e] at a;exact λG H3 r u B I c=>a G H3 r u B I c
     |_=>rw[e] at a;exact a
end
inductive Src where
 |fix (ws:List W)
 |liv (n:Nat)
 |zl (n m:Nat)
def Bd4(x:W):M Src:=match x with
 |.tup ws=>pure .fix[ws]
 |.scr ns=>pure .fix[ns.map[W.int]]
 |.str z=>if z.length<=big then pure .fix[chars[z]] else bad
 |.ref n=>λS=>match S[n]? with
  |some (.lst _)=>.ok .liv[n] S
  |_=>.bad
 |_=>bad
def Eo(f:De->M W):De->M Src:=λZ=>do let x<-f Z;Bd4 x
def Hn:lg W->M Src
 |[.int j]=>if -(2 ^ 62)<=j/\j < 2 ^ 62 then pure .fix[(eZ j.toNat).map λ(k:Nat)=>W.int[(0:Int)+(k:Int)]] else bad
 |_=>bad
def Nm(r:lg W->M Src)(f:De->M lg[W]):De->M Src:=λZ=>do let x<-f Z;r x
def Sx(src:De->M Src)(s:Tg)(b:MS):MS:=λZ=>Ez src[Z] (λz=>match z with
 |.fix ws=>Nk s b ws
 |.liv n=>λZ S=>match S[n]? with
  |some (.lst ws)=>Av3 s b liG[n] (ws.length+1) 0 Z S
  |_=>.bad
 |.zl _ _=>λuu uu=>.bad) Z
def Ad2(Θ:Th)(Y:lg aM)(H:Hp)(z:Src)(J:It):Prop:=match z with
 |.fix ws=>JOk Θ J ws Y H
 |.liv n=>∃a,Y[n]?=sr a/\J=Itl Θ.K a
 |.zl n m=>∃a b,Y[n]?=sr a/\Y[m]?=sr b/\J=Itz Θ.K t7 a b
def tFi(Θ:Th)(E:L2.St->XK)(f:De->M Src):TI:=λσ H Q=>TF Θ Ad2[Θ] f σ H Q E[σ]
section
theorem Bd5(h:H a=sr .tup[b])(r:RVs c Y H f b):JOk c (Itt c.K a) f Y H where
 go:=λk d i p t hi=>by
  let(v,e,g):=r.get aZ[hi];let sq:SqT c.K d a b:=SqT.of[t.t _ _ h];refine((b,v,sq,e),?_);rintro x m ⟨rfl,j⟩;let z:=j b sq;rw[e] at z;cases z;exact(Dd.refl _ _,λl r=>r,_,aZ hi,g.mono p t)
 stop:=λk d i t hi=>(b,SqT.of[t.t _ _ h],by rw[<-r.length,hi];exact aO _)
theorem Bd6{ns:lg Int}(h:Scr a H l ns):JOk a (Itl a.K l) ns.map[W.int] Y H where
 go:=λd g i p t hi=>by
  let sq:=(h.mono t).sq;rw[aC] at hi;let e:(ns.map V.int)[i]?=sr .int[getElem[ns][i][by get_elem_tactic]]:=by rw[cH,aZ hi];rfl
  refine((_,_,sq,e),?_);rintro x k ⟨rfl,c⟩;let z:=c _ sq;rw[e] at z;cases z;exact(Dd.refl _ _,λj r=>r,.int getElem[ns][i][by get_elem_tactic],by rw[cH,aZ hi];rfl,.int _)
 stop:=λd g i t hi=>(_,(h.mono t).sq,by rw[aC] at hi ⊢;omega)
theorem Bd7(lo:Int)(n:Nat):JOk e (Itr lo n) ((eZ n).map λ(k:Nat)=>W.int[lo+(k:Int)]) Y H where
 go:=λc d i p t hi=>by
  rw[aC,bO] at hi;refine(hi,?_);rintro x g ⟨rfl,rfl⟩;exact(Dd.refl _ _,λf r=>r,.int[lo+i],by rw[cH,wI hi];rfl,.int _)
 stop:=λc d i t hi=>by rw[aC,bO] at hi;exact lG hi.symm
theorem Bd8(z:t6):JOk f Its[z] chars[z] Y H where
 go:=λb e i p t hi=>by
  unfold chars at hi ⊢
  rw[aC,aV] at hi;refine(hi,?_);rintro x h ⟨rfl,c,a,rfl⟩;exact(Dd.refl _ _,λg r=>r,.str ⟨#[c]⟩,by rw[cH,iK,a];rfl,.str _)
 stop:=λb e i t hi=>by
  unfold chars at hi;rw[aC,aV] at hi;exact hi
end
section
def WI.weak(h:WI X tg e t)(k:∀σ H Q,t' σ H Q->t σ H Q):WI X tg e t':=⟨λaa s σ H Q I q=>h.un aa s σ H Q I (k σ H Q q)⟩
def WI.or(h:WI X b e t)(f:WI X b e d):WI X b e (λa H Q=>t a H Q\/d a H Q):=(⟨λc s a H Q I q=>by
 rcases q with q|q
 .exact h.un c s a H Q I q
 .exact f.un c s a H Q I q⟩)
set_option tactic.hygienic true in
def Anu(hK:X.K=i.K)(h:WE X e (tF i E f)):WI X P e (tFi i E Eo[f]):=(
 WI.weak WI.or[WI.or[⟨Bhq h.un⟩][⟨Bck h.un⟩]][⟨Bie h.un⟩] λs H Q A=>by
  let(Y,S,Z,R,F,q):=A;rw[hK];let go:∀(t:V->Hp->Prop),(∀v m p g w,Rep i p g m->RV i p m w v->Bb i Ad2[i] p m (Bd4 w g) Q E[s]->f Z S=.ok w g->t v m)->tF i E f s H t:=λt k=>by
   refine(Y,S,Z,R,F,?_);let r:=Bb.seq (Rel:=RV i) q;cases j:f Z S with
   |bad=>rw[j] at r;exact r
   |exc c g=>rw[j] at r;exact r
   |ok w g=>
    rw[j] at r;intro p m v I D l o;let q:Bb i Ad2[i] Y H (M.bind f[Z] Bd4 S) Q E[s]:=q;unfold M.bind at q;rw[j] at q;exact k v m p g w l o (Bb.shift q I D) j
  cases j:f Z S with
  |bad=>exact .inl (.inl (go _ λv m p g w l o d b=>by rw[j] at b;cases b))
  |exc c g=>exact .inl (.inl (go _ λv m p g w l o d b=>by rw[j] at b;cases b))
  |ok B S0=>
   cases B with
   |str z=>
    refine .inr[go _ λv m p g w l o d b=>?_];rw[j] at b;cases b;obtain rfl:=o.sI;let(U,d):=Hd d;exact(_,rfl,Bb.now d l Bd8[_])
   |tup N=>
    refine .inl .inl[go _ λv m p g w l o d b=>?_];rw[j] at b;cases b;cases o with
    |tup y G=>exact(_,rfl,(_,SqT.of y),Bb.now (Rel:=Ad2 i) d l (Bd5 y G))
   |scr ns=>
    refine .inl .inr[go _ λv m p g w l o d b=>?_];rw[j] at b;cases b;cases o with
    |scr u=>exact(_,rfl,(_,u.sq),Bb.now (Rel:=Ad2 i) d l Bd6[u])
   |ref n=>
    refine .inl .inr[go _ λv m p g w l o d b=>?_];rw[j] at b;cases b;cases o with
    |@ref _ a x=>
     simp only[Bd4] at d;split at d
     .rename_i O L;let(C,J,T):=l.at_ _ _ _ x L;exact(_,rfl,(C,.inl .inl[J]),Jd (Rel:=Ad2 i) d l (a,x,rfl))
     .exact(show False from d).elim
   |_=>
    refine .inl .inl[go _ λv m p g w l o d b=>?_];rw[j] at b;cases b;exact(show False from d).elim)
def Bi5(hp:sZ (model X.prog X.w) X.A X.env X.xe)(hK:X.K=d.K)(u:X.calm=t8)(hi:WI X f b (tFi d E src))(t:WG X f g)(j:GOk d s g)(v:WSs X body (tS d E bd))(p:∀x,foldedSetIterable b X.env x=pure x):
  WS X (.For f b body [] o) tS[d][E][Sx src s bd]:=(WS.weak ⟨Bhr hp u hi.un t.un v.un p⟩ λD y H l=>by
 let(Y,S,Z,R,h,q):=l;refine(Y,S,Z,R,h.2,(Dr.lift h q).mono ?_);rintro J L ⟨G,I,z,F,C,k,c,i,e⟩;cases z with
 |fix B=>exact Bd2 j i k c e
 |liv n=>
  let(a,r,rfl):=i;simp at e;split at e
  .exact Bd3 j Ay1[r] k c e
  trivial
 |zl n m=>trivial)
end
section
def Bi6(l:X.mg "range"=sy)(n:WA X [a] (tFs c E o))(m:X.env.kindOf "range"=sr .globalImplicit)(k:starEach [a] X.env=[(t7,eval a X.env)]):WI X w (.Call (.Name "range" p) [a] [] j) tFi[c][E][Nm Hn o]:=(
 WI.weak[Bda l n m k] λt H Q h=>by
  let(Y,S,Z,R,i,q):=h;refine(Y,S,Z,R,i,(Bb.seq (Rel:=RVs c) q).mono ?_);rintro v B ⟨z,A,u,y,x,s,d,b⟩;cases d with
  |nil=>trivial
  |cons f r=>
   cases r with
   |cons _ _=>cases f <;> exact(show False from b).elim
   |nil=>
    cases f <;> try exact(show False from b).elim
    let(e,b):=Hd b;exact(_,rfl,e.1,e.2,Bb.now (Rel:=Ad2 c) b s (Bd7 0 _)))
end
inductive Ty where
 |lst|str
def Ty.is:Ty->W->Store->Bool
 |.lst,.ref n,S=>match S[n]? with
  |some (.lst _)=>t8
  |_=>t7
 |.str,.str _,_=>t8
 |_,_,_=>t7
def Ty.name:Ty->String
 |.lst=>"list"
 |.str=>"str"
def Ir(T:Ty)(op:W->lg W->M W)(f:De->M W)(gs:De->M lg[W]):De->M W:=λZ=>do
 let x<-f Z;let _<-(λS=>if T.is x S then .ok u9 S else .bad:M Unit)
 let ws<-gs Z
 op x ws
def Ai4(x:W)(k:Nat->lg W->M W):M W:=match x with
 |.ref n=>λS=>match S[n]? with
  |some (.lst ws)=>k n ws S
  |_=>.bad
 |_=>bad
def putL(n:Nat)(ws:lg W)(r:W):M W:=λS=>if ws.length<=big then .ok r (S.set n .lst[ws]) else .bad
def Ra(x:W)(us:lg W):M W:=Ai4 x λn ws=>match us with
 |[u]=>putL n (ws ++ [u]) .non
 |_=>bad
def Rb(x:W)(us:lg W):M W:=Ai4 x λn ws=>match us with
 |[.int i]=>if ws.length<=big then match ixN ws.length i with
  |some j=>match ws[j]? with
   |some w=>putL n ws.eraseIdx[j] w
   |none=>bad
  |none=>bad else bad
 |_=>bad
def Ny(x:W)(us:lg W):M W:=match x,us with
 |.str z,[.ref n]=>λS=>match S[n]? with
  |some (.lst ws)=>match Ds asStr ws with
   |some ys=>if (ys.map (·.length)).sum+ys.length * z.length<=big then .ok .str[aBm z ys] S else .bad
   |none=>.bad
  |_=>.bad
 |_,_=>bad
def Ath(x:W)(us:lg W):M W:=match x,us with
 |.str z,[.str y]=>pure .int[aDy z y]
 |_,_=>bad
def Ak4(x:W)(us:lg W):M W:=match x,us with
 |.str z,[.str y]=>pure .int[aCp z y]
 |_,_=>bad
def Rc(x:W)(us:lg W):M W:=match x,us with
 |.str z,[.str y]=>match cQ z y 0 z.length 1 with
  |i::_=>pure (.int (i:Nat))
  |[]=>bad
 |_,_=>bad
def Ak5(x:W)(us:lg W):M W:=match x,us with
 |.str z,[.int i,.str f]=>if PadOk i&&decide[f.length=1] then pure .str[rA[z][i][f.cps.getD 0 0]] else bad
 |_,_=>bad
def Ak6(x:W)(us:lg W):M W:=match x,us with
 |.str z,[.str y]=>if z.length<=big then pure .str[jM z y] else bad
 |_,_=>bad
section
set_option tactic.hygienic true in
def Bd9(R:Rep a Y S H)(k:RV a Y H x c)(r:RVs a Y H e d)(h:Bb a RV[a] Y H (Ak5 x e S) Q E):∃z i f,c=.str z/\d=[.int i,.str f]/\PadOk i=t8/\f.length=1/\Q .str[rA[z][i][f.cps.getD 0 0]] H:=by
 unfold Ak5 at h;split at h
 .rename_i z i f;obtain rfl:=k.sI;cases r with|cons j r=>
  cases r with|cons g r=>
  cases r;obtain rfl:=j.iI;obtain rfl:=g.sI;let(b,h):=Hd h;rw[aB] at b;exact(_,_,_,rfl,rfl,b.1,dg b.2,h.now R .str[_])
 trivial
set_option tactic.hygienic true in
def Bea(R:Rep a Y S H)(g:RV a Y H x b)(r:RVs a Y H d c)(h:Bb a RV[a] Y H (Rc x d S) Q E):∃z y i rest,b=.str z/\c=[.str y]/\cQ z y 0 z.length 1=i::rest/\Q (.int (i:Nat)) H:=by
 unfold Rc at h;split at h
 .rename_i z y;obtain rfl:=g.sI;cases r with|cons f r=>
  cases r;obtain rfl:=f.sI;cases e:cQ z y 0 z.length 1 with
  |nil=>rw[e] at h;trivial
  |cons i rest=>
   rw[e] at h;exact(_,_,i,rest,rfl,rfl,e,h.now R .int[_])
 trivial
set_option tactic.hygienic true in
def Anv{k:Nat->lg W->M W}(R:Rep b Y S H)(l:RV b Y H x i)(h:Bb b RV[b] Y H (Ai4 x k S) Q E):
  ∃n a c d,x=.ref n/\i=.ref a/\Y[n]?=sr a/\S[n]?=sr .lst[c]/\H a=sr .lst[d]/\RVs b Y H c d/\Bb b RV[b] Y H (k n c S) Q E:=by
 cases l <;> try exact(h).elim
 rename_i n a e;simp[Ai4] at h;split at h
 .rename_i c f;let(d,m,j):=R.at_ _ _ _ e f;exact(n,a,c,d,rfl,rfl,e,f,m,j,h)
 trivial
def Ati{n:Nat}(R:Rep b Y S H)(i:Y[n]?=sr a)(m:H a=sr .lst[j])(g:RVs b Y H k c)(l:RV b Y H r d)(h:Bb b RV[b] Y H (putL n k r S) Q E):
  c.length<=big/\Q d (upd H a .lst[c]):=by
 simp[putL] at h;split at h
 .rename_i p;let t:Dd Y Y H (upd H a .lst[c]):=Xp i m (λf e=>by cases e) (λf f e=>by cases e)
  refine(by rw[<-g.length];omega,h Y _ d aP[_] t (R.write i t (c,Bd,g.mono aP[_] t)) (l.mono aP[_] t))
 trivial
theorem RVs.erase:∀{c:lg W} {b:lg V} (i:Nat),RVs d Y H c b->RVs d Y H c.eraseIdx[i] b.eraseIdx[i]
 |_,_,_,.nil=>.nil
 |_,_,0,.cons _ r=>r
 |_,_,i+1,.cons h r=>.cons h (RVs.erase i r)
set_option tactic.hygienic true in
def Beb(R:Rep c Y S H)(y:RV c Y H x m)(r:RVs c Y H p o)(h:Bb c RV[c] Y H (Rb x p S) Q E):Axy m o H Q:=by
 let(n,a,f,l,rfl,rfl,g,D,k,d,h):=Anv R y h;split at h
 .rename_i i _;let(v,rfl,hu):=rv1 r;obtain rfl:=hu.iI;let(u,h):=Hd h;cases b:ixN f.length i with
  |none=>simp only[b] at h;trivial
  |some j=>
   cases e:f[j]? with
   |none=>simp only[b,e] at h;trivial
   |some w=>
    simp only[b,e] at h;let(v,ev,t):=d.get e;let(_,q):=Ati R g k d.erase[j] t h;rw[d.length] at b;let(s,C,B,A):=As1 b;let g:=Afe;let z:=Jy u;rw[d.length] at z;exact(a,l,i,j,v,rfl,rfl,k,(),(),s,ev,q)
 .exact(show False from h).elim
def Bi7(R:Rep a Y S H)(e:RV a Y H x b)(r:RVs a Y H d c)(h:Bb a RV[a] Y H (Ath x d S) Q E):∃z y,b=.str z/\c=[.str y]/\Q .int[aDy z y] H:=by
 unfold Ath at h;split at h
 .obtain rfl:=e.sI;let(v,rfl,f):=rv1 r;obtain rfl:=f.sI;exact(_,_,rfl,rfl,h.now R .int[_])
 .exact(show False from h).elim
def Bec(R:Rep a Y S H)(f:RV a Y H x b)(r:RVs a Y H d c)(h:Bb a RV[a] Y H (Ak6 x d S) Q E):∃z y,b=.str z/\c=[.str y]/\z.length<=sizeLine/\Q .str[jM z y] H:=by
 unfold Ak6 at h;split at h
 .obtain rfl:=f.sI;let(v,rfl,g):=rv1 r;obtain rfl:=g.sI;let(e,h):=Hd h;exact(_,_,rfl,rfl,Jy e,h.now R .str[_])
 .exact(show False from h).elim
def Bed(R:Rep a Y S H)(e:RV a Y H x b)(r:RVs a Y H d c)(h:Bb a RV[a] Y H (Ak4 x d S) Q E):∃z y,b=.str z/\c=[.str y]/\Q .int[aCp z y] H:=by
 unfold Ak4 at h;split at h
 .obtain rfl:=e.sI;let(v,rfl,f):=rv1 r;obtain rfl:=f.sI;exact(_,_,rfl,rfl,h.now R .int[_])
 .exact(show False from h).elim
set_option tactic.hygienic true in
def Bi8(R:Rep c Y S H)(k:RV c Y H x e)(r:RVs c Y H g f)(h:Bb c RV[c] Y H (Ny x g S) Q E):∃z p b,e=.str z/\f=[.ref p]/\H p=sr .lst[b.map[V.str]]/\(b.map (·.length)).sum+b.length * z.length<=16777216/\Q .str[aBm z b] H:=by
 unfold Ny at h;split at h
 .rename_i z n;obtain rfl:=k.sI;let(v,rfl,m):=rv1 r;let(a,rfl,l):=m.rI;split at h
  .rename_i t q;split at h
   .rename_i b o;split at h
    .rename_i j;let(s,d,i):=R.at_ _ _ _ l q;rw[G9 Afx i o] at d;exact(z,a,b,rfl,rfl,d,aD j (),Jd h R .str[_])
    .exact(show False from h).elim
   .exact(show False from h).elim
  .exact(show False from h).elim
 .exact(show False from h).elim
end
def Bee(x:t6):o9[Ty×(W->lg W->M W)]:=
 if x="append" then sr[u6 .lst Ra] else if x="pop" then sr[u6 .lst Rb]
 else if x="join" then sr[u6 .str Ny] else if x="find" then sr[u6 .str Ath] else if x="rfind" then sr[u6 .str Ak4]
 else if x="ljust" then sr[u6 .str Ak5] else if x="index" then sr[u6 .str Rc] else if x="strip" then sr[u6 .str Ak6] else sy
structure Bpo(Θ:Th)(X:Cx)(T:Ty)(name:t6)(op:W->List W->M W) where
 id:String
 pa:PlainAttrs T.name
 slot:Slot T.name name id
 ty:typeOf (.builtin id)=pure (.type "method_descriptor")
 r:V->List V->Hp->VK->Prop
 ok:MtR X id r
 by_:∀Y S H x vx us vs Q E,Rep Θ Y S H->RV Θ Y H x vx->RVs Θ Y H us vs->Bb Θ (RV Θ) Y H (op x us S) Q E->r vx vs H Q
def Bef(h:Bee name=sr[u6 T U]):Nonempty[Bpo Θ X T name U]:=by
 unfold Bee at h;split at h
 .rename_i e;subst e;cases h;exact⟨(_,tR,PySem.F.slot_list_append,PySem.F.type_list_append,_,Aiu,λY S H x l d c Q E R b r h=>by
    let(n,a,ws,L,rfl,rfl,hn,e1,J,P,h):=Anv R b h;cases r with
    |nil=>exact(show False from h).elim
    |cons hu r=>
     cases r with
     |cons _ _=>exact(show False from h).elim
     |nil=>
      let(o,q):=Ati R hn J P.append[.cons hu .nil] .non h;rw[aU,dU] at o;exact(a,L,_,rfl,rfl,J,Jy o,q))⟩
 split at h
 .rename_i e;subst e;cases h;exact⟨(_,tR,PySem.F.slot_list_pop,PySem.F.type_list_pop,_,Axz,λY S H x l d c Q E R b r h=>Beb R b r h)⟩
 split at h
 .rename_i e;subst e;cases h;exact⟨(_,iC,PySem.F.slot_str_join,PySem.F.type_str_join,_,by
    intro B s A H x c v d Q I g j h;let(z,p,N,rfl,rfl,hp,o,q):=h;let(t,rfl):=g;let(u,rfl,O):=j.one;cases O;let(_,C,n,r,e):=(show Eh X.prog X.w H s.heap p .lst[N.map[V.str]] from I.hok p _ hp);exact join_list (D:=p) (items:=C.toArray) (_,e,rfl,_,rfl) (by simpa using Ael r) o λm k=>(.str _,H,I.tok _,(_,rfl),q),λY S H x l d c Q E R b r h=>Bi8 R b r h)⟩
 split at h
 .rename_i e;subst e;cases h;exact⟨(_,iC,PySem.F.slot_str_find,PySem.F.type_str_find,_,by
    intro B s A H x c v d Q I g j h;let(z,y,rfl,rfl,q):=h;let(t,rfl):=g;let(u,rfl,m,rfl):=j.one;exact SC.find (.int _,H,I.tok _,(_,rfl),q),λY S H x l d c Q E R b r h=>Bi7 R b r h)⟩
 split at h
 .rename_i e;subst e;cases h;exact⟨(_,iC,PySem.F.slot_str_rfind,PySem.F.type_str_rfind,_,by
    intro B s A H x c v d Q I g j h;let(z,y,rfl,rfl,q):=h;let(t,rfl):=g;let(u,rfl,m,rfl):=j.one;exact SC.rfind (.int _,H,I.tok _,(_,rfl),q),λY S H x l d c Q E R b r h=>Bed R b r h)⟩
 split at h
 .rename_i e;subst e;cases h;exact⟨(_,iC,PySem.F.slot_str_ljust,PySem.F.type_str_ljust,_,by
    intro B s A H x c v d Q I g j h;let(z,i,f,rfl,rfl,hp,hf,q):=h;let(t,rfl):=g;let(u,w,rfl,(t1,rfl),t2,rfl):=j.two;exact ljust_fill hp hf λm k=>(.str _,H,I.tok _,(_,rfl),q),λY S H x l d c Q E R b r h=>Bd9 R b r h)⟩
 split at h
 .rename_i e;subst e;cases h;exact⟨(_,iC,PySem.F.slot_str_index,PySem.F.type_str_index,_,by
    intro B s A H x c v d Q I g j h;let(z,y,i,rest,rfl,rfl,Z,q):=h;let(t,rfl):=g;let(u,rfl,m,rfl):=j.one;exact SC.index Z (.int i,H,I.tok _,(_,rfl),q),λY S H x l d c Q E R b r h=>Bea R b r h)⟩
 split at h
 .rename_i e;subst e;cases h;exact⟨(_,iC,PySem.F.slot_str_strip,PySem.F.type_str_strip,_,by
    intro B s A H x c v d Q I g j h;let(z,y,rfl,rfl,o,q):=h;let(t,rfl):=g;let(u,rfl,m,rfl):=j.one;exact SC.stripChars (λm k=>(.str _,H,I.tok k,(m,rfl),q)) o,λY S H x l d c Q E R b r h=>Bec R b r h)⟩
 .cases h
section
variable{Θ:Th}{X:Cx}{o e a b c:cL}{es:lg cL}{name:t6}{ak cpos:Pos}{E:L2.St->XK}{f:De->M W}{gs:De->M (lg W)}{T:Ty}{op:W->lg W->M W}
set_option tactic.hygienic true in
def Ty.is_ok{Y:lg aM}{S:Store}{H:Hp}{x:W}{v:V}{K:aF}(R:Rep Θ Y S H)(d:RV Θ Y H x v)(h:T.is x S=t8):tyV K T.name v H:=by
 cases T with
 |str=>cases d <;> first|rfl|trivial
 |lst=>
  cases d <;> try trivial
  rename_i n a j;simp[Ty.is] at h;split at h
  .rename_i m l;let(i,k,p):=R.at_ _ _ _ j l;exact .inl (rfl,i,.inl .inl[k])
  trivial
def Bpp(I:Bee name=sr[u6 T op])(J:WE X o (tF Θ E f))(N:WA X (e::es) (tFs Θ E gs))(O:attributeBase o name X.env (eval o X.env)=eval o X.env)(h:((backTo cpos (starEach (e::es) X.env)).all (λx=>!x.1)&&(backToKw cpos (keywordEach [] X.env)).all (λx=>x.1.isSome)&&decide[(e::es).length+([]:lg iQ).length+(if ([]:lg iQ).isEmpty then 0 else 1) < 30])=t8)(P:(ak.endLine==cpos.line)=t8)(L:starEach (e::es) X.env=(u6 t7 (eval e X.env))::starEach es X.env)(l:(backTo cpos (starEach es X.env)).any (·.1)=t7):
  WE X (.Call (.Attribute o name ak) (e::es) [] cpos) tF[Θ][E][Ir T op f gs]:=by
 obtain⟨m⟩:=Bef (Θ:=Θ) (X:=X) I;refine WE.weak[kbm m.pa m.slot m.ty m.ok J N O h P L l] λp H Q y=>?_;let(Y,S,Z,R,r,q):=y;refine(Y,S,Z,R,r,(Bb.seq q).mono ?_);rintro v H1 ⟨t,n,w,G,C,u,s,g⟩;let g:Bb Θ RV[Θ] t H1 (M.bind _ _ n) Q E[p]:=g;unfold M.bind at g;by_cases k:T.is w n=t8
 .simp only[k,if_true] at g;refine(Ty.is_ok u s k,t,n,Z,u,r.mono G C,(Bb.seq g).mono ?_);rintro A H2 ⟨U,S2,z,F,B,R2,j,D⟩;exact m.by_ U S2 H2 w v z A Q E[p] R2 (s.mono F B) j D
 .simp only[k,if_false] at g;exact g.elim
end
def FOk(Θ:Th)(ok:Bool->Nat->t6->Bool):Prop:=(∀c f,ok t7 c f=t8->Cls Θ.K Θ.cl[c]/\Q7 Θ.K Θ.cl[c] f)/\∀c f,ok t8 c f=t8->Θ.xf c=sr f/\XfK Θ.K Θ.cl[c] f
def Afz(ok:Bool->Nat->t6->Bool)(f:t6)(x:W):M W:=match x with
 |.ref n=>λS=>match S[n]? with
  |some (.ins c fs)=>if ok t7 c f then Aid fs.lookup[f] S else .bad
  |_=>.bad
 |.exn c w=>if ok t8 c f then pure w else bad
 |_=>bad
def Ai5(f:t6)(v:W):lg[t6×W]->lg (t6×W)
 |[]=>[(f,v)]
 |(g,x)::r=>if g=f then (u6 g v)::r else (u6 g x)::Ai5 f v r
def Anw(ok:Bool->Nat->t6->Bool)(f:t6)(x y:W):M Unit:=match x with
 |.ref n=>λS=>match S[n]? with
  |some (.ins c fs)=>if ok t7 c f&&decide[fs.length < 1000] then .ok u9 (S.set n .ins[c][Ai5 f y fs]) else .bad
  |_=>.bad
 |_=>bad
def Ak7(ok:Bool->Nat->t6->Bool)(f:t6)(g:De->M W):De->M W:=λZ=>do let x<-g Z;Afz ok f x
def Af0(ok:Bool->Nat->t6->Bool)(f:t6)(g h:De->M W):MS:=λZ=>Ez (do let y<-h Z;let x<-g Z;Anw ok f x y) (λuu=>.nx) Z
section
variable{ok:Bool->Nat->t6->Bool}
def RFs.look(r:RFs b Y H fs c)(f:t6)(h:fs.lookup f=sr w):∃v,c.lookup f=sr v/\RV b Y H w v:=by
 induction r with
 |nil=>cases h
 |@cons p q _ _ i r g=>
  let(d,n):=p;let(m,l):=q;let(e,k):=i;cases (e);rw[eF] at h ⊢
  by_cases a:(f==d)=t8
  .simp_all
  .rw[tU] at a;rw[a] at h ⊢;exact g h
def RFs.put(r:RFs b Y H fs c)(f:t6)(h:RV b Y H w v):RFs b Y H (Ai5 f w fs) (W6 f v c):=by
 induction r with
 |nil=>exact .cons (rfl,h) .nil
 |@cons p q _ _ j r i=>
  let(g,n):=p;let(m,l):=q;let(e,d):=j;cases (e);unfold Ai5 W6;by_cases a:g=f
  .rw[di a,di a];exact .cons (rfl,h) r
  .rw[dm a,dm a];exact .cons (rfl,d) i
def RFs.len(r:RFs Θ Y H fs vs):fs.length=vs.length:=paired_len r
def RFs.mono'(p:Y <+: Y')(t:Dd Y Y' H H')(r:RFs Θ Y H fs vs):RFs Θ Y' H' fs vs:=Paired.imp2 (λuu uu z=>(z.1,z.2.mono p t)) r
set_option tactic.hygienic true in
def Ay2(hf:FOk b ok)(R:Rep b Y S H)(p:RV b Y H x l)(h:Bb b RV[b] Y H (Afz ok f x S) Q E):
  (∃a C k fs v,l=.ref a/\H a=sr[.ins C k fs]/\Cls b.K C/\Q7 b.K C f/\fs.lookup f=sr v/\Q v H)\/∃a C n d v,l=.ref a/\H a=sr[Sw a .ref[C] sr[u6 n sr[d]]]/\H d=sr .xd[[(f,v)]]/\XfK b.K C f/\Q v H:=by
 let ex:∀{c:Nat} {w:W},Bb b RV[b] Y H (Afz ok f (.exn c w) S) Q E->b.xf c=sr f/\XfK b.K b.cl[c] f/\Bb b RV[b] Y H ((pure w:M W) S) Q E:=λ{c w} h=>by
  simp only[Afz] at h;by_cases e:ok t8 c f=t8
  .rw[di e] at h;exact((hf.2 c f e).1,(hf.2 c f e).2,h)
  .rw[dm e] at h;exact(show False from h).elim
 cases p <;> try exact(show False from h).elim
 .rename_i n a q;simp only[Afz] at h;split at h
  .rename_i c fs g;let(k,m,s,o):=R.at_ _ _ _ q g;split at h
   .rename_i e;let(w,t,h):=Wk h;let(v,ev,j):=o.look f t;exact .inl (a,_,k,m,v,rfl,s,(hf.1 c f e).1,(hf.1 c f e).2,ev,h.now R j)
   .exact(show False from h).elim
  .exact(show False from h).elim
 .rename_i i _ _;let(g,_,_):=ex h;rw[i] at g;cases g
 .rename_i n i _ _ r hd j;let(g,u,h):=ex h;rw[i] at g;cases g;exact .inr (_,_,1,_,_,rfl,r,hd,u,h.now R j)
set_option tactic.hygienic true in
def Ay3{Q:Unit->Hp->Prop}(hf:FOk d ok)(R:Rep d Y S H)(u:RV d Y H x r)(s:RV d Y H y l)(h:Bb d (λi i a b=>a=b) Y H (Anw ok f x y S) Q E):
  ∃a C g fs,r=.ref a/\H a=sr[.ins C g fs]/\Cls d.K C/\Q7 d.K C f/\fs.length < 1000/\Q u9 (upd H a .ins[C][g][W6 f l fs]):=by
 cases u <;> try exact(show False from h).elim
 rename_i n a k;simp only[Anw] at h;split at h
 .rename_i c fs w;let(g,m,p,o):=R.at_ _ _ _ k w;split at h
  .rename_i j;let(j,v):=bY.mp j;let t:Dd Y Y H (upd H a .ins[d.cl[c]][g][W6 f l m]):=Xp k p (λi e=>by cases e) (λi i e=>by cases e)
   refine(a,_,g,m,rfl,p,(hf.1 c f j).1,(hf.1 c f j).2,by rw[<-o.len];exact dg v,?_)
   exact h Y _ u9 aP[_] t (R.write k t (g,_,Bd,(o.put f s).mono' aP[_] t)) (by simp)
  .exact(show False from h).elim
 trivial
end
section
variable{ok:Bool->Nat->t6->Bool}
def Bm7(hK:X.K=b.K)(hf:FOk b ok)(j:WE X o (tF b E g))(k:attributeBase o f X.env (eval o X.env)=eval o X.env):WE X (.Attribute o f i) tF[b][E][Ak7 ok f g]:=(
 WE.weak ⟨Bdl j.un k⟩ λm H Q c=>by
  let(Y,S,Z,R,d,q):=c;rw[hK];refine(Y,S,Z,R,d,(Bb.seq q).mono ?_);rintro v t ⟨r,s,w,p,n,l,e,h⟩;exact Ay2 hf l e h)
def Bi9(hK:X.K=d.K)(hf:FOk d ok)(B:WE X o (tF d E g))(z:WE X value (tF d E h))(A:swapsWith value sr[.Attribute o f c] j.line X.env=pure t7):
  WS X (.Assign [.Attribute o f c] value j) tS[d][E][Af0 ok f g h]:=(WS.weak ⟨Bhy B.un z.un A⟩ λD U H k=>by
 let(Y,S,Z,R,i,q):=k;rw[hK];refine(Y,S,Z,R,i.2,(Bb.seq (Dr.lift (Rel:=λl l a b=>a=b) i q)).mono ?_);rintro vy H1 ⟨O,P,y,w,n,T,p,u⟩;refine(O,P,Z,T,i.2.mono w n,(Bb.seq u).mono ?_);rintro vx H2 ⟨Y2,S2,x,v,m,R2,r,t⟩;let(a,C,N,fs,L,J,I,G,F,Y3,S3,_,p3,t3,Q,e,_,s):=Ay3 hf R2 r (p.mono v m) t;exact(a,C,N,fs,L,J,I,G,F,s.nxt Q e))
end
def Av4{d:CXT}{P:cJ}{w:dZ}{K:aF}{mg:t6->o9 aH}{base:eE}{N:lg t6}{j:t6}{scope:kJ}{f:aM}{i:aH}{A:fX}{outer:lg Env}{s:aN}{H:Hp}{E:XK}{g:Bool}:
  sZ (model P w) (Abu d P w K mg base N j scope f i A outer s H E g).A (Abu d P w K mg base N j scope f i A outer s H E g).env (Abu d P w K mg base N j scope f i A outer s H E g).xe:=(
 λe l h=>aFf (Q₁:=λe a=>d outer H s E e a) (E₁:=λm a=>d outer H s E m a) e l h)
def Ad3(c d:De->M Bool):De->M Bool:=λZ=>do let x<-c Z;if x then d Z else pure t7
def orT(c d:De->M Bool):De->M Bool:=λZ=>do let x<-c Z;if x then pure t8 else d Z
def Qm(c:De->M Bool):De->M Bool:=λZ=>do let x<-c Z;pure[!x]
section
def WW.weak(h:WW X e t)(k:∀σ H Q,t' σ H Q->t σ H Q):WW X e t':=⟨λwh aa s σ H Q I q=>h.un wh aa s σ H Q I (k σ H Q q)⟩
def Ay4(h:WE X e (tF c E f))(k:∀whole,isTrue e X.env whole=(do let v<-whole;standAt e.pos;holding [v] truthy[v])):WT X e (tFb c E Dp[f]):=(Aq6 (λa a a q=>q) (⟨by
  intro l s b H Q I j;refine isTrue_plain[thn[h.un l s b H _ I j] λv o ⟨x,H1,I1,r1,q1⟩=>?_][k _];let(d,rfl,q):=q1;cases r1;exact gP (H1,I1,q)⟩))
end
def Rh(c:Nat)(gs:De->M lg[W]):MS:=λZ=>Ez gs[Z] (λws Z S=>if ws.length<=big then .ex (u6 c .non) Z S else .bad) Z
section
def Ay5{c:Nat}(j:b.xf c=sy)(u:Anf X.K b.cl[c])(v:X.mg x=sr .ref[b.cl[c]])(A:X.calm=t8)(C:Raises X E)(B:WA X (e::d) tFs[b][λs=>E][F])(w:X.env.kindOf x=sr .globalImplicit)(hd:(x==("__debug__":t6))=t7)(y:starEach (e::d) X.env=(u6 t7 (eval e X.env))::starEach d X.env)(k:(backTo a (starEach d X.env)).any (·.1)=t7):
  WS X (.Raise sr[.Call (.Name x p) (e::d) [] a] sy t) tS[b][λs=>E][Rh c F]:=(WS.weak[Bik u v A C B w hd y k] λD n H o=>by
 let(Y,S,Z,R,l,q):=o;refine(Y,S,Z,R,l.2,(Dr.lift l q).mono ?_);rintro O N ⟨G,T,r,Q,P,J,f,g,h⟩;by_cases i:r.length<=big
 .rw[di i] at h;let z:=h G N n aP[_] (Dd.refl _ _) J f;unfold XP at z;rw[j] at z;exact(Jy (by rw[<-g.length];exact i),_,z)
 .rw[dm i] at h;trivial)
end
def Aaq(kvs:lg[Key×W])(k:Key)(w:W):lg[Key×W]:=if kvs.any[λp=>decide[p.1=k]] then kvs.map[λp=>if p.1=k then (u6 p.1 w) else p] else kvs ++ [(k,w)]
def Ai6(x y v:W):M Unit:=match x with
 |.ref n=>λS=>match S[n]? with
  |some (.dct kvs)=>match Afw y with
   |some k=>if kvs.length < big then .ok u9 (S.set n .dct[Aaq kvs k v]) else .bad
   |none=>.bad
  |_=>.bad
 |_=>bad
def Af1(f g h:De->M W):MS:=λZ=>Ez (do let v<-h Z;let x<-f Z;let y<-g Z;Ai6 x y v) (λuu=>.nx) Z
section
def RKV.app(r:RKV b Y H a c)(t:RKV b Y H e d):RKV b Y H (a ++ e) (c ++ d):=by
 induction r with
 |nil=>exact t
 |cons h r f=>exact .cons h f
def RKV.put(r:RKV d Y H a f)(k:Key)(h:RV d Y H w v):RKV d Y H (Aaq a k w) (putK f k v):=by
 let i:a.any[λp=>decide[p.1=k]]=f.any[λp=>decide[p.1=k]]:=by
  induction r with
  |nil=>rfl
  |cons b r g=>simp_all
 unfold Aaq putK;rw[i];split
 .rename_i c;clear i c;induction r with
  |nil=>exact .nil
  |@cons p q _ _ b r g=>
   rw[bL,bL];refine .cons ?_ g;by_cases e:p.1=k
   .rw[di e,di b.1.symm.trans[e]];exact(b.1,h)
   .rw[dm e,dm[λz=>e b.1.trans[z]]];exact b
 .exact r.app[.cons (rfl,h) .nil]
def RKV.mono'(p:Y <+: Y')(t:Dd Y Y' H H')(r:RKV Θ Y H fs vs):RKV Θ Y' H' fs vs:=Paired.imp2 (λuu uu z=>(z.1,z.2.mono p t)) r
set_option tactic.hygienic true in
def Ay6(R:Rep c Y S H)(u:RV c Y H x q)(s:RV c Y H y p)(r:RV c Y H z i)(h:Bb c (λd d a b=>a=b) Y H (Ai6 x y z S) Q E):
  ∃a o,q=.ref a/\Avc H a p i o/\Q u9 o:=by
 cases u <;> try exact(show False from h).elim
 rename_i n a g;simp only[Ai6] at h;split at h
 .rename_i f B;let(j,m,l):=R.at_ _ _ _ g B;split at h
  .rename_i k A;rw[Aem s A];split at h
   .rename_i v;let w:f.length=j.length:=paired_len l;let t:Dd Y Y H (upd H a .dK[putK j k i]):=Xp g m (λd e=>by cases e) (λd d e=>by cases e)
    refine(a,_,rfl,Avc.k m (by rw[<-w];exact bH v ()),?_)
    exact h Y _ u9 aP[_] t (R.write g t (_,Bd,(l.put k r).mono' aP[_] t)) (by simp)
   .exact(show False from h).elim
  .exact(show False from h).elim
 trivial
end
section
def Beg(hu:X.A.units+64 < cLine)(O:WE X o (tF c E f))(hi:WE X b (tF c E g))(L:WE X v (tF c E h))(N:swapsWith v sr[.Subscript o b d] j.line X.env=pure t7):
  WS X (.Assign [.Subscript o b d] v j) tS[c][E][Af1 f g h]:=(WS.weak[⟨Bcv () O.un hi.un L.un N⟩] λD σ H s=>by
 let(Y,S,Z,R,e,q):=s;let J:=Dr.lift (Rel:=λt t a b=>a=b) e q;refine(Y,S,Z,R,e.2,(Bb.seq (Rel:=RV c) J).mono ?_);rintro vz H1 ⟨U,S1,z,r,m,R1,u,I⟩;refine(U,S1,Z,R1,e.2.mono r m,(Bb.seq (Rel:=RV c) I).mono ?_);rintro vx H2 ⟨T,S2,x,p,l,R2,B,G⟩;refine(T,S2,Z,R2,(e.2.mono r m).mono p l,(Bb.seq (Rel:=RV c) G).mono ?_);rintro vy H3 ⟨Y3,S3,y,n,k,R3,w,F⟩;let(a,H',Q,P,Y4,S4,_,p4,t4,R4,i,_,C):=Ay6 R3 (B.mono n k) w ((u.mono p l).mono n k) F;exact(a,H',Q,P,C.nxt R4 i))
end
def Bl(n:Nat)(ws:lg W):De:=ws.map sr ++ cA (n - ws.length) sy
def Cp(k n:Nat)(b:MS):lg W->M W:=λws S=>if ws.length=k then match b (Bl n ws) S with
 |.nx _ S1=>.ok .non S1
 |.rt w S1=>.ok w S1
 |.ex c _ S1=>.exc c S1
 |_=>.bad else .bad
section
def Bm8{D:Th}{P:cJ}{w:dZ}{K:aF}{mg:t6->o9 aH}{base:eE}{t:Bool}{x y:t6}{st:dI}{f:aM}{fd:eX}{N ps:lg t6}{k:Nat}{b:MS}(F:Fun K x y st f fd)(Sc:Gs N ps Ak[st])(hbody:∀(a:aH)(A:fX)(outer:lg Env)(s:aN)(H:Hp)(E:XK),Ho k A.deeper[envOfC y Ak[st] s.heap.objs.size f a] t->
   WSs[Abu (CXo P w) P w K mg base N y Ak[st] f a A outer s H E t][Ao st][tS D (λG=>E) b]):Ib P w K mg base (CXo P w) (k+1) f fd ps spF[D][Cp ps.length N.length b] t:=by
 refine Fun.okW F Sc (λL H Q E h=>?_) λa A outer s H L Q E T h=>(_,hbody a A outer s H E T,?_)
 .let(Y,S,d,R,r,q):=h;unfold Cp at q;by_cases g:d.length=ps.length
  .exact r.length.symm.trans g
  .rw[dm g] at q;exact q.elim
 .let(Y,S,d,R,r,q):=h;unfold Cp at q;by_cases g:d.length=ps.length
  .rw[di g] at q;refine(Y,S,Bl N.length d,R,by
     let I:=r.length;refine(by simp only[Bl,L2.start,aU,aC,fG,I],λi u e=>?_)
     let hi:i < d.length:=by
      by_cases hi:i < d.length
      .exact hi
      .unfold Bl at e;rw[bB (by rw[aC];omega),kZ] at e
       split at e <;> cases e
     unfold Bl at e;rw[aX (by rw[aC];exact hi),cH] at e
     let(u',X,U):=bF.mp e;cases U;let(v,ev,O):=r.get X;refine(v,?_,O);unfold L2.start;rw[aX (by rw[aC,<-I];exact hi),cH,ev]
     rfl,?_)
   cases e:b (Bl N.length d) S with
   |nx Z m=>rw[e] at q;exact λz C n p o B G=>q z C .non p o B .non
   |rt u m=>rw[e] at q;trivial
   |ex c Z m=>rw[e] at q;exact λz C n p o B G=>q z C p o B
   |bk Z m=>rw[e] at q;exact q.elim
   |ct Z m=>rw[e] at q;exact q.elim
   |bad=>rw[e] at q;exact q.elim
  .rw[dm g] at q;exact q.elim
end
def Jl(op op':yM)(f g h:De->M W):De->M W:=λZ=>do
 let x<-f Z;let y<-g Z;let z<-El op x y
 asB z λb=>if b then do let u<-h Z;El op' y u else pure .bl[t7]
def Tv(s:Tg)(f:De->M W):MS:=λZ=>Ez f[Z] (λw Z S=>match s w Z with
 |some Z1=>.nx Z1 S
 |none=>.bad) Z
section
def Ai7(o:Biz a X T)(v:Biz a X d):∀b H Q,tF a E (Jl T d f g h) b H Q->Aqj o.r v.r (tF a E f) (tF a E g) (tF a E h) b H Q:=by
 rintro b H Q ⟨Y,S,Z,R,c,q⟩;refine(Y,S,Z,R,c,(Bb.seq (Rel:=RV a) q).mono ?_);rintro A H1 ⟨Y1,S1,x,t,l,R1,F,O⟩;refine(Y1,S1,Z,R1,c.mono t l,(Bb.seq (Rel:=RV a) O).mono ?_);rintro e H2 ⟨Y2,S2,y,s,j,R2,m,N⟩;let L:=Bb.seq (Rel:=RV a) N;refine o.by_ Y2 S2 H2 x y A e _ E[b] R2 (F.mono s j) m L.mono[?_];rintro vz H3 ⟨Y3,S3,z,p,i,w,D,J⟩;let(k,rfl,n):=Afv D J;refine(k,rfl,?_);cases k with
 |false=>exact L2.Ane (n.now w .bl[_])
 |true=>
  refine L2.Akf (Y3,S3,Z,w,((c.mono t l).mono s j).mono p i,(Bb.seq (Rel:=RV a) n).mono ?_);rintro B H4 ⟨U,S4,u,P,C,R4,G,I⟩;exact v.by_ U S4 H4 y u e B Q E[b] R4 ((m.mono p i).mono P C) G I
def Bja(x:WE X e (tF c E f))(u:WG X a t)(z:GOk c s t)(r:swapsWithSole [a] e h.line X.env=pure t7)(p:swappedStores [a] e X.env=pure sy)(y:(assignEach [a] X.env).map (·.2)=[assign a X.env]):
  WS X (.Assign [a] e h) tS[c][E][Tv s f]:=(WS.weak ⟨Bho x.un u.un r p y⟩ λD m H n=>by
 let(Y,S,Z,R,j,q):=n;refine(Y,S,Z,R,j.2,(Dr.lift (Rel:=RV c) j q).mono ?_);rintro v F ⟨B,C,w,I,G,k,d,o,b⟩;cases i:s w Z with
 |none=>simp only[i] at b;exact b.elim
 |some A=>
  simp only[i] at b;exact z B C F w v Z A m _ k d o i λl g=>b.nxt k g)
end
def noX{α:Type}(m:M α):M α:=λS=>match m S with
 |.ok a S1=>.ok a S1
 |_=>.bad
abbrev E0s:L2.St->XK:=λuu uu uu uu=>False
def Aar(k:Nat)(cap:lg Nat)(Z:De):De:=cA k sy ++ cap.map λj=>Z.getD j sy
def Mx(s:Tg)(t:De->M Bool)(e:De->M W):lg W->De->lg W->M lg[W]
 |[],_,acc=>pure acc
 |w::ws,Z,acc=>match s w Z with
  |none=>bad
  |some Z1=>do
   let b<-noX t[Z1]
   if b then do
    let y<-e Z1
    if acc.length < big then Mx s t e ws Z1 (acc ++ [y]) else bad
   else Mx s t e ws Z1 acc
def nxF(e:De->M W):De->M W:=λZ=>noX e[Z]
def R9(s:Tg)(t:De->M Bool)(e:De->M W):lg W->De->lg W->M lg[W]:=Mx s t nxF[e]
section
def Aen{c b d:Type}(m:M c)(f:c->M b)(k:b->M d)(S:Store):((m >>= f) >>= k) S=(m >>= λa=>f a >>= k) S:=by
 show M.bind (M.bind m f) k S=M.bind m _ S;unfold M.bind;cases m S <;> rfl
def Bb.seqB{d q k l:Type}{Rel:lg aM->Hp->d->q->Prop}{a:lg aM->Hp->k->l->Prop}{m:M d}{f:d->M k}{Q:l->Hp->Prop}(h:Bb g a Y0 j ((noX m >>= f) S) Q E)(F:XK):
  Bb g Rel Y H m[S] (SqQ g Rel a Y H Y0 j f Q E) F:=by
 let h:Bb g a Y0 j (M.bind _ f S) Q E:=h;unfold M.bind noX at h;cases e:m S with
 |bad=>rw[e] at h;exact h
 |exc c o=>rw[e] at h;trivial
 |ok w o=>
  rw[e] at h;exact λs j v p t r i=>(s,o,w,p,t,r,i,h)
end
def Bb.seqX{i:Th}{Y d:lg aM}{S:Store}{H g:Hp}{E:XK}{j q l n:Type}{Rel:lg aM->Hp->j->q->Prop}{a:lg aM->Hp->l->n->Prop}{m:M j}{f:j->M l}{Q:n->Hp->Prop}(h:Bb i a d g ((m >>= f) S) Q E)(u:d <+: Y)(s:Dd d Y g H):
  Bb i Rel Y H m[S] (SqQ i Rel a Y H d g f Q E) E:=by
 let h:Bb i a d g (M.bind m f S) Q E:=h;unfold M.bind at h;cases e:m S with
 |bad=>rw[e] at h;exact h
 |exc c o=>rw[e] at h;exact λy z p t r=>h y z u.trans[p] s.trans[t] r
 |ok w o=>
  rw[e] at h;exact λx g v p t r k=>(x,o,w,p,t,r,k,h)
def Anx:HO->Bool
 |.lst _=>t8
 |.dK _=>t8
 |_=>t7
mutual
theorem RV.grow{f:Th}{Y d:lg aM}{H:Hp}(p:Y <+: d)(n:∀b,b∈d->b∈Y\/∃o,H b=sr o/\Anx o=t8):∀{w:W} {v:V},RV f Y H w v->RV f d H w v
 |_,_,.non=>.non
 |_,_,.bl b=>.bl b
 |_,_,.int i=>.int i
 |_,_,.str x=>.str x
 |_,_,.tup h r=>.tup h (RVs.grow p n r)
 |_,_,.scr h=>.scr h
 |_,_,.ty n=>.ty n
 |_,_,.cls c=>.cls c
 |_,_,.exn x m h=>.exn x (λz=>by
  rcases n _ z with q|⟨o,q,a⟩
  .exact m q
  .rw[h] at q;cases q;cases a) h
 |_,_,.exf x m k h g r=>.exf x (λz=>by
  rcases n _ z with q|⟨o,q,a⟩
  .exact m q
  .rw[h] at q;cases q;cases a) (λz=>by
  rcases n _ z with q|⟨o,q,a⟩
  .exact k q
  .rw[g] at q;cases q;cases a) h g (RV.grow p n r)
 |_,_,.ref h=>.ref (by
  let(r,rfl):=p;let(l,e):=aK.mp h;rw[aX l];exact h)
theorem RVs.grow{d:Th}{Y c:lg aM}{H:Hp}(p:Y <+: c)(n:∀b,b∈c->b∈Y\/∃o,H b=sr o/\Anx o=t8):∀{e:lg W} {f:lg V},RVs d Y H e f->RVs d c H e f
 |_,_,.nil=>.nil
 |_,_,.cons h r=>.cons[RV.grow p n h][RVs.grow p n r]
end
section
def Nv.grow(p:Y <+: Y')(n:∀b,b∈Y'->b∈Y\/∃o,H b=sr o/\Anx o=t8)(h:Nv i Y H a c):Nv i Y' H a c:=by
 cases c with
 |lst f=>let(d,h,r):=h;exact(d,h,r.grow p n)
 |dct f=>let(d,h,r):=h;exact(d,h,Paired.imp2 (λe e z=>(z.1,z.2.grow p n)) r)
 |ins c f=>let(j,d,h,r):=h;exact(j,d,h,Paired.imp2 (λe e z=>(z.1,z.2.grow p n)) r)
theorem Rep.take(R:Rep i Y S H)(o:D∉Y)(h:H D=sr .lst[j])(r:RVs i Y H f j):Rep i (Y ++ [D]) (S ++ [.lst f]) H where
 len:=by rw[aU,aU,R.len];rfl
 nd:=by
  rw[mG];refine(R.nd,by simp,λa m b c=>?_)
  obtain rfl:b=D:=by simpa using c
  rintro rfl;exact o m
 at_:=λn a d e g=>by
  by_cases k:n < Y.length
  .rw[aX k] at e;rw[aX (by rw[<-R.len];exact k)] at g
   exact(R.at_ n a d e g).grow (cF _ _) (λb c=>by
    rcases cU.mp c with z|z
    .exact .inl z
    .obtain rfl:=aR.mp z;exact .inr (_,h,rfl))
  .let l:=(aK.mp e).1;rw[aU,dU] at l;obtain rfl:n=Y.length:=by omega
   rw[bB aO[_],fV] at e;rw[R.len,bB aO[_],fV] at g;obtain rfl:D=a:=by simpa using e
   obtain rfl:Cell.lst f=d:=by simpa using g
   exact(j,h,r.grow (cF _ _) (λb c=>by
    rcases cU.mp c with z|z
    .exact .inl z
    .obtain rfl:=aR.mp z;exact .inr (_,h,rfl)))
def Atj(own:lg t6)(b:lg Nat)(h:RSl g Y H Z f):RSs g Y H (Aar own.length b Z) (Avi own b f):=by
 refine(by simp[Aar,Avi],λi w e=>?_)
 unfold Aar at e;unfold Avi;by_cases hi:i < own.length
 .rw[aX (by rw[fG];exact hi),kZ] at e
  simp_all
 .rw[bB (by rw[fG];omega),fG,cH] at e
  rw[bB (by rw[fG];omega),fG,cH]
  let(j,l,a):=bF.mp e;rw[l];rw[dN] at a;cases d:Z[j]? with
  |none=>rw[d] at a;cases a
  |some o=>
   rw[d] at a;subst a;let(v,p,k):=h j w d;exact(v,by simp_all,k)
end
mutual
theorem RV.keep{a:Th}{Y:lg aM}{H e:Hp}(t:∀b o,H b=sr o->Anx o=t7->e b=sr o):∀{w:W} {v:V},RV a Y H w v->RV a Y e w v
 |_,_,.non=>.non
 |_,_,.bl b=>.bl b
 |_,_,.int i=>.int i
 |_,_,.str x=>.str x
 |_,_,.tup h r=>.tup (t _ _ h rfl) (RVs.keep t r)
 |_,_,.ty n=>.ty n
 |_,_,.cls c=>.cls c
 |_,_,.exn x m h=>.exn x m (t _ _ h rfl)
 |_,_,.exf x m f h g r=>.exf x m f (t _ _ h rfl) (t _ _ g rfl) (RV.keep t r)
 |_,_,.scr h=>.scr (by
  rcases h with ⟨o,h⟩|h
  .exact .inl (o,t _ _ h rfl)
  .exact .inr h)
 |_,_,.ref h=>.ref h
theorem RVs.keep{c:Th}{Y:lg aM}{H f:Hp}(t:∀b o,H b=sr o->Anx o=t7->f b=sr o):∀{d:lg W} {e:lg V},RVs c Y H d e->RVs c Y f d e
 |_,_,.nil=>.nil
 |_,_,.cons h r=>.cons[RV.keep t h][RVs.keep t r]
end
section
def Sd(H:Hp)(D:aM):Prop:=H D=sy\/∃o,H D=sr o/\Anx o=t8
def Sd.t(h:Sd H D):∀b a,H b=sr .tup[a]->upd H D o b=sr .tup[a]:=(λb a q=>by
 rw[Ax (by rintro rfl;rcases h with h|⟨o,h,m⟩ <;> rw[h] at q <;> cases q;cases m)];omega)
def Sd.f(h:Sd H D):∀b ob u,H b=sr[.frz ob u]->upd H D o b=sr[.frz ob u]:=(λb ob u q=>by
 rw[Ax (by rintro rfl;rcases h with h|⟨o,h,m⟩ <;> rw[h] at q <;> cases q;cases m)];omega)
def Sd.g(h:Sd H D):∀b o,H b=sr o->Anx o=t7->upd H D a b=sr o:=(λb o q n=>by
 rw[Ax (by
  rintro rfl;rcases h with h|⟨u,h,m⟩ <;> rw[h] at q
  .cases q
  simp_all)];omega)
theorem Rep.off(R:Rep j Y S H)(k:D∉Y)(h:Sd H D):Rep j Y S (upd H D o) where
 len:=R.len
 nd:=R.nd
 at_:=λn a c i l=>by
  let ne:a≠D:=by
   rintro rfl;exact k jU[i]
  let q:=R.at_ n a c i l;cases c with
  |lst f=>let(b,d,r):=q;exact(b,(Ax ne).trans d,r.keep h.g)
  |dct f=>let(b,d,r):=q;exact(b,(Ax ne).trans d,Paired.imp2 (λe e z=>(z.1,z.2.keep h.g)) r)
  |ins c f=>let(m,b,d,r):=q;exact(m,b,(Ax ne).trans d,Paired.imp2 (λe e z=>(z.1,z.2.keep h.g)) r)
theorem RSs.off(r:RSs b Y H Z a)(h:Sd H D):RSs b Y (upd H D o) Z a:=(r.1,λi w e=>by
 let(v,d,c):=r.2 i w e;exact(v,d,c.keep h.g))
theorem Dd.off(t:Dd Y0 Y H1 H)(d:H1 D=sy)(h:Sd H D):Dd Y0 Y H1 (upd H D o) where
 t:=λb a q=>h.t b a (t.t b a q)
 f:=λb ob u q=>h.f b ob u (t.f b ob u q)
 k:=λb ob q m=>by rw[Ax (by rintro rfl;rw[d] at q;cases q)];exact t.k b ob q m
 n:=t.n
def Ai8(k:∀σ H Q,tF c (λuu=>E) ef σ H Q->te σ H Q)(gk:GOk c s g)(jk:JOk c J all Y0 H1)(R:Rep c Y0 S H1)(sl:RSs c Y0 H1 Z σ)(I:H1 D=sy)(q:Bb c RV[c] Y0 H1 ((Mx s tf ef all Z [] >>= Ck) S) Q E):
  Aiz J g (tFb c E0s tf) te D σ H1 Q:=by
 let nD:D∉Y0:=λz=>by
  let(o,ho):=R.tracked z;rw[I] at ho;cases ho
 refine(λi m r C B=>∃Y S Z' F,i<=all.length/\Y0 <+: Y/\Dd Y0 Y H1 B/\D∉Y/\Rep c Y S B/\RSs c Y B Z' C/\RVs c Y B F r/\m=(all.drop i).length/\Bb c RV[c] Y0 H1 ((Mx s tf ef all.drop[i] Z' F >>= Ck) S) Q E,
  (_,Y0,S,Z,[],cY _,aP _,(Dd.refl _ _).off I .inl[I],nD,R.off nD .inl[I],sl.off .inl[I],.nil,rfl,q),?_)
 rintro i m r C B ⟨Y,S,Z',F,li,p,t,mD,O,G,N,rfl,l⟩ d;by_cases hi:i < all.length
 .let(go,yl):=jk.go Y B i p t hi;refine .inr (go,λx L hy=>?_);let(ty,Ry,w,ew,rv):=yl x L hy;let O:=Ry _ O;let G:=G.mono aP[_] ty;let t:=t.trans ty;let N:=N.mono aP[_] ty;let d:=ty.k D _ d mD;let ed:all.drop i=w::all.drop[i+1]:=by
   let(hl,e):=aK.mp ew;rw[<-e];exact gO hl
  let hm:(all.drop[i+1]).length < (all.drop i).length:=by rw[bM,bM];omega
  rw[ed] at l;unfold Mx at l;cases es:s w Z' with
  |none=>simp only[es] at l;exact(show False from l).elim
  |some Z2=>
   simp only[es] at l;refine gk Y S L w x Z' Z2 C _ O G rv es λσ2 j=>(Y,S,Z2,O,j.2,?_);rw[Aen] at l;refine(Bb.seqB (Rel:=λuu uu a b=>a=b) (Y:=Y) (H:=L) l _).mono ?_;rintro b H3 ⟨Y3,S3,b',v,h,R3,e3,P⟩;let e3:b'=b:=e3;subst e3;let out:∀{Ya Yb:lg aM} {Ha Hb:Hp},D∉Ya->Ha D=sr .lst[r]->Dd Ya Yb Ha Hb->D∉Yb/\Hb D=sr .lst[r]:=λ{Ya Yb Ha Hb} m1 m2 m3=>by
    refine(λz=>?_,m3.k D _ m2 m1);rcases m3.n D z with z|z
    .exact m1 z
    .rw[m2] at z;cases z
   let(U,hD3):=out mD d h;cases b' with
   |false=>
    rw[dm cC] at P ⊢
    exact(hD3,_,hm,Y3,S3,Z2,F,hi,p.trans v,t.trans h,U,R3,j.mono v h,N.mono v h,rfl,P)
   |true=>
    rw[di rfl] at P ⊢
    rw[Aen] at P;refine k _ _ _ (Y3,S3,Z2,R3,(j.mono v h).2,(Bb.seqX (Rel:=RV c) (Y:=Y3) (H:=H3) P p.trans[v] t.trans[h]).mono ?_);rintro y H4 ⟨Y4,S4,yw,p4,t4,R4,ry,q4⟩;let(T,X):=out U hD3 t4;by_cases hz:F.length < big
    .rw[di hz] at q4;let fl:Sd H4 D:=.inr (_,X,rfl);let ra4:=(N.mono v h).mono p4 t4;refine(X,by rw[<-N.length];exact bH hz (),_,hm,Y4,S4,Z2,F ++ [yw],hi,(p.trans v).trans p4,((t.trans h).trans t4).off I fl,T,R4.off T fl,((j.mono v h).mono p4 t4).off fl,?_,rfl,q4)
     exact(ra4.append[.cons ry .nil]).keep fl.g
    .rw[dm hz] at q4;exact(show False from q4).elim
 .rw[fW ()] at l
  refine .inl (jk.stop Y B i t (),?_)
  let q2:Bb c RV[c] Y0 H1 (Ck F S) Q E:=l;simp only[Ck] at q2;split at q2
  .refine q2 (Y ++ [D]) B .ref[D] p.trans[cF _ _] (t.t,t.f,t.k,λb hb=>?_) (O.take mD d N) .ref[?_]
   .rcases cU.mp hb with z|z
    .exact t.n b z
    .obtain rfl:b=D:=by simpa using z
     exact .inr I
   .rw[<-O.len];exact Ma
  .exact(show False from q2).elim
end
def Jq(s:Tg)(t:De->M Bool)(e:De->M W)(gt:Store->Nat->o9 o9[W]):Nat->Nat->De->lg W->M lg[W]
 |0,_,_,_=>bad
 |m+1,i,Z,acc=>λS=>match gt S i with
  |none=>.bad
  |some sy=>.ok acc S
  |some (sr w)=>match s w Z with
   |none=>.bad
   |some Z1=>(noX t[Z1] >>= λb=>if b=t8 then noX e[Z1] >>= λy=>if acc.length < big then Jq s t e gt m (i+1) Z1 (acc ++ [y]) else bad else Jq s t e gt m (i+1) Z1 acc) S
def zlG(n m:Nat):Store->Nat->o9 o9[W]:=λS i=>match S[n]?,S[m]? with
 |some (.lst ws),sr (.lst us)=>match ws[i]?,us[i]? with
  |some w,sr u=>sr sr[.tup[[w,u]]]
  |_,_=>sr sy
 |_,_=>sy
def Dn(k:Nat)(cap:lg Nat)(src:De->M Src)(s:Tg)(t:De->M Bool)(e:De->M W):De->M W:=λZ=>do
 let z<-src Z
 match z with
 |.fix ws=>R9 s t e ws (Aar k cap Z) [] >>= Ck
 |.liv n=>λS=>match S[n]? with
  |some (.lst ws)=>(Jq s t e liG[n] (ws.length+1) 0 (Aar k cap Z) [] >>= Ck) S
  |_=>.bad
 |.zl n m=>λS=>match S[n]? with
  |some (.lst ws)=>(Jq s t e (zlG n m) (ws.length+1) 0 (Aar k cap Z) [] >>= Ck) S
  |_=>.bad
section
def after{α β:Type}(f:α->M β):R α->R β
 |.ok a S1=>f a S1
 |.exc c S1=>.exc c S1
 |.bad=>.bad
def Aas{a b:Type}{m:M a}{f:a->M b}{r:R a}(e:m S=r):(m >>= f) S=after f r:=by
 show M.bind m f S=_;unfold M.bind;rw[e];rfl
end
section
set_option tactic.hygienic true in
def Bjb{n m:Nat}(hn:Y0[n]?=sr a)(hm:Y0[m]?=sr b):JLv G (Itz G.K t7 a b) (zlG n m) Y0:=by
 let up:∀{Y:lg aM} {k:Nat} {c:aM},Y0 <+: Y->Y0[k]?=sr c->Y[k]?=sr c:=λ{Y k c} p h=>by
  let(r,rfl):=p;rw[aX (aK.mp h).1];exact h
 let open_:∀{Y:lg aM} {S:Store} {H:Hp} {i:Nat} {o:o9 W},Y0 <+: Y->Rep G Y S H->zlG n m S i=sr o->∃f j g d,S[n]?=sr .lst[f]/\S[m]?=sr .lst[j]/\H a=sr .lst[g]/\H b=sr .lst[d]/\RVs G Y H f g/\RVs G Y H j d/\
   (match f[i]?,j[i]? with|some w,sr u=>sr sr[W.tup[[w,u]]]|_,_=>sr sy)=sr o:=λ{Y S H i o} p R e=>by
  unfold zlG at e;cases I:S[n]? with
  |none=>rw[I] at e;cases e
  |some Q=>
   cases J:S[m]? with
   |none=>rw[I,J] at e;cases Q <;> cases e
   |some c2=>
    rw[I,J] at e;cases Q <;> cases c2 <;> first|cases e;done|skip
    rename_i f j;let(a',C,g,t,A):=R.get I;let(b',B,d,s,z):=R.get J;rw[up p hn] at C;cases C;rw[up p hm] at B;cases B;exact(f,j,g,d,rfl,rfl,t,s,A,z,e)
 refine(λY S H i p R e=>?_,λY S H i w p R e=>?_)
 .let(f,j,g,d,_,_,t,s,A,z,e):=open_ p R e;refine(g,d,.inl .inl[t],.inl .inl[s],?_);rw[<-A.length,<-z.length];cases l:f[i]? with
  |none=>exact .inl jO.mp[l]
  |some x=>
   cases q:j[i]? with
   |none=>exact .inr jO.mp[q]
   |some y=>rw[l,q] at e;cases e
 .let(f,j,g,d,_,_,t,s,A,z,e):=open_ p R e;cases l:f[i]? with
  |none=>rw[l] at e;cases e
  |some x=>
   cases q:j[i]? with
   |none=>rw[l,q] at e;cases e
   |some y=>
    rw[l,q] at e;cases e;let(U,P,Z):=A.get l;let(T,O,X):=z.get q;refine((g,d,U,T,.inl .inl[t],.inl .inl[s],P,O),?_);rintro v H' ⟨pp,x',y',f1,f2,hp,rfl,rfl⟩;let N:=f1 g .inl[.inl[t]];let L:=f2 d .inl[.inl[s]];rw[P] at N;cases N;rw[O] at L;cases L;exact(Bu hp,λS r=>r.beside hp,.tup Bd .cons[Z.mono aP[_] Bu[hp]][.cons[X.mono aP[_] Bu[hp]][.nil]])
def Any{gt:Store->Nat->o9 o9[W]}{f:Nat}(gk:GOk c s g)(jk:JLv c J gt Y0)(R:Rep c Y0 S H1)(sl:RSs c Y0 H1 Z σ)(P:H1 D=sy)(q:Bb c RV[c] Y0 H1 ((Jq s u A gt f 0 Z [] >>= Ck) S) Q E):
  Aiz J g (tFb c E0s u) (tF c E0s A) D σ H1 Q:=by
 let nD:D∉Y0:=λz=>by
  let(o,ho):=R.tracked z;rw[P] at ho;cases ho
 refine(λi m B L I=>∃Y S Z' d,Y0 <+: Y/\Dd Y0 Y H1 I/\D∉Y/\Rep c Y S I/\RSs c Y I Z' L/\RVs c Y I d B/\Bb c RV[c] Y0 H1 ((Jq s u A gt m i Z' d >>= Ck) S) Q E,
  (f,Y0,S,Z,[],aP _,(Dd.refl _ _).off P .inl[P],nD,R.off nD .inl[P],sl.off .inl[P],.nil,q),?_)
 rintro i m B L I ⟨Y,S,Z',d,p,t,mD,F,N,U,j⟩ e;cases m with
 |zero=>exact(show False from j).elim
 |succ m=>
  cases X:gt S i with
  |none=>rw[Aas (r:=.bad) (by unfold Jq;simp only[X])] at j;exact(show False from j).elim
  |some o=>
   cases o with
   |none=>
    rw[Aas (r:=.ok d S) (by unfold Jq;simp only[X])] at j
    refine .inl (jk.stop Y S I i p F X,?_);let q2:Bb c RV[c] Y0 H1 (Ck d S) Q E:=j;simp only[Ck] at q2;split at q2
    .refine q2 (Y ++ [D]) I .ref[D] p.trans[cF _ _] (t.t,t.f,t.k,λb hb=>?_) (F.take mD e U) .ref[?_]
     .rcases cU.mp hb with z|z
      .exact t.n b z
      .obtain rfl:b=D:=by simpa using z
       exact .inr P
     .rw[<-F.len];exact Ma
    .exact(show False from q2).elim
   |some w=>
    let(go,yl):=jk.go Y S I i w p F X;refine .inr (go,λx T hy=>?_);let(ty,Ry,rv):=yl x T hy;let F:=Ry _ F;let N:=N.mono aP[_] ty;let t:=t.trans ty;let U:=U.mono aP[_] ty;let e:=ty.k D _ e mD;cases es:s w Z' with
    |none=>rw[Aas (r:=.bad) (by unfold Jq;simp only[X,es])] at j;exact(show False from j).elim
    |some h=>
     let j:Bb c RV[c] Y0 H1 (((noX u[h] >>= λb=>if b=t8 then noX A[h] >>= λy=>if d.length < big then Jq s u A gt m (i+1) h (d ++ [y]) else bad else Jq s u A gt m (i+1) h d) >>= Ck) S) Q E:=by
      let e3:Jq s u A gt (m+1) i Z' d S=(noX u[h] >>= λb=>if b=t8 then noX A[h] >>= λy=>if d.length < big then Jq s u A gt m (i+1) h (d ++ [y]) else bad else Jq s u A gt m (i+1) h d) S:=by
       conv=>lhs;unfold Jq
       simp only[X,es]
      rw[Aas e3] at j;rw[Aas rfl];exact j
     refine gk Y S T w x Z' h L _ F N rv es λσ2 v=>(Y,S,h,F,v.2,?_);rw[Aen] at j;refine(Bb.seqB (Rel:=λuu uu a b=>a=b) (Y:=Y) (H:=T) j _).mono ?_;rintro b H3 ⟨Y3,S3,b',O,C,R3,e3,q3⟩;let e3:b'=b:=e3;subst e3;let out:∀{Ya Yb:lg aM} {Ha Hb:Hp},D∉Ya->Ha D=sr .lst[B]->Dd Ya Yb Ha Hb->D∉Yb/\Hb D=sr .lst[B]:=λ{Ya Yb Ha Hb} m1 m2 m3=>(m3.out m2 m1,m3.k D _ m2 m1);let(mD3,hD3):=out mD e C;cases b' with
     |false=>
      rw[dm cC] at q3 ⊢
      exact(hD3,m,gY m,Y3,S3,h,d,p.trans O,t.trans C,mD3,R3,v.mono O C,U.mono O C,q3)
     |true=>
      rw[di rfl] at q3 ⊢
      rw[Aen] at q3;refine(Y3,S3,h,R3,(v.mono O C).2,(Bb.seqB (Rel:=RV c) (Y:=Y3) (H:=H3) q3 _).mono ?_);rintro y H4 ⟨Y4,S4,yw,p4,t4,R4,ry,q4⟩;let(mD4,hD4):=out mD3 hD3 t4;by_cases hz:d.length < big
      .rw[di hz] at q4;let fl:Sd H4 D:=.inr (_,hD4,rfl);let ra4:=(U.mono O C).mono p4 t4;refine(hD4,by rw[<-U.length];exact bH hz (),m,gY m,Y4,S4,h,d ++ [yw],(p.trans O).trans p4,((t.trans C).trans t4).off P fl,mD4,R4.off mD4 fl,((v.mono O C).mono p4 t4).off fl,?_,q4)
       exact(ra4.append[.cons ry .nil]).keep fl.g
      .rw[dm hz] at q4;exact(show False from q4).elim
end
section
variable{cap:lg Nat}
def compX(k:Nat)(cap:lg Nat)(src:De->M Src)(s:Tg)(t:De->M Bool)(e:De->M W):De->M W:=λZ=>do
 let z<-src Z
 match z with
 |.fix ws=>Mx s t e ws (Aar k cap Z) [] >>= Ck
 |_=>bad
def Beh(O:X.stack=X.env::X.outer/\X.env.frame=sr X.env.locals/\X.ex=[]/\Aai X E)(L:X.calm=t8)(P:X.env.scope=sc)(hi:WI X k a (tFi b E src))(G:∀C s H ex,WG (X.comp scope own cap C s H ex) k g)(U:GOk b s g)(B:∀C s H ex,WTs[X.comp scope own cap C s H ex][f][tFb b E0s r])(I:∀C s H ex xe o,Dv[CXo X.prog X.w][X.compX scope own cap C s H ex xe][o]->WE[X.compX scope own cap C s H ex xe][h][tF b o ef])(c:cap.all[λj=>match X.N[j]? with|some x=>decide[scope.names.lookup x=sr .free]|none=>t7]=t8)(az:scope.kind=.function)(ao:scope.names.all[λy=>decide[y.2≠.cell]]=t8)(au:scope.names.all[λy=>!decide (y.2=.local)||decide[scope.names.lookup y.1=sr .local]]=t8)(bc:scope.names.all[λy=>!decide (y.2=.free)||(decide[sc.names.lookup y.1=sr .cell]||decide[sc.names.lookup y.1=sr .free])]=t8)(F:∀x,foldedSetIterable a X.env x=pure x):
  WE X (.ListComp h [(k,a,f,0)] scope v) tF[b][E][compX own.length cap src s r ef]:=(
 WE.weak (Bij O L P hi G B I c az ao au bc F) (λσ H Q p=>by
  let(Y,S,Z,R,l,q):=p;refine(Y,S,Z,R,l,(Bb.seq (Rel:=Ad2 b) q).mono ?_);rintro J H1 ⟨Y1,S1,z,A,t,R1,u,e⟩ D hD;let d:=Atj own cap (l.mono A t);cases z with
  |fix ws=>exact Ai8 (λi i i z=>z) U u R1 d hD e
  |liv n=>exact(show False from e).elim
  |zl n m=>exact(show False from e).elim))
def Anz(p:GOk h s g):∀j H Q,tF h E (Dn own.length cap src s x t) j H Q->As4 (tFi h E src) g (tFb h E0s x) (tF h E0s t) own cap j H Q:=(λj H Q v=>by
  let(Y,S,Z,R,r,q):=v;refine(Y,S,Z,R,r,(Bb.seq (Rel:=Ad2 h) q).mono ?_);rintro J G ⟨F,u,z,A,y,i,k,d⟩ D hD;let f:=Atj own cap (r.mono A y);cases z with
  |fix C=>exact Ai8 (λj H Q ⟨Y,S,Z,i,f,d⟩=>(Y,S,Z,i,f,by
 unfold nxF noX at d;cases e:t Z S with
 |ok w u=>rw[e] at d;exact d
 |exc c u=>rw[e] at d;exact(show False from d).elim
 |bad=>rw[e] at d;exact d)) p k i f hD d
  |liv n=>
   let(a,l,rfl):=k;simp only at d;split at d
   .exact Any p Ay1[l] i f hD d
   .exact(show False from d).elim
  |zl n m=>
   let(a,b,l,B,rfl):=k;simp only at d;split at d
   .exact Any p (Bjb l B) i f hD d
   .exact(show False from d).elim)
def Bjc(u:X.calm=t8)(v:X.env.scope=sc)(hi:WI X k a (tFi d E src))(r:∀C s H ex,WG (X.comp scope own cap C s H ex) k g)(w:GOk d s g)(n:∀C s H ex,WTs[X.comp scope own cap C s H ex][f][tFb d E0s l])(t:∀C s H ex,WE[X.comp scope own cap C s H ex][i][tF d E0s A])(c:cap.all[λj=>match X.N[j]? with|some x=>decide[scope.names.lookup x=sr .free]|none=>t7]=t8)(D:scope.kind=.function)(G:scope.names.all[λy=>decide[y.2≠.cell]]=t8)(F:scope.names.all[λy=>!decide (y.2=.local)||decide[scope.names.lookup y.1=sr .local]]=t8)(B:scope.names.all[λy=>!decide (y.2=.free)||(decide[sc.names.lookup y.1=sr .cell]||decide[sc.names.lookup y.1=sr .free])]=t8)(o:∀x,foldedSetIterable a X.env x=pure x):
  WE X (.ListComp i [(k,a,f,0)] scope m) tF[d][E][Dn own.length cap src s l A]:=(
 WE.weak (by
   refine⟨Bc0[u][v][hi.un][λC s H ex=>(r C s H ex).un][λC s H ex=>(n C s H ex).un][λC s H ex=>(t C s H ex).un][λj p=>?_][D][λy b=>?_][λy b h=>?_][λy b h=>?_][o]⟩
   .let q:=aQ.mp c j p;cases e:X.N[j]? with
    |none=>rw[e] at q;cases q
    |some x=>rw[e] at q;exact(x,rfl,dg q)
   .exact dg[aQ.mp G y b]
   .let q:=aQ.mp F y b;rw[dj h] at q;exact dg q
   .let q:=aQ.mp B y b;rw[dj h] at q;rcases mW.mp q with z|z
    .cases z
    rcases mW.mp z with z|z
    .exact .inl dg[z]
    .exact .inr dg[z]) Anz[w])
end
def Ak8(kvs:lg[Key×W]):M W:=λS=>.ok[.ref S.length][S ++ [.dct kvs]]
def Ri(kvs more:lg[Key×W]):lg[Key×W]:=more.foldl (λacc kv=>Aaq acc kv.1 kv.2) kvs
def Pz:lg[(De->M W)×(De->M W)]->De->M lg[Key×W]
 |[]=>λuu=>pure []
 |(f,g)::r=>λZ=>do
  let k<-f Z;let v<-g Z;let kvs<-Pz r Z
  match Afw k with
  |some k=>pure ((u6 k v)::kvs)
  |none=>bad
def Nz(l:lg[(De->M W)×(De->M W)]):De->M W:=λZ=>do let kvs<-Pz l Z;Ak8[Ri [] kvs]
section
theorem Dd.more(t:Dd Y Y2 H H')(h:H p=sy):Dd Y (Y2 ++ [p]) H H' where
 t:=t.t
 f:=t.f
 k:=t.k
 n:=λb m=>by
  rcases cU.mp m with z|z
  .exact t.n b z
  .obtain rfl:=aR.mp z;exact .inr h
theorem Rep.takeC(R:Rep i Y S H)(p:D∉Y)(h:H D=sr o)(k:Anx o=t8)(q:Nv i (Y ++ [D]) H D c):Rep i (Y ++ [D]) (S ++ [c]) H where
 len:=by rw[aU,aU,R.len];rfl
 nd:=by
  rw[mG];refine(R.nd,by simp,λa m b g=>?_)
  obtain rfl:b=D:=by simpa using g
  rintro rfl;exact p m
 at_:=λn a d e f=>by
  by_cases j:n < Y.length
  .rw[aX j] at e;rw[aX (by rw[<-R.len];exact j)] at f
   refine(R.at_ n a d e f).grow (cF _ _) (λb g=>?_);rcases cU.mp g with z|z
   .exact .inl z
   .obtain rfl:=aR.mp z;exact .inr (_,h,k)
  .let l:=(aK.mp e).1;rw[aU,dU] at l;obtain rfl:n=Y.length:=by omega
   rw[bB aO[_],fV] at e;rw[R.len,bB aO[_],fV] at f;obtain rfl:D=a:=by simpa using e
   obtain rfl:c=d:=by simpa using f
   exact q
def RKV.merge(r:RKV b Y H more rs):∀{kvs:lg[Key×W]} {vs:lg[Key×V]},RKV b Y H kvs vs->RKV b Y H (Ri kvs more) (Q8 vs rs):=by
 induction r with
 |nil=>intro kvs vs q;exact q
 |@cons p q ps f h t d=>
  intro kvs vs c;let e:RKV b Y H (Aaq kvs p.1 p.2) (putK vs q.1 q.2):=by
   rw[<-h.1];exact c.put p.1 h.2
  exact d e
def Bpq(Θ:Th)(Y:lg aM)(H:Hp)(kws:lg[Key×W])(ps:lg[V×V]):Prop:=∃kvs:lg[Key×V],ps=kvs.map[λkv=>(u6 kV[kv.1] kv.2)]/\RKV Θ Y H kws kvs
theorem Af2:∀(l:lg[(De->M W)×(De->M W)]) {Y:lg aM} {S:Store} {H:Hp} {Q:lg[V×V]->Hp->Prop},Rep b Y S H->RSl b Y H Z j->Bb b Bpq[b] Y H (Pz l Z S) Q E[j]->Akd (l.map λp=>(u6[tF b E p.1][tF b E p.2])) j H Q
 |[],Y,S,H,Q,R,c,q=>Bb.now q R ([],rfl,.nil)
 |(f,g)::r,Y,S,H,Q,R,c,q=>by
  refine(Y,S,Z,R,c,(Bb.seq q).mono ?_);rintro L H1 ⟨F,G,k,n,m,J,w,y⟩;refine(F,G,Z,J,c.mono n m,(Bb.seq (Rel:=RV b) y).mono ?_);rintro o X ⟨O,T,v,A,t,R2,u,x⟩;refine Af2 r R2 ((c.mono n m).mono A t) ((Bb.seq x).mono ?_);rintro ps U ⟨N,P,B,z,s,I,⟨i,rfl,d⟩,h⟩;cases e:Afw k with
  |none=>rw[e] at h;trivial
  |some C=>
   rw[e] at h;let D:=Aem w e;subst D;exact Bb.now h I ((u6 C o)::i,rfl,.cons (rfl,u.mono z s) d)
theorem pairs_len:∀(l:lg[(De->M W)×(De->M W)]) (Z:De) (S m:Store) (a:lg[Key×W]),Pz l Z S=.ok a m->a.length=l.length
 |[],Z,S,m,a,e=>by cases e;rfl
 |(f,g)::r,Z,S,m,a,e=>by
  let e:M.bind f[Z] (λk=>M.bind g[Z] λv=>M.bind (Pz r Z) _) S=_:=e;unfold M.bind at e;cases i:f Z S with
  |ok k q=>
   rw[i] at e;simp only at e;cases h:g Z q with
   |ok v p=>
    rw[h] at e;simp only at e;cases d:Pz r Z p with
    |ok o j=>
     rw[d] at e;simp only at e;cases n:Afw k with
     |none=>rw[n] at e;cases e
     |some s=>rw[n] at e;cases e;rw[bN,bN,pairs_len r Z _ _ _ d]
    |exc c j=>simp_all
    |bad=>rw[d] at e;cases e
   |exc c j=>rw[h] at e;cases e
   |bad=>rw[h] at e;cases e
  |exc c j=>rw[i] at e;cases e
  |bad=>rw[i] at e;cases e
def Bjd:WE[X][.Dict [] [] a][tF c E Nz[[]]]:=(WE.weak ⟨Ax1⟩ λb H Q ⟨Y,S,Z,R,sl,q⟩=>λp hp=>by
 refine q _ _ _ (cF _ _) Bu[hp] (R.alloc hp (_,Bd,.nil)) .ref[?_];rw[<-R.len];exact Ma)
def Bje(h:WPs X y a values (l.map λp=>(u6[tF d E p.1][tF d E p.2])))(r:a.all (·.isSome)=t8)(N:a.length=values.length)(T:a≠[])(s:a.length<=15)(O:l.length=a.length):
  WE[X][.Dict a values y][tF d E Nz[l]]:=(WE.weak ⟨Bcw h.un r N T s⟩ λt H Q ⟨Y,S,Z,R,sl,q⟩=>λp hp=>by
 let pn:p∉Y:=λz=>by
  let(o,F):=R.tracked z;rw[hp] at F;cases F
 let u:Dd Y Y H (upd H p .dK[[]]):=Bu hp;let j:Bb d RV[d] Y (upd H p .dK[[]]) (Nz l Z S) Q E[t]:=Bb.shift q aP[_] u;cases e:Pz l Z S with
 |bad=>
  let q:Bb d RV[d] Y H M.bind[Pz l Z][λkvs=>Ak8[Ri [] kvs]][S] Q E[t]:=q;unfold M.bind at q;rw[e] at q;exact q.elim
 |exc c G=>
  refine Af2 l R.beside[hp] (sl.mono aP[_] u) ?_;let j:Bb d RV[d] Y (upd H p .dK[[]]) M.bind[Pz l Z][λkvs=>Ak8[Ri [] kvs]][S] Q E[t]:=j;unfold M.bind at j;rw[e] at j ⊢
  exact j
 |ok f G=>
  refine Af2 l R.beside[hp] (sl.mono aP[_] u) ?_;rw[e];rintro B C ps J w R2 ⟨kvs,rfl,i⟩;let n:C p=sr .dK[[]]:=w.k p _ Bd pn;let m:p∉B:=w.out Bd pn;let A:Sd C p:=.inr (_,n,rfl);let x:Bb d RV[d] Y H M.bind[Pz l Z][λkvs=>Ak8[Ri [] kvs]][S] Q E[t]:=q;unfold M.bind at x;rw[e] at x;let L:=pairs_len l Z S G f e;refine(n,kvs,rfl,?_,?_)
  .rw[<-(paired_len i:f.length=kvs.length),L,O];exact s
  .let I:RKV[d][B][upd C p .dK[Q8 [] kvs]][Ri [] f][Q8 [] kvs]:=Paired.imp2 (λv v z=>(z.1,z.2.keep A.g)) (RKV.merge i (kvs:=[]) (vs:=[]) .nil);let R3:=R2.off (o:=.dK[Q8 [] kvs]) m A;let U:=R3.takeC (c:=.dct[Ri [] f]) m Bd rfl (_,Bd,Paired.imp2 (λv v z=>(z.1,z.2.grow (cF _ _) (λb P=>by
    rcases cU.mp P with z|z
    .exact .inl z
    .obtain rfl:=aR.mp z;exact .inr (_,Bd,rfl)))) I)
   refine x (B ++ [p]) _ _ J.trans[cF _ _] (((u.trans w).off hp A).more hp) U .ref[?_];rw[<-R2.len];exact Ma)
end
def tyW(S:Store):W->o9 String
 |.non=>sr "NoneType"
 |.bl _=>sr "bool"
 |.int _=>sr "int"
 |.str _=>sr "str"
 |.tup _=>sr "tuple"
 |.ref n=>match S[n]? with
  |some (.lst _)=>sr "list"
  |some (.dct _)=>sr "dict"
  |_=>sy
 |_=>sy
def Aeo:lg String:=["int","bool","str","tuple","list","dict"]
def Ay7:lg String:=["NoneType","int","bool","str","tuple","list","dict"]
def Bm9(T n:String):Bool:=T==n||(T=="bool"&&n=="int")
def Bna(Θ:Th):W->o9 aH
 |.ty n=>sr .type[n]
 |.cls c=>sr .ref[Θ.cl[c]]
 |_=>sy
structure Atk(Θ:Th)(isa:Nat->W->Option Bool):Prop where
 ok:∀c k b,isa c k=sr b->Ad1 Θ.K (Θ.cl c)/\∃cv,Bna Θ k=sr cv/\kY Θ.K (.ref (Θ.cl c)) cv=sr b
def Np(isa:Nat->W->o9 Bool):lg W->M W
 |[.exn c _,k]=>match isa c k with
  |some b=>pure .bl[b]
  |none=>bad
 |[x,.ty n]=>λS=>match tyW S x with
  |some T=>if Aeo.contains n then .ok .bl[Bm9 T n] S else .bad
  |none=>.bad
 |_=>bad
def Bjf(K:aF)(b:T∈Ay7)(a:n∈Aeo):kY K .type[T] .type[n]=sr[Bm9 T n]:=by
 simp[Ay7,Aeo] at b a;rcases b with rfl|rfl|rfl|rfl|rfl|rfl|rfl <;> rcases a with rfl|rfl|rfl|rfl|rfl|rfl <;> rfl'
section
set_option tactic.hygienic true in
def Bjg(R:Rep d Y S H)(j:RV d Y H x i)(h:tyW S x=sr T):TyX d.K H i .type[T]/\T∈Ay7:=by
 cases j <;> simp only[tyW,gQ,reduceCtorEq] at h <;> try subst h
 .exact(.of .non,())
 .exact(.of .bl[_],())
 .exact(.of .int[_],())
 .exact(.of .str[_],())
 .rename_i l m;exact(.of .tup[l],())
 .rename_i n a e;split at h
  .rename_i g c;cases h;let(f,b,k):=R.at_ _ _ _ e c;exact(.of .lst[b],())
  .rename_i g c;cases h;let(f,b,k):=R.at_ _ _ _ e c;exact(.of .dK[b],())
  .cases h
set_option tactic.hygienic true in
def Bpr{isa:Nat->W->o9 Bool}(O:Atk a isa)(R:Rep a Y S H)(r:RVs a Y H s u)(h:Bb a RV[a] Y H (Np isa s S) Q E):
  ∃x c d t b,u=[x,c]/\TyX a.K H x t/\Bc3 c=sr d/\kY a.K t d=sr b/\Q .bl[b] H:=by
 unfold Np at h;split at h
 .rename_i c w k;cases r with|cons e r=>
  cases r with|cons f r=>
  cases r;cases i:isa c k with
  |none=>simp only[i] at h;exact(show False from h).elim
  |some b=>
   simp only[i] at h;let(o,d,p,v):=O.ok c k b i;refine(_,_,d,_,b,rfl,?_,by cases f <;> simp only[Bna,gQ,reduceCtorEq] at p <;> subst p <;> rfl,v,h.now R .bl[_])
   cases e with
   |exn z m j=>exact .exc j o
   |exf z m C j=>exact .exc j o
 .rename_i x n nx;cases r with|cons e r=>
  cases r with|cons f r=>
  cases r;cases l:tyW S x with
  |none=>simp only[l] at h;exact(show False from h).elim
  |some T=>
   simp only[l] at h;by_cases g:Aeo.contains n=t8
   .rw[di g] at h;let(A,y):=Bjg R e l;cases f;exact(_,_,_,_,_,rfl,A,rfl,Bjf a.K y (by simpa using g),Jd h R .bl[_])
   .rw[dm g] at h;exact(show False from h).elim
 .exact(show False from h).elim
end
section
def Ay8(b:∀Y H,RV a Y H w v)(h:WE X e tC[v]):WE X e (tF a E kF[w]):=(WE.weak h λc H Q q=>by
 let(Y,S,Z,R,d,q):=q;exact q.now R (b Y H))
end
def N5(c:Nat)(dv:lg W)(gs:De->M lg[W]):MS:=λZ=>Ez gs[Z] (λws Z S=>match ws with|[]=>.bad|w::us=>if us.length+dv.length=1 then .ex (u6 c w) Z S else .bad) Z
structure Bjh(X:Cx)(C:aM)(f:t6)(n:Nat):Prop where
 ex:∃(fI:aM)(fd:eX)(ps:List t6)(k:Nat)(dvs:List V)(ds:List aH),Afu X.K C fI=t8/\dD X.K (.ref C)=t8/\iV X.K (.ref fI)=sr (.type "function")/\
  (∀cm,Ib X.prog X.w X.K X.mg X.base (CXo X.prog X.w) k fI fd ps (Akv C f) cm)/\Ho (k+1) X.A t8/\Binds X.K fd ps ds/\Vals dvs ds/\dvs.length=n
section
def Av5{c:Nat}(s:h.xf c=sr f)(y:X.ex=[])(hx:Bjh X h.cl[c] f dv.length)(hm:X.mg x=sr .ref[h.cl[c]])(hc:X.calm=t8)(hR:Akw X E)(ha:WA X (e::m) tFs[h][λP=>E][gs])(hg:X.env.kindOf x=sr .globalImplicit)(hd:(x==("__debug__":t6))=t7)(he:starEach (e::m) X.env=(u6 t7 (eval e X.env))::starEach m X.env)(t:(backTo i (starEach m X.env)).any (·.1)=t7):
  WS X (.Raise sr[.Call (.Name x p) (e::m) [] i] sy U) tS[h][λP=>E][N5 c dv gs]:=by
 let(fI,fd,ps,k,b,ds,h1,h2,h3,F,hr,hb,hv,hl):=hx.ex;refine WS.weak ⟨Avt h1 h2 h3 y hg hm hc hR F[t8] hr hb hv ha.un hd he t⟩ λD N H O=>?_;let(Y,S,Z,R,B,q):=O;refine(Y,S,Z,R,B.2,(Dr.lift (Rel:=RVs h) B q).mono ?_);rintro vs L ⟨A,S1,ws,p1,t1,J,r,a,g⟩;cases a with
 |nil=>exact g.elim
 |@cons w v Q j T a=>
  dsimp only at g;by_cases C:Q.length+dv.length=1
  .rw[di C] at g;let l:=a.length;obtain⟨u,hu⟩:∃u,j ++ b=[u]:=by
    let z:(j ++ b).length=1:=by rw[aU];omega
    match j ++ b,z with
    |[u],_=>exact(u,rfl)
   refine(aD (by rw[bN];omega:(v::j).length<=2) (),v,u,by rw[tO,hu],λd hd=>?_)
   let n:Dd A A L (upd L d .xd[[(f,v)]]):=Bu hd;let z:=g A _ N aP[_] n J.beside[hd] (r.mono aP[_] n);unfold XP at z;dsimp only at z;rw[s] at z;exact z d v (λz=>by
    let(o,G):=J.tracked z;rw[hd] at G;cases G) Bd (T.mono aP[_] n)
  .rw[dm C] at g;exact g.elim
end
def Av6(exm:Nat->Bool)(i:Nat)(b su:MS):MS:=λZ S=>match b Z S with
 |.ex c Z1 S1=>if exm c.1 then (match su (Z1.set i sr[.exn c.1 c.2]) S1 with
   |.nx Z2 S2=>.nx (Z2.set i sy) S2
   |.bk Z2 S2=>.bk (Z2.set i sy) S2
   |.ct Z2 S2=>.ct (Z2.set i sy) S2
   |.rt w S2=>.rt w S2
   |_=>.bad) else .bad
 |r=>r
section
def RSs.unset{i:Nat}(h:RSs c Y H Z b):RSs c Y H (Z.set i sy) (b.set i sy):=by
 refine(by rw[iH,iH];exact h.1,λj u e=>?_)
 by_cases a:j=i
 .subst a;let k:=by
   let z:=(aK.mp e).1
   rwa [iH] at z
  simp_all
 .rw[cX eG[a]] at e;let(z,f,d):=h.2 j u e;exact(z,by rw[cX eG[a]];exact f,d)
variable{i k:Nat}{exm:Nat->Bool}
def Bji(hK:X.K=f.K)(bh:X.stack=X.env::X.outer)(hfr:X.env.frame=sr X.env.locals)(nd:X.N.Nodup)(hm:X.mg x=sr .ref[f.cl[k]])(hx:∀c,exm c=t8->iW f.K .ref[f.cl[c]] .ref[f.cl[k]]=sr t8)(hb:∀(pn:lg[aM×tu])(xe:aH->aN->Prop)(E':L2.St->XK),Dv[CXo X.prog X.w][X.tryB pn xe][E']->WSs[X.tryB pn xe][body][tS f E' b])(hs:∀e,WSs X.suite[e] (b0::suite) (tS f E0s U))(hi:X.N[i]?=sr n)(hn:X.env.scope.names.lookup n=sr .local)(hg:X.env.kindOf x=sr .globalImplicit)(hd:(x==("__debug__":t6))=t7):
  WS X (.Try body [.ExceptHandler sr[.Name x np] sr[n] (b0::suite) hpos] [] [] pos) tS[f][E][Av6 exm i b U]:=by
 refine WS.weak (⟨Bic bh hfr nd hi hn hg hm hd (hb:=λpn xe E hx=>(hb pn xe E hx).un) (hs:=λe=>(hs e).un)⟩) λD σ H zz=>?_;let(Y,S,Z,R,sl,q):=zz;refine(Y,S,Z,R,sl,?_);unfold Av6 at q;cases B:b Z S with
 |nx J C=>rw[B] at q;exact q
 |rt w C=>rw[B] at q;exact q
 |bk J C=>rw[B] at q;exact q
 |ct J C=>rw[B] at q;exact q
 |bad=>rw[B] at q;exact q
 |ex c J C=>
  rw[B] at q;dsimp only at q;by_cases hc:exm c.1=t8
  .rw[di hc] at q;let ex1:=hx c.1 hc;intro t F Q p1 t1 R1 sl1;let go:∀(o:o9[Nat×o9 aM]),(∀a,F a=sy->a∉t->RV f t upd[F][a][Sw a .ref[f.cl[c.1]] o] (.exn c.1 c.2) .ref[a])->
     (λT cls o H'=>iW X.K cls .ref[f.cl[k]]=sr t8/\∀a,H' a=sy->tS f E0s U { nx:=λh L=>D.nx (h.set i sy) L,rt:=D.rt,bk:=λh L=>D.bk (h.set i sy) L,ct:=λh L=>D.ct (h.set i sy) L }
      (T.set i sr[.ref[a]]) upd[H'][a][Sw a cls o]) Q .ref[f.cl[c.1]] o F:=λo hrv=>by
    refine(by rw[hK];exact ex1,λa g=>?_)
    let l:a∉t:=λz=>by
     let(o,ho):=R1.tracked z;rw[g] at ho;cases ho
    let t2:Dd t t F upd[F][a][Sw a .ref[f.cl[c.1]] o]:=Bu g;refine(t,C,J.set i sr[.exn c.1 c.2],R1.beside g,(sl1.mono aP[_] t2).set (hrv a g l),?_);let O:∀r,Dr f Y H r D E->Dr f t upd[F][a][Sw a .ref[f.cl[c.1]] o] r D E:=λr z=>Dr.shift z p1 t1.trans[t2];cases A:U (J.set i sr[.exn c.1 c.2]) C with
    |nx Z2 P=>rw[A] at q;exact λs y G p m u j=>O _ q s y _ p m u j.unset
    |bk Z2 P=>rw[A] at q;exact λs y G p m u j=>O _ q s y _ p m u j.unset
    |ct Z2 P=>rw[A] at q;exact λs y G p m u j=>O _ q s y _ p m u j.unset
    |rt w P=>rw[A] at q;exact λs y v p m u rv=>O _ q s y _ p m u rv
    |ex c2 Z2 P=>rw[A] at q;exact q.elim
    |bad=>rw[A] at q;exact q.elim
   unfold XP;cases I:f.xf c.1 with
   |none=>exact go _ λa g l=>.exn I l Bd
   |some n=>
    intro d v nd hd rv;refine go _ λa g l=>?_;let de:d≠a:=λz=>by rw[z,g] at hd;cases hd
    exact .exf I l nd Bd (by rw[Ax de];exact hd) (rv.mono aP[_] Bu[g])
  .rw[dm hc] at q;exact q.elim
def Ak9(exm:Nat->Bool)(c2:Nat)(gs:De->M lg[W])(b:MS):MS:=λZ S=>match b Z S with
 |.ex c Z1 S1=>if exm c.1 then (match gs Z1 S1 with
   |.ok [w,_] S2=>.ex (u6 c2 w) Z1 S2
   |_=>.bad) else .bad
 |r=>r
def Bei{B:Nat}{j:Nat}(hK:X.K=a.K)(bh:X.stack=X.env::X.outer)(hfr:X.env.frame=sr X.env.locals)(hex:X.ex=[])(hP:Aai X E)(hm:X.mg x=sr .ref[a.cl[k]])(Q:∀c,exm c=t8->iW a.K .ref[a.cl[c]] .ref[a.cl[k]]=sr t8/\a.xf c=sy/\a.pl c=t8)(hb:∀(pn:lg[aM×tu])(xe:aH->aN->Prop)(n:L2.St->XK),Dv[CXo X.prog X.w][X.tryB pn xe][n]->WSs[X.tryB pn xe][body][tS a n b])(hg:X.env.kindOf x=sr .globalImplicit)(hd:(x==("__debug__":t6))=t7)(P:a.xf B=sr f)(O:Bjh X a.cl[B] f 0)(U:X.mg y=sr .ref[a.cl[B]])(hg2:X.env.kindOf y=sr .globalImplicit)(hd2:(y==("__debug__":t6))=t7)(ha:∀e',WA X.suite[e'] (e::u) (tFs a E0s gs))(he:starEach (e::u) X.env=(u6 t7 (eval e X.env))::starEach u X.env)(T:(backTo s (starEach u X.env)).any (·.1)=t7):
  WS X (.Try body [.ExceptHandler sr[.Name x np] sy [.Raise sr[.Call (.Name y yp) (e::u) [] s] sr[.Constant .none j kpos] rpos] hpos] [] [] pos) tS[a][E][Ak9 exm B gs b]:=by
 let(fI,fd,ps,k',dvs,ds,h1,h2,h3,F,hr,hbi,hv,hl):=O.ex;obtain rfl:dvs=[]:=eN hl;refine WS.weak ⟨Bdn (tb:=λn=>tS a n b) bh hfr hex hP hg hm hd (λpn xe n Q=>(hb pn xe n Q).un) h1 h2 h3 hg2 U F[t7] (λz=>absurd z (),hr.dp,hr.un) hbi hv (λe'=>(ha e').un) hd2 he T⟩ λD σ H zz=>?_
 let(Y,S,Z,R,sl,q):=zz;refine(Y,S,Z,R,sl,?_);unfold Ak9 at q;cases l:b Z S with
 |nx t m=>rw[l] at q;exact q
 |rt w m=>rw[l] at q;exact q
 |bk t m=>rw[l] at q;exact q
 |ct t m=>rw[l] at q;exact q
 |bad=>rw[l] at q;exact q
 |ex c t m=>
  rw[l] at q;dsimp only at q;by_cases hc:exm c.1=t8
  .rw[di hc] at q;let(ex1,ex2,ex3):=Q c.1 hc;intro C H1 G p1 t1 R1 L;unfold XP;rw[ex2];dsimp only;rw[di ex3];refine(by rw[hK];exact ex1,λA h=>?_)
   let N:A∉C:=λz=>by
    let(o,r):=R1.tracked z;rw[h] at r;cases r
   let t2:Dd C C H1 upd[H1][A][Sw A .ref[a.cl[c.1]] sr[u6 0 sy]]:=Bu h;let p:=L.mono aP[_] t2;refine(C,m,t,R1.beside h,p.2,?_);cases eg:gs t m with
   |bad=>rw[eg] at q;exact q.elim
   |exc c' S2=>rw[eg] at q;exact q.elim
   |ok ws S2=>
    rw[eg] at q;intro Y3 H3 vs p3 J R3 g;cases g with
    |nil=>exact q.elim
    |@cons w v _ _ rv g=>
     cases g with
     |nil=>exact q.elim
     |cons ru g=>
      cases g with
      |cons _ _=>exact q.elim
      |nil=>
       refine(by show 2<=sizeLine;decide,(_,_,J.k A _ Bd N),_,_,rfl,λd hd=>?_)
       let nd:d∉Y3:=λz=>by
        let(o,r):=R3.tracked z;rw[hd] at r;cases r
       let I:=Bu (Y:=Y3) (o:=.xd [(f,v)]) hd;let z:=q Y3 _ G p1.trans[p3] (((t1.trans t2).trans J).trans I) R3.beside[hd] ((p.mono p3 J).mono aP[_] I);unfold XP at z;dsimp only at z;rw[P] at z;exact z d v nd Bd (rv.mono aP[_] I)
  .rw[dm hc] at q;exact q.elim
end
def Atl(z:t6):lg W:=(eZ z.cps.size).map λ(i:Nat)=>W.tup [.int[(i:Int)+1],.str ⟨#[z.cps.getD i 0]⟩]
def Ay9(f:De->M W):De->M Src:=λZ=>do let x<-f Z;match x with
 |.str z=>pure .fix[Atl[z]]
 |_=>bad
theorem Aza(z:t6):JOk h Ite[z] Atl[z] Y H where
 go:=λd g i p t hi=>by
  unfold Atl at hi ⊢
  rw[aC,bO] at hi;refine(hi,?_);rintro x j ⟨c,T,b,a,rfl,rfl⟩;refine(Bu a,λS r=>r.beside a,_,by rw[cH,wI hi];rfl,.tup Bd .cons[.int _][.cons ?_ .nil])
  let e:z.cps.getD i 0=c:=by rw[qI,b];rfl
  rw[e];exact .str _
 stop:=λd g i t hi=>by
  unfold Atl at hi;rw[aC,bO] at hi;exact hi
def Av7(ws us:lg W):lg W:=List.zipWith (λx y=>W.tup [x,y]) ws us
def Bej:lg W->M Src
 |[.tup ws,.tup us]=>pure .fix[Av7 ws us]
 |[.ref n,.ref m]=>λS=>match S[n]?,S[m]? with
  |some (.lst _),sr (.lst _)=>.ok (.zl n m) S
  |_,_=>.bad
 |_=>bad
def Av8(gs:De->M lg[W]):De->M Src:=λZ=>do let ws<-gs Z;Bej ws
section
theorem Bek(w:H a=sr .tup[e])(o:RVs c Y H f e)(u:H b=sr .tup[d])(n:RVs c Y H g d):JOk c (Itz c.K t8 a b) (Av7 f g) Y H where
 go:=λF h i p t hi=>by
  unfold Av7 at hi ⊢
  rw[wJ] at hi;let s:i < f.length:=bH hi (uR ..);let q:i < g.length:=bH hi (tE ..);let(A,y,C):=o.get aZ[s];let(z,x,B):=n.get aZ[q];let m:SqT c.K h a e:=SqT.of[t.t _ _ w];let l:SqT c.K h b d:=SqT.of[t.t _ _ u];refine((e,d,A,z,m,l,y,x),?_);rintro v L ⟨J,I,G,E,D,hp,rfl,rfl⟩;let k:=E e m;let j:=D d l;rw[y] at k;cases k;rw[x] at j;cases j;refine(Bu hp,λS r=>r.beside hp,.tup [(getElem[f][i][by get_elem_tactic]),(getElem[g][i][by get_elem_tactic])],?_,.tup Bd .cons[(C.mono p t).mono aP[_] Bu[hp]][.cons[(B.mono p t).mono aP[_] Bu[hp]][.nil]]);rw[uY,aZ s,aZ q]
 stop:=λF h i t hi=>by
  unfold Av7 at hi;rw[wJ] at hi;refine(e,d,SqT.of[t.t _ _ w],SqT.of[t.t _ _ u],?_);rw[<-o.length,<-n.length];omega
variable{kt:Nat}
set_option tactic.hygienic true in
def Bnb(hK:X.K=c.K)(F:X.mg "zip"=sy)(I:WA X (e::f) (tFs c E J))(G:X.env.kindOf "zip"=sr .globalImplicit)(D:starEach (e::f) X.env=(u6 t7 (eval e X.env))::starEach f X.env)(k:(backTo j (starEach f X.env)).any (·.1)=t7):
  WI[X][.Tuple v kt o][.Call (.Name "zip" p) (e::f) [] j][tFi c E Av8[J]]:=by
 refine WI.weak ⟨Bil G F I.un D k⟩ λT H Q w=>?_;let(Y,S,Z,R,A,q):=w;refine(Y,S,Z,R,A,(Bb.seq (Rel:=RVs c) q).mono ?_);rintro l H1 ⟨Y1,S1,U,p1,t1,g,a,b⟩;unfold Bej at b;rw[hK];split at b
 .rename_i z y;cases a with|cons i a=>
  cases a with|cons h a=>
  cases a;let(_,_,rfl,t,C):=i.tI;let(_,_,rfl,s,B):=h.tI;exact(t8,_,_,_,_,rfl,SqT.of t,SqT.of s,Bb.now (Rel:=Ad2 c) b g (Bek t C s B))
 .rename_i n m;cases a with|cons i a=>
  cases a with|cons h a=>
  cases a;let(_,rfl,r):=i.rI;let(_,rfl,d):=h.rI;split at b
  .rename_i z y P O;let(l,N,_):=g.at_ _ _ _ r P;let(x,L,_):=g.at_ _ _ _ d O;exact(t7,_,_,l,x,rfl,.inl .inl[N],.inl .inl[L],Jd (Rel:=Ad2 c) b g (_,_,r,d,rfl))
  .exact(show False from b).elim
 .exact(show False from b).elim
end
def Av9(K:aF)(a:aM)(D:lg[t6×t6]):Prop:=∀h,K.In h->KTD.TextTab h a (D.map λp=>(u6 p.1 qJ[.str[p.2]]))
def mdW(D:lg[t6×t6]):W->M W
 |.str k=>match D.lookup k with
  |some z=>pure .str[z]
  |none=>bad
 |_=>bad
def mdF(D:lg[t6×t6])(g:De->M W):De->M W:=λZ=>do let y<-g Z;mdW D y
theorem Af3(k:t6):∀D:lg[t6×t6],aDz k (D.map λp=>(u6 p.1 qJ[.str[p.2]]))=(D.lookup k).map λz=>qJ .str[z]
 |[]=>rfl
 |(x,z)::D=>by
  rw[bL,eF,aDz];by_cases h:k=x
  .simp_all
  .let c:(k==x)=t7:=by simpa using h
   rw[dm[by simpa using h],c,Af3 k D]
section
def Bjj(n:Av9 X.K A D):IxR X (λx y H Q=>x=.ref A/\∃k z,y=.str k/\D.lookup k=sr z/\Q .str[z] H):=by
 intro value slice r s p H x y v u Q I i g h m;let(rfl,k,z,rfl,l,q):=h;obtain rfl:v=bQ A:=i;let(t,rfl):=g;let T:KTD.Here s.heap s.heap A _:=(n _ I.kIn,λf f o=>o);refine aAv T.typeIs rG.lookup ?_ m;unfold getItem
 try with_reducible refine fB ?_
 refine aA (rO T.typeIs () (aA (dC (name:=mR "__getitem__") T.typeIs yN (dH yN T.typeIs entry_dict_getitem ?_ (args_dict_getitem _ _)))))
 show wpAny _ _ (dictGet A (.str k t) >>= _) _ _ s;refine aA[KTD.dictGet_text T (λd v e j=>aJ (v,rfl,aJ ?_)) λc=>?_]
 .rw[Af3,l] at e;cases e;let a:Reads s.heap v .str[z] []:=j s.heap;cases a;exact(.str z,H,I.tok _,(_,rfl),q)
 .rw[Af3,l] at c;cases c
set_option tactic.hygienic true in
def Bps(o:Av9 X.K A D)(l:X.mg x=sr .ref[A])(m:X.env.kindOf x=sr .globalImplicit)(hd:(x==("__debug__":t6))=t7)(n:WE X b (tF c E g))(j:Aek b):WE X .Subscript[.Name x p][b][i] tF[c][E][mdF D g]:=(
 WE.weak[kix Bjj[o] (Bgx l (show RelV .ref[A] .ref[A] from rfl) m hd) n j] λt H Q e=>by
  let(Y,S,Z,R,f,q):=e;refine(Y,S,Z,R,f,(Bb.seq (Rel:=RV c) q).mono ?_);rintro v F ⟨B,C,w,y,u,s,h,a⟩;refine(rfl,?_);cases h <;> try exact(show False from a).elim
  rename_i k;cases d:D.lookup k with
  |none=>simp only[mdW,d] at a;exact(show False from a).elim
  |some z=>
   simp only[mdW,d] at a;exact(k,z,rfl,d,Bb.now (Rel:=RV c) a s .str[z]))
end
section
variable{i:Nat}{cap:lg Nat}
def Bel(O:X.calm=t8)(P:X.env.scope=sc)(hi:WI X l a (tFi c E src))(J:∀C s H ex,WG (X.comp scope own cap C s H ex) l g)(Q:GOk c s g)(F:∀C s H ex,WTs[X.comp scope own cap C s H ex][f][tFb c E0s z])(L:∀C s H ex,WE[X.comp scope own cap C s H ex][k][tF c E0s T])(h:cap.all[λj=>match X.N[j]? with|some x=>decide[scope.names.lookup x=sr .free]|none=>t7]=t8)(az:scope.kind=.function)(ao:scope.names.all[λy=>decide[y.2≠.cell]]=t8)(au:scope.names.all[λy=>!decide (y.2=.local)||decide[scope.names.lookup y.1=sr .local]]=t8)(U:scope.names.all[λy=>!decide (y.2=.free)||(decide[sc.names.lookup y.1=sr .cell]||decide[sc.names.lookup y.1=sr .free])]=t8)(G:∀x,foldedSetIterable a X.env x=pure x)(b:WG X (.Name y t) Aag[i])(o:swapsWith (.ListComp k [(l,a,f,0)] scope n) sr[.Name y t] d.line X.env=pure t8):
  WS X .Assign[[.Name y t]][.ListComp k [(l,a,f,0)] scope n][d] (tS c E Bg[i][Dn own.length cap src s z T]):=(
 WS.weak (by
   refine⟨Bc1 O P hi.un (λC s H ex=>(J C s H ex).un) (λC s H ex=>(F C s H ex).un) (λC s H ex=>(L C s H ex).un) (λj I=>?_) az (λy b=>?_) (λy b p=>?_) (λy b p=>?_) G b.un o⟩
   .let q:=aQ.mp h j I;cases e:X.N[j]? with
    |none=>rw[e] at q;cases q
    |some x=>rw[e] at q;exact(x,rfl,dg q)
   .exact dg[aQ.mp ao y b]
   .let q:=aQ.mp au y b;rw[dj p] at q;exact dg q
   .let q:=aQ.mp U y b;rw[dj p,pH,aCb,eV] at q;exact q.imp dg dg) λD σ H u=>by
  let(Y,S,Z,R,r,q):=u;refine Anz Q _ _ _ (Y,S,Z,R,r.2,(Dr.lift (Rel:=RV c) r q).mono ?_);rintro v H1 ⟨Y1,S1,w,p1,t1,R1,m,A,B⟩;exact B.nxt R1 m.set[A])
end
def ddS:lg t6->lg t6
 |[]=>[]
 |x::xs=>if x∈xs then ddS xs else x::ddS xs
theorem Aat:∀{a:lg t6},x∈ddS a ↔ x∈a
 |[]=>Iff.rfl
 |y::c=>by
  unfold ddS;by_cases h:y∈c
  .rw[di h,Aat];simp_all
  .rw[dm h,aY,aY,Aat]
theorem Wn:∀{c:lg t6},(ddS c).Nodup
 |[]=>aBn
 |y::b=>by
  unfold ddS;by_cases h:y∈b
  .rw[di h];exact Wn
  .rw[dm h];exact jQ.mpr (λz=>h Aat.mp[z],Wn)
def Bjk(h:InS c c.length d):Mt d=Mt ddS[c]:=(Qk Aak ((Ft d).trans ((List.perm_iff_count.mpr λa=>by
  rw[h.1.count,Wn.count];simp[propext[((h.2.1 a).trans (by rfl)).trans Aat.symm]]).trans (Ft _).symm)) Lg[_] Lg[_])
def Jm:lg W->M W
 |[.ref n]=>λS=>match S[n]? with
  |some (.lst ws)=>if ws.length < 64 then match Ds asStr ws with
    |some ss=>Ck ((Mt ddS[ss]).map W.str) S
    |none=>.bad
   else .bad
  |_=>.bad
 |_=>bad
set_option tactic.hygienic true in
def Bem(o:X.calm=t8)(i:X.mg "sorted"=sy)(h:X.mg "set"=sy)(k:X.env.kindOf "sorted"=sr .globalImplicit)(j:X.env.kindOf "set"=sr .globalImplicit)(F:WA X (e::d) (tFs l E I))(D:starEach (e::d) X.env=(u6 t7 (eval e X.env))::starEach d X.env)(g:(backTo cpos2 (starEach d X.env)).any (·.1)=t7):
  WE X (.Call (.Name "sorted" p) [.Call (.Name "set" U) (e::d) [] cpos2] [] v) tF[l][E][Dm Jm I]:=by
 refine WE.weak[kbi Akt[o] i (by rfl':bootBuiltins "sorted"=sr .builtin["sorted"]) ⟨Aah (Ais Ayp[o] j h (by rfl':bootBuiltins "set"=sr .type["set"]) F.un () () D g) Aj7 rfl⟩ k () () rfl rfl] λL H Q x=>?_
 let(Y,S,Z,R,z,q):=x;refine(Y,S,Z,R,z,(Bb.seq (Rel:=RVs l) q).mono ?_);rintro P H1 ⟨Y1,S1,O,p1,T,w,f,a⟩;unfold Jm at a;split at a
 .cases f with|cons G r=>
  cases r;let(_,rfl,C):=G.rI;split at a
  .rename_i y J;let(N,s,A):=w.at_ _ _ _ C J;split at a
   .rename_i hl;split at a
    .rename_i m u;rw[G9 Afx A u] at s;let ls:m.length=y.length:=Aap u;refine(_,m,rfl,s,(),λq B n c=>(q,B,rfl,Bd,by have:=c.2.2;omega,?_))
     rw[Bjk c];exact(Gf[w.beside n][Tt _][Bb.shift a aP[_] Bu[n]]).2
    .exact(show False from a).elim
   .exact(show False from a).elim
  .exact(show False from a).elim
 .exact(show False from a).elim
def orM(f g:De->M W):De->M W:=λZ S=>match f Z S with
 |.bad=>g Z S
 |r=>r
def Bjl(c:Nat):M W:=λS=>.ok[.ref S.length][S ++ [.ins c []]]
def Azb(x v:W):M W:=match v with
 |.non=>pure x
 |_=>bad
def Af4(c:Nat)(g:lg W->M W)(ws:lg W):M W:=Bjl c >>= λx=>g (x::ws) >>= λv=>Azb x v
structure Fi where
 g:List W->M W
 np:Nat
 dv:List W
def An0(mt:Nat->t6->o9 Fi)(m:t6)(x:W):M Fi:=match x with
 |.ref n=>λS=>match S[n]? with
  |some (.ins c fs)=>match fs.lookup m,mt c m with
   |none,sr i=>.ok i S
   |_,_=>.bad
  |_=>.bad
 |_=>bad
def Ben(i:Fi)(x:W)(ws:lg W):M W:=if ws.length+1=i.np then i.g (x::ws) else if ws.length+1+i.dv.length=i.np then i.g (x::(ws ++ i.dv)) else bad
def Em(mt:Nat->t6->o9 Fi)(m:t6)(f:De->M W)(gs:De->M lg[W]):De->M W:=λZ=>f Z >>= λx=>An0 mt m x >>= λi=>gs Z >>= λws=>Ben i x ws
structure Ara(Θ:Th)(X:Cx)(c:Nat)(m:t6)(i:Fi):Prop where
 ex:∃(n:Nat)(fa:aM)(fd:eX)(ps:List t6)(cm:Bool),Cls X.K (Θ.cl c)/\Meth X.K (Θ.cl c) m fa/\Ib X.prog X.w X.K X.mg X.base (CXo X.prog X.w) n fa fd ps (spF Θ i.g) cm/\Ho n X.A cm/\Binds X.K fd ps []/\
  ∃dvs ds,Ds D.G8 i.dv=sr dvs/\Vals dvs ds/\Binds X.K fd ps ds
structure Arb(Θ:Th)(X:Cx)(c:Nat)(i:Fi):Prop where
 ex:∃(n:Nat)(fa:aM)(fd:eX)(ps:List t6)(cm:Bool),Mk X.K (Θ.cl c) fa/\Ib X.prog X.w X.K X.mg X.base (CXo X.prog X.w) n fa fd ps (spF Θ i.g) cm/\Ho (n+1) X.A cm/\Binds X.K fd ps []/\
  ∃dvs ds,Ds D.G8 i.dv=sr dvs/\Vals dvs ds/\Binds X.K fd ps ds
section
def Bnc(l:WE X e (tF b E f))(k:WE X e (tF b E g))(j:∀Z S,h Z S=f Z S\/h Z S=g Z S):WE X e (tF b E h):=(⟨λd s a H Q I i=>by
 let(Y,S,Z,R,c,q):=i;rcases j Z S with z|z
 .rw[z] at q;exact l.un d s a H Q I (Y,S,Z,R,c,q)
 .rw[z] at q;exact k.un d s a H Q I (Y,S,Z,R,c,q)⟩)
def Bjm(c:WE X e (tF a E f))(b:WE X e (tF a E g)):WE X e tF[a][E][orM f g]:=(Bnc c b λZ S=>by
 unfold orM;cases f Z S
 .exact .inl rfl
 .exact .inl rfl
 .exact .inr rfl)
def Aau{l:CXT}{k:Nat}{f:aM}{fd:eX}{ps:lg t6}{h:Sp}{dvs vs:lg V}{d us:lg aH}{E:L2.St->XK}{j:Bool}{g:lg[aM×tu]}{c:L2.St}{H:Hp}{s:aN}{Q:VK}(F:Ib X.prog X.w X.K X.mg X.base l k f fd ps h j)(p:Ho k X.A j)(v:Binds X.K fd ps d)(hd:Vals dvs d)(o:Dv l X E)(I:Inv X g c H s)(r:Vals vs us)(q:h (vs ++ dvs) H Q E[c]):
  wpAny (model X.prog X.w) X.A (call .ref[f] us) (EP X g c Q) X.xe s:=by
 let i:=r.append hd;let t:(us ++ d).length=ps.length:=by rw[<-i.length];exact F.len _ _ _ _ q
 refine mO[iT[F.run X.A X.stack s H _ _ _ Q _ p I.env0 (v s us I.kIn t) i q] λr n b=>?_]
 match r,b with
 |.error e,b=>exact o g c H s e n I b
 |.ok (.ret u),b=>exact I.after b
theorem My:∀{dv:lg W} {a:lg V},Ds D.G8 dv=sr a->RVs f Y H dv a
 |[],_,h=>by cases h;exact .nil
 |w::e,a,h=>by
  unfold Ds at h;cases d:D.G8 w with
  |none=>simp_all
  |some v=>
   cases c:Ds D.G8 e with
   |none=>simp_all
   |some g=>rw[d,c] at h;cases h;exact .cons Atb[d] My[c]
def Wo{y:CXT}{k:Nat}{C f:aM}{fd:eX}{ps:lg t6}{o:Sp}{d m:lg V}{j c:lg aH}{E:L2.St->XK}{t:Bool}{n:lg[aM×tu]}{g:L2.St}{H:Hp}{s:aN}{Q:VK}(M:Mk X.K C f)(F:Ib X.prog X.w X.K X.mg X.base y k f fd ps o t)(L:Ho (k+1) X.A t)(O:Binds X.K fd ps j)(hd:Vals d j)(J:Dv y X E)(I:Inv X n g H s)(r:Vals m c)(h:∀x i,H x=sy->H i=sy->i≠x->o (.ref x::(m ++ d)) upd[upd H i .own[x]][x][.ins C i []] (λv Z=>v=.non/\Q .ref[x] Z) E[g]):
  wpAny (model X.prog X.w) X.A (call .ref[C] c) (EP X n g Q) X.xe s:=by
 let q:=h (s.heap.objs.size+1) s.heap.objs.size I.hok.fresh[gZ[_]] I.hok.fresh[aO[_]] cB[gY[_]];let l:=Inv.made (C:=C) I;let p:Vals (V.ref[s.heap.objs.size+1]::(m ++ d)) (bQ[s.heap.objs.size+1]::(c ++ j)):=.cons rfl r.append[hd];let N:=by
  let e:=p.length;rw[F.len _ _ _ _ q] at e;exact e.symm
 refine mO (Axv (f:=f) I.kIn M.makes M.init beq_iff_eq.mp[M.fn] (iT (F.run _ X.stack _ _ (bQ[s.heap.objs.size+1]::c,[]) (bQ[s.heap.objs.size+1]::(c ++ j)) _ _ E[g] (L.make C c [])
  (l.env0.make C c []) (O _ (bQ[s.heap.objs.size+1]::c) l.kIn N) p q) λr B a=>?_))
 match r,a with
 |.error e,a=>exact J n g _ _ e B l a
 |.ok (.ret u),a=>
  let(v,H',Y,D,ev,G):=l.after a;subst ev;exact(D,(V.ref[s.heap.objs.size+1],H',Y,rfl,G))
def Aep{c:Nat}{g:lg W->M W}{Y:lg aM}{S:Store}{H:Hp}{e:lg W}{u:lg V}{Q:VK}{F:XK}(R:Rep d Y S H)(m:RVs d Y H e u)(q:Bb d RV[d] Y H (Af4 c g e S) Q F):
  ∀x b,H x=sy->H b=sy->b≠x->spF d g (.ref x::u) upd[upd H b .own[x]][x][.ins d.cl[c] b []] (λv D=>v=.non/\Q .ref[x] D) F:=by
 intro x b A i ne;let h:upd H b .own[x] x=sy:=by rw[Ax eG[ne]];exact A
 let y:Dd Y (Y ++ [x]) (upd H b .own[x]) upd[upd H b .own[x]][x][.ins d.cl[c] b []]:=Bu h;let R2:Rep d (Y ++ [x]) (S ++ [.ins c []]) _:=(R.beside i).alloc h (b,[],Bd,.nil);let k:=(Bu i).trans y;let n:Y <+: Y ++ [x]:=cF _ _;let f:(Y ++ [x])[S.length]?=sr x:=by rw[<-R.len];exact Ma
 refine(Y ++ [x],S ++ [.ins c []],.ref S.length::e,R2,.cons[.ref f][m.mono n k],?_);let q:Bb d RV[d] Y H M.bind[g (.ref S.length::e)][λv=>Azb .ref[S.length] v][S ++ [.ins c []]] Q F:=q;unfold M.bind at q;cases o:g (.ref S.length::e) (S ++ [.ins c []]) with
 |bad=>rw[o] at q;exact q.elim
 |exc E B=>
  rw[o] at q;intro p t j l s;exact q p t n.trans[j] k.trans[l] s
 |ok w B=>
  rw[o] at q;intro p t v j l s z;cases w with
  |non=>
   obtain rfl:=z.nI;refine(rfl,q p t .ref[x] n.trans[j] k.trans[l] s .ref[?_]);let(r,rfl):=j;rw[aX (by rw[aU,R.len,dU];omega)]
   exact f
  |_=>exact(show False from q).elim
def Azc{c:Nat}(T:Arb f X c i)(v:Dv (CXo X.prog X.w) X E)(J:X.mg x=sr .ref[f.cl[c]])(P:WA X (e::d) (tFs f E U))(L:X.env.kindOf x=sr .globalImplicit)(k:(x==("__debug__":t6))=t7)(N:starEach (e::d) X.env=(u6 t7 (eval e X.env))::starEach d X.env)(j:(backTo b (starEach d X.env)).any (·.1)=t7)(more:Bool):
  WE[X][.Call (.Name x p) (e::d) [] b][tF f E Dm[λh=>Af4 c i.g (if more then h ++ i.dv else h)][U]]:=(⟨λaa s C H Q I D=>by
 let(Y,S,Z,R,G,q):=D;let(n,fa,fd,ps,cm,M,F,y,o,dvs,ds,m,l,O):=T.ex;refine gG[Lz I L J ?_ k];refine lH I.ok.mod.kin M.kp (thn[P.un b aa s C H _ I (Y,S,Z,R,G,Bb.seq q)] λus s1 ⟨vs,H1,I1,r,Y1,S1,h,p1,t1,R1,rvs,q1⟩=>(I1.kIn,?_)) N j;cases more with
 |true=>exact Wo M F y O l v I1 r (Aep R1 rvs.append[My[m]] q1)
 |false=>exact Wo M F y o .nil v I1 r (by rw[bC];exact Aep R1 rvs q1)⟩)
def Atm{c:Nat}(A:Arb a X c i)(l:Dv (CXo X.prog X.w) X E)(v:X.mg x=sr .ref[a.cl[c]])(y:X.env.kindOf x=sr .globalImplicit)(e:(x==("__debug__":t6))=t7)(more:Bool):
  WE[X][.Call (.Name x p) [] [] u][tF a E Dm[λb=>Af4 c i.g (if more then b ++ i.dv else b)][nilF]]:=(⟨λU s G H Q I t=>by
 let(Y,S,Z,R,L,q):=t;let(n,O,fd,ps,T,M,F,m,j,B,P,h,f,z):=A.ex;refine gG[Lz I y v ?_ e];let(Y1,S1,b,N,J,o,d,k):=Bb.seq (Rel:=RVs a) q Y H [] aP[_] (Dd.refl _ _) R .nil;cases d;cases more with
 |true=>exact mX I.kIn M.kp (Wo M F m z f l I .nil Aep[o][RVs.append .nil My[h]][k])
 |false=>exact mX I.kIn M.kp (Wo M F m j .nil l I .nil (Aep o .nil k))⟩)
def call_meth{prog:cJ}{w:dZ}{A:fX}{E:aH->aN->Prop}{s:aN}{env:Env}{name:t6}{b:lg cL}{Q:aH->aN->Prop}(t:attributeBase o name env (eval o env)=eval o env)(l:((backTo a (starEach b env)).all (λx=>!x.1)&&(backToKw a (keywordEach [] env)).all (λx=>x.1.isSome)&&decide[b.length+([]:lg iQ).length+(if ([]:lg iQ).isEmpty then 0 else 1) < 30])=t8)(u:(p.endLine==a.line)=t8)(h:wpAny (model prog w) A (eval o env) (λn f=>∀pl:Sem Bool,wpAny (model prog w) A (getMethod n name pl) (λr d=>wpAny (model prog w) A (callWith a r.1 r.2 backTo[a][starEach b env] backToKw[a][keywordEach [] env]) Q E d) E f) E s):
  wpAny (model prog w) A eval[.Call (.Attribute o name p) b [] a][env] Q E s:=by
 rw[arm_eval_Call,t];refine aA[dX h (λn f j=>?_) λm m e=>e];refine aA iR[?_];let hform:methodCallForm _ _ _=t8:=l;let k:methodCallPos t8 o env p a=pure a:=by unfold methodCallPos;simp[u]
 unfold methodCall;rw[hform];exact aA fB[dX[j _][λr d i=>aA[rR k i]] λm m e=>e]
def RFs.lookN(r:RFs j Y H fs b)(f:t6)(h:fs.lookup f=sy):b.lookup f=sy:=by
 induction r with
 |nil=>rfl
 |@cons p q _ _ g r d=>
  let(c,n):=p;let(m,l):=q;let(e,k):=g;cases (e);rw[eF] at h ⊢
  by_cases a:(f==c)=t8
  .simp_all
  .rw[tU] at a;rw[a] at h ⊢;exact d h
set_option tactic.hygienic true in
def An1{mt:Nat->t6->o9 Fi}{j:Type}{b:lg aM->Hp->W->j->Prop}{Q:j->Hp->Prop}(R:Rep d Y S H)(p:RV d Y H x v)(q:Bb d b Y H ((An0 mt m x >>= k) S) Q F):
  ∃a c h fs i,v=.ref a/\H a=sr[.ins d.cl[c] h fs]/\fs.lookup m=sy/\mt c m=sr i/\Bb d b Y H (k i S) Q F:=by
 let q:Bb d b Y H M.bind[An0 mt m x][k][S] Q F:=q;unfold M.bind at q;cases p <;> try exact(show False from q).elim
 rename_i n a s _;simp only[An0] at q;cases g:S[n]? with
 |none=>rw[g] at q;exact(show False from q).elim
 |some cell=>
  rw[g] at q;cases cell with
  |lst _=>exact(show False from q).elim
  |dct _=>exact(show False from q).elim
  |ins c fs=>
   let(h,o,t,r):=R.at_ _ _ _ s g;dsimp only at q;cases e:fs.lookup m with
   |some _=>rw[e] at q;exact(show False from q).elim
   |none=>
    cases f:mt c m with
    |none=>rw[e,f] at q;exact(show False from q).elim
    |some i=>
     rw[e,f] at q;refine(a,c,h,o,i,rfl,t,?_,f,q);exact r.lookN m e
def Bjn{mt:Nat->t6->o9 Fi}{m:t6}(A:∀c i,mt c m=sr i->Ara h X c m i)(hx:Dv (CXo X.prog X.w) X E)(ho:WE X o (tF h E f))(ha:WA X (e::g) (tFs h E gs))(bf:attributeBase o m X.env (eval o X.env)=eval o X.env)(p:((backTo b (starEach (e::g) X.env)).all (λx=>!x.1)&&(backToKw b (keywordEach [] X.env)).all (λx=>x.1.isSome)&&decide[(e::g).length+([]:lg iQ).length+(if ([]:lg iQ).isEmpty then 0 else 1) < 30])=t8)(aq:(ak.endLine==b.line)=t8)(he:starEach (e::g) X.env=(u6 t7 (eval e X.env))::starEach g X.env)(z:(backTo b (starEach g X.env)).any (·.1)=t7):
  WE X (.Call (.Attribute o m ak) (e::g) [] b) tF[h][E][Em mt m f gs]:=(⟨λaa s N H Q I v=>by
 let(Y,S,Z,R,T,q):=v;refine call_meth bf p aq (thn (ho.un aa s N H _ I (Y,S,Z,R,T,Bb.seq (Rel:=RV h) q)) λu s1 v pl=>?_);let(x,H1,I1,rx,Y1,S1,w,p1,t1,R1,y,q1):=v;let(a,c,dx,fs,i,rfl,ea,l,hi,q2):=An1 R1 y q1;obtain rfl:u=bQ a:=rx;let(n,fa,fd,ps,cm,C,hm,F,hr,G,dvs,ds,D,B,hb):=(A c i hi).ex;refine Afg I1 ea C hm l ?_;refine lH (first:=[.ref a]) (h₀:=X.base) I.ok.mod.kin hm.kp (thn (ha.un b aa s1 N H1 _ I1 (Y1,S1,Z,R1,T.mono p1 t1,Bb.seq (Rel:=RVs h) q2)) λus s2 ⟨vs,H2,I2,r,Y2,S2,ws,p2,t2,R2,rvs,q3⟩=>(I2.kIn,?_)) he z
 unfold Ben at q3;split at q3
 .exact Aau (us:=.ref a::us) (vs:=.ref a::vs) (dvs:=[]) F hr G .nil hx I2 (.cons rfl r) (Y2,S2,w::ws,R2,by rw[bC];exact .cons (y.mono p2 t2) rvs,q3)
 .split at q3
  .exact Aau (us:=.ref a::us) (vs:=.ref a::vs) F hr hb B hx I2 (.cons rfl r) (Y2,S2,w::(ws ++ i.dv),R2,.cons[y.mono p2 t2][rvs.append My[D]],q3)
  trivial⟩)
def Beo{mt:Nat->t6->o9 Fi}{m:t6}(r:∀c i,mt c m=sr i->Ara g X c m i)(D:Dv (CXo X.prog X.w) X E)(ho:WE X o (tF g E f))(bf:attributeBase o m X.env (eval o X.env)=eval o X.env)(aq:(ak.endLine==e.line)=t8):
  WE X (.Call (.Attribute o m ak) [] [] e) tF[g][E][Em mt m f nilF]:=(⟨λaa s P H Q I j=>by
 let(Y,S,Z,R,T,q):=j;refine call_meth bf (by rfl) aq (thn (ho.un aa s P H _ I (Y,S,Z,R,T,Bb.seq (Rel:=RV g) q)) λu s1 j pl=>?_)
 let(x,H1,h,U,Y1,S1,w,p1,t1,O,p,q1):=j;let(a,c,dx,fs,i,rfl,ea,l,hi,q2):=An1 O p q1;obtain rfl:u=bQ a:=U;let(n,fa,fd,ps,cm,C,J,F,G,y,dvs,ds,v,t,hb):=(r c i hi).ex;refine Afg h ea C J l ?_;let(L,N,ws,B,A,R2,k,b):=Bb.seq (Rel:=RVs g) q2 Y1 H1 [] aP[_] (Dd.refl _ _) O .nil;cases k;refine mX h.kIn J.kp ?_;unfold Ben at b;split at b
 .exact Aau (us:=[.ref a]) (vs:=[.ref a]) (dvs:=[]) F G y .nil D h (.cons rfl .nil) (L,N,[w],R2,.cons (p.mono B A) .nil,b)
 .split at b
  .exact Aau (us:=[.ref a]) (vs:=[.ref a]) F G hb t D h (.cons rfl .nil) (L,N,w::i.dv,R2,.cons[p.mono B A][My v],b)
  trivial⟩)
end
def noStar:cL->Bool
 |.Starred _ _=>t7
 |_=>t8
def Ai9:cL->Bool
 |.Set _ _ _=>t7
 |_=>t8
def Ala:cL->Bool
 |.ListComp _ _ _ _=>t7
 |.SetComp _ _ _ _=>t7
 |.DictComp _ _ _ _ _=>t7
 |_=>t8
def Arc:cL->Bool
 |.Call _ _ _ _=>t7
 |_=>t8
def Atn:cL->Bool
 |.Slice _ _ _ _=>t7
 |_=>t8
def plainT:cL->Bool
 |.UnaryOp .Not _ _=>t7
 |.BoolOp _ _ _=>t7
 |.IfExp _ _ _ _=>t7
 |.Compare _ _ _ _=>t7
 |_=>t8
section
def J0(h:noStar a=t8):starEach (a::c) env=(u6 t7 (eval a env))::starEach c env:=by
 cases a <;> first|rfl|cases h
theorem Gu:∀{a:lg cL},a.all noStar=t8->(backTo c (starEach a env)).any (·.1)=t7
 |[],_=>rfl
 |e::a,h=>by
  rw[cP,aB] at h;rw[J0 h.1];exact Gu h.2
theorem An2:∀{a:lg cL},a.all noStar=t8->(backTo c (starEach a env)).all (λx=>!x.1)=t8
 |[],_=>rfl
 |e::a,h=>by
  rw[cP,aB] at h;rw[J0 h.1];exact An2 h.2
def Aeq(h:Ai9 a=t8):∀x,foldedSetIterable a env x=pure x:=(λx=>by
 cases a <;> first|rfl|cases h)
def Aav(h:Ai9 b=t8):behindInMarks a b=t7:=by
 cases b <;> first|rfl|cases h
def Ato{n:Nat}(h:Ala a=t8):swapsWith a t n env=pure t7:=by
 cases a <;> first|rfl|cases h
def Aer(h:Arc a=t8):attributeBase a x env (eval a env)=eval a env:=by
 cases a <;> first|rfl|cases h
def Bg4(h:Atn b=t8):Aek b:=by
 cases b <;> first|exact λa a=>rfl|cases h
set_option tactic.hygienic true in
def Atp(h:plainT a=t8):∀whole,isTrue a env whole=(do let v<-whole;standAt a.pos;holding [v] truthy[v]):=(λw=>by
 cases a <;> first|rfl|cases h|skip
 rename_i b o p;cases b <;> first|rfl|cases h)
end
def Ard(x:t6):lg t6->o9 Nat
 |[]=>sy
 |y::ys=>if y=x then sr 0 else (Ard x ys).map (·+1)
theorem Aes:∀{l:lg t6} {i:Nat},Ard x l=sr i->l[i]?=sr x
 |[],_,h=>by cases h
 |y::f,i,h=>by
  unfold Ard at h;split at h
  .rename_i e;cases h;subst e;rfl
  .let(j,b,rfl):=bF.mp h;simpa using Aes b
structure Gm where
 N:List t6
 sc:kJ
 fn:t6->Option Fi
 con:t6->Option W
 bi:t6->Bool
 exc:t6->Option Nat
 isa:Nat->W->Option Bool
 fld:Bool->Nat->t6->Bool
 fuel:Nat
 calm:Bool
 fnB:Bool
 rs:Bool
 mdc:t6->Option (List (t6×t6))
 exi:t6->Option (Nat×List W)
 hcl:t6->Option Nat
 exm:Nat->Nat->Bool
 loops:Bool
 tr:Bool
 mt:Nat->t6->Option Fi
 mn:t6->Bool
 mkc:t6->Option (Nat×Fi)
structure Gm.Ok(Θ:Th)(Γ:Gm)(X:Cx)(E:L2.St->XK):Prop where
 hK:X.K=Θ.K
 hu:X.A.units+64 < cLine
 N:X.N=Γ.N
 nd:X.N.Nodup
 sc:X.env.scope=Γ.sc
 fn:∀x i,Γ.fn x=sr i->∃(n:Nat)(fa:aM)(fd:eX)(ps:List t6)(df:dI)(cm:Bool),Xa X.K X.mg x df ps fa fd/\Ib X.prog X.w X.K X.mg X.base (CXo X.prog X.w) n fa fd ps (spF Θ i.g) cm/\Ho n X.A cm/\
  ∃dvs ds,Ds D.G8 i.dv=sr dvs/\Vals dvs ds/\Binds X.K fd ps ds
 ps:Dv (CXo X.prog X.w) X E
 px:Γ.loops=t8->X.stack=X.env::X.outer/\X.env.frame=sr X.env.locals/\X.ex=[]/\Aai X E
 con:∀x w,Γ.con x=sr w->∃v u,(∀Y H,RV Θ Y H w v)/\RelV v u/\(X.mg x=sr u\/(X.mg x=sy/\bootBuiltins x=sr u))
 bi:∀x,Γ.bi x=t8->X.mg x=sy
 fld:FOk Θ Γ.fld
 isa:Atk Θ Γ.isa
 calm:Γ.calm=t8->X.calm=t8
 fnB:Γ.fnB=t8->∀x,X.fn x=t8
 mdc:∀x D,Γ.mdc x=sr D->∃a,Av9 X.K a D/\X.mg x=sr (.ref a)
 mt:∀c m i,Γ.mt c m=sr i->Ara Θ X c m i
 mkc:∀x c i,Γ.mkc x=sr (u6 c i)->X.mg x=sr (.ref (Θ.cl c))/\Arb Θ X c i
structure Rd where
 val:De->M W
 tst:De->M Bool
 base:De->M W
 lo:De->M (Option Int)
 hi:De->M (Option Int)
 src:De->M Src
 srcT:De->M Src
 sv:De->M (List W)
def Ea{α:Type}:De->M α:=λuu=>bad
def Rd.no:Rd:=(Ea,Ea,Ea,Ea,Ea,Ea,Ea,Ea)
def Rd.of(f:De->M W):Rd:=(f,Dp f,Ea,Ea,Ea,Eo f,Eo f,Ea)
structure Nq(Θ:Th)(X:Cx)(E:L2.St->XK)(e:cL)(r:Rd):Prop where
 val:WE X e (tF Θ E r.val)
 tst:WT X e (tFb Θ E r.tst)
 base:∀o n p,e=.Attribute o n p->WE X o (tF Θ E r.base)
 lo:∀lo hi p,e=.Slice lo hi sy p->WO X lo (tFo Θ E r.lo)
 hi:∀lo hi p,e=.Slice lo hi sy p->WO X hi (tFo Θ E r.hi)
 src:∀tg,WI X tg e (tFi Θ E r.src)
 srcT:∀es k p,WI X (.Tuple es k p) e (tFi Θ E r.srcT)
 sv:∀f es kws p,e=.Call f es kws p->WA X es (tFs Θ E r.sv)
inductive Im(Θ:Th)(X:Cx)(E:L2.St->XK):List cL->List Rd->Prop
 |nil:Im Θ X E [] []
 |cons {e:cL} {es:List cL} {r:Rd} {rs:List Rd}:Nq Θ X E e r->Im Θ X E es rs->Im Θ X E (e::es) (r::rs)
section
def Cr:WE X e (tF Θ E Ea):=⟨λ_ _ _ _ _ _ ⟨_,_,_,_,_,q⟩=>gU q⟩
def Are:WT X e (tFb Θ E Ea):=⟨λ_ _ _ _ _ _ ⟨_,_,_,_,_,q⟩=>gU q⟩
def Azd:WW X e (tFb Θ E Ea):=⟨λ_ _ _ _ _ _ _ ⟨_,_,_,_,_,q⟩=>gU q⟩
def Tw:WO X u (tFo Θ E Ea):=⟨λ_ _ _ _ _ _ ⟨_,_,_,_,_,q⟩=>gU q⟩
def Af5:WI X tg e (tFi Θ E Ea):=⟨λ_ _ _ _ _ _ ⟨_,_,_,_,_,q⟩=>gU q⟩
def Af6:WA X es (tFs Θ E Ea):=⟨λ_ _ _ _ _ _ _ ⟨_,_,_,_,_,q⟩=>gU q⟩
def Jr:Nq Θ X E e Rd.no:=(Cr,Are,λuu uu uu uu=>Cr,λuu uu uu uu=>Tw,λuu uu uu uu=>Tw,λuu=>Af5,λuu uu uu=>Af5,λuu uu uu uu uu=>Af6)
def Qj(hK:X.K=b.K)(h:WE X e (tF b E f))(c:plainT e=t8):Nq b X E e Rd.of[f]:=by
 exact(h,Ay4 h Atp[c],λa a a a=>Cr,λa a a a=>Tw,λa a a a=>Tw,λa=>Anu hK h,λa a a=>Anu hK h,λa a a a a=>Af6)
def Wq(hK:X.K=b.K)(h:WE X e (tF b E f))(c:WT X e (tFb b E t)):Nq b X E e { Rd.of f with tst:=t }:=by
 exact(h,c,λa a a a=>Cr,λa a a a=>Tw,λa a a a=>Tw,λa=>Anu hK h,λa a a=>Anu hK h,λa a a a a=>Af6)
def vals:lg Rd->De->M lg[W]
 |[]=>nilF
 |r::rs=>Eu r.val vals[rs]
theorem Mf:∀{c:lg cL} {rs:lg Rd},Im d X E c rs->c.all noStar=t8->WA X c (tFs d E vals[rs])
 |_,_,.nil,_=>WA.weak ⟨Aj7⟩ λe H Q ⟨Y,S,Z,R,f,q⟩=>q.now R .nil
 |_,_,.cons h r,b=>by
  rw[cP,aB] at b;exact Bir h.val (Mf r b.2) J0[b.1]
def Aze:Const->De->M W
 |.int i=>kF .int[i]
 |.bool b=>kF .bl[b]
 |.none=>kF .non
 |.str x=>kF .str[x]
 |_=>Ea
def Azf{j:Nat}:WE[X][.Constant v j b][tF d E Aze[v]]:=by
 cases v <;> first|exact Cr|skip
 .exact Aky rfl ⟨λa a a H a I h=>aCi (.non,H,I,rfl,h)⟩
 .exact Aky rfl ⟨Bll⟩
 .exact Aky rfl ⟨Axn⟩
 .exact Aky rfl ⟨Bhl⟩
def Azg(Γ:Gm)(x:t6):De->M W:=if x==("__debug__":t6)||x==("__classdict__":t6)||decide[x=("__name__":t6)] then Ea else
 match Γ.sc.names.lookup x with
 |some .globalImplicit=>match Γ.con x with
  |some w=>kF w
  |none=>Ea
 |_=>match Ard x Γ.N with
  |some i=>if Aqx Γ.sc x then Ab i else Ea
  |none=>Ea
set_option tactic.hygienic true in
def Bep(G:k.Ok j X E):WE X (.Name x l) tF[j][E][Azg k x]:=by
 unfold Azg;split
 .exact Cr
 rename_i g;rw[eV,eV,not_or,not_or] at g;let((c,f),p):=g;let c:=jW.mpr c;let f:=jW.mpr f;split
 .rename_i n;split
  .rename_i w m;let(v,u,d,r,a):=G.con x w m;let b:X.env.kindOf x=sr .globalImplicit:=by show X.env.scope.names.lookup x=_;rw[G.sc];exact n
   rcases a with a|⟨a,o⟩
   .exact Ay8 d (Bgx a r b c)
   .exact Ay8 d (⟨λe e e H e I h=>Abr I b a o (v,H,I,r,h) of_decide_eq_false[jW.mpr[p]] c⟩)
  .exact Cr
 .split
  .rename_i i hi;split
   .rename_i d;exact Bmy[kv i (by rw[G.N];exact Aes hi) (by rw[G.sc];exact d) c f]
   .exact Cr
  .exact Cr
def Bjo(op:aDx)(a b:Rd):De->M W:=match Bop.of op with
 |some o=>Al o a.val b.val
 |none=>Ea
set_option tactic.hygienic true in
def Bjp{e:Gm}{d:aDx}{r s:Rd}(G:e.Ok c X E)(i:Nq c X E a r)(h:Nq c X E b s):WE X (.BinOp a d b f) tF[c][E][Bjo d r s]:=by
 unfold Bjo;split
 .rename_i o g;exact Bmx G.hK g i.val h.val
 .exact Cr
def Ab3(f:De->M W):De->M W:=λZ=>do let x<-f Z;match x with
 |.int i=>pure .int[-i]
 |_=>bad
def unR(op:UnaryOp)(r:Rd):Rd:=match op with
 |.Not=>{ Rd.of Bmz[r.val] with tst:=Qm r.tst }
 |.USub=>Rd.of Ab3[r.val]
 |_=>Rd.no
def Bnd{A:Gm}{o:UnaryOp}{r:Rd}(G:A.Ok l X E)(p:Nq l X E a r):Nq l X E (.UnaryOp o a F) (unR o r):=by
 cases o
 .exact Jr
 .exact Wq G.hK (WE.weak knot[p.val] λf H Q i=>by
 let(Y,S,Z,R,j,q):=i;refine(Y,S,Z,R,j,(Bb.seq (Rel:=RV l) q).mono ?_);rintro v g ⟨y,z,w,u,t,k,n,e⟩;let(b,rfl,D):=Afv n e;exact(b,rfl,D.now k .bl[_])) (WT.weak (⟨by
  intro m s f H Q I h;exact isTrue_not[thn[p.tst.un m s f H (λc g=>Q (!c) g) I h] λ_ _ ⟨a,b,c⟩=>(a,b,c)]⟩) λf H Q i=>by
 let(Y,S,Z,R,j,q):=i;refine(Y,S,Z,R,j,(Bb.seq (Rel:=λd d a b=>a=b) q).mono ?_);rintro v g ⟨y,z,w,u,t,k,rfl,e⟩;exact Bb.now (Rel:=λd d a b=>a=b) e k rfl)
 .exact Jr
 .exact Qj G.hK (WE.weak (⟨by
  intro m s f H Q I h;exact UnaryOp_[thn[p.val.un m s f H _ I h] λv B ⟨x,g,I1,r1,e⟩=>(unI λd d d d d q=>neg_int q) m B f g x v Q I1 r1 e]⟩) λf H Q i=>by
 let(Y,S,Z,R,j,q):=i;refine(Y,S,Z,R,j,(Bb.seq (Rel:=RV l) q).mono ?_);rintro v g ⟨y,z,w,u,t,k,n,e⟩;cases n <;> first|exact(show False from e).elim|skip
 exact(_,rfl,e.now k .int[_])) rfl
def Bjq:lg Rd->De->M W
 |[]=>Ea
 |[r]=>r.val
 |r::s::rs=>Jk r.val (Bjq (s::rs))
def orV:lg Rd->De->M W
 |[]=>Ea
 |[r]=>r.val
 |r::s::rs=>orF r.val (orV (s::rs))
def Azh:lg Rd->De->M Bool
 |[]=>Ea
 |[r]=>r.tst
 |r::s::rs=>Ad3 r.tst (Azh (s::rs))
def Bjr:lg Rd->De->M Bool
 |[]=>Ea
 |[r]=>r.tst
 |r::s::rs=>orT r.tst (Bjr (s::rs))
theorem Atq:∀{f:lg cL} {rs:lg Rd},Im c X E f rs->WE X (.BoolOp .And f m) (tF c E Bjq[rs])
 |_,_,.nil=>Cr
 |_,_,.cons h .nil=>Bmd h.val
 |_,_,.cons h (.cons o r)=>(WE.weak[Bo1 h.val Atq[.cons o r]] λu H Q i=>by
 let(Y,S,Z,R,d,q):=i;refine(Y,S,Z,R,d,(Bb.seq (Rel:=RV c) q).mono ?_);rintro v x ⟨p,s,w,n,j,g,k,l⟩;let(b,rfl,e):=Afv k l;refine(b,rfl,?_);cases b with
 |true=>exact L2.Akf (p,s,Z,g,d.mono n j,e)
 |false=>exact L2.Ane[e.now g .bl[_]])
theorem Bjs:∀{f:lg cL} {rs:lg Rd},Im c X E f rs->WE X (.BoolOp .Or f m) (tF c E orV[rs])
 |_,_,.nil=>Cr
 |_,_,.cons h .nil=>Bmd h.val
 |_,_,.cons h (.cons o r)=>(WE.weak[kor h.val Bjs[.cons o r]] λu H Q i=>by
 let(Y,S,Z,R,d,q):=i;refine(Y,S,Z,R,d,(Bb.seq (Rel:=RV c) q).mono ?_);rintro v x ⟨p,s,w,n,j,g,k,l⟩;let(b,rfl,e):=Afv k l;refine(b,rfl,?_);cases b with
 |true=>exact L2.Akf (e.now g .bl[_])
 |false=>exact L2.Ane (p,s,Z,g,d.mono n j,e))
theorem An3:∀{g:lg cL} {rs:lg Rd},Im j X E g rs->WW X (.BoolOp .And g m) (tFb j E Azh[rs])
 |_,_,.nil=>Azd
 |_,_,.cons h .nil=>Bme h.tst
 |_,_,.cons h (.cons o r)=>(WW.weak[Bo4 h.tst An3[.cons o r]] λu H Q k=>by
 let(Y,S,Z,R,e,q):=k;refine(Y,S,Z,R,e,(Bb.seq (Rel:=λd d a b=>a=b) q).mono ?_);rintro v x ⟨p,s,w,n,l,i,rfl,f⟩;cases w with
 |true=>exact L2.Akf (p,s,Z,i,e.mono n l,f)
 |false=>exact L2.Ane (Bb.now (Rel:=λd d a b=>a=b) f i rfl))
theorem Atr:∀{g:lg cL} {rs:lg Rd},Im j X E g rs->WW X (.BoolOp .Or g m) (tFb j E Bjr[rs])
 |_,_,.nil=>Azd
 |_,_,.cons h .nil=>Bo5 h.tst
 |_,_,.cons h (.cons o r)=>(WW.weak[tor h.tst Atr[.cons o r]] λu H Q k=>by
 let(Y,S,Z,R,e,q):=k;refine(Y,S,Z,R,e,(Bb.seq (Rel:=λd d a b=>a=b) q).mono ?_);rintro v x ⟨p,s,w,n,l,i,rfl,f⟩;cases w with
 |true=>exact L2.Akf (Bb.now (Rel:=λd d a b=>a=b) f i rfl)
 |false=>exact L2.Ane (p,s,Z,i,e.mono n l,f))
def Bg5(op:BoolOp)(rs:lg Rd):Rd:=match op with
 |.And=>{ Rd.of Bjq[rs] with tst:=Azh rs }
 |.Or=>{ Rd.of Ea with tst:=Bjr rs }
def Beq{d:Gm}{a:BoolOp}{rs:lg Rd}(G:d.Ok b X E)(h:Im b X E f rs):Nq b X E (.BoolOp a f e) (Bg5 a rs):=by
 cases a
 .exact Wq G.hK Atq[h] tw[An3[h]]
 .exact Wq G.hK Cr tw[Atr[h]]
def Bjt(ops:lg yM)(bs:lg cL)(r:Rd)(rs:lg Rd):Rd:=match ops,bs,rs with
 |[op],[b],[s]=>if Ai9 b then { Rd.of[Dz op r.val s.val] with tst:=Dp[Dz op r.val s.val] } else Rd.no
 |[op,op'],[_,c],[s,t]=>if Ai9 c then { Rd.of[Jl op op' r.val s.val t.val] with tst:=Dp[Jl op op' r.val s.val t.val] } else Rd.no
 |_,_,_=>Rd.no
set_option tactic.hygienic true in
def Bju{L:Gm}{g:lg yM}{r:Rd}{rs:lg Rd}(G:L.Ok d X E)(A:Nq d X E a r)(h:Im d X E J rs):Nq d X E (.Compare a g J pos) (Bjt g J r rs):=by
 unfold Bjt;split
 .rename_i j b s;cases h with|cons n _=>
  split
  .rename_i m;exact Wq G.hK (by
     obtain⟨o⟩:=Avz d X G.hK G.hu j;exact WE.weak (⟨by
      intro p s f H Q I h;exact wpAny_Compare1[Bhs A.val.un n.val.un I h λv u B x y D C P O q=>o.ok p B f D x y v u Q C P O q][Aav m]⟩) Tr[o.by_]) (by
        obtain⟨o⟩:=Avz d X G.hK G.hu j;exact Aq6 Tr[o.by_] (⟨by
         intro p s f H Q I h;refine wpAny_isTrue_Compare1 (thn[A.val.un p s f H _ I h] λv N ⟨x,H1,I1,r1,q1⟩=>thn[n.val.un p N f H1 _ I1 q1] λu B ⟨y,D,C,r2,q2⟩=>
          thn[o.ok p B f D x y v u _ C r1 r2 q2] λc s3 ⟨z,H3,I3,r3,k,e,q3⟩=>?_) Aav[m]
         subst e;cases r3;exact gP (H3,I3,q3)⟩))
  .exact Jr
 .rename_i j i b c s t;cases h with|cons n h=>
  cases h with|cons F _=>
  split
  .rename_i m;exact Wq G.hK (by
     obtain⟨o⟩:=Avz d X G.hK G.hu j;obtain⟨l⟩:=Avz d X G.hK G.hu i;exact WE.weak[⟨Axr o.ok l.ok A.val.un n.val.un F.val.un Aav[m]⟩][Ai7 o l]) (by
       obtain⟨o⟩:=Avz d X G.hK G.hu j;obtain⟨l⟩:=Avz d X G.hK G.hu i;exact Aq6[Ai7 o l][⟨Axs o.ok l.ok A.val.un n.val.un F.val.un Aav[m]⟩])
  .exact Jr
 .exact Jr
def Bjv(es:lg cL)(rs:lg Rd):De->M W:=if es.all noStar then Df vals[rs] else Ea
def Bjw(es:lg cL)(rs:lg Rd):De->M W:=if es.all noStar then Hf vals[rs] else Ea
def Bjx{j:Nat}(h:Im b X E a rs):WE X (.Tuple a j c) tF[b][E][Bjv a rs]:=by
 unfold Bjv;split
 .rename_i d;exact Bm0[Mf h d]
 .exact Cr
def Bjy(h:Im b X E a rs):WE X (.List a c) tF[b][E][Bjw a rs]:=by
 unfold Bjw;split
 .rename_i d;exact Bm1[Mf h d]
 .exact Cr
def An4:lg o9[Rd]->lg Rd->o9 lg[(De->M W)×(De->M W)]
 |[],[]=>sr []
 |some k::ks,v::vs=>(An4 ks vs).map ((u6 k.val v.val)::·)
 |_,_=>sy
def Azi(ks:lg o9[Rd])(vs:lg Rd):De->M W:=match An4 ks vs with
 |some l=>if decide[l.length<=15] then Nz l else Ea
 |none=>Ea
inductive Tz(Θ:Th)(X:Cx)(E:L2.St->XK):List (Option cL)->List (Option Rd)->Prop
 |nil:Tz Θ X E [] []
 |none {es:List (Option cL)} {rs:List (Option Rd)}:Tz Θ X E es rs->Tz Θ X E (sy::es) (sy::rs)
 |some {e:cL} {r:Rd} {es:List (Option cL)} {rs:List (Option Rd)}:Nq Θ X E e r->Tz Θ X E es rs->Tz Θ X E (sr e::es) (sr r::rs)
theorem An5:∀{b:lg o9[cL]} {f:lg cL} {d:lg o9[Rd]} {c:lg Rd} {l:lg[(De->M W)×(De->M W)]},Tz e X E b d->Im e X E f c->An4 d c=Option.some l->
  WPs X pos b f (l.map λp=>(u6[tF e E p.1][tF e E p.2]))/\b.all (·.isSome)=t8/\b.length=f.length/\l.length=b.length
 |_,_,_,_,l,.nil,.nil,h=>by cases h;exact(⟨λt s q H Q I h=>pairTrees_nil_walk ([],H,I,.nil,h)⟩,rfl,rfl,rfl)
 |_,_,_,_,l,.nil,.cons _ _,h=>by cases h
 |_,_,_,_,l,.none _,_,h=>by unfold An4 at h;cases h
 |_,_,_,_,l,.some _ _,.nil,h=>by cases h
 |_,_,_,_,l,.some n d,.cons m c,h=>by
  unfold An4 at h;let(r,o,rfl):=bF.mp h;let(k,j,i,g):=An5 d c o;exact(Bc9 n.val m.val k,by rw[cP,j];rfl,by rw[bN,bN,i],by rw[bN,bN,g])
set_option tactic.hygienic true in
def Ber(q:Tz d X E a h)(n:Im d X E c g):WE X (.Dict a c pos) tF[d][E][Azi h g]:=by
 unfold Azi;split
 .rename_i l o;let(m,j,i,f):=An5 (pos:=pos) q n o;split
  .rename_i b;cases a with
   |nil=>
    cases c with
    |nil=>
     cases l with
     |nil=>exact Bjd
     |cons p l=>trivial
    |cons e c=>trivial
   |cons k a=>exact Bje m j i (by simp) (by rw[<-f];exact dg b) f
  .exact Cr
 .exact Cr
def Bne(Γ:Gm):cL->o9 lg[t6×t6]
 |.Name x _=>if !(x==("__debug__":t6))&&decide[Γ.sc.names.lookup x=sr .globalImplicit] then Γ.mdc x else sy
 |_=>sy
def subV(Γ:Gm)(a i:cL)(o r:Rd):De->M W:=match Bne Γ a with
 |some D=>if Atn i then mdF D r.val else Ea
 |none=>match i with
  |.Slice _ _ sy _=>slF o.val r.lo r.hi
  |.Slice _ _ (sr _) _=>Ea
  |_=>ixF o.val r.val
set_option tactic.hygienic true in
def Bjz(G:h.Ok e X E)(g:Nq e X E a r)(d:Nq e X E b s):WE X (.Subscript a b i) tF[e][E][subV h a b r s]:=by
 unfold subV;split
 .rename_i D c;split
  .rename_i l;unfold Bne at c;split at c
   .split at c
    .rename_i f;rw[aB] at f;let(A,n,m):=G.mdc _ D c;exact Bps n m (by show X.env.scope.names.lookup _=_;rw[G.sc];exact dg f.2) (by simpa using f.1) d.val Bg4[l]
    .cases c
   .cases c
  .exact Cr
 split
 .exact Bdu G.hK g.val (d.lo _ _ _ rfl) (d.hi _ _ _ rfl)
 .exact Cr
 .rename_i k j;refine Bpf G.hK G.hu g.val d.val Bg4[?_];cases b <;> first|rfl|skip
  rename_i lo hi st p;cases st
  .exact(k _ _ _ rfl).elim
  .exact(j _ _ _ _ rfl).elim
def Azj:o9 Rd->De->M o9[Int]
 |none=>Ci
 |some r=>Bx r.val
def Bj0(Γ:Gm)(o:cL)(f:t6)(r:Rd):De->M W:=if Arc o then Ak7 Γ.fld f r.val else Ea
def Bj1(G:b.Ok a X E)(d:Nq a X E o r):WE X (.Attribute o f c) tF[a][E][Bj0 b o f r]:=by
 unfold Bj0;split
 .rename_i h;exact Bm7 G.hK G.fld d.val Aer[h]
 .exact Cr
end
section
def Bes{n:Nat}(D:Xa X.K X.mg x df ps C fd)(F:Ib X.prog X.w X.K X.mg X.base CX n C fd ps (spF h s) I)(t:Ho n X.A I)(o:Dv CX X E)(r:Ds _root_.D.G8 dv=sr g)(hd:Vals g G)(y:Binds X.K fd ps G)(z:WA X (a::b) (tFs h E B))(u:X.env.kindOf x=sr .globalImplicit)(f:(x==("__debug__":t6))=t7)(v:starEach (a::b) X.env=(u6 t7 (eval a X.env))::starEach b X.env)(e:(backTo d (starEach b X.env)).any (·.1)=t7):
  WE[X][.Call (.Name x p) (a::b) [] d][tF h E Dm[λi=>s[i ++ dv]][B]]:=(WE.weak ⟨Ang F t u D.gl D.fn.kp y hd o z.un f v e⟩ λU H Q k=>by
 let(Y,S,Z,R,l,q):=k;refine(Y,S,Z,R,l,(Bb.seq q).mono ?_);rintro vs H1 ⟨J,N,i,p1,t1,O,c,m⟩;exact(J,N,_,O,c.append My[r],m))
def An6{n:Nat}(D:Xa X.K X.mg x P ps o fd)(F:Ib X.prog X.w X.K X.mg X.base CX n o fd ps (spF d s) t)(k:Ho n X.A t)(i:Dv CX X E)(j:Ds _root_.D.G8 dv=sr c)(hd:Vals c r)(m:Binds X.K fd ps r)(l:X.env.kindOf x=sr .globalImplicit)(b:(x==("__debug__":t6))=t7):
  WE[X][.Call (.Name x p) [] [] h][tF d E Dm[λe=>s[e ++ dv]][nilF]]:=(⟨λT N G H Q I f=>by
 let(Y,S,Z,R,L,q):=f;refine gG[Lz I l D.gl ?_ b];refine mX I.kIn D.fn.kp (Aau F k m hd i I .nil ?_);let(u,y,e,O,J,z,a,g):=Bb.seq (Rel:=RVs d) q Y H [] aP[_] (Dd.refl _ _) R .nil;cases a;exact(u,y,dv,z,My j,g)⟩)
def Bet(Γ:Gm)(name:t6)(old:o9[De->M W])(f:De->M W)(gs:De->M lg[W]):De->M W:=match Γ.mn name,old with
 |true,sr g=>orM g (Em Γ.mt name f gs)
 |true,sy=>Em Γ.mt name f gs
 |false,sr g=>g
 |false,sy=>Ea
def Ats(c:∀g,a=sr g->WE X e (tF b E g))(f:WE X e tF[b][E][Em d.mt name i h]):WE X e tF[b][E][Bet d name a i h]:=by
 unfold Bet;split
 .exact Bjm (c _ rfl) f
 .omega
 .exact c _ rfl
 .exact Cr
def Bg6(i:Fi)(c:Nat)(k:Nat)(gs:De->M lg[W]):De->M W:=if k+1=i.np then Dm (λws=>Af4 c i.g ws) gs else if k+1+i.dv.length=i.np then Dm (λws=>Af4 c i.g (ws ++ i.dv)) gs else Ea
def Azk(Γ:Gm)(f:cL)(fr:Rd)(args:lg cL)(ars:lg Rd)(kws:lg iQ)(cpos:Pos):De->M W:=
 match kws with
 |_::_=>Ea
 |[]=>if !args.all noStar then Ea else match f with
  |.Name x _=>if x==("__debug__":t6)||decide[x=("__name__":t6)]||!decide (Γ.sc.names.lookup x=sr .globalImplicit) then Ea else
   match Γ.fn x with
   |some i=>if args.length=i.np then Dm i.g vals[ars] else if args.length+i.dv.length=i.np then Dm[λws=>i.g[ws ++ i.dv]][vals ars] else Ea
   |none=>match Γ.mkc x with
   |some (c,i)=>Bg6 i c args.length vals[ars]
   |none=>if Γ.bi x&&!args.isEmpty then if x="isinstance" then Dm Np[Γ.isa] vals[ars] else match Bdw x with
     |some g=>if Γ.calm then Dm g vals[ars] else Ea
     |none=>match Bdx x with
      |some g=>if Γ.calm then Dm g vals[ars] else Ea
      |none=>Ea
    else Ea
  |.Attribute o name ak=>if Arc o&&(ak.endLine==cpos.line) then
    match args with
    |[]=>Bet Γ name sy fr.base nilF
    |_::_=>if decide[args.length < 30] then Bet Γ name ((Bee name).map λp=>Ir p.1 p.2 fr.base vals[ars]) fr.base vals[ars]
     else Ea
   else Ea
  |_=>Ea
def Azl(h:(a::d).all noStar=t8)(e:(a::d).length < 30):((backTo b (starEach (a::d) env)).all (λx=>!x.1)&&(backToKw b (keywordEach [] env)).all (λx=>x.1.isSome)&&decide[(a::d).length+([]:lg iQ).length+(if ([]:lg iQ).isEmpty then 0 else 1) < 30])=t8:=by
 rw[An2 h,aB];exact(rfl,dj[by trivial])
set_option tactic.hygienic true in
def Azm(G:Γ.Ok s X E)(hf:Nq s X E f fr)(C:Im s X E L ars):WE X (.Call f L kws cpos) tF[s][E][Azk Γ f fr L ars kws cpos]:=by
 unfold Azk;split
 .exact Cr
 split
 .exact Cr
 rename_i t;let b:L.all noStar=t8:=by
  cases h:L.all noStar
  .rw[h] at t;exact(t rfl).elim
  .rfl
 let p:=Mf C b;split
 .rename_i x np;split
  .exact Cr
  rename_i m;rw[eV,eV,not_or,not_or] at m;let((j,J),h3):=m;let j:=jW.mpr j;let J:=jW.mpr J;let d:X.env.kindOf x=sr .globalImplicit:=by
   show X.env.scope.names.lookup x=_;rw[G.sc];by_cases z:Γ.sc.names.lookup x=sr .globalImplicit
   .exact z
   .rw[dq z] at h3;exact(h3 rfl).elim
  split
  .rename_i i hfn;let(n,fa,fd,ps,df,cm,D,F,B,dvs,ds,w,v,u):=G.fn x i hfn;cases C with
   |nil=>
    split
    .exact WE.weak (An6 D F B G.ps (dv:=[]) rfl .nil D.bd d j) λσ H Q q=>by
      let e:(λN=>i.g[N ++ []])=i.g:=funext λN=>by rw[bC]
      rw[e];exact q
    .split
     .exact An6 D F B G.ps w v u d j
     .exact Cr
   |cons A y=>
    rw[cP,aB] at b;split
    .exact Bis D F B G.ps p d j J0[b.1] Gu[b.2]
    .split
     .exact Bes D F B G.ps w v u p d j J0[b.1] Gu[b.2]
     .exact Cr
  .split
   .rename_i c i U;let(l,I):=G.mkc x c i U;unfold Bg6;cases C with
    |nil=>
     split
     .exact Atm (more:=false) I G.ps l d j
     .split
      .exact Atm (more:=true) I G.ps l d j
      .exact Cr
    |cons A y=>
     rw[cP,aB] at b;split
     .exact Azc (more:=false) I G.ps l p d j J0[b.1] Gu[b.2]
     .split
      .exact Azc (more:=true) I G.ps l p d j J0[b.1] Gu[b.2]
      .exact Cr
   split
   .rename_i r;rw[aB] at r;let l:=G.bi x r.1;cases C with
    |nil=>cases r.2
    |cons A y=>
    rw[cP,aB] at b;split
    .rename_i hx;subst hx;refine WE.weak[kbi (Avk s.K G.hK) l (by rfl':bootBuiltins "isinstance"=sr .builtin["isinstance"]) p d () () J0[b.1] Gu[b.2]] λσ H Q zz=>?_
     let(Y,S,Z,R,sl,q):=zz;refine(Y,S,Z,R,sl,(Bb.seq (Rel:=RVs s) q).mono ?_);rintro vs H1 ⟨Y1,S1,N,p1,t1,R1,O,q1⟩;exact Bpr G.isa R1 O q1
    split
    .rename_i g hbi;split
     .rename_i hc;exact Bpm G.hK G.calm[hc] hbi l p d J j J0[b.1] Gu[b.2]
     .exact Cr
    .split
     .rename_i g P;split
      .rename_i hc;exact Bpn G.hK G.calm[hc] P l p d J j J0[b.1] Gu[b.2]
      .exact Cr
     .exact Cr
   .exact Cr
 .rename_i o name ak;split
  .rename_i m;rw[aB] at m;let r:=hf.base _ _ _ rfl;split
   .exact Ats[λuu d=>nomatch d][Beo (λc i z=>G.mt c _ i z) G.ps r Aer[m.1] m.2]
   .rename_i a as;split
    .rename_i hl;let k:=b;rw[cP,aB] at k;refine Ats[λg d=>?_][Bjn (λc i z=>G.mt c _ i z) G.ps r p Aer[m.1] (Azl b dg[hl]) m.2 J0[k.1] Gu[k.2]];let((T,op),l,rfl):=bF.mp d;exact Bpp l r p Aer[m.1] (Azl b dg[hl]) m.2 J0[k.1] Gu[k.2]
    .exact Cr
  .exact Cr
 .exact Cr
def Aet(Γ:Gm)(f:cL)(args:lg cL)(ars:lg Rd)(kws:lg iQ)(d:De->M Src):De->M Src:=match f,kws with
 |.Name x _,[]=>if x="range"/\Γ.bi "range"=t8/\Γ.sc.names.lookup ("range":t6)=sr .globalImplicit/\args.all noStar=t8 then match args with
   |[_]=>Nm Hn vals[ars]
   |_=>Ea
  else d
 |_,_=>d
def Awa:cL->o9 t6
 |.Name x _=>sr x
 |_=>sy
def Wr(h:Awa e=sr x):∃p,e=.Name x p:=by
 cases e with
 |Name y p=>cases h;exact(p,rfl)
 |_=>cases h
def Bj2:cL->o9 (cL×lg cL×lg iQ×Pos)
 |.Call f a k p=>sr (u6 f u6[a][u6 k p])
 |_=>sy
def Atu{c:cL×lg cL×lg iQ×Pos}(h:Bj2 e=sr c):e=.Call c.1 c.2.1 c.2.2.1 c.2.2.2:=by
 cases e with
 |Call f a k p=>cases h;rfl
 |_=>cases h
def Bj3:cL->o9 Const
 |.Constant c _ _=>sr c
 |_=>sy
def Atv{c:Const}(h:Bj3 e=sr c):∃p q,e=.Constant c p q:=by
 cases e with
 |Constant c p q=>cases h;exact(p,q,rfl)
 |_=>cases h
def tk{α β:Type}(o:o9 α)(d:β)(f:α->β):β:=match o with
 |some a=>f a
 |none=>d
def J1{c b:Type}{P:b->Prop}{o:o9 c}{d:b}{f:c->b}(hd:P d)(hf:∀a,o=sr a->P f[a]):P[tk o d f]:=by
 cases o with
 |none=>exact hd
 |some a=>exact hf a rfl
def An7{d:Type}{P:d->Prop}{c:Prop}[Decidable c]{a b:d}(f:c->P a)(e:P b):P (if c then a else b):=by
 split
 .exact f ‹_›
 .exact e
def one{α:Type}:lg α->o9 α
 |[a]=>sr a
 |_=>sy
def Ab4{d:Type}{l:lg d}{a:d}(h:one l=sr a):l=[a]:=by
 cases l with
 |nil=>cases h
 |cons b l=>
  cases l with
  |nil=>cases h;rfl
  |cons c l=>cases h
def two{α:Type}:lg α->o9 (α×α)
 |[a,b]=>sr (u6 a b)
 |_=>sy
def Bj4{d:Type}{l:lg d}{a:d×d}(h:two l=sr a):l=[a.1,a.2]:=by
 cases l with
 |nil=>cases h
 |cons b l=>
  cases l with
  |nil=>cases h
  |cons c l=>
   cases l with
   |nil=>cases h;rfl
   |cons c l=>cases h
def Af7(Γ:Gm)(f:cL)(args:lg cL)(ars:lg Rd)(kws:lg iQ)(d:De->M Src):De->M Src:=tk Awa[f] d λx=>
 if kws=[] then tk two[args] d λa=>if x="zip"/\Γ.bi "zip"=t8/\Γ.sc.names.lookup ("zip":t6)=sr .globalImplicit/\noStar a.1=t8/\noStar a.2=t8 then Av8 vals[ars] else d
 else tk one[kws] d λk=>tk one[args] d λa=>tk one[ars] d λr=>if x="enumerate"/\k.arg=sr "start"/\Bj3 k.value=sr .int[1]/\Γ.bi "enumerate"=t8/\Γ.sc.names.lookup ("enumerate":t6)=sr .globalImplicit/\noStar a=t8 then Ay9 r.val else d
def An8{l:Nat}(G:J.Ok i X E)(D:Im i X E j A)(hd:WI[X][.Tuple c l b][.Call f j g e][tFi i E d]):WI[X][.Tuple c l b][.Call f j g e][tFi i E (Af7 J f j A g d)]:=by
 unfold Af7;refine J1 (P:=λm=>WI[X][.Tuple c l b][.Call f j g e][tFi i E m]) hd λx I=>?_;refine An7 (P:=λm=>WI[X][.Tuple c l b][.Call f j g e][tFi i E m]) (λu=>?_) ?_
 .refine J1 (P:=λm=>WI[X][.Tuple c l b][.Call f j g e][tFi i E m]) hd λa y=>?_;refine An7 (P:=λm=>WI[X][.Tuple c l b][.Call f j g e][tFi i E m]) (λh=>?_) hd;let(T,rfl):=Wr I;obtain rfl:=Bj4 y;let(rfl,t,n,o,B):=h;subst u;let n:X.env.kindOf "zip"=sr .globalImplicit:=by show X.env.scope.names.lookup _=_;rw[G.sc];exact n
  exact Bnb[G.hK][G.bi _ t][Mf D (by rw[cP,o,cP,B];rfl)][n][J0 o][Gu (by rw[cP,B];rfl)]
 .refine J1 (P:=λm=>WI[X][.Tuple c l b][.Call f j g e][tFi i E m]) hd λk u=>?_;refine J1 (P:=λm=>WI[X][.Tuple c l b][.Call f j g e][tFi i E m]) hd λa y=>?_;refine J1 (P:=λm=>WI[X][.Tuple c l b][.Call f j g e][tFi i E m]) hd λr U=>?_;refine An7 (P:=λm=>WI[X][.Tuple c l b][.Call f j g e][tFi i E m]) (λh=>?_) hd;let(T,rfl):=Wr I;obtain rfl:=Ab4 u;obtain rfl:=Ab4 y;obtain rfl:=Ab4 U;let(rfl,s,F,t,n,o):=h;let(ka,kv,kp):=k;dsimp only at s F;subst s;let(p,q,rfl):=Atv F;let n:X.env.kindOf "enumerate"=sr .globalImplicit:=by show X.env.scope.names.lookup _=_;rw[G.sc];exact n
  cases D with|cons s _=>
  refine WI.weak[⟨Bc7 n (G.bi _ t) s.val.un J0[o]⟩] λσ H Q L=>?_;let(Y,S,Z,R,N,q):=L;refine(Y,S,Z,R,N,(Bb.seq (Rel:=RV i) q).mono ?_);rintro v H1 ⟨Y1,S1,w,p1,t1,R1,O,C⟩;cases O with
  |str z=>exact(z,rfl,Bb.now (Rel:=Ad2 i) C R1 Aza[z])
  |_=>exact(show False from C).elim
def Af8(G:k.Ok c X E)(p:Im c X E i j)(hd:WI X l (.Call f i a b) (tFi c E d)):WI X l (.Call f i a b) tFi[c][E][Aet k f i j a d]:=by
 unfold Aet;split
 .split
  .rename_i h;let(rfl,o,g,e):=h;let n:=G.bi _ o;let g:X.env.kindOf "range"=sr .globalImplicit:=by show X.env.scope.names.lookup _=_;rw[G.sc];exact g
   let m:=Mf p e;split
   .rw[cP,aB] at e;exact Bi6 n m g J0[e.1]
   .exact Af5
  omega
 omega
def Azn(Γ:Gm)(f:cL)(args:lg cL)(ars:lg Rd)(kws:lg iQ)(d:De->M W):De->M W:=tk Awa[f] d λx=>tk one[args] d λc0=>tk Bj2[c0] d λc=>tk Awa[c.1] d λy=>tk one[ars] d λr=>
 if x="sorted"/\y="set"/\Γ.bi "sorted"=t8/\Γ.bi "set"=t8/\Γ.sc.names.lookup ("sorted":t6)=sr .globalImplicit/\Γ.sc.names.lookup ("set":t6)=sr .globalImplicit/\Γ.calm=t8/\c.2.1.all noStar=t8/\c.2.1≠[]/\kws=[]/\c.2.2.1=[] then Dm Jm r.sv else d
def Azo(G:s.Ok i X E)(u:Im i X E j l)(hd:WE[X][.Call f j e b][tF i E d]):WE X (.Call f j e b) tF[i][E][Azn s f j l e d]:=by
 unfold Azn;refine J1 (P:=λm=>WE[X][.Call f j e b][tF i E m]) hd λx C=>?_;refine J1 (P:=λm=>WE[X][.Call f j e b][tF i E m]) hd λJ F=>?_;refine J1 (P:=λm=>WE[X][.Call f j e b][tF i E m]) hd λc D=>?_;refine J1 (P:=λm=>WE[X][.Call f j e b][tF i E m]) hd λy B=>?_;refine J1 (P:=λm=>WE[X][.Call f j e b][tF i E m]) hd λr A=>?_;refine An7 (P:=λm=>WE[X][.Call f j e b][tF i E m]) (λh=>?_) hd;let(g,q,I,p):=c;let(H,rfl):=Wr C;obtain rfl:=Ab4 F;obtain rfl:=Atu D;let(pg,o):=Wr B;dsimp only at o;subst o;obtain rfl:=Ab4 A;let(rfl,rfl,b1,b2,z,w,t,k,ne,rfl,n):=h;dsimp only at n;subst n;cases q with
 |nil=>exact absurd rfl ne
 |cons a q=>
  cases u with|cons v _=>
  rw[cP,aB] at k;exact Bem G.calm[t] (G.bi _ b1) (G.bi _ b2) (by show X.env.scope.names.lookup _=_;rw[G.sc];exact z) (by show X.env.scope.names.lookup _=_;rw[G.sc];exact w) (v.sv _ _ _ _ rfl) J0[k.1] Gu[k.2]
def Azp(Γ:Gm)(f:cL)(fr:Rd)(args:lg cL)(ars:lg Rd)(kws:lg iQ)(cpos:Pos):Rd:=
 let v:=Azn Γ f args ars kws (Azk Γ f fr args ars kws cpos)
 (v,Dp v,Ea,Ea,Ea,Aet Γ f args ars kws Eo[v],Af7 Γ f args ars kws (Aet Γ f args ars kws Eo[v]),if args.all noStar then vals ars else Ea)
def Beu(G:k.Ok d X E)(hf:Nq d X E f l)(c:Im d X E j i):Nq d X E (.Call f j kws cpos) (Azp k f l j i kws cpos):=by
 let h:=Azo G c (Azm (kws:=kws) (cpos:=cpos) G hf c);let b:∀g,WI X g _ (tFi d E Eo[_]):=λg=>by exact Anu G.hK h
 exact(h,Ay4 h Atp[rfl],λa a a a=>Cr,λa a a a=>Tw,λa a a a=>Tw,λg=>Af8 G c b[g],λa a a=>An8 G c (Af8 G c b[_]),λa a a a e=>by
  cases e;dsimp only[Azp];split
  .rename_i z;exact Mf c z
  .exact Af6)
def Xq(Γ:Gm)(x:t6):o9 Nat:=if Aqy Γ.sc x&&(Γ.fnB||decide[Γ.sc.names.lookup x=sr .local]) then Ard x Γ.N else sy
def Aeu{i:Nat}(G:b.Ok d X E)(h:Xq b x=sr i):X.N[i]?=sr x/\Aqy X.env.scope x=t8/\(X.fn x||decide[X.env.scope.names.lookup x=sr .local])=t8:=by
 unfold Xq at h;split at h
 .rename_i a;rw[aB,eV] at a;refine(by rw[G.N];exact Aes h,by rw[G.sc];exact a.1,?_)
  rw[eV];rcases a.2 with z|z
  .exact .inl[G.fnB z x]
  .exact .inr (by rw[G.sc];omega)
 trivial
def slotsOf(Γ:Gm):lg cL->o9 lg[Nat]
 |[]=>sr []
 |.Name x _::es=>match Xq Γ x,slotsOf Γ es with
  |some i,sr is=>sr (i::is)
  |_,_=>sy
 |_::_=>sy
set_option tactic.hygienic true in
def Azq(G:g.Ok w X E){a:lg cL}:∀{is:lg Nat},slotsOf g a=sr is->PGs X a Afy[is]/\(assignEach a X.env).length=is.length/\(assignEach a X.env).findIdx? (·.1)=sy:=by
 induction a with
 |nil=>intro is h;cases h;exact(by
   intro A s f H y z Q I r h;let(e,h):=h;subst e;cases r;exact assignInOrder_nil (f,H,I,h),rfl,rfl)
 |cons e a p=>
  intro is h;unfold slotsOf at h;split at h
  .rename_i d;cases d
  .rename_i x np u d;cases d;split at h
   .rename_i i c t q;cases h;let(o,n,m):=p q;let(l,k,j):=Aeu G t;refine(Axo (Aye dj[G.nd] l k j).un o,?_,?_)
    .show (assignEach a X.env).length+1=c.length+1;rw[n]
    .show aCf (·.1) ((u6 t7 assign[.Name x np][X.env])::assignEach a X.env)=sy;rw[List.findIdx?_cons];simp only[jK,if_false,m,Option.map_none]
   .cases h
  .cases h
def tgt(Γ:Gm):cL->o9 Tg
 |.Name x _=>(Xq Γ x).map By
 |.Tuple es _ _=>if Γ.calm then (slotsOf Γ es).map Mw else sy
 |_=>sy
def tgG(K:aF)(Γ:Gm):cL->TG
 |.Name x _=>Aag ((Xq Γ x).getD 0)
 |.Tuple es _ _=>Blp K ((slotsOf Γ es).getD []).length Afy[(slotsOf Γ es).getD []]
 |_=>Aag 0
def Af9(G:f.Ok d X E)(h:tgt f g=sr s):WG X g (tgG d.K f g)/\GOk d s (tgG d.K f g):=by
 unfold tgt at h;split at h
 .let(i,c,rfl):=bF.mp h;let(t,q,p):=Aeu G c;simp only[tgG,c,zQ];exact(Aye dj[G.nd] t q p,Ant i)
 .split at h
  .rename_i F;let(is,c,rfl):=bF.mp h;let(y,x,w):=Azq G c;simp only[tgG,c,zQ];rw[<-G.hK];exact(⟨by
     intro m s k H v u Q I r j;let(a,n,L,C,D,j):=j;subst L;cases r;let(z,l,B,O):=I.tuple C;refine assign_Tuple_tuple I.ok.hd[G.calm[F]] B (by simp[x,<-D,l.length]) w λJ A=>?_
     let N:Inv X m k H { s with heap:=J }:=I.kept (t':=s.toks) λb o e=>A b o cB[bA[e]] e
     exact y m _ k H n _ Q N (by simpa using l) j⟩,Atg is rfl)
  .cases h
 .cases h
def An9(out sc:kJ):kJ:=
 { sc with names:=sc.names.map λ(n,k)=>if (k==.free&&out.kind==.function&&out.names.lookup n==sr .cell) then (u6 n .cell) else (u6 n k) }
def ownOf:cL->lg t6
 |.Name x _=>[x]
 |.Tuple es _ _=>es.filterMap λe=>match e with
  |.Name x _=>sr x
  |_=>sy
 |_=>[]
def Ac7(N:lg t6)(sc:kJ):lg Nat:=sc.names.filterMap λ(n,k)=>if k==.free then Ard n N else sy
def Gm.inner(Γ:Gm)(tg:cL)(sc:kJ):Gm:={ Γ with N:=ownOf tg ++ (Ac7 Γ.N sc).map (λj=>Γ.N.getD j ""),sc:=An9 Γ.sc sc,fnB:=false,rs:=false,loops:=false,tr:=false }
theorem Gm.Ok.inner{a:Gm}{scope:kJ}(G:a.Ok e X E)(nd:(a.inner b scope).N.Nodup)(C:aM)(s:aN)(H:Hp)(ex:lg aM):(a.inner b scope).Ok e (X.comp scope ownOf[b] (Ac7 a.N scope) C s H ex) E0s where
 hK:=G.hK
 hu:=G.hu
 N:=by
  show ownOf b ++ (Ac7 a.N scope).map (λj=>X.N.getD j "")=_;rw[G.N];rfl
 nd:=by
  show (ownOf b ++ (Ac7 a.N scope).map (λj=>X.N.getD j "")).Nodup;rw[G.N];exact nd
 sc:=by
  show relabel scope X.env=An9 a.sc scope;rw[<-G.sc];rfl
 fn:=λx g h=>G.fn x g h
 ps:=As5
 px:=λz=>nomatch z
 con:=G.con
 bi:=G.bi
 fld:=G.fld
 isa:=G.isa
 calm:=G.calm
 fnB:=λz=>by cases z
 mdc:=G.mdc
 mt:=λc m i h=>⟨(G.mt c m i h).ex⟩
 mkc:=λx c i h=>((G.mkc x c i h).1,⟨(G.mkc x c i h).2.ex⟩)
def Gm.Ok.innerX{a:Gm}{scope:kJ}{xe:aH->aN->Prop}{e:L2.St->XK}(G:a.Ok f X E)(nd:(a.inner b scope).N.Nodup)(C:aM)(s:aN)(H:Hp)(ex:lg aM)(ps:Dv[CXo X.prog X.w][X.compX scope ownOf[b] (Ac7 a.N scope) C s H ex xe][e]):(a.inner b scope).Ok f (X.compX scope ownOf[b] (Ac7 a.N scope) C s H ex xe) e:=(
 let I:=G.inner nd C s H ex
 (I.hK,I.hu,I.N,I.nd,I.sc,I.fn,ps,λz=>(nomatch z),I.con,I.bi,I.fld,I.isa,I.calm,I.fnB,I.mdc,λc m i h=>⟨(I.mt c m i h).ex⟩,λx c i h=>((I.mkc x c i h).1,⟨(I.mkc x c i h).2.ex⟩)))
def Atw:cL->Bool
 |.Call (.Attribute _ _ _) _ _ _=>t8
 |_=>t7
def Bg7:lg Rd->De->M Bool
 |[]=>λuu=>pure t8
 |[r]=>r.tst
 |_=>Ea
theorem Aga:∀{f:lg cL} {rs:lg Rd},Im g X E f rs->WTs X f (tFb g E Bg7[rs])
 |_,_,.nil=>⟨λe s d H Q I ⟨Y,S,Z,R,j,q⟩=>Bdb.un e s d H Q I (Bb.now (Rel:=λi i a b=>a=b) q R rfl)⟩
 |_,_,.cons h .nil=>⟨λe s d H Q I q=>wpAny_tests_one[h.tst.un e s d H Q I q]⟩
 |_,_,.cons _ (.cons _ _)=>⟨λ_ _ _ _ _ _ ⟨_,_,_,_,_,q⟩=>gU q⟩
def Azr(Γ:Gm)(tg iter:cL)(isa:Int)(sc:kJ):Bool:=
 decide[isa=0]&&Γ.calm&&Ai9 iter&&decide (Γ.inner tg sc).N.Nodup&&decide[sc.kind=.function]&&sc.names.all[λy=>decide[y.2≠.cell]]&&
 (Ac7 Γ.N sc).all (λj=>match Γ.N[j]? with|some x=>decide[sc.names.lookup x=sr .free]|none=>t7)&&
 sc.names.all[λy=>!decide (y.2=.local)||decide[sc.names.lookup y.1=sr .local]]&&
 sc.names.all[λy=>!decide (y.2=.free)||(decide[Γ.sc.names.lookup y.1=sr .cell]||decide[Γ.sc.names.lookup y.1=sr .free])]
def Alb(tg:cL)(r:Rd):De->M Src:=match tg with
 |.Tuple _ _ _=>r.srcT
 |_=>r.src
def Ws(h:Nq a X E e r):WI X b e tFi[a][E][Alb b r]:=by
 unfold Alb;split
 .exact h.srcT _ _ _
 .exact h.src _
def Aoa(Γ:Gm)(elt tg iter:cL)(isa:Int)(sc:kJ)(ri re:Rd)(rt:lg Rd):De->M W:=
 if Azr Γ tg iter isa sc then match tgt (Γ.inner tg sc) tg with
  |some s=>(if Γ.loops&&Atw elt then compX else Dn) (ownOf tg).length (Ac7 Γ.N sc) (Alb tg ri) s Bg7[rt] re.val
  |none=>Ea
 else Ea
def Alc{K:aF}{b:Gm}{s:Tg}(h:tgt b c=sr s):GOk d s (tgG K b c):=by
 unfold tgt at h;split at h
 .let(i,a,rfl):=bF.mp h;simp[tgG,a];exact Ant i
 .split at h
  .let(is,a,rfl):=bF.mp h;simp[tgG,a];exact Atg is rfl
  trivial
 trivial
set_option tactic.hygienic true in
def Azs{h:Gm}{a b:cL}{e:lg cL}{isa:Int}{scope:kJ}{m n:Rd}{rt:lg Rd}(G:h.Ok c X E)(hi:Nq c X E a m)(r:∀f d,(h.inner j scope).Ok c f d->Nq c f d b n)(o:∀f d,(h.inner j scope).Ok c f d->Im c f d e rt):
  WE X (.ListComp b [(j,a,e,isa)] scope z) tF[c][E][Aoa h b j a isa scope m n rt]:=by
 unfold Aoa;split
 .rename_i l;unfold Azr at l;simp only[aB] at l;let((((((((b1,b2),y),A),x),w),v),u),t):=l;obtain rfl:=dg b1;let nd:=dg A;split
  .rename_i s i;split
   .rename_i q;rw[aB] at q;exact Beh G.px[q.1] G.calm[b2] G.sc Ws[hi] (λC k H ex=>(Af9 (G.inner nd C k H ex) i).1) Alc[i] (λC s H ex=>Aga o[_][_][G.inner nd C s H ex]) (λC s H ex xe d p=>(r _ _ (G.innerX nd C s H ex p)).val) (by rw[G.N];exact v) dg[x] w u t Aeq[y]
   refine Bjc G.calm[b2] G.sc Ws[hi] (λC k H ex=>(Af9 (G.inner nd C k H ex) i).1) Alc[i] (λC s H ex=>Aga o[_][_][G.inner nd C s H ex]) (λC s H ex=>(r _ _ (G.inner nd C s H ex)).val) (by rw[G.N];exact v) dg[x] w u t Aeq[y]
  .exact Cr
 .exact Cr
end
def ifR(c a b:Rd):Rd:={ Rd.of[Jz c.tst a.val b.val] with tst:=Ea }
def atR(Γ:Gm)(o:cL)(f:t6)(r:Rd):Rd:={ Rd.of[Bj0 Γ o f r] with base:=r.val }
def Bj5(lo hi:o9 Rd)(st:o9 cL):Rd:=match st with
 |none=>{ Rd.no with lo:=Azj lo,hi:=Azj hi }
 |some _=>Rd.no
mutual
def ev:cL->Gm->Rd
 |.Constant c _ _,Γ=>Rd.of Aze[c]
 |.Name x _,Γ=>Rd.of (Azg Γ x)
 |.BinOp a op b _,Γ=>Rd.of Bjo[op][ev a Γ][ev b Γ]
 |.UnaryOp op a _,Γ=>unR op (ev a Γ)
 |.BoolOp op vs _,Γ=>Bg5 op (evs vs Γ)
 |.Compare a ops bs _,Γ=>Bjt ops bs (ev a Γ) (evs bs Γ)
 |.IfExp c a b _,Γ=>ifR (ev c Γ) (ev a Γ) (ev b Γ)
 |.Tuple es _ _,Γ=>Rd.of Bjv[es][evs es Γ]
 |.List es _,Γ=>Rd.of Bjw[es][evs es Γ]
 |.Dict ks vs _,Γ=>Rd.of Azi[Bj6 ks Γ][evs vs Γ]
 |.Call f args kws pos,Γ=>Azp Γ f (ev f Γ) args (evs args Γ) kws pos
 |.Attribute o f _,Γ=>atR Γ o f (ev o Γ)
 |.Subscript o i _,Γ=>Rd.of subV[Γ][o][i][ev o Γ][ev i Γ]
 |.Slice lo hi st _,Γ=>Bj5 (evo lo Γ) (evo hi Γ) st
 |.ListComp elt [⟨tg,iter,ifs,isa⟩] sc _,Γ=>Rd.of (Aoa Γ elt tg iter isa sc (ev iter Γ) ev[elt][Γ.inner tg sc] evs[ifs][Γ.inner tg sc])
 |_,_=>Rd.no
def evs:lg cL->Gm->lg Rd
 |[],_=>[]
 |e::es,Γ=>ev e Γ::evs es Γ
def evo:o9 cL->Gm->o9 Rd
 |none,_=>sy
 |some e,Γ=>sr[ev e Γ]
def Bj6:lg o9[cL]->Gm->lg o9[Rd]
 |[],_=>[]
 |e::es,Γ=>evo e Γ::Bj6 es Γ
end
section
mutual
theorem Gg:∀(e:cL)(d:Gm)(X:Cx)(E:L2.St->XK),d.Ok v X E->Nq v X E e (ev e d)
 |.Constant c _ _,d,X,E,G=>Qj G.hK Azf rfl
 |.Name x _,d,X,E,G=>Qj G.hK Bep[G] rfl
 |.BinOp a u b _,d,X,E,G=>Qj G.hK Bjp[G][Gg a d X E G][Gg b d X E G] rfl
 |.UnaryOp u a _,d,X,E,G=>Bnd G (Gg a d X E G)
 |.BoolOp u l _,d,X,E,G=>Beq G (Mz l d X E G)
 |.Compare a y bs _,d,X,E,G=>Bju G (Gg a d X E G) (Mz bs d X E G)
 |.IfExp c a b _,d,X,E,G=>Wq G.hK (Bpe (Gg c d X E G).tst (Gg a d X E G).val (Gg b d X E G).val) Are
 |.Tuple n _ _,d,X,E,G=>Qj G.hK Bjx[Mz n d X E G] rfl
 |.List n _,d,X,E,G=>Qj G.hK Bjy[Mz n d X E G] rfl
 |.Dict A l _,d,X,E,G=>Qj G.hK Ber[Ald A d X E G][Mz l d X E G] rfl
 |.Call f k z w,d,X,E,G=>Beu G (Gg f d X E G) (Mz k d X E G)
 |.Attribute o f _,d,X,E,G=>
  let h:=Gg o d X E G;let r:=Qj G.hK (Bj1 (f:=f) G h) rfl
  (r.val,r.tst,λg g g e=>by cases e;exact h.val,r.lo,r.hi,r.src,r.srcT,r.sv)
 |.Subscript o i _,d,X,E,G=>Qj G.hK Bjz[G][Gg o d X E G][Gg i d X E G] rfl
 |.Slice lo hi sy _,d,X,E,G=>(Cr,Are,λg g g g=>Cr,λg g g e=>by cases e;exact Azt lo d X E G,λg g g e=>by cases e;exact Azt hi d X E G,λg=>Af5,λg g g=>Af5,λg g g g g=>Af6)
 |.Slice _ _ (sr _) _,_,_,_,_=>Jr
 |.ListComp elt [⟨tg,iter,ifs,isa⟩] sc _,d,X,E,G=>Qj G.hK Azs[G][Gg iter d X E G][λq t s=>Gg elt _ q t s][λq t s=>Mz ifs _ q t s] rfl
 |.ListComp _ [] _ _,_,_,_,_=>Jr
 |.ListComp _ (⟨_,_,_,_⟩::_::_) _ _,_,_,_,_=>Jr
 |.NamedExpr _ _ _,_,_,_,_=>Jr
 |.Lambda _ _ _ _,_,_,_,_=>Jr
 |.Set _ _ _,_,_,_,_=>Jr
 |.SetComp _ _ _ _,_,_,_,_=>Jr
 |.DictComp _ _ _ _ _,_,_,_,_=>Jr
 |.GeneratorExp _ _ _ _,_,_,_,_=>Jr
 |.Await _ _,_,_,_,_=>Jr
 |.Yield _ _,_,_,_,_=>Jr
 |.YieldFrom _ _,_,_,_,_=>Jr
 |.FormattedValue _ _ _ _,_,_,_,_=>Jr
 |.JoinedStr _ _,_,_,_,_=>Jr
 |.Starred _ _,_,_,_,_=>Jr
theorem Mz:∀(b:lg cL)(a:Gm)(X:Cx)(E:L2.St->XK),a.Ok d X E->Im d X E b (evs b a)
 |[],_,_,_,_=>.nil
 |e::b,a,X,E,G=>.cons[Gg e a X E G][Mz b a X E G]
theorem Azt:∀(e:o9 cL)(a:Gm)(X:Cx)(E:L2.St->XK),a.Ok b X E->WO X e (tFo b E Azj[evo e a])
 |none,_,_,_,_=>Ayw
 |some e,a,X,E,G=>Bi0 (Gg e a X E G).val
theorem Ald:∀(b:lg o9[cL])(a:Gm)(X:Cx)(E:L2.St->XK),a.Ok d X E->Tz d X E b (Bj6 b a)
 |[],_,_,_,_=>.nil
 |none::b,a,X,E,G=>.none (Ald b a X E G)
 |some e::b,a,X,E,G=>.some[Gg e a X E G][Ald b a X E G]
end
end
structure Gm.SOk(Θ:Th)(Γ:Gm)(X:Cx)(E:L2.St->XK):Prop where
 g:Γ.Ok Θ X E
 hp:Γ.loops=t8->sZ (model X.prog X.w) X.A X.env X.xe
 hf:∀x,X.fn x=t8
 rs:Γ.rs=t8->∃E1,E=(λuu=>E1)/\Raises X E1/\Akw X E1/\X.ex=[]
 exi:Γ.rs=t8->∀x c dv,Γ.exi x=sr (u6 c dv)->∃f,Θ.xf c=sr f/\Bjh X (Θ.cl c) f dv.length/\X.mg x=sr (.ref (Θ.cl c))
 hcl:∀x k,Γ.hcl x=sr k->X.mg x=sr (.ref (Θ.cl k))
 exm:∀k c,Γ.exm k c=t8->iW Θ.K (.ref (Θ.cl c)) (.ref (Θ.cl k))=sr t8
 tr:Γ.tr=t8->X.stack=X.env::X.outer/\X.env.frame=sr X.env.locals
 exc:∀x c,Γ.exc x=sr c->Θ.xf c=sy/\Anf X.K (Θ.cl c)/\X.mg x=sr (.ref (Θ.cl c))
 pl:∀c,Θ.pl c=t8
def Kl:MS:=λuu uu=>.bad
section
def Bp{Θ:Th}{X:Cx}{E:L2.St->XK}{st:dI}:WS X st (tS Θ E Kl):=⟨λ_ _ _ _ _ _ ⟨_,_,_,_,_,q⟩=>gU q⟩
def Bev:WS X .Pass[pos] (tS Θ E Ay):=WS.weak ⟨λuu uu σ H uu I h=>wpAny_Pass (σ,H,I,h)⟩ λD σ H ⟨Y,S,Z,R,sl,q⟩=>q.nxt R sl
def Bg8(Γ:Gm)(sc:kJ)(vp:Pos)(x:t6)(p:Pos):Bool:=((if Γ.sc.kind.isAnnotationScope then .function else Γ.sc.kind)==.function)&&(Γ.sc.names.lookup x==sr .local)&&p.line==vp.line&&!(sc.names.any λ(n,k)=>n==x&&(k==.local||k==.cell))
def Azu{n:Nat}(G:b.Ok d X E):swapsWith (.ListComp elt gs sc vp) sr[.Name x p] n X.env=pure[Bg8 b sc vp x p]:=by
 show pure _=_;unfold Env.blockKind Env.kindOf;rw[G.sc];rfl
def Ale:cL->Bool
 |.ListComp e [_] _ _=>!Atw e
 |_=>t7
set_option tactic.hygienic true in
def Aob(h:Ale v=t8):∃b f a d isa sc e,v=.ListComp b [(f,a,d,isa)] sc e/\Atw b=t7:=by
 unfold Ale at h;split at h
 .rename_i b c sc e;let(f,a,d,isa):=c;exact(b,f,a,d,isa,sc,e,rfl,by simpa using h)
 trivial
def Bj7(Γ:Gm)(ts:lg cL)(v:cL)(rv:Rd):MS:=match ts with
 |[.Name x _]=>if Ala v||Ale v then match Xq Γ x with
   |some i=>Bg i rv.val
   |none=>Kl
  else Kl
 |[.Tuple es j p]=>match v,tgt Γ (.Tuple es j p) with
  |.Call _ _ _ _,sr t=>Tv t rv.val
  |_,_=>Kl
 |[.Subscript o i _]=>Af1 (ev o Γ).val (ev i Γ).val rv.val
 |[.Attribute o f _]=>Af0 Γ.fld f (ev o Γ).val rv.val
 |_=>Kl
def Aoc{Θ:Th}{X:Cx}{E:L2.St->XK}{st:dI}{i:Nat}:WS X st tS[Θ][E][Bg i Ea]:=⟨λ_ _ _ _ _ _ ⟨_,_,_,_,_,q⟩=>gU q⟩
set_option tactic.hygienic true in
def Bew{i:Nat}{isa:Int}(G:d.SOk l X E)(r:Atw b=t7)(hi:Xq d x=sr i)(h:swapsWith (.ListComp b [(e,a,c,isa)] scope m) sr[.Name x np] f.line X.env=pure t8):
  WS X .Assign[[.Name x np]][.ListComp b [(e,a,c,isa)] scope m][f] (tS l E Bg[i][Aoa d b e a isa scope (ev a d) ev[b][d.inner e scope] evs[c][d.inner e scope]]):=by
 let(p,o,n):=Aeu G.g hi;unfold Aoa;simp[r];split
 .rename_i j;unfold Azr at j;simp only[aB] at j;let((((((((b1,b2),A),z),y),w),v),u),t):=j;obtain rfl:=dg b1;let nd:=dg z;split
  .rename_i s k;exact Bel G.g.calm[b2] G.g.sc Ws[Gg a d X E G.g] (λC q H ex=>(Af9 (G.g.inner nd C q H ex) k).1) Alc[k] (λC s H ex=>Aga[Mz c _ _ _ (G.g.inner nd C s H ex)]) (λC s H ex=>(Gg b _ _ _ (G.g.inner nd C s H ex)).val) (by rw[G.g.N];exact v) dg[y] w u t Aeq[A]
    (Aye dj[G.g.nd] p o n) h
  .exact Aoc
 .exact Aoc
set_option tactic.hygienic true in
def Bex(G:a.SOk o X E):WS X (.Assign q v f) tS[o][E][Bj7 a q v (ev v a)]:=by
 let c:=Gg v a X E G.g;unfold Bj7;split
 .rename_i x np;split
  .rename_i l;split
   .rename_i i hi;let(k,j,w):=Aeu G.g hi;by_cases e:Ala v=t8
    .exact Ayz c.val dj[G.g.nd] k j Ato[e] G.hf[_]
    .rw[eV] at l;let(elt,r,b,h,isa,sc,vp,rfl,t):=Aob l.resolve_left[e];let d:=Azu (elt:=elt) (gs:=[(r,b,h,isa)]) (sc:=sc) (vp:=vp) (p:=np) (x:=x) (n:=f.line) G.g;cases m:Bg8 a sc vp x np with
     |false=>rw[m] at d;exact Ayz c.val dj[G.g.nd] k j d G.hf[_]
     |true=>rw[m] at d;exact Bew G t hi d
   .exact Bp
  .exact Bp
 .split
  .rename_i s;let(e,u):=Af9 G.g s;exact Bja c.val e u rfl rfl rfl
  .exact Bp
 .exact Beg G.g.hu (Gg _ a X E G.g).val (Gg _ a X E G.g).val c.val (by cases v <;> rfl)
 .exact Bi9 G.g.hK G.g.fld (Gg _ a X E G.g).val c.val (by cases v <;> rfl)
 .exact Bp
def Bj8(Γ:Gm)(tg iter:cL)(b:MS):MS:=if Γ.calm&&Ai9 iter&&Γ.loops then match tgt Γ tg with
  |some s=>Sx Alb[tg][ev iter Γ] s b
  |none=>Kl
 else Kl
set_option tactic.hygienic true in
def Bey(G:e.SOk d X E)(j:WSs X body (tS d E b)):WS X (.For f a body [] h) tS[d][E][Bj8 e f a b]:=by
 unfold Bj8;split
 .rename_i c;rw[aB,aB] at c;split
  .rename_i s i;let(w,k):=Af9 G.g i;exact Bi5 G.hp[c.2] G.g.hK G.g.calm[c.1.1] Ws[Gg _ e X E G.g] w k j Aeq[c.1.2]
  .exact Bp
 .exact Bp
def Arf(Γ:Gm)(x:t6)(args:lg cL):MS:=if Γ.rs&&Γ.calm&&!(x==("__debug__":t6))&&decide[Γ.sc.names.lookup x=sr .globalImplicit]&&args.all noStar then match Γ.exc x with
  |some c=>Rh c vals[evs args Γ]
  |none=>match Γ.exi x with
   |some (c,dv)=>N5 c dv vals[evs args Γ]
   |none=>Kl
 else Kl
set_option tactic.hygienic true in
def Awb(G:l.SOk t X E):WS X (.Raise sr[.Call (.Name x np) (a::w) [] p] sy u) tS[t][E][Arf l x (a::w)]:=by
 unfold Arf;split
 .rename_i o;simp only[aB] at o;let((((s,r),q),y),b):=o;let(z,rfl,v,k,j):=G.rs s;let m:=Mf (Mz _ l X _ G.g) b;rw[cP,aB] at b;let n:X.env.kindOf x=sr .globalImplicit:=by show X.env.scope.names.lookup x=_;rw[G.g.sc];exact dg y
  split
  .rename_i c i;let(h,e,d):=G.exc x c i;exact Ay5 h e d G.g.calm[r] v m n (by simpa using q) J0[b.1] Gu[b.2]
  .split
   .rename_i c dv i;let(f,h,e,d):=G.exi s x c dv i;exact Av5 h j e d G.g.calm[r] k m n (by simpa using q) J0[b.1] Gu[b.2]
   .exact Bp
 .exact Bp
end
def Arh(Γ:Gm)(exc cause:o9 cL):MS:=match exc,cause with
 |some (.Call (.Name x _) (a::es) [] _),sy=>Arf Γ x (a::es)
 |_,_=>Kl
def Awc(G:b.SOk a X E):WS X (.Raise exc cause c) tS[a][E][Arh b exc cause]:=by
 unfold Arh;split
 .exact Awb G
 .exact Bp
def Bpt(Γ:Gm):o9 cL->MS
 |some e=>retS (ev e Γ).val
 |none=>Kl
def Azv(m:MS):lg dI->MS
 |[]=>m
 |_::_=>Kl
def Ari(Γ:Gm)(c:De->M Bool)(b:MS):MS:=if Γ.loops then Mv c b Γ.fuel else Kl
def Gm.inTry(Γ:Gm):Gm:={ Γ with rs:=false,loops:=false,tr:=false }
def Gm.inSuite(Γ:Gm):Gm:={ Γ with rs:=false,loops:=false,tr:=false,calm:=false,fn:=λuu=>sy,mt:=λuu uu=>sy,mkc:=λuu=>sy }
theorem Gm.SOk.inTry{a:Th}{X:Cx}{E e:L2.St->XK}{b:Gm}{pn:lg[aM×tu]}{xe:aH->aN->Prop}(G:b.SOk a X E)(hp:Dv[CXo X.prog X.w][X.tryB pn xe][e]):b.inTry.SOk a (X.tryB pn xe) e where
 g:={ hK:=G.g.hK,hu:=G.g.hu,N:=G.g.N,nd:=G.g.nd,sc:=G.g.sc,fn:=G.g.fn,ps:=hp,px:=λz=>(nomatch z),con:=G.g.con,bi:=G.g.bi,fld:=G.g.fld,isa:=G.g.isa,calm:=G.g.calm,fnB:=G.g.fnB,mdc:=G.g.mdc,mt:=λc m i h=>⟨(G.g.mt c m i h).ex⟩,mkc:=λx c i h=>((G.g.mkc x c i h).1,⟨(G.g.mkc x c i h).2.ex⟩) }
 hp:=λz=>by cases z
 hf:=G.hf
 rs:=λz=>by cases z
 exi:=λz=>by cases z
 hcl:=G.hcl
 exm:=G.exm
 tr:=λz=>by cases z
 exc:=G.exc
 pl:=G.pl
theorem Gm.SOk.inSuite{b:Th}{X:Cx}{E:L2.St->XK}{c:Gm}(G:c.SOk b X E)(e:aM):c.inSuite.SOk b X.suite[e] E0s where
 g:={ hK:=G.g.hK,hu:=G.g.hu,N:=G.g.N,nd:=G.g.nd,sc:=G.g.sc,fn:=λa a z=>(nomatch z),ps:=As5,px:=λz=>(nomatch z),con:=G.g.con,bi:=G.g.bi,fld:=G.g.fld,isa:=G.g.isa,calm:=λz=>(nomatch z),fnB:=G.g.fnB,mdc:=G.g.mdc,mt:=λa a a z=>(nomatch z),mkc:=λa a a z=>(nomatch z) }
 hp:=λz=>by cases z
 hf:=G.hf
 rs:=λz=>by cases z
 exi:=λz=>by cases z
 hcl:=G.hcl
 exm:=G.exm
 tr:=λz=>by cases z
 exc:=G.exc
 pl:=G.pl
def Bj9(Γ:Gm)(t:cL)(n:t6)(b su:MS)(ss:lg dI):MS:=match t with
 |.Name x _=>if Γ.tr&&!(x==("__debug__":t6))&&decide[Γ.sc.names.lookup x=sr .globalImplicit]&&decide[Γ.sc.names.lookup n=sr .local]&&!ss.isEmpty then
  match Γ.hcl x,Ard n Γ.N with
  |some k,sr i=>Av6 Γ.exm[k] i b su
  |_,_=>Kl
  else Kl
 |_=>Kl
set_option tactic.hygienic true in
def Bez(G:m.SOk d X E)(v:∀(pn:lg[aM×tu])(xe:aH->aN->Prop)(l:L2.St->XK),Dv[CXo X.prog X.w][X.tryB pn xe][l]->WSs[X.tryB pn xe][body][tS d l b])(s:∀e,WSs X.suite[e] a (tS d E0s q)):
  WS X (.Try body [.ExceptHandler sr[t] sr[n] a f] [] [] r) tS[d][E][Bj9 m t n b q a]:=by
 unfold Bj9;split
 .split
  rotate_left
  .exact Bp
  rename_i x np h;simp only[aB] at h;let((((C,B),A),y),F):=h;let(p,o):=G.tr C;split
  .rename_i k i u hi;cases a with
   |nil=>trivial
   |cons H a=>exact Bji G.g.hK p o G.g.nd (G.hcl _ k u) (λc z=>G.exm k c z) v s (by rw[G.g.N];exact Aes hi) (by rw[G.g.sc];exact dg y) (by show X.env.scope.names.lookup _=_;rw[G.g.sc];exact dg A) (by simpa using B)
  .exact Bp
 .exact Bp
def Bnf:dI->o9 (o9 cL×o9 cL×Pos)
 |.Raise e c p=>sr u6[e][u6 c p]
 |_=>sy
def Be0{s:dI}{c:o9 cL×o9 cL×Pos}(h:Bnf s=sr c):s=.Raise c.1 c.2.1 c.2.2:=by
 cases s with
 |Raise e c p=>cases h;rfl
 |_=>cases h
def Bka(Γ:Gm)(t:cL)(ss:lg dI)(b:MS):MS:=tk Awa[t] Kl λx=>tk one[ss] Kl λst=>tk Bnf[st] Kl λr=>tk r.1 Kl λe0=>tk r.2.1 Kl λe1=>tk Bj2[e0] Kl λc=>tk Awa[c.1] Kl λy=>tk Γ.exc[x] Kl λk=>tk Γ.exi[y] Kl λc2=>
 if (Γ.tr&&Γ.loops&&Γ.rs&&!(x==("__debug__":t6))&&!(y==("__debug__":t6))&&decide[Γ.sc.names.lookup x=sr .globalImplicit]&&decide[Γ.sc.names.lookup y=sr .globalImplicit]&&c.2.1.all noStar&&!c.2.1.isEmpty&&c.2.2.1.isEmpty&&decide[Bj3 e1=sr .none]&&c2.2.isEmpty)=t8 then Ak9 (λc=>c==k&&Γ.exm k c) c2.1 vals[evs c.2.1 Γ.inSuite] b else Kl
def Be1{i:Th}{X:Cx}{E:L2.St->XK}{q:Gm}{t:cL}{b:MS}{body j:lg dI}{e h:Pos}(G:q.SOk i X E)(Y:∀(pn:lg[aM×tu])(xe:aH->aN->Prop)(C:L2.St->XK),Dv[CXo X.prog X.w][X.tryB pn xe][C]->WSs[X.tryB pn xe][body][tS i C b]):
  WS X (.Try body [.ExceptHandler sr[t] sy j e] [] [] h) tS[i][E][Bka q t j b]:=by
 unfold Bka;refine J1 (P:=λm=>WS[X][.Try body [.ExceptHandler sr[t] sy j e] [] [] h][tS i E m]) Bp λx ex=>?_;refine J1 (P:=λm=>WS[X][.Try body [.ExceptHandler sr[t] sy j e] [] [] h][tS i E m]) Bp λst es=>?_;refine J1 (P:=λm=>WS[X][.Try body [.ExceptHandler sr[t] sy j e] [] [] h][tS i E m]) Bp λr er=>?_;refine J1 (P:=λm=>WS[X][.Try body [.ExceptHandler sr[t] sy j e] [] [] h][tS i E m]) Bp λe0 h0=>?_;refine J1 (P:=λm=>WS[X][.Try body [.ExceptHandler sr[t] sy j e] [] [] h][tS i E m]) Bp λe1 Z=>?_;refine J1 (P:=λm=>WS[X][.Try body [.ExceptHandler sr[t] sy j e] [] [] h][tS i E m]) Bp λc ec=>?_;refine J1 (P:=λm=>WS[X][.Try body [.ExceptHandler sr[t] sy j e] [] [] h][tS i E m]) Bp λy ey=>?_;refine J1 (P:=λm=>WS[X][.Try body [.ExceptHandler sr[t] sy j e] [] [] h][tS i E m]) Bp λk U=>?_;refine J1 (P:=λm=>WS[X][.Try body [.ExceptHandler sr[t] sy j e] [] [] h][tS i E m]) Bp λc2 S=>?_;refine An7 (P:=λm=>WS[X][.Try body [.ExceptHandler sr[t] sy j e] [] [] h][tS i E m]) (λv=>?_) Bp;simp only[aB] at v;let(((((((((((c1,s),c3),c4),c5),c6),c7),o),c9),ca),cb),cc):=v;let(g,B,u,p):=c;let(r1,r2,r3):=r;let(d,l):=c2;dsimp only at *
 subst h0 Z;let(px,rfl):=Wr ex;obtain rfl:=Ab4 es;obtain rfl:=Be0 er;obtain rfl:=Atu ec;let(py,rfl):=Wr ey;let(q1,q2,rfl):=Atv dg[cb];cases u with
 |cons k u=>cases ca
 |nil=>
  cases B with
  |nil=>cases c9
  |cons a B=>
   cases l with
   |cons w l=>cases cc
   |nil=>
    let(J,x2,I):=G.exc _ k U;let(f,H,F,D):=G.exi c3 _ _ _ S;let(Q,O,N,L):=G.g.px s;let T:=λA=>Mf (Mz _ q.inSuite X.suite[A] E0s (G.inSuite A).g) o;rw[cP,aB] at o;refine Bei G.g.hK Q O N L I (λc z=>?_) Y (by show X.env.scope.names.lookup _=_;rw[G.g.sc];exact dg c6) (by simpa using c4) H F D (by show X.env.scope.names.lookup _=_;rw[G.g.sc];exact dg c7) (by simpa using c5) T J0[o.1] Gu[o.2]
    rw[aB] at z;obtain rfl:c=k:=by simpa using z.1
    exact(G.exm _ _ z.2,J,G.pl _)
def Azw(Γ:Gm)(e:cL):MS:=if Ala e then Tu (ev e Γ).val else Kl
mutual
def evS:dI->Gm->MS
 |.Return e _,Γ=>Bpt Γ e
 |.Assign ts v _,Γ=>Bj7 Γ ts v (ev v Γ)
 |.If c A B _,Γ=>ifS (ev c Γ).tst (Cw A Γ) (Cw B Γ)
 |.While c b els _,Γ=>Azv Ari[Γ][(ev c Γ).tst][Cw b Γ] els
 |.Try body [.ExceptHandler (sr t) (sr n) ss _] [] [] _,Γ=>Bj9 Γ t n (Cw body Γ.inTry) (Cw ss Γ.inSuite) ss
 |.Try body [.ExceptHandler (sr t) sy ss _] [] [] _,Γ=>Bka Γ t ss (Cw body Γ.inTry)
 |.For tg it b els _,Γ=>Azv (Bj8 Γ tg it (Cw b Γ)) els
 |.Expr e _,Γ=>Azw Γ e
 |.Raise exc cause _,Γ=>Arh Γ exc cause
 |.Pass _,_=>Ay
 |_,_=>Kl
def Cw:lg dI->Gm->MS
 |[],_=>Ay
 |s::ss,Γ=>Am[evS s Γ][Cw ss Γ]
end
section
mutual
theorem Bkb:∀(st:dI)(a:Gm)(X:Cx)(E:L2.St->XK),a.SOk d X E->WS X st tS[d][E][evS st a]
 |.Return (sr e) _,a,X,E,G=>Bi3 (Gg e a X E G.g).val
 |.Return sy _,_,_,_,_=>Bp
 |.Assign j v _,a,X,E,G=>Bex G
 |.If c A B _,a,X,E,G=>Bm6 (Gg c a X E G.g).tst (Mg A a X E G) (Mg B a X E G)
 |.While c b [] _,a,X,E,G=>by
  show WS X _ (tS d E Ari[a][(ev c a).tst][Cw b a]);unfold Ari;split
  .rename_i h;exact Ay0 _ G.hp[h] (Gg c a X E G.g).tst (Mg b a X E G)
  .exact Bp
 |.While _ _ (_::_) _,_,_,_,_=>Bp
 |.For k l b [] _,a,X,E,G=>Bey G (Mg b a X E G)
 |.For _ _ _ (_::_) _,_,_,_,_=>Bp
 |.Expr e _,a,X,E,G=>by
  show WS X _ tS[d][E][Azw a e];unfold Azw;split
  .rename_i h;exact Bd1 (Gg e a X E G.g).val Ato[h]
  .exact Bp
 |.Raise exc cause _,a,X,E,G=>Awc G
 |.Pass _,_,_,_,_=>Bev
 |.Break _,_,_,_,_=>Bp
 |.Continue _,_,_,_,_=>Bp
 |.FunctionDef _ _ _ _ _ _ _ _ _ _,_,_,_,_=>Bp
 |.AsyncFunctionDef _ _ _ _ _ _ _ _ _ _,_,_,_,_=>Bp
 |.ClassDef _ _ _ _ _ _ _ _ _ _ _,_,_,_,_=>Bp
 |.Delete _ _,_,_,_,_=>Bp
 |.TypeAlias _ _ _ _ _ _ _,_,_,_,_=>Bp
 |.AugAssign _ _ _ _,_,_,_,_=>Bp
 |.AnnAssign _ _ _ _ _,_,_,_,_=>Bp
 |.AsyncFor _ _ _ _ _,_,_,_,_=>Bp
 |.With _ _ _,_,_,_,_=>Bp
 |.AsyncWith _ _ _,_,_,_,_=>Bp
 |.Match _ _ _,_,_,_,_=>Bp
 |.Try body [.ExceptHandler (sr t) (sr n) f _] [] [] _,a,X,E,G=>Bez G (λpn xe i hp=>Mg body _ _ _ G.inTry[hp]) λe=>Mg f _ _ _ G.inSuite[e]
 |.Try _ [] _ _ _,_,_,_,_=>Bp
 |.Try _ (.ExceptHandler sy _ _ _::_::_) _ _ _,_,_,_,_=>Bp
 |.Try _ (.ExceptHandler (sr _) sy _ _::_::_) _ _ _,_,_,_,_=>Bp
 |.Try _ (.ExceptHandler (sr _) (sr _) _ _::_::_) _ _ _,_,_,_,_=>Bp
 |.Try _ [.ExceptHandler sy _ _ _] _ _ _,_,_,_,_=>Bp
 |.Try body [.ExceptHandler (sr _) sy _ _] [] [] _,a,X,E,G=>Be1 G λpn xe i hp=>Mg body _ _ _ G.inTry[hp]
 |.Try _ [.ExceptHandler (sr _) sy _ _] (_::_) _ _,_,_,_,_=>Bp
 |.Try _ [.ExceptHandler (sr _) sy _ _] [] (_::_) _,_,_,_,_=>Bp
 |.Try _ [.ExceptHandler (sr _) (sr _) _ _] (_::_) _ _,_,_,_,_=>Bp
 |.Try _ [.ExceptHandler (sr _) (sr _) _ _] [] (_::_) _,_,_,_,_=>Bp
 |.TryStar _ _ _ _ _,_,_,_,_=>Bp
 |.Assert _ _ _,_,_,_,_=>Bp
 |.Import _ _,_,_,_,_=>Bp
 |.ImportFrom _ _ _ _,_,_,_,_=>Bp
 |.Global _ _,_,_,_,_=>Bp
 |.Nonlocal _ _,_,_,_,_=>Bp
theorem Mg:∀(b:lg dI)(a:Gm)(X:Cx)(E:L2.St->XK),a.SOk d X E->WSs X b tS[d][E][Cw b a]
 |[],_,_,_,_=>Bi2
 |s::e,a,X,E,G=>Bd0[Bkb s a X E G][Mg e a X E G]
end
end
structure Md where
 con:t6->Option W
 bi:t6->Bool
 exc:t6->Option Nat
 isa:Nat->W->Option Bool
 fld:Bool->Nat->t6->Bool
 fuel:Nat
 mdc:t6->Option (List (t6×t6))
 exi:t6->Option (Nat×List W)
 hcl:t6->Option Nat
 exm:Nat->Nat->Bool
 mn:t6->Bool:=λuu=>t7
 mkl:t6->Option Nat:=λuu=>sy
def Md.gm(m:Md)(T:lg[t6×Fi])(N:lg t6)(sc:kJ)(U:lg[(Nat×t6)×Fi]:=[]):Gm:=
 { N:=N,sc:=sc,fn:=λx=>T.lookup x,con:=m.con,bi:=m.bi,exc:=m.exc,isa:=m.isa,fld:=m.fld,fuel:=m.fuel,calm:=true,fnB:=true,rs:=true,mdc:=m.mdc,exi:=m.exi,hcl:=m.hcl,exm:=m.exm,loops:=true,tr:=true,mt:=λc n=>U.lookup[u6 c n],mn:=m.mn,mkc:=λx=>(m.mkl x).bind λc=>(U.lookup[u6 c ("__init__":t6)]).map λi=>(u6 c i) }
structure Md.Ok(Θ:Th)(m:Md)(K:aF)(mg:t6->Option aH):Prop where
 hK:K=Θ.K
 con:∀x w,m.con x=sr w->∃v u,(∀Y H,RV Θ Y H w v)/\RelV v u/\(mg x=sr u\/(mg x=sy/\bootBuiltins x=sr u))
 bi:∀x,m.bi x=t8->mg x=sy
 fld:FOk Θ m.fld
 isa:Atk Θ m.isa
 exc:∀x c,m.exc x=sr c->Θ.xf c=sy/\Anf K (Θ.cl c)/\mg x=sr (.ref (Θ.cl c))
 mdc:∀x D,m.mdc x=sr D->∃a,Av9 K a D/\mg x=sr (.ref a)
 hcl:∀x k,m.hcl x=sr k->mg x=sr (.ref (Θ.cl k))
 exm:∀k c,m.exm k c=t8->iW Θ.K (.ref (Θ.cl c)) (.ref (Θ.cl k))=sr t8
 pl:∀c,Θ.pl c=t8:=by exact λuu=>rfl
 mkl:∀x c,m.mkl x=sr c->mg x=sr (.ref (Θ.cl c))/\nG K (Θ.cl c)=t8/\dD K (.ref (Θ.cl c))=t8
def XiT(Θ:Th)(m:Md)(P:cJ)(w:dZ)(K:aF)(mg:t6->o9 aH)(base:eE)(k:Nat):Prop:=
 ∀x c dv,m.exi x=sr[u6 c dv]->∃f,Θ.xf c=sr f/\mg x=sr .ref[Θ.cl[c]]/\∃(fI:aM)(fd:eX)(ps:lg t6)(dvs:lg V)(ds:lg aH),Afu K Θ.cl[c] fI=t8/\dD K .ref[Θ.cl[c]]=t8/\iV K .ref[fI]=sr .type["function"]/\
  (∀cm,Ib P w K mg base (CXo P w) k fI fd ps (Akv Θ.cl[c] f) cm)/\Binds K fd ps ds/\Vals dvs ds/\dvs.length=dv.length
def Tbl(Θ:Th)(P:cJ)(w:dZ)(K:aF)(mg:t6->o9 aH)(base:eE)(k:Nat)(T:lg[t6×Fi]):Prop:=
 ∀x i,T.lookup x=sr i->∃(fa:aM)(fd:eX)(ps:lg t6)(df:dI),Xa K mg x df ps fa fd/\Ib P w K mg base (CXo P w) k fa fd ps (spF Θ i.g) t8/\∃dvs ds,Ds D.G8 i.dv=sr dvs/\Vals dvs ds/\Binds K fd ps ds
def MTb(Θ:Th)(P:cJ)(w:dZ)(K:aF)(mg:t6->o9 aH)(base:eE)(k:Nat)(U:lg[(Nat×t6)×Fi]):Prop:=
 ∀c n i,U.lookup[u6 c n]=sr i->∃(fa:aM)(fd:eX)(ps:lg t6),Cls K Θ.cl[c]/\Meth K Θ.cl[c] n fa/\Ib P w K mg base (CXo P w) k fa fd ps (spF Θ i.g) t8/\Binds K fd ps []/\∃dvs ds,Ds D.G8 i.dv=sr dvs/\Vals dvs ds/\Binds K fd ps ds
section
variable{Θ:Th}{P:cJ}{w:dZ}{K:aF}{mg:t6->o9 aH}{base:eE}{m:Md}{T:lg (t6×Fi)}{U:lg ((Nat×t6)×Fi)}{k j:Nat}
def Tbl.nil:Tbl Θ P w K mg base k []:=(λx i h=>by cases h)
def MTb.nil:MTb Θ P w K mg base k []:=(λc n i h=>by cases h)
theorem Tbl.body(hT:Tbl Θ P w K mg base k T)(S:MTb Θ P w K mg base k U)(hI:XiT Θ m P w K mg base j)(hj:j < k)(M:m.Ok Θ K mg)(nd:N.Nodup)(d:Ho (k+1) A.deeper[envOfC Y sc s.heap.objs.size f r] t8):
  (m.gm T N sc U).SOk Θ (Abu (CXo P w) P w K mg base N Y sc f r A outer s H E t8) (λa=>E) where
 g:={
  hK:=M.hK
  hu:=by have:=d.un;show (A.deeper[envOfC Y sc s.heap.objs.size f r]).units+64 < cLine;omega
  N:=rfl
  nd:=nd
  sc:=rfl
  fn:=λx i h=>by
   let(p,fd,ps,df,D,F,z):=hT x i h;exact(k,p,fd,ps,df,t8,D,F,d.mono gZ[k],z)
  ps:=by
    intro Z Q H s e s' I h;let(ea,cls,H',o,rfl,F,ox,q):=h;exact I.fly_on rfl rfl rfl F ox λl F' B=>(ea,cls,H',o,rfl,F',B,q)
  px:=λa=>(rfl,rfl,rfl,Ax7)
  con:=M.con
  bi:=M.bi
  fld:=M.fld
  isa:=M.isa
  calm:=λa=>rfl
  fnB:=λa a=>rfl
  mdc:=M.mdc
  mt:=λc n i h=>by
   let(p,fd,ps,C,t,F,z):=S c n i h;exact(k,p,fd,ps,t8,C,t,F,d.mono gZ[k],z)
  mkc:=λx c i h=>by
   let(c',J,G):=tL.mp h;let(i',h3,h4):=bF.mp G;cases h4;let(y,v,u):=M.mkl x c J;let(p,fd,ps,C,t,F,z):=S c _ i h3;exact(y,k,p,fd,ps,t8,(v,t.at_,t.fn,u),F,d,z) }
 hp:=λa=>Av4
 hf:=λa=>rfl
 rs:=λa=>(E,rfl,λZ Q H s e cls X h' n I hx q=>I.fly_made rfl rfl rfl hx λl F O=>(e,cls,H,_,rfl,F,O.ok,q),λZ Q H s e C od I h0 he q=>I.fly_held rfl rfl rfl h0 he λl F O=>(e,.ref C,Aal H e,_,rfl,F,O.ok,q _ (λb hb=>Fg hb) Mu),rfl)
 exi:=λa x c dv h=>by
  let(f,J,G,fI,fd,ps,L,ds,y,v,u,F,q5,q6,q7):=hI x c dv h;exact(f,J,(fI,fd,ps,j,L,ds,y,v,u,F,d.mono (),q5,q6,q7),G)
 hcl:=M.hcl
 exm:=M.exm
 tr:=λa=>(rfl,rfl)
 exc:=M.exc
 pl:=M.pl
def Tbl.up(a:Tbl Θ P w K mg base k T):Tbl Θ P w K mg base (k+2) T:=(λx i h=>by
 let(b,fd,ps,c,D,F,z):=a x i h;exact(b,fd,ps,c,D,F.mono[by simp],z))
def MTb.up(b:MTb Θ P w K mg base k U):MTb Θ P w K mg base (k+2) U:=(λc n i h=>by
 let(d,fd,ps,C,a,F,z):=b c n i h;exact(d,fd,ps,C,a,F.mono[by simp],z))
def Tbl.fnM{h g:t6}{st:dI}{N ps:lg t6}{f:aM}{fd:eX}{b:MS}(o:Tbl Θ P w K mg base k T)(n:MTb Θ P w K mg base k U)(p:XiT Θ m P w K mg base j)(l:j < k)(M:m.Ok Θ K mg)(F:Fun K h g st f fd)(c:Gs N ps Ak[st])(e:Cw[Ao st][m.gm T N Ak[st] U]=b):Ib P w K mg base (CXo P w) (k+2) f fd ps spF[Θ][Cp ps.length N.length b] t8:=by
 refine Bm8 F c λq A outer s H E i=>?_;rw[<-e];exact Mg _ _ _ _ (o.body n p l M c.nd i)
def Tbl.fn{x:t6}{st:dI}{N ps:lg t6}{f:aM}{fd:eX}{b:MS}(hT:Tbl Θ P w K mg base k T)(hU:MTb Θ P w K mg base k U)(hI:XiT Θ m P w K mg base j)(hj:j < k)(M:m.Ok Θ K mg)(D:Xa K mg x st ps f fd)(Sc:Gs N ps Ak[st])(e:Cw[Ao st][m.gm T N Ak[st] U]=b):Ib P w K mg base (CXo P w) (k+2) f fd ps spF[Θ][Cp ps.length N.length b] t8:=hT.fnM hU hI hj M D.fn Sc e
def Tbl.cons{x:t6}{st:dI}{N ps:lg t6}{f:aM}{fd:eX}{b:MS}{dv:lg W}{c:lg V}{g:lg aH}(n:Tbl Θ P w K mg base k T)(r:MTb Θ P w K mg base k U)(s:XiT Θ m P w K mg base j)(p:j < k)(M:m.Ok Θ K mg)(D:Xa K mg x st ps f fd)(t:Gs N ps Ak[st])(o:Ds _root_.D.G8 dv=sr c)(hd:Vals c g)(q:Binds K fd ps g)(e:Cw[Ao st][m.gm T N Ak[st] U]=b):Tbl Θ P w K mg base (k+2) ((u6 x (Cp ps.length N.length b,ps.length,dv))::T):=(λy i h=>by
 rw[eF] at h;split at h
 .rename_i d;let d:=by simpa using d
  subst d;cases h;exact(f,fd,ps,st,D,n.fn r s p M D t e,c,g,o,hd,q)
 .exact n.up y i h)
def MTb.cons{c:Nat}{n u t:t6}{st:dI}{N ps:lg t6}{f:aM}{fd:eX}{b:MS}{dv:lg W}{d:lg V}{o:lg aH}(r:MTb Θ P w K mg base k U)(A:Tbl Θ P w K mg base k T)(B:XiT Θ m P w K mg base j)(y:j < k)(M:m.Ok Θ K mg)(C:Cls K Θ.cl[c])(x:Meth K Θ.cl[c] n f)(F:Fun K u t st f fd)(E:Gs N ps Ak[st])(g:Binds K fd ps [])(v:Ds _root_.D.G8 dv=sr d)(hd:Vals d o)(z:Binds K fd ps o)(e:Cw[Ao st][m.gm T N Ak[st] U]=b):MTb Θ P w K mg base (k+2) ((u6 (u6 c n) (Cp ps.length N.length b,ps.length,dv))::U):=(λs q i h=>by
 rw[eF] at h;split at h
 .rename_i l;let l:(u6 s q)=(u6 c n):=by simpa using l
  cases l;cases h;exact(f,fd,ps,C,x,A.fnM r B y M F E e,g,d,o,v,hd,z)
 .exact r.up s q i h)
end
def Azx(K:aF)(cl:Nat->aM)(xf:Nat->o9 t6):Th:=(K,cl,xf,λuu=>t8)
def Azy(K:aF):Sp:=λvs H Q uu=>∃(l:aM)(ns:lg Int),vs=[.ref l]/\Scr (Azx K (λuu=>0) λuu=>sy) H l ns/\ns.length<=63/\∀H',Q .bl[t8] H'
def Bkc{xf:Nat->o9 t6}{P:cJ}{w:dZ}{K:aF}{mg:t6->o9 aH}{base:eE}{k:Nat}{f:aM}{fd:eX}{x:t6}{cl:Nat->aM}{g:lg W->M W}(m:∀ns:lg Int,ns.length<=63->∃o,g [.scr ns] []=.ok .bl[t8] o)(h:Ib P w K mg base (CXo P w) k f fd [x] spF[Azx K cl xf][g]):Ib P w K mg base (CXo P w) k f fd [x] Azy[K]:=by
 refine(λp H Q E z=>?_,λA outer s H b r p Q E y C D u z=>?_)
 .let(l,ns,rfl,_):=z;rfl
 .let(l,ns,rfl,sc,B,q):=z;let(o,e):=m ns B;refine h.run A outer s H b r _ Q E y C D u ([],[],[.scr ns],(rfl,aBn,λn a c h=>by simp at h),.cons .scr[sc] .nil,?_)
  rw[e];intro L G v J I N t;cases t;exact q G
def Azz{l:uN}{k:Nat}{q:cJ}{loose:lg t6}{XP:(t6->o9 aH)->eE->Prop}{g:dZ->eE->Prop}{d:DefRec}{K:Params->aF}{x:t6}(n:l.most=sr 63)(c:d.params.defaults=[])(m:Ho k callerA)(r:∀(w:dZ)(h:eE),g w h->(K w.params).In h)(F:∀(w:dZ)(mg:t6->o9 aH)(e:aM)(h:eE),(K w.params).In h->h.Ns mainGlobals mg->mg d.name=sr .ref[e]->
   ∃fd:eX,(∀(s:aN)(u:aH),xW s fd ([u],[]) [(x,u)])/\∀base:eE,(K w.params).In base->base.Ns mainGlobals mg->Ib l.prog w K[w.params] mg base (CXo l.prog w) k e fd [x] Azy[K[w.params]]):
  aBx q loose XP g l.row.toRowW d [] (λf j=>aBb f j):=(
 L2.Bcx n () c m r F (λw H a ns p v t=>(a,ns,rfl,by
  rcases t with (h|h)|h
  .rcases v a with z|⟨o,A,z⟩
   .simp_all
   simp_all
  .exact .inl h
  .exact .inr h,p,λB=>rfl)) λ_ _ _ _ _ ⟨_,_,_,_,_,_,_,z⟩=>z)
def AllP{α:Type}(P:t6->α->Prop):lg[t6×α]->Prop
 |[]=>True
 |p::l=>P p.1 p.2/\AllP P l
theorem AllP.at{d:Type}{P:t6->d->Prop}:∀{L:lg[t6×d]},AllP P L->∀x a,L.lookup x=sr a->P x a
 |[],_,x,a,h=>by cases h
 |(y,b)::l,hp,x,a,h=>by
  rw[eF] at h;split at h
  .rename_i e;let e:=by simpa using e
   subst e;cases h;exact hp.1
  .exact AllP.at hp.2 x a h
def AllB(P:t6->Prop):lg t6->Prop
 |[]=>True
 |p::l=>P p/\AllB P l
theorem AllB.at:∀{L:lg t6},AllB P L->∀x,L.contains x=t8->P x
 |[],_,x,h=>by trivial
 |y::l,hp,x,h=>by
  rw[qW,eV] at h;rcases h with e|h
  .let e:=by simpa using e
   subst e;exact hp.1
  .exact AllB.at hp.2 x h
def Az0(Θ:Th)(mg:t6->o9 aH)(x:t6)(w:W):Prop:=∃v u,(∀Y H,RV Θ Y H w v)/\RelV v u/\(mg x=sr u\/(mg x=sy/\bootBuiltins x=sr u))
section
def Gv{i:Int}{t:Tok}(h:mg x=sr[.int i t]):Az0 Θ mg x .int[i]:=(_,_,λuu uu=>.int i,(t,rfl),.inl h)
def Atx{t:Tok}(h:mg x=sr[.str z t]):Az0 Θ mg x .str[z]:=(_,_,λuu uu=>.str z,(t,rfl),.inl h)
def Ab5(h:mg x=sy)(hb:bootBuiltins x=sr .type[n]):Az0 Θ mg x .ty[n]:=(_,_,λuu uu=>.ty n,rfl,.inr (h,hb))
def Aaw{c:Nat}(h:mg x=sr .ref[Θ.cl[c]]):Az0 Θ mg x .cls[c]:=(_,_,λuu uu=>.cls c,rfl,.inl h)
end
def addrs(cs:lg aM)(c:Nat):aM:=cs.getD c 0
def isB(o:o9 o9[aH])(n:String):Bool:=match o with
 |some (sr (.builtin m))=>m==n
 |_=>t7
def Agb(h:isB o n=t8):o=sr sr[.builtin[n]]:=by
 unfold isB at h;split at h
 .rw[eq_of_beq h]
 trivial
def isN(o:o9 o9[aH]):Bool:=match o with
 |some sy=>t8
 |_=>t7
def Alf(h:isN o=t8):o=sr sy:=by
 unfold isN at h;split at h
 .rfl
 trivial
def Aty(K:aF)(C:aM):Bool:=(sJ K C).isSome&&isB (cD K .ref[C] "__getattribute__") "BaseException.__getattribute__"&&isN[cD K .ref[C] "__getattr__"]&&
 isB (cD K .ref[C] "__class__") "object.__class__"&&decide[lW K C .type["BaseException"]=sr t8]&&decide[lW K C .type["object"]=sr t8]
def Atz{K:aF}{C:aM}(h:Aty K C=t8):Ad1 K C:=by
 unfold Aty at h;simp[dh] at h;let(((((a,b),c),d),e),f):=h;exact(a,Agb b,Alf c,Agb d,e,f)
def Arj(v:aH)(n:String):Bool:=match v with
 |.type m=>m==n
 |_=>t7
def Aax(h:Arj v n=t8):v=.type n:=by
 unfold Arj at h;split at h
 .rw[eq_of_beq h]
 trivial
def refs(l:lg aH):Bool:=l.all λa=>match a with|.ref _=>t8|_=>t7
def Bkd(n:Nat)(l:lg aH):Bool:=refs l.take[n]&&(match l.drop n with
 |[a,b,c,d]=>Arj a "ValueError"&&Arj b "Exception"&&Arj c "BaseException"&&Arj d "object"
 |_=>t7)
set_option tactic.hygienic true in
def Be2{n:Nat}(h:Bkd n l=t8):∃own,l=own ++ Afo/\refs own=t8:=by
 unfold Bkd at h;rw[aB] at h;refine(_,?_,h.1);let f:=h.2;split at f
 .rename_i a b c d e;simp[aB] at f;let(((k,j),i),g):=f;rw[Aax k,Aax j,Aax i,Aax g] at e;exact(oU n l).symm.trans (by rw[e])
 trivial
def xsB(K:aF)(C:aM)(f:t6):Bool:=(match sJ K C with
 |some cd=>Bkd (cd.mro.length - 4) cd.mro&&cd.hasDict
 |none=>t7)&&isB (cD K .ref[C] "__setattr__") "object.__setattr__"&&isN[cD K .ref[C] f]&&decide[lW K C .type["object"]=sr t8]
set_option tactic.hygienic true in
def Bng{K:aF}{C:aM}{f:t6}(h:xsB K C f=t8):XsK K C f:=by
 unfold xsB at h;simp[dh] at h;let(((a,b),c),d):=h;refine(?_,Agb b,Alf c,d);split at a
 .rename_i j e;rw[aB] at a;let(own,i,g):=Be2 a.1;exact(j,own,e,i,g,a.2)
 trivial
def xbB(K:aF)(B:aM):Bool:=isB (rM K .ref[B] "__getattribute__") "type.__getattribute__"&&aAh K B .type["type"]&&(match aAi K .ref[B] .type["type"] "__init__" with
 |some (.val (.builtin m))=>m=="ValueError.__init__"
 |_=>t7)
set_option tactic.hygienic true in
def Bnh{K:aF}{B:aM}(h:xbB K B=t8):XbK K B:=by
 unfold xbB at h;simp[aB] at h;let((a,b),c):=h;refine(Agb a,b,?_);split at c
 .rename_i m e;rw[e,eq_of_beq c]
 .cases c
def Bke(K:aF)(f:aM):Bool:=match iV K .ref[f] with
 |some v=>Arj v "function"
 |none=>t7
set_option tactic.hygienic true in
def Be3{K:aF}{f:aM}(h:Bke K f=t8):iV K .ref[f]=sr .type["function"]:=by
 unfold Bke at h;split at h
 .rename_i v e;rw[e,Aax h]
 trivial
def At0(K:aF)(cs:lg aM)(L:lg[Nat×Nat×Bool]):Bool:=L.all λt=>decide[kY K .ref[addrs cs t.1] .ref[addrs cs t.2.1]=sr t.2.2]
def Az1(K:aF)(cs:lg aM)(L:lg Nat):Bool:=L.all λc=>Aty K (addrs cs c)&&decide[kY K .ref[addrs cs c] .type["ValueError"]=sr t8]
def Az2(N:lg[Nat×Nat×Bool])(L:lg Nat)(c:Nat):W->o9 Bool
 |.cls k=>if L.contains c then (N.find? λt=>t.1==c&&t.2.1==k).map (·.2.2) else sy
 |.ty n=>if n=="ValueError"&&L.contains c then sr t8 else sy
 |_=>sy
set_option tactic.hygienic true in
def Bkf{xf:Nat->o9 t6}{K:aF}{g:lg aM}{N:lg[Nat×Nat×Bool]}{L:lg Nat}(p:At0 K g N=t8)(o:Az1 K g L=t8):Atk[Azx K addrs[g] xf][Az2 N L]:=(⟨λc k b h=>by
 let i:∀c,L.contains c=t8->Ad1 K (addrs g c)/\_:=λc d=>by
  let z:=aQ.mp o c (by simpa using d)
  rw[aB] at z;exact(Atz z.1,dg z.2)
 unfold Az2 at h;split at h
 .rename_i k;split at h
  .rename_i d;let(t,j,rfl):=bF.mp h;let m:=List.mem_of_find?_eq_some j;let hp:=List.find?_some j;rw[aB] at hp;let r:t.1=c:=by simpa using hp.1
   let q:t.2.1=k:=by simpa using hp.2
   let z:=dg[aQ.mp p t m];rw[r,q] at z;exact((i c d).1,_,rfl,z)
  .cases h
 .split at h
  .rename_i n d;rw[aB] at d;let e:n="ValueError":=by simpa using d.1
   subst e;cases h;exact((i c d.2).1,_,rfl,(i c d.2).2)
  .cases h
 .cases h⟩)
def Az3(K:aF)(C:aM):Bool:=oY K C aFh&&lY K C&&rK K C&&isB (cD K .ref[C] "__setattr__") "object.__setattr__"
def Az4{K:aF}{C:aM}(h:Az3 K C=t8):Cls K C:=by
 unfold Az3 at h;simp[aB] at h;let(((a,b),c),d):=h;exact(a,b,c,Agb d)
def At1(K:aF)(cs:lg aM)(L:lg[Nat×t6]):Bool:=L.all λp=>Az3 K (addrs cs p.1)&&isN[cD K .ref[addrs cs p.1] p.2]
def Az5(K:aF)(cs:lg aM)(L:lg[Nat×t6]):Bool:=L.all λp=>Aty K (addrs cs p.1)&&lY K (addrs cs p.1)&&isN[cD K .ref[addrs cs p.1] p.2]
theorem mem_lookup{b:Type}{c:Nat}{f:b}:∀{L:lg[Nat×b]},L.lookup c=sr f->(u6 c f)∈L
 |[],h=>by cases h
 |(d,g)::L,h=>by
  rw[eF] at h;split at h
  .simp_all
  .exact bD _ mem_lookup[h]
theorem Bkg{K:aF}{g:lg aM}{L X:lg[Nat×t6]}(h:At1 K g L=t8)(i:Az5 K g X=t8):FOk[Azx K addrs[g] λc=>X.lookup c][λb c f=>if b then X.lookup c==sr f else L.contains[u6 c f]]:=(λc f a=>by
 let a:L.contains[u6 c f]=t8:=a;let z:=aQ.mp[h][u6 c f][by simpa using a]
 rw[aB] at z;exact(Az4 z.1,Alf z.2),λc f a=>by
 let e:=eq_of_beq a;let z:=aQ.mp i (u6 c f) mem_lookup[e];rw[aB,aB] at z;exact(e,Atz z.1.1,z.1.2,Alf z.2))
def At2(K:aF)(cs:lg aM)(L:lg[Nat×Nat]):Bool:=L.all λt=>decide[iW K .ref[addrs cs t.2] .ref[addrs cs t.1]=sr t8]
def Bkh{K:aF}{d:lg aM}{L:lg[Nat×Nat]}(h:At2 K d L=t8)(k c:Nat)(e:L.contains[u6 k c]=t8):iW K .ref[addrs d c] .ref[addrs d k]=sr t8:=(
 dg aQ.mp[h][u6 k c][by simp_all])
def Be4{K:aF}{a:aM}{D:lg[t6×t6]}(h:aEa[aDf λb=>K.lookup b][λb=>K.lookup b][a][D.map λp=>(u6 p.1 qJ[.str[p.2]])]=t8):Av9 K a D:=λhp x=>KTD.text_of_look (λb o q=>x b o q) h
def Et(K:aF)(mg:t6->o9 aH)(x:t6)(st:dI)(_:lg t6):Prop:=∃(f:aM)(kV dc pm:aH)(an:o9 aM)(cd ct:aH),Fun K x x st f (dR x x Fb[st] Ao[st] Ak[st] .none kV dc pm an cd ct)/\mg x=sr .ref[f]
def Agc(K:aF)(c:aM)(x q:t6)(st:dI)(_:lg t6):Prop:=∃(f:aM)(kV dc pm:aH)(an:o9 aM)(cd ct:aH),Fun K x q st f (dR x q Fb[st] Ao[st] Ak[st] .none kV dc pm an cd ct)/\Meth K c x f
section
variable{K:aF}{mg:t6->o9 aH}{h:eE}{x q:t6}{st:dI}{ps:lg t6}{f c:aM}{oc kV dc pm cd ct:aH}{od an:o9 aM}{sl:Array (o9 aH)}
def Bni(X:K.In h)(G:h.Ns mainGlobals mg)(a:bG K mainGlobals x=sr sr[.ref[f]])(b:K.lookup f=sr (oc,od,.func[dR x x Fb[st] Ao[st] Ak[st] .none kV dc pm an cd ct],sl))(d:lA K cd x=t8)(e:dD K .ref[f]=t8):Et K mg x st ps:=(
 (f,kV,dc,pm,an,cd,ct,Ake b d e,bR X G a))
def Bnj(a:cD K .ref[c] x=sr sr[.ref[f]])(b:K.lookup f=sr (oc,od,.func[dR x q Fb[st] Ao[st] Ak[st] .none kV dc pm an cd ct],sl))(d:lA K cd q=t8)(e:dD K .ref[f]=t8)(g:uA K .ref[f]=t8):Agc K c x q st ps:=(
 (f,kV,dc,pm,an,cd,ct,Ake b d e,a,g,e))
end
structure TU(Θ:Th)(m:Md)(P:cJ)(w:dZ)(K:aF)(mg:t6->Option aH)(base:eE)(k:Nat)(T:List (t6×Fi))(U:List ((Nat×t6)×Fi)):Prop where
 t:Tbl Θ P w K mg base k T
 u:MTb Θ P w K mg base k U
 i:XiT Θ m P w K mg base 1
 j:1 < k
 m:m.Ok Θ K mg
section
variable{Θ:Th}{m:Md}{P:cJ}{w:dZ}{K:aF}{mg:t6->o9 aH}{base:eE}{k:Nat}{T:lg (t6×Fi)}{U:lg ((Nat×t6)×Fi)}{x q:t6}{st:dI}{N ps:lg t6}{b:MS}{f:aM}{fd:eX}{c:Nat}
def Bpu(e:Cw[Ao st][m.gm T N Ak[st] U]=b)(h:TU Θ m P w K mg base k T U)(d:Xa K mg x st ps f fd)(Sc:Gs N ps Ak[st]:=by exact(rfl,rfl,rfl,(),rfl,(),())):Ib P w K mg base (CXo P w) (k+2) f fd ps spF[Θ][Cp ps.length N.length b] t8:=h.t.fn h.u h.i h.j h.m d Sc e
def Bnk(e:Cw[Ao st][m.gm T N Ak[st] U]=b)(h:TU Θ m P w K mg base k T U)(d:Xa K mg x st ps f fd)(g:Ds _root_.D.G8 dv=sr a)(hd:Vals a n)(l:Binds K fd ps n)(o:Gs N ps Ak[st]:=by exact(rfl,rfl,rfl,(),rfl,(),())):TU Θ m P w K mg base (k+2) ((u6 x (Cp ps.length N.length b,ps.length,dv))::T) U:=(
 (h.t.cons h.u h.i h.j h.m d o g hd l e,h.u.up,h.i,zR 2 h.j,h.m))
def al0{p:lg aH->Prop}(f:p [])(d:lg aH)(h:d.length=0):p d:=by
 cases d;exact f;cases h
def alS{p:lg aH->Prop}{n:Nat}(f:∀x a,a.length=n->p (x::a))(a:lg aH)(h:a.length=n+1):p a:=by
 cases a;cases h;exact f _ _ uH[h]
def Fe(e:Cw[Ao st][m.gm T N Ak[st] U]=b)(h:TU Θ m P w K mg base k T U)(d:Et K mg x st ps)(r:Gs N ps Ak[st]:=by exact(rfl,rfl,rfl,(),rfl,(),()))(p:∀(kV i g:aH)(l:o9 aM)(j ct:aH)(a:lg aH),a.length=ps.length->bindArgs (dR x x Fb[st] Ao[st] Ak[st] .none kV i g l j ct) (a,[])=pure ps.zip[a]:=by intro _ _ _ _ _ _;(repeat refine alS λs=>?_);exact al0 rfl):
  TU Θ m P w K mg base (k+2) ((u6 x (Cp ps.length N.length b,ps.length,[]))::T) U:=by
 let(f,kV,i,g,l,j,ct,F,o):=d;let B:Binds K _ ps []:=Afm[p kV i g l j ct];exact Bnk e h (F,o,B) rfl .nil B r
def Alh(e:Cw[Ao st][m.gm T N Ak[st] U]=b)(h:TU Θ m P w K mg base k T U)(C:Az3 K Θ.cl[c]=t8)(d:Agc K Θ.cl[c] x q st ps)(v:Gs N ps Ak[st]:=by exact(rfl,rfl,rfl,(),rfl,(),()))(s:∀(kV l g:aH)(o:o9 aM)(n ct:aH)(a:lg aH),a.length=ps.length->bindArgs (dR x q Fb[st] Ao[st] Ak[st] .none kV l g o n ct) (a,[])=pure ps.zip[a]:=by intro _ _ _ _ _ _;(repeat refine alS λy=>?_);exact al0 rfl):
  TU Θ m P w K mg base (k+2) T ((u6 (u6 c x) (Cp ps.length N.length b,ps.length,[]))::U):=by
 let(f,kV,l,g,o,n,ct,F,r):=d;let B:Binds K _ ps []:=Afm[s kV l g o n ct];exact(h.t.up,h.u.cons h.t h.i h.j h.m Az4[C] r F v B rfl .nil B e,h.i,zR 2 h.j,h.m)
end
structure SP where
 p:Store->Prop
 st:∀S G:Store,p S->p (S ++ G)
def SP.any:SP:=(λuu=>True,λuu uu h=>h)
def AtL(n:Nat)(ws:lg W)(S:Store):Prop:=S[n]?=sr .lst[ws]
def AtL.app{n:Nat}(h:AtL n a S)(G:Store):AtL n a (S ++ G):=by
 unfold AtL at h ⊢
 rw[aX (aK.mp h).1];omega
def SP.at(P:SP)(n:Nat)(ws:lg W):SP:=(λS=>P.p S/\AtL n ws S,λS G h=>(P.st S G h.1,h.2.app G))
def Pu{α:Type}(P:SP)(m:M α)(a:α):Prop:=∀S:Store,P.p S->∃G:Store,m S=.ok a (S ++ G)
def PuX{α:Type}(P:SP)(m:M α)(c:Nat×W):Prop:=∀S:Store,P.p S->∃G:Store,m S=.exc c (S ++ G)
def PuL(P:SP)(m:M W)(ws:lg W):Prop:=∀S:Store,P.p S->∃(G:Store)(n:Nat),m S=.ok[.ref n][S ++ G]/\(S ++ G)[n]?=sr .lst[ws]/\S.length<=n
def PuN(P:SP)(b:MS)(Z Z':De):Prop:=∀S:Store,P.p S->∃G:Store,b Z S=.nx Z' (S ++ G)
def PuR(P:SP)(b:MS)(Z:De)(w:W):Prop:=∀S:Store,P.p S->∃G:Store,b Z S=.rt w (S ++ G)
def PuE(P:SP)(b:MS)(Z:De)(c:Nat×W):Prop:=∀S:Store,P.p S->∃(G:Store)(Z':De),b Z S=.ex c Z' (S ++ G)
section
variable{P:SP}{α β:Type}{m:M α}{f:α->M β}{a:α}{b:β}{c:Nat×W}{Z Z' Z1:De}{w x y z:W}{ws us:lg W}
def Bk(S:Store):(m >>= f) S=match m S with|.ok a S1=>f a S1|.exc c S1=>.exc c S1|.bad=>.bad:=rfl
def Pu.pure:Pu P (pure a:M α) a:=(λS d=>([],by rw[bC];rfl))
def Pu.bind(h:Pu P m a)(k:Pu P f[a] b):Pu P (m >>= f) b:=(λS d=>by
 let(G,e):=h S d;let(g,i):=k[S ++ G][P.st _ _ d];exact(G ++ g,by rw[Bk];simp_all))
def Pu.bindX(h:Pu P m a)(k:PuX P f[a] c):PuX P (m >>= f) c:=(λS d=>by
 let(G,e):=h S d;let(g,i):=k[S ++ G][P.st _ _ d];exact(G ++ g,by rw[Bk];simp_all))
def Pu.cast{a':α}(h:Pu P m a)(e:a=a'):Pu P m a':=e ▸ h
variable{P:SP}{f g h:De->M W}{gs:De->M (lg W)}{t u:De->M Bool}{s:lg W->M W}{i:Nat}
def Ac:Pu P (kF w Z) w:=Pu.pure
def Ad(e:Z[i]?=sr sr[w]):Pu P (Ab i Z) w:=(λS d=>([],by unfold Ab;rw[e,bC];rfl))
def Ae:Pu P nilF[Z] []:=Pu.pure
def Aa(h1:Pu P f[Z] w)(h2:Pu P gs[Z] ws):Pu P (Eu f gs Z) (w::ws):=h1.bind h2.bind[Pu.pure]
def Ag(h1:Pu P gs[Z] ws)(h2:Pu P s[ws] w):Pu P (Dm s gs Z) w:=h1.bind h2
def Aay(h1:Pu P gs[Z] ws)(h2:PuX P s[ws] c):PuX P (Dm s gs Z) c:=h1.bindX h2
def Ai(h1:Pu P f[Z] x)(h2:Pu P g[Z] y)(h3:Pu P (o.fn x y) z):Pu P (Al o f g Z) z:=h1.bind h2.bind[h3]
def Aj(h1:Pu P f[Z] x)(h2:Pu P g[Z] y)(h3:Pu P (El op x y) z):Pu P (Dz op f g Z) z:=h1.bind h2.bind[h3]
def Du(h1:Pu P f[Z] .bl[t8])(h2:Pu P g[Z] w):Pu P (Jk f g Z) w:=h1.bind h2
def Bki(d:Pu P f[Z] .bl[p])(e:p=t8->Pu P g[Z] .bl[q]):Pu P (Jk f g Z) .bl[p&&q]:=by
 cases p
 .exact d.bind Pu.pure
 .exact Du d e[rfl]
def Af(h1:Pu P f[Z] .bl[p]):Pu P (Dp f Z) p:=h1.bind Pu.pure
def Qn(h1:Pu P t[Z] t8)(h2:Pu P f[Z] w):Pu P (Jz t f g Z) w:=h1.bind h2
def Agd(h1:Pu P t[Z] t7)(h2:Pu P g[Z] w):Pu P (Jz t f g Z) w:=h1.bind h2
def Cu(e:Pu P gs[Z] ws)(d:ws.length<=big):Pu P (Df gs Z) .tup[ws]:=(e.bind (by unfold Akx;rw[di d];exact Pu.pure))
def Aev(k:Pu P gs[Z] ws)(d:ws.length<=big):PuL P (Hf gs Z) ws:=(λS j=>by
 let(G,e):=k S j;refine(G ++ [.lst ws],(S ++ G).length,?_,?_,by simp)
 .unfold Hf;rw[Bk,e];dsimp only;unfold Ck;rw[di d,aL]
 .rw[<-aL,bB aO[_],fV];rfl)
end
section
variable{P:SP}{b b':MS}{Z Z' Z1:De}{w:W}{c:Nat×W}{f:De->M W}{t:De->M Bool}{i k n:Nat}{gs:De->M (lg W)}{ws:lg W}
def An:PuN P Ay Z Z:=(λS a=>([],by rw[bC];rfl))
def Nr(g:PuN P b Z Z1)(d:PuN P b' Z1 Z'):PuN P (Am b b') Z Z':=(λS a=>by
 let(G,e):=g S a;let(h,j):=d[S ++ G][P.st _ _ a];exact(G ++ h,by unfold Am;simp_all))
def Bq(g:PuN P b Z Z1)(d:PuR P b' Z1 w):PuR P (Am b b') Z w:=(λS a=>by
 let(G,e):=g S a;let(h,j):=d[S ++ G][P.st _ _ a];exact(G ++ h,by unfold Am;simp_all))
def Ark(g:PuN P b Z Z1)(d:PuE P b' Z1 c):PuE P (Am b b') Z c:=(λS a=>by
 let(G,e):=g S a;let(j,h,l):=d[S ++ G][P.st _ _ a];exact(G ++ j,h,by unfold Am;simp_all))
def Aw(d:PuR P b Z w):PuR P (Am b b') Z w:=(λS a=>by
 let(G,e):=d S a;exact(G,by unfold Am;rw[e]))
def N6(d:PuE P b Z c):PuE P (Am b b') Z c:=(λS a=>by
 let(G,g,e):=d S a;exact(G,g,by unfold Am;rw[e]))
def Bf(h:Pu P f[Z] w):PuN P (Bg i f) Z (Z.set i sr[w]):=(λS a=>by
 let(G,e):=h S a;exact(G,by unfold Bg Ez;rw[e]))
def Aq(h:Pu P f[Z] w):PuR P retS[f] Z w:=(λS a=>by
 let(G,e):=h S a;exact(G,by unfold retS Ez;rw[e]))
def Be5(h:PuX P f[Z] c):PuE P retS[f] Z c:=(λS a=>by
 let(G,e):=h S a;exact(G,Z,by unfold retS Ez;rw[e]))
def At3(h:PuX P f[Z] c):PuE P (Bg i f) Z c:=(λS a=>by
 let(G,e):=h S a;exact(G,Z,by unfold Bg Ez;rw[e]))
def Bkj(e:t Z S=.ok t8 S1)(h:b Z S1=r):ifS t b b' Z S=r:=by unfold ifS Ez;rw[e];exact h
def Bpv(e:t Z S=.ok t7 S1)(h:b' Z S1=r):ifS t b b' Z S=r:=by unfold ifS Ez;rw[e];exact h
def Awd(h:Pu P gs[Z] ws)(a:ws.length<=big):PuE P (Rh k gs) Z (u6 k .non):=(λS d=>by
 let(G,e):=h S d;exact(G,Z,by unfold Rh Ez;rw[e];exact di a))
def Rj(h:Pu P gs[Z] (w::a))(d:a.length+dv.length=1):PuE P (N5 k dv gs) Z (u6 k w):=(λS g=>by
 let(G,e):=h S g;exact(G,Z,by unfold N5 Ez;rw[e];exact di d))
def Bj(a:ws.length=k)(h:PuR P b (Bl n ws) w):Pu P (Cp k n b ws) w:=(λS d=>by
 let(G,e):=h S d;exact(G,by unfold Cp;rw[di a,e]))
def N7(a:ws.length=k)(h:PuE P b (Bl n ws) c):PuX P (Cp k n b ws) c:=(λS d=>by
 let(G,g,e):=h S d;exact(G,by unfold Cp;rw[di a,e]))
def Rk:PuN P (Nk s b []) Z Z:=(λS a=>([],by rw[bC];rfl))
def J2(l:s w Z=sr Z1)(g:PuN P b Z1 Z2)(d:PuN P (Nk s b ws) Z2 Z'):PuN P (Nk s b (w::ws)) Z Z':=(λS a=>by
 let(G,e):=g S a;let(j,m):=d[S ++ G][P.st _ _ a];exact(G ++ j,by unfold Nk;simp_all))
def Mh(g:Pu P src[Z] .fix[ws])(d:PuN P (Nk s b ws) Z Z'):PuN P (Sx src s b) Z Z':=(λS a=>by
 let(G,e):=g S a;let(h,j):=d[S ++ G][P.st _ _ a];exact(G ++ h,by unfold Sx Ez;simp_all))
end
section
variable{P:SP}{Z:De}{cs:De}{t:De->M Bool}{e:De->M W}{f:W->W}{ws:lg W}
def Ab6{b:Type}{m:M b}{a:b}(h:Pu P m a):Pu P noX[m] a:=(λS c=>by
 let(G,e):=h S c;exact(G,by unfold noX;rw[e]))
def Ank{j:Type}{c:lg j}{g i:j->W}(k:∀x,x∈c->Pu P (t (sr g[x]::cs)) t8/\Pu P (e (sr g[x]::cs)) i[x]):∀(d:o9 W)(a:lg W),a.length+c.length<=big->Pu[P][R9 By[0] t e c.map[g] (d::cs) a][a ++ c.map i]:=by
 induction c with
 |nil=>intro d a _ S _;exact([],by simp[R9];rfl)
 |cons x c n=>
  intro d a p;rw[bN] at p;let l:=(k x bJ);let r:=n (λm o=>k m (bD _ o)) sr[g[x]] (a ++ [i x]) (by rw[aU,dU];omega)
  rw[aL] at r;intro S q;have:=(Ab6 l.1).bind (f:=λb=>if b=t8 then _ >>= λy=>if a.length < big then R9 _ t e _ _ (a ++ [y]) else bad else R9 By[0] t e c.map[g] (sr g[x]::cs) a) (b:=a ++ _) (by
   refine(Ab6 l.2).bind ?_;rw[di ()]
   omega)
  exact this S q
end
section
variable{P:SP}{Z:De}{t u:De->M Bool}{f g h:De->M W}{p q:Bool}{i j:Int}{x y z:t6}{w v o:W}{ws:lg W}{k:Nat}
def Ew(h1:Pu P t[Z] p):Pu[P][Qm t Z][!p]:=h1.bind Pu.pure
def Gh(a:Pu P t[Z] p)(b:Pu P u[Z] q):Pu[P][orT t u Z][p||q]:=(a.bind (by
 cases p
 .trivial
 .exact Pu.pure))
def Ali(a:Pu P t[Z] p)(b:Pu P u[Z] q):Pu[P][Ad3 t u Z][p&&q]:=(a.bind (by
 cases p
 .exact Pu.pure
 trivial))
def Rm(h1:Pu P f[Z] .bl[p])(h2:Pu P g[Z] .bl[q]):Pu P (Jk f g Z) .bl[p&&q]:=Bki h1 λuu=>h2
def Age:Pu P (El .Lt .int[i] .int[j]) .bl[decide[i < j]]:=Pu.pure
def Lh:Pu P (El .LtE .int[i] .int[j]) .bl[decide[i<=j]]:=Pu.pure
def Qo:Pu P (El .Gt .int[i] .int[j]) .bl[decide[j < i]]:=Pu.pure
def Bnl:Pu P (El .GtE .int[i] .int[j]) .bl[decide[j<=i]]:=Pu.pure
def Cm:Pu P (Bop.fn .add .int[i] .int[j]) .int[i+j]:=Pu.pure
def Gw:Pu P (Bop.fn .sub .int[i] .int[j]) .int[i - j]:=Pu.pure
def Fv{b:Type}[Decidable c]{m n:M b}{a:b}(d:c)(h:Pu P m a):Pu P (if c then m else n) a:=by simp_all
def Bv(hl:x.length+y.length<=big):Pu P (Bop.fn .add .str[x] .str[y]) .str[x ++ y]:=Fv hl Pu.pure
def Je(hs:(small i||small j)=t8):Pu P (Bop.fn .mul .int[i] .int[j]) .int[i * j]:=Fv hs Pu.pure
def Arl(hj:0<=j):Pu P (Bop.fn .shr .int[i] .int[j]) .int[i / 2 ^ j.toNat]:=Fv hj Pu.pure
def Cj(hj:0 < j):Pu P (Bop.fn .mod .int[i] .int[j]) .int[i % j]:=Fv hj Pu.pure
def Cv(b:0 < j)(a:j < 1073741824):Pu P (Bop.fn .fdiv .int[i] .int[j]) .int[i / j]:=(Fv (by rw[dj b,dj a];rfl) Pu.pure)
def Az6(b:k<=big):Hn [.int (k:Int)]=pure .fix[(eZ k).map λ(k:Nat)=>W.int[(0:Int)+(k:Int)]]:=by
 unfold Hn;dsimp only;rw[di (by
   let h:(k:Int)<=1000000:=Int.ofNat_le.mpr b;let d:(0:Int)<=k:=qY k;let e:(2:Int) ^ 62=4611686018427387904:=by decide +kernel
   rw[e];omega),dG]
def Gx(c:Pu P d[Z] [.int (k:Int)])(b:k<=big):Pu P (Nm Hn d Z) .fix[(eZ k).map λ(k:Nat)=>W.int[(0:Int)+(k:Int)]]:=by
 refine Pu.bind c ?_;rw[Az6 b];exact Pu.pure
def Lp:Pu P (El .Eq .int[i] .int[j]) .bl[i==j]:=(λS a=>([],by rw[bC];rfl))
def Bkk:Pu P (El .NotEq .int[i] .int[j]) .bl[!(i==j)]:=(λS a=>([],by rw[bC];rfl))
def Br(hx:oH x=t8)(hy:oH y=t8):Pu P (El .Eq .str[x] .str[y]) .bl[x==y]:=Pu.pure
def Rn:Pu P (El .Eq .str[x] .str[y]) .bl[x==y]:=Pu.pure
def Arm:Pu P (El .NotEq .str[x] .str[y]) .bl[!(x==y)]:=Pu.pure
def Az7:Pu P (El .Lt .str[x] .str[y]) .bl[Iw x y]:=Pu.pure
def Li{b a:yM}{x y u:W}(m:Pu P f[Z] x)(l:Pu P g[Z] y)(e:Pu P (El b x y) .bl[p])(d:Pu P h[Z] u)(c:Pu P (El a y u) .bl[q]):Pu P (Jl b a f g h Z) .bl[p&&q]:=by
 refine m.bind l.bind[e.bind[?_]];cases p
 .exact Pu.pure
 .exact d.bind c
def Be(h1:Pu P f[Z] o)(h2:Pu P g[Z] v)(h3:Pu P (ixW o v) w):Pu P (ixF f g Z) w:=h1.bind h2.bind[h3]
end
section
variable{P:SP}{b b':MS}{Z Z':De}{w:W}{c:Nat×W}{t:De->M Bool}{p:Bool}
def Do(f:Pu P t[Z] p)(hp:p=t7)(d:PuN P b' Z Z'):PuN P (ifS t b b') Z Z':=by
  intro S a;let(G,e):=(hp ▸ f) S a;let(h,g):=d[S ++ G][P.st _ _ a];exact(G ++ h,Bpv e (by rw[g,aL]))
def Bnm(f:Pu P t[Z] p)(hp:p=t8)(d:PuN P b Z Z'):PuN P (ifS t b b') Z Z':=by
  intro S a;let(G,e):=(hp ▸ f) S a;let(h,g):=d[S ++ G][P.st _ _ a];exact(G ++ h,Bkj e (by rw[g,aL]))
def Fz(f:Pu P t[Z] p)(hp:p=t8)(d:PuR P b Z w):PuR P (ifS t b b') Z w:=by
  intro S a;let(G,e):=(hp ▸ f) S a;let(h,g):=d[S ++ G][P.st _ _ a];exact(G ++ h,Bkj e (by rw[g,aL]))
def Az8(f:Pu P t[Z] p)(hp:p=t8)(d:PuE P b Z c):PuE P (ifS t b b') Z c:=by
  intro S a;let(G,e):=(hp ▸ f) S a;let(i,h,g):=d[S ++ G][P.st _ _ a];exact(G ++ i,h,Bkj e (by rw[g,aL]))
end
section
variable{P:SP}{Z cs:De}{f:De->M W}{ws:lg W}{w:W}{op:lg W->M W}{mop:W->lg W->M W}{z:t6}
def At4(h:Pu P m ws)(a:ws.length<=big):PuL P (m >>= Ck) ws:=(λS b=>by
 let(G,e):=h S b;refine(G ++ [.lst ws],(S ++ G).length,?_,?_,by simp)
 .rw[Bk,e];dsimp only;unfold Ck;rw[di a,aL]
 .rw[<-aL,bB aO[_],fV];rfl)
def T9{b:Type}{m:M b}{a:b}{g:b->M W}(h:Pu P m a)(k:PuL P g[a] ws):PuL P (m >>= g) ws:=(λS c=>by
 let(G,e):=h S c;let(d,n,j,i,hf):=k[S ++ G][P.st _ _ c];exact(G ++ d,n,by rw[Bk];simp_all,by rw[<-aL];omega,by rw[aU] at hf;omega))
def Aod(h1:Pu P gs[Z] us)(h2:PuL P s[us] ws):PuL P (Dm s gs Z) ws:=T9 h1 h2
def Hq{b:Type}{xs:lg b}{φ ψ:b->W}{cap:lg Nat}(g:Pu P src[Z] .fix[xs.map[φ]])(d:Aar 1 cap Z=sy::cs)(i:xs.length<=big)(c:∀x,x∈xs->Pu P (t (sr φ[x]::cs)) t8/\Pu P (e (sr φ[x]::cs)) ψ[x]):PuL P (Dn 1 cap src By[0] t e Z) xs.map[ψ]:=by
 refine T9 g ?_;rw[d];refine At4 ?_ (by simp_all)
 have:=Ank c sy [] (by simp_all)
 trivial
def Aew(h:PuL P f[Z] ws)(a:∀(n:Nat)(S:Store),S[n]?=sr .lst[ws]->∃G,op [.ref n] S=.ok w (S ++ G)):Pu P Dm[op][Eu f nilF][Z] w:=(λS c=>by
 let(G,n,e,b,_):=h S c;let(g,i):=a n _ b;refine(G ++ g,?_);unfold Dm Eu;rw[Bk,Bk,e];show op _ _=_;simp_all)
theorem At5:∀bs:lg Bool,Ds Bi1 bs.map[W.bl]=sr bs
 |[]=>rfl
 |b::bs=>by rw[bL,Ds,At5 bs];rfl
theorem Aoe:∀bs:lg Int,Ds asInt bs.map[W.int]=sr bs
 |[]=>rfl
 |b::bs=>by rw[bL,Ds,Aoe bs];rfl
theorem Agf:∀bs:lg t6,Ds asStr bs.map[W.str]=sr bs
 |[]=>rfl
 |b::bs=>by rw[bL,Ds,Agf bs];rfl
def P0{bs:lg Bool}(h:PuL P f[Z] bs.map[W.bl]):Pu P Dm[Aao][Eu f nilF][Z] .bl[bs.all[id]]:=(Aew h λn S e=>([],by
 simp[Aao,e,At5]))
def Az9{is:lg Int}(h:PuL P f[Z] is.map[W.int]):Pu P Dm[Ak2][Eu f nilF][Z] .int[is.sum]:=(Aew h λn S e=>([],by
 simp[Ak2,e,Aoe]))
def Baa(h:PuL P f[Z] ws):Pu P Dm[Ed][Eu f nilF][Z] .tup[ws]:=(Aew h λn S e=>([],by
 simp[Ed,e]))
def Be6(h:PuL P f[Z] a.map[W.str])(c:(a.map (·.length)).sum+a.length * z.length<=big):Pu P (Ir .str Ny kF[.str[z]] (Eu f nilF) Z) .str[aBm z a]:=(λS d=>by
 let(G,n,e,b,_):=h S d;refine(G,?_);let i:Eu f nilF Z S=.ok [.ref n] (S ++ G):=by unfold Eu;rw[Bk,e];rfl
 let g:Ir .str Ny kF[.str[z]] _ Z S=(Eu f nilF Z >>= _) S:=rfl;rw[g,Bk,i];simp only[Ny,b,Agf];exact di c)
def Aex(hz:z.length<=big)(h:Pu P f[Z] .str[z]):Pu P (Eo f Z) .fix[chars[z]]:=h.bind[Fv hz Pu.pure]
def Gy(h:Pu P f[Z] .tup[ws]):Pu P (Eo f Z) .fix[ws]:=h.bind Pu.pure
end
structure Aie{β:Type}(s:Tg)(xs:List β)(φ:β->W)(Kd:De->Prop)(dx:β->De):Prop where
 set:∀x,x∈xs->∀Z,Kd Z->s (φ x) Z=sr (dx x)
 kd:∀x,x∈xs->Kd (dx x)
def Bab(P:SP){β:Type}(t:De->M Bool)(e:De->M W)(xs:lg β)(dx:β->De)(τ:β->Bool)(ψ:β->W):Prop:=∀x,x∈xs->Pu P t[dx[x]] τ[x]/\(τ x=t8->Pu P e[dx[x]] ψ[x])
section
variable{β:Type}{xs:lg β}{φ ψ:β->W}{dx:β->De}{τ:β->Bool}
theorem Mi:Aie By[0] xs φ (λZ=>∃d,Z=d::cs) (λx=>sr φ[x]::cs):=(λx _ Z ⟨d,h⟩=>by subst h;rfl,λx a=>(_,rfl))
theorem Arn{a b:β->W}:Aie Mw[[0,1]] xs (λx=>.tup [a x,b x]) (λZ=>∃d c,Z=d::c::e) (λx=>sr a[x]::sr b[x]::e):=(λx _ Z ⟨d,c,h⟩=>by subst h;rfl,λx f=>(_,_,rfl))
def Aie.tail{x:β}(h:Aie s (x::xs) φ Kd dx):Aie s xs φ Kd dx:=(λy hy=>h.set y (bD _ hy),λy hy=>h.kd y (bD _ hy))
def Awe{x:β}:a ++ ([x].filter τ).map ψ ++ (xs.filter τ).map ψ=a ++ ((x::xs).filter τ).map ψ:=by
 cases b:τ x <;> simp[b]
def Bac{x:β}:(acc ++ ([x].filter τ).map ψ).length<=acc.length+1:=by
 cases a:τ x <;> simp[a]
def Alj(d:Aie s xs φ Kd dx)(g:Bab P t e xs dx τ ψ):∀(Z:De)(acc:lg W),Kd Z->acc.length+xs.length<=big->Pu[P][R9 s t e xs.map[φ] Z acc][acc ++ (xs.filter τ).map ψ]:=by
 induction xs with
 |nil=>intro Z acc _ _;simpa [R9,Mx] using (Pu.pure (a:=acc))
 |cons x xs i=>
  intro Z acc hd k;rw[bN] at k;let f:=g x bJ;let b:=i d.tail (λy j=>g y (bD _ j)) dx[x] (acc ++ ([x].filter τ).map ψ) (d.kd x bJ) (by have:=Bac (τ:=τ) (ψ:=ψ) (x:=x) (acc:=acc);omega)
  rw[Awe] at b;rw[bL];unfold R9 Mx;rw[d.set x bJ Z hd];refine(Ab6 f.1).bind ?_;cases c:τ x with
  |false=>
   rw[dm cC];have:acc ++ ([x].filter τ).map ψ=acc:=by simp[c]
   rw[this] at b;exact b
  |true=>
   rw[di rfl];refine(Ab6 f.2[c]).bind ?_;rw[di ()]
   have:acc ++ ([x].filter τ).map ψ=acc ++ [ψ x]:=by simp[c]
   rw[this] at b;exact b
def Agg{gt:Store->Nat->o9 o9[W]}(n:Aie s xs φ Kd dx)(u:Bab P t e xs dx τ ψ):∀(m i:Nat)(Z:De)(a:lg W)(S:Store),(∀(G:Store)(j:Nat),gt (S ++ G) j=sr[xs[j]?.map φ])->P.p S->xs.length+1<=i+m->i<=xs.length->Kd Z->a.length+(xs.length - i)<=big->
  ∃G,Jq s t e gt m i Z a S=.ok[a ++ ((xs.drop i).filter τ).map ψ][S ++ G]:=by
 intro m;induction m with
 |zero=>intro i Z a S h d hi A hd y;omega
 |succ m r=>
  intro i Z a S h d hi A hd y;unfold Jq;let b:=h [] i;rw[bC] at b;by_cases k:i < xs.length
  .let o:gt S i=sr sr[φ[getElem[xs][i][by get_elem_tactic]]]:=by rw[b,aZ k];rfl
   simp only[o];let c:(getElem[xs][i][by get_elem_tactic])∈xs:=pD k;rw[n.set _ c Z hd];dsimp only;let z:a.length < big:=by omega
   let(g,C):=Ab6 (u _ c).1 S d;rw[Bk,C];dsimp only;let v:xs.drop i=(getElem[xs][i][by get_elem_tactic])::xs.drop[i+1]:=(gO k);cases l:τ getElem[xs][i][by get_elem_tactic] with
   |false=>
    rw[dm cC];let(G,q):=r (i+1) dx[getElem[xs][i][by get_elem_tactic]] a (S ++ g) (λG j=>by rw[aL];exact h _ j) (P.st _ _ d) () () (n.kd _ c) ()
    refine(g ++ G,?_);rw[q,v,tV,l,aL];rfl
   |true=>
    rw[di rfl];let(x,q):=Ab6[(u _ c).2 l][S ++ g][P.st _ _ d];rw[Bk,q];dsimp only;rw[di z];let(G,B):=r (i+1) dx[getElem[xs][i][by get_elem_tactic]] (a ++ [ψ getElem[xs][i][by get_elem_tactic]]) (S ++ g ++ x) (λG j=>by rw[aL,aL];exact h _ j) P.st[_][_][P.st _ _ d] () () (n.kd _ c) (by rw[aU,dU];omega)
    refine(g ++ (x ++ G),?_);rw[B,v,tV,l];simp[aL]
  .let o:gt S i=sr sy:=by rw[b,iJ ()];rfl
   simp only[o];refine([],?_);rw[fW ()]
   simp
end
section
variable{β:Type}{xs:lg β}{φ ψ:β->W}{dx:β->De}{τ:β->Bool}{k:Nat}{cap:lg Nat}{n:Nat}
def Bae(h:m S=.ok a (S ++ G))(c:a.length<=big):∃(b:Store)(n:Nat),(m >>= Ck) S=.ok[.ref n][S ++ b]/\AtL n a (S ++ b)/\S.length<=n:=by
 refine(G ++ [.lst a],(S ++ G).length,?_,?_,by simp)
 .rw[Bk,h];dsimp only;unfold Ck;rw[di c,aL]
 .unfold AtL;rw[<-aL,bB aO[_],fV];rfl
def Aaz(f:Pu P src[Z] .fix[xs.map[φ]])(a:Aie s xs φ Kd dx)(d:Bab P t e xs dx τ ψ)(c:Kd[Aar k cap Z])(b:xs.length<=big):PuL[P][Dn k cap src s t e Z][(xs.filter τ).map ψ]:=by
 refine T9 f ?_;refine At4 ?_ (by rw[aC];exact aD (lX _ _) b)
 have:=Alj a d _ [] c (by simp_all)
 trivial
def Wt(r:∀S,P.p S->AtL n xs.map[φ] S)(q:Pu P src[Z] .liv[n])(h:Aie s xs φ Kd dx)(l:Bab P t e xs dx τ ψ)(i:Kd[Aar k cap Z])(d:xs.length<=big):PuL[P][Dn k cap src s t e Z][(xs.filter τ).map ψ]:=(λS b=>by
 let(G,v):=q S b;let a:=(r S b).app G;let(x,f):=Agg (gt:=liG n) h l (xs.length+1) 0 _ [] _ (λc j=>by
  let z:(S ++ G ++ c)[n]?=_:=a.app c;unfold liG;rw[z];exact congrArg sr cH) (P.st _ _ b) () () i (by simpa using d)
 rw[lU,oJ] at f;let(c,g,u,o,m):=Bae f (by rw[aC];exact aD (lX _ _) d)
 refine(_,g,?_,by rw[<-aL];exact o,by rw[aU] at m;omega)
 unfold Dn;rw[Bk,v];dsimp only;rw[a];dsimp only;rw[aC,u,aL])
def Be7(w:∀S,P.p S->∃G n m,src Z S=.ok[.zl n m][S ++ G]/\AtL n us (S ++ G)/\AtL m vs (S ++ G))(l:∀j:Nat,xs[j]?.map φ=match us[j]?,vs[j]? with|some a,sr b=>sr .tup[[a,b]]|_,_=>sy)(hu:xs.length<=us.length)(o:Aie s xs φ Kd dx)(r:Bab P t e xs dx τ ψ)(q:Kd[Aar k cap Z])(d:xs.length<=big):PuL[P][Dn k cap src s t e Z][(xs.filter τ).map ψ]:=(λS f=>by
 let(G,n,m,y,h,z):=w S f;let(C,g):=Agg (gt:=zlG n m) o r (us.length+1) 0 (Aar k cap Z) [] (S ++ G) (λc j=>by
  let b1:=h.app c;let b2:=z.app c;unfold zlG;rw[b1,b2];dsimp only;rw[l j];cases us[j]? <;> cases vs[j]? <;> rfl) (P.st _ _ f) () () q (by simpa using d)
 rw[lU,oJ] at g;let(c,i,x,v,u):=Bae g (by rw[aC];exact aD (lX _ _) d)
 refine(G ++ c,i,?_,by rw[<-aL];exact v,by rw[aU] at u;omega)
 unfold Dn;rw[Bk,y];dsimp only;rw[h];dsimp only;rw[x,aL])
end
section
variable{i k n:Nat}
def Wu(c:∀S,P.p S->AtL n d S)(h:Pu P f[Z] .ref[n]):Pu P (Eo f Z) .liv[n]:=(λS b=>by
 let(G,e):=h S b;refine(G,?_);let a:=(c S b).app G;unfold AtL at a;unfold Eo;rw[Bk,e];show (match (S ++ G)[n]? with|some (.lst _)=>R.ok[Src.liv n][S ++ G]|_=>.bad)=_
 rw[a])
def Baf(b:a.length<=big):PuL P Atf[[.tup a]] a:=(λS c=>([.lst a],S.length,by
 show Ck a S=_;unfold Ck;rw[di b],by rw[bB aO[_],fV];rfl,aO _))
end
section
variable{β:Type}{xs:lg β}{φ ψ:β->W}{dx:β->De}{τ:β->Bool}{k:Nat}{cap:lg Nat}
def Bag(d:Pu P c[Z] p)(hp:p=t8)(b:PuL P f[Z] a):PuL P (Jz c f g Z) a:=by
 subst hp;exact T9 d b
def Bah(d:Pu P c[Z] p)(hp:p=t7)(b:PuL P g[Z] a):PuL P (Jz c f g Z) a:=by
 subst hp;exact T9 d b
end
def Wm{α:Type}(m:M α)(S:Store)(Q:α->Store->Prop):Prop:=∃(a:α)(S':Store),m S=.ok a S'/\Q a S'
structure Wb(b:MS)(Z:De)(S:Store)(K:RS->Prop):Prop where
 un:K (b Z S)
structure Fr(L:List Nat)(S S':Store):Prop where
 len:S.length<=S'.length
 get:∀i,i < S.length->i∉L->S'[i]?=S[i]?
section
variable{L L':lg Nat}{S S1 S2 G:Store}{i n:Nat}{c:Cell}
def Fr.refl:Fr L S S:=(aO _,λuu uu uu=>rfl)
theorem Fr.app:Fr [] S (S ++ G):=(by simp,λi hi a=>aX hi)
theorem Fr.set:Fr [n] S (S.set n c):=(by simp,λi a hi=>cX[λe=>hi (by rw[e];exact aR.mpr rfl)])
theorem Fr.trans(a:Fr L S S1)(d:Fr L' S1 S2)(f:∀i∈L',i∈L\/S.length<=i):Fr L S S2:=(aD a.len d.len,λi hi b=>by
 rw[d.get[i][bH hi a.len][λe=>(f i e).elim b (λz=>absurd hi aEx.mpr[z])],a.get i hi b])
def Fr.then0(b:Fr L S S1)(a:Fr [] S1 S2):Fr L S S2:=(b.trans a λd h=>(nomatch h))
def Fr.same(h1:Fr L S S1)(h2:Fr L S1 S2):Fr L S S2:=h1.trans h2 λuu h=>.inl h
def Fr.mono(h:Fr L S S1)(hL:∀i∈L,i∈L'):Fr L' S S1:=(h.len,λi hi hn=>h.get i hi (λz=>hn[hL i z]))
def Fr.of0(h:Fr [] S S1):Fr L S S1:=(h.mono λa h=>(nomatch h))
def Fr.at(h:Fr L S S1)(e:S[i]?=sr c)(hi:i∉L):S1[i]?=sr c:=(h.get i (aK.mp e).1 hi).trans e
def Fr.at0(h:Fr [] S S1)(e:S[i]?=sr c):S1[i]?=sr c:=(h.at e (λz=>nomatch z))
def Fr.at1(h:Fr [n] S S1)(e:S[i]?=sr c)(hi:i≠n):S1[i]?=sr c:=h.at e (λz=>hi aR.mp[z])
def Fj(e:S[i]?=sr c):i < S.length:=(aK.mp e).1
def M3(h:i < S.length):(S.set i c)[i]?=sr c:=dJ h
end
section
variable{α β:Type}{m:M α}{f:α->M β}{a:α}{S:Store}{Q Q2:α->Store->Prop}{Q':β->Store->Prop}{P:SP}{Z:De}{ws us:lg W}
def Dc(h:Wm m S λa d=>Wm f[a] d Q'):Wm (m >>= f) S Q':=by
 let(a,i,e,b,c,g,q):=h;exact(b,c,by rw[Bk,e];omega,q)
def Jf(q:Q a S):Wm pure[a] S Q:=(a,S,rfl,q)
def Js(h:Pu P m a)(c:P.p S)(k:∀b,Fr [] S b->Q a b):Wm m S Q:=by
 let(G,e):=h S c;exact(a,_,e,k _ .app)
def Ar(h:Pu SP.any m a)(k:∀S',Fr [] S S'->Q a S'):Wm m S Q:=Js h trivial k
def Dw(h:Wm m S Q)(k:∀a b,Q a b->Q2 a b):Wm m S Q2:=by
 let(a,b,e,q):=h;exact(a,b,e,k a b q)
def Ab7{m:M W}{Q:W->Store->Prop}(h:PuL P m ws)(d:P.p S)(k:∀n b,Fr [] S b->b[n]?=sr .lst[ws]->S.length<=n->Q .ref[n] b):Wm m S Q:=by
 let(G,n,e,c,hf):=h S d;exact(_,_,e,k n _ .app c hf)
def Agh(h:Wm m S Q):Wm noX[m] S Q:=by
 let(a,b,e,q):=h;exact(a,b,by unfold noX;rw[e],q)
def Aey{s:lg W->M W}{gs:De->M lg[W]}{Q:W->Store->Prop}(h1:Pu P gs[Z] ws)(hS:P.p S)(h2:∀S',Fr [] S S'->Wm s[ws] S' Q):Wm (Dm s gs Z) S Q:=Dc[Js h1 hS h2]
def Ei{s:lg W->M W}{gs:De->M lg[W]}{Q:W->Store->Prop}(h:Wm gs[Z] S λws S'=>Wm s[ws] S' Q):Wm (Dm s gs Z) S Q:=Dc h
def Av{g:De->M W}{d:De->M lg[W]}{Q:lg W->Store->Prop}(h:Wm g[Z] S λw i=>Wm d[Z] i λws e=>Q (w::ws) e):Wm (Eu g d Z) S Q:=(
 Dc[Dw h λc c h=>Dc[Dw h λc c q=>Jf q]])
def Bm{Q:lg W->Store->Prop}(q:Q [] S):Wm nilF[Z] S Q:=Jf q
theorem Cd{i:Nat}{w:W}{Q:W->Store->Prop}(e:Z[i]?=sr sr[w])(q:Q w S):Wm (Ab i Z) S Q:=(w,S,by unfold Ab;rw[e];rfl,q)
def Gd{w:W}{Q:W->Store->Prop}(q:Q w S):Wm (kF w Z) S Q:=Jf q
def Lq{o:Bop}{f g:De->M W}{Q:W->Store->Prop}(h:Wm f[Z] S λx S1=>Wm g[Z] S1 λy S2=>Wm (o.fn x y) S2 Q):Wm (Al o f g Z) S Q:=Dc[Dw h λuu uu h=>Dc h]
def Aro{o:yM}{f g:De->M W}{Q:W->Store->Prop}(h:Wm f[Z] S λx S1=>Wm g[Z] S1 λy S2=>Wm (El o x y) S2 Q):Wm (Dz o f g Z) S Q:=Dc[Dw h λuu uu h=>Dc h]
def Aja{f g:De->M W}{Q:W->Store->Prop}(h:Wm f[Z] S λx S1=>Wm g[Z] S1 λy S2=>Wm (ixW x y) S2 Q):Wm (ixF f g Z) S Q:=Dc[Dw h λuu uu h=>Dc h]
def Ig{f:De->M W}{Q:Bool->Store->Prop}{p:Bool}(h:Wm f[Z] S λx c=>x=.bl p/\Q p c):Wm (Dp f Z) S Q:=(Dc (Dw h λ_ _ ⟨e,q⟩=>by subst e;exact Jf q))
def Xr{c:De->M lg[W]}{Q:W->Store->Prop}(h:Wm c[Z] S λws b=>ws.length<=big/\Q[.ref b.length][b ++ [.lst ws]]):Wm (Hf c Z) S Q:=(Dc[Dw h λws b ⟨hl,q⟩=>(_,_,by unfold Ck;simp_all,q)])
def Hg{b:De->M lg[W]}{Q:W->Store->Prop}(h:Wm b[Z] S λws c=>ws.length<=big/\Q .tup[ws] c):Wm (Df b Z) S Q:=(Dc[Dw h λws c ⟨hl,q⟩=>(_,_,by unfold Akx;rw[di hl];rfl,q)])
theorem Ab8{Q:W->Store->Prop}(b:ws.length<=big)(q:Q[.ref S.length][S ++ [.lst ws]]):Wm Ck[ws] S Q:=(_,_,by unfold Ck;simp_all,q)
def Ey:(S ++ [c])[S.length]?=sr c:=by rw[bB aO[_],fV];rfl
theorem Ro{n:Nat}{i:Int}{w:W}{Q:W->Store->Prop}(b:S[n]?=sr .lst[ws])(hi:atI ws i=sr w)(q:Q w S):Wm (ixW .ref[n] .int[i]) S Q:=(w,S,by
 unfold ixW;dsimp only;rw[b];dsimp only;rw[hi];rfl,q)
theorem At6{n:Nat}{Q:W->Store->Prop}(c:S[n]?=sr .lst[ws])(q:Q .int[ws.length] S):Wm Cq[[.ref n]] S Q:=(_,S,by
 unfold Cq;simp_all,q)
theorem Kw{n:Nat}{Q:W->Store->Prop}(c:S[n]?=sr .lst[ws])(q:Q .tup[ws] S):Wm Ed[[.ref n]] S Q:=(_,S,by
 unfold Ed;simp_all,q)
def Aez{d:W->lg W->M W}{f:De->M W}{g:De->M lg[W]}{n:Nat}{Q:W->Store->Prop}(o:Pu P f[Z] .ref[n])(k:P.p S)(j:S[n]?=sr .lst[ws])(l:∀i,Fr [] S i->Wm g[Z] i λus q=>Wm (d .ref[n] us) q Q):Wm (Ir .lst d f g Z) S Q:=by
 refine Dc[Js o k λc h=>?_];refine Dc (u9,c,?_,Dc[l c h]);let e:Ty.lst.is .ref[n] c=t8:=by
  simp[Ty.is,h.at0 j]
 exact di e
theorem Ab9{n:Nat}{w:W}{Q:W->Store->Prop}(b:S[n]?=sr .lst[ws])(d:ws.length < big)(q:Q .non (S.set n .lst[ws ++ [w]])):Wm (Ra .ref[n] [w]) S Q:=(_,_,by
 unfold Ra Ai4 putL;dsimp only;rw[b];dsimp only;rw[di (by rw[aU,dU];omega)],q)
theorem Bai{n j:Nat}{i:Int}{w:W}{Q:W->Store->Prop}(d:S[n]?=sr .lst[ws])(b:ws.length<=big)(e:ixN ws.length i=sr j)(c:ws[j]?=sr w)(q:Q w (S.set n .lst[ws.eraseIdx[j]])):Wm (Rb .ref[n] [.int i]) S Q:=(_,_,by
 unfold Rb Ai4 putL;dsimp only;rw[d];dsimp only;rw[di b,e];dsimp only;rw[c];dsimp only;rw[di[aD (by rw[pM];split <;> omega) b]],q)
theorem At7{a b:Nat}{ws us:lg W}{Q:W->Store->Prop}(h:S[a]?=sr .lst[ws])(g:S[b]?=sr .lst[us])(e:ws.length+us.length<=big)(q:Q[.ref S.length][S ++ [.lst[ws ++ us]]]):Wm (Bop.fn .add .ref[a] .ref[b]) S Q:=(_,_,by
 show addW .ref[a] .ref[b] S=_;unfold addW;simp_all,q)
def At8{f g:De->M W}{t:De->M Bool}{Q:W->Store->Prop}(h:Wm t[Z] S λp b=>p=t8/\Wm f[Z] b Q):Wm (Jz t f g Z) S Q:=(Dc (Dw h λp b ⟨e,q⟩=>by subst e;exact q))
def Aa0{f g:De->M W}{t:De->M Bool}{Q:W->Store->Prop}(h:Wm t[Z] S λp b=>p=t7/\Wm g[Z] b Q):Wm (Jz t f g Z) S Q:=(Dc (Dw h λp b ⟨e,q⟩=>by subst e;exact q))
def Be8{t u:De->M Bool}{Q:Bool->Store->Prop}(h:Wm t[Z] S λp c=>p=t8/\Wm u[Z] c Q):Wm (Ad3 t u Z) S Q:=(Dc (Dw h λp c ⟨e,q⟩=>by subst e;exact q))
end
section
variable{b b' b2:MS}{Z Z':De}{S:Store}{K:RS->Prop}{f:De->M W}{t:De->M Bool}{i k n:Nat}{P:SP}{ws:lg W}{p:Bool}
def Sg(b':MS)(K:RS->Prop):RS->Prop
 |.nx Z1 S1=>Wb b' Z1 S1 K
 |r=>K r
def Lr(h:Wb b Z S (Sg b' K)):Wb (Am b b') Z S K:=(⟨by
 let h:=h.un;unfold Am;revert h;cases b Z S with
 |nx a c=>exact λh=>h.un
 |_=>exact λh=>h⟩)
def La{c:Type}{m:M c}{k:c->MS}(h:Wm m S λa d=>K[k a Z d]):K[Ez m k Z S]:=by
 let(a,d,e,q):=h;unfold Ez;simp_all
def Bw(h:Wm f[Z] S λw S'=>Wb b' (Z.set i sr[w]) S' K):Wb Am[Bg i f][b'] Z S K:=Lr ⟨La h⟩
def Aa1(h:Wm f[Z] S λuu S'=>Wb b' Z S' K):Wb (Am Tu[f] b') Z S K:=Lr ⟨La h⟩
def Ef(h:Wm f[Z] S λw S'=>K[.rt w S']):Wb (Am retS[f] b') Z S K:=Lr ⟨La h⟩
def Jg(h:K[.nx Z S]):Wb Ay Z S K:=⟨h⟩
def Arp(h:Wm t[Z] S λp a=>Wb (if p then b else b2) Z a (Sg b' K)):Wb Am[ifS t b b2][b'] Z S K:=(Lr ⟨La (Dw h λp a q=>by cases p <;> exact q.un)⟩)
def Fp(h:Wm t[Z] S λp a=>p=t8/\Wb b Z a (Sg b' K)):Wb Am[ifS t b b2][b'] Z S K:=(Arp (Dw h λp a ⟨e,q⟩=>by subst e;exact q))
def Dt(h:Wm t[Z] S λp a=>p=t7/\Wb b' Z a K):Wb Am[ifS t b Ay][b'] Z S K:=(Arp (Dw h λp a ⟨e,q⟩=>by subst e;exact⟨q⟩))
def Be9{d:Nat}(w:Pu P h[Z] v)(u:Pu P f[Z] .ref[d])(s:Pu P g[Z] m)(c:P.p S)(hd:S[d]?=sr .dct[a])(r:Afw m=sr kk)(o:a.length < big)(q:∀j,Fr [] S j->Wb b' Z (j.set d .dct[Aaq a kk v]) K):Wb Am[Af1 f g h][b'] Z S K:=by
 let(l,z):=w S c;let(C,y):=u[S ++ l][P.st _ _ c];let(B,x):=s _ P.st[_][_][P.st _ _ c];let e:Fr [] S (S ++ l ++ C ++ B):=(Fr.app.then0 Fr.app).then0 Fr.app;refine Lr ⟨?_⟩;refine La (u9,_,?_,q _ e);rw[Bk,z];dsimp only;rw[Bk,y];dsimp only;rw[Bk,x];unfold Ai6;dsimp only;rw[e.at0 hd];rw[r];dsimp only;rw[di o]
def Aca(Q:W->Store->Prop):RS->Prop
 |.rt w S'=>Q w S'
 |.nx _ S'=>Q .non S'
 |_=>False
def Jo(a:ws.length=k)(h:Wb b (Bl n ws) S Aca[Q]):Wm (Cp k n b ws) S Q:=by
 let h:=h.un;unfold Wm Cp;rw[di a];revert h;cases b _ S with
 |nx Z c=>exact λh=>(_,_,rfl,h)
 |rt w c=>exact λh=>(_,_,rfl,h)
 |bk _ _=>exact λh=>h.elim
 |ct _ _=>exact λh=>h.elim
 |ex _ _ _=>exact λh=>h.elim
 |bad=>exact λh=>h.elim
theorem Ajb(h:∀w T,Q1 w T->Q2 w T):∀r,Aca Q1 r->Aca Q2 r
 |.rt w S',z=>h w S' z
 |.nx _ S',z=>h _ S' z
 |.bk _ _,z=>z
 |.ct _ _,z=>z
 |.ex _ _ _,z=>z
 |.bad,z=>z
theorem Arq(h:∀r,K r->K' r):∀r,Sg b' K r->Sg b' K' r
 |.nx _ _,z=>⟨h _ z.un⟩
 |.rt _ _,z=>h _ z
 |.bk _ _,z=>h _ z
 |.ct _ _,z=>h _ z
 |.ex _ _ _,z=>h _ z
 |.bad,z=>h _ z
def At9(h:Wb b Z S (Sg b' Aca[Q1]))(k:∀w T,Q1 w T->Q2 w T):Wb b Z S (Sg b' Aca[Q2]):=⟨Arq Ajb[k] _ h.un⟩
def Baj(h:Wb b Z S Aca[Q1])(k:∀w T,Q1 w T->Q2 w T):Wb b Z S Aca[Q2]:=⟨Ajb k _ h.un⟩
def Aua(J:De->Store->Prop)(K:RS->Prop):RS->Prop
 |.nx Z S=>J Z S
 |.ct Z S=>J Z S
 |.bk Z S=>K (.nx Z S)
 |r=>K r
def Aa2{J:Nat->De->Store->Prop}(step:∀(i:Nat)(w:W)(Z:De)(S:Store),ws[i]?=sr w->J i Z S->∃l,s w Z=sr l/\Wb b l S (Aua J[i+1] K))(r:∀Z S,J ws.length Z S->K[.nx Z S])(y:J 0 Z S):Wb (Nk s b ws) Z S K:=by
 let o:∀(d:lg W)(i:Nat)(Z:De)(S:Store),ws.drop i=d->J i Z S->i<=ws.length->Wb (Nk s b d) Z S K:=by
  intro d;induction d with
  |nil=>
   intro i Z S hd q hi;have:i=ws.length:=by
    have:=vP.mp hd;omega
   subst this;exact⟨r Z S q⟩
  |cons w d u=>
   intro i Z S hd q hi;let c:i < ws.length:=by
    rcases oF i ws.length with h|h
    .exact h
    .rw[fW h] at hd;cases hd
   let g:=gO c;rw[hd] at g;let x:ws[i]?=sr w:=by rw[aZ c,(jD g).1]
   let(l,z,a):=step i w Z S x q;let a:=a.un;refine⟨?_⟩;unfold Nk;rw[z];dsimp only;revert a;cases b l S with
   |nx j m=>exact λa=>(u (i+1) j m (jD g).2.symm a c).un
   |ct j m=>exact λa=>(u (i+1) j m (jD g).2.symm a c).un
   |bk j m=>exact λa=>a
   |rt _ _=>exact λa=>a
   |ex _ _ _=>exact λa=>a
   |bad=>exact λa=>a
 exact o ws 0 Z S rfl y cY[_]
def Acb(e:Pu P src[Z] .fix[ws])(c:P.p S)(d:∀a,Fr [] S a->Wb (Nk s b ws) Z a (Sg b' K)):Wb Am[Sx src s b][b'] Z S K:=(
 Lr ⟨La[Js e c λa f=>(d a f).un]⟩)
theorem Acd{J:Nat->De->Store->Prop}(step:∀(m:Nat)(Z:De)(S:Store),J m Z S->Wm c[Z] S λp j=>if p=t8 then Wb b Z j (Aua (λe g=>∃d,d < m/\J d e g) K) else K[.nx Z j]):
  ∀(fuel m:Nat)(Z:De)(S:Store),J m Z S->m < fuel->Wb (Mv c b fuel) Z S K
 |0,m,_,_,_,h=>by omega
 |fuel+1,m,Z,S,u,w=>by
  refine⟨?_⟩;refine La[Dw[step m Z S u] λp j h=>?_];cases p with
  |false=>exact h
  |true=>
   let h:=h.un;show K (match b Z j with
    |.nx q s=>_
    |.ct q s=>_
    |.bk q s=>_
    |r=>r)
   revert h;cases b Z j with
   |nx e g=>rintro⟨d,v,o⟩;exact(Acd step fuel d e g o ()).un
   |ct e g=>rintro⟨d,v,o⟩;exact(Acd step fuel d e g o ()).un
   |bk e g=>exact λa=>a
   |rt _ _=>exact λa=>a
   |ex _ _ _=>exact λa=>a
   |bad=>exact λa=>a
def Aof{J:Nat->De->Store->Prop}{fuel m:Nat}(h:J m Z S)(g:m < fuel)(step:∀(m:Nat)(Z:De)(S:Store),J m Z S->Wm c[Z] S λp e=>if p=t8 then Wb b Z e (Aua (λj l=>∃d,d < m/\J d j l) (Sg b' K)) else Wb b' Z e K):
  Wb Am[Mv c b fuel][b'] Z S K:=(Lr[Acd step fuel m Z S h g])
def Aog{J:Nat->De->lg W->Store->Prop}(step:∀(i:Nat)(w:W)(Z:De)(a:lg W)(S:Store),ws[i]?=sr w->J i Z a S->∃g,s w Z=sr g/\Wm t[g] S λp o=>if p=t8 then Wm e[g] o λy x=>a.length < big/\J (i+1) g (a ++ [y]) x else J (i+1) g a o)(v:∀Z a S,J ws.length Z a S->Q a S)(E:J 0 Z a S):Wm (R9 s t e ws Z a) S Q:=by
 let q:∀(j:lg W)(i:Nat)(Z:De)(a:lg W)(S:Store),ws.drop i=j->J i Z a S->i<=ws.length->Wm (R9 s t e j Z a) S Q:=by
  intro j;induction j with
  |nil=>
   intro i Z a S hd u hi;have:i=ws.length:=by
    have:=vP.mp hd;omega
   subst this;exact Jf (v Z a S u)
  |cons w j z=>
   intro i Z a S hd u hi;let d:i < ws.length:=by
    rcases oF i ws.length with h|h
    .exact h
    .rw[fW h] at hd;cases hd
   let m:=gO d;rw[hd] at m;let B:ws[i]?=sr w:=by rw[aZ d,(jD m).1]
   let(g,F,D):=step i w Z a S B u;unfold R9 Mx;rw[F];dsimp only;refine Dc Agh[Dw D λp o h=>?_];cases p with
   |false=>exact z (i+1) g a o (jD m).2.symm h d
   |true=>
    refine Dc Agh[Dw h λy x A=>?_];let(C,r):=A;rw[di C];exact z (i+1) g (a ++ [y]) x (jD m).2.symm r d
 exact q ws 0 Z a S rfl E cY[_]
theorem Ace{J:Nat->De->lg W->Store->Prop}{gt:Store->Nat->o9 o9[W]}(there:∀i Z c S,J i Z c S->gt S i=sr ws[i]?)(step:∀(i:Nat)(w:W)(Z:De)(c:lg W)(S:Store),ws[i]?=sr w->J i Z c S->∃d,s w Z=sr d/\Wm t[d] S λp m=>if p=t8 then Wm e[d] m λy u=>c.length < big/\J (i+1) d (c ++ [y]) u else J (i+1) d c m)(j:∀Z c S,J ws.length Z c S->Q c S):∀(fuel i:Nat)(Z:De)(c:lg W)(S:Store),J i Z c S->i<=ws.length->ws.length < i+fuel->Wm (Jq s t e gt fuel i Z c) S Q
 |0,i,_,_,_,_,_,_=>by omega
 |fuel+1,i,Z,c,S,r,hi,hf=>by
  show ∃a C,_;unfold Jq;rw[there i Z c S r];by_cases o:i < ws.length
  .let v:=aZ o;rw[v];dsimp only;let(d,B,A):=step i getElem[ws][i][by get_elem_tactic] Z c S v r;rw[B];dsimp only;refine Dc Agh[Dw A λp m h=>?_];cases p with
   |false=>exact Ace there step j fuel (i+1) d c m h o ()
   |true=>
    refine Dc Agh[Dw h λy u x=>?_];let(z,q):=x;rw[di z];exact Ace there step j fuel (i+1) d (c ++ [y]) u q o ()
  .have:i=ws.length:=by omega
   subst this;rw[iJ aO[_]];exact(_,_,rfl,j Z c S r)
def Aub{k:Nat}{a:lg Nat}(r:Pu P src[Z] .fix[ws])(m:P.p S)(o:∀d,Fr [] S d->Wm (R9 s t e ws (Aar k a Z) []) d λc h=>c.length<=big/\Q[.ref h.length][h ++ [.lst c]]):Wm (Dn k a src s t e Z) S Q:=(
 Dc[Js r m λd f=>Dc[Dw[o d f] λ_ _ ⟨hl,q⟩=>Ab8 hl q]])
def Bak{k d:Nat}{c:lg Nat}(v:Pu P src[Z] .liv[d])(r:P.p S)(hd:S[d]?=sr .lst[ws])(u:∀h,Fr [] S h->Wm (Jq s t e liG[d] (ws.length+1) 0 (Aar k c Z) []) h λg l=>g.length<=big/\Q[.ref l.length][l ++ [.lst g]]):Wm (Dn k c src s t e Z) S Q:=by
 refine Dc[Js v r λh f=>?_];let(a,w,x,q):=Dc[Dw[u h f] λ_ _ ⟨o,q⟩=>Ab8 o q]
 refine(a,w,?_,q);show (match h[d]? with|some (.lst ws)=>_|_=>R.bad)=_
 rw[f.at0 hd];omega
end
end D
namespace M1
open PySem PySem.Builtin.Str
def sgs:t6:="0123456789abcdefghijklmnopqrstuvwxyzABCDEFGHIJKLMNOPQRSTUVWXYZ+-"
def Bal:sgs.cps.toList=[48,49,50,51,52,53,54,55,56,57,97,98,99,100,101,102,103,104,105,106,107,108,109,110,111,112,113,114,115,116,117,118,119,120,121,122,65,66,67,68,69,70,71,72,73,74,75,76,77,78,79,80,81,82,83,84,85,86,87,88,89,90,43,45]:=by rfl
def Aa3:sgs.cps.size=64:=by decide +kernel
def Ars:sgs.length=64:=Aa3
def sg(v:Nat):Nat:=sgs.cps.getD v 0
def one(c:Nat):t6:=⟨#[c]⟩
def Agi(c:Nat):(one c).length=1:=rfl
def Art{v:Nat}(h:v < 64):sgs.cps.toList[v]?=sr sg[v]:=by
 let b:v < sgs.cps.size:=by rw[Aa3];omega
 unfold sg;simp_all
def subAt_one{c i:Nat}(hi:i < x.cps.size)(h:subAt x one[c] i=t8):x.cps[i]?=sr c:=by
 let b:=congrArg[λa=>a[0]?][eq_of_beq h];rw[Array.getElem?_extract_of_lt (by rw[Agi];omega)] at b
 rw[rE hi];trivial
def idx(c:Nat):Nat:=(occurrences sgs one[c] 0 sgs.length 1).headD 0
def inS(c:Nat):Bool:=!(occurrences sgs one[c] 0 sgs.length 1).isEmpty
def Agj{c:Nat}(h:inS c=t8):∃rest,occurrences sgs one[c] 0 sgs.length 1=idx c::rest:=by
 unfold inS at h;unfold idx;cases e:occurrences sgs _ 0 sgs.length 1 with
 |nil=>simp_all
 |cons i r=>exact(r,rfl)
def Agk{c:Nat}(h:inS c=t8):idx c < 64/\sgs.cps[idx c]?=sr c:=by
 let(r,e):=Agj h;let q:=StrLaws.occ_spec sgs _ 0 sgs.length 1 _ (by rw[e];exact bJ)
 rw[Agi,Ars] at q;exact((),subAt_one (by rw[Aa3];omega) q.2)
def Aru{c:Nat}(h:inS c=t8):idx c < 64:=(Agk h).1
def Bam{v:Nat}(h:v < 64):inS sg[v]=t8:=by
 unfold inS one;rw[StrLaws.found_one];exact dj jU[Art[h]]
def Bkl{v:Nat}(h:v < 64):idx sg[v]=v:=by
 let(j,c):=Agk Bam[h];let a:sgs.cps.toList[idx sg[v]]?=sr sg[v]:=by rw[iK];exact c
 let b:=Art h;let(i,e):=aK.mp a;let(g,d):=aK.mp b;exact(oX (by
   rw[Bal];decide)).mp e.trans[d.symm]
def Ce:Nat->Int->t6
 |0,_=>⟨#[]⟩
 |k+1,n=>one sg[(n / 64 ^ k % 64).toNat] ++ Ce k n
def Awf(k:Nat)(n:Int):(Ce k n).cps.size=k:=by
 induction k with
 |zero=>rfl
 |succ k a=>
  show ((one _).cps ++ _).size=k+1;rw[rZ,a];show 1+k=k+1;omega
def Acf:lg Nat->Int->Int
 |[],n=>n
 |c::r,n=>Acf r (n * 64+(idx c:Int))
def Acg(k:Nat)(n:Int):(Ce (k+1) n).cps.toList=sg (n / 64 ^ k % 64).toNat::(Ce k n).cps.toList:=by
 show ((one _).cps ++ _).toList=_;rw[pY];rfl
def toNat_lt(n:Int):(n % 64).toNat < 64:=by omega
def Ban(n:Int){p q:Int}(hp:0 < p)(b:0 < q):n % (p * q)=(n / p % q) * p+n % p:=by
 let j:=uZ n p;let i:=uZ (n / p) q;let d:=gK[n / p][aDg b];let h:=jN (n / p) b;let c:=gK n aDg[hp];let g:=jN n hp;generalize n / p % q=r at *
 generalize n % p=t at *
 generalize n / p / q=m at *
 let f:n=(r * p+t)+(p * q) * m:=by
  grind
 rw[f,Int.add_mul_emod_self_left];refine yO Int.add_nonneg[Int.mul_nonneg d aDh[hp]][c] ?_;let e:(r+1) * p<=q * p:=Int.mul_le_mul_of_nonneg_right () aDh[hp]
 rw[aEb,Int.one_mul] at e;rw[yP p q];omega
def Bao(k:Nat)(n a:Int)(_hn:0<=n):Acf (Ce k n).cps.toList a=a * 64 ^ k+n % 64 ^ k:=by
 induction k generalizing a with
 |zero=>show a=_;omega
 |succ k c=>
  rw[Acg];show Acf (Ce k n).cps.toList _=_;rw[c,Bkl toNat_lt[_]];let e:_=n / 64 ^ k % 64:=cO[gK _ ()]
  rw[e];let d:n % 64 ^ (k+1)=(n / 64 ^ k % 64) * 64 ^ k+n % 64 ^ k:=by
   rw[uI];exact Ban n Int.pow_pos[by simp] (by simp)
  rw[d,uI,aEb,Int.mul_assoc,yP 64 _];omega
def Auc{k:Nat}{n:Int}(b:0<=n)(c:n < 64 ^ k):Acf (Ce k n).cps.toList 0=n:=by
 rw[Bao k n 0 b,Int.zero_mul,oK];exact yO b c
end M1
namespace M2
open PySem PySem.Builtin.Str M1
def okC(c:Nat):Bool:=decide[32<=c]&&decide[c<=126]&&decide[c≠37]
def Bs(x:t6):Bool:=x.cps.toList.all okC
def Agl(l:lg Nat)(k:Nat):Int:=((eZ k).map λ(i:Nat)=>((l.getD i 0:Nat) - 32+1:Int) * ((i:Int)+1)).sum
def chk(l:lg Nat):Int:=Agl l l.length
def Awg(l:lg Nat)(k:Nat):Agl l (k+1)=Agl l k+((l.getD k 0:Nat) - 32+1:Int) * ((k:Int)+1):=by
 unfold Agl;rw[List.range_succ,dY,List.sum_append,bL,lK,nF,List.sum_nil];omega
def check(x:t6):t6:=Ce 2 (chk x.cps.toList % 4093)
def Ae0{c:Nat}:okC c=t8 ↔ 32<=c/\c<=126/\c≠37:=by
 unfold okC;simp[and_assoc]
def Alk{l:lg Nat}{a:Nat}(h:l.all okC=t8)(c:a < l.length):okC[l.getD a 0]=t8:=by
 rw[dN,aZ c];exact aQ.mp h _ pD[c]
def Aoh{b:Type}{p:b->Bool}{a:b}{l:lg b}(f:p a=t8)(h:∃c∈a::l,p c=t7):∃c∈l,p c=t7:=by grind
theorem Ach{b:Type}(p:b->Bool):∀l:lg b,(∃c∈l,p c=t7)->(l.takeWhile p).length < l.length
 |[],h=>by simp_all
 |a::l,h=>by
  rw[pZ];cases f:p a with
  |false=>simp
  |true=>
   have:=Ach p l (Aoh f h);simp_all
theorem Ajc{b:Type}(p:b->Bool):∀l:lg b,(∀c∈l,p c=t8)->l.takeWhile p=l
 |[],_=>rfl
 |a::l,h=>by
  rw[pZ,h a .head[_],di rfl,Ajc p l (λc f=>h c (.tail _ f))]
theorem Ajd{b:Type}(p:b->Bool):∀l:lg b,(∃c∈l,p c=t7)->∃c∈l.drop (l.takeWhile p).length,p c=t7
 |[],h=>by trivial
 |a::l,h=>by
  rw[pZ];cases f:p a with
  |false=>trivial
  |true=>
   exact Ajd p l (Aoh f h)
def Awh(h:∀c∈x.cps.toList,y.cps.contains c=t8):jM x y=⟨#[]⟩:=by
 let lo:stripLo y.cps.contains t8 x=x.cps.size:=by
  unfold stripLo;rw[di rfl,Ajc _ _ h,aV]
 unfold jM aEc;split
 .rename_i a;unfold stripSame at a;rw[lo,aB] at a;have:x.cps.size=0:=by simpa using a.1
  cases x with|mk b=>
  exact congrArg aFn pF[this]
 .unfold stripped;rw[lo];exact congrArg aFn pF[by simp]
def Awi(h:∃c∈x.cps.toList,y.cps.contains c=t7):jM x y≠⟨#[]⟩:=by
 let i:x.cps.toList.length=x.cps.size:=aV;let a:stripLo y.cps.contains t8 x=(x.cps.toList.takeWhile y.cps.contains).length:=by
  rfl
 let k:=Ach _ _ h;let j:=Ajd _ _ h;let f:∃c∈(x.cps.toList.drop (x.cps.toList.takeWhile y.cps.contains).length).reverse,y.cps.contains c=t7:=by
  simp_all
 let d:=Ach _ _ f;rw[List.length_reverse,bM] at d;intro e;let e:=congrArg (λz:t6=>z.cps.size) e;unfold jM aEc at e;split at e
 .let e:x.cps.size=0:=e;omega
 .unfold stripped at e;rw[a] at e;unfold stripHi at e;let e:(x.cps.extract (x.cps.toList.takeWhile y.cps.contains).length (x.cps.size - _)).size=0:=e;rw[Array.size_extract] at e;omega
def tsg:t6:=" !\"#$&'()*+,-./0123456789:;<=>?@ABCDEFGHIJKLMNOPQRSTUVWXYZ[\\]^_`abcdefghijklmnopqrstuvwxyz{|}~"
def Bfa:∀c,c < 127->tsg.cps.contains c=okC c:=by decide +kernel
def Bfb:tsg.cps.toList.all[λc=>decide[c < 127]]=t8:=by decide +kernel
def Bap(c:Nat):tsg.cps.contains c=okC c:=by
 by_cases h:c < 127
 .exact Bfa c h
 .let e:okC c=t7:=by
   unfold okC;rw[dq (p:=c<=126) (),Bool.and_false,vG]
  rw[e];cases d:tsg.cps.contains c with
  |false=>rfl
  |true=>
   let b:c∈tsg.cps.toList:=by simpa using d
   exact absurd dg[aQ.mp Bfb c b] h
def Arv(z:t6):(jM z tsg==⟨#[]⟩)=Bs z:=by
 cases h:Bs z with
 |true=>
  rw[Awh (λc a=>by rw[Bap];exact aQ.mp h c a)]
  exact beq_self_eq_true _
 |false=>
  rw[beq_eq_false_iff_ne];refine Awi ?_;let(c,a,hp):=List.all_eq_false.mp h;exact(c,a,by rw[Bap];exact tU _ ▸ hp)
end M2
namespace K6
open PySem PySem.Spec PyProof.Rows L2 D
abbrev kI(i:Int):=kF .int[i]
abbrev kS(z:t6):=kF .str[z]
abbrev kB(b:Bool):=kF .bl[b]
abbrev yA(f:De->M W):=Eu f nilF
abbrev yB(f g:De->M W):=Eu f yA[g]
abbrev yC(f g h:De->M W):=Eu f (yB g h)
abbrev yD(f g h i:De->M W):=Eu f (yC g h i)
abbrev zA(s:lg W->M W)(f:De->M W):=Dm s yA[f]
abbrev zB(s:lg W->M W)(f g:De->M W):=Dm s (yB f g)
abbrev zC(s:lg W->M W)(f g h:De->M W):=Dm s (yC f g h)
abbrev tQ(o:yM)(f g:De->M W):=Dp[Dz o f g]
abbrev rQ(f:De->M W):=Am retS[f] Ay
def top(i:Nat):dI:=PySem.Challenge.pw_leafhouse_k06_texts_with_checks_anew.main.body.getD i (.Pass (0,0,0,0))
def fuel:Nat:=1000
def Bnn:lg[Nat×Nat×Bool]:=[(0,0,t8),(0,1,t7),(0,2,t7),(0,3,t7),(1,0,t8),(1,1,t8),(1,2,t7),(1,3,t7),(2,0,t8),(2,1,t7),(2,2,t8),(2,3,t7),(3,0,t8),(3,1,t7),(3,2,t7),(3,3,t8)]
def Bno:lg Nat:=[0,1,2,3]
def isa:Nat->W->o9 Bool:=Az2 Bnn Bno
def Bnp:lg[Nat×t6]:=[(4,"body"),(4,"place")]
def xfL:lg[Nat×t6]:=[(3,"number")]
def fld(b:Bool)(c:Nat)(f:t6):Bool:=if b then xfL.lookup c==sr f else Bnp.contains[u6 c f]
def mnL:lg t6:=["__init__","next_cell","next_key","next_keys","next_number","next_numbers","next_row","next_rows","next_signs"]
def mkL:lg[t6×Nat]:=[("BodyReader",4)]
def Bnq:lg[t6×W]:=(u6 "SIGNS" .str["0123456789abcdefghijklmnopqrstuvwxyzABCDEFGHIJKLMNOPQRSTUVWXYZ+-"])::(u6 "BITS" .int[6])::(u6 "LOWEST_BITS" .int[63])::(u6 "MOST_SIGNS" .int[3])::(u6 "TEXT_SIGNS" .str[" !\"#$&'()*+,-./0123456789:;<=>?@ABCDEFGHIJKLMNOPQRSTUVWXYZ[\\]^_`abcdefghijklmnopqrstuvwxyz{|}~"])::(u6 "CODES_AHEAD" .int[31])::(u6 "CHECK_DIVISOR" .int[4093])::(u6 "CHECK_SIGNS" .int[2])::(u6 "MOST_KEY_SIGNS" .int[12])::(u6 "MOST_VALUE_SIGNS" .int[400])::(u6 "LEAST_SIZE" .int[64])::(u6 "MOST_SIZE" .int[200])::(u6 "MOST_NUMBER" .int[4095])::(u6 "MOST_ROWS" .int[63])::(u6 "MOST_CELL_SIGNS" .int[63])::(u6 "NUMBER_SIGNS" .int[2])::(u6 "BODY_START" .int[3])::(u6 "int" .ty["int"])::(u6 "bool" .ty["bool"])::(u6 "str" .ty["str"])::(u6 "tuple" .ty["tuple"])::(u6 "list" .ty["list"])::(u6 "ValueError" .ty["ValueError"])::(u6 "TableError" .cls[0])::(u6 "BadNumber" .cls[1])::(u6 "BadText" .cls[2])::(u6 "BadPage" .cls[3])::(u6 "BodyReader" .cls[4])::[]
def biL:lg t6:=["isinstance","len","ord","max","min","sum","all","tuple","list","sorted","range","zip","enumerate","set"]
def Bnr:lg[t6×Nat]:=[("TableError",0),("BadNumber",1),("BadText",2)]
def Bns:lg[t6×(Nat×lg W)]:=[("BadPage",(u6 3 []))]
def Bnt:lg[t6×Nat]:=[("TableError",0),("BadText",2)]
def Bnu:lg[Nat×Nat]:=[(0,0),(0,1),(0,2),(0,3),(2,2)]
def exm(k c:Nat):Bool:=Bnu.contains[u6 k c]
def Qp:lg[t6×t6]:=[("head","h"),("leaf","l"),("fork","f"),("rest","r"),("free","e")]
def Bnv:lg[t6×lg[t6×t6]]:=[("LETTERS",Qp)]
def md:Md:={ con:=λx=>Bnq.lookup x,bi:=λx=>biL.contains x,exc:=λx=>Bnr.lookup x,isa:=isa,fld:=fld,fuel:=fuel,mdc:=λx=>Bnv.lookup x,exi:=λx=>Bns.lookup x,hcl:=λx=>Bnt.lookup x,exm:=exm,mn:=λx=>mnL.contains x,mkl:=λx=>mkL.lookup x }
def T_0:lg[t6×Fi]:=[]
def U_0:lg[(Nat×t6)×Fi]:=[]
abbrev M4:dI:=top 56
def Agm:lg t6:=["_law_script","_law_k"]
def Va:MS:=Am (ifS tQ[.Lt][Ab[1]][zA Cq Ab[0]] rQ[ixF Ab[0] Ab[1]] Ay)
 (rQ kI[0])
def J3:lg W->M W:=Cp 2 2 Va
def Agn:Cw[Ao M4][md.gm T_0 Agm Ak[M4] U_0]=Va:=by rfl'
def Vb:lg[t6×Fi]:=(u6 "_law_cell_at" (J3,2,[]))::T_0
abbrev Vc:dI:=top 57
def Aoi:lg t6:=["_law_state","_law_k","_law_cell_here"]
def Vd:MS:=Am (Af1 Ab[0] kS["at"] Al[.add][ixF Ab[0] kS["at"]][kI[1]])
 (Am Bg[1][ixF Ab[0] kS["at"]]
 (Am (Bg 2 zB[J3][ixF Ab[0] kS["cells"]][Al[.mod][Ab[1]][zB Anq kI[1] zA[Cq][ixF Ab[0] kS["cells"]]]])
 (rQ Al[.fdiv][Al .mod Al[.add][Al .mul Ab[2] kI[48271]][Al[.mul][Al .mul Ab[1] Ab[1]][kI[69621]]] kI[2147483647]][kI[8]])))
def Bt:lg W->M W:=Cp 1 3 Vd
def Aoj:Cw[Ao Vc][md.gm Vb Aoi Ak[Vc] U_0]=Vd:=by rfl'
def Ac8:lg[t6×Fi]:=(u6 "_law_next" (Bt,1,[]))::Vb
abbrev Rp:dI:=top 59
def Alm:lg t6:=["_law_some"]
def Aa4:MS:=Am (Bg 0 kS["0123456789abcdefghijklmnopqrstuvwxyzABCDEFGHIJKLMNOPQRSTUVWXYZ"])
 (rQ[Al .add kS[" !\"#$&'()*+,-./:;<=>?\x40[\\]^_`{|}~"] Ab[0]])
def Mj:lg W->M W:=Cp 0 1 Aa4
def Aln:Cw[Ao Rp][md.gm Ac8 Alm Ak[Rp] U_0]=Aa4:=by rfl'
def Aa5:lg[t6×Fi]:=(u6 "_law_signs" (Mj,0,[]))::Ac8
abbrev Ve:dI:=top 60
def Aok:lg t6:=["_law_number","_law_size","_law_signs_here","_law_many"]
abbrev aB2:=Al .mod Al[.add][Al[.add][Al .fdiv Ab[2] kI[7]][Al[.mul][Al .mul kI[13] Ab[0]][Ab[0]]]][Al .mul kI[5] Ab[0]] Ab[1]
def Ac9:MS:=Am Bg[2][Dm Mj nilF]
 (Am Bg[3][zA Cq Ab[2]]
 (rQ[Ir .str Ny kS[""] yA[Dn[1][[3,0,2]][Nm Hn yA[Ab[1]]][By 0][λuu=>pure t8][ixF Ab[3] aB2]]]))
def Hr:lg W->M W:=Cp 2 4 Ac9
def Aol:Cw[Ao Ve][md.gm Aa5 Aok Ak[Ve] U_0]=Ac9:=by rfl'
def Ada:lg[t6×Fi]:=(u6 "_law_text" (Hr,2,[]))::Aa5
abbrev Qa:dI:=top 63
def Aif:lg t6:=["_law_state","_law_many","_law_base","_law_found","_law_turn","_law_number","_law_size","_law_at","_law_signs_here","_law_sign"]
def Xb:MS:=Am (Bg 2 zB[Hr][zA Bt Ab[0]][kI[12]])
 (Am (Bg 3 Nz[[]])
 (Am (Sx (Nm Hn yA[Ab[1]]) By[4] (Am Bg[5][zA Bt Ab[0]]
  (Am (Bg 6 ixF[Hf[Eu kI[1] yD[kI 12][Al .add kI[1] Al[.mod][Al .fdiv Ab[5] kI[5]][kI[12]]][kI 3][Al .add kI[2] Al[.mod][Al .fdiv Ab[5] kI[5]][kI[3]]]]][Al .mod Ab[5] kI[5]])
  (Am (Bg 7 Al[.mod][Al .fdiv Ab[5] kI[60]][Ab[6]])
  (Am Bg[8][Dm Mj nilF]
  (Am Bg[9][ixF Ab[8] Al[.mod][Al .fdiv Ab[5] kI[720]][zA Cq Ab[8]]]
  (Am (Af1 Ab[3] Al[.add][Al[.add][slF Ab[2] Ci Bx[Ab[7]]][Ab[9]]][slF Ab[2] Bx[Al .add Ab[7] kI[1]] Bx[Ab[6]]] kB[t8])
  Ay)))))))
 (rQ[zA Wl Ab[3]])))
def Qc:lg W->M W:=Cp 2 10 Xb
def Aig:Cw[Ao Qa][md.gm Ada Aif Ak[Qa] U_0]=Xb:=by rfl'
def Xc:lg[t6×Fi]:=(u6 "_law_rising" (Qc,2,[]))::Ada
abbrev Vf:dI:=top 64
def Aom:lg t6:=["_law_state","_law_size","_law_number"]
def Adb:MS:=Am Bg[2][zA Bt Ab[0]]
 (Am (ifS tQ[.Eq][Al .mod Ab[2] kI[3]][kI[0]] rQ[Df[yC[kS "out"][Al .add kI[1] Al[.mod][Al .fdiv Ab[2] kI[3]][kI[400]]][Al .add kI[1] Al[.mod][Al .fdiv Ab[2] kI[1200]][kI[4095]]]]] Ay)
 (rQ Df[yB kS["in"] zB[Hr][Ab[2]][ixF Hf[yD[kI 0][kI 1][Al .fdiv Ab[1] kI[8]][Al .mod (Al .fdiv Ab[2] kI[30]) Al[.add][Al .fdiv Ab[1] kI[8]][kI[1]]]] Al[.mod][Al .fdiv Ab[2] kI[3]][kI[4]]]]))
def N8:lg W->M W:=Cp 2 3 Adb
def Aon:Cw[Ao Vf][md.gm Xc Aom Ak[Vf] U_0]=Adb:=by rfl'
def Adc:lg[t6×Fi]:=(u6 "_law_cell" (N8,2,[]))::Xc
abbrev Qd:dI:=top 61
def Aih:lg t6:=["_law_number","_law_many","_law_signs_here","_law_found","_law_k"]
abbrev aA2:=kS "0123456789abcdefghijklmnopqrstuvwxyzABCDEFGHIJKLMNOPQRSTUVWXYZ+-"
def Xd:MS:=Am (Bg 2 aA2)
 (Am (Bg 3 kS[""])
 (Am (Sx (Nm Hn yA[Ab[1]]) By[4] (Am Bg[3][Al .add ixF[Ab 2][Al .mod Ab[0] kI[64]] Ab[3]]
  (Am Bg[0][Al .fdiv Ab[0] kI[64]]
  Ay)))
 (rQ Ab[3])))
def Bo:lg W->M W:=Cp 2 5 Xd
def Aii:Cw[Ao Qd][md.gm Adc Aih Ak[Qd] U_0]=Xd:=by rfl'
def Xe:lg[t6×Fi]:=(u6 "_law_digits" (Bo,2,[]))::Adc
abbrev Vg:dI:=top 66
def Aoo:lg t6:=["_law_page_here","_law_found","_law_key","_law_cell_here"]
abbrev aA9:=Bg 1 Al[.add][Al .add Ab[1] zB[Bo][zA Cq Ab[2]][kI[1]]][Ab[2]]
abbrev aA3:=Am aA9 (Am ifS[tQ[.Eq][ixF Ab[3] kI[0]][kS["in"]]][Am[Bg 1 Al[.add][Al[.add][Al .add Ab[1] kS["i"]][zB Bo zA[Cq][ixF Ab[3] kI[1]] kI[1]]][ixF Ab[3] kI[1]]][Ay]][Am Bg[1][Al .add Al[.add][Al .add Ab[1] kS["o"]][zB[Bo][ixF Ab[3] kI[1]][kI[2]]] zB[Bo][ixF Ab[3] kI[2]][kI[2]]] Ay] Ay)
def Alo:MS:=Am[Sx Eo[ixF Ab[0] kI[1]] Mw[[2,3]] aA3][rQ Ab[1]]
def Alp:MS:=Am (ifS tQ[.Eq][ixF Ab[0] kI[0]][kS["fork"]] (Am (Sx Eo[ixF Ab[0] kI[1]] By[2] (Am aA9
   Ay))
  (rQ Al[.add][Ab[1]][Ir .str Ny kS[""] yA[Dn 1 [] Eo[ixF Ab[0] kI[2]] By[0] (λuu=>pure t8) (zB Bo Ab[0] kI[2])]])) Ay) Alo
def Alq:MS:=Am Bg[1][zB Bo zA[Cq][ixF Ab[0] kI[1]] kI[1]] Alp
abbrev aB7:=orT tQ[.Eq][ixF Ab[0] kI[0]][kS["head"]] tQ[.Eq][ixF Ab[0] kI[0]][kS["free"]]
def Alr:MS:=Am (ifS aB7 rQ[Ir .str Ny kS[""] yA[Dn 1 [] Eo[slF Ab[0] Bx[kI[1]] Ci] By[0] (λuu=>pure t8) (zB Bo Ab[0] kI[2])]] Ay) Alq
def Ade:MS:=Am (ifS tQ[.Eq][ixF Ab[0] kI[0]][kS["rest"]] rQ[Al[.add][zB[Bo][ixF Ab[0] kI[2]][kI[2]]][ixF Ab[0] kI[1]]] Ay) Alr
def Gq:lg W->M W:=Cp 1 4 Ade
def Aop:Cw[Ao Vg][md.gm Xe Aoo Ak[Vg] U_0]=Ade:=by rfl'
def Adf:lg[t6×Fi]:=(u6 "_law_body" (Gq,1,[]))::Xe
abbrev Vh:dI:=top 65
def Aoq:lg t6:=["_law_state","_law_size","_law_number","_law_kind","_law_some","_law_many","_law_keys","_law_rows_here"]
abbrev aB9:=Am Tu[Ir .lst Rb Ab[6] yA[Al[.mod][Ab[2]][zA Cq Ab[6]]]] Ay
abbrev aC5:=Al .add kI[1] Al[.mod][zA Bt Ab[1]][kI[4095]]
def Als:MS:=Am[Mv tQ[.Gt][Al .add Al[.add][Al .add kI[1] zA[Ak2][Dn 1 [] Eo[Ab[6]] By[0] (λuu=>pure t8) Al[.add][kI[1]][zA Cq Ab[0]]]][Al[.mul][kI[2]][zA Cq Ab[6]]] kI[2]][Al .sub Ab[1] kI[5]] aB9 fuel][rQ Df[yC[kS["fork"]][zA Ed Ab[6]][zA[Ed][Dn 1 [0] (Nm Hn yA[Al[.add][zA Cq Ab[6]][kI[1]]]) By[0] (λuu=>pure t8) aC5]]]]
abbrev aA5:=Am Mv[tQ[.Gt][zA[Cq][zA Gq Df[yB[kS "leaf"][zA Ed Ab[7]]]]][Al .sub Ab[1] kI[5]]][Am Tu[Ir .lst Rb Ab[7] yA[Al[.mod][Ab[2]][zA Cq Ab[7]]]] Ay][fuel] rQ[Df[yB[kS "leaf"][zA Ed Ab[7]]]]
def Alu:MS:=Am (ifS (tQ .Lt Ab[3] kI[5]) (Am Bg[7][Dn 1 [1,0] Eo[Ab[6]] By[0] (λuu=>pure t8) Df[yB[Ab 0][zB N8 Ab[2] Ab[1]]]]
  aA5) Ay) Als
def Alv:MS:=Am Bg[6][zB Qc Ab[0] Al[.mod][Al .fdiv Ab[2] kI[7]][kI[14]]] Alu
def Alw:MS:=Am (ifS (tQ .Eq Ab[3] kI[2]) (Am Bg[5][ixF Hf[yC[kI 1][Al .sub Ab[1] kI[7]][Al .add kI[1] Al[.mod][Al .fdiv Ab[2] kI[7]][Al .sub Ab[1] kI[7]]]] Al[.mod][Al .fdiv Ab[2] kI[7]][kI[3]]]
  (rQ Df[yC[kS "rest"][zB Hr Ab[2] Ab[5]][ixF Hf[yB kI[0] Al[.mod][Al .fdiv Ab[2] kI[21]][kI[4096]]] Al[.mod][Al .fdiv Ab[2] kI[7]][kI[2]]]])) Ay) Alv
def Alx:MS:=Am ifS[tQ .Eq Ab[3] kI[1]][rQ[Df[yB[kS "free"][ixF Hf[yD kI[0] kI[1] kI[4095] Al[.mod][Al .fdiv Ab[2] kI[7]][kI[4096]]] Al[.mod][Al .fdiv Ab[2] kI[7]][kI[4]]]]]][Ay] Alw
abbrev aB3:=ixF Hf[Eu[kI 4095][yD kI[0] kI[63] kI[64] Al[.mod][zA Bt Ab[1]][kI[4096]]]] Al[.mod][zA Bt Ab[1]][kI[5]]
abbrev aC6:=rQ Al[.add][Df[yA[kS["head"]]]][zA Ed Ab[4]]
def Aly:MS:=Am (ifS (tQ .Eq Ab[3] kI[0]) (Am Bg[4][Dn 1 [0] (Nm Hn yA[kI[4]]) By[0] (λuu=>pure t8) aB3]
  aC6) Ay) Alx
def Alz:MS:=Am Bg[3][Al .mod Ab[2] kI[7]] Aly
def Adg:MS:=Am Bg[2][zA Bt Ab[0]] Alz
def Vi:lg W->M W:=Cp 2 8 Adg
def Aor:Cw[Ao Vh][md.gm Adf Aoq Ak[Vh] U_0]=Adg:=by rfl'
def Adh:lg[t6×Fi]:=(u6 "_law_page" (Vi,2,[]))::Adf
abbrev Rq:dI:=top 62
def Al0:lg t6:=["_law_text_here","_law_order","_law_found","_law_k","_law_sign","_law_place"]
def Aa6:MS:=Am (Bg 1 kS[" !\"#$?&'()*+,-./0123456789:;<=>?@ABCDEFGHIJKLMNOPQRSTUVWXYZ[\\]^_`abcdefghijklmnopqrstuvwxyz{|}~"])
 (Am (Bg 2 kI[0])
 (Am (Sx (Nm Hn yA[zA Cq Ab[0]]) By[3] (Am Bg[4][ixF Ab[0] Ab[3]]
  (Am Bg[5][Ir .str Ath Ab[1] yA[Ab[4]]]
  (Am (ifS (tQ .Eq Ab[4] kS["?"]) (Am Bg[5][Ir .str Ak4 Ab[1] yA[Ab[4]]]
   Ay) Ay)
  (Am Bg[2][Al .add Ab[2] Al[.mul][Al .add Ab[5] kI[1]][Al .add Ab[3] kI[1]]]
  Ay)))))
 (rQ zB[Bo][Al .mod Ab[2] kI[4093]][kI[2]])))
def J4:lg W->M W:=Cp 1 6 Aa6
def Al1:Cw[Ao Rq][md.gm Adh Al0 Ak[Rq] U_0]=Aa6:=by rfl'
def Aa7:lg[t6×Fi]:=(u6 "_law_check" (J4,1,[]))::Adh
abbrev Ky:dI:=top 67
def Aci:lg t6:=["_law_page_here","_law_size","_law_body_here","_law_letter","_law_text_here"]
def Qq:MS:=Am Bg[2][zA Gq Ab[0]]
 (Am (Bg 3 ixF[Nz [((kS "head"),(kS "h")),((kS "leaf"),(kS "l")),((kS "fork"),(kS "f")),((kS "rest"),(kS "r")),((kS "free"),(kS "e"))]][ixF Ab[0] kI[0]])
 (Am (Bg 4 Al[.add][Al .add Ab[3] zB[Bo][zA Cq Ab[2]][kI[2]]][Ab[2]])
 (Am (Bg 4 Al[.add][Ab[4]][Al .mul kS["0"] Al[.sub][Al .sub Ab[1] kI[2]][zA Cq Ab[4]]])
 (rQ Al[.add][Ab[4]][zA J4 Ab[4]]))))
def Gi:lg W->M W:=Cp 2 5 Qq
def Acj:Cw[Ao Ky][md.gm Aa7 Aci Ak[Ky] U_0]=Qq:=by rfl'
def Qs:lg[t6×Fi]:=(u6 "_law_page_text" (Gi,2,[]))::Aa7
abbrev M5:dI:=top 78
def Ago:lg t6:=["_law_state","_law_size","_law_number","_law_keys","_law_cell_here","_law_some"]
def Ad4:MS:=Am Tu[Ir .lst Ra Ab[5] yA[Df[yB kS["leaf"] zA[Ed][Dn 1 [] Eo[Ab[3]] By[0] (λuu=>pure t8) Df[yB Ab[0] Df[yB kS["in"] kS["x"]]]]]]] rQ[zB[Gi][ixF Ab[5] Al[.mod][Al .fdiv Ab[2] kI[16]][kI[6]]][Ab[1]]]
def Ad5:MS:=Am Bg[5][Al .add Ab[5] Hf[yB Df[yC kS["fork"] Df[yA[kS["a"]]] Df[yA[kI[5]]]] Df[yB kS["leaf"] Df[yA[Df[yB kS["a"] Ab[4]]]]]]] Ad4
def Ad6:MS:=Am (Bg 5 Hf[yC Df[yC kS["rest"] kS[""] Al[.mod][Al .fdiv Ab[2] kI[16]][kI[4096]]] Df[yC[kS["fork"]][zA Ed Ab[3]][Df[yC kI[5] kI[6] kI[7]]]] Df[yC kS["fork"] Df[yB kS["a"] kS["b"]] Df[yC kI[5] kI[0] kI[7]]]]) Ad5
def Ad7:MS:=Am Bg[4][ixF Hf[yD Df[yB kS["in"] kS["x"]] Df[yC kS["out"] kI[0] kI[5]] Df[yC kS["out"] kI[401] kI[5]] Df[yC kS["out"] kI[5] kI[0]]] Al[.mod][Al .fdiv Ab[2] kI[4]][kI[4]]] Ad6
abbrev aB0:=Hf[yD Hf[yB kS["b"] kS["a"]] Hf[yB kS["a"] kS["a"]] Hf[yB kS[""] kS["a"]] Hf[yB kS["abcdefghijklm"] kS["b"]]]
def Ad8:MS:=Am (Bg 3 ixF[aB0][Al .mod Ab[2] kI[4]]) Ad7
def Vj:MS:=Am Bg[2][zA Bt Ab[0]] Ad8
def M6:lg W->M W:=Cp 2 6 Vj
def Agp:Cw[Ao M5][md.gm Qs Ago Ak[M5] U_0]=Vj:=by rfl'
def Vk:lg[t6×Fi]:=(u6 "_law_no_page" (M6,2,[]))::Qs
abbrev Ls:dI:=top 68
def Ad9:lg t6:=["_law_text_here","_law_signs_here","_law_found","_law_sign"]
abbrev aA7:=Am (Bg 2 Al[.add][Al .mul kI[64] Ab[2]][Ir .str Rc Ab[1] yA[Ab[3]]]) Ay
def Sh:MS:=Am (Bg 1 aA2)
 (Am (ifS orT[tQ .Eq Ab[0] kS[""]][tQ .NotEq (Dn 1 [1] Eo[Ab[0]] By[0] (tQ .NotIn Ab[0] Ab[1]) Ab[0]) Hf[nilF]] rQ[kF[.non]] Ay)
 (Am (Bg 2 kI[0])
 (Am (Sx Eo[Ab[0]] By[3] aA7)
 (rQ Ab[2]))))
def Jh:lg W->M W:=Cp 1 4 Sh
def Aea:Cw[Ao Ls][md.gm Vk Ad9 Ak[Ls] U_0]=Sh:=by rfl'
def Sq:lg[t6×Fi]:=(u6 "_law_value_of" (Jh,1,[]))::Vk
abbrev Rr:dI:=top 69
def Al2:lg t6:=["_law_body_here","_law_at","_law_many"]
abbrev aC3:=slF Ab[0] Bx[Ab[1]] Bx[Al .add Ab[1] Ab[2]]
def Aa8:MS:=Am (ifS orT[tQ .Is Ab[1] kF[.non]][tQ[.Gt][Al .add Ab[1] Ab[2]][zA Cq Ab[0]]] rQ[Df[yB kF[.non] kF[.non]]] Ay)
 (rQ Df[yB[zA Jh aC3][Al .add Ab[1] Ab[2]]])
def Ih:lg W->M W:=Cp 3 3 Aa8
def Al3:Cw[Ao Rr][md.gm Sq Al2 Ak[Rr] U_0]=Aa8:=by rfl'
def Aa9:lg[t6×Fi]:=(u6 "_law_taken" (Ih,3,[]))::Sq
abbrev Vl:dI:=top 70
def Aos:lg t6:=["_law_body_here","_law_at","_law_size"]
def Adi:MS:=Am Tv[Mw [2,1]][zC Ih Ab[0] Ab[1] kI[1]]
 (Am (ifS orT[tQ .Is Ab[2] kF[.non]][tQ[.Gt][Al .add Ab[1] Ab[2]][zA Cq Ab[0]]] rQ[Df[yB kF[.non] kF[.non]]] Ay)
 (rQ Df[yB[aC3][Al .add Ab[1] Ab[2]]]))
def Pa:lg W->M W:=Cp 2 3 Adi
def Aot:Cw[Ao Vl][md.gm Aa9 Aos Ak[Vl] U_0]=Adi:=by rfl'
def Adj:lg[t6×Fi]:=(u6 "_law_word" (Pa,2,[]))::Aa9
abbrev M7:dI:=top 71
def Agq:lg t6:=["_law_body_here","_law_at","_law_many","_law_found","_law_turn","_law_number"]
def Vm:MS:=Am (Bg 3 Hf[nilF])
 (Am (Sx (Nm Hn yA[Ab[2]]) By[4] (Am Tv[Mw [5,1]][zC Ih Ab[0] Ab[1] kI[2]]
  (Am Tu[Ir .lst Ra Ab[3] yA[Ab[5]]]
  Ay)))
 (rQ Df[yB Ab[3] Ab[1]]))
def Hs:lg W->M W:=Cp 3 6 Vm
def Agr:Cw[Ao M7][md.gm Adj Agq Ak[M7] U_0]=Vm:=by rfl'
def Vn:lg[t6×Fi]:=(u6 "_law_numbers" (Hs,3,[]))::Adj
abbrev Ht:dI:=top 72
def Vo:lg t6:=["_law_body_here","_law_at","_law_word_here","_law_behind","_law_numbers_here"]
def Lj:MS:=Am (ifS orT[tQ .Is Ab[1] kF[.non]][tQ .GtE Ab[1] (zA Cq Ab[0])] rQ[Df[yB kF[.non] kF[.non]]] Ay)
 (Am (ifS tQ[.Eq][ixF Ab[0] Ab[1]][kS["i"]] (Am (Tv Mw[[2,3]] zB[Pa][Ab[0]][Al .add Ab[1] kI[1]])
  (rQ Df[yB Jz[tQ .Is Ab[2] kF[.non]][kF[.non]][Df[yB kS["in"] Ab[2]]] Ab[3]])) Ay)
 (Am Tv[Mw [4,3]][zC Hs Ab[0] (Al .add Ab[1] kI[1]) kI[2]]
 (rQ Df[yB[Jz Ad3[tQ .Eq (ixF Ab[0] Ab[1]) kS["o"]][tQ .NotIn kF[.non] Ab[4]] Df[yC[kS "out"][ixF Ab[4] kI[0]][ixF Ab[4] kI[1]]] kF[.non]][Ab 3]])))
def Hu:lg W->M W:=Cp 2 5 Lj
def Vp:Cw[Ao Ht][md.gm Vn Vo Ak[Ht] U_0]=Lj:=by rfl'
def Lk:lg[t6×Fi]:=(u6 "_law_cell_at_place" (Hu,2,[]))::Vn
abbrev Vq:dI:=top 73
def Aou:lg t6:=["_law_body_here","_law_with_cells","_law_many","_law_at","_law_found","_law_turn","_law_key","_law_cell_here"]
abbrev aC0:=rQ Df[yB Jz[tQ .IsNot Ab[2] kF[.non]][Ab 4][kF .non] Ab[3]]
abbrev aC1:=Am Tu[Ir .lst Ra Ab[4] yA[Df[yB Ab[6] Ab[7]]]] Ay
def Adk:MS:=Am Tv[Mw [2,3]][zC Ih Ab[0] kI[0] kI[1]]
 (Am (Bg 4 Hf[nilF])
 (Am (Sx (Nm Hn yA[Jz[tQ .IsNot Ab[2] kF[.non]][Ab 2][kI 0]]) By[5] (Am Tv[Mw [6,3]][zB Pa Ab[0] Ab[3]]
  (Am (Bg 7 kF[.non])
  (Am (ifS Dp[Ab[1]] (Am Tv[Mw [7,3]][zB Hu Ab[0] Ab[3]]
   Ay) Ay)
  (Am (ifS orT[tQ .Is Ab[6] kF[.non]][Ad3[Dp Ab[1]][tQ .Is Ab[7] kF[.non]]] rQ[Df[yB kF[.non] kF[.non]]] Ay)
  aC1)))))
 aC0))
def Vr:lg W->M W:=Cp 2 8 Adk
def Aov:Cw[Ao Vq][md.gm Lk Aou Ak[Vq] U_0]=Adk:=by rfl'
def Adl:lg[t6×Fi]:=(u6 "_law_rows" (Vr,2,[]))::Lk
abbrev Vs:dI:=top 74
def Aow:lg t6:=["_law_letter","_law_body_here","_law_numbers_here","_law_at","_law_number","_law_rows_here","_law_kids"]
def Al4:MS:=Am Tv[Mw [6,3]][zC Hs Ab[1] Ab[3] Al[.add][zA Cq Ab[5]][kI[1]]] rQ[Df[yB Df[yC[kS["fork"]][zA[Ed][Dn 1 [] Eo[Ab[5]] By[0] (λuu=>pure t8) (ixF Ab[0] kI[0])]][zA Ed Ab[6]]] Ab[3]]]
def Al5:MS:=Am (ifS orT[tQ .Is Ab[5] kF[.non]][tQ .Eq Ab[0] kS["l"]] rQ[Df[yB Jz[tQ .Is Ab[5] kF[.non]][kF .non][Df yB[kS "leaf"][zA Ed Ab[5]]] Ab[3]]] Ay) Al4
def Al6:MS:=Am (Tv Mw[[5,3]] zB[Vr][Ab[1]][Dz .Eq Ab[0] kS["l"]]) Al5
def Al7:MS:=Am (ifS (tQ .Eq Ab[0] kS["r"]) (Am Tv[Mw [4,3]][zC Ih Ab[1] kI[0] kI[2]]
  (rQ Df[yB[Df yC[kS "rest"][slF Ab[1] Bx[kI[2]] Ci][Ab 4]][zA Cq Ab[1]]])) Ay) Al6
def Adm:MS:=Am (ifS (tQ .In Ab[0] Df[yB kS["h"] kS["e"]]) (Am Tv[Mw [2,3]][zC Hs Ab[1] kI[0] Jz[tQ .Eq Ab[0] kS["h"]][kI 4][kI 1]]
  (rQ Df[yB zA[Ed][Al .add Hf[yA[ixF Nz[[((kS "h"),(kS "head")),((kS "e"),(kS "free"))]] Ab[0]]] Ab[2]] Ab[3]])) Ay) Al7
def Hv:lg W->M W:=Cp 2 7 Adm
def Aox:Cw[Ao Vs][md.gm Adl Aow Ak[Vs] U_0]=Adm:=by rfl'
def Adn:lg[t6×Fi]:=(u6 "_law_told" (Hv,2,[]))::Adl
abbrev M8:dI:=top 75
def Ags:lg t6:=["_law_page_here","_law_keys","_law_cells"]
abbrev aB6:=Jl .LtE .LtE kI[1] (ixF Ab[0] kI[1]) kI[400]
def Aeb:MS:=Am Bg[2][Dn 1 [] Eo[ixF Ab[0] kI[1]] By[0] (tQ .Eq ixF[ixF Ab[0] kI[1]][kI 0] kS["out"]) (ixF Ab[0] kI[1])] rQ[zA[Aao][Dn 1 [] Eo[Ab[2]] By[0] (λuu=>pure t8) (Jk aB6 Dz[.Gt][ixF Ab[0] kI[2]][kI[0]])]]
def Aec:MS:=Am (ifS tQ[.Eq][ixF Ab[0] kI[0]][kS["fork"]] rQ[Jk Dz[.NotIn][kF[.non]][ixF Ab[0] kI[2]] Dz[.NotIn][kI[0]][ixF Ab[0] kI[2]]] Ay) Aeb
def Aed:MS:=Am ifS[orT Qm[Dp[zA[Aao][Dn 1 [] Eo[Ab[1]] By[0] (λuu=>pure t8) (Jl .LtE .LtE kI[1] (zA Cq Ab[0]) kI[12])]]] tQ[.NotEq][Ab[1]][zA Jm Ab[1]]][rQ[kB[t7]]][Ay] Aec
def Aee:MS:=Am (Bg 1 Jz[tQ[.Eq][ixF Ab[0] kI[0]][kS["leaf"]]][Dn 1 [] Eo[ixF Ab[0] kI[1]] By[0] (λuu=>pure t8) (ixF Ab[0] kI[0])][zA[Atf][ixF Ab[0] kI[1]]]) Aed
def Aef:MS:=Am (ifS aB7 rQ[kB[t8]] Ay) Aee
def Aeg:MS:=Am (ifS tQ[.Eq][ixF Ab[0] kI[0]][kS["rest"]] rQ[Dz[.NotEq][ixF Ab[0] kI[1]][kS[""]]] Ay) Aef
def Vt:MS:=Am ifS[tQ .In kF[.non] Ab[0]][rQ[kB[t7]]][Ay] Aeg
def M9:lg W->M W:=Cp 1 3 Vt
def Agt:Cw[Ao M8][md.gm Adn Ags Ak[M8] U_0]=Vt:=by rfl'
def Vu:lg[t6×Fi]:=(u6 "_law_is_good" (M9,1,[]))::Adn
abbrev Xu:dI:=top 76
def Arw:lg t6:=["_law_text_here","_law_many","_law_page_here","_law_at"]
def Aoy:MS:=Am[ifS orT[tQ .Is Ab[2] kF[.non]][orT[tQ .NotEq Ab[3] Ab[1]][Qm Dp[zA M9 Ab[2]]]] rQ[kF[.non]] Ay][rQ Ab[2]]
abbrev aB5:=slF Ab[0] Bx[kI[3]] Bx[Al .add kI[3] Ab[1]]
def Aoz:MS:=Am (Tv Mw[[2,3]] zB[Hv][ixF Ab[0] kI[0]][aB5]) Aoy
def Ao0:MS:=Am (ifS tQ[.NotEq][slF Ab[0] Bx[Al .add kI[3] Ab[1]] Bx[Ab3[kI[2]]]][Al[.mul][kS["0"]][Al .sub Al[.sub][zA Cq Ab[0]][kI[5]] Ab[1]]] rQ[kF[.non]] Ay) Aoz
def Ao1:MS:=Am (ifS orT[tQ .Is Ab[1] kF[.non]][tQ .Gt Ab[1] Al[.sub][zA Cq Ab[0]][kI[5]]] rQ[kF[.non]] Ay) Ao0
def Ao2:MS:=Am (Bg 1 zA[Jh][slF Ab[0] Bx[kI[1]] Bx[kI[3]]]) Ao1
def Agu:MS:=Am ifS[orT Qm[Dp[Jl .LtE .LtE kI[64] (zA Cq Ab[0]) kI[200]]] tQ[.NotIn][ixF Ab[0] kI[0]][kS["hlfre"]]][rQ[kF[.non]]][Ay] Ao2
def Kz:lg W->M W:=Cp 1 4 Agu
def Arx:Cw[Ao Xu][md.gm Vu Arw Ak[Xu] U_0]=Agu:=by rfl'
def Agv:lg[t6×Fi]:=(u6 "_law_due" (Kz,1,[]))::Vu
abbrev Iu:dI:=top 17
def W7:lg t6:=["thing"]
def Lx:MS:=Am (ifS orT[Qm Dp[zB Np[isa] Ab[0] kF[.ty["str"]]]][orT tQ[.Lt][zA Cq Ab[0]][kI[1]] tQ[.Gt][zA Cq Ab[0]][kI[3]]] rQ[kB[t7]] Ay)
 (rQ zA[Aao][Dn 1 [] Eo[Ab[0]] By[0] (λuu=>pure t8) (Dz .In Ab[0] aA2)])
def Iv:lg W->M W:=Cp 1 1 Lx
def W8:Cw[Ao Iu][md.gm Agv W7 Ak[Iu] U_0]=Lx:=by rfl'
def Ly:lg[t6×Fi]:=(u6 "is_written_number" (Iv,1,[]))::Agv
abbrev Vv:dI:=top 18
def Ao3:lg t6:=["text","number","sign"]
abbrev aA8:=Am (Bg 1 Al[.add][Al .shl Ab[1] kI[6]][Ir .str Rc aA2 yA[Ab[2]]]) Ay
def Ado:MS:=Am (ifS Qm[Dp[zA Iv Ab[0]]] (Am (Rh 2 yA[kS["no number of one to three signs"]])
  Ay) Ay)
 (Am (Bg 1 kI[0])
 (Am (Sx Eo[Ab[0]] By[2] aA8)
 (rQ Ab[1])))
def Jt:lg W->M W:=Cp 1 3 Ado
def Ao4:Cw[Ao Vv][md.gm Ly Ao3 Ak[Vv] U_0]=Ado:=by rfl'
def Es:lg[t6×Fi]:=(u6 "number_of" (Jt,1,[]))::Ly
abbrev Hh:dI:=inClass top[50] 0
def Sy:lg t6:=["self","body"]
def Ko:MS:=Am (Af0 fld "body" Ab[0] Ab[1])
 (Am (Af0 fld "place" Ab[0] kI[0])
 Ay)
def Hi:lg W->M W:=Cp 2 2 Ko
def Tc:Cw[Ao Hh][md.gm Es Sy Ak[Hh] U_0]=Ko:=by rfl'
def Kp:lg[(Nat×t6)×Fi]:=(u6 (u6 4 "__init__") (Hi,2,[]))::U_0
abbrev Gj:dI:=inClass top[50] 1
def Qt:lg t6:=["self","many","start"]
def Ju:MS:=Am Bg[2][Ak7 fld "place" Ab[0]]
 (Am (Af0 fld "place" Ab[0] (Al .add Ab[2] Ab[1]))
 (rQ slF[Ak7 fld "body" Ab[0]][Bx[Ab[2]]][Bx[Ak7 fld "place" Ab[0]]]))
def Gk:lg W->M W:=Cp 2 3 Ju
def Qu:Cw[Ao Gj][md.gm Es Qt Ak[Gj] Kp]=Ju:=by rfl'
def Gn:lg[(Nat×t6)×Fi]:=(u6 (u6 4 "next_signs") (Gk,2,[]))::Kp
abbrev Ga:dI:=inClass top[50] 2
def Qe:lg t6:=["self","many"]
def Iz:MS:=rQ zA[Jt][Em (λc n=>Gn.lookup[u6 c n]) "next_signs" Ab[0] yA[Ab[1]]]
def Ja:lg W->M W:=Cp 2 2 Iz
def Qf:Cw[Ao Ga][md.gm Es Qe Ak[Ga] Gn]=Iz:=by rfl'
def Ep:lg[(Nat×t6)×Fi]:=(u6 (u6 4 "next_number") (Ja,2,[]))::Gn
abbrev Hj:dI:=inClass top[50] 4
def Td:lg t6:=["self"]
def Kq:MS:=rQ[Em (λc n=>Ep.lookup[u6 c n]) "next_signs" Ab[0] yA[Em (λc n=>Ep.lookup[u6 c n]) "next_number" Ab[0] yA[kI[1]]]]
def Kr:lg W->M W:=Cp 1 1 Kq
def Te:Cw[Ao Hj][md.gm Es Td Ak[Hj] Ep]=Kq:=by rfl'
def Hk:lg[(Nat×t6)×Fi]:=(u6 (u6 4 "next_key") (Kr,1,[]))::Ep
abbrev Gz:dI:=inClass top[50] 5
def Rt:lg t6:=["self","many"]
def J5:MS:=rQ[zA Ed compX[1][[0]][Nm Hn yA[Ab[1]]][By 0][λuu=>pure t8][Em (λc n=>Hk.lookup[u6 c n]) "next_key" Ab[1] nilF]]
def J6:lg W->M W:=Cp 2 2 J5
def Ru:Cw[Ao Gz][md.gm Es Rt Ak[Gz] Hk]=J5:=by rfl'
def G4:lg[(Nat×t6)×Fi]:=(u6 (u6 4 "next_keys") (J6,2,[]))::Hk
abbrev Fq:dI:=inClass top[50] 3
def Nt:lg t6:=["self","many"]
def Io:MS:=rQ[zA Ed compX[1][[0]][Nm Hn yA[Ab[1]]][By 0][λuu=>pure t8][Em (λc n=>G4.lookup[u6 c n]) "next_number" Ab[1] yA[kI[2]]]]
def Ip:lg W->M W:=Cp 2 2 Io
def Nu:Cw[Ao Fq][md.gm Es Nt Ak[Fq] G4]=Io:=by rfl'
def Bh:lg[(Nat×t6)×Fi]:=(u6 (u6 4 "next_numbers") (Ip,2,[]))::G4
abbrev G5:dI:=inClass top[50] 6
def Rv:lg t6:=["self"]
def J7:MS:=Am (ifS tQ[.Eq][Em (λc n=>Bh.lookup[u6 c n]) "next_signs" Ab[0] yA[kI[1]]][kS["i"]] rQ[Df[yB[kS "in"][Em (λc n=>Bh.lookup[u6 c n]) "next_signs" Ab[0] yA[Em (λc n=>Bh.lookup[u6 c n]) "next_number" Ab[0] yA[kI[1]]]]]] Ay)
 (rQ Al[.add][Df[yA[kS["out"]]]][Em (λc n=>Bh.lookup[u6 c n]) "next_numbers" Ab[0] yA[kI[2]]])
def J8:lg W->M W:=Cp 1 1 J7
def Rw:Cw[Ao G5][md.gm Es Rv Ak[G5] Bh]=J7:=by rfl'
def Dj:lg[(Nat×t6)×Fi]:=(u6 (u6 4 "next_cell") (J8,1,[]))::Bh
abbrev Hl:dI:=inClass top[50] 7
def Tf:lg t6:=["self","key"]
def Ks:MS:=Am Bg[1][Em (λc n=>Dj.lookup[u6 c n]) "next_key" Ab[0] nilF]
 (rQ Df[yB[Ab 1][Em (λc n=>Dj.lookup[u6 c n]) "next_cell" Ab[0] nilF]])
def Ku:lg W->M W:=Cp 1 2 Ks
def Ti:Cw[Ao Hl][md.gm Es Tf Ak[Hl] Dj]=Ks:=by rfl'
def Hm:lg[(Nat×t6)×Fi]:=(u6 (u6 4 "next_row") (Ku,1,[]))::Dj
abbrev G6:dI:=inClass top[50] 8
def Rx:lg t6:=["self","many"]
def J9:MS:=rQ[zA Ed compX[1][[0]][Nm Hn yA[Ab[1]]][By 0][λuu=>pure t8][Em (λc n=>Hm.lookup[u6 c n]) "next_row" Ab[1] nilF]]
def Ka:lg W->M W:=Cp 2 2 J9
def Rz:Cw[Ao G6][md.gm Es Rx Ak[G6] Hm]=J9:=by rfl'
def Ah:lg[(Nat×t6)×Fi]:=(u6 (u6 4 "next_rows") (Ka,2,[]))::Hm
abbrev Vw:dI:=top 51
def Ao5:lg t6:=["letter","body","reader","keys","after"]
def Al8:MS:=Am ifS[tQ .Eq Ab[0] kS["e"]][rQ[Al[.add][Df[yA[kS["free"]]]][Em (λc n=>Ah.lookup[u6 c n]) "next_numbers" Ab[2] yA[kI[1]]]]][Ay] rQ[kF[.non]]
def Al9:MS:=Am (ifS (tQ .Eq Ab[0] kS["r"]) (Am Bg[4][Em (λc n=>Ah.lookup[u6 c n]) "next_number" Ab[2] yA[kI[2]]]
  (rQ Df[yC[kS "rest"][Em (λc n=>Ah.lookup[u6 c n]) "next_signs" Ab[2] yA[Al[.sub][zA Cq Ab[1]][kI[2]]]][Ab 4]])) Ay) Al8
def Ama:MS:=Am (ifS (tQ .Eq Ab[0] kS["f"]) (Am Bg[3][Em (λc n=>Ah.lookup[u6 c n]) "next_keys" Ab[2] yA[Em (λc n=>Ah.lookup[u6 c n]) "next_number" Ab[2] yA[kI[1]]]]
  (rQ Df[yC[kS "fork"][Ab 3][Em (λc n=>Ah.lookup[u6 c n]) "next_numbers" Ab[2] yA[Al[.add][zA Cq Ab[3]][kI[1]]]]])) Ay) Al9
def Amb:MS:=Am ifS[tQ .Eq Ab[0] kS["l"]][rQ[Df[yB[kS "leaf"][Em (λc n=>Ah.lookup[u6 c n]) "next_rows" Ab[2] yA[Em (λc n=>Ah.lookup[u6 c n]) "next_number" Ab[2] yA[kI[1]]]]]]][Ay] Ama
def Amc:MS:=Am ifS[tQ .Eq Ab[0] kS["h"]][rQ[Al[.add][Df[yA[kS["head"]]]][Em (λc n=>Ah.lookup[u6 c n]) "next_numbers" Ab[2] yA[kI[4]]]]][Ay] Amb
def Adp:MS:=Am (Bg 2 zA[λws=>Af4 4 Hi ws][Ab 1]) Amc
def Ln:lg W->M W:=Cp 2 5 Adp
def Ao6:Cw[Ao Vw][md.gm Es Ao5 Ak[Vw] Ah]=Adp:=by rfl'
def Adq:lg[t6×Fi]:=(u6 "told_page" (Ln,2,[]))::Es
abbrev Xv:dI:=top 14
def Ary:lg t6:=["thing"]
def Agw:MS:=rQ Jk[zB Np[isa] Ab[0] kF[.ty["int"]]][Bmz[zB Np[isa] Ab[0] kF[.ty["bool"]]]]
def Jp:lg W->M W:=Cp 1 1 Agw
def Arz:Cw[Ao Xv][md.gm Adq Ary Ak[Xv] Ah]=Agw:=by rfl'
def Agx:lg[t6×Fi]:=(u6 "is_whole" (Jp,1,[]))::Adq
abbrev Agy:dI:=top 16
def Baq:lg t6:=["number","many","text","left","place"]
abbrev aB4:=Am Bg[2][Al .add ixF[aA2][Al .and Ab[3] kI[63]] Ab[2]] (Am Bg[3][Al .shr Ab[3] kI[6]] Ay)
def Ao7:MS:=Am (ifS orT[Qm Dp[zA Jp Ab[0]]][tQ .Lt Ab[0] kI[0]] (Am (Rh 1 yA[kS["no whole number from nought on"]])
  Ay) Ay)
 (Am (ifS (orT Qm[Dp[zA Jp Ab[1]]] orT[tQ .Lt Ab[1] kI[1]][tQ .Gt Ab[1] kI[3]]) (Am (Rh 1 yA[kS["a number is written by one to three signs"]])
  Ay) Ay)
 (Am (ifS (tQ .Gt Al[.shr][Ab[0]][Al .mul kI[6] Ab[1]] kI[0]) (Am (Rh 1 yA[kS["a number greater than so many signs write"]])
  Ay) Ay)
 (Am (Bg 2 kS[""])
 (Am (Bg 3 Ab[0])
 (Am Sx[Nm Hn yA[Ab[1]]][By[4]][aB4]
 (rQ Ab[2]))))))
def Hw:lg W->M W:=Cp 2 5 Ao7
def Bar:Cw[Ao Agy][md.gm Agx Baq Ak[Agy] Ah]=Ao7:=by rfl'
def Ao8:lg[t6×Fi]:=(u6 "digits" (Hw,2,[]))::Agx
abbrev Ack:dI:=top 15
def Awj:lg t6:=["thing"]
def Aje:MS:=rQ Jk[zB Np[isa] Ab[0] kF[.ty["str"]]][Dz .Eq (Ir .str Ak6 Ab[0] yA[kS[" !\"#$&'()*+,-./0123456789:;<=>?@ABCDEFGHIJKLMNOPQRSTUVWXYZ[\\]^_`abcdefghijklmnopqrstuvwxyz{|}~"]]) kS[""]]
def Qv:lg W->M W:=Cp 1 1 Aje
def Awk:Cw[Ao Ack][md.gm Ao8 Awj Ak[Ack] Ah]=Aje:=by rfl'
def Ajf:lg[t6×Fi]:=(u6 "is_text" (Qv,1,[]))::Ao8
abbrev Xw:dI:=top 19
def Ar0:lg t6:=["text","total"]
def Agz:MS:=Am (ifS Qm[Dp[zA Qv Ab[0]]] (Am (Rh 2 yA[kS["no text"]])
  Ay) Ay)
 (Am (Bg 1 zA[Ak2][Dn 2 [] Ay9[Ab[0]] Mw[[0,1]] (λuu=>pure t8) (Al .mul Al[.sub][zA Av1 Ab[1]][kI[31]] Ab[0])])
 (rQ zB[Hw][Al .mod Ab[1] kI[4093]][kI[2]]))
def Xx:lg W->M W:=Cp 1 2 Agz
def Ar1:Cw[Ao Xw][md.gm Ajf Ar0 Ak[Xw] Ah]=Agz:=by rfl'
def Ag0:lg[t6×Fi]:=(u6 "check_of" (Xx,1,[]))::Ajf
abbrev Kc:dI:=top 52
def Aba:lg t6:=["text"]
def Pb:MS:=rQ Dz[.Eq][zA[Xx][slF Ab[0] Ci Bx[Ab3[kI[2]]]]][slF Ab[0] Bx[Ab3[kI[2]]] Ci]
def Ke:lg W->M W:=Cp 1 1 Pb
def Abb:Cw[Ao Kc][md.gm Ag0 Aba Ak[Kc] Ah]=Pb:=by rfl'
def Ph:lg[t6×Fi]:=(u6 "has_right_check" (Ke,1,[]))::Ag0
abbrev Nb:dI:=top 53
def Ag1:lg t6:=["text","long"]
def Vx:MS:=Am (ifS Qm[Dp[zA Ke Ab[0]]] rQ[kF[.non]] Ay)
 (Am (Bg 1 zA[Jt][slF Ab[0] Bx[kI[1]] Bx[kI[3]]])
 (rQ zB[Ln][ixF Ab[0] kI[0]][aB5]))
def Hx:lg W->M W:=Cp 1 2 Vx
def Ag2:Cw[Ao Nb][md.gm Ph Ag1 Ak[Nb] Ah]=Vx:=by rfl'
def Vy:lg[t6×Fi]:=(u6 "told_by_text" (Hx,1,[]))::Ph
abbrev Acl:dI:=top 37
def Awl:lg t6:=["thing"]
def Ajg:MS:=Am (ifS Ad3[Dp[zB Np[isa] Ab[0] kF[.ty["tuple"]]]][Ad3 tQ[.Gt][zA Cq Ab[0]][kI[0]] Dp[zB[Np isa][ixF Ab[0] kI[0]][kF .ty["str"]]]] rQ[ixF Ab[0] kI[0]] Ay)
 (rQ kF[.non])
def Wv:lg W->M W:=Cp 1 1 Ajg
def Awm:Cw[Ao Acl][md.gm Vy Awl Ak[Acl] Ah]=Ajg:=by rfl'
def Ajh:lg[t6×Fi]:=(u6 "word_of" (Wv,1,[]))::Vy
abbrev Ag3:dI:=top 23
def Bas:lg t6:=["thing"]
def Ao9:MS:=rQ Jk[zA Qv Ab[0]][Jl .LtE .LtE kI[1] (zA Cq Ab[0]) kI[12]]
def Vz:lg W->M W:=Cp 1 1 Ao9
def Bat:Cw[Ao Ag3][md.gm Ajh Bas Ak[Ag3] Ah]=Ao9:=by rfl'
def Apa:lg[t6×Fi]:=(u6 "is_key" (Vz,1,[]))::Ajh
abbrev Kf:dI:=top 38
def Abd:lg t6:=["keys"]
def Pj:MS:=Am (ifS Qm[Dp[zA[Aao][Dn 1 [] Eo[Ab[0]] By[0] (λuu=>pure t8) (zA Vz Ab[0])]]] rQ[kB[t7]] Ay)
 (rQ zA[Aao][Dn 2 [] Av8[yB[Ab 0][slF Ab[0] Bx[kI[1]] Ci]] Mw[[0,1]] (λuu=>pure t8) (Dz .Lt Ab[0] Ab[1])])
def Ex:lg W->M W:=Cp 1 1 Pj
def Abe:Cw[Ao Kf][md.gm Apa Abd Ak[Kf] Ah]=Pj:=by rfl'
def Pk:lg[t6×Fi]:=(u6 "are_rising_keys" (Ex,1,[]))::Apa
abbrev Qg:dI:=top 36
def Aij:lg t6:=["thing","many"]
def Xf:MS:=rQ Jk[zB Np[isa] Ab[0] kF[.ty["tuple"]]][Dz .Eq (zA Cq Ab[0]) Ab[1]]
def Jb:lg W->M W:=Cp 2 2 Xf
def Aik:Cw[Ao Qg][md.gm Pk Aij Ak[Qg] Ah]=Xf:=by rfl'
def Xg:lg[t6×Fi]:=(u6 "is_tuple_of" (Jb,2,[]))::Pk
abbrev R0:dI:=top 35
def Amd:lg t6:=["thing","least","most"]
def Abf:MS:=rQ Jk[zA Qv Ab[0]][Jl .LtE .LtE Ab[1] (zA Cq Ab[0]) Ab[2]]
def Ml:lg W->M W:=Cp 3 3 Abf
def Ame:Cw[Ao R0][md.gm Xg Amd Ak[R0] Ah]=Abf:=by rfl'
def Abg:lg[t6×Fi]:=(u6 "is_text_of" (Ml,3,[]))::Xg
abbrev Cz:dI:=top 34
def Apb:lg t6:=["thing","least"]
def Adr:MS:=rQ Jk[zA Jp Ab[0]][Jl .LtE .LtE Ab[1] Ab[0] kI[4095]]
def Fw:lg W->M W:=Cp 2 2 Adr
def Apc:Cw[Ao Cz][md.gm Abg Apb Ak[Cz] Ah]=Adr:=by rfl'
def Ads:lg[t6×Fi]:=(u6 "is_number" (Fw,2,[(.int 0)]))::Abg
abbrev Acm:dI:=top 39
def Awn:lg t6:=["thing","word"]
def Aji:MS:=Am Bg[1][zA Wv Ab[0]]
 (Am ifS[tQ .Eq Ab[1] kS["in"]][rQ[Jk[Dz .Eq (zA Cq Ab[0]) kI[2]][zC Ml (ixF Ab[0] kI[1]) kI[0] kI[63]]]][Ay]
 (Am ifS[tQ .Eq Ab[1] kS["out"]][rQ[Jk Dz[.Eq][zA Cq Ab[0]][kI[3]] Jk[zA[Jp][ixF Ab[0] kI[1]]][Jk aB6 zB[Fw][ixF Ab[0] kI[2]][kI[1]]]]][Ay]
 (rQ kB[t7])))
def Ww:lg W->M W:=Cp 1 2 Aji
def Awo:Cw[Ao Acm][md.gm Ads Awn Ak[Acm] Ah]=Aji:=by rfl'
def Ajj:lg[t6×Fi]:=(u6 "is_cell" (Ww,1,[]))::Ads
abbrev Xy:dI:=top 40
def Ar2:lg t6:=["thing"]
def Ag4:MS:=Am ifS[orT Qm[Dp[zB Np[isa] Ab[0] kF[.ty["tuple"]]]] tQ[.Gt][zA Cq Ab[0]][kI[63]]][rQ[kB[t7]]][Ay]
 (Am (ifS Qm[Dp[zA[Aao][Dn 1 [] Eo[Ab[0]] By[0] (λuu=>pure t8) Jk[zB Jb Ab[0] kI[2]][zA[Ww][ixF Ab[0] kI[1]]]]]] rQ[kB[t7]] Ay)
 (rQ zA[Ex][Dn 1 [] Eo[Ab[0]] By[0] (λuu=>pure t8) (ixF Ab[0] kI[0])]))
def Xz:lg W->M W:=Cp 1 1 Ag4
def Ar3:Cw[Ao Xy][md.gm Ajj Ar2 Ak[Xy] Ah]=Ag4:=by rfl'
def Ag5:lg[t6×Fi]:=(u6 "are_rows" (Xz,1,[]))::Ajj
abbrev X3:dI:=top 41
def Ar4:lg t6:=["thing"]
def Ag6:MS:=rQ Jk[zB Np[isa] Ab[0] kF[.ty["tuple"]]][Jk[Dz .LtE (zA Cq Ab[0]) kI[63]][zA Ex Ab[0]]]
def X4:lg W->M W:=Cp 1 1 Ag6
def Ar5:Cw[Ao X3][md.gm Ag5 Ar4 Ak[X3] Ah]=Ag6:=by rfl'
def Ag7:lg[t6×Fi]:=(u6 "are_keys" (X4,1,[]))::Ag5
abbrev X5:dI:=top 42
def Ar6:lg t6:=["thing","many"]
def Ag8:MS:=rQ Jk[zB Jb Ab[0] Ab[1]][zA[Aao][Dn 1 [] Eo[Ab[0]] By[0] (λuu=>pure t8) (zB Fw Ab[0] kI[1])]]
def X6:lg W->M W:=Cp 2 2 Ag8
def Ar7:Cw[Ao X5][md.gm Ag7 Ar6 Ak[X5] Ah]=Ag8:=by rfl'
def Ag9:lg[t6×Fi]:=(u6 "are_kids" (X6,2,[]))::Ag7
abbrev Acn:dI:=top 43
def Awp:lg t6:=["thing","word"]
def Ar8:MS:=Am ifS[tQ .Eq Ab[1] kS["free"]][rQ[Jk Dz[.Eq][zA Cq Ab[0]][kI[2]] zA[λws=>Fw[ws ++ [(.int 0)]]][ixF Ab[0] kI[1]]]][Ay] rQ[kB[t7]]
def Ar9:MS:=Am ifS[tQ .Eq Ab[1] kS["rest"]][rQ[Jk Dz[.Eq][zA Cq Ab[0]][kI[3]] Jk[zC Ml (ixF Ab[0] kI[1]) kI[1] kI[400]][zA[λws=>Fw[ws ++ [(.int 0)]]][ixF Ab[0] kI[2]]]]][Ay] Ar8
def Asa:MS:=Am ifS[tQ .Eq Ab[1] kS["fork"]][rQ[Jk[Dz .Eq (zA Cq Ab[0]) kI[3]][Jk zA[X4][ixF Ab[0] kI[1]] zB[X6][ixF Ab[0] kI[2]][Al .add zA[Cq][ixF Ab[0] kI[1]] kI[1]]]]][Ay] Ar9
def Asb:MS:=Am ifS[tQ .Eq Ab[1] kS["leaf"]][rQ[Jk Dz[.Eq][zA Cq Ab[0]][kI[2]] zA[Xz][ixF Ab[0] kI[1]]]][Ay] Asa
def Asc:MS:=Am ifS[tQ .Eq Ab[1] kS["head"]][rQ[Jk Dz[.Eq][zA Cq Ab[0]][kI[5]] zA[Aao][Dn 1 [] Eo[slF Ab[0] Bx[kI[1]] Ci] By[0] (λuu=>pure t8) zA[λws=>Fw[ws ++ [(.int 0)]]][Ab 0]]]][Ay] Asb
def Ajk:MS:=Am Bg[1][zA Wv Ab[0]] Asc
def Wy:lg W->M W:=Cp 1 2 Ajk
def Awq:Cw[Ao Acn][md.gm Ag9 Awp Ak[Acn] Ah]=Ajk:=by rfl'
def Ajl:lg[t6×Fi]:=(u6 "is_page" (Wy,1,[]))::Ag9
abbrev K1:dI:=top 49
def Aco:lg t6:=["page","body","size","start"]
def Qw:MS:=Am (Bg 3 Al[.add][Al .add mdF[Qp][ixF Ab[0] kI[0]] zB[Hw][zA Cq Ab[1]][kI[2]]][Ab[1]])
 (rQ[Ir .str Ak5 Ab[3] yB[Al .sub Ab[2] kI[2]][kS "0"]])
def K3:lg W->M W:=Cp 3 4 Qw
def Acp:Cw[Ao K1][md.gm Ajl Aco Ak[K1] Ah]=Qw:=by rfl'
def Qx:lg[t6×Fi]:=(u6 "unchecked_text" (K3,3,[]))::Ajl
abbrev Acq:dI:=top 33
def Awr:lg t6:=["thing"]
def Ajm:MS:=rQ Jk[zA Jp Ab[0]][Jl .LtE .LtE kI[64] Ab[0] kI[200]]
def Wz:lg W->M W:=Cp 1 1 Ajm
def Aws:Cw[Ao Acq][md.gm Qx Awr Ak[Acq] Ah]=Ajm:=by rfl'
def Ajn:lg[t6×Fi]:=(u6 "is_size" (Wz,1,[]))::Qx
abbrev Nf:dI:=top 44
def Aha:lg t6:=["numbers"]
def V0:MS:=rQ[Ir .str Ny kS[""] yA[Dn 1 [] Eo[Ab[0]] By[0] (λuu=>pure t8) (zB Hw Ab[0] kI[2])]]
def Gp:lg W->M W:=Cp 1 1 V0
def Ahb:Cw[Ao Nf][md.gm Ajn Aha Ak[Nf] Ah]=V0:=by rfl'
def V1:lg[t6×Fi]:=(u6 "numbers_text" (Gp,1,[]))::Ajn
abbrev X7:dI:=top 45
def Asd:lg t6:=["key"]
def Ahc:MS:=rQ[Al .add zB[Hw][zA Cq Ab[0]][kI[1]] Ab[0]]
def Ng:lg W->M W:=Cp 1 1 Ahc
def Ase:Cw[Ao X7][md.gm V1 Asd Ak[X7] Ah]=Ahc:=by rfl'
def Ahd:lg[t6×Fi]:=(u6 "key_text" (Ng,1,[]))::V1
abbrev V2:dI:=top 46
def Apd:lg t6:=["cell"]
def Adt:MS:=Am (ifS tQ[.Eq][ixF Ab[0] kI[0]][kS["in"]] rQ[Al[.add][Al[.add][kS["i"]][zB Hw zA[Cq][ixF Ab[0] kI[1]] kI[1]]][ixF Ab[0] kI[1]]] Ay)
 (rQ[Al .add kS["o"] zA[Gp][slF Ab[0] Bx[kI[1]] Ci]])
def V3:lg W->M W:=Cp 1 1 Adt
def Ape:Cw[Ao V2][md.gm Ahd Apd Ak[V2] Ah]=Adt:=by rfl'
def Adu:lg[t6×Fi]:=(u6 "cell_text" (V3,1,[]))::Ahd
abbrev X8:dI:=top 47
def Asf:lg t6:=["row"]
def Ahe:MS:=rQ[Al .add zA[Ng][ixF Ab[0] kI[0]] zA[V3][ixF Ab[0] kI[1]]]
def R5:lg W->M W:=Cp 1 1 Ahe
def Asg:Cw[Ao X8][md.gm Adu Asf Ak[X8] Ah]=Ahe:=by rfl'
def Ahf:lg[t6×Fi]:=(u6 "row_text" (R5,1,[]))::Adu
abbrev V4:dI:=top 48
def Apf:lg t6:=["page","keys"]
def Adv:MS:=Am (ifS tQ[.Eq][ixF Ab[0] kI[0]][kS["leaf"]] rQ[Al[.add][zB Hw zA[Cq][ixF Ab[0] kI[1]] kI[1]][Ir .str Ny kS[""] yA[Dn 1 [] Eo[ixF Ab[0] kI[1]] By[0] (λuu=>pure t8) (zA R5 Ab[0])]]] Ay)
 (Am (ifS tQ[.Eq][ixF Ab[0] kI[0]][kS["fork"]] (Am Bg[1][Ir .str Ny kS[""] yA[Dn 1 [] Eo[ixF Ab[0] kI[1]] By[0] (λuu=>pure t8) (zA Ng Ab[0])]]
  (rQ[Al .add Al[.add][zB Hw zA[Cq][ixF Ab[0] kI[1]] kI[1]][Ab[1]] zA[Gp][ixF Ab[0] kI[2]]])) Ay)
 (Am (ifS tQ[.Eq][ixF Ab[0] kI[0]][kS["rest"]] rQ[Al[.add][zA[Gp][slF Ab[0] Bx[kI[2]] Ci]][ixF Ab[0] kI[1]]] Ay)
 (rQ zA[Gp][slF Ab[0] Bx[kI[1]] Ci])))
def V5:lg W->M W:=Cp 1 2 Adv
def Apg:Cw[Ao V4][md.gm Ahf Apf Ak[V4] Ah]=Adv:=by rfl'
def Adw:lg[t6×Fi]:=(u6 "body_text" (V5,1,[]))::Ahf
abbrev Acr:dI:=top 54
def Awt:lg t6:=["text","page"]
abbrev aB8:=Am N5[3][[]][yB kF[.non] kS["no text of a size from 64 to 200"]] Ay
abbrev aC2:=yB kF[.non] kS["a text with other signs than a page's"]
def Ajo:MS:=Am ifS[orT Qm[Dp[zB Np[isa] Ab[0] kF[.ty["str"]]]] Qm[Dp[zA[Wz][zA Cq Ab[0]]]]][aB8][Ay]
 (Am (Ak9 (λc=>c==2&&exm 2 c) 3 aC2 (Am Bg[1][zA Hx Ab[0]]
  Ay))
 (Am (ifS Qm[Dp[zA Wy Ab[1]]] (Am N5[3][[]][yB kF[.non] kS["a text that tells no page"]]
  Ay) Ay)
 (Am (ifS tQ[.NotEq][zC[K3][Ab 1][zA V5 Ab[1]][zA Cq Ab[0]]][slF Ab[0] Ci Bx[Ab3[kI[2]]]] (Am N5[3][[]][yB kF[.non] kS["a text that isn't as its page's"]]
  Ay) Ay)
 (rQ Ab[1]))))
def Ii:lg W->M W:=Cp 1 2 Ajo
def Awu:Cw[Ao Acr][md.gm Adw Awt Ak[Acr] Ah]=Ajo:=by rfl'
def Ajp:lg[t6×Fi]:=(u6 "page_of" (Ii,1,[]))::Adw
abbrev V6:dI:=top 77
def Aph:lg t6:=["_law_text_here","e"]
abbrev aB1:=rQ Jz[Ad3 Dp[zB Np[isa] Ab[1] kF[.cls[3]]] Dp[zB Np[isa] Ab[1] kF[.ty["ValueError"]]]][kF .non][kS "other"]
def Adx:MS:=Am (Av6 exm[0] 1 rQ[zA Ii Ab[0]] aB1)
 Ay
def Gr:lg W->M W:=Cp 1 2 Adx
def Api:Cw[Ao V6][md.gm Ajp Aph Ak[V6] Ah]=Adx:=by rfl'
def Apj:lg[t6×Fi]:=(u6 "_law_said" (Gr,1,[]))::Ajp
abbrev Ajq:dI:=top 79
def Bnw:lg t6:=["_law_script","_law_state","_law_size","_law_page_here","_law_good","_law_body_here","_law_turn","_law_number","_law_text_here","_law_other","_law_more","_law_far","_law_at","_law_some","_law_sign","_law_behind","_law_due_here"]
def Bkm:MS:=Am Bg[8][zB M6 Ab[1] Ab[2]] rQ[Jk Dz[.Eq][zA Gr Ab[8]][zA Kz Ab[8]] Dz[.Eq][zA Gr Ab[4]][Ab[3]]]
abbrev aA0:=Am Bg[10][zA Bt Ab[1]] (Am Bg[11][Al .fdiv Ab[10] kI[7]] Am[Bg 12 ixF[Hf[Eu kI[0] Eu[kI 1][Eu kI[2] yD[kI 3][Al .mod Ab[11] (Al .sub Ab[2] kI[2])][Al .add kI[3] Al[.mod][Ab[11]][zB Anq kI[1] Ab[5]]][Al .add kI[3] Ab[5]]]]][Al .mod Ab[10] kI[7]]][Am[Bg 12 zB[Av2][Ab[12]][Al .sub Ab[2] kI[3]]][Am[Bg 13 Al[.add][kS["hlfreio0123456789abcdABZ+- "]][zB Hr Ab[10] kI[8]]][Am Bg[14][ixF Ab[13] Al[.mod][Al .fdiv Ab[10] kI[1500]][zA Cq Ab[13]]] Am[Bg[15][slF Ab[8] Bx[Al .add Ab[12] kI[1]] Ci]][Am Bg[8][Al .add Al[.add][slF Ab[8] Ci Bx[Ab[12]]][Ab[14]] Ab[15]] Ay]]]])
abbrev aA4:=ifS (tQ .Eq Al[.mod][Al .fdiv Ab[7] kI[2]][kI[9]] kI[2]) Am[Bg 10 Al[.add][ixF Hf[Eu[kI 196][yD kI[197] kI[198] kI[199] kI[201]]] Al[.mod][Al .fdiv Ab[7] kI[18]][kI[5]]][kI[2]]][Am[Bg 8 Al[.add][slF Ab[4] Ci Bx[Ab3[kI[2]]]][Al[.mul][kS["0"]][Al .sub Ab[10] Ab[2]]]][Ay]] Ay
abbrev aA6:=ifS[tQ .Eq Al[.mod][Al .fdiv Ab[7] kI[2]][kI[9]] kI[1]][Am Bg[8][slF Ab[4] Ci Bx[Al .add kI[60] Al[.mod][Al .fdiv Ab[7] kI[18]][kI[5]]]] Ay][Ay]
abbrev aA1:=Am aA6 (Am aA4 Am[Bg 8 Al[.add][Ab[8]][zA J4 Ab[8]]][Am Bg[16][zA Kz Ab[8]] Am[ifS tQ[.NotEq][zA Gr Ab[8]][Ab[16]] rQ[kB[t7]] Ay][Ay]])
abbrev aC4:=Nm Hn yA[Al[.add][kI[1]][Al .mod Ab[7] kI[2]]]
def Bkn:MS:=Am (Sx (Nm Hn yA[kI[6]]) By[6] (Am Bg[7][zA Bt Ab[1]]
  (Am Bg[8][slF Ab[4] Ci Bx[Ab3[kI[2]]]]
  (Am (Sx aC4 By[9] aA0)
  aA1)))) Bkm
def Bko:MS:=Am (Bg 5 zA[Cq][zA Gq Ab[3]]) Bkn
def Bkp:MS:=Am Bg[4][zB Gi Ab[3] Ab[2]] Bko
def Bkq:MS:=Am Bg[3][zB Vi Ab[1] Ab[2]] Bkp
def Bkr:MS:=Am Bg[2][ixF Hf[yC[kI 64][kI 200][Al .add kI[64] Al[.mod][zA Bt Ab[1]][kI[137]]]] Al[.mod][zA Bt Ab[1]][kI[3]]] Bkq
def Bg9:MS:=Am (Bg 1 Nz[[((kS "cells"),(Ab 0)),((kS "at"),(kI 0))]]) Bkr
def Aud:lg W->M W:=Cp 1 17 Bg9
def Bnx:Cw[Ao Ajq][md.gm Apj Bnw Ak[Ajq] Ah]=Bg9:=by rfl'
abbrev Dg:dI:=inClass top[4] 0
theorem Aeh:Gs ["self","number","words"] ["self","number","words"] Ak[Dg]:=(rfl,rfl,rfl,(),rfl,(),())
def all_mk{l:uN}{w:dZ}{K:aF}{h:eE}{mg:t6->o9 aH}(X:K.In h)(G:h.Ns mainGlobals mg)(hfa:mg "law"=sr .ref[fa])(law:∀ns:lg Int,ns.length<=63->∃S',Aud [.scr ns] []=.ok .bl[t8] S')(C0:bG K mainGlobals "TableError"=sr sr[.ref[J]])(C1:bG K mainGlobals "BadNumber"=sr sr[.ref[c1]])(C2:bG K mainGlobals "BadText"=sr sr[.ref[Z]])(C3:bG K mainGlobals "BadPage"=sr sr[.ref[C]])(C4:bG K mainGlobals "BodyReader"=sr sr[.ref[i]])(D0:Et K mg "_law_cell_at" M4 ["_law_script","_law_k"])(D1:Et K mg "_law_next" Vc ["_law_state"])(D2:Et K mg "_law_signs" Rp [])(D3:Et K mg "_law_text" Ve ["_law_number","_law_size"])(D4:Et K mg "_law_rising" Qa ["_law_state","_law_many"])(D5:Et K mg "_law_cell" Vf ["_law_state","_law_size"])(D6:Et K mg "_law_digits" Qd ["_law_number","_law_many"])(D7:Et K mg "_law_body" Vg ["_law_page_here"])(D8:Et K mg "_law_page" Vh ["_law_state","_law_size"])(D9:Et K mg "_law_check" Rq ["_law_text_here"])(D10:Et K mg "_law_page_text" Ky ["_law_page_here","_law_size"])(D11:Et K mg "_law_no_page" M5 ["_law_state","_law_size"])(D12:Et K mg "_law_value_of" Ls ["_law_text_here"])(D13:Et K mg "_law_taken" Rr ["_law_body_here","_law_at","_law_many"])(D14:Et K mg "_law_word" Vl ["_law_body_here","_law_at"])(D15:Et K mg "_law_numbers" M7 ["_law_body_here","_law_at","_law_many"])(D16:Et K mg "_law_cell_at_place" Ht ["_law_body_here","_law_at"])(D17:Et K mg "_law_rows" Vq ["_law_body_here","_law_with_cells"])(D18:Et K mg "_law_told" Vs ["_law_letter","_law_body_here"])(D19:Et K mg "_law_is_good" M8 ["_law_page_here"])(D20:Et K mg "_law_due" Xu ["_law_text_here"])(D21:Et K mg "is_written_number" Iu ["thing"])(D22:Et K mg "number_of" Vv ["text"])(D23:Agc K i "__init__" "BodyReader.__init__" Hh ["self","body"])(D24:Agc K i "next_signs" "BodyReader.next_signs" Gj ["self","many"])(D25:Agc K i "next_number" "BodyReader.next_number" Ga ["self","many"])(D26:Agc K i "next_key" "BodyReader.next_key" Hj ["self"])(D27:Agc K i "next_keys" "BodyReader.next_keys" Gz ["self","many"])(D28:Agc K i "next_numbers" "BodyReader.next_numbers" Fq ["self","many"])(D29:Agc K i "next_cell" "BodyReader.next_cell" G5 ["self"])(D30:Agc K i "next_row" "BodyReader.next_row" Hl ["self"])(D31:Agc K i "next_rows" "BodyReader.next_rows" G6 ["self","many"])(D32:Et K mg "told_page" Vw ["letter","body"])(D33:Et K mg "is_whole" Xv ["thing"])(D34:Et K mg "digits" Agy ["number","many"])(D35:Et K mg "is_text" Ack ["thing"])(D36:Et K mg "check_of" Xw ["text"])(D37:Et K mg "has_right_check" Kc ["text"])(D38:Et K mg "told_by_text" Nb ["text"])(D39:Et K mg "word_of" Acl ["thing"])(D40:Et K mg "is_key" Ag3 ["thing"])(D41:Et K mg "are_rising_keys" Kf ["keys"])(D42:Et K mg "is_tuple_of" Qg ["thing","many"])(D43:Et K mg "is_text_of" R0 ["thing","least","most"])(ca44:bG K mainGlobals "is_number"=sr sr[.ref[f44]])(cl44:K.lookup f44=sr (oc44,od44,.func[dR "is_number" "is_number" Fb[Cz] Ao[Cz] Ak[Cz] .ref[F] u z r E n A],sl44))(cc44:lA K n "is_number"=t8)(ck44:dD K .ref[f44]=t8)(T:K.lookup F=sr (do44,dd44,.seq #[(.int 0 dk44_0)] dn44,dz44))(D45:Et K mg "is_cell" Acm ["thing"])(D46:Et K mg "are_rows" Xy ["thing"])(D47:Et K mg "are_keys" X3 ["thing"])(D48:Et K mg "are_kids" X5 ["thing","many"])(D49:Et K mg "is_page" Acn ["thing"])(D50:Et K mg "unchecked_text" K1 ["page","body","size"])(D51:Et K mg "is_size" Acq ["thing"])(D52:Et K mg "numbers_text" Nf ["numbers"])(D53:Et K mg "key_text" X7 ["key"])(D54:Et K mg "cell_text" V2 ["cell"])(D55:Et K mg "row_text" X8 ["row"])(D56:Et K mg "body_text" V4 ["page"])(D57:Et K mg "page_of" Acr ["text"])(D58:Et K mg "_law_said" V6 ["_law_text_here"])(D59:Et K mg "law" Ajq ["_law_script"])(ca60:cD K .ref[C] "__init__"=sr sr[.ref[y]])(cl60:K.lookup y=sr (oc60,od60,.func[dR "__init__" "BadPage.__init__" Fb[Dg] Ao[Dg] Ak[Dg] .ref[t60] Q U O an60 B Y],sl60))(cc60:lA K B "BadPage.__init__"=t8)(ck60:dD K .ref[y]=t8)(S:K.lookup t60=sr (do60,dd60,.seq #[.none,(.str "no page as it is wanted" dk60_1)] dn60,dz60))(g0:bG K mainGlobals "SIGNS"=sr sr[.str "0123456789abcdefghijklmnopqrstuvwxyzABCDEFGHIJKLMNOPQRSTUVWXYZ+-" tk0])(g1:bG K mainGlobals "BITS"=sr sr[.int 6 tk1])(g2:bG K mainGlobals "LOWEST_BITS"=sr sr[.int 63 tk2])(g3:bG K mainGlobals "MOST_SIGNS"=sr sr[.int 3 tk3])(g4:bG K mainGlobals "TEXT_SIGNS"=sr sr[.str " !\"#$&'()*+,-./0123456789:;<=>?@ABCDEFGHIJKLMNOPQRSTUVWXYZ[\\]^_`abcdefghijklmnopqrstuvwxyz{|}~" tk4])(g5:bG K mainGlobals "CODES_AHEAD"=sr sr[.int 31 tk5])(g6:bG K mainGlobals "CHECK_DIVISOR"=sr sr[.int 4093 tk6])(g7:bG K mainGlobals "CHECK_SIGNS"=sr sr[.int 2 tk7])(g8:bG K mainGlobals "MOST_KEY_SIGNS"=sr sr[.int 12 tk8])(g9:bG K mainGlobals "MOST_VALUE_SIGNS"=sr sr[.int 400 tk9])(g10:bG K mainGlobals "LEAST_SIZE"=sr sr[.int 64 tk10])(g11:bG K mainGlobals "MOST_SIZE"=sr sr[.int 200 tk11])(g12:bG K mainGlobals "MOST_NUMBER"=sr sr[.int 4095 tk12])(g13:bG K mainGlobals "MOST_ROWS"=sr sr[.int 63 tk13])(g14:bG K mainGlobals "MOST_CELL_SIGNS"=sr sr[.int 63 tk14])(g15:bG K mainGlobals "NUMBER_SIGNS"=sr sr[.int 2 tk15])(g16:bG K mainGlobals "BODY_START"=sr sr[.int 3 tk16])(z0:bG K mainGlobals "isinstance"=sr sy)(z1:bG K mainGlobals "len"=sr sy)(z2:bG K mainGlobals "ord"=sr sy)(z3:bG K mainGlobals "max"=sr sy)(z4:bG K mainGlobals "min"=sr sy)(z5:bG K mainGlobals "sum"=sr sy)(z6:bG K mainGlobals "all"=sr sy)(z7:bG K mainGlobals "tuple"=sr sy)(z8:bG K mainGlobals "list"=sr sy)(z9:bG K mainGlobals "sorted"=sr sy)(z10:bG K mainGlobals "range"=sr sy)(z11:bG K mainGlobals "zip"=sr sy)(z12:bG K mainGlobals "enumerate"=sr sy)(z13:bG K mainGlobals "set"=sr sy)(z14:bG K mainGlobals "int"=sr sy)(z15:bG K mainGlobals "bool"=sr sy)(z16:bG K mainGlobals "str"=sr sy)(z17:bG K mainGlobals "ValueError"=sr sy)(x0:Anf K J)(x1:Anf K c1)(x2:Anf K Z)(isL:At0 K [J,c1,Z,C,i] Bnn=t8)(veL:Az1 K [J,c1,Z,C,i] Bno=t8)(exL:At2 K [J,c1,Z,C,i] Bnu=t8)(mg0:bG K mainGlobals "LETTERS"=sr sr[.ref[m0]])(mt0:aEa[aDf λb=>K.lookup b][λb=>K.lookup b][m0][Qp.map λp=>(u6 p.1 qJ[.str[p.2]])]=t8)(N:Afu K C y=t8)(xk60:dD K .ref[C]=t8)(xf60:Bke K y=t8)(xs60:xsB K C "number"=t8)(xb60:xbB K J=t8)(cm4:nG K i=t8)(cy4:dD K .ref[i]=t8)(d:Az3 K i=t8)(fl:At1 K [J,c1,Z,C,i] Bnp=t8)(xl:Az5 K [J,c1,Z,C,i] xfL=t8): ∃fd:eX,(∀(s:aN)(v:aH),xW s fd ([v],[]) [("_law_script",v)])/\∀base:eE,K.In base->base.Ns mainGlobals mg->Ib l.prog w K mg base (CXo l.prog w) 122 fa fd ["_law_script"] Azy[K]:=by
 let(fL,kV,dc,pm,an,cd,ct,Fl,hm):=D59;let e:fa=fL:=aBz bK[hfa.symm.trans[hm]];rw[e];let F44:=Ake (st:=Cz) cl44 cc44 ck44;let b44:Binds K (dR "is_number" "is_number" Fb[Cz] Ao[Cz] Ak[Cz] .ref[F] u z r E n A) ["thing","least"] []:=λs q KX hl=>by
  let m:q.length=2:=by simpa using hl
  exact match q,m with|[_,_],_=>.of_defaults rfl (KX _ _ T) rfl rfl rfl
 let v44:Binds K (dR "is_number" "is_number" Fb[Cz] Ao[Cz] Ak[Cz] .ref[F] u z r E n A) ["thing","least"] [(.int 0 dk44_0)]:=λs q KX hl=>by
  let m:q.length=1:=by simpa using hl
  exact match q,m with|[_],_=>.of_defaults rfl (KX _ _ T) rfl rfl rfl
 let D44:Xa K mg "is_number" Cz ["thing","least"] f44 (dR "is_number" "is_number" Fb[Cz] Ao[Cz] Ak[Cz] .ref[F] u z r E n A):=(F44,bR X G ca44,b44);let F60:=Ake (st:=Dg) cl60 cc60 ck60;let b60:Binds K (dR "__init__" "BadPage.__init__" Fb[Dg] Ao[Dg] Ak[Dg] .ref[t60] Q U O an60 B Y) ["self","number","words"] []:=λs q KX hl=>by
  let m:q.length=3:=by simpa using hl
  exact match q,m with|[_,_,_],_=>.of_defaults rfl (KX _ _ S) rfl rfl rfl
 let v60:Binds K (dR "__init__" "BadPage.__init__" Fb[Dg] Ao[Dg] Ak[Dg] .ref[t60] Q U O an60 B Y) ["self","number","words"] [.none,(.str "no page as it is wanted" dk60_1)]:=λs q KX hl=>by
  let m:q.length=1:=by simpa using hl
  exact match q,m with|[_],_=>.of_defaults rfl (KX _ _ S) rfl rfl rfl
 refine(dR "law" "law" Fb[Ajq] Ao[Ajq] Ak[Ajq] .none kV dc pm an cd ct,λs v=>.of_eq rfl,λbase uu uu=>Bkc (xf:=λc=>xfL.lookup c) (cl:=addrs [J,c1,Z,C,i]) (g:=Aud) law ?_);letI j:=Azx K addrs[[J,c1,Z,C,i]] λc=>xfL.lookup c;let M:md.Ok j K mg:={
  hK:=rfl
  con:=AllP.at (L:=Bnq) (P:=Az0 j mg) (Atx[bR X G g0],Gv[bR X G g1],Gv[bR X G g2],Gv[bR X G g3],Atx[bR X G g4],Gv[bR X G g5],Gv[bR X G g6],Gv[bR X G g7],Gv[bR X G g8],Gv[bR X G g9],Gv[bR X G g10],Gv[bR X G g11],Gv[bR X G g12],Gv[bR X G g13],Gv[bR X G g14],Gv[bR X G g15],Gv[bR X G g16],Ab5[bV X G z14][by rfl'],Ab5[bV X G z15][by rfl'],Ab5[bV X G z16][by rfl'],Ab5[bV X G z7][by rfl'],Ab5[bV X G z8][by rfl'],Ab5[bV X G z17][by rfl'],Aaw[bR X G C0],Aaw[bR X G C1],Aaw[bR X G C2],Aaw[bR X G C3],Aaw[bR X G C4],trivial)
  bi:=AllB.at (L:=biL) (P:=λx=>mg x=sy) (bV X G z0,bV X G z1,bV X G z2,bV X G z3,bV X G z4,bV X G z5,bV X G z6,bV X G z7,bV X G z8,bV X G z9,bV X G z10,bV X G z11,bV X G z12,bV X G z13,trivial)
  fld:=Bkg fl xl
  isa:=Bkf isL veL
  exc:=AllP.at (L:=Bnr) (P:=λx c=>j.xf c=sy/\Anf K j.cl[c]/\mg x=sr .ref[j.cl[c]]) ((rfl,x0,bR X G C0),(rfl,x1,bR X G C1),(rfl,x2,bR X G C2),trivial)
  mdc:=AllP.at (L:=Bnv) (P:=λx D=>∃a,Av9 K a D/\mg x=sr .ref[a]) ((_,Be4 mt0,bR X G mg0),trivial)
  hcl:=AllP.at (L:=Bnt) (P:=λx k=>mg x=sr .ref[j.cl[k]]) (bR X G C0,bR X G C2,trivial)
  exm:=λk c h=>Bkh exL k c h
  mkl:=AllP.at (L:=mkL) (P:=λx c=>mg x=sr .ref[j.cl[c]]/\nG K j.cl[c]=t8/\dD K .ref[j.cl[c]]=t8) ((bR X G C4,cm4,cy4),trivial) }
 let hI:XiT j md l.prog w K mg base 1:=λx c dv h=>AllP.at (L:=Bns) (P:=λx (p:Nat×lg W)=>∃f,j.xf p.1=sr f/\mg x=sr .ref[j.cl[p.1]]/\∃(fI:aM)(fd:eX)(ps:lg t6)(dvs:lg V)(ds:lg aH),Afu K j.cl[p.1] fI=t8/\dD K .ref[j.cl[p.1]]=t8/\iV K .ref[fI]=sr .type["function"]/\(∀cm,Ib l.prog w K mg base (CXo l.prog w) 1 fI fd ps (Akv j.cl[p.1] f) cm)/\Binds K fd ps ds/\Vals dvs ds/\dvs.length=p.2.length) ((_,rfl,bR X G C3,y,_,_,[],[],N,xk60,Be3 xf60,λuu=>Bmr F60 Aeh rfl (bR X G C0) Bnh[xb60] Bng[xs60] N () () () () () () (),b60,.nil,rfl),trivial) x (u6 c dv) h
 let t:TU j md l.prog w K mg base 2 T_0 U_0:=(Tbl.nil,MTb.nil,hI,(),M)
 let t:=Fe Agn t D0;let t:=Fe Aoj t D1;let t:=Fe Aln t D2;let t:=Fe Aol t D3;let t:=Fe Aig t D4;let t:=Fe Aon t D5;let t:=Fe Aii t D6;let t:=Fe Aop t D7;let t:=Fe Aor t D8;let t:=Fe Al1 t D9;let t:=Fe Acj t D10;let t:=Fe Agp t D11;let t:=Fe Aea t D12;let t:=Fe Al3 t D13;let t:=Fe Aot t D14;let t:=Fe Agr t D15;let t:=Fe Vp t D16;let t:=Fe Aov t D17;let t:=Fe Aox t D18;let t:=Fe Agt t D19;let t:=Fe Arx t D20;let t:=Fe W8 t D21;let t:=Fe Ao4 t D22;let t:=Alh (c:=4) Tc t d D23;let t:=Alh (c:=4) Qu t d D24;let t:=Alh (c:=4) Qf t d D25;let t:=Alh (c:=4) Te t d D26;let t:=Alh (c:=4) Ru t d D27;let t:=Alh (c:=4) Nu t d D28;let t:=Alh (c:=4) Rw t d D29;let t:=Alh (c:=4) Ti t d D30;let t:=Alh (c:=4) Rz t d D31;let t:=Fe Ao6 t D32;let t:=Fe Arz t D33;let t:=Fe Bar t D34;let t:=Fe Awk t D35;let t:=Fe Ar1 t D36;let t:=Fe Abb t D37;let t:=Fe Ag2 t D38;let t:=Fe Awm t D39;let t:=Fe Bat t D40;let t:=Fe Abe t D41;let t:=Fe Aik t D42;let t:=Fe Ame t D43;let t:=Bnk (dv:=[(.int 0)]) Apc t D44 rfl ((.cons (_,rfl) .nil)) v44;let t:=Fe Awo t D45;let t:=Fe Ar3 t D46;let t:=Fe Ar5 t D47;let t:=Fe Ar7 t D48;let t:=Fe Awq t D49;let t:=Fe Acp t D50;let t:=Fe Aws t D51;let t:=Fe Ahb t D52;let t:=Fe Ase t D53;let t:=Fe Ape t D54;let t:=Fe Asg t D55;let t:=Fe Apg t D56;let t:=Fe Awu t D57;let t:=Fe Api t D58;exact Bpu Bnx t (Fl,hm,Afm λq h=>match q,h with|[_],_=>rfl)
section
def K4(i:Int):Pu P Jp[[.int i]] .bl[t8]:=(λS b=>([],by rw[bC];rfl))
def Ae1(v:Int)(b:0<=v)(h:v < 64):Pu P (ixW .str["0123456789abcdefghijklmnopqrstuvwxyzABCDEFGHIJKLMNOPQRSTUVWXYZ+-"] .int[v]) .str[M1.one[M1.sg[v.toNat]]]:=by
 let(k,rfl):=Int.eq_ofNat_of_zero_le b;let c:k < 64:=by omega
 let e:atI M1.sgs.cps.toList k=sr M1.sg[k]:=by
  unfold atI ixN;rw[di b,di (by rw[aV,M1.Aa3];exact h)]
  show M1.sgs.cps.toList[_]?=_;rw[dG,M1.Art c]
 show Pu P (if M1.sgs.length<=big then Aid[(atI M1.sgs.cps.toList (k:Int)).map _] else bad) _
 rw[e];exact Fv () Pu.pure
def Ahg{n:Int}(f:0<=n)(e:t.length<=10):PuN P aB4
  [a,b,sr .str[t],sr .int[n],c] [a,b,sr .str[M1.one M1.sg[(n % 64).toNat] ++ t],sr .int[n / 64],c]:=by
 refine Nr Bf[Ai Be[Ac][Ai Ad[rfl] Ac Pu.pure][?_] Ad[rfl] Bv[?_]] (Nr Bf[Ai Ad[rfl] Ac Arl[by simp]] An)
 .rw[bitAnd_m6 _];exact Ae1 _ () ()
 .show 1+_<=big;unfold big;omega
def Bfc{n:Int}(a:0<=n)(c:n < 64):Pu P Hw[[.int n,.int 1]] .str[M1.Ce 1 n]:=by
 apply Bj rfl;refine Bq Do[Gh Ew[Af[Ag[Aa Ad[rfl] Ae][K4 n]]] Af[Aj Ad[rfl] Ac Age]][by simp_all][An] ?_
 refine Bq (Do Gh[Ew Af[Ag[Aa Ad[rfl] Ae][K4 1]]][Gh Af[Aj Ad[rfl] Ac Age] Af[Aj Ad[rfl] Ac Qo]] rfl An) ?_;refine Bq (Do Af[Aj Ai[Ad[rfl]][Ai Ac Ad[rfl] Je[by rfl]][Arl[by simp]] Ac Qo] (by
  grind) An) ?_
 refine Bq[Bf Ac][Bq Bf[Ad[rfl]] ?_];refine Bq Mh[Gx (Aa Ad[rfl] Ae) ()][J2 rfl Ahg[a][by trivial] Rk] Aw[Aq[Pu.cast Ad[rfl] ?_]]
 show W.str[_ ++ ⟨#[]⟩]=W.str[_ ++ ⟨_⟩];simp
def Amf{n:Int}(a:0<=n)(c:n < 4096):Pu P Hw[[.int n,.int 2]] .str[M1.Ce 2 n]:=by
 apply Bj rfl;refine Bq (Do (Gh Ew[Af[Ag[Aa Ad[rfl] Ae][K4 n]]] Af[Aj Ad[rfl] Ac Age]) (by simp;omega) An) ?_
 refine Bq (Do Gh[Ew Af[Ag[Aa Ad[rfl] Ae][K4 2]]][Gh Af[Aj Ad[rfl] Ac Age] Af[Aj Ad[rfl] Ac Qo]] rfl An) ?_;refine Bq (Do Af[Aj Ai[Ad rfl][Ai Ac Ad[rfl] (Je ())][Arl ()] Ac Qo] (by
  simp;show n / 4096<=0;omega) An) ?_
 refine Bq[Bf Ac][Bq Bf[Ad[rfl]] ?_];refine Bq (Mh (Gx (k:=2) (Aa Ad[rfl] Ae) ()) J2[rfl][Ahg a ()][J2[rfl][Ahg () (by show 1+0<=10;decide)][Rk]]) Aw[Aq[Pu.cast Ad[rfl] ?_]]
 show _=W.str[M1.one M1.sg[(n / 64 ^ 1 % 64).toNat] ++ (M1.one M1.sg[(n / 64 ^ 0 % 64).toNat] ++ ⟨#[]⟩)];rw[yQ,uJ];rfl
end
section
def Bfd{c:Nat}:Pu P Av1[[.str ⟨#[c]⟩]] (.int (c:Nat)):=Pu.pure
def Acs(g:Pu P f[Z] .str[z])(e:Pu P h[Z] b)(d:Pu P (c .str[z] b) w):Pu P (Ir .str c f h Z) w:=by
 refine g.bind (Pu.bind (a:=u9) (λS i=>([],?_)) e.bind[d]);rw[bC];rfl
def Acu:("":t6)=⟨#[]⟩:=rfl
def Amg(z:t6)(a:z.length<=big):Pu P Qv[[.str z]] .bl[M2.Bs[z]]:=by
 apply Bj rfl;apply Aw;apply Aq;refine Pu.cast (Aj Acs[Ad rfl][Aa Ac Ae][Fv a Pu.pure] Ac Rn) ?_;show W.bl[jM z M2.tsg==_]=_;rw[Acu,M2.Arv]
def len_str(hz:z.length<=big):Pu P Cq[[.str z]] .int[z.length]:=Fv hz Pu.pure
def Fx:Pu P Cq[[.tup ws]] .int[ws.length]:=Pu.pure
def Amh:Pu P (Np isa [.str z,.ty "str"]) .bl[t8]:=(λS a=>([],by rw[bC];rfl))
def Ae2:Pu P (Np isa [.tup a,.ty "tuple"]) .bl[t8]:=(λS b=>([],by rw[bC];rfl))
def isKey(z:t6):Bool:=M2.Bs z&&(decide[1<=z.length]&&decide[z.length<=12])
def Bau(z:t6)(a:z.length<=big):Pu P Vz[[.str z]] .bl[isKey[z]]:=by
 apply Bj rfl;apply Aw;apply Aq;refine Pu.cast Rm[Ag[Aa Ad[rfl] Ae][Amg z a]][Li Ac Ag[Aa Ad[rfl] Ae][len_str a] Lh Ac Lh] ?_
 congr 3
 .exact decide_eq_decide.mpr ()
 .exact decide_eq_decide.mpr ()
def Ec(n k:Int):Bool:=decide[k<=n]&&decide[n<=4095]
def Ash(n k:Int):Pu P Fw[[.int n,.int k]] .bl[Ec n k]:=Bj rfl Aw[Aq[Du[Ag[Aa Ad[rfl] Ae][K4 n]][Li Ad[rfl] Ad[rfl] Lh Ac Lh]]]
def Ajr(z:t6)(a b:Int)(hz:z.length<=big):Pu P Ml[[.str z,.int a,.int b]] .bl[M2.Bs z&&(decide[a<=z.length]&&decide[(z.length:Int)<=b])]:=Bj rfl Aw[Aq[Rm[Ag[Aa Ad[rfl] Ae][Amg z hz]][Li Ad[rfl] Ag[Aa Ad[rfl] Ae][len_str hz] Lh Ad[rfl] Lh]]]
def Apk(ws:lg W)(n:Int):Pu P Jb[[.tup ws,.int n]] .bl[(ws.length:Int)==n]:=Bj rfl Aw[Aq[Du[Ag Aa[Ad rfl][Aa Ac Ae] Ae2][Aj Ag[Aa Ad[rfl] Ae][Fx] Ad[rfl] Lp]]]
def Az{i:Int}(h:atI a i=sr w):Pu P (ixW .tup[a] .int[i]) w:=by
 show Pu P Aid[_] w;rw[h];exact Pu.pure
def R6(z:t6)(a:lg W):Pu P Wv[[.tup (.str z::a)]] .str[z]:=by
 let e:atI (W.str z::a) 0=sr W.str[z]:=by
  unfold atI ixN;simp
 apply Bj rfl;apply Aw;apply Fz
 .apply Ali
  .exact Af[Ag Aa[Ad rfl][Aa Ac Ae] Ae2]
  apply Ali
  .exact Af[Aj Ag[Aa Ad[rfl] Ae][Fx] Ac Qo]
  .exact Af[Ag Aa[Be Ad[rfl] Ac Az[e]][Aa Ac Ae] Amh]
 .simp
 .exact Aw Aq[Be Ad[rfl] Ac Az[e]]
end
inductive Cl where
 |inn (t:t6)
 |out (n p:Int)
def Cl.w:Cl->W
 |.inn t=>.tup [.str "in",.str t]
 |.out n p=>.tup [.str "out",.int n,.int p]
def Cl.ok:Cl->Bool
 |.inn t=>M2.Bs t&&decide (t.length<=63)
 |.out n p=>decide[1<=n]&&decide[n<=400]&&Ec p 1
inductive Pg where
 |head (a b c d:Int)
 |leaf (rs:List (t6×Cl))
 |fork (ks:List t6) (ps:List Int)
 |rest (t:t6) (n:Int)
 |free (n:Int)
def K7(r:t6×Cl):W:=.tup [.str r.1,r.2.w]
def Pg.w:Pg->W
 |.head a b c d=>.tup [.str "head",.int a,.int b,.int c,.int d]
 |.leaf rs=>.tup [.str "leaf",.tup rs.map[K7]]
 |.fork ks ps=>.tup [.str "fork",.tup ks.map[W.str],.tup ps.map[W.int]]
 |.rest t n=>.tup [.str "rest",.str t,.int n]
 |.free n=>.tup [.str "free",.int n]
section
def Cl.sm:Cl->Prop
 |.inn t=>t.length<=400
 |.out _ _=>True
def Bks(c:Cl)(h:c.sm):Pu P Ww[[c.w]] .bl[c.ok]:=by
 cases c with
 |inn t=>
  apply Bj rfl;refine Bq Bf[Ag[Aa Ad[rfl] Ae][R6 _ _]] Aw[Fz Af[Aj[Ad[rfl]][Ac][Br () ()]] () Aw[Aq[?_]]]
  refine Pu.cast Du[Aj Ag[Aa Ad[rfl] Ae][Fx] Ac Lp][Ag[Aa[Be Ad[rfl] Ac Az[rfl]][Aa[Ac][Aa Ac Ae]]][Ajr t 0 63 (aD h ())]] ?_
  unfold Cl.ok;rw[dj (by omega:(0:Int)<=t.length),jE,decide_eq_decide.mpr (by omega:((t.length:Int)<=63 ↔ t.length<=63))]
 |out n p=>
  apply Bj rfl;refine Bq Bf[Ag[Aa Ad[rfl] Ae][R6 _ _]] Bq[Do Af[Aj[Ad[rfl]][Ac][Br () ()]] () An][Aw[Fz Af[Aj[Ad[rfl]][Ac][Br () ()]] () Aw[Aq[?_]]]]
  exact Du (Aj Ag[Aa Ad[rfl] Ae][Fx] Ac Lp) Du[Ag Aa[Be Ad[rfl] Ac Az[rfl]][Ae] K4[n]][Rm[Li Ac (Be Ad[rfl] Ac Az[rfl]) Lh Ac Lh][Ag[Aa[Be Ad[rfl] Ac Az[rfl]][Aa Ac Ae]][Ash p 1]]]
end
def Gb(ks:lg t6):Bool:=(ks.zip ks.drop[1]).all λp=>Iw p.1 p.2
def Bny(a:lg W):Anp a sr[1] sy=a.drop 1:=by
 unfold Anp;cases a with
 |nil=>rfl
 |cons w a=>
  show (a.drop 0).take ((w::a).length - 1)=a.drop 0;simp
def zip_get(c ls:lg t6)(j:Nat):(c.zip ls)[j]?.map (λp=>W.tup [.str p.1,.str p.2])=match (c.map W.str)[j]?,(ls.map W.str)[j]? with|some a,sr b=>sr .tup[[a,b]]|_,_=>sy:=by
 rw[cH,cH,aFo,uY];cases c[j]? <;> cases ls[j]? <;> rfl
section
def V7{a:Type}(f:a->Bool)(l:lg a):(l.map f).all id=l.all f:=by simp
def Bnz{n:Nat}(g:∀S,P.p S->AtL n a.map[W.str] S)(q:a.length<=big)(r:∀k∈a,k.length<=big):Pu P Ex[[.ref n]] .bl[a.all isKey&&Gb a]:=by
 let h:=Wt (P:=P) (xs:=a) (φ:=W.str) (ψ:=λk=>W.bl isKey[k]) (τ:=λb=>t8) (s:=By 0) (t:=λb=>pure t8) (e:=Dm Vz yA[Ab[0]]) (k:=1) (cap:=[]) (Z:=Bl 1 [.ref n]) (src:=Eo Ab[0]) (n:=n) g
  (λS f=>([],by
   have:=g S f;unfold AtL at this;show (match S[n]? with|some (.lst _)=>R.ok Src.liv[n] S|_=>.bad)=_
   rw[this,bC])) Mi (λk d=>(Pu.pure,λb=>Ag (Aa Ad[rfl] Ae) Bau[k][r k d])) (sy,rfl) q
 rw[eQ.mpr[λb b=>rfl]] at h;let c:=Ew (Af (P0 (bs:=a.map isKey) (by rw[bW];exact h)))
 rw[V7] at c;apply Bj (ws:=[.ref n]) rfl;cases l:a.all isKey with
 |false=>exact Aw (Fz c (by rw[l];rfl) Aw[Aq[Ac]])
 |true=>
 rw[jE];apply Bq
 .exact Do c (by rw[l];rfl) An
 .apply Aw;apply Aq;refine Pu.cast (P0 (bs:=(a.zip a.drop[1]).map λp=>Iw p.1 p.2) ?_) ?_
  .let h:=Be7 (P:=P) (xs:=a.zip a.drop[1]) (φ:=λp=>W.tup [.str p.1,.str p.2]) (ψ:=λp=>W.bl[Iw p.1 p.2]) (τ:=λb=>t8) (s:=Mw [0,1]) (t:=λb=>pure t8) (e:=Dz .Lt Ab[0] Ab[1]) (k:=2) (cap:=[]) (Z:=Bl 1 [.ref n]) (src:=Av8 yB[Ab 0][slF Ab[0] Bx[kI[1]] Ci]) (us:=a.map W.str) (vs:=(a.drop 1).map W.str)
    (λS f=>by
     let i:=g S f;let o:=i;unfold AtL at o;refine([.lst[(a.drop 1).map W.str]],n,S.length,?_,i.app _,?_)
     .let w:slF Ab[0] Bx[kI[1]] Ci (Bl 1 [.ref n]) S=.ok[.ref S.length][S ++ [.lst[(a.drop 1).map W.str]]]:=by
       show (match S[n]? with|some (.lst ws)=>Ck (Anp ws sr[1] sy) S|_=>.bad)=_
       rw[o];dsimp only;unfold Ck;rw[Bny,<-aCj,di (by rw[aC,bM];omega)]
      let v:(yB[Ab 0][slF Ab[0] Bx[kI[1]] Ci]) (Bl 1 [.ref n]) S=.ok [.ref n,.ref S.length] (S ++ [.lst[(a.drop 1).map W.str]]):=by
       let u:yA[slF Ab[0] Bx[kI[1]] Ci][Bl 1 [.ref n]][S]=.ok [.ref S.length] (S ++ [.lst[(a.drop 1).map W.str]]):=by
        unfold yA Eu;rw[Bk,w];rfl
       unfold yB Eu;rw[Bk,show Ab 0 (Bl 1 [.ref n]) S=.ok .ref[n] S from rfl];dsimp only;rw[Bk,u];rfl
      unfold Av8;rw[Bk,v];show Bej [.ref n,.ref S.length] _=_;let m:=i.app [.lst[(a.drop 1).map W.str]];unfold AtL at m;unfold Bej;dsimp only;rw[m,bB aO[_],fV];rfl
     .unfold AtL;rw[bB aO[_],fV];rfl) (λj=>zip_get _ _ j) (by rw[uT,aC];omega) Arn (λp b=>(Pu.pure,λb=>Aj Ad[rfl] Ad[rfl] Az7)) (sy,sy,rfl) (by rw[uT];omega)
   rw[eQ.mpr[λb b=>rfl]] at h;rw[bW];exact h
  .unfold Gb;rw[aDi];rfl
end
section
def Jv{l h:De->M o9[Int]}{lo hi:o9 Int}(h1:Pu P f[Z] x)(h2:Pu P l[Z] lo)(h3:Pu P h[Z] hi)(h4:Pu P (slW x lo hi) w):Pu P (slF f l h Z) w:=h1.bind h2.bind[h3.bind[h4]]
def Dq{i:Int}(h:Pu P f[Z] .int[i]):Pu P (Bx f Z) sr[i]:=h.bind Pu.pure
def Ek:Pu P Ci[Z] sy:=Pu.pure
def Bn0(i:a.length<=big)(j:∀k∈a,k.length<=big):Pu P Ex[[.tup a.map[W.str]]] .bl[a.all isKey&&Gb a]:=by
 let h:=Hq (P:=P) (xs:=a) (φ:=W.str) (ψ:=λk=>W.bl isKey[k]) (t:=λb=>pure t8) (e:=Dm Vz yA[Ab[0]]) (cs:=[]) (cap:=[]) (Z:=Bl 1 [.tup a.map[W.str]]) (src:=Eo Ab[0]) Gy[Ad[rfl]] rfl i (λk f=>(Pu.pure,Ag (Aa Ad[rfl] Ae) Bau[k][j k f]));let d:=Ew (Af (P0 (bs:=a.map isKey) (by rw[bW];exact h)))
 rw[V7] at d;apply Bj (ws:=[.tup a.map[W.str]]) rfl;cases g:a.all isKey with
 |false=>exact Aw (Fz d (by rw[g];rfl) Aw[Aq[Ac]])
 |true=>
 rw[jE];apply Bq
 .exact Do d (by rw[g];rfl) An
 .apply Aw;apply Aq;refine Pu.cast (P0 (bs:=(a.zip a.drop[1]).map λp=>Iw p.1 p.2) ?_) ?_
  .let l:Av7[a.map W.str][(a.map W.str).drop 1]=(a.zip a.drop[1]).map λp=>W.tup [.str p.1,.str p.2]:=by
    unfold Av7 aFo;rw[<-aCj,List.map_zipWith,List.zipWith_map]
   let h:=Aaz (P:=P) (xs:=a.zip a.drop[1]) (φ:=λp=>W.tup [.str p.1,.str p.2]) (ψ:=λp=>W.bl[Iw p.1 p.2]) (τ:=λb=>t8) (s:=Mw [0,1]) (t:=λb=>pure t8) (e:=Dz .Lt Ab[0] Ab[1]) (k:=2) (cap:=[]) (Z:=Bl 1 [.tup a.map[W.str]]) (src:=Av8 yB[Ab 0][slF Ab[0] Bx[kI[1]] Ci])
    (by
     rw[<-l,<-Bny];exact Pu.bind (Aa Ad[rfl] Aa[Jv Ad[rfl] Dq[Ac] Ek Pu.pure][Ae]) Pu.pure) Arn (λp b=>(Pu.pure,λb=>Aj Ad[rfl] Ad[rfl] Az7)) (sy,sy,rfl) (by rw[uT];omega)
   rw[eQ.mpr[λb b=>rfl]] at h;rw[bW];exact h
  .unfold Gb;rw[aDi];rfl
end
section
def keysAt(b:a.length<=big)(c:∀k∈a,k.length<=big)(n:Nat)(S:Store)(h:S[n]?=sr .lst[a.map[W.str]]):∃G,Ex [.ref n] S=.ok .bl[a.all isKey&&Gb a] (S ++ G):=(
 Bnz (P:=SP.any.at n _) (λe h=>h.2) b c S (trivial,h))
def Ahh(rs:lg[t6×Cl]):Bool:=rs.all (·.2.ok)&&((rs.map (·.1)).all isKey&&Gb (rs.map (·.1)))
def Bkt(i:rs.length<=63)(g:∀r∈rs,r.1.length<=400/\r.2.sm):Pu P Xz[[.tup rs.map[K7]]] .bl[Ahh[rs]]:=by
 let d:rs.length<=big:=aD i ()
 let h:=Hq (P:=P) (xs:=rs) (φ:=K7) (ψ:=λr=>W.bl r.2.ok) (t:=λf=>pure t8) (e:=Jk (zB Jb Ab[0] kI[2]) zA[Ww][ixF Ab[0] kI[1]]) (cs:=[]) (cap:=[]) (Z:=Bl 1 [.tup rs.map[K7]]) (src:=Eo Ab[0]) Gy[Ad[rfl]] rfl d
  (λr a=>(Pu.pure,Du Ag[Aa[Ad rfl][Aa Ac Ae]][Apk [.str r.1,r.2.w] 2] Ag[Aa[Be Ad[rfl] Ac Az[rfl]][Ae]][Bks r.2 (g r a).2]))
 let c:=Ew (Af (P0 (bs:=rs.map (·.2.ok)) (by rw[bW];exact h)))
 rw[V7] at c;apply Bj rfl;apply Bq
 .refine Do (Gh Ew[Af[Ag Aa[Ad rfl][Aa Ac Ae] Ae2]] Af[Aj Ag[Aa Ad[rfl] Ae][Fx] Ac Qo]) ?_ An;simp;omega
 unfold Ahh;cases b:rs.all (·.2.ok) with
 |false=>exact Aw (Fz c (by rw[b];rfl) Aw[Aq[Ac]])
 |true=>
 rw[jE];refine Bq[Do c (by rw[b];rfl) An][Aw Aq[Aew[?_][keysAt (by rw[aC];exact d) λk j=>?_]]]
 .let h:=Hq (P:=P) (xs:=rs) (φ:=K7) (ψ:=λr=>W.str r.1) (t:=λf=>pure t8) (e:=ixF Ab[0] kI[0]) (cs:=[]) (cap:=[]) (Z:=Bl 1 [.tup rs.map[K7]]) (src:=Eo Ab[0]) Gy[Ad[rfl]] rfl d (λr f=>(Pu.pure,Be Ad[rfl] Ac Az[rfl]));rw[bW];exact h
 .let(r,a,rfl):=bU.mp j;exact aD (g r a).1 ()
def Bfe(b:a.length<=63)(c:∀k∈a,k.length<=400):Pu P X4[[.tup a.map[W.str]]] .bl[a.all isKey&&Gb a]:=(Bj rfl Aw[Aq[Du[Ag Aa[Ad rfl][Aa Ac Ae] Ae2][Du[(Aj Ag[Aa Ad[rfl] Ae][Fx] Ac Lh).cast (by simp;omega)][Ag[Aa Ad[rfl] Ae][Bn0[aD b ()] λk h=>aD (c k h) ()]]]]])
def Bku{ps:lg Int}{m:Int}(c:(ps.length:Int)=m)(d:ps.length<=big):Pu P X6[[.tup ps.map[W.int],.int m]] .bl[ps.all λp=>Ec p 1]:=by
 apply Bj rfl;exact Aw (Aq (Du ((Ag Aa[Ad rfl][Aa Ad[rfl] Ae] (Apk ps.map[W.int] m)).cast (by simp[c])) (Pu.cast (P0 (by rw[bW];exact(Hq (P:=P) (cs:=[]) Gy[Ad[rfl]] rfl d
  (λp e=>(Pu.pure,Ag Aa[Ad rfl][Aa Ac Ae] (Ash p 1)))))) (by rw[V7]))))
end
def Pg.word:Pg->t6
 |.head ..=>"head"
 |.leaf ..=>"leaf"
 |.fork ..=>"fork"
 |.rest ..=>"rest"
 |.free ..=>"free"
def Pg.okB:Pg->Bool
 |.head a b c d=>[a,b,c,d].all λn=>Ec n 0
 |.leaf rs=>Ahh rs
 |.fork ks ps=>(ks.all isKey&&Gb ks)&&ps.all λp=>Ec p 1
 |.rest t n=>(M2.Bs t&&(decide[1<=t.length]&&decide[t.length<=400]))&&Ec n 0
 |.free n=>Ec n 0
def Pg.sm:Pg->Prop
 |.head ..=>True
 |.leaf rs=>rs.length<=63/\∀r∈rs,r.1.length<=400/\r.2.sm
 |.fork ks ps=>ks.length<=63/\(∀k∈ks,k.length<=400)/\ps.length=ks.length+1
 |.rest t _=>t.length<=400
 |.free _=>True
def rowsOk(rs:lg[t6×Cl]):Prop:=rs.length<=63/\(∀r∈rs,isKey r.1=t8/\r.2.ok=t8)/\Gb (rs.map (·.1))=t8
def Pg.ok:Pg->Prop
 |.head a b c d=>Ec a 0=t8/\Ec b 0=t8/\Ec c 0=t8/\Ec d 0=t8
 |.leaf rs=>rowsOk rs
 |.fork ks ps=>(ks.length<=63/\(∀k∈ks,isKey k=t8)/\Gb ks=t8)/\ps.length=ks.length+1/\∀p∈ps,Ec p 1=t8
 |.rest t n=>M2.Bs t=t8/\1<=t.length/\t.length<=400/\Ec n 0=t8
 |.free n=>Ec n 0=t8
def Ahi(h:isKey k=t8):k.length<=400:=by
 unfold isKey at h;simp[dh] at h;exact aD h.2.2 (by simp)
def Aue(h:isKey k=t8):k.length<=big:=(aD Ahi[h] ())
def Bn1{p:Pg}(h:p.ok):p.sm/\p.okB=t8:=by
 cases p with
 |head=>let(d,a,b,f):=h;exact(trivial,by simp[Pg.okB,d,a,b,f])
 |leaf rs=>
  let(d,a,b):=h;refine((d,λr c=>(Ahi (a r c).1,?_)),?_)
  .have:=(a r c).2;cases e:r.2 with
   |out=>trivial
   |inn t=>
    rw[e] at this;unfold Cl.ok at this;simp only[aB,dh] at this;exact aD this.2 ()
  .show Ahh rs=t8;unfold Ahh;rw[b,aQ.mpr λr c=>(a r c).2,aQ.mpr λk g=>by let(r,c,rfl):=bU.mp g;exact(a r c).1]
   rfl
 |fork i ps=>
  let((d,a,b),f,j):=h;refine((d,λk g=>Ahi[a k g],f),?_);show ((i.all isKey&&Gb i)&&_)=t8;rw[aQ.mpr a,b,aQ.mpr j];rfl
 |rest t n=>
  let(d,a,b,f):=h;refine(b,?_);show (_&&Ec n 0)=t8;simp_all
 |free n=>exact(trivial,h)
def Bha{p:Pg}(h:p.sm)(e:p.okB=t8):p.ok:=by
 cases p with
 |head=>simpa [Pg.okB,Pg.ok] using e
 |leaf rs=>
  let e:Ahh rs=t8:=e;unfold Ahh at e;simp only[aB,aQ] at e;exact(h.1,λr a=>(e.2.1 _ (bU.mpr (r,a,rfl)),e.1 r a),e.2.2)
 |fork b ps=>
  let e:(_&&_)=t8:=e;simp[aQ] at e;exact((h.1,e.1.1,e.1.2),h.2.2,e.2)
 |rest t n=>
  let e:(_&&_)=t8:=e;simp[dh] at e;exact(e.1.1,e.1.2.1,e.1.2.2,e.2)
 |free n=>exact e
section
def Bkv(n:Int):Pu P ((λws=>Fw[ws ++ [.int 0]]) [.int n]) .bl[Ec n 0]:=Ash n 0
def Bkw{p:Pg}(h:p.sm):Pu P Wy[[p.w]] .bl[p.okB]:=by
 cases p with
 |head a b c d=>
  apply Bj (ws:=[Pg.w[.head a b c d]]) rfl;refine Bq Bf[Ag[Aa Ad[rfl] Ae][R6 _ _]] Aw[Fz Af[Aj[Ad[rfl]][Ac][Br () ()]] () Aw[Aq[Du[(Aj Ag[Aa Ad[rfl] Ae][Fx] Ac Lp).cast rfl][?_]]]]
  let h:=Hq (P:=P) (xs:=[a,b,c,d]) (φ:=W.int) (ψ:=λn=>W.bl[Ec n 0]) (t:=λj=>pure t8) (e:=Dm[λws=>Fw[ws ++ [(.int 0)]]][yA Ab[0]]) (cs:=[]) (cap:=[]) (Z:=(Bl 2 [Pg.w[.head a b c d]]).set 1 sr[.str["head"]]) (src:=Eo[slF Ab[0] Bx[kI[1]] Ci]) Gy[Jv Ad[rfl] Dq[Ac] Ek Pu.pure] rfl (show 4<=big by decide)
   (λn j=>(Pu.pure,Ag[Aa Ad[rfl] Ae][Bkv n]))
  exact Pu.cast (P0 (bs:=[a,b,c,d].map λn=>Ec n 0) (by rw[bW];exact h)) (by rw[V7];rfl)
 |leaf rs=>
  apply Bj (ws:=[Pg.w .leaf[rs]]) rfl;refine Bq Bf[Ag[Aa Ad[rfl] Ae][R6 _ _]] Bq[Do Af[Aj[Ad[rfl]][Ac][Br () ()]] () An][Aw[Fz Af[Aj[Ad[rfl]][Ac][Br () ()]] () Aw[Aq[Du[(Aj Ag[Aa Ad[rfl] Ae][Fx] Ac Lp).cast rfl][?_]]]]]
  exact Ag Aa[Be Ad[rfl] Ac Az[rfl]][Ae] (Bkt h.1 h.2)
 |fork k ps=>
  apply Bj (ws:=[Pg.w[.fork k ps]]) rfl;refine Bq Bf[Ag[Aa Ad[rfl] Ae][R6 _ _]] Bq[Do Af[Aj[Ad[rfl]][Ac][Br () ()]] () An][Bq[Do Af[Aj[Ad[rfl]][Ac][Br () ()]] () An][Aw[Fz Af[Aj[Ad[rfl]][Ac][Br () ()]] () Aw[Aq[Du[(Aj Ag[Aa Ad[rfl] Ae][Fx] Ac Lp).cast rfl][?_]]]]]]
  let(i,l,g):=h;exact Rm Ag[Aa[Be Ad[rfl] Ac Az[rfl]][Ae]][Bfe i l] Ag[Aa[Be Ad[rfl] Ac Az[rfl]][Aa Ai[Ag Aa[Be Ad[rfl] Ac Az[rfl]][Ae] Fx][Ac][Cm] Ae]][Bku (by rw[aC,g];rfl) (by rw[g];exact aD lC[i] ())]
 |rest t n=>
  apply Bj (ws:=[Pg.w[.rest t n]]) rfl;refine Bq Bf[Ag[Aa Ad[rfl] Ae][R6 _ _]] Bq[Do Af[Aj[Ad[rfl]][Ac][Br () ()]] () An][Bq[Do Af[Aj[Ad[rfl]][Ac][Br () ()]] () An][Bq[Do Af[Aj[Ad[rfl]][Ac][Br () ()]] () An][Aw[Fz Af[Aj[Ad[rfl]][Ac][Br () ()]] () Aw[Aq[Du[(Aj Ag[Aa Ad[rfl] Ae][Fx] Ac Lp).cast rfl][?_]]]]]]]
  refine Rm[(Ag Aa[Be Ad[rfl] Ac Az[rfl]][Aa[Ac][Aa Ac Ae]] (Ajr t 1 400 (aD h ()))).cast ?_][Ag Aa[Be Ad[rfl] Ac Az[rfl]][Ae] Bkv[n]]
  rw[decide_eq_decide.mpr (by omega:((1:Int)<=t.length ↔ 1<=t.length)),decide_eq_decide.mpr (by omega:((t.length:Int)<=400 ↔ t.length<=400))]
 |free n=>
  apply Bj (ws:=[Pg.w .free[n]]) rfl;refine Bq Bf[Ag[Aa Ad[rfl] Ae][R6 _ _]] Bq[Do Af[Aj[Ad[rfl]][Ac][Br () ()]] () An][Bq[Do Af[Aj[Ad[rfl]][Ac][Br () ()]] () An][Bq[Do Af[Aj[Ad[rfl]][Ac][Br () ()]] () An][Bq[Do Af[Aj[Ad[rfl]][Ac][Br () ()]] () An][Aw[Fz Af[Aj[Ad[rfl]][Ac][Br () ()]] () Aw[Aq[Du[(Aj Ag[Aa Ad[rfl] Ae][Fx] Ac Lp).cast rfl][?_]]]]]]]]
  exact Ag Aa[Be Ad[rfl] Ac Az[rfl]][Ae] Bkv[n]
end
abbrev jn(ys:lg t6):t6:=aBm "" ys
def Cg(ps:lg Int):t6:=jn ps.map[M1.Ce[2]]
def Dh(k:t6):t6:=M1.Ce 1 k.length ++ k
def Cl.t:Cl->t6
 |.inn t=>"i" ++ M1.Ce 1 t.length ++ t
 |.out n p=>"o" ++ Cg [n,p]
def Hc(r:t6×Cl):t6:=Dh r.1 ++ r.2.t
def Pg.body:Pg->t6
 |.head a b c d=>Cg [a,b,c,d]
 |.leaf rs=>M1.Ce 1 rs.length ++ jn rs.map[Hc]
 |.fork ks ps=>M1.Ce 1 ks.length ++ jn ks.map[Dh] ++ Cg ps
 |.rest t n=>Cg [n] ++ t
 |.free n=>Cg [n]
def len_app(x y:t6):(x ++ y).length=x.length+y.length:=by
 show (x.cps ++ y.cps).size=_;rw[rZ];rfl
def Bc(k:Nat)(n:Int):(M1.Ce k n).length=k:=M1.Awf k n
def Bav{a:lg t6}{c:Nat}(h:∀y∈a,y.length<=c):(a.map (·.length)).sum<=a.length * c:=by
 induction a with
 |nil=>simp
 |cons y a e=>
  let j:=h y bJ;let i:=e λz f=>h z (bD _ f);rw[bL,nF,bN,Nat.succ_mul];omega
def Acv:jn []=⟨#[]⟩:=rfl
def Jw(x:t6):x ++ (⟨#[]⟩:t6)=x:=rfl
def Ij(y:t6)(a:lg t6):jn (y::a)=y ++ jn a:=by
 let e:∀l,jn l=_:=λl=>StrLaws.glued_eq_join "" l;rw[e,e];cases a with
 |nil=>rfl
 |cons z d=>
  rfl
theorem V8:∀a:lg t6,(jn a).length=(a.map (·.length)).sum
 |[]=>rfl
 |y::a=>by rw[Ij,len_app,V8 a,bL,nF]
section
def Abh{Z:De}{f:De->M W}{a:lg t6}{c:Nat}(h:PuL P f[Z] a.map[W.str])(d:∀y∈a,y.length<=c)(i:a.length * c<=big):Pu P (Ir .str Ny kS[""] yA[f] Z) .str[jn[a]]:=(
 Be6 h (by
  have:=Bav d;show _+a.length * 0<=big;omega))
def Abi{ps:lg Int}(hp:∀p∈ps,0<=p/\p < 4096)(b:ps.length<=1000):Pu P Gp[[.tup ps.map[W.int]]] .str[Cg[ps]]:=by
 apply Bj rfl;apply Aw;apply Aq;refine Abh ?_ (λy d=>?_) (by rw[aC];exact aD (iY 2 b) ())
 .rw[bW];exact Hq (cs:=[]) Gy[Ad[rfl]] rfl (aD b ())
   (λp a=>(Pu.pure,Ag Aa[Ad rfl][Aa Ac Ae] (Amf (hp p a).1 (hp p a).2)))
 .let(p,_,rfl):=bU.mp d;exact lG[Bc 2 p]
def Qy{n k:Int}(h:Ec n k=t8)(b:0<=k):0<=n/\n < 4096:=by
 unfold Ec at h;simp[dh] at h;omega
def Bff{n:Nat}(h:n<=63):Pu P Hw[[.int (n:Int),.int 1]] .str[M1.Ce 1 n]:=(Bfc (by simp) ())
def Auf(h:isKey k=t8):Pu P Ng[[.str k]] .str[Dh[k]]:=by
 let a:=Aue h;unfold isKey at h;simp[dh] at h;exact Bj rfl Aw[Aq[Ai Ag[Aa[Ag[Aa Ad[rfl] Ae][len_str a]][Aa Ac Ae]][Bff ()] Ad[rfl] Bv[aD (eU h.2.2 1) ()]]]
def Baw{c:Cl}(h:c.ok=t8):Pu P V3[[c.w]] .str[c.t]:=by
 cases c with
 |inn t=>
  unfold Cl.ok at h;rw[aB,dh] at h;let b:t.length<=big:=aD h.2 ()
  apply Bj (ws:=[Cl.w .inn[t]]) rfl;apply Aw;apply Fz
  .exact Af Aj[Be Ad[rfl] Ac Az[rfl]][Ac][Br () ()]
  .decide +kernel
  .apply Aw;apply Aq;exact Ai Ai[Ac][Ag Aa[Ag Aa[Be Ad[rfl] Ac Az[rfl]][Ae] len_str[b]][Aa Ac Ae] Bff[h.2]][Bv (by rw[Bc];decide)] (Be Ad[rfl] Ac Az[rfl]) (Bv (by
    rw[len_app,Bc];exact aD (eU h.2 _) ()))
 |out n p=>
  unfold Cl.ok at h;rw[aB,aB,dh,dh] at h;apply Bj (ws:=[Cl.w[.out n p]]) rfl;apply Bq
  .exact Do Af[Aj[Be Ad[rfl] Ac Az[rfl]][Ac][Br () ()]] () An
  .apply Aw;apply Aq;exact Ai Ac (Ag Aa[Jv Ad[rfl] Dq[Ac] Ek Pu.pure][Ae] (Abi (ps:=[n,p]) (λq a=>by
    simp only[aY,cR,or_false] at a;rcases a with rfl|rfl
    .omega
    .exact Qy h.2 ()) (show 2<=1000 by decide))) (Bv (by
     unfold Cg;rw[V8];show 1+((M1.Ce 2 n).length+((M1.Ce 2 p).length+0))<=big;rw[Bc,Bc];decide))
end
section
def Ahj(h:isKey k=t8):(Dh k).length<=13:=by
 unfold isKey at h;simp[dh] at h;unfold Dh;rw[len_app,Bc];omega
def Ajs{c:Cl}(h:c.ok=t8):c.t.length<=65:=by
 cases c with
 |inn t=>
  unfold Cl.ok at h;rw[aB,dh] at h;unfold Cl.t;rw[len_app,len_app,Bc];show 1+1+t.length<=65;omega
 |out n p=>
  unfold Cl.t Cg;rw[len_app,V8];show 1+((M1.Ce 2 n).length+((M1.Ce 2 p).length+0))<=65;rw[Bc,Bc];decide
def Apl(b:isKey r.1=t8)(a:r.2.ok=t8):(Hc r).length<=78:=by
 unfold Hc;rw[len_app];have:=Ahj b;have:=Ajs a;omega
def Bfg{r:t6×Cl}(b:isKey r.1=t8)(a:r.2.ok=t8):Pu P R5[[K7 r]] .str[Hc[r]]:=(Bj rfl (Aw (Aq (Ai (Ag Aa[Be Ad[rfl] Ac Az[rfl]][Ae] Auf[b]) (Ag Aa[Be Ad[rfl] Ac Az[rfl]][Ae] Baw[a]) (Bv (by
  have:=Ahj b;have:=Ajs a;exact aD (aBo ‹_› ‹_›) ()))))))
def Ajt{c n:Nat}(h:∀y∈ys,y.length<=c)(a:ys.length<=n):(jn ys).length<=n * c:=by
 rw[V8];exact aD[Bav h][iY c a]
def Dk(ps:lg Int):(Cg ps).length=2 * ps.length:=by
 unfold Cg;rw[V8,bW];induction ps with
 |nil=>rfl
 |cons p ps b=>
  rw[bL,nF,b,bN];show (M1.Ce 2 p).length+_=_;rw[Bc];omega
def Bfh{p:Pg}(h:p.ok):Pu P V5[[p.w]] .str[p.body]:=by
 cases p with
 |head a b c d=>
  let(f,i,o,v):=h;apply Bj (ws:=[Pg.w[.head a b c d]]) rfl;apply Bq
  .exact Do Af[Aj[Be Ad[rfl] Ac Az[rfl]][Ac][Br () ()]] () An
  apply Bq
  .exact Do Af[Aj[Be Ad[rfl] Ac Az[rfl]][Ac][Br () ()]] () An
  apply Bq
  .exact Do Af[Aj[Be Ad[rfl] Ac Az[rfl]][Ac][Br () ()]] () An
  apply Aw;apply Aq;exact Ag Aa[Jv Ad[rfl] Dq[Ac] Ek Pu.pure][Ae] (Abi (ps:=[a,b,c,d]) (λq g=>by
   simp only[aY,cR,or_false] at g;rcases g with rfl|rfl|rfl|rfl <;> exact Qy ‹_› ()) (show 4<=1000 by decide))
 |leaf rs=>
  let(f,i,o):=h;apply Bj (ws:=[Pg.w .leaf[rs]]) rfl;apply Aw;apply Fz
  .exact Af Aj[Be Ad[rfl] Ac Az[rfl]][Ac][Br () ()]
  .decide +kernel
  .apply Aw;apply Aq;let m:∀y∈rs.map Hc,y.length<=78:=λy s=>by
    let(r,l,rfl):=bU.mp s;exact Apl (i r l).1 (i r l).2
   refine Ai (y:=.str jn[rs.map[Hc]]) (Ag Aa[(Ag Aa[Be Ad[rfl] Ac Az[rfl]][Ae] Fx).cast (by rw[aC])][Aa Ac Ae] Bff[f]) ?_ (Bv (by
    rw[Bc];exact aD eU[Ajt m (by rw[aC];exact f)][1] ()))
   refine Abh (c:=78) ?_ m (by rw[aC];exact aD (iY 78 f) ())
   let h:=Hq (P:=P) (xs:=rs) (φ:=K7) (ψ:=λr=>W.str Hc[r]) (t:=λx=>pure t8) (e:=Dm R5 yA[Ab[0]]) (cs:=[]) (cap:=[]) (Z:=Bl 2 [Pg.w .leaf[rs]]) (src:=Eo[ixF Ab[0] kI[1]]) Gy[Be Ad[rfl] Ac Az[rfl]] rfl (aD f ())
    (λr l=>(Pu.pure,Ag[Aa Ad[rfl] Ae][Bfg (i r l).1 (i r l).2]))
   rw[bW];exact h
 |fork j ps=>
  let((f,i,o),v,A):=h;let m:∀y∈j.map Dh,y.length<=13:=λy s=>by
   let(k,u,rfl):=bU.mp s;exact Ahj[i k u]
  let z:(jn j.map[Dh]).length<=63 * 13:=Ajt m (by rw[aC];exact f)
  apply Bj (ws:=[Pg.w[.fork j ps]]) rfl;apply Bq
  .exact Do Af[Aj[Be Ad[rfl] Ac Az[rfl]][Ac][Br () ()]] () An
  apply Aw;apply Fz
  .exact Af Aj[Be Ad[rfl] Ac Az[rfl]][Ac][Br () ()]
  .decide +kernel
  .refine Bq (Bf (w:=.str jn[j.map[Dh]]) ?_) ?_
   .refine Abh (c:=13) ?_ m (by rw[aC];exact aD (iY 13 f) ())
    let h:=Hq (P:=P) (xs:=j) (φ:=W.str) (ψ:=λk=>W.str Dh[k]) (t:=λx=>pure t8) (e:=Dm Ng yA[Ab[0]]) (cs:=[]) (cap:=[]) (Z:=Bl 2 [Pg.w[.fork j ps]]) (src:=Eo[ixF Ab[0] kI[1]]) Gy[Be Ad[rfl] Ac Az[rfl]] rfl (aD f ())
     (λk u=>(Pu.pure,Ag (Aa Ad[rfl] Ae) Auf[i k u]))
    rw[bW];exact h
   .apply Aw;apply Aq;refine Ai Ai[Ag Aa[(Ag Aa[Be Ad[rfl] Ac Az[rfl]][Ae] Fx).cast (by rw[aC])][Aa Ac Ae] Bff[f]][Ad rfl][Bv ?_] Ag[Aa[Be Ad[rfl] Ac Az[rfl]][Ae]][Abi (λq g=>Qy (A q g) ()) ()] Bv[?_]
    .rw[Bc];exact aD (eU z 1) ()
    .rw[len_app,Bc,Dk];have:1+(jn j.map[Dh]).length+2 * ps.length<=1+63 * 13+128:=by omega
     exact aD this ()
 |rest t n=>
  let(f,i,o,v):=h;apply Bj (ws:=[Pg.w[.rest t n]]) rfl;apply Bq
  .exact Do Af[Aj[Be Ad[rfl] Ac Az[rfl]][Ac][Br () ()]] () An
  apply Bq
  .exact Do Af[Aj[Be Ad[rfl] Ac Az[rfl]][Ac][Br () ()]] () An
  apply Aw;apply Fz
  .exact Af Aj[Be Ad[rfl] Ac Az[rfl]][Ac][Br () ()]
  .decide +kernel
  .apply Aw;apply Aq;exact Ai (Ag Aa[Jv Ad[rfl] Dq[Ac] Ek Pu.pure][Ae] (Abi (ps:=[n]) (λq g=>by
    rw[aR] at g;subst g;exact Qy v ()) (show 1<=1000 by decide))) (Be Ad[rfl] Ac Az[rfl]) (Bv (by
     rw[Dk];exact aD (eU o _) (show 2 * 1+400<=big by decide)))
 |free n=>
  apply Bj (ws:=[Pg.w .free[n]]) rfl;apply Bq
  .exact Do Af[Aj[Be Ad[rfl] Ac Az[rfl]][Ac][Br () ()]] () An
  apply Bq
  .exact Do Af[Aj[Be Ad[rfl] Ac Az[rfl]][Ac][Br () ()]] () An
  apply Bq
  .exact Do Af[Aj[Be Ad[rfl] Ac Az[rfl]][Ac][Br () ()]] () An
  apply Aw;apply Aq;exact Ag Aa[Jv Ad[rfl] Dq[Ac] Ek Pu.pure][Ae] (Abi (ps:=[n]) (λq g=>by
   rw[aR] at g;subst g;exact Qy h ()) (show 1<=1000 by decide))
end
section
def W0{k:Nat}(h:k<=1000001):small (k:Int)=t8:=by
 unfold small
 grind
def Bax(d:z.length<=big)(g:M2.Bs z=t8):Pu P Xx[[.str z]] .str[M2.check[z]]:=by
 let f:z.cps.toList.length=z.length:=aV;apply Bj (ws:=[.str z]) rfl;apply Bq
 .exact Do Ew[Af[Ag[Aa Ad[rfl] Ae][Amg z d]]] (by rw[g];rfl) An
 refine Bq (Bf (w:=.int M2.chk[z.cps.toList]) ?_) ?_
 .refine Pu.cast (Az9 (is:=(eZ z.length).map λ(i:Nat)=>(((z.cps.getD i 0:Nat):Int) - 31) * ((i:Int)+1)) ?_) ?_
  .let h:=Aaz (P:=P) (xs:=eZ z.length) (φ:=λ(i:Nat)=>W.tup [.int[(i:Int)+1],.str ⟨#[z.cps.getD i 0]⟩]) (ψ:=λ(i:Nat)=>W.int[(((z.cps.getD i 0:Nat):Int) - 31) * ((i:Int)+1)]) (τ:=λc=>t8) (s:=Mw [0,1]) (t:=λc=>pure t8) (e:=Al .mul Al[.sub][zA Av1 Ab[1]][kI[31]] Ab[0]) (k:=2) (cap:=[]) (Z:=Bl 2 [.str z]) (src:=Ay9 Ab[0])
    (Pu.bind Ad[rfl] Pu.pure) Arn (λi hi=>(Pu.pure,λc=>Ai (Ai Ag[Aa Ad[rfl] Ae][Bfd] Ac Gw) Ad[rfl] (Je (by
     have:i < z.length:=mJ.mp hi;let j:small (((i+1:Nat):Nat):Int)=t8:=W0 (by unfold big at d;omega)
     rw[eV];exact .inr j)))) (sy,sy,rfl) (by rw[bO];exact d)
   rw[eQ.mpr[λc c=>rfl]] at h;rw[bW];exact h
  .congr 1
   unfold M2.chk M2.Agl;rw[f]
   congr 1
   refine wK λi hi=>?_;rw[show z.cps.toList.getD i 0=z.cps.getD i 0 from by rw[dN,iK,qI]]
   rw[show (((z.cps.getD i 0:Nat):Int) - 32+1)=((z.cps.getD i 0:Nat):Int) - 31 by omega]
 .apply Aw;apply Aq;exact Ag Aa[Ai Ad[rfl] Ac (Cj ())][Aa Ac Ae] (Amf () ())
end
def Eg(x y:t6):M2.Bs[x ++ y]=(M2.Bs x&&M2.Bs y):=by
 unfold M2.Bs;show ((x.cps ++ y.cps).toList).all _=_;rw[pY,aAk]
def Bn2:∀v,v < 64->M2.okC M1.sg[v]=t8:=by decide +kernel
def Ahk(c:Nat):M2.Bs M1.one[c]=M2.okC c:=by
 unfold M2.Bs M1.one;simp
def Aaa(k:Nat)(n:Int):M2.Bs[M1.Ce k n]=t8:=by
 induction k with
 |zero=>rfl
 |succ k a=>
  show M2.Bs[_ ++ _]=t8;rw[Eg,a,Ahk,Bn2 _ ()]
  rfl
theorem Apm:∀{a:lg t6},(∀y∈a,M2.Bs y=t8)->M2.Bs jn[a]=t8
 |[],_=>rfl
 |y::a,h=>by
  rw[Ij,Eg,h y bJ,Apm λz c=>h z (bD _ c)];rfl
def W2(ps:lg Int):M2.Bs Cg[ps]=t8:=(Apm λy b=>by
 let(p,_,rfl):=bU.mp b;exact Aaa 2 p)
def Ahl(h:isKey k=t8):M2.Bs k=t8:=by
 unfold isKey at h;rw[aB] at h;exact h.1
def Bay(h:isKey k=t8):M2.Bs Dh[k]=t8:=by
 unfold Dh;rw[Eg,Aaa,Ahl h];rfl
def Bfi{c:Cl}(h:c.ok=t8):M2.Bs c.t=t8:=by
 cases c with
 |inn t=>
  unfold Cl.ok at h;rw[aB] at h;unfold Cl.t;rw[Eg,Eg,Aaa,h.1];decide +kernel
 |out n p=>
  unfold Cl.t;rw[Eg,W2];decide +kernel
def Auh{p:Pg}(h:p.ok):M2.Bs p.body=t8:=by
 cases p with
 |head a b c d=>exact W2 _
 |leaf rs=>
  unfold Pg.body;rw[Eg,Aaa,Apm λy e=>by
   let(r,f,rfl):=bU.mp e;unfold Hc;rw[Eg,Bay (h.2.1 r f).1,Bfi (h.2.1 r f).2];rfl]
  rfl
 |fork i ps=>
  unfold Pg.body;rw[Eg,Eg,Aaa,W2,Apm λy e=>by
   let(k,g,rfl):=bU.mp e;exact Bay[h.1.2.1 k g]]
  rfl
 |rest t n=>
  unfold Pg.body;rw[Eg,W2,h.1];rfl
 |free n=>exact W2 _
def Pg.letter:Pg->t6
 |.head ..=>"h"
 |.leaf ..=>"l"
 |.fork ..=>"f"
 |.rest ..=>"r"
 |.free ..=>"e"
def Pg.start(p:Pg):t6:=p.letter ++ M1.Ce 2 p.body.length ++ p.body
def Pg.unch(p:Pg)(size:Int):t6:=rA p.start (size - 2) 48
def Pg.text(p:Pg)(size:Int):t6:=p.unch size ++ M2.check p.unch[size]
def K8(p:Pg):p.letter.length=1:=by cases p <;> rfl
def Qz(p:Pg):p.start.length=3+p.body.length:=by
 unfold Pg.start;rw[len_app,len_app,K8,Bc]
def Aui(p:Pg)(a:Int):∃n,(p.unch a).cps=p.start.cps ++ uU n 48:=by
 unfold Pg.unch rA;split
 .simp
 .refine((a - 2).toNat - p.start.length,?_);show uU 0 48 ++ p.start.cps ++ _=_;simp
section
def Auj(p:Pg):∃a,p.w=.tup (.str p.word::a):=by cases p <;> exact(_,rfl)
def ix0:atI (w::a) 0=sr w:=by
 unfold atI ixN;simp
def Awv(p:Pg):Pu P (mdW Qp .str[p.word]) .str[p.letter]:=by
 let e:Qp.lookup p.word=sr p.letter:=by
  cases p
  .rfl
  .rfl
  .rfl
  .rfl
  rfl
 unfold mdW;simp[e];exact Pu.pure
def Bn3(h1:Pu P g[Z] k)(h2:Pu P (mdW D k) w):Pu P (mdF D g Z) w:=h1.bind h2
def Bfj{p:Pg}{size:Int}(b:p.body.length < 4096)(h:64<=size)(g:size<=200):Pu P K3[[p.w,.str p.body,.int size]] .str[p.unch[size]]:=by
 let(f,c):=Auj p;rw[c];apply Bj rfl;refine Bq (Bf (w:=.str p.start) ?_) ?_
 .refine Ai[Ai Bn3[Be Ad[rfl] Ac Az[ix0]][Awv p] Ag[Aa[Ag[Aa Ad[rfl] Ae][len_str[aD fH[b] ()]]][Aa Ac Ae]][Amf () ()] Bv[?_]][Ad rfl][Bv ?_]
  .rw[K8,Bc];decide
  .rw[len_app,K8,Bc];exact aD (eU fH[b] _) ()
 .apply Aw;apply Aq;refine Acs Ad[rfl] Aa[Ai Ad[rfl] Ac Gw][Aa Ac Ae] (Fv ?_ Pu.pure);rw[aB];refine(?_,())
  let e:∀k:Nat,k<=200->PadOk (k:Int)=t8:=by decide +kernel
  have:=e (size - 2).toNat ()
  rw[cO ()] at this
  exact this
def Aww(p:Pg):M2.Bs p.letter=t8:=by
 cases p
 .rfl
 .rfl
 .rfl
 .rfl
 rfl
def Apn{p:Pg}(h:M2.Bs p.body=t8)(a:Int):M2.Bs p.unch[a]=t8:=by
 let(n,e):=Aui p a;unfold M2.Bs;rw[e,pY,aAk];let b:M2.Bs p.start=t8:=by
  unfold Pg.start;rw[Eg,Eg,Aaa,h,Aww p];rfl
 unfold M2.Bs at b;rw[b,uK,jE];rw[aQ];intro c d;let(_,rfl):=xM.mp d;decide
def V9{p:Pg}{a:Int}(c:(p.body.length:Int)<=a - 5):(p.unch a).length=(a - 2).toNat:=by
 unfold Pg.unch rA;have:=Qz p;split
 .omega
 .show (_ ++ p.start.cps ++ _).size=_;simp;show p.start.length+_=_;omega
def Bfk(i:Int):Pu P Wz[[.int i]] .bl[decide[64<=i]&&decide[i<=200]]:=Bj rfl Aw[Aq[Du[Ag[Aa Ad[rfl] Ae][K4 i]][Li Ac Ad[rfl] Lh Ac Lh]]]
def Q0(x:t6):(M2.check x).length=2:=Bc 2 _
end
section
def Asi{i:Int}(h:Pu P f[Z] .int[i]):Pu P (Ab3 f Z) .int[-i]:=h.bind Pu.pure
end
section
def Apo{n:Int}(b:0<=n):Pu P Bo[[.int n,.int 1]] .str[M1.Ce 1 n]:=by
 apply Bj (ws:=[.int n,.int 1]) rfl;refine Bq Bf[Ac] ?_;refine Bq Bf[Ac] ?_;apply Bq
 .apply Mh
  .exact Gx (k:=1) (Aa Ad[rfl] Ae) ()
  .apply J2 rfl
   .exact Nr[Bf Ai[Be[Ad rfl][Ai Ad[rfl] Ac (Cj ())][Ae1 (n % 64) () ()]][Ad[rfl]][Bv (by show 1+0<=big;decide)]][Nr Bf[Ai[Ad[rfl]][Ac][Cv () ()]] An]
   .exact Rk
 apply Aw;apply Aq;refine Pu.cast Ad[rfl] ?_;show W.str[M1.one M1.sg[(n % 64).toNat] ++ ⟨#[]⟩]=W.str[M1.one M1.sg[(n / 64 ^ 0 % 64).toNat] ++ ⟨#[]⟩];rw[yQ,uJ]
def Aju{n:Int}(b:0<=n):Pu P Bo[[.int n,.int 2]] .str[M1.Ce 2 n]:=by
 apply Bj (ws:=[.int n,.int 2]) rfl;refine Bq Bf[Ac] ?_;refine Bq Bf[Ac] ?_;apply Bq
 .apply Mh
  .exact Gx (k:=2) (Aa Ad[rfl] Ae) ()
  .apply J2 rfl
   .exact Nr[Bf Ai[Be[Ad rfl][Ai Ad[rfl] Ac (Cj ())][Ae1 (n % 64) () ()]][Ad[rfl]][Bv (by show 1+0<=big;decide)]][Nr Bf[Ai[Ad[rfl]][Ac][Cv () ()]] An]
   apply J2 rfl
   .exact Nr[Bf Ai[Be[Ad rfl][Ai Ad[rfl] Ac (Cj ())][Ae1 (n / 64 % 64) () ()]][Ad[rfl]][Bv (by show 1+(1+0)<=big;decide)]][Nr Bf[Ai[Ad[rfl]][Ac][Cv () ()]] An]
   .exact Rk
 apply Aw;apply Aq;refine Pu.cast Ad[rfl] ?_;show W.str[M1.one M1.sg[(n / 64 % 64).toNat] ++ (M1.one M1.sg[(n % 64).toNat] ++ ⟨#[]⟩)]=W.str[M1.one M1.sg[(n / 64 ^ 1 % 64).toNat] ++ (M1.one M1.sg[(n / 64 ^ 0 % 64).toNat] ++ ⟨#[]⟩)];rw[yQ,uJ];rfl
end
def Ff(x y z:t6):x ++ y ++ z=x ++ (y ++ z):=by
 show (⟨x.cps ++ y.cps ++ z.cps⟩:t6)=⟨x.cps ++ (y.cps ++ z.cps)⟩;simp
theorem Abj:∀(a:lg t6)(y:t6),jn[a ++ [y]]=jn a ++ y
 |[],y=>by
  show y=⟨#[] ++ y.cps⟩;simp
 |x::a,y=>by rw[tO,Ij,Abj a y,Ij,Ff]
section
def Ami{g:Type}{f:g->W}{D:lg g->De}{c:lg g}(h:∀pre x a,c=pre ++ x::a->∃j,s f[x] D[pre]=sr j/\PuN P b j D[pre ++ [x]]):PuN P (Nk s b c.map[f]) D[[]] D[c]:=by
 let i:∀a pre,c=pre ++ a->PuN P (Nk s b a.map[f]) D[pre] D[c]:=by
  intro a;induction a with
  |nil=>intro pre e;rw[bC] at e;subst e;exact Rk
  |cons x a k=>
   intro pre e;let(j,m,l):=h pre x a e;exact J2 m l k[_][by simp_all]
 exact i c [] rfl
def Cl.wr:Cl->Prop
 |.inn t=>t.length<=63
 |.out m p=>0<=m/\0<=p
def Pg.wr:Pg->Prop
 |.head a b c d=>0<=a/\0<=b/\0<=c/\0<=d
 |.leaf rs=>rs.length<=63/\∀r∈rs,r.1.length<=13/\r.2.wr
 |.fork ks ps=>ks.length<=63/\(∀k∈ks,k.length<=13)/\ps.length<=64/\∀p∈ps,0<=p
 |.rest t n=>t.length<=400/\0<=n
 |.free n=>0<=n
def Bhb(h:isKey k=t8):k.length<=13:=by
 unfold isKey at h
 grind
def Wa{n k:Int}(h:Ec n k=t8):k<=n:=by
 unfold Ec at h;simp_all
def Bhc{p:Pg}(h:p.ok):p.wr:=by
 cases p with
 |head a b c d=>exact(Wa h.1,Wa h.2.1,Wa h.2.2.1,Wa h.2.2.2)
 |leaf rs=>
  refine(h.1,λr f=>(Bhb (h.2.1 r f).1,?_));have:=(h.2.1 r f).2;cases e:r.2 with
  |inn t=>rw[e] at this;unfold Cl.ok at this;simp[dh] at this;exact this.2
  |out m p=>rw[e] at this;unfold Cl.ok at this;simp[dh] at this;have:=Wa this.2;exact((),())
 |fork j ps=>exact(h.1.1,λk i=>Bhb[h.1.2.1 k i],by have:=h.1.1;have:=h.2.1;omega,λq g=>by have:=Wa[h.2.2 q g];omega)
 |rest t n=>exact(h.2.2.1,Wa h.2.2.2)
 |free n=>exact Wa h
def Abk(h:k.length<=13):(Dh k).length<=14:=by
 unfold Dh;rw[len_app,Bc];omega
def Baz{c:Cl}(h:c.wr):c.t.length<=65:=by
 cases c with
 |inn t=>
  let h:t.length<=63:=h;unfold Cl.t;rw[len_app,len_app,Bc];show 1+1+t.length<=65;omega
 |out m p=>
  unfold Cl.t;rw[len_app,Dk];show 1+2 * 2<=65;decide
def Bfl(b:r.1.length<=13)(a:r.2.wr):(Hc r).length<=79:=by
 unfold Hc;rw[len_app];have:=Abk b;have:=Baz a;omega
def kSl(w:W)(n:Int)(ks:lg t6):De:=[sr w,sr .str[M1.Ce 1 n ++ jn ks.map[Dh]],ks.getLast?.map W.str,sy]
def Bfm{n:Int}(i:∀k∈d,k.length<=13)(h:d.length<=63):PuN P Nk[By 2][Am aA9 Ay][d.map W.str] (kSl w n []) (kSl w n d):=by
 refine Ami λpre k g e=>((kSl w n pre).set 2 sr[.str[k]],rfl,?_);let c:k.length<=13:=i k (by rw[e];simp)
 let a:∀y∈pre.map Dh,y.length<=14:=λy l=>by
  let(j,f,rfl):=bU.mp l;exact Abk[i j (by rw[e];simp[f])]
 let p:(jn pre.map[Dh]).length<=63 * 14:=Ajt a (by rw[aC];rw[e] at h;simp at h;omega)
 let b:=Abk c;unfold Dh at b;rw[len_app,Bc] at b;let m:kSl w n (pre ++ [k])=((kSl w n pre).set 2 sr[.str[k]]).set 1 sr[.str[M1.Ce 1 n ++ jn pre.map[Dh] ++ M1.Ce 1 k.length ++ k]]:=by
  unfold kSl;rw[dY,bL,lK,Abj,vQ];unfold Dh;rw[Ff,Ff];rfl
 rw[m];refine Nr Bf[Ai[Ai Ad[rfl] Ag[Aa[Ag[Aa Ad[rfl] Ae][len_str[aD c ()]]][Aa Ac Ae]][Apo ()] Bv[?_]][Ad rfl][Bv ?_]] An
 .rw[len_app,Bc,Bc];exact aD (show 1+(jn pre.map[Dh]).length+1<=1+63 * 14+1 by omega) ()
 .rw[len_app,len_app,Bc,Bc];exact aD (show 1+(jn pre.map[Dh]).length+1+k.length<=1+63 * 14+14 by omega) ()
def Ba0{ps:lg Int}(e:Pu P f[Z] .fix[ps.map[W.int]])(hp:∀p∈ps,0<=p)(b:ps.length<=1000):Pu P (Ir .str Ny kS[""] yA[Dn 1 [] f By[0] (λh=>pure t8) (zB Bo Ab[0] kI[2])] Z) .str[Cg[ps]]:=by
 refine Abh ?_ (λy d=>?_) (by rw[aC];exact aD (iY 2 b) ())
 .rw[bW];exact Hq (cs:=[]) e rfl (aD b ())
   (λp a=>(Pu.pure,Ag Aa[Ad rfl][Aa Ac Ae] Aju[hp p a]))
 .let(p,_,rfl):=bU.mp d;exact lG[Bc 2 p]
def Amj{ps:lg Int}(h:Pg.wr[.fork a ps]):Pu P Gq[[Pg.w[.fork a ps]]] .str[Pg.body[.fork a ps]]:=by
 let(c,b,o,i):=h;let g:∀y∈a.map Dh,y.length<=14:=λy e=>by
  let(k,f,rfl):=bU.mp e;exact Abk[b k f]
 let m:(jn a.map[Dh]).length<=63 * 14:=Ajt g (by rw[aC];exact c)
 apply Bj (ws:=[Pg.w[.fork a ps]]) rfl;apply Bq
 .exact Do Af[Aj[Be Ad[rfl] Ac Az[rfl]][Ac][Br () ()]] () An
 apply Bq
 .exact Do (Gh Af[Aj[Be Ad[rfl] Ac Az[rfl]][Ac][Br () ()]] Af[Aj[Be Ad[rfl] Ac Az[rfl]][Ac][Br () ()]]) () An
 refine Bq (Bf (w:=.str[M1.Ce 1 a.length]) Ag[Aa[(Ag Aa[Be Ad[rfl] Ac Az[rfl]][Ae] Fx).cast (by rw[aC])][Aa Ac Ae]][Apo ()]) ?_
 apply Aw;apply Fz
 .exact Af Aj[Be Ad[rfl] Ac Az[rfl]][Ac][Br () ()]
 .decide +kernel
 let j:(Bl 4 [Pg.w[.fork a ps]]).set 1 sr[.str[M1.Ce 1 a.length]]=kSl Pg.w[.fork a ps] a.length []:=by
  rfl
 refine Bq (Z1:=kSl Pg.w[.fork a ps] a.length a) (Mh Gy[Be Ad[rfl] Ac Az[rfl]] ?_) ?_
 .have:=Bfm (P:=P) (w:=Pg.w[.fork a ps]) (n:=a.length) b c;rw[<-j] at this;exact this
 .apply Aw;apply Aq;refine Ai[Ad rfl][Ba0 Gy[Be Ad[rfl] Ac Az[rfl]] i ()][Bv ?_]
  rw[len_app,Bc,Dk];exact aD (show 1+(jn a.map[Dh]).length+2 * ps.length<=1+63 * 14+128 by omega) ()
end
section
def rSl(w:W)(n:Int)(rs:lg[t6×Cl]):De:=[sr w,sr .str[M1.Ce 1 n ++ jn rs.map[Hc]],rs.getLast?.map λr=>W.str r.1,rs.getLast?.map λr=>r.2.w]
def Bfn{n:Int}(h:∀r∈rs,r.1.length<=13/\r.2.wr)(o:rs.length<=63):
  PuN[P][Nk Mw[[2,3]] aA3 rs.map[K7]][rSl w n []][rSl w n rs]:=by
 refine Ami λpre r l e=>(((rSl w n pre).set 2 sr[.str[r.1]]).set 3 sr[r.2.w],rfl,?_);let(k,c):=r;let g:k.length<=13:=(h (u6 k c) (by rw[e];simp)).1
 let a:c.wr:=(h (u6 k c) (by rw[e];simp)).2
 let d:∀y∈pre.map Hc,y.length<=79:=λy s=>by
  let(q,i,rfl):=bU.mp s;have:=h q (by rw[e];simp[i])
  exact Bfl this.1 this.2
 let z:(jn pre.map[Hc]).length<=63 * 79:=Ajt d (by rw[aC];rw[e] at o;simp at o;omega)
 let f:=Abk g;unfold Dh at f;rw[len_app,Bc] at f;refine Nr (Z1:=(((rSl w n pre).set 2 sr[.str[k]]).set 3 sr[c.w]).set 1 sr[.str[M1.Ce 1 n ++ jn pre.map[Hc] ++ M1.Ce 1 k.length ++ k]]) Bf[Ai[Ai Ad[rfl] Ag[Aa[Ag[Aa Ad[rfl] Ae][len_str[aD g ()]]][Aa Ac Ae]][Apo ()] Bv[?_]][Ad rfl][Bv ?_]] ?_
 .rw[len_app,Bc,Bc];exact aD (show 1+(jn pre.map[Hc]).length+1<=1+63 * 79+1 by omega) ()
 .rw[len_app,len_app,Bc,Bc];exact aD (show 1+(jn pre.map[Hc]).length+1+k.length<=1+63 * 79+14 by omega) ()
 let v:rSl w n (pre ++ [(k,c)])=((((rSl w n pre).set 2 sr[.str[k]]).set 3 sr[c.w]).set 1 sr[.str[M1.Ce 1 n ++ jn pre.map[Hc] ++ M1.Ce 1 k.length ++ k]]).set 1 sr[.str[M1.Ce 1 n ++ jn pre.map[Hc] ++ M1.Ce 1 k.length ++ k ++ c.t]]:=by
  unfold rSl;rw[dY,bL,lK,Abj,vQ];show [_,sr W.str[M1.Ce 1 n ++ (jn pre.map[Hc] ++ Hc[u6 k c])],_,_]=[_,sr W.str[M1.Ce 1 n ++ jn pre.map[Hc] ++ M1.Ce 1 k.length ++ k ++ c.t],_,_];unfold Hc Dh;rw[Ff,Ff,Ff,Ff];rfl
 rw[v];let b:(M1.Ce 1 n ++ jn pre.map[Hc] ++ M1.Ce 1 k.length ++ k).length<=5000:=by
  rw[len_app,len_app,len_app,Bc,Bc];omega
 generalize u:M1.Ce 1 n ++ jn pre.map[Hc] ++ M1.Ce 1 k.length ++ k=A at b ⊢
 refine Nr ?_ An;cases c with
 |inn t=>
  let a:t.length<=63:=a;refine Bnm Af[Aj[Be Ad[rfl] Ac Az[rfl]][Ac][Br () ()]] () ?_
  let j:A ++ Cl.t .inn[t]=A ++ "i" ++ M1.Ce 1 t.length ++ t:=by
   show A ++ ("i" ++ M1.Ce 1 t.length ++ t)=_;rw[Ff,Ff,Ff]
  rw[j];refine Nr Bf[Ai[Ai (Ai Ad[rfl] Ac Bv[?_]) Ag[Aa[Ag Aa[Be Ad[rfl] Ac Az[rfl]][Ae] len_str[aD a ()]][Aa Ac Ae]][Apo ()] Bv[?_]][Be Ad[rfl] Ac Az[rfl]][Bv ?_]] An
  .exact aD (cZ b _) ()
  .rw[len_app,Bc];exact aD cZ[cZ b _][_] ()
  .rw[len_app,len_app,Bc];exact aD (aBo cZ[cZ b _][_] a) ()
 |out m p=>
  let a:0<=m/\0<=p:=a;refine Do Af[Aj[Be Ad[rfl] Ac Az[rfl]][Ac][Br () ()]] () ?_
  let j:A ++ Cl.t[.out m p]=A ++ "o" ++ M1.Ce 2 m ++ M1.Ce 2 p:=by
   show A ++ ("o" ++ jn[[m,p].map M1.Ce[2]])=_;rw[bL,bL,lK,Ij,Ij,Acv,Jw,Ff,Ff]
  rw[j];refine Nr Bf[Ai[Ai[Ai Ad[rfl] Ac Bv[?_]][Ag Aa[Be Ad[rfl] Ac Az[rfl]][Aa Ac Ae] Aju[a.1]][Bv ?_]][Ag Aa[Be Ad[rfl] Ac Az[rfl]][Aa Ac Ae] Aju[a.2]][Bv[?_]]] An
  .exact aD (cZ b _) ()
  .rw[len_app,Bc];exact aD cZ[cZ b _][_] ()
  .rw[len_app,len_app,Bc,Bc];exact aD (cZ cZ[cZ b _][_] _) ()
def Ahm{p:Pg}(h:p.wr):Pu P Gq[[p.w]] .str[p.body]:=by
 cases p with
 |fork m ps=>exact Amj h
 |head a b c d=>
  let(k,j,i,g):=h;apply Bj (ws:=[Pg.w[.head a b c d]]) rfl;apply Bq
  .exact Do Af[Aj[Be Ad[rfl] Ac Az[rfl]][Ac][Br () ()]] () An
  apply Aw;refine Fz (Gh Af[Aj[Be Ad[rfl] Ac Az[rfl]][Ac][Br () ()]] Af[Aj[Be Ad[rfl] Ac Az[rfl]][Ac][Br () ()]]) () Aw[Aq[?_]]
  exact Ba0 (ps:=[a,b,c,d]) Gy[Jv Ad[rfl] Dq[Ac] Ek Pu.pure] (λq f=>by
   simp only[aY,cR,or_false] at f;rcases f with rfl|rfl|rfl|rfl <;> assumption) (show 4<=1000 by decide)
 |free n=>
  apply Bj (ws:=[Pg.w .free[n]]) rfl;apply Bq
  .exact Do Af[Aj[Be Ad[rfl] Ac Az[rfl]][Ac][Br () ()]] () An
  apply Aw;refine Fz (Gh Af[Aj[Be Ad[rfl] Ac Az[rfl]][Ac][Br () ()]] Af[Aj[Be Ad[rfl] Ac Az[rfl]][Ac][Br () ()]]) () Aw[Aq[?_]]
  exact Ba0 (ps:=[n]) Gy[Jv Ad[rfl] Dq[Ac] Ek Pu.pure] (λq f=>by
   rw[aR] at f;subst f;exact h) (show 1<=1000 by decide)
 |rest t n=>
  let(i,g):=h;apply Bj (ws:=[Pg.w[.rest t n]]) rfl;apply Aw;refine Fz Af[Aj[Be Ad[rfl] Ac Az[rfl]][Ac][Br () ()]] () Aw[Aq[?_]]
  let e:Pg.body[.rest t n]=M1.Ce 2 n ++ t:=by
   show jn[[n].map M1.Ce[2]] ++ t=_;rw[bL,lK,Ij,Acv,Jw]
  rw[e];exact Ai (Ag Aa[Be Ad[rfl] Ac Az[rfl]][Aa Ac Ae] Aju[g]) (Be Ad[rfl] Ac Az[rfl]) (Bv (by
   rw[Bc];exact aD (eU i _) ()))
 |leaf rs=>
  let(k,j):=h;apply Bj (ws:=[Pg.w .leaf[rs]]) rfl;apply Bq
  .exact Do Af[Aj[Be Ad[rfl] Ac Az[rfl]][Ac][Br () ()]] () An
  apply Bq
  .exact Do (Gh Af[Aj[Be Ad[rfl] Ac Az[rfl]][Ac][Br () ()]] Af[Aj[Be Ad[rfl] Ac Az[rfl]][Ac][Br () ()]]) () An
  refine Bq (Bf (w:=.str[M1.Ce 1 rs.length]) Ag[Aa[(Ag Aa[Be Ad[rfl] Ac Az[rfl]][Ae] Fx).cast (by rw[aC])][Aa Ac Ae]][Apo ()]) ?_
  apply Bq
  .exact Do Af[Aj[Be Ad[rfl] Ac Az[rfl]][Ac][Br () ()]] () An
  let l:(Bl 4 [Pg.w .leaf[rs]]).set 1 sr[.str[M1.Ce 1 rs.length]]=rSl Pg.w[.leaf[rs]] rs.length []:=by
   show [sr Pg.w[.leaf[rs]],sr W.str[M1.Ce 1 rs.length],sy,sy]=[_,sr W.str[M1.Ce 1 rs.length ++ jn []],_,_];rw[Acv,Jw];rfl
  refine Bq (Z1:=rSl Pg.w[.leaf[rs]] rs.length rs) (Mh Gy[Be Ad[rfl] Ac Az[rfl]] ?_) Aw[Aq[Ad[rfl]]];have:=Bfn (P:=P) (w:=Pg.w .leaf[rs]) (n:=rs.length) j k;rw[<-l] at this;exact this
def Ahn{p:Pg}(h:p.ok):Pu P Gq[[p.w]] .str[p.body]:=Ahm Bhc[h]
end
def Wc:t6:=" !\"#$?&'()*+,-./0123456789:;<=>?@ABCDEFGHIJKLMNOPQRSTUVWXYZ[\\]^_`abcdefghijklmnopqrstuvwxyz{|}~"
def Bkx:∀c,c < 127->M2.okC c=t8->c≠63->aDy Wc ⟨#[c]⟩=(c:Int) - 32:=by decide +kernel
def Bfo:aCp Wc ⟨#[63]⟩=31:=by decide +kernel
def Ady(z:t6)(pre:lg Nat):De:=match pre.length with
 |0=>[sr .str[z],sr .str[Wc],sr .int[0],sy,sy,sy]
 |j+1=>[sr .str[z],sr .str[Wc],sr .int[M2.Agl[z.cps.toList][j+1]],sr .int[0+(j:Int)],sr .str[⟨#[z.cps.toList.getD j 0]⟩],sr[.int ((z.cps.toList.getD j 0:Nat) - 32:Int)]]
section
def Ba1{n:Nat}{pre a:lg Nat}{x:Nat}(e:eZ n=pre ++ x::a):x=pre.length/\x < n:=by
 let d:(eZ n)[pre.length]?=sr x:=by rw[e,bB aO[_],fV];rfl
 let(g,f):=aK.mp d
 grind
def Xk{j:Nat}(a:z.length<=big)(f:j < z.length):Pu P (ixW .str[z] .int[0+(j:Int)]) .str[⟨#[z.cps.toList.getD j 0]⟩]:=by
 let d:z.cps.toList.length=z.length:=aV;let e:atI z.cps.toList (0+j)=sr[z.cps.toList.getD j 0]:=by
  unfold atI ixN;simp_all
 unfold ixW;dsimp only;rw[e];exact Fv a Pu.pure
def Ajv(n:z.length<=big)(v:M2.Bs z=t8):Pu P J4[[.str z]] .str[M2.check[z]]:=by
 let o:z.cps.toList.length=z.length:=aV;apply Bj (ws:=[.str z]) rfl;refine Bq (Bf (w:=.str Wc) Ac) ?_;refine Bq Bf[Ac] ?_;refine Bq (Z1:=Ady z eZ[z.length]) (Mh (Gx (k:=z.length) (Aa Ag[Aa Ad[rfl] Ae][len_str n] Ae) n) ?_) ?_
 .refine Ami (D:=Ady z) λpre x u e=>?_;let(m,y):=Ba1 e;let g:M2.okC[z.cps.toList.getD x 0]=t8:=M2.Alk (by unfold M2.Bs at v;exact v) ()
  let q:=M2.Ae0.mp g;let t:∃a b c,Ady z pre=[sr .str[z],sr .str[Wc],sr .int[M2.Agl z.cps.toList x],a,b,c]:=by
   unfold Ady;cases hp:pre.length with
   |zero=>rw[hp] at m;subst m;exact(_,_,_,rfl)
   |succ j=>rw[hp] at m;subst m;exact(_,_,_,rfl)
  let(a,b,c,t):=t;rw[t];refine([sr .str[z],sr .str[Wc],sr .int[M2.Agl z.cps.toList x],sr .int[0+(x:Int)],b,c],rfl,?_);let C:Ady z (pre ++ [x])=[sr .str[z],sr .str[Wc],sr .int[M2.Agl[z.cps.toList][x+1]],sr .int[0+(x:Int)],sr .str[⟨#[z.cps.toList.getD x 0]⟩],sr[.int ((z.cps.toList.getD x 0:Nat) - 32:Int)]]:=by
   unfold Ady;have:(pre ++ [x]).length=x+1:=by simp[m]
   rw[this]
  rw[C,M2.Awg];generalize B:z.cps.toList.getD x 0=d at g q;refine Nr (Z1:=[sr .str[z],sr .str[Wc],sr .int[M2.Agl z.cps.toList x],sr .int[0+(x:Int)],sr .str[⟨#[d]⟩],c]) Bf[(Be[Ad rfl][Ad rfl][Xk n y]).cast (by rw[B])] ?_
  refine Nr Bf[Acs[Ad[rfl]][Aa Ad[rfl] Ae][Pu.pure]] ?_;refine Nr (Z1:=[sr .str[z],sr .str[Wc],sr .int[M2.Agl z.cps.toList x],sr .int[0+(x:Int)],sr .str[⟨#[d]⟩],sr[.int ((d:Nat) - 32:Int)]]) ?_ ?_
  .by_cases h:d=63
   .subst h;refine Bnm Af[Aj[Ad[rfl]][Ac][Br () ()]] () (Nr Bf[(Acs Ad[rfl] (Aa Ad[rfl] Ae) Pu.pure).cast (by rw[Bfo];rfl)] An)
   .let hd:∀d,d < 127->oH (⟨#[d]⟩:t6)=t8:=by decide +kernel
    let p:((⟨#[d]⟩:t6)==("?":t6))=t7:=by
     rw[beq_eq_false_iff_ne];intro A;have:=congrArg (λs:t6=>s.cps.toList) A;let r:[d]=[63]:=this;exact h (jD r).1
    refine Do Af[Aj[Ad[rfl]][Ac][Br (hd d ()) ()]] p ?_
    rw[Bkx d () g h]
    exact An
  .refine Nr Bf[(Ai Ad[rfl] Ai[Ai Ad[rfl] Ac Cm][Ai Ad[rfl] Ac Cm][Je ?_] Cm).cast ?_] An
   .rw[eV];refine .inr ?_;let r:small (((x+1:Nat):Nat):Int)=t8:=W0 (by unfold big at n;omega)
    rw[oK];exact r
   .rw[oK]
 .let g:∃a b c,Ady z eZ[z.length]=[sr .str[z],sr .str[Wc],sr .int[M2.chk[z.cps.toList]],a,b,c]:=by
   unfold Ady M2.chk;rw[bO,o];cases z.length with
   |zero=>exact(_,_,_,rfl)
   |succ j=>exact(_,_,_,rfl)
  let(a,b,c,g):=g;rw[g];apply Aw;apply Aq;exact Ag Aa[Ai Ad[rfl] Ac (Cj ())][Aa Ac Ae] (Aju ())
end
def Bn4:lg[(De->M W)×(De->M W)]:=[((kS "head"),(kS "h")),((kS "leaf"),(kS "l")),((kS "fork"),(kS "f")),((kS "rest"),(kS "r")),((kS "free"),(kS "e"))]
def Ba2:lg[Key×W]:=[(.inr "head",.str "h"),(.inr "leaf",.str "l"),(.inr "fork",.str "f"),(.inr "rest",.str "r"),(.inr "free",.str "e")]
def Bky(p:Pg):Ak0 Ba2 .inr[p.word]=sr .str[p.letter]:=by
 cases p <;> rfl
def W3{p:Pg}{size:Int}(d:(p.body.length:Int)<=size - 5):p.start ++ kW ⟨#[48]⟩ (size - 2 - p.start.length)=p.unch size:=by
 let c:=Qz p;unfold Pg.unch rA;let e:(kW ⟨#[48]⟩ (size - 2 - p.start.length)).cps=uU (size - 2 - p.start.length).toNat 48:=by
  apply Array.ext';rw[aDj,uK]
 split
 .have:(size - 2 - (p.start.length:Int)).toNat=0:=by omega
  show (⟨_⟩:t6)=p.start;rw[e,this];simp
 .show (⟨p.start.cps ++ (kW ⟨#[48]⟩ (size - 2 - p.start.length)).cps⟩:t6)=⟨_⟩
  grind
section
def Bkz{Z:De}{p:Pg}(h:Pu P (ixF Ab[0] kI[0] Z) .str[p.word]):Pu P ixF[Nz[Bn4]][ixF Ab[0] kI[0]][Z] .str[p.letter]:=(λS c=>by
 let d:Nz Bn4 Z S=.ok[.ref S.length][S ++ [.dct Ba2]]:=by
  rfl
 let(G,a):=h _ (P.st _ _ c);refine([.dct Ba2] ++ G,?_);unfold ixF;rw[Bk,d];dsimp only;unfold ixF at a;rw[Bk,a];let b:(S ++ [Cell.dct Ba2] ++ G)[S.length]?=sr .dct[Ba2]:=by
  rw[aX[by simp],bB aO[_],fV]
  rfl
 unfold ixW;dsimp only;rw[b];dsimp only[Afw];rw[Bky,aL];rfl)
def Aho{p:Pg}{b:Int}(h:p.wr)(i:M2.Bs p.body=t8)(l:64<=b)(k:b<=200)(d:(p.body.length:Int)<=b - 5):Pu P Gi[[p.w,.int b]] .str[p.text[b]]:=by
 let(ws,g):=Auj p;let c:p.body.length<=195:=by omega
 let j:=Qz p;let hu:(p.unch b).length<=big:=by rw[V9 d];exact aD (show (b - 2).toNat<=200 by omega) ()
 let f:=Ahm (P:=P) h;rw[g] at f;rw[g];apply Bj (ws:=[.tup (.str p.word::ws),.int b]) rfl;refine Bq Bf[Ag[Aa Ad[rfl] Ae][f]] ?_;refine Bq (Bf (Bkz (p:=p) (Be Ad[rfl] Ac Az[ix0]))) ?_;refine Bq (Bf (w:=.str p.start) ?_) ?_
 .refine Ai[Ai Ad[rfl] Ag[Aa[Ag[Aa Ad[rfl] Ae][len_str[aD c ()]]][Aa Ac Ae]][Aju ()] Bv[?_]][Ad rfl][Bv ?_]
  .rw[K8,Bc];decide
  .rw[len_app,K8,Bc];exact aD (eU c _) ()
 refine Bq (Bf (w:=.str p.unch[b]) ?_) ?_
 .refine Pu.cast (Ai Ad[rfl] (Ai Ac Ai[Ai Ad[rfl] Ac Gw][Ag[Aa Ad[rfl] Ae][len_str (show p.start.length<=big from by rw[j];exact aD (eU c 3) ())]][Gw] (Fv (a:=W.str kW[⟨#[48]⟩][b - 2 - p.start.length]) ?_ Pu.pure)) Bv[?_]) ?_
  .rw[aB,aB,dh,dh,dh];refine(((),?_),?_) <;> omega
  .rw[<-len_app,W3 d];exact hu
  .rw[W3 d]
 apply Aw;apply Aq;exact Ai Ad[rfl] Ag[Aa Ad[rfl] Ae][Ajv[hu][Apn i b]] (Bv (by
  rw[Q0,V9 d];exact aD (show (b - 2).toNat+2<=400 by omega) ()))
def Asj{p:Pg}{size:Int}(h:p.ok)(h1:64<=size)(h2:size<=200)(hb:(p.body.length:Int)<=size - 5):Pu P Gi[[p.w,.int size]] .str[p.text[size]]:=Aho Bhc[h] Auh[h] h1 h2 hb
end
def wrB(z:t6):Bool:=(decide[1<=z.length]&&decide[z.length<=3])&&z.cps.toList.all M1.inS
section
def Ajw(a:z.length<=big):Pu P Iv[[.str z]] .bl[wrB[z]]:=by
 let b:=Gh (Ew (Af (Ag (Aa (Ad (P:=P) (Z:=Bl 1 [.str z]) (i:=0) rfl) (Aa Ac Ae)) (Amh (z:=z))))) (Gh (Af (Aj (Ag (Aa (Ad (i:=0) rfl) Ae) len_str[a]) (Ac (w:=.int 1)) Age)) (Af (Aj (Ag (Aa (Ad (i:=0) rfl) Ae) len_str[a]) (Ac (w:=.int 3)) Qo)));apply Bj (ws:=[.str z]) rfl;unfold wrB;cases f:decide[1<=z.length]&&decide[z.length<=3] with
 |false=>
  refine Aw[Fz b ?_ Aw[Aq[Ac]]]
  grind
 |true=>
  rw[aB,dh,dh] at f;refine Bq Do[b][by grind][An] ?_
  let h:=Hq (P:=P) (xs:=z.cps.toList) (φ:=λc=>W.str ⟨#[c]⟩) (ψ:=λc=>W.bl M1.inS[c]) (t:=λd=>pure t8) (e:=Dz .In Ab[0] aA2) (cs:=[]) (cap:=[]) (Z:=Bl 1 [.str z]) (src:=Eo Ab[0]) (Aex a Ad[rfl]) rfl (by rw[aV];exact a)
   (λc d=>(Pu.pure,Aj Ad[rfl] Ac Pu.pure))
  exact Aw (Aq ((P0 (bs:=z.cps.toList.map M1.inS) (by rw[bW];exact h)).cast (by rw[V7,jE])))
def Bfp{i:Int}(c:0<=i)(b:i < 1000000):Pu P (Bop.fn .shl .int[i] .int[6]) .int[i * 64]:=(Pu.cast Fv[by grind][Pu.pure] rfl)
def Ba3{a:Int}{c:Nat}(d:M1.inS c=t8)(g:0<=a)(f:a < 1000000):PuN P aA8
  [sr .str[z],sr .int[a],sr .str[⟨#[c]⟩]] [sr .str[z],sr .int[a * 64+(M1.idx c:Int)],sr .str[⟨#[c]⟩]]:=by
 refine Nr Bf[Ai Ai[Ad[rfl]][Ac][Bfp g f] Acs[Ac][Aa Ad[rfl] Ae][?_] Cm] An;let(r,e):=M1.Agj d;show Pu P (match cQ M1.sgs M1.one[c] 0 M1.sgs.length 1 with|i::_=>_|[]=>bad) _
 rw[e];exact Pu.pure
def Awx(z:t6):Int:=M1.Acf z.cps.toList 0
def App(h:wrB z=t8):Pu P Jt[[.str z]] .int[Awx[z]]:=by
 let k:=h;unfold wrB at k;rw[aB,aB,dh,dh,aQ] at k;let((e,u),t):=k;let o:z.length<=big:=aD u ()
 apply Bj (ws:=[.str z]) rfl;refine Bq[Do Ew[Af[Ag[Aa Ad[rfl] Ae][Ajw o]]] (by rw[h];rfl) An][Bq Bf[Ac] ?_]
 let g:∀(l:lg Nat)(a:Int)(m:Nat)(x:o9 W),(∀c∈l,M1.inS c=t8)->0<=a->a < 64 ^ m->m+l.length<=3->∃y,PuN P Nk[By[2]][aA8][l.map λc=>W.str ⟨#[c]⟩]
   [sr .str[z],sr .int[a],x] [sr .str[z],sr .int[M1.Acf l a],y]:=by
  intro l;induction l with
  |nil=>exact λa m x f f f f=>(x,Rk)
  |cons c l q=>
   intro a m x j v e r;let hi:=M1.Aru[j c bJ];rw[bN] at r;let hp:(64:Int) ^ (m+1)=64 ^ m * 64:=uI 64 m;let(y,i):=q (a * 64+(M1.idx c:Int)) (m+1) sr[.str[⟨#[c]⟩]] (λd hd=>j d (bD _ hd)) () (by rw[hp];omega) ()
   let s:a < 1000000:=by
    have:m=0\/m=1\/m=2:=by omega
    rcases this with rfl|rfl|rfl
    .exact yR e ()
    .exact yR e ()
    .exact yR e ()
   exact(y,J2 rfl Ba3[j c bJ][v][s] i)
 let(y,i):=g z.cps.toList 0 0 sy t () () (by rw[aV];show 0+z.length<=3;omega)
 exact Bq Mh[Aex o Ad[rfl]][i] Aw[Aq[Ad[rfl]]]
def Apq(a:z.length<=big)(h:wrB z=t7):PuX P Jt[[.str z]] (u6 2 .non):=(N7 rfl N6[Az8 Ew[Af[Ag[Aa Ad[rfl] Ae][Ajw a]]] (by rw[h];rfl) N6[Awd (Aa Ac Ae) ()]])
end
section
variable{ns:lg Int}
def stD(ns:lg Int)(k:Int):Cell:=.dct [(.inr "cells",.scr ns),(.inr "at",.int k)]
def cellAt(ns:lg Int)(k:Int):Int:=if k < ns.length then (atI ns k).getD 0 else 0
def nxt(ns:lg Int)(k:Int):Int:=(cellAt ns (k % (if (ns.length:Int) > 1 then (ns.length:Int) else 1)) * 48271+k * k * 69621) % 2147483647 / 8
def Ba4(ns:lg Int)(k:Int):0<=nxt ns k:=by
 unfold nxt;have:0<=(cellAt ns (k % (if (ns.length:Int) > 1 then (ns.length:Int) else 1)) * 48271+k * k * 69621) % 2147483647:=gK _ ()
 omega
def Awy{k:Int}(d:0<=k):Pu P J3[[.scr ns,.int k]] .int[cellAt ns k]:=by
 apply Bj (ws:=[.scr ns,.int k]) rfl;let c:Pu P Dp[Dz .Lt Ab[1] (zA Cq Ab[0])][Bl 2 [.scr ns,.int k]] decide[k < ns.length]:=Af[Aj Ad[rfl] Ag[Aa Ad[rfl] Ae][Pu.pure] Age];unfold cellAt;by_cases a:k < ns.length
 .rw[di a];apply Aw;refine Fz c dj[a] Aw[Aq[Be Ad[rfl] Ad[rfl] ?_]];obtain⟨v,b⟩:∃v,atI ns k=sr v:=by
   unfold atI ixN;rw[di d,di a];exact(ns[k.toNat]'(),aZ _)
  rw[b];show Pu P Aid[(atI ns k).map W.int] _;rw[b];exact Pu.pure
 .rw[dm a];exact Bq[Do c dq[a] An][Aw Aq[Ac]]
end
def Ahp(P:SP)(n:Nat)(c:Cell):SP:=(λS=>P.p S/\S[n]?=sr c,λS G h=>(P.st S G h.1,by rw[aX (aK.mp h.2).1];exact h.2))
section
variable{ns:lg Int}{n:Nat}{k:Int}
def Aps(h:Z[0]?=sr sr[.ref[n]])(b:S[n]?=sr[stD ns k]):ixF Ab[0] kS["at"] Z S=.ok .int[k] S:=by
 let a:Ab 0 Z S=.ok .ref[n] S:=by unfold Ab;rw[h];rfl
 unfold ixF;rw[Bk,a];show ixW .ref[n] .str["at"] S=_;unfold ixW;dsimp only;rw[b];rfl
def Bn5(h:Z[0]?=sr sr[.ref[n]]):Pu[Ahp P n (stD ns k)][ixF Ab[0] kS["at"] Z][.int k]:=(λS a=>([],by rw[Aps h a.2,bC]))
def Apt(h:Z[0]?=sr sr[.ref[n]]):Pu[Ahp P n (stD ns k)][ixF Ab[0] kS["cells"] Z][.scr ns]:=(λS b=>([],by
 let a:Ab 0 Z S=.ok .ref[n] S:=by unfold Ab;rw[h];rfl
 unfold ixF;rw[Bk,a];show ixW .ref[n] .str["cells"] S=_;unfold ixW;dsimp only;rw[b.2,bC];rfl))
def Auk(h:S[n]?=sr[stD ns k])(l:0<=k)(i:k < 1000000):∃G,Bt [.ref n] S=.ok[.int nxt[ns][k+1]][S.set n stD[ns][k+1] ++ G]:=by
 let hd:Af1 Ab[0] kS["at"] Al[.add][ixF Ab[0] kS["at"]][kI[1]] (Bl 3 [.ref n]) S=.nx[Bl 3 [.ref n]][S.set n stD[ns][k+1]]:=by
  let g:Al .add (ixF Ab[0] kS["at"]) kI[1] (Bl 3 [.ref n]) S=.ok .int[k+1] S:=by
   unfold Al;rw[Bk,Aps rfl h];rfl
  let d:Ai6 .ref[n] .str["at"] .int[k+1] S=.ok u9 (S.set n stD[ns][k+1]):=by
   unfold Ai6;dsimp only;rw[h];rfl
  unfold Af1 Ez;rw[Bk,g];dsimp only;rw[Bk,show Ab 0 (Bl 3 [.ref n]) S=.ok .ref[n] S from rfl];dsimp only;rw[Bk,show kS "at" (Bl 3 [.ref n]) S=.ok .str["at"] S from rfl];dsimp only;rw[d]
 let f:PuR[Ahp SP.any n stD[ns][k+1]][Am Bg[1][ixF Ab[0] kS["at"]] Am[Bg 2 zB[J3][ixF Ab[0] kS["cells"]][Al[.mod][Ab[1]][zB Anq kI[1] zA[Cq][ixF Ab[0] kS["cells"]]]]][rQ Al[.fdiv][Al .mod Al[.add][Al .mul Ab[2] kI[48271]][Al[.mul][Al .mul Ab[1] Ab[1]][kI[69621]]] kI[2147483647]][kI[8]]]][Bl 3 [.ref n]][.int nxt[ns][k+1]]:=by
  let b:small[k+1]=t8:=by
   have:=W0 (k:=(k+1).toNat) ()
   rw[cO ()] at this
   exact this
  let a:0 < (if (ns.length:Int) > 1 then (ns.length:Int) else 1):=by split <;> omega
  refine Bq Bf[Bn5[rfl]] ?_;refine Bq Bf[Ag Aa[Apt rfl][Aa Ai[Ad rfl][Ag Aa[Ac][Aa Ag[Aa Apt[rfl] Ae][Pu.pure] Ae] Pu.pure][Cj a] Ae] Awy[gK _ ()]] ?_
  refine Aw Aq[?_];refine Pu.cast (Ai (Ai Ai[Ai Ad[rfl] Ac Je[by rw[show small 48271=t8 by decide +kernel,lM]]][Ai Ai[Ad rfl][Ad rfl][Je (by rw[b];rfl)] Ac Je[by rw[show small 69621=t8 by decide +kernel,lM]]][Cm] Ac (Cj (j:=2147483647) ())) Ac (Cv (j:=8) () ())) ?_
  unfold nxt;rfl
 let(G,e):=f (S.set n stD[ns][k+1]) (trivial,by rw[dJ (aK.mp h).1])
 refine(G,?_);unfold Bt Cp Vd;rw[di (show [W.ref n].length=1 from rfl)];unfold Am at e ⊢
 rw[hd];dsimp only;rw[e]
end
def Asl:t6:=(" !\"#$&'()*+,-./:;<=>?\x40[\\]^_`{|}~":t6) ++ ("0123456789abcdefghijklmnopqrstuvwxyzABCDEFGHIJKLMNOPQRSTUVWXYZ":t6)
def Nh:Asl.length=94:=by decide +kernel
def Bfq:M2.Bs Asl=t8:=by decide +kernel
def sgnN(i:Int):Nat:=Asl.cps.toList.getD i.toNat 0
def ltN(n:Int)(k:Nat):Int:=(n / 7+13 * (0+(k:Int)) * (0+(k:Int))+5 * (0+(k:Int))) % 94
def lawT(n:Int)(size:Nat):t6:=jn[(eZ size).map λk=>(⟨#[sgnN[ltN n k]]⟩:t6)]
def Aul{i:Int}(b:0<=i)(h:i < 94):M2.okC sgnN[i]=t8:=(M2.Alk Bfq (by show _ < Asl.length;rw[Nh];omega))
def Ajx(n:Int)(k:Nat):0<=ltN n k/\ltN n k < 94:=by unfold ltN;omega
def Ae3(n:Int)(a:Nat):M2.Bs[lawT n a]=t8:=(Apm λy b=>by
 let(k,_,rfl):=bU.mp b;have:=Ajx n k;exact(Ahk _).trans (Aul this.1 this.2))
def Ni(n:Int)(b:Nat):(lawT n b).length=b:=by
 unfold lawT;rw[V8];have:∀l:lg Nat,(l.map[(λx:t6=>x.length) ∘ λk=>⟨#[sgnN[ltN n k]]⟩]).sum=l.length:=by
  intro l;induction l with
  |nil=>rfl
  |_ a l e=>
   rw[bL,nF,e,bN];show 1+_=_;omega
 simp_all
section
def Apu:Pu P Mj[[]] .str[Asl]:=(Bj rfl (Bq Bf[Ac] Aw[Aq[Ai[Ac][Ad[rfl]][Bv ()]]]))
def Ba5{i:Int}(a:0<=i)(h:i < 94):Pu P (ixW .str[Asl] .int[i]) .str[⟨#[sgnN i]⟩]:=by
 have:=Xk (P:=P) (j:=i.toNat) (by rw[Nh];decide) (by rw[Nh];omega)
 rw[oK,cO a] at this;exact this
def Ajy{i:Int}(a:0<=i)(c:i<=1000000):small i=t8:=by
 have:=W0 (k:=i.toNat) ()
 rw[cO a] at this;omega
def Ae4{n:Int}{size:Nat}(d:size<=1000):Pu P Hr[[.int n,.int (size:Int)]] .str[lawT n size]:=by
 apply Bj (ws:=[.int n,.int (size:Int)]) rfl;refine Bq Bf[Ag Ae Apu] ?_;refine Bq (Bf (w:=.int 94) ((Ag[Aa Ad[rfl] Ae][len_str (by rw[Nh];decide)]).cast (by rw[Nh];rfl))) ?_
 refine Aw Aq[?_];refine Abh (c:=1) ?_ (λy l=>?_) (by rw[aC,bO];exact aD (iY 1 d) ())
 .let h:=Hq (P:=P) (xs:=eZ size) (φ:=λ(k:Nat)=>W.int[(0:Int)+(k:Int)]) (ψ:=λk=>W.str ⟨#[sgnN[ltN n k]]⟩) (t:=λm=>pure t8) (e:=ixF Ab[3] aB2) (cap:=[3,0,2]) (Z:=((Bl 4 [.int n,.int (size:Int)]).set 2 sr[.str[Asl]]).set 3 sr[.int[94]]) (src:=Nm Hn yA[Ab[1]])
   (Gx[Aa Ad[rfl] Ae][aD d ()]) rfl (by rw[bO];exact aD d ()) (λk i=>by
    let i:k < size:=mJ.mp i;let g:=Ajx n k;let b:small[0+(k:Int)]=t8:=Ajy () ()
    exact(Pu.pure,Be Ad[rfl] (Ai (Ai (Ai (Ai Ad[rfl] Ac (Cv (j:=7) () ())) Ai[Ai Ac Ad[rfl] Je[by rw[b,lM]]][Ad[rfl]][Je[by rw[b,lM]]] Cm) (Ai Ac Ad[rfl] Je[by rw[b,lM]]) Cm) Ad[rfl] (Cj (j:=94) ())) (Ba5 g.1 g.2)))
  rw[bW];exact h
 .let(k,_,rfl):=bU.mp l;exact aO 1
end
def Sf{α:Type}(ns:lg Int)(n:Nat)(d:Nat)(m:M α)(Q:α->Prop):Prop:=∀(k:Int)(S:Store),0<=k->k+d<=900000->S[n]?=sr[stD ns k]->∃(a:α)(k':Int)(G:Store),m S=.ok a (S.set n (stD ns k') ++ G)/\k<=k'/\k'<=k+d/\Q a
section
variable{α β:Type}{n d d1 d2:Nat}{m:M α}{f:α->M β}{Q:α->Prop}{R':β->Prop}{ns:lg Int}
def Aum{S G:Store}{c a:Cell}(h:n < S.length):(S.set n c ++ G).set n a=S.set n a ++ G:=by simp_all
def Sf.bind(q:Sf ns n d1 m Q)(p:∀a,Q a->Sf ns n d2 f[a] R'):Sf ns n (d1+d2) (m >>= f) R':=(λk S r hd h=>by
 let g:=(aK.mp h).1;let(a,c,i,t,y,x,l):=q k S r () h
 let e:(S.set n (stD ns c) ++ i)[n]?=sr[stD ns c]:=by
  rw[aX[by simp_all],dJ g]
 let(b,o,u,s,w,v,j):=p a l c _ () () e
 refine(b,o,i ++ u,?_,(),(),j)
 rw[Bk,t];dsimp only;rw[s,Aum g,aL])
def Sf.of_pu{a:α}(h:Pu SP.any m a)(q:Q a):Sf ns n 0 m Q:=(λk S c c b=>by
 let(G,e):=h S trivial;refine(a,k,G,?_,Int.le_refl _,by simp,q)
 have:S.set n (stD ns k)=S:=by
  apply rY;intro i;by_cases hi:i=n
  .subst hi;rw[dJ (aK.mp b).1,b]
  .rw[cX eG[hi]]
 simp_all)
def Sf.mono{b:α->Prop}(h:Sf ns n d1 m Q)(hd:d1<=d2)(j:∀a,Q a->b a):Sf ns n d2 m b:=(λk S o q l=>by
 let(a,i,G,e,g,p,c):=h k S o () l
 exact(a,i,G,e,g,(),j a c))
def Bfr:Sf ns n 1 Bt[[.ref n]] (λw=>∃i,w=.int i/\0<=i):=(λk S b c a=>by
 let(G,e):=Auk a b ()
 exact(_,k+1,G,e,(),(),_,rfl,Ba4 ns (k+1)))
end
inductive En where
 |nx (Z:De)
 |rt (w:W)
def SfS(ns:lg Int)(n d:Nat)(b:MS)(Z:De)(Q:En->Prop):Prop:=∀(k:Int)(S:Store),0<=k->k+d<=900000->S[n]?=sr[stD ns k]->∃(x:En)(k':Int)(G:Store),b Z S=(match x with|.nx Z'=>.nx Z' (S.set n (stD ns k') ++ G)|.rt w=>.rt w (S.set n (stD ns k') ++ G))/\k<=k'/\k'<=k+d/\Q x
section
variable{n d d1 d2:Nat}{i kk nn:Nat}
def Bfs(h:Sf ns n d f[Z] R')(q:∀w,R' w->Q .nx[Z.set i sr[w]]):SfS ns n d (Bg i f) Z Q:=(λk S m hd l=>by
 let(a,j,G,e,g,c,b):=h k S m hd l;exact(.nx[Z.set i sr[a]],j,G,by unfold Bg Ez;rw[e],g,c,q a b))
def Aun(h:Sf ns n d f[Z] R')(q:∀w,R' w->Q .rt[w]):SfS ns n d retS[f] Z Q:=(λk S m hd l=>by
 let(a,j,G,e,g,c,b):=h k S m hd l;exact(.rt a,j,G,by unfold retS Ez;rw[e],g,c,q a b))
def Ae5(s:SfS ns n d1 b Z Q')(r:∀l,Q' .nx[l]->SfS ns n d2 v l Q)(q:∀w,Q' .rt[w]->Q .rt[w]):SfS ns n (d1+d2) (Am b v) Z Q:=(λk S t hd h=>by
 let e:n < S.length:=(aK.mp h).1;let(x,a,c,j,o,D,g):=s k S t () h
 cases x with
 |rt w=>exact(.rt w,a,c,by unfold Am;rw[j],o,(),q w g)
 |nx z=>
  let f:(S.set n (stD ns a) ++ c)[n]?=sr[stD ns a]:=by
   rw[aX (by rw[iH];exact e),dJ e]
  let(y,p,A,u,C,B,m):=r z g a (S.set n (stD ns a) ++ c) () () f
  refine(y,p,c ++ A,?_,(),(),m)
  unfold Am;rw[j];dsimp only;rw[u];cases y <;> simp only[Aum e,aL])
def Bk0(j:ws.length=kk)(h:SfS ns n d b (Bl nn ws) (λx=>∃w,x=.rt w/\R' w)):Sf ns n d (Cp kk nn b ws) R':=(λk S m hd l=>by
 let(x,g,G,e,f,c,w,rfl,a):=h k S m hd l;exact(w,g,G,by unfold Cp;rw[di j,e],f,c,a))
end
section
variable{ns:lg Int}
def Wd{i:Int}(k:Pu P l[Z] a)(h:a.length<=big)(j:Pu P g[Z] .int[i])(hi:atI a i=sr w):Pu P (ixF Hf[l] g Z) w:=(λS c=>by
 let(G,n,e,f,_):=Aev k h S c;let(d,m):=j _ (P.st _ _ c);refine(G ++ d,?_);unfold ixF;rw[Bk,e];dsimp only;rw[Bk,m];let b:(S ++ G ++ d)[n]?=sr .lst[a]:=by rw[aX (aK.mp f).1];omega
 unfold ixW;dsimp only;rw[b];dsimp only;rw[hi,aL];rfl)
variable{n d:Nat}
def Ba6(q:Q .nx[Z]):SfS ns n 0 Ay Z Q:=(λk S b b i=>by
 let(a,c,G,e,h,l,_):=Sf.of_pu (n:=n) (m:=(pure u9:M Unit)) (a:=u9) (Q:=λb=>True) Pu.pure trivial k S ‹_› () i
 let j:S=S.set n (stD ns c) ++ G:=by injection e
 exact(.nx Z,c,G,by show RS.nx Z S=RS.nx Z _;rw[<-j],h,(),q))
def Bk1(y:Pu SP.any t[Z] p)(v:p=t8->SfS ns n d b Z Q)(u:p=t7->SfS ns n d g Z Q):SfS ns n d (ifS t b g) Z Q:=(λk S z hd j=>by
 let i:=(aK.mp j).1;let(G,e):=y S trivial;let f:(S ++ G)[n]?=sr[stD ns k]:=by rw[aX i];exact j
 let a:∀{c:MS},SfS ns n d c Z Q->ifS t b g Z S=c Z _->∃(x:En)(h:Int)(G:Store),ifS t b g Z S=(match x with|.nx C=>.nx C (S.set n (stD ns h) ++ G)|.rt w=>.rt w (S.set n (stD ns h) ++ G))/\_/\_/\Q x:=λ{c} hc ec=>by
  let(x,r,E,B,q,o,m):=hc k _ z hd f;refine(x,r,G ++ E,?_,q,o,m);rw[ec,B];cases x <;> simp only[List.set_append_left _ _ i,aL]
 cases p with
 |true=>exact a v[rfl] (by unfold ifS Ez;rw[e];rfl)
 |false=>exact a u[rfl] (by unfold ifS Ez;rw[e];rfl))
def Bft(c:Pu SP.any f[Z] b)(i:Sf ns n d s[b] R'):Sf ns n d (Dm s f Z) R':=(
 (Sf.bind (Sf.of_pu c rfl) (λa e=>by subst e;omega)).mono (by simp) λh q=>q)
def Bpw{a:Int}(e:64<=a)(c:a<=200):8<=a / 8/\a / 8<=25:=by omega
def Bfu{size:Int}(s:64<=size)(r:size<=200):Sf ns n 1 N8[[.ref n,.int size]] (λw=>∃c:Cl,c.ok=t8/\w=c.w):=by
 apply Bk0 (ws:=[.ref n,.int size]) rfl;refine Ae5 (d1:=1) (d2:=0) (Q':=λx=>∃i,x=.nx[(Bl 3 [.ref n,.int size]).set 2 sr[.int[i]]]/\0<=i) Bfs[Bft[Aa Ad[rfl] Ae][Bfr]][λw ⟨i,e,hi⟩=>(i,by rw[e],hi)] (λb ⟨i,e,hi⟩=>?_) (λw ⟨i,e,hi⟩=>by cases e)
 let e:b=[sr .ref[n],sr .int[size],sr .int[i]]:=by injection e
 subst e;let m:Pu[SP.any][Dp Dz[.Eq][Al .mod Ab[2] kI[3]][kI[0]] [sr .ref[n],sr .int[size],sr .int[i]]][i % 3==0]:=Af (Aj (Ai Ad[rfl] Ac (Cj (j:=3) ())) Ac Lp)
 refine Ae5 (d1:=0) (d2:=0) (Q':=λx=>(∃w,x=.rt w/\∃c:Cl,c.ok=t8/\w=c.w)\/x=.nx [sr .ref[n],sr .int[size],sr .int[i]]) Bk1[m][λl=>?_][λl=>Ba6 .inr[rfl]] (λb h=>?_) (λw h=>?_)
 .refine Ae5 (d1:=0) (d2:=0) (Q':=λx=>∃w,x=.rt w/\∃c:Cl,c.ok=t8/\w=c.w) (Aun (R':=λw=>∃c:Cl,c.ok=t8/\w=c.w) (Sf.of_pu (a:=Cl.w .out[1+i / 3 % 400][1+i / 1200 % 4095]) ?_ (_,?_,rfl)) (λw h=>(w,rfl,h))) (λb h=>by let(w,e,_):=h;cases e) (λw h=>.inl h)
  .exact Cu (Aa Ac (Aa (Ai Ac (Ai (Ai Ad[rfl] Ac (Cv (j:=3) () ())) Ac (Cj (j:=400) ())) Cm) (Aa (Ai Ac (Ai (Ai Ad[rfl] Ac (Cv (j:=1200) () ())) Ac (Cj (j:=4095) ())) Cm) Ae))) (by show 3<=big;decide)
  .unfold Cl.ok Ec;simp only[aB,dh];omega
 .rcases h with ⟨w,e,_⟩|e
  .cases e
  let e:b=[sr .ref[n],sr .int[size],sr .int[i]]:=by injection e
  subst e;let u:=Bpw s r;let t:0<=i / 30 % (size / 8+1)/\i / 30 % (size / 8+1) < size / 8+1:=(gK _ (),jN _ ())
  obtain⟨L,p,f,o⟩:∃L:Int,atI [W.int 0,.int 1,.int[size / 8],.int[i / 30 % (size / 8+1)]] (i / 3 % 4)=sr .int[L]/\0<=L/\L<=25:=by
   let q:i / 3 % 4=0\/i / 3 % 4=1\/i / 3 % 4=2\/i / 3 % 4=3:=by omega
   rcases q with h|h|h|h <;> rw[h]
   .exact(0,rfl,(),())
   .exact(1,rfl,(),())
   .exact(_,rfl,(),())
   .exact(_,rfl,(),())
  refine Ae5 (d1:=0) (d2:=0) (Q':=λx=>∃w,x=.rt w/\∃c:Cl,c.ok=t8/\w=c.w) (Aun (R':=λw=>∃c:Cl,c.ok=t8/\w=c.w) (Sf.of_pu (a:=Cl.w .inn[lawT i L.toNat]) ?_ (_,?_,rfl)) (λw h=>(w,rfl,h))) (λb h=>by let(w,e,_):=h;cases e) (λw h=>h)
  .let k:=Ae4 (P:=SP.any) (n:=i) (size:=L.toNat) ()
   rw[cO f] at k;exact Cu (Aa Ac (Aa (Ag (Aa Ad[rfl] (Aa (Wd (Aa Ac (Aa Ac (Aa (Ai Ad[rfl] Ac (Cv (j:=8) () ())) (Aa (Ai (Ai Ad[rfl] Ac (Cv (j:=30) () ())) (Ai (Ai Ad[rfl] Ac (Cv (j:=8) () ())) Ac Cm) (Cj (j:=size / 8+1) ())) Ae)))) (by show 4<=big;decide) (Ai (Ai Ad[rfl] Ac (Cv (j:=3) () ())) Ac (Cj (j:=4) ())) p) Ae)) k) Ae)) (by show 2<=big;decide)
  .show (M2.Bs[lawT i L.toNat]&&decide[(lawT i L.toNat).length<=63])=t8;rw[Ae3,Ni,jE,dh];omega
 .rcases h with h|e
  .exact h
  .cases e
end
def cut(z:t6)(i j:Nat):t6:=⟨((z.cps.toList.drop i).take (j - i)).toArray⟩
def Acw{i j:Nat}(d:i<=j)(c:j<=z.length):fQ[z][sr (i:Int)][sr (j:Int)]=cut z i j:=by
 rw[eq_of_beq[aBp (by simp) () ()]]
 unfold cut;simp
def Aab{j:Nat}(c:j<=z.length):fQ z sy (sr (j:Int))=cut z 0 j:=by
 rw[eq_of_beq[zY (by simp) ()]]
 rfl
def Ik{i j:Nat}(d:i<=j)(c:j<=z.length):(cut z i j).length=j - i:=by
 let b:_=z.length:=aV;show ((z.cps.toList.drop i).take _).toArray.size=_;rw[cG,dO,bM];omega
def Aac{i j:Nat}(h:M2.Bs z=t8):M2.Bs[cut z i j]=t8:=by
 unfold M2.Bs at h ⊢
 rw[aQ] at h ⊢
 exact λc a=>h c mQ[vR[a]]
def dk(keys:lg t6):lg[Key×W]:=keys.map λz=>(u6 .inr[z] .bl[t8])
def Bk2(c:lg t6)(z:t6):∃d,Aaq dk[c] .inr[z] .bl[t8]=dk d/\d.length<=c.length+1/\(c.Nodup->d.Nodup)/\∀y∈d,y∈c\/y=z:=by
 by_cases j:z∈c
 .refine(c,?_,gZ _,λh=>h,λy f=>.inl f);unfold Aaq;let g:((dk c).any λp=>decide[p.1=(pG z:Key)])=t8:=zT.mpr ((u6 (pG z:Key) W.bl[t8]),bU.mpr (z,j,rfl),dj rfl);rw[di g];unfold dk;simp
 .refine(c ++ [z],?_,by rw[aU];exact aO _,λh=>?_,λy f=>?_)
  .unfold Aaq;rw[dm]
   .unfold dk;rw[dY];rfl
   .intro h;let(p,hp,e):=zT.mp h;let(y,f,rfl):=bU.mp hp;simp_all
  .rw[mG];refine(h,jQ.mpr ((λz=>nomatch z),.nil),λa g b l e=>?_);rw[aR.mp l] at e;exact j[e ▸ g]
  simp_all
theorem Auo:∀a:lg t6,Ds Ak3 dk[a]=sr a
 |[]=>rfl
 |z::a=>by
  have:=Auo a;unfold dk at this ⊢
  rw[bL,Ds,this];rfl
abbrev Aad(ks:lg t6):Prop:=ks.Pairwise λa b=>Iw a b=t8
theorem Abl:∀{c:lg t6},Aad c->Gb c=t8
 |[],_=>rfl
 |[a],_=>rfl
 |a::b::c,h=>by
  let h:=jJ.mp h;let d:=Abl h.2;unfold Gb at d ⊢
  show (Iw a b&&((b::c).zip ((b::c).drop 1)).all _)=_;rw[d,h.1 b (bJ),Bool.and_self]
def Awz(h:leS a b=t8)(ne:a≠b):Iw a b=t8:=by
 cases c:Iw a b with
 |true=>rfl
 |_=>
  let d:leS b a=t8:=by
   unfold leS;unfold Iw at c;rw[c];rfl
  exact absurd (Aak a b h d) ne
def Xh(h:ks.Nodup):Aad Mt[ks]:=((Lg ks).and ((Ft ks).nodup_iff.mpr h)).imp λ⟨a,b⟩=>Awz a b
section
variable{ns:lg Int}{n d:Nat}{k:Int}
def Bfv(h:S[n]?=sr[stD ns k])(b:0<=k)(c:k < 900000)(q:∀i a,Fr [n] S a->a[n]?=sr stD[ns][k+1]->0<=i->Q .int[i] a):Wm Bt[[.ref n]] S Q:=by
 let(G,e):=Auk h b ()
 exact(_,_,e,q _ _ Fr.set.then0[Fr.app] Fr.app.at0[M3[Fj[h]]] (Ba4 ns _))
def Hy{i:Nat}(b:Z[i]?=sr sr[.ref[n]])(h:S[n]?=sr[stD ns k])(e:0<=k)(c:k < 900000)(q:∀i a,Fr [n] S a->a[n]?=sr stD[ns][k+1]->0<=i->Q .int[i] a):Wm (Dm Bt yA[Ab[i]] Z) S Q:=(
 Ei Av[Cd b Bm[Bfv h e c q]])
def Bn6{c:Type}{m:M c}{g:c->Prop}{R:c->Store->Prop}(o:Sf ns n d m g)(h:S[n]?=sr[stD ns k])(r:0<=k)(p:k+d<=900000)(q:∀a b f,Fr [n] S f->f[n]?=sr[stD ns b]->k<=b->b<=k+d->g a->R a f):Wm m S R:=by
 let(a,b,G,e,l,j,i):=o k S r p h;exact(a,_,e,q a b _ Fr.set.then0[Fr.app] Fr.app.at0[M3[Fj[h]]] l j i)
def Ba7(q:Q[.ref S.length][S ++ [.dct []]]):Wm (Nz [] Z) S Q:=(_,_,rfl,q)
def Asm(base:t6)(at' size:Nat)(c:Nat):t6:=cut base 0 at' ++ ⟨#[c]⟩ ++ cut base (at'+1) size
def Bfw{a L c:Nat}(j:base.length=12)(b:M2.Bs base=t8)(l:a < L)(m:L<=12)(h:M2.okC c=t8):isKey[Asm base a L c]=t8:=by
 let g:(cut base 0 a).length=a:=by rw[Ik () ()];rfl
 let f:(cut base (a+1) L).length=_:=Ik () ()
 let e:(Asm base a L c).length=L:=by
  unfold Asm;rw[len_app,len_app,g,f];show a+1+_=L;omega
 unfold isKey;rw[e];unfold Asm;rw[Eg,Eg,Aac b,Aac b,show M2.Bs ⟨_⟩=t8 from (Ahk c).trans h]
 grind
def Bfx{a L c:Nat}(i:base.length=12)(u:a < L)(v:L<=12)(l:Pu P f[Z] .str[base])(j:Pu P e[Z] (.int (a:Int)))(s:Pu P t[Z] .str[⟨#[c]⟩])(r:Pu P m[Z] (.int (L:Int))):
  Pu P (Al .add Al[.add][slF f Ci Bx[e]][t] (slF f Bx[Al .add e kI[1]] Bx[m]) Z) .str[Asm base a L c]:=by
 let h:(cut base 0 a).length=a:=by rw[Ik () ()];omega
 let q:(cut base (a+1) L).length=L - (a+1):=Ik () ()
 let p:Pu P (slF f Ci Bx[e] Z) .str[cut base 0 a]:=by
  refine Jv l Ek Dq[j] ?_;show Pu P (if base.length<=big then _ else bad) _
  rw[Aab ()]
  exact Fv (by rw[i];decide) Pu.pure
 let o:Pu P (slF f Bx[Al .add e kI[1]] Bx[m] Z) .str[cut[base][a+1][L]]:=by
  refine Jv l Dq[Ai j Ac Cm] Dq[r] ?_;show Pu P (if base.length<=big then _ else bad) _
  rw[show ((a:Int)+1)=((a+1:Nat):Int) by omega,Acw () ()]
  exact Fv (by rw[i];decide) Pu.pure
 refine Ai (Ai p s Bv[?_]) o Bv[?_]
 .rw[h];show a+1<=big;unfold big;omega
 .rw[len_app,h,q];show a+1+(L - (a+1))<=big;unfold big;omega
theorem Aw0{d:Nat}(hd:S[d]?=sr .dct[dk[a]])(c:a.length < 64)(q:Q[.ref S.length][S ++ [.lst[(Mt a).map W.str]]]):Wm Wl[[.ref d]] S Q:=(_,_,by
 unfold Wl;dsimp only;rw[hd];dsimp only;rw[di (by unfold dk;simp_all),Auo]
 dsimp only;unfold Ck;rw[di (by rw[aC,(Ft a).length_eq];unfold big;omega)],q)
def Aw1(i:Int)(hi:0<=i):∃L:Nat,atI [W.int 1,.int 12,.int[1+i / 5 % 12],.int 3,.int[2+i / 5 % 3]] (i % 5)=sr[.int (L:Int)]/\1<=L/\L<=12:=by
 let b:i % 5=0\/i % 5=1\/i % 5=2\/i % 5=3\/i % 5=4:=by omega
 rcases b with h|h|h|h|h <;> rw[h]
 .exact(1,rfl,by simp,by simp)
 .exact(12,rfl,by simp,by simp)
 .refine((1+i / 5 % 12).toNat,?_,(),())
  rw[cO ()];rfl
 .exact(3,rfl,by simp,())
 .refine((2+i / 5 % 3).toNat,?_,(),())
  rw[cO ()];rfl
def Aw2{f:Nat}(hm:f<=13)(h:S[n]?=sr[stD ns k])(h0:0<=k)(h1:k+20<=900000)(q:∀r b Y C,Fr [n] S C->C[n]?=sr[stD ns Y]->k<=Y->Y<=k+14->C[r]?=sr .lst[b.map[W.str]]->S.length<=r->b.length<=13->(∀z∈b,isKey z=t8)->Aad b->Q .ref[r] C):
  Wm Qc[[.ref n,.int (f:Int)]] S Q:=by
 refine Jo rfl ?_;refine Bw Ei[Av[Hy rfl h h0 () λo S1 f1 g1 hi0=>Av Gd[Bm[?_]]]]
 refine Ar (Ae4 (n:=o) (size:=12) ()) λx f2=>?_
 refine Bw Ba7[?_];let f3:Fr [n] S (x ++ [.dct []]):=(f1.then0 f2).then0 .app;let hb:(lawT o 12).length=12:=Ni o 12;let t:M2.Bs[lawT o 12]=t8:=Ae3 o 12;let hlen:S.length<=x.length:=(f1.then0 f2).len;let hnl:n < S.length:=Fj h;generalize lawT o 12=base at hb t;generalize hD:x.length=D;let hD2:(x ++ [Cell.dct []])[D]?=sr .dct[dk[[]]]:=by rw[<-hD];exact Ey
 let hN2:(x ++ [Cell.dct []])[n]?=sr stD[ns][k+1]:=Fr.app.at0 f2.at0[g1];refine Acb (P:=SP.any) (Gx (k:=f) (Aa Ad[rfl] Ae) (by unfold big;omega)) trivial λS3 f4=>?_
 refine Aa2 (J:=λi Z T=>∃N I H G F E b,Z=[sr .ref[n],sr[.int (f:Int)],sr .str[base],sr .ref[D],N,I,H,G,F,E]/\Fr [n] S T/\T[n]?=sr stD[ns][k+1+(i:Int)]/\T[D]?=sr .dct[dk[b]]/\b.length<=i/\b.Nodup/\∀z∈b,isKey z=t8) ?_ ?_ ?_
 .rintro i w Z T hw ⟨N,I,H,G,F,E,b,rfl,B,y,l,kl,U,kk⟩;let hi:i < f:=by
   have:=(aK.mp hw).1;rw[aC,bO] at this;exact this
  refine(_,rfl,?_);refine Bw[Hy rfl y () () λj T1 e1 gN hj=>?_]
  let(L,hL,L1,L2):=Aw1 j hj;refine Bw (Ar (a:=W.int (L:Int)) (Wd (Aa Ac (Aa Ac (Aa (Ai Ac (Ai (Ai Ad[rfl] Ac (Cv (j:=5) () ())) Ac (Cj (j:=12) ())) Cm) (Aa Ac (Aa (Ai Ac (Ai (Ai Ad[rfl] Ac (Cv (j:=5) () ())) Ac (Cj (j:=3) ())) Cm) Ae))))) (by show 5<=big;decide) (Ai Ad[rfl] Ac (Cj (j:=5) ())) hL) λT2 e2=>?_)
  obtain⟨A,hA,v⟩:∃A:Nat,j / 60 % (L:Int)=(A:Int)/\A < L:=by
   let z1:=gK (j / 60) (show (L:Int)≠0 by omega)
   let z2:=jN (j / 60) (show (0:Int) < L by omega)
   exact((j / 60 % (L:Int)).toNat,by rw[cO z1],())
  refine Bw (Ar (a:=W.int (A:Int)) ((Ai (Ai Ad[rfl] Ac (Cv (j:=60) () ())) Ad[rfl] (Cj (j:=(L:Int)) ())).cast (by rw[hA])) λT3 e3=>?_)
  refine Bw[Ar[Ag Ae Apu] λT4 e4=>?_];refine Bw (Ar (a:=W.str ⟨#[sgnN[j / 720 % 94]]⟩) (Be Ad[rfl] (Ai (Ai Ad[rfl] Ac (Cv (j:=720) () ())) (Pu.cast (a':=W.int 94) Ag[Aa Ad[rfl] Ae][len_str (by rw[Nh];decide)] (by rw[Nh];rfl)) (Cj (j:=94) ())) (Ba5 () ())) λT5 e5=>?_)
  let hok:M2.okC sgnN[j / 720 % 94]=t8:=Aul () ()
  generalize sgnN[j / 720 % 94]=c at hok;let(g,ek,kl',O,X):=Bk2 b (Asm base A L c);let s:n≠D:=by omega
  let fr:Fr [n] T T5:=e1.then0[((e2.then0 e3).then0 e4).then0 e5];let u:=fr.at1 l eG[s];refine Be9 (P:=SP.any) (d:=D) (kk:=.inr[Asm base A L c]) Ac Ad[rfl] (Bfx hb v L2 Ad[rfl] Ad[rfl] Ad[rfl] Ad[rfl]) trivial u rfl (by unfold dk big;rw[aC];omega) λT6 e6=>?_
  rw[ek];refine Jg (_,_,_,_,_,_,g,rfl,?_,?_,M3 ?_,(),O U,λz p=>?_)
  .exact(B.same fr.then0[e6]).trans Fr.set λi hi=>.inr (by rw[aR.mp hi];omega)
  .rw[cX eG[s]];have:=(((e2.then0 e3).then0 e4).then0 e5).then0 e6 |>.at0 gN;rw[this,show k+1+(i:Int)+1=k+1+((i+1:Nat):Int) by omega]
  .have:=e6.len;have:=Fj u;omega
  .rcases X z p with h|h
   .exact kk z h
   .rw[h];exact Bfw hb t v L2 hok
 .rintro Z T ⟨N,I,H,G,F,E,b,rfl,B,y,l,kl,U,kk⟩;rw[aC,bO] at y kl;refine Ef Ei[Av[Cd rfl Bm[Aw0 l () ?_]]]
  let hp:=Ft b;refine q T.length Mt[b] (k+1+(f:Int)) _ B.then0[.app] Fr.app.at0[y] () () Ey B.len (by rw[hp.length_eq];omega) (λz p=>kk z hp.mem_iff.mp[p]) Xh[U]
 .refine(_,_,_,_,_,_,[],rfl,f3.then0 f4,?_,f4.at0 hD2,aO _,.nil,λz p=>(nomatch p));rw[show k+1+((0:Nat):Int)=k+1 by omega]
  exact f4.at0 hN2
end
section
variable{ns:lg Int}{n d:Nat}{k:Int}
def Fits(size:Int)(w:W):Prop:=∃p:Pg,p.ok/\w=p.w/\(p.body.length:Int)<=size - 5
abbrev Apv(ns:lg Int)(n d:Nat)(k:Int)(S:Store)(R:W->Prop):W->Store->Prop:=λw S'=>∃k',Fr [n] S S'/\S'[n]?=sr[stD ns k']/\k<=k'/\k'<=k+d/\R w
def Aw3(i j:Int)(hi:0<=i)(c:0<=j):∃v,atI [W.int 4095,.int 0,.int 63,.int 64,.int[i % 4096]] (j % 5)=sr .int[v]/\Ec v 0=t8:=by
 let a:j % 5=0\/j % 5=1\/j % 5=2\/j % 5=3\/j % 5=4:=by omega
 rcases a with h|h|h|h|h <;> rw[h]
 .exact(4095,rfl,by rfl)
 .exact(0,rfl,by rfl)
 .exact(63,rfl,by rfl)
 .exact(64,rfl,by rfl)
 .refine(_,rfl,?_);unfold Ec;simp[dh];omega
def Bfy{g:Int}(h1:64<=g)(h:S[n]?=sr[stD ns k])(h0:0<=k)(hk:k+30<=900000)(s:∃H G F E D C B,Z=[sr .ref[n],H,G,F,E,D,C,B]):
  Wb (Am Bg[4][Dn 1 [0] (Nm Hn yA[kI[4]]) By[0] (λU=>pure t8) aB3]
  aC6) Z S (Sg b' Aca[Apv ns n 10 k S Fits[g]]):=by
 let(H,G,F,E,D,C,B,rfl):=s;refine Bw (Aub (P:=SP.any) (ws:=(eZ 4).map λ(k:Nat)=>W.int[(0:Int)+(k:Int)]) (Gx (k:=4) (Aa Ac Ae) ()) trivial λS1 L=>?_)
 refine Aog (J:=λi Z m T=>∃x l,Z=[x,sr .ref[n]]/\m=aEd W.int l/\l.length=i/\(∀v∈l,Ec v 0=t8)/\Fr [n] S T/\T[n]?=sr stD[ns][k+2 * (i:Int)]) ?_ ?_ (sy,[],rfl,rfl,rfl,λU h=>(nomatch h),L.of0,by rw[show k+2 * ((0:Nat):Int)=k by omega];exact L.at0 h)
 .rintro i w Z m T X ⟨x,l,rfl,rfl,p,f,y,r⟩;let hi:i < 4:=by
   have:=(aK.mp X).1;rw[aC,bO] at this;exact this
  refine(_,rfl,Jf[di rfl ▸ ?_]);refine Aja (Xr (Av (Gd (Av (Gd (Av (Gd (Av (Gd (Av (Lq (Hy rfl r () () λa Q q I ha=>Gd (Ar (Cj (j:=4096) ()) λO A=>Bm (by show 5<=big;decide,?_))))))))))))))
  let g3:(O ++ [Cell.lst [.int 4095,.int 0,.int 63,.int 64,.int[a % 4096]]])[n]?=sr stD[ns][k+2 * (i:Int)+1]:=Fr.app.at0 A.at0[I];let t:O.length≠n:=by
   have:=Fj A.at0[I];omega
  refine Lq (Hy rfl g3 () () λb T3 N g4 Y=>Gd (Ar (Cj (j:=5) ()) λT4 z=>?_))
  let(v,ev,s):=Aw3 a b ha Y;refine Ro z.at0[N.at1 Ey t] ev (by rw[aC,p];unfold big;omega,_,l ++ [v],rfl,by rw[dY];rfl,by rw[aU,p];rfl,?_,?_,?_)
  .intro u hu;rcases cU.mp hu with h|h
   .exact f u h
   .rw[aR.mp h];exact s
  .exact(y.same[((q.then0 A).then0 Fr.app).same N]).then0 z
  .rw[z.at0 g4,show k+2 * (i:Int)+1+1=k+2 * ((i+1:Nat):Int) by omega]
 .rintro Z m T ⟨x,l,rfl,rfl,p,f,y,r⟩;rw[aC,bO] at p r;refine(by rw[aC,p];decide,?_)
  let hA:(T ++ [Cell.lst l.map[W.int]])[T.length]?=sr .lst[l.map[W.int]]:=Ey;refine Ef Lq[Ar[Cu (Aa Ac Ae) ()] λQ q=>Ei Av[Cd rfl Bm[Kw q.at0[hA] ?_]]]
  obtain⟨a,b,c,d,rfl⟩:∃a b c d,l=[a,b,c,d]:=by
   match l,p with
   |[a,b,c,d],_=>exact(a,b,c,d,rfl)
  refine(Pg.w[.head a b c d],Q,rfl,k+8,(y.then0 .app).then0 q,q.at0 Fr.app.at0[r],(),(),.head a b c d,?_,rfl,?_)
  .exact(f a (by simp),f b (by simp),f c (by simp),f d (by simp))
  .show ((Cg [a,b,c,d]).length:Int)<=g - 5;rw[Dk];show ((2 * 4:Nat):Int)<=_;omega
end
theorem Acx{b d:Type}(f:b->d):∀(l:lg b)(i:Nat),(l.map f).eraseIdx i=(l.eraseIdx i).map f
 |[],_=>rfl
 |_::_,0=>rfl
 |a::l,i+1=>by
  rw[bL,tW,tW,bL,Acx f l i]
structure Rows(rs:List (t6×Cl)):Prop where
 len:rs.length<=13
 ok:∀r∈rs,isKey r.1=t8/\r.2.ok=t8
 rise:Aad (rs.map (·.1))
theorem Rows.rowsOk(h:Rows rs):rowsOk rs:=(aD h.len (by simp),h.ok,Abl h.rise)
theorem Rows.erase(h:Rows rs)(i:Nat):Rows rs.eraseIdx[i] where
 len:=aD (by rw[pM];split <;> omega) h.len
 ok:=λr a=>h.ok r sY[a]
 rise:=h.rise.sublist[(vA rs i).map _]
def Apw{b:Type}{l:lg b}{i:Nat}(h:i < l.length):(l.eraseIdx i).length < l.length:=by grind
def Bk3{m:Nat}{i:Int}(c:0<=i)(h:i < m):ixN m i=sr i.toNat:=by
 unfold ixN;simp_all
section
variable{ns:lg Int}{n d r:Nat}{k:Int}
def Abm{i:Nat}(e:∀S,P.p S->AtL r a S)(b:Z[i]?=sr sr[.ref[r]]):Pu P (Dm Ed yA[Ab[i]] Z) .tup[a]:=(
 Ag[Aa Ad[b] Ae] λS c=>([],by
  unfold Ed;dsimp only;rw[e S c,bC]))
def Apx{i:Nat}(e:∀S,P.p S->AtL r a S)(b:Z[i]?=sr sr[.ref[r]]):Pu P (Dm Cq yA[Ab[i]] Z) .int[a.length]:=(
 Ag[Aa Ad[b] Ae] λS c=>([],by
  unfold Cq;dsimp only;rw[e S c,bC]))
def Aup{h e:Nat}{a:Int}(i:S[r]?=sr .lst[b])(v:Z[h]?=sr sr[.int[a]])(m:Z[e]?=sr sr[.ref[r]])(u:b.length<=big)(z:0 < b.length)(q:∀j w s,Fr [] S s->j < b.length->Q w (s.set r .lst[b.eraseIdx[j]])):Wm (Ir .lst Rb Ab[e] yA[Al[.mod][Ab[h]][zA Cq Ab[e]]] Z) S Q:=by
 refine Aez (P:=SP.any) Ad[m] trivial i λA p=>?_;let c:=p.at0 i;let l:0 < (b.length:Int):=by omega
 let t:=jN a l;refine Av Lq[Cd v ?_];refine Ei Av[Cd m Bm[At6 c ?_]];refine Ar Cj[l] λx o=>Bm ?_;obtain⟨w,f⟩:∃w,b[(a % b.length).toNat]?=_:=(_,aZ ())
 exact Bai o.at0[c] u Bk3[gK a ()][t] f (q _ w x p.then0[o] ())
def Bfz{b t:Int}(h1:64<=b)(h2:b<=200)(hn:0<=t){k0:Int}(f0:Fr [n] S0 S)(h:S[n]?=sr[stD ns k])(h0:0<=k)(hk0:k0<=k)(hkd:k<=k0+15)(hk:k+30<=900000)(g:S[r]?=sr .lst[e.map[W.str]])(hrl:S0.length<=r)(kl:e.length<=13)(kk:∀z∈e,isKey z=t8)(kr:Aad e)(hv:∃H G F O,Z=[sr .ref[n],sr .int[b],sr .int[t],H,G,F,sr .ref[r],O])(hn0:n < S0.length):
  Wb (Am Bg[7][Dn 1 [1,0] Eo[Ab[6]] By[0] (λB=>pure t8) Df[yB[Ab 0][zB N8 Ab[2] Ab[1]]]]
  aA5) Z S (Sg b' Aca[Apv ns n 30 k0 S0 Fits[b]]):=by
 let(H,G,F,O,rfl):=hv;let I:r≠n:=by omega
 refine Bw (Bak (P:=SP.any.at r e.map[W.str]) Wu[λB h=>h.2][Ad rfl] (trivial,g) g λS1 f1=>?_);refine Ace (gt:=liG r) (ws:=e.map W.str) (J:=λi Z o T=>∃x rs q,Z=[x,sr .int[b],sr .ref[n]]/\o=aEd K7 rs/\rs.map (·.1)=e.take i/\(∀r∈rs,r.2.ok=t8)/\Fr [n] S T/\T[n]?=sr[stD ns q]/\k<=q/\q<=k+i) ?_ ?_ ?_ _ 0 _ [] S1 ?_ cY[_] ()
 .rintro i Z o T ⟨x,rs,q,_,_,_,_,u,_⟩;unfold liG;rw[u.at1 g I]
 .rintro i w Z o T Y ⟨x,rs,q,rfl,rfl,f,l,u,E,q1,Q⟩;rw[cH] at Y;let(z,X,rfl):=bF.mp Y;let hi:i < e.length:=(aK.mp X).1;refine(_,rfl,Jf[di rfl ▸ ?_]);refine Hg Av[Cd rfl Av[?_]];refine Ei Av[Cd rfl Av[Cd rfl Bm[?_]]];refine Bn6 (Bfu h1 h2) E () () λc k2 T2 g1 g2 g3 g4 hcl=>?_
  let(cl,C,ec):=hcl;refine Bm (by show 2<=big;decide,?_)
  subst ec;let v:rs.length=i:=by
   have:=congrArg nU f;rw[aC,dO] at this;omega
  refine(by rw[aC,v];unfold big;omega,_,rs ++ [(z,cl)],k2,rfl,by rw[dY];rfl,?_,?_,u.same g1,g2,(),())
  .rw[dY,f,bL,lK,List.take_add_one,X];rfl
  .intro r g;rcases cU.mp g with h|h
   .exact l r h
   .rw[aR.mp h];exact C
 .rintro Z o T ⟨x,rs,q,rfl,rfl,f,l,u,E,q1,Q⟩;rw[aC] at f Q;rw[tG] at f;let v:rs.length=e.length:=by rw[<-f,aC]
  refine(by rw[aC];unfold big;omega,?_)
  let s:Rows rs:=((),λr g=>(kk r.1 (f ▸ bU.mpr (r,g,rfl)),l r g),f ▸ kr)
  let hn2:n < T.length:=Fj E;refine Aof (fuel:=fuel) (m:=rs.length) (J:=λm Z U=>∃rs,Z=[sr .ref[n],sr .int[b],sr .int[t],H,G,F,sr .ref[r],sr .ref[T.length]]/\m=rs.length/\Rows rs/\U[T.length]?=sr .lst[rs.map[K7]]/\Fr [n] S U/\U[n]?=sr[stD ns q]) (rs,rfl,rfl,s,Ey,u.then0 .app,Fr.app.at0 E) (by unfold fuel;omega) ?_
  rintro m Z U ⟨rs,rfl,rfl,s,D,fU,hN⟩;let hok:Pg.ok .leaf[rs]:=s.rowsOk;let L:(Pg.leaf rs).body.length<=big:=by
   show (M1.Ce 1 rs.length ++ jn rs.map[Hc]).length<=big;have:=Ajt (ys:=rs.map Hc) (c:=78) (n:=13) (λy hy=>by
    let(r,g,rfl):=bU.mp hy;exact Apl (s.ok r g).1 (s.ok r g).2) (by rw[aC];exact s.len)
   rw[len_app,Bc];unfold big;omega
  refine Js (P:=SP.any.at T.length rs.map[K7]) (a:=decide[b - 5 < ((Pg.leaf rs).body.length:Int)]) Af[Aj[Ag Aa[Ag Aa[Cu Aa[Ac][Aa Abm[λB h=>h.2][rfl] Ae] (by show 2<=big;decide)][Ae] Ahn[hok]][Ae] len_str[L]][Ai Ad[rfl] Ac Gw][Qo]] (trivial,D) λU1 f=>?_
  by_cases C:b - 5 < ((Pg.leaf rs).body.length:Int)
  .rw[di dj[C]];let A:0 < (rs.map K7).length:=by
    rw[aC];rcases lO rs.length with z|z
    .have:rs=[]:=tX.mp z;subst this;have:((Pg.leaf []).body.length:Int)=1:=rfl;omega
    .exact z
   refine Aa1 (Aup f.at0[D] rfl rfl (by rw[aC];have:=s.len;unfold big;omega) A λj w U2 l hj=>?_)
   rw[aC] at hj;refine Jg (_,Apw hj,rs.eraseIdx j,rfl,rfl,s.erase j,?_,?_,?_)
   .rw[Acx];exact M3 (by have:=Fj l.at0[f.at0[D]];omega)
   .exact(fU.then0 f.then0[l]).trans Fr.set λi hi=>.inr (by rw[aR.mp hi];exact u.len)
   .rw[cX ()]
    exact l.at0 f.at0[hN]
  .rw[dm (by rw[dq C];exact cC)]
   refine Ef (Js (P:=SP.any.at T.length rs.map[K7]) (Cu Aa[Ac][Aa Abm[λB h=>h.2][rfl] Ae] (by show 2<=big;decide)) (trivial,f.at0 D) λU2 l=>?_)
   exact(q,f0.same[(fU.then0 f).then0 l],l.at0 f.at0[hN],(),(),.leaf rs,hok,rfl,())
 .exact(sy,[],k,rfl,rfl,rfl,λB h=>(nomatch h),f1.of0,f1.at0 h,(),())
end
structure Ba8(ks:List t6):Prop where
 len:ks.length<=13
 ok:∀z∈ks,isKey z=t8
 rise:Aad ks
theorem Ba8.erase(h:Ba8 a)(i:Nat):Ba8 a.eraseIdx[i] where
 len:=aD (by rw[pM];split <;> omega) h.len
 ok:=λr b=>h.ok r sY[b]
 rise:=h.rise.sublist[vA a i]
def Aae(ks:lg t6):Int:=(ks.map λz=>1+(z.length:Int)).sum
theorem Apy:∀a:lg t6,((jn a.map[Dh]).length:Int)=Aae a
 |[]=>rfl
 |z::a=>by
  let b:=Apy a;unfold Aae at b ⊢
  rw[bL,bL,Ij,len_app,nF,<-b];unfold Dh;rw[len_app];rfl
def Ba9(c:lg t6)(ps:lg Int)(h:ps.length=c.length+1):((Pg.fork c ps).body.length:Int)=1+Aae c+2 * (c.length:Int)+2:=by
 show ((_ ++ Cg ps).length:Int)=_;rw[len_app,len_app,Bc,Dk,h,<-Apy];rfl
def Bba{i:Int}(h0:0<=i)(h1:i<=1000000):small i=t8:=Ajy h0 h1
section
variable{ns:lg Int}{n d r:Nat}{k:Int}
def Aw4{i:Nat}(c:∀S,P.p S->AtL r b.map[W.str] S)(g:Z[i]?=sr sr[.ref[r]])(j:b.length<=big)(l:∀z∈b,isKey z=t8):
  Pu P (Dm Ak2 yA[Dn 1 [] Eo[Ab[i]] By[0] (λa=>pure t8) Al[.add][kI[1]][zA Cq Ab[0]]] Z) .int[Aae[b]]:=by
 refine Az9 ?_;let h:=Wt (t:=λa=>pure t8) (e:=Al _ kI[1] (zA Cq Ab[0])) (k:=1) (cap:=[]) (src:=Eo _) c
  (Wu c Ad[g]) Mi (λz f=>(Pu.pure,λa=>Ai Ac Ag[Aa Ad[rfl] Ae][len_str Aue[l z f]] Cm)) (sy,rfl) j
 rw[eQ.mpr[λa a=>rfl]] at h;rw[bW];exact h
def Bf0{e l:Int}(h1:64<=e)(h2:e<=200)(hn:0<=l){k0:Int}(f0:Fr [n] S0 S)(h:S[n]?=sr[stD ns k])(h0:0<=k)(hk0:k0<=k)(hkd:k<=k0+15)(hk:k+30<=900000)(hr:S[r]?=sr .lst[f.map[W.str]])(O:S0.length<=r)(hK:Ba8 f)(hv:∃L I H G,Z=[sr .ref[n],sr .int[e],sr .int[l],L,I,H,sr .ref[r],G])(hn0:n < S0.length):
  Wb (Am (Mv tQ[.Gt][Al .add Al[.add][Al .add kI[1] zA[Ak2][Dn 1 [] Eo[Ab[6]] By[0] (λy=>pure t8) Al[.add][kI[1]][zA Cq Ab[0]]]][Al[.mul][kI[2]][zA Cq Ab[6]]] kI[2]][Al .sub Ab[1] kI[5]] aB9 fuel)
 (rQ Df[yC[kS["fork"]][zA Ed Ab[6]][zA[Ed][Dn 1 [0] (Nm Hn yA[Al[.add][zA Cq Ab[6]][kI[1]]]) By[0] (λy=>pure t8) aC5]]])) Z S Aca[Apv ns n 30 k0 S0 Fits[e]]:=by
 let(L,I,H,G,rfl):=hv;let Q:r≠n:=by omega
 refine Aof (fuel:=fuel) (m:=f.length) (J:=λm Z U=>∃c,Z=[sr .ref[n],sr .int[e],sr .int[l],L,I,H,sr .ref[r],G]/\m=c.length/\Ba8 c/\U[r]?=sr .lst[c.map[W.str]]/\Fr [n] S0 U/\U[n]?=sr[stD ns k]) (f,rfl,rfl,hK,hr,f0,h) (by have:=hK.len;unfold fuel;omega) ?_
 rintro m Z U ⟨c,rfl,rfl,hK,E,fU,hN⟩;let kl:=hK.len;let N:small ((c.length:Nat):Int)=t8:=Bba () ()
 let C:((c.map W.str).length:Int)=(c.length:Int):=by rw[aC]
 refine Js (P:=SP.any.at r c.map[W.str]) (a:=decide[e - 5 < 1+Aae c+2 * (c.length:Int)+2]) (Af ((Aj (Ai (Ai Ai[Ac][Aw4 (λy h=>h.2) rfl (by unfold big;omega) hK.ok][Cm] (Ai Ac (Pu.cast (a':=W.int (c.length:Int)) Apx[λy h=>h.2][rfl] (by rw[C])) Je[by rw[N,lM]]) Cm) Ac Cm) (Ai Ad[rfl] Ac Gw) Qo))) (trivial,E) λU1 t=>?_
 by_cases hc:e - 5 < 1+Aae c+2 * (c.length:Int)+2
 .rw[di dj[hc]];let B:0 < (c.map W.str).length:=by
   rw[aC];rcases lO c.length with z|z
   .have:c=[]:=tX.mp z;subst this;have:Aae []=0:=rfl;have:(([]:lg t6).length:Int)=0:=rfl;omega
   .exact z
  refine Aa1[Aup t.at0[E] rfl rfl (by rw[aC];unfold big;omega) B λj w U2 s Y=>?_]
  rw[aC] at Y;refine Jg (_,Apw Y,c.eraseIdx j,rfl,rfl,hK.erase j,?_,?_,?_)
  .rw[Acx];exact M3 (by have:=Fj s.at0[t.at0[E]];omega)
  .exact(fU.then0 t.then0[s]).trans Fr.set λi hi=>.inr (by rw[aR.mp hi];exact O)
  .rw[cX Q];exact s.at0 t.at0[hN]
 .rw[dm (by rw[dq hc];exact cC)]
  let D:=t.at0 E;refine Ef Hg[Av[Gd[Av[?_]]]];refine Js (P:=SP.any.at r c.map[W.str]) Abm[λy h=>h.2][rfl] (trivial,D) λU2 s=>?_;refine Av Ei[Av[?_]];refine Aub (P:=SP.any.at r c.map[W.str]) (ws:=(eZ[c.length+1]).map λ(k:Nat)=>W.int[(0:Int)+(k:Int)]) (Gx (k:=c.length+1) Aa[Pu.cast (Ai Apx[λy h=>h.2][rfl] Ac Cm) (by rw[C];rfl)][Ae] (by unfold big;omega)) (trivial,s.at0 D) λU3 e3=>?_
  let f3:Fr [n] S0 U3:=((fU.then0 t).then0 s).then0 e3;refine Aog (J:=λi Z v T=>∃x ps,Z=[x,sr .ref[n]]/\v=aEd W.int ps/\ps.length=i/\(∀p∈ps,Ec p 1=t8)/\Fr [n] S0 T/\T[n]?=sr stD[ns][k+(i:Int)]) ?_ ?_ (sy,[],rfl,rfl,rfl,λy h=>(nomatch h),f3,by rw[show k+((0:Nat):Int)=k by omega];exact e3.at0 s.at0[t.at0[hN]])
  .rintro i w Z v T hw ⟨x,ps,rfl,rfl,q,o,X,F⟩;let hi:i < c.length+1:=by
    have:=(aK.mp hw).1;rw[aC,bO] at this;exact this
   refine(_,rfl,Jf[di rfl ▸ ?_]);refine Lq Gd[Lq[?_]];refine Hy rfl F () () λa T1 g1 g2 ha=>Gd ?_
   refine Ar (Cj (j:=4095) ()) λT2 g3=>Ar Cm λT3 g4=>?_
   refine(by rw[aC,q];unfold big;omega,_,ps ++ [1+a % 4095],rfl,by rw[dY];rfl,by rw[aU,q];rfl,?_,?_,?_)
   .intro u hu;rcases cU.mp hu with h|h
    .exact o u h
    .rw[aR.mp h];unfold Ec;simp only[aB,dh];omega
   .exact(X.same g1).then0 g3.then0[g4]
   .rw[g4.at0 g3.at0[g2],show k+(i:Int)+1=k+((i+1:Nat):Int) by omega]
  .rintro Z v T ⟨x,ps,rfl,rfl,q,o,X,F⟩;rw[aC,bO] at q F;refine(by rw[aC,q];unfold big;omega,Bm Kw[Ey][Bm (by show 3<=big;decide,?_)])
   refine(k+((c.length+1:Nat):Int),X.then0 .app,Fr.app.at0 F,(),(),.fork c ps,(((),hK.ok,Abl hK.rise),q,o),rfl,?_)
   rw[Ba9 c ps q];omega
end
section
variable{ns:lg Int}{n d r:Nat}{k:Int}
def Aw5(i:Int)(hi:0<=i):∃v,atI [W.int 0,.int 1,.int 4095,.int[i / 7 % 4096]] (i / 7 % 4)=sr .int[v]/\Ec v 0=t8:=by
 let a:i / 7 % 4=0\/i / 7 % 4=1\/i / 7 % 4=2\/i / 7 % 4=3:=by omega
 rcases a with h|h|h|h <;> rw[h]
 .exact(0,rfl,by rfl)
 .exact(1,rfl,by rfl)
 .exact(4095,rfl,by rfl)
 .refine(_,rfl,?_);unfold Ec;simp[dh];omega
def Bbb(i a:Int)(hi:0<=i)(l:64<=a)(j:a<=200):∃L:Nat,atI [W.int 1,.int[a - 7],.int[1+i / 7 % (a - 7)]] (i / 7 % 3)=sr[.int (L:Int)]/\1<=L/\(L:Int)<=a - 7:=by
 let c:i / 7 % 3=0\/i / 7 % 3=1\/i / 7 % 3=2:=by omega
 let g:=gK (i / 7) (show a - 7≠0 by omega)
 let f:=jN (i / 7) (show 0 < a - 7 by omega)
 rcases c with h|h|h <;> rw[h]
 .exact(1,rfl,by simp,())
 .refine((a - 7).toNat,?_,(),())
  rw[cO ()];rfl
 .refine((1+i / 7 % (a - 7)).toNat,?_,(),())
  rw[cO ()];rfl
def Aw6(i:Int)(hi:0<=i):∃v,atI [W.int 0,.int[i / 21 % 4096]] (i / 7 % 2)=sr .int[v]/\Ec v 0=t8:=by
 let a:i / 7 % 2=0\/i / 7 % 2=1:=by omega
 rcases a with h|h <;> rw[h]
 .exact(0,rfl,by rfl)
 .refine(_,rfl,?_);unfold Ec;simp[dh];omega
def Bf1{b:Int}(N:64<=b)(U:b<=200)(h:S[n]?=sr[stD ns k])(h0:0<=k)(hk:k+100<=900000)(q:∀w S',Apv ns n 31 k S Fits[b] w S'->Q w S'):Wm Vi[[.ref n,.int b]] S Q:=by
 refine Dw (Q:=Apv ns n 31 k S Fits[b]) ?_ q;let x:n < S.length:=Fj h;refine Jo rfl ?_;refine Bw[Hy rfl h h0 () λi S1 f1 g1 hi=>?_]
 refine Bw (Ar (a:=W.int[i % 7]) (Ai Ad[rfl] Ac (Cj (j:=7) ())) λS2 f2=>?_)
 let C:Fr [n] S S2:=f1.then0 f2;let g2:=f2.at0 g1;let g:∀{T:Store} {c:Int} {K:Bool->Store->Prop} {Z:De},Z[3]?=sr sr[.int[i % 7]]->(∀T',Fr [] T T'->K (i % 7==c) T')->Wm Dp[Dz .Eq Ab[3] kI[c]][Z] T K:=λt k=>Ar Af[Aj Ad[t] Ac Lp] k;let f:∀{c:Int},(i % 7==c)=decide[i % 7=c]:=λ{c}=>by
  by_cases J:i % 7=c
  .rw[dj J,J];exact beq_self_eq_true c
  .rw[dq J];exact beq_eq_false_iff_ne.mpr J
 by_cases c0:i % 7=0
 .refine Fp[g rfl λS3 E=>(by rw[f];exact dj c0,?_)]
  refine At9[Bfy N E.at0[g2] () () (_,_,_,_,_,_,_,rfl)] λw T ⟨o,e1,e2,e3,e4,e5⟩=>(o,(C.then0 E).same e1,e2,(),(),e5)
 refine Dt[g rfl λS3 E=>(by rw[f];exact dq c0,?_)]
 let B:=C.then0 E;let g3:=E.at0 g2;by_cases c1:i % 7=1
 .refine Fp[g rfl λS4 D=>(by rw[f];exact dj c1,?_)]
  let(v,ev,t):=Aw5 i hi;refine Ef (Ar (a:=Pg.w .free[v]) (Cu (Aa Ac (Aa (Wd (Aa Ac (Aa Ac (Aa Ac (Aa (Ai (Ai Ad[rfl] Ac (Cv (j:=7) () ())) Ac (Cj (j:=4096) ())) Ae)))) (by show 4<=big;decide) (Ai (Ai Ad[rfl] Ac (Cv (j:=7) () ())) Ac (Cj (j:=4) ())) ev) Ae)) (by show 2<=big;decide)) λS5 l=>?_)
  refine(k+1,(B.then0 D).then0 l,l.at0 D.at0[g3],(),(),.free v,t,rfl,?_)
  show ((Cg [v]).length:Int)<=b - 5;rw[Dk];show ((2 * 1:Nat):Int)<=_;omega
 refine Dt[g rfl λS4 D=>(by rw[f];exact dq c1,?_)]
 let A:=B.then0 D;let g4:=D.at0 g3;by_cases c2:i % 7=2
 .refine Fp[g rfl λS5 l=>(by rw[f];exact dj c2,?_)]
  let(L,eL,L1,L2):=Bbb i b hi N U;let(v,ev,t):=Aw6 i hi;refine Bw (Ar (a:=W.int (L:Int)) (Wd (Aa Ac (Aa (Ai Ad[rfl] Ac Gw) (Aa (Ai Ac (Ai (Ai Ad[rfl] Ac (Cv (j:=7) () ())) (Ai Ad[rfl] Ac Gw) (Cj (j:=b - 7) ())) Cm) Ae))) (by show 3<=big;decide) (Ai (Ai Ad[rfl] Ac (Cv (j:=7) () ())) Ac (Cj (j:=3) ())) eL) λS6 s=>?_)
  refine Ef (Ar (a:=Pg.w .rest[lawT i L][v]) (Cu (Aa Ac (Aa Ag[Aa[Ad rfl][Aa Ad[rfl] Ae]][Ae4 ()] (Aa (Wd (Aa Ac (Aa (Ai (Ai Ad[rfl] Ac (Cv (j:=21) () ())) Ac (Cj (j:=4096) ())) Ae)) (by show 2<=big;decide) (Ai (Ai Ad[rfl] Ac (Cv (j:=7) () ())) Ac (Cj (j:=2) ())) ev) Ae))) (by show 3<=big;decide)) λS7 O=>?_)
  refine(k+1,((A.then0 l).then0 s).then0 O,O.at0 s.at0[l.at0[g4]],(),(),.rest (lawT i L) v,(Ae3 i L,by rw[Ni];exact L1,by rw[Ni];omega,t),rfl,?_)
  show ((Cg [v] ++ lawT i L).length:Int)<=b - 5;rw[len_app,Dk,Ni];show ((2 * 1+L:Nat):Int)<=_;omega
 refine Dt[g rfl λS5 l=>(by rw[f];exact dq c2,?_)]
 let z:=A.then0 l;let g5:=l.at0 g4;obtain⟨m,em,hm⟩:∃m:Nat,i / 7 % 14=(m:Int)/\m<=13:=((i / 7 % 14).toNat,(),())
 refine Bw (Ei (Av (Cd rfl (Av (Ar (a:=W.int (m:Int)) ((Ai (Ai Ad[rfl] Ac (Cv (j:=7) () ())) Ac (Cj (j:=14) ())).cast (by rw[em])) λS6 s=>Bm[Aw2 hm s.at0[g5] () () λr keys o S7 O g7 q1 q2 hr hrl Y kk X=>?_])))))
 let y:Fr [n] S S7:=(z.then0 s).same O;let u:S.length<=r:=by
  have:=(z.then0 s).len;omega
 refine Arp (Ar (a:=decide[i % 7 < 5]) Af[Aj Ad[rfl] Ac Age] λS8 p=>?_);by_cases c3:i % 7 < 5
 .rw[di dj[c3]];exact At9 (Bfz N U hi (k0:=k) y.then0[p] p.at0[g7] () () () () p.at0[hr] u Y kk X (_,_,_,_,rfl) x) λw T ⟨o,e1,e2,e3,e4,e5⟩=>(o,e1,e2,e3,(),e5)
 .rw[dm (by rw[dq c3];exact cC)]
  refine Jg ?_;exact Baj (Bf0 N U hi (k0:=k) y.then0[p] p.at0[g7] () () () () p.at0[hr] u (Y,kk,X) (_,_,_,_,rfl) x) λw T ⟨o,e1,e2,e3,e4,e5⟩=>(o,e1,e2,e3,(),e5)
end
def Wx{α:Type}(m:M α)(S:Store)(Q:α->Store->Prop)(E:Store->Prop):Prop:=Wm m S Q\/∃S',m S=.exc (u6 2 .non) S'/\E S'
section
variable{α β:Type}{m:M α}{f:α->M β}{S:Store}{Q Q2:α->Store->Prop}{Q':β->Store->Prop}{E E2:Store->Prop}{Z:De}{b b' b2:MS}{K:RS->Prop}{i:Nat}{g:De->M W}{t:De->M Bool}
def Fo(h:Wx m S (λa k=>Wx f[a] k Q' E) E):Wx (m >>= f) S Q' E:=by
 rcases h with ⟨a,d,e,h⟩|⟨d,e,h⟩
 .rcases h with ⟨b,c,j,q⟩|⟨c,j,q⟩
  .exact .inl (b,c,by rw[Bk,e];omega,q)
  .exact .inr (c,by rw[Bk,e];omega,q)
 .exact .inr (d,by rw[Bk,e],h)
def Pn(h:Wx m S Q E)(k:∀a S',Q a S'->Q2 a S')(k2:∀S',E S'->E2 S'):Wx m S Q2 E2:=h.imp (Dw · k) λ⟨S',e,z⟩=>(S',e,k2 S' z)
def Bk4(h:PuX P m (u6 2 .non))(c:P.p S)(k:∀a,Fr [] S a->E a):Wx m S Q E:=by
 let(G,e):=h S c;exact .inr (_,e,k _ .app)
def Fy{d:De->M lg[W]}{Q:lg W->Store->Prop}(h:Wx g[Z] S (λw k=>Wx d[Z] k (λe j=>Q (w::e) j) E) E):Wx (Eu g d Z) S Q E:=(
 Fo[Pn h (λa a h=>Fo[Pn h (λa a q=>.inl Jf[q]) λa z=>z]) λa z=>z])
def Ahq{c:De->M lg[W]}{Q:W->Store->Prop}(h:Wx c[Z] S (λa d=>a.length<=big/\Q .tup[a] d) E):Wx (Df c Z) S Q E:=(
 Fo[Pn h (λa d ⟨hl,q⟩=>.inl (_,_,by unfold Akx;rw[di hl];rfl,q)) λk z=>z])
def Bpx(Q:W->Store->Prop)(E:Store->Prop):RS->Prop
 |.rt w S=>Q w S
 |.nx _ S=>Q .non S
 |.ex c _ S=>c=(u6 2 .non)/\E S
 |_=>False
def Ahr{k n:Nat}{a:lg W}{Q:W->Store->Prop}(j:a.length=k)(h:Wb b (Bl n a) S (Bpx Q E)):Wx (Cp k n b a) S Q E:=by
 let h:=h.un;unfold Wx Wm Cp;rw[di j];revert h;cases b _ S with
 |nx Z d=>exact λh=>.inl (_,_,rfl,h)
 |rt w d=>exact λh=>.inl (_,_,rfl,h)
 |ex c _ d=>exact λh=>.inr (d,by rw[h.1],h.2)
 |bk _ _=>exact λh=>h.elim
 |ct _ _=>exact λh=>h.elim
 |bad=>exact λh=>h.elim
def Apz{k:α->MS}(h:Wx m S (λa c=>K[k a Z c]) λc=>K .ex[u6 2 .non][Z][c]):K[Ez m k Z S]:=by
 unfold Ez;rcases h with ⟨a,c,e,q⟩|⟨c,e,q⟩ <;> (simp_all)
def Amk(h:Wx g[Z] S (λw S'=>Wb b' (Z.set i sr[w]) S' K) λS'=>K .ex[u6 2 .non][Z][S']):Wb Am[Bg i g][b'] Z S K:=Lr ⟨Apz h⟩
def Lb(h:Wx g[Z] S (λw S'=>K[.rt w S']) λS'=>K .ex[u6 2 .non][Z][S']):Wb (Am retS[g] b') Z S K:=Lr ⟨Apz h⟩
end
def rdr(B:t6)(k:Nat):Cell:=.ins 4 [("body",.str B),("place",.int (k:Int))]
abbrev Rg(γ:Type):=lg Nat->o9[γ×lg Nat]
def Rf{γ:Type}(n:Nat)(m:M W)(r:Rg γ)(φ:γ->W):Prop:=∀(B:t6)(k:Nat)(S:Store),B.length<=400->S[n]?=sr[rdr B k]->
 Wx m S (λw S'=>∃c k',r B.cps.toList.drop[k]=sr[u6 c B.cps.toList.drop[k']]/\w=φ c/\S'[n]?=sr[rdr B k']/\Fr [n] S S') λS'=>r B.cps.toList.drop[k]=sy/\Fr [n] S S'
def toS(l:lg Nat):t6:=⟨l.toArray⟩
def Acy(z:t6)(i m:Nat):fQ[z][sr (i:Int)][sr ((i+m:Nat):Int)]=toS[(z.cps.toList.drop i).take m]:=by
 let c:z.cps.toList.length=z.length:=aV;let e:fC (sr (i:Int)) (sr ((i+m:Nat):Int)) 1 z.length=fC (sr ((min i z.length:Nat):Int)) (sr ((min (i+m) z.length:Nat):Int)) 1 z.length:=by
  unfold fC
  grind
 let d:fQ[z][sr (i:Int)][sr ((i+m:Nat):Int)]=fQ[z][sr ((min i z.length:Nat):Int)][sr ((min (i+m) z.length:Nat):Int)]:=by
  unfold fQ;rw[e]
 rw[d,Acw () ()]
 unfold cut toS
 congr 2
 rcases oF i z.length with h|h
 .rw[aAl fH[h]];rcases oF (i+m) z.length with h2|h2
  .rw[aAl fH[h2],tY]
  .rw[zU h2,jC (by rw[bM,c];exact aO _),jC (by rw[bM,c];omega)]
 .rw[fW (by rw[c,zU h];exact aO _),fW (by rw[c];exact h),aCk,aCk]
def bindR{γ γ':Type}(r:Rg γ)(s:γ->Rg γ'):Rg γ':=λl=>match r l with
 |none=>sy
 |some (c,l1)=>s c l1
def rep{γ:Type}(r:Rg γ):Nat->Rg lg[γ]
 |0=>λl=>sr (u6 [] l)
 |k+1=>bindR r λc=>bindR[rep r k] λcs l=>sr[u6 (c::cs) l]
def rS(m:Nat):Rg t6:=λl=>sr[u6 toS[l.take[m]] l.drop[m]]
def rN(m:Nat):Rg Int:=λl=>if wrB toS[l.take[m]] then sr[u6 Awx[toS[l.take[m]]] l.drop[m]] else sy
def rKey:Rg t6:=bindR rN[1] λi=>rS i.toNat
def Bn7:lg Int->Rg Cl
 |[a,b]=>λl=>sr u6[.out a b][l]
 |_=>λuu=>sy
def Ss:Rg Cl:=λl=>if toS l.take[1]="i" then bindR rKey (λt l=>sr[u6 .inn[t] l]) l.drop[1] else bindR (rep rN[2] 2) Bn7 l.drop[1]
def Aml:Rg[t6×Cl]:=bindR rKey λk=>bindR Ss λc l=>sr u6[u6 k c][l]
section
variable{γ γ':Type}{n k:Nat}{r:Rg γ}{φ:γ->W}
def Rf.use(h:Rf n m r φ)(l:B.length<=400)(j:S[n]?=sr[rdr B k])(q:∀c i g,r B.cps.toList.drop[k]=sr[u6 c B.cps.toList.drop[i]]->g[n]?=sr[rdr B i]->Fr [n] S g->Q φ[c] g)(e:∀g,r B.cps.toList.drop[k]=sy->Fr [n] S g->E g):Wx m S Q E:=(
 Pn (h B k S l j) (λw g ⟨c,i,a,b,d,f⟩=>by subst b;exact q c i g a d f) λg ⟨a,b⟩=>e g a b)
def Acz{j:Nat}(h:Z[j]?=sr sr[w]):Ab j Z S=.ok w S:=by unfold Ab;rw[h];rfl
def Abn{j:Nat}(h:Z[j]?=sr sr[.ref[n]]):Pu[Ahp P n (rdr B k)][Ak7 fld "place" Ab[j] Z][.int (k:Int)]:=(λS a=>([],by
 unfold Ak7;rw[Bk,Acz h];unfold Afz;dsimp only;rw[a.2,bC];rfl))
def Auq{j:Nat}(h:Z[j]?=sr sr[.ref[n]]):Pu[Ahp P n (rdr B k)][Ak7 fld "body" Ab[j] Z][.str B]:=(λS a=>([],by
 unfold Ak7;rw[Bk,Acz h];unfold Afz;dsimp only;rw[a.2,bC];rfl))
def Ap0{k':Nat}{h:De->M W}{d:MS}{K:RS->Prop}(g:Pu[Ahp SP.any n (rdr B k)][h Z][.int (k':Int)])(f:Z[0]?=sr sr[.ref[n]])(c:S[n]?=sr[rdr B k])(q:∀b,Fr [n] S b->b[n]?=sr[rdr B k']->Wb d Z b K):Wb Am[Af0 fld "place" Ab[0] h][d] Z S K:=by
 let(G,e):=g S (trivial,c);let a:(S ++ G)[n]?=_:=Fr.app.at0 c;refine Lr ⟨?_⟩;refine La (u9,_,?_,q _ ((Fr.of0 Fr.app).same Fr.set) M3[Fj[a]])
 .rw[Bk,e];dsimp only;rw[Bk,Acz f];unfold Anw;dsimp only;rw[a];rfl
def Amm{mt:Nat->t6->o9 Fi}{m:t6}{j:Nat}{f:De->M lg[W]}{i:Fi}(l:Z[j]?=sr sr[.ref[n]])(t:S[n]?=sr[rdr B k])(d:∀(B:t6)(k:Int),([(("body":t6),W.str B),("place",.int k)]:lg[t6×W]).lookup m=sy)(o:mt 4 m=sr i)(s:Wx f[Z] S (λc h=>c.length+1=i.np/\Wx (i.g (.ref n::c)) h Q E) E):Wx (Em mt m Ab[j] f Z) S Q E:=by
 refine Fo .inl[Cd l ?_];refine Fo[.inl (i,S,?_,?_)]
 .unfold An0;dsimp only;rw[t];show (match jT m [(_,W.str B),("place",_)],mt 4 m with|none,sr i=>_|_,_=>_)=_
  rw[d,o]
 .refine Fo[Pn s (λc h ⟨hl,q⟩=>?_) λv z=>z];unfold Ben;rw[di hl];omega
def We(m:Nat):Rf n Gk[[.ref n,.int (m:Int)]] rS[m] W.str:=(λB k S e b=>by
 refine .inl[Jo rfl ?_];refine Bw (Js (Abn (P:=SP.any) rfl) (trivial,b) λl d=>?_);refine Ap0 (k':=k+m) Pu.cast[Ai Ad[rfl] Ad[rfl] Cm][by simp] rfl d.at0[b] λj f a=>?_
 refine Ef (Js (P:=Ahp SP.any n _) ?_ (trivial,a) λi c=>(_,k+m,by rw[<-vU];rfl,rfl,c.at0 a,((d.of0).same f).then0 c))
 refine Jv Auq[rfl] Dq[Ad[rfl]] Dq[Abn[rfl]] ?_;show Pu _ (if _ then _ else bad) _
 rw[Acy];exact Fv (aD e ()) Pu.pure)
def Amn{kk nn:Nat}(hl:ws.length=kk)(h:Rf n f[Bl nn ws] r φ):Rf n (Cp kk nn (Am retS[f] b') ws) r φ:=λB k S hB hS=>Ahr hl Lb[Pn[h B k S hB hS][λuu uu z=>z] λuu z=>(rfl,z)]
def Ge{mt:Nat->t6->o9 Fi}{m:t6}{j:Nat}{gs:De->M lg[W]}{g:lg W->M W}{np:Nat}{dv i:lg W}(s:Z[j]?=sr sr[.ref[n]])(l:∀(B:t6)(k:Int),([(("body":t6),W.str B),("place",.int k)]:lg[t6×W]).lookup m=sy)(t:mt 4 m=sr (g,np,dv))(v:Pu SP.any gs[Z] i)(u:i.length+1=np)(h:Rf n (g (.ref n::i)) r φ):Rf n (Em mt m Ab[j] gs Z) r φ:=(λB k S w p=>
 Amm s p l t .inl[Ar v λA f=>(u,h.use w f.at0[p] (λc q y a x o=>(c,q,a,rfl,x,f.of0.same o)) λy a o=>(a,f.of0.same o))])
def Ahs{mt:Nat->t6->o9 Fi}{m:t6}{j:Nat}{f:De->M W}{g:lg W->M W}{np:Nat}{dv:lg W}{s:γ->Rg γ'}{u:γ'->W}(D:Z[j]?=sr sr[.ref[n]])(i:∀(B:t6)(k:Int),([(("body":t6),W.str B),("place",.int k)]:lg[t6×W]).lookup m=sy)(E:mt 4 m=sr (g,np,dv))(F:2=np)(H:Rf n f[Z] r φ)(G:∀c l z,r l=sr[u6 c z]->Rf n g[[.ref n,φ c]] s[c] u):Rf n (Em mt m Ab[j] yA[f] Z) (bindR r s) u:=(λB k S w v=>by
 refine Amm D v i E Fy[H.use w v (λc C L y p x=>.inl[Bm (F,?_)]) λL a f=>(by unfold bindR;rw[a],f)]
 let e:bindR r s B.cps.toList.drop[k]=s c B.cps.toList.drop[C]:=by unfold bindR;rw[y]
 rw[e];exact(G c _ _ y).use w p (λI A J t o q=>(I,A,t,rfl,o,x.same q)) λJ t q=>(t,x.same q))
def Q3{m:Nat}(i:m<=3):Rf n Ja[[.ref n,.int (m:Int)]] rN[m] W.int:=(λB k S o l=>by
 refine Ahr rfl Lb[Fo[Fy[?_]]];refine(Ge (r:=rS m) (φ:=W.str) rfl (λf f=>rfl) rfl (Aa Ad[rfl] Ae) rfl We[m]).use o l (λc h t q e g=>?_) λt a f=>by cases a
 obtain⟨rfl,p⟩:_:=by
  exact pJ bK[q]
 let j:=by
  show (((B.cps.toList.drop k).take m).toArray).size<=3;rw[cG];exact aD (wL _ _) i
 refine .inl Bm[?_];cases b:wrB toS[(B.cps.toList.drop k).take m] with
 |true=>exact .inl (Ar App[b] λs d=>(_,h,by unfold rN;rw[di b,p],rfl,d.at0 e,g.then0 d))
 |false=>exact Bk4 (P:=SP.any) Apq[aD j ()][b] trivial λs d=>(rfl,by unfold rN;rw[dm (by rw[b];decide)],g.then0 d))
end
set_option tactic.hygienic true in
def Eb{g a:Type}{r:Rg g}{s:g->Rg a}{l:lg Nat}{x:a×lg Nat}(h:bindR r s l=sr x):∃c d,r l=sr[u6 c d]/\s c d=sr x:=by
 unfold bindR at h;split at h
 .cases h
 .rename_i c d e;exact(c,d,e,h)
def Ej{b a:Type}{r:Rg b}{s:b->Rg a}{l d:lg Nat}{c:b}(h:r l=sr[u6 c d]):bindR r s l=s c d:=by unfold bindR;rw[h]
theorem Ld{d:Type}{r:Rg d}:∀{m:Nat} {l g:lg Nat} {f:lg d},rep r m l=sr[u6 f g]->f.length=m
 |0,_,_,_,e=>by cases e;rfl
 |m+1,_,_,_,e=>by
  let(c,j,_,e):=Eb e;let(k,i,h,e):=Eb e;cases e;rw[bN,Ld h]
section
variable{γ γ':Type}{n k:Nat}{r:Rg γ}{φ:γ->W}
theorem Aur(t:∀d,Rf n e[[sr d,sr .ref[n]]] r φ)(v:B.length<=400):∀(g:lg W)(d:o9 W)(b:lg W)(k:Nat)(S:Store),b.length+g.length<=1000->S[n]?=sr[rdr B k]->
  Wx (Mx By[0] (λG=>pure t8) e g [d,sr .ref[n]] b) S (λp j=>∃i q,rep r g.length B.cps.toList.drop[k]=sr[u6 i B.cps.toList.drop[q]]/\p=b ++ i.map φ/\j[n]?=sr[rdr B q]/\Fr [n] S j) λj=>rep r g.length B.cps.toList.drop[k]=sy/\Fr [n] S j
 |[],d,b,k,S,s,m=>.inl (Jf ([],k,rfl,by simp,m,.refl))
 |u::g,d,b,k,S,s,m=>by
  rw[bN] at s ⊢
  refine Fo .inl[Agh[Jf[?_]]];refine Fo[(t u).use v m (λc z x H l w=>?_) λx a f=>(by unfold rep bindR;rw[a],f)]
  rw[di[bH (by omega:b.length < 1001) ()]]
  refine Pn[Aur t v g sr[u] (b ++ [φ c]) z x (by rw[aU,dU];omega) l][λp E ⟨i,y,D,C,A,o⟩=>(c::i,y,?_,?_,A,w.same o)] λE ⟨D,o⟩=>(?_,w.same o)
  all_goals first|(rw[C,aL];rfl)|(show bindR r _ _=_;unfold bindR;simp_all)
def Amo{m:Nat}(b:m<=200)(p:∀d,Rf n e[[sr d,sr .ref[n]]] r φ):
  Rf[n][Dm Ed yA[compX 1 [0] (Nm Hn yA[Ab[1]]) By[0] (λy=>pure t8) e] [sr .ref[n],sr[.int (m:Int)]]][rep r m] λh=>.tup h.map[φ]:=(λB k S s q=>by
 refine Fo (Fy (Fo (.inl (Ar (Gx (k:=m) (Aa Ad[rfl] Ae) (aD b ())) λw g=>?_))))
 let c:=Aur (n:=n) (r:=r) (φ:=φ) p s ((eZ m).map λ(i:Nat)=>W.int[0+(i:Int)]) sy [] k w (by rw[aC,bO];exact aD (eU b 0) ()) g.at0[q]
 rw[aC,bO] at c;refine Fo[Pn c (λx v ⟨h,k2,a2,e2,h2,f2⟩=>?_) λv ⟨a2,f2⟩=>(a2,g.of0.same f2)];subst e2;rw[lU];refine .inl[Ab8 (by rw[aC,Ld a2];exact aD b ()) .inl[Bm[.inl[Kw Ey (h,k2,a2,rfl,Fr.app.at0 h2,(g.of0.same f2).then0 Fr.app)]]]])
def Ae6(m:Nat)(b:m<=200):Rf n Ip[[.ref n,.int (m:Int)]] (rep rN[2] m) λis=>.tup is.map[W.int]:=(
 Amn rfl (Amo b λd=>Ge rfl (λa a=>rfl) rfl (Aa Ac Ae) rfl Q3[by simp]))
theorem Ae7:∀(l:lg Nat)(a:Int),0<=a->0<=M1.Acf l a
 |[],a,h=>h
 |c::l,a,h=>Ae7 l _ ()
def Bbc{m:Nat}{l c:lg Nat}{i:Int}(h:rN m l=sr[u6 i c]):0<=i:=by
 unfold rN at h;split at h
 .cases h;exact Ae7 _ _ (by simp)
 trivial
def Bbd:Rf n Kr[[.ref n]] rKey W.str:=(
 Amn rfl (Ahs rfl (λa a=>rfl) rfl rfl (Ge rfl (λa a=>rfl) rfl (Aa Ac Ae) rfl Q3[by simp]) λi l b e=>by
  let h:=We (n:=n) i.toNat;rw[cO Bbc[e]] at h;omega))
def Bf2(m:Nat)(c:m<=200):Rf n J6[[.ref n,.int (m:Int)]] (rep rKey m) λb=>.tup b.map[W.str]:=(
 Amn rfl (Amo c λd=>Ge rfl (λa a=>rfl) rfl Ae rfl Bbd))
end
section
variable{γ γ':Type}{n k:Nat}{r:Rg γ}{φ:γ->W}
def Rf.wm(h:Rf n m r φ)(e:∀l,r l≠sy)(g:B.length<=400)(f:S[n]?=sr[rdr B k])(q:∀c d b,r B.cps.toList.drop[k]=sr[u6 c B.cps.toList.drop[d]]->b[n]?=sr[rdr B d]->Fr [n] S b->Q φ[c] b):Wm m S Q:=by
 rcases h.use g f q (λb a i=>e _ a) with h|⟨_,_,z⟩
 .omega
 trivial
def Bf3:Rf n J8[[.ref n]] Ss Cl.w:=(λB k S v G=>by
 refine Ahr rfl ?_;let H:=Ge (Z:=Bl 1 [.ref n]) (j:=0) (mt:=λc n=>Bh.lookup[u6 c n]) (m:="next_signs") (gs:=Eu kI[1] nilF) rfl (λf f=>rfl) rfl (Aa Ac Ae) rfl (We (n:=n) 1);by_cases hi:toS[(B.cps.toList.drop k).take 1]="i"
 .refine Fp (Ig (p:=true) Aro[H.wm (λl z=>by cases z) v G λc A J F o u=>?_])
  let(rfl,E):=pJ bK[F];refine Gd[Ar Rn.cast[congrArg W.bl (by rw[hi];decide +kernel)] λI s=>(rfl,rfl,?_)]
  let C:Ss B.cps.toList.drop[k]=bindR rKey (λt l=>sr[u6 .inn[t] l]) B.cps.toList.drop[A]:=by unfold Ss;rw[di hi,E]
  rw[C];let D:Rf n Em[λc n=>Bh.lookup[u6 c n]]["next_signs"][Ab[0]][yA[Em (λc n=>Bh.lookup[u6 c n]) "next_number" Ab[0] yA[kI[1]]]][Bl 1 [.ref n]] rKey W.str:=
   Ahs (r:=rN 1) (φ:=W.int) rfl (λf f=>rfl) rfl rfl (Ge rfl (λf f=>rfl) rfl (Aa Ac Ae) rfl (Q3 (m:=1) ())) λi l L e=>by
    let h:=We (n:=n) i.toNat;rw[cO Bbc[e]] at h;exact h
  refine Lb Ahq[Fy[.inl[Gd[Fy[D.use v s.at0[o] (λt y x d g q=>.inl[Bm (show 2<=big by decide,.inn t,y,by rw[Ej d],rfl,g,(u.then0 s).same q)]) λx d q=>(rfl,by unfold bindR;rw[d],(u.then0 s).same q)]]]]]
 .refine Dt (Ig (p:=false) Aro[H.wm (λl z=>by cases z) v G λc A J F o u=>?_])
  let(rfl,E):=pJ bK[F];refine Gd[Ar Rn.cast[congrArg[W.bl][by simpa using hi]] λI s=>(rfl,rfl,?_)]
  let C:Ss B.cps.toList.drop[k]=bindR (rep rN[2] 2) Bn7 B.cps.toList.drop[A]:=by unfold Ss;rw[dm hi,E]
  rw[C];let D:Rf n Em[λc n=>Bh.lookup[u6 c n]]["next_numbers"][Ab 0][yA kI[2]][Bl 1 [.ref n]] (rep rN[2] 2) λis=>.tup is.map[W.int]:=
   Ge rfl (λf f=>rfl) rfl (Aa Ac Ae) rfl (Ae6 2 ())
  refine Lb Fo[.inl[Hg[Av[Gd[Bm (show 1<=big by decide,?_)]]]]]
  refine Fo[D.use v s.at0[o] (λis y x d g q=>?_) λx d q=>(rfl,by unfold bindR;rw[d],(u.then0 s).same q)]
  rw[Ej d]
  match is,Ld d with
  |[a,b],_=>exact .inl (.tup [.str "out",.int a,.int b],x,rfl,.out a b,y,rfl,rfl,g,(u.then0 s).same q))
def Bk5:Rf n Ku[[.ref n]] Aml K7:=(λB k S i l=>by
 refine Ahr rfl ?_;let o:Rf n Em[λc n=>Dj.lookup[u6 c n]]["next_key"][Ab[0]][nilF][Bl 2 [.ref n]] rKey W.str:=Ge rfl (λb b=>rfl) rfl Ae rfl Bbd;refine Amk[o.use i l (λt s q h e a=>?_) λq h a=>(rfl,by unfold Aml bindR;rw[h],a)]
 let m:Rf n Em[λc n=>Dj.lookup[u6 c n]]["next_cell"][Ab[0]][nilF][(Bl 2 [.ref n]).set 1 sr[.str[t]]] Ss Cl.w:=Ge rfl (λb b=>rfl) rfl Ae rfl Bf3;unfold Aml;rw[Ej h];refine Lb Ahq[Fy[.inl[Cd rfl Fy[m.use i e (λc j p g d f=>.inl[Bm (show 2<=big by decide,(u6 t c),j,by rw[Ej g],rfl,d,a.same f)]) λp g f=>(rfl,by unfold bindR;rw[g],a.same f)]]]])
def Bf4(m:Nat)(b:m<=200):Rf n Ka[[.ref n,.int (m:Int)]] (rep Aml m) λrs=>.tup rs.map[K7]:=(
 Amn rfl (Amo b λd=>Ge rfl (λa a=>rfl) rfl Ae rfl Bk5))
end
def Asn(h:D.Fr [] S S'):∃G,S'=S ++ G:=by
 refine(S'.drop S.length,?_);apply rY;intro i;by_cases hi:i < S.length
 .rw[aX hi,h.get i hi (λz=>nomatch z)]
 .rw[bB (),List.getElem?_drop,Nat.add_sub_cancel' ()]
theorem Bbe{n:Nat}(h:D.Fr [n] S S')(d:S.length<=n):D.Fr [] S S':=(h.len,λi hi c=>h.get i hi λz=>by
 have:=aR.mp z;omega)
section
variable{n:Nat}
def Q4(h:∀S,P.p S->Wm m S λv a=>v=w/\D.Fr [] S a):Pu P m w:=(λS b=>by
 let(v,a,e,rfl,f):=h S b;let(G,rfl):=Asn f;exact(G,e))
def Aus{f:t6}{c:Nat}{fs:lg[t6×W]}{v:W}{h:De->M W}{b:MS}{K:RS->Prop}(g:h Z S=.ok v S)(e:Z[0]?=sr sr[.ref[n]])(k:S[n]?=sr[.ins c fs])(hok:fld t7 c f=t8)(j:fs.length < 1000)(q:Wb b Z (S.set n .ins[c][Ai5 f v fs]) K):
  Wb Am[Af0 fld f Ab[0] h][b] Z S K:=by
 refine Lr ⟨?_⟩;refine La (u9,_,?_,q);rw[Bk,g];dsimp only;rw[Bk,Acz e];unfold Anw;simp_all
def Bbf:Ai5 "body" v []=[(("body":t6),v)]:=rfl
def Bf5(q:∀a,D.Fr [] S a->a[S.length]?=sr[rdr B 0]->Q .ref[S.length] a):Wm (Af4 4 Hi [.str B]) S Q:=by
 let c:(S ++ [Cell.ins 4 []])[S.length]?=_:=Ey;let b:=Fj c;refine Dc (.ref S.length,_,rfl,?_);refine Dc[Jo rfl ?_];refine Aus Acz[rfl] rfl c () () ?_
 rw[Bbf];refine Aus rfl rfl M3[b] () (show 1 < 1000 by decide) ?_
 exact Jg Jf[q[_][Bbe[((Fr.app.of0).same Fr.set).same Fr.set][aO _]][M3 (by rw[iH];exact b)]]
abbrev mtR:Nat->t6->o9 Fi:=λc n=>Ah.lookup[u6 c n]
end
def told(c:t6)(l:lg Nat):o9 o9[Pg]:=
 if c="h" then match rep rN[2] 4 l with
  |some ([a,b,c,d],_)=>sr sr[.head a b c d]
  |_=>sy
 else if c="l" then match bindR rN[1] (λi=>rep Aml i.toNat) l with
  |some (rs,_)=>sr sr[.leaf[rs]]
  |none=>sy
 else if c="f" then match bindR[bindR rN[1] λi=>rep rKey i.toNat][λks=>bindR rep[rN 2][ks.length+1] λps l=>sr u6[u6 ks ps][l]][l] with
  |some ((ks,ps),_)=>sr sr[.fork ks ps]
  |none=>sy
 else if c="r" then match rN 2 l with
  |some (i,l1)=>sr sr[.rest toS[l1.take[l.length - 2]] i]
  |none=>sy
 else if c="e" then match rep rN[2] 1 l with
  |some ([a],_)=>sr sr[.free[a]]
  |_=>sy
 else sr sy
def pgW:o9 Pg->W
 |none=>.non
 |some p=>p.w
theorem Aut:∀(l:lg Nat)(a:Int)(m:Nat),(∀c∈l,M1.inS c=t8)->0<=a->a < 64 ^ m->M1.Acf l a < 64 ^ (m+l.length)
 |[],a,m,_,_,h=>h
 |c::l,a,m,e,i,h=>by
  let hi:=M1.Aru[e c bJ];have:=Aut l (a * 64+M1.idx c) (m+1) (λd hd=>e d (bD _ hd)) () ()
  rw[bN,show m+_=m+1+l.length by omega]
  trivial
def Ap1{m:Nat}{l l':lg Nat}{i:Int}(h:rN m l=sr[u6 i l']):0<=i/\i < 64 ^ m:=by
 refine(Bbc h,?_);unfold rN at h;split at h
 .rename_i b;cases h;unfold wrB at b;rw[aB] at b;let q:=Aut _ 0 0 (by simpa [toS] using b.2) (by simp) ()
  rw[aDk] at q;refine Int.lt_of_lt_of_le q ?_
  exact_mod_cast Nat.pow_le_pow_right (by simp) (wL m l)
 trivial
section
variable{n k:Nat}
def Su(h:a≠b):Pu P (El .Eq .str[a] .str[b]) .bl[t7]:=(Rn.cast congrArg[W.bl][by simpa using h])
def Qh:Pu P (El .Eq .str[a] .str[a]) .bl[t8]:=(Rn.cast congrArg[W.bl][by simp])
def Bbg{j:Type}{r:Rg j}{f:j->W}(o:Z[2]?=sr sr[.ref[n]])(b:∀(B:t6)(k:Int),([(("body":t6),W.str B),("place",.int k)]:lg[t6×W]).lookup name=sy)(s:mtR 4 name=sr (g,2,dv))(h:∀m:Nat,m<=200->Rf n g[[.ref n,.int (m:Int)]] (rep r m) λc=>.tup c.map[f]):
  Rf[n][Em mtR name Ab[2] yA[Em mtR "next_number" Ab[2] yA[kI[1]]] Z][bindR rN[1] λi=>rep r i.toNat] λc=>.tup c.map[f]:=(
 Ahs o b s rfl (Ge o (λq q=>rfl) rfl (Aa Ac Ae) rfl Q3[by simp]) λi l u e=>by
  let hi:=Ap1 e;have:=h i.toNat ()
  rw[cO hi.1] at this;omega)
end
section
def Bbh{j:Nat}(c:z.length=1):fQ[z][sr ((j+1:Nat):Int)][sr (j:Int)]=toS []:=by
 let e:fC (sr ((j+1:Nat):Int)) (sr (j:Int)) 1 z.length=[]:=by
  unfold fC sliceRange;let d:∀j:Nat,(if ((j:Int)) < 0 then (j:Int)+(z.length:Int) else (j:Int))=j:=λj=>dm ()
  simp only[d,show (1:Int) > 0 by decide,if_true]
  rw[dm ()]
  rfl
 unfold fQ;rw[e,dm[by simp[c]]]
 rfl
def Aw7{n k:Nat}(f:B.length=1)(o:1<=k)(e:S[n]?=sr[rdr B k])(q:∀i,D.Fr [n] S i->Q .str[toS[[]]] i):Wm Gk[[.ref n,.int[-1]]] S Q:=by
 obtain⟨j,rfl⟩:∃j,k=j+1:=(k - 1,())
 refine Jo rfl (Bw (Js (Abn (P:=SP.any) rfl) (trivial,e) λr g=>?_));refine Ap0 (k':=j) (Pu.cast (Ai Ad[rfl] Ad[rfl] Cm) (by congr 1;simp;omega)) rfl g.at0[e] λp m b=>?_
 refine Ef (Js (a:=.str toS[[]]) (P:=Ahp SP.any n (rdr B j)) ?_ (trivial,b) λh l=>show Q _ h from q h (((g.of0).same m).then0 l));refine Jv Auq[rfl] Dq[Ad[rfl]] Dq[Abn[rfl]] ?_;show Pu _ (if B.length<=big then pure W.str[fQ[B][sr ((j+1:Nat):Int)][sr (j:Int)]] else bad) _
 rw[Bbh f];exact Fv (by rw[f];decide) Pu.pure
def Bbi(E:B.length<=400):Wx Ln[[.str c,.str B]] S (λw S'=>∃o,told c B.cps.toList=sr o/\w=pgW o/\D.Fr [] S S') λS'=>told c B.cps.toList=sy/\D.Fr [] S S':=by
 let k:∀{S1 X:Store},D.Fr [] S S1->D.Fr [S.length] S1 X->D.Fr [] S X:=λf A=>Bbe[(f.of0).same A][aO _];let t:B.cps.toList.drop 0=B.cps.toList:=oJ;let T:B.cps.toList.length=B.length:=aV;refine Ahr rfl Bw[Ei[Av[Cd rfl Bm[Bf5 λS1 f J=>?_]]]];unfold told;by_cases h1:c="h"
 .subst h1;rw[di rfl];refine Fp (Ig (p:=true) (Ar[Aj Ad[rfl] Ac Qh] λX A=>(rfl,rfl,?_)));refine Lb Fo[.inl[Hg[Av[Gd[Bm (show 1<=big by decide,Fo ?_)]]]]]
  refine(Ge (n:=S.length) rfl (λg g=>rfl) rfl (Aa Ac Ae) rfl (Ae6 4 ())).use E A.at0[J] (λis G U e y s=>?_) λU e s=>(rfl,by rw[<-t,e],k f.then0[A] s)
  rw[t] at e
  match is,Ld e,e with
  |[a,b,c,d],_,e=>exact .inl (_,U,rfl,_,by rw[e],rfl,k f.then0[A] s)
 rw[dm h1];refine Dt (Ig (p:=false) (Ar[Aj Ad[rfl] Ac Su[h1]] λX A=>(rfl,rfl,?_)));let I:=A.at0 J;let f:=f.then0 A;clear J A;by_cases h2:c="l"
 .subst h2;rw[di rfl];refine Fp (Ig (p:=true) (Ar[Aj Ad[rfl] Ac Qh] λU s=>(rfl,rfl,?_)));refine Lb Ahq[Fy[.inl[Gd[Fy[?_]]]]];refine(Bbg (n:=S.length) rfl (λg g=>rfl) rfl λm O=>Bf4 m O).use E s.at0[I] (λrs G S4 e v q=>.inl[Bm (show 2<=big by decide,sr .leaf[rs],?_,rfl,k f.then0[s] q)]) λS4 e q=>(rfl,?_,k f.then0[s] q)
  .rw[t] at e;rw[e]
  .rw[t] at e;rw[e]
 rw[dm h2];refine Dt (Ig (p:=false) (Ar[Aj Ad[rfl] Ac Su[h2]] λU s=>(rfl,rfl,?_)));let y:=s.at0 I;let f:=f.then0 s;clear I s;by_cases h3:c="f"
 .subst h3;rw[di rfl];refine Fp (Ig (p:=true) (Ar[Aj Ad[rfl] Ac Qh] λS4 q=>(rfl,rfl,?_)));refine Amk ((Bbg (n:=S.length) rfl (λg g=>rfl) rfl λm O=>Bf2 m O).use E q.at0[y] (λC G S5 e H j=>?_) λS5 e j=>(rfl,?_,k f.then0[q] j))
  .rw[t] at e;let(i,l1,b1,b2):=Eb e;let hi:=Ap1 b1;let hl:=Ld b2;refine Lb Ahq[Fy[.inl[Gd[Fy[.inl[Cd rfl Fy[?_]]]]]]];refine(Ge (n:=S.length) (r:=rep[rN 2][C.length+1]) rfl (λg g=>rfl) rfl Aa[Ai Ag[Aa Ad[rfl] Ae][Fx] Ac Cm][Ae] rfl ?_).use E H (λps k3 Q L u h=>.inl[Bm (show 3<=big by decide,sr[.fork C ps],?_,rfl,k f.then0[q] j.same[h])]) λQ L h=>(rfl,?_,k f.then0[q] j.same[h])
   .have:=Ae6 (n:=S.length) (C.length+1) ()
    rw[aC];exact this
   .rw[Ej e,Ej L]
   .rw[Ej e];have:bindR rep[rN 2][C.length+1] (λps l=>sr u6[u6 C ps][l]) B.cps.toList.drop[G]=sy:=by unfold bindR;rw[L]
    rw[this]
  .rw[t] at e;have:bindR[bindR rN[1] λi=>rep rKey i.toNat][λC=>bindR rep[rN 2][C.length+1] λps l=>sr u6[u6 C ps][l]][B.cps.toList]=sy:=by rw[bindR,e]
   rw[this]
 rw[dm h3];refine Dt (Ig (p:=false) (Ar[Aj Ad[rfl] Ac Su[h3]] λS4 q=>(rfl,rfl,?_)));let v:=q.at0 y;let f:=f.then0 q;clear y q;by_cases h4:c="r"
 .subst h4;rw[di rfl];refine Fp (Ig (p:=true) (Ar[Aj Ad[rfl] Ac Qh] λS5 j=>(rfl,rfl,?_)));refine Amk ((Ge (n:=S.length) rfl (λg g=>rfl) rfl (Aa Ac Ae) rfl (Q3 (m:=2) ())).use E j.at0[v] (λi G Q e u h=>?_) λQ e h=>(rfl,by rw[t] at e;rw[e],k f.then0[j] h))
  rw[t] at e;rw[e];dsimp only;let Z:B.length<=big:=aD E ()
  let O:Pu SP.any Al[.sub][zA Cq Ab[1]][kI 2][(List.set (Bl 5 [W.str "r",W.str B]) 2 sr[W.ref[S.length]]).set 4 sr[W.int[i]]] .int[(B.length:Int) - 2]:=Ai Ag[Aa Ad[rfl] Ae][len_str Z] Ac Gw;let e2:B.cps.toList.drop 2=B.cps.toList.drop G:=by
   unfold rN at e;split at e
   .exact(pJ bK[e]).2
   .cases e
  refine Lb Ahq[Fy[.inl[Gd[Fy[?_]]]]];rcases oF B.length 2 with hlt|hge
  .let Y:B.length=1:=by
    rcases lO B.length with z|z
    .rw[eN T.trans[z]] at e;cases e
    .omega
   let hk:1<=G:=xK λz=>by
    have:=congrArg nU e2;rw[z,bM,bM,T] at this;omega
   refine Amm rfl u (λg g=>rfl) rfl Fy[.inl[Ar O λP F=>.inl[Bm (rfl,?_)]]];rw[show (B.length:Int) - 2=-1 by omega]
   refine .inl[Aw7 Y hk F.at0[u] λS8 f8=>Fy .inl[Cd rfl .inl[Bm (show 3<=big by decide,_,rfl,?_,k f.then0[j] h.same[F.of0.same[f8]])]]]
   rw[T,show B.length - 2=0 by omega]
   rfl
  .refine(Ge (n:=S.length) rfl (λg g=>rfl) rfl (Aa O.cast[by rw[show (B.length:Int) - 2=((B.length - 2:Nat):Int) by omega]] Ae) rfl We[B.length - 2]).use E u (λx k3 P L hS7 F=>?_) λP L g=>by cases L
   let(rfl,_):=pJ bK[L];exact Fy .inl[Cd rfl .inl[Bm (show 3<=big by decide,_,rfl,by rw[T];rfl,k f.then0[j] h.same[F])]]
 rw[dm h4];refine Dt (Ig (p:=false) (Ar[Aj Ad[rfl] Ac Su[h4]] λS5 j=>(rfl,rfl,?_)));let H:=j.at0 v;let f:=f.then0 j;clear v j;by_cases h5:c="e"
 .subst h5;rw[di rfl];refine Fp (Ig (p:=true) (Ar[Aj Ad[rfl] Ac Qh] λQ h=>(rfl,rfl,?_)));refine Lb Fo[.inl[Hg[Av[Gd[Bm (show 1<=big by decide,Fo ?_)]]]]]
  refine(Ge (n:=S.length) rfl (λg g=>rfl) rfl (Aa Ac Ae) rfl (Ae6 1 ())).use E h.at0[H] (λis G P e hS7 F=>?_) λP e F=>(rfl,by rw[<-t,e],k f.then0[h] F)
  rw[t] at e
  match is,Ld e,e with
  |[a],_,e=>exact .inl (_,P,rfl,_,by rw[e],rfl,k f.then0[h] F)
 rw[dm h5];refine Dt (Ig (p:=false) (Ar[Aj Ad[rfl] Ac Su[h5]] λQ h=>(rfl,rfl,?_)));exact Ef[Gd (sy,rfl,rfl,f.then0 h)]
end
def Il(l:lg Nat):(toS l).length=l.length:=cG
def Aht{m:Nat}{l c:lg Nat}{i:Int}(h:rN (m+1) l=sr[u6 i c]):c.length+1<=l.length:=by
 unfold rN at h;split at h
 .rename_i a;cases h;unfold wrB at a;rw[aB,aB,dh,Il] at a;have:=a.1.1;rw[dO] at this;rw[bM];omega
 trivial
def Ahu{l a:lg Nat}(h:rKey l=sr[u6 k a]):(Dh k).length+a.length<=l.length:=by
 let(i,f,d,c):=Eb h;have:=Aht d;cases c;unfold Dh;rw[len_app,Bc,Il,dO,bM];omega
theorem Ae8{g:Type}{r:Rg g}{τ:g->Nat}{G:g->Prop}(h:∀l c a,l.length<=400->r l=sr[u6 c a]->(τ c+3 * a.length<=3 * l.length/\a.length<=l.length)/\G c):∀(m:Nat)(l:lg Nat)(f:lg g)(a:lg Nat),l.length<=400->rep r m l=sr[u6 f a]->((f.map τ).sum+3 * a.length<=3 * l.length/\a.length<=l.length)/\∀c∈f,G c
 |0,l,f,a,i,e=>by cases e;simp
 |m+1,l,f,a,i,e=>by
  let(c,j,n,e):=Eb e;let(o,q,k,e):=Eb e;cases e;let((u,p),t):=h l c j i n;let((b1,b2),s):=Ae8 h m j o a (aD p i) k
  grind
def Ap2{m:Nat}{l b:lg Nat}{is:lg Int}(g:l.length<=400)(h:rep rN[2] m l=sr[u6 is b]):2 * is.length+3 * b.length<=3 * l.length/\b.length<=l.length:=by
 let q:=(Ae8 (τ:=λf=>2) (λl c b f e=>(by have:=Aht e;omega,trivial)) m l is b g h).1
 rw[List.map_const',List.sum_replicate_nat] at q;omega
def Aw8{l g:lg Nat}(m:l.length<=400)(h:Ss l=sr[u6 c g]):(c.t.length+3 * g.length<=3 * l.length/\g.length<=l.length)/\c.sm:=by
 unfold Ss at h;split at h
 .rename_i hi;let(t,j,f,e):=Eb h;cases e;let q:=Ahu f;unfold Dh at q;rw[len_app,Bc,bM] at q;refine((?_,()),show t.length<=400 by omega)
  show (("i":t6) ++ M1.Ce 1 t.length ++ t).length+_<=_;rw[len_app,len_app,Bc,show ("i":t6).length=1 by decide +kernel]
  omega
 .let(is,j,f,e):=Eb h;let q:=Ap2 (by rw[bM];omega) f
  rw[bM] at q
  match is,Ld f,e with
  |[a,b],_,e=>
   cases e;simp only[bN,pO] at q;refine((?_,()),trivial)
   show (("o":t6) ++ Cg [a,b]).length+_<=_;rw[len_app,Dk,show ("o":t6).length=1 by decide +kernel]
   omega
def Bbj{l a:lg Nat}(p:l.length<=400)(h:Aml l=sr[u6 x a]):((Hc x).length+3 * a.length<=3 * l.length/\a.length<=l.length)/\x.1.length<=400/\x.2.sm:=by
 let(k,o,i,g):=Eb h;let(c,n,f,d):=Eb g;cases d;let q:=Ahu i;let((b1,b2),j):=Aw8 () f
 let e:(Dh k).length=1+k.length:=by unfold Dh;rw[len_app,Bc]
 refine((?_,()),by show k.length<=400;omega,j)
 show (Dh k ++ c.t).length+_<=_;rw[len_app];omega
set_option tactic.hygienic true in
def Auu{l:lg Nat}(j:l.length<=400)(h:told c l=sr sr[p]):p.sm/\p.body.length < 4096:=by
 unfold told at h;split at h
 .split at h
  .cases h;refine(trivial,?_);show (Cg _).length < _;rw[Dk];show 2 * _ < 4096;simp
  .cases h
 split at h
 .split at h
  .rename_i rs d e;cases h;let(i,a,g,f):=Eb e;let hi:=Ap1 g;let q:=Aht g;let((C,B),m):=Ae8 (τ:=λx=>(Hc x).length) (λl c d j e=>Bbj j e) _ a rs d () f
   refine((by rw[Ld f];omega,m),?_)
   show (M1.Ce 1 rs.length ++ jn rs.map[Hc]).length < _;rw[len_app,Bc,V8,bW];have:(rs.map λx=>(Hc x).length).sum=(rs.map[(λx=>x.length) ∘ Hc]).sum:=rfl;omega
  .cases h
 split at h
 .split at h
  .rename_i b ps d e;cases h;let(y,a,g,f):=Eb e;let(v,E,r,A):=Eb f;cases A;let(i,w,t,s):=Eb g;let hi:=Ap1 t;let q:=Aht t;let((C,B),m):=Ae8 (τ:=λx=>(Dh x).length) (G:=λk=>k.length<=400) (λl c d j e=>by
    let z:=Ahu e;let H:(Dh c).length=1+c.length:=by unfold Dh;rw[len_app,Bc]
    exact((),())) _ w b a () s
   let n:=Ap2 (l:=a) () r
   let F:=Ld s;refine(((),m,Ld r),?_)
   show (M1.Ce 1 b.length ++ jn b.map[Dh] ++ Cg ps).length < _;rw[len_app,len_app,Bc,V8,bW,Dk];have:(b.map λx=>(Dh x).length).sum=(b.map[(λx=>x.length) ∘ Dh]).sum:=rfl;omega
  .cases h
 split at h
 .split at h
  .rename_i i a e;cases h;let q:=Aht e;let o:(toS a.take[l.length - 2]).length<=400:=by rw[Il,dO];omega
   refine(o,?_);show (Cg [i] ++ toS a.take[l.length - 2]).length < _;rw[len_app,Dk];exact xJ[eU o _][by simp]
  .cases h
 split at h
 .split at h
  .cases h;refine(trivial,?_);show (Cg _).length < _;rw[Dk];show 2 * _ < 4096;simp
  .cases h
 .cases h
def Aw9(h:2<=z.length):fQ z sy sr[-2]=cut z 0 (z.length - 2):=by
 rw[eq_of_beq[yS (by simp) () rfl]]
 unfold cut
 grind
def Axa(h:2<=z.length):fQ z sr[-2] sy=cut z (z.length - 2) z.length:=by
 rw[eq_of_beq[xN (by simp) () rfl rfl]]
 unfold cut
 grind
def tbt(z:t6):o9 o9[Pg]:=if wrB toS[(z.cps.toList.drop 1).take 2] then told[toS z.cps.toList.take[1]][(z.cps.toList.drop 3).take (Awx toS[(z.cps.toList.drop 1).take 2]).toNat] else sy
def Ahv(z:t6):o9 Pg:=match tbt z with
 |some (sr p)=>if p.okB&&(p.unch z.length==cut z 0 (z.length - 2)) then sr p else sy
 |_=>sy
structure Chk(z:t6):Prop where
 lo:64<=z.length
 hi:z.length<=200
 tx:M2.Bs z=t8
 ck:M2.check (cut z 0 (z.length - 2))=cut z (z.length - 2) z.length
section
def Amp(h:Pu P f[Z] .str[z])(b:2<=z.length)(a:z.length<=big):Pu P (slF f Ci Bx[Ab3[kI[2]]] Z) .str[cut[z][0][z.length - 2]]:=by
 refine Jv h Ek Dq[Asi[Ac]] ?_;show Pu P (if _ then _ else bad) _
 rw[Aw9 b];exact Fv a Pu.pure
def Bk6(h:Pu P f[Z] .str[z])(b:2<=z.length)(a:z.length<=big):Pu P (slF f Bx[Ab3[kI[2]]] Ci Z) .str[cut[z][z.length - 2][z.length]]:=by
 refine Jv h Dq[Asi[Ac]] Ek ?_;show Pu P (if _ then _ else bad) _
 rw[Axa b];exact Fv a Pu.pure
def Bbk(b:2<=z.length)(a:z.length<=big)(c:M2.Bs cut[z][0][z.length - 2]=t8):Pu P Ke[[.str z]] .bl[M2.check cut[z][0][z.length - 2]==cut z (z.length - 2) z.length]:=(Bj rfl Aw[Aq[Aj[Ag[Aa[Amp Ad[rfl] b a][Ae]][Bax (by rw[Ik[cY _][by simp]];omega) c]][Bk6 Ad[rfl] b a][Rn]]])
def Bbl:Pu P Wy[[.non]] .bl[t7]:=(λS a=>([],by rw[bC];rfl'))
def Bf6(b:B.length<=400)(h:told c B.cps.toList=sr o):Pu P Ln[[.str c,.str B]] pgW[o]:=(λS i=>by
 rcases Bbi b with ⟨w,d,e,g,a,rfl,f⟩|⟨d,e,a,f⟩
 .rw[h] at a;cases a;let(G,rfl):=Asn f;exact(G,e)
 simp_all)
def Bf7(a:B.length<=400)(h:told c B.cps.toList=sy):PuX P Ln[[.str c,.str B]] (u6 2 .non):=(λS i=>by
 rcases Bbi (c:=c) a with ⟨w,d,e,g,b,rfl,f⟩|⟨d,e,b,f⟩
 .simp_all
 .let(G,rfl):=Asn f;exact(G,e))
def Ac0{i m:Nat}(e:Pu P f[Z] .str[z])(hi:Pu P g[Z] (.int (i:Int)))(d:Pu P h[Z] (.int ((i+m:Nat):Int)))(c:z.length<=big):Pu P (slF f Bx[g] Bx[h] Z) .str[toS[(z.cps.toList.drop i).take m]]:=by
 refine Jv e Dq[hi] Dq[d] ?_;show Pu P (if _ then _ else bad) _
 rw[Acy];exact Fv c Pu.pure
def Bf8(h:1<=z.length)(b:z.length<=big):Pu P (ixW .str[z] .int[0]) .str[toS[z.cps.toList.take[1]]]:=by
 let a:z.cps.toList.length=z.length:=aV;refine Pu.cast (Xk (j:=0) b h) ?_;cases e:z.cps.toList with
 |nil=>rw[e] at a;simp at a;omega
 |cons c l=>rfl
def Bf9(h:Chk z):(∀o,tbt z=sr o->Pu P Hx[[.str z]] pgW[o])/\(tbt z=sy->PuX P Hx[[.str z]] (u6 2 .non)):=by
 let b:z.length<=big:=aD h.hi ()
 let q:M2.Bs cut[z][0][z.length - 2]=t8:=Aac h.tx;let a:=Ew (Af (Ag (Aa (Ad (P:=P) (Z:=Bl 2 [.str z]) (i:=0) rfl) Ae) Bbk[aD () h.lo][b][q]))
 rw[h.ck,beq_self_eq_true] at a;let f:Pu P slF[Ab 0][Bx kI[1]][Bx kI[3]][Bl 2 [.str z]] .str[toS[(z.cps.toList.drop 1).take 2]]:=Ac0 (i:=1) (m:=2) Ad[rfl] Ac Ac b;let r:(toS[(z.cps.toList.drop 1).take 2]).length<=big:=by rw[Il,dO];exact aD (uR _ _) ()
 unfold tbt;cases c:wrB toS[(z.cps.toList.drop 1).take 2] with
 |false=>
  refine(λo e=>by simp at e,λs=>N7 (ws:=[.str z]) rfl Ark[Do a rfl An][N6 At3[Aay[Aa f Ae][Apq r c]]])
 |true=>
  rw[di rfl];generalize d:Awx toS[(z.cps.toList.drop 1).take 2]=v;let t:0<=v:=by rw[<-d];exact Ae7 _ _ ()
  let g:Pu P Dm[Jt][_][Bl 2 [.str z]] .int[v]:=(Ag[Aa f Ae][App c]).cast (by rw[d])
  let k:(toS[(z.cps.toList.drop 3).take v.toNat]).length<=400:=by
   let p:z.cps.toList.length=z.length:=aV;rw[Il,dO,bM,p];have:=h.hi;omega
  let j:Pu P Eu[ixF Ab[0] kI[0]][yA aB5][(Bl 2 [.str z]).set 1 sr[.int[v]]] _:=
   Aa (Be Ad[rfl] Ac Bf8[aD () h.lo][b]) (Aa (Ac0 (i:=3) (m:=v.toNat) Ad[rfl] Ac ((Ai Ac Ad[rfl] Cm).cast (by congr 1;omega)) b) Ae)
  let l:(toS[(z.cps.toList.drop 3).take v.toNat]).cps.toList=(z.cps.toList.drop 3).take v.toNat:=by unfold toS;rw[List.toList_toArray]
  exact(λo e=>Bj (ws:=[.str z]) rfl Bq[Do a rfl An][Bq Bf[g] Aw[Aq[Ag[j][Bf6 k (by rw[l];exact e)]]]],
   λe=>N7 (ws:=[.str z]) rfl Ark[Do a rfl An][Ark Bf[g] N6[Be5[Aay[j][Bf7 k (by rw[l];exact e)]]]])
end
section
def Ap3{exm:Nat->Bool}{f:Nat}(h:PuN P b Z Z'):PuN P (Ak9 exm f i b) Z Z':=(λS d=>by
 let(G,e):=h S d;exact(G,by unfold Ak9;rw[e]))
def Bbm{exm:Nat->Bool}{g:Nat}{c:Nat×W}(h:PuE P b Z c)(m:exm c.1=t8)(j:∀d,Pu P k[d] [w,u]):PuE P (Ak9 exm g k b) Z (u6 g w):=(λS f=>by
 let(G,d,e):=h S f;let(l,n):=j[d][S ++ G][P.st _ _ f];refine(G ++ l,d,?_);unfold Ak9;simp_all)
def size_t(a:z.length<=big):Pu P orT[Qm Dp[zB Np[isa] Ab[0] kF[.ty["str"]]]][Qm Dp[zA[Wz][zA Cq Ab[0]]]][Bl 2 [.str z]] (!(decide[64<=z.length]&&decide[z.length<=200])):=by
 refine Pu.cast (Gh Ew[Af[Ag Aa[Ad rfl][Aa Ac Ae] Amh]] Ew[Af[Ag[Aa Ag[Aa Ad[rfl] Ae][len_str a] Ae][Bfk _]]]) ?_
 grind
def Axb(a:z.length<=big)(h:¬ (64<=z.length/\z.length<=200)):PuX P Ii[[.str z]] (u6 3 .non):=(
 N7 rfl (N6 (Az8 size_t[a] (by
  grind) N6[Rj Aa[Ac][Aa Ac Ae] rfl])))
def Bbn(h:Chk z):(∀p,Ahv z=sr p->Pu P Ii[[.str z]] p.w)/\(Ahv z=sy->PuX P Ii[[.str z]] (u6 3 .non)):=by
 let g:z.length<=big:=aD h.hi ()
 let m:z.cps.toList.length=z.length:=aV;let(k,l):=Bf9 (P:=P) h;let d:=size_t (P:=P) g;rw[dj h.lo,dj h.hi] at d;unfold Ahv;cases e:tbt z with
 |none=>
  refine(λp q=>(nomatch q),λf=>N7 (ws:=[.str z]) rfl (Ark (Do d rfl An) (N6 (Bbm (c:=(u6 2 .non)) N6[At3[Aay[Aa Ad[rfl] Ae][l e]]] (by rfl') λu=>Aa Ac (Aa Ac Ae)))))
 |some o=>
  let pre:∀{c:Nat×W} {b:MS},PuE P b [sr .str[z],sr pgW[o]] c->PuE P Am[ifS (_) aB8 Ay][Am Ak9[λc=>c==2&&exm 2 c][3][aC2][Am Bg[1][zA Hx Ab[0]] Ay] b] (Bl 2 [.str z]) c:=λn=>
   Ark[Do d rfl An][Ark Ap3[Nr Bf[Ag[Aa Ad[rfl] Ae][k o e]] An] n]
  cases o with
  |none=>exact(λp q=>(nomatch q),λf=>N7 (ws:=[.str z]) rfl pre[N6[Az8 Ew[Af[Ag[Aa Ad[rfl] Ae][Bbl]]] rfl N6[Rj Aa[Ac][Aa Ac Ae] rfl]]])
  |some p=>
   let a:p.sm/\p.body.length < 4096:=by
    unfold tbt at e;split at e
    .exact Auu (by rw[dO,bM,m];have:=h.hi;omega) e
    .cases e
   let hp:=Ew (Af (Ag (Aa (Ad (P:=P) (Z:=[sr .str[z],sr p.w]) (i:=1) rfl) Ae) Bkw[a.1]));dsimp only;cases ob:p.okB with
   |false=>
    rw[vG];exact(λp q=>(nomatch q),λf=>N7 (ws:=[.str z]) rfl pre[N6[Az8 hp (by rw[ob];rfl) N6[Rj Aa[Ac][Aa Ac Ae] rfl]]])
   |true=>
    rw[jE];let hu:=Af (Aj (Ag (Aa (Ad (P:=P) (Z:=[sr .str[z],sr p.w]) (i:=1) rfl) (Aa (Ag (Aa (Ad (i:=1) rfl) Ae) Bfh[Bha a.1 ob]) (Aa (Ag (Aa (Ad (i:=0) rfl) Ae) len_str[g]) Ae))) (Bfj (size:=(z.length:Int)) a.2 (by have:=h.lo;omega) (by have:=h.hi;omega))) (Amp (Ad (i:=0) rfl) (aD () h.lo) g) Arm)
    cases j:(p.unch z.length==cut z 0 (z.length - 2)) with
    |false=>exact(λp q=>(nomatch q),λf=>N7 (ws:=[.str z]) rfl pre[Ark[Do hp (by rw[ob];rfl) An][N6[Az8 hu (by rw[j];rfl) N6[Rj Aa[Ac][Aa Ac Ae] rfl]]]])
    |true=>
     refine(λt q=>?_,λq=>(nomatch q));cases q;exact Bj (ws:=[.str z]) rfl Bq[Do d rfl An][Bq Ap3[Nr Bf[Ag[Aa Ad[rfl] Ae][k _ e]] An] Bq[Do hp (by rw[ob];rfl) An][Bq[Do hu (by rw[j];rfl) An][Aw Aq[Ad[rfl]]]]]
end
structure CkT(z:t6):Prop where
 lo:2<=z.length
 hi:z.length<=400
 tx:M2.Bs z=t8
 ck:M2.check (cut z 0 (z.length - 2))=cut z (z.length - 2) z.length
def Q5(z:t6):o9 Pg:=if 64<=z.length/\z.length<=200 then Ahv z else sy
section
def Bhd(h:isa 3 k=sr b):Pu P (Np isa [.exn 3 .non,k]) .bl[b]:=(λS a=>([],by
 rw[bC];unfold Np;dsimp only;rw[h];rfl))
def Auv(h:PuX P Ii[[w]] (u6 3 .non)):Pu P Gr[[w]] .non:=by
 apply Bj rfl;apply Aw;intro S a;let c:PuX[P][zA Ii Ab[0] [sr w,sy]][u6 3 .non]:=Aay (Aa Ad[rfl] Ae) h;let(G,e):=c S a;let d:PuR P aB1 [sr w,_] .non:=
  Aw (Aq (Qn (Ali (Af (Ag Aa[Ad rfl][Aa Ac Ae] (Bhd (b:=true) (by rfl')))) (Af (Ag Aa[Ad rfl][Aa Ac Ae] (Bhd (b:=true) (by rfl'))))) Ac))
 let(g,i):=d[S ++ G][P.st _ _ a];refine(G ++ g,?_);rw[<-aL];unfold Av6;let f:rQ (zA Ii Ab[0]) [sr w,sy] S=.ex[u6 3 .non][[sr w,sy]][S ++ G]:=by
  unfold rQ Am retS Ez;rw[e]
 rw[show Bl 2 [w]=[sr w,sy] from rfl,f];trivial
def Bbo(h:Pu P Ii[[w]] v):Pu P Gr[[w]] v:=by
 apply Bj rfl;apply Aw;intro S b;let a:PuR P rQ[zA _ Ab[0]] [_,sy] v:=Aw Aq[Ag[Aa Ad[rfl] Ae][h]];let(G,e):=a S b;refine(G,?_);unfold Av6;rw[show Bl 2 _=[_,_] from rfl,e]
def Amq(h:CkT z):Pu P Gr[[.str z]] pgW[Q5[z]]:=by
 unfold Q5;by_cases a:64<=z.length/\z.length<=200
 .rw[di a];let(c,b):=Bbn (P:=P) (a.1,a.2,h.tx,h.ck);cases e:Ahv z with
  |none=>exact Auv b[e]
  |some p=>exact Bbo[c p e]
 .rw[dm a];exact Auv Axb[aD h.hi ()][a]
end
def oW:o9 Int->W
 |none=>.non
 |some i=>.int i
def oN:o9 Nat->W
 |none=>.non
 |some k=>.int (k:Int)
def vO(z:t6):o9 Int:=if wrB z then sr Awx[z] else sy
def Ap4(h:M2.Bs x=t8):oH x=t8:=by
 unfold oH;unfold M2.Bs at h;rw[<-Array.all_toList];rw[aQ] at h ⊢
 exact λc a=>dj (by have:=M2.Ae0.mp[h c a];omega)
theorem Ap5:∀a:lg t6,(∀x∈a,M2.Bs x=t8)->yU a.map[iZ]=t8
 |[],_=>rfl
 |x::a,h=>by
  let(d,c):=gJ.mp h;show (oH x&&_)=t8;rw[Ap5 a c,Ap4 d];rfl
theorem Ahw:∀a:lg t6,aAm a.map[iZ]=0
 |[]=>rfl
 |x::a=>by
  show max 0 _=0;rw[Ahw a];rfl
def Pq{a:lg t6}(h:∀x∈a,M2.Bs x=t8):lN .list[a.map[iZ]]=t8:=by
 unfold lN;rw[aB,dh];refine(Ap5 a h,?_);show _+1<=64;rw[Ahw];decide
theorem Ahx:∀b a:lg t6,PyData.eqvAll b.map[iZ] a.map[iZ]=decide (b=a)
 |[],[]=>rfl
 |[],_::_=>rfl
 |_::_,[]=>rfl
 |x::b,y::a=>by
  show (x==y&&_)=_;rw[Ahx b a,uQ,aB,beq_iff_eq,dh,dh,aFl]
def R7{S:Store}{a:Nat}{b:lg t6}(h:S[a]?=sr .lst[b.map[W.str]]):Fd S 16 .ref[a]=sr .list[b.map[iZ]]:=by
 let z:∀b:lg t6,Ds[Fd S 15][b.map W.str]=sr b.map[iZ]:=λb=>by
  induction b with
  |nil=>rfl
  |cons x b e=>rw[bL,Ds,e];rfl
 unfold Fd;simp_all
section
def Bk7{f g:De->M W}{xs ys:lg t6}(i:PuL P f[Z] xs.map[W.str])(h:PuL P g[Z] ys.map[W.str])(e:∀x∈xs,M2.Bs x=t8)(d:∀x∈ys,M2.Bs x=t8):Pu P (Dz .NotEq f g Z) .bl[!decide (xs=ys)]:=(λS a=>by
 let(G,n,k,o,_):=i S a;let(c,m,j,l,_):=h[S ++ G][P.st _ _ a];refine(G ++ c,?_);rw[<-aL];unfold Dz;rw[Bk,k];dsimp only;rw[Bk,j];show eqD t8 .ref[n] .ref[m] _=_;unfold eqD;rw[R7[AtL.app o c],R7 l];dsimp only;rw[di (by rw[Pq e,Pq d];rfl)]
 rw[show qZ .list[_] .list[ys.map[iZ]]=_ from Ahx xs ys];rfl)
def Axc{z:t6}{a:Int}{c:Nat}{x:o9 W}(d:M1.inS c=t8):PuN P aA7
  [sr .str[z],sr .str["0123456789abcdefghijklmnopqrstuvwxyzABCDEFGHIJKLMNOPQRSTUVWXYZ+-"],sr .int[a],sr .str[⟨#[c]⟩]] [sr .str[z],sr .str["0123456789abcdefghijklmnopqrstuvwxyzABCDEFGHIJKLMNOPQRSTUVWXYZ+-"],sr .int[64 * a+(M1.idx c:Int)],sr .str[⟨#[c]⟩]]:=by
 refine Nr Bf[Ai[Ai Ac Ad[rfl] Je[by rfl]][Acs[Ad[rfl]][Aa Ad[rfl] Ae][?_]][Cm]] An
 let(r,e):=M1.Agj d;show Pu P (match cQ M1.sgs M1.one[c] 0 M1.sgs.length 1 with|i::_=>_|[]=>bad) _
 rw[e];exact Pu.pure
def Ajz{z:t6}(v:z.length<=3)(n:M2.Bs z=t8):Pu P Jh[[.str z]] oW[vO[z]]:=by
 let r:z.length<=big:=aD v ()
 let o:∀c∈z.cps.toList,M2.Bs ⟨#[c]⟩=t8:=λc h=>by
  rw[show M2.Bs ⟨#[c]⟩=M2.okC c from Ahk c];exact aQ.mp n c h
 let C:=Aaz (P:=P) (xs:=z.cps.toList) (φ:=λc=>W.str ⟨#[c]⟩) (ψ:=λc=>W.str ⟨#[c]⟩) (τ:=λc=>!M1.inS c) (s:=By 0) (t:=Dp[Dz .NotIn Ab[0] Ab[1]]) (e:=Ab 0) (k:=1) (cap:=[1])
  (Z:=[sr .str[z],sr .str["0123456789abcdefghijklmnopqrstuvwxyzABCDEFGHIJKLMNOPQRSTUVWXYZ+-"],sy,sy]) (src:=Eo Ab[0]) (Aex r Ad[rfl]) (Mi (cs:=[sr .str["0123456789abcdefghijklmnopqrstuvwxyzABCDEFGHIJKLMNOPQRSTUVWXYZ+-"]]))
  (λc m=>(Af[Aj Ad[rfl] Ad[rfl] Pu.pure],λm=>Ad rfl)) (_,rfl) (by rw[aV];exact r)
 let n:=Gh (Af (Aj (Ad (P:=P) (Z:=[sr .str[z],sr .str["0123456789abcdefghijklmnopqrstuvwxyzABCDEFGHIJKLMNOPQRSTUVWXYZ+-"],sy,sy]) (i:=0) rfl) (Ac (w:=.str "")) Rn))
  (Af (Bk7 (xs:=(z.cps.toList.filter λc=>!M1.inS c).map λc=>⟨#[c]⟩) (ys:=[]) (by rw[bW];exact C) (Aev Ae ()) (λx B=>by
   let(c,D,rfl):=bU.mp B;exact o c (pN.mp D).1) λm h=>nomatch h))
 let ev:((z==("":t6))||!decide ((z.cps.toList.filter λc=>!M1.inS c).map (λc=>(⟨#[c]⟩:t6))=[]))=!wrB z:=by
  unfold wrB;rw[dj v,sX,aDl,Acu]
  congr 1
  .obtain⟨⟨l⟩⟩:=z;cases l with
   |nil=>decide
   |cons c l=>exact(beq_eq_false_iff_ne.mpr[λe=>by cases e]).trans (by rw[dj (show 1<=(aFn ⟨c::l⟩).length from lC cY[_])];rfl)
  .congr 1
   rw[uQ,dh,wF,List.filter_eq_nil_iff,aQ];exact forall_congr' λc=>forall_congr' λm=>by cases M1.inS c <;> simp
 apply Bj (ws:=[.str z]) rfl;refine Bq Bf[Ac] ?_;unfold vO;cases f:wrB z with
 |false=>exact Aw (Fz n (by rw[ev,f];rfl) Aw[Aq[Ac]])
 |true=>
  let hi:∀c∈z.cps.toList,M1.inS c=t8:=by
   unfold wrB at f;rw[aB,aQ] at f;exact f.2
  refine Bq[Do n (by rw[ev,f];rfl) An][Bq Bf[Ac] ?_]
  let p:∀(l:lg Nat)(a:Int)(x:o9 W),(∀c∈l,M1.inS c=t8)->∃y,PuN P Nk[By[3]][aA7][l.map λc=>W.str ⟨#[c]⟩]
    [sr .str[z],sr .str["0123456789abcdefghijklmnopqrstuvwxyzABCDEFGHIJKLMNOPQRSTUVWXYZ+-"],sr .int[a],x] [sr .str[z],sr .str["0123456789abcdefghijklmnopqrstuvwxyzABCDEFGHIJKLMNOPQRSTUVWXYZ+-"],sr .int[M1.Acf l a],y]:=by
   intro l;induction l with
   |nil=>exact λa x m=>(x,Rk)
   |cons c l A=>
    intro a x o;let(y,q):=A[a * 64+(M1.idx c:Int)][sr .str[⟨#[c]⟩]][λd hd=>o d (bD _ hd)]
    exact(y,J2 rfl (Axc (x:=x) (o c bJ)) (by rw[yP 64];exact q))
  let(y,q):=p z.cps.toList 0 sy hi;exact Bq Mh[Aex r Ad[rfl]][q] Aw[Aq[Ad[rfl]]]
end
def pc(B:t6)(k m:Nat):t6:=toS[(B.cps.toList.drop k).take m]
def lTk(B:t6)(a:o9 Nat)(m:Nat):o9 Int×o9 Nat:=match a with
 |none=>(u6 sy sy)
 |some k=>if B.length < k+m then (u6 sy sy) else (u6 vO[pc B k m] sr[k+m])
def sW:o9 t6->W
 |none=>.non
 |some z=>.str z
def lWd(B:t6)(a:o9 Nat):o9 t6×o9 Nat:=match lTk B a 1 with
 |(sr i,sr k)=>if B.length < k+i.toNat then (u6 sy sy) else (u6 sr[pc B k i.toNat] sr[k+i.toNat])
 |_=>(u6 sy sy)
def lNs(B:t6)(a:o9 Nat):Nat->lg o9[Int]×o9 Nat
 |0=>(u6 [] a)
 |m+1=>(u6[(lNs B a m).1 ++ [(lTk B (lNs B a m).2 2).1]][(lTk B (lNs B a m).2 2).2])
theorem Abo(B:t6)(a:o9 Nat):∀m,(lNs B a m).1.length=m
 |0=>rfl
 |m+1=>by rw[lNs,aU,Abo B a m];rfl
def Aso{l:lg Nat}(h:l.all M2.okC=t8):M2.Bs toS[l]=t8:=h
def Adz(a:M2.Bs B=t8)(k m:Nat):M2.Bs[pc B k m]=t8:=(Aso (by
 rw[aQ];exact λc b=>aQ.mp a c mQ[vR[b]]))
def Amr(B:t6)(k m:Nat):(pc B k m).length<=m:=by
 unfold pc;rw[Il,dO];exact uR _ _
def Bbp{i:Int}(h:vO z=sr i):0<=i:=by
 unfold vO at h;split at h
 .cases h;exact Ae7 _ _ (by simp)
 trivial
section
variable{a:o9 Nat}
def Ji(h:Pu P t[Z] t8):Pu P (orT t u Z) t8:=h.bind Pu.pure
def Abp(h:Pu P f[Z] w)(d:s w Z=sr Z'):PuN P (Tv s f) Z Z':=(λS b=>by
 let(G,e):=h S b;exact(G,by unfold Tv Ez;simp_all))
def Mm{s:Tg}{f:De->M W}{S:Store}{c:MS}{K:RS->Prop}(h:Wm f[Z] S λw d=>∃b,s w Z=sr b/\Wb c b d K):Wb Am[Tv s f][c] Z S K:=(Lr ⟨by
 refine La[Dw h λw d g=>?_];let(b,e,q):=g;rw[e];exact q⟩)
def Ams{i:Int}:Pu P (El .Is .int[i] .non) .bl[t7]:=Pu.pure
def Amt:Pu P (El .Is .str[z] .non) .bl[t7]:=Pu.pure
def K9:Pu P (El .Is .non .non) .bl[t8]:=Pu.pure
def Mp:Pu P Df[yB kF[.non] kF[.non]][Z] .tup[[.non,.non]]:=(Cu Aa[Ac][Aa Ac Ae] ())
def Dy:2<=big:=by decide
def Aei{k m:Nat}:Pu P Bop.fn[.add][.int (k:Int)][.int (m:Int)] (.int ((k+m:Nat):Int)):=Cm.cast[congrArg _ (Int.natCast_add k m).symm]
def Amu(f:B.length<=400)(e:M2.Bs B=t8){m:Nat}(j:m<=2):Pu P Ih[[.str B,oN a,.int (m:Int)]] .tup[[oW (lTk B a m).1,oN (lTk B a m).2]]:=by
 let d:B.length<=big:=aD f ()
 apply Bj rfl;cases a with
 |none=>exact Aw (Fz Ji[Af[Aj Ad[rfl] Ac K9]] rfl Aw[Aq[Mp]])
 |some k=>
  let b:=Gh (Af (Aj (Ad (P:=P) (Z:=Bl 3 [.str B,oN sr[k],.int (m:Int)]) (i:=1) rfl) Ac (Ams))) (Af (Aj (Ai (Ad (i:=1) rfl) (Ad (i:=2) rfl) (Aei (k:=k) (m:=m))) (Ag (Aa (Ad (i:=0) rfl) Ae) len_str[d]) Qo));unfold lTk;dsimp only;by_cases h:B.length < k+m
  .rw[di h];exact Aw[Fz b (by rw[dj ()];rfl) Aw[Aq[Mp]]]
  .rw[dm h];refine Bq[Do b (by rw[dq ()];rfl) An][Aw Aq[Cu Aa[Ag Aa[Ac0 Ad[rfl] Ad[rfl] (Ai Ad[rfl] Ad[rfl] Aei) d][Ae] Ajz[aD (Amr B k m) ()][?_]][Aa[Ai Ad[rfl] Ad[rfl] Aei][Ae]] Dy]]
   .exact Adz e k m
def Bbq(g:B.length<=400)(n:M2.Bs B=t8):Pu P Pa[[.str B,oN a]] .tup[[sW (lWd B a).1,oN (lWd B a).2]]:=by
 let f:B.length<=big:=aD g ()
 let p:=Amu (P:=P) (a:=a) g n (m:=1) ()
 apply Bj (ws:=[.str B,oN a]) rfl;refine Bq (Abp Ag[Aa Ad[rfl] Aa[Ad rfl][Aa Ac Ae]][p] rfl) ?_;unfold lWd;let d:∀i,(lTk B a 1).1=sr i->0<=i/\(lTk B a 1).2≠sy:=λi h=>by
  unfold lTk at h ⊢
  cases a with
  |none=>cases h
  |some k=>
   dsimp only at h ⊢
   split at h
   .cases h
   .rename_i z;rw[dm z];exact(Bbp h,λe=>nomatch e)
 generalize lTk B a 1=x at d;let(o,q):=x;cases o with
 |none=>exact Aw (Fz Ji[Af[Aj Ad[rfl] Ac K9]] rfl Aw[Aq[Mp]])
 |some i=>
  let(s,l):=d i rfl;cases q with
  |none=>exact absurd rfl l
  |some k=>
   obtain⟨j,rfl⟩:∃j:Nat,i=(j:Int):=(i.toNat,())
   dsimp only;rw[show (j:Int).toNat=j by omega]
   let c:=Gh (Af (Aj (Ad (P:=P) (Z:=[sr .str[B],sr[.int (k:Int)],sr[.int (j:Int)]]) (i:=2) rfl) Ac (Ams (i:=(j:Int))))) (Af (Aj (Ai (Ad (i:=1) rfl) (Ad (i:=2) rfl) (Aei (k:=k) (m:=j))) (Ag (Aa (Ad (i:=0) rfl) Ae) len_str[f]) Qo));by_cases h:B.length < k+j
   .rw[di h];exact Aw[Fz c (by rw[dj ()];rfl) Aw[Aq[Mp]]]
   .rw[dm h];exact Bq[Do c (by rw[dq ()];rfl) An][Aw Aq[Cu Aa[Ac0 Ad[rfl] Ad[rfl] (Ai Ad[rfl] Ad[rfl] Aei) f][Aa[Ai Ad[rfl] Ad[rfl] Aei][Ae]] Dy]]
def Bn8(S S':Store)(n:Nat)(ws:lg W):Prop:=Fr [] S S'/\S'[n]?=sr .lst[ws]/\S.length<=n
def Asp{m:Nat}(u:B.length<=400)(r:M2.Bs B=t8)(x:m<=100)(q:∀n o,Bn8 S o n ((lNs B a m).1.map oW)->Q .tup[[.ref n,oN (lNs B a m).2]] o):Wm Hs[[.str B,oN a,.int (m:Int)]] S Q:=by
 apply Jo (ws:=[.str B,oN a,.int (m:Int)]) rfl;refine Bw Xr[Bm ((),?_)]
 refine Acb (P:=SP.any) (Gx (k:=m) (Aa Ad[rfl] Ae) (by unfold big;omega)) trivial λA l=>?_
 generalize s:S.length=n;refine Aa2 (J:=λi Z T=>∃f e,Z=[sr .str[B],sr oN[(lNs B a i).2],sr[.int (m:Int)],sr .ref[n],f,e]/\Fr [] S T/\T[n]?=sr .lst[(lNs B a i).1.map oW]) ?_ ?_ ?_
 .rintro i w Z T p ⟨f,e,rfl,g,b⟩;let hi:i < m:=by
   have:=(aK.mp p).1;rw[aC,bO] at this;exact this
  refine(_,rfl,?_);refine Mm (Ar (Ag (Aa Ad[rfl] Aa[Ad rfl][Aa Ac Ae]) (Amu u r (m:=2) ())) λz d=>(_,rfl,?_))
  refine Aa1 (Aez (P:=SP.any) Ad[rfl] trivial d.at0[b] λy h=>Av[Cd rfl Bm[Ab9 h.at0[d.at0[b]] (by rw[aC,Abo];unfold big;omega) ?_]])
  refine Jg (_,_,rfl,(g.then0 d.then0[h]).trans Fr.set (λj t=>.inr (by rw[aR.mp t];omega)),?_)
  rw[M3 Fj[h.at0[d.at0[b]]],lNs,dY];rfl
 .rintro Z T ⟨f,e,rfl,g,b⟩;rw[aC,bO] at b ⊢
  exact Ef Hg[Av[Cd rfl Av[Cd[rfl][Bm (Dy,q n T (g,b,()))]]]]
 .exact(_,_,rfl,Fr.app.then0 l,l.at0 (by rw[<-s];exact Ey))
end
def cW:o9 Cl->W
 |none=>.non
 |some c=>c.w
def Bpy:lg o9[Int]->o9 Cl
 |[sr x,sr y]=>sr (.out x y)
 |_=>sy
def lCl(B:t6)(a:o9 Nat):o9 Cl×o9 Nat:=match a with
 |none=>(u6 sy sy)
 |some k=>if B.length<=k then (u6 sy sy) else if pc B k 1="i" then (u6[(lWd B sr[k+1]).1.map Cl.inn][(lWd B sr[k+1]).2])
  else (u6 (if pc B k 1="o" then Bpy (lNs B sr[k+1] 2).1 else sy) ((lNs B sr[k+1] 2).2))
section
variable{a:o9 Nat}
def Ap6(h:Pu P t[Z] t7):Pu P (Ad3 t u Z) t7:=h.bind Pu.pure
def Bhe{k:Nat}(h:k < B.length)(b:B.length<=big):Pu P ixW[.str B][.int (k:Int)] .str[pc B k 1]:=by
 let e:_=B.length:=aV;refine Pu.cast (by have:=Xk (P:=P) b h;rw[oK] at this;omega) ?_
 unfold pc;rw[gO _,dN,aZ ()]
 rfl
def Aj0(os:lg o9[Int]):(os.map oW).all Ak1[.non]=t8/\(os.map oW).any (eqF · .non)=os.any fP:=by
 induction os with
 |nil=>exact(rfl,rfl)
 |_ o os b=>
  rw[bL,cP,mZ,b.1,b.2];cases o <;> exact(rfl,rfl)
def Bga{n:Nat}{os:lg o9[Int]}(h:S[n]?=sr .lst[os.map[oW]])(q:Q .bl[!os.any fP] S):Wm (El .NotIn .non .ref[n]) S Q:=by
 refine(_,S,?_,q);show inW _ _ .ref[n] S=_;unfold inW;dsimp only;rw[h];dsimp only;unfold Avy;rw[(Aj0 os).1,(Aj0 os).2];rfl
def Bk8(s:B.length<=400)(v:M2.Bs B=t8):Pu P Hu[[.str B,oN a]] .tup[[cW (lCl B a).1,oN (lCl B a).2]]:=by
 let z:B.length<=big:=aD s ()
 cases a with
 |none=>
  apply Bj (ws:=[.str B,.non]) rfl;exact Aw (Fz Ji[Af[Aj Ad[rfl] Ac K9]] rfl Aw[Aq[Mp]])
 |some k=>
  let d:∀{P},Pu P _ _:=λ{P}=>Gh (Af (Aj (Ad (P:=P) (Z:=Bl 5 [.str B,.int (k:Int)]) (i:=1) rfl) Ac (Ams (i:=(k:Int))))) (Af (Aj (Ad (i:=1) rfl) (Ag (Aa (Ad (i:=0) rfl) Ae) len_str[z]) Bnl));unfold lCl;dsimp only;by_cases h:B.length<=k
  .rw[di h];apply Bj (ws:=[.str B,.int (k:Int)]) rfl;exact Aw[Fz d (by rw[dj ()];rfl) Aw[Aq[Mp]]]
  rw[dm h];let hi:∀{P Z},Z[0]?=sr sr[.str[B]]->Z[1]?=sr sr[.int (k:Int)]->Pu P (ixF Ab[0] Ab[1] Z) .str[pc B k 1]:=λI H=>Be[Ad I][Ad H][Bhe () z]
  by_cases j:pc B k 1="i"
  .rw[di j];apply Bj (ws:=[.str B,.int (k:Int)]) rfl;refine Bq (Do d (by rw[dq ()];rfl) An) Aw[Fz Af[Aj[hi rfl rfl][Ac][Rn]] (by rw[j];rfl) ?_]
   refine Bq (Abp (Ag (Aa Ad[rfl] (Aa (Ai Ad[rfl] Ac (Aei (k:=k) (m:=1))) Ae)) (Bbq (a:=sr[k+1]) s v)) rfl) ?_;generalize lWd B sr[k+1]=x;let(o,q):=x;cases o with
   |none=>exact Aw Aq[Cu Aa[Qn Af[Aj Ad[rfl] Ac K9] Ac][Aa Ad[rfl] Ae] Dy]
   |some t=>exact Aw Aq[Cu Aa[Agd[Af[Aj Ad[rfl] Ac Amt]][Cu Aa[Ac][Aa Ad[rfl] Ae] Dy]][Aa Ad[rfl] Ae] Dy]
  rw[dm j];refine Q4 λS O=>?_;apply Jo (ws:=[.str B,.int (k:Int)]) rfl;refine Dt[Ar d λX N=>(by rw[dq ()];rfl,?_)]
  refine Dt[Ar Af[Aj[hi rfl rfl][Ac][Su[j]]] λU L=>(rfl,?_)];refine Mm (Aey (P:=SP.any) (Aa Ad[rfl] (Aa (Ai Ad[rfl] Ac (Aei (k:=k) (m:=1))) (Aa Ac Ae))) trivial λT J=>Asp (a:=sr[k+1]) (m:=2) s v () λn u w=>(_,rfl,?_))
  let r:Fr [] S u:=((N.then0 L).then0 J).then0 w.1;let A:=Abo B sr[k+1] 2;let l:=w.2.1;generalize lNs B sr[k+1] 2=x at A l;let(os,q):=x;by_cases g:pc B k 1="o"
  .rw[di g];let c:∀{Q:Bool->Store->Prop},(∀e,Fr [] u e->Q (!os.any fP) e)->Wm Ad3[tQ[.Eq][ixF Ab[0] Ab[1]][kS["o"]]][tQ .NotIn kF[.non] Ab[4]][[sr .str[B],sr[.int (k:Int)],sy,sr oN[q],sr .ref[n]]] u Q:=λG=>
    Be8[Ar Af[Aj[hi rfl rfl][Ac][g ▸ Qh]] λC p=>(rfl,Ig Aro[Gd[Cd[rfl][Bga p.at0[l] (rfl,G C p)]]])]
   match os,A with
   |[o1,o2],_=>
    refine Ef Hg[Av[?_]];cases o1 with
    |none=>exact Aa0 (c λe f=>(rfl,Gd Av[Cd[rfl][Bm (Dy,rfl,r.then0 f)]]))
    |some x=>
     cases o2 with
     |none=>exact Aa0 (c λe f=>(rfl,Gd Av[Cd[rfl][Bm (Dy,rfl,r.then0 f)]]))
     |some y=>
      refine At8[c λe f=>(rfl,Hg Av[Gd[Av[Aja[Cd rfl Gd[Ro f.at0[l] rfl ?_]]]]])];refine Av Aja[Cd rfl Gd[Ro[f.at0[l]][rfl][Bm ((show 3<=big by decide),?_)]]]
      exact Av Cd[rfl][Bm (Dy,rfl,r.then0 f)]
  .rw[dm g];exact Ef Hg[Av[Aa0[Ar Ap6[Af[Aj[hi rfl rfl][Ac][Su[g]]]] λC p=>(rfl,Gd Av[Cd[rfl][Bm (Dy,rfl,r.then0 p)]])]]]
end
def Ail(B:t6)(c:Bool)(q:o9 Nat):o9[(t6×Cl)×o9 Nat]:=match (lWd B q).1 with
 |none=>sy
 |some k=>if c=t8 then (lCl B (lWd B q).2).1.map λx=>(u6[u6 k x][(lCl B (lWd B q).2).2]) else sr u6[u6 k .inn[k]][(lWd B q).2]
def lRw(B:t6)(c:Bool)(a:o9 Nat):Nat->o9 (lg[t6×Cl]×o9 Nat)
 |0=>sr (u6 [] a)
 |m+1=>match lRw B c a m with
  |none=>sy
  |some x=>(Ail B c x.2).map λy=>(u6 (x.1 ++ [y.1]) y.2)
theorem Ae9{a:o9 Nat}:∀{m:Nat} {x:lg[t6×Cl]×o9 Nat},lRw B c a m=sr x->x.1.length=m
 |0,x,h=>by cases h;rfl
 |m+1,x,h=>by
  rw[lRw] at h;cases e:lRw B c a m with
  |none=>simp_all
  |_ y=>
   rw[e] at h;let(z,_,rfl):=bF.mp h;rw[aU,Ae9 e];rfl
theorem Bbr{a:o9 Nat}{i:Nat}(h:lRw B c a i=sy):∀m,lRw B c a (i+m)=sy
 |0=>h
 |m+1=>by rw[<-gR,lRw,Bbr h m]
def rwW(c:Bool)(r:t6×Cl):W:=.tup [.str r.1,if c=t8 then r.2.w else .non]
def lRs(B:t6)(c:Bool):o9 lg[t6×Cl]×o9 Nat:=match (lTk B sr[0] 1).1 with
 |none=>(u6 sy ((lTk B sr[0] 1).2))
 |some i=>match lRw B c (lTk B sr[0] 1).2 i.toNat with
  |none=>(u6 sy sy)
  |some x=>(u6 sr[x.1] x.2)
section
variable{a:o9 Nat}
def Bn9(c:Cl):Pu P (El .Is c.w .non) .bl[t7]:=by cases c <;> exact Pu.pure
def Aj1{i:Int}:Pu P (El .IsNot .int[i] .non) .bl[t8]:=Pu.pure
def Aj2:Pu P (El .IsNot .non .non) .bl[t7]:=Pu.pure
def Jj(h:Pu P t[Z] t7)(h2:Pu P u[Z] p):Pu P (orT t u Z) p:=h.bind h2
def Ap7(h:Pu P t[Z] t8)(h2:Pu P u[Z] p):Pu P (Ad3 t u Z) p:=h.bind h2
def Ahy{k m:Nat}{i:Int}(f:m<=3)(h:(lTk B sr[k] m).1=sr i):0<=i/\i < 64 ^ m/\(lTk B sr[k] m).2=sr[k+m]/\k+m<=B.length/\vO[pc B k m]=sr i:=by
 unfold lTk at h ⊢
 dsimp only at h ⊢
 split at h
 .cases h
 .rename_i c;rw[dm c];let g:=h;unfold vO at h;dsimp only at h;split at h
  .rename_i b;have:=Ap1 (m:=m) (l:=B.cps.toList.drop k) (i:=i) (l':=(B.cps.toList.drop k).drop m) (by
    cases h;exact di b)
   simp_all
  trivial
def Bbs(I:B.length<=400)(G:M2.Bs B=t8)(g:∀D,(lRs B c).1=sy->Fr [] S D->Q .tup[[.non,oN (lRs B c).2]] D)(s:∀rs n D,(lRs B c).1=sr rs->Bn8 S D n rs.map[rwW[c]]->Q .tup[[.ref n,oN (lRs B c).2]] D):Wm Vr[[.str B,.bl c]] S Q:=by
 apply Jo (ws:=[.str B,.bl c]) rfl;refine Mm (Ar (Ag (Aa Ad[rfl] Aa[Ac][Aa Ac Ae]) (Amu (a:=sr 0) I G (m:=1) ())) λt l=>(_,rfl,?_))
 refine Bw Xr[Bm ((),?_)]
 let N:Fr [] S (t ++ [.lst []]):=l.then0 .app;let p:(t ++ [Cell.lst []])[t.length]?=sr .lst[[]]:=Ey;let A:S.length<=t.length:=l.len;generalize t.length=n at p A;generalize t ++ [Cell.lst []]=S2 at N p;unfold lRs at g s;cases O:(lTk B sr[0] 1).1 with
 |none=>
  rw[O] at g;refine Acb (P:=SP.any) (Gx (k:=0) Aa[Agd Af[Aj Ad[rfl] Ac Aj2] Ac][Ae] ()) trivial λS3 F=>⟨?_⟩
  show Wb _ _ _ _;exact Ef Hg[Av[Aa0[Ar Af[Aj Ad[rfl] Ac Aj2] λS4 E=>(rfl,Gd Av[Cd[rfl][Bm (Dy,g _ rfl ((N.then0 F).then0 E))]])]]]
 |some i=>
  let(i1,i2,i3,i4,_):=Ahy () O
  rw[O] at g s;dsimp only at g s;obtain⟨m,rfl⟩:∃m:Nat,i=(m:Int):=(i.toNat,())
  rw[show (m:Int).toNat=m by omega] at g s
  let hm:m<=100:=by
   have:(64:Int) ^ 1=64:=rfl;omega
  refine Acb (P:=SP.any) (Gx (k:=m) Aa[Qn Af[Aj Ad[rfl] Ac Aj1] Ad[rfl]][Ae] (by unfold big;omega)) trivial λS3 F=>?_
  refine Aa2 (J:=λj Z T=>∃v u x7 x,lRw B c (lTk B sr[0] 1).2 j=sr x/\Z=[sr .str[B],sr .bl[c],sr[.int (m:Int)],sr oN[x.2],sr .ref[n],v,u,x7]/\Fr [] S T/\T[n]?=sr .lst[x.1.map[rwW[c]]]) ?_ ?_ ?_
  .rintro j w Z T hw ⟨v,u,x7,x,z,rfl,L,H⟩;let hj:j < m:=by
    have:=(aK.mp hw).1;rw[aC,bO] at this;exact this
   let hnext:lRw B c (lTk B sr[0] 1).2 (j+1)=(Ail B c x.2).map λy=>(u6 (x.1 ++ [y.1]) y.2):=by rw[lRw,z]
   refine(_,rfl,?_);refine Mm (Ar (Ag Aa[Ad rfl][Aa Ad[rfl] Ae] (Bbq (a:=x.2) I G)) λT1 e1=>(_,rfl,?_));refine Bw Gd[?_];let stop:∀{r},Ail B c x.2=sy->Fr [] S r->Q .tup[[.non,.non]] r:=λhr f=>by
    rw[hr] at hnext;have:=Bbr hnext (m - (j+1));rw[show j+1+(m - (j+1))=m by omega] at this
    rw[this] at g;exact g _ rfl f
   let go:∀{r y x7},Ail B c x.2=sr y->Fr [] S r->r[n]?=sr .lst[x.1.map[rwW[c]]]->Wb aC1 [sr .str[B],sr .bl[c],sr[.int (m:Int)],sr oN[y.2],sr .ref[n],sr w,sr .str[y.1.1],sr x7] r
     (Aua (λZ T=>∃v u x7 x,lRw B c (lTk B sr[0] 1).2 (j+1)=sr x/\Z=[sr .str[B],sr .bl[c],sr[.int (m:Int)],sr oN[x.2],sr .ref[n],v,u,x7]/\Fr [] S T/\T[n]?=sr .lst[x.1.map[rwW[c]]]) (Sg aC0 Aca[Q]))\/x7≠if c=t8 then y.1.2.w else .non:=by
    intro r y x7 hy f q;by_cases h7:x7=if c=t8 then y.1.2.w else .non
    .left;refine Aa1 (Aez (P:=SP.any) Ad[rfl] trivial q λT2 b=>Av Hg[Av[Cd rfl Av[Cd[rfl][Bm (Dy,Bm[Ab9 b.at0[q] (by rw[aC,Ae9 z];unfold big;omega) ?_])]]]])
     refine Jg (_,_,_,(u6 (x.1 ++ [y.1]) y.2),by rw[hnext,hy];rfl,rfl,(f.then0 b).trans Fr.set (λk hk=>.inr (by rw[aR.mp hk];omega)),?_)
     rw[M3 Fj[b.at0[q]],dY,h7];rfl
    .exact .inr h7
   unfold Ail at stop go;let l:Fr [] S T1:=L.then0 e1;let C:=e1.at0 H;generalize lWd B x.2=y at stop go;let(ko,Y):=y;cases c with
   |false=>
    refine Dt[Ar Af[Ad[rfl]] λT2 b=>(rfl,?_)];cases ko with
    |none=>exact Fp (Ar Ji[Af[Aj Ad[rfl] Ac K9]] λT3 e=>(rfl,Ef[Ar Mp λX o=>stop rfl (((l.then0 b).then0 e).then0 o)]))
    |some k=>
     refine Dt[Ar[Jj Af[Aj Ad[rfl] Ac Amt] Ap6[Af[Ad[rfl]]]] λT3 e=>(rfl,?_)];exact(go (x7:=.non) rfl ((l.then0 b).then0 e) e.at0[b.at0[C]]).resolve_right λh=>h rfl
   |true=>
    refine Fp[Ar Af[Ad[rfl]] λT2 b=>(rfl,?_)];refine Mm (Ar (Ag Aa[Ad rfl][Aa Ad[rfl] Ae] (Bk8 (a:=Y) I G)) λT3 e=>(_,rfl,Jg ?_));show Wb _ _ _ _;generalize lCl B Y=y at stop go;let(co,q2):=y;cases ko with
    |none=>exact Fp (Ar Ji[Af[Aj Ad[rfl] Ac K9]] λX o=>(rfl,Ef[Ar Mp λT5 U=>stop rfl ((((l.then0 b).then0 e).then0 o).then0 U)]))
    |some k=>
     cases co with
     |none=>exact Fp (Ar Jj[Af[Aj Ad[rfl] Ac Amt]][Ap7 Af[Ad[rfl]] Af[Aj Ad[rfl] Ac K9]] λX o=>(rfl,Ef[Ar Mp λT5 U=>stop rfl ((((l.then0 b).then0 e).then0 o).then0 U)]))
     |some cl=>
      refine Dt[Ar Jj[Af[Aj Ad[rfl] Ac Amt]][Ap7 Af[Ad[rfl]] Af[Aj Ad[rfl] Ac Bn9[cl]]] λX o=>(rfl,?_)];exact(go (x7:=cl.w) rfl (((l.then0 b).then0 e).then0 o) o.at0[e.at0[b.at0[C]]]).resolve_right λh=>h rfl
  .rintro Z T ⟨v,u,x7,x,z,rfl,L,H⟩;rw[aC,bO] at z;rw[z] at s;exact Ef Hg[Av[At8[Ar Af[Aj Ad[rfl] Ac Aj1] λS4 E=>(rfl,Cd rfl Av[Cd[rfl][Bm (Dy,s _ n _ rfl (L.then0 E,E.at0 H,A))]])]]]
  .refine(_,_,_,(u6 [] ((lTk B sr[0] 1).2)),rfl,rfl,N.then0 F,F.at0 p)
end
inductive Raw where
 |nums (w:t6) (os:List (Option Int))
 |rest (t:t6) (o:Option Int)
 |leaf (rs:List (t6×Cl))
 |fork (ks:List t6) (os:List (Option Int))
def Raw.w:Raw->W
 |.nums w os=>.tup (.str w::os.map oW)
 |.rest t o=>.tup [.str "rest",.str t,oW o]
 |.leaf rs=>.tup [.str "leaf",.tup rs.map[K7]]
 |.fork ks os=>.tup [.str "fork",.tup ks.map[W.str],.tup os.map[oW]]
def Bbt:o9 Raw->W
 |none=>.non
 |some r=>r.w
def ltold(c B:t6):o9 Raw×o9 Nat:=
 if c="h" then (u6 sr[.nums "head" (lNs B sr[0] 4).1] ((lNs B sr[0] 4).2))
 else if c="e" then (u6 sr[.nums "free" (lNs B sr[0] 1).1] ((lNs B sr[0] 1).2))
 else if c="r" then (u6 sr[.rest toS[B.cps.toList.drop[2]] (lTk B sr[0] 2).1] sr[B.length])
 else if c="l" then (u6[(lRs B t8).1.map Raw.leaf][(lRs B t8).2])
 else match (lRs B t7).1 with
  |none=>(u6 sy ((lRs B t7).2))
  |some rs=>(u6 (sr (.fork (rs.map (·.1)) (lNs B (lRs B t7).2 (rs.length+1)).1)) ((lNs B (lRs B t7).2 (rs.length+1)).2))
def Ahz(z:t6)(i:Nat):fQ z (sr (i:Int)) sy=toS z.cps.toList.drop[i]:=by
 let d:z.cps.toList.length=z.length:=aV;let e:fQ z (sr (i:Int)) sy=fQ[z][sr (i:Int)][sr ((i+z.length:Nat):Int)]:=by
  unfold fQ fC
  grind
 rw[e,Acy,jC (by rw[bM];omega)]
abbrev he2:lg[(De->M W)×(De->M W)]:=[((kS "h"),(kS "head")),((kS "e"),(kS "free"))]
def heK:lg[Key×W]:=[(.inr "h",.str "head"),(.inr "e",.str "free")]
section
def Boa(h:Pu P (Ab 0 Z) .str[c])(a:Ak0 heK .inr[c]=sr .str[w]):Pu P (ixF Nz[he2] Ab[0] Z) .str[w]:=(λS d=>by
 let f:Nz he2 Z S=.ok[.ref S.length][S ++ [.dct heK]]:=by
  rfl
 let(G,e):=h _ (P.st _ _ d);refine([.dct heK] ++ G,?_);unfold ixF;rw[Bk,f];dsimp only;rw[Bk,e];let b:(S ++ [Cell.dct heK] ++ G)[S.length]?=sr .dct[heK]:=by
  rw[aX[by simp],bB aO[_],fV]
  rfl
 unfold ixW;dsimp only;rw[b];dsimp only[Afw];rw[a,aL];rfl)
def Bbu{m:Nat}(i:B.length<=400)(g:M2.Bs B=t8)(s:m<=4)(b:∀{P},Pu P (El .In .str[c] .tup[[.str "h",.str "e"]]) .bl[t8])(h:∀{P Z},Pu P (Ab 0 Z) .str[c]->Pu[P][Jz (tQ .Eq Ab[0] kS["h"]) kI[4] kI[1] Z][.int (m:Int)])(f:Ak0 heK .inr[c]=sr .str[w]):Pu P Hv[[.str c,.str B]] .tup[[(Raw.nums w (lNs B sr[0] m).1).w,oN (lNs B sr[0] m).2]]:=by
 refine Q4 λS r=>?_;apply Jo rfl;refine Fp[Ar Af[Aj[Ad[rfl]][Cu Aa[Ac][Aa Ac Ae] Dy][b]] λv l=>(rfl,?_)];refine Mm (Aey (P:=SP.any) (Aa Ad[rfl] Aa[Ac][Aa h[Ad[rfl]] Ae]) trivial λu k=>Asp (a:=sr 0) i g () λn t d=>(_,rfl,?_))
 refine Ef Hg[Av[Ei[Av[Lq[Xr[Av[Ar[Boa Ad[rfl] f] λo e=>Bm (by show 1<=big;decide,?_)]]]]]]]
 let j:(o ++ [Cell.lst [W.str w]])[n]?=_:=Fr.app.at0 e.at0[d.2.1];refine Cd rfl (At7 Ey j (by rw[aC,Abo];show 1+m<=big;unfold big;omega) Bm[Kw Ey Av[Cd[rfl][Bm (Dy,rfl,?_)]]])
 exact((((l.then0 k).then0 d.1).then0 e).then0 .app).then0 .app
def Axd(d:B.length<=400)(e:M2.Bs B=t8):Pu P Hv[[.str "r",.str B]] .tup[[(Raw.rest toS[B.cps.toList.drop[2]] (lTk B sr[0] 2).1).w,.int (B.length:Int)]]:=by
 let c:B.length<=big:=aD d ()
 apply Bj rfl;refine Bq (Do Af[Aj[Ad rfl][Cu Aa[Ac][Aa Ac Ae] Dy][λS g=>([],by rw[bC];rfl')]] (p:=false) rfl An) ?_
 refine Aw[Fz Af[Aj Ad[rfl] Ac Qh] rfl ?_];refine Bq (Abp (Ag (Aa Ad[rfl] Aa[Ac][Aa Ac Ae]) (Amu (a:=sr 0) d e (m:=2) ())) rfl) ?_
 refine Aw Aq[Cu Aa[Cu (Aa Ac Aa[Jv Ad[rfl] Dq[Ac] Ek ?_][Aa Ad[rfl] Ae]) (by show 3<=big;decide)][Aa Ag[Aa Ad[rfl] Ae][len_str c] Ae] Dy]
 show Pu P (if B.length<=big then pure W.str[fQ[B][sr ((2:Nat):Int)][sy]] else bad) _
 rw[Ahz];exact Fv c Pu.pure
def Axe(l:B.length<=400)(k:M2.Bs B=t8):Pu P Hv[[.str "l",.str B]] .tup[[Bbt[(lRs B t8).1.map Raw.leaf],oN (lRs B t8).2]]:=by
 refine Q4 λS j=>?_;apply Jo rfl;refine Dt[Ar Af[Aj[Ad rfl][Cu Aa[Ac][Aa Ac Ae] Dy][λS j=>([],by rw[bC];rfl')]] λt i=>((rfl:t7=t7),?_)]
 refine Dt[Ar Af[Aj[Ad[rfl]][Ac][Su ()]] λs h=>(rfl,?_)]
 refine Mm (Aey (P:=SP.any) (Aa Ad[rfl] Aa[Aj Ad[rfl] Ac Qh][Ae]) trivial λr g=>Bbs (c:=true) l k (λq e m=>(_,rfl,?_)) λrs n q e f=>(_,rfl,?_))
 .rw[e];refine Fp[Ar Ji[Af[Aj Ad[rfl] Ac K9]] λp b=>(rfl,?_)];exact Ef[Ar[Cu Aa[Qn Af[Aj Ad[rfl] Ac K9] Ac][Aa Ad[rfl] Ae] Dy] λo a=>(rfl,((((i.then0 h).then0 g).then0 m).then0 b).then0 a)]
 .rw[e];let d:∀{P},Pu P (El .Is .ref[n] .non) .bl[t7]:=Pu.pure;refine Fp[Ar[Jj Af[Aj Ad[rfl] Ac d] Af[Aj Ad[rfl] Ac Qh]] λp b=>(rfl,?_)];refine Ef Hg[Av[Aa0[Ar Af[Aj Ad[rfl] Ac d] λo a=>(rfl,Hg Av[Gd[Av[Ei[Av[Cd rfl Bm[Kw[a.at0 b.at0[f.2.1]][Bm (Dy,?_)]]]]]]])]]];exact Av Cd[rfl][Bm (Dy,rfl,((((i.then0 h).then0 g).then0 f.1).then0 b).then0 a)]
set_option tactic.hygienic true in
def told_fork(p:B.length<=400)(l:M2.Bs B=t8):Pu P Hv[[.str "f",.str B]] .tup[[Bbt (ltold "f" B).1,oN (ltold "f" B).2]]:=by
 unfold ltold;rw[dm (),dm (),dm (),dm ()]
 refine Q4 λS b=>?_;apply Jo (ws:=[.str "f",.str B]) rfl;refine Dt[Ar Af[Aj[Ad rfl][Cu Aa[Ac][Aa Ac Ae] Dy][λS b=>([],by rw[bC];rfl')]] λT y=>((rfl:t7=t7),?_)]
 refine Dt[Ar Af[Aj[Ad[rfl]][Ac][Su ()]] λQ w=>(rfl,?_)]
 refine Mm (Aey (P:=SP.any) Aa[Ad rfl][Aa Aj[Ad[rfl]][Ac][Su ()] Ae] trivial λO v=>Bbs (c:=false) p l (λI e E=>(_,rfl,?_)) λrs n I e o=>(_,rfl,?_))
 .rw[e];refine Fp[Ar Ji[Af[Aj Ad[rfl] Ac K9]] λH g=>(rfl,?_)];exact Ef[Ar[Cu Aa[Qn Af[Aj Ad[rfl] Ac K9] Ac][Aa Ad[rfl] Ae] Dy] λG f=>(rfl,((((y.then0 w).then0 v).then0 E).then0 g).then0 f)]
 .rw[e];let C:rs.length<=63:=by
   unfold lRs at e;split at e
   .cases e
   .rename_i i F;have:=(Ahy () F).2.1
    split at e
    .cases e
    .rename_i x ex;cases e;rw[Ae9 ex];have:(64:Int) ^ 1=64:=rfl;omega
  let z:∀{P},Pu P (El .Is .ref[n] .non) .bl[t7]:=Pu.pure;refine Dt[Ar[Jj Af[Aj Ad[rfl] Ac z] Af[Aj[Ad[rfl]][Ac][Su ()]]] λH g=>(rfl,?_)]
  let q:=g.at0 o.2.1;refine Mm (Ei (Av (Cd rfl (Av (Cd rfl (Av (Lq (Ei (Av (Cd rfl (Bm (At6 q (Gd (Ar (a:=W.int ((rs.length+1:Nat):Int)) (by rw[aC];exact Aei (m:=1)) λG f=>Bm ?_))))))))))))))
  refine Asp p l () λA N d=>(_,rfl,?_)
  let D:=d.1.at0 f.at0[q];let hp:=Wt (P:=SP.any.at n rs.map[rwW[t7]]) (n:=n) (xs:=rs) (φ:=rwW t7) (ψ:=λr=>W.str r.1) (τ:=λb=>t8) (s:=By 0) (t:=λb=>pure t8) (e:=ixF Ab[0] kI[0]) (k:=1) (cap:=[])
   (Z:=[sr .str["f"],sr .str[B],sy,sr oN[(lNs B (lRs B t7).2 (rs.length+1)).2],sy,sr .ref[n],sr .ref[A]]) (src:=Eo Ab[5]) (λS h=>h.2) Wu[λS h=>h.2][Ad rfl] (Mi (cs:=[]))
   (λr b=>(Pu.pure,λb=>Be Ad[rfl] Ac Az[ix0])) (_,rfl) (by unfold big;omega)
  rw[eQ.mpr[λb b=>rfl],show (rs.map λr=>W.str r.1)=(rs.map (·.1)).map W.str by rw[bW];rfl] at hp
  refine Ef Hg[Av[Hg[Av[Gd[Av[Js Baa[hp] (trivial,D) λL u=>Av Ei[Av[Cd rfl Bm[Kw[u.at0 d.2.1][Bm (by show 3<=big;decide,?_)]]]]]]]]]]
  exact Av Cd[rfl][Bm (Dy,rfl,((((((y.then0 w).then0 v).then0 o.1).then0 g).then0 f).then0 d.1).then0 u)]
end
def Ah0:Iw a b=!leS b a:=by unfold leS Iw;rw[Bool.not_not]
def Ap8(e:Iw a b=t8)(d:Iw b c=t8):Iw a c=t8:=by
 rw[Ah0,dF] at e d ⊢
 cases h:leS c a with
 |false=>rfl
 |_=>
  have:=Wi b c;rw[d,sU] at this;rw[Abw b c a this h] at e;omega
theorem Aj3:∀{e:lg t6},Gb e=t8->Aad e
 |[],_=>.nil
 |[a],_=>List.pairwise_singleton _ _
 |a::b::e,h=>by
  let h:(Iw a b&&Gb _)=_:=h;rw[aB] at h;let f:=Aj3 h.2;refine jJ.mpr (λc hc=>?_,f);rcases aY.mp hc with rfl|hc
  .exact h.1
  .exact Ap8 h.1 ((jJ.mp f).1 c hc)
theorem Ap9:∀{b:lg t6},b.Nodup->ddS b=b
 |[],_=>rfl
 |a::b,h=>by
  rw[jQ] at h;rw[ddS,dm h.1,Ap9 h.2]
def Axf(ks:lg t6):decide[ks=Mt ddS[ks]]=Gb ks:=by
 cases h:Gb ks with
 |true=>
  let c:=Aj3 h;rw[Ap9 (c.imp λ{a b} h e=>by
   subst e;have:=Wi a a;rw[Bool.or_self] at this;rw[Ah0,this] at h;cases h)]
  refine dj[Qk Aak (Ft ks).symm (c.imp λ{a b} h=>?_) Lg[ks]];have:=Wi a b;rw[Ah0,dF] at h;rw[h,sU] at this;omega
 |_=>
  refine dq λe=>?_;have:=Abl (Xh (ks:=ddS ks) Wn)
  grind
def kLen(k:t6):Bool:=decide[(1:Int)<=(k.length:Int)]&&decide[(k.length:Int)<=12]
def Xi:Cl->Bool
 |.inn _=>t8
 |.out n p=>(decide[1<=n]&&decide[n<=400])&&decide[0 < p]
def Ah1:Cl->Bool
 |.inn _=>t7
 |.out _ _=>t8
def Raw.good:Raw->Bool
 |.nums _ os=>!os.any fP
 |.rest t o=>!o.isNone&&!(t==(⟨#[]⟩:t6))
 |.leaf rs=>((rs.map (·.1)).all kLen&&Gb (rs.map (·.1)))&&rs.all λr=>Xi r.2
 |.fork ks os=>(ks.all kLen&&Gb ks)&&(!os.any fP&&!os.any (·==sr 0))
def Ac1(k:t6):Prop:=k.length<=400/\M2.Bs k=t8
def Raw.fit:Raw->Prop
 |.nums w _=>w="head"\/w="free"
 |.rest t _=>t.length<=400
 |.leaf rs=>rs.length<=63/\∀r∈rs,Ac1 r.1
 |.fork ks _=>ks.length<=63/\∀k∈ks,Ac1 k
section
def Amv(h:(Ac6 x&&ws.all Ak1[x])=t8):Pu P (El .In x .tup[ws]) (.bl (ws.any (eqF · x))):=Fv h Pu.pure
def Aj4(h:(Ac6 x&&ws.all Ak1[x])=t8):Pu P (El .NotIn x .tup[ws]) (.bl (!ws.any (eqF · x))):=Fv h Pu.pure
def Bbv(os:lg o9[Int]):(os.map oW).all Ak1[.int[0]]=t8/\(os.map oW).any (eqF · (.int 0))=os.any (·==sr 0):=by
 induction os with
 |nil=>exact(rfl,rfl)
 |_ o os a=>
  rw[bL,cP,mZ,a.1,a.2];cases o <;> exact(rfl,rfl)
def Axg{n:Nat}(f:∀S,P.p S->AtL n b.map[W.str] S)(d:Z[1]?=sr sr[.ref[n]])(j:b.length<=63):PuL[P][zA Jm Ab[1] Z][(Mt ddS[b]).map W.str]:=(Aod[Aa Ad[d] Ae] λS e=>by
 let hd:∀l:lg t6,(ddS l).length<=l.length:=λl=>by
  induction l with
  |nil=>exact aO _
  |cons a l i=>
   unfold ddS;split
   .rw[bN];omega
   simp_all
 have:=hd b;refine(_,S.length,?_,Ey,aO _);unfold Jm;dsimp only;rw[f S e];dsimp only;rw[di (by rw[aC];omega),Agf]
 dsimp only;unfold Ck;rw[di (by rw[aC,(Ft _).length_eq];unfold big;omega)])
def Aqa{n:Nat}(c:∀S,P.p S->AtL n a.map[W.str] S)(d:Z[1]?=sr sr[.ref[n]])(q:a.length<=63)(i:∀k∈a,Ac1 k):
  Pu[P][orT Qm[Dp[zA[Aao][Dn 1 [] Eo[Ab[1]] By[0] (λb=>pure t8) (Jl .LtE .LtE kI[1] (zA Cq Ab[0]) kI[12])]]] tQ[.NotEq][Ab[1]][zA Jm Ab[1]] Z][!(a.all kLen&&Gb a)]:=by
 let h:=Wt (P:=P) (xs:=a) (φ:=W.str) (ψ:=λk=>W.bl kLen[k]) (τ:=λb=>t8) (s:=By 0) (t:=λb=>pure t8) (e:=Jl .LtE .LtE kI[1] (zA Cq Ab[0]) kI[12]) (k:=1) (cap:=[]) (Z:=Z) (src:=Eo Ab[1]) (n:=n) c
  (Wu c Ad[d]) (Mi (cs:=[])) (λk f=>(Pu.pure,λb=>Li Ac Ag[Aa Ad[rfl] Ae][len_str[aD (i k f).1 ()]] Lh Ac Lh)) (sy,rfl) (by unfold big;omega)
 rw[eQ.mpr[λb b=>rfl]] at h;let j:=P0 (bs:=a.map kLen) (by rw[bW];exact h)
 rw[V7] at j;let o:=Axg c d q;exact(Gh Ew[Af[j]] (Af λS l=>by
  let(G,m,r,u,_):=o S l;refine(G,?_);let g:∀x∈a,M2.Bs x=t8:=λx h=>(i x h).2;unfold Dz;rw[Bk,Acz d];dsimp only;rw[Bk,r];dsimp only;show eqD t8 .ref[n] .ref[m] _=_;unfold eqD;rw[R7 AtL.app[c S l][G],R7 u];dsimp only;rw[di (by rw[Pq g,Pq λx h=>g x Aat.mp[(Ft _).mem_iff.mp h]];rfl)]
  rw[show qZ .list[a.map[iZ]] .list[(Mt ddS[a]).map iZ]=_ from Ahx _ _,Axf];rfl)).cast (aDl _ _).symm
def Bgb(rs:lg[t6×Cl]):(rs.filter λr=>Ah1 r.2).all (λr=>Xi r.2)=rs.all λr=>Xi r.2:=by
 induction rs with
 |nil=>rfl
 |_ r rs b=>
  let(k,c):=r;cases c with
  |inn t=>trivial
  |out n p=>rw[tV,di (show Ah1 _=t8 from rfl),cP,cP,b]
def ix1:atI (a::b::c) 1=sr b:=by
 unfold atI ixN;rw[di[by simp],di (by rw[bN,bN];omega)]
 rfl
def ix2:atI (a::b::c::d) 2=sr c:=by
 unfold atI ixN;rw[di[by simp],di (by rw[bN,bN,bN];omega)]
 rfl
end
section
variable{P:SP}{Z:De}{B:t6}{S:Store}{r:Raw}
def Bbw{a b:t6}{p:Bool}(h:(a==b)=p):Pu P (El .Eq .str[a] .str[b]) .bl[p]:=Rn.cast[congrArg _ h]
def Bob{a:t6}{ws:lg W}(h:Z[0]?=sr sr[.tup (.str a::ws)]):Pu P (ixF Ab[0] kI[0] Z) .str[a]:=Be Ad[h] Ac Az[ix0]
def w_eq{a b:t6}{ws:lg W}{p:Bool}(h:Z[0]?=sr sr[.tup (.str a::ws)])(e:(a==b)=p):Pu P (Dp Dz[.Eq][ixF Ab[0] kI[0]][kS[b]] Z) p:=Af[Aj Bob[h] Ac Bbw[e]]
def Bgc(h:r.fit):Pu P M9[[r.w]] .bl[r.good]:=by
 cases r with
 |nums w os=>
  apply Bj (ws:=[Raw.w[.nums w os]]) rfl;let g:=Af (Aj (Ac (P:=P) (Z:=Bl 3 [Raw.w[.nums w os]]) (w:=.non)) (Ad (i:=0) rfl) (Amv (x:=.non) (ws:=.str w::os.map oW) (by rw[cP,(Aj0 os).1];rfl)))
  rw[mZ,(Aj0 os).2] at g;show PuR P _ _ .bl[!os.any fP];cases e:os.any fP with
  |true=>exact Aw (Fz g (by rw[e];rfl) Aw[Aq[Ac]])
  |false=>
   refine Bq (Do g (by rw[e];rfl) An) ?_
   rcases h with rfl|rfl
   .exact Bq (Do (w_eq (p:=false) rfl ()) rfl An) Aw[Fz Ji[w_eq rfl ()] rfl Aw[Aq[Ac]]]
   .exact Bq (Do (w_eq (p:=false) rfl ()) rfl An) (Aw (Fz (Jj (w_eq (p:=false) rfl ()) (w_eq (p:=true) rfl ())) rfl Aw[Aq[Ac]]))
 |rest t o=>
  apply Bj (ws:=[Raw.w[.rest t o]]) rfl;let g:=Af (Aj (Ac (P:=P) (Z:=Bl 3 [Raw.w[.rest t o]]) (w:=.non)) (Ad (i:=0) rfl) (Amv (x:=.non) (ws:=[.str "rest",.str t,oW o]) (by cases o <;> rfl)))
  show PuR P _ _ .bl[!o.isNone&&!(t==(⟨#[]⟩:t6))];cases o with
  |none=>exact Aw (Fz g rfl Aw[Aq[Ac]])
  |some i=>
   refine Bq (Do g rfl An) (Aw (Fz (w_eq (p:=true) rfl ()) rfl Aw[Aq[?_]]))
   refine(Aj (Be Ad[rfl] Ac Az[ix1]) Ac Arm).cast ?_;rw[Acu];rfl
 |leaf rs=>
  let(D,F):=h;refine Q4 λS a=>?_;apply Jo (ws:=[Raw.w .leaf[rs]]) rfl;refine Dt (Ar (Af (Aj Ac Ad[rfl] (Amv (x:=.non) (ws:=[.str "leaf",.tup rs.map[K7]]) rfl))) λS1 O=>(rfl,?_));refine Dt (Ar (w_eq (p:=false) rfl ()) λS2 N=>(rfl,?_))
  refine Dt (Ar (Jj (w_eq (p:=false) rfl ()) (w_eq (p:=false) rfl ())) λS3 L=>(rfl,?_))
  let m:=Aaz (P:=SP.any) (xs:=rs) (φ:=K7) (ψ:=λr=>W.str r.1) (τ:=λa=>t8) (s:=By 0) (t:=λa=>pure t8) (e:=ixF Ab[0] kI[0]) (k:=1) (cap:=[]) (Z:=Bl 3 [Raw.w .leaf[rs]]) (src:=Eo[ixF Ab[0] kI[1]]) Gy[Be Ad[rfl] Ac Az[ix1]] (Mi (cs:=[]))
   (λr a=>(Pu.pure,λa=>Be Ad[rfl] Ac Az[ix0])) (sy,rfl) (by unfold big;omega)
  rw[eQ.mpr[λa a=>rfl],show (rs.map λr=>W.str r.1)=(rs.map (·.1)).map W.str by rw[bW];rfl] at m
  refine Bw (Ab7 (Bag (w_eq (p:=true) rfl ()) rfl m) trivial λn U J u a=>?_)
  let y:Fr [] S U:=((O.then0 N).then0 L).then0 J;let q:∀{Z:De},Z[1]?=sr sr[W.ref[n]]->Pu (SP.any.at n ((rs.map (·.1)).map W.str)) _ _:=λ{Z} hv=>Aqa (Z:=Z) (λS h=>h.2) hv (by rw[aC];exact D) (λk E=>by
   let(r,C,rfl):=bU.mp E;exact F r C)
  show Wb _ _ _ (Aca λv X=>v=W.bl (((rs.map (·.1)).all kLen&&Gb (rs.map (·.1)))&&rs.all λr=>Xi r.2)/\Fr [] S X);cases e:((rs.map (·.1)).all kLen&&Gb (rs.map (·.1))) with
  |false=>exact Fp (Js q[rfl] (trivial,u) λT f=>(by rw[e];rfl,Ef[Gd (rfl,y.then0 f)]))
  |true=>
   refine Dt[Js q[rfl] (trivial,u) λT f=>(by rw[e];rfl,?_)]
   refine Dt (Ar (w_eq (p:=false) rfl ()) λS6 I=>(rfl,?_))
   let G:=Aaz (P:=SP.any) (xs:=rs) (φ:=K7) (ψ:=λr=>r.2.w) (τ:=λr=>Ah1 r.2) (s:=By 0) (t:=Dp[Dz .Eq ixF[ixF Ab[0] kI[1]][kI 0] kS["out"]]) (e:=ixF Ab[0] kI[1]) (k:=1) (cap:=[]) (Z:=[sr Raw.w[.leaf[rs]],sr .ref[n],sy]) (src:=Eo[ixF Ab[0] kI[1]]) Gy[Be Ad[rfl] Ac Az[ix1]] (Mi (cs:=[]))
    (λr a=>(by
     let(k,c):=r;cases c with
     |inn t=>exact Af (Aj Be[Be Ad[rfl] Ac Az[ix1]][Ac][Az[ix0]] Ac (Bbw (p:=false) ()))
     |out i j=>exact Af (Aj Be[Be Ad[rfl] Ac Az[ix1]][Ac][Az[ix0]] Ac (Bbw (p:=true) ())),λa=>Be Ad[rfl] Ac Az[ix1])) (sy,rfl) (by unfold big;omega)
   refine Bw[Ab7 G trivial λz S7 H h7 a=>?_];let l:=Wt (P:=SP.any.at z ((rs.filter λr=>Ah1 r.2).map λr=>r.2.w)) (xs:=rs.filter λr=>Ah1 r.2) (φ:=λr=>r.2.w) (ψ:=λr=>W.bl Xi[r.2]) (τ:=λa=>t8) (s:=By 0) (t:=λa=>pure t8) (e:=Jk aB6 Dz[.Gt][ixF Ab[0] kI[2]][kI[0]]) (k:=1) (cap:=[]) (Z:=[sr Raw.w[.leaf[rs]],sr .ref[n],sr .ref[z]]) (src:=Eo Ab[2]) (n:=z)
    (λS h=>h.2) Wu[λS h=>h.2][Ad rfl] (Mi (cs:=[])) (λr C=>(Pu.pure,λa=>by
     let ho:=(pN.mp C).2;let(k,c):=r;cases c with
     |inn t=>cases ho
     |out i j=>exact Rm[Li Ac (Be Ad[rfl] Ac Az[ix1]) Lh Ac Lh][Aj (Be Ad[rfl] Ac Az[ix2]) Ac Qo])) (sy,rfl) (by have:=lX (λr:t6×Cl=>Ah1 r.2) rs;unfold big;omega)
   rw[eQ.mpr[λa a=>rfl]] at l;let d:=P0 (bs:=(rs.filter λr=>Ah1 r.2).map λr=>Xi r.2) (by rw[bW];exact l)
   rw[V7,Bgb] at d;exact Ef (Js d (trivial,h7) λS8 f8=>(rfl,(((y.then0 f).then0 I).then0 H).then0 f8))
 |fork b os=>
  let(D,F):=h;refine Q4 λS a=>?_;apply Jo (ws:=[Raw.w[.fork b os]]) rfl;refine Dt (Ar (Af (Aj Ac Ad[rfl] (Amv (x:=.non) (ws:=[.str "fork",.tup b.map[W.str],.tup os.map[oW]]) rfl))) λS1 O=>(rfl,?_));refine Dt (Ar (w_eq (p:=false) rfl ()) λS2 N=>(rfl,?_))
  refine Dt (Ar (Jj (w_eq (p:=false) rfl ()) (w_eq (p:=false) rfl ())) λS3 L=>(rfl,?_))
  refine Bw (Ab7 (Bah (w_eq (p:=false) rfl ()) rfl Aod[Aa[Be Ad[rfl] Ac Az[ix1]][Ae]][Baf (by rw[aC];unfold big;omega)]) (P:=SP.any) trivial λn U J u a=>?_)
  let y:Fr [] S U:=((O.then0 N).then0 L).then0 J;let q:∀{Z:De},Z[1]?=sr sr[W.ref[n]]->Pu (SP.any.at n b.map[W.str]) _ _:=λ{Z} hv=>Aqa (Z:=Z) (λS h=>h.2) hv D F;show Wb _ _ _ (Aca λv X=>v=W.bl ((b.all kLen&&Gb b)&&(!os.any fP&&!os.any (·==sr 0)))/\Fr [] S X);cases e:(b.all kLen&&Gb b) with
  |false=>exact Fp (Js q[rfl] (trivial,u) λT f=>(by rw[e];rfl,Ef[Gd (rfl,y.then0 f)]))
  |true=>
   refine Dt[Js q[rfl] (trivial,u) λT f=>(by rw[e];rfl,?_)]
   refine Fp (Ar (w_eq (p:=true) rfl ()) λS6 I=>(rfl,?_))
   let Y:∀{Z:De},Z[0]?=sr sr[Raw.w[.fork b os]]->Pu SP.any (ixF Ab[0] kI[2] Z) .tup[os.map[oW]]:=λh=>Be Ad[h] Ac Az[ix2];refine Ef[Ar[Rm Aj[Ac][Y[rfl]][Aj4 (by rw[(Aj0 os).1];rfl)] Aj[Ac][Y[rfl]][Aj4 (by rw[(Bbv os).1];rfl)]] λS7 H=>(?_,((y.then0 f).then0 I).then0 H)]
   rw[(Aj0 os).2,(Bbv os).2];rfl
end
set_option tactic.hygienic true in
def Bgd{a:o9 Nat}(b:M2.Bs B=t8)(h:(lWd B a).1=sr k):Ac1 k:=by
 unfold lWd at h;split at h
 .rename_i i d e;split at h
  .cases h
  .cases h;refine(aD (Amr _ _ _) ?_,Adz b _ _);cases a with
   |none=>cases e
   |_ q=>
    have:=(Ahy (m:=1) (by simp) (by rw[e])).2.1
    omega
 trivial
theorem Auw{a:o9 Nat}(f:M2.Bs B=t8):∀{m:Nat} {x:lg[t6×Cl]×o9 Nat},lRw B c a m=sr x->∀r∈x.1,Ac1 r.1
 |0,x,h=>by cases h;simp
 |m+1,x,h=>by
  rw[lRw] at h;cases e:lRw B c a m with
  |none=>simp_all
  |_ y=>
   rw[e] at h;let(z,b,rfl):=bF.mp h;intro r hr;rcases cU.mp hr with hr|hr
   .exact Auw f e r hr
   .rw[aR.mp hr];unfold Ail at b;split at b
    .cases b
    .rename_i k i;let l:=Bgd f i;split at b
     .let(_,_,rfl):=bF.mp b;omega
     .cases b;omega
set_option tactic.hygienic true in
def Aux(a:M2.Bs B=t8)(e:(lRs B c).1=sr rs):rs.length<=63/\∀r∈rs,Ac1 r.1:=by
 unfold lRs at e;split at e
 .cases e
 .rename_i i b;have:=(Ahy (by simp) b).2.1
  split at e
  .cases e
  .rename_i x ex;cases e;refine(?_,Auw a ex);rw[Ae9 ex];omega
def Axh(f:B.length<=400)(a:M2.Bs B=t8)(h:(ltold c B).1=sr r):r.fit:=by
 unfold ltold at h
 repeat' split at h
 .cases h;exact .inl rfl
 .cases h;exact .inr rfl
 .cases h;show _<=400;rw[Il,bM];exact aD (xO _ _) f
 .let(rs,e,rfl):=bF.mp h;exact Aux a e
 .cases h
 .rename_i rs e;cases h;have:=Aux a e;refine(by rw[aC];exact this.1,λk d=>?_)
  let(r,b,rfl):=bU.mp d;exact this.2 r b
def Ah2(c:t6):Bool:=!(cQ "hlfre" c 0 ("hlfre":t6).length 1).isEmpty
def Boc:∀x,x < 127->Ah2 ⟨#[x]⟩=t8->(x=104\/x=101)\/x=114\/x=108\/x=102:=by decide +kernel
def Aqb(z:t6):o9 Raw:=
 if 64<=z.length/\z.length<=200 then
  if Ah2[pc z 0 1]=t8 then match vO[pc z 1 2] with
   |none=>sy
   |some i=>if (z.length:Int) - 5 < i then sy
    else if cut[z][3+i.toNat][z.length - 2]=kW ⟨#[48]⟩ ((z.length:Int) - 5 - i) then match ltold[pc z 0 1][pc z 3 i.toNat] with
     |(sr r,sr q)=>if (q:Int)=i/\r.good=t8 then sr r else sy
     |_=>sy
    else sy
  else sy
 else sy
def Axi{a:Nat}(h:a+2<=z.length):fQ z (sr (a:Int)) sr[-2]=cut z a (z.length - 2):=by
 let e:fQ z sr[a] sr[-2]=fQ z sr[a] (sr (z.length - 2:Nat)):=by
  unfold fQ fC;simp[show ¬ (((z.length - 2:Nat):Int) < 0) by omega,show -2+z.length=((z.length - 2:Nat):Int) by omega]
 rw[e,Acw () ()]
section
def Bbx(b:B.length<=400)(a:M2.Bs B=t8)(g:c.length=1)(i:M2.Bs c=t8)(h:Ah2 c=t8):Pu P Hv[[.str c,.str B]] .tup[[Bbt (ltold c B).1,oN (ltold c B).2]]:=by
 obtain⟨x,rfl,f⟩:∃x,c=⟨#[x]⟩/\x < 127:=by
  obtain⟨⟨l⟩⟩:=c
  match l,g with
  |[x],_=>
   refine(x,rfl,?_);have:=M2.Ae0.mp[aQ.mp i x aR.mpr[rfl]];omega
 let d:∀{c:t6} {P:SP},Avy t7 .str[c] [.str "h",.str "e"]=pure .bl[t8]->Pu P (El .In .str[c] .tup[[.str "h",.str "e"]]) .bl[t8]:=λ{c P} e=>by
  show Pu P (Avy t7 .str[c] [.str "h",.str "e"]) _;rw[e];exact Pu.pure
 rcases Boc x f h with (rfl|rfl)|rfl|rfl|rfl
 .exact Bbu (c:="h") (w:="head") (m:=4) b a () d[by rfl'] (λh=>Qn Af[Aj h Ac Qh] Ac) (by rfl')
 .exact Bbu (c:="e") (w:="free") (m:=1) b a () d[by rfl'] (λh=>Agd Af[Aj[h][Ac][Su ()]] Ac) (by rfl')
 .exact Axd b a
 .exact Axe b a
 .exact told_fork b a
def Bk9(r:Raw):Pu P (El .Is r.w .non) .bl[t7]:=by cases r <;> exact Pu.pure
def Bla(T:z.length<=400)(v:M2.Bs z=t8):Pu P Kz[[.str z]] Bbt[Aqb[z]]:=by
 let f:z.length<=big:=aD T ()
 let u:=Ew (Af (Li (P:=P) (Z:=Bl 4 [.str z]) (Ac (w:=.int 64)) (Ag (Aa (Ad (i:=0) rfl) Ae) len_str[f]) Lh (Ac (w:=.int 200)) Lh));apply Bj (ws:=[.str z]) rfl;unfold Aqb;by_cases I:64<=z.length/\z.length<=200
 case neg=>
  rw[dm I];refine Aw[Fz Ji[Pu.cast u ?_] rfl Aw[Aq[Ac]]];cases e:(decide[(64:Int)<=z.length]&&decide[(z.length:Int)<=200]) with
  |false=>rfl
  |true=>
   rw[aB,dh,dh] at e;omega
 rw[di I];let t:=Pu.cast u (a':=false) (by rw[dj (),dj ()];rfl)
 let hi:∀{P} {Z:De},Z[0]?=sr sr[W.str[z]]->Pu P (ixF Ab[0] kI[0] Z) .str[pc z 0 1]:=λh=>Be Ad[h] Ac (Bhe (k:=0) () f)
 let L:=Jj t (Af (Aj (hi (P:=P) (Z:=Bl 4 [.str z]) rfl) (Ac (w:=.str "hlfre")) (show Pu P (El .NotIn .str[pc z 0 1] .str["hlfre"]) .bl[!Ah2 (pc z 0 1)] from Pu.pure)));cases F:Ah2[pc z 0 1] with
 |false=>
  rw[dm ()]
  exact Aw (Fz L (by rw[F];rfl) Aw[Aq[Ac]])
 |true=>
 rw[di rfl];refine Bq (Do L (by rw[F];rfl) An) ?_
 refine Bq (Bf (Ag (Aa (Ac0 (i:=1) (m:=2) Ad[rfl] Ac Ac f) Ae) (Ajz (z:=pc z 1 2) (aD (Amr _ _ _) ()) (Adz v _ _)))) ?_
 cases ev:vO[pc z 1 2] with
 |none=>exact Aw (Fz Ji[Af[Aj Ad[rfl] Ac K9]] rfl Aw[Aq[Ac]])
 |some i=>
 let X:=Bbp ev;obtain⟨j,rfl⟩:∃j:Nat,i=(j:Int):=(i.toNat,())
 dsimp only;rw[show (j:Int).toNat=j by omega]
 let b:∀{P} {Z:De},Z[0]?=sr sr[W.str[z]]->Pu[P][Dm Cq yA[Ab[0]] Z][.int (z.length:Int)]:=λh=>Ag[Aa Ad[h] Ae][len_str f];let x:=Jj (Af (Aj (Ad (P:=P) (Z:=[sr .str[z],sr[.int (j:Int)],sy,sy]) (i:=1) rfl) Ac (Ams (i:=(j:Int))))) (Af (Aj (Ad (i:=1) rfl) (Ai b[rfl] (Ac (w:=.int 5)) Gw) Qo));by_cases C:(z.length:Int) - 5 < j
 .rw[di C];exact Aw[Fz x dj[C] Aw[Aq[Ac]]]
 rw[dm C];refine Bq (Do x dq[C] An) ?_;let o:Pu P (Bop.fn .mul .str["0"] .int[(z.length:Int) - 5 - j]) .str[kW[⟨#[48]⟩][(z.length:Int) - 5 - j]]:=by
  rw[show ("0":t6)=⟨#[48]⟩ by decide +kernel]
  show Pu P (if decide[(⟨#[48]⟩:t6).length<=16]&&decide[-1048576<=(z.length:Int) - 5 - j]&&decide[(z.length:Int) - 5 - j<=1048576] then pure W.str[kW[⟨#[48]⟩][(z.length:Int) - 5 - j]] else bad) _
  refine Fv ?_ Pu.pure;rw[aB,aB,dh,dh,dh];refine(((),?_),?_) <;> omega
 let n:=Af (Aj (Jv (Ad (P:=P) (Z:=[sr .str[z],sr[.int (j:Int)],sy,sy]) (i:=0) rfl) (Dq (Ai Ac (Ad (i:=1) rfl) (Aei (k:=3) (m:=j)))) (Dq (Asi (Ac (w:=.int 2))))
  (show Pu P slW[.str[z]][sr ((3+j:Nat):Int)][sr[-2]] .str[cut[z][3+j][z.length - 2]] by
   rw[<-Axi ()]
   exact Fv f Pu.pure)) (Ai (Ac (w:=.str "0")) (Ai (Ai b[rfl] (Ac (w:=.int 5)) Gw) (Ad (i:=1) rfl) Gw) o) Arm)
 by_cases A:cut[z][3+j][z.length - 2]=kW ⟨#[48]⟩ ((z.length:Int) - 5 - j)
 case neg=>
  rw[dm A];exact Aw[Fz n (by rw[beq_eq_false_iff_ne.mpr A];rfl) Aw[Aq[Ac]]]
 rw[di A];refine Bq (Do n (by rw[A,beq_self_eq_true];rfl) An) ?_
 let l:(pc z 3 j).length<=400:=aD (Amr _ _ _) ()
 let E:(pc z 0 1).length=1:=by
  unfold pc;rw[Il,dO,bM,aV];show min 1 (z.length - 0)=1;omega
 let d:=λr=>Axh (r:=r) (c:=pc z 0 1) l (Adz v 3 j);refine Bq (Abp (Ag (Aa hi[rfl] (Aa (Ac0 (i:=3) (m:=j) Ad[rfl] Ac (Ai Ac Ad[rfl] Aei) f) Ae)) (Bbx (B:=pc z 3 j) (c:=pc z 0 1) l (Adz v 3 j) E (Adz v 0 1) F)) rfl) ?_;generalize ltold[pc z 0 1][pc z 3 j]=y at d;let(O,Q):=y;cases O with
 |none=>exact Aw (Fz Ji[Af[Aj Ad[rfl] Ac K9]] rfl Aw[Aq[Ac]])
 |some r=>
  let J:=Bk9 (P:=P) r;cases Q with
  |none=>exact Aw (Fz (Jj Af[Aj Ad[rfl] Ac J] Ji[Af[Aj[Ad rfl][Ad rfl][λS U=>([],by rw[bC];rfl)]]]) (p:=true) rfl Aw[Aq[Ac]])
  |some q=>
   let s:=Jj (Af (Aj (Ad (P:=P) (Z:=[sr .str[z],sr[.int (j:Int)],sr r.w,sr[.int (q:Int)]]) (i:=2) rfl) Ac J)) (Gh (Af (Aj (Ad (i:=3) rfl) (Ad (i:=1) rfl) (Bkk (i:=(q:Int)) (j:=(j:Int))))) (Ew (Af (Ag (Aa (Ad (i:=2) rfl) Ae) Bgc[d r rfl]))));dsimp only;by_cases g:(q:Int)=j/\r.good=t8
   .rw[di g];exact Bq[Do s (by rw[g.1,g.2,beq_self_eq_true];rfl) An][Aw Aq[Ad[rfl]]]
   .rw[dm g];refine Aw[Fz s ?_ Aw[Aq[Ac]]];rw[eV,dF,dF,beq_eq_false_iff_ne];by_cases N:(q:Int)=j
    .exact .inr (by cases x:r.good with
      |false=>rfl
      |true=>exact absurd (N,x) g)
    .exact .inl N
end
abbrev ls(z:t6):lg Nat:=z.cps.toList
def Wf(h:ls x=ls y):x=y:=by
 obtain⟨⟨x⟩⟩:=x;simp_all
def Hz(z:t6):(ls z).length=z.length:=aV
def Di(x y:t6):ls[x ++ y]=ls x ++ ls y:=by show (x.cps ++ y.cps).toList=_;simp
def Blb(l:lg Nat):ls toS[l]=l:=rfl
def Blc{c:Nat}(h:M1.inS c=t8):M1.sg M1.idx[c]=c:=by
 have:=(M1.Agk h).2;unfold M1.sg;simp_all
theorem Auy:∀(l:lg Nat)(a:Int),(∀c∈l,M1.inS c=t8)->0<=a->ls M1.Ce[l.length][M1.Acf l a]=l/\M1.Acf l a / 64 ^ l.length=a
 |[],a,_,_=>(rfl,uJ a)
 |c::l,a,h,k=>by
  let(d,f):=gJ.mp h;let hi:=M1.Aru d;let(i,g):=Auy l (a * 64+M1.idx c) f ()
  show ls M1.Ce[l.length+1][M1.Acf l _]=_/\M1.Acf l _ / 64 ^ (l.length+1)=a;refine(?_,?_)
  .rw[ls,M1.Acg,g,show ((a * 64+_) % 64).toNat=M1.idx c by omega,Blc d]
   exact congrArg _ i
  .rw[uI,<-Int.ediv_ediv_of_nonneg Int.pow_nonneg[by simp]]
   omega
def Bby{i:Int}(h:vO z=sr i):M1.Ce z.length i=z:=by
 unfold vO at h;split at h
 .rename_i a;cases h;unfold wrB at a;rw[aB,aQ] at a;have:=(Auy _ 0 a.2 (by simp)).1
  exact Wf this
 trivial
theorem Auz:∀(k:Nat)(n:Int),(ls[M1.Ce k n]).all M1.inS=t8
 |0,_=>rfl
 |k+1,n=>by
  rw[ls,M1.Acg,cP,M1.Bam M1.toNat_lt[_],Auz k n];rfl
def Asq{k:Nat}{n:Int}(b:1<=k)(a:k<=3):wrB[M1.Ce k n]=t8:=by
 unfold wrB;rw[Bc,dj b,dj a,Auz k n];rfl
def Bbz{k:Nat}{n:Int}(c:1<=k)(b:k<=3)(d:0<=n)(a:n < 64 ^ k):vO[M1.Ce k n]=sr n:=by
 unfold vO;rw[di[Asq c b]];exact congrArg sr (M1.Auc d a)
def Sv{k:Nat}{R:lg Nat}(h:(ls B).drop k=ls T ++ R):pc B k T.length=T/\(ls B).drop (k+T.length)=R:=by
 refine(Wf ?_,?_)
 .show ((ls B).drop k).take T.length=_;rw[h,<-Hz,vV]
 .rw[<-vU,h,<-Hz,aBq]
def Nj{k:Nat}{R:lg Nat}(h:(ls B).drop k=ls T ++ R)(c:1<=T.length):k+T.length<=B.length:=by
 have:=congrArg nU h;rw[bM,aU,Hz,Hz] at this;omega
def Aj5{k m:Nat}(h:k+m<=B.length):(ls B).drop k=ls[pc B k m] ++ (ls B).drop (k+m)/\(pc B k m).length=m:=by
 refine(?_,?_)
 .rw[<-vU];exact(oU m _).symm
 .unfold pc;rw[Il,dO,bM,Hz];omega
def Amw{k m:Nat}{i:Int}{R:lg Nat}(h:(ls B).drop k=ls[M1.Ce m i] ++ R)(b:1<=m)(d:m<=3)(f:0<=i)(hi:i < 64 ^ m):lTk B sr[k] m=(u6 sr[i] sr[k+m])/\(ls B).drop (k+m)=R:=by
 let e:=Sv h;rw[Bc] at e;let l:=Nj h (by rw[Bc];exact b)
 rw[Bc] at l;refine(?_,e.2);unfold lTk;dsimp only;rw[dm (),e.1,Bbz b d f hi]
def Amx{k m:Nat}{i:Int}(a:m<=3)(h:(lTk B sr[k] m).1=sr i):(0<=i/\i < 64 ^ m)/\(lTk B sr[k] m).2=sr[k+m]/\k+m<=B.length/\(ls B).drop k=ls[M1.Ce m i] ++ (ls B).drop (k+m):=by
 let(c,b,e,l,v):=Ahy a h;let o:=Aj5 l;let d:=Bby v;rw[o.2] at d;exact((c,b),e,l,by rw[d];exact o.1)
def Asr{k:Nat}{R:lg Nat}(h:(ls B).drop k=ls Dh[s] ++ R)(j:s.length<=63):lWd B sr[k]=(u6 sr[s] sr[k+(Dh s).length])/\(ls B).drop (k+(Dh s).length)=R:=by
 let e:=Sv h;unfold Dh at h;rw[Di,aL] at h;let(d,b):=Amw h () () () (by show (s.length:Int) < 64;omega)
 let p:=Sv b;let l:k+1+s.length<=B.length:=by
  let f:=Nj h (by rw[Bc];decide)
  rw[Bc] at f;rcases lO s.length with z|z
  .omega
  .exact Nj b z
 let g:(Dh s).length=1+s.length:=by unfold Dh;rw[len_app,Bc]
 refine(?_,e.2);unfold lWd;rw[d];dsimp only;rw[dG,dm (),p.1,g,gR]
def Bb0{k:Nat}(h:(lWd B sr[k]).1=sr s):s.length<=63/\(lWd B sr[k]).2=sr[k+(Dh s).length]/\k+(Dh s).length<=B.length/\(ls B).drop k=ls Dh[s] ++ (ls B).drop (k+(Dh s).length):=by
 unfold lWd at h ⊢
 cases b:(lTk B sr[k] 1).1 with
 |none=>
  rw[show lTk B sr[k] 1=(u6 sy ((lTk B sr[k] 1).2)) from aAs b rfl] at h;cases h
 |some i=>
  let((n,j),f,l,d):=Amx () b
  rw[show lTk B sr[k] 1=(u6 sr[i] sr[k+1]) from aAs b f] at h ⊢
  dsimp only at h ⊢
  split at h
  .cases h
  .rename_i c;rw[dm c];cases h;let o:=Aj5 (B:=B) (k:=k+1) (m:=i.toNat) ()
   let e:(Dh pc[B][k+1][i.toNat]).length=1+i.toNat:=by unfold Dh;rw[len_app,Bc,o.2]
   let a:Dh pc[B][k+1][i.toNat]=M1.Ce 1 i ++ pc B (k+1) i.toNat:=by unfold Dh;grind
   rw[e];refine(by rw[o.2];omega,by rw[gR],(),?_)
   rw[a,Di,aL,<-gR,<-o.1];exact d
def Ah3(is:lg Int)(i:Int):Cg[is ++ [i]]=Cg is ++ M1.Ce 2 i:=by
 unfold Cg;rw[dY];exact Abj _ _
def In2(i:Int):Prop:=0<=i/\i < 4096
theorem Amy{k:Nat}:∀(m:Nat) {is:lg Int} {R:lg Nat},is.length=m->(∀i∈is,In2 i)->(ls B).drop k=ls Cg[is] ++ R->lNs B sr[k] m=(u6 is.map[sr] sr[k+2 * m])/\(ls B).drop (k+2 * m)=R
 |0,is,R,a,_,h=>by
  rw[eN a] at h ⊢
  trivial
 |m+1,is,R,a,hi,h=>by
  rcases vB is with rfl|⟨o,j,rfl⟩
  .cases a
  rw[vC] at a hi h ⊢
  rw[Ah3,Di,aL] at h;let d:=hi j (cM _ aR.mpr[rfl]);let(g,f):=Amy m (by rw[aU] at a;exact uH a) (λi h=>hi i (jR _ h)) h
  let(e,n):=Amw f () () d.1 d.2
  rw[lNs,g,e,dY];trivial
theorem Ah4{k:Nat}(g:k<=B.length):∀(m:Nat),(lNs B sr[k] m).1.any fP=t7->∃is:lg Int,(lNs B sr[k] m).1=is.map sr/\is.length=m/\(∀i∈is,In2 i)/\(lNs B sr[k] m).2=sr[k+2 * m]/\k+2 * m<=B.length/\(ls B).drop k=ls Cg[is] ++ (ls B).drop (k+2 * m)
 |0,_=>([],rfl,rfl,λu h=>(nomatch h),rfl,g,rfl)
 |m+1,h=>by
  rw[lNs,List.any_append,Bool.or_eq_false_iff] at h;let(is,p,o,n,f,b1,s):=Ah4 g m h.1;rw[lNs,f];rw[f] at h;dsimp only at h ⊢
  cases e:(lTk B _ 2).1 with
  |none=>rw[e] at h;exact nomatch h.2
  |some i=>
   let(r,q,b,d):=Amx () e
   refine(is ++ [i],by rw[p,dY];rfl,by rw[aU,o];rfl,λj hj=>?_,q,b,?_)
   .rcases cU.mp hj with hj|hj
    .exact n j hj
    .rw[aR.mp hj];exact r
   .rw[Ah3,Di,aL,s,d];rfl
def Cl.fit:Cl->Prop
 |.inn t=>t.length<=63
 |.out n p=>In2 n/\In2 p
def Aqc(t:t6):(Cl.inn t).t=("i":t6) ++ Dh t:=Ff _ _ _
def Au0(t:t6):(Cl.inn t).t.length=1+(Dh t).length:=by rw[Aqc,len_app];rfl
def Bld{k:Nat}{R:lg Nat}(h:(ls B).drop k=ls c.t ++ R)(g:c.fit):lCl B sr[k]=(u6 sr[c] sr[k+c.t.length])/\(ls B).drop (k+c.t.length)=R:=by
 let e:=Sv h;cases c with
 |inn t=>
  let b:(ls B).drop k=ls ("i":t6) ++ (ls Dh[t] ++ R):=by rw[h,<-aL,<-Di,Aqc]
  let p:=Sv b;let l:=Nj b ()
  let w:=Asr p.2 g;let f:("i":t6).length=1:=by decide
  rw[f] at p l w;let d:=Au0 t;refine(?_,e.2);unfold lCl;dsimp only;rw[dm (),di p.1,w.1,d,gR]
  rfl
 |out n q=>
  let b:(ls B).drop k=ls ("o":t6) ++ (ls Cg[[n,q]] ++ R):=by rw[h,<-aL,<-Di];rfl
  let p:=Sv b;let l:=Nj b ()
  let f:("o":t6).length=1:=by decide
  rw[f] at p l;let w:=Amy 2 (is:=[n,q]) rfl (λi hi=>by
   rcases aY.mp hi with rfl|hi
   .exact g.1
   .rw[aR.mp hi];exact g.2) p.2
  let d:(Cl.out n q).t.length=1+4:=by
   show (("o":t6) ++ Cg [n,q]).length=_;rw[len_app,Dk];rfl
  refine(?_,e.2);unfold lCl;dsimp only;rw[dm (),dm (by rw[p.1];decide),di p.1,w.1,d,gR]
  rfl
def Ble{k:Nat}(h:(lCl B sr[k]).1=sr c):c.fit/\(lCl B sr[k]).2=sr[k+c.t.length]/\k+c.t.length<=B.length/\(ls B).drop k=ls c.t ++ (ls B).drop (k+c.t.length):=by
 unfold lCl at h ⊢
 dsimp only at h ⊢
 split at h
 .cases h
 .rename_i v;rw[dm v];let o:=Aj5 (B:=B) (k:=k) (m:=1) ()
  split at h
  .rename_i hp;rw[di hp];let(t,b,rfl):=bF.mp h;let(p,l,j,i):=Bb0 b;let u:=Au0 t;rw[u,<-gR];refine(p,l,j,?_);rw[Aqc,Di,aL,<-i,o.1,hp]
  .rename_i hp;rw[dm hp];split at h
   .rename_i a;rw[di a];dsimp only at h;cases d:(lNs B sr[k+1] 2).1.any fP with
    |true=>
     let g:=Abo B sr[k+1] 2;generalize (lNs B sr[k+1] 2).1=os at g d h
     match os,g with
     |[sy,x],_=>cases h
     |[sr x,sy],_=>cases h
     |[sr x,sr y],_=>cases d
    |false=>
     let(is,w,s,f,r,b1,z):=Ah4 () 2 d
     rw[w] at h
     match is,s with
     |[n,q],_=>
      cases h;let b:(Cl.out n q).t.length=1+4:=by
       show (("o":t6) ++ Cg [n,q]).length=_;rw[len_app,Dk];rfl
      rw[b,<-gR];refine((f n bJ,f q (bD _ bJ)),r,b1,?_);show _=ls[("o":t6) ++ Cg [n,q]] ++ _;rw[Di,aL,<-z,o.1,a]
   .cases h
def rwT(c:Bool)(r:t6×Cl):t6:=if c=t8 then Hc r else Dh r.1
def Ass(c:Bool)(r:t6×Cl):Prop:=r.1.length<=63/\if c=t8 then r.2.fit else r.2=.inn r.1
def Bge{k:Nat}{R:lg Nat}(h:(ls B).drop k=ls[rwT c r] ++ R)(i:Ass c r):Ail B c sr[k]=sr[u6 r sr[k+(rwT c r).length]]/\(ls B).drop (k+(rwT c r).length)=R:=by
 refine(?_,(Sv h).2);let(s,x):=r;let(d,a):=i;unfold Ail;cases c with
 |false=>
  let e:=Asr (s:=s) h d;rw[e.1];let a:x=.inn s:=a;rw[a];rfl
 |true=>
  let f:(ls B).drop k=ls[Dh s ++ x.t] ++ R:=h;rw[Di,aL] at f;let e:=Asr (s:=s) f d;let j:=Bld e.2 a;rw[e.1];dsimp only;rw[j.1];show sr u6[u6 s x][_]=sr u6[u6 s x][sr[k+(Dh s ++ x.t).length]];rw[len_app,gR]
set_option tactic.hygienic true in
def Bgf{k:Nat}{q:o9 Nat}(h:Ail B c sr[k]=sr[u6 r q]):Ass c r/\q=sr[k+(rwT c r).length]/\k+(rwT c r).length<=B.length/\(ls B).drop k=ls[rwT c r] ++ (ls B).drop (k+(rwT c r).length):=by
 unfold Ail at h;split at h
 .cases h
 .rename_i s j;let(f,d,g,b):=Bb0 j;cases c with
  |false=>
   rw[dm (),d] at h
   cases h;exact((f,rfl),rfl,g,b)
  |true=>
   rw[di rfl,d] at h;let(x,ex,e):=bF.mp h;let(o,n,m,l):=Ble ex;rw[n] at e;cases e;let i:(rwT t8 (u6 s x)).length=(Dh s).length+x.t.length:=len_app _ _;rw[i,<-gR];refine((f,o),rfl,m,?_);show _=ls[Dh s ++ x.t] ++ _;rw[Di,aL,<-l];exact b
def Ah5(c:Bool)(rs:lg[t6×Cl])(r:t6×Cl):jn[(rs ++ [r]).map rwT[c]]=jn rs.map[rwT[c]] ++ rwT c r:=by
 rw[dY];exact Abj _ _
theorem Bb1{k:Nat}:∀(m:Nat) {rs:lg[t6×Cl]} {R:lg Nat},rs.length=m->(∀r∈rs,Ass c r)->(ls B).drop k=ls jn[rs.map[rwT[c]]] ++ R->lRw B c sr[k] m=sr[u6 rs sr[k+(jn rs.map[rwT[c]]).length]]/\(ls B).drop (k+(jn rs.map[rwT[c]]).length)=R
 |0,rs,R,a,_,h=>by
  rw[eN a] at h ⊢
  trivial
 |m+1,rs,R,a,e,h=>by
  refine(?_,(Sv h).2);rcases vB rs with rfl|⟨p,j,rfl⟩
  .trivial
  rw[vC] at a e h ⊢
  rw[Ah5,Di,aL] at h;let(l,g):=Bb1 m (by rw[aU] at a;exact uH a) (λi h=>e i (jR _ h)) h
  let(f,o):=Bge g e[j][cM _ aR.mpr[rfl]];rw[lRw,l];dsimp only;rw[f,Ah5,len_app,gR];rfl
theorem Bb2{k:Nat}(b:k<=B.length):∀(m:Nat) {x:lg[t6×Cl]×o9 Nat},lRw B c sr[k] m=sr x->x.1.length=m/\(∀r∈x.1,Ass c r)/\x.2=sr[k+(jn x.1.map[rwT[c]]).length]/\k+(jn x.1.map[rwT[c]]).length<=B.length/\(ls B).drop k=ls jn[x.1.map[rwT[c]]] ++ (ls B).drop (k+(jn x.1.map[rwT[c]]).length)
 |0,x,h=>by cases h;exact(rfl,λu h=>(nomatch h),rfl,b,rfl)
 |m+1,x,h=>by
  rw[lRw] at h;cases e:lRw B c sr[k] m with
  |none=>rw[e] at h;cases h
  |some y=>
   rw[e] at h;dsimp only at h;let(o,l,n,b1,s):=Bb2 b m e;rw[n] at h;let(z,p,rfl):=bF.mp h;let(j,i,g,f):=Bgf (r:=z.1) (q:=z.2) p;dsimp only;rw[Ah5,len_app,<-gR];refine(by rw[aU,o];rfl,λr hr=>?_,i,g,?_)
   .rcases cU.mp hr with hr|hr
    .exact l r hr
    .rw[aR.mp hr];exact j
   .rw[Di,aL,<-f];exact s
def Mq(c:Bool)(rs:lg[t6×Cl]):t6:=M1.Ce 1 rs.length ++ jn rs.map[rwT[c]]
def Bb3{R:lg Nat}(n:rs.length<=63)(i:∀r∈rs,Ass c r)(h:ls B=ls[Mq c rs] ++ R):lRs B c=(u6 sr[rs] sr[(Mq c rs).length])/\(ls B).drop (Mq c rs).length=R:=by
 let e:=(Sv (k:=0) (T:=Mq c rs) (B:=B) (R:=R) h).2;rw[aDk] at e;refine(?_,e);let j:(ls B).drop 0=ls[M1.Ce 1 rs.length] ++ (ls jn[rs.map[rwT[c]]] ++ R):=by rw[<-aL,<-Di];exact h
 let(f,d):=Amw j () () () (by show (rs.length:Int) < 64;omega)
 let(b,_):=Bb1 rs.length rfl i d;unfold lRs;rw[f];dsimp only;rw[dG,b];let g:(Mq c rs).length=0+1+(jn rs.map[rwT[c]]).length:=by unfold Mq;rw[len_app,Bc]
 rw[g]
def Bb4(h:(lRs B c).1=sr rs):rs.length<=63/\(∀r∈rs,Ass c r)/\(lRs B c).2=sr (Mq c rs).length/\(Mq c rs).length<=B.length/\ls B=ls[Mq c rs] ++ (ls B).drop (Mq c rs).length:=by
 let k:(Mq c rs).length=0+1+(jn rs.map[rwT[c]]).length:=by unfold Mq;rw[len_app,Bc]
 rw[k];unfold lRs at h ⊢
 cases b:(lTk B sr[0] 1).1 with
 |none=>rw[b] at h;cases h
 |some i=>
  let((s,q),f,l,d):=Amx () b
  let m:(64:Int) ^ 1=64:=rfl;rw[b,f] at h;dsimp only at h ⊢
  rw[f];cases a:lRw B c sr[0+1] i.toNat with
  |none=>rw[a] at h;cases h
  |some x=>
   rw[a] at h;cases h;let(p,g,j,b1,n):=Bb2 l _ a;refine((),g,j,b1,?_)
   let hi:((x.1.length:Nat):Int)=i:=by omega
   unfold Mq;rw[Di,aL,<-n,hi];exact d
def Pg.raw:Pg->Raw
 |.head a b c d=>.nums "head" [sr a,sr b,sr c,sr d]
 |.leaf rs=>.leaf rs
 |.fork ks ps=>.fork ks ps.map[sr]
 |.rest t n=>.rest t sr[n]
 |.free n=>.nums "free" [sr n]
def Bod(p:Pg):p.raw.w=p.w:=by
 cases p with
 |fork a ps=>show W.tup _=_;rw[bW];rfl
 |_=>rfl
def G7{i k:Int}(hk:0<=k)(h:Ec i k=t8):In2 i:=Qy h hk
def Px{i k:Int}(b:k<=i)(h:In2 i):Ec i k=t8:=by
 unfold Ec;have:=h.2
 grind
def Ast(h:c.ok=t8):c.fit/\Xi c=t8:=by
 cases c with
 |inn t=>unfold Cl.ok at h;rw[aB,dh] at h;exact(h.2,rfl)
 |out n p=>
  unfold Cl.ok at h;simp[dh] at h;let a:=h.2;unfold Ec at a;rw[aB,dh] at a;refine((((),()),G7 (by simp) h.2),?_)
  show (_&&_)=t8;rw[dj h.1.1,dj h.1.2,dj ()]
  rfl
def Q6(h:isKey k=t8):k.length<=63/\kLen k=t8:=by
 unfold isKey at h;unfold kLen
 grind
def Tn(h:kLen k=t8)(a:M2.Bs k=t8):isKey k=t8:=by
 unfold kLen at h;unfold isKey
 grind
def Axj(is:lg Int):(is.map sr).any fP=t7:=by simp
def Aj6(a:lg t6):(a.map λk=>(u6 k Cl.inn[k])).map (·.1)=a/\Mq t7 (a.map λk=>(u6 k Cl.inn[k]))=M1.Ce 1 a.length ++ jn a.map[Dh]:=by
 unfold Mq;rw[bW,bW,aC];exact(aDm a,rfl)
def Bb5{p:Pg}(h:p.ok):ltold p.letter p.body=(u6 sr[p.raw] sr[p.body.length])/\p.raw.good=t8:=by
 let x:∀{is:lg Int},(∀i∈is,In2 i)->lNs Cg[is] sr[0] is.length=(u6 is.map[sr] sr[0+2 * is.length]):=λhi=>(Amy (k:=0) (R:=[]) _ rfl hi (bC _).symm).1;cases p with
 |head a b c d=>
  let e:=x (is:=[a,b,c,d]) (by
   intro i hi;simp only[aY,cR,or_false] at hi;rcases hi with rfl|rfl|rfl|rfl
   .exact G7 () h.1
   .exact G7 () h.2.1
   .exact G7 () h.2.2.1
   .exact G7 () h.2.2.2)
  let v:(Pg.head a b c d).body.length=8:=Dk _;refine(?_,rfl);rw[v];show ltold "h" Cg[[a,b,c,d]]=_;unfold ltold;rw[di rfl];show (u6 sr[Raw.nums "head" (lNs Cg[[a,b,c,d]] sr[0] 4).1] ((lNs Cg[[a,b,c,d]] sr[0] 4).2))=_;rw[show lNs Cg[[a,b,c,d]] sr[0] 4=_ from e];rfl
 |free n=>
  let e:=x (is:=[n]) (by
   intro i hi;rw[aR.mp hi];exact G7 () h)
  let v:(Pg.free n).body.length=2:=Dk _;refine(?_,rfl);rw[v];show ltold "e" Cg[[n]]=_;unfold ltold;rw[dm (),di rfl]
  show (u6 sr[Raw.nums "free" (lNs Cg[[n]] sr[0] 1).1] ((lNs Cg[[n]] sr[0] 1).2))=_;rw[show lNs Cg[[n]] sr[0] 1=_ from e];rfl
 |rest t n=>
  let(u,f,s,w):=h;let y:=G7 () w
  let q:(Pg.rest t n).body=M1.Ce 2 n ++ t:=by show Cg [n] ++ t=_;unfold Cg;show jn [M1.Ce 2 n] ++ t=_;rw[Ij,Acv,Jw]
  let(F,E):=Amw (B:=M1.Ce 2 n ++ t) (k:=0) (m:=2) (i:=n) (R:=ls t) (Di _ _) () () y.1 y.2
  refine(?_,?_)
  .rw[q];show ltold "r" _=_;unfold ltold;rw[dm (),dm (),di rfl,F]
   show (u6 sr[Raw.rest toS[(ls[M1.Ce 2 n ++ t]).drop 2] sr[n]] _)=_;rw[show (ls[M1.Ce 2 n ++ t]).drop 2=ls t from E];rfl
  .show (!(sr n).isNone&&!(t==(⟨#[]⟩:t6)))=t8;have:t≠⟨#[]⟩:=λe=>by rw[e] at f;exact absurd f ()
   rw[beq_eq_false_iff_ne.mpr this];rfl
 |leaf rs=>
  let(u,f,s):=h;let q:(Pg.leaf rs).body=Mq t8 rs:=rfl;let e:=(Bb3 (B:=Mq t8 rs) (c:=true) (R:=[]) u (λr g=>((Q6 (f r g).1).1,(Ast (f r g).2).1)) (bC _).symm).1;refine(?_,?_)
  .rw[q];show ltold "l" _=_;unfold ltold;rw[dm (),dm (),dm (),di rfl,e]
   rfl
  .show (((rs.map (·.1)).all kLen&&Gb (rs.map (·.1)))&&rs.all λr=>Xi r.2)=t8;rw[s,sX,aB,aQ,aQ];refine(λk l=>?_,λr g=>(Ast (f r g).2).2);let(r,g,rfl):=bU.mp l;exact(Q6 (f r g).1).2
 |fork j ps=>
  let((u,f,s),w,z):=h;let A:=Aj6 j;let q:(Pg.fork j ps).body=Mq t7 (j.map λk=>(u6 k Cl.inn[k])) ++ Cg ps:=by rw[A.2];rfl
  let e:=Bb3 (B:=Mq t7 (j.map λk=>(u6 k Cl.inn[k])) ++ Cg ps) (c:=false) (rs:=j.map λk=>(u6 k Cl.inn[k])) (R:=ls Cg[ps]) (by rw[aC];exact u) (λr g=>by
   let(k,l,rfl):=bU.mp g;exact((Q6[f k l]).1,rfl)) (Di _ _)
  let G:=Amy (R:=[]) (ps.length) rfl (λi hi=>G7 () (z i hi)) e.2.trans[(bC _).symm]
  refine(?_,?_)
  .rw[q];show ltold "f" _=_;unfold ltold;rw[dm (),dm (),dm (),dm (),e.1]
   dsimp only;rw[aC,<-w,G.1,A.1,len_app,Dk];rfl
  .show ((j.all kLen&&Gb j)&&(!(ps.map sr).any fP&&!(ps.map sr).any (·==sr 0)))=t8;rw[s,Axj,sX,aB,aQ];refine(λk l=>(Q6[f k l]).2,?_);rw[Bool.not_false,jE,dF,xR];intro o I;let(i,hi,rfl):=bU.mp I;have:=z i hi;unfold Ec at this;rw[aB,dh] at this;intro H;have:=bK eq_of_beq[H];omega
def Abq{B T:t6}{K:Nat}(h:ls B=ls T ++ (ls B).drop K)(hK:K=B.length):B=T:=(Wf (by
 rw[fW (by rw[Hz];omega),bC] at h
 exact h))
theorem Ac2:∀{a:lg t6},M2.Bs jn[a]=t8->∀y∈a,M2.Bs y=t8
 |[],_,_,h=>nomatch h
 |x::a,h,y,hy=>by
  rw[Ij,Eg,aB] at h;rcases aY.mp hy with rfl|hy
  .exact h.1
  .exact Ac2 h.2 y hy
def Amz{k:t6}(h:M2.Bs Dh[k]=t8):M2.Bs k=t8:=by
 unfold Dh at h;rw[Eg,aB] at h;exact h.2
def Boe{c:Cl}(hf:c.fit)(a:Xi c=t8)(b:M2.Bs c.t=t8):c.ok=t8:=by
 cases c with
 |inn t=>
  rw[Aqc,Eg,aB] at b;show (M2.Bs t&&decide[t.length<=63])=t8;rw[Amz b.2,dj (show t.length<=63 from hf)];rfl
 |out n p=>
  let a:((decide[1<=n]&&decide[n<=400])&&decide[0 < p])=t8:=a;simp only[aB,dh] at a;show (decide[1<=n]&&decide[n<=400]&&Ec p 1)=t8;rw[dj a.1.1,dj a.1.2,Px () hf.2]
  rfl
def Bb6{is:lg Int}(h:(is.map sr).any (·==sr 0)=t7){i:Int}(hi:i∈is):i≠0:=by simp_all
def Bb7{c B:t6}{r:Raw}(u:M2.Bs B=t8)(O:B.length<=400)(C:(c="h"\/c="e")\/c="r"\/c="l"\/c="f")(g:(ltold c B).1=sr r)(l:(ltold c B).2=sr B.length)(f:r.good=t8):∃p:Pg,p.ok/\p.letter=c/\p.body=B/\p.raw=r:=by
 rcases C with (rfl|rfl)|rfl|rfl|rfl
 .unfold ltold at g l;rw[di rfl] at g l;cases g;let(is,x,t,j,s,b1,v):=Ah4 (B:=B) (k:=0) cY[_] 4 (by let f:(!(lNs B sr[0] 4).1.any fP)=t8:=f;rw[dF] at f;exact f)
  let m:=Abq v bK[s.symm.trans[l]]
  match is,t with
  |[a,b,c,d],_=>exact(.head a b c d,(Px (j a (by simp)).1 j[a][by simp],Px (j b (by simp)).1 j[b][by simp],Px (j c (by simp)).1 j[c][by simp],Px (j d (by simp)).1 j[d][by simp]),rfl,m.symm,by rw[x];rfl)
 .unfold ltold at g l;rw[dm (),di rfl] at g l
  cases g;let(is,x,t,j,s,b1,v):=Ah4 (B:=B) (k:=0) cY[_] 1 (by let f:(!(lNs B sr[0] 1).1.any fP)=t8:=f;rw[dF] at f;exact f)
  let m:=Abq v bK[s.symm.trans[l]]
  match is,t with
  |[a],_=>exact(.free a,Px (j a (by simp)).1 j[a][by simp],rfl,m.symm,by rw[x];rfl)
 .unfold ltold at g;rw[dm (),dm (),di rfl] at g
  cases g;let f:(!(lTk B sr[0] 2).1.isNone&&!(toS[(ls B).drop 2]==(⟨#[]⟩:t6)))=t8:=f;rw[aB,dF,dF,beq_eq_false_iff_ne] at f;cases e:(lTk B sr[0] 2).1 with
  |none=>rw[e] at f;exact nomatch f.1
  |some n=>
   let(F,q,b,d):=Amx () e
   let m:(Pg.rest toS[(ls B).drop 2] n).body=B:=by
    show Cg [n] ++ toS[(ls B).drop 2]=B;unfold Cg;show jn [M1.Ce 2 n] ++ toS[(ls B).drop 2]=B;rw[Ij,Acv,Jw];apply Wf;rw[Di,Blb];exact d.symm
   refine(.rest toS[(ls B).drop 2] n,(Aso ?_,?_,?_,Px F.1 F),rfl,m,rfl)
   .rw[aQ];exact λc C=>aQ.mp u c mQ[C]
   .rcases lO (toS[(ls B).drop 2]).length with z|z
    .rw[Il] at z;rw[eN z] at f;exact absurd rfl f.2
    .exact z
   .rw[Il,bM,Hz];omega
 .unfold ltold at g l;rw[dm (),dm (),dm (),di rfl] at g l
  let(rs,e,rfl):=bF.mp g;let(t,j,s,b1,v):=Bb4 e;let m:=Abq v bK[s.symm.trans[l]];let f:(((rs.map (·.1)).all kLen&&Gb (rs.map (·.1)))&&rs.all λr=>Xi r.2)=t8:=f;simp only[aB,aQ] at f;let y:∀r∈rs,M2.Bs Hc[r]=t8:=by
   rw[m] at u;unfold Mq at u;rw[Eg,aB] at u;exact λr o=>Ac2 u.2 _ (bU.mpr (r,o,rfl))
  refine(.leaf rs,(t,λr o=>?_,f.1.2),rfl,m.symm,rfl);let h:=y r o;unfold Hc at h;rw[Eg,aB] at h;exact(Tn f.1.1[_][bU.mpr (r,o,rfl)] Amz[h.1],Boe (j r o).2 (f.2 r o) h.2)
 .unfold ltold at g l;rw[dm (),dm (),dm (),dm ()] at g l
  cases e:(lRs B t7).1 with
  |none=>rw[e] at g;cases g
  |some rs=>
   rw[e] at g l;let(t,j,s,b1,v):=Bb4 e;rw[s] at g l;dsimp only at g l;cases g;let f:(((rs.map (·.1)).all kLen&&Gb (rs.map (·.1)))&&(!(lNs B sr[(Mq t7 rs).length] (rs.length+1)).1.any fP&&!(lNs B sr[(Mq t7 rs).length] (rs.length+1)).1.any (·==sr 0)))=t8:=f;simp only[aB,aQ,dF] at f;let(is,x,L,G,J,b2,N):=Ah4 b1 (rs.length+1) f.2.1;let w:=bK J.symm.trans[l];let A:rs=(rs.map (·.1)).map λk=>(u6 k Cl.inn[k]):=by
    rw[bW];exact(aDm rs).symm.trans (wK λr o=>aAs rfl (j r o).2)
   let D:=Aj6 (rs.map (·.1));rw[<-A] at D;let m:B=Mq t7 rs ++ Cg is:=Abq (K:=(Mq t7 rs).length+2 * (rs.length+1)) (by rw[Di,aL,<-N];exact v) w
   let H:=f.2.2;rw[x] at H ⊢
   rw[m,Eg,aB,D.2,Eg,aB] at u;refine(.fork (rs.map (·.1)) is,((by rw[aC];exact t,λk I=>Tn[f.1.1 k I][Amz Ac2[u.1.2][_][bU.mpr (k,I,rfl)]],f.1.2),by rw[aC];exact L,λi hi=>?_),rfl,?_,rfl)
   .have:=Bb6 H hi;have:=(G i hi).1;exact Px () (G i hi)
   .rw[m,D.2];rfl
def Blf(z:t6):toS ls[z]=z:=rfl
def Am0{m:Nat}{R:lg Nat}(h:z.length=m):toS[(ls z ++ R).take m]=z/\(ls z ++ R).drop m=R:=by
 rw[<-(Hz z).trans h,vV,aBq];trivial
def Aqd{m:Nat}{i:Int}(R:lg Nat)(d:1<=m)(c:m<=3)(f:0<=i)(hi:i < 64 ^ m):rN m (ls[M1.Ce m i] ++ R)=sr[u6 i R]:=by
 let e:=Am0 (R:=R) (Bc m i);unfold rN;rw[e.1,e.2,di[Asq d c]];exact congrArg[λx=>sr[u6 x R]][M1.Auc f hi]
def Bof(s:t6)(R:lg Nat):rS s.length (ls s ++ R)=sr[u6 s R]:=by
 let e:=Am0 (z:=s) (R:=R) rfl;unfold rS;simp_all
def Am1(R:lg Nat)(h:s.length<=63):rKey[ls Dh[s] ++ R]=sr[u6 s R]:=by
 unfold rKey Dh;rw[Di,aL,Ej[Aqd _ (by simp) (by simp) (by simp) ()],dG,Bof]
theorem Am2{d:Type}{r:Rg d}{T:d->t6}:∀{a:lg d} {R:lg Nat},(∀c∈a,∀R,r[ls T[c] ++ R]=sr[u6 c R])->rep r a.length (ls jn[a.map[T]] ++ R)=sr (u6 a R)
 |[],R,_=>rfl
 |c::a,R,h=>by
  let(f,e):=gJ.mp h;rw[bL,Ij,Di,aL];show bindR r _ _=_;rw[Ej f[_],Ej Am2[e]]
def Am3{is:lg Int}{R:lg Nat}(h:∀i∈is,In2 i):rep rN[2] is.length (ls Cg[is] ++ R)=sr[u6 is R]:=(Am2 λi hi R=>Aqd R (by simp) (by simp) (h i hi).1 (h i hi).2)
def Bb8(R:lg Nat)(h:c.fit):Ss[ls c.t ++ R]=sr[u6 c R]:=by
 cases c with
 |inn t=>
  let e:=Am0 (z:=("i":t6)) (m:=1) (R:=ls Dh[t] ++ R) ()
  unfold Ss;rw[Aqc,Di,aL,di e.1,e.2,Ej[Am1 R h]]
 |out n p=>
  let e:=Am0 (z:=("o":t6)) (m:=1) (R:=ls Cg[[n,p]] ++ R) ()
  unfold Ss;rw[show (Cl.out n p).t=("o":t6) ++ Cg [n,p] from rfl,Di,aL,dm (by rw[e.1];decide),e.2]
  exact Ej (Am3 (is:=[n,p]) λi hi=>by
   rcases aY.mp hi with rfl|hi
   .exact h.1
   .rw[aR.mp hi];exact h.2)
def Bgg(R:lg Nat)(h:Ass t8 r):Aml[ls Hc[r] ++ R]=sr[u6 r R]:=by
 unfold Aml Hc;rw[Di,aL,Ej[Am1 _ h.1],Ej[Bb8 R h.2]]
def Bgh(h:p.ok):told p.letter ls[p.body]=sr sr[p]:=by
 rw[<-bC ls[p.body]];cases p with
 |head a b c d=>
  show told "h" (ls Cg[[a,b,c,d]] ++ [])=_;unfold told;rw[di rfl,show rep rN[2] 4 (ls Cg[[a,b,c,d]] ++ [])=sr[u6 [a,b,c,d] []] from Am3 (is:=[a,b,c,d]) (by
   intro i hi;simp only[aY,cR,or_false] at hi;rcases hi with rfl|rfl|rfl|rfl
   .exact G7 () h.1
   .exact G7 () h.2.1
   .exact G7 () h.2.2.1
   .exact G7 () h.2.2.2)]
 |leaf rs=>
  let(s,g,q):=h;show told "l" (ls[M1.Ce 1 rs.length ++ jn rs.map[Hc]] ++ [])=_;unfold told;rw[dm (),di rfl,Di,aL,Ej[Aqd _ () () () (by show (rs.length:Int) < 64;omega)],dG,
   Am2 (r:=Aml) (T:=Hc) λr m R=>Bgg R ((Q6 (g r m).1).1,(Ast (g r m).2).1)]
 |fork f ps=>
  let((s,g,q),j,x):=h;show told "f" (ls[M1.Ce 1 f.length ++ jn f.map[Dh] ++ Cg ps] ++ [])=_;let e:bindR[rN 1][λi=>rep rKey i.toNat][ls[M1.Ce 1 f.length] ++ (ls jn[f.map[Dh]] ++ (ls Cg[ps] ++ []))]=sr u6[f][ls Cg[ps] ++ []]:=by
   rw[Ej[Aqd _ () () () (by show (f.length:Int) < 64;omega)],dG]
   exact Am2 λk v R=>Am1 R (Q6[g k v]).1
  unfold told;rw[dm (),dm (),di rfl,Di,Di,aL,aL,Ej e,<-j,Ej[Am3 λi hi=>G7 () (x i hi)]]
 |rest t n=>
  let(s,g,q,j):=h;let o:=G7 () j
  show told "r" (ls[Cg [n] ++ t] ++ [])=_;let w:Cg [n] ++ t=M1.Ce 2 n ++ t:=by unfold Cg;show jn [M1.Ce 2 n] ++ t=_;rw[Ij,Acv,Jw]
  let u:(ls[M1.Ce 2 n] ++ ls t).length - 2=t.length:=by rw[aU,Hz,Hz,Bc];omega
  unfold told;rw[dm (),dm (),dm (),di rfl,bC,w,Di,Aqd _ () () o.1 o.2]
  dsimp only;rw[u,<-Hz,tG,Blf]
 |free n=>
  show told "e" (ls Cg[[n]] ++ [])=_;unfold told;rw[dm (),dm (),dm (),dm (),di rfl,show rep rN[2] 1 (ls Cg[[n]] ++ [])=sr[u6 [n] []] from Am3 (is:=[n]) (by
   intro i hi;rw[aR.mp hi];exact G7 () h)]
def Am4(z:t6)(i j:Nat):ls[cut z i j]=((ls z).drop i).take (j - i):=rfl
def pieces{p:Pg}{z:t6}(o:64<=z.length)(e:p.unch z.length=cut z 0 (z.length - 2)):p.body.length+5<=z.length/\pc z 0 1=p.letter/\pc z 1 2=M1.Ce 2 p.body.length/\pc z 3 p.body.length=p.body/\cut[z][3+p.body.length][z.length - 2]=kW ⟨#[48]⟩ ((z.length:Int) - 5 - p.body.length):=by
 let m:=Qz p;let(n,h):=Aui p z.length;let j:(p.unch z.length).length=p.start.length+n:=by
  show (p.unch z.length).cps.size=_;rw[h,rZ,Array.size_replicate];rfl
 rw[e,Ik () ()] at j
 let k:p.body.length+5<=z.length:=by omega
 let b:=W3 (p:=p) (size:=z.length) ()
 rw[e] at b;let l:(ls z).drop 0=ls p.letter ++ (ls[M1.Ce 2 p.body.length] ++ (ls p.body ++ (ls kW[⟨#[48]⟩][(z.length:Int) - 2 - p.start.length] ++ (ls z).drop (z.length - 2)))):=by
  rw[<-aL,<-aL,<-aL,<-Di,<-Di,<-Di,show p.letter ++ M1.Ce 2 p.body.length ++ p.body=p.start from rfl,b,Am4];exact(oU[z.length - 2][ls z]).symm
 let d:=Sv l;rw[K8] at d;let c:=Sv d.2;rw[Bc] at c;let g:=Sv c.2;refine(k,d.1,c.1,g.1,Wf ?_);let i:(ls kW[⟨#[48]⟩][(z.length:Int) - 2 - p.start.length]).length=z.length - 2 - (3+p.body.length):=by
  have:=congrArg Str.length b;rw[len_app,Ik () ()] at this
  rw[Hz];omega
 rw[Am4,show 3+p.body.length=0+1+2+p.body.length by omega,g.2,show z.length - 2 - (0+1+2+p.body.length)=z.length - 2 - (3+p.body.length) by omega,<-i,vV,show (z.length:Int) - 2 - p.start.length=(z.length:Int) - 5 - p.body.length by omega]
def Bgi{p:Pg}{z:t6}(h:p.ok)(b:64<=z.length)(d:z.length<=200)(e:p.unch z.length=cut z 0 (z.length - 2)):Aqb z=sr p.raw:=by
 let(l,j,i,g,f):=pieces b e;let c:Ah2 p.letter=t8:=by
  cases p
  .exact(show Ah2 "h"=t8 by decide +kernel)
  .exact(show Ah2 "l"=t8 by decide +kernel)
  .exact(show Ah2 "f"=t8 by decide +kernel)
  .exact(show Ah2 "r"=t8 by decide +kernel)
  .exact(show Ah2 "e"=t8 by decide +kernel)
 let a:=Bb5 h;unfold Aqb;rw[di (b,d),j,di c,i,Bbz () () () ()]
 dsimp only;rw[dm (),dG,di f,g,a.1]
 dsimp only;rw[di (rfl,a.2)]
def Aqe{p:Pg}{z:t6}(h:p.ok)(b:64<=z.length)(g:z.length<=200)(e:p.unch z.length=cut z 0 (z.length - 2)):Q5 z=sr p:=by
 let(m,k,j,i,n):=pieces b e;let c:vO[M1.Ce 2 p.body.length]=sr (p.body.length:Int):=Bbz () () () (by show (p.body.length:Int) < 4096;omega)
 let f:Awx[M1.Ce 2 p.body.length]=p.body.length:=by
  unfold vO at c;simp_all
 let d:tbt z=sr sr[p]:=by
  unfold tbt;rw[show toS[(z.cps.toList.drop 1).take 2]=M1.Ce 2 p.body.length from j,di[Asq () ()],f,dG,show (z.cps.toList.drop 3).take p.body.length=ls p.body from congrArg ls i,show toS z.cps.toList.take[1]=p.letter from k]
  exact Bgh h
 unfold Q5 Ahv;rw[di (b,g),d];dsimp only;rw[(Bn1 h).2,e,beq_self_eq_true];rfl
set_option tactic.hygienic true in
def Bgj{z:t6}{r:Raw}(n:M2.Bs z=t8)(J:z.length<=400)(h:Aqb z=sr r):∃p:Pg,p.ok/\p.raw=r/\64<=z.length/\z.length<=200/\p.unch z.length=cut z 0 (z.length - 2):=by
 unfold Aqb at h;split at h
 case isFalse=>cases h
 rename_i o;split at h
 case isFalse=>cases h
 rename_i t;split at h
 .cases h
 rename_i i ev;split at h
 .cases h
 rename_i L;split at h
 case isFalse=>cases h
 rename_i u;obtain⟨j,rfl⟩:∃j:Nat,i=(j:Int):=(i.toNat,by have:=Bbp ev;omega)
 rw[dG] at h u;split at h
 case h_2=>cases h
 rename_i I q v;split at h
 case isFalse=>cases h
 rename_i s;cases h;let g:=Aj5 (B:=z) (k:=0) (m:=1) ()
 let y:=Aj5 (B:=z) (k:=1) (m:=2) ()
 let f:=Aj5 (B:=z) (k:=3) (m:=j) ()
 let d:(pc z 0 1="h"\/pc z 0 1="e")\/pc z 0 1="r"\/pc z 0 1="l"\/pc z 0 1="f":=by
  obtain⟨x,A,b⟩:∃x,pc z 0 1=⟨#[x]⟩/\x < 127:=by
   let hp:=Adz n 0 1;generalize pc z 0 1=c at g hp;obtain⟨⟨l⟩⟩:=c
   match l,g.2 with
   |[x],_=>
    refine(x,rfl,?_);have:=M2.Ae0.mp[aQ.mp hp x aR.mpr[rfl]];omega
  rw[A] at t ⊢
  rcases Boc x b t with (rfl|rfl)|rfl|rfl|rfl
  .exact .inl[.inl ()]
  .exact .inl[.inr ()]
  .exact .inr[.inl ()]
  .exact .inr .inr[.inl ()]
  .exact .inr .inr[.inr ()]
 let(p,hp,F,w,E):=Bb7 (Adz n 3 j) () d (by rw[v]) (by rw[v,f.2];exact congrArg sr aFp[s.1]) s.2
 refine(p,hp,E,o.1,o.2,?_);let e:p.body.length=j:=by rw[w,f.2]
 let hd:=Bby ev;rw[y.2] at hd;rw[<-W3 ()]
 apply Wf;let C:=Qz p;rw[Di,show (z.length:Int) - 2 - p.start.length=(z.length:Int) - 5 - j by omega,<-u,show p.start=p.letter ++ M1.Ce 2 p.body.length ++ p.body from rfl,Di,Di,F,e,hd,w]
 show ((ls z).drop 0).take 1 ++ ((ls z).drop 1).take 2 ++ ((ls z).drop 3).take j ++ ((ls z).drop (3+j)).take (z.length - 2 - (3+j))=(ls z).take (z.length - 2);rw[show z.length - 2=1+2+j+(z.length - 2 - (3+j)) by omega,wV,wV,wV,oJ]
 rw[show 1+2+j+(z.length - 2 - (3+j)) - (3+j)=z.length - 2 - (3+j) by omega]
set_option tactic.hygienic true in
def Aqf{z:t6}{p:Pg}(h:CkT z)(e:Q5 z=sr p):p.ok/\(64<=z.length/\z.length<=200)/\p.unch z.length=cut z 0 (z.length - 2):=by
 unfold Q5 at e;split at e
 case isFalse=>cases e
 rename_i c;unfold Ahv at e;split at e
 .rename_i q a;split at e
  case isFalse=>cases e
  rename_i b;cases e;rw[aB] at b;refine(Bha ?_ b.1,c,eq_of_beq b.2);unfold tbt at a;split at a
  .exact(Auu (by rw[dO,bM,aV];have:=h.hi;exact aD (tE _ _) aD[xO _ _][this]) a).1
  .cases a
 .cases e
def Bb9{z:t6}(h:CkT z):Bbt Aqb[z]=pgW Q5[z]:=by
 cases e:Q5 z with
 |some p=>
  let(b,a,c):=Aqf h e;rw[Bgi b a.1 a.2 c];exact Bod p
 |none=>
  cases f:Aqb z with
  |none=>rfl
  |some r=>
   let(p,hp,_,b,a,d):=Bgj h.tx h.hi f;rw[Aqe hp b a d] at e;cases e
def clD:Cl->nQ
 |.inn t=>.tuple [.str "in",.str t]
 |.out n p=>.tuple [.str "out",.int n,.int p]
def pgD:Pg->nQ
 |.head a b c d=>.tuple [.str "head",.int a,.int b,.int c,.int d]
 |.leaf rs=>.tuple [.str "leaf",.tuple[rs.map λr=>.tuple [.str r.1,clD r.2]]]
 |.fork ks ps=>.tuple [.str "fork",.tuple ks.map[iZ],.tuple ps.map[aBr]]
 |.rest t n=>.tuple [.str "rest",.str t,.int n]
 |.free n=>.tuple [.str "free",.int n]
theorem G9{b:Type}{n:Nat}{f:b->W}{g:b->nQ}(h:∀x,Fd S n f[x]=sr g[x]):∀a:lg b,Ds[Fd S n][a.map f]=sr a.map[g]
 |[]=>rfl
 |x::a=>by rw[bL,Ds,h,G9 h a];rfl
def Bca(S:Store)(p:Pg):Fd S 16 p.w=sr pgD[p]:=by
 cases p with
 |head a b c d=>rfl
 |rest t n=>rfl
 |free n=>rfl
 |leaf rs=>
  let e:=G9 (S:=S) (n:=14) (f:=K7) (g:=λr=>.tuple [.str r.1,clD r.2]) (λr=>by let(k,c):=r;cases c <;> rfl) rs
  show (Ds (Fd S 15) _).map oG=_;let i:Fd S 15 .tup[rs.map[K7]]=sr .tuple[rs.map λr=>.tuple [.str r.1,clD r.2]]:=by
   show (Ds[Fd S 14][rs.map K7]).map oG=_;rw[e];rfl
  rw[Ds,Ds,i];rfl
 |fork h ps=>
  let l:Fd S 15 .tup[h.map[W.str]]=sr .tuple[h.map[iZ]]:=by
   show (Ds[Fd S 14][h.map W.str]).map oG=_;rw[G9 (f:=W.str) (g:=iZ) λj=>rfl];rfl
  let i:Fd S 15 .tup[ps.map[W.int]]=sr .tuple[ps.map[aBr]]:=by
   show (Ds[Fd S 14][ps.map W.int]).map oG=_;rw[G9 (f:=W.int) (g:=aBr) λj=>rfl];rfl
  show (Ds (Fd S 15) _).map oG=_;rw[Ds,Ds,l,Ds,i];rfl
def lay(m:Nat)(x:nQ):Prop:=PyData.canLay0 x=t8/\PyData.depth x<=m
def Kg{m:Nat}(h:∀x∈a,lay m x):lay[m+1][.tuple a]:=by
 let b:∀a,(∀x∈a,lay m x)->yU a=t8/\aAm a<=m:=λa=>by
  induction a with
  |nil=>exact λk=>(rfl,cY _)
  |cons x a g=>
   intro h;let(d,j):=gJ.mp h;let i:=g j;show (_&&_)=t8/\_;rw[d.1,i.1];exact(rfl,Nat.max_le.mpr (d.2,i.2))
 let(f,e):=b a h;exact(f,lC e)
def Kh{m:Nat}(h:M2.Bs t=t8):lay m .str[t]:=(Ap4 h,cY _)
def Mr{m:Nat}{n:Int}:lay m .int[n]:=(rfl,cY _)
def Py{m:Nat}:∀x∈([]:lg nQ),lay m x:=by simp
def Dl{m:Nat}(h:lay m x)(h2:∀x∈xs,lay m x):∀y∈x::xs,lay m y:=gJ.mpr (h,h2)
def Blg(h:p.ok):lay 4 pgD[p]:=by
 cases p with
 |head a b c d=>exact Kg Dl[Kh ()][Dl[Mr][Dl Mr Dl[Mr][Dl Mr Py]]]
 |free n=>exact Kg Dl[Kh ()][Dl Mr Py]
 |rest t n=>exact Kg Dl[Kh ()][Dl[Kh h.1][Dl Mr Py]]
 |leaf rs=>
  refine Kg Dl[Kh ()][Dl[Kg λx f=>?_][Py]]
  let(r,l,rfl):=bU.mp f;let j:=h.2.1 r l;refine Kg Dl[Kh Ahl[j.1]][Dl ?_ Py];let g:=j.2;cases e:r.2 with
  |inn t=>
   rw[e] at g;let g:(M2.Bs t&&_)=t8:=g;rw[aB] at g;exact Kg Dl[Kh[by rfl]][Dl Kh[g.1] Py]
  |out n q=>exact Kg (Dl Kh[by rfl] Dl[Mr][Dl Mr Py])
 |fork m ps=>
  refine Kg Dl[Kh ()][Dl[Kg λx f=>?_][Dl[Kg λx f=>?_][Py]]]
  .let(k,j,rfl):=bU.mp f;exact Kh Ahl[h.1.2.1 k j]
  .let(i,hi,rfl):=bU.mp f;exact Mr
def Blh{P:SP}{p:Pg}{neg:Bool}(h:p.ok):Pu P (eqD neg p.w p.w) .bl[!neg]:=(λS c=>([],by
 let l:=Blg h;let a:lN pgD[p]=t8:=by
  unfold lN;rw[l.1,dj aD[l.2][by simp]]
  rfl
 unfold eqD;rw[Bca];dsimp only;rw[a,SeqAt.eqv_refl _ SeqAt.canLay_of_shaped[a],bC];cases neg <;> rfl))
def Au1:cut (x ++ y) 0 x.length=x/\cut[x ++ y][x.length][x.length+y.length]=y:=by
 let b:=(Hz x).symm;constructor
 .refine Wf ?_;rw[Am4,Di,oJ,aDe,List.take_left' b.symm]
 .refine Wf ?_;rw[Am4,Di,List.drop_left' b.symm,tY,jC lG[Hz[y]]]
def Au2(a:M2.Bs y=t8)(b:y.length<=398):CkT[y ++ M2.check y]:=by
 let e:(y ++ M2.check y).length=y.length+2:=by rw[len_app,Q0]
 let c:=Au1 (x:=y) (y:=M2.check y);rw[Q0] at c;refine((),(),by rw[Eg,a];exact Aaa _ _,?_)
 simp_all
def Aqg{p:Pg}{a:Int}(c:M2.Bs p.body=t8)(e:a<=200)(d:(p.body.length:Int)<=a - 5):CkT p.text[a]:=(
 Au2 (Apn c _) (by rw[V9 d];omega))
instance dec_cl (c:Cl):Decidable c.wr:=by cases c <;> unfold Cl.wr <;> infer_instance
instance dec_pg (p:Pg):Decidable p.wr:=by cases p <;> unfold Pg.wr <;> infer_instance
def Bcb(p:Pg):Bool:=decide p.wr&&(M2.Bs p.body&&decide[p.body.length<=59])
def Lw(v:Int):lg t6:=if v % 4=0 then ["b","a"] else if v % 4=1 then ["a","a"] else if v % 4=2 then ["","a"] else ["abcdefghijklm","b"]
def Am5(v:Int):Cl:=if v / 4 % 4=0 then .inn "x" else if v / 4 % 4=1 then .out 0 5 else if v / 4 % 4=2 then .out 401 5 else .out 5 0
def Ah6{P:lg t6->Prop}(v:Int)(g:P ["b","a"])(f:P ["a","a"])(e:P ["","a"])(d:P ["abcdefghijklm","b"]):P Lw[v]:=by
 unfold Lw;split
 .omega
 split
 .omega
 split
 .omega
 omega
def Bgk{v:Int}:atI [Cl.w .inn["x"],Cl.w[.out 0 5],Cl.w[.out 401 5],Cl.w[.out 5 0]] (v / 4 % 4)=sr (Am5 v).w:=by
 let h:v / 4 % 4=0\/v / 4 % 4=1\/v / 4 % 4=2\/v / 4 % 4=3:=by omega
 unfold Am5;rcases h with h|h|h|h <;> rw[h] <;> rfl
def Asu(v:Int):lg Pg:=[.rest "" (v / 16 % 4096),.fork Lw[v] [5,6,7],.fork ["a","b"] [5,0,7],.fork ["a"] [5],.leaf [("a",Am5 v)],.leaf[(Lw v).map λz=>(u6 z .inn["x"])]]
def Bgl(v:Int)(p:Pg)(h:p∈Asu v):Bcb p=t8:=by
 unfold Asu at h;simp only[aY,cR,or_false] at h;rcases h with rfl|rfl|rfl|rfl|rfl|rfl
 .unfold Bcb;let e:(Pg.body .rest[""][v / 16 % 4096])=Cg [v / 16 % 4096] ++ "":=rfl;rw[e,Eg,W2,len_app,Dk,dj (show Pg.wr .rest[""][v / 16 % 4096] from ((),())),show [v / 16 % 4096].length=1 from rfl]
  decide +kernel
 .exact Ah6 (P:=λa=>Bcb[.fork a [5,6,7]]=t8) v () () () ()
 .decide +kernel
 .decide +kernel
 .unfold Am5;split
  .decide +kernel
  split
  .decide +kernel
  split
  .decide +kernel
  .decide +kernel
 .exact Ah6 (P:=λa=>Bcb .leaf[a.map λz=>(u6 z .inn["x"])]=t8) v () () () ()
def Bgm(v:Int):∃p,atI[(Asu v).map Pg.w][v / 16 % 6]=sr p.w/\p∈Asu v:=by
 let h:v / 16 % 6=0\/v / 16 % 6=1\/v / 16 % 6=2\/v / 16 % 6=3\/v / 16 % 6=4\/v / 16 % 6=5:=by omega
 unfold Asu;rcases h with h|h|h|h|h|h <;> rw[h]
 .exact(_,rfl,by simp only[aY,true_or])
 .exact(_,rfl,by simp only[aY,true_or,or_true])
 .exact(_,rfl,by simp only[aY,true_or,or_true])
 .exact(_,rfl,by simp only[aY,true_or,or_true])
 .exact(_,rfl,by simp only[aY,true_or,or_true])
 .exact(_,rfl,by simp only[aY,true_or,or_true])
section
variable{ns:lg Int}{n:Nat}{k:Int}
def Am6(q:Q[.ref S.length][S ++ [.lst [.str a,.str b]]]):Wm Hf[yB kS[a] kS[b]][Z] S Q:=(
 Xr Av[Gd[Av[Gd[Bm (show 2<=big by decide,q)]]]])
def Bgn{v:Int}(g:Z[2]?=sr sr[.int[v]])(q:∀c d,Fr [] S d->d[c]?=sr .lst[(Lw v).map W.str]->S.length<=c->Q .ref[c] d):
  Wm ixF[aB0][Al .mod Ab[2] kI[4]][Z] S Q:=by
 refine Aja Xr[?_];refine Av Am6[?_];refine Av Am6[?_];refine Av Am6[?_];refine Av Am6[?_];refine Bm (show 4<=big by decide,?_)
 refine Ar (Ai Ad[g] Ac (Cj (j:=4) ())) λd f=>?_
 let h:v % 4=0\/v % 4=1\/v % 4=2\/v % 4=3:=by omega
 let e:Fr [] S d:=(((Fr.app.then0 Fr.app).then0 Fr.app).then0 Fr.app.then0[Fr.app]).then0 f;rcases h with h|h|h|h
 .refine Ro f.at0[Ey] (by rw[h];rfl) (q _ _ e ?_ aO[_])
  rw[show Lw v=(["b","a"]:lg t6) by unfold Lw;rw[h];rfl]
  exact f.at0 Fr.app.at0[Fr.app.at0[Fr.app.at0[Fr.app.at0[Ey]]]]
 .refine Ro f.at0[Ey] (by rw[h];rfl) (q _ _ e ?_ (by rw[aU];omega))
  rw[show Lw v=(["a","a"]:lg t6) by unfold Lw;rw[h];rfl]
  exact f.at0 Fr.app.at0[Fr.app.at0[Fr.app.at0[Ey]]]
 .refine Ro f.at0[Ey] (by rw[h];rfl) (q _ _ e ?_ (by rw[aU,aU];omega))
  rw[show Lw v=(["","a"]:lg t6) by unfold Lw;rw[h];rfl]
  exact f.at0 Fr.app.at0[Fr.app.at0[Ey]]
 .refine Ro f.at0[Ey] (by rw[h];rfl) (q _ _ e ?_ (by rw[aU,aU,aU];omega))
  rw[show Lw v=(["abcdefghijklm","b"]:lg t6) by unfold Lw;rw[h];rfl]
  exact f.at0 Fr.app.at0[Ey]
def Axk{b:Int}(H:64<=b)(x:b<=200)(h:S[n]?=sr[stD ns k])(I:0<=k)(G:k < 900000)(q:∀z S',CkT z->Q .str[z] S'):Wm M6[[.ref n,.int b]] S Q:=by
 refine Jo rfl ?_;refine Bw[Hy rfl h I G λv S1 f1 g1 hv=>?_];refine Bw[Bgn rfl λc S2 f2 U l2=>?_];refine Bw (Ar (a:=(Am5 v).w) (Wd Aa[Cu Aa[Ac][Aa Ac Ae] (show 2<=big by decide)][Aa[Cu (Aa Ac Aa[Ac][Aa Ac Ae]) (show 3<=big by decide)][Aa[Cu (Aa Ac Aa[Ac][Aa Ac Ae]) (show 3<=big by decide)][Aa[Cu (Aa Ac Aa[Ac][Aa Ac Ae]) (show 3<=big by decide)][Ae]]]] (show 4<=big by decide) (Ai (Ai Ad[rfl] Ac (Cv (j:=4) () ())) Ac (Cj (j:=4) ())) Bgk) λS3 f3=>?_)
 let i:∀T,(Ahp SP.any c .lst[(Lw v).map W.str]).p T->AtL c ((Lw v).map W.str) T:=λT h=>h.2;let y:=f3.at0 U;refine Bw (Ab7 (P:=Ahp SP.any c .lst[(Lw v).map W.str]) (ws:=[Pg.w .rest[""][v / 16 % 4096],Pg.w[.fork Lw[v] [5,6,7]],Pg.w[.fork ["a","b"] [5,0,7]]]) (Aev (Aa (Cu (Aa Ac (Aa Ac (Aa (Ai (Ai Ad[rfl] Ac (Cv (j:=16) () ())) Ac (Cj (j:=4096) ())) Ae))) (show 3<=big by decide)) Aa[Cu (Aa Ac Aa[Abm i rfl][Aa[Cu (Aa Ac Aa[Ac][Aa Ac Ae]) (show 3<=big by decide)][Ae]]) (show 3<=big by decide)][Aa[Cu (Aa Ac Aa[Cu Aa[Ac][Aa Ac Ae] (show 2<=big by decide)][Aa[Cu (Aa Ac Aa[Ac][Aa Ac Ae]) (show 3<=big by decide)][Ae]]) (show 3<=big by decide)][Ae]]) (show 3<=big by decide)) (trivial,y) λd S4 Y O l4=>?_)
 refine Bw Lq[Cd rfl ?_];refine Ab7 (P:=SP.any) (ws:=[Pg.w[.fork ["a"] [5]],Pg.w .leaf[[("a",Am5 v)]]]) (Aev Aa[Cu (Aa Ac Aa[Cu (Aa Ac Ae) (show 1<=big by decide)][Aa[Cu (Aa Ac Ae) (show 1<=big by decide)][Ae]]) (show 3<=big by decide)][Aa[Cu (Aa Ac Aa[Cu Aa[Cu Aa[Ac][Aa Ad[rfl] Ae] (show 2<=big by decide)][Ae] (show 1<=big by decide)][Ae]) (show 2<=big by decide)][Ae]] (show 2<=big by decide)) trivial λe D B N l5=>?_
 refine At7 B.at0[O] N (show 5<=big by decide) ?_
 let L:(D ++ [Cell.lst[[Pg.w .rest[""][v / 16 % 4096],Pg.w[.fork Lw[v] [5,6,7]],Pg.w[.fork ["a","b"] [5,0,7]]] ++ [Pg.w[.fork ["a"] [5]],Pg.w .leaf[[("a",Am5 v)]]]]])[c]?=sr .lst[(Lw v).map W.str]:=Fr.app.at0 B.at0[Y.at0[y]];refine Aa1 (Aez (P:=SP.any) Ad[rfl] trivial Ey λS6 l=>?_);let f:=Wt (P:=Ahp SP.any c .lst[(Lw v).map W.str]) (xs:=Lw v) (φ:=W.str) (ψ:=λz=>K7[u6 z .inn["x"]]) (τ:=λg=>t8) (s:=By 0) (t:=λg=>pure t8) (e:=Df[yB Ab[0] Df[yB kS["in"] kS["x"]]]) (k:=1) (cap:=[]) (Z:=[sr .ref[n],sr .int[b],sr .int[v],sr .ref[c],sr (Am5 v).w,sr .ref[D.length]]) (src:=Eo Ab[3]) (n:=c) i
  (Wu i Ad[rfl]) Mi (λz hz=>(Pu.pure,λg=>Cu (Aa Ad[rfl] Aa[Cu Aa[Ac][Aa Ac Ae] (show 2<=big by decide)][Ae]) (show 2<=big by decide))) (sy,rfl) (Ah6 (P:=λF=>F.length<=big) v () () () ())
 rw[eQ.mpr[λg g=>rfl]] at f;refine Av Hg[?_];refine Av Gd[Av[?_]];refine Ei Av[Ab7 f (trivial,l.at0 L) λm S7 A J l7=>?_];refine Bm[Kw J ?_];refine Bm (show 2<=big by decide,?_)
 refine Bm[Ab9 A.at0[l.at0[Ey]] (show 5 < big by decide) ?_]
 let(p,C,hp):=Bgm v;let hok:=Bgl v p hp;unfold Bcb at hok;simp only[aB,dh] at hok;let(E,u,o3):=hok;let r:(p.body.length:Int)<=b - 5:=by omega
 refine Ef Ei[Av[Aja[Cd rfl ?_]]];refine Ar (Ai (Ai Ad[rfl] Ac (Cv (j:=16) () ())) Ac (Cj (j:=6) ())) λS8 X=>?_
 let e6:(Asu v).map Pg.w=[Pg.w .rest[""][v / 16 % 4096],Pg.w[.fork Lw[v] [5,6,7]],Pg.w[.fork ["a","b"] [5,0,7]]] ++ [Pg.w[.fork ["a"] [5]],Pg.w .leaf[[("a",Am5 v)]]] ++ [W.tup [.str "leaf",.tup[(Lw v).map λz=>K7[u6 z .inn["x"]]]]]:=by
  unfold Asu;show _=[_,_,_,_,_,W.tup [.str "leaf",.tup[(Lw v).map λz=>K7[u6 z .inn["x"]]]]];simp only[bL,lK];show [_,_,_,_,_,W.tup [.str "leaf",.tup[((Lw v).map λz=>(u6 z Cl.inn["x"])).map K7]]]=_;rw[bW];rfl
 rw[e6] at C;refine Ro X.at0[M3[Fj[A.at0[l.at0[Ey]]]]] C ?_;refine Av[Cd rfl Bm[?_]];exact Ar[Aho E u H x r] λS9 f9=>q _ _ (Aqg u x r)
end
def Bcc(z:t6)(a c:Nat):t6:=cut z 0 a ++ ⟨#[c]⟩ ++ toS[(ls z).drop (a+1)]
def Bcd{a c:Nat}(h:a < z.length):(Bcc z a c).length=z.length:=by
 unfold Bcc;rw[len_app,len_app,Ik cY[_] fH[h],Il,bM,Hz];show _+1+_=_;omega
def Bgo{a c:Nat}(h:M2.Bs z=t8)(d:M2.okC c=t8):M2.Bs[Bcc z a c]=t8:=by
 unfold Bcc;rw[Eg,Eg,Aac h,show M2.Bs ⟨_⟩=_ from (Ahk c).trans d];refine Aso ?_;rw[aQ];exact λx b=>aQ.mp (h) x mQ[b]
def Xj(m:Int):t6:=("hlfreio0123456789abcdABZ+- ":t6) ++ lawT m 8
def W4(m:Int):(Xj m).length=35:=by
 unfold Xj;rw[len_app,Ni];decide +kernel
def Bce(m:Int):M2.Bs Xj[m]=t8:=by
 unfold Xj;rw[Eg,Ae3];decide +kernel
def Bgp{m b c bl:Int}(i:64<=b)(f:0 < c)(g:0<=bl)(e:0<=m):∃a,atI [W.int 0,.int 1,.int 2,.int 3,.int[m / 7 % (b - 2)],.int[3+m / 7 % c],.int[3+bl]] (m % 7)=sr .int[a]/\0<=a:=by
 let h:m % 7=0\/m % 7=1\/m % 7=2\/m % 7=3\/m % 7=4\/m % 7=5\/m % 7=6:=by omega
 let j:0<=m / 7 % c:=gK _ ()
 rcases h with h|h|h|h|h|h|h <;> rw[h]
 .exact(0,rfl,by simp)
 .exact(1,rfl,by simp)
 .exact(2,rfl,by simp)
 .exact(3,rfl,by simp)
 .exact(_,rfl,gK _ ())
 .exact(_,rfl,())
 .exact(_,rfl,())
section
variable{ns:lg Int}
def Bli{i j:Int}:Pu P Anq[[.int i,.int j]] (.int (if j > i then j else i)):=Pu.pure
def Blj{i j:Int}:Pu P Av2[[.int i,.int j]] (.int (if j < i then j else i)):=Pu.pure
def Bhf:MS:=aA0
def Bgq{n:Nat}{k size bl:Int}{y:t6}{K:RS->Prop}{H G F E D C p o l i g f r:o9 W}(Y:64<=size)(h2:size<=200)(X:0<=bl)(N:M2.Bs y=t8)(T:(y.length:Int)=size - 2)(h:S[n]?=sr[stD ns k])(Z:0<=k)(U:k < 900000)(q:∀v L p o l i g f,M2.Bs v=t8->(v.length:Int)=size - 2->L[n]?=sr stD[ns][k+1]->K[.nx [H,sr .ref[n],sr .int[size],G,F,sr .int[bl],E,D,sr .str[v],C,p,o,l,i,g,f,r] L]):
  Wb Bhf [H,sr .ref[n],sr .int[size],G,F,sr .int[bl],E,D,sr .str[y],C,p,o,l,i,g,f,r] S K:=by
 let s:y.length<=big:=aD (show y.length<=400 by omega) ()
 refine Bw[Hy rfl h Z U λm S1 f1 g1 Q=>?_];refine Bw (Ar (a:=W.int[m / 7]) (Ai Ad[rfl] Ac (Cv (j:=7) () ())) λS2 f2=>?_)
 obtain⟨w,A,t⟩:∃w:Int,(if bl > 1 then bl else 1)=w/\0 < w:=(_,rfl,by split <;> omega)
 let(a,ea,ha):=Bgp (m:=m) Y t X Q;refine Bw (Ar (a:=W.int a) (Wd (Aa Ac Aa[Ac][Aa Ac Aa[Ac][Aa Ai[Ad rfl][Ai Ad[rfl] Ac Gw][Cj ()] Aa[Ai Ac Ai[Ad rfl][(Ag Aa[Ac][Aa Ad[rfl] Ae] Bli).cast (by rw[A])][Cj t] Cm][Aa[Ai Ac Ad[rfl] Cm][Ae]]]]) (show 7<=big by decide) (Ai Ad[rfl] Ac (Cj (j:=7) ())) ea) λS3 f3=>?_)
 obtain⟨d,B,e⟩:∃d:Nat,(if size - 3 < a then size - 3 else a)=(d:Int)/\d < y.length:=((if size - 3 < a then size - 3 else a).toNat,by split <;> omega,by split <;> omega)
 refine Bw (Ar (a:=W.int (d:Int)) ((Ag (Aa Ad[rfl] Aa[Ai Ad[rfl] Ac Gw][Ae]) Blj).cast (by rw[B])) λS4 f4=>?_)
 refine Bw (Ar (a:=W.str Xj[m]) (Ai Ac (Ag Aa[Ad rfl][Aa Ac Ae] (Ae4 (size:=8) ())) (Bv (by rw[Ni];decide +kernel))) λS5 f5=>?_)
 let I:(Xj m).length<=big:=by rw[W4];decide
 let O:0<=m / 1500 % 35/\m / 1500 % 35 < 35:=by omega
 let x:=Xk (P:=SP.any) (z:=Xj m) (j:=(m / 1500 % 35).toNat) I (by rw[W4];omega)
 rw[oK,cO O.1] at x;let J:M2.okC[(Xj m).cps.toList.getD (m / 1500 % 35).toNat 0]=t8:=M2.Alk Bce[m] (by rw[aV];show _ < (Xj m).length;rw[W4];omega)
 generalize (Xj m).cps.toList.getD (m / 1500 % 35).toNat 0=c at x J;refine Bw (Ar (a:=W.str ⟨#[c]⟩) (Be Ad[rfl] (Ai (Ai Ad[rfl] Ac (Cv (j:=1500) () ())) ((Ag[Aa Ad[rfl] Ae][len_str I]).cast (by rw[W4])) (Cj (j:=((35:Nat):Int)) ())) x) λS6 f6=>?_)
 refine Bw (Ar (a:=W.str toS[(ls y).drop (d+1)]) (Jv Ad[rfl] (Dq (Ai Ad[rfl] Ac (Aei (k:=d) (m:=1)))) Ek Pu.cast[Fv s Pu.pure][by rw[Ahz]]) λS7 f7=>?_)
 refine Bw (Ar (a:=W.str[Bcc y d c]) (Ai Ai[Jv Ad[rfl] Ek Dq[Ad[rfl]] Pu.cast[Fv s Pu.pure][by rw[Aab fH[e]]]][Ad rfl][Bv ?_] Ad[rfl] Bv[?_]) λS8 f8=>Jg ?_)
 .rw[Ik cY[_] fH[e]];exact aD (show d - 0+1<=401 by omega) ()
 .rw[len_app,Ik cY[_] fH[e],Il,bM,Hz];exact aD (show d - 0+1+(y.length - (d+1))<=401 by omega) ()
 exact q _ _ _ _ _ _ _ _ (Bgo N J) (by rw[Bcd e];exact T) f8.at0[f7.at0[f6.at0[f5.at0[f4.at0[f3.at0[f2.at0[g1]]]]]]]
end
def Axl(i j:Int)(hi:0<=i)(c:0<=j):∃v,atI [W.int 64,.int 200,.int[64+i % 137]] (j % 3)=sr .int[v]/\64<=v/\v<=200:=by
 let a:j % 3=0\/j % 3=1\/j % 3=2:=by omega
 rcases a with h|h|h <;> rw[h]
 .exact(64,rfl,by simp,by simp)
 .exact(200,rfl,by simp,by simp)
 .exact(_,rfl,(),())
def Bcf(i:Int):∃v,atI [W.int 196,.int 197,.int 198,.int 199,.int 201] (i % 5)=sr .int[v]/\196<=v/\v<=201:=by
 let a:i % 5=0\/i % 5=1\/i % 5=2\/i % 5=3\/i % 5=4:=by omega
 rcases a with h|h|h|h|h <;> rw[h]
 .exact(_,rfl,by simp,by simp)
 .exact(_,rfl,by simp,by simp)
 .exact(_,rfl,by simp,by simp)
 .exact(_,rfl,by simp,by simp)
 .exact(_,rfl,by simp,by simp)
def zeros(n:Int)(h:n<=200):M2.Bs[kW ⟨#[48]⟩ n]=t8/\((kW ⟨#[48]⟩ n).length:Int)=n.toNat:=by
 let e:ls _=cA n.toNat 48:=aDj _ _;constructor
 .show (ls _).all _=_;rw[e,aQ];intro c b;let(_,rfl):=xM.mp b;rfl
 .rw[<-Hz,e,fG]
section
variable{P:SP}{ns:lg Int}{S:Store}
def Asv(h:CkT z):Pu P (eqW neg pgW[Q5[z]] pgW[Q5[z]]) .bl[!neg]:=by
 cases e:Q5 z with
 |none=>exact λS a=>([],by rw[bC];cases neg <;> rfl)
 |_ p=>
  have:=Blh (P:=P) (neg:=neg) (Aqf h e).1;cases p <;> exact this
def Bcg(h:CkT z):Pu P Kz[[.str z]] pgW[Q5[z]]:=by
 rw[<-Bb9 h];exact Bla h.hi h.tx
def Bog{i c:Int}:(i==c)=decide[i=c]:=rfl
variable{n:Nat}{k size bl v:Int}{y z:t6}{K:RS->Prop}{b':MS}{x0 x3 x6 x9 x10 x11 x12 x13 x14 x15 x16:o9 W}
def tl(x0:o9 W)(n:Nat)(size:Int)(x3:o9 W)(z:t6)(bl:Int)(x6:o9 W)(v:Int)(y:t6)(x9 x10 x11 x12 x13 x14 x15 x16:o9 W):De:=[x0,sr .ref[n],sr .int[size],x3,sr .str[z],sr .int[bl],x6,sr .int[v],sr .str[y],x9,x10,x11,x12,x13,x14,x15,x16]
def shorter(A:64<=size)(x:size<=200)(u:0<=v)(f:CkT z)(l:(z.length:Int)=size)(m:M2.Bs y=t8)(o:y.length<=398)(q:∀b i,M2.Bs b=t8->b.length<=398->Fr [] S i->Wb b' (tl x0 n size x3 z bl x6 v b x9 x10 x11 x12 x13 x14 x15 x16) i K):
  Wb (Am aA6 b') (tl x0 n size x3 z bl x6 v y x9 x10 x11 x12 x13 x14 x15 x16) S K:=by
 let g:Pu SP.any Dp[Dz .Eq Al[.mod][Al .fdiv Ab[7] kI[2]][kI[9]] kI[1]][tl x0 n size x3 z bl x6 v y x9 x10 x11 x12 x13 x14 x15 x16] _:=Af (Aj (Ai (Ai Ad[rfl] Ac (Cv (j:=2) () ())) Ac (Cj (j:=9) ())) Ac Lp)
 by_cases c:v / 2 % 9=1
 .refine Fp[Ar g λh d=>(dj c,?_)];obtain⟨j,r,w⟩:∃j:Nat,60+v / 18 % 5=(j:Int)/\j<=64:=((60+v / 18 % 5).toNat,(),())
  let a:j<=z.length:=by omega
  exact Bw (Ar (Jv Ad[rfl] Ek (Dq ((Ai Ac (Ai (Ai Ad[rfl] Ac (Cv (j:=18) () ())) Ac (Cj (j:=5) ())) Cm).cast (by rw[r]))) Pu.cast[Fv[aD f.hi ()][Pu.pure]][by rw[Aab a]]) λs p=>Jg[q _ s Aac[f.tx] (by rw[Ik cY[_] a];omega) d.then0[p]])
 .exact Dt[Ar g λh d=>(dq c,q y h m o d)]
def longer(C:64<=size)(B:size<=200)(d:CkT z)(m:(z.length:Int)=size)(o:M2.Bs y=t8)(r:y.length<=398)(q:∀b x10 i,M2.Bs b=t8->b.length<=398->Fr [] S i->Wb b' (tl x0 n size x3 z bl x6 v b x9 x10 x11 x12 x13 x14 x15 x16) i K):
  Wb (Am aA4 b') (tl x0 n size x3 z bl x6 v y x9 x10 x11 x12 x13 x14 x15 x16) S K:=by
 let e:Pu SP.any Dp[Dz .Eq Al[.mod][Al .fdiv Ab[7] kI[2]][kI[9]] kI[2]][tl x0 n size x3 z bl x6 v y x9 x10 x11 x12 x13 x14 x15 x16] (v / 2 % 9==2):=Af (Aj (Ai (Ai Ad[rfl] Ac (Cv (j:=2) () ())) Ac (Cj (j:=9) ())) Ac Lp)
 rw[Bog] at e;by_cases c:v / 2 % 9=2
 .refine Fp[Ar e λh f=>(dj c,?_)];let(a,u,F,E):=Bcf[v / 18];refine Bw (Ar (a:=W.int[a+2]) (Ai (Wd (Aa Ac Aa[Ac][Aa Ac Aa[Ac][Aa Ac Ae]]) (show 5<=big by decide) (Ai (Ai Ad[rfl] Ac (Cv (j:=18) () ())) Ac (Cj (j:=5) ())) u) Ac Cm) λG t=>?_)
  let p:Pu SP.any (Bop.fn .mul .str["0"] .int[a+2 - size]) .str[kW[⟨#[48]⟩][a+2 - size]]:=by
   refine Fv ?_ Pu.pure;rw[aB,aB,dh,dh,dh];refine(((),?_),?_) <;> omega
  let(l,A):=zeros (a+2 - size) ()
  let D:(cut z 0 (z.length - 2)).length=z.length - 2:=Ik[cY _][xO _ _];let g:(cut z 0 (z.length - 2)).length+(kW ⟨#[48]⟩ (a+2 - size)).length<=398:=by omega
  refine Bw[Ar[Ai Amp[Ad[rfl]][d.lo][aD d.hi ()] Ai[Ac][Ai Ad[rfl] Ad[rfl] Gw][p] Bv[aD g ()]] λw s=>Jg ?_]
  exact(q _ _ w (by rw[Eg,Aac d.tx];exact l) (by rw[len_app];exact g) ((f.then0 t).then0 s))
 .exact Dt[Ar e λh f=>(dq c,q y x10 h o r f)]
def Bgr(x:64<=size)(u:size<=200)(H:0<=bl)(F:0<=v)(f:CkT z)(g:(z.length:Int)=size)(h:S[n]?=sr[stD ns k])(h0:0<=k)(hk:k < 800000)(q:∀l A b x9 x10 x11 x12 x13 x14 x15 x16,k<=b->b<=k+2->A[n]?=sr[stD ns b]->K .nx[tl x0 n size x3 z bl x6 v l x9 x10 x11 x12 x13 x14 x15 x16][A]):
  Wb (Am Bg[8][slF Ab[4] Ci Bx[Ab3[kI[2]]]]
  (Am (Sx aC4 By[9] Bhf)
  aA1)) [x0,sr .ref[n],sr .int[size],x3,sr .str[z],sr .int[bl],x6,sr .int[v],x8,x9,x10,x11,x12,x13,x14,x15,x16] S K:=by
 refine Bw (Ar (a:=W.str cut[z][0][z.length - 2]) Amp[Ad[rfl]][f.lo][aD f.hi ()] λS1 X=>?_)
 let D:((cut z 0 (z.length - 2)).length:Int)=size - 2:=by rw[Ik[cY _][xO _ _]];have:=f.lo;omega
 obtain⟨m,Y,G⟩:∃m:Nat,1+v % 2=(m:Int)/\m<=2:=((1+v % 2).toNat,(),())
 refine Acb (P:=SP.any) (Gx (k:=m) (Aa ((Ai Ac (Ai Ad[rfl] Ac (Cj (j:=2) ())) Cm).cast (by rw[Y])) Ae) (aD G ())) trivial λS2 U=>?_
 refine Aa2 (J:=λi Z T=>∃y b x9 x10 x11 x12 x13 x14 x15,Z=tl x0 n size x3 z bl x6 v y x9 x10 x11 x12 x13 x14 x15 x16/\M2.Bs y=t8/\(y.length:Int)=size - 2/\T[n]?=sr[stD ns b]/\k<=b/\b<=k+(i:Int)) ?_ ?_ (_,k,x9,_,_,_,_,_,_,rfl,Aac f.tx,D,U.at0 X.at0[h],(),())
 .rintro i w Z T E ⟨y,b,x9,x10,x11,x12,x13,x14,x15,rfl,d,e,t,C,B⟩;let hi:i < m:=by
   have:=(aK.mp E).1;rw[aC,bO] at this;exact this
  refine(_,rfl,?_);exact Bgq x u H d e t () () λl A x10 x11 x12 x13 x14 x15 o p s=>(l,b+1,_,_,_,_,_,_,_,rfl,o,p,s,(),())
 .rintro Z T ⟨y,b,x9,x10,x11,x12,x13,x14,x15,rfl,d,e,t,C,B⟩;rw[aC,bO] at B;refine shorter x u F f g d () λy S3 d e Q=>?_
  refine longer x u f g d e λy x10 S4 d e O=>?_;let r:=Au2 d e;refine Bw (Ar (a:=W.str[y ++ M2.check y]) Ai[Ad[rfl]][Ag[Aa Ad[rfl] Ae][Ajv[aD e ()][d]]][Bv (by rw[Q0];exact aD (cZ e 2) ())] λS5 N=>?_)
  refine Bw[Ar Ag[Aa Ad[rfl] Ae][Bcg r] λS6 L=>?_];refine Dt[Ar Af[Aj Ag[Aa Ad[rfl] Ae][Amq r] Ad[rfl] Asv[r]] λS7 I=>(rfl,Jg ?_)];exact q _ _ b _ _ _ _ _ _ _ _ C () I.at0[L.at0[N.at0[O.at0[Q.at0[t]]]]]
end
def Bgs{a:Int}(hok:p.ok)(h:64<=a)(g:a<=200)(e:(p.body.length:Int)<=a - 5):((p.text a).length:Int)=a/\Q5 p.text[a]=sr p:=by
 let f:(p.text a).length=(a - 2).toNat+2:=by
  unfold Pg.text;rw[len_app,Q0,V9 e]
 let c:=(Au1 (x:=p.unch a) (y:=M2.check p.unch[a])).1;rw[V9 e] at c;refine((),Aqe hok () () ?_)
 rw[f,Nat.add_sub_cancel];refine Eq.trans ?_ c.symm;rw[show (((a - 2).toNat+2:Nat):Int)=a by omega]
def law_holds(ns:lg Int)(_:ns.length<=63):∃D,Aud [.scr ns] []=.ok .bl[t8] D:=by
 suffices h:Wm Aud[[.scr ns]] [] (λw Y=>w=.bl t8) by
  let(w,D,e,rfl):=h;exact(D,e)
 refine Jo rfl ?_;refine Bw (f:=Nz [((kS "cells"),(Ab 0)),((kS "at"),(kI 0))]) (.ref 0,[stD ns 0],?_,?_)
 .have:Ri [] [(.inr "cells",.scr ns),(.inr "at",.int 0)]=[((.inr "cells":Key),W.scr ns),(.inr "at",.int 0)]:=by rfl'
  show R.ok W.ref[0] [Cell.dct[Ri [] [(.inr "cells",.scr ns),(.inr "at",.int 0)]]]=_;rw[this];rfl
 let t:([stD ns 0]:Store)[0]?=sr[stD ns 0]:=rfl;generalize ([stD ns 0]:Store)=T at t;refine Bw Aja[Xr[?_]];refine Av Gd[Av[Gd[Av[?_]]]];refine Lq Gd[Lq[?_]];refine Hy rfl t () () λa T1 e1 B ha=>?_
 refine Gd ?_;refine Ar (Cj (j:=137) ()) λT2 X=>?_
 refine Ar Cm λT3 U=>Bm (by show 3<=big;decide,?_)
 let g3:(T3 ++ [Cell.lst [.int 64,.int 200,.int[64+a % 137]]])[0]?=sr stD[ns][0+1]:=Fr.app.at0[(X.then0 U).at0 B];let x:T3.length≠0:=by
  have:=Fj[(X.then0 U).at0 B];omega
 refine Lq ?_;refine Hy rfl g3 () () λb T4 e4 g4 A=>?_
 refine Gd ?_;refine Ar (Cj (j:=3) ()) λT5 S=>?_
 let(q,es,u,s):=Axl a b ha A;refine Ro S.at0[e4.at1 Ey x] es ?_;let g5:=S.at0 g4;clear e1 X U e4 B g3 x es;refine Bw Ei[Av[Cd rfl Av[Cd rfl Bm[Bf1 u s g5 () () λpw T6 hp=>?_]]]]
 let(k6,e6,g6,q1,q2,p,hok,rfl,A):=hp;refine Bw[Ar Ag[Aa[Ad rfl][Aa Ad[rfl] Ae]][Asj hok u s A] λT7 e7=>?_];let I:=Aqg Auh[hok] s A;let(N,O):=Bgs hok u s A;refine Bw[Ar Ag[Aa Ag[Aa Ad[rfl] Ae][Ahn hok] Ae][len_str[aD (show p.body.length<=200 by omega) ()]] λT8 e8=>?_]
 let g8:=(e7.then0 e8).at0 g6;clear e7 e8 g6 e6 S g5 g4;generalize p.text q=z at *
 let Q:(0:Int)<=p.body.length:=qY _;generalize (p.body.length:Int)=bl at *
 refine Acb (P:=SP.any) (Gx (k:=6) (Aa Ac Ae) ()) trivial λS1 f1=>?_
 refine Aa2 (J:=λi Z T=>∃k G F E C o n m l g d c,Z=[sr .scr[ns],sr .ref[0],sr .int[q],sr p.w,sr .str[z],sr .int[bl],G,F,E,C,o,n,m,l,g,d,c]/\T[0]?=sr[stD ns k]/\0<=k/\k<=300+3 * (i:Int)) ?_ ?_ (k6,_,_,_,_,_,_,_,_,_,_,_,rfl,f1.at0 g8,(),())
 .rintro i w Z T hw ⟨k,G,F,E,C,o,n,m,l,g,d,c,rfl,t,H,k1⟩;let hi:i < 6:=by
   have:=(aK.mp hw).1;rw[aC,bO] at this;exact this
  refine(_,rfl,?_);refine Bw[Hy rfl t H () λv T1 f1 B hv=>?_]
  exact Bgr u s Q hv I N B () () λy' D k' C o n m l g d c r1 r2 g2=>(k',_,_,_,_,_,_,_,_,_,_,_,rfl,g2,(),())
 .rintro Z T ⟨k,G,F,E,C,o,n,m,l,g,d,c,rfl,t,H,k1⟩;let k2:k<=318:=k1;refine Bw Ei[Av[Cd rfl Av[Cd rfl Bm[Axk u s t H () λy S2 L=>?_]]]]
  let hs:=Amq (P:=SP.any) I;let he:=Asv (P:=SP.any) (neg:=false) I;rw[O] at hs he;exact Ef[Ar Du[Aj Ag[Aa Ad[rfl] Ae][Amq L] Ag[Aa Ad[rfl] Ae][Bcg L] Asv[L]][Aj Ag[Aa Ad[rfl] Ae][hs] Ad[rfl] he] λY Y=>rfl]
end K6
open PySem PySem.W PyProof.Rows
theorem PySem.Challenge.cw_leafhouse_k06_texts_with_checks_anew_holds : PySem.Challenge.rw_leafhouse_k06_texts_with_checks_anew.Holds := by
 w_on;o_law;k_head;(case hw=>w_witness2)
 k_fill
 refine D.Azz (l:=PySem.Challenge.rw_leafhouse_k06_texts_with_checks_anew) (k:=122) (x:="_law_script") rfl rfl ⟨λ_=>rfl,by decide,by decide⟩ (λw h e=>PySem.W.kIn_of e) ?F
 case F=>
  intro w mg i h d G a;apply K6.all_mk d G a K6.law_holds
  all_goals try first|apply D.Bni d G|apply D.Bnj
  all_goals try k_is
  all_goals kernel_rfl
